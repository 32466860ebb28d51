import PyProof.Rows.All
import Wide.All
import OpenK.AllK
import Wide.FinOn
import HandS.Words
import HandS.WordsList
import HandS.Defaults
import HandS.List
import PyProof.ReprRoads
import HandS.Ends
import HandS.EndBits
import HandS.ForMost
import HandS.TupMul
import HandS.Walk
import HandS.Wide
import KE.GoesEnum
import KE.KTupSum
import KE.KRevSl
import HandS.Style
import PyProof.ReprLen
import HandS.TupAny
import HandS.Zip
import HandS.TupLe
import HandS.IsInst
import HandS.WordsExc
import HandS.ExcIs
import HandS.TryOnly
import HandS.Conv
import HandS.ForDict
import KE.SortData
import KE.KEqDeep
import HandS.More
import PySem.Challenge.RW_botheven_k08_whole_rounds_of_the_first_t
set_option Elab.async false
set_option maxRecDepth 100000
set_option maxHeartbeats 4000000
set_option linter.all false
namespace BV
open PySem PySem.Spec PyProof.Rows L2

/-! ### defs that may write texts of data: the same promise, asked only where nothing is being written -/
def CanRun (P : Program) (w : World) (K : PySem.W.Frag) (mg : Str → Option Value) (base : Heap)
    (CX : CXT) (k : Nat) (f : Addr) (fd : FuncData) (ps : List Str) (sp : Sp) : Prop :=
  ∀ (A : Around) (outer : List Env) (s : Shared) (H : Hp) (args : Args) (us : List Value) (vs : List V) (Q : VK) (E : XK),
    A.guards = some [] → Room k A → Env0 P w K mg base A outer s H → BindsTo s fd args (ps.zip us) →
    Vals vs us → sp vs H Q E →
      codeAny (model P w) A (.call (.ref f) args) (CR CX outer P w H s Q E) s

structure FnG (P : Program) (w : World) (K : PySem.W.Frag) (mg : Str → Option Value) (base : Heap)
    (CX : CXT) (k : Nat) (f : Addr) (fd : FuncData) (ps : List Str) (sp : Sp) : Prop where
  len : ∀ vs H Q E, sp vs H Q E → vs.length = ps.length
  run : CanRun P w K mg base CX k f fd ps sp

section
variable {P : Program} {w : World} {K : PySem.W.Frag} {mg : Str → Option Value} {base : Heap} {CX : CXT}

/-- a def's body keeps its promise, the guards told -/
theorem fn_ofG {k : Nat} {f : Addr} {name qual : Str} {params : Arguments} {body : List Stmt} {scope : Scope}
    {dV kV doc pm cdv ct oc : Value} {an od : Option Addr} {osl : Array (Option Value)} {N ps : List Str} {sp : Sp}
    (lk : K.lookup f = some ⟨oc, od, .func (PySem.W.fnOf name qual params body scope dV kV doc pm an cdv ct), osl⟩)
    (hcd : PySem.W.codeIn K cdv qual = true) (S : FnScope N ps scope)
    (len : ∀ vs H Q E, sp vs H Q E → vs.length = ps.length)
    (hbody : ∀ (A : Around) (outer : List Env) (s : Shared) (H : Hp) (vs : List V) (Q : VK) (E : XK), A.guards = some [] →
      Room k (A.deeper (envOfC qual scope s.heap.objs.size f cdv)) → sp vs H Q E →
      ∃ t, PSs (cxOf CX P w K mg base N qual scope f cdv A outer s H E) body t ∧
        t { nx := fun _ H' => Q .non H', rt := Q } (start N vs) H) :
    FnG P w K mg base CX (k + 1) f (PySem.W.fnOf name qual params body scope dV kV doc pm an cdv ct) ps sp := by
  constructor
  · exact len
  · intro A outer s H args us vs Q E hgd hr e0 hb r hsp
    have hl := len _ _ _ _ hsp
    have bk : ∀ b o, base.get? b = some o → s.heap.get? b = some o := fun b o e => (e0.bs b o e).1
    have KX : K.In s.heap := e0.mod.kin.keeps bk
    have hkind : ∀ y ∈ ps.zip us, scope.names.lookup y.1 = some .local ∨
        (scope.names.lookup y.1 = some .cell ∧
          ((cellsFrom (s.heap.objs.size + 1) scope.names []).lookup y.1).isSome = true) := by
      intro y hy
      obtain ⟨n, v⟩ := y
      cases S.par n (List.of_mem_zip hy).1 with
      | inl q => exact Or.inl q
      | inr q => exact Or.inr ⟨q, PySem.W.cellsFrom_some _ _ _ (.inl q)⟩
    refine codeAny_call_function hr.depth (KX _ _ lk) rfl S.co S.gen rfl
      (PySem.W.codeRec_of KX hcd) (hb _ _ _ _ ?_)
    refine wpAny_newFunctionEnv_cells S.kind hkind fun env he s1 x => ?_
    subst he
    refine ⟨(e0.mod.nolimit.keeps bk).keeps x.toInCall.keep, codeAny_func ?_⟩
    obtain ⟨t, ht, hq⟩ := hbody A outer s H vs Q E hgd (hr.deeper _) hsp
    have I := inv_start (CX := CX) (P := P) (w := w) (K := K) (mg := mg) (base := base) (E := E) S hr.hd e0 hl r x
    refine wpAny_mono (ht.run [] s1 (start N vs) H _ I hq) (fun fl s' hs => ?_) fun e s' hs => hs
    cases fl with
    | ret u =>
      obtain ⟨v, σ', H', J, rv, q⟩ := hs
      exact ⟨v, H', J.os, J.bare, J.base, J.hok, rv, q⟩
    | next =>
      obtain ⟨σ', H', J, q⟩ := hs
      exact ⟨V.non, H', J.os, J.bare, J.base, J.hok, rfl, q⟩
    | brk => exact hs.choose_spec.choose_spec.2.elim
    | cont => exact hs.choose_spec.choose_spec.2.elim

theorem okG {x qual : Str} {st : Stmt} {f : Addr} {fd : FuncData} {N ps : List Str} {k : Nat} {sp : Sp}
    (F : Fun K x qual st f fd) (S : FnScope N ps (defScope st)) (len : ∀ vs H Q E, sp vs H Q E → vs.length = ps.length)
    (hbody : ∀ (cdv : Value) (A : Around) (outer : List Env) (s : Shared) (H : Hp) (vs : List V) (Q : VK) (E : XK),
      A.guards = some [] → Room k (A.deeper (envOfC qual (defScope st) s.heap.objs.size f cdv)) → sp vs H Q E →
      ∃ t, PSs (cxOf CX0 P w K mg base N qual (defScope st) f cdv A outer s H E).nox (defBody st) t ∧
        t { nx := fun _ H' => Q .non H', rt := Q } (start N vs) H) :
    FnG P w K mg base CX0 (k + 1) f fd ps sp := by
  obtain ⟨oc, od, kV, doc, pm, an, cdv, ct, osl, e, lk, hcd⟩ := F.ex
  subst e
  refine fn_ofG lk hcd S len fun A outer s H vs Q E hg hr hsp => ?_
  obtain ⟨t, h, q⟩ := hbody cdv A outer s H vs Q E hg hr hsp
  exact ⟨t, h.nox, q⟩

theorem FnG.of {k : Nat} {f : Addr} {fd : FuncData} {ps : List Str} {sp : Sp} (F : FnOk P w K mg base CX k f fd ps sp) :
    FnG P w K mg base CX k f fd ps sp :=
  ⟨F.len, fun A outer s H args us vs Q E _ hr => F.run A outer s H args us vs Q E hr⟩
end

section
variable {X : Cx} {CX : CXT} {k n : Nat} {f : Addr} {fd : FuncData} {ps ks : List Str} {sp : Sp} {dvs : List V} {ds : List Value}
  {E : XK} {x : Str} {p pos : Pos} {e : Expr} {es : List Expr} {t tk : TA} {kws : List Keyword}
  {g : List Value → List Value → List Value} {gV : List V → List V → List V}

/-- the way out of a callee's run -/
theorem back_of {pins : List (Addr × Obj)} {σ : L2.St} {H : Hp} {s s' : Shared} {Q : VK} {r : Result}
    (hx : Passes CX X E) (I : Inv X pins σ H s) (hq : CR CX X.stack X.prog X.w H s Q E r s') :
    match r with
    | .ok (.ret u) => EP X pins σ Q u s'
    | .ok _ => False
    | .error e => X.xe e s' := by
  cases r with
  | error e => exact hx pins σ H s e s' I hq
  | ok fl =>
    cases fl with
    | ret u => exact I.after hq
    | next => exact hq
    | brk => exact hq
    | cont => exact hq

theorem run_fnG {pins : List (Addr × Obj)} {σ : L2.St} {H : Hp} {s : Shared} {Q : VK} {us : List Value} {vs : List V}
    (F : FnG X.prog X.w X.K X.mg X.base CX k f fd ps sp) (hgd : X.A.guards = some []) (hr : Room k X.A)
    (hb : Binds X.K fd ps ds) (hd : Vals dvs ds) (hx : Passes CX X E)
    (I : Inv X pins σ H s) (r : Vals vs us) (h : sp (vs ++ dvs) H Q E) :
    wpAny (model X.prog X.w) X.A (call (.ref f) us) (EP X pins σ Q) X.xe s := by
  have r2 : Vals (vs ++ dvs) (us ++ ds) := r.append hd
  have hl : (us ++ ds).length = ps.length := by
    rw [← r2.length]
    exact F.len _ _ _ _ h
  have c := F.run X.A X.stack s H ⟨us, []⟩ (us ++ ds) (vs ++ dvs) Q E hgd hr I.env0 (hb s us I.kIn hl) r2 h
  refine wpAny_call (codeAny_mono c fun r s' hq => ?_)
  have b := back_of hx I hq
  cases r with
  | error e => exact b
  | ok fl =>
    cases fl with
    | ret u => exact b
    | next => exact b.elim
    | brk => exact b.elim
    | cont => exact b.elim

theorem pe_callG (F : FnG X.prog X.w X.K X.mg X.base CX k f fd ps sp) (hgd : X.A.guards = some []) (hr : Room k X.A)
    (hg : Gl X x) (hm : X.mg x = some (.ref f)) (hk : PySem.W.keepIn X.K (.ref f) = true)
    (hb : Binds X.K fd ps ds) (hd : Vals dvs ds) (hx : Passes CX X E) (ha : PA X (e :: es) t)
    (hdb : (x == ("__debug__" : Str)) = false := by decide)
    (he : starEach (e :: es) X.env = (false, eval e X.env) :: starEach es X.env := by rfl)
    (hpl : (backTo pos (starEach es X.env)).any (·.1) = false := by rfl) :
    PE X (.Call (.Name x p) (e :: es) [] pos) (tCall sp dvs E t) := by
  constructor
  intro pins s σ H Q I h
  refine wpAny_Call_Name_kw (ld_glob I hg hm ?_ hdb)
  refine PySem.W.callWith_K (h₀ := X.base) I.ok.mod.kin hk ?_ he hpl
  refine thn (ha.run pos pins s σ H _ I h) fun us s1 hh => ?_
  obtain ⟨vs, H1, I1, r, q⟩ := hh
  exact ⟨I1.kIn, run_fnG F hgd hr hb hd hx I1 r q⟩

/-- f(k = v, ..), keywords alone -/
def tCallK0 (m : Nat) (sp : Sp) (gV : List V → List V → List V) (E : XK) (tk : TA) : TE :=
  fun σ H Q => tk σ H fun zs H2 => zs.length = m ∧ sp (gV [] zs) H2 Q E

theorem pe_callK0 (F : FnOk X.prog X.w X.K X.mg X.base CX k f fd ps sp) (hr : Room k X.A)
    (hg : Gl X x) (hm : X.mg x = some (.ref f)) (hk : PySem.W.keepIn X.K (.ref f) = true)
    (hb : KBn X.K fd ps 0 ks g gV) (hx : Passes CX X E) (hkw : PK X kws tk)
    (hall : (backToKw pos (keywordEach kws X.env)).all (·.1.isSome) = true := by rfl)
    (hks : (backToKw pos (keywordEach kws X.env)).filterMap (·.1) = ks := by rfl)
    (hdb : (x == ("__debug__" : Str)) = false := by decide)
    (hpl : ((backTo pos (starEach [] X.env)).any (·.1) || (backToKw pos (keywordEach kws X.env)).any (·.1.isNone)) = false := by rfl) :
    PE X (.Call (.Name x p) [] kws pos) (tCallK0 ks.length sp gV E tk) := by
  constructor
  intro pins s σ H Q I h
  refine wpAny_Call_Name_kw (ld_glob I hg hm ?_ hdb)
  refine PySem.W.callWith_KW0 (h₀ := X.base) I.ok.mod.kin hk hall ?_ hpl
  refine thn (hkw.run pos pins s σ H _ I h) fun ws s2 hh => ?_
  obtain ⟨zs, H2, I2, rz, l2, q2⟩ := hh
  refine ⟨I2.kIn, ?_⟩
  rw [hks]
  exact run_fnN (us := []) (vs := []) F hr hb hx I2 .nil rz rfl l2 q2

/-! ### repr of data -/
def Show (d : PyData) : Prop := d.showable = true ∧ d.hasDict = false ∧ d.depth ≤ 40 ∧ d.shown.length ≤ sizeLine

theorem call_reprD (hgd : X.A.guards = some []) (hu : X.A.units + 64 < cLine) :
    CallR X (.builtin "repr") (fun xs H Q => ∃ (x : V) (d : PyData), xs = [x] ∧ Dp X.K H x d ∧ Show d ∧ Q (.str d.shown) H) := by
  intro pins s σ H xs us Q I r h
  obtain ⟨x, d, rfl, hd, ⟨h1, h2, h3, h4⟩, q⟩ := h
  cases r with
  | cons r0 rr =>
    cases rr
    rename_i v
    obtain ⟨as, rd⟩ := Dp.reads I d x v hd r0
    cases rd with
    | list a b c dd =>
      refine repr_of_reads' (.list a b c dd) h1 (PyData.noDict_hsm h2) hgd (by omega) (fun _ _ e => e) (fun h' u tk hk => ?_) h4
      exact ⟨.str _, H, I.kept (t' := tk) hk, ⟨u, rfl⟩, q⟩
    | tuple a b c dd =>
      refine repr_of_reads' (.tuple a b c dd) h1 (PyData.noDict_hsm h2) hgd (by omega) (fun _ _ e => e) (fun h' u tk hk => ?_) h4
      exact ⟨.str _, H, I.kept (t' := tk) hk, ⟨u, rfl⟩, q⟩
    | int i t =>
      refine PySem.P.repr_of_int (by simpa [PyData.showable] using h1) ⟨.str _, H, I.tok _, ⟨_, rfl⟩, ?_⟩
      simpa only [PyData.shown] using q
    | none =>
      refine PySem.P.repr_of_none ⟨.str _, H, I.tok _, ⟨_, rfl⟩, ?_⟩
      simpa only [PyData.shown] using q
    | bool b =>
      refine PySem.P.repr_of_bool ⟨.str _, H, I.tok _, ⟨_, rfl⟩, ?_⟩
      simpa only [PyData.shown] using q
    | str z t =>
      refine PySem.P.repr_of_str ⟨.str _, H, I.tok _, ⟨_, rfl⟩, ?_⟩ (by simpa only [PyData.shown] using h4)
      simpa only [PyData.shown] using q
    | dict a b c dd ee => simp [PyData.hasDict] at h2
end
end BV

namespace BV
open PySem PySem.Spec PyProof.Rows L2

/-- the heap at the law's entry: the script alone is tracked, unless the module wrote it -/
def entryHp (K : PySem.W.Frag) (a : Addr) (vs : List Value) (ns : List Int) : Hp := fun b =>
  if b = a ∧ K.lookup a = none then some (.frz { cls := .type "list", data := .seq vs.toArray } (.lst (ns.map V.int))) else none

section
variable {P : Program} {w : World} {K : PySem.W.Frag} {mg mb : Str → Option Value} {CX : CXT} {k : Nat} {fa a : Addr} {fd : FuncData}
  {x : Str} {sp : Sp} {s₁ : Shared} {vs : List Value} {ns : List Int}

theorem entry_none {b : Addr} (h : ¬ (b = a ∧ K.lookup a = none)) : entryHp K a vs ns b = none := if_neg h
theorem entry_some (h : K.lookup a = none) : entryHp K a vs ns a =
    some (.frz { cls := .type "list", data := .seq vs.toArray } (.lst (ns.map V.int))) := if_pos ⟨rfl, h⟩
theorem entry_only : Only (entryHp K a vs ns) := fun b => by
  by_cases h : b = a ∧ K.lookup a = none
  · exact .inr ⟨_, _, if_pos h⟩
  · exact .inl (if_neg h)

theorem law_callG (KX : K.In s₁.heap) (hns : s₁.heap.Ns mainGlobals mg) (hb : s₁.heap.Ns builtinsNs mb)
    (hbb : ∀ x : Str, x ≠ "__name__" → mb x = bootBuiltins x) (hlim : s₁.heap.NoLimit) (hg : s₁.gens = #[])
    (ha : s₁.heap.get? a = some { cls := .type "list", data := .seq vs.toArray })
    (hi : IntsAre vs ns) (hl : ns.length ≤ sizeLine) (hr : Room k callerA)
    (F : ∀ base : Heap, K.In base → base.Ns mainGlobals mg → FnG P w K mg base CX k fa fd [x] sp)
    (hbind : ∀ (s : Shared) (u : Value), BindsTo s fd ⟨[u], []⟩ [(x, u)])
    (hsp : ∀ H : Hp, Only H → SqL K H a (ns.map V.int) → sp [.ref a] H (fun v _ => v = .bl true) fun _ _ _ => False)
    (hCX : ∀ H e s', CX [] H s₁ (fun _ _ _ => False) e s' → False) :
    codeAny (model P w) callerA (.call (.ref fa) ⟨[.ref a], []⟩)
      (fun r s' => r = .ok (.ret (.bool true)) ∧ OldK s₁.heap s'.heap ∧ s'.os = s₁.os ∧ AllBare s'.gens) s₁ := by
  have rv := vals_ints hi
  let H := entryHp K a vs ns
  have hO : Only H := entry_only
  have hS : SqL K H a (ns.map V.int) := by
    cases hk : K.lookup a with
    | none => exact .inl (.inr ⟨_, entry_some hk⟩)
    | some o =>
      have e := KX a o hk
      rw [ha] at e
      cases e
      refine .inr ⟨_, vs.toArray, _, hk, rfl, rfl, rfl, ?_, by simpa using rv⟩
      rw [List.size_toArray, hi.length]
      exact hl
  have hok : HOk P w H s₁.heap := by
    intro b u e
    by_cases h : b = a ∧ K.lookup a = none
    · have e2 := (if_pos h).symm.trans e
      cases e2
      obtain ⟨rfl, _⟩ := h
      exact ⟨ha, by rw [List.length_map]; exact hl, vs, _, rv, ha⟩
    · cases (entry_none h).symm.trans e
  have at_a : ∀ b, H b ≠ none → b = a ∧ K.lookup a = none := fun b h => by
    by_cases h2 : b = a ∧ K.lookup a = none
    · exact h2
    · exact absurd (entry_none h2) h
  have away : ∀ {b : Addr} {o : Obj}, s₁.heap.get? b = some o → (b = a → K.lookup a = none → False) → (hidT s₁.heap H).get? b = some o :=
    fun {b o} e n => hidT_get e (entry_none fun z => n z.1 z.2)
  have nsK : ∀ {b : Addr} {m : Str → Option Value}, s₁.heap.Ns b m → (hidT s₁.heap H).Ns b m := by
    intro b m h
    obtain ⟨o, es, ep, e, d, r⟩ := h
    refine ⟨o, es, ep, away e fun z _ => ?_, d, r⟩
    subst z
    rw [ha] at e
    cases e
    cases d
  have hKb : K.In (hidT s₁.heap H) := fun b o e => away (KX b o e) fun z n => by
    subst z
    rw [n] at e
    cases e
  obtain ⟨mc, l1, l2⟩ := hlim
  have hM : Mod K mg (hidT s₁.heap H) := ⟨hKb, nsK hns, ⟨mb, nsK hb, hbb⟩, ⟨mc, nsK l1, l2⟩⟩
  have e0 : Env0 P w K mg (hidT s₁.heap H) callerA [] s₁ H :=
    { frames := rfl, mod := hM, bs := fun b o e => of_hidT e, bsz := Nat.le_of_eq (hidT_size _ _), funs := trivial,
      frf := fun b hb => absurd (show b ∈ ([] : List Addr) from hb) (by simp), hok := hok, bare := .of_eq hg }
  have go := (F _ hKb (nsK hns)).run callerA [] s₁ H ⟨[.ref a], []⟩ [.ref a] [.ref a] _ _ rfl hr e0
    (hbind s₁ (.ref a)) (.cons rfl .nil) (hsp H hO hS)
  refine codeAny_mono go fun r s' h => ?_
  cases r with
  | error e => exact (hCX H e s' h).elim
  | ok fl =>
    cases fl with
    | next => exact h.elim
    | brk => exact h.elim
    | cont => exact h.elim
    | ret u =>
      obtain ⟨v, H', os, bare, un, hok', r', q⟩ := h
      have q' : v = .bl true := q
      subst q'
      obtain rfl : u = Value.bool true := r'
      refine ⟨rfl, OldK.of_keep fun b o e => ?_, os, bare⟩
      cases hq : H b with
      | none => exact un.keep b o e hq (fun z => absurd (show b ∈ ([] : List Addr) from z) (by simp)) (by simp)
      | some u =>
        rcases hO b with z | ⟨ob, xs, z⟩
        · rw [hq] at z
          cases z
        · obtain ⟨e1, _⟩ := hok b _ z
          obtain ⟨e2, _⟩ := hok' b _ (un.frzs b ob _ z)
          rw [e] at e1
          cases e1
          exact e2
end

theorem walk_ofG {l : PySem.W.OpenLaw} {n k : Nat} {q : Program} {loose : List Str} {XP : (Str → Option Value) → Heap → Prop}
    {YP : World → Heap → Prop} {d : DefRec} {K : Params → PySem.W.Frag} {CX : CXT} {sp : PySem.W.Frag → Sp} {x : Str}
    (hn : l.most = some n) (hn2 : n ≤ sizeLine) (hdf : d.params.defaults = []) (hr : Room k callerA)
    (hY : ∀ (w : World) (h : Heap), YP w h → (K w.params).In h)
    (F : ∀ (w : World) (mg : Str → Option Value) (fa : Addr) (h : Heap), (K w.params).In h → h.Ns mainGlobals mg → mg d.name = some (.ref fa) →
      ∃ fd : FuncData, (∀ (s : Shared) (u : Value), BindsTo s fd ⟨[u], []⟩ [(x, u)]) ∧
        ∀ base : Heap, (K w.params).In base → base.Ns mainGlobals mg →
          FnG l.prog w (K w.params) mg base CX k fa fd [x] (sp (K w.params)))
    (hsp : ∀ (K : PySem.W.Frag) (H : Hp) (a : Addr) (ns : List Int), ns.length ≤ n → (∀ z ∈ ns, Builtin.Int.intBits z ≤ 1048576) →
      Only H → SqL K H a (ns.map V.int) → sp K [.ref a] H (fun v _ => v = .bl true) fun _ _ _ => False)
    (hCX : ∀ (H : Hp) (s : Shared) (e : Value) (s' : Shared), CX [] H s (fun _ _ _ => False) e s' → False) :
    PySem.W.WalkO q loose XP YP l.row.toRowW d [] (fun f vs => PySem.call f vs) := by
  refine Att.attach_callB hn hdf fun w s₀ s₁ mg mb fa o pm cd doc a vs ns G Y ho hd hcd hmg hobj hints hlen hbits hg => ?_
  have KX := hY w _ Y
  obtain ⟨fd, hb, hF⟩ := F w mg fa _ KX G.T.g hmg
  refine law_callG KX G.T.g G.T.b G.T.builtins G.T.nolimit hg hobj hints (Nat.le_trans hlen hn2) hr hF hb ?_ ?_
  · exact fun H hO hS => hsp (K w.params) H a ns hlen hbits hO hS
  · exact fun H e s' => hCX H s₁ e s'
end BV

namespace BV
open PySem PySem.Spec PyProof.Rows L2
open AutoSeq1 (wpAny_loadPart')

/-! ### enumerate(tuple) -/
theorem meets_enumT (l : Addr) (items : Array Value) (n : Nat) (dct : Option Addr) (sl : Array (Option Value)) :
    Meets (Builtin.«enumerate.__new__» ⟨[.type "enumerate", .ref l], []⟩)
      (fun _ R s => s.heap.get? l = some { cls := .type "tuple", dict := dct, data := .seq items n, slots := sl } ∧
        R (.ok (.ret (.ref (s.heap.push { cls := .type "tuple_iterator", data := .fields #[.ref l, .int 0 0] }).objs.size)))
          { s with heap := ((s.heap.push { cls := .type "tuple_iterator", data := .fields #[.ref l, .int 0 0] }).push
              ({ cls := .type "enumerate", data := .fields #[.none, .bool false, .ref s.heap.objs.size, rawInt 0, .none, .none] } : Obj)) }) := by
  refine .of_wp fun prog w A R s h => ?_
  obtain ⟨hp, g, d, tk, os⟩ := s
  obtain ⟨hl, h⟩ := h
  have hsub := sub_enumerate
  have hL : Heap.IsTuple (Shared.heap ⟨hp, g, d, tk, os⟩) l items := ⟨_, hl, rfl, n, rfl⟩
  wp_walk using wpAny_loadPart' hl
  refine wpAny_stack_any fun st => wpAny_pure ?_
  split
  · rename_i c _ _ _ _ _
    cases (c == Value.type "enumerate") <;>
    · wp_walk using wpAny_loadPart' hl, wpAny_pyIter_tuple hL
      exact ⟨_, rfl, h⟩
  · wp_walk using wpAny_loadPart' hl, wpAny_pyIter_tuple hL
    exact ⟨_, rfl, h⟩

theorem call_enumT {prog : Program} {w : World} {A : Around} {E : Value → Shared → Prop} {s : Shared} {l : Addr} {items : Array Value}
    {Q : Value → Shared → Prop} (hL : s.heap.IsTuple l items)
    (h : ∀ h', IsEnum h' (s.heap.objs.size + 1) s.heap.objs.size 0 .none → h'.IsTupleIter s.heap.objs.size l 0 →
      (∀ b o, s.heap.get? b = some o → h'.get? b = some o) → Q (.ref (s.heap.objs.size + 1)) { s with heap := h' }) :
    wpAny (model prog w) A (call (.type "enumerate") [.ref l]) Q E s := by
  obtain ⟨⟨c, dct, dt, sl⟩, hl, hc, n, hd⟩ := hL
  obtain rfl : c = .type "tuple" := hc
  obtain rfl : dt = .seq items n := hd
  refine callType_new F.called_enumerate (by decide) (F.typeCall_enumerate_1 _) (F.newCall_enumerate_1 _)
    (fun obj => F.args_object_init_2 obj _) F.entry_enumerate_new (meets_enumT l items n dct sl) ⟨hl, ?_⟩
  have hz : (s.heap.push { cls := .type "tuple_iterator", data := .fields #[.ref l, .int 0 0] }).objs.size = s.heap.objs.size + 1 := Heap.size_push ..
  show _ ∧ _
  rw [hz]
  have he : IsEnum ((s.heap.push { cls := .type "tuple_iterator", data := .fields #[.ref l, .int 0 0] }).push
      { cls := .type "enumerate", data := .fields #[.none, .bool false, .ref s.heap.objs.size, rawInt 0, .none, .none] })
      (s.heap.objs.size + 1) s.heap.objs.size 0 .none := by
    have q := Heap.get?_push_size (s.heap.push { cls := .type "tuple_iterator", data := .fields #[.ref l, .int 0 0] })
      (o := { cls := .type "enumerate", data := .fields #[.none, .bool false, .ref s.heap.objs.size, rawInt 0, .none, .none] }) rfl
    rw [hz] at q
    exact q
  refine ⟨⟨_, he, rfl⟩, h _ he ⟨_, Heap.get?_push_of_some _ (Heap.get?_push_size _ rfl), rfl, rfl⟩ ?_⟩
  exact fun b o x => Heap.get?_push_of_some _ (Heap.get?_push_of_some _ x)

/-- the tuple at a, each item in a new pair -/
def ItE (K : PySem.W.Frag) (a : Addr) (xs : List V) : It :=
  ⟨fun i H => SqT K H a xs ∧ i < xs.length,
   fun i H v H' => ∃ T x, v = .ref T ∧ H T = none ∧ H' = upd H T (.tup [.int (i : Nat), x]) ∧ xs[i]? = some x,
   fun i H => SqT K H a xs ∧ i = xs.length⟩

theorem turn_enumT {P : Program} {w : World} {K : PySem.W.Frag} {elts : List Expr} {kk : Nat} {tpos : Pos} (a e it : Addr) (xs : List V)
    (hae : a ≠ it) :
    Turn P w K (.Tuple elts kk tpos) (ItE K a xs) [e, it] e
      (fun i h => (∃ old, IsEnum h e it ((i : Nat) : Int) old) ∧ h.IsTupleIter it a i ∧ e ≠ it ∧ e ≠ a) where
  mem := by simp
  obj := by
    intro i h st b hb
    obtain ⟨⟨old, he⟩, ⟨o, ho, hc, hd⟩, _⟩ := st
    rcases (show b = e ∨ b = it by simpa using hb) with rfl | rfl
    · exact ⟨_, he, fun v q => nomatch q⟩
    · exact ⟨o, ho, fun v q => by rw [hd] at q; cases q⟩
  keep := by
    intro i h h' st k
    obtain ⟨⟨old, he⟩, hi, h1, h2⟩ := st
    exact ⟨⟨old, k e (by simp) _ he⟩, hi.at fun o q => k it (by simp) o q, h1, h2⟩
  item := by
    intro X hP hw hK hc i pins s σ H E I hf st hg
    subst hP hw hK
    obtain ⟨⟨old, he⟩, hit, hne, hea⟩ := st
    obtain ⟨hq, hlt⟩ := hg
    obtain ⟨its, rv, p, hz⟩ := I.tuple hq
    have htu : s.heap.IsTuple a its.toArray := p
    have hlen := rv.length
    have hel : e < s.heap.objs.size := Heap.lt_size he
    have hil : it < s.heap.objs.size := by
      obtain ⟨_, q, _⟩ := hit
      exact Heap.lt_size q
    have D := Draws.tuple (prog := X.prog) (w := X.w) (A := X.A.in1) (I.ok.hd hc) it a hae its.toArray
    have hlt2 : i < its.toArray.size := by rw [List.size_toArray]; omega
    refine wpAny_pyNext_enum_itemD D he ⟨hit, htu⟩ hlt2 hne (by simp [hne, hea]) ?_
    intro u h' tk hu ho hit' hT hsz hk
    refine ⟨_, rfl, wpAny_letOwnedTupleGo_enum (s := { s with heap := h', toks := tk + 1 }) ho fun h'' he' sb => ?_⟩
    have hx : xs[i]? = some xs[i] := by simp [hlt]
    obtain ⟨u', hu', ru⟩ := rv.get hx
    have eu : u' = u := by
      have := hu
      simp only [List.getElem?_toArray] at this
      rw [hu'] at this
      exact Option.some.inj this
    subst eu
    have hT2 : h''.get? s.heap.objs.size = some { cls := .type "tuple", data := .seq #[.int i tk, u'] } := (sb.2 _ (Nat.ne_of_gt hel)).trans hT
    have new : ObjOk X.prog X.w (upd H s.heap.objs.size (.tup [.int (i : Nat), xs[i]])) h'' s.heap.objs.size (.tup [.int (i : Nat), xs[i]]) :=
      ⟨by show 2 ≤ sizeLine; decide, [.int i tk, u'], .cons ⟨_, rfl⟩ (.cons ru .nil), ⟨_, hT2, rfl, _, rfl⟩⟩
    have kk : ∀ b o, b ∉ [e, it] → s.heap.get? b = some o → h''.get? b = some o := by
      intro b ob hb q
      have b1 : b ≠ e := fun z => hb (by simp [z])
      have b2 : b ≠ it := fun z => hb (by simp [z])
      exact (sb.2 b b1).trans (hk b ob b1 b2 q)
    have I1 : Inv X pins σ (upd H s.heap.objs.size (.tup [.int (i : Nat), xs[i]])) { s with heap := h'', toks := tk + 1 } :=
      I.turnedNew (ch := [e, it]) kk hf (Nat.le_refl _) new
    refine ⟨.ref s.heap.objs.size, _, I1, rfl, ⟨_, xs[i], rfl, I.hok.fresh (Nat.le_refl _), rfl, hx⟩,
      ⟨⟨u', ?_⟩, hit'.1.at fun o q => (sb.2 it (Ne.symm hne)).trans q, hne, hea⟩, fun b hb => ?_⟩
    · have e1 : ((i + 1 : Nat) : Int) = (i : Int) + 1 := by omega
      rw [e1]
      exact he'
    · have hb' : b < s.heap.objs.size := by
        rcases (show b = e ∨ b = it by simpa using hb) with rfl | rfl
        · exact hel
        · exact hil
      rw [upd_ne (Nat.ne_of_lt hb')]
      exact (hf b hb).1
  done := by
    intro X hP hw hK hc i pins s σ H E I hf st hg
    subst hP hw hK
    obtain ⟨⟨old, he⟩, hit, hne, hea⟩ := st
    obtain ⟨hq, hlt⟩ := hg
    obtain ⟨its, rv, p, hz⟩ := I.tuple hq
    have htu : s.heap.IsTuple a its.toArray := p
    have hlen := rv.length
    obtain ⟨f0, f1, f2, f3, f4, f5⟩ := hf it (by simp)
    have D := Draws.tuple (prog := X.prog) (w := X.w) (A := X.A.in1) (I.ok.hd hc) it a hae its.toArray
    have e3 : its.toArray.size = i := by rw [List.size_toArray]; omega
    rw [e3] at D
    refine wpAny_pyNext_enum_endD D he ⟨hit, htu⟩ fun h' eb => ⟨rfl, ?_⟩
    exact I.turned (t' := s.toks) (fun b o hb q => eb b o hb q) f0 f1 f3 f4 f5
  self := fun A i s Q E st h => let ⟨⟨_, he⟩, _⟩ := st; wpAny_pyIter_enum he h

def iEnumT (K : PySem.W.Frag) (ta : TA) : TI := fun σ H R => ta σ H fun vs H1 => ∃ a xs, vs = [.ref a] ∧ SqT K H1 a xs ∧ R (ItE K a xs) H1
theorem pi_enumT {X : Cx} {e : Expr} {ta : TA} {p pos tpos : Pos} {elts : List Expr} {kk : Nat} (hg : Gl X "enumerate") (hm : X.mg "enumerate" = none)
    (ha : PA X [e] ta) (hs : starEach [e] X.env = [(false, eval e X.env)] := by rfl) :
    PI X (.Tuple elts kk tpos) (.Call (.Name "enumerate" p) [e] [] pos) (iEnumT X.K ta) := by
  constructor
  intro pins s σ H R I h
  refine Call_ (ld_blt I hg hm boot_enumerate (PyProof.Rows.callWith_type1 (thn (ha.run pos pins s σ H _ I h) fun us s1 hh => ?_) hs rfl))
  obtain ⟨vs, H1, I1, r1, a, xs, ex, hq, q⟩ := hh
  subst ex
  cases r1 with
  | cons r rr =>
    cases rr
    cases r
    obtain ⟨its, rv, p', hz⟩ := I1.tuple hq
    have htu : s1.heap.IsTuple a its.toArray := p'
    have hlt : a < s1.heap.objs.size := by
      obtain ⟨o, ho, _⟩ := htu
      exact Heap.lt_size ho
    refine call_enumT htu fun h' he hit hk => wpAny_pyIter_enum he ?_
    have I2 : Inv X pins σ H1 { s1 with heap := h' } := I1.kept (t' := s1.toks) hk
    refine ⟨s1.heap.objs.size + 1, [s1.heap.objs.size + 1, s1.heap.objs.size], _, _, H1, rfl, I2,
      turn_enumT a (s1.heap.objs.size + 1) s1.heap.objs.size xs (Nat.ne_of_lt hlt),
      ⟨⟨.none, he⟩, hit, Nat.succ_ne_self _, Nat.ne_of_gt (Nat.lt_succ_of_lt hlt)⟩, fun b hb => ?_, q⟩
    have hle : s1.heap.objs.size ≤ b := by
      rcases (show b = s1.heap.objs.size + 1 ∨ b = s1.heap.objs.size by simpa using hb) with z | z
      · rw [z]; exact Nat.le_add_right _ _
      · rw [z]; exact Nat.le_refl _
    exact I1.fpOk hle (I1.hok.fresh hle)
theorem walk_enumT {K : PySem.W.Frag} {a : Addr} {xs : List V} :
    Walk (ItE K a xs) xs.length (fun H => SqT K H a xs) (YPair (fun i => some (.int (i : Nat))) (fun i => xs[i]?)) := by
  refine ⟨fun i H hi q => ⟨q, hi⟩, fun H q => ⟨q, rfl⟩, fun i H v H' _ q y => ?_⟩
  obtain ⟨T, x, h1, h2, h3, h4⟩ := y
  exact ⟨T, .int (i : Nat), x, h1, h2, h3, rfl, h4⟩

/-! ### sum of a tuple of ints -/
theorem cr_sumT {X : Cx} (hc : X.calm = true) : CallR X (.builtin "sum")
    (fun vs H Q => ∃ (a : Addr) (ns : List Int), vs = [V.ref a] ∧ SqT X.K H a (ns.map V.int) ∧ Q (.int ns.sum) H) := by
  intro pins s σ H vs us Q I r h
  obtain ⟨a, ns, rfl, hs, q⟩ := h
  obtain ⟨its, rv, hl, _⟩ := I.tuple hs
  rw [Vals.ref1 r]
  have hi := rv.ints
  obtain ⟨xs, e⟩ := hi.allInts.items
  have hn : numsOf (intItems xs).toList = ns := by rw [← e]; exact hi.numsOf
  rw [nums_intItems] at hn
  have hl2 : s.heap.IsTuple a its.toArray := hl
  rw [e] at hl2
  refine PySem.W.ktm_sumG (I.ok.hd hc) hl2 fun h' tk t' hk => ?_
  rw [preSum_eq, List.take_of_length_le (by simp), hn]
  exact ⟨.int _, H, I.kept hk, ⟨_, rfl⟩, q⟩
end BV

namespace BV
open PySem PySem.Spec PyProof.Rows L2

/-! ### xs[i] of a list, by values, for xs[i] op= e -/
def rGetL (K : PySem.W.Frag) : V → V → Hp → VK → Prop := fun x y H Q => ∃ p xs j z,
  x = .ref p ∧ y = .int ((j : Nat) : Int) ∧ SqL K H p xs ∧ xs[j]? = some z ∧ Q z H
theorem get_list {X : Cx} : PGet X (rGetL X.K) := by
  intro pins s σ H x y v u Q I rx ry h
  obtain ⟨p, xs, j, z, rfl, rfl, hq, he, q⟩ := h
  cases rx
  obtain ⟨t, rfl⟩ := ry
  obtain ⟨its, r, pl, hz⟩ := I.list hq
  obtain ⟨w, ew, rw'⟩ := r.get he
  have hl := r.length
  have hn := line63
  have hj : j < xs.length := (List.getElem?_eq_some_iff.mp he).1
  refine wpAny_getItem_list pl.isList (by omega) (by omega) (by simpa using ew) ?_
  exact ⟨z, H, I, rw', q⟩

/-! ### t[::-1] of a tuple -/
theorem applied_rev {prog : Program} {w : World} {A : Around} {E : Value → Shared → Prop} {s : Shared} {sl : Addr} {vs : Value} {n : Nat}
    {Q : Int × Int × Nat → Shared → Prop} (hs : s.heap.IsSliceOf sl .none .none vs) (ps : IsPart vs (some (-1)))
    (h : Q ((n : Int) - 1, -1, n) s) : wpAny (model prog w) A (Builtin.Slice.sliceApplied (.ref sl) (pure (n : Int))) Q E s := by
  obtain ⟨os, hos, hcs, hds⟩ := id hs
  unfold Builtin.Slice.sliceApplied Builtin.Slice.sliceFields
  refine wpAny_bind (wpAny_bind (wpAny_field hos hds (x := .none) rfl ?_))
  refine wpAny_bind (wpAny_field hos hds (x := .none) rfl ?_)
  refine wpAny_bind (wpAny_field hos hds (x := vs) rfl (wpAny_pure ?_))
  refine wpAny_bind (HT.slicePart_ ps ?_)
  show wpAny _ _ (if ((-1 : Int) == 0) = true then _ else _) _ _ s
  rw [if_neg (by decide)]
  refine wpAny_bind (HT.slicePart_ .none (wpAny_bind (HT.slicePart_ .none (wpAny_bind (wpAny_pure ?_)))))
  have e1 : Builtin.Slice.sliceAdjust none none (-1) (n : Int) = ((n : Int) - 1, -1) := by
    unfold Builtin.Slice.sliceAdjust
    simp
  have e2 : Builtin.Slice.slicePlaces ((n : Int) - 1) (-1) (-1) = n := by
    unfold Builtin.Slice.slicePlaces
    simp
    try omega
  show wpAny _ _ (match Builtin.Slice.sliceAdjust none none (-1) (n : Int) with
    | (lo, hi) => pure (lo, (-1 : Int), Builtin.Slice.slicePlaces lo hi (-1))) _ _ s
  rw [e1]
  show wpAny _ _ (pure ((n : Int) - 1, (-1 : Int), Builtin.Slice.slicePlaces ((n : Int) - 1) (-1) (-1))) _ _ s
  rw [e2]
  exact wpAny_pure h

theorem getItem_rev {prog : Program} {w : World} {A : Around} {E : Value → Shared → Prop} {s : Shared} {t sl : Addr} {items : Array Value} {vs : Value}
    {Q : Value → Shared → Prop} (ht : IsTup s.heap t items) (hs : s.heap.IsSliceOf sl .none .none vs) (ps : IsPart vs (some (-1)))
    (h : Q (.ref s.heap.objs.size) { s with heap := s.heap.push { cls := .type "tuple", data := .seq items.toList.reverse.toArray } })
    (hsz : items.size ≤ sizeLine) : wpAny (model prog w) A (getItem (.ref t) (.ref sl)) Q E s := by
  have hsize : sizeOk (.seq items.toList.reverse.toArray) := by
    show items.toList.reverse.toArray.size ≤ sizeLine
    rw [List.size_toArray, List.length_reverse, Array.length_toList]
    exact hsz
  obtain ⟨os, hos, hcs, hds⟩ := id hs
  have hTs : s.TypeIs (.ref sl) "slice" := ⟨os, hos, hcs⟩
  unfold getItem
  try with_reducible refine wpAny_holding ?_
  first | refine wpAny_bind (wpAny_pure ?_) | skip
  refine wpAny_bind (wpAny_sequenceKey ht.typeIs (by decide) ?_)
  refine wpAny_bind (wpAny_callSpecial?_slot (name := Str.ofString "__getitem__") ht.typeIs PyProof.Rows.slot_tuple_getitem ?_)
  refine wpAny_call_entry PyProof.Rows.slot_tuple_getitem ht.typeIs entry_tuple_getitem ?_ (args_tuple_getitem _ _)
  show wpAny _ _ (Builtin.Tuple.tupleItemsOf (.ref t) >>= _) _ _ s
  refine wpAny_bind (tupleItemsOf_ ht ?_)
  refine wpAny_bind (wpAny_typeOf hTs ?_)
  rw [if_pos (by decide)]
  refine wpAny_bind (applied_rev hs ps ?_)
  have hno : ¬ ((((items.size : Int) - 1) == 0 && (-1 : Int) == 1 && items.size == items.size) = true) := by
    intro q
    rw [Bool.and_eq_true, Bool.and_eq_true] at q
    exact absurd (eq_of_beq q.1.2) (by decide)
  have pick : ((List.range items.size).filterMap fun (k : Nat) => items[(((items.size : Int) - 1) + (k : Int) * (-1)).toNat]?) = items.toList.reverse := by
    have e1 : (fun (k : Nat) => items[(((items.size : Int) - 1) + (k : Int) * (-1)).toNat]?) = fun k => (fun j => items[j]?) ((items.size - 1) - k) := by
      funext k
      have : (((items.size : Int) - 1) + (k : Int) * (-1)).toNat = (items.size - 1) - k := by omega
      rw [this]
    rw [e1]
    have e2 := PySem.W.krv_all items
    have e3 := PySem.W.krv_range items.size
    have e4 : (List.range items.size).filterMap (fun k => (fun j => items[j]?) ((items.size - 1) - k)) =
        ((List.range items.size).map fun k => items.size - 1 - k).filterMap (fun j => items[j]?) := by
      rw [List.filterMap_map]
      rfl
    rw [e4, e3, List.filterMap_reverse, e2]
  show wpAny _ _ (if (((items.size : Int) - 1) == 0 && (-1 : Int) == 1 && items.size == items.size) = true then _ else _) _ _ s
  rw [if_neg hno, pick]
  first
    | exact wpAny_bind (m := Builtin.Tuple.tupleExact _) (wpAny_newObj_type (wpAny_pure ⟨_, rfl, wpAny_pure h⟩) hsize)
    | exact wpAny_bind (m := Builtin.Tuple.tupleExact _) (wpAny_newObj_type (wpAny_bind (wpAny_pure (wpAny_pure ⟨_, rfl, wpAny_pure h⟩))) hsize)
    | exact wpAny_bind (wpAny_bind (m := Builtin.Tuple.tupleExact _) (wpAny_newObj_type (wpAny_pure (wpAny_pure ⟨_, rfl, wpAny_pure h⟩)) hsize))
    | exact wpAny_bind (wpAny_bind (m := Builtin.Tuple.tupleExact _) (wpAny_newObj_type (wpAny_pure ⟨_, rfl, wpAny_pure h⟩) hsize))

/-- t[::-1] -/
def tRevT (K : PySem.W.Frag) (te : TE) : TE := fun σ H Q => te σ H fun x H1 => ∃ a xs, x = .ref a ∧ SqT K H1 a xs ∧
  ∀ p, H1 p = none → Q (.ref p) (upd H1 p (.tup xs.reverse))
theorem pe_revT {X : Cx} {e : Expr} {te : TE} {k : Nat} {p1 p2 p3 pos : Pos} (he : PE X e te) :
    PE X (.Subscript e (.Slice none none (some (.UnaryOp .USub (.Constant (.int 1) k p1) p2)) p3) pos) (tRevT X.K te) := by
  constructor
  intro pins s σ H Q I h
  refine Subscript_ (thn (he.run pins s σ H _ I h) fun v s1 hh => ?_)
  obtain ⟨x, H1, I1, r1, a, xs, ex, hx, q⟩ := hh
  subst ex
  cases r1
  have hst : PO X (some (.UnaryOp .USub (.Constant (.int 1) k p1) p2)) (tPart (tUn (rU fun i => .int (-i)) (tC (.int 1)))) :=
    po_some (pe_un un_neg pe_int)
  refine wpAny_Slice ?_
  rw [evalPart_none]
  refine wpAny_pure (wpAny_pure ?_)
  refine thn (hst.run pins s1 σ H1 (fun o H4 => o = some (-1) ∧ H4 = H1) I1 ⟨1, rfl, -1, rfl, rfl, rfl⟩) fun vs s4 h4 => ?_
  obtain ⟨o, H4, I4, ps, eo, e4⟩ := h4
  subst eo e4
  have I5 : Inv X pins σ H4 { s4 with heap := s4.heap.push { cls := .type "slice", data := .fields #[.none, .none, vs] } } :=
    I4.kept (t' := s4.toks) fun b ob q => Heap.get?_push_of_some _ q
  obtain ⟨its, r, ht, hz⟩ := I5.tuple hx
  have hlen := r.length
  refine tail_any (T := "tuple") (ops := [.ref a, .ref s4.heap.objs.size]) ht.typeIs (PyProof.Rows.slot_tuple_getitem.lookup) ?_ (by with_unfolding_all rfl)
  refine getItem_rev ht (Heap.IsSliceOf.new _ .none .none vs) ps ?_ (by rw [List.size_toArray]; omega)
  refine ⟨.ref _, _, I5.laid (t' := s4.toks) (o := .tup xs.reverse) (fun b ob q => Heap.get?_push_of_some _ q) (Nat.le_refl _) ?_, rfl, q _ (I5.hok.fresh (Nat.le_refl _))⟩
  exact ⟨by rw [List.length_reverse]; exact hz, _, r.reverse, IsTup.new _ _⟩
end BV

namespace BV
open PySem L2

/-! ### a def of the text, by its name -/
structure Df (K : PySem.W.Frag) (mg : Str → Option Value) (x : String) (st : Stmt) (ps : List Str) (f : Addr) (fd : FuncData) : Prop where
  fn : Fun K (Str.ofString x) (Str.ofString x) st f fd
  ad : mg (Str.ofString x) = some (.ref f)
  bd : L2.Binds K fd ps []

/-- the built-in names that the text uses are not its own -/
structure Bl (mg : Str → Option Value) : Prop where
  int : mg "int" = none
  abs : mg "abs" = none
  len : mg "len" = none
  range : mg "range" = none
  enumerate : mg "enumerate" = none
  tuple : mg "tuple" = none
  min : mg "min" = none
  max : mg "max" = none
  sum : mg "sum" = none
  repr : mg "repr" = none

/-! ### heaps -/
theorem same_new {H : Hp} {p : Addr} {o : HO} (h : H p = none) : Same H (upd H p o) := fun b x e => by
  rw [upd_ne (ne_of_none e h)]
  exact e
/-- all but b and g as it was -/
def Kp (b g : Addr) (H H' : Hp) : Prop := ∀ a o, H a = some o → a ≠ b → a ≠ g → H' a = some o
theorem Kp.refl {b g : Addr} (H : Hp) : Kp b g H H := fun _ _ h _ _ => h
theorem Kp.trans {b g : Addr} {H H1 H2 : Hp} (x : Kp b g H H1) (y : Kp b g H1 H2) : Kp b g H H2 :=
  fun a o h n1 n2 => y a o (x a o h n1 n2) n1 n2
theorem Kp.same {b g : Addr} {H H' : Hp} (x : Same H H') : Kp b g H H' := fun a o h _ _ => x a o h
theorem Kp.setb {b g : Addr} {H : Hp} {o : HO} : Kp b g H (upd H b o) := fun a x h n _ => by
  rw [upd_ne n]
  exact h
theorem Kp.setg {b g : Addr} {H : Hp} {o : HO} : Kp b g H (upd H g o) := fun a x h _ n => by
  rw [upd_ne n]
  exact h
theorem Kp.new {b g p : Addr} {H : Hp} {o : HO} (h : H p = none) : Kp b g H (upd H p o) := Kp.same (same_new h)

/-! ### comprehensions that change nothing -/
def era (H : Hp) (D : Addr) : Hp := fun a => if a = D then none else H a
theorem era_at {H : Hp} {D : Addr} : era H D D = none := if_pos rfl
theorem era_ne {H : Hp} {D a : Addr} (h : a ≠ D) : era H D a = H a := if_neg h
theorem era_back {H : Hp} {D : Addr} : Same (era H D) H := fun a o e => by
  by_cases h : a = D
  · subst h
    rw [era_at] at e
    cases e
  · rw [era_ne h] at e
    exact e
theorem era_upd {H : Hp} {D : Addr} {o : HO} : era (upd H D o) D = era H D := by
  funext a
  by_cases h : a = D
  · subst h
    rw [era_at, era_at]
  · rw [era_ne h, era_ne h, upd_ne h]
theorem era_same {H H' : Hp} {D : Addr} (s : Same H H') : Same (era H D) (era H' D) := fun a o e => by
  by_cases h : a = D
  · subst h
    rw [era_at] at e
    cases e
  · rw [era_ne h] at e ⊢
    exact s _ _ e
theorem era_none {H : Hp} {D : Addr} (h : H D = none) : era H D = H := by
  funext a
  by_cases q : a = D
  · subst q
    rw [era_at, h]
  · exact era_ne q

/-- what stands between two turns: the list at D, all else an extension of H1, and R of the list over the heap without D -/
def LcI (H1 : Hp) (D : Addr) (R : Nat → List V → Hp → Prop) (i : Nat) (H : Hp) : Prop :=
  ∃ acc, H D = some (.lst acc) ∧ Same H1 (era H D) ∧ R i acc (era H D)
theorem lc_add {H1 H H4 : Hp} {D : Addr} {R : Nat → List V → Hp → Prop} {i : Nat} {acc : List V} {y : V} (ha : H D = some (.lst acc))
    (e : Same H1 (era H D)) (s : Same H H4) (hl : acc.length < 100000) (r : R i (acc ++ [y]) (era H4 D)) :
    ∃ acc, H4 D = some (.lst acc) ∧ acc.length < sizeLine ∧ LcI H1 D R i (upd H4 D (.lst (acc ++ [y]))) := by
  refine ⟨acc, s _ _ ha, Nat.lt_of_lt_of_le hl (by decide), acc ++ [y], upd_same, ?_, ?_⟩
  · rw [era_upd]
    exact Same.trans e (era_same s)
  · rw [era_upd]
    exact r
theorem lc_skip {H1 H H3 : Hp} {D : Addr} {R : Nat → List V → Hp → Prop} {i : Nat} {acc : List V} (ha : H D = some (.lst acc))
    (e : Same H1 (era H D)) (s : Same H H3) (r : R i acc (era H3 D)) : LcI H1 D R i H3 :=
  ⟨acc, s _ _ ha, Same.trans e (era_same s), r⟩
theorem lc_run {J : It} {n : Nat} {G : Hp → Prop} {Y : Nat → Hp → V → Hp → Prop} (w : Walk J n G Y) {g : TG} {tt : TT} {te : TE} {vs : List Nat}
    {σ : L2.St} {H1 : Hp} {D : Addr} {Qd : Hp → Prop} (hD : H1 D = none) (R : Nat → List V → Hp → Prop)
    (hG : ∀ H, Same H1 H → G H) (h0 : R 0 [] H1)
    (hs : ∀ i x acc H H', i < n → H D = some (.lst acc) → Same H1 (era H D) → Same H1 H → R i acc (era H D) → Y i H x H' →
      g x (wipe σ vs) H' fun σ2 H2 => wipe σ2 vs = wipe σ vs ∧ tt σ2 H2 fun b H3 =>
        if b = true then te σ2 H3 fun y H4 => ∃ acc, H4 D = some (.lst acc) ∧ acc.length < sizeLine ∧ LcI H1 D R (i + 1) (upd H4 D (.lst (acc ++ [y])))
        else LcI H1 D R (i + 1) H3)
    (hd : ∀ acc H, H D = some (.lst acc) → Same H1 H → R n acc (era H D) → Qd H) :
    ∃ W : Nat → Nat → Hp → Prop, (∃ m, W 0 m (upd H1 D (.lst []))) ∧ ∀ i m H, W i m H →
      (J.stop i H ∧ Qd H) ∨ (J.go i H ∧ ∃ Nx : Hp → Prop, (∀ H', Nx H' → ∃ m', m' < m ∧ W (i + 1) m' H') ∧
        ∀ x H', J.yld i H x H' → g x (wipe σ vs) H' fun σ2 H2 => wipe σ2 vs = wipe σ vs ∧ tt σ2 H2 fun b H3 =>
        if b = true then te σ2 H3 fun y H4 => ∃ acc, H4 D = some (.lst acc) ∧ acc.length < sizeLine ∧ Nx (upd H4 D (.lst (acc ++ [y]))) else Nx H3) := by
  refine lc_it w (LcI H1 D R) ?_ ?_ ?_ ?_
  · exact ⟨[], upd_same, by rw [era_upd, era_none hD]; exact Same.refl _, by rw [era_upd, era_none hD]; exact h0⟩
  · rintro i H _ ⟨acc, _, e, _⟩
    exact hG H (Same.trans e era_back)
  · rintro i x H H' hi ⟨acc, ha, e, r⟩ y
    exact hs i x acc H H' hi ha e (Same.trans e era_back) r y
  · rintro H ⟨acc, ha, e, r⟩
    exact hd acc H ha (Same.trans e era_back) r

theorem yes_go {σ : L2.St} {H : Hp} {A B : Hp → Prop} (h : A H) : tYes σ H (fun b H3 => if b = true then A H3 else B H3) := by
  show (if true = true then A H else B H)
  rw [if_pos rfl]
  exact h
/-! ### for loops: what is carried over a turn -/
theorem ints_at {ns : List Int} {i : Nat} {x : V} (h : (ns.map V.int)[i]? = some x) : ∃ z, ns[i]? = some z ∧ x = .int z := by
  rw [List.getElem?_map] at h
  cases e : ns[i]? with
  | none =>
    rw [e] at h
    cases h
  | some z =>
    rw [e] at h
    exact ⟨z, rfl, (Option.some.inj h).symm⟩

/-! ### the box of draws -/
def boxD (g : Addr) (st c : Int) : List (Key × V) :=
  [(Sum.inr "great", .ref g), (Sum.inr "stirred", .int st), (Sum.inr "count", .int c)]
structure Box (H : Hp) (b g : Addr) : Prop where
  bx : ∃ st c : Int, H b = some (.dK (boxD g st c))
  gr : ∃ ns : List Int, H g = some (.lst (ns.map V.int)) ∧ ns.length ≤ 63
theorem Box.ne {H : Hp} {b g : Addr} (x : Box H b g) : b ≠ g := by
  obtain ⟨⟨_, _, h1⟩, _, h2, _⟩ := x
  exact ne_of h1 h2 (by intro z; cases z)
theorem Box.same {H H' : Hp} {b g : Addr} (x : Box H b g) (s : Same H H') : Box H' b g := by
  obtain ⟨⟨st, c, h1⟩, ns, h2, h3⟩ := x
  exact ⟨⟨st, c, s _ _ h1⟩, ns, s _ _ h2, h3⟩

def spBox (K : PySem.W.Frag) : Sp := fun vs H Q _ => ∃ (a : Addr) (ns : List Int), vs = [.ref a] ∧ SqL K H a (ns.map V.int) ∧ ns.length ≤ 63 ∧
  ∀ (b g : Addr) (H' : Hp), H b = none → H g = none → Same H H' → Box H' b g → Q (.ref b) H'
def spDraw : Sp := fun vs H Q _ => ∃ (b g : Addr) (m : Int), vs = [.ref b, .int m] ∧ 0 < m ∧ m < 2 ^ 30 ∧ Box H b g ∧
  ∀ (r : Int) (H' : Hp), 0 ≤ r → r < m → Kp b g H H' → Box H' b g → Q (.int r) H'
end BV

namespace BV
open PySem L2
theorem get_great {H : Hp} {b g : Addr} {st c : Int} (h : H b = some (.dK (boxD g st c))) : DGet H b (.str "great") (some (.ref g)) :=
  DGet.k (k := Sum.inr "great") h
theorem get_stirred {H : Hp} {b g : Addr} {st c : Int} (h : H b = some (.dK (boxD g st c))) : DGet H b (.str "stirred") (some (.int st)) :=
  DGet.k (k := Sum.inr "stirred") h
theorem get_count {H : Hp} {b g : Addr} {st c : Int} (h : H b = some (.dK (boxD g st c))) : DGet H b (.str "count") (some (.int c)) :=
  DGet.k (k := Sum.inr "count") h
theorem put_count {H : Hp} {b g : Addr} {st c d : Int} (h : H b = some (.dK (boxD g st c))) :
    DPut H b (.str "count") (.int d) (upd H b (.dK (boxD g st d))) :=
  DPut.k (k := Sum.inr "count") h (by show 3 < sizeLine; decide)
theorem dpAll_ints {K : PySem.W.Frag} {H : Hp} : ∀ ns : List Int, DpAll K H (ns.map V.int) (ns.map PyData.int)
  | [] => .nil
  | n :: ns => .cons (.int n) (dpAll_ints ns)
theorem lay_ints : ∀ ns : List Int, PyData.canLayAll0 (ns.map PyData.int) = true
  | [] => by simp [PyData.canLayAll0]
  | n :: ns => by simp [PyData.canLayAll0, PyData.canLay0, lay_ints ns]
theorem deep_ints : ∀ ns : List Int, PyData.depthAll (ns.map PyData.int) ≤ 1
  | [] => by simp [PyData.depthAll]
  | n :: ns => by
    have := deep_ints ns
    simp only [List.map_cons, PyData.depthAll, PyData.depth]
    omega
theorem shaped_intsL (ns : List Int) : SeqAt.shaped (.list (ns.map PyData.int)) = true := by
  have h1 := lay_ints ns
  have h2 := deep_ints ns
  have h3 : PyData.depthAll (ns.map PyData.int) + 1 ≤ 64 := by omega
  simp [SeqAt.shaped, PyData.canLay0, PyData.depth, h1, h3]
end BV

namespace BV
open PySem L2
theorem ix_nat {n j : Nat} (h : j < n) : ixN n (j : Int) = some j := by
  unfold ixN
  rw [if_pos (by omega), if_pos (by omega), Int.toNat_natCast]
theorem seq_nat {n j : Nat} (h : j < n) : seqIndex? (j : Int) n = some j := (ixN_seq (ix_nat h)).1
end BV

namespace BV
open PySem L2
theorem Kp.seq {K : PySem.W.Frag} {b g l : Addr} {H H' : Hp} {xs : List V} (k : Kp b g H H') (h1 : l ≠ b) (h2 : l ≠ g) (h : SqL K H l xs) : SqL K H' l xs := by
  rcases h with (h | ⟨o, h⟩) | h
  · exact .inl (.inl (k _ _ h h1 h2))
  · exact .inl (.inr ⟨o, k _ _ h h1 h2⟩)
  · exact .inr h
def spPick (K : PySem.W.Frag) : Sp := fun vs H Q _ => ∃ (b g l : Addr) (xs : List V), vs = [.ref b, .ref l] ∧ SqL K H l xs ∧ l ≠ b ∧ l ≠ g ∧
  0 < xs.length ∧ xs.length < 1000000 ∧ Box H b g ∧ ∀ (j : Nat) (v : V) (H' : Hp), xs[j]? = some v → Kp b g H H' → Box H' b g → Q v H'
end BV

namespace BV
open PySem L2
/-- what follows is shown once, for all ways through -/
theorem tIf_by {t : TT} {ta tb : TE} {σ : L2.St} {H : Hp} {Q : VK} (P : V → Hp → Prop) (cont : ∀ v H', P v H' → Q v H')
    (h : (∀ v H', P v H' → Q v H') → tIf t ta tb σ H Q) : tIf t ta tb σ H Q := h cont
theorem tIfS_by {c : TT} {t u : TS} {D : Ends} {σ : L2.St} {H : Hp} (P : L2.St → Hp → Prop) (cont : ∀ σ' H', P σ' H' → D.nx σ' H')
    (h : (∀ σ' H', P σ' H' → D.nx σ' H') → tIfS c t u D σ H) : tIfS c t u D σ H := h cont
end BV

namespace BV
open PySem L2
theorem tSeq_go {t u : TS} {D : Ends} {σ : L2.St} {H : Hp} (h : t { D with nx := u D } σ H) : tSeq t u D σ H := h
/-- for .. in range(e): what follows e, once for all ways through e -/
def rngK (g : TG) (tb : TS) (D : Ends) (σ : L2.St) (v : V) (H1 : Hp) : Prop := ∃ j : Int, [v] = [V.int j] ∧ -(2 ^ 62) ≤ j ∧ j < 2 ^ 62 ∧
  ∃ W : Nat → Nat → L2.St → Hp → Prop, (∃ m, W 0 m σ H1) ∧ ∀ i m σ H, W i m σ H →
    ((Itr 0 j.toNat).stop i H ∧ D.nx σ H) ∨ ((Itr 0 j.toNat).go i H ∧ ∃ N : L2.St → Hp → Prop, (∀ σ' H', N σ' H' → ∃ m', m' < m ∧ W (i + 1) m' σ' H') ∧
      ∀ x H', (Itr 0 j.toNat).yld i H x H' → g x σ H' fun σ2 H2 => tb { D with nx := N, ct := N, bk := D.nx } σ2 H2)
theorem for_rng1_by {te : TE} {g : TG} {tb : TS} {D : Ends} {σ : L2.St} {H : Hp} (P : V → Hp → Prop)
    (loop : ∀ v H', P v H' → rngK g tb D σ v H') (h : (∀ v H', P v H' → rngK g tb D σ v H') → te σ H (rngK g tb D σ)) :
    tFor (iRng1 (tCons te tNil)) g tb D σ H := h loop
end BV

namespace BV
open PySem L2
theorem tIfS_t {c : TT} {t u : TS} {D : Ends} {σ : L2.St} {H : Hp} (R : Bool → Hp → Prop) (ht : ∀ H', R true H' → t D σ H') (hu : ∀ H', R false H' → u D σ H')
    (h : (∀ b H', R b H' → if b = true then t D σ H' else u D σ H') → c σ H fun b H' => if b = true then t D σ H' else u D σ H') : tIfS c t u D σ H := by
  refine h fun b H' r => ?_
  cases b with
  | true => exact iteT (ht H' r)
  | false => exact iteF (hu H' r)
end BV

namespace BV
open PySem L2

/-! ### webs as data -/
abbrev Tie := Nat × Nat
def tieD (t : Tie) : PyData := .tuple [.int t.1, .int t.2]
def tiesD (ts : List Tie) : PyData := .tuple (ts.map tieD)
def webD (n : Nat) (ts : List Tie) : PyData := .tuple [.int n, tiesD ts]
structure WebOk (n : Nat) (ts : List Tie) : Prop where
  pos : 1 ≤ n
  ends : ∀ t ∈ ts, t.1 < t.2 ∧ t.2 < n
  hang : ∀ p, 1 ≤ p → p < n → ∃ q, q < p ∧ (q, p) ∈ ts

/-- the ends of a tie stand at v -/
def TieAt (H : Hp) (v : V) (t : Tie) : Prop := ∃ p, v = .ref p ∧ H p = some (.tup [.int t.1, .int t.2])
/-- tuples stay -/
def KT (H H' : Hp) : Prop := ∀ a xs, H a = some (.tup xs) → H' a = some (.tup xs)
theorem KT.of_same {H H' : Hp} (s : Same H H') : KT H H' := fun a xs h => s _ _ h
theorem KT.of_kp {b g : Addr} {H H' : Hp} (k : Kp b g H H') (x : Box H b g) : KT H H' := fun a xs h => by
  obtain ⟨⟨_, _, h1⟩, _, h2, _⟩ := x
  exact k _ _ h (ne_of h h1 (by intro z; cases z)) (ne_of h h2 (by intro z; cases z))
theorem KT.of_upd {H : Hp} {l : Addr} {xs ys : List V} (h : H l = some (.lst xs)) : KT H (upd H l (.lst ys)) := fun a zs e => by
  rw [upd_ne (ne_of e h (by intro z; cases z))]
  exact e
theorem TieAt.kt {H H' : Hp} {v : V} {t : Tie} (h : TieAt H v t) (k : KT H H') : TieAt H' v t := by
  obtain ⟨p, e, hp⟩ := h
  exact ⟨p, e, k _ _ hp⟩

abbrev Ties (H : Hp) : List V → List Tie → Prop := Paired (TieAt H)
theorem Ties.kt {H H' : Hp} (k : KT H H') : ∀ {xs : List V} {ts : List Tie}, Ties H xs ts → Ties H' xs ts
  | _, _, .nil => .nil
  | _, _, .cons a r => .cons (a.kt k) (Ties.kt k r)
theorem Ties.app {H : Hp} : ∀ {xs : List V} {ts : List Tie} {v : V} {t : Tie}, Ties H xs ts → TieAt H v t → Ties H (xs ++ [v]) (ts ++ [t])
  | _, _, _, _, .nil, h => .cons h .nil
  | _, _, _, _, .cons a r, h => .cons a (Ties.app r h)
theorem Ties.era {H : Hp} : ∀ {xs : List V} {ts : List Tie} (j : Nat), Ties H xs ts → Ties H (xs.eraseIdx j) (ts.eraseIdx j)
  | _, _, _, .nil => .nil
  | _, _, 0, .cons a r => r
  | _, _, j + 1, .cons a r => .cons a (Ties.era j r)
theorem Ties.get {H : Hp} : ∀ {xs : List V} {ts : List Tie} {j : Nat} {t : Tie}, Ties H xs ts → ts[j]? = some t → ∃ v, xs[j]? = some v ∧ TieAt H v t
  | _, _, _, _, .nil, h => by simp at h
  | _, _, 0, _, .cons a r, h => by
    simp at h
    subst h
    exact ⟨_, rfl, a⟩
  | _, _, j + 1, t, .cons a r, h => by
    obtain ⟨v, h1, h2⟩ := Ties.get (j := j) (t := t) r (by simpa using h)
    exact ⟨v, by simpa using h1, h2⟩
theorem Ties.at {H : Hp} : ∀ {xs : List V} {ts : List Tie} {j : Nat} {v : V}, Ties H xs ts → xs[j]? = some v → ∃ t, ts[j]? = some t ∧ TieAt H v t
  | _, _, _, _, .nil, h => by simp at h
  | _, _, 0, _, .cons a r, h => by
    simp at h
    subst h
    exact ⟨_, rfl, a⟩
  | _, _, j + 1, v, .cons a r, h => by
    obtain ⟨t, h1, h2⟩ := Ties.at (j := j) (v := v) r (by simpa using h)
    exact ⟨t, by simpa using h1, h2⟩
theorem Ties.dp {K : PySem.W.Frag} {H : Hp} : ∀ {xs : List V} {ts : List Tie}, Ties H xs ts → DpAll K H xs (ts.map tieD)
  | _, _, .nil => .nil
  | _, _, .cons h r => by
    obtain ⟨p, rfl, hp⟩ := h
    exact .cons (.tup (SqT.of hp) (.cons (.int _) (.cons (.int _) .nil))) (Ties.dp r)

/-- taking one out and laying it behind -/
theorem perm_move : ∀ (ts fs : List Tie) (j : Nat) (t : Tie), ts[j]? = some t → (ts.eraseIdx j ++ (fs ++ [t])).Perm (ts ++ fs) := by
  intro ts fs j t h
  have h1 : (t :: ts.eraseIdx j).Perm ts := by
    induction ts generalizing j with
    | nil => simp at h
    | cons a r ih =>
      cases j with
      | zero =>
        simp at h
        subst h
        exact .refl _
      | succ j =>
        have := ih j (by simpa using h)
        simp only [List.eraseIdx_cons_succ]
        exact (List.Perm.swap a t _).trans (this.cons a)
  have h2 : (ts.eraseIdx j ++ (fs ++ [t])).Perm (t :: (ts.eraseIdx j ++ fs)) := by
    rw [← List.append_assoc]
    exact List.perm_append_comm
  exact h2.trans (by simpa using h1.append_right fs)

/-- two lists of ties that grow, new since H0 -/
structure WI (b g l l2 : Addr) (H0 H : Hp) (ts fs : List Tie) : Prop where
  kp : Kp b g H0 H
  bx : Box H b g
  n1 : H0 l = none
  n2 : H0 l2 = none
  d1 : l ≠ b
  d2 : l ≠ g
  d3 : l2 ≠ b
  d4 : l2 ≠ g
  d5 : l ≠ l2
  tl : ∃ xs, H l = some (.lst xs) ∧ Ties H xs ts
  fl : ∃ ys, H l2 = some (.lst ys) ∧ Ties H ys fs
section
variable {b g l l2 p : Addr} {H0 H H' : Hp} {ts fs : List Tie} {v : V} {t : Tie} {xs : List V}
theorem WI.draw (w : WI b g l l2 H0 H ts fs) (k : Kp b g H H') (x : Box H' b g) : WI b g l l2 H0 H' ts fs := by
  obtain ⟨kp, bx, n1, n2, d1, d2, d3, d4, d5, ⟨xs, h1, h2⟩, ⟨ys, h3, h4⟩⟩ := w
  have kt := KT.of_kp k bx
  exact ⟨kp.trans k, x, n1, n2, d1, d2, d3, d4, d5, ⟨xs, k _ _ h1 d1 d2, h2.kt kt⟩, ⟨ys, k _ _ h3 d3 d4, h4.kt kt⟩⟩
theorem WI.same (w : WI b g l l2 H0 H ts fs) (s : Same H H') : WI b g l l2 H0 H' ts fs := w.draw (Kp.same s) (w.bx.same s)
theorem WI.app (w : WI b g l l2 H0 H ts fs) (h : H l = some (.lst xs)) (hv : TieAt H v t) : WI b g l l2 H0 (upd H l (.lst (xs ++ [v]))) (ts ++ [t]) fs := by
  obtain ⟨kp, bx, n1, n2, d1, d2, d3, d4, d5, ⟨zs, h1, h2⟩, ⟨ys, h3, h4⟩⟩ := w
  rw [h] at h1
  cases h1
  have kt : KT H (upd H l (.lst (xs ++ [v]))) := KT.of_upd h
  refine ⟨fun a o q q1 q2 => ?_, ?_, n1, n2, d1, d2, d3, d4, d5, ⟨_, upd_same, (h2.kt kt).app (hv.kt kt)⟩, ⟨ys, ?_, h4.kt kt⟩⟩
  · rw [upd_ne (ne_of_none q n1)]
    exact kp _ _ q q1 q2
  · obtain ⟨⟨st, c, x1⟩, ns, x2, x3⟩ := bx
    exact ⟨⟨st, c, by rw [upd_ne d1.symm]; exact x1⟩, ns, by rw [upd_ne d2.symm]; exact x2, x3⟩
  · rw [upd_ne d5.symm]
    exact h3
theorem WI.swap (w : WI b g l l2 H0 H ts fs) : WI b g l2 l H0 H fs ts := by
  obtain ⟨kp, bx, n1, n2, d1, d2, d3, d4, d5, t1, t2⟩ := w
  exact ⟨kp, bx, n2, n1, d3, d4, d1, d2, d5.symm, t2, t1⟩
theorem WI.pop (w : WI b g l l2 H0 H ts fs) (h : H l = some (.lst xs)) (j : Nat) : WI b g l l2 H0 (upd H l (.lst (xs.eraseIdx j))) (ts.eraseIdx j) fs := by
  obtain ⟨kp, bx, n1, n2, d1, d2, d3, d4, d5, ⟨zs, h1, h2⟩, ⟨ys, h3, h4⟩⟩ := w
  rw [h] at h1
  cases h1
  have kt : KT H (upd H l (.lst (xs.eraseIdx j))) := KT.of_upd h
  refine ⟨fun a o q q1 q2 => ?_, ?_, n1, n2, d1, d2, d3, d4, d5, ⟨_, upd_same, (h2.kt kt).era j⟩, ⟨ys, ?_, h4.kt kt⟩⟩
  · rw [upd_ne (ne_of_none q n1)]
    exact kp _ _ q q1 q2
  · obtain ⟨⟨st, c, x1⟩, ns, x2, x3⟩ := bx
    exact ⟨⟨st, c, by rw [upd_ne d1.symm]; exact x1⟩, ns, by rw [upd_ne d2.symm]; exact x2, x3⟩
  · rw [upd_ne d5.symm]
    exact h3
end

def spWeb (K : PySem.W.Frag) : Sp := fun vs H Q _ => ∃ (b g : Addr) (most more : Nat), vs = [.ref b, .int most, .int more] ∧ 1 ≤ most ∧ most ≤ 1000 ∧ more ≤ 1000 ∧ Box H b g ∧
  ∀ (p : Addr) (n : Nat) (ts : List Tie) (H' : Hp), Kp b g H H' → Box H' b g → Dp K H' (.ref p) (webD n ts) → WebOk n ts → n ≤ most → ts.length + 1 ≤ n + more →
    (n = 1 → ts = []) → Q (.ref p) H'
end BV

namespace BV
open PySem L2

/-! ### data that is read -/
section
variable {K : PySem.W.Frag} {H H' : Hp}
theorem sqT_same {a : Addr} {xs : List V} (s : Same H H') (h : SqT K H a xs) : SqT K H' a xs := by
  rcases h with (h | ⟨o, h⟩) | h
  · exact .inl (.inl (s _ _ h))
  · exact .inl (.inr ⟨o, s _ _ h⟩)
  · exact .inr h
mutual
theorem dp_same (s : Same H H') : ∀ (d : PyData) {v : V}, Dp K H v d → Dp K H' v d
  | .none, _, h => by cases h; exact .non
  | .bool b, _, h => by cases h; exact .bl b
  | .int i, _, h => by cases h; exact .int i
  | .str x, _, h => by cases h; exact .str x
  | .list ds, _, h => by
    cases h with
    | lst h1 h2 => exact .lst (Same.seq s h1) (dpAll_same s ds h2)
  | .tuple ds, _, h => by
    cases h with
    | tup h1 h2 => exact .tup (sqT_same s h1) (dpAll_same s ds h2)
  | .dict _, _, h => by cases h
theorem dpAll_same (s : Same H H') : ∀ (ds : List PyData) {vs : List V}, DpAll K H vs ds → DpAll K H' vs ds
  | [], _, h => by cases h; exact .nil
  | d :: ds, _, h => by
    cases h with
    | cons h1 h2 => exact .cons (dp_same s d h1) (dpAll_same s ds h2)
end

/-- what is locked or a tuple stays -/
def KF (H H' : Hp) : Prop := ∀ a o, H a = some o → (∃ xs, o = .tup xs ∨ ∃ ob, o = .frz ob (.tup xs)) → H' a = some o
theorem KF.of_same (s : Same H H') : KF H H' := fun a o h _ => s a o h
theorem KF.of_kp {b g : Addr} (k : Kp b g H H') (x : Box H b g) : KF H H' := fun a o h q => by
  obtain ⟨⟨_, _, h1⟩, _, h2, _⟩ := x
  obtain ⟨xs, rfl | ⟨ob, rfl⟩⟩ := q
  · exact k _ _ h (ne_of h h1 (by intro z; cases z)) (ne_of h h2 (by intro z; cases z))
  · exact k _ _ h (ne_of h h1 (by intro z; cases z)) (ne_of h h2 (by intro z; cases z))
theorem KF.trans {H'' : Hp} (x : KF H H') (y : KF H' H'') : KF H H'' := fun a o h q => y a o (x a o h q) q
theorem KF.of_upd {l : Addr} {xs ys : List V} (h : H l = some (.lst xs)) : KF H (upd H l (.lst ys)) := fun a o e q => by
  obtain ⟨zs, rfl | ⟨ob, rfl⟩⟩ := q
  · rw [upd_ne (ne_of e h (by intro z; cases z))]
    exact e
  · rw [upd_ne (ne_of e h (by intro z; cases z))]
    exact e
theorem sqT_kf {a : Addr} {xs : List V} (s : KF H H') (h : SqT K H a xs) : SqT K H' a xs := by
  rcases h with (h | ⟨o, h⟩) | h
  · exact .inl (.inl (s _ _ h ⟨xs, .inl rfl⟩))
  · exact .inl (.inr ⟨o, s _ _ h ⟨xs, .inr ⟨o, rfl⟩⟩⟩)
  · exact .inr h
mutual
/-- data without a list in it -/
def still : PyData → Bool
  | .none | .bool _ | .int _ | .str _ => true
  | .list _ | .dict _ => false
  | .tuple ds => stillAll ds
def stillAll : List PyData → Bool
  | [] => true
  | d :: ds => still d && stillAll ds
end
mutual
theorem dp_kf (s : KF H H') : ∀ (d : PyData) {v : V}, still d = true → Dp K H v d → Dp K H' v d
  | .none, _, _, h => by cases h; exact .non
  | .bool b, _, _, h => by cases h; exact .bl b
  | .int i, _, _, h => by cases h; exact .int i
  | .str x, _, _, h => by cases h; exact .str x
  | .list ds, _, q, h => by simp [still] at q
  | .tuple ds, _, q, h => by
    cases h with
    | tup h1 h2 => exact .tup (sqT_kf s h1) (dpAll_kf s ds (by simpa [still] using q) h2)
  | .dict _, _, _, h => by cases h
theorem dpAll_kf (s : KF H H') : ∀ (ds : List PyData) {vs : List V}, stillAll ds = true → DpAll K H vs ds → DpAll K H' vs ds
  | [], _, _, h => by cases h; exact .nil
  | d :: ds, _, q, h => by
    have q' : still d = true ∧ stillAll ds = true := by simpa [stillAll] using q
    cases h with
    | cons h1 h2 => exact .cons (dp_kf s d q'.1 h1) (dpAll_kf s ds q'.2 h2)
end
theorem dpAll_len : ∀ {ds : List PyData} {vs : List V}, DpAll K H vs ds → vs.length = ds.length
  | [], _, h => by cases h; rfl
  | d :: ds, _, h => by
    cases h with
    | cons h1 h2 => exact congrArg Nat.succ (dpAll_len h2)
theorem dpAll_get : ∀ {ds : List PyData} {vs : List V} {i : Nat} {v : V}, DpAll K H vs ds → vs[i]? = some v → ∃ d, ds[i]? = some d ∧ Dp K H v d
  | [], _, _, _, h, e => by cases h; simp at e
  | d :: ds, _, 0, _, h, e => by
    cases h with
    | cons h1 h2 =>
      simp at e
      subst e
      exact ⟨d, rfl, h1⟩
  | d :: ds, _, i + 1, v, h, e => by
    cases h with
    | cons h1 h2 =>
      obtain ⟨d', a, b⟩ := dpAll_get (i := i) (v := v) h2 (by simpa using e)
      exact ⟨d', by simpa using a, b⟩
theorem dpAll_at : ∀ {ds : List PyData} {vs : List V} {i : Nat} {d : PyData}, DpAll K H vs ds → ds[i]? = some d → ∃ v, vs[i]? = some v ∧ Dp K H v d
  | [], _, _, _, h, e => by simp at e
  | d :: ds, _, 0, _, h, e => by
    cases h with
    | cons h1 h2 =>
      simp at e
      subst e
      exact ⟨_, rfl, h1⟩
  | d :: ds, _, i + 1, v, h, e => by
    cases h with
    | cons h1 h2 =>
      obtain ⟨d', a, b⟩ := dpAll_at (i := i) (d := v) h2 (by simpa using e)
      exact ⟨d', by simpa using a, b⟩
theorem dpAll_app : ∀ {ds es : List PyData} {vs us : List V}, DpAll K H vs ds → DpAll K H us es → DpAll K H (vs ++ us) (ds ++ es)
  | [], _, _, _, h, g => by cases h; exact g
  | d :: ds, _, _, _, h, g => by
    cases h with
    | cons h1 h2 => exact .cons h1 (dpAll_app h2 g)
theorem dpAll_ints' : ∀ {ns : List Int} {vs : List V}, DpAll K H vs (ns.map PyData.int) → vs = ns.map V.int
  | [], _, h => by cases h; rfl
  | n :: ns, _, h => by
    cases h with
    | cons h1 h2 =>
      cases h1
      rw [dpAll_ints' h2]
      rfl
theorem dp_tup {v : V} {ds : List PyData} (h : Dp K H v (.tuple ds)) : ∃ a xs, v = .ref a ∧ SqT K H a xs ∧ DpAll K H xs ds := by
  cases h with
  | tup h1 h2 => exact ⟨_, _, rfl, h1, h2⟩
theorem dp_lst {v : V} {ds : List PyData} (h : Dp K H v (.list ds)) : ∃ a xs, v = .ref a ∧ SqL K H a xs ∧ DpAll K H xs ds := by
  cases h with
  | lst h1 h2 => exact ⟨_, _, rfl, h1, h2⟩
theorem dp_tie {v : V} {t : Tie} (h : Dp K H v (tieD t)) : ∃ a, v = .ref a ∧ SqT K H a [.int t.1, .int t.2] := by
  obtain ⟨a, xs, e, h1, h2⟩ := dp_tup h
  have q : xs = [.int t.1, .int t.2] := dpAll_ints' (ns := [t.1, t.2]) h2
  subst q
  exact ⟨a, e, h1⟩
theorem dp_web {v : V} {n : Nat} {ts : List Tie} (h : Dp K H v (webD n ts)) :
    ∃ a c ys, v = .ref a ∧ SqT K H a [.int n, .ref c] ∧ SqT K H c ys ∧ DpAll K H ys (ts.map tieD) := by
  obtain ⟨a, xs, e, h1, h2⟩ := dp_tup h
  cases h2 with
  | cons q1 q2 =>
    cases q1
    cases q2 with
    | cons q3 q4 =>
      cases q4
      obtain ⟨c, ys, e3, h3, h4⟩ := dp_tup q3
      subst e3
      exact ⟨a, c, ys, e, h1, h3, h4⟩
theorem still_ties : ∀ ts : List Tie, stillAll (ts.map tieD) = true
  | [] => by simp [stillAll]
  | t :: ts => by simp [stillAll, tieD, still, still_ties ts]
theorem still_web (n : Nat) (ts : List Tie) : still (webD n ts) = true := by simp [webD, tiesD, still, stillAll, still_ties ts]
end

/-! ### lots -/
def lotD (ks : List Nat) : PyData := .tuple (ks.map fun (k : Nat) => .int k)
def hit (ts : List Tie) (p k : Nat) : Bool := match ts[k]? with
  | some t => t.1 == p || t.2 == p
  | none => false
def tiesAt (ts : List Tie) (p : Nat) : List Nat := (List.range ts.length).filter (hit ts p)
def spTies (K : PySem.W.Frag) : Sp := fun vs H Q _ => ∃ (v : V) (n p : Nat) (ts : List Tie), vs = [v, .int p] ∧ Dp K H v (webD n ts) ∧ ts.length ≤ 3000 ∧
  ∀ (u : V) (H' : Hp), Same H H' → Dp K H' u (lotD (tiesAt ts p)) → Q u H'
end BV

/-! ### rules that name the written part -/
namespace BV
open PySem L2
section
variable {X : Cx} (K : PySem.W.Frag)
theorem opIn (h : X.K = K := by rfl) : OpR X (compareOp .In) (rIn K false) := by
  subst h
  exact op_in_seq
theorem opNotIn (h : X.K = K := by rfl) : OpR X (compareOp .NotIn) (rIn K true) := by
  subst h
  exact op_notIn_seq
theorem opEqD (hu : X.A.units + 64 < cLine) (h : X.K = K := by rfl) : OpR X (compareOp .Eq) (rEqD K) := by
  subst h
  exact op_eqD hu
theorem opNeD (hu : X.A.units + 64 < cLine) (h : X.K = K := by rfl) : OpR X (compareOp .NotEq) (rNeD K) := by
  subst h
  exact op_neD hu
theorem ixL (h : X.K = K := by rfl) : IxR X (rIxL K) := by
  subst h
  exact ix_list
theorem ixT (h : X.K = K := by rfl) : IxR X (rIxT K) := by
  subst h
  exact ix_tup
def rLenK (K : PySem.W.Frag) : List V → Hp → VK → Prop := fun xs H Q => ∃ p ys, xs = [.ref p] ∧ (SqL K H p ys ∨ SqT K H p ys) ∧ Q (.int ys.length) H
theorem lenK (h : X.K = K := by rfl) : CallR X (.builtin "len") (rLenK K) := by
  subst h
  exact call_len_seq
def rTupK (K : PySem.W.Frag) : List V → Hp → VK → Prop := fun xs H Q => ∃ p ys, xs = [.ref p] ∧
  ((SqL K H p ys ∧ ∀ l, H l = none → Q (.ref l) (upd H l (.tup ys))) ∨ (SqT K H p ys ∧ Q (.ref p) H))
theorem tupleK (h : X.K = K := by rfl) : CallR X (.type "tuple") (rTupK K) := by
  subst h
  exact call_tuple_of
def rSumT (K : PySem.W.Frag) : List V → Hp → VK → Prop := fun vs H Q => ∃ (a : Addr) (ns : List Int), vs = [V.ref a] ∧ SqT K H a (ns.map V.int) ∧ Q (.int ns.sum) H
theorem sumTK (hc : X.calm = true := by rfl) (h : X.K = K := by rfl) : CallR X (.builtin "sum") (rSumT K) := by
  subst h
  exact cr_sumT hc
def rReprK (K : PySem.W.Frag) : List V → Hp → VK → Prop := fun xs H Q => ∃ (x : V) (d : PyData), xs = [x] ∧ Dp K H x d ∧ Show d ∧ Q (.str d.shown) H
theorem reprK (hgd : X.A.guards = some []) (hu : X.A.units + 64 < cLine) (h : X.K = K := by rfl) : CallR X (.builtin "repr") (rReprK K) := by
  subst h
  exact call_reprD hgd hu
theorem revT {e : Expr} {te : TE} {k : Nat} {p1 p2 p3 pos : Pos} (he : PE X e te) (h : X.K = K := by rfl) :
    PE X (.Subscript e (.Slice none none (some (.UnaryOp .USub (.Constant (.int 1) k p1) p2)) p3) pos) (tRevT K te) := by
  subst h
  exact pe_revT he
theorem enumT {e : Expr} {ta : TA} {p pos tpos : Pos} {elts : List Expr} {kk : Nat} (hg : Gl X "enumerate") (hm : X.mg "enumerate" = none)
    (ha : PA X [e] ta) (hs : starEach [e] X.env = [(false, eval e X.env)] := by rfl) (h : X.K = K := by rfl) :
    PI X (.Tuple elts kk tpos) (.Call (.Name "enumerate" p) [e] [] pos) (iEnumT K ta) := by
  subst h
  exact pi_enumT hg hm ha hs
theorem piL {l tg : Expr} {tl : TE} (hl : PE X l tl) (h : X.K = K := by rfl) : PI X tg l (iList K tl) := by
  subst h
  exact pi_list hl
theorem piT {l tg : Expr} {tl : TE} (hl : PE X l tl) (h : X.K = K := by rfl) : PI X tg l (iTup K tl) := by
  subst h
  exact pi_tup hl
theorem pgT {es : List Expr} {k : Nat} {t : TGs} {n : Nat} (hc : X.calm = true) (h : PGs X es t)
    (hn : (assignEach es X.env).length = n := by rfl) (hst : (assignEach es X.env).findIdx? (·.1) = none := by rfl) {pos : Pos} (hK : X.K = K := by rfl) :
    PG X (.Tuple es k pos) (gTup K n t) := by
  subst hK
  exact pg_tup hc h hn hst
theorem getL (h : X.K = K := by rfl) : PGet X (rGetL K) := by
  subst h
  exact get_list
theorem slL (h : X.K = K := by rfl) : SlR X (rSlL K) := by
  subst h
  exact sl_list
end
end BV

namespace BV
open PySem L2
theorem inv_tie (p : Nat) (t : Tie) : inV (.int (p : Int)) [.int t.1, .int t.2] = (t.1 == p || t.2 == p) := by
  have e : ∀ a : Nat, (((a : Nat) : Int) == (p : Int)) = (a == p) := fun a => by
    by_cases h : a = p
    · subst h
      simp
    · rw [beq_eq_false_iff_ne.mpr h]
      exact beq_eq_false_iff_ne.mpr fun z => h (by omega)
  show ((((t.1 : Nat) : Int) == (p : Int)) || ((((t.2 : Nat) : Int) == (p : Int)) || false)) = _
  rw [e, e, Bool.or_false]
theorem range_filter_succ {f : Nat → Bool} {i : Nat} : (List.range (i + 1)).filter f = (List.range i).filter f ++ if f i then [i] else [] := by
  rw [List.range_succ, List.filter_append]
  congr 1
  by_cases h : f i = true
  · rw [if_pos h, List.filter_cons_of_pos h, List.filter_nil]
  · rw [if_neg h, List.filter_cons_of_neg h, List.filter_nil]
theorem hit_at {ts : List Tie} {p i : Nat} {t : Tie} (h : ts[i]? = some t) : hit ts p i = (t.1 == p || t.2 == p) := by
  unfold hit
  rw [h]
end BV

namespace BV
open PySem L2

/-! ### the matrix of a web -/
def meets (p : Nat) (t : Tie) : Bool := t.1 == p || t.2 == p
def joins (p q : Nat) (t : Tie) : Bool := (t.1 == p && t.2 == q) || (t.1 == q && t.2 == p)
def entry (ts : List Tie) (p q : Nat) : Int := if p = q then (ts.countP (meets p) : Nat) else -((ts.countP (joins p q) : Nat) : Int)
def rowD (ts : List Tie) (n p : Nat) : PyData := .tuple ((List.range n).map fun q => .int (entry ts p q))
def matD (n : Nat) (ts : List Tie) : PyData := .tuple ((List.range n).map (rowD ts n))
def spMat (K : PySem.W.Frag) : Sp := fun vs H Q _ => ∃ (v : V) (n : Nat) (ts : List Tie), vs = [v] ∧ Dp K H v (webD n ts) ∧ (∀ t ∈ ts, t.1 < t.2 ∧ t.2 < n) ∧
  n ≤ 1000 ∧ ts.length ≤ 3000 ∧ ∀ (u : V) (H' : Hp), Same H H' → Dp K H' u (matD n ts) → Q u H'

/-- n rows of n numbers, lists of their own -/
structure Mat (H : Hp) (r : Addr) (as : List Addr) (n : Nat) (M : Nat → Nat → Int) : Prop where
  rows : H r = some (.lst (as.map V.ref))
  len : as.length = n
  nd : as.Nodup
  row : ∀ p a, as[p]? = some a → H a = some (.lst ((List.range n).map fun q => V.int (M p q)))
def bump (M : Nat → Nat → Int) (p q : Nat) (d : Int) : Nat → Nat → Int := fun i j => if i = p ∧ j = q then M p q + d else M i j
theorem range_set {α : Type} (f : Nat → α) (n q : Nat) (v : α) : ((List.range n).map f).set q v = (List.range n).map fun j => if j = q then v else f j := by
  apply List.ext_getElem?
  intro i
  by_cases hi : i < n
  · rw [List.getElem?_set]
    by_cases e : q = i
    · subst e
      simp [hi]
    · have e' : ¬ i = q := fun z => e z.symm
      simp [hi, e, e']
  · rw [List.getElem?_eq_none (by simp; omega), List.getElem?_eq_none (by simp; omega)]
theorem Mat.set {H : Hp} {r a : Addr} {as : List Addr} {n p q : Nat} {M : Nat → Nat → Int} {d : Int} (m : Mat H r as n M) (ha : as[p]? = some a) (hq : q < n) :
    Mat (upd H a (.lst (((List.range n).map fun q => V.int (M p q)).set q (.int (M p q + d))))) r as n (bump M p q d) := by
  obtain ⟨h1, h2, h3, h4⟩ := m
  have hpa := h4 p a ha
  have hp : p < as.length := (List.getElem?_eq_some_iff.mp ha).1
  have nra : r ≠ a := by
    intro e
    subst e
    rw [h1] at hpa
    have z := Option.some.inj hpa
    injection z with z
    cases as with
    | nil => simp at ha
    | cons x xs =>
      cases n with
      | zero => simp at h2
      | succ n =>
        rw [List.range_succ_eq_map] at z
        cases z
  refine ⟨by rw [upd_ne nra]; exact h1, h2, h3, fun p' a' ha' => ?_⟩
  by_cases e : p' = p
  · subst e
    rw [ha] at ha'
    cases ha'
    rw [upd_same, range_set]
    congr 2
    apply List.map_congr_left
    intro j hj
    unfold bump
    by_cases ej : j = q
    · subst ej
      simp
    · simp [ej]
  · have na : a' ≠ a := by
      rintro rfl
      have hp' : p' < as.length := (List.getElem?_eq_some_iff.mp ha').1
      have e1 : as[p'] = a' := (List.getElem?_eq_some_iff.mp ha').2
      have e2 : as[p] = a' := (List.getElem?_eq_some_iff.mp ha).2
      have pw := List.pairwise_iff_getElem.mp h3
      rcases Nat.lt_or_ge p' p with z | z
      · exact pw p' p hp' hp z (e1.trans e2.symm)
      · exact pw p p' hp hp' (by omega) (e2.trans e1.symm)
    rw [upd_ne na, h4 p' a' ha']
    congr 2
    apply List.map_congr_left
    intro j hj
    unfold bump
    simp [e]
theorem entry_app (ts : List Tie) (a b : Nat) (hab : a < b) (p q : Nat) :
    bump (bump (bump (bump (entry ts) a a 1) b b 1) a b (-1)) b a (-1) p q = entry (ts ++ [(a, b)]) p q := by
  have c1 : ∀ f : Tie → Bool, (ts ++ [(a, b)]).countP f = ts.countP f + (if f (a, b) = true then 1 else 0) := fun f => by
    rw [List.countP_append, List.countP_singleton]
  unfold entry
  rw [c1, c1]
  unfold bump meets joins
  by_cases e : p = q
  · subst e
    by_cases ea : p = a
    · subst ea
      have : ¬ p = b := by omega
      have : ¬ b = p := by omega
      simp_all
    · by_cases eb : p = b
      · subst eb
        have : ¬ a = p := by omega
        simp_all
      · have : ¬ a = p := fun z => ea z.symm
        have : ¬ b = p := fun z => eb z.symm
        simp_all
  · by_cases e1 : p = a ∧ q = b
    · obtain ⟨rfl, rfl⟩ := e1
      have h1 : ¬ q = p := fun z => e z.symm
      simp_all
      omega
    · by_cases e2 : p = b ∧ q = a
      · obtain ⟨rfl, rfl⟩ := e2
        have h1 : ¬ q = p := fun z => e z.symm
        simp_all
        omega
      · have h3 : ¬ (p = a ∧ q = a) := fun z => e (z.1.trans z.2.symm)
        have h4 : ¬ (p = b ∧ q = b) := fun z => e (z.1.trans z.2.symm)
        have h5 : ((a == p && b == q) || (a == q && b == p)) = false := by
          rw [Bool.or_eq_false_iff, Bool.and_eq_false_iff, Bool.and_eq_false_iff]
          simp only [beq_eq_false_iff_ne]
          omega
        simp only [e1, e2, h3, h4, if_false, e, h5, Bool.false_eq_true, Nat.add_zero]
end BV

namespace BV
open PySem L2
theorem Mat.row_get {H : Hp} {r a : Addr} {as : List Addr} {n p q : Nat} {M : Nat → Nat → Int} (m : Mat H r as n M) (ha : as[p]? = some a) (hq : q < n) :
    ((List.range n).map fun q => V.int (M p q))[q]? = some (.int (M p q)) := by
  rw [List.getElem?_map, List.getElem?_range hq]
  rfl
theorem mat_aug {K : PySem.W.Frag} {H : Hp} {r : Addr} {as : List Addr} {n p q ir ip iq : Nat} {M : Nat → Nat → Int} {d : Int} {f : Int → Int → Int} {σ : L2.St} {D : Ends}
    (m : Mat H r as n M) (hp : p < n) (hq : q < n) (h3 : σ[ir]? = some (some (.ref r))) (h4 : σ[ip]? = some (some (.int (p : Int)))) (h5 : σ[iq]? = some (some (.int (q : Int))))
    (hf : f (M p q) 1 = M p q + d)
    (h : ∀ a, as[p]? = some a → ∀ H', (∀ b, b ≠ a → H' b = H b) → Mat H' r as n (bump M p q d) → D.nx σ H') :
    tAugS (tOp (rIxL K) (tVar ir) (tVar ip)) (tVar iq) (tC (.int 1)) (rGetL K) (ipI f) rSetL D σ H := by
  have hpl : p < as.length := by rw [m.len]; exact hp
  have ha : as[p]? = some as[p] := by simp [hpl]
  have hrow := m.row p _ ha
  have hr : (as.map V.ref)[p]? = some (.ref as[p]) := by rw [List.getElem?_map, ha]; rfl
  refine ⟨_, h3, _, h4, r, _, _, _, rfl, rfl, SqL.of m.rows, atI_nat hr, ?_⟩
  refine ⟨_, h5, as[p], _, q, _, rfl, rfl, SqL.of hrow, m.row_get ha hq, ?_⟩
  refine ⟨_, _, rfl, rfl, as[p], _, (q : Int), q, rfl, rfl, hrow, ix_nat (by simpa using hq), ?_⟩
  rw [hf]
  exact h _ ha _ (fun b hb => upd_ne hb) (m.set ha hq)
theorem zeros (n : Nat) : (List.replicate n [V.int 0]).flatten = (List.range n).map fun _ => V.int 0 := by
  induction n with
  | zero => rfl
  | succ n ih =>
    rw [List.replicate_succ', List.flatten_append, ih, List.range_succ, List.map_append]
    rfl
end BV

namespace BV
open PySem L2
mutual
def tiny : PyData → Bool
  | .none | .bool _ => true
  | .int i => decide (i.natAbs.log2 < 300)
  | .str x => decide (x.length ≤ 100) && x.cps.toList.all fun c => decide (c < 16 ^ 8)
  | .list xs | .tuple xs => tinyAll xs
  | .dict _ => false
def tinyAll : List PyData → Bool
  | [] => true
  | x :: xs => tiny x && tinyAll xs
end
mutual
def nodes : PyData → Nat
  | .none | .bool _ | .int _ | .str _ | .dict _ => 1
  | .list xs | .tuple xs => nodesAll xs + 1
def nodesAll : List PyData → Nat
  | [] => 0
  | x :: xs => nodes x + nodesAll xs
end
theorem int_shown {i : Int} (h : i.natAbs.log2 < 300) : (PyData.shown (.int i)).length ≤ 301 := by
  have h1 := int_text_length_le (k := 300) (by decide) h
  have h2 : (PyData.shown (.int i)) = Str.ofString (toString i) := by simp only [PyData.shown]
  rw [h2]
  have h3 : (Str.ofString (toString i)).length = (toString i).length := ofString_length _
  omega
mutual
theorem tiny_facts : ∀ d : PyData, tiny d = true → d.showable = true ∧ d.hasDict = false ∧ d.shown.length + 2 ≤ 1100 * nodes d
  | .none, _ => ⟨by simp [PyData.showable], by simp [PyData.hasDict], by
      have e : (PyData.shown .none).length = 4 := rfl
      simp only [nodes]
      omega⟩
  | .bool b, _ => ⟨by simp [PyData.showable], by simp [PyData.hasDict], by
      have e : (PyData.shown (.bool b)).length ≤ 5 := by cases b <;> decide
      simp only [nodes]
      omega⟩
  | .int i, h => by
    have h' : i.natAbs.log2 < 300 := by simpa [tiny] using h
    refine ⟨?_, by simp [PyData.hasDict], ?_⟩
    · simp only [PyData.showable, decide_eq_true_eq]
      omega
    · have := int_shown h'
      simp only [nodes]
      omega
  | .str x, h => by
    have h' : x.length ≤ 100 ∧ ∀ c ∈ x.cps.toList, c < 16 ^ 8 := by
      simp only [tiny, Bool.and_eq_true, decide_eq_true_eq, List.all_eq_true] at h
      exact h
    refine ⟨by simp [PyData.showable], by simp [PyData.hasDict], ?_⟩
    have e := StrLaws.reprText_len x h'.2
    simp only [PyData.shown, nodes]
    omega
  | .list xs, h => by
    have h1 := tiny_all xs (by simpa [tiny] using h)
    refine ⟨by simpa [PyData.showable] using h1.1, by simpa [PyData.hasDict] using h1.2.1, ?_⟩
    have h2 := listText_len_le (PyData.shownAll xs)
    simp only [PyData.shown, nodes]
    omega
  | .tuple xs, h => by
    have h1 := tiny_all xs (by simpa [tiny] using h)
    refine ⟨by simpa [PyData.showable] using h1.1, by simpa [PyData.hasDict] using h1.2.1, ?_⟩
    have h2 := tupleText_len_le (PyData.shownAll xs)
    simp only [PyData.shown, nodes]
    omega
  | .dict _, h => by simp [tiny] at h
theorem tiny_all : ∀ xs : List PyData, tinyAll xs = true → PyData.showableAll xs = true ∧ PyData.hasDictAll xs = false ∧
    ((PyData.shownAll xs).map (·.length)).sum + 2 * (PyData.shownAll xs).length ≤ 1100 * nodesAll xs
  | [], _ => ⟨by simp [PyData.showableAll], by simp [PyData.hasDictAll], by simp [PyData.shownAll]⟩
  | x :: xs, h => by
    have h' : tiny x = true ∧ tinyAll xs = true := by simpa [tinyAll] using h
    obtain ⟨a1, a2, a3⟩ := tiny_facts x h'.1
    obtain ⟨b1, b2, b3⟩ := tiny_all xs h'.2
    refine ⟨by simp [PyData.showableAll, a1, b1], by simp [PyData.hasDictAll, a2, b2], ?_⟩
    simp only [PyData.shownAll, nodesAll, List.map_cons, List.sum_cons, List.length_cons]
    omega
end
theorem show_of {d : PyData} (h : tiny d = true) (hd : d.depth ≤ 40) (hn : nodes d ≤ 15000) : Show d := by
  obtain ⟨a, b, c⟩ := tiny_facts d h
  refine ⟨a, b, hd, Nat.le_trans (Nat.le_trans (Nat.le_add_right _ 2) c) (Nat.le_trans (Nat.mul_le_mul_left 1100 hn) (by decide))⟩
end BV

namespace BV
open PySem L2
/-! ### sums of a row -/
theorem sum_add (f g : Nat → Int) : ∀ l : List Nat, (l.map fun q => f q + g q).sum = (l.map f).sum + (l.map g).sum
  | [] => rfl
  | a :: l => by
    simp only [List.map_cons, List.sum_cons, sum_add f g l]
    omega
theorem sum_at (n x : Nat) (c : Int) : ((List.range n).map fun q => if q = x then c else (0 : Int)).sum = if x < n then c else 0 := by
  induction n with
  | zero => rfl
  | succ n ih =>
    rw [List.range_succ, List.map_append, List.sum_append, ih]
    simp only [List.map_cons, List.map_nil, List.sum_cons, List.sum_nil]
    by_cases h : n = x
    · subst h
      simp
    · by_cases h2 : x < n
      · have : x < n + 1 := by omega
        simp [h, h2, this]
      · have : ¬ x < n + 1 := by omega
        simp [h, h2, this]
theorem sum_none (n : Nat) : ((List.range n).map fun (_ : Nat) => (0 : Int)).sum = 0 := by
  induction n with
  | zero => rfl
  | succ n ih =>
    rw [List.range_succ, List.map_append, List.sum_append, ih]
    rfl
def delta (t : Tie) (p q : Nat) : Int :=
  (if p = t.1 then ((if q = t.1 then 1 else 0) + (if q = t.2 then -1 else 0)) else 0) + (if p = t.2 then ((if q = t.2 then 1 else 0) + (if q = t.1 then -1 else 0)) else 0)
theorem entry_cons (t : Tie) (ts : List Tie) (h : t.1 < t.2) (p q : Nat) : entry (t :: ts) p q = entry ts p q + delta t p q := by
  obtain ⟨a, b⟩ := t
  have h : a < b := h
  unfold entry delta
  rw [List.countP_cons, List.countP_cons]
  unfold meets joins
  by_cases e : p = q
  · subst e
    by_cases ea : p = a
    · subst ea
      have : ¬ p = b := by omega
      have : ¬ b = p := by omega
      simp_all
    · by_cases eb : p = b
      · subst eb
        have : ¬ a = p := by omega
        simp_all
      · have : ¬ a = p := fun z => ea z.symm
        have : ¬ b = p := fun z => eb z.symm
        simp_all
  · by_cases e1 : p = a ∧ q = b
    · obtain ⟨rfl, rfl⟩ := e1
      have h1 : ¬ q = p := fun z => e z.symm
      simp_all
      omega
    · by_cases e2 : p = b ∧ q = a
      · obtain ⟨rfl, rfl⟩ := e2
        have h1 : ¬ q = p := fun z => e z.symm
        simp_all
        omega
      · have h5 : ((a == p && b == q) || (a == q && b == p)) = false := by
          rw [Bool.or_eq_false_iff, Bool.and_eq_false_iff, Bool.and_eq_false_iff]
          simp only [beq_eq_false_iff_ne]
          omega
        simp only [e, if_false, h5, Bool.false_eq_true, Nat.add_zero]
        by_cases ea : p = a
        · subst ea
          have q1 : ¬ q = p := fun z => e z.symm
          have q2 : ¬ q = b := fun z => e1 ⟨rfl, z⟩
          have q3 : ¬ p = b := by omega
          simp [q1, q2, q3]
        · by_cases eb : p = b
          · subst eb
            have q1 : ¬ q = p := fun z => e z.symm
            have q2 : ¬ q = a := fun z => e2 ⟨rfl, z⟩
            simp [q1, q2, ea]
          · simp [ea, eb]
theorem delta_sum (t : Tie) (n p : Nat) (h : t.1 < t.2) (h2 : t.2 < n) : ((List.range n).map fun q => delta t p q).sum = 0 := by
  unfold delta
  rw [sum_add]
  have h1 : t.1 < n := by omega
  by_cases ea : p = t.1
  · have eb : ¬ p = t.2 := by omega
    simp only [if_pos ea, if_neg eb]
    rw [sum_add, sum_at, sum_at, sum_none, if_pos h1, if_pos h2]
    rfl
  · by_cases eb : p = t.2
    · simp only [if_neg ea, if_pos eb]
      rw [sum_add, sum_at, sum_at, sum_none, if_pos h1, if_pos h2]
      rfl
    · simp only [if_neg ea, if_neg eb]
      rw [sum_none]
      rfl
theorem entry_sum (n p : Nat) : ∀ ts : List Tie, (∀ t ∈ ts, t.1 < t.2 ∧ t.2 < n) → ((List.range n).map fun q => entry ts p q).sum = 0
  | [], _ => by
    have : (fun q => entry [] p q) = fun _ => (0 : Int) := by
      funext q
      unfold entry
      by_cases e : p = q <;> simp [e]
    rw [this]
    exact sum_none n
  | t :: ts, h => by
    have ht := h t (List.mem_cons_self ..)
    have : (fun q => entry (t :: ts) p q) = fun q => entry ts p q + delta t p q := by
      funext q
      exact entry_cons t ts ht.1 p q
    rw [this, sum_add, entry_sum n p ts fun u hu => h u (List.mem_cons_of_mem _ hu), delta_sum t n p ht.1 ht.2]
    rfl
theorem entry_symm (ts : List Tie) (p q : Nat) : entry ts p q = entry ts q p := by
  unfold entry
  by_cases e : p = q
  · subst e
    rfl
  · have e' : ¬ q = p := fun z => e z.symm
    rw [if_neg e, if_neg e']
    congr 2
    have : joins p q = joins q p := by
      funext t
      unfold joins
      rw [Bool.or_comm]
    rw [this]
theorem entry_perm {ts us : List Tie} (h : ts.Perm us) (p q : Nat) : entry ts p q = entry us p q := by
  unfold entry
  rw [h.countP_eq, h.countP_eq]
theorem deg_len : ∀ (ts : List Tie) (p : Nat), (tiesAt ts p).length = ts.countP (meets p) := by
  intro ts p
  have key : ∀ i, i ≤ ts.length → ((List.range i).filter (hit ts p)).length = (ts.take i).countP (meets p) := by
    intro i
    induction i with
    | zero => intro _; rfl
    | succ i ih =>
      intro hi
      have hg : ts[i]? = some ts[i] := by simp [show i < ts.length by omega]
      rw [range_filter_succ, List.length_append, ih (by omega), List.take_add_one, hg, List.countP_append, hit_at hg]
      show _ = _ + List.countP (meets p) [ts[i]]
      rw [List.countP_singleton]
      show _ + (if meets p ts[i] = true then [i] else []).length = _
      by_cases h : meets p ts[i] = true
      · rw [if_pos h, if_pos h]; rfl
      · rw [if_neg h, if_neg h]; rfl
  have := key ts.length (Nat.le_refl _)
  rw [List.take_of_length_le (Nat.le_refl _)] at this
  exact this
theorem joins_pair {p q : Nat} {t : Tie} (h : t.1 < t.2) (e : p ≠ q) : joins p q t = decide (t = (min p q, max p q)) := by
  obtain ⟨a, b⟩ := t
  have h : a < b := h
  unfold joins
  rcases Nat.lt_or_ge p q with z | z
  · have e1 : min p q = p := by omega
    have e2 : max p q = q := by omega
    rw [e1, e2]
    by_cases c : a = p ∧ b = q
    · obtain ⟨rfl, rfl⟩ := c
      simp
    · have c' : ¬ ((a, b) = (p, q)) := fun z => c (Prod.mk.inj z)
      rw [decide_eq_false c', Bool.or_eq_false_iff, Bool.and_eq_false_iff, Bool.and_eq_false_iff]
      simp only [beq_eq_false_iff_ne]
      omega
  · have e1 : min p q = q := by omega
    have e2 : max p q = p := by omega
    rw [e1, e2]
    by_cases c : a = q ∧ b = p
    · obtain ⟨rfl, rfl⟩ := c
      simp
    · have c' : ¬ ((a, b) = (q, p)) := fun z => c (Prod.mk.inj z)
      rw [decide_eq_false c', Bool.or_eq_false_iff, Bool.and_eq_false_iff, Bool.and_eq_false_iff]
      simp only [beq_eq_false_iff_ne]
      omega
/-! ### each tie is at two places -/
def seen (ts : List Tie) (i k : Nat) : Int := match ts[k]? with
  | some t => (if t.1 < i then 1 else 0) + (if t.2 < i then 1 else 0)
  | none => 0
theorem seen_zero (ts : List Tie) (k : Nat) : seen ts 0 k = 0 := by
  unfold seen
  split <;> simp
theorem seen_succ {ts : List Tie} {i k : Nat} (h : ∀ t ∈ ts, t.1 < t.2) : seen ts (i + 1) k = seen ts i k + if hit ts i k = true then 1 else 0 := by
  unfold seen hit
  cases e : ts[k]? with
  | none => simp
  | some t =>
    have ht := h t (List.mem_of_getElem? e)
    obtain ⟨a, b⟩ := t
    have ht : a < b := ht
    simp only [Bool.or_eq_true, beq_iff_eq]
    by_cases h1 : a = i
    · subst h1
      have c1 : ¬ b < a := by omega
      have c2 : ¬ b < a + 1 := by omega
      simp [c1, c2]
    · by_cases h2 : b = i
      · subst h2
        have c1 : a < b := ht
        have c2 : a < b + 1 := by omega
        simp [c1, c2]
      · simp only [h1, h2, or_self, if_false]
        have c1 : (a < i + 1) = (a < i) := by apply propext; omega
        have c2 : (b < i + 1) = (b < i) := by apply propext; omega
        simp only [c1, c2]
        omega
theorem seen_all {ts : List Tie} {n k : Nat} (h : ∀ t ∈ ts, t.1 < t.2 ∧ t.2 < n) (hk : k < ts.length) : seen ts n k = 2 := by
  unfold seen
  have e : ts[k]? = some ts[k] := by simp [hk]
  rw [e]
  have ht := h ts[k] (List.getElem_mem hk)
  have h1 : ts[k].1 < n := by omega
  simp [h1, ht.2]
theorem mem_tiesAt {ts : List Tie} {p k : Nat} : k ∈ tiesAt ts p ↔ k < ts.length ∧ hit ts p k = true := by
  unfold tiesAt
  rw [List.mem_filter, List.mem_range]
theorem tiesAt_nodup (ts : List Tie) (p : Nat) : (tiesAt ts p).Nodup := (List.nodup_range (n := ts.length)).sublist List.filter_sublist
end BV

namespace BV
open PySem L2
theorem tAsg_by {te : TE} {g : TG} {D : Ends} {σ : L2.St} {H : Hp} (P : V → Hp → Prop) (cont : ∀ v H', P v H' → g v σ H' D.nx)
    (h : (∀ v H', P v H' → g v σ H' D.nx) → te σ H (fun x H1 => g x σ H1 D.nx)) : tAsg te g D σ H := h cont
theorem get_map {α β : Type} {f : α → β} {l : List α} {i : Nat} {y : β} (h : (l.map f)[i]? = some y) : ∃ x, l[i]? = some x ∧ y = f x := by
  rw [List.getElem?_map] at h
  cases e : l[i]? with
  | none =>
    rw [e] at h
    cases h
  | some x =>
    rw [e] at h
    exact ⟨x, rfl, (Option.some.inj h).symm⟩
theorem still_ints : ∀ ns : List Int, stillAll (ns.map PyData.int) = true
  | [] => by simp [stillAll]
  | n :: ns => by simp [stillAll, still, still_ints ns]
theorem ints_row (f : Nat → Int) (n : Nat) : ((List.range n).map fun q => PyData.int (f q)) = ((List.range n).map f).map PyData.int := by rw [List.map_map]; rfl
theorem ints_rowV (f : Nat → Int) (n : Nat) : ((List.range n).map fun q => V.int (f q)) = ((List.range n).map f).map V.int := by rw [List.map_map]; rfl
theorem still_row (ts : List Tie) (n p : Nat) : still (rowD ts n p) = true := by
  have h := still_ints ((List.range n).map fun q => entry ts p q)
  rw [← ints_row] at h
  simpa [rowD, still] using h
theorem still_rows (ts : List Tie) (n : Nat) : ∀ l : List Nat, stillAll (l.map (rowD ts n)) = true
  | [] => by simp [stillAll]
  | p :: l => by simp [stillAll, still_row, still_rows ts n l]

/-! ### what may be written as a text -/
theorem tiny_ints : ∀ ns : List Int, (∀ n ∈ ns, n.natAbs < 2 ^ 200) → tinyAll (ns.map PyData.int) = true ∧ nodesAll (ns.map PyData.int) = ns.length ∧ PyData.depthAll (ns.map PyData.int) = 0
  | [], _ => by simp [tinyAll, nodesAll, PyData.depthAll]
  | n :: ns, h => by
    obtain ⟨a, b, c⟩ := tiny_ints ns fun m hm => h m (List.mem_cons_of_mem _ hm)
    have hn := h n (List.mem_cons_self ..)
    have hl : n.natAbs.log2 < 300 := Nat.lt_of_lt_of_le (PySem.Flt.log2_lt_of (by decide) hn) (by decide)
    refine ⟨by simp [tinyAll, tiny, hl, a], ?_, by simp [PyData.depthAll, PyData.depth, c]⟩
    simp only [List.map_cons, nodesAll, nodes, b, List.length_cons]
    omega
theorem tiny_row (f : Nat → Int) (n : Nat) (h : ∀ q, (f q).natAbs < 2 ^ 200) : tiny (.tuple ((List.range n).map fun q => .int (f q))) = true ∧
    nodes (.tuple ((List.range n).map fun q => .int (f q))) = n + 1 ∧ (PyData.tuple ((List.range n).map fun q => .int (f q))).depth = 1 := by
  rw [ints_row]
  obtain ⟨a, b, c⟩ := tiny_ints ((List.range n).map f) fun m hm => by
    obtain ⟨q, _, rfl⟩ := List.mem_map.mp hm
    exact h q
  refine ⟨by simp only [tiny, a], ?_, by simp only [PyData.depth, c]⟩
  simp only [nodes, b, List.length_map, List.length_range]
theorem show_lot (ks : List Nat) (h : ∀ k ∈ ks, k < 100000) (hl : ks.length ≤ 1000) : Show (lotD ks) := by
  have e : lotD ks = .tuple ((ks.map fun (k : Nat) => (k : Int)).map PyData.int) := by unfold lotD; rw [List.map_map]; rfl
  obtain ⟨a, b, c⟩ := tiny_ints (ks.map fun (k : Nat) => (k : Int)) fun m hm => by
    obtain ⟨q, hq, rfl⟩ := List.mem_map.mp hm
    have := h q hq
    have e2 : ((q : Int)).natAbs = q := by omega
    rw [e2]
    exact Nat.lt_of_lt_of_le this (by decide)
  rw [e]
  refine show_of (by simp only [tiny, a]) (by simp only [PyData.depth, c]; decide) ?_
  simp only [nodes, b, List.length_map]
  omega
theorem entry_small (ts : List Tie) (hl : ts.length ≤ 100000) (p q : Nat) : (entry ts p q).natAbs < 2 ^ 200 := by
  have h1 := List.countP_le_length (p := meets p) (l := ts)
  have h2 := List.countP_le_length (p := joins p q) (l := ts)
  have : (entry ts p q).natAbs ≤ 100000 := by
    unfold entry
    split <;> omega
  exact Nat.lt_of_le_of_lt this (by decide)
theorem tiny_rows (ts : List Tie) (n : Nat) (hl : ts.length ≤ 100000) : ∀ l : List Nat, tinyAll (l.map (rowD ts n)) = true ∧ nodesAll (l.map (rowD ts n)) = l.length * (n + 1) ∧ PyData.depthAll (l.map (rowD ts n)) ≤ 1
  | [] => by simp [tinyAll, nodesAll, PyData.depthAll]
  | p :: l => by
    obtain ⟨a, b, c⟩ := tiny_rows ts n hl l
    obtain ⟨a1, b1, c1⟩ := tiny_row (entry ts p) n fun q => entry_small ts hl p q
    refine ⟨?_, ?_, ?_⟩
    · simp only [List.map_cons, tinyAll, a, Bool.and_true]
      exact a1
    · simp only [List.map_cons, nodesAll, b, List.length_cons]
      have : nodes (rowD ts n p) = n + 1 := b1
      rw [this, Nat.succ_mul]
      omega
    · simp only [List.map_cons, PyData.depthAll]
      have : (rowD ts n p).depth = 1 := c1
      omega
theorem show_mat (n : Nat) (ts : List Tie) (hl : ts.length ≤ 100000) (hn : n ≤ 100) : Show (matD n ts) := by
  obtain ⟨a, b, c⟩ := tiny_rows ts n hl (List.range n)
  refine show_of (by simp [matD, tiny, a]) (by simp only [matD, PyData.depth]; omega) ?_
  simp only [matD, nodes, b, List.length_range]
  have := Nat.mul_le_mul hn (Nat.add_le_add_right hn 1)
  omega
theorem tiny_ties : ∀ ts : List Tie, (∀ t ∈ ts, t.1 < 100000 ∧ t.2 < 100000) → tinyAll (ts.map tieD) = true ∧ nodesAll (ts.map tieD) = 3 * ts.length ∧ PyData.depthAll (ts.map tieD) ≤ 1
  | [], _ => by simp [tinyAll, nodesAll, PyData.depthAll]
  | t :: ts, h => by
    obtain ⟨a, b, c⟩ := tiny_ties ts fun m hm => h m (List.mem_cons_of_mem _ hm)
    have ht := h t (List.mem_cons_self ..)
    obtain ⟨a1, b1, c1⟩ := tiny_ints [(t.1 : Int), (t.2 : Int)] fun m hm => by
      have e1 : (2 : Nat) ^ 200 > 100000 := by decide
      rcases List.mem_cons.mp hm with rfl | hm
      · omega
      · obtain rfl := List.mem_singleton.mp hm
        omega
    have e : tieD t = .tuple ([(t.1 : Int), (t.2 : Int)].map PyData.int) := rfl
    refine ⟨?_, ?_, ?_⟩
    · simp only [List.map_cons, tinyAll, a, Bool.and_true]
      rw [e]
      simp only [tiny]
      exact a1
    · have e2 : nodes (tieD t) = 3 := by
        rw [e]
        simp only [nodes, b1]
        rfl
      simp only [List.map_cons, nodesAll, b, e2, List.length_cons]
      omega
    · have e3 : (tieD t).depth = 1 := by
        rw [e]
        simp only [PyData.depth, c1]
      simp only [List.map_cons, PyData.depthAll, e3]
      omega
theorem show_web (n : Nat) (ts : List Tie) (h : ∀ t ∈ ts, t.1 < 100000 ∧ t.2 < 100000) (hn : n < 100000) (hl : ts.length ≤ 4000) : Show (webD n ts) := by
  obtain ⟨a, b, c⟩ := tiny_ties ts h
  have e : ((n : Int)).natAbs.log2 < 300 := by
    have : ((n : Int)).natAbs < 2 ^ 200 := Nat.lt_of_lt_of_le (show ((n : Int)).natAbs < 100000 by omega) (by decide)
    exact Nat.lt_of_lt_of_le (PySem.Flt.log2_lt_of (by decide) this) (by decide)
  refine show_of ?_ ?_ ?_
  · simp only [webD, tiesD, tiny, tinyAll, a, decide_eq_true e, Bool.and_self]
  · simp only [webD, tiesD, PyData.depth, PyData.depthAll]
    omega
  · simp only [webD, tiesD, nodes, nodesAll, b]
    omega

/-! ### the numbers of the ties at a place, by a comprehension -/
theorem lc_hits {K : PySem.W.Frag} {te : TE} {σ : L2.St} {H : Hp} {c : Addr} {ys : List V} {ts : List Tie} {p ik ie ip : Nat} {Q : VK}
    (hc : SqT K H c ys) (hys : DpAll K H ys (ts.map tieD)) (hl : ts.length ≤ 3000) (hte : ∀ Q : VK, Q (.ref c) H → te σ H Q)
    (hw : ∀ v u, wipe (((wipe σ [ik, ie]).set ik v).set ie u) [ik, ie] = wipe σ [ik, ie])
    (hk : ∀ v u, (((wipe σ [ik, ie]).set ik v).set ie u)[ik]? = some v) (he : ∀ v u, (((wipe σ [ik, ie]).set ik v).set ie u)[ie]? = some u)
    (hp : ∀ v u, (((wipe σ [ik, ie]).set ik v).set ie u)[ip]? = some (some (.int (p : Int))))
    (h : ∀ D H', H' D = some (.lst ((tiesAt ts p).map fun (k : Nat) => V.int k)) → Same H H' → H D = none → Q (.ref D) H') :
    tLc (iEnumT K (tCons te tNil)) (gTup K 2 (gCons (gName ik) (gCons (gName ie) gNil))) (tTest (tOp (rIn K false) (tVar ip) (tVar ie))) (tVar ik) [ik, ie] σ H Q := by
  have hyl : ys.length = ts.length := by rw [dpAll_len hys, List.length_map]
  refine hte _ ?_
  refine ⟨c, ys, rfl, hc, fun D hD => ?_⟩
  refine lc_run walk_enumT hD (fun i acc _ => acc = ((List.range i).filter (hit ts p)).map fun (k : Nat) => V.int k) ?_ ?_ ?_ ?_
  · exact fun H' s => sqT_same s hc
  · rfl
  · rintro i x acc H2 H' hi hacc e s r ⟨q, u, y, rfl, hq, rfl, hu, hy⟩
    cases hu
    obtain ⟨d, hd, hv⟩ := dpAll_get hys hy
    obtain ⟨t', ht', rfl⟩ := get_map hd
    have sq : Same H2 (upd H2 q (.tup [.int (i : Nat), y])) := same_new hq
    obtain ⟨pa, rfl, hpa⟩ := dp_tie (dp_same (s.trans sq) _ hv)
    refine ⟨q, _, rfl, SqT.of upd_same, rfl, _, _, rfl, _, _, rfl, rfl, hw _ _, ?_⟩
    refine ⟨_, hp _ _, _, he _ _, pa, _, rfl, .inr hpa, rfl, rfl, _, rfl, ?_⟩
    show (if inV (.int (p : Int)) [.int t'.1, .int t'.2] = true then _ else _)
    have hacc2 : ((List.range i).filter (hit ts p)).length ≤ i := Nat.le_trans (List.length_filter_le _ _) (by rw [List.length_range]; exact Nat.le_refl _)
    have hin : inV (.int (p : Int)) [.int t'.1, .int t'.2] = hit ts p i := by rw [inv_tie, hit_at ht']
    have r' : acc = ((List.range i).filter (hit ts p)).map fun (k : Nat) => V.int k := r
    rw [hin]
    refine ite2 (fun hh => ?_) (fun hh => ?_)
    · refine ⟨_, hk _ _, ?_⟩
      refine lc_add hacc e sq (by rw [r', List.length_map]; omega) ?_
      rw [range_filter_succ, if_pos hh, List.map_append, r']
      rfl
    · refine lc_skip hacc e sq ?_
      rw [range_filter_succ, if_neg hh, List.append_nil]
      exact r'
  · rintro acc H2 h1 s2 r
    have r' : acc = ((List.range ys.length).filter (hit ts p)).map fun (k : Nat) => V.int k := r
    rw [hyl] at r'
    refine h D H2 ?_ s2 hD
    rw [h1, r']
    rfl
theorem dp_lot {K : PySem.W.Frag} {H : Hp} {u : Addr} {ks : List Nat} (h : H u = some (.tup (ks.map fun (k : Nat) => V.int k))) : Dp K H (.ref u) (lotD ks) := by
  refine .tup (SqT.of h) ?_
  have e2 : (ks.map fun (k : Nat) => PyData.int k) = (ks.map fun (k : Nat) => (k : Int)).map PyData.int := by rw [List.map_map]; rfl
  have e3 : (ks.map fun (k : Nat) => V.int k) = (ks.map fun (k : Nat) => (k : Int)).map V.int := by rw [List.map_map]; rfl
  rw [e2, e3]
  exact dpAll_ints _
/-- the equal ones counted by a comprehension of ones -/
theorem lc_pairs {K : PySem.W.Frag} {tp : TE} {σ : L2.St} {H : Hp} {c : Addr} {ys : List V} {ts : List Tie} {x y ic ie : Nat} {Q : VK}
    (hc : SqT K H c ys) (hys : DpAll K H ys (ts.map tieD)) (hl : ts.length ≤ 3000) (hcs : σ[ic]? = some (some (.ref c)))
    (hw : ∀ u, wipe ((wipe σ [ie]).set ie u) [ie] = wipe σ [ie]) (he : ∀ u, ((wipe σ [ie]).set ie u)[ie]? = some u)
    (htp : ∀ u H' (Q : VK), (∀ p, H' p = none → Q (.ref p) (upd H' p (.tup [.int (x : Int), .int (y : Int)]))) → tp ((wipe σ [ie]).set ie u) H' Q)
    (h : ∀ D H', H' D = some (.lst (List.replicate (ts.countP fun t => decide (t = (x, y))) (V.int 1))) → Same H H' → H D = none → Q (.ref D) H') :
    tLc (iTup K (tVar ic)) (gName ie) (tTest (tOp (rEqD K) (tVar ie) tp)) (tC (.int 1)) [ie] σ H Q := by
  have hyl : ys.length = ts.length := by rw [dpAll_len hys, List.length_map]
  refine ⟨_, hcs, c, rfl, ⟨ys, hc⟩, fun D hD => ?_⟩
  refine lc_run (walk_tup (xs := ys)) hD (fun i acc _ => acc = List.replicate ((ts.take i).countP fun t => decide (t = (x, y))) (V.int 1)) ?_ ?_ ?_ ?_
  · exact fun H' s => sqT_same s hc
  · rfl
  · rintro i v acc H2 H' hi hacc e s r ⟨rfl, hv⟩
    obtain ⟨d, hd, hdp⟩ := dpAll_get hys hv
    obtain ⟨t, ht, rfl⟩ := get_map hd
    refine ⟨hw _, ?_⟩
    refine ⟨_, he _, htp _ _ _ fun q hq => ?_⟩
    have sq : Same H' (upd H' q (.tup [.int (x : Int), .int (y : Int)])) := same_new hq
    have s1 : SeqAt.shaped (tieD t) = true := by simp [SeqAt.shaped, tieD, PyData.canLay0, PyData.canLayAll0, PyData.depth, PyData.depthAll]
    have s2 : SeqAt.shaped (tieD (x, y)) = true := by simp [SeqAt.shaped, tieD, PyData.canLay0, PyData.canLayAll0, PyData.depth, PyData.depthAll]
    refine ⟨tieD t, tieD (x, y), dp_same (s.trans sq) _ hdp, .tup (SqT.of upd_same) (.cons (.int _) (.cons (.int _) .nil)), s1, s2, _, rfl, ?_⟩
    have r' : acc = List.replicate ((ts.take i).countP fun t => decide (t = (x, y))) (V.int 1) := r
    have hcl : (ts.take i).countP (fun t => decide (t = (x, y))) ≤ 3000 := Nat.le_trans List.countP_le_length (by rw [List.length_take]; omega)
    have hstep : (ts.take (i + 1)).countP (fun t => decide (t = (x, y))) = (ts.take i).countP (fun t => decide (t = (x, y))) + if t = (x, y) then 1 else 0 := by
      rw [List.take_add_one, ht, List.countP_append]
      show _ + List.countP _ [t] = _
      rw [List.countP_singleton]
      simp
    have heq : PyData.eqv (tieD t) (tieD (x, y)) = decide (t = (x, y)) := by
      obtain ⟨a, b⟩ := t
      have e1 : ∀ m n : Nat, (((m : Int)) == ((n : Int))) = decide (m = n) := fun m n => by
        by_cases z : m = n
        · subst z; simp
        · rw [decide_eq_false z]
          exact beq_eq_false_iff_ne.mpr fun w => z (by omega)
      have e2 : decide ((a, b) = (x, y)) = (decide (a = x) && decide (b = y)) := by
        rw [← Bool.decide_and]
        congr 1
        exact propext ⟨fun z => Prod.mk.inj z, fun z => by rw [z.1, z.2]⟩
      rw [e2]
      show (((a : Int) == (x : Int)) && (((b : Int) == (y : Int)) && true)) = _
      rw [e1, e1, Bool.and_true]
    rw [heq]
    refine ite2 (fun hh => ?_) (fun hh => ?_)
    · have hh' := of_decide_eq_true hh
      refine lc_add hacc e sq (by rw [r', List.length_replicate]; omega) ?_
      rw [hstep, if_pos hh', r', List.replicate_succ']
    · have hh' : ¬ t = (x, y) := fun z => hh (decide_eq_true z)
      refine lc_skip hacc e sq ?_
      rw [hstep, if_neg hh', Nat.add_zero]
      exact r'
  · rintro acc H2 h1 s2 r
    have r' : acc = List.replicate ((ts.take ys.length).countP fun t => decide (t = (x, y))) (V.int 1) := r
    rw [hyl, List.take_of_length_le (Nat.le_refl _)] at r'
    exact h D H2 (by rw [h1, r']) s2 hD
end BV

namespace BV
open PySem L2
theorem tupLc_by {K : PySem.W.Frag} {wi : TI} {g : TG} {tt : TT} {te : TE} {vs : List Nat} {σ : L2.St} {H : Hp} {i : Nat} {D : Ends}
    (h : tLc wi g tt te vs σ H (fun x H1 => rTupK K [x] H1 (fun v H2 => D.nx (σ.set i (some v)) H2))) :
    tAsg (tCB (rTupK K) (tCons (tLc wi g tt te vs) tNil)) (gName i) D σ H := h
theorem lenLc_by {K : PySem.W.Frag} {wi : TI} {g : TG} {tt : TT} {te : TE} {vs : List Nat} {σ : L2.St} {H : Hp} {i : Nat} {D : Ends}
    (h : tLc wi g tt te vs σ H (fun x H1 => rLenK K [x] H1 (fun v H2 => D.nx (σ.set i (some v)) H2))) :
    tAsg (tCB (rLenK K) (tCons (tLc wi g tt te vs) tNil)) (gName i) D σ H := h
end BV

namespace BV
open PySem L2
theorem reps (n : Nat) (v : V) : (List.replicate n [v]).flatten = (List.range n).map fun _ => v := by
  induction n with
  | zero => rfl
  | succ n ih =>
    rw [List.replicate_succ', List.flatten_append, ih, List.range_succ, List.map_append]
    rfl
theorem shaped_row (f : Nat → Int) (n : Nat) : SeqAt.shaped (.tuple ((List.range n).map fun q => .int (f q))) = true := by
  rw [ints_row]
  have h1 := lay_ints ((List.range n).map f)
  have h2 := deep_ints ((List.range n).map f)
  have h3 : PyData.depthAll (((List.range n).map f).map PyData.int) + 1 ≤ 64 := by omega
  simp only [SeqAt.shaped, PyData.canLay0, PyData.depth, h1, Bool.true_and]
  exact decide_eq_true h3
theorem dp_row {K : PySem.W.Frag} {H : Hp} {v : V} {f : Nat → Int} {n : Nat} (h : Dp K H v (.tuple ((List.range n).map fun q => .int (f q)))) :
    ∃ a, v = .ref a ∧ SqT K H a ((List.range n).map fun q => V.int (f q)) := by
  obtain ⟨a, xs, e, h1, h2⟩ := dp_tup h
  rw [ints_row] at h2
  rw [ints_rowV, ← dpAll_ints' h2]
  exact ⟨a, e, h1⟩
theorem eqv_self {d : PyData} (h : SeqAt.shaped d = true) : PyData.eqv d d = true := by
  have h1 : d.canLay0 = true := SeqAt.canLay_of_shaped h
  first | exact PySem.eqv_refl d h1 | exact PySem.P3.eqv_refl d h1 | exact PySem.SeqAt.eqv_refl d h1 | exact PyData.eqv_refl d h1
/-- nothing in it: two empty lists -/
theorem none_found {K : PySem.W.Frag} {H : Hp} {a b : Addr} (ha : H a = some (.lst [])) (hb : H b = some (.lst [])) :
    ∃ d e, Dp K H (.ref a) d ∧ Dp K H (.ref b) e ∧ SeqAt.shaped d = true ∧ SeqAt.shaped e = true ∧ PyData.eqv d e = true :=
  ⟨.list [], .list [], .lst (SqL.of ha) .nil, .lst (SqL.of hb) .nil, shaped_intsL [], shaped_intsL [], by rfl⟩
end BV

namespace BV
open PySem PySem.Spec PyProof.Rows L2

/-! ### t * k for k from 1 on: once is the tuple itself -/
theorem mul_once (l : Addr) (items : Array Value) (n : Nat) (dd : Option Addr) (sl : Array (Option Value)) (u : Tok) :
    Meets (Builtin.«tuple.__mul__» ⟨[.ref l, .int 1 u], []⟩) (fun _ R s => s.heap.get? l = some { cls := .type "tuple", dict := dd, data := .seq items n, slots := sl } ∧
      R (.ok (.ret (Value.ref l))) s) := by
  refine .of_wp fun prog w A R s h => ?_
  obtain ⟨hp, g, d, tk, os⟩ := s
  obtain ⟨hl, h⟩ := h
  have f1 := AutoSeq1.idx_int
  have c0 : (decide ((1 : Int) < -(2 ^ 63)) || decide ((1 : Int) ≥ 2 ^ 63)) = false := by decide
  have c1 : (items.isEmpty || (1 : Int) == 1) = true := by simp
  wp_walk using AutoSeq1.wpAny_loadPart' hl
  repeat (first
    | (refine wpAny_ite_false (decide_eq_false (by rw [c0]; exact Bool.false_ne_true)) ?_; wp_walk using AutoSeq1.wpAny_loadPart' hl)
    | (refine wpAny_ite_true (decide_eq_true c1) ?_; wp_walk using AutoSeq1.wpAny_loadPart' hl))
  exact ⟨_, rfl, h⟩
def rRepT1 (K : PySem.W.Frag) : R2 := fun x y H Q => ∃ l k xs, x = .ref l ∧ y = .int k ∧ SqT K H l xs ∧ xs ≠ [] ∧ 1 ≤ k ∧ k ≤ 1000 ∧ xs.length ≤ 1000 ∧
  (k = 1 → Q (.ref l) H) ∧ (2 ≤ k → ∀ p, H p = none → Q (.ref p) (upd H p (.tup (List.replicate k.toNat xs).flatten)))
theorem op_repT1 {X : Cx} (K : PySem.W.Frag) (hK : X.K = K := by rfl) : OpR X (binaryOp .Mult) (rRepT1 K) := by
  subst hK
  intro pins s σ H x y v u Q I rx ry h
  obtain ⟨l, k, xs, rfl, rfl, hT, hne, h1, h2, hz, q1, q2⟩ := h
  by_cases hk : k = 1
  · subst hk
    cases rx
    obtain ⟨t, rfl⟩ := ry
    obtain ⟨its, r, ⟨⟨cls, dd, data, sl⟩, ho, hc, n, hd⟩, hs⟩ := I.tuple hT
    simp only at hc hd
    subst hc hd
    refine wpAny_binaryOp_repeat_ref (T := "tuple") (U := "int") (by decide) ⟨_, ho, rfl⟩ (fun s' => typeIs_int s' 1 t) noFill_tuple_mul F.fills_int_mul F.slot_int_rmul repeat_tuple F.slot_int_index.lookup ?_
    refine call_meets F.slot_int_rmul (typeIs_int s 1 t) F.entry_int_rmul (F.args_int_rmul_2 _ _) (int_rmul_tuple 1 t l its.toArray n dd sl) ⟨ho, rfl, ⟨_, ho, rfl⟩, ?_⟩
    refine call_meets F.slot_tuple_mul ⟨_, ho, rfl⟩ F.entry_tuple_mul (F.args_tuple_mul_2 _ _) (mul_once l its.toArray n dd sl t) ⟨ho, ?_⟩
    exact ⟨.ref l, H, I, rfl, q1 rfl⟩
  · exact op_repT pins s σ H (.ref l) (.int k) v u Q I rx ry ⟨l, k, xs, rfl, rfl, hT, hne, by omega, h2, hz, q2 (by omega)⟩
end BV

namespace BV
open PySem L2
theorem mat_perm {ts us : List Tie} (h : ts.Perm us) (n : Nat) : matD n ts = matD n us := by
  unfold matD rowD
  congr 2
  funext p
  congr 2
  funext q
  rw [entry_perm h]
theorem dpAll_rev {K : PySem.W.Frag} {H : Hp} : ∀ {ds : List PyData} {vs : List V}, DpAll K H vs ds → DpAll K H vs.reverse ds.reverse
  | [], _, h => by cases h; exact .nil
  | d :: ds, _, h => by
    cases h with
    | cons h1 h2 =>
      rw [List.reverse_cons, List.reverse_cons]
      exact dpAll_app (dpAll_rev h2) (.cons h1 .nil)
theorem flat_one (k : Nat) (v : V) : (List.replicate k [v]).flatten = List.replicate k v := by
  induction k with
  | zero => rfl
  | succ k ih =>
    rw [List.replicate_succ, List.flatten_cons, ih, List.replicate_succ]
    rfl
theorem dp_fat {K : PySem.W.Frag} {H : Hp} {z t1 : Addr} {k : Nat} (hz : SqT K H z (List.replicate k (.ref t1))) (ht : SqT K H t1 [.int 0, .int 1]) :
    Dp K H (.ref z) (tiesD (List.replicate k (0, 1))) := by
  refine .tup hz ?_
  clear hz
  induction k with
  | zero => exact .nil
  | succ k ih =>
    rw [List.replicate_succ, List.replicate_succ, List.map_cons]
    exact .cons (.tup ht (.cons (.int _) (.cons (.int _) .nil))) ih
end BV

namespace BV
open PySem L2 RZ

/-! ### further rules that name the written part -/
section
variable {X : Cx} (K : PySem.W.Frag)
theorem slTA (h : X.K = K := by rfl) : SlR X (rSlA K) := by
  subst h
  exact sl_tupA
def rListK (K : PySem.W.Frag) : List V → Hp → VK → Prop := fun xs H Q => ∃ p ys, xs = [.ref p] ∧ (SqL K H p ys ∨ SqT K H p ys) ∧ ∀ l, H l = none → Q (.ref l) (upd H l (.lst ys))
theorem listK (h : X.K = K := by rfl) : CallR X (.type "list") (rListK K) := by
  subst h
  exact call_list_of
theorem revL {e : Expr} {te : TE} {k : Nat} {p1 p2 p3 pos : Pos} (he : PE X e te) (h : X.K = K := by rfl) :
    PE X (.Subscript e (.Slice none none (some (.UnaryOp .USub (.Constant (.int 1) k p1) p2)) p3) pos) (tRevL K te) := by
  subst h
  exact pe_revL he
theorem zipA {e e2 : Expr} {ta : TA} {p pos tpos : Pos} {elts : List Expr} {kk : Nat} (hg : Gl X "zip") (hm : X.mg "zip" = none) (ha : PA X [e, e2] ta)
    (hs : starEach [e, e2] X.env = (false, eval e X.env) :: starEach [e2] X.env := by rfl) (hpl : (backTo pos (starEach [e2] X.env)).any (·.1) = false := by rfl) (h : X.K = K := by rfl) :
    PI X (.Tuple elts kk tpos) (.Call (.Name "zip" p) [e, e2] [] pos) (iZipA K ta) := by
  subst h
  exact pi_zipA hg hm ha hs hpl
theorem rgc {a b c : Expr} {tg : Expr} {ta : TA} {p pos : Pos} (hg : Gl X "range") (hm : X.mg "range" = none) (ha : PA X [a, b, c] ta)
    (hs : starEach [a, b, c] X.env = (false, eval a X.env) :: starEach [b, c] X.env := by rfl) (hpl : (backTo pos (starEach [b, c] X.env)).any (·.1) = false := by rfl) :
    PI X tg (.Call (.Name "range" p) [a, b, c] [] pos) (iRng3 ta) := pi_range3 hg hm ha hs hpl
end
theorem walk_zipT {K : PySem.W.Frag} {a b : Addr} {xs ys : List V} (hl : xs.length = ys.length) :
    Walk (ItzT K a b) xs.length (fun H => SqT K H a xs ∧ SqT K H b ys) (YPair (fun i => xs[i]?) (fun i => ys[i]?)) := by
  refine ⟨fun i H hi q => ?_, fun H q => ⟨xs, ys, q.1, q.2, .inl (Nat.le_refl _)⟩, fun i H v H' _ q y => ?_⟩
  · have h2 : i < ys.length := by omega
    exact ⟨xs, ys, xs[i], ys[i], q.1, q.2, by simp [hi], by simp [h2]⟩
  · obtain ⟨T, x, z, h1, h2, h3, h4, h5⟩ := y
    exact ⟨T, x, z, h1, h2, h3, h4 xs q.1, h5 ys q.2⟩
theorem tAnd_by {ta : TT} {tb : TT} {σ : L2.St} {H : Hp} {Q : Bool → Hp → Prop} (h : tAnd ta tb σ H Q) : tAnd ta tb σ H Q := h

/-! ### numbers on ties -/
def numsD (L : Nat) (f : Nat → Int) : PyData := .tuple ((List.range L).map fun k => .int (f k))
def numsV (L : Nat) (f : Nat → Int) : List V := (List.range L).map fun k => V.int (f k)
theorem dp_nums {K : PySem.W.Frag} {H : Hp} {v : V} {L : Nat} {f : Nat → Int} (h : Dp K H v (numsD L f)) : ∃ a, v = .ref a ∧ SqT K H a (numsV L f) := dp_row h
theorem nums_dp {K : PySem.W.Frag} {H : Hp} {a : Addr} {L : Nat} {f : Nat → Int} (h : SqT K H a (numsV L f)) : Dp K H (.ref a) (numsD L f) := by
  refine .tup h ?_
  unfold numsV
  rw [ints_row, ints_rowV]
  exact dpAll_ints _
theorem numsV_len (L : Nat) (f : Nat → Int) : (numsV L f).length = L := by simp [numsV]
theorem numsV_get {L : Nat} {f : Nat → Int} {k : Nat} (h : k < L) : (numsV L f)[k]? = some (.int (f k)) := by
  unfold numsV
  rw [List.getElem?_map, List.getElem?_range h]
  rfl
theorem numsV_set (L : Nat) (f : Nat → Int) (k : Nat) (z : Int) : (numsV L f).set k (.int z) = numsV L (fun j => if j = k then z else f j) := by
  unfold numsV
  rw [range_set]
  apply List.map_congr_left
  intro j _
  by_cases h : j = k <;> simp [h]
theorem numsV_congr {L : Nat} {f g : Nat → Int} (h : ∀ k, k < L → f k = g k) : numsV L f = numsV L g :=
  List.map_congr_left fun k hk => by rw [h k (List.mem_range.mp hk)]
theorem numsD_congr {L : Nat} {f g : Nat → Int} (h : ∀ k, k < L → f k = g k) : numsD L f = numsD L g := by
  unfold numsD
  congr 1
  exact List.map_congr_left fun k hk => by rw [h k (List.mem_range.mp hk)]
theorem still_nums (L : Nat) (f : Nat → Int) : still (numsD L f) = true := by
  have h := still_ints ((List.range L).map f)
  rw [← ints_row] at h
  simpa [numsD, still] using h

/-! ### deeds -/
inductive Deed where
  | star (p : Nat) (t : Int) | round (ks : List Nat) (t : Int)
namespace Deed
def times : Deed → Int
  | star _ t => t
  | round _ t => t
def about : Deed → PyData
  | star p _ => .int p
  | round ks _ => lotD ks
def word : Deed → Str
  | star _ _ => "star"
  | round _ _ => "round"
def neg : Deed → Deed
  | star p t => star p (-t)
  | round ks t => round ks (-t)
def D (d : Deed) : PyData := .tuple [.str d.word, d.about, .int d.times]
def touch (ts : List Tie) : Deed → Nat → Bool
  | star p _, k => hit ts p k
  | round ks _, k => decide (k ∈ ks)
def part (ts : List Tie) (d : Deed) (k : Nat) : Int := if d.touch ts k = true then d.times else 0
def Ok (ts : List Tie) : Deed → Prop
  | star _ _ => True
  | round ks _ => (∀ k ∈ ks, k < ts.length) ∧ ks.Nodup
end Deed
/-- the numbers behind some deeds -/
def behind (ts : List Tie) (f : Nat → Int) : List Deed → Nat → Int
  | [] => f
  | d :: ds => behind ts (fun k => f k + d.part ts k) ds
def effect (ts : List Tie) (ds : List Deed) (k : Nat) : Int := (ds.map fun d => d.part ts k).sum
theorem behind_eq (ts : List Tie) : ∀ (ds : List Deed) (f : Nat → Int) (k : Nat), behind ts f ds k = f k + effect ts ds k
  | [], f, k => by simp [behind, effect]
  | d :: ds, f, k => by
    rw [behind, behind_eq ts ds]
    simp only [effect, List.map_cons, List.sum_cons]
    omega
theorem effect_perm {ts : List Tie} {ds es : List Deed} (h : ds.Perm es) (k : Nat) : effect ts ds k = effect ts es k := by
  induction h with
  | nil => rfl
  | cons d _ ih =>
    unfold effect at ih ⊢
    simp only [List.map_cons, List.sum_cons, ih]
  | swap a b l =>
    unfold effect
    simp only [List.map_cons, List.sum_cons]
    omega
  | trans _ _ ih1 ih2 => rw [ih1, ih2]
theorem effect_app (ts : List Tie) (ds es : List Deed) (k : Nat) : effect ts (ds ++ es) k = effect ts ds k + effect ts es k := by
  unfold effect
  rw [List.map_append, List.sum_append]
theorem touch_neg (ts : List Tie) (d : Deed) (k : Nat) : d.neg.touch ts k = d.touch ts k := by cases d <;> rfl
theorem part_neg (ts : List Tie) (d : Deed) (k : Nat) : d.neg.part ts k = -(d.part ts k) := by
  unfold Deed.part
  rw [touch_neg]
  split
  · cases d <;> rfl
  · rfl
theorem effect_neg (ts : List Tie) : ∀ (ds : List Deed) (k : Nat), effect ts (ds.map Deed.neg) k = -(effect ts ds k)
  | [], k => rfl
  | d :: ds, k => by
    have := effect_neg ts ds k
    unfold effect at this ⊢
    simp only [List.map_cons, List.sum_cons, this, part_neg]
    omega
theorem still_deed (d : Deed) : still d.D = true := by
  cases d with
  | star p t => simp [Deed.D, Deed.about, still, stillAll]
  | round ks t =>
    have h : stillAll (ks.map fun (k : Nat) => PyData.int k) = true := by
      have e : (ks.map fun (k : Nat) => PyData.int k) = (ks.map fun (k : Nat) => (k : Int)).map PyData.int := by rw [List.map_map]; rfl
      rw [e]
      exact still_ints _
    simp [Deed.D, Deed.about, still, stillAll, lotD, h]
theorem still_deeds : ∀ ds : List Deed, stillAll (ds.map Deed.D) = true
  | [] => by simp [stillAll]
  | d :: ds => by simp [stillAll, still_deed, still_deeds ds]
theorem still_lot (ks : List Nat) : still (lotD ks) = true := by
  have e : (ks.map fun (k : Nat) => PyData.int k) = (ks.map fun (k : Nat) => (k : Int)).map PyData.int := by rw [List.map_map]; rfl
  simp only [lotD, still, e]
  exact still_ints _
theorem dp_deed {K : PySem.W.Frag} {H : Hp} {v : V} {d : Deed} (h : Dp K H v d.D) :
    ∃ a va, v = .ref a ∧ SqT K H a [.str d.word, va, .int d.times] ∧ Dp K H va d.about := by
  obtain ⟨a, xs, e, h1, h2⟩ := dp_tup h
  cases h2 with
  | cons q1 q2 =>
    cases q1
    cases q2 with
    | cons q3 q4 =>
      cases q4 with
      | cons q5 q6 =>
        cases q5
        cases q6
        exact ⟨a, _, e, h1, q3⟩
theorem dp_lotI {K : PySem.W.Frag} {H : Hp} {v : V} {ks : List Nat} (h : Dp K H v (lotD ks)) : ∃ a, v = .ref a ∧ SqT K H a (ks.map fun (k : Nat) => V.int k) := by
  obtain ⟨a, xs, e, h1, h2⟩ := dp_tup h
  have e2 : (ks.map fun (k : Nat) => PyData.int k) = (ks.map fun (k : Nat) => (k : Int)).map PyData.int := by rw [List.map_map]; rfl
  have e3 : (ks.map fun (k : Nat) => V.int k) = (ks.map fun (k : Nat) => (k : Int)).map V.int := by rw [List.map_map]; rfl
  rw [e2] at h2
  rw [e3, ← dpAll_ints' h2]
  exact ⟨a, e, h1⟩
def spDo (K : PySem.W.Frag) : Sp := fun vs H Q _ => ∃ (v dv : V) (l : Addr) (n : Nat) (ts : List Tie) (d : Deed) (f : Nat → Int), vs = [v, .ref l, dv] ∧
  Dp K H v (webD n ts) ∧ Dp K H dv d.D ∧ d.Ok ts ∧ ts.length ≤ 3000 ∧ H l = some (.lst (numsV ts.length f)) ∧
  ∀ H', Kp l l H H' → H' l = some (.lst (numsV ts.length fun k => f k + d.part ts k)) → Q .non H'
def spDone (K : PySem.W.Frag) : Sp := fun vs H Q _ => ∃ (v sv dv : V) (n : Nat) (ts : List Tie) (f : Nat → Int) (ds : List Deed), vs = [v, sv, dv] ∧
  Dp K H v (webD n ts) ∧ Dp K H sv (numsD ts.length f) ∧ Dp K H dv (.tuple (ds.map Deed.D)) ∧ (∀ d ∈ ds, d.Ok ts) ∧ ts.length ≤ 3000 ∧
  ∀ u H', Same H H' → Dp K H' u (numsD ts.length (behind ts f ds)) → Q u H'
def spUndone (K : PySem.W.Frag) : Sp := fun vs H Q _ => ∃ (dv : V) (ds : List Deed), vs = [dv] ∧ Dp K H dv (.tuple (ds.map Deed.D)) ∧ ds.length ≤ 3000 ∧
  ∀ u H', Same H H' → Dp K H' u (.tuple ((ds.reverse.map Deed.neg).map Deed.D)) → Q u H'
def spDiff (K : PySem.W.Frag) : Sp := fun vs H Q _ => ∃ (v u : V) (L : Nat) (f g : Nat → Int), vs = [v, u] ∧ Dp K H v (numsD L f) ∧ Dp K H u (numsD L g) ∧ L ≤ 3000 ∧
  ∀ z H', Same H H' → Dp K H' z (numsD L fun k => g k - f k) → Q z H'
end BV

namespace BV
open PySem L2
/-! ### small data, that may be written as a text -/
structure Sm (d : PyData) (c k : Nat) : Prop where
  t : tiny d = true
  n : nodes d ≤ c
  p : d.depth ≤ k
theorem Sm.mono {d : PyData} {c k c' k' : Nat} (h : Sm d c k) (h1 : c ≤ c') (h2 : k ≤ k') : Sm d c' k' := ⟨h.t, Nat.le_trans h.n h1, Nat.le_trans h.p h2⟩
theorem sm_all {c k : Nat} : ∀ ds : List PyData, (∀ d ∈ ds, Sm d c k) → tinyAll ds = true ∧ nodesAll ds ≤ ds.length * c ∧ PyData.depthAll ds ≤ k
  | [], _ => by simp [tinyAll, nodesAll, PyData.depthAll]
  | d :: ds, h => by
    obtain ⟨a, b, e⟩ := sm_all ds fun m hm => h m (List.mem_cons_of_mem _ hm)
    obtain ⟨a1, b1, e1⟩ := h d (List.mem_cons_self ..)
    refine ⟨by simp only [tinyAll, a, a1, Bool.and_self], ?_, ?_⟩
    · simp only [nodesAll, List.length_cons]
      rw [Nat.succ_mul]
      omega
    · simp only [PyData.depthAll]
      omega
theorem sm_tup {ds : List PyData} {c k : Nat} (h : ∀ d ∈ ds, Sm d c k) : Sm (.tuple ds) (ds.length * c + 1) (k + 1) := by
  obtain ⟨a, b, e⟩ := sm_all ds h
  refine ⟨by simpa only [tiny] using a, by simp only [nodes]; omega, by simp only [PyData.depth]; omega⟩
theorem sm_lst {ds : List PyData} {c k : Nat} (h : ∀ d ∈ ds, Sm d c k) : Sm (.list ds) (ds.length * c + 1) (k + 1) := by
  obtain ⟨a, b, e⟩ := sm_all ds h
  refine ⟨by simpa only [tiny] using a, by simp only [nodes]; omega, by simp only [PyData.depth]; omega⟩
theorem sm_show {d : PyData} {c k : Nat} (h : Sm d c k) (hc : c ≤ 15000) (hk : k ≤ 40) : Show d := show_of h.t (Nat.le_trans h.p hk) (Nat.le_trans h.n hc)
theorem sm_int {z : Int} (h : z.natAbs < 2 ^ 200) : Sm (.int z) 1 0 := by
  have hl : z.natAbs.log2 < 300 := Nat.lt_of_lt_of_le (PySem.Flt.log2_lt_of (by decide) h) (by decide)
  exact ⟨by simp only [tiny, hl, decide_true], by simp only [nodes]; exact Nat.le_refl _, by simp only [PyData.depth]; exact Nat.le_refl _⟩
theorem sm_nat {k : Nat} (h : k < 100000) : Sm (.int (k : Int)) 1 0 := sm_int (Nat.lt_of_lt_of_le (show ((k : Int)).natAbs < 100000 by omega) (by decide))
theorem sm_lot {ks : List Nat} (h : ∀ k ∈ ks, k < 100000) : Sm (lotD ks) (ks.length + 1) 1 := by
  have := sm_tup (ds := ks.map fun (k : Nat) => PyData.int k) (c := 1) (k := 0) fun d hd => by
    obtain ⟨k, hk, rfl⟩ := List.mem_map.mp hd
    exact sm_nat (h k hk)
  rw [List.length_map, Nat.mul_one] at this
  exact this
theorem sm_nums {L : Nat} {f : Nat → Int} (h : ∀ k, (f k).natAbs < 2 ^ 200) : Sm (numsD L f) (L + 1) 1 := by
  have := sm_tup (ds := (List.range L).map fun k => PyData.int (f k)) (c := 1) (k := 0) fun d hd => by
    obtain ⟨k, hk, rfl⟩ := List.mem_map.mp hd
    exact sm_int (h k)
  rw [List.length_map, List.length_range, Nat.mul_one] at this
  exact this
theorem sm_tie {t : Tie} (h : t.1 < 100000 ∧ t.2 < 100000) : Sm (tieD t) 3 1 :=
  sm_tup (ds := [.int t.1, .int t.2]) (c := 1) (k := 0) fun d hd => by
    rcases List.mem_cons.mp hd with rfl | hd
    · exact sm_nat h.1
    · obtain rfl := List.mem_singleton.mp hd
      exact sm_nat h.2
theorem sm_web {n : Nat} {ts : List Tie} (h : ∀ t ∈ ts, t.1 < 100000 ∧ t.2 < 100000) (hn : n < 100000) : Sm (webD n ts) (6 * ts.length + 3) 3 := by
  have h1 : Sm (tiesD ts) (ts.length * 3 + 1) 2 := by
    have := sm_tup (ds := ts.map tieD) (c := 3) (k := 1) fun d hd => by
      obtain ⟨k, hk, rfl⟩ := List.mem_map.mp hd
      exact sm_tie (h k hk)
    rw [List.length_map] at this
    exact this
  have h2 := sm_tup (ds := [.int n, tiesD ts]) (c := ts.length * 3 + 1) (k := 2) fun d hd => by
    rcases List.mem_cons.mp hd with rfl | hd
    · exact (sm_nat hn).mono (by omega) (by omega)
    · obtain rfl := List.mem_singleton.mp hd
      exact h1
  exact h2.mono (by show 2 * (ts.length * 3 + 1) + 1 ≤ _; omega) (Nat.le_refl _)
theorem sm_deed {d : Deed} {m : Nat} (h1 : d.times.natAbs < 2 ^ 200) (h2 : Sm d.about m 1) (hm : 1 ≤ m) : Sm d.D (3 * m + 1) 2 := by
  refine sm_tup (ds := [.str d.word, d.about, .int d.times]) (c := m) (k := 1) fun e he => ?_
  rcases List.mem_cons.mp he with rfl | he
  · refine ⟨?_, by simp only [nodes]; exact hm, by simp only [PyData.depth]; omega⟩
    cases d with
    | star p t => show tiny (.str "star") = true; decide
    | round ks t => show tiny (.str "round") = true; decide
  · rcases List.mem_cons.mp he with rfl | he
    · exact h2
    · obtain rfl := List.mem_singleton.mp he
      exact (sm_int h1).mono hm (by omega)
theorem sm_deeds {ds : List Deed} {m : Nat} (h : ∀ d ∈ ds, d.times.natAbs < 2 ^ 200 ∧ Sm d.about m 1) (hm : 1 ≤ m) : Sm (.tuple (ds.map Deed.D)) (ds.length * (3 * m + 1) + 1) 3 := by
  have := sm_tup (ds := ds.map Deed.D) (c := 3 * m + 1) (k := 2) fun e he => by
    obtain ⟨d, hd, rfl⟩ := List.mem_map.mp he
    exact sm_deed (h d hd).1 (h d hd).2 hm
  rw [List.length_map] at this
  exact this
/-- how much some deeds can do -/
theorem effect_abs {ts : List Tie} {B : Nat} : ∀ (ds : List Deed) (k : Nat), (∀ d ∈ ds, d.times.natAbs ≤ B) → (effect ts ds k).natAbs ≤ ds.length * B
  | [], k, _ => by simp [effect]
  | d :: ds, k, h => by
    have ih := effect_abs (ts := ts) ds k fun m hm => h m (List.mem_cons_of_mem _ hm)
    have hd := h d (List.mem_cons_self ..)
    have hp : (d.part ts k).natAbs ≤ B := by
      unfold Deed.part
      split
      · exact hd
      · simp
    unfold effect at ih ⊢
    simp only [List.map_cons, List.sum_cons, List.length_cons]
    rw [Nat.succ_mul]
    omega
theorem behind_abs {ts : List Tie} {B M : Nat} {f : Nat → Int} (ds : List Deed) (k : Nat) (h : ∀ d ∈ ds, d.times.natAbs ≤ B) (hf : ∀ k, (f k).natAbs ≤ M) :
    (behind ts f ds k).natAbs ≤ M + ds.length * B := by
  rw [behind_eq]
  have h1 := effect_abs (ts := ts) ds k h
  have h2 := hf k
  omega
theorem neg_neg (d : Deed) : d.neg.neg = d := by
  cases d <;> simp [Deed.neg]
theorem map_neg_neg (ds : List Deed) : (ds.map Deed.neg).map Deed.neg = ds := by
  rw [List.map_map]
  have : Deed.neg ∘ Deed.neg = id := funext neg_neg
  rw [this, List.map_id]
end BV
namespace BV
open PySem L2
theorem atI_last {xs : List V} {v : V} (h0 : 0 < xs.length) (h : xs[xs.length - 1]? = some v) : atI xs (-1) = some v := by
  have e : ixN xs.length (-1) = some (xs.length - 1) := by
    unfold ixN
    rw [if_neg (by omega), if_pos (by omega)]
    congr 1
    omega
  unfold atI
  rw [e]
  exact h
end BV
namespace BV
open PySem L2
theorem dpAll_take {K : PySem.W.Frag} {H : Hp} : ∀ {ds : List PyData} {vs : List V} (j : Nat), DpAll K H vs ds → DpAll K H (vs.take j) (ds.take j)
  | [], _, j, h => by cases h; simpa using DpAll.nil
  | d :: ds, _, 0, h => .nil
  | d :: ds, _, j + 1, h => by
    cases h with
    | cons h1 h2 => exact .cons h1 (dpAll_take j h2)
theorem dpAll_drop {K : PySem.W.Frag} {H : Hp} : ∀ {ds : List PyData} {vs : List V} (j : Nat), DpAll K H vs ds → DpAll K H (vs.drop j) (ds.drop j)
  | [], _, j, h => by cases h; simpa using DpAll.nil
  | d :: ds, _, 0, h => h
  | d :: ds, _, j + 1, h => by
    cases h with
    | cons h1 h2 => exact dpAll_drop j h2
theorem sIx_nat (n d j : Nat) : HT.sIx n d (some (j : Int)) = min j n := by
  unfold HT.sIx
  show (if (j : Int) < 0 then _ else min (j : Int).toNat n) = _
  rw [if_neg (by omega), Int.toNat_natCast]
theorem cut_hi (xs : List V) (j : Nat) : cutV xs none (some (j : Int)) = xs.take j := by
  unfold cutV
  rw [sIx_nat]
  show List.take (min j xs.length - 0) (List.drop 0 xs) = _
  rw [Nat.sub_zero, List.drop_zero]
  by_cases h : j ≤ xs.length
  · rw [Nat.min_eq_left h]
  · rw [Nat.min_eq_right (by omega), List.take_of_length_le (Nat.le_refl _), List.take_of_length_le (by omega)]
theorem cut_lo (xs : List V) (j : Nat) : cutV xs (some (j : Int)) none = xs.drop j := by
  unfold cutV
  rw [sIx_nat]
  show List.take (xs.length - min j xs.length) (List.drop (min j xs.length) xs) = _
  by_cases h : j ≤ xs.length
  · rw [Nat.min_eq_left h]
    exact List.take_of_length_le (by rw [List.length_drop]; exact Nat.le_refl _)
  · rw [Nat.min_eq_right (by omega), List.drop_of_length_le (Nat.le_refl _), List.drop_of_length_le (by omega)]
    simp
theorem at_st {t : TS} {D : Ends} {σ : L2.St} {H : Hp} (σ' : L2.St) (e : σ = σ') (h : t D σ' H) : t D σ H := by
  subst e
  exact h
end BV
namespace BV
open PySem L2
theorem slA_by {K : PySem.W.Frag} {x : V} {lo hi : Option Int} {H : Hp} {Q : VK} {a : Addr} {xs : List V} (hx : x = .ref a) (h : SqT K H a xs)
    (k : ∀ (c : Addr) H', Same H H' → SqT K H' c (cutV xs lo hi) → Q (.ref c) H') : rSlA K x lo hi H Q := by
  refine ⟨a, xs, hx, h, fun z => k _ _ (Same.refl _) ?_, fun _ p hp => k _ _ (same_new hp) (SqT.of upd_same)⟩
  have e : cutV xs lo hi = xs := by
    unfold cutV
    rw [z.1, z.2, List.drop_zero, Nat.sub_zero, List.take_of_length_le (Nat.le_refl _)]
  rw [e]
  exact h
end BV

namespace BV
open PySem PySem.Spec PyProof.Rows L2
theorem cr_minT {X : Cx} (hc : X.calm = true) : CallR X (.builtin "min")
    (fun vs H Q => ∃ (a : Addr) (ns : List Int), vs = [V.ref a] ∧ SqT X.K H a (ns.map V.int) ∧ 0 < ns.length ∧ ∀ m, m ∈ ns → (∀ y ∈ ns, m ≤ y) → Q (.int m) H) := by
  intro pins s σ H vs us Q I r h
  obtain ⟨a, ns, rfl, hs, hpos, q⟩ := h
  obtain ⟨its, rv, hl, _⟩ := I.tuple hs
  rw [Vals.ref1 r]
  have hi := rv.ints
  obtain ⟨xs, e⟩ := hi.allInts.items
  have hn : numsOf (intItems xs).toList = ns := by rw [← e]; exact hi.numsOf
  rw [nums_intItems] at hn
  have hl2 : s.heap.IsTuple a its.toArray := hl
  rw [e] at hl2
  have hd := I.ok.hd hc
  have hsz : ns.length = xs.size := by rw [← hn]; simp
  have alt : a < s.heap.objs.size := by
    obtain ⟨o, h1, _⟩ := hl2
    exact Heap.lt_size h1
  have isz : (intItems xs).size = xs.size := by simp [intItems]
  refine call_min_walk (wpAny_pyIter_tuple hl2 ⟨_, _, _, _, _, _, _, rfl, Walks.tuple ?_ s.heap.objs.size a (Nat.ne_of_lt alt) (intItems xs), ⟨?_, ?_⟩, ?_, ?_, CmpOf.ints_lt (numAt xs) ?_, fun v h' tk hP hk => ?_⟩)
  · exact hd
  · exact ⟨_, Heap.get?_push_size _ rfl, rfl, rfl⟩
  · exact hl2.push _
  · intro b hb
    show b < (s.heap.objs.push _).size
    rw [Array.size_push]
    rcases List.mem_cons.mp hb with rfl | hb
    · exact Nat.lt_succ_self _
    · obtain rfl := List.mem_singleton.mp hb
      exact Nat.lt_succ_of_lt alt
  · rw [isz]
    omega
  · exact fun i v hv => intItems_at hv
  · rw [isz] at hP
    obtain ⟨t, rfl⟩ := intItems_at hP
    obtain ⟨b1, b2⟩ := argBest_lt (numAt xs) (xs.size - 1)
    refine ⟨.int _, H, I.kept fun b o hb => ?_, ⟨_, rfl⟩, ?_⟩
    · exact hk b o (fun z => by
        obtain rfl := List.mem_singleton.mp z
        exact Nat.lt_irrefl _ (Heap.lt_size hb)) (Heap.get?_push_of_some _ hb)
    · have nat : ∀ i, i < xs.size → numAt xs i ∈ ns ∧ True := fun i hi => by
        refine ⟨?_, trivial⟩
        rw [← hn]
        unfold numAt
        rw [Array.getElem?_eq_getElem hi]
        exact List.mem_map.mpr ⟨xs[i], by simp, rfl⟩
      refine q _ (nat _ (by omega)).1 fun y hy => ?_
      rw [← hn] at hy
      obtain ⟨p, hp, rfl⟩ := List.mem_map.mp hy
      obtain ⟨j, hj, rfl⟩ := List.mem_iff_getElem.mp hp
      have hj' : j < xs.size := by simpa using hj
      have := b2 j (by omega)
      have e2 : numAt xs j = (xs.toList[j]).1 := by
        unfold numAt
        rw [Array.getElem?_eq_getElem hj']
        simp
      rw [← e2]
      exact this
end BV
namespace BV
open PySem L2
section
variable {X : Cx} (K : PySem.W.Frag)
def rMinT (K : PySem.W.Frag) : List V → Hp → VK → Prop := fun vs H Q => ∃ (a : Addr) (ns : List Int), vs = [V.ref a] ∧ SqT K H a (ns.map V.int) ∧ 0 < ns.length ∧ ∀ m, m ∈ ns → (∀ y ∈ ns, m ≤ y) → Q (.int m) H
theorem minTK (hc : X.calm = true := by rfl) (h : X.K = K := by rfl) : CallR X (.builtin "min") (rMinT K) := by
  subst h
  exact cr_minT hc
theorem minLK (hc : X.calm = true := by rfl) (h : X.K = K := by rfl) : CallR X (.builtin "min") (rMin K) := by
  subst h
  exact cr_min hc
theorem anyLK (hc : X.calm = true := by rfl) (h : X.K = K := by rfl) : CallR X (.builtin "any") (rAny K) := by
  subst h
  exact cr_any hc
end
end BV

namespace BV
open PySem L2
/-! ### comprehensions that draw -/
theorem era_kp {b g D : Addr} {H H' : Hp} (s : Kp b g H H') : Kp b g (era H D) (era H' D) := fun a o e n1 n2 => by
  by_cases h : a = D
  · subst h
    rw [era_at] at e
    cases e
  · rw [era_ne h] at e ⊢
    exact s _ _ e n1 n2
theorem box_era {b g D : Addr} {H : Hp} (x : Box H b g) (h1 : D ≠ b) (h2 : D ≠ g) : Box (era H D) b g := by
  obtain ⟨⟨st, c, x1⟩, ns, x2, x3⟩ := x
  exact ⟨⟨st, c, by rw [era_ne h1.symm]; exact x1⟩, ns, by rw [era_ne h2.symm]; exact x2, x3⟩
theorem bx_set {b g l : Addr} {H : Hp} {o : HO} (x : Box H b g) (h1 : l ≠ b) (h2 : l ≠ g) : Box (upd H l o) b g := by
  obtain ⟨⟨st, c, x1⟩, ns, x2, x3⟩ := x
  exact ⟨⟨st, c, by rw [upd_ne h1.symm]; exact x1⟩, ns, by rw [upd_ne h2.symm]; exact x2, x3⟩
theorem bx_ne {b g l : Addr} {H : Hp} (x : Box H b g) (h : H l = none) : l ≠ b ∧ l ≠ g := by
  obtain ⟨⟨st, c, x1⟩, ns, x2, x3⟩ := x
  exact ⟨fun e => (by rw [e, x1] at h; cases h), fun e => (by rw [e, x2] at h; cases h)⟩
/-- as LcI, with the box of draws -/
def LcB (b g : Addr) (H1 : Hp) (D : Addr) (R : Nat → List V → Hp → Prop) (i : Nat) (H : Hp) : Prop :=
  ∃ acc, H D = some (.lst acc) ∧ Kp b g H1 (era H D) ∧ Box H b g ∧ R i acc (era H D)
theorem lc_addB {b g : Addr} {H1 H H4 : Hp} {D : Addr} {R : Nat → List V → Hp → Prop} {i : Nat} {acc : List V} {y : V} (nb : D ≠ b) (ng : D ≠ g) (ha : H D = some (.lst acc))
    (e : Kp b g H1 (era H D)) (s : Kp b g H H4) (x : Box H4 b g) (hl : acc.length < 100000) (r : R i (acc ++ [y]) (era H4 D)) :
    ∃ acc, H4 D = some (.lst acc) ∧ acc.length < sizeLine ∧ LcB b g H1 D R i (upd H4 D (.lst (acc ++ [y]))) := by
  refine ⟨acc, s _ _ ha nb ng, Nat.lt_of_lt_of_le hl (by decide), acc ++ [y], upd_same, ?_, bx_set x nb ng, ?_⟩
  · rw [era_upd]
    exact e.trans (era_kp s)
  · rw [era_upd]
    exact r
theorem lc_skipB {b g : Addr} {H1 H H3 : Hp} {D : Addr} {R : Nat → List V → Hp → Prop} {i : Nat} {acc : List V} (nb : D ≠ b) (ng : D ≠ g) (ha : H D = some (.lst acc))
    (e : Kp b g H1 (era H D)) (s : Kp b g H H3) (x : Box H3 b g) (r : R i acc (era H3 D)) : LcB b g H1 D R i H3 :=
  ⟨acc, s _ _ ha nb ng, e.trans (era_kp s), x, r⟩
theorem lc_runB {b g0 : Addr} {J : It} {n : Nat} {G : Hp → Prop} {Y : Nat → Hp → V → Hp → Prop} (w : Walk J n G Y) {g : TG} {tt : TT} {te : TE} {vs : List Nat}
    {σ : L2.St} {H1 : Hp} {D : Addr} {Qd : Hp → Prop} (hD : H1 D = none) (hB : Box H1 b g0) (R : Nat → List V → Hp → Prop)
    (hG : ∀ H, Kp b g0 H1 H → Box H b g0 → G H) (h0 : R 0 [] H1)
    (hs : ∀ i x acc H H', D ≠ b → D ≠ g0 → i < n → H D = some (.lst acc) → Kp b g0 H1 (era H D) → Kp b g0 H1 H → Box H b g0 → R i acc (era H D) → Y i H x H' →
      g x (wipe σ vs) H' fun σ2 H2 => wipe σ2 vs = wipe σ vs ∧ tt σ2 H2 fun t H3 =>
        if t = true then te σ2 H3 fun y H4 => ∃ acc, H4 D = some (.lst acc) ∧ acc.length < sizeLine ∧ LcB b g0 H1 D R (i + 1) (upd H4 D (.lst (acc ++ [y])))
        else LcB b g0 H1 D R (i + 1) H3)
    (hd : ∀ acc H, H D = some (.lst acc) → Kp b g0 H1 H → Box H b g0 → R n acc (era H D) → Qd H) :
    ∃ W : Nat → Nat → Hp → Prop, (∃ m, W 0 m (upd H1 D (.lst []))) ∧ ∀ i m H, W i m H →
      (J.stop i H ∧ Qd H) ∨ (J.go i H ∧ ∃ Nx : Hp → Prop, (∀ H', Nx H' → ∃ m', m' < m ∧ W (i + 1) m' H') ∧
        ∀ x H', J.yld i H x H' → g x (wipe σ vs) H' fun σ2 H2 => wipe σ2 vs = wipe σ vs ∧ tt σ2 H2 fun b H3 =>
        if b = true then te σ2 H3 fun y H4 => ∃ acc, H4 D = some (.lst acc) ∧ acc.length < sizeLine ∧ Nx (upd H4 D (.lst (acc ++ [y]))) else Nx H3) := by
  obtain ⟨nb, ng⟩ := bx_ne hB hD
  have back : ∀ {H : Hp}, Kp b g0 H1 (era H D) → Kp b g0 H1 H := fun e => e.trans (Kp.same era_back)
  refine lc_it w (LcB b g0 H1 D R) ?_ ?_ ?_ ?_
  · exact ⟨[], upd_same, by rw [era_upd, era_none hD]; exact Kp.refl _, bx_set hB nb ng, by rw [era_upd, era_none hD]; exact h0⟩
  · rintro i H _ ⟨acc, _, e, x, _⟩
    exact hG H (back e) x
  · rintro i x acc' H' hi ⟨acc, ha, e, bx, r⟩ y
    exact hs i x acc _ _ nb ng hi ha e (back e) bx r y
  · rintro H ⟨acc, ha, e, bx, r⟩
    exact hd acc H ha (back e) bx r
end BV

namespace BV
open PySem L2
/-! ### data, the empty dict among it -/
def Od (K : PySem.W.Frag) (H : Hp) (x : V) (d : PyData) : Prop := Dp K H x d ∨ (d = .dict [] ∧ ∃ a, x = .ref a ∧ H a = some (.dK []))
theorem Od.same {K : PySem.W.Frag} {H H' : Hp} {x : V} {d : PyData} (s : Same H H') (h : Od K H x d) : Od K H' x d := by
  rcases h with h | ⟨rfl, a, rfl, h⟩
  · exact .inl (dp_same s _ h)
  · exact .inr ⟨rfl, a, rfl, s _ _ h⟩
def tyN : PyData → String
  | .none => "NoneType"
  | .bool _ => "bool"
  | .int _ => "int"
  | .str _ => "str"
  | .list _ => "list"
  | .tuple _ => "tuple"
  | .dict _ => "dict"
theorem sq_list_ty {K : PySem.W.Frag} {H : Hp} {a : Addr} {xs : List V} (h : SqL K H a xs) : TyX K H (.ref a) (.type "list") := by
  rcases h with (h | ⟨o, h⟩) | h
  · exact .base (.lst h)
  · exact .base (.frz h)
  · obtain ⟨o, its, n, h1, h2, _⟩ := h
    exact .kList h1 h2
theorem sq_tup_ty {K : PySem.W.Frag} {H : Hp} {a : Addr} {xs : List V} (h : SqT K H a xs) : TyX K H (.ref a) (.type "tuple") := by
  rcases h with (h | ⟨o, h⟩) | h
  · exact .base (.tup h)
  · exact .fTuple h
  · obtain ⟨o, its, n, h1, h2, _⟩ := h
    exact .kTuple h1 h2
theorem ty_of {K : PySem.W.Frag} {H : Hp} {x : V} {d : PyData} (h : Od K H x d) : TyX K H x (.type (tyN d)) := by
  rcases h with h | ⟨rfl, a, rfl, h⟩
  · cases h with
    | non => exact .base .non
    | bl b => exact .base (.bl b)
    | int i => exact .base (.int i)
    | str s => exact .base (.str s)
    | lst h1 _ => exact sq_list_ty h1
    | tup h1 _ => exact sq_tup_ty h1
  · exact .base (.dK h)
def rIsiD (K : PySem.W.Frag) : List V → Hp → VK → Prop := fun xs H Q => ∃ (x : V) (d : PyData) (T : String) (b : Bool), xs = [x, .ty T] ∧ Od K H x d ∧ kitB (tyN d) T = some b ∧ Q (.bl b) H
theorem isiD {X : Cx} (K : PySem.W.Frag) (h : X.K = K := by rfl) : CallR X (.builtin "isinstance") (rIsiD K) := by
  subst h
  intro pins s σ H vs us Q I r h
  obtain ⟨x, d, T, b, rfl, hd, hk, q⟩ := h
  exact call_isi pins s σ H _ us Q I r ⟨x, _, _, _, b, rfl, .ty T, ty_of hd, kit_ty hk, q⟩
def isTup : PyData → Bool
  | .tuple _ => true
  | _ => false
def isInt : PyData → Bool
  | .int _ => true
  | _ => false
theorem kit_tup (d : PyData) : kitB (tyN d) "tuple" = some (isTup d) := by
  cases d <;> simp only [tyN, isTup] <;> decide +kernel
def isIntB : PyData → Bool
  | .int _ => true
  | .bool _ => true
  | _ => false
def isBool : PyData → Bool
  | .bool _ => true
  | _ => false
theorem kit_int (d : PyData) : kitB (tyN d) "int" = some (isIntB d) := by
  cases d <;> simp only [tyN, isIntB] <;> decide +kernel
theorem kit_bool (d : PyData) : kitB (tyN d) "bool" = some (isBool d) := by
  cases d <;> simp only [tyN, isBool] <;> decide +kernel
end BV

namespace BV
open PySem PySem.Spec PyProof.Rows L2
/-! ### an own error without arguments: raised, caught, looked at -/
section
variable {X : Cx} {C : Addr} {mr : List Value} {B n1 n2 : String}
theorem pmk_bare {x : Str} {p pos : Pos} (F : ExcBaseFacts B n1 n2 mr) (hq : PySem.W.excIn X.K C mr n1 = true) (hm : X.mg x = some (.ref C)) (hk : PySem.W.keepIn X.K (.ref C) = true) (hr : Raises X (.ref C)) (hg : Gl X x)
    (hdb : (x == ("__debug__" : Str)) = false := by decide) : PMk X (.Call (.Name x p) [] [] pos) (fun _ H Q => Q (.ref C) none H) := by
  intro pins ⟨hp, gn, dr, tk, os⟩ σ H Q J q0
  refine wpAny_Call_Name_kw (ld_glob J hg hm (PySem.W.callWith_K0 J.kIn hk ?_) hdb)
  have ⟨c1, c2, c3, c4, c5, c6, c7, c8, c9, d1, d2, d3, d4, d5, d6, d7, e1, e2, e3, e4, e5⟩ := exc_obj J.kIn hq
  exact wpAny_call_exc_subT F e5 e2 e3 e4 (fun _ _ made => mk_of J made hr q0 (J.hok.gone made.new)) (Nat.zero_le _)
end
/-- what is known of the class Unfit, under BothError -/
structure ErrU (K : PySem.W.Frag) (mg : Str → Option Value) (U B : Addr) : Prop where
  gU : mg "Unfit" = some (.ref U)
  gB : mg "BothError" = some (.ref B)
  gv : mg "ValueError" = none
  xU : PySem.W.excIn K U [.type "ValueError", .type "Exception", .type "BaseException", .type "object"] "ValueError.__new__" = true
  kU : PySem.W.keepIn K (.ref U) = true
  bU : PySem.W.subIn K (.ref U) (.type "BaseException") = some true
  tU : PySem.W.typeIn K (.ref U) = some (.type "type")
  te : PySem.W.exmOne K (.ref U) (.ref U) = some true
  ex : ExcC K U
  iv : PySem.W.kitOne K (.ref U) (.type "ValueError") = some true
  ib : PySem.W.kitOne K (.ref U) (.ref B) = some true
theorem ErrU.raises {X : Cx} {U B : Addr} (T : ErrU X.K X.mg U B) : Raises X (.ref U) := raises_own T.bU T.tU
theorem ps_unfit {X : Cx} {U B : Addr} {W : WX} {p pos pos2 : Pos} (hc : X.calm = true) (T : ErrU X.K X.mg U B) (tk : Takes X W) (hg : Gl X "Unfit" := by rfl) :
    PS X (.Raise (some (.Call (.Name "Unfit" p) [] [] pos)) none pos2) (fun _ σ H => W (.ref U) none σ H) :=
  ps_raise hc tk (pmk_bare PySem.F.excBase_ValueError T.xU T.gU T.kU T.raises hg)
/-- isinstance(e, c), e the error that the suite holds -/
def rIsX (K : PySem.W.Frag) (a : Addr) (cls : Value) (d : Option Addr) : List V → Hp → VK → Prop := fun xs H Q => ∃ U, ExcC K U ∧ cls = .ref U ∧ d = none ∧ rIsE K U a xs H Q
theorem isX {X : Cx} {a : Addr} {oe : Obj} {cls : Value} {d : Option Addr} {pn : List (Addr × Obj)} (hz : Zc cls d oe) (hf : ∃ vs, oe.data = .fields vs) : CallR (X.suite a ((a, oe) :: pn)) (.builtin "isinstance") (rIsX X.K a cls d) := by
  intro pins s σ H xs us Q J r h
  obtain ⟨U, hC, e1, e2, h⟩ := h
  subst e1 e2
  exact call_isE hC hz hf pins s σ H xs us Q J r h
section
variable {X : Cx} {CX : CXT} {k n : Nat} {f : Addr} {fd : FuncData} {ps ks : List Str} {sp : Sp} {dvs : List V} {ds : List Value}
  {E : L2.St → XK} {x : Str} {p pos : Pos} {tk : TA} {kws : List Keyword} {g : List Value → List Value → List Value} {gV : List V → List V → List V}
def tCallKS (m : Nat) (sp : Sp) (gV : List V → List V → List V) (E : L2.St → XK) (tk : TA) : TE := fun σ H Q => tk σ H fun zs H2 => zs.length = m ∧ sp (gV [] zs) H2 Q (E σ)
/-- f(k = v, ..), where what f raises is wished for at the slots -/
theorem pe_callKS (F : FnOk X.prog X.w X.K X.mg X.base CX k f fd ps sp) (hr : Room k X.A) (hg : Gl X x) (hm : X.mg x = some (.ref f)) (hk : PySem.W.keepIn X.K (.ref f) = true)
    (hb : KBn X.K fd ps 0 ks g gV) (hx : ∀ σ, PassesAt CX X σ (E σ)) (hkw : PK X kws tk)
    (hall : (backToKw pos (keywordEach kws X.env)).all (·.1.isSome) = true := by rfl) (hks : (backToKw pos (keywordEach kws X.env)).filterMap (·.1) = ks := by rfl)
    (hdb : (x == ("__debug__" : Str)) = false := by decide)
    (hpl : ((backTo pos (starEach [] X.env)).any (·.1) || (backToKw pos (keywordEach kws X.env)).any (·.1.isNone)) = false := by rfl) :
    PE X (.Call (.Name x p) [] kws pos) (tCallKS ks.length sp gV E tk) := by
  constructor
  intro pins s σ H Q J h
  refine wpAny_Call_Name_kw (ld_glob J hg hm ?_ hdb)
  refine PySem.W.callWith_KW0 (h₀ := X.base) J.ok.mod.kin hk hall (thn (hkw.run pos pins s σ H _ J h) fun ws s2 hh => ?_) hpl
  obtain ⟨zs, H2, J2, rz, l2, q2⟩ := hh
  refine ⟨J2.kIn, ?_⟩
  rw [hks]
  refine wpAny_call (codeAny_mono (F.run X.A X.stack s2 H2 ⟨[], ks.zip ws⟩ _ _ Q (E σ) hr J2.env0 (hb.to s2 [] ws J2.kIn rfl (by rw [← rz.length]; exact l2)) (hb.rel .nil rz) q2) fun r s' hq => ?_)
  cases r with
  | error e => exact hx σ pins H2 s2 e s' J2 hq
  | ok fl =>
    cases fl with
    | ret u => exact J2.after hq
    | next => exact hq.elim
    | brk => exact hq.elim
    | cont => exact hq.elim
end
end BV

namespace BV
open PySem L2
section
variable {X : Cx} (K : PySem.W.Frag)
theorem catA (h : X.K = K := by rfl) : OpR X (binaryOp .Add) (rCatA K) := by
  subst h
  exact op_catA
end
theorem catA_by {K : PySem.W.Frag} {x y : V} {H : Hp} {Q : VK} {a b : Addr} {xs ys : List V} (hx : x = .ref a) (hy : y = .ref b) (h1 : SqT K H a xs) (h2 : SqT K H b ys) (hl : xs.length + ys.length ≤ 100000)
    (k : ∀ (c : Addr) H', Same H H' → SqT K H' c (xs ++ ys) → Q (.ref c) H') : rCatA K x y H Q := by
  refine ⟨a, b, xs, ys, hx, hy, h1, h2, Nat.le_trans hl (by decide), fun e => ?_, fun _ e => ?_, fun _ _ p hp => ?_⟩
  · subst e
    exact k _ _ (Same.refl _) h2
  · subst e
    exact k _ _ (Same.refl _) (by rw [List.append_nil]; exact h1)
  · exact k _ _ (same_new hp) (SqT.of upd_same)
theorem sqL_same {K : PySem.W.Frag} {H H' : Hp} {a : Addr} {xs : List V} (s : Same H H') (h : SqL K H a xs) : SqL K H' a xs := by
  rcases h with (h | ⟨o, h⟩) | h
  · exact .inl (.inl (s _ _ h))
  · exact .inl (.inr ⟨o, s _ _ h⟩)
  · exact .inr h
/-- [1 for z in zs if z < 0], walked to the place i -/
def Ones (zs : List Int) (i : Nat) (acc : List V) : Prop := ∃ m : Nat, acc = (List.replicate m (1 : Int)).map V.int ∧ m ≤ i ∧ (m = 0 ↔ ∀ z ∈ zs.take i, 0 ≤ z)
theorem Ones.yes {zs : List Int} {i : Nat} {acc : List V} {z : Int} (h : Ones zs i acc) (hz : zs[i]? = some z) (hn : z < 0) : Ones zs (i + 1) (acc ++ [.int 1]) := by
  obtain ⟨m, rfl, h1, _⟩ := h
  refine ⟨m + 1, ?_, by omega, ?_⟩
  · rw [List.replicate_succ', List.map_append]
    rfl
  · constructor
    · intro e
      omega
    · intro e
      have := e z (by rw [List.take_add_one, hz]; simp)
      omega
theorem Ones.no {zs : List Int} {i : Nat} {acc : List V} {z : Int} (h : Ones zs i acc) (hz : zs[i]? = some z) (hn : ¬ z < 0) : Ones zs (i + 1) acc := by
  obtain ⟨m, rfl, h1, h2⟩ := h
  refine ⟨m, rfl, by omega, ?_⟩
  rw [h2, List.take_add_one, hz]
  constructor
  · intro e x hx
    rcases List.mem_append.mp hx with q | q
    · exact e x q
    · have : x = z := by simpa using q
      omega
  · intro e x hx
    exact e x (List.mem_append_left _ hx)
theorem ones_eqv (m : Nat) : (PyData.list ((List.replicate m (1 : Int)).map PyData.int)).eqv (.list []) = decide (m = 0) := by
  cases m with
  | zero => rfl
  | succ m => rfl
end BV

namespace BV
open PySem PySem.Spec PyProof.Rows L2
/-! ### (v,) * k for any k from 0 on -/
theorem mul_none (l : Addr) (items : Array Value) (n : Nat) (dd : Option Addr) (sl : Array (Option Value)) (u : Tok) (hi : items.isEmpty = false) :
    Meets (Builtin.«tuple.__mul__» ⟨[.ref l, .int 0 u], []⟩) (fun _ R s => s.heap.get? l = some { cls := .type "tuple", dict := dd, data := .seq items n, slots := sl } ∧
      R (.ok (.ret (Value.ref s.heap.objs.size))) { s with heap := s.heap.push { cls := Value.type "tuple", data := Data.seq #[] }, toks := s.toks }) := by
  refine .of_wp fun prog w A R s h => ?_
  obtain ⟨hp, g, d, tk, os⟩ := s
  obtain ⟨hl, h⟩ := h
  have f1 := AutoSeq1.idx_int
  have c0 : (decide ((0 : Int) < -(2 ^ 63)) || decide ((0 : Int) ≥ 2 ^ 63)) = false := by decide
  have c1 : (items.isEmpty || (0 : Int) == 1) = false := by rw [hi]; rfl
  have c2 : (decide ((0 : Int) ≤ 0) || items.isEmpty) = true := by simp
  wp_walk using AutoSeq1.wpAny_loadPart' hl
  repeat (first
    | (refine wpAny_ite_false (decide_eq_false (by rw [c0]; exact Bool.false_ne_true)) ?_; wp_walk using AutoSeq1.wpAny_loadPart' hl)
    | (refine wpAny_ite_false (decide_eq_false (by rw [c1]; exact Bool.false_ne_true)) ?_; wp_walk using AutoSeq1.wpAny_loadPart' hl)
    | (refine wpAny_ite_true (decide_eq_true c2) ?_; wp_walk using AutoSeq1.wpAny_loadPart' hl))
  exact ⟨_, rfl, h⟩
def rRepN (K : PySem.W.Frag) : R2 := fun x y H Q => ∃ (l : Addr) (k : Nat) (v : V), x = .ref l ∧ y = .int (k : Int) ∧ SqT K H l [v] ∧ k ≤ 1000 ∧ ∀ (p : Addr) H', Same H H' → SqT K H' p (List.replicate k v) → Q (.ref p) H'
theorem flat_rep (k : Nat) (v : V) : (List.replicate k [v]).flatten = List.replicate k v := by
  induction k with
  | zero => rfl
  | succ k ih => rw [List.replicate_succ, List.flatten_cons, ih, List.replicate_succ]; rfl
theorem op_repN {X : Cx} (K : PySem.W.Frag) (hK : X.K = K := by rfl) : OpR X (binaryOp .Mult) (rRepN K) := by
  subst hK
  intro pins s σ H x y v u Q I rx ry h
  obtain ⟨l, k, w0, rfl, rfl, hT, hk, q⟩ := h
  by_cases h0 : k = 0
  · subst h0
    cases rx
    obtain ⟨t, rfl⟩ := ry
    obtain ⟨its, r, ⟨⟨cls, dd, data, sl⟩, ho, hc, n, hd⟩, hs⟩ := I.tuple hT
    simp only at hc hd
    subst hc hd
    have hi : its.toArray.isEmpty = false := by
      have := r.length
      cases its with
      | nil => simp at this
      | cons a b => rfl
    refine wpAny_binaryOp_repeat_ref (T := "tuple") (U := "int") (by decide) ⟨_, ho, rfl⟩ (fun s' => typeIs_int s' _ t) noFill_tuple_mul F.fills_int_mul F.slot_int_rmul repeat_tuple F.slot_int_index.lookup ?_
    refine call_meets F.slot_int_rmul (typeIs_int s _ t) F.entry_int_rmul (F.args_int_rmul_2 _ _) (int_rmul_tuple _ t l its.toArray n dd sl) ⟨ho, rfl, ⟨_, ho, rfl⟩, ?_⟩
    refine call_meets F.slot_tuple_mul ⟨_, ho, rfl⟩ F.entry_tuple_mul (F.args_tuple_mul_2 _ _) (mul_none l its.toArray n dd sl t hi) ⟨ho, ?_⟩
    have fr := I.hok.fresh (Nat.le_refl s.heap.objs.size)
    refine ⟨.ref s.heap.objs.size, _, I.laid (t' := s.toks) (o := .tup []) (fun b ob z => Heap.get?_push_of_some _ z) (Nat.le_refl _) ⟨Nat.zero_le _, [], .nil, IsTup.new _ _⟩, rfl, q _ _ (same_new fr) (SqT.of upd_same)⟩
  · refine op_repT1 X.K rfl pins s σ H (.ref l) (.int k) v u Q I rx ry ⟨l, k, [w0], rfl, rfl, hT, by simp, by omega, by omega, by simp, fun e => ?_, fun _ p hp => ?_⟩
    · have : k = 1 := by omega
      subst this
      exact q _ _ (Same.refl _) hT
    · refine q _ _ (same_new hp) (SqT.of ?_)
      rw [upd_same, Int.toNat_natCast, flat_rep]
end BV

namespace BV
open PySem L2
/-! ### ways, cuts, what is reached -/
inductive Way (ts : List Tie) (a : Nat) : List Nat → Nat → Prop
  | nil : Way ts a [] a
  | snoc {w : List Nat} {p k q : Nat} {t : Tie} : Way ts a w p → ts[k]? = some t → (t.1 = p ∧ t.2 = q ∨ t.2 = p ∧ t.1 = q) → Way ts a (w ++ [k]) q
def oddIn (w lot : List Nat) : Bool := decide ((w.filter fun k => decide (k ∈ lot)).length % 2 = 1)
theorem oddIn_snoc (w : List Nat) (k : Nat) (lot : List Nat) : oddIn (w ++ [k]) lot = Bool.xor (oddIn w lot) (decide (k ∈ lot)) := by
  unfold oddIn
  rw [List.filter_append, List.length_append]
  by_cases h : k ∈ lot
  · have e : ([k].filter fun k => decide (k ∈ lot)).length = 1 := by simp [h]
    rw [e, decide_eq_true h, Bool.xor_true, Bool.eq_iff_iff]
    simp only [decide_eq_true_eq, Bool.not_eq_true', decide_eq_false_iff_not]
    omega
  · have e : ([k].filter fun k => decide (k ∈ lot)).length = 0 := by simp [h]
    rw [e, decide_eq_false h, Bool.xor_false, Nat.add_zero]
def side (S : List Nat) (p : Nat) : Bool := decide (p ∈ S)
/-- the ties of the lot are those between unlike sides -/
def IsCutOf (ts : List Tie) (lot S : List Nat) : Prop := ∀ k t, ts[k]? = some t → decide (k ∈ lot) = Bool.xor (side S t.1) (side S t.2)
theorem way_side {ts : List Tie} {lot S : List Nat} (h : IsCutOf ts lot S) {a p : Nat} {w : List Nat} (hw : Way ts a w p) : oddIn w lot = Bool.xor (side S a) (side S p) := by
  induction hw with
  | nil => simp [oddIn]
  | snoc hw ht hq ih =>
    rw [oddIn_snoc, ih, h _ _ ht]
    rcases hq with ⟨e1, e2⟩ | ⟨e1, e2⟩
    · rw [e1, e2]
      cases side S a <;> cases side S _ <;> cases side S _ <;> rfl
    · rw [e1, e2]
      cases side S a <;> cases side S _ <;> cases side S _ <;> rfl
def crosses (ps : List Nat) (t : Tie) : Bool := !decide (decide (t.1 ∈ ps) = decide (t.2 ∈ ps))
def cutL (ts : List Tie) (ps : List Nat) : List Nat := (List.range ts.length).filter fun k => match ts[k]? with
  | some t => crosses ps t
  | none => false
theorem crosses_xor (ps : List Nat) (t : Tie) : crosses ps t = Bool.xor (side ps t.1) (side ps t.2) := by
  unfold crosses side
  cases decide (t.1 ∈ ps) <;> cases decide (t.2 ∈ ps) <;> rfl
theorem mem_cutL {ts : List Tie} {ps : List Nat} {k : Nat} : k ∈ cutL ts ps ↔ ∃ t, ts[k]? = some t ∧ crosses ps t = true := by
  unfold cutL
  rw [List.mem_filter, List.mem_range]
  constructor
  · rintro ⟨h1, h2⟩
    have ht : ts[k]? = some ts[k] := by simp [h1]
    rw [ht] at h2
    exact ⟨_, ht, h2⟩
  · rintro ⟨t, ht, hc⟩
    refine ⟨(List.getElem?_eq_some_iff.mp ht).1, ?_⟩
    rw [ht]
    exact hc
theorem cut_of_cutL (ts : List Tie) (ps : List Nat) : IsCutOf ts (cutL ts ps) ps := fun k t ht => by
  rw [← crosses_xor, Bool.eq_iff_iff, decide_eq_true_eq, mem_cutL]
  constructor
  · rintro ⟨t2, e, h⟩
    rw [ht] at e
    cases e
    exact h
  · exact fun h => ⟨t, ht, h⟩
theorem cutL_asc (ts : List Tie) (ps : List Nat) : (cutL ts ps).Pairwise (· < ·) := List.pairwise_lt_range.filter _
theorem asc_uniq {l m : List Nat} (hl : l.Pairwise (· < ·)) (hm : m.Pairwise (· < ·)) (h : ∀ k, k ∈ l ↔ k ∈ m) : l = m :=
  ((List.perm_ext_iff_of_nodup (hl.imp fun z => Nat.ne_of_lt z) (hm.imp fun z => Nat.ne_of_lt z)).mpr h).eq_of_pairwise (le := (· < ·)) (fun a b _ _ x y => absurd x (Nat.lt_asymm y)) hl hm
/-- a lot of L ties -/
def LotA (L : Nat) (ks : List Nat) : Prop := ks.Pairwise (· < ·) ∧ ∀ k ∈ ks, k < L
theorem cutL_lot (ts : List Tie) (ps : List Nat) : LotA ts.length (cutL ts ps) := ⟨cutL_asc ts ps, fun k hk => List.mem_range.mp (List.mem_filter.mp hk).1⟩
theorem cutL_of {ts : List Tie} {lot S : List Nat} (hl : LotA ts.length lot) (h : IsCutOf ts lot S) : cutL ts S = lot := by
  refine asc_uniq (cutL_asc ts S) hl.1 fun k => ?_
  rw [mem_cutL]
  constructor
  · rintro ⟨t, ht, hc⟩
    rw [crosses_xor, ← h k t ht] at hc
    exact of_decide_eq_true hc
  · intro hk
    have hlt := hl.2 k hk
    have ht : ts[k]? = some ts[k] := List.getElem?_eq_getElem hlt
    refine ⟨_, ht, ?_⟩
    rw [crosses_xor, ← h k _ ht]
    exact decide_eq_true hk
/-- everything hangs together -/
theorem all_found {n : Nat} {ts : List Tie} (hok : WebOk n ts) {F : Nat → Prop} (h0 : F 0) (hcl : ∀ t ∈ ts, F t.1 → F t.2) : ∀ p, p < n → F p := by
  intro p
  induction p using Nat.strongRecOn with
  | _ p ih =>
    intro hp
    by_cases h : p = 0
    · rw [h]
      exact h0
    · obtain ⟨q, hq, hm⟩ := hok.hang p (by omega) hp
      exact hcl (q, p) hm (ih q hq (by omega))
/-- the places on the other side than 0, by ways -/
def farL (n : Nat) (ws : Nat → List Nat) (lot : List Nat) : List Nat := (List.range n).filter fun p => oddIn (ws p) lot
theorem far_side {n : Nat} {ts : List Tie} {ws : Nat → List Nat} {lot S : List Nat} (hw : ∀ p, p < n → Way ts 0 (ws p) p) (h : IsCutOf ts lot S) {p : Nat} (hp : p < n) :
    side (farL n ws lot) p = Bool.xor (side S 0) (side S p) := by
  rw [← way_side h (hw p hp)]
  unfold side farL
  rw [Bool.eq_iff_iff, decide_eq_true_eq, List.mem_filter, List.mem_range]
  exact ⟨fun z => z.2, fun z => ⟨hp, z⟩⟩
theorem far_cut {n : Nat} {ts : List Tie} (hends : ∀ t ∈ ts, t.1 < t.2 ∧ t.2 < n) {ws : Nat → List Nat} {lot S : List Nat} (hl : LotA ts.length lot) (hw : ∀ p, p < n → Way ts 0 (ws p) p) (h : IsCutOf ts lot S) :
    cutL ts (farL n ws lot) = lot := by
  refine cutL_of hl fun k t ht => ?_
  have hm := hends t (List.mem_of_getElem? ht)
  rw [far_side hw h (show t.1 < n by omega), far_side hw h hm.2, h k t ht]
  cases side S 0 <;> cases side S t.1 <;> cases side S t.2 <;> rfl
theorem far_iff {n : Nat} {ts : List Tie} (hends : ∀ t ∈ ts, t.1 < t.2 ∧ t.2 < n) {ws : Nat → List Nat} {lot : List Nat} (hl : LotA ts.length lot) (hw : ∀ p, p < n → Way ts 0 (ws p) p) :
    cutL ts (farL n ws lot) = lot ↔ ∃ S, IsCutOf ts lot S :=
  ⟨fun e => ⟨_, by have := cut_of_cutL ts (farL n ws lot); rwa [e] at this⟩, fun ⟨S, h⟩ => far_cut hends hl hw h⟩
end BV

namespace BV
open PySem L2
/-! Even lots, cuts, and lots without a round. -/
def b2 (b : Bool) : Nat := if b = true then 1 else 0
def atE (ts : List Tie) (p k : Nat) : Bool := match ts[k]? with
  | some t => decide (t.1 = p ∨ t.2 = p)
  | none => false
def degE (ts : List Tie) (lot : List Nat) (p : Nat) : Nat := (lot.filter (atE ts p)).length
def crossK (ts : List Tie) (S : List Nat) (k : Nat) : Bool := match ts[k]? with
  | some t => crosses S t
  | none => false
def crossN (ts : List Tie) (S lot : List Nat) : Nat := (lot.filter (crossK ts S)).length
def sumR (n : Nat) (f : Nat → Nat) : Nat := ((List.range n).map f).sum
theorem sumR_succ (n : Nat) (f : Nat → Nat) : sumR (n + 1) f = sumR n f + f n := by
  unfold sumR
  rw [List.range_succ, List.map_append, List.sum_append]
  simp
theorem sumR_add (f g : Nat → Nat) : ∀ n, sumR n (fun p => f p + g p) = sumR n f + sumR n g
  | 0 => rfl
  | n + 1 => by
    rw [sumR_succ, sumR_succ, sumR_succ, sumR_add f g n]
    omega
theorem sumR_congr {f g : Nat → Nat} : ∀ {n}, (∀ p, p < n → f p = g p) → sumR n f = sumR n g
  | 0, _ => rfl
  | n + 1, h => by
    rw [sumR_succ, sumR_succ, sumR_congr fun p hp => h p (by omega), h n (by omega)]
theorem sumR_zero (n : Nat) : sumR n (fun _ => 0) = 0 := by
  induction n with
  | zero => rfl
  | succ n ih => rw [sumR_succ, ih]
theorem sumR_one (a c : Nat) : ∀ n, sumR n (fun p => if p = a then c else 0) = if a < n then c else 0
  | 0 => by simp [sumR]
  | n + 1 => by
    rw [sumR_succ, sumR_one a c n]
    by_cases h : a < n
    · rw [if_pos h, if_neg (by omega), if_pos (by omega), Nat.add_zero]
    · by_cases e : n = a
      · rw [if_neg h, if_pos e, if_pos (by omega)]
        omega
      · rw [if_neg h, if_neg e, if_neg (by omega)]
theorem sumR_even {f : Nat → Nat} : ∀ {n}, (∀ p, p < n → f p % 2 = 0) → sumR n f % 2 = 0
  | 0, _ => rfl
  | n + 1, h => by
    rw [sumR_succ]
    have h1 := sumR_even fun p (hp : p < n) => h p (by omega)
    have h2 := h n (by omega)
    omega
theorem degE_cons (ts : List Tie) (k : Nat) (lot : List Nat) (p : Nat) : degE ts (k :: lot) p = b2 (atE ts p k) + degE ts lot p := by
  unfold degE b2
  rw [List.filter_cons]
  split
  · rw [List.length_cons]
    omega
  · omega
theorem crossN_cons (ts : List Tie) (S : List Nat) (k : Nat) (lot : List Nat) : crossN ts S (k :: lot) = b2 (crossK ts S k) + crossN ts S lot := by
  unfold crossN b2
  rw [List.filter_cons]
  split
  · rw [List.length_cons]
    omega
  · omega
/-- over the places of a side all ends of a lot are counted: as many as its ties on the cut, modulo 2 -/
theorem parity {n : Nat} {ts : List Tie} (hends : ∀ t ∈ ts, t.1 < t.2 ∧ t.2 < n) (S : List Nat) : ∀ lot : List Nat, (∀ k ∈ lot, k < ts.length) →
    sumR n (fun p => if side S p = true then degE ts lot p else 0) % 2 = crossN ts S lot % 2
  | [], _ => by
    have : sumR n (fun p => if side S p = true then degE ts [] p else 0) = sumR n (fun _ => 0) :=
      sumR_congr fun p _ => by
        show (if side S p = true then 0 else 0) = 0
        split <;> rfl
    rw [this, sumR_zero]
    rfl
  | k :: lot, h => by
    have ih := parity hends S lot fun x hx => h x (List.mem_cons_of_mem _ hx)
    have hk := h k (List.mem_cons_self ..)
    have ht : ts[k]? = some ts[k] := List.getElem?_eq_getElem hk
    generalize ts[k] = t at ht
    have he := hends t (List.mem_of_getElem? ht)
    have e1 : sumR n (fun p => if side S p = true then degE ts (k :: lot) p else 0) = (sumR n (fun p => if p = t.1 then b2 (side S t.1) else 0) + sumR n (fun p => if p = t.2 then b2 (side S t.2) else 0)) +
        sumR n (fun p => if side S p = true then degE ts lot p else 0) := by
      rw [← sumR_add, ← sumR_add]
      refine sumR_congr fun p _ => ?_
      rw [degE_cons]
      have ea : atE ts p k = decide (t.1 = p ∨ t.2 = p) := by
        unfold atE
        rw [ht]
      rw [ea]
      by_cases h1 : p = t.1
      · subst h1
        rw [if_neg (show ¬ t.1 = t.2 by omega), if_pos rfl]
        cases hs : side S t.1 <;> simp [b2]
      · by_cases h2 : p = t.2
        · subst h2
          rw [if_neg h1, if_pos rfl]
          cases hs : side S t.2 <;> simp [b2]
        · rw [if_neg h1, if_neg h2]
          have : decide (t.1 = p ∨ t.2 = p) = false := decide_eq_false (by omega)
          rw [this]
          simp [b2]
    rw [e1, sumR_one, sumR_one, if_pos (show t.1 < n by omega), if_pos he.2, crossN_cons]
    have ec : crossK ts S k = Bool.xor (side S t.1) (side S t.2) := by
      unfold crossK
      rw [ht]
      exact crosses_xor S t
    rw [ec]
    have : (b2 (side S t.1) + b2 (side S t.2)) % 2 = b2 (Bool.xor (side S t.1) (side S t.2)) % 2 := by
      cases side S t.1 <;> cases side S t.2 <;> rfl
    omega
def EvenE (n : Nat) (ts : List Tie) (lot : List Nat) : Prop := ∀ p, p < n → degE ts lot p % 2 = 0
theorem even_cross {n : Nat} {ts : List Tie} (hends : ∀ t ∈ ts, t.1 < t.2 ∧ t.2 < n) {lot : List Nat} (hl : ∀ k ∈ lot, k < ts.length) (h : EvenE n ts lot) (S : List Nat) : crossN ts S lot % 2 = 0 := by
  rw [← parity hends S lot hl]
  refine sumR_even fun p hp => ?_
  split
  · exact h p hp
  · rfl
/-- ties taken one behind another, none of which closes a round -/
inductive Forest (ts : List Tie) : List Nat → Prop
  | nil : Forest ts []
  | snoc {l : List Nat} {k : Nat} {t : Tie} : Forest ts l → ts[k]? = some t → k ∉ l → (∀ w, Way ts t.1 w t.2 → (∀ x ∈ w, x ∈ l) → False) → Forest ts (l ++ [k])
open Classical in
theorem forest_even {n : Nat} {ts : List Tie} (hends : ∀ t ∈ ts, t.1 < t.2 ∧ t.2 < n) {l : List Nat} (hF : Forest ts l) : ∀ lot : List Nat, lot.Nodup → (∀ k ∈ lot, k ∈ l) → (∀ k ∈ l, k < ts.length) → EvenE n ts lot → lot = [] := by
  induction hF with
  | nil =>
    intro lot _ h _ _
    cases lot with
    | nil => rfl
    | cons k lot => exact absurd (h k (List.mem_cons_self ..)) (by simp)
  | @snoc l k t hF ht hk hno ih =>
    intro lot hn h hlt hev
    by_cases hm : k ∈ lot
    · exfalso
      have hends2 := hends t (List.mem_of_getElem? ht)
      let S : List Nat := (List.range n).filter fun p => decide (∃ w, Way ts t.1 w p ∧ ∀ x ∈ w, x ∈ l)
      have inS : ∀ p, p < n → (side S p = true ↔ ∃ w, Way ts t.1 w p ∧ ∀ x ∈ w, x ∈ l) := fun p hp => by
        unfold side
        rw [decide_eq_true_eq, List.mem_filter, List.mem_range, decide_eq_true_eq]
        exact ⟨fun z => z.2, fun z => ⟨hp, z⟩⟩
      have c := even_cross hends (fun x hx => hlt x (h x hx)) hev S
      have e : lot.filter (crossK ts S) = lot.filter (· == k) := by
        refine List.filter_congr fun x hx => ?_
        have hxl := h x hx
        by_cases e : x = k
        · subst e
          unfold crossK
          rw [ht]
          show crosses S t = (x == x)
          rw [crosses_xor]
          have a1 : side S t.1 = true := (inS t.1 (by omega)).mpr ⟨[], .nil, by simp⟩
          have a2 : side S t.2 = false := Bool.eq_false_iff.mpr fun z => by
            obtain ⟨w, h1, h2⟩ := (inS t.2 hends2.2).mp z
            exact hno w h1 h2
          rw [a1, a2]
          simp
        · have hxl2 : x ∈ l := by
            rcases List.mem_append.mp hxl with z | z
            · exact z
            · exact absurd (List.mem_singleton.mp z) e
          have hx2 := hlt x hxl
          have htx : ts[x]? = some ts[x] := List.getElem?_eq_getElem hx2
          generalize ts[x] = u at htx
          have hu := hends u (List.mem_of_getElem? htx)
          unfold crossK
          rw [htx]
          show crosses S u = (x == k)
          rw [crosses_xor]
          have : side S u.1 = side S u.2 := by
            rw [Bool.eq_iff_iff, inS u.1 (by omega), inS u.2 hu.2]
            constructor
            · rintro ⟨w, h1, h2⟩
              exact ⟨w ++ [x], .snoc h1 htx (.inl ⟨rfl, rfl⟩), fun y hy => by
                rcases List.mem_append.mp hy with z | z
                · exact h2 y z
                · rw [List.mem_singleton.mp z]
                  exact hxl2⟩
            · rintro ⟨w, h1, h2⟩
              exact ⟨w ++ [x], .snoc h1 htx (.inr ⟨rfl, rfl⟩), fun y hy => by
                rcases List.mem_append.mp hy with z | z
                · exact h2 y z
                · rw [List.mem_singleton.mp z]
                  exact hxl2⟩
          rw [this]
          have : (x == k) = false := by simpa using e
          rw [this]
          cases side S u.2 <;> rfl
      have e2 : (lot.filter (· == k)).length = 1 := by
        have := hn.count (a := k)
        rw [if_pos hm] at this
        rw [← List.countP_eq_length_filter]
        exact this
      unfold crossN at c
      rw [e, e2] at c
      exact absurd c (by decide)
    · exact ih lot hn (fun x hx => by
        rcases List.mem_append.mp (h x hx) with z | z
        · exact z
        · rw [List.mem_singleton.mp z] at hx
          exact absurd hx hm) (fun x hx => hlt x (List.mem_append_left _ hx)) hev
/-! ### lots and their sums -/
theorem degE_app (ts : List Tie) (l m : List Nat) (p : Nat) : degE ts (l ++ m) p = degE ts l p + degE ts m p := by
  unfold degE
  rw [List.filter_append, List.length_append]
theorem degE_perm {ts : List Tie} {l m : List Nat} (h : l.Perm m) (p : Nat) : degE ts l p = degE ts m p := (h.filter _).length_eq
theorem degE_split (ts : List Tie) (f : Nat → Bool) (l : List Nat) (p : Nat) : degE ts l p = degE ts (l.filter f) p + degE ts (l.filter fun k => !f k) p := by
  induction l with
  | nil => rfl
  | cons k l ih =>
    rw [degE_cons, List.filter_cons, List.filter_cons, ih]
    cases f k
    · rw [if_neg (by decide), if_pos (by decide), degE_cons]
      omega
    · rw [if_pos rfl, if_neg (by decide), degE_cons]
      omega
def symE (l m : List Nat) : List Nat := l.filter (fun k => !decide (k ∈ m)) ++ m.filter fun k => !decide (k ∈ l)
theorem mem_symE {l m : List Nat} {k : Nat} : k ∈ symE l m ↔ (k ∈ l ∧ k ∉ m) ∨ (k ∈ m ∧ k ∉ l) := by
  unfold symE
  rw [List.mem_append, List.mem_filter, List.mem_filter]
  simp
theorem symE_nodup {l m : List Nat} (hl : l.Nodup) (hm : m.Nodup) : (symE l m).Nodup := by
  unfold symE
  rw [List.nodup_append]
  refine ⟨hl.filter _, hm.filter _, fun x hx y hy e => ?_⟩
  subst e
  have z1 := (List.mem_filter.mp hx).1
  have z2 := (List.mem_filter.mp hy).2
  simp [z1] at z2
theorem degE_sym {ts : List Tie} {l m : List Nat} (hl : l.Nodup) (hm : m.Nodup) (p : Nat) : degE ts (symE l m) p % 2 = (degE ts l p + degE ts m p) % 2 := by
  have e1 := degE_split ts (fun k => decide (k ∈ m)) l p
  have e2 := degE_split ts (fun k => decide (k ∈ l)) m p
  have e3 : degE ts (l.filter fun k => decide (k ∈ m)) p = degE ts (m.filter fun k => decide (k ∈ l)) p := by
    refine degE_perm ((List.perm_ext_iff_of_nodup (hl.filter _) (hm.filter _)).mpr fun k => ?_) p
    rw [List.mem_filter, List.mem_filter, decide_eq_true_eq, decide_eq_true_eq]
    exact And.comm
  unfold symE
  rw [degE_app]
  omega
/-- the sum of two lots of L ties -/
def sumL (L : Nat) (l m : List Nat) : List Nat := (List.range L).filter fun k => Bool.xor (decide (k ∈ l)) (decide (k ∈ m))
theorem sumL_lot (L : Nat) (l m : List Nat) : LotA L (sumL L l m) := ⟨List.pairwise_lt_range.filter _, fun k hk => List.mem_range.mp (List.mem_filter.mp hk).1⟩
theorem mem_sumL {L : Nat} {l m : List Nat} {k : Nat} : k ∈ sumL L l m ↔ k < L ∧ ((k ∈ l ∧ k ∉ m) ∨ (k ∈ m ∧ k ∉ l)) := by
  unfold sumL
  rw [List.mem_filter, List.mem_range]
  by_cases h1 : k ∈ l <;> by_cases h2 : k ∈ m <;> simp [h1, h2]
theorem LotA.nd {L : Nat} {l : List Nat} (h : LotA L l) : l.Nodup := h.1.imp fun z => Nat.ne_of_lt z
theorem lot_ext {L : Nat} {l m : List Nat} (hl : LotA L l) (hm : LotA L m) (h : ∀ k, k < L → (k ∈ l ↔ k ∈ m)) : l = m :=
  asc_uniq hl.1 hm.1 fun k => ⟨fun z => (h k (hl.2 k z)).mp z, fun z => (h k (hm.2 k z)).mpr z⟩
theorem sumL_perm {L : Nat} {l m : List Nat} (hl : LotA L l) (hm : LotA L m) : (sumL L l m).Perm (symE l m) := by
  refine (List.perm_ext_iff_of_nodup (sumL_lot L l m).nd (symE_nodup hl.nd hm.nd)).mpr fun k => ?_
  rw [mem_sumL, mem_symE]
  constructor
  · exact fun z => z.2
  · intro z
    refine ⟨?_, z⟩
    rcases z with z | z
    · exact hl.2 k z.1
    · exact hm.2 k z.1
theorem sumL_even {n : Nat} {ts : List Tie} {L : Nat} {l m : List Nat} (hl : LotA L l) (hm : LotA L m) (h1 : EvenE n ts l) (h2 : EvenE n ts m) : EvenE n ts (sumL L l m) := fun p hp => by
  rw [degE_perm (sumL_perm hl hm), degE_sym hl.nd hm.nd]
  have := h1 p hp
  have := h2 p hp
  omega
theorem sumL_back {L : Nat} {l m : List Nat} (hl : LotA L l) : sumL L (sumL L l m) m = l := by
  refine lot_ext (sumL_lot _ _ _) hl fun k hk => ?_
  rw [mem_sumL, mem_sumL]
  by_cases h1 : k ∈ l <;> by_cases h2 : k ∈ m <;> simp [h1, h2, hk]
/-! ### ways as lots -/
theorem way_deg {n : Nat} {ts : List Tie} (hends : ∀ t ∈ ts, t.1 < t.2 ∧ t.2 < n) {a q : Nat} {w : List Nat} (h : Way ts a w q) (p : Nat) : degE ts w p % 2 = (b2 (decide (p = a)) + b2 (decide (p = q))) % 2 := by
  induction h with
  | nil =>
    show 0 % 2 = _
    cases decide (p = a) <;> rfl
  | @snoc w r k q t hw ht he ih =>
    have hte := hends t (List.mem_of_getElem? ht)
    have e : degE ts [k] p = b2 (decide (p = r)) + b2 (decide (p = q)) := by
      rw [degE_cons]
      have ea : atE ts p k = decide (t.1 = p ∨ t.2 = p) := by
        unfold atE
        rw [ht]
      rw [ea]
      show _ + 0 = _
      rcases he with ⟨rfl, rfl⟩ | ⟨rfl, rfl⟩
      · by_cases h1 : p = t.1
        · subst h1
          rw [decide_eq_true (.inl rfl), decide_eq_true rfl, decide_eq_false (by omega)]
          rfl
        · by_cases h2 : p = t.2
          · subst h2
            rw [decide_eq_true (.inr rfl), decide_eq_true rfl, decide_eq_false h1]
            rfl
          · rw [decide_eq_false h1, decide_eq_false h2, decide_eq_false (by omega)]
            rfl
      · by_cases h1 : p = t.1
        · subst h1
          rw [decide_eq_true (.inl rfl), decide_eq_true rfl, decide_eq_false (by omega)]
          rfl
        · by_cases h2 : p = t.2
          · subst h2
            rw [decide_eq_true (.inr rfl), decide_eq_true rfl, decide_eq_false h1]
            rfl
          · rw [decide_eq_false h1, decide_eq_false h2, decide_eq_false (by omega)]
            rfl
    rw [degE_app, e]
    have hx : (b2 (decide (p = r)) + b2 (decide (p = r))) % 2 = 0 := by omega
    omega
theorem round_even {n : Nat} {ts : List Tie} (hends : ∀ t ∈ ts, t.1 < t.2 ∧ t.2 < n) {w : List Nat} {k : Nat} {t : Tie} (ht : ts[k]? = some t) (h : Way ts t.1 w t.2) : EvenE n ts (w ++ [k]) := fun p _ => by
  have h2 : Way ts t.1 (w ++ [k]) t.1 := .snoc h ht (.inr ⟨rfl, rfl⟩)
  rw [way_deg hends h2]
  omega
/-- in a lot without a round there is one way -/
theorem way_one {n : Nat} {ts : List Tie} (hends : ∀ t ∈ ts, t.1 < t.2 ∧ t.2 < n) {l : List Nat} (hF : Forest ts l) (hl : ∀ k ∈ l, k < ts.length) {a q : Nat} {v w : List Nat} (hv : Way ts a v q) (hw : Way ts a w q)
    (nv : v.Nodup) (nw : w.Nodup) (lv : ∀ k ∈ v, k ∈ l) (lw : ∀ k ∈ w, k ∈ l) : v.Perm w := by
  have e := forest_even hends hF (symE v w) (symE_nodup nv nw) (fun k hk => by
    rcases mem_symE.mp hk with z | z
    · exact lv k z.1
    · exact lw k z.1) hl fun p hp => by
      rw [degE_sym nv nw]
      have h1 := way_deg hends hv p
      have h2 := way_deg hends hw p
      omega
  refine (List.perm_ext_iff_of_nodup nv nw).mpr fun k => ?_
  have hn : k ∉ symE v w := by
    rw [e]
    simp
  rw [mem_symE] at hn
  by_cases h1 : k ∈ v <;> by_cases h2 : k ∈ w <;> simp [h1, h2] at hn ⊢
/-! ### all sums of the rounds of a tree -/
/-- a round for each tie c, which has none of the others but ties of l -/
def Founds (n : Nat) (ts : List Tie) (l : List Nat) (cs : List Nat) (R : Nat → List Nat) : Prop :=
  ∀ c ∈ cs, LotA ts.length (R c) ∧ EvenE n ts (R c) ∧ c ∈ R c ∧ c ∉ l ∧ ∀ k ∈ R c, k = c ∨ k ∈ l
def sumsOf (L : Nat) (R : Nat → List Nat) : List Nat → List (List Nat)
  | [] => [[]]
  | c :: cs => sumsOf L R cs ++ (sumsOf L R cs).map fun o => sumL L o (R c)
theorem sums_are {n : Nat} {ts : List Tie} (hends : ∀ t ∈ ts, t.1 < t.2 ∧ t.2 < n) {l : List Nat} (hF : Forest ts l) (hl : ∀ k ∈ l, k < ts.length) {R : Nat → List Nat} :
    ∀ {cs : List Nat}, cs.Nodup → Founds n ts l cs R → (sumsOf ts.length R cs).Nodup ∧ ∀ E : List Nat, E ∈ sumsOf ts.length R cs ↔ LotA ts.length E ∧ EvenE n ts E ∧ ∀ k ∈ E, k ∈ l ∨ k ∈ cs
  | [], _, _ => by
    refine ⟨by simp [sumsOf], fun E => ?_⟩
    simp only [sumsOf, List.mem_singleton, List.not_mem_nil, or_false]
    constructor
    · rintro rfl
      exact ⟨⟨List.Pairwise.nil, fun _ h => nomatch h⟩, fun _ _ => rfl, fun _ h => nomatch h⟩
    · rintro ⟨h1, h2, h3⟩
      exact forest_even hends hF E h1.nd h3 hl h2
  | c :: cs, hn, hR => by
    obtain ⟨hc, hn2⟩ := List.nodup_cons.mp hn
    obtain ⟨ih1, ih2⟩ := sums_are hends hF hl hn2 fun x hx => hR x (List.mem_cons_of_mem _ hx)
    obtain ⟨r1, r2, r3, r4, r5⟩ := hR c (List.mem_cons_self ..)
    have noc : ∀ E ∈ sumsOf ts.length R cs, c ∉ E := fun E hE hcE => by
      rcases ((ih2 E).mp hE).2.2 c hcE with z | z
      · exact r4 z
      · exact hc z
    refine ⟨?_, fun E => ?_⟩
    · show (sumsOf ts.length R cs ++ (sumsOf ts.length R cs).map fun o => sumL ts.length o (R c)).Nodup
      rw [List.nodup_append]
      refine ⟨ih1, ?_, fun x hx y hy e => ?_⟩
      · refine (List.pairwise_map).mpr (ih1.imp_of_mem fun {x y} hx hy hxy e => hxy ?_)
        rw [← sumL_back (m := R c) ((ih2 x).mp hx).1, e, sumL_back ((ih2 y).mp hy).1]
      · subst e
        obtain ⟨o, ho, rfl⟩ := List.mem_map.mp hy
        refine noc _ hx (mem_sumL.mpr ⟨r1.2 c r3, .inr ⟨r3, noc o ho⟩⟩)
    · show E ∈ sumsOf ts.length R cs ++ (sumsOf ts.length R cs).map (fun o => sumL ts.length o (R c)) ↔ _
      rw [List.mem_append]
      constructor
      · rintro (h | h)
        · obtain ⟨h1, h2, h3⟩ := (ih2 E).mp h
          exact ⟨h1, h2, fun k hk => (h3 k hk).imp id (List.mem_cons_of_mem _)⟩
        · obtain ⟨o, ho, rfl⟩ := List.mem_map.mp h
          obtain ⟨h1, h2, h3⟩ := (ih2 o).mp ho
          refine ⟨sumL_lot _ _ _, sumL_even h1 r1 h2 r2, fun k hk => ?_⟩
          rcases (mem_sumL.mp hk).2 with z | z
          · exact (h3 k z.1).imp id (List.mem_cons_of_mem _)
          · rcases r5 k z.1 with e | e
            · exact .inr (by rw [e]; exact List.mem_cons_self ..)
            · exact .inl e
      · rintro ⟨h1, h2, h3⟩
        by_cases hcE : c ∈ E
        · refine .inr (List.mem_map.mpr ⟨sumL ts.length E (R c), (ih2 _).mpr ⟨sumL_lot _ _ _, sumL_even h1 r1 h2 r2, fun k hk => ?_⟩, sumL_back h1⟩)
          rcases (mem_sumL.mp hk).2 with z | z
          · rcases h3 k z.1 with e | e
            · exact .inl e
            · rcases List.mem_cons.mp e with e | e
              · exact absurd r3 (by rw [← e]; exact fun q => z.2 (by rw [e]; exact r3))
              · exact .inr e
          · rcases r5 k z.1 with e | e
            · exact absurd hcE (by rw [← e]; exact z.2)
            · exact .inl e
        · refine .inl ((ih2 E).mpr ⟨h1, h2, fun k hk => ?_⟩)
          rcases h3 k hk with e | e
          · exact .inl e
          · rcases List.mem_cons.mp e with e | e
            · exact absurd hk (by rw [e]; exact hcE)
            · exact .inr e
end BV

namespace BV
open PySem L2
/-! the first tree of a web -/
theorem Way.trans {ts : List Tie} {a p q : Nat} {w v : List Nat} (h1 : Way ts a w p) (h2 : Way ts p v q) : Way ts a (w ++ v) q := by
  induction h2 with
  | nil =>
    rw [List.append_nil]
    exact h1
  | snoc _ ht he ih =>
    rw [← List.append_assoc]
    exact .snoc ih ht he
def Conn (ts : List Tie) (es : List Nat) (p q : Nat) : Prop := ∃ w, Way ts p w q ∧ ∀ x ∈ w, x ∈ es
theorem Conn.refl {ts : List Tie} {es : List Nat} (p : Nat) : Conn ts es p p := ⟨[], .nil, fun _ h => nomatch h⟩
theorem Conn.trans {ts : List Tie} {es : List Nat} {p q r : Nat} (h1 : Conn ts es p q) (h2 : Conn ts es q r) : Conn ts es p r := by
  obtain ⟨w, a1, a2⟩ := h1
  obtain ⟨v, b1, b2⟩ := h2
  exact ⟨w ++ v, a1.trans b1, fun x hx => (List.mem_append.mp hx).elim (a2 x) (b2 x)⟩
theorem Conn.step {ts : List Tie} {es : List Nat} {k : Nat} {t : Tie} {p q : Nat} (hk : k ∈ es) (ht : ts[k]? = some t) (he : t.1 = p ∧ t.2 = q ∨ t.2 = p ∧ t.1 = q) : Conn ts es p q :=
  ⟨[] ++ [k], .snoc .nil ht he, fun x hx => by
    have : x = k := by simpa using hx
    rw [this]
    exact hk⟩
theorem Conn.mono {ts : List Tie} {es fs : List Nat} {p q : Nat} (h : Conn ts es p q) (m : ∀ x ∈ es, x ∈ fs) : Conn ts fs p q := by
  obtain ⟨w, h1, h2⟩ := h
  exact ⟨w, h1, fun x hx => m x (h2 x hx)⟩
theorem way_back {ts : List Tie} {es : List Nat} {p q : Nat} {w : List Nat} (h : Way ts p w q) : (∀ x ∈ w, x ∈ es) → Conn ts es q p := by
  induction h with
  | nil => exact fun _ => .refl _
  | @snoc w r k q t hw ht he ih =>
    intro hx
    have h1 := ih fun x hx2 => hx x (List.mem_append_left _ hx2)
    refine Conn.trans (Conn.step (hx k (List.mem_append_right _ (List.mem_singleton.mpr rfl))) ht ?_) h1
    rcases he with ⟨e1, e2⟩ | ⟨e1, e2⟩
    · exact .inr ⟨e2, e1⟩
    · exact .inl ⟨e2, e1⟩
theorem Conn.symm {ts : List Tie} {es : List Nat} {p q : Nat} (h : Conn ts es p q) : Conn ts es q p := by
  obtain ⟨w, h1, h2⟩ := h
  exact way_back h1 h2
open Classical in
/-- the ties that are taken of the first i ones -/
noncomputable def treeL (ts : List Tie) : Nat → List Nat
  | 0 => []
  | i + 1 => match ts[i]? with
    | some t => if Conn ts (treeL ts i) t.1 t.2 then treeL ts i else treeL ts i ++ [i]
    | none => treeL ts i
theorem tree_yes {ts : List Tie} {i : Nat} {t : Tie} (ht : ts[i]? = some t) (h : Conn ts (treeL ts i) t.1 t.2) : treeL ts (i + 1) = treeL ts i := by
  rw [treeL, ht]
  exact if_pos h
theorem tree_no {ts : List Tie} {i : Nat} {t : Tie} (ht : ts[i]? = some t) (h : ¬ Conn ts (treeL ts i) t.1 t.2) : treeL ts (i + 1) = treeL ts i ++ [i] := by
  rw [treeL, ht]
  exact if_neg h
theorem tree_lot (ts : List Tie) : ∀ i, i ≤ ts.length → LotA i (treeL ts i)
  | 0, _ => ⟨List.Pairwise.nil, fun _ h => nomatch h⟩
  | i + 1, hi => by
    have ih := tree_lot ts i (by omega)
    have ht : ts[i]? = some ts[i] := List.getElem?_eq_getElem (by omega)
    by_cases h : Conn ts (treeL ts i) ts[i].1 ts[i].2
    · rw [tree_yes ht h]
      exact ⟨ih.1, fun k hk => Nat.lt_succ_of_lt (ih.2 k hk)⟩
    · rw [tree_no ht h]
      refine ⟨?_, fun k hk => ?_⟩
      · rw [List.pairwise_append]
        refine ⟨ih.1, List.pairwise_singleton _ _, fun x hx y hy => ?_⟩
        rw [List.mem_singleton.mp hy]
        exact ih.2 x hx
      · rcases List.mem_append.mp hk with z | z
        · exact Nat.lt_succ_of_lt (ih.2 k z)
        · rw [List.mem_singleton.mp z]
          exact Nat.lt_succ_self i
theorem tree_forest (ts : List Tie) : ∀ i, i ≤ ts.length → Forest ts (treeL ts i)
  | 0, _ => .nil
  | i + 1, hi => by
    have ih := tree_forest ts i (by omega)
    have hl := tree_lot ts i (by omega)
    have ht : ts[i]? = some ts[i] := List.getElem?_eq_getElem (by omega)
    by_cases h : Conn ts (treeL ts i) ts[i].1 ts[i].2
    · rw [tree_yes ht h]
      exact ih
    · rw [tree_no ht h]
      exact .snoc ih ht (fun z => Nat.lt_irrefl _ (hl.2 i z)) fun w h1 h2 => h ⟨w, h1, h2⟩
theorem tree_mono {ts : List Tie} {i : Nat} : ∀ {j}, i ≤ j → ∀ x ∈ treeL ts i, x ∈ treeL ts j
  | 0, h, x, hx => by
    obtain rfl : i = 0 := by omega
    exact hx
  | j + 1, h, x, hx => by
    by_cases e : i = j + 1
    · subst e
      exact hx
    · have ih := tree_mono (ts := ts) (i := i) (j := j) (by omega) x hx
      rw [treeL]
      split
      · split
        · exact ih
        · exact List.mem_append_left _ ih
      · exact ih
/-- a tie is taken just if its ends hang not together along those ahead -/
theorem tree_mem {ts : List Tie} {k : Nat} {t : Tie} (ht : ts[k]? = some t) : ∀ {i}, k < i → i ≤ ts.length → (k ∈ treeL ts i ↔ ¬ Conn ts (treeL ts k) t.1 t.2)
  | 0, h, _ => by omega
  | i + 1, h, hi => by
    have hl := tree_lot ts i (by omega)
    have hti : ts[i]? = some ts[i] := List.getElem?_eq_getElem (by omega)
    by_cases e : k = i
    · subst e
      rw [ht] at hti
      have hti2 := Option.some.inj hti
      by_cases hc : Conn ts (treeL ts k) t.1 t.2
      · rw [tree_yes ht hc]
        exact ⟨fun z => absurd (hl.2 k z) (Nat.lt_irrefl _), fun z => absurd hc z⟩
      · rw [tree_no ht hc]
        exact ⟨fun _ => hc, fun _ => List.mem_append_right _ (List.mem_singleton.mpr rfl)⟩
    · rw [← tree_mem ht (i := i) (by omega) (by omega)]
      by_cases hc : Conn ts (treeL ts i) ts[i].1 ts[i].2
      · rw [tree_yes hti hc]
      · rw [tree_no hti hc, List.mem_append, List.mem_singleton]
        exact ⟨fun z => z.resolve_right e, .inl⟩
theorem tree_ends {ts : List Tie} {k : Nat} {t : Tie} (ht : ts[k]? = some t) : Conn ts (treeL ts ts.length) t.1 t.2 := by
  have hk := (List.getElem?_eq_some_iff.mp ht).1
  by_cases hc : Conn ts (treeL ts k) t.1 t.2
  · exact hc.mono (tree_mono (by omega))
  · exact .step ((tree_mem ht hk (Nat.le_refl _)).mpr hc) ht (.inl ⟨rfl, rfl⟩)
theorem tree_all {n : Nat} {ts : List Tie} (hok : WebOk n ts) : ∀ p, p < n → Conn ts (treeL ts ts.length) 0 p :=
  all_found hok (F := fun p => Conn ts (treeL ts ts.length) 0 p) (.refl 0) fun t ht h => by
    obtain ⟨k, hk⟩ := List.mem_iff_getElem?.mp ht
    exact h.trans (tree_ends hk)
/-! names of the parts -/
def numL (n : Nat) (lab : Nat → Nat) : Nat := ((List.range n).filter fun x => decide (x ∈ (List.range n).map lab)).length
structure Lab (n : Nat) (ts : List Tie) (tk : List Nat) (lab : Nat → Nat) : Prop where
  lt : ∀ p, p < n → lab p < n
  conn : ∀ p q, p < n → q < n → (lab p = lab q ↔ Conn ts tk p q)
  num : numL n lab + tk.length = n
theorem mem_lab {n : Nat} {lab : Nat → Nat} {x : Nat} : x ∈ (List.range n).map lab ↔ ∃ p, p < n ∧ lab p = x := by
  rw [List.mem_map]
  exact ⟨fun ⟨p, h1, h2⟩ => ⟨p, List.mem_range.mp h1, h2⟩, fun ⟨p, h1, h2⟩ => ⟨p, List.mem_range.mpr h1, h2⟩⟩
theorem lab_start (n : Nat) (ts : List Tie) : Lab n ts [] id := by
  refine ⟨fun p hp => hp, fun p q _ _ => ⟨fun e => by rw [show p = q from e]; exact .refl q, fun ⟨w, h1, h2⟩ => ?_⟩, ?_⟩
  · cases h1 with
    | nil => rfl
    | @snoc w' r k _ _ _ _ _ => exact absurd (h2 k (List.mem_append_right _ (List.mem_singleton.mpr rfl))) (by simp)
  · unfold numL
    have e : ((List.range n).filter fun x => decide (x ∈ (List.range n).map id)) = List.range n := List.filter_eq_self.mpr fun x hx => decide_eq_true (mem_lab.mpr ⟨x, List.mem_range.mp hx, rfl⟩)
    rw [e, List.length_range]
    rfl
theorem lab_step {n : Nat} {ts : List Tie} {tk : List Nat} {lab : Nat → Nat} (hends : ∀ t ∈ ts, t.1 < t.2 ∧ t.2 < n) (h : Lab n ts tk lab) {i : Nat} {t : Tie} (ht : ts[i]? = some t) (hne : lab t.1 ≠ lab t.2) :
    Lab n ts (tk ++ [i]) (fun p => if lab p = lab t.2 then lab t.1 else lab p) := by
  have hte := hends t (List.mem_of_getElem? ht)
  have h1n : t.1 < n := by omega
  have mem_i : i ∈ tk ++ [i] := List.mem_append_right _ (List.mem_singleton.mpr rfl)
  have mono : ∀ x ∈ tk, x ∈ tk ++ [i] := fun x hx => List.mem_append_left _ hx
  refine ⟨fun p hp => ?_, fun p q hp hq => ⟨fun e => ?_, fun ⟨w, h1, h2⟩ => ?_⟩, ?_⟩
  · show (if lab p = lab t.2 then lab t.1 else lab p) < n
    split
    · exact h.lt _ h1n
    · exact h.lt p hp
  · have e' : (if lab p = lab t.2 then lab t.1 else lab p) = (if lab q = lab t.2 then lab t.1 else lab q) := e
    by_cases a : lab p = lab t.2
    · by_cases b : lab q = lab t.2
      · exact ((h.conn p q hp hq).mp (a.trans b.symm)).mono mono
      · rw [if_pos a, if_neg b] at e'
        exact (((h.conn p t.2 hp hte.2).mp a).mono mono).trans ((Conn.step mem_i ht (.inr ⟨rfl, rfl⟩)).trans (((h.conn t.1 q h1n hq).mp e').mono mono))
    · by_cases b : lab q = lab t.2
      · rw [if_neg a, if_pos b] at e'
        exact (((h.conn p t.1 hp h1n).mp e').mono mono).trans ((Conn.step mem_i ht (.inl ⟨rfl, rfl⟩)).trans (((h.conn t.2 q hte.2 hq).mp b.symm).mono mono))
      · rw [if_neg a, if_neg b] at e'
        exact ((h.conn p q hp hq).mp e').mono mono
  · have key : ∀ {w : List Nat} {q : Nat}, Way ts p w q → (∀ x ∈ w, x ∈ tk ++ [i]) → q < n ∧ (if lab p = lab t.2 then lab t.1 else lab p) = (if lab q = lab t.2 then lab t.1 else lab q) := fun {w q} hw => by
      induction hw with
      | nil => exact fun _ => ⟨hp, rfl⟩
      | @snoc w r k q u hw hu he ih =>
        intro hx
        obtain ⟨hr, e1⟩ := ih fun x hx2 => hx x (List.mem_append_left _ hx2)
        have hue := hends u (List.mem_of_getElem? hu)
        have hq : q < n := by
          rcases he with ⟨_, e2⟩ | ⟨_, e2⟩ <;> omega
        refine ⟨hq, e1.trans ?_⟩
        rcases List.mem_append.mp (hx k (List.mem_append_right _ (List.mem_singleton.mpr rfl))) with z | z
        · rw [(h.conn r q hr hq).mpr (.step z hu he)]
        · obtain rfl : k = i := List.mem_singleton.mp z
          rw [ht] at hu
          cases hu
          rcases he with ⟨rfl, rfl⟩ | ⟨rfl, rfl⟩
          · rw [if_neg hne, if_pos rfl]
          · rw [if_neg hne, if_pos rfl]
    exact (key h1 h2).2
  · have nd : ((List.range n).filter fun x => decide (x ∈ (List.range n).map lab)).Nodup := List.nodup_range.filter _
    have hb : lab t.2 ∈ (List.range n).filter fun x => decide (x ∈ (List.range n).map lab) := List.mem_filter.mpr ⟨List.mem_range.mpr (h.lt _ hte.2), decide_eq_true (mem_lab.mpr ⟨t.2, hte.2, rfl⟩)⟩
    have e : ((List.range n).filter fun x => decide (x ∈ (List.range n).map fun p => if lab p = lab t.2 then lab t.1 else lab p)) = ((List.range n).filter fun x => decide (x ∈ (List.range n).map lab)).erase (lab t.2) := by
      rw [nd.erase_eq_filter, List.filter_filter]
      refine List.filter_congr fun x _ => ?_
      rw [Bool.eq_iff_iff, Bool.and_eq_true, decide_eq_true_eq, decide_eq_true_eq, mem_lab, mem_lab, bne_iff_ne]
      constructor
      · rintro ⟨p, hp, e⟩
        by_cases a : lab p = lab t.2
        · rw [if_pos a] at e
          exact ⟨fun z => hne (e.trans z), t.1, h1n, e⟩
        · rw [if_neg a] at e
          exact ⟨fun z => a (e.trans z), p, hp, e⟩
      · rintro ⟨hx, p, hp, e⟩
        exact ⟨p, hp, by rw [if_neg (fun a => hx (e.symm.trans a)), e]⟩
    have hn := h.num
    unfold numL at hn ⊢
    rw [e, List.length_erase_of_mem hb, List.length_append, List.length_singleton]
    have := List.length_pos_of_mem hb
    omega
theorem lab_tree {n : Nat} {ts : List Tie} (hends : ∀ t ∈ ts, t.1 < t.2 ∧ t.2 < n) : ∀ i, i ≤ ts.length → ∃ lab, Lab n ts (treeL ts i) lab
  | 0, _ => ⟨id, lab_start n ts⟩
  | i + 1, hi => by
    obtain ⟨lab, h⟩ := lab_tree hends i (by omega)
    have ht : ts[i]? = some ts[i] := List.getElem?_eq_getElem (by omega)
    have hte := hends _ (List.mem_of_getElem? ht)
    by_cases hc : Conn ts (treeL ts i) ts[i].1 ts[i].2
    · rw [tree_yes ht hc]
      exact ⟨lab, h⟩
    · rw [tree_no ht hc]
      exact ⟨_, lab_step hends h ht fun e => hc ((h.conn _ _ (by omega) hte.2).mp e)⟩
theorem tree_len {n : Nat} {ts : List Tie} (hok : WebOk n ts) : (treeL ts ts.length).length + 1 = n := by
  obtain ⟨lab, h⟩ := lab_tree hok.ends ts.length (Nat.le_refl _)
  have hpos := hok.pos
  have hn := h.num
  have e : ((List.range n).filter fun x => decide (x ∈ (List.range n).map lab)) = (List.range n).filter (· == lab 0) := by
    refine List.filter_congr fun x _ => ?_
    rw [Bool.eq_iff_iff, decide_eq_true_eq, beq_iff_eq, mem_lab]
    constructor
    · rintro ⟨p, hp, e⟩
      rw [← e]
      exact ((h.conn 0 p hpos hp).mpr (tree_all hok p hp)).symm
    · exact fun e => ⟨0, hpos, e.symm⟩
  have e2 : ((List.range n).filter (· == lab 0)).length = 1 := by
    have := (List.nodup_range (n := n)).count (a := lab 0)
    rw [if_pos (List.mem_range.mpr (h.lt 0 hpos))] at this
    rw [← List.countP_eq_length_filter]
    exact this
  unfold numL at hn
  rw [e, e2] at hn
  omega
end BV

/-! sorted(xs), xs a list of tuples of whole numbers, the first of them () -/
namespace BV
open PySem PySem.W PySem.Calls PySem.SeqAt PyProof.Rows
section
variable {prog : Program} {w : World} {A : Around} {E : Value → Shared → Prop} {s : Shared}
theorem call_tuple_lt {Q : Value → Shared → Prop} {l b : Addr} {items items2 : Array Value} {e r : Nat → Bool} (hl : s.heap.IsTuple l items) (hb : s.heap.IsTuple b items2)
    (he : ∀ j (h1 : j < items.size) (h2 : j < items2.size), EqAt A.in1 s items[j] items2[j] (e j)) (hr : ∀ j (h1 : j < items.size) (h2 : j < items2.size), e j = false → RcLt A.in1 s items[j] items2[j] (r j))
    (h : Q (.bool (firstLt e r (decide (items.size < items2.size)) (List.range (min items.size items2.size)))) s) : wpAny (model prog w) A (call (.builtin "tuple.__lt__") [.ref l, .ref b]) Q E s := by
  obtain ⟨⟨cls, dd, data, sl⟩, ho, hc, n, hd⟩ := id hl
  obtain ⟨⟨cls2, dd2, data2, sl2⟩, ho2, hc2, n2, hd2⟩ := id hb
  simp only at hc hd hc2 hd2
  subst hc hd hc2 hd2
  exact call_meets F.slot_tuple_lt ⟨_, ho, rfl⟩ F.entry_tuple_lt (F.args_tuple_lt_2 _ _) (tuple_ltAt l b items items2 n n2 dd dd2 sl sl2 e r) ⟨ho, ho2, he, hr, h⟩
theorem oneLt_tup {xs ys : List PyData} {a b : Value} {as bs : List Addr} {Q : Bool → Shared → Prop} (ra : Reads s.heap a (.tuple xs) as) (rb : Reads s.heap b (.tuple ys) bs) (h : alike (.tuple xs) (.tuple ys) = true)
    (hu : A.units + min (PyData.tuple xs).depth (PyData.tuple ys).depth < cLine) (hq : Q (dataLt (.tuple xs) (.tuple ys)) s) : wpAny (model prog w) A (oneLt' true a b) Q E s := by
  have hal : alikeAll xs ys = true := by simpa [alike] using h
  cases ra with
  | @tuple l o vs n _ as₁ h1 h2 h3 h4 =>
    cases rb with
    | @tuple l' o' vs' n' _ bs₁ k1 k2 k3 k4 =>
      have n1 : vs.size = xs.length := by simpa using ReadsAll.length _ _ _ h4
      have n2 : vs'.size = ys.length := by simpa using ReadsAll.length _ _ _ k4
      rw [dataLt_tuple, ← firstLt_toks xs ys hal, ← n1, ← n2] at hq
      rw [oneLt'_eq]
      simp only [if_true]
      refine wpAny_bind (wpAny_cRoomFor (room_here hu) ?_)
      refine wpAny_bind (wpAny_callSpecialIfBound?_slot (T := "tuple") ⟨_, h1, h2⟩ F.slot_tuple_lt (call_tuple_lt (e := pairEq xs ys) (r := fun j => dataLt (xs.getD j .none) (ys.getD j .none)) ⟨_, h1, h2, _, h3⟩ ⟨_, k1, k2, _, k3⟩ (fun j j1 j2 => ?_) (fun j j1 j2 hj => ?_) ?_))
      · have := eqAt_alikeAll xs ys A.in1 s vs.toList vs'.toList _ _ h4 k4 hal (room_in hu) j (by simpa using j1) (by simpa using j2)
        simpa using this
      · have := rcLt_alikeAll xs ys A.in1 s vs.toList vs'.toList _ _ h4 k4 hal (room_in hu) j (by simpa using j1) (by simpa using j2) hj
        simpa using this
      · exact wpAny_truthy_bool hq
end
section
variable {M : Model} {A : Around} {E : Value → Shared → Prop} {s : Shared}
/-- the first items of tuples, none of () -/
theorem firsts_some : ∀ (vs : List Value) (ds : List PyData) {Q : List (Option Value) → Shared → Prop}, EachIs (fun v d => ∃ xs as, d = PyData.tuple xs ∧ Reads s.heap v d as) vs ds →
    (∀ fs : List (Option Value), fs.length = vs.length → (ds.head? = some (.tuple []) → fs[0]? = some none) → Q fs s) → wpAny M A (vs.mapM firstOfTuple') Q E s
  | _, _, _, .nil, h => by
    rw [List.mapM_nil]
    exact wpAny_pure (h [] rfl fun z => by cases z)
  | v :: vs, d :: ds, Q, .cons ⟨xs, as, e, r⟩ t, h => by
    subst e
    cases r with
    | @tuple a o ws n _ _ ho hc hd hr =>
      rw [List.mapM_cons]
      refine wpAny_bind ?_
      rw [kas_first_eq]
      refine wpAny_bind (Looks.here (show Looks M s.heap (typeOf (.ref a)) o.cls from (Looks.ld ho).andThen .now) ?_)
      rw [hc, if_neg (by first | decide | simp)]
      refine wpAny_bind (listItems_at ho hd (wpAny_pure ?_))
      refine wpAny_bind (firsts_some vs ds (Q := fun bs s' => wpAny M A (pure (ws[0]? :: bs)) Q E s') t fun fs hl _ => wpAny_pure (h _ (by rw [List.length_cons, List.length_cons, hl]) fun z => ?_))
      have e : xs = [] := by
        have := Option.some.inj z
        injection this
      subst e
      have hz : ws.toList = [] := by
        cases q : ws.toList with
        | nil => rfl
        | cons _ _ =>
          rw [q] at hr
          cases hr
      have : ws[0]? = none := by
        rw [← Array.getElem?_toList, hz]
        rfl
      rw [this]
      rfl
theorem kind_unit {vs : List Value} {ds : List PyData} {Q : SortKind → Shared → Prop} (h2 : 2 ≤ vs.length) (t : EachIs (fun v d => ∃ xs as, d = PyData.tuple xs ∧ Reads s.heap v d as) vs ds) (h0 : ds.head? = some (.tuple [])) (h : Q oneType' s) :
    wpAny M A (keyKind' vs.toArray) Q E s := by
  rw [keyKind'_eq, List.mapM_toArray, map_eq_pure_bind]
  refine wpAny_bind (wpAny_bind (firsts_some vs ds t fun fs hl hf => wpAny_pure ?_))
  have hf0 := hf h0
  obtain ⟨rest, rfl⟩ : ∃ rest, fs = none :: rest := by
    cases fs with
    | nil => cases hf0
    | cons f rest =>
      have : f = none := Option.some.inj hf0
      exact ⟨rest, by rw [this]⟩
  rw [if_neg (by simp), if_neg (by simp)]
  rw [oneTypeOnly'_eq, List.mapM_toArray, map_eq_pure_bind]
  refine wpAny_bind (wpAny_bind (wpAny_bind (kas_mapM (r := Value.type "tuple") _ (fun v hv Q' hq => ?_) (wpAny_pure ?_))))
  · obtain ⟨d, hd, xs, as, rfl, r⟩ := t.left v hv
    exact (looks_reads r).here hq
  · obtain ⟨v₁, rest, rfl⟩ : ∃ v₁ rest, vs = v₁ :: rest := by
      cases vs with
      | nil => simp at h2
      | cons v₁ rest => exact ⟨v₁, rest, rfl⟩
    have hall : ((List.map (fun _ => Value.type "tuple") (v₁ :: rest)).toArray.all fun x => x == Value.type "tuple") = true := by
      simp only [List.all_toArray, List.all_map, List.all_eq_true]
      intro _ _
      rfl
    have h0 : (List.map (fun _ => Value.type "tuple") (v₁ :: rest)).toArray[0]? = some (Value.type "tuple") := by simp
    rw [h0]
    simp only [hall, if_true]
    exact wpAny_pure (wpAny_pure h)
end
section
variable {prog : Program} {w : World} {A : Around} {E : Value → Shared → Prop} {s : Shared}
theorem sortsAt_unit {vs : List Value} {ds : List PyData} (e : EachIs (fun v d => ∃ as, Reads s.heap v d as) vs ds) (hal : AllAlike ds) (ht : ∀ d ∈ ds, ∃ xs, d = PyData.tuple xs) (h0 : ds.head? = some (.tuple [])) (hu : ∀ d, d ∈ ds → A.units + d.depth < cLine) : SortsAt prog w A s (dataKind s.heap ds) vs := by
  refine ⟨fun v hv => ?_, oneType', ?_, fun h2 E Q hq => ?_⟩
  · obtain ⟨d, hd, as, r⟩ := e.left v hv
    exact ⟨_, dataKind_some hal hd r⟩
  · intro E x y a b Q ha hb hq
    obtain ⟨d, as, hd, ra, rfl⟩ := dataKind_inv ha
    obtain ⟨d', as', hd', rb, rfl⟩ := dataKind_inv hb
    obtain ⟨xs, rfl⟩ := ht d hd
    obtain ⟨ys, rfl⟩ := ht d' hd'
    rw [keyLt'_oneType]
    exact oneLt_tup ra rb (hal _ hd _ hd') (Nat.lt_of_le_of_lt (Nat.add_le_add_left (Nat.min_le_left _ _) _) (hu _ hd)) hq
  · exact kind_unit h2 ((each_mem e).mono fun v d ⟨⟨as, r⟩, hd⟩ => by
      obtain ⟨xs, rfl⟩ := ht d hd
      exact ⟨xs, as, rfl, r⟩) h0 hq
theorem sorted_unit {β : Type} {vs : List Value} {bs : List β} {enc : β → PyData} {R : Value → β → Prop} {l : Addr} {Q : Value → Shared → Prop} (hl : s.heap.IsList l vs.toArray) (e : EachIs R vs bs) (er : EachIs (fun v b => ∃ as, Reads s.heap v (enc b) as) vs bs) (hal : AllAlike (bs.map enc))
    (ht : ∀ b : β, ∃ xs, enc b = PyData.tuple xs) (h0 : (bs.map enc).head? = some (.tuple [])) (hL : bs.length ≤ sizeLine)
    (hu : ∀ b, b ∈ bs → A.units + 2 + (enc b).depth < cLine) (h : ∀ out, out.length = bs.length → EachIs R out (bs.mergeSort (dataLe false enc)) → Q (.ref (s.heap.objs.size + 1)) { s with heap := sortedAll s.heap vs (List.toArray out) }) :
    wpAny (model prog w) A (call (.builtin "sorted") [.ref l]) Q E s := by
  have er' : EachIs (fun v b => ∃ as, Reads (sortingHeap (copyHeap s.heap vs) (s.heap.objs.size + 1) vs) v (enc b) as) vs bs := er.mono fun _ _ ⟨as, r⟩ => ⟨as, PyProof.Rows.Reads.keeps (fun _ _ => sorting_copy_old) r⟩
  refine sorted_vals hl (sortsAt_unit (s := { s with heap := sortingHeap (copyHeap s.heap vs) (s.heap.objs.size + 1) vs }) (each_map (R := fun v d => ∃ as, Reads (sortingHeap (copyHeap s.heap vs) (s.heap.objs.size + 1) vs) v d as) enc er') hal (fun d hd => ?_) h0 (bound_map hu)) (by rw [e.length]; exact hL)
    (h _ (by rw [sortVals_length false rfl]; exact e.length) (sortVals_data false e er' hal))
  obtain ⟨b, _, rfl⟩ := List.mem_map.mp hd
  exact ht b
end
end BV

namespace BV
open PySem L2 PySem.W PySem.SeqAt PyProof.Rows
theorem each_dp {K : PySem.W.Frag} {H : Hp} : ∀ {lots : List (List Nat)} {xs : List V} {us : List Value}, Vals xs us → DpAll K H xs (lots.map lotD) → EachIs (fun v b => ∃ x : V, RelV x v ∧ Dp K H x (lotD b)) us lots
  | [], _, _, r, h => by
    have h' : DpAll K H _ [] := h
    cases h'
    cases r
    exact .nil
  | l :: lots, _, _, r, h => by
    have h' : DpAll K H _ (lotD l :: lots.map lotD) := h
    cases h' with
    | cons d ds =>
      cases r with
      | cons r1 rs => exact .cons ⟨_, r1, d⟩ (each_dp rs ds)
theorem dp_each {K : PySem.W.Frag} {H : Hp} : ∀ {lots : List (List Nat)} {us : List Value}, EachIs (fun v b => ∃ x : V, RelV x v ∧ Dp K H x (lotD b)) us lots → ∃ ys, Vals ys us ∧ DpAll K H ys (lots.map lotD)
  | _, _, .nil => ⟨[], .nil, .nil⟩
  | _, _, .cons ⟨x, r, d⟩ t => by
    obtain ⟨ys, h1, h2⟩ := dp_each t
    exact ⟨x :: ys, .cons r h1, .cons d h2⟩
theorem lotD_ints (ks : List Nat) : lotD ks = .tuple ((ks.map fun (k : Nat) => (k : Int)).map PyData.int) := by
  unfold lotD
  rw [List.map_map]
  rfl
theorem lotD_depth (ks : List Nat) : (lotD ks).depth ≤ 1 := by
  rw [lotD_ints]
  have := depth_ints (ks.map fun (k : Nat) => (k : Int))
  simp only [PyData.depth]
  omega
theorem lotD_alike (k m : List Nat) : alike (lotD k) (lotD m) = true := by
  rw [lotD_ints, lotD_ints]
  simp only [alike]
  exact alike_ints _ _
abbrev leL : List Nat → List Nat → Bool := dataLe false lotD
def rSortLots (K : PySem.W.Frag) : List V → Hp → VK → Prop := fun vs H Q => ∃ (a : Addr) (xs : List V) (lots : List (List Nat)), vs = [V.ref a] ∧ SqL K H a xs ∧ DpAll K H xs (lots.map lotD) ∧ lots.head? = some [] ∧
  ∀ (p : Addr) (ys : List V), H p = none → DpAll K H ys ((lots.mergeSort leL).map lotD) → Q (.ref p) (upd H p (.lst ys))
theorem cr_sortLots {X : Cx} (K : PySem.W.Frag) (hu : X.A.units + 64 < cLine) (h : X.K = K := by rfl) : CallR X (.builtin "sorted") (rSortLots K) := by
  subst h
  intro pins s σ H vs us Q I r h
  obtain ⟨a, xs, lots, rfl, hs, hd, h0, q⟩ := h
  obtain ⟨its, rv, hl, hz⟩ := I.list hs
  rw [Vals.ref1 r]
  have e := each_dp rv hd
  have er : EachIs (fun v b => ∃ as, Reads s.heap v (lotD b) as) its lots := e.mono fun v b ⟨x, r, d⟩ => Dp.reads I _ x v d r
  refine sorted_unit hl.isList e er (AllAlike.of lotD_alike) (fun b => ⟨_, rfl⟩) ?_ (by rw [← e.length, ← rv.length]; exact hz) (fun b _ => by have := lotD_depth b; omega) fun out ho eo => ?_
  · rw [List.head?_map, h0]
    rfl
  · obtain ⟨ys, hv, hD⟩ := dp_each eo
    obtain ⟨ep, he'⟩ := PyProof.Rows.sortedAll_at s.heap its (List.toArray out)
    have hlen : ys.length ≤ sizeLine := by
      rw [hv.length, ho, ← e.length, ← rv.length]
      exact hz
    exact ⟨.ref _, upd H (s.heap.objs.size + 1) (.lst ys), I.laid (t' := s.toks) (fun _ _ => PyProof.Rows.sortedAll_old) (Nat.le_succ _) ⟨hlen, out, ep, hv, he'⟩, rfl, q _ ys (I.hok.fresh (Nat.le_succ _)) hD⟩
theorem leL_eq (p q : List Nat) : leL p q = decide ((p.map fun (k : Nat) => (k : Int)) ≤ q.map fun (k : Nat) => (k : Int)) := by
  show (!dataLt (lotD q) (lotD p)) = _
  rw [lotD_ints, lotD_ints, dataLt_tuple]
  show (!rowLt ((q.map fun (k : Nat) => (k : Int)).map .int) ((p.map fun (k : Nat) => (k : Int)).map .int)) = _
  rw [dataLt_ints]
  by_cases h : (q.map fun (k : Nat) => (k : Int)) < p.map fun (k : Nat) => (k : Int)
  · have h' : ¬ (p.map fun (k : Nat) => (k : Int)) ≤ q.map fun (k : Nat) => (k : Int) := fun r => List.not_lt.mpr r h
    simp [h, h']
  · have h' : (p.map fun (k : Nat) => (k : Int)) ≤ q.map fun (k : Nat) => (k : Int) := List.not_lt.mp h
    simp [h, h']
theorem cast_inj : ∀ {p q : List Nat}, (p.map fun (k : Nat) => (k : Int)) = (q.map fun (k : Nat) => (k : Int)) → p = q
  | [], [], _ => rfl
  | [], _ :: _, h => by cases h
  | _ :: _, [], h => by cases h
  | a :: p, b :: q, h => by
    have h1 := List.cons.inj h
    rw [cast_inj h1.2, Int.ofNat.inj h1.1]
theorem sort_lots {l m : List (List Nat)} (h : l.Perm m) : l.mergeSort leL = m.mergeSort leL := by
  have tr : ∀ a b c : List Nat, leL a b = true → leL b c = true → leL a c = true := fun a b c h1 h2 => by
    rw [leL_eq, decide_eq_true_eq] at h1 h2 ⊢
    exact List.le_trans h1 h2
  have to : ∀ a b : List Nat, (leL a b || leL b a) = true := fun a b => by
    rw [leL_eq, leL_eq, Bool.or_eq_true, decide_eq_true_eq, decide_eq_true_eq]
    exact List.le_total _ _
  refine ((List.mergeSort_perm l leL).trans (h.trans (List.mergeSort_perm m leL).symm)).eq_of_pairwise (le := fun a b => leL a b = true) (fun a b _ _ h1 h2 => ?_) (List.pairwise_mergeSort tr to l) (List.pairwise_mergeSort tr to m)
  rw [leL_eq, decide_eq_true_eq] at h1 h2
  exact cast_inj (List.le_antisymm h1 h2)
end BV

/-! sorted(t), t a tuple of whole numbers -/
namespace PyProof.Rows
open PySem
section
variable {prog : Program} {w : World} {A : Around} {E : Value → Shared → Prop} {s : Shared}
theorem collect_tupleB {l : Addr} {vs : List Value} {Q : List Value → Shared → Prop} (hl : s.heap.IsTuple l vs.toArray)
    (h : Q vs { s with heap := (s.heap.push (seqObj "list" #[] 0)).update s.heap.objs.size (Obj.mapSeq (· ++ vs.toArray)) }) (hsz : vs.length ≤ sizeLine) :
    wpAny (model prog w) A (collect (.ref l)) Q E s := by
  obtain ⟨o, ho, hc, n, hd⟩ := id hl
  unfold collect
  refine wpAny_bind (wpAny_runValue (codeAny_builtin entry_proto_collect' ?_))
  show wpAny _ _ (do again (.builtin "list.__iadd__" ⟨[← newList [], .ref l], []⟩)) _ _ s
  refine wpAny_bind (wpAny_newList (wpAny_pure ⟨Code.quiet_builtin _ (by decide +kernel), codeAny_builtin entry_list_iadd' ?_⟩))
  show wpAny _ _ (Builtin.List.listExtendWith (.ref s.heap.objs.size) (.ref l) (.ref s.heap.objs.size)) _ _ { s with heap := s.heap.push (seqObj "list" #[] 0) }
  unfold Builtin.List.listExtendWith
  have ho' : (s.heap.push (seqObj "list" #[] 0)).get? l = some o := Heap.get?_push_of_some _ ho
  refine wpAny_bind (wpAny_typeOf (T := "tuple") ⟨o, ho', hc⟩ ?_)
  have ht : (Value.type "tuple" == Value.type "tuple") = true := by rfl
  rw [if_pos (by rw [ht]; simp)]
  refine wpAny_bind (listItems_at ho' hd ?_)
  refine wpAny_bind (listItems_at (xs := #[]) (n := 0) (Heap.get?_push_size _ rfl) rfl ?_)
  rw [if_neg (by simp)]
  refine wpAny_bind (listUpdate_at (xs := #[]) (n := 0) (Heap.get?_push_size _ rfl) rfl ?_ (Nat.zero_le _) (by show (#[] ++ vs.toArray).size ≤ sizeLine + 1; simp only [Array.size_append, List.size_toArray, List.length_nil]; omega))
  refine wpAny_pure ?_
  show wpAny (model prog w) A (do
      let o ← load s.heap.objs.size
      match o.data with
      | .seq xs _ => pure xs.toList
      | _ => unsupported "internal:collect") Q E { s with heap := (s.heap.push (seqObj "list" #[] 0)).update s.heap.objs.size (Obj.mapSeq (· ++ vs.toArray)) }
  refine wpAny_bind (wpAny_load (get?_update_seq (Heap.get?_push_size _ rfl) _) ?_)
  show wpAny _ _ (pure ((#[] : Array Value) ++ vs.toArray).toList) Q E _
  rw [show ((#[] : Array Value) ++ vs.toArray).toList = vs by simp]
  exact wpAny_pure h
theorem sorted_tupB {l : Addr} {vs : List Value} {ns : List Int} {Q : Value → Shared → Prop} (hl : s.heap.IsTuple l vs.toArray) (hI : IntsAre vs ns) (h64 : vs.length < 64)
    (h : ∀ (out : Array Value) (ns' : List Int), IntsAre out.toList ns' → ns'.Perm ns → ns'.Pairwise (· ≤ ·) → Q (.ref (s.heap.objs.size + 1)) { s with heap := sortedAll s.heap vs out }) :
    wpAny (model prog w) A (call (.builtin "sorted") [.ref l]) Q E s := by
  refine Calls.call_function_entry kind_sorted plain_sorted entry_sorted (args_sorted1 _) ?_
  unfold Builtin.«sorted»
  refine wpAny_bind (m := checkCount "sorted" 1 1 _) (wpAny_pure ?_)
  refine wpAny_bind (collect_tupleB hl ?_ (by rw [sizeLine_eq]; omega))
  refine wpAny_bind (wpAny_newList ?_)
  have hsz : ((s.heap.push (seqObj "list" #[] 0)).update s.heap.objs.size (Obj.mapSeq (· ++ vs.toArray))).objs.size = s.heap.objs.size + 1 := by
    rw [Heap.size_update, size_push']
  have hoL : (((s.heap.push (seqObj "list" #[] 0)).update s.heap.objs.size (Obj.mapSeq (· ++ vs.toArray))).push (seqObj "list" vs.toArray 0)).get? (s.heap.objs.size + 1) = some (seqObj "list" vs.toArray 0) := by
    rw [← hsz]; exact Heap.get?_push_size _ rfl
  show wpAny _ _ _ _ _ { s with heap := ((s.heap.push (seqObj "list" #[] 0)).update s.heap.objs.size (Obj.mapSeq (· ++ vs.toArray))).push (seqObj "list" vs.toArray 0) }
  rw [hsz]
  refine wpAny_bind (wpAny_holding (wpAny_call_entry slot_list_sort ⟨_, hoL, rfl⟩ entry_list_sort (list_sort_tree hoL hI h64 fun out ns' a1 a2 a3 => ⟨_, rfl, ?_⟩) (args_list_sort _)))
  exact wpAny_pure ⟨_, rfl, h out ns' a1 a2 a3⟩
end
end PyProof.Rows
namespace BV
open PySem L2
def rSortT (K : PySem.W.Frag) : List V → Hp → VK → Prop := fun vs H Q => ∃ (a : Addr) (ns : List Int), vs = [V.ref a] ∧ SqT K H a (ns.map V.int) ∧ ns.length < 64 ∧
  ∀ (ns' : List Int) (p : Addr), ns'.Perm ns → ns'.Pairwise (· ≤ ·) → H p = none → Q (.ref p) (upd H p (.lst (ns'.map V.int)))
theorem cr_sortTup {X : Cx} (K : PySem.W.Frag) (h : X.K = K := by rfl) : CallR X (.builtin "sorted") (rSortT K) := by
  subst h
  intro pins s σ H vs us Q I r h
  obtain ⟨a, ns, rfl, hs, h64, q⟩ := h
  obtain ⟨its, rv, hl, _⟩ := I.tuple hs
  rw [Vals.ref1 r]
  have hi := rv.ints
  refine PyProof.Rows.sorted_tupB hl hi (by rw [hi.length]; exact h64) fun out ns' h1 h2 h3 => ?_
  obtain ⟨ep, he'⟩ := PyProof.Rows.sortedAll_at s.heap its out
  have hlen : (ns'.map V.int).length ≤ sizeLine := by rw [List.length_map, h2.length_eq]; exact small64 h64
  exact ⟨.ref _, upd H (s.heap.objs.size + 1) (.lst (ns'.map V.int)), I.laid (t' := s.toks) (fun _ _ => PyProof.Rows.sortedAll_old) (Nat.le_succ _) ⟨hlen, out.toList, ep, vals_of_ints h1, he'⟩, rfl, q ns' _ h2 h3 (I.hok.fresh (Nat.le_succ _))⟩
end BV

namespace BV
open PySem L2
/-! lots by numbers -/
def lotN (L z : Nat) : List Nat := (List.range L).filter fun k => decide (z / 2 ^ (L - 1 - k) % 2 = 1)
theorem lotN_lot (L z : Nat) : LotA L (lotN L z) := ⟨List.pairwise_lt_range.filter _, fun k hk => List.mem_range.mp (List.mem_filter.mp hk).1⟩
theorem mem_lotN {L z k : Nat} : k ∈ lotN L z ↔ k < L ∧ z / 2 ^ (L - 1 - k) % 2 = 1 := by
  unfold lotN
  rw [List.mem_filter, List.mem_range, decide_eq_true_eq]
theorem bits_inj : ∀ (L : Nat) {y z : Nat}, y < 2 ^ L → z < 2 ^ L → (∀ i, i < L → (y / 2 ^ i % 2 = 1 ↔ z / 2 ^ i % 2 = 1)) → y = z
  | 0, y, z, hy, hz, _ => by
    rw [Nat.pow_zero] at hy hz
    omega
  | L + 1, y, z, hy, hz, h => by
    have e := bits_inj L (y := y / 2) (z := z / 2) (by rw [Nat.pow_succ] at hy; omega) (by rw [Nat.pow_succ] at hz; omega) fun i hi => by
      have := h (i + 1) (by omega)
      rw [Nat.pow_succ, Nat.mul_comm, ← Nat.div_div_eq_div_mul, ← Nat.div_div_eq_div_mul] at this
      exact this
    have h0 := h 0 (by omega)
    rw [Nat.pow_zero, Nat.div_one, Nat.div_one] at h0
    omega
theorem bits_ex (f : Nat → Bool) : ∀ L : Nat, ∃ z, z < 2 ^ L ∧ ∀ i, i < L → (z / 2 ^ i % 2 = 1 ↔ f i = true)
  | 0 => ⟨0, by rw [Nat.pow_zero]; omega, fun i hi => absurd hi (Nat.not_lt_zero i)⟩
  | L + 1 => by
    obtain ⟨z, h1, h2⟩ := bits_ex f L
    by_cases hf : f L = true
    · refine ⟨z + 2 ^ L, by rw [Nat.pow_succ]; omega, fun i hi => ?_⟩
      by_cases e : i = L
      · rw [e, hf, Nat.add_div_right _ (Nat.pow_pos (by decide)), Nat.div_eq_of_lt h1]
        exact ⟨fun _ => rfl, fun _ => rfl⟩
      · rw [← h2 i (by omega)]
        have e2 : 2 ^ L = 2 ^ i * (2 * 2 ^ (L - i - 1)) := by
          rw [← Nat.pow_succ', ← Nat.pow_add]
          congr 1
          omega
        rw [e2, Nat.add_mul_div_left _ _ (Nat.pow_pos (by decide))]
        generalize z / 2 ^ i = a
        generalize 2 ^ (L - i - 1) = b
        constructor <;> intro h <;> omega
    · refine ⟨z, by rw [Nat.pow_succ]; omega, fun i hi => ?_⟩
      by_cases e : i = L
      · rw [e, Nat.div_eq_of_lt h1]
        exact ⟨fun q => (by cases q), fun q => absurd q hf⟩
      · exact h2 i (by omega)
theorem lotN_inj {L y z : Nat} (hy : y < 2 ^ L) (hz : z < 2 ^ L) (h : lotN L y = lotN L z) : y = z := by
  refine bits_inj L hy hz fun i hi => ?_
  have h1 : L - 1 - i ∈ lotN L y ↔ L - 1 - i ∈ lotN L z := by rw [h]
  rw [mem_lotN, mem_lotN, show L - 1 - (L - 1 - i) = i by omega] at h1
  have h2 : L - 1 - i < L := by omega
  exact ⟨fun q => (h1.mp ⟨h2, q⟩).2, fun q => (h1.mpr ⟨h2, q⟩).2⟩
theorem lotN_all {L : Nat} {E : List Nat} (hE : LotA L E) : ∃ z, z < 2 ^ L ∧ lotN L z = E := by
  obtain ⟨z, h1, h2⟩ := bits_ex (fun i => decide (L - 1 - i ∈ E)) L
  refine ⟨z, h1, lot_ext (lotN_lot L z) hE fun k hk => ?_⟩
  rw [mem_lotN, h2 (L - 1 - k) (by omega), decide_eq_true_eq, show L - 1 - (L - 1 - k) = k by omega]
  exact ⟨fun q => q.2, fun q => ⟨hk, q⟩⟩
open Classical in
noncomputable def evensL (n : Nat) (ts : List Tie) (i : Nat) : List (List Nat) := ((List.range i).map (lotN ts.length)).filter fun E => decide (EvenE n ts E)
open Classical in
theorem evens_nd (n : Nat) (ts : List Tie) : (evensL n ts (2 ^ ts.length)).Nodup := by
  unfold evensL
  refine List.Pairwise.filter _ ?_
  refine List.pairwise_map.mpr (List.nodup_range.imp_of_mem fun {x y} hx hy hxy e => hxy (lotN_inj (List.mem_range.mp hx) (List.mem_range.mp hy) e))
open Classical in
theorem mem_evens {n : Nat} {ts : List Tie} {E : List Nat} : E ∈ evensL n ts (2 ^ ts.length) ↔ LotA ts.length E ∧ EvenE n ts E := by
  unfold evensL
  rw [List.mem_filter, decide_eq_true_eq, List.mem_map]
  constructor
  · rintro ⟨⟨z, _, rfl⟩, h⟩
    exact ⟨lotN_lot _ _, h⟩
  · rintro ⟨h1, h2⟩
    obtain ⟨z, hz, rfl⟩ := lotN_all h1
    exact ⟨⟨z, List.mem_range.mpr hz, rfl⟩, h2⟩
theorem sums_len (L : Nat) (R : Nat → List Nat) : ∀ cs : List Nat, (sumsOf L R cs).length = 2 ^ cs.length
  | [] => rfl
  | c :: cs => by
    show (sumsOf L R cs ++ (sumsOf L R cs).map _).length = _
    rw [List.length_append, List.length_map, sums_len L R cs, List.length_cons, Nat.pow_succ]
    omega
theorem sums_head (L : Nat) (R : Nat → List Nat) : ∀ cs : List Nat, (sumsOf L R cs).head? = some []
  | [] => rfl
  | c :: cs => by
    show (sumsOf L R cs ++ (sumsOf L R cs).map _).head? = _
    rw [List.head?_append, sums_head L R cs]
    rfl
open Classical in
theorem evens_head (n : Nat) (ts : List Tie) : ∀ i, (evensL n ts (i + 1)).head? = some [] := fun i => by
  have e : lotN ts.length 0 = [] := List.filter_eq_nil_iff.mpr fun k _ => by simp
  have ev : EvenE n ts [] := fun _ _ => rfl
  unfold evensL
  rw [List.range_succ_eq_map, List.map_cons, e, List.filter_cons, if_pos (decide_eq_true ev)]
  rfl
/-! lists of lots as data -/
theorem alike_lots : ∀ ls : List (List Nat), PySem.W.alikeAll (ls.map lotD) (ls.map lotD) = true
  | [] => by simp [PySem.W.alikeAll]
  | l :: ls => by
    have h := alike_lots ls
    have h2 := lotD_alike l l
    show PySem.W.alikeAll (lotD l :: ls.map lotD) (lotD l :: ls.map lotD) = true
    rw [PySem.W.alikeAll, h, h2]
    rfl
theorem eqv_lotsL (ls : List (List Nat)) : PyData.eqv (.list (ls.map lotD)) (.list (ls.map lotD)) = true :=
  PySem.W.eqv_refl_alike _ (by
    simp only [PySem.W.alike]
    exact alike_lots ls)
theorem lay_lots : ∀ ls : List (List Nat), PyData.canLayAll0 (ls.map lotD) = true
  | [] => by simp [PyData.canLayAll0]
  | l :: ls => by
    have h := lay_lots ls
    have h1 := lay_ints (l.map fun (k : Nat) => (k : Int))
    show PyData.canLayAll0 (lotD l :: ls.map lotD) = true
    rw [lotD_ints]
    rw [List.map_map] at h1
    simp [PyData.canLayAll0, PyData.canLay0, h, h1]
theorem deep_lots : ∀ ls : List (List Nat), PyData.depthAll (ls.map lotD) ≤ 1
  | [] => by simp [PyData.depthAll]
  | l :: ls => by
    have h := deep_lots ls
    have h1 := lotD_depth l
    show PyData.depthAll (lotD l :: ls.map lotD) ≤ 1
    rw [PyData.depthAll]
    omega
theorem shaped_lotsL (ls : List (List Nat)) : SeqAt.shaped (.list (ls.map lotD)) = true := by
  have h1 := lay_lots ls
  have h2 := deep_lots ls
  have h3 : PyData.depthAll (ls.map lotD) + 1 ≤ 64 := by omega
  simp [SeqAt.shaped, PyData.canLay0, PyData.depth, h1, h3]
end BV

namespace BV
open PySem L2
local macro_rules | `(tactic| walk_at "rd") => `(tactic| (repeat (first | refine ⟨_, rfl, ?_⟩ | refine ⟨_, _, rfl, rfl, ?_⟩ | refine Or.inl ⟨_, rfl, ?_⟩ | refine Or.inr ⟨_, rfl, ?_⟩ | refine ⟨_, _, rfl, ?_⟩)))
def top (i : Nat) : Stmt := PySem.Challenge.pw_botheven_k08_whole_rounds_of_the_first_t.main.body.getD i (.Pass ⟨0, 0, 0, 0⟩)
abbrev sBox : Stmt := top 19
abbrev nBox : List Str := ["_law_script", "_law_marks", "_law_stirred", "_law_mark", "_law_cell"]
theorem scBox : FnScope nBox ["_law_script"] (defScope sBox) := ⟨rfl, rfl, rfl, by decide +kernel, rfl, by decide +kernel, by decide +kernel⟩
section
variable {P : Program} {w : World} {K : PySem.W.Frag} {mg : Str → Option Value} {base : Heap}
theorem ok_box {f : Addr} {fd : FuncData} (D : Df K mg "_law_box" sBox ["_law_script"] f fd) (T : Bl mg) : FnOk P w K mg base CX0 1 f fd ["_law_script"] (spBox K) := by
  refine D.fn.ok scBox (fun vs H Q E h => ?_) (fun cdv A outer s H vs Q E hr h => ?_)
  · obtain ⟨a, ns, rfl, _⟩ := h
    rfl
  · obtain ⟨a, ns, rfl, hS, hlen, k⟩ := h
    have hu := hu_of hr
    have nd := scBox.nd
    refine ⟨_, (pss_cons (ps_par (i := 1) (j := 2) (by rfl) nd rfl rfl (by decide) rfl rfl (pa_cons (pe_lc (own := [("_law_cell", 4)]) (g := gName 4) (tt := tYes) rfl nd (pi_list (pe_slice sl_list (pv 0) po_none (po_some pe_int))) (blkOk_by (own := [("_law_cell", 4)]) (N := nBox) (sc := defScope sBox) (by decide +kernel)) (fun _ _ _ _ _ => (pg_name (i := 4) nd rfl (by first | exact Or.inl rfl | exact Or.inr rfl))) (fun _ _ _ _ _ => pts_nil) (fun _ _ _ _ _ => (pe_op op_add (pe_op op_mul pe_int (pe_callB call_abs (by rfl) T.abs (by decide +kernel) (pa_cons (pv 4) pa_nil))) (pe_callTy call_int1 (by rfl) T.int (by decide +kernel) (pa_cons (pe_cmpR op_lt (pv 4) pe_int (nomark _)) pa_nil))))) (pa_cons (pe_op op_add pe_int (pe_callB call_len_seq (by rfl) T.len PySem.boot_len (pa_cons (pv 0) pa_nil))) pa_nil)) (by rfl))
      (pss_cons (ps_for PassesOwn.never rfl (pi_list (pv 1)) (pg_name (i := 3) nd rfl (by first | exact Or.inl rfl | exact Or.inr rfl)) (pss_one (ps_set (i := 2) nd rfl (by first | exact Or.inl rfl | exact Or.inr rfl) (pe_op op_mod (pe_callTy call_int1 (by rfl) T.int (by decide +kernel) (pa_cons (pe_op op_add (pe_op op_mul (pv 2) pe_int) (pv 3)) pa_nil)) pe_int))))
      (pss_one (ps_ret (pe_disp (pps_cons pe_str (pe_lc (own := [("_law_mark", 3)]) (g := gName 3) rfl nd (pi_list (pv 1)) (blkOk_by (own := [("_law_mark", 3)]) (N := nBox) (sc := defScope sBox) (by decide +kernel)) (fun _ _ _ _ _ => (pg_name (i := 3) nd rfl (by first | exact Or.inl rfl | exact Or.inr rfl))) (fun _ _ _ _ _ => (pts_one (pt_cmpR op_gt (pv 3) (pe_op op_pow pe_int pe_int) (nomark _)))) (fun _ _ _ _ _ => (pv 3))) (pps_cons pe_str (pv 2) (pps_cons pe_str pe_int pps_nil))) (by rfl) (by rfl) (fun z => by cases z) (by decide)))))), ?_⟩
    -- the comprehension over script[:63]
    refine ⟨_, rfl, 63, rfl, a, _, rfl, hS, fun p hp => ?_⟩
    refine ⟨p, rfl, ⟨_, SqL.of upd_same⟩, fun D hD => ?_⟩
    have s1 : Same H (upd H p (.lst (cutV (ns.map V.int) none (some 63)))) := same_new hp
    refine lc_run (walk_list (xs := cutV (ns.map V.int) none (some 63))) hD (fun i acc _ => acc.length = i ∧ ∃ ms : List Int, acc = ms.map V.int) ?_ ?_ ?_ ?_
    · exact fun H' s => SqL.of (s _ _ upd_same)
    · exact ⟨rfl, [], rfl⟩
    · rintro i x acc H2 H' hi ha e s ⟨hl, ms, rfl⟩ ⟨rfl, hx⟩
      obtain ⟨z, rfl⟩ : ∃ z : Int, x = .int z := by
        have h1 : x ∈ cutV (ns.map V.int) none (some 63) := List.mem_of_getElem? hx
        have h2 : x ∈ ns.map V.int := List.mem_of_mem_drop (List.mem_of_mem_take h1)
        obtain ⟨z, _, e⟩ := List.mem_map.mp h2
        exact ⟨z, e.symm⟩
      refine ⟨rfl, yes_go ?_⟩
      walk_at "rd"
      refine ⟨.inl ⟨by decide, by decide⟩, ?_⟩
      walk_at "rd"
      have hms : ms.length = i := by rw [← hl, List.length_map]
      have hb : cutV (ns.map V.int) none (some 63) = ns.map V.int := by
        rw [show cutV (ns.map V.int) none (some 63) = ((ns.map V.int).drop 0).take (min 63 (ns.map V.int).length - 0) from rfl, List.drop_zero, List.take_of_length_le]
        rw [List.length_map]
        omega
      have hi2 : i < 63 := by
        rw [hb, List.length_map] at hi
        omega
      refine lc_add ha e (Same.refl _) (by rw [hl]; omega) ⟨by rw [List.length_append, hl]; rfl, ms ++ [_], by rw [List.map_append]; rfl⟩
    · rintro acc H2 hD2 s2 ⟨hl, ms, rfl⟩
      have hS2 : SqL K H2 a (ns.map V.int) := Same.seq (Same.trans s1 s2) hS
      have hml : ms.length ≤ 63 := by
        have h0 := cutV_length (ns.map V.int) none (some 63)
        rw [List.length_map] at h0 hl
        omega
      walk_at "rd"
      refine ⟨_, _, rfl, .inl hS2, ?_⟩
      walk_at "rd"
      -- the stirring
      refine ⟨⟨_, SqL.of hD2⟩, for_it (walk_list (xs := ms.map V.int)) (fun i σ H' => ∃ (st : Int) (v : Option V),
        σ = [some (.ref a), some (.ref D), some (.int st), v, none] ∧ H' = H2 ∧ 0 ≤ st ∧ st < 2 ^ 33) ?_ ?_ ?_ ?_⟩
      · refine ⟨40961 + ((ns.map V.int).length : Int), none, rfl, rfl, by omega, ?_⟩
        rw [List.length_map]
        omega
      · rintro i σ H' _ ⟨st, v, rfl, rfl, _⟩
        exact SqL.of hD2
      · rintro i x σ H' H'' hi ⟨st, v, rfl, rfl, h0, h1⟩ ⟨rfl, hx⟩
        obtain ⟨z, hz, rfl⟩ := ints_at hx
        walk_at "rd"
        refine ⟨.inl ⟨by omega, by omega⟩, ?_⟩
        walk_at "rd"
        refine ⟨by show (0 : Int) < 4294967291; decide, ?_⟩
        refine ⟨_, some _, rfl, rfl, Int.emod_nonneg _ (by decide), Int.lt_of_lt_of_le (Int.emod_lt_of_pos _ (by decide)) (by decide)⟩
      · rintro σ H' ⟨st, v, rfl, rfl, h0, h1⟩
        intro b hb
        -- the great ones
        have nDb : D ≠ b := ne_of_none hD2 hb
        have hDb : upd H' b (.dK []) D = some (.lst (ms.map V.int)) := by rw [upd_ne nDb]; exact hD2
        have sb : Same H' (upd H' b (.dK [])) := same_new hb
        refine ⟨_, rfl, D, rfl, ⟨_, SqL.of hDb⟩, fun g hg => ?_⟩
        refine lc_run (walk_list (xs := ms.map V.int)) hg (fun i acc _ => acc.length ≤ i ∧ ∃ ms : List Int, acc = ms.map V.int) ?_ ?_ ?_ ?_
        · exact fun H3 s => SqL.of (s _ _ hDb)
        · exact ⟨Nat.le_refl _, [], rfl⟩
        · rintro i x acc H3 H4 hi ha e s3 ⟨hl, ms2, rfl⟩ ⟨rfl, hx⟩
          obtain ⟨z, hz, rfl⟩ := ints_at hx
          rw [List.length_map] at hi
          refine ⟨rfl, ?_⟩
          walk_at "rd"
          refine ⟨⟨by decide, by decide, by decide⟩, ?_⟩
          walk_at "rd"
          refine ite2 (fun _ => ?_) (fun _ => ?_)
          · walk_at "rd"
            refine lc_add ha e (Same.refl _) (by omega) ⟨?_, ms2 ++ [z], by rw [List.map_append]; rfl⟩
            rw [List.length_append]
            exact Nat.succ_le_succ hl
          · exact lc_skip ha e (Same.refl _) ⟨Nat.le_succ_of_le hl, ms2, rfl⟩
        · rintro acc H3 hg3 s3 ⟨hl, ms2, rfl⟩
          rw [List.length_map, List.length_map] at hl
          have hb3 : H3 b = some (.dK []) := s3 _ _ upd_same
          walk_at "rd"
          refine ⟨hb3, boxD g st 0, rfl, by show 3 ≤ 15; decide, ?_⟩
          have hbg : b ≠ g := ne_of_none upd_same hg
          have hg0 : H' g = none := Same.free sb hg
          have s4 : Same H H' := Same.trans s1 s2
          have s5 : Same H H3 := Same.trans s4 (Same.trans sb s3)
          have hb0 : H b = none := Same.free s4 hb
          refine k b g _ hb0 (Same.free s4 hg0) (fun c o q => ?_) ⟨⟨st, 0, ?_⟩, ms2, ?_, by omega⟩
          · rw [upd_ne (ne_of_none q hb0)]
            exact s5 _ _ q
          · rw [upd_same]
            rfl
          · rw [upd_ne hbg.symm]
            exact hg3
end
end BV

namespace BV
open PySem L2
local macro_rules | `(tactic| walk_at "rd") => `(tactic| (repeat (first | refine ⟨_, rfl, ?_⟩ | refine ⟨_, _, rfl, rfl, ?_⟩ | refine Or.inl ⟨_, rfl, ?_⟩ | refine Or.inr ⟨_, rfl, ?_⟩ | refine ⟨_, _, rfl, ?_⟩)))
abbrev sDraw : Stmt := top 20
abbrev nDraw : List Str := ["_law_box_here", "_law_many", "_law_great", "_law_count", "_law_found", "_law_mark"]
theorem scDraw : FnScope nDraw ["_law_box_here", "_law_many"] (defScope sDraw) := ⟨rfl, rfl, rfl, by decide +kernel, rfl, by decide +kernel, by decide +kernel⟩
section
variable {P : Program} {w : World} {K : PySem.W.Frag} {mg : Str → Option Value} {base : Heap}
theorem ok_draw {f : Addr} {fd : FuncData} (D : Df K mg "_law_draw" sDraw ["_law_box_here", "_law_many"] f fd) (T : Bl mg) :
    FnOk P w K mg base CX0 1 f fd ["_law_box_here", "_law_many"] spDraw := by
  refine D.fn.ok scDraw (fun vs H Q E h => ?_) (fun cdv A outer s H vs Q E hr h => ?_)
  · obtain ⟨b, g, m, rfl, _⟩ := h
    rfl
  · obtain ⟨b, g, m, rfl, hm0, hm1, hB, k⟩ := h
    have hu := hu_of hr
    have nd := scDraw.nd
    have hbg := hB.ne
    obtain ⟨⟨st, c, hb⟩, ns, hg, hns⟩ := hB
    refine ⟨_, (pss_cons (ps_set (i := 2) nd rfl (by first | exact Or.inl rfl | exact Or.inr rfl) (pe_dget hu (pv 0) pe_str (fun _ _ => rfl)))
      (pss_cons (ps_if (pt_cmpR (op_neD hr.units) (pv 2) (pe_lst pa_nil) (nomark _)) (pss_cons (ps_set (i := 5) nd rfl (by first | exact Or.inl rfl | exact Or.inr rfl) (pe_ix ix_list (pv 2) pe_int (fun _ _ => rfl)))
      (pss_cons (ps_asg (pe_op op_fdivW (pv 5) (pv 1)) (pg_sub (pv 2) pe_int set_list))
      (pss_cons (ps_if (pt_cmpR op_lt (pv 5) (pv 1) (nomark _)) (pss_one (ps_expr (pe_bm PySem.F.plainAttrs_list PySem.F.slot_list_pop PySem.F.type_list_pop mt_popAt (pv 2) (pa_cons pe_int pa_nil)))) pss_nil)
      (pss_one (ps_ret (pe_op op_mod (pe_callTy call_int1 (by rfl) T.int (by decide +kernel) (pa_cons (pv 5) pa_nil)) (pv 1))))))) pss_nil)
      (pss_cons (ps_set (i := 3) nd rfl (by first | exact Or.inl rfl | exact Or.inr rfl) (pe_op op_add (pe_dget hu (pv 0) pe_str (fun _ _ => rfl)) pe_int))
      (pss_cons (ps_dput hu (pv 0) pe_str (pv 3) rfl)
      (pss_cons (ps_set (i := 4) nd rfl (by first | exact Or.inl rfl | exact Or.inr rfl) (pe_op op_mod (pe_callTy call_int1 (by rfl) T.int (by decide +kernel) (pa_cons (pe_op op_add (pe_dget hu (pv 0) pe_str (fun _ _ => rfl)) (pe_op op_mul pe_int (pv 3))) pa_nil)) pe_int))
      (pss_cons (ps_set (i := 4) nd rfl (by first | exact Or.inl rfl | exact Or.inr rfl) (pe_op op_mod (pe_callTy call_int1 (by rfl) T.int (by decide +kernel) (pa_cons (pe_op op_add (pe_op op_add (pe_op op_mul (pv 4) (pv 4)) (pe_op op_mul pe_int (pv 3))) pe_int) pa_nil)) pe_int))
      (pss_cons (ps_set (i := 4) nd rfl (by first | exact Or.inl rfl | exact Or.inr rfl) (pe_op op_mod (pe_callTy call_int1 (by rfl) T.int (by decide +kernel) (pa_cons (pe_op op_add (pe_op op_mul (pv 4) (pv 4)) (pe_dget hu (pv 0) pe_str (fun _ _ => rfl))) pa_nil)) pe_int))
      (pss_one (ps_ret (pe_op op_mod (pe_callTy call_int1 (by rfl) T.int (by decide +kernel) (pa_cons (pe_op op_fdivW (pv 4) pe_int) pa_nil)) (pv 1))))))))))), ?_⟩
    refine ⟨_, rfl, b, _, rfl, get_great hb, ?_⟩
    refine ⟨_, rfl, Nat.zero_le _, fun p hp => ?_⟩
    have s1 : Same H (upd H p (.lst [])) := same_new hp
    have hb1 := s1 _ _ hb
    have hg1 := s1 _ _ hg
    have nbp : b ≠ p := ne_of_none hb hp
    have ngp : g ≠ p := ne_of_none hg hp
    refine ⟨.list (ns.map .int), .list [], .lst (SqL.of hg1) (dpAll_ints ns), .lst (SqL.of upd_same) .nil, shaped_intsL ns, shaped_intsL [], _, rfl, ?_⟩
    have kk : Kp b g H (upd H p (.lst [])) := Kp.same s1
    cases ns with
    | nil =>
      refine ite2 (fun z => absurd z (by decide)) (fun _ => ?_)
      refine ⟨_, rfl, b, _, rfl, get_count hb1, ?_⟩
      walk_at "rd"
      refine ⟨b, _, rfl, put_count hb1, ?_⟩
      have hb2 : upd (upd H p (.lst [])) b (.dK (boxD g st (c + 1))) b = some (.dK (boxD g st (c + 1))) := upd_same
      have gs : ∀ x : Int, 0 ≤ x % 4294967291 ∧ x % 4294967291 < 4294967291 := fun x => ⟨Int.emod_nonneg _ (by decide), Int.emod_lt_of_pos _ (by decide)⟩
      have gt : ∀ x : Int, 0 ≤ x % 4294967279 ∧ x % 4294967279 < 4294967279 := fun x => ⟨Int.emod_nonneg _ (by decide), Int.emod_lt_of_pos _ (by decide)⟩
      refine ⟨_, rfl, b, _, rfl, get_stirred hb2, ?_⟩
      walk_at "rd"
      refine ⟨.inl ⟨by decide, by decide⟩, ?_⟩
      walk_at "rd"
      refine ⟨by show (0 : Int) < 4294967291; decide, ?_⟩
      have g1 := gs (st + 2654435761 * (c + 1))
      walk_at "rd"
      refine ⟨.inl ⟨by omega, by omega⟩, ?_⟩
      walk_at "rd"
      refine ⟨.inl ⟨by decide, by decide⟩, ?_⟩
      walk_at "rd"
      refine ⟨by show (0 : Int) < 4294967279; decide, ?_⟩
      generalize (st + 2654435761 * (c + 1)) % 4294967291 = x1 at g1
      have g2 := gt (x1 * x1 + 40503 * (c + 1) + 7)
      generalize (x1 * x1 + 40503 * (c + 1) + 7) % 4294967279 = x2 at g2
      walk_at "rd"
      refine ⟨.inl ⟨by omega, by omega⟩, ?_⟩
      refine ⟨_, rfl, b, _, rfl, get_stirred hb2, ?_⟩
      walk_at "rd"
      refine ⟨by show (0 : Int) < 4294967231; decide, ?_⟩
      walk_at "rd"
      refine ⟨⟨by decide, by decide⟩, ?_⟩
      walk_at "rd"
      refine ⟨hm0, ?_⟩
      refine k _ _ (Int.emod_nonneg _ (by omega)) (Int.emod_lt_of_pos _ hm0) (Kp.trans kk Kp.setb) ⟨⟨st, c + 1, hb2⟩, [], ?_, by decide⟩
      rw [upd_ne hbg.symm]
      exact hg1
    | cons z rest =>
      refine ite2 (fun _ => ?_) (fun q => absurd (by rfl) q)
      refine ⟨_, rfl, g, _, 0, _, rfl, rfl, SqL.of hg1, atI_nat (j := 0) rfl, ?_⟩
      walk_at "rd"
      refine ⟨⟨hm0, ?_⟩, ?_⟩
      · have h30 : m.natAbs < 2 ^ 30 := by omega
        exact Nat.lt_of_lt_of_le (PySem.Flt.log2_lt_of (by decide) h30) (by decide)
      refine ⟨_, rfl, g, _, 0, 0, rfl, rfl, hg1, ix_nat (j := 0) (Nat.zero_lt_succ _), ?_⟩
      have hg2 : upd (upd H p (.lst [])) g (.lst (((z :: rest).map V.int).set 0 (.int (z / m)))) g = some (.lst (((z / m) :: rest).map V.int)) := upd_same
      have hb2 : upd (upd H p (.lst [])) g (.lst (((z :: rest).map V.int).set 0 (.int (z / m)))) b = some (.dK (boxD g st c)) := by
        rw [upd_ne hbg]
        exact hb1
      have k2 : Kp b g H (upd (upd H p (.lst [])) g (.lst (((z :: rest).map V.int).set 0 (.int (z / m))))) := Kp.trans kk Kp.setg
      walk_at "rd"
      refine ite2 (fun _ => ?_) (fun _ => ?_)
      · refine ⟨_, rfl, .inl ⟨rfl, _, SqL.of hg2⟩, ?_⟩
        refine ⟨g, _, 0, 0, _, rfl, rfl, hg2, by decide, by decide, seq_nat (j := 0) (Nat.zero_lt_succ _), rfl, ?_⟩
        walk_at "rd"
        refine ⟨hm0, ?_⟩
        refine k _ _ (Int.emod_nonneg _ (by omega)) (Int.emod_lt_of_pos _ hm0) (Kp.trans k2 Kp.setg) ⟨⟨st, c, ?_⟩, rest, ?_, ?_⟩
        · rw [upd_ne hbg]
          exact hb2
        · exact upd_same
        · exact Nat.le_of_succ_le hns
      · walk_at "rd"
        refine ⟨hm0, ?_⟩
        exact k _ _ (Int.emod_nonneg _ (by omega)) (Int.emod_lt_of_pos _ hm0) k2 ⟨⟨st, c, hb2⟩, _, hg2, hns⟩
end
end BV

namespace BV
open PySem L2
local macro_rules | `(tactic| walk_at "rd") => `(tactic| (repeat (first | refine ⟨_, rfl, ?_⟩ | refine ⟨_, _, rfl, rfl, ?_⟩ | refine Or.inl ⟨_, rfl, ?_⟩ | refine Or.inr ⟨_, rfl, ?_⟩ | refine ⟨_, _, rfl, ?_⟩)))
abbrev sPick : Stmt := top 21
abbrev nPick : List Str := ["_law_box_here", "_law_items"]
theorem scPick : FnScope nPick nPick (defScope sPick) := ⟨rfl, rfl, rfl, by decide +kernel, rfl, by decide +kernel, by decide +kernel⟩
section
variable {P : Program} {w : World} {K : PySem.W.Frag} {mg : Str → Option Value} {base : Heap}
theorem ok_pick {f fd1 : Addr} {fd fdd : FuncData} (D : Df K mg "_law_pick" sPick nPick f fd) (T : Bl mg)
    (D_draw : Df K mg "_law_draw" sDraw ["_law_box_here", "_law_many"] fd1 fdd) :
    FnOk P w K mg base CX0 2 f fd nPick (spPick K) := by
  have G_draw : FnOk P w K mg base CX0 1 fd1 fdd ["_law_box_here", "_law_many"] spDraw := ok_draw D_draw T
  refine D.fn.ok scPick (fun vs H Q E h => ?_) (fun cdv A outer s H vs Q E hr h => ?_)
  · obtain ⟨b, g, l, xs, rfl, _⟩ := h
    rfl
  · obtain ⟨b, g, l, xs, rfl, hl, n1, n2, h0, h1, hB, k⟩ := h
    have hr_draw : Room 1 _ := hr
    have nd := scPick.nd
    refine ⟨_, (pss_one (ps_ret (pe_ix ix_list (pv 1) (pe_call G_draw hr_draw (by rfl) D_draw.ad D_draw.fn.kp D_draw.bd .nil pass0 (pa_cons (pv 0) (pa_cons (pe_callB call_len_seq (by rfl) T.len PySem.boot_len (pa_cons (pv 1) pa_nil)) pa_nil))) (fun _ _ => rfl)))), ?_⟩
    walk_at "rd"
    refine ⟨_, _, rfl, .inl hl, ?_⟩
    refine ⟨b, g, (xs.length : Int), rfl, by omega, by omega, hB, fun r H' r0 r1 kp hB' => ?_⟩
    obtain ⟨j, rfl⟩ : ∃ j : Nat, r = (j : Int) := ⟨r.toNat, by omega⟩
    have hj : j < xs.length := by omega
    have hx : xs[j]? = some xs[j] := by simp [hj]
    exact ⟨l, xs, _, _, rfl, rfl, Kp.seq kp n1 n2 hl, atI_nat hx, k j _ H' hx kp hB'⟩
end
end BV

namespace BV
open PySem L2
local macro_rules | `(tactic| walk_at "rd") => `(tactic| (repeat (first | refine ⟨_, rfl, ?_⟩ | refine ⟨_, _, rfl, rfl, ?_⟩ | refine Or.inl ⟨_, rfl, ?_⟩ | refine Or.inr ⟨_, rfl, ?_⟩ | refine ⟨_, _, rfl, ?_⟩)))
abbrev sWeb : Stmt := top 22
abbrev nWeb : List Str := ["_law_box_here", "_law_most", "_law_more", "_law_many", "_law_ties", "_law_found", "_law_place", "_law_turn", "_law_one", "_law_other"]
abbrev pWeb : List Str := ["_law_box_here", "_law_most", "_law_more"]
theorem scWeb : FnScope nWeb pWeb (defScope sWeb) := ⟨rfl, rfl, rfl, by decide +kernel, rfl, by decide +kernel, by decide +kernel⟩
section
variable {P : Program} {w : World} {K : PySem.W.Frag} {mg : Str → Option Value} {base : Heap}
theorem ok_web {f f1 f2 : Addr} {fd fd1 fd2 : FuncData} (D : Df K mg "_law_web" sWeb pWeb f fd) (T : Bl mg)
    (D_draw : Df K mg "_law_draw" sDraw ["_law_box_here", "_law_many"] f1 fd1)
    (D_pick : Df K mg "_law_pick" sPick nPick f2 fd2) :
    FnOk P w K mg base CX0 3 f fd pWeb (spWeb K) := by
  have G_draw : FnOk P w K mg base CX0 1 f1 fd1 ["_law_box_here", "_law_many"] spDraw := ok_draw D_draw T
  have G_pick : FnOk P w K mg base CX0 2 f2 fd2 nPick (spPick K) := ok_pick D_pick T D_draw
  refine D.fn.ok scWeb (fun vs H Q E h => ?_) (fun cdv A outer s H vs Q E hr h => ?_)
  · obtain ⟨b, g, most, more, rfl, _⟩ := h
    rfl
  · obtain ⟨b, g, most, more, rfl, m1, m2, m3, hB, k⟩ := h
    have hr_pick : Room 2 _ := hr
    have hr_draw : Room 1 _ := hr.mono (by decide)
    have nd := scWeb.nd
    refine ⟨_, (pss_cons (ps_par3 (i := 3) (j := 4) (l := 5) (by rfl) nd rfl rfl rfl (by decide) (by decide) (by decide) rfl rfl rfl (pa_cons (pe_op op_add pe_int (pe_call G_draw hr_draw (by rfl) D_draw.ad D_draw.fn.kp D_draw.bd .nil pass0 (pa_cons (pv 0) (pa_cons (pv 1) pa_nil)))) (pa_cons (pe_lst pa_nil) (pa_cons (pe_lst pa_nil) pa_nil))) (by rfl))
      (pss_cons (ps_for PassesOwn.never rfl (pi_range2 rfl T.range (pa_cons pe_int (pa_cons (pv 3) pa_nil))) (pg_name (i := 6) nd rfl (by first | exact Or.inl rfl | exact Or.inr rfl)) (pss_one (ps_expr (pe_bm PySem.F.plainAttrs_list PySem.F.slot_list_append PySem.F.type_list_append mt_append (pv 4) (pa_cons (pe_tup (pa_cons (pe_call G_draw hr_draw (by rfl) D_draw.ad D_draw.fn.kp D_draw.bd .nil pass0 (pa_cons (pv 0) (pa_cons (pv 6) pa_nil))) (pa_cons (pv 6) pa_nil))) pa_nil)))))
      (pss_cons (ps_for PassesOwn.never rfl (pi_range1 rfl T.range (pa_cons (pe_ifExp (pt_cmpR op_gt (pv 3) pe_int (nomark _)) (pe_call G_draw hr_draw (by rfl) D_draw.ad D_draw.fn.kp D_draw.bd .nil pass0 (pa_cons (pv 0) (pa_cons (pe_op op_add (pv 2) pe_int) pa_nil))) pe_int) pa_nil)) (pg_name (i := 7) nd rfl (by first | exact Or.inl rfl | exact Or.inr rfl)) (pss_cons (ps_par (i := 8) (j := 9) (by rfl) nd rfl rfl (by decide) rfl rfl (pa_cons (pe_call G_draw hr_draw (by rfl) D_draw.ad D_draw.fn.kp D_draw.bd .nil pass0 (pa_cons (pv 0) (pa_cons (pv 3) pa_nil))) (pa_cons (pe_call G_draw hr_draw (by rfl) D_draw.ad D_draw.fn.kp D_draw.bd .nil pass0 (pa_cons (pv 0) (pa_cons (pv 3) pa_nil))) pa_nil)) (by rfl))
      (pss_cons (ps_if (PW.pt (pw_or (pt_cmpR op_eq (pv 8) (pv 9) (nomark _)) (pw_or1 (pt_cmpR op_eq (pe_call G_draw hr_draw (by rfl) D_draw.ad D_draw.fn.kp D_draw.bd .nil pass0 (pa_cons (pv 0) (pa_cons pe_int pa_nil))) pe_int (nomark _))))) (pss_one (ps_asg (pe_call G_pick hr_pick (by rfl) D_pick.ad D_pick.fn.kp D_pick.bd .nil pass0 (pa_cons (pv 0) (pa_cons (pv 4) pa_nil))) (pg_tup rfl (pgs_cons (pg_name (i := 8) nd rfl (by first | exact Or.inl rfl | exact Or.inr rfl)) (pgs_cons (pg_name (i := 9) nd rfl (by first | exact Or.inl rfl | exact Or.inr rfl)) pgs_nil))))) pss_nil)
      (pss_one (ps_expr (pe_bm PySem.F.plainAttrs_list PySem.F.slot_list_append PySem.F.type_list_append mt_append (pv 4) (pa_cons (pe_tup (pa_cons (pe_callB (call_min2 rfl) (by rfl) T.min (by decide +kernel) (pa_cons (pv 8) (pa_cons (pv 9) pa_nil))) (pa_cons (pe_callB (call_max2 rfl) (by rfl) T.max (by decide +kernel) (pa_cons (pv 8) (pa_cons (pv 9) pa_nil))) pa_nil))) pa_nil)))))))
      (pss_cons (ps_for PassesOwn.never rfl (pi_range1 rfl T.range (pa_cons (pe_callB call_len_seq (by rfl) T.len PySem.boot_len (pa_cons (pv 4) pa_nil)) pa_nil)) (pg_name (i := 7) nd rfl (by first | exact Or.inl rfl | exact Or.inr rfl)) (pss_one (ps_expr (pe_bm PySem.F.plainAttrs_list PySem.F.slot_list_append PySem.F.type_list_append mt_append (pv 5) (pa_cons (pe_bm PySem.F.plainAttrs_list PySem.F.slot_list_pop PySem.F.type_list_pop mt_popAt (pv 4) (pa_cons (pe_call G_draw hr_draw (by rfl) D_draw.ad D_draw.fn.kp D_draw.bd .nil pass0 (pa_cons (pv 0) (pa_cons (pe_callB call_len_seq (by rfl) T.len PySem.boot_len (pa_cons (pv 4) pa_nil)) pa_nil))) pa_nil)) pa_nil)))))
      (pss_one (ps_ret (pe_tup (pa_cons (pv 3) (pa_cons (pe_callTy call_tuple_of (by rfl) T.tuple (by decide +kernel) (pa_cons (pv 5) pa_nil)) pa_nil))))))))), ?_⟩
    -- _law_many, _law_ties, _law_found
    walk_at "rd"
    refine ⟨b, g, (most : Int), rfl, by omega, by omega, hB, fun r H1 r0 r1 kp1 hB1 => ?_⟩
    obtain ⟨n0, rfl⟩ : ∃ j : Nat, r = (j : Int) := ⟨r.toNat, by omega⟩
    walk_at "rd"
    refine ⟨Nat.zero_le _, fun l hl => ⟨Nat.zero_le _, fun l2 hl2 => ⟨_, _, _, rfl, ?_⟩⟩⟩
    have hll : upd H1 l (.lst []) l = some (.lst []) := upd_same
    have nll : l ≠ l2 := ne_of_none hll hl2
    have s1 : Same H1 (upd H1 l (.lst [])) := same_new hl
    have s2 : Same (upd H1 l (.lst [])) (upd (upd H1 l (.lst [])) l2 (.lst [])) := same_new hl2
    have hB2 := (hB1.same s1).same s2
    have lkeep : ∀ {a : Addr}, H1 a = none → a ≠ b → a ≠ g → H a = none := fun {a} h n1 n2 => by
      cases e : H a with
      | none => rfl
      | some o =>
        rw [kp1 _ _ e n1 n2] at h
        cases h
    have hBx := hB1
    obtain ⟨⟨bst, bc, hb1⟩, bns, hg1, _⟩ := hBx
    have lb : l ≠ b := (ne_of_none hb1 hl).symm
    have lg : l ≠ g := (ne_of_none hg1 hl).symm
    have l2b : l2 ≠ b := (ne_of_none (s1 _ _ hb1) hl2).symm
    have l2g : l2 ≠ g := (ne_of_none (s1 _ _ hg1) hl2).symm
    have W0 : WI b g l l2 H (upd (upd H1 l (.lst [])) l2 (.lst [])) [] [] :=
      ⟨kp1.trans ((Kp.same s1).trans (Kp.same s2)), hB2, lkeep hl lb lg, lkeep (Same.free s1 hl2) l2b l2g, lb, lg, l2b, l2g, nll,
        ⟨[], by rw [upd_ne nll]; exact upd_same, .nil⟩, ⟨[], upd_same, .nil⟩⟩
    generalize upd (upd H1 l (.lst [])) l2 (.lst []) = H2 at W0
    clear s1 s2 hB2 hl hl2 hll hb1 hg1 hB1 kp1
    -- each place behind an earlier one
    walk_at "rd"
    refine ⟨by omega, ?_⟩
    refine for_range (lo := 1) (n := (1 + (n0 : Int) - 1).toNat) (fun i σ Hc => ∃ (ts : List Tie) (v6 : Option V),
      σ = [some (.ref b), some (.int most), some (.int more), some (.int (1 + (n0 : Int))), some (.ref l), some (.ref l2), v6, none, none, none] ∧
      WI b g l l2 H Hc ts [] ∧ ts.length = i ∧ (∀ t ∈ ts, t.1 < t.2 ∧ t.2 ≤ i) ∧ ∀ p, 1 ≤ p → p ≤ i → ∃ q, q < p ∧ (q, p) ∈ ts) ?_ ?_ ?_
    · exact ⟨[], none, rfl, W0, rfl, by simp, fun p h1 h2 => by omega⟩
    · rintro i σ Hc hi ⟨ts, v6, rfl, W, e1, e2, e3⟩
      have hi2 : i < n0 := by omega
      obtain ⟨xs, hx, hxs⟩ := W.tl
      refine ⟨_, rfl, .inl ⟨rfl, _, SqL.of hx⟩, ?_⟩
      walk_at "rd"
      refine ⟨b, g, 1 + (i : Int), rfl, by omega, by omega, W.bx, fun r H3 r0 r1 kp3 hB3 => ?_⟩
      obtain ⟨q, rfl⟩ : ∃ j : Nat, r = (j : Int) := ⟨r.toNat, by omega⟩
      have W3 := W.draw kp3 hB3
      walk_at "rd"
      refine ⟨by show 2 ≤ sizeLine; decide, fun p hp => ?_⟩
      have W4 := W3.same (same_new (o := .tup [.int (q : Int), .int (1 + (i : Int))]) hp)
      obtain ⟨ys, hy, hys⟩ := W4.tl
      have hyl : ys.length = ts.length := hys.length
      refine ⟨l, ys, _, rfl, rfl, hy, Nat.lt_of_le_of_lt (show ys.length ≤ 1000 by omega) (by decide), ?_⟩
      have hv : TieAt (upd H3 p (.tup [.int (q : Int), .int (1 + (i : Int))])) (.ref p) (q, 1 + i) :=
        ⟨p, rfl, by rw [upd_same]; show some (HO.tup [V.int (q : Int), V.int (1 + (i : Int))]) = some (HO.tup [V.int (q : Int), V.int (((1 + i : Nat)) : Int)]); rw [Int.natCast_add]; rfl⟩
      refine ⟨ts ++ [(q, 1 + i)], _, rfl, W4.app hy hv, by rw [List.length_append, e1]; rfl, fun t ht => ?_, fun p' h1 h2 => ?_⟩
      · rcases List.mem_append.mp ht with ht | ht
        · have := e2 t ht
          omega
        · obtain rfl := List.mem_singleton.mp ht
          show q < 1 + i ∧ 1 + i ≤ i + 1
          omega
      · by_cases hp' : p' ≤ i
        · obtain ⟨q', a1, a2⟩ := e3 p' h1 hp'
          exact ⟨q', a1, List.mem_append_left _ a2⟩
        · obtain rfl : p' = 1 + i := by omega
          exact ⟨q, by omega, List.mem_append_right _ (List.mem_singleton.mpr rfl)⟩
    · rintro σ Hc ⟨ts, v6, rfl, W, e1, e2, e3⟩
      have e1' : ts.length = n0 := by omega
      have e2' : ∀ t ∈ ts, t.1 < t.2 ∧ t.2 < 1 + n0 := fun t ht => by
        have := e2 t ht
        omega
      have e3' : ∀ p, 1 ≤ p → p < 1 + n0 → ∃ q, q < p ∧ (q, p) ∈ ts := fun p h1 h2 => e3 p h1 (by omega)
      clear e1 e2 e3
      -- more ties
      dsimp only
      refine tSeq_go ?_
      refine for_rng1_by (fun v H' => ∃ m : Nat, v = .int (m : Int) ∧ m ≤ more ∧ (n0 = 0 → m = 0) ∧ WI b g l l2 H H' ts []) ?_ (fun cont => ?_)
      · rintro v H' ⟨m, rfl, hm, hz, W'⟩
        refine ⟨_, rfl, by omega, by omega, ?_⟩
        refine for_range (lo := 0) (n := (m : Int).toNat) (fun i σ Hc => ∃ (ts : List Tie) (v7 v8 v9 : Option V),
          σ = [some (.ref b), some (.int most), some (.int more), some (.int (1 + (n0 : Int))), some (.ref l), some (.ref l2), v6, v7, v8, v9] ∧
          WI b g l l2 H Hc ts [] ∧ ts.length = n0 + i ∧ (∀ t ∈ ts, t.1 < t.2 ∧ t.2 < 1 + n0) ∧ ∀ p, 1 ≤ p → p < 1 + n0 → ∃ q, q < p ∧ (q, p) ∈ ts) ?_ ?_ ?_
        · exact ⟨ts, none, none, none, rfl, W', e1', e2', e3'⟩
        · clear W W' e1' e2' e3'
          rintro i σ Hc hi ⟨ts, v7, v8, v9, rfl, W, e1, e2, e3⟩
          have hn0 : 0 < n0 := by
            rcases Nat.eq_zero_or_pos n0 with z | z
            · have := hz z
              omega
            · exact z
          walk_at "rd"
          refine ⟨b, g, 1 + (n0 : Int), rfl, by omega, by omega, W.bx, fun r H3 r0 r1 kp3 hB3 => ?_⟩
          obtain ⟨one, rfl⟩ : ∃ j : Nat, r = (j : Int) := ⟨r.toNat, by omega⟩
          have W3 := W.draw kp3 hB3
          walk_at "rd"
          refine ⟨b, g, 1 + (n0 : Int), rfl, by omega, by omega, W3.bx, fun r' H4 r0' r1' kp4 hB4 => ?_⟩
          obtain ⟨oth, rfl⟩ : ∃ j : Nat, r' = (j : Int) := ⟨r'.toNat, by omega⟩
          have W4 := W3.draw kp4 hB4
          refine ⟨_, _, rfl, ?_⟩
          dsimp only
          refine tSeq_go ?_
          refine tIfS_by (fun σ' H' => ∃ x y : Nat, x ≠ y ∧ x < 1 + n0 ∧ y < 1 + n0 ∧
            σ' = [some (.ref b), some (.int most), some (.int more), some (.int (1 + (n0 : Int))), some (.ref l), some (.ref l2), v6, some (.int (0 + (i : Int))), some (.int (x : Int)), some (.int (y : Int))] ∧
            WI b g l l2 H H' ts []) ?_ (fun cont => ?_)
          · rintro σ' H' ⟨x, y, nxy, hx, hy, rfl, W5⟩
            obtain ⟨xs, hl1, hl2⟩ := W5.tl
            refine ⟨_, rfl, .inl ⟨rfl, _, SqL.of hl1⟩, ?_⟩
            walk_at "rd"
            refine ⟨by show 2 ≤ sizeLine; decide, fun p hp => ?_⟩
            obtain ⟨lo, hi', e4, e5, hlt, hhi⟩ : ∃ lo hi' : Nat, (if (y : Int) < (x : Int) then (y : Int) else (x : Int)) = (lo : Int) ∧
                (if (y : Int) > (x : Int) then (y : Int) else (x : Int)) = (hi' : Int) ∧ lo < hi' ∧ hi' < 1 + n0 := by
              rcases Nat.lt_or_ge y x with z | z
              · exact ⟨y, x, if_pos (by omega), if_neg (by omega), z, hx⟩
              · exact ⟨x, y, if_neg (by omega), if_pos (by omega), by omega, hy⟩
            rw [e4, e5] at *
            have W6 := W5.same (same_new (o := .tup [.int (lo : Int), .int (hi' : Int)]) hp)
            obtain ⟨ys, hy1, hys⟩ := W6.tl
            have hyl : ys.length = ts.length := hys.length
            refine ⟨l, ys, _, rfl, rfl, hy1, Nat.lt_of_le_of_lt (show ys.length ≤ 3000 by omega) (by decide), ?_⟩
            refine ⟨ts ++ [(lo, hi')], _, _, _, rfl, W6.app hy1 ⟨p, rfl, upd_same⟩, by rw [List.length_append, e1]; rfl, fun t ht => ?_, fun p' h1 h2 => ?_⟩
            · rcases List.mem_append.mp ht with ht | ht
              · exact e2 t ht
              · obtain rfl := List.mem_singleton.mp ht
                exact ⟨hlt, hhi⟩
            · obtain ⟨q', a1, a2⟩ := e3 p' h1 h2
              exact ⟨q', a1, List.mem_append_left _ a2⟩
          · refine tIfS_t (fun c Hx => WI b g l l2 H Hx ts [] ∧ (c = false → one ≠ oth)) ?_ ?_ (fun both => ?_)
            · rintro Hx ⟨Wx, _⟩
              obtain ⟨xs, hl1, hl2⟩ := Wx.tl
              have hxl : xs.length = ts.length := hl2.length
              walk_at "rd"
              refine ⟨b, g, l, xs, rfl, SqL.of hl1, Wx.d1, Wx.d2, by omega, by omega, Wx.bx, fun j v Hy hj kpy hBy => ?_⟩
              have Wy := Wx.draw kpy hBy
              obtain ⟨t, ht, hv⟩ := hl2.at hj
              obtain ⟨p, rfl, hp⟩ := hv.kt (KT.of_kp kpy Wx.bx)
              refine ⟨p, _, rfl, SqT.of hp, rfl, _, _, rfl, _, _, rfl, rfl, ?_⟩
              have hm := e2 t (List.mem_of_getElem? ht)
              exact cont _ _ ⟨t.1, t.2, by omega, by omega, hm.2, rfl, Wy⟩
            · rintro Hx ⟨Wx, hne⟩
              exact cont _ _ ⟨one, oth, hne rfl, by omega, by omega, rfl, Wx⟩
            · refine ⟨_, rfl, _, rfl, rfl, _, rfl, ?_⟩
              refine ite2 (fun hc => ?_) (fun hc => ?_)
              · exact both _ _ ⟨W4, fun z => by cases z⟩
              · have hne : one ≠ oth := by
                  rintro rfl
                  exact hc (decide_eq_true rfl)
                walk_at "rd"
                refine ⟨b, g, 4, rfl, by decide, by decide, W4.bx, fun r Hx q0 q1 kpx hBx => ?_⟩
                refine ⟨rfl, _, rfl, ?_⟩
                exact both _ _ ⟨W4.draw kpx hBx, fun _ => hne⟩
        · clear W W' e1' e2' e3'
          rintro σ Hc ⟨ts, v7, v8, v9, rfl, W, e1, e2, e3⟩
          have e1 : ts.length = n0 + m := e1
          obtain ⟨xs, hl1, hl2⟩ := W.tl
          have hxl : xs.length = ts.length := hl2.length
          -- in another order
          refine ⟨_, rfl, _, _, rfl, .inl (SqL.of hl1), _, rfl, by omega, by omega, ?_⟩
          refine for_range (lo := 0) (n := (xs.length : Int).toNat) (fun i σ Hc => ∃ (us fs : List Tie) (v7 : Option V),
            σ = [some (.ref b), some (.int most), some (.int more), some (.int (1 + (n0 : Int))), some (.ref l), some (.ref l2), v6, v7, v8, v9] ∧
            WI b g l l2 H Hc us fs ∧ us.length + i = ts.length ∧ (us ++ fs).Perm ts) ?_ ?_ ?_
          · exact ⟨ts, [], v7, rfl, W, rfl, by simp⟩
          · rintro i σ Hd hi ⟨us, fs, v7', rfl, Wd, d1, d2⟩
            obtain ⟨xs', hu1, hu2⟩ := Wd.tl
            obtain ⟨ys', hf1, hf2⟩ := Wd.fl
            have hul : xs'.length = us.length := hu2.length
            have hfl : ys'.length = fs.length := hf2.length
            have hpl : us.length + fs.length = ts.length := by
              rw [← List.length_append]
              exact d2.length_eq
            have hi2 : i < xs.length := by omega
            refine ⟨_, rfl, .inl ⟨rfl, _, SqL.of hf1⟩, ?_⟩
            refine ⟨_, rfl, .inl ⟨rfl, _, SqL.of hu1⟩, ?_⟩
            walk_at "rd"
            refine ⟨_, _, rfl, .inl (SqL.of hu1), ?_⟩
            refine ⟨b, g, (xs'.length : Int), rfl, by omega, by omega, Wd.bx, fun r He r0 r1 kpe hBe => ?_⟩
            obtain ⟨j, rfl⟩ : ∃ j : Nat, r = (j : Int) := ⟨r.toNat, by omega⟩
            have hj : j < xs'.length := by omega
            have We := Wd.draw kpe hBe
            have hu1e := kpe _ _ hu1 Wd.d1 Wd.d2
            have hjx : xs'[j]? = some xs'[j] := by simp [hj]
            obtain ⟨t, ht, hv⟩ := hu2.at hjx
            have hve := hv.kt (KT.of_kp kpe Wd.bx)
            refine ⟨l, xs', _, j, _, rfl, rfl, hu1e, by omega, by omega, seq_nat hj, hjx, ?_⟩
            have Wf := We.pop hu1e j
            have hvf := hve.kt (KT.of_upd (ys := xs'.eraseIdx j) hu1e)
            have hf1f : upd He l (.lst (xs'.eraseIdx j)) l2 = some (.lst ys') := by
              rw [upd_ne Wd.d5.symm]
              exact kpe _ _ hf1 Wd.d3 Wd.d4
            refine ⟨l2, ys', _, rfl, rfl, hf1f, Nat.lt_of_le_of_lt (show ys'.length ≤ 3000 by omega) (by decide), ?_⟩
            have hjt : j < us.length := by omega
            refine ⟨us.eraseIdx j, fs ++ [t], _, rfl, (Wf.swap.app hf1f hvf).swap, ?_, (perm_move us fs j t ht).trans d2⟩
            rw [List.length_eraseIdx_of_lt hjt]
            omega
          · rintro σ Hd ⟨us, fs, v7', rfl, Wd, d1, d2⟩
            have hus : us = [] := List.eq_nil_of_length_eq_zero (by omega)
            subst hus
            have hp : fs.Perm ts := d2
            obtain ⟨ys', hf1, hf2⟩ := Wd.fl
            have hfl : ys'.length = fs.length := hf2.length
            have hpl : fs.length = ts.length := hp.length_eq
            refine ⟨_, rfl, _, rfl, l2, _, rfl, .inl ⟨SqL.of hf1, fun q hq => ?_⟩⟩
            refine ⟨by show 2 ≤ sizeLine; decide, fun p hp2 => ?_⟩
            have sq : Same Hd (upd Hd q (.tup ys')) := same_new hq
            have sp : Same (upd Hd q (.tup ys')) (upd (upd Hd q (.tup ys')) p (.tup [.int (1 + (n0 : Int)), .ref q])) := same_new hp2
            have Wz := (Wd.same sq).same sp
            refine k p (1 + n0) fs _ Wz.kp Wz.bx ?_ ⟨by omega, fun t ht => e2 t (hp.mem_iff.mp ht), fun p' h1 h2 => ?_⟩ (by omega) (by omega) fun z => ?_
            · have e : V.int (1 + (n0 : Int)) = V.int ((1 + n0 : Nat) : Int) := by rw [Int.natCast_add]; rfl
              refine .tup (SqT.of upd_same) (.cons ?_ (.cons (.tup (SqT.of (sp _ _ upd_same)) ((hf2.kt ((KT.of_same sq))).kt (KT.of_same sp)).dp) .nil))
              rw [e]
              exact .int _
            · obtain ⟨q', a1, a2⟩ := e3 p' h1 h2
              exact ⟨q', a1, hp.mem_iff.mpr a2⟩
            · have hm0 : m = 0 := hz (by omega)
              exact List.eq_nil_of_length_eq_zero (by omega)
      · walk_at "rd"
        refine ite2 (fun hc => ?_) (fun hc => ?_)
        · have hc' := of_decide_eq_true hc
          walk_at "rd"
          refine ⟨b, g, (more : Int) + 1, rfl, by omega, by omega, W.bx, fun r H3 r0 r1 kp3 hB3 => ?_⟩
          obtain ⟨m, rfl⟩ : ∃ j : Nat, r = (j : Int) := ⟨r.toNat, by omega⟩
          exact cont _ _ ⟨m, rfl, by omega, by omega, W.draw kp3 hB3⟩
        · have hc' : ¬ (1 : Int) < 1 + (n0 : Int) := fun z => hc (decide_eq_true z)
          exact cont _ _ ⟨0, rfl, Nat.zero_le _, fun _ => rfl, W⟩
end
end BV

namespace BV
open PySem L2
local macro_rules | `(tactic| walk_at "rd") => `(tactic| (repeat (first | refine ⟨_, rfl, ?_⟩ | refine ⟨_, _, rfl, rfl, ?_⟩ | refine Or.inl ⟨_, rfl, ?_⟩ | refine Or.inr ⟨_, rfl, ?_⟩ | refine ⟨_, _, rfl, ?_⟩)))
section
variable {P : Program} {w : World} {K : PySem.W.Frag} {mg : Str → Option Value} {base : Heap}
end
end BV


namespace BV
open PySem L2
theorem flat_ints : ∀ ms : List Int, (ms.map V.int).all flatV = true
  | [] => rfl
  | m :: ms => by
    rw [List.map_cons, List.all_cons, flat_ints ms]
    rfl
theorem flat_nats (ms : List Nat) : (ms.map fun (k : Nat) => V.int k).all flatV = true := by
  have e3 : (ms.map fun (k : Nat) => V.int k) = (ms.map fun (k : Nat) => (k : Int)).map V.int := by rw [List.map_map]; rfl
  rw [e3]
  exact flat_ints _
theorem inv_nats (k : Nat) : ∀ ks : List Nat, inV (.int (k : Int)) (ks.map fun (k : Nat) => V.int k) = decide (k ∈ ks)
  | [] => by simp [inV]
  | x :: ks => by
    have ih := inv_nats k ks
    have e : (((x : Nat) : Int) == (k : Int)) = decide (k = x) := by
      by_cases h : k = x
      · subst h
        simp
      · rw [decide_eq_false h]
        exact beq_eq_false_iff_ne.mpr fun z => h (by omega)
    show ((((x : Nat) : Int) == (k : Int)) || inV (.int (k : Int)) (ks.map fun (k : Nat) => V.int k)) = _
    rw [e, ih, ← Bool.decide_or]
    congr 1
    simp
theorem lot_dp {K : PySem.W.Frag} {H : Hp} {a : Addr} {ks : List Nat} (h : SqT K H a (ks.map fun (k : Nat) => V.int k)) : Dp K H (.ref a) (lotD ks) := by
  refine .tup h ?_
  have e2 : (ks.map fun (k : Nat) => PyData.int k) = (ks.map fun (k : Nat) => (k : Int)).map PyData.int := by rw [List.map_map]; rfl
  have e3 : (ks.map fun (k : Nat) => V.int k) = (ks.map fun (k : Nat) => (k : Int)).map V.int := by rw [List.map_map]; rfl
  rw [e2, e3]
  exact dpAll_ints _
def spCut (K : PySem.W.Frag) : Sp := fun vs H Q _ => ∃ (v pv : V) (n : Nat) (ts : List Tie) (ps : List Nat), vs = [v, pv] ∧ Dp K H v (webD n ts) ∧ Dp K H pv (lotD ps) ∧ ts.length ≤ 3000 ∧
  ∀ (u : V) H', Same H H' → Dp K H' u (lotD (cutL ts ps)) → Q u H'
abbrev sAll : Stmt := top 1
abbrev nAll : List Str := ["web"]
abbrev pAll : List Str := ["web"]
theorem scAll : FnScope nAll pAll (defScope sAll) := ⟨rfl, rfl, rfl, by decide +kernel, rfl, by decide +kernel, by decide +kernel⟩
abbrev sFar : Stmt := top 2
abbrev nFar : List Str := ["web", "tie", "place", "one", "other"]
abbrev pFar : List Str := ["web", "tie", "place"]
theorem scFar : FnScope nFar pFar (defScope sFar) := ⟨rfl, rfl, rfl, by decide +kernel, rfl, by decide +kernel, by decide +kernel⟩
abbrev sWays : Stmt := top 3
abbrev nWays : List Str := ["web", "ties", "start", "found", "queue", "place", "tie", "goal"]
abbrev pWays : List Str := ["web", "ties", "start"]
theorem scWays : FnScope nWays pWays (defScope sWays) := ⟨rfl, rfl, rfl, by decide +kernel, rfl, by decide +kernel, by decide +kernel⟩
abbrev sCodd : Stmt := top 7
abbrev nCodd : List Str := ["one", "other", "tie"]
abbrev pCodd : List Str := ["one", "other"]
theorem scCodd : FnScope nCodd pCodd (defScope sCodd) := ⟨rfl, rfl, rfl, by decide +kernel, rfl, by decide +kernel, by decide +kernel⟩
abbrev sCut : Stmt := top 8
abbrev nCut : List Str := ["web", "places", "tie", "one", "other"]
abbrev pCut : List Str := ["web", "places"]
theorem scCut : FnScope nCut pCut (defScope sCut) := ⟨rfl, rfl, rfl, by decide +kernel, rfl, by decide +kernel, by decide +kernel⟩

theorem bit1 (m : Nat) : decide (V.int (Builtin.bitAnd (m : Int) 1) = V.int 1) = decide (m % 2 = 1) := by
  have e : Builtin.bitAnd (m : Int) 1 = ((m % 2 : Nat) : Int) := by
    rw [PyProof.Rows.bitAnd_pp (by omega) (by omega)]
    rw [Int.toNat_natCast, show (1 : Int).toNat = 1 by rfl, Nat.and_one_is_mod]
  rw [e]
  exact decide_eq_decide.mpr ⟨fun z => by have := V.int.inj z; omega, fun z => by rw [z]; rfl⟩
def spAll (K : PySem.W.Frag) : Sp := fun vs H Q _ => ∃ (v : V) (n : Nat) (ts : List Tie), vs = [v] ∧ Dp K H v (webD n ts) ∧ ts.length ≤ 3000 ∧ ∀ (u : V) H', Same H H' → Dp K H' u (lotD (List.range ts.length)) → Q u H'
def farEnd (t : Tie) (p : Nat) : Nat := if p = t.1 then t.2 else t.1
def spFar (K : PySem.W.Frag) : Sp := fun vs H Q _ => ∃ (v : V) (n : Nat) (ts : List Tie) (k p : Nat) (t : Tie), vs = [v, .int k, .int p] ∧ Dp K H v (webD n ts) ∧ ts[k]? = some t ∧ Q (.int (farEnd t p : Nat)) H
def natsV (ks : List Nat) : List V := ks.map fun (k : Nat) => V.int k
/-- what is found: the places fnd, each with a way -/
def Found (K : PySem.W.Frag) (ts : List Tie) (es : List Nat) (n start : Nat) (H : Hp) (d : Addr) (fnd : List Nat) : Prop :=
  (∃ kvs : List (Key × V), H d = some (.dK kvs) ∧ kvs.map (·.1) = fnd.map (fun (p : Nat) => (Sum.inl (p : Int) : Key)) ∧
    ∀ p ∈ fnd, ∃ (a : Addr) (w : List Nat), valV kvs (Sum.inl (p : Int)) = some (.ref a) ∧ SqT K H a (natsV w) ∧ Way ts start w p ∧ (∀ k ∈ w, k ∈ es) ∧ w.length + 1 ≤ fnd.length ∧ w.Nodup ∧ ∀ k ∈ w, ∀ t, ts[k]? = some t → t.1 ∈ fnd ∧ t.2 ∈ fnd) ∧
  fnd.Nodup ∧ (∀ p ∈ fnd, p < n) ∧ start ∈ fnd
/-- nothing leads on from p -/
def Shut (ts : List Tie) (es fnd : List Nat) (p : Nat) : Prop := ∀ k ∈ es, ∀ t, ts[k]? = some t → (t.1 = p → t.2 ∈ fnd) ∧ (t.2 = p → t.1 ∈ fnd)
theorem Shut.mono {ts : List Tie} {es fnd fnd2 : List Nat} {p : Nat} (h : Shut ts es fnd p) (m : ∀ x ∈ fnd, x ∈ fnd2) : Shut ts es fnd2 p := fun k hk t ht => ⟨fun e => m _ ((h k hk t ht).1 e), fun e => m _ ((h k hk t ht).2 e)⟩
def spWays (K : PySem.W.Frag) : Sp := fun vs H Q _ => ∃ (v ev : V) (n : Nat) (ts : List Tie) (es : List Nat) (start : Nat), vs = [v, ev, .int start] ∧ Dp K H v (webD n ts) ∧ Dp K H ev (lotD es) ∧
  (∀ t ∈ ts, t.1 < t.2 ∧ t.2 < n) ∧ (∀ k ∈ es, k < ts.length) ∧ start < n ∧ n ≤ 1000 ∧ es.length ≤ 3000 ∧
  ∀ (d : Addr) (fnd : List Nat) H', H d = none → Same H H' → Found K ts es n start H' d fnd → (∀ p ∈ fnd, Shut ts es fnd p) → Q (.ref d) H'
def spCodd (K : PySem.W.Frag) : Sp := fun vs H Q _ => ∃ (v u : V) (w lot : List Nat), vs = [v, u] ∧ Dp K H v (lotD w) ∧ Dp K H u (lotD lot) ∧ w.length ≤ 3000 ∧ ∀ H', Same H H' → Q (.bl (oddIn w lot)) H'
theorem dp_lotN {K : PySem.W.Frag} {H : Hp} {v : V} {ks : List Nat} (h : Dp K H v (lotD ks)) : ∃ a, v = .ref a ∧ SqT K H a (natsV ks) := dp_lotI h
section
variable {P : Program} {w : World} {K : PySem.W.Frag} {mg : Str → Option Value} {base : Heap}
theorem ok_all {f : Addr} {fd : FuncData} (D : Df K mg "all_ties" sAll pAll f fd) (T : Bl mg) : FnOk P w K mg base CX0 1 f fd pAll (spAll K) := by
  refine D.fn.ok scAll (fun vs H Q E h => ?_) (fun cdv A outer s H vs Q E hr h => ?_)
  · obtain ⟨v, n, ts, rfl, _⟩ := h
    rfl
  · obtain ⟨v, n, ts, rfl, hw, hl, k⟩ := h
    have nd := scAll.nd
    obtain ⟨a, c, ys, rfl, ha, hc, hys⟩ := dp_web hw
    have hyl : ys.length = ts.length := by rw [dpAll_len hys, List.length_map]
    refine ⟨_, (pss_one (ps_ret (pe_tupRg rfl (by rfl) T.tuple (prg_1 (by rfl) T.range (pe_callB (lenK K) (by rfl) T.len PySem.boot_len (pa_cons (pe_ix (ixT K) (pv 0) pe_int (fun _ _ => rfl)) pa_nil)))))), ?_⟩
    refine ⟨_, rfl, a, _, _, _, rfl, rfl, ha, atI_nat (j := 1) rfl, c, ys, rfl, .inr hc, _, rfl, .of_le (by omega) (by omega) (by omega) (by omega), fun q hq => ?_⟩
    refine k _ _ (same_new hq) (lot_dp (SqT.of ?_))
    rw [upd_same]
    unfold rgV
    rw [hyl, show ((ts.length : Int) - 0).toNat = ts.length by omega]
    congr 2
    exact List.map_congr_left fun i _ => by rw [Int.zero_add]
theorem ok_far {f : Addr} {fd : FuncData} (D : Df K mg "far_end" sFar pFar f fd) (T : Bl mg) : FnOk P w K mg base CX0 1 f fd pFar (spFar K) := by
  refine D.fn.ok scFar (fun vs H Q E h => ?_) (fun cdv A outer s H vs Q E hr h => ?_)
  · obtain ⟨v, n, ts, kk, p, t, rfl, _⟩ := h
    rfl
  · obtain ⟨v, n, ts, kk, p, t, rfl, hw, ht, k⟩ := h
    have nd := scFar.nd
    obtain ⟨a, c, ys, rfl, ha, hc, hys⟩ := dp_web hw
    obtain ⟨y, hy, hyd⟩ := dpAll_at hys (show (ts.map tieD)[kk]? = some (tieD t) by rw [List.getElem?_map, ht]; rfl)
    obtain ⟨az, rfl, haz⟩ := dp_tie hyd
    refine ⟨_, (pss_cons (ps_asg (pe_ix (ixT K) (pe_ix (ixT K) (pv 0) pe_int (fun _ _ => rfl)) (pv 1) (fun _ _ => rfl)) (pgT K rfl (pgs_cons (pg_name (i := 3) nd rfl (by first | exact Or.inl rfl | exact Or.inr rfl)) (pgs_cons (pg_name (i := 4) nd rfl (by first | exact Or.inl rfl | exact Or.inr rfl)) pgs_nil))))
      (pss_one (ps_ret (pe_ifExp (pt_cmpR op_eq (pv 2) (pv 3) (nomark _)) (pv 4) (pv 3))))), ?_⟩
    refine ⟨_, rfl, a, _, _, _, rfl, rfl, ha, atI_nat (j := 1) rfl, _, rfl, c, _, _, _, rfl, rfl, hc, atI_nat hy, az, _, rfl, haz, rfl, _, _, rfl, _, _, rfl, rfl, ?_⟩
    refine ⟨_, rfl, _, rfl, rfl, _, rfl, ?_⟩
    unfold farEnd at k
    refine ite2 (fun hh => ?_) (fun hh => ?_)
    · have e : p = t.1 := by
        have := V.int.inj (of_decide_eq_true hh)
        omega
      rw [if_pos e] at k
      exact ⟨_, rfl, k⟩
    · have e : ¬ p = t.1 := fun z => hh (by rw [z]; exact decide_eq_true rfl)
      rw [if_neg e] at k
      exact ⟨_, rfl, k⟩
theorem ok_codd {f : Addr} {fd : FuncData} (D : Df K mg "common_odd" sCodd pCodd f fd) (T : Bl mg) : FnOk P w K mg base CX0 1 f fd pCodd (spCodd K) := by
  refine D.fn.ok scCodd (fun vs H Q E h => ?_) (fun cdv A outer s H vs Q E hr h => ?_)
  · obtain ⟨v, u, w, lot, rfl, _⟩ := h
    rfl
  · obtain ⟨v, u, w, lot, rfl, hv, hu, hwl, k⟩ := h
    have nd := scCodd.nd
    obtain ⟨a, rfl, ha⟩ := dp_lotI hv
    obtain ⟨b, rfl, hb⟩ := dp_lotI hu
    refine ⟨_, (pss_one (ps_ret (pe_cmpR op_eq (pe_op op_and (pe_callB (lenK K) (by rfl) T.len PySem.boot_len (pa_cons (pe_lc (own := [("tie", 2)]) (g := (gName 2)) rfl nd (piT K (pv 0)) (blkOk_by (own := [("tie", 2)]) (N := nCodd) (sc := defScope sCodd) (by decide +kernel)) (fun _ _ _ _ _ => (pg_name (i := 2) nd rfl (by first | exact Or.inl rfl | exact Or.inr rfl))) (fun _ _ _ _ _ => (pts_one (pt_cmpR (opIn K) (pv 2) (pv 1) rfl))) (fun _ _ _ _ _ => (pv 2))) pa_nil)) pe_int) pe_int (nomark _)))), ?_⟩
    refine ⟨_, rfl, a, rfl, ⟨_, ha⟩, fun E1 hE1 => ?_⟩
    refine lc_run (walk_tup (xs := w.map fun (k : Nat) => V.int k)) hE1 (fun i acc _ => acc = ((w.take i).filter fun k => decide (k ∈ lot)).map fun (k : Nat) => V.int k) ?_ ?_ ?_ ?_
    · exact fun H' s => sqT_same s ha
    · rfl
    · rintro i x acc H2 H' hi hacc e s r ⟨rfl, hx⟩
      obtain ⟨z, hz, rfl⟩ := get_map hx
      have htk : w.take (i + 1) = w.take i ++ [z] := by
        rw [List.take_add_one, hz]
        rfl
      have r' : acc = ((w.take i).filter fun k => decide (k ∈ lot)).map fun (k : Nat) => V.int k := r
      have hal : acc.length ≤ 3000 := by
        rw [r', List.length_map]
        exact Nat.le_trans (List.length_filter_le _ _) (by rw [List.length_take]; omega)
      refine ⟨rfl, _, rfl, _, rfl, b, _, rfl, .inr (sqT_same s hb), rfl, flat_nats lot, _, rfl, ?_⟩
      have key : inV (V.int (z : Int)) (lot.map fun (k : Nat) => V.int k) = decide (z ∈ lot) := inv_nats z lot
      refine ite2 (fun hh => ?_) (fun hh => ?_)
      · refine ⟨_, rfl, ?_⟩
        refine lc_add hacc e (Same.refl _) (by omega) ?_
        show _ = _
        rw [htk, List.filter_append, List.filter_cons, if_pos (by rw [← key]; exact hh), List.map_append, r']
        rfl
      · refine lc_skip hacc e (Same.refl _) ?_
        show _ = _
        rw [htk, List.filter_append, List.filter_cons, if_neg (by rw [← key]; exact hh), r']
        simp
    · rintro acc H2 h1 s2 r
      have r' : acc = ((w.take (w.map fun (k : Nat) => V.int k).length).filter fun k => decide (k ∈ lot)).map fun (k : Nat) => V.int k := r
      rw [List.length_map, List.take_of_length_le (Nat.le_refl _)] at r'
      have k' := k H2 s2
      unfold oddIn at k'
      refine ⟨E1, _, rfl, .inl (SqL.of h1), _, _, rfl, rfl, rfl, ?_⟩
      rw [bit1, r', List.length_map]
      exact k'
theorem ok_cut {f : Addr} {fd : FuncData} (D : Df K mg "cut_of" sCut pCut f fd) (T : Bl mg) : FnOk P w K mg base CX0 1 f fd pCut (spCut K) := by
  refine D.fn.ok scCut (fun vs H Q E h => ?_) (fun cdv A outer s H vs Q E hr h => ?_)
  · obtain ⟨v, pv, n, ts, ps, rfl, _⟩ := h
    rfl
  · obtain ⟨v, pv, n, ts, ps, rfl, hw, hp, hl, k⟩ := h
    have nd := scCut.nd
    obtain ⟨a, c, ys, rfl, ha, hc, hys⟩ := dp_web hw
    have hyl : ys.length = ts.length := by rw [dpAll_len hys, List.length_map]
    obtain ⟨ap, rfl, hap⟩ := dp_lotI hp
    refine ⟨_, (pss_one (ps_ret (pe_callTy (tupleK K) (by rfl) T.tuple (by decide +kernel) (pa_cons (pe_lc (own := [("tie", 2), ("one", 3), ("other", 4)]) (g := (gTup K 2 (gCons (gName 2) (gCons (gTup K 2 (gCons (gName 3) (gCons (gName 4) gNil))) gNil)))) rfl nd (enumT K (by rfl) T.enumerate (pa_cons (pe_ix (ixT K) (pv 0) pe_int (fun _ _ => rfl)) pa_nil)) (blkOk_by (own := [("tie", 2), ("one", 3), ("other", 4)]) (N := nCut) (sc := defScope sCut) (by decide +kernel)) (fun _ _ _ _ _ => (pgT K rfl (pgs_cons (pg_name (i := 2) nd rfl (by first | exact Or.inl rfl | exact Or.inr rfl)) (pgs_cons (pgT K rfl (pgs_cons (pg_name (i := 3) nd rfl (by first | exact Or.inl rfl | exact Or.inr rfl)) (pgs_cons (pg_name (i := 4) nd rfl (by first | exact Or.inl rfl | exact Or.inr rfl)) pgs_nil))) pgs_nil)))) (fun _ _ _ _ _ => (pts_one (pt_cmpR op_ne (pe_cmpR (opIn K) (pv 3) (pv 1) rfl) (pe_cmpR (opIn K) (pv 4) (pv 1) rfl) (nomark _)))) (fun _ _ _ _ _ => (pv 2))) pa_nil)))), ?_⟩
    refine ⟨_, rfl, a, _, _, _, rfl, rfl, ha, atI_nat (j := 1) rfl, c, ys, rfl, hc, fun E1 hE1 => ?_⟩
    refine lc_run (walk_enumT (xs := ys)) hE1 (fun i acc _ => acc = ((List.range i).filter fun k => match ts[k]? with | some t => crosses ps t | none => false).map fun (k : Nat) => V.int k) ?_ ?_ ?_ ?_
    · exact fun H' s => sqT_same s hc
    · rfl
    · rintro i x acc H2 H' hi hacc e s r ⟨q, y, z, rfl, hq, rfl, hy, hz⟩
      have hit : i < ts.length := by omega
      have ht : ts[i]? = some ts[i] := by simp [hit]
      have hy' : some (V.int i) = some y := hy
      cases hy'
      have hz' : ys[i]? = some z := hz
      obtain ⟨dd, hdd, hzd⟩ := dpAll_get hys hz'
      rw [List.getElem?_map, ht] at hdd
      cases hdd
      obtain ⟨az, rfl, haz⟩ := dp_tie hzd
      have sq := same_new (o := .tup [.int i, .ref az]) hq
      refine ⟨q, _, rfl, SqT.of upd_same, rfl, _, _, rfl, _, _, rfl, az, _, rfl, sqT_same (s.trans sq) haz, rfl, _, _, rfl, _, _, rfl, rfl, rfl, rfl, ?_⟩
      refine ⟨_, rfl, _, rfl, ap, _, rfl, .inr (sqT_same (s.trans sq) hap), rfl, flat_nats ps, ?_⟩
      refine ⟨_, rfl, _, rfl, ap, _, rfl, .inr (sqT_same (s.trans sq) hap), rfl, flat_nats ps, rfl, _, rfl, ?_⟩
      have r' : acc = ((List.range i).filter fun k => match ts[k]? with | some t => crosses ps t | none => false).map fun (k : Nat) => V.int k := r
      have hal : acc.length ≤ i := by
        rw [r', List.length_map]
        exact Nat.le_trans (List.length_filter_le _ _) (by rw [List.length_range]; exact Nat.le_refl _)
      have hc2 : (match ts[i]? with | some t => crosses ps t | none => false) = crosses ps ts[i] := by rw [ht]
      have key : (!decide (V.bl (inV (V.int ((ts[i]).1 : Int)) (ps.map fun (k : Nat) => V.int k)) = V.bl (inV (V.int ((ts[i]).2 : Int)) (ps.map fun (k : Nat) => V.int k)))) = crosses ps ts[i] := by
        rw [inv_nats, inv_nats]
        unfold crosses
        congr 1
        exact decide_eq_decide.mpr ⟨fun z => V.bl.inj z, fun z => by rw [z]⟩
      refine ite2 (fun hh => ?_) (fun hh => ?_)
      · refine ⟨_, rfl, ?_⟩
        refine lc_add hacc e sq (by omega) ?_
        rw [range_filter_succ, if_pos (by rw [hc2, ← key]; exact hh), List.map_append, r']
        rfl
      · refine lc_skip hacc e sq ?_
        rw [range_filter_succ, if_neg (by rw [hc2, ← key]; exact hh), List.append_nil]
        exact r'
    · rintro acc H2 h1 s2 r
      have r' : acc = ((List.range ys.length).filter fun k => match ts[k]? with | some t => crosses ps t | none => false).map fun (k : Nat) => V.int k := r
      rw [hyl] at r'
      refine ⟨E1, _, rfl, .inl ⟨SqL.of h1, fun u hu => ?_⟩⟩
      refine k _ _ (s2.trans (same_new hu)) (lot_dp (SqT.of ?_))
      rw [upd_same, r']
      rfl

def muW (n : Nat) (d q : Addr) (H : Hp) : Nat := (match H d with | some (.dK kvs) => 2 * (n - kvs.length) | _ => 0) + (match H q with | some (.lst xs) => xs.length | _ => 0)
theorem muW_at {n : Nat} {d q : Addr} {H : Hp} {kvs : List (Key × V)} {xs : List V} (h1 : H d = some (.dK kvs)) (h2 : H q = some (.lst xs)) : muW n d q H = 2 * (n - kvs.length) + xs.length := by
  unfold muW
  rw [h1, h2]
theorem kv_len {kvs : List (Key × V)} {fnd : List Nat} (h : kvs.map (·.1) = fnd.map (fun (p : Nat) => (Sum.inl (p : Int) : Key))) : kvs.length = fnd.length := by
  have := congrArg List.length h
  rwa [List.length_map, List.length_map] at this
theorem val_none {kvs : List (Key × V)} {fnd : List Nat} {p : Nat} (h : kvs.map (·.1) = fnd.map (fun (p : Nat) => (Sum.inl (p : Int) : Key))) : (valV kvs (Sum.inl (p : Int))).isSome = decide (p ∈ fnd) := by
  rw [← valV_any, Bool.eq_iff_iff, decide_eq_true_eq, List.any_eq_true]
  constructor
  · rintro ⟨kv, hm, he⟩
    have hm2 : kv.1 ∈ kvs.map (·.1) := List.mem_map.mpr ⟨kv, hm, rfl⟩
    rw [h] at hm2
    obtain ⟨x, hx, e⟩ := List.mem_map.mp hm2
    have e2 := of_decide_eq_true he
    rw [← e] at e2
    have : x = p := by
      have := Sum.inl.inj e2
      omega
    exact this ▸ hx
  · intro hp
    have hm2 : (Sum.inl (p : Int) : Key) ∈ kvs.map (·.1) := by
      rw [h]
      exact List.mem_map.mpr ⟨p, hp, rfl⟩
    obtain ⟨kv, hm, e⟩ := List.mem_map.mp hm2
    exact ⟨kv, hm, decide_eq_true e⟩
theorem nodup_small : ∀ (L : Nat) (l : List Nat), l.Nodup → (∀ x ∈ l, x < L) → l.length ≤ L
  | 0, l, _, h => by
    cases l with
    | nil => exact Nat.le_refl _
    | cons a r => exact absurd (h a (List.mem_cons_self ..)) (Nat.not_lt_zero _)
  | L + 1, l, hn, h => by
    have h1 := nodup_small L (l.erase L) (hn.erase L) (fun x hx => by
      have h2 := h x (List.mem_of_mem_erase hx)
      have h3 : x ≠ L := fun e => by
        subst e
        exact (List.Nodup.not_mem_erase hn) hx
      omega)
    by_cases e : L ∈ l
    · rw [List.length_erase_of_mem e] at h1
      omega
    · rw [List.erase_of_not_mem e] at h1
      omega
/-- the state of the search -/
structure Bfs (K : PySem.W.Frag) (ts : List Tie) (es : List Nat) (n start : Nat) (H : Hp) (d q : Addr) (fnd que : List Nat) : Prop where
  fd : Found K ts es n start H d fnd
  qu : H q = some (.lst (natsV que))
  qf : ∀ p ∈ que, p ∈ fnd
  ql : que.length ≤ fnd.length
theorem Found.kf {K : PySem.W.Frag} {ts : List Tie} {es : List Nat} {n start : Nat} {H H' : Hp} {d : Addr} {fnd : List Nat} (h : Found K ts es n start H d fnd) (s : KF H H') (hd : H' d = H d) : Found K ts es n start H' d fnd := by
  obtain ⟨⟨kvs, h1, h2, h3⟩, r⟩ := h
  exact ⟨⟨kvs, by rw [hd, h1], h2, fun p hp => by
    obtain ⟨a, w, e1, e2, e3⟩ := h3 p hp
    exact ⟨a, w, e1, sqT_kf s e2, e3⟩⟩, r⟩
theorem Found.same {K : PySem.W.Frag} {ts : List Tie} {es : List Nat} {n start : Nat} {H H' : Hp} {d : Addr} {fnd : List Nat} (h : Found K ts es n start H d fnd) (s : Same H H') : Found K ts es n start H' d fnd := by
  have ⟨⟨kvs, h1, _⟩, _⟩ := h
  exact h.kf (fun a o e _ => s a o e) (by rw [s _ _ h1, h1])
theorem same_old {H H' : Hp} {l : Addr} {o : HO} (h : H l = none) (s : Same H H') : Same H (upd H' l o) := fun a x e => by
  rw [upd_ne (ne_of_none e h)]
  exact s _ _ e
theorem kf_upd {H : Hp} {l : Addr} {o x : HO} (h : H l = some o) (ho : (∀ xs, o ≠ .tup xs) ∧ ∀ od u, o ≠ .frz od u) : KF H (upd H l x) := fun z o2 hz q => by
  have nz : z ≠ l := by
    rintro rfl
    rw [h] at hz
    cases hz
    obtain ⟨xs, e | ⟨od, e⟩⟩ := q
    · exact ho.1 _ e
    · exact ho.2 _ _ e
  rw [upd_ne nz]
  exact hz
theorem farEnd_way {ts : List Tie} {start p k : Nat} {w : List Nat} {t : Tie} (hw : Way ts start w p) (ht : ts[k]? = some t) (hp : p = t.1 ∨ p = t.2) : Way ts start (w ++ [k]) (farEnd t p) := by
  refine .snoc hw ht ?_
  unfold farEnd
  by_cases e : p = t.1
  · rw [if_pos e]
    exact .inl ⟨e.symm, rfl⟩
  · rw [if_neg e]
    rcases hp with z | z
    · exact absurd z e
    · exact .inr ⟨z.symm, rfl⟩
theorem ok_ways {f f1 : Addr} {fd fd1 : FuncData} (D : Df K mg "ways_from" sWays pWays f fd) (T : Bl mg) (D_far : Df K mg "far_end" sFar pFar f1 fd1) : FnOk P w K mg base CX0 2 f fd pWays (spWays K) := by
  have G_far : FnOk P w K mg base CX0 1 f1 fd1 pFar (spFar K) := ok_far D_far T
  refine D.fn.ok scWays (fun vs H Q E h => ?_) (fun cdv A outer s H vs Q E hr h => ?_)
  · obtain ⟨v, ev, n, ts, es, start, rfl, _⟩ := h
    rfl
  · obtain ⟨v, ev, n, ts, es, start, rfl, hw, he, hends, hes, hst, hn, hel, k⟩ := h
    have hr_far : Room 1 _ := hr
    have hu := hu_of hr
    have nd := scWays.nd
    obtain ⟨a, c, ys, rfl, ha, hc, hys⟩ := dp_web hw
    have hyl : ys.length = ts.length := by rw [dpAll_len hys, List.length_map]
    obtain ⟨ae, rfl, hae⟩ := dp_lotN he
    refine ⟨_, (pss_cons (ps_set (i := 3) nd rfl (by first | exact Or.inl rfl | exact Or.inr rfl) (pe_disp (pps_cons (pv 2) (pe_tup pa_nil) pps_nil) (by rfl) (by rfl) (fun z => by cases z) (by decide)))
      (pss_cons (ps_set (i := 4) nd rfl (by first | exact Or.inl rfl | exact Or.inr rfl) (pe_lst (pa_cons (pv 2) pa_nil)))
      (pss_cons (ps_while PassesOwn.never (pt_truth (pv 4) (by intro _; rfl)) (pss_cons (ps_set (i := 5) nd rfl (by first | exact Or.inl rfl | exact Or.inr rfl) (pe_bm PySem.F.plainAttrs_list PySem.F.slot_list_pop PySem.F.type_list_pop mt_popAt (pv 4) (pa_cons pe_int pa_nil)))
      (pss_one (ps_for PassesOwn.never rfl (piT K (pv 1)) (pg_name (i := 6) nd rfl (by first | exact Or.inl rfl | exact Or.inr rfl)) (pss_cons (ps_if (pt_cmpR (opNotIn K) (pv 5) (pe_ix (ixT K) (pe_ix (ixT K) (pv 0) pe_int (fun _ _ => rfl)) (pv 6) (fun _ _ => rfl)) rfl) (pss_one ps_continue) pss_nil)
      (pss_cons (ps_set (i := 7) nd rfl (by first | exact Or.inl rfl | exact Or.inr rfl) (pe_call G_far hr_far (by rfl) D_far.ad D_far.fn.kp D_far.bd .nil pass0 (pa_cons (pv 0) (pa_cons (pv 6) (pa_cons (pv 5) pa_nil)))))
      (pss_one (ps_if (pt_cmp (pc_dnotin hu (pv 7) (pv 3))) (pss_cons (ps_dput hu (pv 3) (pv 7) (pe_op (catA K) (pe_dget hu (pv 3) (pv 5) (fun _ _ => rfl)) (pe_tup (pa_cons (pv 6) pa_nil))) rfl)
      (pss_one (ps_expr (pe_bm PySem.F.plainAttrs_list PySem.F.slot_list_append PySem.F.type_list_append mt_append (pv 4) (pa_cons (pv 7) pa_nil))))) pss_nil))))))))
      (pss_one (ps_ret (pv 3)))))), ?_⟩
    refine fun d hd => ?_
    have s1 := same_new (o := .dK []) hd
    refine ⟨_, rfl, Nat.zero_le _, fun t0 ht0 => ?_⟩
    have s2 := same_new (o := .tup []) ht0
    have hd2 := s2 _ _ (upd_same (H := H) (a := d) (o := .dK []))
    have nd0 : d ≠ t0 := by
      rintro rfl
      rw [upd_same] at ht0
      cases ht0
    refine ⟨hd2, [(Sum.inl (start : Int), .ref t0)], rfl, (by show 1 ≤ 15; decide), ?_⟩
    dsimp only [gName]
    refine at_st [some (.ref a), some (.ref ae), some (.int start), some (.ref d), none, none, none, none] rfl ?_
    refine tSeq_go ?_
    refine ⟨_, rfl, by show 1 ≤ sizeLine; decide, fun q hq => ?_⟩
    have h3d : (upd (upd (upd H d (.dK [])) t0 (.tup [])) d (.dK (mergeK [] [((Sum.inl (start : Int) : Key), V.ref t0)]))) d = some (.dK [((Sum.inl (start : Int) : Key), V.ref t0)]) := upd_same
    have h3t : (upd (upd (upd H d (.dK [])) t0 (.tup [])) d (.dK (mergeK [] [((Sum.inl (start : Int) : Key), V.ref t0)]))) t0 = some (.tup []) := by
      rw [upd_ne nd0.symm]
      exact upd_same
    have h3s : Same H (upd (upd (upd H d (.dK [])) t0 (.tup [])) d (.dK (mergeK [] [((Sum.inl (start : Int) : Key), V.ref t0)]))) := same_old hd (s1.trans s2)
    generalize (upd (upd (upd H d (.dK [])) t0 (.tup [])) d (.dK (mergeK [] [((Sum.inl (start : Int) : Key), V.ref t0)]))) = H3 at *
    have s3 := same_new (o := .lst [.int start]) hq
    have s4 := h3s.trans s3
    have dq : d ≠ q := by
      rintro rfl
      rw [h3d] at hq
      cases hq
    have b4 : Bfs K ts es n start (upd H3 q (.lst [.int start])) d q [start] [start] := by
      refine ⟨⟨⟨_, s3 _ _ h3d, rfl, fun p hp => ?_⟩, by simp, by simpa using hst, by simp⟩, upd_same, by simp, Nat.le_refl _⟩
      obtain rfl := List.mem_singleton.mp hp
      exact ⟨t0, [], by simp [valV], SqT.of (s3 _ _ h3t), .nil, by simp, by simp, .nil, by simp⟩
    have qn : H q = none := Same.free h3s hq
    clear s1 s2 hd2 h3d h3t h3s s3 hq
    generalize upd H3 q (.lst [.int start]) = H4 at *
    dsimp only [gName]
    refine at_st [some (.ref a), some (.ref ae), some (.int start), some (.ref d), some (.ref q), none, none, none] rfl ?_
    refine tSeq_go ?_
    refine while_by (fun σ H' => ∃ (v5 v6 v7 : Option V) (fnd que : List Nat), σ = [some (.ref a), some (.ref ae), some (.int start), some (.ref d), some (.ref q), v5, v6, v7] ∧ Same H H' ∧
      Bfs K ts es n start H' d q fnd que ∧ ∀ p ∈ fnd, p ∈ que ∨ Shut ts es fnd p) (fun _ H' => muW n d q H') ?_ ?_ ?_
    · exact ⟨none, none, none, [start], [start], rfl, s4, b4, fun p hp => .inl hp⟩
    · rintro σ H5 ⟨v5, v6, v7, fnd, que, rfl, s5, b5, hcl⟩
      refine ⟨_, rfl, !(natsV que).isEmpty, .inl ⟨_, SqL.of b5.qu, rfl⟩, ?_⟩
      cases que with
      | nil =>
        refine iteF ?_
        exact ⟨_, rfl, k d fnd H5 hd s5 b5.fd fun p hp => (hcl p hp).resolve_left (by simp)⟩
      | cons p rest =>
        refine iteT ?_
        refine tSeq_go ?_
        have hp5 : p ∈ fnd := b5.qf p (List.mem_cons_self ..)
        refine ⟨_, rfl, .inl ⟨rfl, _, SqL.of b5.qu⟩, q, _, 0, 0, .int p, rfl, rfl, b5.qu, by decide, by decide, by simp [seqIndex?, natsV], rfl, ?_⟩
        have e5 : (natsV (p :: rest)).eraseIdx 0 = natsV rest := rfl
        rw [e5]
        have b6 : Bfs K ts es n start (upd H5 q (.lst (natsV rest))) d q fnd rest :=
          ⟨b5.fd.kf (kf_upd b5.qu ⟨(fun _ e => nomatch e), (fun _ _ e => nomatch e)⟩) (upd_ne dq), upd_same, fun x hx => b5.qf x (List.mem_cons_of_mem _ hx), Nat.le_of_succ_le b5.ql⟩
        have s6 : Same H (upd H5 q (.lst (natsV rest))) := same_old qn s5
        have m6 : muW n d q (upd H5 q (.lst (natsV rest))) + 1 = muW n d q H5 := by
          obtain ⟨⟨⟨kvs, h1, h2, _⟩, _⟩, h4, _⟩ := b5
          rw [muW_at (d := d) (q := q) (by rw [upd_ne dq]; exact h1) upd_same, muW_at h1 h4]
          simp [natsV]
          omega
        clear e5
        generalize upd H5 q (.lst (natsV rest)) = H6 at *
        dsimp only [gName]
        refine at_st [some (.ref a), some (.ref ae), some (.int start), some (.ref d), some (.ref q), some (.int p), v6, v7] rfl ?_
        refine ⟨_, rfl, ae, rfl, ⟨_, sqT_same s6 hae⟩, for_it (walk_tup (xs := natsV es)) (fun i σ H' => ∃ (v6 v7 : Option V) (fnd2 que2 : List Nat), σ = [some (.ref a), some (.ref ae), some (.int start), some (.ref d), some (.ref q), some (.int p), v6, v7] ∧
          Same H H' ∧ Bfs K ts es n start H' d q fnd2 que2 ∧ (∀ x ∈ fnd2, x ∈ que2 ∨ x = p ∨ Shut ts es fnd2 x) ∧ p ∈ fnd2 ∧
          (∀ j, j < i → ∀ kk, es[j]? = some kk → ∀ t, ts[kk]? = some t → (t.1 = p → t.2 ∈ fnd2) ∧ (t.2 = p → t.1 ∈ fnd2)) ∧ muW n d q H' + 1 ≤ muW n d q H5) ?_ ?_ ?_ ?_⟩
        · refine ⟨v6, v7, fnd, rest, rfl, s6, b6, fun x hx => ?_, hp5, fun j hj => absurd hj (Nat.not_lt_zero _), by omega⟩
          rcases hcl x hx with z | z
          · rcases List.mem_cons.mp z with z | z
            · exact .inr (.inl z)
            · exact .inl z
          · exact .inr (.inr z)
        · rintro i σ H' _ ⟨v6, v7, fnd2, que2, rfl, sH, _⟩
          exact sqT_same sH hae
        · rintro i x σ H7 H'' hi ⟨v6, v7, fnd2, que2, rfl, s7, b7, c7, p7, j7, m7⟩ ⟨rfl, hx⟩
          obtain ⟨kk, hkk, rfl⟩ := get_map hx
          have hkl : kk < ts.length := hes kk (List.mem_of_getElem? hkk)
          have ht : ts[kk]? = some ts[kk] := List.getElem?_eq_getElem hkl
          generalize ts[kk] = t at ht
          have hmt := List.mem_of_getElem? ht
          obtain ⟨y, hy, hyd⟩ := dpAll_at hys (show (ts.map tieD)[kk]? = some (tieD t) by rw [List.getElem?_map, ht]; rfl)
          obtain ⟨az, rfl, haz⟩ := dp_tie (dp_same s7 _ hyd)
          have key : inV (V.int (p : Int)) [V.int t.1, V.int t.2] = decide (p ∈ [t.1, t.2]) := inv_nats p [t.1, t.2]
          show tSeq _ _ _ _ _
          refine tSeq_go ?_
          have ha7 := sqT_same s7 ha
          have hc7 := sqT_same s7 hc
          have j8 : ∀ {f3 : List Nat}, (∀ x ∈ fnd2, x ∈ f3) → ((t.1 = p → t.2 ∈ f3) ∧ (t.2 = p → t.1 ∈ f3)) → ∀ j, j < i + 1 → ∀ kk, es[j]? = some kk → ∀ t, ts[kk]? = some t → (t.1 = p → t.2 ∈ f3) ∧ (t.2 = p → t.1 ∈ f3) := fun m new j hj k2 hk2 t2 ht2 => by
            by_cases e : j = i
            · subst e
              rw [hkk] at hk2
              cases hk2
              rw [ht] at ht2
              cases ht2
              exact new
            · have z := j7 j (by omega) k2 hk2 t2 ht2
              exact ⟨fun q => m _ (z.1 q), fun q => m _ (z.2 q)⟩
          refine ⟨_, rfl, _, rfl, a, _, _, _, rfl, rfl, ha7, atI_nat (j := 1) rfl, _, rfl, c, _, _, _, rfl, rfl, hc7, atI_nat hy, az, _, rfl, .inr haz, rfl, rfl, _, rfl, ?_⟩
          refine ite2 (fun hh => ?_) (fun hh => ?_)
          · -- not at this end
            rw [key] at hh
            have hno : p ∉ [t.1, t.2] := by simpa using hh
            simp only [List.mem_cons, List.not_mem_nil, or_false, not_or] at hno
            exact ⟨_, v7, fnd2, que2, rfl, s7, b7, c7, p7, j8 (fun _ z => z) ⟨fun e => absurd e.symm hno.1, fun e => absurd e.symm hno.2⟩, m7⟩
          rw [key] at hh
          have hin : p = t.1 ∨ p = t.2 := by
            have : p ∈ [t.1, t.2] := Classical.byContradiction fun hn => hh (by rw [decide_eq_false hn]; rfl)
            simpa using this
          dsimp only [tNext]
          refine tSeq_go ?_
          refine ⟨_, rfl, _, rfl, _, rfl, .ref a, n, ts, kk, p, t, rfl, dp_same s7 _ hw, ht, ?_⟩
          dsimp only [gName]
          refine at_st [some (.ref a), some (.ref ae), some (.int start), some (.ref d), some (.ref q), some (.int p), some (.int kk), some (.int (farEnd t p : Nat))] rfl ?_
          have b7c := b7
          obtain ⟨⟨⟨kvs, h1, h2, h3⟩, hnd, hlt, hst2⟩, h4, h5, h6⟩ := b7
          have hmem := hends t hmt
          have hg : farEnd t p < n := by
            unfold farEnd
            split <;> omega
          have hnew : ∀ {f3 : List Nat}, farEnd t p ∈ f3 → (t.1 = p → t.2 ∈ f3) ∧ (t.2 = p → t.1 ∈ f3) := fun m => by
            unfold farEnd at m
            constructor
            · intro e
              rwa [if_pos e.symm] at m
            · intro e
              rwa [if_neg (by omega)] at m
          refine ⟨_, rfl, _, rfl, d, _, rfl, DGet.k (k := Sum.inl ((farEnd t p : Nat) : Int)) h1, _, rfl, ?_⟩
          rw [val_none h2]
          refine ite2 (fun hh2 => ?_) (fun hh2 => ?_)
          · have hnf : farEnd t p ∉ fnd2 := by simpa using hh2
            have hvn : valV kvs (Sum.inl ((farEnd t p : Nat) : Int)) = none := by
              have := val_none (p := farEnd t p) h2
              rw [decide_eq_false hnf] at this
              cases e : valV kvs (Sum.inl ((farEnd t p : Nat) : Int)) with
              | none => rfl
              | some x => rw [e] at this; cases this
            obtain ⟨aw, w0, e1, e2, e3, e4, e5, e6, e7⟩ := h3 p p7
            have hlen := kv_len h2
            have hfn : fnd2.length ≤ n := nodup_small n fnd2 hnd hlt
            refine tSeq_go ?_
            refine ⟨_, rfl, _, rfl, d, _, rfl, by rw [← e1]; exact DGet.k (k := Sum.inl (p : Int)) h1, ?_⟩
            refine ⟨_, rfl, by show 1 ≤ sizeLine; decide, fun t1 ht1 => ?_⟩
            have u1 := same_new (o := .tup [.int kk]) ht1
            refine catA_by rfl rfl (sqT_same u1 e2) (SqT.of upd_same) (by unfold natsV; rw [List.length_map]; show _ + 1 ≤ 100000; omega) fun cw H8 u2 hcw => ?_
            have u12 := u1.trans u2
            have h18 := u12 _ _ h1
            have h48 := u12 _ _ h4
            refine ⟨_, rfl, _, rfl, d, _, rfl, DPut.k (k := Sum.inl ((farEnd t p : Nat) : Int)) h18 (Nat.lt_of_lt_of_le (show kvs.length < 100000 by omega) (by decide)), ?_⟩
            have kd : KF H8 (upd H8 d (.dK (putK kvs (Sum.inl ((farEnd t p : Nat) : Int)) (.ref cw)))) := kf_upd h18 ⟨(fun _ e => nomatch e), (fun _ _ e => nomatch e)⟩
            have hq9 : (upd H8 d (.dK (putK kvs (Sum.inl ((farEnd t p : Nat) : Int)) (.ref cw)))) q = some (.lst (natsV que2)) := by
              rw [upd_ne dq.symm]
              exact h48
            refine ⟨_, rfl, .inl ⟨rfl, _, SqL.of hq9⟩, _, rfl, q, _, _, rfl, rfl, hq9, ?_, ?_⟩
            · unfold natsV
              rw [List.length_map]
              exact Nat.lt_of_lt_of_le (show que2.length < 100000 by omega) (by decide)
            have kq : KF (upd H8 d (.dK (putK kvs (Sum.inl ((farEnd t p : Nat) : Int)) (.ref cw)))) (upd (upd H8 d (.dK (putK kvs (Sum.inl ((farEnd t p : Nat) : Int)) (.ref cw)))) q (.lst (natsV que2 ++ [.int (farEnd t p : Nat)]))) := kf_upd hq9 ⟨(fun _ e => nomatch e), (fun _ _ e => nomatch e)⟩
            have hd10 : (upd (upd H8 d (.dK (putK kvs (Sum.inl ((farEnd t p : Nat) : Int)) (.ref cw)))) q (.lst (natsV que2 ++ [.int (farEnd t p : Nat)]))) d = some (.dK (kvs ++ [(Sum.inl ((farEnd t p : Nat) : Int), .ref cw)])) := by
              rw [upd_ne dq, upd_same, putK_new _ hvn]
            have hq10 : (upd (upd H8 d (.dK (putK kvs (Sum.inl ((farEnd t p : Nat) : Int)) (.ref cw)))) q (.lst (natsV que2 ++ [.int (farEnd t p : Nat)]))) q = some (.lst (natsV (que2 ++ [farEnd t p]))) := by
              rw [upd_same]
              unfold natsV
              rw [List.map_append]
              rfl
            refine ⟨some (.int kk), some (.int (farEnd t p : Nat)), fnd2 ++ [farEnd t p], que2 ++ [farEnd t p], rfl, same_old qn (same_old hd (s7.trans u12)), ⟨⟨⟨_, hd10, ?_, fun x hx => ?_⟩, ?_, fun x hx => ?_, List.mem_append_left _ hst2⟩, hq10, fun x hx => ?_, ?_⟩, fun x hx => ?_, List.mem_append_left _ p7, j8 (fun _ z => List.mem_append_left _ z) (hnew (List.mem_append_right _ (List.mem_singleton.mpr rfl))), ?_⟩
            · rw [List.map_append, List.map_append, h2]
              rfl
            · have vput : ∀ y : Nat, valV (kvs ++ [(Sum.inl ((farEnd t p : Nat) : Int), V.ref cw)]) (Sum.inl (y : Int)) = if y = farEnd t p then some (.ref cw) else valV kvs (Sum.inl (y : Int)) := fun y => by
                rw [← putK_new _ hvn, valV_put]
                by_cases e : y = farEnd t p
                · rw [if_pos e, if_pos (by rw [e])]
                · rw [if_neg e, if_neg (fun z => e (by have := Sum.inl.inj z; omega))]
              rw [List.length_append, List.length_singleton]
              rcases List.mem_append.mp hx with z | z
              · obtain ⟨ax, wx, f1, f2, f3, f4, f5, f6, f7⟩ := h3 x z
                refine ⟨ax, wx, ?_, sqT_kf kq (sqT_kf kd (sqT_same u12 f2)), f3, f4, by omega, f6, fun y hy u hu => ⟨List.mem_append_left _ (f7 y hy u hu).1, List.mem_append_left _ (f7 y hy u hu).2⟩⟩
                rw [vput, if_neg (fun e : x = farEnd t p => hnf (e ▸ z)), f1]
              · obtain rfl := List.mem_singleton.mp z
                refine ⟨cw, w0 ++ [kk], ?_, sqT_kf kq (sqT_kf kd ?_), farEnd_way e3 ht hin, fun y hy => ?_, ?_, ?_, fun y hy u hu => ?_⟩
                · rw [vput, if_pos rfl]
                · have : natsV (w0 ++ [kk]) = natsV w0 ++ [.int kk] := by unfold natsV; rw [List.map_append]; rfl
                  rw [this]
                  exact hcw
                · rcases List.mem_append.mp hy with z2 | z2
                  · exact e4 y z2
                  · rw [List.mem_singleton.mp z2]
                    exact List.mem_of_getElem? hkk
                · rw [List.length_append, List.length_singleton]
                  omega
                · rw [List.nodup_append]
                  refine ⟨e6, List.nodup_cons.mpr ⟨by simp, .nil⟩, fun x hxw y hyw exy => ?_⟩
                  have exk : x = kk := exy.trans (List.mem_singleton.mp hyw)
                  rw [exk] at hxw
                  have z3 := e7 _ hxw t ht
                  refine hnf ?_
                  unfold farEnd
                  split
                  · exact z3.2
                  · exact z3.1
                · rcases List.mem_append.mp hy with z2 | z2
                  · exact ⟨List.mem_append_left _ (e7 y z2 u hu).1, List.mem_append_left _ (e7 y z2 u hu).2⟩
                  · obtain rfl := List.mem_singleton.mp z2
                    rw [ht] at hu
                    cases hu
                    have mf : farEnd t p ∈ fnd2 ++ [farEnd t p] := List.mem_append_right _ (List.mem_singleton.mpr rfl)
                    have mp : p ∈ fnd2 ++ [farEnd t p] := List.mem_append_left _ p7
                    unfold farEnd at mf mp ⊢
                    by_cases e : p = t.1
                    · rw [if_pos e] at mf mp ⊢
                      exact ⟨e ▸ mp, mf⟩
                    · rw [if_neg e] at mf mp ⊢
                      exact ⟨mf, (hin.resolve_left e) ▸ mp⟩
            · rw [List.nodup_append]
              refine ⟨hnd, List.nodup_cons.mpr ⟨by simp, .nil⟩, fun x hx y hy => ?_⟩
              rw [List.mem_singleton.mp hy]
              exact fun z => hnf (z ▸ hx)
            · rcases List.mem_append.mp hx with z | z
              · exact hlt x z
              · rw [List.mem_singleton.mp z]
                exact hg
            · rcases List.mem_append.mp hx with z | z
              · exact List.mem_append_left _ (h5 x z)
              · exact List.mem_append_right _ z
            · rw [List.length_append, List.length_append]
              exact Nat.add_le_add_right h6 _
            · rcases List.mem_append.mp hx with z | z
              · rcases c7 x z with z | z | z
                · exact .inl (List.mem_append_left _ z)
                · exact .inr (.inl z)
                · exact .inr (.inr (z.mono fun _ m => List.mem_append_left _ m))
              · exact .inl (List.mem_append_right _ z)
            · rw [muW_at h1 h4] at m7
              rw [muW_at hd10 hq10]
              have hlt2 : kvs.length < n := by
                have hn1 : (fnd2 ++ [farEnd t p]).length ≤ n := nodup_small n _ (by
                  rw [List.nodup_append]
                  refine ⟨hnd, List.nodup_cons.mpr ⟨by simp, .nil⟩, fun x hx y hy => ?_⟩
                  rw [List.mem_singleton.mp hy]
                  exact fun z => hnf (z ▸ hx)) fun x hx => by
                    rcases List.mem_append.mp hx with z | z
                    · exact hlt x z
                    · rw [List.mem_singleton.mp z]
                      exact hg
                rw [List.length_append, List.length_singleton] at hn1
                omega
              unfold natsV at m7 ⊢
              rw [List.length_map] at m7 ⊢
              rw [List.length_append, List.length_append, List.length_singleton, List.length_singleton]
              omega
          · have hyf : farEnd t p ∈ fnd2 := by simpa using hh2
            exact ⟨some (.int kk), some (.int (farEnd t p : Nat)), fnd2, que2, rfl, s7, b7c, c7, p7, j8 (fun _ z => z) (hnew hyf), m7⟩
        · rintro σ H7 ⟨v6, v7, fnd2, que2, rfl, s7, b7, c7, p7, j7, m7⟩
          refine ⟨⟨_, _, _, fnd2, que2, rfl, s7, b7, fun x hx => ?_⟩, by omega⟩
          rcases c7 x hx with z | z | z
          · exact .inl z
          · refine .inr fun kk hk t ht => ?_
            subst z
            obtain ⟨j, hj⟩ := List.getElem?_of_mem hk
            have hjl := (List.getElem?_eq_some_iff.mp hj).1
            exact j7 j (by unfold natsV; rw [List.length_map]; exact hjl) kk hj t ht
          · exact .inr z
    · rintro σ H' Q1 Q2 hQ ⟨v, e, kb, tv, q1⟩
      exact ⟨v, e, kb, tv, hQ _ _ q1⟩

end
end BV

namespace BV
open PySem L2
abbrev sOdd : Stmt := top 9
abbrev nOdd : List Str := ["web", "lot", "odd", "tie", "place"]
abbrev pOdd : List Str := ["web", "lot"]
theorem scOdd : FnScope nOdd pOdd (defScope sOdd) := ⟨rfl, rfl, rfl, by decide +kernel, rfl, by decide +kernel, by decide +kernel⟩
abbrev sEven : Stmt := top 10
abbrev nEven : List Str := ["web", "lot"]
abbrev pEven : List Str := ["web", "lot"]
theorem scEven : FnScope nEven pEven (defScope sEven) := ⟨rfl, rfl, rfl, by decide +kernel, rfl, by decide +kernel, by decide +kernel⟩
abbrev sFside : Stmt := top 11
abbrev nFside : List Str := ["web", "lot", "found", "place"]
abbrev pFside : List Str := ["web", "lot"]
theorem scFside : FnScope nFside pFside (defScope sFside) := ⟨rfl, rfl, rfl, by decide +kernel, rfl, by decide +kernel, by decide +kernel⟩
abbrev sIscut : Stmt := top 12
abbrev nIscut : List Str := ["web", "lot"]
abbrev pIscut : List Str := ["web", "lot"]
theorem scIscut : FnScope nIscut pIscut (defScope sIscut) := ⟨rfl, rfl, rfl, by decide +kernel, rfl, by decide +kernel, by decide +kernel⟩
theorem eqv_lots (ks ms : List Nat) : PyData.eqv (lotD ks) (lotD ms) = decide (ks = ms) := by
  have e : ∀ l : List Nat, (l.map fun (k : Nat) => PyData.int k) = (l.map fun (k : Nat) => (k : Int)).map PyData.int := fun l => by rw [List.map_map]; rfl
  unfold lotD
  rw [e, e, PyData.eqv, PySem.W.ked_eqvAll]
  refine decide_eq_decide.mpr ⟨fun h => ?_, fun h => by rw [h]⟩
  have := congrArg (List.map Int.toNat) h
  rw [List.map_map, List.map_map] at this
  have e2 : ∀ l : List Nat, l.map (Int.toNat ∘ fun (k : Nat) => (k : Int)) = l := fun l => (List.map_congr_left fun x _ => (by show ((x : Int)).toNat = x; omega)).trans (List.map_id l)
  rwa [e2, e2] at this
theorem shaped_lotN (ks : List Nat) : SeqAt.shaped (lotD ks) = true := by
  have h := shaped_intsL (ks.map fun (k : Nat) => (k : Int))
  rw [List.map_map] at h
  exact h
/-- how many ties of the lot are at p -/
def atEnd (ts : List Tie) (p k : Nat) : Bool := match ts[k]? with
  | some t => decide (t.1 = p) || decide (t.2 = p)
  | none => false
def deg (ts : List Tie) (lot : List Nat) (p : Nat) : Nat := (lot.filter (atEnd ts p)).length
theorem deg_snoc {ts : List Tie} (l : List Nat) {k p : Nat} {t : Tie} (ht : ts[k]? = some t) : deg ts (l ++ [k]) p = deg ts l p + if t.1 = p ∨ t.2 = p then 1 else 0 := by
  unfold deg
  rw [List.filter_append, List.length_append]
  congr 1
  have e : atEnd ts p k = (decide (t.1 = p) || decide (t.2 = p)) := by
    unfold atEnd
    rw [ht]
  rw [List.filter_cons, e]
  by_cases h : t.1 = p ∨ t.2 = p
  · rw [if_pos h, if_pos (by rw [← Bool.decide_or]; exact decide_eq_true h)]
    rfl
  · rw [if_neg h, if_neg (by rw [← Bool.decide_or, decide_eq_false h]; decide)]
    rfl
def oddPl (n : Nat) (ts : List Tie) (lot : List Nat) : List Nat := (List.range n).filter fun p => decide (deg ts lot p % 2 = 1)
def evenB (n : Nat) (ts : List Tie) (lot : List Nat) : Bool := decide (oddPl n ts lot = [])
theorem rng_get {α : Type} (n : Nat) (g : Nat → α) {i : Nat} (h : i < n) : ((List.range n).map g)[i]? = some (g i) := by
  rw [List.getElem?_map, List.getElem?_range h]
  rfl
theorem rng_set {α : Type} (n : Nat) (g : Nat → α) (i : Nat) (y : α) : ((List.range n).map g).set i y = (List.range n).map fun p => if p = i then y else g p := by
  refine List.ext_getElem? fun j => ?_
  by_cases hj : j < n
  · rw [rng_get n _ hj]
    by_cases e : i = j
    · subst e
      rw [List.getElem?_set_self (by rw [List.length_map, List.length_range]; exact hj), if_pos rfl]
    · rw [List.getElem?_set_ne e, rng_get n g hj, if_neg (fun z => e z.symm)]
  · rw [List.getElem?_eq_none (by rw [List.length_set, List.length_map, List.length_range]; omega), List.getElem?_eq_none (by rw [List.length_map, List.length_range]; omega)]
def boolsV (n : Nat) (f : Nat → Bool) : List V := (List.range n).map fun p => V.bl (f p)
theorem bools_congr {n : Nat} {f g : Nat → Bool} (h : ∀ p, p < n → f p = g p) : boolsV n f = boolsV n g := List.map_congr_left fun p hp => by rw [h p (List.mem_range.mp hp)]
def spOdd (K : PySem.W.Frag) : Sp := fun vs H Q _ => ∃ (v u : V) (n : Nat) (ts : List Tie) (lot : List Nat), vs = [v, u] ∧ Dp K H v (webD n ts) ∧ Dp K H u (lotD lot) ∧ (∀ t ∈ ts, t.1 < t.2 ∧ t.2 < n) ∧ (∀ k ∈ lot, k < ts.length) ∧ n ≤ 1000 ∧
  ∀ (z : V) H', Same H H' → Dp K H' z (lotD (oddPl n ts lot)) → Q z H'
def spEven (K : PySem.W.Frag) : Sp := fun vs H Q _ => ∃ (v u : V) (n : Nat) (ts : List Tie) (lot : List Nat), vs = [v, u] ∧ Dp K H v (webD n ts) ∧ Dp K H u (lotD lot) ∧ (∀ t ∈ ts, t.1 < t.2 ∧ t.2 < n) ∧ (∀ k ∈ lot, k < ts.length) ∧ n ≤ 1000 ∧
  ∀ H', Same H H' → Q (.bl (evenB n ts lot)) H'
/-- a lot that is the cut of far is told so -/
def spFside (K : PySem.W.Frag) : Sp := fun vs H Q _ => ∃ (v u : V) (n : Nat) (ts : List Tie) (lot : List Nat), vs = [v, u] ∧ Dp K H v (webD n ts) ∧ Dp K H u (lotD lot) ∧ WebOk n ts ∧ (∀ k ∈ lot, k < ts.length) ∧ n ≤ 1000 ∧ ts.length ≤ 3000 ∧
  ∀ (z : V) (ws : Nat → List Nat) H', Same H H' → (∀ p, p < n → Way ts 0 (ws p) p) → Dp K H' z (lotD (farL n ws lot)) → Q z H'
open Classical in
noncomputable def cutB (ts : List Tie) (lot : List Nat) : Bool := decide (∃ S, IsCutOf ts lot S)
open Classical in
theorem cutB_iff {ts : List Tie} {lot : List Nat} : cutB ts lot = true ↔ ∃ S, IsCutOf ts lot S := by
  unfold cutB
  exact decide_eq_true_iff
def spIscut (K : PySem.W.Frag) : Sp := fun vs H Q _ => ∃ (v u : V) (n : Nat) (ts : List Tie) (lot : List Nat), vs = [v, u] ∧ Dp K H v (webD n ts) ∧ Dp K H u (lotD lot) ∧ WebOk n ts ∧ LotA ts.length lot ∧ n ≤ 1000 ∧ ts.length ≤ 3000 ∧
  ∀ H', Same H H' → Q (.bl (cutB ts lot)) H'
/-- the places without 0 whose cut the lot is -/
def FarOf (n : Nat) (ts : List Tie) (lot far : List Nat) : Prop := IsCutOf ts lot far ∧ far.Pairwise (· < ·) ∧ 0 ∉ far ∧ ∀ p ∈ far, p < n
section
variable {P : Program} {w : World} {K : PySem.W.Frag} {mg : Str → Option Value} {base : Heap}
theorem ok_odd {f : Addr} {fd : FuncData} (D : Df K mg "odd_places" sOdd pOdd f fd) (T : Bl mg) : FnOk P w K mg base CX0 1 f fd pOdd (spOdd K) := by
  refine D.fn.ok scOdd (fun vs H Q E h => ?_) (fun cdv A outer s H vs Q E hr h => ?_)
  · obtain ⟨v, u, n, ts, lot, rfl, _⟩ := h
    rfl
  · obtain ⟨v, u, n, ts, lot, rfl, hw, hu, hends, hlot, hn, k⟩ := h
    have nd := scOdd.nd
    obtain ⟨a, c, ys, rfl, ha, hc, hys⟩ := dp_web hw
    obtain ⟨al, rfl, hal⟩ := dp_lotN hu
    refine ⟨_, (pss_cons (ps_set (i := 2) nd rfl (by first | exact Or.inl rfl | exact Or.inr rfl) (pe_op op_rep (pe_lst (pa_cons pe_bl pa_nil)) (pe_ix (ixT K) (pv 0) pe_int (fun _ _ => rfl))))
      (pss_cons (ps_for PassesOwn.never rfl (piT K (pv 1)) (pg_name (i := 3) nd rfl (by first | exact Or.inl rfl | exact Or.inr rfl)) (pss_one (ps_for PassesOwn.never rfl (piT K (pe_ix (ixT K) (pe_ix (ixT K) (pv 0) pe_int (fun _ _ => rfl)) (pv 3) (fun _ _ => rfl))) (pg_name (i := 4) nd rfl (by first | exact Or.inl rfl | exact Or.inr rfl)) (pss_one (ps_asg (pe_not (pe_ix (ixL K) (pv 2) (pv 4) (fun _ _ => rfl))) (pg_sub (pv 2) (pv 4) set_list))))))
      (pss_one (ps_ret (pe_callTy (tupleK K) (by rfl) T.tuple (by decide +kernel) (pa_cons (pe_lc (own := [("place", 4)]) (g := (gName 4)) rfl nd (pi_range1 rfl T.range (pa_cons (pe_ix (ixT K) (pv 0) pe_int (fun _ _ => rfl)) pa_nil)) (blkOk_by (own := [("place", 4)]) (N := nOdd) (sc := defScope sOdd) (by decide +kernel)) (fun _ _ _ _ _ => (pg_name (i := 4) nd rfl (by first | exact Or.inl rfl | exact Or.inr rfl))) (fun _ _ _ _ _ => (pts_one (pt_val (pe_ix (ixL K) (pv 2) (pv 4) (fun _ _ => rfl))))) (fun _ _ _ _ _ => (pv 4))) pa_nil)))))), ?_⟩
    refine ⟨by decide, fun p0 hp0 => ?_⟩
    have s0 : Same H (upd H p0 (.lst [.bl false])) := same_new hp0
    refine ⟨_, rfl, a, _, _, _, rfl, rfl, sqT_same s0 ha, atI_nat (j := 0) rfl, ?_⟩
    refine ⟨p0, _, [.bl false], rfl, rfl, upd_same, by omega, by omega, ?_, fun m0 hm0 => ?_⟩
    · exact Nat.le_trans (show 1 * (n : Int).toNat ≤ 1000 by omega) (by decide)
    have s1 : Same (upd H p0 (.lst [.bl false])) (upd (upd H p0 (.lst [.bl false])) m0 (.lst (List.replicate (n : Int).toNat [V.bl false]).flatten)) := same_new hm0
    have hHm : H m0 = none := Same.free s0 hm0
    dsimp only [gName]
    refine at_st [some (.ref a), some (.ref al), some (.ref m0), none, none] rfl ?_
    refine tSeq_go ?_
    refine ⟨_, rfl, al, rfl, ⟨_, sqT_same (s0.trans s1) hal⟩, for_it (walk_tup (xs := natsV lot)) (fun j σ H' => ∃ (v3 v4 : Option V),
        σ = [some (.ref a), some (.ref al), some (.ref m0), v3, v4] ∧ Same H H' ∧ H' m0 = some (.lst (boolsV n fun p => decide (deg ts (lot.take j) p % 2 = 1)))) ?_ ?_ ?_ ?_⟩
    · refine ⟨none, none, rfl, s0.trans s1, ?_⟩
      rw [upd_same, reps, Int.toNat_natCast]
      rfl
    · rintro j σ H' _ ⟨v3, v4, rfl, h1, _⟩
      exact sqT_same h1 hal
    · rintro j x σ H' H'' hj ⟨v3, v4, rfl, h1, h3⟩ ⟨rfl, hx⟩
      obtain ⟨kk, hkk, rfl⟩ := get_map hx
      have hkm : kk < ts.length := hlot kk (List.mem_of_getElem? hkk)
      have ht : ts[kk]? = some ts[kk] := List.getElem?_eq_getElem hkm
      have hte := hends ts[kk] (List.getElem_mem hkm)
      obtain ⟨y, hy, hyd⟩ := dpAll_at hys (show (ts.map tieD)[kk]? = some (tieD ts[kk]) by rw [List.getElem?_map, ht]; rfl)
      obtain ⟨ay, rfl, hay⟩ := dp_tie hyd
      have htk : lot.take (j + 1) = lot.take j ++ [kk] := by
        rw [List.take_add_one, hkk]
        rfl
      refine ⟨_, rfl, a, _, _, _, rfl, rfl, sqT_same h1 ha, atI_nat (j := 1) rfl, ?_⟩
      refine ⟨_, rfl, c, _, _, _, rfl, rfl, sqT_same h1 hc, atI_nat hy, ?_⟩
      generalize ts[kk] = t at *
      refine ⟨ay, rfl, ⟨_, sqT_same h1 hay⟩, for_it (walk_tup (xs := [V.int t.1, V.int t.2])) (fun i σ H' => ∃ (v4 : Option V),
        σ = [some (.ref a), some (.ref al), some (.ref m0), some (.int kk), v4] ∧ Same H H' ∧ H' m0 = some (.lst (boolsV n fun p => Bool.xor (decide (deg ts (lot.take j) p % 2 = 1)) ((decide (1 ≤ i) && decide (t.1 = p)) || (decide (2 ≤ i) && decide (t.2 = p)))))) ?_ ?_ ?_ ?_⟩
      · refine ⟨v4, rfl, h1, ?_⟩
        rw [h3]
        congr 2
        exact bools_congr fun p _ => by simp
      · rintro i σ H' _ ⟨v4, rfl, h1, _⟩
        exact sqT_same h1 hay
      · rintro i x σ H2 H3 hi ⟨v4, rfl, h1, h3⟩ ⟨rfl, hx⟩
        obtain ⟨e, he, hen, hst⟩ : ∃ e : Nat, x = .int (e : Int) ∧ e < n ∧ ∀ p : Nat, (if p = e then !(Bool.xor (decide (deg ts (lot.take j) e % 2 = 1)) ((decide (1 ≤ i) && decide (t.1 = e)) || (decide (2 ≤ i) && decide (t.2 = e)))) else Bool.xor (decide (deg ts (lot.take j) p % 2 = 1)) ((decide (1 ≤ i) && decide (t.1 = p)) || (decide (2 ≤ i) && decide (t.2 = p)))) =
            Bool.xor (decide (deg ts (lot.take j) p % 2 = 1)) ((decide (1 ≤ i + 1) && decide (t.1 = p)) || (decide (2 ≤ i + 1) && decide (t.2 = p))) := by
          have hi2 : i < 2 := hi
          match i, hi2, hx with
          | 0, _, hx =>
            refine ⟨t.1, (Option.some.inj hx).symm, by omega, fun p => ?_⟩
            by_cases hp : p = t.1
            · subst hp
              simp
            · have : ¬ t.1 = p := fun z => hp z.symm
              simp [hp, this]
          | 1, _, hx =>
            refine ⟨t.2, (Option.some.inj hx).symm, by omega, fun p => ?_⟩
            by_cases hp : p = t.2
            · subst hp
              have : ¬ t.1 = t.2 := by omega
              simp [this]
            · have : ¬ t.2 = p := fun z => hp z.symm
              simp [hp, this]
        subst he
        refine ⟨_, rfl, _, rfl, m0, _, (e : Int), _, rfl, rfl, SqL.of h3, atI_nat (rng_get n _ hen), _, rfl, ?_⟩
        refine ⟨_, rfl, _, rfl, m0, _, (e : Int), e, rfl, rfl, h3, ix_nat (by unfold boolsV; rw [List.length_map, List.length_range]; exact hen), ?_⟩
        refine ⟨_, rfl, same_old hHm h1, ?_⟩
        rw [upd_same]
        unfold boolsV
        rw [rng_set]
        congr 2
        refine List.map_congr_left fun p _ => ?_
        dsimp only
        rw [← hst p]
        split <;> rfl
      · rintro σ H2 ⟨v4, rfl, h1, h3⟩
        refine ⟨_, _, rfl, h1, ?_⟩
        rw [h3]
        congr 2
        refine bools_congr fun p _ => ?_
        rw [htk, deg_snoc _ ht]
        by_cases hp : t.1 = p ∨ t.2 = p
        · rw [if_pos hp]
          have : ((decide (1 ≤ [V.int (t.1 : Int), V.int (t.2 : Int)].length) && decide (t.1 = p)) || (decide (2 ≤ [V.int (t.1 : Int), V.int (t.2 : Int)].length) && decide (t.2 = p))) = true := by
            rcases hp with e | e <;> simp [e]
          rw [this, Bool.xor_true, Bool.eq_iff_iff]
          simp only [Bool.not_eq_true', decide_eq_false_iff_not, decide_eq_true_eq]
          omega
        · rw [if_neg hp]
          have h4 : ¬ t.1 = p := fun z => hp (.inl z)
          have h5 : ¬ t.2 = p := fun z => hp (.inr z)
          simp [h4, h5]
    · rintro σ H2 ⟨v3, v4, rfl, h1, h3⟩
      unfold natsV at h3
      rw [List.length_map, List.take_of_length_le (Nat.le_refl _)] at h3
      refine ⟨_, rfl, a, _, _, _, rfl, rfl, sqT_same h1 ha, atI_nat (j := 0) rfl, _, rfl, by omega, by omega, fun E1 hE1 => ?_⟩
      refine lc_run (walk_range (lo := 0) (n := (n : Int).toNat)) hE1 (fun i acc _ => acc = natsV ((List.range i).filter fun p => decide (deg ts lot p % 2 = 1))) ?_ ?_ ?_ ?_
      · exact fun _ _ => trivial
      · rfl
      · rintro i x acc H4 H' hi hacc e s r ⟨rfl, rfl⟩
        dsimp only
        rw [Int.zero_add]
        have hin : i < n := by omega
        have r' : acc = natsV ((List.range i).filter fun p => decide (deg ts lot p % 2 = 1)) := r
        have hal : acc.length ≤ i := by
          rw [r']
          unfold natsV
          rw [List.length_map]
          exact Nat.le_trans (List.length_filter_le _ _) (by rw [List.length_range]; exact Nat.le_refl _)
        refine ⟨rfl, _, rfl, _, rfl, m0, _, (i : Int), _, rfl, rfl, SqL.of (s _ _ h3), atI_nat (rng_get n _ hin), _, rfl, ?_⟩
        refine ite2 (fun hh => ?_) (fun hh => ?_)
        · refine ⟨_, rfl, ?_⟩
          refine lc_add hacc e (Same.refl _) (by omega) ?_
          show _ = _
          rw [range_filter_succ, if_pos hh, r']
          unfold natsV
          rw [List.map_append]
          rfl
        · refine lc_skip hacc e (Same.refl _) ?_
          show _ = _
          rw [range_filter_succ, if_neg hh, List.append_nil]
          exact r'
      · rintro acc H4 h4 s2 r
        have r' : acc = natsV ((List.range (n : Int).toNat).filter fun p => decide (deg ts lot p % 2 = 1)) := r
        rw [Int.toNat_natCast] at r'
        refine ⟨E1, _, rfl, .inl ⟨SqL.of h4, fun u hu => ?_⟩⟩
        refine k _ _ (h1.trans (s2.trans (same_new hu))) (lot_dp (SqT.of ?_))
        rw [upd_same, r']
        rfl
theorem ok_even {f f1 : Addr} {fd fd1 : FuncData} (D : Df K mg "is_even" sEven pEven f fd) (T : Bl mg) (D_odd : Df K mg "odd_places" sOdd pOdd f1 fd1) : FnOk P w K mg base CX0 2 f fd pEven (spEven K) := by
  have G_odd : FnOk P w K mg base CX0 1 f1 fd1 pOdd (spOdd K) := ok_odd D_odd T
  refine D.fn.ok scEven (fun vs H Q E h => ?_) (fun cdv A outer s H vs Q E hr h => ?_)
  · obtain ⟨v, u, n, ts, lot, rfl, _⟩ := h
    rfl
  · obtain ⟨v, u, n, ts, lot, rfl, hw, hu, hends, hlot, hn, k⟩ := h
    have hr_odd : Room 1 _ := hr
    have nd := scEven.nd
    refine ⟨_, (pss_one (ps_ret (pe_cmpR (opEqD K hr.units) (pe_call G_odd hr_odd (by rfl) D_odd.ad D_odd.fn.kp D_odd.bd .nil pass0 (pa_cons (pv 0) (pa_cons (pv 1) pa_nil))) (pe_tup pa_nil) (nomark _)))), ?_⟩
    refine ⟨_, rfl, _, rfl, v, u, n, ts, lot, rfl, hw, hu, hends, hlot, hn, fun z H1 s1 hz => ?_⟩
    refine ⟨Nat.zero_le _, fun q hq => ?_⟩
    have s2 := same_new (o := .tup []) hq
    refine ⟨lotD (oddPl n ts lot), lotD [], dp_same s2 _ hz, lot_dp (ks := []) (SqT.of upd_same), shaped_lotN _, shaped_lotN [], ?_⟩
    rw [eqv_lots]
    exact k _ (s1.trans s2)
theorem ok_fside {f f1 f2 f3 f4 : Addr} {fd fd1 fd2 fd3 fd4 : FuncData} (D : Df K mg "_far_side" sFside pFside f fd) (T : Bl mg) (D_all : Df K mg "all_ties" sAll pAll f1 fd1) (D_far : Df K mg "far_end" sFar pFar f2 fd2)
    (D_ways : Df K mg "ways_from" sWays pWays f3 fd3) (D_codd : Df K mg "common_odd" sCodd pCodd f4 fd4) : FnOk P w K mg base CX0 3 f fd pFside (spFside K) := by
  have G_all : FnOk P w K mg base CX0 1 f1 fd1 pAll (spAll K) := ok_all D_all T
  have G_ways : FnOk P w K mg base CX0 2 f3 fd3 pWays (spWays K) := ok_ways D_ways T D_far
  have G_codd : FnOk P w K mg base CX0 1 f4 fd4 pCodd (spCodd K) := ok_codd D_codd T
  refine D.fn.ok scFside (fun vs H Q E h => ?_) (fun cdv A outer s H vs Q E hr h => ?_)
  · obtain ⟨v, u, n, ts, lot, rfl, _⟩ := h
    rfl
  · obtain ⟨v, u, n, ts, lot, rfl, hw, hul, hok, hlot, hn, hl, k⟩ := h
    have hr_ways : Room 2 _ := hr
    have hr_all : Room 1 _ := hr.mono (by decide)
    have hr_codd : Room 1 _ := hr.mono (by decide)
    have hu := hu_of hr
    have nd := scFside.nd
    refine ⟨_, (pss_cons (ps_set (i := 2) nd rfl (by first | exact Or.inl rfl | exact Or.inr rfl) (pe_call G_ways hr_ways (by rfl) D_ways.ad D_ways.fn.kp D_ways.bd .nil pass0 (pa_cons (pv 0) (pa_cons (pe_call G_all hr_all (by rfl) D_all.ad D_all.fn.kp D_all.bd .nil pass0 (pa_cons (pv 0) pa_nil)) (pa_cons pe_int pa_nil)))))
      (pss_one (ps_ret (pe_callTy (tupleK K) (by rfl) T.tuple (by decide +kernel) (pa_cons (pe_lc (own := [("place", 3)]) (g := (gName 3)) rfl nd (pi_range1 rfl T.range (pa_cons (pe_ix (ixT K) (pv 0) pe_int (fun _ _ => rfl)) pa_nil)) (blkOk_by (own := [("place", 3)]) (N := nFside) (sc := defScope sFside) (by decide +kernel)) (fun _ _ _ _ _ => (pg_name (i := 3) nd rfl (by first | exact Or.inl rfl | exact Or.inr rfl))) (fun _ _ _ _ _ => (pts_one (pt_val (pe_call G_codd hr_codd (by rfl) D_codd.ad D_codd.fn.kp D_codd.bd .nil pass0 (pa_cons (pe_dget hu (pv 2) (pv 3) (fun _ _ => rfl)) (pa_cons (pv 1) pa_nil)))))) (fun _ _ _ _ _ => (pv 3))) pa_nil))))), ?_⟩
    refine ⟨_, rfl, _, rfl, v, n, ts, rfl, hw, hl, fun ev H1 s1 hev => ?_⟩
    refine ⟨v, ev, n, ts, List.range ts.length, 0, rfl, dp_same s1 _ hw, hev, hok.ends, fun k hk => List.mem_range.mp hk, hok.pos, hn, by rw [List.length_range]; exact hl, fun d fnd H2 hd s2 hF hS => ?_⟩
    obtain ⟨⟨kvs, h1, h2, h3⟩, hnd, hlt, hst⟩ := hF
    have every : ∀ p, p < n → p ∈ fnd := all_found hok hst fun t ht z => by
      obtain ⟨kk, hkk⟩ := List.getElem?_of_mem ht
      exact (hS t.1 z kk (List.mem_range.mpr (List.getElem?_eq_some_iff.mp hkk).1) t hkk).1 rfl
    have hway : ∀ p, ∃ w, p < n → ∃ a, valV kvs (Sum.inl (p : Int)) = some (.ref a) ∧ SqT K H2 a (natsV w) ∧ Way ts 0 w p ∧ w.length + 1 ≤ fnd.length := fun p => by
      by_cases hp : p < n
      · obtain ⟨a, w, e1, e2, e3, _, e5, _⟩ := h3 p (every p hp)
        exact ⟨w, fun _ => ⟨a, e1, e2, e3, e5⟩⟩
      · exact ⟨[], fun z => absurd z hp⟩
    obtain ⟨ws, hws⟩ := Classical.axiomOfChoice hway
    have hfl : fnd.length ≤ n := nodup_small n fnd hnd hlt
    obtain ⟨a, c, ys, rfl, ha, hc, hys⟩ := dp_web hw
    have s12 := s1.trans s2
    have ha2 := sqT_same s12 ha
    have hul2 := dp_same s12 _ hul
    dsimp only [gName]
    refine at_st [some (.ref a), some u, some (.ref d), none] rfl ?_
    refine ⟨_, rfl, a, _, _, _, rfl, rfl, ha2, atI_nat (j := 0) rfl, _, rfl, by omega, by omega, fun E1 hE1 => ?_⟩
    refine lc_run (walk_range (lo := 0) (n := (n : Int).toNat)) hE1 (fun i acc _ => acc = natsV ((List.range i).filter fun p => oddIn (ws p) lot)) ?_ ?_ ?_ ?_
    · exact fun _ _ => trivial
    · rfl
    · rintro i x acc H4 H' hi hacc e s r ⟨rfl, rfl⟩
      dsimp only
      rw [Int.zero_add]
      have hin : i < n := by omega
      obtain ⟨aw, f1, f2, f3, f4⟩ := hws i hin
      have r' : acc = natsV ((List.range i).filter fun p => oddIn (ws p) lot) := r
      have hal : acc.length ≤ i := by
        rw [r']
        unfold natsV
        rw [List.length_map]
        exact Nat.le_trans (List.length_filter_le _ _) (by rw [List.length_range]; exact Nat.le_refl _)
      refine ⟨rfl, _, rfl, _, rfl, d, _, rfl, by rw [← f1]; exact DGet.k (k := Sum.inl (i : Int)) (s _ _ h1), _, rfl, .ref aw, u, ws i, lot, rfl, lot_dp (sqT_same s f2), dp_same s _ hul2, by omega, fun H5 s5 => ⟨_, rfl, ?_⟩⟩
      refine ite2 (fun hh => ?_) (fun hh => ?_)
      · refine ⟨_, rfl, ?_⟩
        refine lc_add hacc e s5 (by omega) ?_
        show _ = _
        rw [range_filter_succ, if_pos hh, r']
        unfold natsV
        rw [List.map_append]
        rfl
      · refine lc_skip hacc e s5 ?_
        show _ = _
        rw [range_filter_succ, if_neg hh, List.append_nil]
        exact r'
    · rintro acc H4 h4 s4 r
      have r' : acc = natsV ((List.range (n : Int).toNat).filter fun p => oddIn (ws p) lot) := r
      rw [Int.toNat_natCast] at r'
      refine ⟨E1, _, rfl, .inl ⟨SqL.of h4, fun u2 hu2 => ?_⟩⟩
      refine k _ ws _ (s12.trans (s4.trans (same_new hu2))) (fun p hp => (hws p hp).choose_spec.2.2.1) (lot_dp (SqT.of ?_))
      rw [upd_same, r']
      rfl
theorem ok_iscut {f f0 f1 f2 f3 f4 f5 : Addr} {fd fd0 fd1 fd2 fd3 fd4 fd5 : FuncData} (D : Df K mg "is_cut" sIscut pIscut f fd) (T : Bl mg) (D_cut : Df K mg "cut_of" sCut pCut f0 fd0) (D_all : Df K mg "all_ties" sAll pAll f1 fd1) (D_far : Df K mg "far_end" sFar pFar f2 fd2)
    (D_ways : Df K mg "ways_from" sWays pWays f3 fd3) (D_codd : Df K mg "common_odd" sCodd pCodd f4 fd4) (D_fside : Df K mg "_far_side" sFside pFside f5 fd5) : FnOk P w K mg base CX0 4 f fd pIscut (spIscut K) := by
  have G_cut : FnOk P w K mg base CX0 1 f0 fd0 pCut (spCut K) := ok_cut D_cut T
  have G_fside : FnOk P w K mg base CX0 3 f5 fd5 pFside (spFside K) := ok_fside D_fside T D_all D_far D_ways D_codd
  refine D.fn.ok scIscut (fun vs H Q E h => ?_) (fun cdv A outer s H vs Q E hr h => ?_)
  · obtain ⟨v, u, n, ts, lot, rfl, _⟩ := h
    rfl
  · obtain ⟨v, u, n, ts, lot, rfl, hw, hu, hok, hlot, hn, hl, k⟩ := h
    have hr_fside : Room 3 _ := hr
    have hr_cut : Room 1 _ := hr.mono (by decide)
    have nd := scIscut.nd
    refine ⟨_, (pss_one (ps_ret (pe_cmpR (opEqD K hr.units) (pe_call G_cut hr_cut (by rfl) D_cut.ad D_cut.fn.kp D_cut.bd .nil pass0 (pa_cons (pv 0) (pa_cons (pe_call G_fside hr_fside (by rfl) D_fside.ad D_fside.fn.kp D_fside.bd .nil pass0 (pa_cons (pv 0) (pa_cons (pv 1) pa_nil))) pa_nil))) (pv 1) (nomark _)))), ?_⟩
    refine ⟨_, rfl, _, rfl, _, rfl, v, u, n, ts, lot, rfl, hw, hu, hok, hlot.2, hn, hl, fun z ws H1 s1 hws hz => ?_⟩
    refine ⟨v, z, n, ts, farL n ws lot, rfl, dp_same s1 _ hw, hz, hl, fun c H2 s2 hc => ?_⟩
    refine ⟨_, rfl, lotD (cutL ts (farL n ws lot)), lotD lot, hc, dp_same (s1.trans s2) _ hu, shaped_lotN _, shaped_lotN _, ?_⟩
    rw [eqv_lots]
    have e : decide (cutL ts (farL n ws lot) = lot) = cutB ts lot := by
      rw [Bool.eq_iff_iff, decide_eq_true_eq, cutB_iff]
      exact far_iff hok.ends hlot hws
    rw [e]
    exact k _ (s1.trans s2)
end
end BV

namespace BV
open PySem L2
abbrev sCounts : Stmt := top 23
abbrev nCounts : List Str := ["_law_web_here", "_law_lot_here", "_law_found", "_law_tie", "_law_one", "_law_other"]
abbrev pCounts : List Str := ["_law_web_here", "_law_lot_here"]
theorem scCounts : FnScope nCounts pCounts (defScope sCounts) := ⟨rfl, rfl, rfl, by decide +kernel, rfl, by decide +kernel, by decide +kernel⟩
abbrev sLeven : Stmt := top 24
abbrev nLeven : List Str := ["_law_web_here", "_law_lot_here", "_law_many"]
abbrev pLeven : List Str := ["_law_web_here", "_law_lot_here"]
theorem scLeven : FnScope nLeven pLeven (defScope sLeven) := ⟨rfl, rfl, rfl, by decide +kernel, rfl, by decide +kernel, by decide +kernel⟩
abbrev sLsum : Stmt := top 25
abbrev nLsum : List Str := ["_law_one", "_law_other", "_law_tie"]
abbrev pLsum : List Str := ["_law_one", "_law_other"]
theorem scLsum : FnScope nLsum pLsum (defScope sLsum) := ⟨rfl, rfl, rfl, by decide +kernel, rfl, by decide +kernel, by decide +kernel⟩
def degV (n : Nat) (ts : List Tie) (lot : List Nat) : List V := (List.range n).map fun p => V.int (deg ts lot p : Nat)
def spCounts (K : PySem.W.Frag) : Sp := fun vs H Q _ => ∃ (v u : V) (n : Nat) (ts : List Tie) (lot : List Nat), vs = [v, u] ∧ Dp K H v (webD n ts) ∧ Dp K H u (lotD lot) ∧ (∀ t ∈ ts, t.1 < t.2 ∧ t.2 < n) ∧ (∀ k ∈ lot, k < ts.length) ∧ n ≤ 1000 ∧
  ∀ (l : Addr) H', Same H H' → H' l = some (.lst (degV n ts lot)) → Q (.ref l) H'
theorem even_iff {n : Nat} {ts : List Tie} {lot : List Nat} : evenB n ts lot = true ↔ ∀ p, p < n → ¬ deg ts lot p % 2 = 1 := by
  unfold evenB oddPl
  rw [decide_eq_true_eq, List.filter_eq_nil_iff]
  constructor
  · intro h p hp e
    exact h p (List.mem_range.mpr hp) (decide_eq_true e)
  · intro h p hp e
    exact h p (List.mem_range.mp hp) (of_decide_eq_true e)
theorem eqv_rep (m : Nat) : (PyData.list ((List.replicate m (1 : Int)).map PyData.int)).eqv (.list []) = decide (m = 0) := by
  cases m with
  | zero => rfl
  | succ m => rfl
theorem sorted_nats {ys : List Int} {l : List Nat} (hperm : ys.Perm (l.map fun (k : Nat) => (k : Int))) (hsort : ys.Pairwise (· ≤ ·)) (hn : l.Nodup) : ∃ ns : List Nat, ys = ns.map (fun (k : Nat) => (k : Int)) ∧ ns.Perm l ∧ ns.Pairwise (· < ·) := by
  obtain ⟨ns, rfl⟩ : ∃ ns : List Nat, ys = ns.map fun (k : Nat) => (k : Int) := ⟨ys.map Int.toNat, by
    rw [List.map_map]
    refine (List.map_id ys).symm.trans (List.map_congr_left fun y hy => ?_)
    obtain ⟨j, _, rfl⟩ := List.mem_map.mp (hperm.mem_iff.mp hy)
    show ((j : Int)) = (((j : Int)).toNat : Int)
    omega⟩
  have hnp : ns.Perm l := by
    have h := hperm.map Int.toNat
    rw [List.map_map, List.map_map] at h
    have e : ∀ l : List Nat, l.map (Int.toNat ∘ fun (k : Nat) => (k : Int)) = l := fun l => by
      refine (List.map_congr_left fun x _ => ?_).trans (List.map_id l)
      show ((x : Int)).toNat = x
      omega
    rw [e, e] at h
    exact h
  refine ⟨ns, rfl, hnp, ?_⟩
  have h6 : ns.Pairwise (· ≤ ·) := (List.pairwise_map.mp hsort).imp fun {x y} z => by omega
  refine (h6.and (hnp.nodup_iff.mpr hn)).imp fun {x y} z => ?_
  obtain ⟨z1, z2⟩ := z
  omega
theorem asc_nodup {l : List Nat} (h : l.Pairwise (· < ·)) : l.Nodup := h.imp fun z => Nat.ne_of_lt z
def spLsum (K : PySem.W.Frag) : Sp := fun vs H Q _ => ∃ (v u : V) (L : Nat) (one two : List Nat), vs = [v, u] ∧ Dp K H v (lotD one) ∧ Dp K H u (lotD two) ∧ LotA L one ∧ LotA L two ∧ L ≤ 60 ∧
  ∀ (z : V) (r : List Nat) H', Same H H' → LotA L r → Dp K H' z (lotD r) → (∀ x, x ∈ r ↔ (x ∈ one ∧ x ∉ two) ∨ (x ∈ two ∧ x ∉ one)) → Q z H'
section
variable {P : Program} {w : World} {K : PySem.W.Frag} {mg : Str → Option Value} {base : Heap}
theorem ok_counts {f : Addr} {fd : FuncData} (D : Df K mg "_law_counts" sCounts pCounts f fd) (T : Bl mg) : FnOk P w K mg base CX0 1 f fd pCounts (spCounts K) := by
  refine D.fn.ok scCounts (fun vs H Q E h => ?_) (fun cdv A outer s H vs Q E hr h => ?_)
  · obtain ⟨v, u, n, ts, lot, rfl, _⟩ := h
    rfl
  · obtain ⟨v, u, n, ts, lot, rfl, hw, hu, hends, hlot, hn, k⟩ := h
    have nd := scCounts.nd
    obtain ⟨a, c, ys, rfl, ha, hc, hys⟩ := dp_web hw
    obtain ⟨al, rfl, hal⟩ := dp_lotN hu
    refine ⟨_, (pss_cons (ps_set (i := 2) nd rfl (by first | exact Or.inl rfl | exact Or.inr rfl) (pe_op op_rep (pe_lst (pa_cons pe_int pa_nil)) (pe_ix (ixT K) (pv 0) pe_int (fun _ _ => rfl))))
      (pss_cons (ps_for PassesOwn.never rfl (piT K (pv 1)) (pg_name (i := 3) nd rfl (by first | exact Or.inl rfl | exact Or.inr rfl)) (pss_cons (ps_asg (pe_ix (ixT K) (pe_ix (ixT K) (pv 0) pe_int (fun _ _ => rfl)) (pv 3) (fun _ _ => rfl)) (pgT K rfl (pgs_cons (pg_name (i := 4) nd rfl (by first | exact Or.inl rfl | exact Or.inr rfl)) (pgs_cons (pg_name (i := 5) nd rfl (by first | exact Or.inl rfl | exact Or.inr rfl)) pgs_nil))))
      (pss_cons (ps_asg (pe_op op_add (pe_ix (ixL K) (pv 2) (pv 4) (fun _ _ => rfl)) pe_int) (pg_sub (pv 2) (pv 4) set_list))
      (pss_one (ps_asg (pe_op op_add (pe_ix (ixL K) (pv 2) (pv 5) (fun _ _ => rfl)) pe_int) (pg_sub (pv 2) (pv 5) set_list))))))
      (pss_one (ps_ret (pv 2))))), ?_⟩
    refine ⟨by decide, fun p0 hp0 => ?_⟩
    have s0 : Same H (upd H p0 (.lst [.int 0])) := same_new hp0
    refine ⟨_, rfl, a, _, _, _, rfl, rfl, sqT_same s0 ha, atI_nat (j := 0) rfl, ?_⟩
    refine ⟨p0, _, [.int 0], rfl, rfl, upd_same, by omega, by omega, ?_, fun m0 hm0 => ?_⟩
    · exact Nat.le_trans (show 1 * (n : Int).toNat ≤ 1000 by omega) (by decide)
    have s1 : Same (upd H p0 (.lst [.int 0])) (upd (upd H p0 (.lst [.int 0])) m0 (.lst (List.replicate (n : Int).toNat [V.int 0]).flatten)) := same_new hm0
    have hHm : H m0 = none := Same.free s0 hm0
    refine ⟨_, rfl, al, rfl, ⟨_, sqT_same (s0.trans s1) hal⟩, for_it (walk_tup (xs := natsV lot)) (fun j σ H' => ∃ (v3 v4 v5 : Option V),
        σ = [some (.ref a), some (.ref al), some (.ref m0), v3, v4, v5] ∧ Same H H' ∧ H' m0 = some (.lst (degV n ts (lot.take j)))) ?_ ?_ ?_ ?_⟩
    · refine ⟨none, none, none, rfl, s0.trans s1, ?_⟩
      rw [upd_same, reps, Int.toNat_natCast]
      rfl
    · rintro j σ H' _ ⟨v3, v4, v5, rfl, h1, _⟩
      exact sqT_same h1 hal
    · rintro j x σ H' H'' hj ⟨v3, v4, v5, rfl, h1, h3⟩ ⟨rfl, hx⟩
      obtain ⟨kk, hkk, rfl⟩ := get_map hx
      have hkm : kk < ts.length := hlot kk (List.mem_of_getElem? hkk)
      have ht : ts[kk]? = some ts[kk] := List.getElem?_eq_getElem hkm
      have hte := hends ts[kk] (List.getElem_mem hkm)
      obtain ⟨y, hy, hyd⟩ := dpAll_at hys (show (ts.map tieD)[kk]? = some (tieD ts[kk]) by rw [List.getElem?_map, ht]; rfl)
      obtain ⟨ay, rfl, hay⟩ := dp_tie hyd
      have htk : lot.take (j + 1) = lot.take j ++ [kk] := by
        rw [List.take_add_one, hkk]
        rfl
      refine ⟨_, rfl, a, _, _, _, rfl, rfl, sqT_same h1 ha, atI_nat (j := 1) rfl, ?_⟩
      refine ⟨_, rfl, c, _, _, _, rfl, rfl, sqT_same h1 hc, atI_nat hy, ?_⟩
      refine ⟨ay, _, rfl, sqT_same h1 hay, rfl, _, _, rfl, _, _, rfl, rfl, ?_⟩
      generalize ts[kk] = t at *
      have h3' : H'' m0 = some (.lst ((List.range n).map fun p => V.int (deg ts (lot.take j) p : Nat))) := h3
      refine ⟨_, rfl, _, rfl, m0, _, (t.1 : Int), _, rfl, rfl, SqL.of h3', atI_nat (rng_get n _ (show t.1 < n by omega)), ?_⟩
      refine ⟨_, _, rfl, rfl, ?_⟩
      refine ⟨_, rfl, _, rfl, m0, _, (t.1 : Int), t.1, rfl, rfl, h3', ix_nat (by rw [List.length_map, List.length_range]; omega), ?_⟩
      rw [rng_set]
      refine ⟨_, rfl, _, rfl, m0, _, (t.2 : Int), _, rfl, rfl, SqL.of upd_same, atI_nat (rng_get n _ hte.2), ?_⟩
      rw [if_neg (show ¬ t.2 = t.1 by omega)]
      refine ⟨_, _, rfl, rfl, ?_⟩
      refine ⟨_, rfl, _, rfl, m0, _, (t.2 : Int), t.2, rfl, rfl, upd_same, ix_nat (by rw [List.length_map, List.length_range]; omega), ?_⟩
      rw [rng_set]
      refine ⟨_, _, _, rfl, same_old hHm (same_old hHm h1), ?_⟩
      rw [upd_same]
      unfold degV
      congr 2
      refine List.map_congr_left fun p _ => ?_
      rw [htk, deg_snoc _ ht]
      by_cases e2 : p = t.2
      · subst e2
        rw [if_pos rfl, if_pos (.inr rfl)]
        rfl
      · rw [if_neg e2]
        by_cases e1 : p = t.1
        · subst e1
          rw [if_pos rfl, if_pos (.inl rfl)]
          rfl
        · rw [if_neg e1, if_neg (fun z => z.elim (fun q => e1 q.symm) (fun q => e2 q.symm))]
          rfl
    · rintro σ H' ⟨v3, v4, v5, rfl, h1, h3⟩
      unfold natsV at h3
      rw [List.length_map, List.take_of_length_le (Nat.le_refl _)] at h3
      exact ⟨_, rfl, k _ _ h1 h3⟩
theorem ok_leven {f f1 : Addr} {fd fd1 : FuncData} (D : Df K mg "_law_is_even" sLeven pLeven f fd) (T : Bl mg) (D_counts : Df K mg "_law_counts" sCounts pCounts f1 fd1) : FnOk P w K mg base CX0 2 f fd pLeven (spEven K) := by
  have G_counts : FnOk P w K mg base CX0 1 f1 fd1 pCounts (spCounts K) := ok_counts D_counts T
  refine D.fn.ok scLeven (fun vs H Q E h => ?_) (fun cdv A outer s H vs Q E hr h => ?_)
  · obtain ⟨v, u, n, ts, lot, rfl, _⟩ := h
    rfl
  · obtain ⟨v, u, n, ts, lot, rfl, hw, hu, hends, hlot, hn, k⟩ := h
    have hr_counts : Room 1 _ := hr
    have nd := scLeven.nd
    refine ⟨_, (pss_one (ps_ret (pe_cmpR (opEqD K hr.units) (pe_lc (own := [("_law_many", 2)]) (g := (gName 2)) rfl nd (piL K (pe_call G_counts hr_counts (by rfl) D_counts.ad D_counts.fn.kp D_counts.bd .nil pass0 (pa_cons (pv 0) (pa_cons (pv 1) pa_nil)))) (blkOk_by (own := [("_law_many", 2)]) (N := nLeven) (sc := defScope sLeven) (by decide +kernel)) (fun _ _ _ _ _ => (pg_name (i := 2) nd rfl (by first | exact Or.inl rfl | exact Or.inr rfl))) (fun _ _ _ _ _ => (pts_one (pt_cmpR op_eq (pe_op op_mod (pe_callTy call_int1 (by rfl) T.int (by decide +kernel) (pa_cons (pv 2) pa_nil)) pe_int) pe_int (nomark _)))) (fun _ _ _ _ _ => pe_int)) (pe_lst pa_nil) (nomark _)))), ?_⟩
    refine ⟨_, rfl, _, rfl, v, u, n, ts, lot, rfl, hw, hu, hends, hlot, hn, fun l H1 s1 hl => ?_⟩
    refine ⟨l, rfl, ⟨_, SqL.of hl⟩, fun E1 hE1 => ?_⟩
    refine lc_run (walk_list (xs := degV n ts lot)) hE1 (fun i acc _ => ∃ m : Nat, acc = (List.replicate m (1 : Int)).map V.int ∧ m ≤ i ∧ (m = 0 ↔ ∀ p, p < i → ¬ deg ts lot p % 2 = 1)) ?_ ?_ ?_ ?_
    · exact fun H' s => SqL.of (s _ _ hl)
    · exact ⟨0, rfl, Nat.le_refl _, by simp⟩
    · rintro i x acc H2 H' hi hacc e s ⟨m, rfl, hm, hm2⟩ ⟨rfl, hx⟩
      unfold degV at hi
      rw [List.length_map, List.length_range] at hi
      have hx' : some (V.int (deg ts lot i : Nat)) = some x := by
        rw [← hx]
        exact (rng_get n (fun p => V.int (deg ts lot p : Nat)) hi).symm
      cases hx'
      refine ⟨rfl, _, rfl, .inl ⟨_, rfl, _, _, rfl, rfl, (by show (0 : Int) < 2; decide), rfl, _, rfl, ?_⟩⟩
      have key : ((deg ts lot i : Nat) : Int) % 2 = 1 ↔ deg ts lot i % 2 = 1 := by omega
      refine ite2 (fun hh => ?_) (fun hh => ?_)
      · have h1 : deg ts lot i % 2 = 1 := key.mp (V.int.inj (of_decide_eq_true hh))
        refine lc_add hacc e (Same.refl _) (by rw [List.length_map, List.length_replicate]; omega) ⟨m + 1, ?_, by omega, ?_⟩
        · rw [List.replicate_succ', List.map_append]
          rfl
        · constructor
          · intro z
            omega
          · intro z
            exact absurd h1 (z i (by omega))
      · have h1 : ¬ deg ts lot i % 2 = 1 := fun z => hh (decide_eq_true (congrArg V.int (key.mpr z)))
        refine lc_skip hacc e (Same.refl _) ⟨m, rfl, by omega, ?_⟩
        rw [hm2]
        constructor
        · intro z p hp
          by_cases e : p = i
          · rw [e]
            exact h1
          · exact z p (by omega)
        · intro z p hp
          exact z p (by omega)
    · rintro acc H2 h1 s2 ⟨m, rfl, hm, hm2⟩
      unfold degV at hm2
      rw [List.length_map, List.length_range, ← even_iff] at hm2
      refine ⟨Nat.zero_le _, fun p hp => ?_⟩
      have sp : Same H2 (upd H2 p (.lst [])) := same_new hp
      refine ⟨.list ((List.replicate m (1 : Int)).map PyData.int), .list [], .lst (SqL.of (sp _ _ h1)) (dpAll_ints _), .lst (SqL.of upd_same) .nil, shaped_intsL _, shaped_intsL [], ?_⟩
      rw [eqv_rep]
      have e : decide (m = 0) = evenB n ts lot := by
        rw [Bool.eq_iff_iff, decide_eq_true_eq, hm2]
      rw [e]
      exact k _ (s1.trans (s2.trans sp))
theorem ok_lsum {f : Addr} {fd : FuncData} (D : Df K mg "_law_sum" sLsum pLsum f fd) (T : Bl mg) (hsorted : mg "sorted" = none) : FnOk P w K mg base CX0 1 f fd pLsum (spLsum K) := by
  refine D.fn.ok scLsum (fun vs H Q E h => ?_) (fun cdv A outer s H vs Q E hr h => ?_)
  · obtain ⟨v, u, L, one, two, rfl, _⟩ := h
    rfl
  · obtain ⟨v, u, L, one, two, rfl, hv, hu, h1, h2, hL, k⟩ := h
    have nd := scLsum.nd
    have hnd : (one.filter (fun k => !decide (k ∈ two)) ++ two.filter fun k => !decide (k ∈ one)).Nodup := by
      rw [List.nodup_append]
      refine ⟨(asc_nodup h1.1).filter _, (asc_nodup h2.1).filter _, fun x hx y hy e => ?_⟩
      subst e
      have z1 := (List.mem_filter.mp hx).1
      have z2 := (List.mem_filter.mp hy).2
      simp [z1] at z2
    have hlen : (one.filter (fun k => !decide (k ∈ two)) ++ two.filter fun k => !decide (k ∈ one)).length ≤ 60 := Nat.le_trans (nodup_small L _ hnd fun x hx => by
      rcases List.mem_append.mp hx with z | z
      · exact h1.2 x (List.mem_filter.mp z).1
      · exact h2.2 x (List.mem_filter.mp z).1) hL
    have o1 : one.length ≤ 60 := Nat.le_trans (nodup_small L _ (asc_nodup h1.1) h1.2) hL
    have o2 : two.length ≤ 60 := Nat.le_trans (nodup_small L _ (asc_nodup h2.1) h2.2) hL
    obtain ⟨a, rfl, ha⟩ := dp_lotN hv
    obtain ⟨b, rfl, hb⟩ := dp_lotN hu
    refine ⟨_, (pss_one (ps_ret (pe_callTy (tupleK K) (by rfl) T.tuple (by decide +kernel) (pa_cons (pe_callB cr_sorted (by rfl) hsorted (by decide +kernel) (pa_cons (pe_op op_cat (pe_lc (own := [("_law_tie", 2)]) (g := (gName 2)) rfl nd (piT K (pv 0)) (blkOk_by (own := [("_law_tie", 2)]) (N := nLsum) (sc := defScope sLsum) (by decide +kernel)) (fun _ _ _ _ _ => (pg_name (i := 2) nd rfl (by first | exact Or.inl rfl | exact Or.inr rfl))) (fun _ _ _ _ _ => (pts_one (pt_cmpR (opNotIn K) (pv 2) (pv 1) rfl))) (fun _ _ _ _ _ => (pv 2))) (pe_lc (own := [("_law_tie", 2)]) (g := (gName 2)) rfl nd (piT K (pv 1)) (blkOk_by (own := [("_law_tie", 2)]) (N := nLsum) (sc := defScope sLsum) (by decide +kernel)) (fun _ _ _ _ _ => (pg_name (i := 2) nd rfl (by first | exact Or.inl rfl | exact Or.inr rfl))) (fun _ _ _ _ _ => (pts_one (pt_cmpR (opNotIn K) (pv 2) (pv 0) rfl))) (fun _ _ _ _ _ => (pv 2)))) pa_nil)) pa_nil)))), ?_⟩
    refine ⟨_, rfl, a, rfl, ⟨_, ha⟩, fun E1 hE1 => ?_⟩
    refine lc_run (walk_tup (xs := natsV one)) hE1 (fun i acc _ => acc = natsV ((one.take i).filter fun k => !decide (k ∈ two))) ?_ ?_ ?_ ?_
    · exact fun H' s => sqT_same s ha
    · rfl
    · rintro i x acc H2 H' hi hacc e s r ⟨rfl, hx⟩
      obtain ⟨z, hz, rfl⟩ := get_map hx
      have htk : one.take (i + 1) = one.take i ++ [z] := by
        rw [List.take_add_one, hz]
        rfl
      have r' : acc = natsV ((one.take i).filter fun k => !decide (k ∈ two)) := r
      have hal : acc.length ≤ 60 := by
        rw [r']
        unfold natsV
        rw [List.length_map]
        exact Nat.le_trans (List.length_filter_le _ _) (by rw [List.length_take]; omega)
      refine ⟨rfl, _, rfl, _, rfl, b, _, rfl, .inr (sqT_same s hb), rfl, flat_nats two, _, rfl, ?_⟩
      have key : (!inV (V.int (z : Int)) (two.map fun (k : Nat) => V.int k)) = !decide (z ∈ two) := by rw [inv_nats]
      refine ite2 (fun hh => ?_) (fun hh => ?_)
      · refine ⟨_, rfl, ?_⟩
        refine lc_add hacc e (Same.refl _) (by omega) ?_
        show _ = _
        rw [htk, List.filter_append, List.filter_cons, if_pos (by rw [← key]; exact hh), r']
        unfold natsV
        rw [List.map_append]
        rfl
      · refine lc_skip hacc e (Same.refl _) ?_
        show _ = _
        rw [htk, List.filter_append, List.filter_cons, if_neg (by rw [← key]; exact hh), r']
        simp
    · rintro acc1 H2 g1 s2 r
      have r1 : acc1 = natsV ((one.take (natsV one).length).filter fun k => !decide (k ∈ two)) := r
      unfold natsV at r1
      rw [List.length_map, List.take_of_length_le (Nat.le_refl _)] at r1
      refine ⟨_, rfl, b, rfl, ⟨_, sqT_same s2 hb⟩, fun E2 hE2 => ?_⟩
      refine lc_run (walk_tup (xs := natsV two)) hE2 (fun i acc _ => acc = natsV ((two.take i).filter fun k => !decide (k ∈ one))) ?_ ?_ ?_ ?_
      · exact fun H' s => sqT_same (s2.trans s) hb
      · rfl
      · rintro i x acc H3 H' hi hacc e s r ⟨rfl, hx⟩
        obtain ⟨z, hz, rfl⟩ := get_map hx
        have htk : two.take (i + 1) = two.take i ++ [z] := by
          rw [List.take_add_one, hz]
          rfl
        have r' : acc = natsV ((two.take i).filter fun k => !decide (k ∈ one)) := r
        have hal : acc.length ≤ 60 := by
          rw [r']
          unfold natsV
          rw [List.length_map]
          exact Nat.le_trans (List.length_filter_le _ _) (by rw [List.length_take]; omega)
        refine ⟨rfl, _, rfl, _, rfl, a, _, rfl, .inr (sqT_same (s2.trans s) ha), rfl, flat_nats one, _, rfl, ?_⟩
        have key : (!inV (V.int (z : Int)) (one.map fun (k : Nat) => V.int k)) = !decide (z ∈ one) := by rw [inv_nats]
        refine ite2 (fun hh => ?_) (fun hh => ?_)
        · refine ⟨_, rfl, ?_⟩
          refine lc_add hacc e (Same.refl _) (by omega) ?_
          show _ = _
          rw [htk, List.filter_append, List.filter_cons, if_pos (by rw [← key]; exact hh), r']
          unfold natsV
          rw [List.map_append]
          rfl
        · refine lc_skip hacc e (Same.refl _) ?_
          show _ = _
          rw [htk, List.filter_append, List.filter_cons, if_neg (by rw [← key]; exact hh), r']
          simp
      · rintro acc2 H3 g2 s3 r
        have r2 : acc2 = natsV ((two.take (natsV two).length).filter fun k => !decide (k ∈ one)) := r
        unfold natsV at r2
        rw [List.length_map, List.take_of_length_le (Nat.le_refl _)] at r2
        have hl3 : acc1.length + acc2.length ≤ 60 := by
          rw [List.length_append] at hlen
          rw [r1, r2, List.length_map, List.length_map]
          exact hlen
        refine ⟨E1, E2, _, _, rfl, rfl, s3 _ _ g1, g2, Nat.le_trans (show _ ≤ 60 by omega) (by decide), fun p hp => ?_⟩
        have s4 := same_new (o := .lst (acc1 ++ acc2)) hp
        have el : acc1 ++ acc2 = ((one.filter (fun k => !decide (k ∈ two)) ++ two.filter fun k => !decide (k ∈ one)).map fun (k : Nat) => (k : Int)).map V.int := by
          rw [r1, r2, ← List.map_append, List.map_map]
          rfl
        refine ⟨p, _, rfl, SqL.of (by rw [upd_same, el]), by rw [List.length_map]; omega, fun ys q hperm hsort hq => ?_⟩
        obtain ⟨ns, rfl, hnp, hasc⟩ := sorted_nats hperm hsort hnd
        have s5 := same_new (o := .lst ((ns.map fun (k : Nat) => (k : Int)).map V.int)) hq
        refine ⟨q, _, rfl, .inl ⟨SqL.of upd_same, fun u2 hu2 => ?_⟩⟩
        refine k _ ns _ (s2.trans (s3.trans (s4.trans (s5.trans (same_new hu2))))) ⟨hasc, fun x hx => ?_⟩ (lot_dp (SqT.of ?_)) (fun x => by rw [hnp.mem_iff, List.mem_append, List.mem_filter, List.mem_filter]; simp)
        · rcases List.mem_append.mp (hnp.mem_iff.mp hx) with z | z
          · exact h1.2 x (List.mem_filter.mp z).1
          · exact h2.2 x (List.mem_filter.mp z).1
        · rw [upd_same, List.map_map]
          rfl
end
end BV

namespace BV
open PySem L2
abbrev sSum : Stmt := top 6
abbrev nSum : List Str := ["lots", "odd", "lot", "tie"]
abbrev pSum : List Str := ["lots"]
theorem scSum : FnScope nSum pSum (defScope sSum) := ⟨rfl, rfl, rfl, by decide +kernel, rfl, by decide +kernel, by decide +kernel⟩
abbrev sLot : Stmt := top 26
abbrev nLot : List Str := ["_law_web_here", "_law_number", "_law_found", "_law_left", "_law_tie"]
abbrev pLot : List Str := ["_law_web_here", "_law_number"]
theorem scLot : FnScope nLot pLot (defScope sLot) := ⟨rfl, rfl, rfl, by decide +kernel, rfl, by decide +kernel, by decide +kernel⟩
abbrev sTwos : Stmt := top 30
abbrev nTwos : List Str := ["_law_many", "_law_found", "_law_turn"]
abbrev pTwos : List Str := ["_law_many"]
theorem scTwos : FnScope nTwos pTwos (defScope sTwos) := ⟨rfl, rfl, rfl, by decide +kernel, rfl, by decide +kernel, by decide +kernel⟩
theorem nodup_bound : ∀ (L : Nat) (l : List Nat), l.Nodup → (∀ x ∈ l, x < L) → l.length ≤ L
  | 0, l, _, h => by
    cases l with
    | nil => exact Nat.le_refl _
    | cons a r => exact absurd (h a (List.mem_cons_self ..)) (Nat.not_lt_zero _)
  | L + 1, l, hn, h => by
    have h1 := nodup_bound L (l.erase L) (hn.erase L) (fun x hx => by
      have h2 := h x (List.mem_of_mem_erase hx)
      have h3 : x ≠ L := fun e => by
        subst e
        exact (List.Nodup.not_mem_erase hn) hx
      omega)
    by_cases e : L ∈ l
    · rw [List.length_erase_of_mem e] at h1
      omega
    · rw [List.erase_of_not_mem e] at h1
      omega
/-- the odd ones: a dict of the ties met so far -/
def OddS (H : Hp) (d : Addr) (pr : List Nat) : Prop := ∃ (kvs : List (Key × V)) (kl : List Nat), H d = some (.dK kvs) ∧ kvs.map (·.1) = kl.map (fun (k : Nat) => (Sum.inl (k : Int) : Key)) ∧ kl.Nodup ∧
  (∀ j, j ∈ kl ↔ j ∈ pr) ∧ ∀ j : Nat, valV kvs (Sum.inl (j : Int)) = if j ∈ pr then some (.bl (decide (pr.count j % 2 = 1))) else none
theorem OddS.put {H : Hp} {d : Addr} {pr : List Nat} {kvs : List (Key × V)} {kl : List Nat} (t : Nat) (h2 : kvs.map (·.1) = kl.map (fun (k : Nat) => (Sum.inl (k : Int) : Key))) (h3 : kl.Nodup)
    (h4 : ∀ j, j ∈ kl ↔ j ∈ pr) (h5 : ∀ j : Nat, valV kvs (Sum.inl (j : Int)) = if j ∈ pr then some (.bl (decide (pr.count j % 2 = 1))) else none) :
    OddS (upd H d (.dK (putK kvs (Sum.inl (t : Int)) (.bl (!decide (pr.count t % 2 = 1)))))) d (pr ++ [t]) := by
  have hcnt : ∀ j, (pr ++ [t]).count j = pr.count j + if j = t then 1 else 0 := fun j => by
    rw [List.count_append, List.count_singleton]
    by_cases e : j = t
    · subst e
      simp
    · have : ¬ t = j := fun z => e z.symm
      simp [e, this]
  have hval : ∀ j : Nat, valV (putK kvs (Sum.inl (t : Int)) (.bl (!decide (pr.count t % 2 = 1)))) (Sum.inl (j : Int)) = if j ∈ pr ++ [t] then some (.bl (decide ((pr ++ [t]).count j % 2 = 1))) else none := fun j => by
    rw [valV_put, hcnt]
    by_cases e : j = t
    · subst e
      rw [if_pos rfl, if_pos (by simp), if_pos rfl]
      congr 2
      rw [Bool.eq_iff_iff]
      simp only [Bool.not_eq_true', decide_eq_false_iff_not, decide_eq_true_eq]
      omega
    · rw [if_neg (fun z => e (by have := Sum.inl.inj z; omega)), if_neg e, Nat.add_zero, h5]
      have : (j ∈ pr ++ [t]) = (j ∈ pr) := by
        apply propext
        simp [e]
      simp only [this]
  by_cases e : t ∈ pr
  · have hany : (kvs.any fun kv => decide (kv.fst = (Sum.inl (t : Int) : Key))) = true := by
      rw [valV_any, h5, if_pos e]
      rfl
    refine ⟨_, kl, upd_same, ?_, h3, fun j => ?_, hval⟩
    · unfold putK
      rw [if_pos hany, List.map_map, ← h2]
      refine List.map_congr_left fun kv _ => ?_
      show (if kv.fst = Sum.inl (t : Int) then (kv.fst, _) else kv).1 = kv.1
      split <;> rfl
    · rw [h4]
      constructor
      · intro z
        exact List.mem_append_left _ z
      · intro z
        rcases List.mem_append.mp z with z | z
        · exact z
        · rw [List.mem_singleton.mp z]
          exact e
  · refine ⟨_, kl ++ [t], upd_same, ?_, ?_, fun j => ?_, hval⟩
    · rw [putK_new _ (by rw [h5, if_neg e]), List.map_append, List.map_append, h2]
      rfl
    · rw [List.nodup_append]
      refine ⟨h3, List.nodup_cons.mpr ⟨by simp, .nil⟩, fun x hx y hy => ?_⟩
      rw [List.mem_singleton.mp hy]
      exact fun z => e ((h4 t).mp (z ▸ hx))
    · rw [List.mem_append, List.mem_append, h4]
def spSum (K : PySem.W.Frag) : Sp := fun vs H Q _ => ∃ (v : V) (ls : List (List Nat)) (L : Nat), vs = [v] ∧ Dp K H v (.tuple (ls.map lotD)) ∧ (∀ l ∈ ls, ∀ k ∈ l, k < L) ∧ L ≤ 60 ∧ ls.length ≤ 100 ∧
  ∀ (u : V) (ks : List Nat) H', Same H H' → Dp K H' u (lotD ks) → ks.Pairwise (· < ·) → (∀ k, k ∈ ks ↔ ls.flatten.count k % 2 = 1) → Q u H'
def spTwos : Sp := fun vs H Q _ => ∃ m : Nat, vs = [.int m] ∧ m ≤ 40 ∧ Q (.int (2 ^ m)) H
def spLotN (K : PySem.W.Frag) : Sp := fun vs H Q _ => ∃ (v : V) (n : Nat) (ts : List Tie) (z : Nat), vs = [v, .int (z : Nat)] ∧ Dp K H v (webD n ts) ∧ ts.length ≤ 1000 ∧
  ∀ (u : V) (ks : List Nat) H', Same H H' → Dp K H' u (lotD ks) → LotA ts.length ks → (∀ k, k < ts.length → (k ∈ ks ↔ z / 2 ^ (ts.length - 1 - k) % 2 = 1)) → Q u H'
section
variable {P : Program} {w : World} {K : PySem.W.Frag} {mg : Str → Option Value} {base : Heap}
theorem ok_sum {f : Addr} {fd : FuncData} (D : Df K mg "sum_of" sSum ["lots"] f fd) (T : Bl mg) (hsorted : mg "sorted" = none) : FnOk P w K mg base CX0 1 f fd ["lots"] (spSum K) := by
  refine D.fn.ok scSum (fun vs H Q E h => ?_) (fun cdv A outer s H vs Q E hr h => ?_)
  · obtain ⟨v, ls, L, rfl, _⟩ := h
    rfl
  · obtain ⟨v, ls, L, rfl, hv, hls, hL, hll, k⟩ := h
    have hu := hu_of hr
    have nd := scSum.nd
    obtain ⟨al, xs, rfl, hal, hxs⟩ := dp_tup hv
    have hxl : xs.length = ls.length := by rw [dpAll_len hxs, List.length_map]
    refine ⟨_, (pss_cons (ps_set (i := 1) nd rfl (by first | exact Or.inl rfl | exact Or.inr rfl) pe_dnewK)
      (pss_cons (ps_for PassesOwn.never rfl (piT K (pv 0)) (pg_name (i := 2) nd rfl (by first | exact Or.inl rfl | exact Or.inr rfl)) (pss_one (ps_for PassesOwn.never rfl (piT K (pv 2)) (pg_name (i := 3) nd rfl (by first | exact Or.inl rfl | exact Or.inr rfl)) (pss_one (ps_dput hu (pv 1) (pv 3) (pe_not (pe_dget2 hu (pv 1) (pv 3) pe_bl ⟨rfl, rfl, rfl, rfl⟩)) rfl)))))
      (pss_one (ps_ret (pe_callTy (tupleK K) (by rfl) T.tuple (by decide +kernel) (pa_cons (pe_lc (own := [("tie", 3)]) (g := (gName 3)) rfl nd (piL K (pe_callB (call_sortedDI rfl) (by rfl) hsorted (by decide +kernel) (pa_cons (pv 1) pa_nil))) (blkOk_by (own := [("tie", 3)]) (N := nSum) (sc := defScope sSum) (by decide +kernel)) (fun _ _ _ _ _ => (pg_name (i := 3) nd rfl (by first | exact Or.inl rfl | exact Or.inr rfl))) (fun _ _ _ _ _ => (pts_one (pt_val (pe_dget hu (pv 1) (pv 3) (fun _ _ => rfl))))) (fun _ _ _ _ _ => (pv 3))) pa_nil)))))), ?_⟩
    refine fun d hd => ?_
    have s0 := same_new (o := .dK []) hd
    refine ⟨_, rfl, al, rfl, ⟨_, sqT_same s0 hal⟩, for_it (walk_tup (xs := xs)) (fun i σ H' => ∃ v2 v3 : Option V, σ = [some (.ref al), some (.ref d), v2, v3] ∧ Same H H' ∧ OddS H' d (ls.take i).flatten) ?_ ?_ ?_ ?_⟩
    · exact ⟨none, none, rfl, s0, [], [], upd_same, rfl, .nil, by simp, fun j => by simp [valV_nil]⟩
    · rintro i σ H' _ ⟨v2, v3, rfl, sH, _⟩
      exact sqT_same sH hal
    · rintro i x σ H1 H'' hi ⟨v2, v3, rfl, sH, hO⟩ ⟨rfl, hx⟩
      obtain ⟨dd, hdd, hdp⟩ := dpAll_get hxs hx
      obtain ⟨l, hl, rfl⟩ := get_map hdd
      obtain ⟨ax, rfl, hax⟩ := dp_lotI (dp_same sH _ hdp)
      have htk : (ls.take (i + 1)).flatten = (ls.take i).flatten ++ l := by
        rw [List.take_add_one, hl, List.flatten_append]
        simp
      refine ⟨_, rfl, ax, rfl, ⟨_, hax⟩, for_it (walk_tup (xs := l.map fun (k : Nat) => V.int k)) (fun j σ H' => ∃ v3 : Option V, σ = [some (.ref al), some (.ref d), some (.ref ax), v3] ∧ Same H H' ∧
        SqT K H' ax (l.map fun (k : Nat) => V.int k) ∧ OddS H' d ((ls.take i).flatten ++ l.take j)) ?_ ?_ ?_ ?_⟩
      · exact ⟨v3, rfl, sH, hax, by rw [List.take_zero, List.append_nil]; exact hO⟩
      · rintro j σ H' _ ⟨v3, rfl, _, h2, _⟩
        exact h2
      · rintro j x σ H' H3 hj ⟨v3, rfl, sH', hax', kvs, kl, h1, h2, h3, h4, h5⟩ ⟨rfl, hx2⟩
        obtain ⟨tt, htt, rfl⟩ := get_map hx2
        have htk2 : l.take (j + 1) = l.take j ++ [tt] := by
          rw [List.take_add_one, htt]
          rfl
        have hget : (valV kvs (Sum.inl (tt : Int) : Key)).getD (.bl false) = .bl (decide (((ls.take i).flatten ++ l.take j).count tt % 2 = 1)) := by
          rw [h5]
          by_cases e : tt ∈ (ls.take i).flatten ++ l.take j
          · rw [if_pos e]
            rfl
          · rw [if_neg e, List.count_eq_zero_of_not_mem e]
            rfl
        refine ⟨_, rfl, d, rfl, .inl ⟨kvs, .inl h1⟩, _, rfl, _, DGet.k (k := Sum.inl (tt : Int)) h1, ?_⟩
        rw [hget]
        have hkl : kvs.length = kl.length := by
          have := congrArg List.length h2
          simpa using this
        have hb : kl.length ≤ L := nodup_bound L kl h3 fun y hy => by
          have hm := (h4 y).mp hy
          rcases List.mem_append.mp hm with z | z
          · obtain ⟨l2, hl2, hy2⟩ := List.mem_flatten.mp z
            exact hls l2 (List.mem_of_mem_take hl2) y hy2
          · exact hls l (List.mem_of_getElem? hl) y (List.mem_of_mem_take z)
        refine ⟨_, rfl, _, rfl, _, rfl, d, _, rfl, DPut.k (k := Sum.inl (tt : Int)) h1 (Nat.lt_of_lt_of_le (show kvs.length < 100000 by omega) (by decide)), ?_⟩
        refine ⟨_, rfl, same_old hd sH', ?_, ?_⟩
        · refine sqT_kf (fun z o hz q => ?_) hax'
          have nz : z ≠ d := by
            rintro rfl
            rw [h1] at hz
            obtain ⟨_, rfl | ⟨_, rfl⟩⟩ := q <;> cases hz
          rw [upd_ne nz]
          exact hz
        · rw [htk2, ← List.append_assoc]
          exact OddS.put tt h2 h3 h4 h5
      · rintro σ H3 ⟨v3, rfl, sH', _, hO'⟩
        rw [List.length_map, List.take_of_length_le (Nat.le_refl _), ← htk] at hO'
        exact ⟨_, _, rfl, sH', hO'⟩
    · rintro σ H1 ⟨v2, v3, rfl, sH, hO⟩
      rw [hxl, List.take_of_length_le (Nat.le_refl _)] at hO
      obtain ⟨kvs, kl, h1, h2, h3, h4, h5⟩ := hO
      have hb : kl.length ≤ L := nodup_bound L kl h3 fun y hy => by
        obtain ⟨l2, hl2, hy2⟩ := List.mem_flatten.mp ((h4 y).mp hy)
        exact hls l2 hl2 y hy2
      refine ⟨_, rfl, d, kvs, kl.map fun (k : Nat) => (k : Int), rfl, .inl h1, by rw [h2, List.map_map]; rfl, by rw [List.length_map]; omega, fun ys p hperm hsort hp => ?_⟩
      have sp := same_new (o := .lst (ys.map V.int)) hp
      obtain ⟨ns, rfl⟩ : ∃ ns : List Nat, ys = ns.map fun (k : Nat) => (k : Int) := ⟨ys.map Int.toNat, by
        rw [List.map_map]
        refine (List.map_id ys).symm.trans (List.map_congr_left fun y hy => ?_)
        obtain ⟨j, _, rfl⟩ := List.mem_map.mp (hperm.mem_iff.mp hy)
        show ((j : Int)) = (((j : Int)).toNat : Int)
        omega⟩
      have hnp : ns.Perm kl := by
        have h := hperm.map Int.toNat
        rw [List.map_map, List.map_map] at h
        have e : ∀ l : List Nat, l.map (Int.toNat ∘ fun (k : Nat) => (k : Int)) = l := fun l => by
          refine (List.map_congr_left fun x _ => ?_).trans (List.map_id l)
          show ((x : Int)).toNat = x
          omega
        rw [e, e] at h
        exact h
      have hnn : ns.Nodup := hnp.nodup_iff.mpr h3
      have hlt : ns.Pairwise (· < ·) := by
        have h6 : ns.Pairwise (· ≤ ·) := (List.pairwise_map.mp hsort).imp fun {x y} z => by omega
        refine (h6.and hnn).imp fun {x y} z => ?_
        obtain ⟨z1, z2⟩ := z
        omega
      have hmem : ∀ j, j ∈ ns → j ∈ ls.flatten := fun j hj => (h4 j).mp (hnp.mem_iff.mp hj)
      have hdp := sp _ _ h1
      refine ⟨p, rfl, ⟨_, SqL.of upd_same⟩, fun E1 hE1 => ?_⟩
      refine lc_run (walk_list (xs := (ns.map fun (k : Nat) => (k : Int)).map V.int)) hE1 (fun i acc _ => acc = ((ns.take i).filter fun j => decide (ls.flatten.count j % 2 = 1)).map fun (k : Nat) => V.int k) ?_ ?_ ?_ ?_
      · exact fun H' s => SqL.of (s _ _ upd_same)
      · rfl
      · rintro i x acc H2 H' hi hacc e s r ⟨rfl, hx⟩
        obtain ⟨z, hz, rfl⟩ := get_map hx
        obtain ⟨m, hm, rfl⟩ := get_map hz
        have hmp := hmem m (List.mem_of_getElem? hm)
        have hget : DGet H' d (.int (m : Int)) (some (.bl (decide (ls.flatten.count m % 2 = 1)))) := by
          have h6 := DGet.k (k := Sum.inl (m : Int)) (s _ _ hdp)
          rw [h5, if_pos hmp] at h6
          exact h6
        have htk : ns.take (i + 1) = ns.take i ++ [m] := by
          rw [List.take_add_one, hm]
          rfl
        have r' : acc = ((ns.take i).filter fun j => decide (ls.flatten.count j % 2 = 1)).map fun (k : Nat) => V.int k := r
        have hnl : ns.length ≤ 60 := by rw [hnp.length_eq]; omega
        have hal : acc.length ≤ 60 := by
          rw [r', List.length_map]
          exact Nat.le_trans (List.length_filter_le _ _) (by rw [List.length_take]; omega)
        refine ⟨rfl, ?_⟩
        refine ⟨_, rfl, _, rfl, d, _, rfl, hget, _, rfl, ?_⟩
        refine ite2 (fun hh => ?_) (fun hh => ?_)
        · refine ⟨_, rfl, ?_⟩
          refine lc_add hacc e (Same.refl _) (by omega) ?_
          rw [htk, List.filter_append, List.filter_cons_of_pos (p := fun (j : Nat) => decide (ls.flatten.count j % 2 = 1)) hh, List.filter_nil, List.map_append, r']
          rfl
        · refine lc_skip hacc e (Same.refl _) ?_
          rw [htk, List.filter_append, List.filter_cons_of_neg (p := fun (j : Nat) => decide (ls.flatten.count j % 2 = 1)) hh, List.filter_nil, List.append_nil]
          exact r'
      · rintro acc H2 g1 s2 r
        have r' : acc = ((ns.take ((ns.map fun (k : Nat) => (k : Int)).map V.int).length).filter fun j => decide (ls.flatten.count j % 2 = 1)).map fun (k : Nat) => V.int k := r
        rw [List.length_map, List.length_map, List.take_of_length_le (Nat.le_refl _)] at r'
        refine ⟨E1, _, rfl, .inl ⟨SqL.of g1, fun u hu2 => ?_⟩⟩
        refine k _ (ns.filter fun j => decide (ls.flatten.count j % 2 = 1)) _ (sH.trans (sp.trans (s2.trans (same_new hu2)))) (lot_dp (SqT.of ?_)) (hlt.filter _) (fun j => ?_)
        · rw [upd_same, r']
        · rw [List.mem_filter, decide_eq_true_eq]
          constructor
          · exact fun z => z.2
          · intro z
            refine ⟨hnp.mem_iff.mpr ((h4 j).mpr ?_), z⟩
            refine List.count_pos_iff.mp ?_
            omega
theorem ok_twos {f : Addr} {fd : FuncData} (D : Df K mg "_law_twos" sTwos ["_law_many"] f fd) (T : Bl mg) : FnOk P w K mg base CX0 1 f fd ["_law_many"] spTwos := by
  refine D.fn.ok scTwos (fun vs H Q E h => ?_) (fun cdv A outer s H vs Q E hr h => ?_)
  · obtain ⟨m, rfl, _⟩ := h
    rfl
  · obtain ⟨m, rfl, hm, k⟩ := h
    have nd := scTwos.nd
    refine ⟨_, (pss_cons (ps_set (i := 1) nd rfl (by first | exact Or.inl rfl | exact Or.inr rfl) pe_int)
      (pss_cons (ps_for PassesOwn.never rfl (pi_range1 rfl T.range (pa_cons (pv 0) pa_nil)) (pg_name (i := 2) nd rfl (by first | exact Or.inl rfl | exact Or.inr rfl)) (pss_one (ps_set (i := 1) nd rfl (by first | exact Or.inl rfl | exact Or.inr rfl) (pe_op op_mul pe_int (pv 1)))))
      (pss_one (ps_ret (pv 1))))), ?_⟩
    refine ⟨_, rfl, _, rfl, by omega, by omega, ?_⟩
    refine for_range (lo := 0) (n := (m : Int).toNat) (fun i σ Hc => ∃ v2 : Option V, σ = [some (.int m), some (.int (2 ^ i)), v2] ∧ Hc = H) ?_ ?_ ?_
    · exact ⟨none, rfl, rfl⟩
    · rintro i σ Hc hi ⟨v2, rfl, rfl⟩
      have hi2 : i < m := by omega
      have h1 : (2 : Int) ^ i ≤ 2 ^ 40 := by
        have : (2 : Nat) ^ i ≤ 2 ^ 40 := Nat.pow_le_pow_right (by decide) (by omega)
        exact_mod_cast this
      have h0 : (0 : Int) < 2 ^ i := Int.pow_pos (by decide)
      refine ⟨_, rfl, _, _, rfl, rfl, .inl ⟨by omega, by omega⟩, some (.int (0 + i)), ?_, rfl⟩
      have e : (2 : Int) ^ (i + 1) = 2 * 2 ^ i := by rw [Int.pow_succ, Int.mul_comm]
      rw [e]
      rfl
    · rintro σ Hc ⟨v2, rfl, rfl⟩
      exact ⟨_, rfl, k⟩
theorem ok_lot {f : Addr} {fd : FuncData} (D : Df K mg "_law_lot" sLot pLot f fd) (T : Bl mg) : FnOk P w K mg base CX0 1 f fd pLot (spLotN K) := by
  refine D.fn.ok scLot (fun vs H Q E h => ?_) (fun cdv A outer s H vs Q E hr h => ?_)
  · obtain ⟨v, n, ts, z, rfl, _⟩ := h
    rfl
  · obtain ⟨v, n, ts, z, rfl, hw, hl, k⟩ := h
    have nd := scLot.nd
    obtain ⟨a, c, ys, rfl, ha, hc, hys⟩ := dp_web hw
    have hyl : ys.length = ts.length := by rw [dpAll_len hys, List.length_map]
    refine ⟨_, (pss_cons (ps_par (i := 2) (j := 3) (by rfl) nd rfl rfl (by decide) rfl rfl (pa_cons (pe_lst pa_nil) (pa_cons (pv 1) pa_nil)) (by rfl))
      (pss_cons (ps_for PassesOwn.never rfl (pi_range3 rfl T.range (pa_cons (pe_op op_sub (pe_callB (lenK K) (by rfl) T.len PySem.boot_len (pa_cons (pe_ix (ixT K) (pv 0) pe_int (fun _ _ => rfl)) pa_nil)) pe_int) (pa_cons (pe_un un_neg pe_int) (pa_cons (pe_un un_neg pe_int) pa_nil)))) (pg_name (i := 4) nd rfl (by first | exact Or.inl rfl | exact Or.inr rfl)) (pss_cons (ps_if (pt_cmpR op_eq (pe_op op_mod (pe_callTy call_int1 (by rfl) T.int (by decide +kernel) (pa_cons (pv 3) pa_nil)) pe_int) pe_int (nomark _)) (pss_one (ps_expr (pe_bm PySem.F.plainAttrs_list PySem.F.slot_list_append PySem.F.type_list_append mt_append (pv 2) (pa_cons (pv 4) pa_nil)))) pss_nil)
      (pss_one (ps_set (i := 3) nd rfl (by first | exact Or.inl rfl | exact Or.inr rfl) (pe_op op_fdivW (pv 3) pe_int)))))
      (pss_one (ps_ret (pe_callTy (tupleK K) (by rfl) T.tuple (by decide +kernel) (pa_cons (revL K (pv 2)) pa_nil)))))), ?_⟩
    refine ⟨Nat.zero_le _, fun m0 hm0 => ⟨_, rfl, _, _, rfl, ?_⟩⟩
    have s0 : Same H (upd H m0 (.lst [])) := same_new hm0
    refine ⟨_, rfl, a, _, _, _, rfl, rfl, sqT_same s0 ha, atI_nat (j := 1) rfl, ?_⟩
    refine ⟨c, ys, rfl, .inr (sqT_same s0 hc), ?_⟩
    refine ⟨_, _, rfl, rfl, ?_⟩
    refine ⟨_, rfl, _, rfl, _, _, _, _, rfl, RgC.neg (by omega) (by omega) (by decide) (by decide), ?_⟩
    refine for_rangeC (fun i σ H' => ∃ (v4 : Option V) (ks : List Nat), σ = [some (.ref a), some (.int (z : Nat)), some (.ref m0), some (.int ((z / 2 ^ i : Nat) : Int)), v4] ∧
      Same H H' ∧ H' m0 = some (.lst (ks.map fun (k : Nat) => V.int k)) ∧ ks.Pairwise (· > ·) ∧ (∀ k ∈ ks, ts.length - i ≤ k ∧ k < ts.length) ∧ ks.length ≤ i ∧ ∀ k, ts.length - i ≤ k → k < ts.length → (k ∈ ks ↔ z / 2 ^ (ts.length - 1 - k) % 2 = 1)) ?_ ?_ ?_
    · exact ⟨none, [], by rw [Nat.pow_zero, Nat.div_one]; rfl, s0, upd_same, .nil, by simp, by simp, fun k h1 h2 => by omega⟩
    · rintro i σ H' hi ⟨v4, ks, rfl, h1, h2, h3, h4, h5, h6⟩
      have hi2 : i < ts.length := by omega
      have hx : ((ys.length : Int) - 1 + (i : Int) * (-1)) = ((ts.length - 1 - i : Nat) : Int) := by omega
      rw [hx]
      show tSeq _ _ _ _ _
      refine tSeq_go ?_
      refine tIfS_by (fun σ' H'' => ∃ ks : List Nat, σ' = [some (.ref a), some (.int (z : Nat)), some (.ref m0), some (.int ((z / 2 ^ i : Nat) : Int)), some (.int ((ts.length - 1 - i : Nat) : Int))] ∧
        Same H H'' ∧ H'' m0 = some (.lst (ks.map fun (k : Nat) => V.int k)) ∧ ks.Pairwise (· > ·) ∧ (∀ k ∈ ks, ts.length - (i + 1) ≤ k ∧ k < ts.length) ∧ ks.length ≤ i + 1 ∧ ∀ k, ts.length - (i + 1) ≤ k → k < ts.length → (k ∈ ks ↔ z / 2 ^ (ts.length - 1 - k) % 2 = 1)) ?_ (fun cont => ?_)
      · rintro σ' H'' ⟨ks', rfl, g1, g2, g3, g4, g5, g6⟩
        have hq : ((z / 2 ^ i : Nat) : Int) / 2 = ((z / 2 ^ (i + 1) : Nat) : Int) := by
          rw [Nat.pow_succ, ← Nat.div_div_eq_div_mul]
          omega
        refine ⟨_, rfl, _, _, rfl, rfl, ⟨by decide, by decide⟩, some (.int ((ts.length - 1 - i : Nat) : Int)), ks', ?_, g1, g2, g3, g4, g5, g6⟩
        show [some (V.ref a), some (V.int (z : Nat)), some (V.ref m0), some (V.int (((z / 2 ^ i : Nat) : Int) / 2)), some (V.int ((ts.length - 1 - i : Nat) : Int))] = _
        rw [hq]
      · refine ⟨_, rfl, .inl ⟨_, rfl, _, _, rfl, rfl, (by decide : (0 : Int) < 2), ?_⟩⟩
        refine ⟨rfl, _, rfl, ?_⟩
        have hbit : ts.length - 1 - (ts.length - 1 - i) = i := by omega
        refine ite2 (fun hh => ?_) (fun hh => ?_)
        · refine ⟨_, rfl, .inl ⟨rfl, _, SqL.of h2⟩, _, rfl, m0, _, _, rfl, rfl, h2, ?_, ?_⟩
          · rw [List.length_map]
            exact Nat.lt_of_lt_of_le (show ks.length < 100000 by omega) (by decide)
          have hb : z / 2 ^ i % 2 = 1 := by
            have := V.int.inj (of_decide_eq_true hh)
            omega
          refine cont _ _ ⟨ks ++ [ts.length - 1 - i], rfl, same_old hm0 h1, ?_, ?_, ?_, ?_, fun k q1 q2 => ?_⟩
          · rw [upd_same, List.map_append]
            rfl
          · rw [List.pairwise_append]
            refine ⟨h3, List.pairwise_singleton _ _, fun k1 hk1 k2 hk2 => ?_⟩
            have e := List.mem_singleton.mp hk2
            have := h4 k1 hk1
            show k1 > k2
            omega
          · intro k1 hk1
            rcases List.mem_append.mp hk1 with q | q
            · have := h4 k1 q
              omega
            · have e := List.mem_singleton.mp q
              omega
          · rw [List.length_append, List.length_singleton]
            omega
          · rw [List.mem_append, List.mem_singleton]
            by_cases e : k = ts.length - 1 - i
            · rw [e, hbit]
              exact ⟨fun _ => hb, fun _ => .inr rfl⟩
            · rw [← h6 k (by omega) q2]
              exact ⟨fun q => q.resolve_right e, .inl⟩
        · have hb : ¬ z / 2 ^ i % 2 = 1 := fun q => hh (decide_eq_true (by
            have : ((z / 2 ^ i : Nat) : Int) % 2 = 1 := by omega
            exact congrArg V.int this))
          refine cont _ _ ⟨ks, rfl, h1, h2, h3, fun k hk => ?_, by omega, fun k q1 q2 => ?_⟩
          · have := h4 k hk
            omega
          · by_cases e : k = ts.length - 1 - i
            · rw [e, hbit]
              refine ⟨fun q => ?_, fun q => absurd q hb⟩
              have := (h4 _ q).1
              omega
            · exact h6 k (by omega) q2
    · rintro σ H' ⟨v4, ks, rfl, h1, h2, h3, h4, h5, h6⟩
      refine ⟨_, rfl, m0, _, rfl, SqL.of h2, fun p hp => ?_⟩
      have s2 : Same H' (upd H' p (.lst (ks.map fun (k : Nat) => V.int k).reverse)) := same_new hp
      refine ⟨p, _, rfl, .inl ⟨SqL.of upd_same, fun u hu => ?_⟩⟩
      have e0 : ((ys.length : Int) - 1 - -1).toNat = ts.length := by omega
      rw [e0] at h6
      refine k _ ks.reverse _ (h1.trans (s2.trans (same_new hu))) (lot_dp (SqT.of ?_)) ⟨List.pairwise_reverse.mpr h3, fun k hk => (h4 k (List.mem_reverse.mp hk)).2⟩ (fun k hk => ?_)
      · rw [upd_same, List.map_reverse]
      · rw [List.mem_reverse]
        exact h6 k (by omega) hk
end
end BV

namespace BV
open PySem L2
abbrev sMade : Stmt := top 4
abbrev nMade : List Str := ["part", "one", "other", "name"]
abbrev pMade : List Str := ["part", "one", "other"]
theorem scMade : FnScope nMade pMade (defScope sMade) := ⟨rfl, rfl, rfl, by decide +kernel, rfl, by decide +kernel, by decide +kernel⟩
abbrev sFtree : Stmt := top 16
abbrev nFtree : List Str := ["web", "taken", "part", "tie", "one", "other"]
abbrev pFtree : List Str := ["web"]
theorem scFtree : FnScope nFtree pFtree (defScope sFtree) := ⟨rfl, rfl, rfl, by decide +kernel, rfl, by decide +kernel, by decide +kernel⟩
abbrev sTrounds : Stmt := top 17
abbrev nTrounds : List Str := ["web", "tree", "found", "tie", "one", "other", "way"]
abbrev pTrounds : List Str := ["web"]
theorem scTrounds : FnScope nTrounds pTrounds (defScope sTrounds) := ⟨rfl, rfl, rfl, by decide +kernel, rfl, by decide +kernel, by decide +kernel⟩

theorem lotA_nil (L : Nat) : LotA L [] := ⟨List.Pairwise.nil, fun _ h => nomatch h⟩
theorem lotA_len {L : Nat} {ks : List Nat} (h : LotA L ks) : ks.length ≤ L := nodup_small L _ (asc_nodup h.1) h.2
theorem natsV_len (ks : List Nat) : (natsV ks).length = ks.length := by
  unfold natsV
  rw [List.length_map]
theorem still_lotsL : ∀ ls : List (List Nat), stillAll (ls.map lotD) = true
  | [] => rfl
  | l :: ls => by
    have h := still_lotsL ls
    simp only [List.map_cons, stillAll, still_lot, h, Bool.and_self]
theorem natsV_ints (ks : List Nat) : natsV ks = (ks.map fun (k : Nat) => (k : Int)).map V.int := by
  unfold natsV
  rw [List.map_map]
  rfl
theorem natsV_snoc (ks : List Nat) (k : Nat) : natsV ks ++ [V.int k] = natsV (ks ++ [k]) := by
  unfold natsV
  rw [List.map_append]
  rfl
def labV (n : Nat) (lab : Nat → Nat) : List V := (List.range n).map fun p => V.int (lab p : Nat)
theorem labV_succ (i : Nat) (lab : Nat → Nat) : labV (i + 1) lab = labV i lab ++ [V.int (lab i : Nat)] := by
  unfold labV
  rw [List.range_succ, List.map_append]
  rfl
def spMade (K : PySem.W.Frag) : Sp := fun vs H Q _ => ∃ (pa : Addr) (n a b : Nat) (lab : Nat → Nat), vs = [.ref pa, .int (a : Nat), .int (b : Nat)] ∧ SqT K H pa (labV n lab) ∧ n ≤ 1000 ∧
  ∀ (u : Addr) H', Same H H' → SqT K H' u (labV n fun p => if lab p = b then a else lab p) → Q (.ref u) H'
def spFtree (K : PySem.W.Frag) : Sp := fun vs H Q _ => ∃ (v : V) (n : Nat) (ts : List Tie), vs = [v] ∧ Dp K H v (webD n ts) ∧ (∀ t ∈ ts, t.1 < t.2 ∧ t.2 < n) ∧ 1 ≤ n ∧ n ≤ 1000 ∧ ts.length ≤ 1000 ∧
  ∀ (u : V) H', Same H H' → Dp K H' u (lotD (treeL ts ts.length)) → Q u H'
/-- the round that the tie k makes with ties of the tree -/
def IsRd (ts : List Tie) (k : Nat) (r : List Nat) : Prop := LotA ts.length r ∧ ∃ (t : Tie) (w : List Nat), ts[k]? = some t ∧ Way ts t.1 w t.2 ∧ w.Nodup ∧ (∀ x ∈ w, x ∈ treeL ts ts.length) ∧ ∀ x, x ∈ r ↔ x ∈ w ∨ x = k
theorem rd_uniq {n : Nat} {ts : List Tie} (hends : ∀ t ∈ ts, t.1 < t.2 ∧ t.2 < n) {k : Nat} {r q : List Nat} (h1 : IsRd ts k r) (h2 : IsRd ts k q) : r = q := by
  obtain ⟨a1, t, w, a2, a3, a4, a5, a6⟩ := h1
  obtain ⟨b1, t', v, b2, b3, b4, b5, b6⟩ := h2
  rw [a2] at b2
  cases b2
  have p := way_one hends (tree_forest ts ts.length (Nat.le_refl _)) (fun x hx => (tree_lot ts ts.length (Nat.le_refl _)).2 x hx) a3 b3 a4 b4 a5 b5
  exact lot_ext a1 b1 fun x _ => by rw [a6, b6, p.mem_iff]
open Classical in
noncomputable def rdL (ts : List Tie) (k : Nat) : List Nat := if h : ∃ r, IsRd ts k r then h.choose else []
theorem rdL_eq {n : Nat} {ts : List Tie} (hends : ∀ t ∈ ts, t.1 < t.2 ∧ t.2 < n) {k : Nat} {r : List Nat} (h : IsRd ts k r) : rdL ts k = r := by
  have ex : ∃ r, IsRd ts k r := ⟨r, h⟩
  have e : rdL ts k = ex.choose := dif_pos ex
  rw [e]
  exact rd_uniq hends ex.choose_spec h
noncomputable def nonT (ts : List Tie) (i : Nat) : List Nat := (List.range i).filter fun k => !decide (k ∈ treeL ts ts.length)
noncomputable def rdsL (ts : List Tie) : List (List Nat) := (nonT ts ts.length).map (rdL ts)
def spTrounds (K : PySem.W.Frag) : Sp := fun vs H Q _ => ∃ (v : V) (n : Nat) (ts : List Tie), vs = [v] ∧ Dp K H v (webD n ts) ∧ WebOk n ts ∧ n ≤ 1000 ∧ ts.length ≤ 60 ∧
  ∀ (u : V) H', Same H H' → Dp K H' u (.tuple ((rdsL ts).map lotD)) → (∀ k ∈ nonT ts ts.length, IsRd ts k (rdL ts k)) → Q u H'
section
variable {P : Program} {w : World} {K : PySem.W.Frag} {mg : Str → Option Value} {base : Heap}
theorem ok_made {f : Addr} {fd : FuncData} (D : Df K mg "made_one" sMade pMade f fd) (T : Bl mg) : FnOk P w K mg base CX0 1 f fd pMade (spMade K) := by
  refine D.fn.ok scMade (fun vs H Q E h => ?_) (fun cdv A outer s H vs Q E hr h => ?_)
  · obtain ⟨pa, n, a, b, lab, rfl, _⟩ := h
    rfl
  · obtain ⟨pa, n, a, b, lab, rfl, hp, hn, k⟩ := h
    have nd := scMade.nd
    refine ⟨_, (pss_one (ps_ret (pe_callTy (tupleK K) (by rfl) T.tuple (by decide +kernel) (pa_cons (pe_lc (own := [("name", 3)]) (g := (gName 3)) (tt := tYes) rfl nd (piT K (pv 0)) (blkOk_by (own := [("name", 3)]) (N := nMade) (sc := defScope sMade) (by decide +kernel)) (fun _ _ _ _ _ => (pg_name (i := 3) nd rfl (by first | exact Or.inl rfl | exact Or.inr rfl))) (fun _ _ _ _ _ => pts_nil) (fun _ _ _ _ _ => (pe_ifExp (pt_cmpR op_eq (pv 3) (pv 2) (nomark _)) (pv 1) (pv 3)))) pa_nil)))), ?_⟩
    refine ⟨_, rfl, pa, rfl, ⟨_, hp⟩, fun E1 hE1 => ?_⟩
    refine lc_run (walk_tup (xs := labV n lab)) hE1 (fun i acc _ => acc = labV i fun p => if lab p = b then a else lab p) ?_ ?_ ?_ ?_
    · exact fun H' s => sqT_same s hp
    · rfl
    · rintro i x acc H2 H' hi hacc e s r ⟨rfl, hx⟩
      have r' : acc = labV i fun p => if lab p = b then a else lab p := r
      have hin : i < n := by
        unfold labV at hi
        rw [List.length_map, List.length_range] at hi
        exact hi
      have hx2 : x = V.int (lab i : Nat) := by
        unfold labV at hx
        rw [rng_get n _ hin] at hx
        exact (Option.some.inj hx).symm
      subst hx2
      have hal : acc.length ≤ i := by
        rw [r']
        unfold labV
        rw [List.length_map, List.length_range]
        exact Nat.le_refl _
      refine ⟨rfl, yes_go ?_⟩
      refine ⟨_, rfl, _, rfl, rfl, _, rfl, ?_⟩
      refine ite2 (fun hh => ?_) (fun hh => ?_)
      · have e1 : lab i = b := by
          have := V.int.inj (of_decide_eq_true hh)
          omega
        refine ⟨_, rfl, lc_add hacc e (Same.refl _) (by omega) ?_⟩
        show _ = _
        rw [labV_succ, r', if_pos e1]
      · have e1 : ¬ lab i = b := fun z => hh (decide_eq_true (by rw [z]))
        refine ⟨_, rfl, lc_add hacc e (Same.refl _) (by omega) ?_⟩
        show _ = _
        rw [labV_succ, r', if_neg e1]
    · rintro acc H2 g s2 r
      have e0 : (labV n lab).length = n := by
        unfold labV
        rw [List.length_map, List.length_range]
      rw [e0] at r
      have r' : acc = labV n fun p => if lab p = b then a else lab p := r
      refine ⟨E1, _, rfl, .inl ⟨SqL.of g, fun u hu => ?_⟩⟩
      exact k u _ (s2.trans (same_new hu)) (SqT.of (by rw [upd_same, r']))
theorem ok_ftree {f f1 : Addr} {fd fd1 : FuncData} (D : Df K mg "first_tree" sFtree pFtree f fd) (T : Bl mg) (D_made : Df K mg "made_one" sMade pMade f1 fd1) : FnOk P w K mg base CX0 2 f fd pFtree (spFtree K) := by
  have G_made : FnOk P w K mg base CX0 1 f1 fd1 pMade (spMade K) := ok_made D_made T
  refine D.fn.ok scFtree (fun vs H Q E h => ?_) (fun cdv A outer s H vs Q E hr h => ?_)
  · obtain ⟨v, n, ts, rfl, _⟩ := h
    rfl
  · obtain ⟨v, n, ts, rfl, hw, hends, hpos, hn, hl, k⟩ := h
    have hr_made : Room 1 _ := hr
    have nd := scFtree.nd
    obtain ⟨a, c, ys, rfl, ha, hc, hys⟩ := dp_web hw
    have hyl : ys.length = ts.length := by rw [dpAll_len hys, List.length_map]
    refine ⟨_, (pss_cons (ps_set (i := 1) nd rfl (by first | exact Or.inl rfl | exact Or.inr rfl) (pe_lst pa_nil))
      (pss_cons (ps_set (i := 2) nd rfl (by first | exact Or.inl rfl | exact Or.inr rfl) (pe_tupRg rfl (by rfl) T.tuple (prg_1 (by rfl) T.range (pe_ix (ixT K) (pv 0) pe_int (fun _ _ => rfl)))))
      (pss_cons (ps_for PassesOwn.never rfl (enumT K (by rfl) T.enumerate (pa_cons (pe_ix (ixT K) (pv 0) pe_int (fun _ _ => rfl)) pa_nil)) (pgT K rfl (pgs_cons (pg_name (i := 3) nd rfl (by first | exact Or.inl rfl | exact Or.inr rfl)) (pgs_cons (pgT K rfl (pgs_cons (pg_name (i := 4) nd rfl (by first | exact Or.inl rfl | exact Or.inr rfl)) (pgs_cons (pg_name (i := 5) nd rfl (by first | exact Or.inl rfl | exact Or.inr rfl)) pgs_nil))) pgs_nil))) (pss_one (ps_if (pt_cmpR op_ne (pe_ix (ixT K) (pv 2) (pv 4) (fun _ _ => rfl)) (pe_ix (ixT K) (pv 2) (pv 5) (fun _ _ => rfl)) (nomark _)) (pss_cons (ps_expr (pe_bm PySem.F.plainAttrs_list PySem.F.slot_list_append PySem.F.type_list_append mt_append (pv 1) (pa_cons (pv 3) pa_nil)))
      (pss_one (ps_set (i := 2) nd rfl (by first | exact Or.inl rfl | exact Or.inr rfl) (pe_call G_made hr_made (by rfl) D_made.ad D_made.fn.kp D_made.bd .nil pass0 (pa_cons (pv 2) (pa_cons (pe_ix (ixT K) (pv 2) (pv 4) (fun _ _ => rfl)) (pa_cons (pe_ix (ixT K) (pv 2) (pv 5) (fun _ _ => rfl)) pa_nil))))))) pss_nil)))
      (pss_one (ps_ret (pe_callTy (tupleK K) (by rfl) T.tuple (by decide +kernel) (pa_cons (pv 1) pa_nil))))))), ?_⟩
    refine tSeq_go ?_
    refine ⟨Nat.zero_le _, fun m hm => ?_⟩
    have s0 := same_new (o := .lst []) hm
    dsimp only [gName]
    refine at_st [some (.ref a), some (.ref m), none, none, none, none] rfl ?_
    refine tSeq_go ?_
    refine ⟨_, rfl, a, _, _, _, rfl, rfl, sqT_same s0 ha, atI_nat (j := 0) rfl, _, rfl, .of_le (by omega) (by omega) (by omega) (by omega), fun q hq => ?_⟩
    have s1 := same_new (o := .tup (rgV 0 (n : Int))) hq
    have e1 : rgV 0 (n : Int) = labV n id := by
      unfold rgV labV
      rw [show ((n : Int) - 0).toNat = n by omega]
      refine List.map_congr_left fun k _ => ?_
      rw [Int.zero_add]
      rfl
    have hq1 : SqT K (upd (upd H m (.lst [])) q (.tup (rgV 0 (n : Int)))) q (labV n id) := SqT.of (by rw [upd_same, e1])
    have hm1 : (upd (upd H m (.lst [])) q (.tup (rgV 0 (n : Int)))) m = some (.lst (natsV (treeL ts 0))) := s1 _ _ upd_same
    have s01 := s0.trans s1
    generalize upd (upd H m (.lst [])) q (.tup (rgV 0 (n : Int))) = H1 at *
    dsimp only [gName]
    refine at_st [some (.ref a), some (.ref m), some (.ref q), none, none, none] rfl ?_
    refine tSeq_go ?_
    refine ⟨_, rfl, a, _, _, _, rfl, rfl, sqT_same s01 ha, atI_nat (j := 1) rfl, c, ys, rfl, sqT_same s01 hc, ?_⟩
    refine for_it (walk_enumT (xs := ys)) (fun i σ H' => ∃ (pa : Addr) (lab : Nat → Nat) (v3 v4 v5 : Option V), σ = [some (.ref a), some (.ref m), some (.ref pa), v3, v4, v5] ∧ Same H H' ∧
      H' m = some (.lst (natsV (treeL ts i))) ∧ SqT K H' pa (labV n lab) ∧ Lab n ts (treeL ts i) lab) ?_ ?_ ?_ ?_
    · exact ⟨q, id, none, none, none, rfl, s01, hm1, hq1, lab_start n ts⟩
    · rintro i σ H' _ ⟨pa, lab, v3, v4, v5, rfl, sH, _⟩
      exact sqT_same sH hc
    · rintro i x σ H2 H'' hi ⟨pa, lab, v3, v4, v5, rfl, s2, hm2, hp2, hL⟩ ⟨q1, y, z, rfl, hq1, rfl, hy, hz⟩
      have hil : i < ts.length := by omega
      have ht : ts[i]? = some ts[i] := List.getElem?_eq_getElem hil
      generalize ts[i] = t at ht
      have hte := hends t (List.mem_of_getElem? ht)
      have h1n : t.1 < n := by omega
      have hy' : some (V.int i) = some y := hy
      cases hy'
      have hz' : ys[i]? = some z := hz
      obtain ⟨dd, hdd, hzd⟩ := dpAll_get hys hz'
      rw [List.getElem?_map, ht] at hdd
      cases hdd
      obtain ⟨az, rfl, haz⟩ := dp_tie hzd
      have sq := same_new (o := .tup [.int i, .ref az]) hq1
      have s3 := s2.trans sq
      have hm3 := sq _ _ hm2
      have hp3 := sqT_same sq hp2
      have hqt := upd_same (H := H2) (a := q1) (o := .tup [.int (i : Nat), .ref az])
      generalize upd H2 q1 (.tup [.int (i : Nat), .ref az]) = H3 at *
      refine ⟨q1, _, rfl, SqT.of hqt, rfl, _, _, rfl, _, _, rfl, az, _, rfl, sqT_same s3 haz, rfl, _, _, rfl, _, _, rfl, rfl, rfl, ?_⟩
      have tl := lotA_len (tree_lot ts i (by omega))
      have r1 : atI (labV n lab) ((t.1 : Nat) : Int) = some (.int (lab t.1 : Nat)) := atI_nat (by unfold labV; rw [rng_get n _ h1n])
      have r2 : atI (labV n lab) ((t.2 : Nat) : Int) = some (.int (lab t.2 : Nat)) := atI_nat (by unfold labV; rw [rng_get n _ hte.2])
      refine ⟨_, rfl, _, rfl, pa, _, _, _, rfl, rfl, hp3, r1, _, rfl, _, rfl, pa, _, _, _, rfl, rfl, hp3, r2, rfl, _, rfl, ?_⟩
      refine ite2 (fun hh => ?_) (fun hh => ?_)
      · have hne : lab t.1 ≠ lab t.2 := fun z => by
          rw [z] at hh
          simp at hh
        have hc2 : ¬ Conn ts (treeL ts i) t.1 t.2 := fun z => hne ((hL.conn _ _ h1n hte.2).mpr z)
        refine tSeq_go ?_
        refine ⟨_, rfl, .inl ⟨rfl, _, SqL.of hm3⟩, _, rfl, m, _, _, rfl, rfl, hm3, ?_, ?_⟩
        · rw [natsV_len]
          exact Nat.lt_of_lt_of_le (show (treeL ts i).length < 100000 by omega) (by decide)
        rw [natsV_snoc]
        have hp4 : SqT K (upd H3 m (.lst (natsV (treeL ts i ++ [i])))) pa (labV n lab) := sqT_kf (kf_upd hm3 ⟨(fun _ e => nomatch e), (fun _ _ e => nomatch e)⟩) hp3
        have s4 := same_old (o := .lst (natsV (treeL ts i ++ [i]))) hm s3
        have hm4 : (upd H3 m (.lst (natsV (treeL ts i ++ [i])))) m = some (.lst (natsV (treeL ts i ++ [i]))) := upd_same
        generalize upd H3 m (.lst (natsV (treeL ts i ++ [i]))) = H4 at *
        refine ⟨_, rfl, _, rfl, _, rfl, pa, _, _, _, rfl, rfl, hp4, r1, _, rfl, _, rfl, pa, _, _, _, rfl, rfl, hp4, r2, ?_⟩
        refine ⟨pa, n, lab t.1, lab t.2, lab, rfl, hp4, hn, fun u H5 s5 hu => ?_⟩
        rw [← tree_no ht hc2] at hm4
        have hL2 := lab_step hends hL ht hne
        rw [← tree_no ht hc2] at hL2
        exact ⟨u, _, _, _, _, rfl, s4.trans s5, s5 _ _ hm4, hu, hL2⟩
      · have he : lab t.1 = lab t.2 := by
          have : ¬ (!decide (V.int (lab t.1 : Nat) = V.int (lab t.2 : Nat))) = true := hh
          simp at this
          omega
        have hc2 : Conn ts (treeL ts i) t.1 t.2 := (hL.conn _ _ h1n hte.2).mp he
        have e3 := tree_yes ht hc2
        exact ⟨pa, lab, _, _, _, rfl, s3, by rw [e3]; exact hm3, hp3, by rw [e3]; exact hL⟩
    · rintro σ H2 ⟨pa, lab, v3, v4, v5, rfl, s2, hm2, _⟩
      rw [hyl] at hm2
      refine ⟨_, rfl, m, _, rfl, .inl ⟨SqL.of hm2, fun u hu => ?_⟩⟩
      exact k _ _ (s2.trans (same_new hu)) (lot_dp (SqT.of upd_same))
theorem ok_trounds {f f1 f2 f3 f4 : Addr} {fd fd1 fd2 fd3 fd4 : FuncData} (D : Df K mg "tree_rounds" sTrounds pTrounds f fd) (T : Bl mg) (hsorted : mg "sorted" = none) (D_made : Df K mg "made_one" sMade pMade f1 fd1) (D_ftree : Df K mg "first_tree" sFtree pFtree f2 fd2)
    (D_far : Df K mg "far_end" sFar pFar f3 fd3) (D_ways : Df K mg "ways_from" sWays pWays f4 fd4) : FnOk P w K mg base CX0 3 f fd pTrounds (spTrounds K) := by
  have G_ftree : FnOk P w K mg base CX0 2 f2 fd2 pFtree (spFtree K) := ok_ftree D_ftree T D_made
  have G_ways : FnOk P w K mg base CX0 2 f4 fd4 pWays (spWays K) := ok_ways D_ways T D_far
  refine D.fn.ok scTrounds (fun vs H Q E h => ?_) (fun cdv A outer s H vs Q E hr h => ?_)
  · obtain ⟨v, n, ts, rfl, _⟩ := h
    rfl
  · obtain ⟨v, n, ts, rfl, hw, hok, hn, hl, k⟩ := h
    have hr_ftree : Room 2 _ := hr
    have hr_ways : Room 2 _ := hr
    have hu := hu_of hr
    have nd := scTrounds.nd
    have hends := hok.ends
    have hpos := hok.pos
    obtain ⟨a, c, ys, rfl, ha, hc, hys⟩ := dp_web hw
    have hyl : ys.length = ts.length := by rw [dpAll_len hys, List.length_map]
    have tA := tree_lot ts ts.length (Nat.le_refl _)
    have tl := lotA_len tA
    refine ⟨_, (pss_cons (ps_set (i := 1) nd rfl (by first | exact Or.inl rfl | exact Or.inr rfl) (pe_call G_ftree hr_ftree (by rfl) D_ftree.ad D_ftree.fn.kp D_ftree.bd .nil pass0 (pa_cons (pv 0) pa_nil)))
      (pss_cons (ps_set (i := 2) nd rfl (by first | exact Or.inl rfl | exact Or.inr rfl) (pe_lst pa_nil))
      (pss_cons (ps_for PassesOwn.never rfl (enumT K (by rfl) T.enumerate (pa_cons (pe_ix (ixT K) (pv 0) pe_int (fun _ _ => rfl)) pa_nil)) (pgT K rfl (pgs_cons (pg_name (i := 3) nd rfl (by first | exact Or.inl rfl | exact Or.inr rfl)) (pgs_cons (pgT K rfl (pgs_cons (pg_name (i := 4) nd rfl (by first | exact Or.inl rfl | exact Or.inr rfl)) (pgs_cons (pg_name (i := 5) nd rfl (by first | exact Or.inl rfl | exact Or.inr rfl)) pgs_nil))) pgs_nil))) (pss_one (ps_if (pt_cmpR (opNotIn K) (pv 3) (pv 1) rfl) (pss_cons (ps_set (i := 6) nd rfl (by first | exact Or.inl rfl | exact Or.inr rfl) (pe_dget hu (pe_call G_ways hr_ways (by rfl) D_ways.ad D_ways.fn.kp D_ways.bd .nil pass0 (pa_cons (pv 0) (pa_cons (pv 1) (pa_cons (pv 4) pa_nil)))) (pv 5) (fun _ _ => rfl)))
      (pss_one (ps_expr (pe_bm PySem.F.plainAttrs_list PySem.F.slot_list_append PySem.F.type_list_append mt_append (pv 2) (pa_cons (pe_callTy (tupleK K) (by rfl) T.tuple (by decide +kernel) (pa_cons (pe_callB (cr_sortTup K) (by rfl) hsorted (by decide +kernel) (pa_cons (pe_op (catA K) (pv 6) (pe_tup (pa_cons (pv 3) pa_nil))) pa_nil)) pa_nil)) pa_nil))))) pss_nil)))
      (pss_one (ps_ret (pe_callTy (tupleK K) (by rfl) T.tuple (by decide +kernel) (pa_cons (pv 2) pa_nil))))))), ?_⟩
    refine tSeq_go ?_
    refine ⟨_, rfl, .ref a, n, ts, rfl, hw, hends, hpos, by omega, by omega, fun tv H1 s1 htv => ?_⟩
    obtain ⟨at1, rfl, hat⟩ := dp_lotN htv
    dsimp only [gName]
    refine at_st [some (.ref a), some (.ref at1), none, none, none, none, none] rfl ?_
    refine tSeq_go ?_
    refine ⟨Nat.zero_le _, fun m hm => ?_⟩
    have hmH : H m = none := Same.free s1 hm
    have s2 := s1.trans (same_new (o := .lst []) hm)
    have htv2 := dp_same (same_new (o := .lst []) hm) _ htv
    have hm2 : (upd H1 m (.lst [])) m = some (.lst []) := upd_same
    generalize upd H1 m (.lst []) = H2 at *
    dsimp only [gName]
    refine at_st [some (.ref a), some (.ref at1), some (.ref m), none, none, none, none] rfl ?_
    refine tSeq_go ?_
    refine ⟨_, rfl, a, _, _, _, rfl, rfl, sqT_same s2 ha, atI_nat (j := 1) rfl, c, ys, rfl, sqT_same s2 hc, ?_⟩
    refine for_it (walk_enumT (xs := ys)) (fun i σ H' => ∃ (v3 v4 v5 v6 : Option V) (xs : List V), σ = [some (.ref a), some (.ref at1), some (.ref m), v3, v4, v5, v6] ∧ Same H H' ∧
      H' m = some (.lst xs) ∧ DpAll K H' xs (((nonT ts i).map (rdL ts)).map lotD) ∧ Dp K H' (.ref at1) (lotD (treeL ts ts.length)) ∧ ∀ k ∈ nonT ts i, IsRd ts k (rdL ts k)) ?_ ?_ ?_ ?_
    · exact ⟨none, none, none, none, [], rfl, s2, hm2, .nil, htv2, fun k hk => by simp [nonT] at hk⟩
    · rintro i σ H' _ ⟨v3, v4, v5, v6, xs, rfl, sH, _⟩
      exact sqT_same sH hc
    · rintro i x σ H3 H'' hi ⟨v3, v4, v5, v6, xs, rfl, s3, hm3, hxs3, ht3, hrd⟩ ⟨q1, y, z, rfl, hq1, rfl, hy, hz⟩
      have hil : i < ts.length := by omega
      have ht : ts[i]? = some ts[i] := List.getElem?_eq_getElem hil
      generalize ts[i] = t at ht
      have hte := hends t (List.mem_of_getElem? ht)
      have h1n : t.1 < n := by omega
      have hy' : some (V.int i) = some y := hy
      cases hy'
      have hz' : ys[i]? = some z := hz
      obtain ⟨dd, hdd, hzd⟩ := dpAll_get hys hz'
      rw [List.getElem?_map, ht] at hdd
      cases hdd
      obtain ⟨az, rfl, haz⟩ := dp_tie hzd
      have sq := same_new (o := .tup [.int i, .ref az]) hq1
      have s4 := s3.trans sq
      have hm4 := sq _ _ hm3
      have hxs4 := dpAll_same sq _ hxs3
      have ht4 := dp_same sq _ ht3
      have hqt := upd_same (H := H3) (a := q1) (o := .tup [.int (i : Nat), .ref az])
      generalize upd H3 q1 (.tup [.int (i : Nat), .ref az]) = H4 at *
      refine ⟨q1, _, rfl, SqT.of hqt, rfl, _, _, rfl, _, _, rfl, az, _, rfl, sqT_same s4 haz, rfl, _, _, rfl, _, _, rfl, rfl, rfl, ?_⟩
      obtain ⟨at2, e2, hat4⟩ := dp_lotN ht4
      cases e2
      have hnl : (nonT ts i).length ≤ i := by
        unfold nonT
        exact Nat.le_trans (List.length_filter_le _ _) (by rw [List.length_range]; exact Nat.le_refl _)
      have hxl : xs.length ≤ i := by
        rw [dpAll_len hxs4, List.length_map, List.length_map]
        exact hnl
      refine ⟨_, rfl, _, rfl, at1, _, rfl, .inr hat4, rfl, flat_nats _, _, rfl, ?_⟩
      have key : inV (V.int (i : Int)) ((treeL ts ts.length).map fun (k : Nat) => V.int k) = decide (i ∈ treeL ts ts.length) := inv_nats i _
      refine ite2 (fun hh => ?_) (fun hh => ?_)
      · have hh2 : (!inV (V.int (i : Int)) ((treeL ts ts.length).map fun (k : Nat) => V.int k)) = true := hh
        rw [key] at hh2
        have hni : i ∉ treeL ts ts.length := by simpa using hh2
        refine tSeq_go ?_
        refine ⟨_, rfl, _, rfl, _, rfl, .ref a, .ref at1, n, ts, treeL ts ts.length, t.1, rfl, dp_same s4 _ hw, ht4, hends, tA.2, h1n, by omega, by omega, fun d fnd H5 hd5 s5 hF hS => ?_⟩
        have hcl : ∀ x ∈ treeL ts ts.length, ∀ u, ts[x]? = some u → (u.1 ∈ fnd → u.2 ∈ fnd) ∧ (u.2 ∈ fnd → u.1 ∈ fnd) := fun x hx u hu => ⟨fun z => (hS u.1 z x hx u hu).1 rfl, fun z => (hS u.2 z x hx u hu).2 rfl⟩
        obtain ⟨⟨kvs, f1, f2, f3⟩, f4, f5, f6⟩ := id hF
        have hin2 : t.2 ∈ fnd := by
          obtain ⟨w0, w1, w2⟩ := tree_ends ht
          have go : ∀ {w0 : List Nat} {q : Nat}, Way ts t.1 w0 q → (∀ x ∈ w0, x ∈ treeL ts ts.length) → q ∈ fnd := fun hw0 => by
            induction hw0 with
            | nil => exact fun _ => f6
            | @snoc w' r kk q u hw' hu he ih =>
              intro hx
              have h1 := ih fun x hx2 => hx x (List.mem_append_left _ hx2)
              have h2 := hcl kk (hx kk (List.mem_append_right _ (List.mem_singleton.mpr rfl))) u hu
              rcases he with ⟨e1, e2⟩ | ⟨e1, e2⟩
              · rw [← e2]
                exact h2.1 (by rw [e1]; exact h1)
              · rw [← e2]
                exact h2.2 (by rw [e1]; exact h1)
          exact go w1 w2
        obtain ⟨aw, w0, g1, g2, g3, g4, g5, g6, g7⟩ := f3 t.2 hin2
        refine ⟨_, rfl, d, _, rfl, by rw [← g1]; exact DGet.k (k := Sum.inl ((t.2 : Nat) : Int)) f1, ?_⟩
        have s6 := s4.trans s5
        have hm5 := s5 _ _ hm4
        have hxs5 := dpAll_same s5 _ hxs4
        have ht5 := dp_same s5 _ ht4
        dsimp only [gName]
        refine at_st [some (.ref a), some (.ref at1), some (.ref m), some (.int (i : Nat)), some (.int (t.1 : Nat)), some (.int (t.2 : Nat)), some (.ref aw)] rfl ?_
        have hwl : w0.length ≤ 60 := Nat.le_trans (nodup_small ts.length w0 g6 fun x hx => tA.2 x (g4 x hx)) hl
        refine ⟨_, rfl, .inl ⟨rfl, _, SqL.of hm5⟩, _, rfl, _, rfl, by show 1 ≤ sizeLine; decide, fun q2 hq2 => ?_⟩
        have t1 := same_new (o := .tup [.int (i : Nat)]) hq2
        refine catA_by rfl rfl (sqT_same t1 g2) (SqT.of upd_same) (by rw [natsV_len]; show _ + 1 ≤ 100000; omega) fun cw H8 t2 hcw => ?_
        have t12 := t1.trans t2
        have ecw : natsV w0 ++ [V.int (i : Nat)] = ((w0 ++ [i]).map fun (k : Nat) => (k : Int)).map V.int := by
          rw [natsV_snoc, natsV_ints]
        rw [ecw] at hcw
        refine ⟨cw, _, rfl, hcw, by rw [List.length_map, List.length_append, List.length_singleton]; omega, fun zs p3 hperm hsort hp3 => ?_⟩
        have hnd : (w0 ++ [i]).Nodup := by
          rw [List.nodup_append]
          refine ⟨g6, List.nodup_cons.mpr ⟨by simp, .nil⟩, fun x hx y hy e => ?_⟩
          rw [List.mem_singleton.mp hy] at e
          rw [e] at hx
          exact hni (g4 i hx)
        obtain ⟨ns, rfl, hnp, hasc⟩ := sorted_nats hperm hsort hnd
        have t3 := same_new (o := .lst ((ns.map fun (k : Nat) => (k : Int)).map V.int)) hp3
        have hRd : IsRd ts i ns := ⟨⟨hasc, fun x hx => by
          rcases List.mem_append.mp (hnp.mem_iff.mp hx) with z | z
          · exact tA.2 x (g4 x z)
          · rw [List.mem_singleton.mp z]
            exact hil⟩, t, w0, ht, g3, g6, g4, fun x => by rw [hnp.mem_iff, List.mem_append, List.mem_singleton]⟩
        refine ⟨p3, _, rfl, .inl ⟨SqL.of upd_same, fun u hu2 => ?_⟩⟩
        have t4 := same_new (o := .tup ((ns.map fun (k : Nat) => (k : Int)).map V.int)) hu2
        have t14 := t12.trans (t3.trans t4)
        have hdu : Dp K (upd (upd H8 p3 (.lst ((ns.map fun (k : Nat) => (k : Int)).map V.int))) u (.tup ((ns.map fun (k : Nat) => (k : Int)).map V.int))) (.ref u) (lotD ns) := by
          rw [← natsV_ints]
          exact lot_dp (SqT.of upd_same)
        have hm9 := t14 _ _ hm5
        have hxs9 := dpAll_same t14 _ hxs5
        have ht9 := dp_same t14 _ ht5
        have s9 := s6.trans t14
        generalize upd (upd H8 p3 (.lst ((ns.map fun (k : Nat) => (k : Int)).map V.int))) u (.tup ((ns.map fun (k : Nat) => (k : Int)).map V.int)) = H9 at *
        refine ⟨m, _, _, rfl, rfl, hm9, ?_, ?_⟩
        · exact Nat.lt_of_lt_of_le (show xs.length < 100000 by omega) (by decide)
        have kf9 : KF H9 (upd H9 m (.lst (xs ++ [.ref u]))) := kf_upd hm9 ⟨(fun _ e => nomatch e), (fun _ _ e => nomatch e)⟩
        have en : nonT ts (i + 1) = nonT ts i ++ [i] := by
          unfold nonT
          rw [range_filter_succ, if_pos (by simp [hni])]
        refine ⟨_, _, _, _, xs ++ [.ref u], rfl, same_old hmH s9, upd_same, ?_, dp_kf kf9 _ (still_lot _) ht9, fun x hx => ?_⟩
        · rw [en, List.map_append, List.map_append]
          refine dpAll_app (dpAll_kf kf9 _ (still_lotsL _) hxs9) (.cons ?_ .nil)
          rw [rdL_eq hends hRd]
          exact dp_kf kf9 _ (still_lot _) hdu
        · rw [en] at hx
          rcases List.mem_append.mp hx with z | z
          · exact hrd x z
          · rw [List.mem_singleton.mp z, rdL_eq hends hRd]
            exact hRd
      · have hyi : i ∈ treeL ts ts.length := by
          have hh2 : ¬ (!inV (V.int (i : Int)) ((treeL ts ts.length).map fun (k : Nat) => V.int k)) = true := hh
          rw [key] at hh2
          simpa using hh2
        have en : nonT ts (i + 1) = nonT ts i := by
          unfold nonT
          rw [range_filter_succ, if_neg (by simp [hyi]), List.append_nil]
        exact ⟨_, _, _, _, xs, rfl, s4, hm4, by rw [en]; exact hxs4, ht4, by rw [en]; exact hrd⟩
    · rintro σ H3 ⟨v3, v4, v5, v6, xs, rfl, s3, hm3, hxs3, ht3, hrd⟩
      rw [hyl] at hxs3 hrd
      refine ⟨_, rfl, m, _, rfl, .inl ⟨SqL.of hm3, fun u hu2 => ?_⟩⟩
      have t1 := same_new (o := .tup xs) hu2
      exact k _ _ (s3.trans t1) (.tup (SqT.of upd_same) (dpAll_same t1 _ hxs3)) hrd
end
end BV

namespace BV
open PySem L2
abbrev sPath : Stmt := top 27
abbrev nPath : List Str := ["_law_web_here", "_law_taken", "_law_begin", "_law_end", "_law_roads", "_law_turn", "_law_tie", "_law_one", "_law_other"]
abbrev pPath : List Str := ["_law_web_here", "_law_taken", "_law_begin", "_law_end"]
theorem scPath : FnScope nPath pPath (defScope sPath) := ⟨rfl, rfl, rfl, by decide +kernel, rfl, by decide +kernel, by decide +kernel⟩
abbrev sLtr : Stmt := top 28
abbrev nLtr : List Str := ["_law_web_here", "_law_taken", "_law_found", "_law_tie", "_law_one", "_law_other", "_law_way"]
abbrev pLtr : List Str := ["_law_web_here"]
theorem scLtr : FnScope nLtr pLtr (defScope sLtr) := ⟨rfl, rfl, rfl, by decide +kernel, rfl, by decide +kernel, by decide +kernel⟩

/-- the places that are met, each with a way -/
def Roads (ts : List Tie) (tk : List Nat) (n start : Nat) (H : Hp) (d : Addr) (fnd : List Nat) : Prop :=
  (∃ kvs : List (Key × V), H d = some (.dK kvs) ∧ kvs.map (·.1) = fnd.map (fun (p : Nat) => (Sum.inl (p : Int) : Key)) ∧
    ∀ p ∈ fnd, ∃ (a : Addr) (w : List Nat), valV kvs (Sum.inl (p : Int)) = some (.ref a) ∧ H a = some (.lst (natsV w)) ∧ Way ts start w p ∧ (∀ k ∈ w, k ∈ tk) ∧ w.Nodup ∧ ∀ k ∈ w, ∀ t, ts[k]? = some t → t.1 ∈ fnd ∧ t.2 ∈ fnd) ∧
  fnd.Nodup ∧ (∀ p ∈ fnd, p < n) ∧ start ∈ fnd
theorem Roads.same {ts : List Tie} {tk : List Nat} {n start : Nat} {H H' : Hp} {d : Addr} {fnd : List Nat} (h : Roads ts tk n start H d fnd) (s : Same H H') : Roads ts tk n start H' d fnd := by
  obtain ⟨⟨kvs, h1, h2, h3⟩, r⟩ := h
  exact ⟨⟨kvs, s _ _ h1, h2, fun p hp => by
    obtain ⟨a, w, e1, e2, e3⟩ := h3 p hp
    exact ⟨a, w, e1, s _ _ e2, e3⟩⟩, r⟩
def ClosedT (ts : List Tie) (fnd : List Nat) (k : Nat) : Prop := ∀ t, ts[k]? = some t → (t.1 ∈ fnd ↔ t.2 ∈ fnd)
/-- one more place, along a tie -/
theorem Roads.put {ts : List Tie} {tk : List Nat} {n start : Nat} {H : Hp} {d m : Addr} {fnd : List Nat} {kvs : List (Key × V)} {w : List Nat} {k p q : Nat} {t : Tie}
    (h1 : H d = some (.dK kvs)) (h : Roads ts tk n start H d fnd) (ht : ts[k]? = some t) (hk : k ∈ tk) (he : t.1 = p ∧ t.2 = q ∨ t.2 = p ∧ t.1 = q) (hw : Way ts start w p) (hw2 : ∀ x ∈ w, x ∈ tk) (hw3 : w.Nodup)
    (hw4 : ∀ x ∈ w, ∀ u, ts[x]? = some u → u.1 ∈ fnd ∧ u.2 ∈ fnd) (hp : p ∈ fnd) (hq : q ∉ fnd) (hqn : q < n) (hm : H m = some (.lst (natsV (w ++ [k])))) :
    Roads ts tk n start (upd H d (.dK (putK kvs (Sum.inl (q : Int)) (.ref m)))) d (fnd ++ [q]) := by
  obtain ⟨⟨kvs', g1, g2, g3⟩, g4, g5, g6⟩ := h
  rw [h1] at g1
  cases g1
  have keep : ∀ z o, H z = some (.lst o) → (upd H d (.dK (putK kvs (Sum.inl (q : Int)) (.ref m)))) z = some (.lst o) := fun z o hz => by
    rw [upd_ne (ne_of hz h1 (by intro z; cases z))]
    exact hz
  have hvn : valV kvs (Sum.inl (q : Int)) = none := by
    have := val_none (p := q) g2
    rw [decide_eq_false hq] at this
    cases e : valV kvs (Sum.inl (q : Int)) with
    | none => rfl
    | some x => rw [e] at this; cases this
  refine ⟨⟨_, upd_same, ?_, fun x hx => ?_⟩, ?_, fun x hx => ?_, List.mem_append_left _ g6⟩
  · rw [putK_new _ hvn, List.map_append, List.map_append, g2]
    rfl
  · rw [valV_put]
    rcases List.mem_append.mp hx with z | z
    · obtain ⟨a, v, e1, e2, e3, e4, e5, e6⟩ := g3 x z
      refine ⟨a, v, ?_, keep _ _ e2, e3, e4, e5, fun y hy u hu => ⟨List.mem_append_left _ (e6 y hy u hu).1, List.mem_append_left _ (e6 y hy u hu).2⟩⟩
      rw [if_neg (fun e => hq (by have := Sum.inl.inj e; have e2 : x = q := by omega
                                  exact e2 ▸ z)), e1]
    · obtain rfl := List.mem_singleton.mp z
      have mq : x ∈ fnd ++ [x] := List.mem_append_right _ (List.mem_singleton.mpr rfl)
      have mp : p ∈ fnd ++ [x] := List.mem_append_left _ hp
      refine ⟨m, w ++ [k], if_pos rfl, keep _ _ hm, .snoc hw ht he, fun y hy => ?_, ?_, fun y hy u hu => ?_⟩
      · rcases List.mem_append.mp hy with z2 | z2
        · exact hw2 y z2
        · rw [List.mem_singleton.mp z2]
          exact hk
      · rw [List.nodup_append]
        refine ⟨hw3, List.nodup_cons.mpr ⟨by simp, .nil⟩, fun y hy y2 hy2 e => ?_⟩
        rw [List.mem_singleton.mp hy2] at e
        rw [e] at hy
        have z3 := hw4 k hy t ht
        rcases he with ⟨_, e2⟩ | ⟨_, e2⟩
        · exact hq (e2 ▸ z3.2)
        · exact hq (e2 ▸ z3.1)
      · rcases List.mem_append.mp hy with z2 | z2
        · exact ⟨List.mem_append_left _ (hw4 y z2 u hu).1, List.mem_append_left _ (hw4 y z2 u hu).2⟩
        · rw [List.mem_singleton.mp z2, ht] at hu
          cases hu
          rcases he with ⟨e1, e2⟩ | ⟨e1, e2⟩
          · exact ⟨e1 ▸ mp, e2 ▸ mq⟩
          · exact ⟨e2 ▸ mq, e1 ▸ mp⟩
  · rw [List.nodup_append]
    refine ⟨g4, List.nodup_cons.mpr ⟨by simp, .nil⟩, fun x hx y hy e => ?_⟩
    rw [List.mem_singleton.mp hy] at e
    exact hq (e ▸ hx)
  · rcases List.mem_append.mp hx with z | z
    · exact g5 x z
    · rw [List.mem_singleton.mp z]
      exact hqn
theorem val_some {kvs : List (Key × V)} {fnd : List Nat} {p : Nat} (h : kvs.map (·.1) = fnd.map (fun (p : Nat) => (Sum.inl (p : Int) : Key))) : (valV kvs (Sum.inl (p : Int))).isSome = decide (p ∈ fnd) := val_none h
def spPath (K : PySem.W.Frag) : Sp := fun vs H Q _ => ∃ (v : V) (al : Addr) (n : Nat) (ts : List Tie) (tk : List Nat) (p q : Nat), vs = [v, .ref al, .int (p : Nat), .int (q : Nat)] ∧ Dp K H v (webD n ts) ∧ H al = some (.lst (natsV tk)) ∧ (∀ t ∈ ts, t.1 < t.2 ∧ t.2 < n) ∧ (∀ k ∈ tk, k < ts.length) ∧
  p < n ∧ q < n ∧ n ≤ 1000 ∧ ts.length ≤ 3000 ∧ ∀ (l : Addr) (w : List Nat) H', Same H H' → H' l = some (.lst (natsV w)) → (Conn ts tk p q → Way ts p w q ∧ w.Nodup ∧ ∀ x ∈ w, x ∈ tk) → (¬ Conn ts tk p q → w = []) → Q (.ref l) H'
def spLtr (K : PySem.W.Frag) : Sp := fun vs H Q _ => ∃ (v : V) (n : Nat) (ts : List Tie), vs = [v] ∧ Dp K H v (webD n ts) ∧ WebOk n ts ∧ n ≤ 1000 ∧ ts.length ≤ 60 ∧
  ∀ (u : V) H', Same H H' → Dp K H' u (.tuple ((rdsL ts).map lotD)) → Q u H'
section
variable {P : Program} {w : World} {K : PySem.W.Frag} {mg : Str → Option Value} {base : Heap}
theorem ok_path {f : Addr} {fd : FuncData} (D : Df K mg "_law_path" sPath pPath f fd) (T : Bl mg) : FnOk P w K mg base CX0 1 f fd pPath (spPath K) := by
  refine D.fn.ok scPath (fun vs H Q E h => ?_) (fun cdv A outer s H vs Q E hr h => ?_)
  · obtain ⟨v, al, n, ts, tk, p, q, rfl, _⟩ := h
    rfl
  · obtain ⟨v, al, n, ts, tk, p0, q0, rfl, hw, hal, hends, htk, hp0, hq0, hn, hl, k⟩ := h
    have hu := hu_of hr
    have nd := scPath.nd
    obtain ⟨a, c, ys, rfl, ha, hc, hys⟩ := dp_web hw
    refine ⟨_, (pss_cons (ps_set (i := 4) nd rfl (by first | exact Or.inl rfl | exact Or.inr rfl) pe_dnewK)
      (pss_cons (ps_dput hu (pv 4) (pv 2) (pe_lst pa_nil) rfl)
      (pss_cons (ps_for PassesOwn.never rfl (pi_range1 rfl T.range (pa_cons (pe_ix (ixT K) (pv 0) pe_int (fun _ _ => rfl)) pa_nil)) (pg_name (i := 5) nd rfl (by first | exact Or.inl rfl | exact Or.inr rfl)) (pss_one (ps_for PassesOwn.never rfl (piL K (pv 1)) (pg_name (i := 6) nd rfl (by first | exact Or.inl rfl | exact Or.inr rfl)) (pss_cons (ps_asg (pe_ix (ixT K) (pe_ix (ixT K) (pv 0) pe_int (fun _ _ => rfl)) (pv 6) (fun _ _ => rfl)) (pgT K rfl (pgs_cons (pg_name (i := 7) nd rfl (by first | exact Or.inl rfl | exact Or.inr rfl)) (pgs_cons (pg_name (i := 8) nd rfl (by first | exact Or.inl rfl | exact Or.inr rfl)) pgs_nil))))
      (pss_one (ps_if (PW.pt (pw_and (pt_cmp (pc_din hu (pv 7) (pv 4))) (pw_and1 (pt_cmp (pc_dnotin hu (pv 8) (pv 4)))))) (pss_one (ps_dput hu (pv 4) (pv 8) (pe_op op_cat (pe_dget hu (pv 4) (pv 7) (fun _ _ => rfl)) (pe_lst (pa_cons (pv 6) pa_nil))) rfl)) (pss_one (ps_if (PW.pt (pw_and (pt_cmp (pc_din hu (pv 8) (pv 4))) (pw_and1 (pt_cmp (pc_dnotin hu (pv 7) (pv 4)))))) (pss_one (ps_dput hu (pv 4) (pv 7) (pe_op op_cat (pe_dget hu (pv 4) (pv 8) (fun _ _ => rfl)) (pe_lst (pa_cons (pv 6) pa_nil))) rfl)) pss_nil))))))))
      (pss_one (ps_ret (pe_dget2 hu (pv 4) (pv 3) (pe_lst pa_nil) ⟨rfl, rfl, rfl, rfl⟩)))))), ?_⟩
    refine tSeq_go ?_
    refine fun d hd => ?_
    have s0 := same_new (o := .dK []) hd
    have hd0 : (upd H d (.dK [])) d = some (.dK []) := upd_same
    generalize upd H d (.dK []) = H0 at *
    dsimp only [gName]
    refine at_st [some (.ref a), some (.ref al), some (.int (p0 : Nat)), some (.int (q0 : Nat)), some (.ref d), none, none, none, none] rfl ?_
    refine tSeq_go ?_
    refine ⟨Nat.zero_le _, fun m0 hm0 => ?_⟩
    have s1 := same_new (o := .lst []) hm0
    refine ⟨_, rfl, _, rfl, d, _, rfl, DPut.k (k := Sum.inl (p0 : Int)) (s1 _ _ hd0) (by show (0 : Nat) < _; decide), ?_⟩
    have R1 : Roads ts tk n p0 (upd (upd H0 m0 (.lst [])) d (.dK (putK [] (Sum.inl (p0 : Int)) (.ref m0)))) d [p0] := by
      have nm : m0 ≠ d := by
        rintro rfl
        rw [hd0] at hm0
        cases hm0
      refine ⟨⟨_, upd_same, rfl, fun p hp => ?_⟩, by simp, by simpa using hp0, by simp⟩
      obtain rfl := List.mem_singleton.mp hp
      exact ⟨m0, [], by simp [putK, valV], by rw [upd_ne nm]; exact upd_same, .nil, by simp, .nil, by simp⟩
    have s2 : Same H (upd (upd H0 m0 (.lst [])) d (.dK (putK [] (Sum.inl (p0 : Int)) (.ref m0)))) := same_old hd (s0.trans s1)
    generalize upd (upd H0 m0 (.lst [])) d (.dK (putK [] (Sum.inl (p0 : Int)) (.ref m0))) = H1 at *
    clear s1 s0 hd0 hm0
    show tSeq _ _ _ _ _
    refine tSeq_go ?_
    refine ⟨_, rfl, a, _, _, _, rfl, rfl, sqT_same s2 ha, atI_nat (j := 0) rfl, (n : Int), rfl, by omega, by omega, ?_⟩
    refine for_range (lo := 0) (n := (n : Int).toNat) (fun i σ H' => ∃ (v5 v6 v7 v8 : Option V) (fnd : List Nat), σ = [some (.ref a), some (.ref al), some (.int (p0 : Nat)), some (.int (q0 : Nat)), some (.ref d), v5, v6, v7, v8] ∧ Same H H' ∧
      Roads ts tk n p0 H' d fnd ∧ ((∀ k ∈ tk, ClosedT ts fnd k) ∨ i + 1 ≤ fnd.length)) ?_ ?_ ?_
    · exact ⟨none, none, none, none, [p0], rfl, s2, R1, .inr (by simp)⟩
    · rintro i σ H2 hi ⟨v5, v6, v7, v8, fnd0, rfl, s2, R2, prog0⟩
      rw [Int.zero_add]
      have hal2 := s2 _ _ hal
      refine ⟨_, rfl, al, rfl, ⟨_, SqL.of hal2⟩, ?_⟩
      refine for_it (walk_list (xs := natsV tk)) (fun j σ H' => ∃ (v6 v7 v8 : Option V) (fnd : List Nat), σ = [some (.ref a), some (.ref al), some (.int (p0 : Nat)), some (.int (q0 : Nat)), some (.ref d), some (.int (i : Nat)), v6, v7, v8] ∧ Same H H' ∧
        Roads ts tk n p0 H' d fnd ∧ ((∀ k ∈ tk, ClosedT ts fnd0 k) → fnd = fnd0) ∧ (fnd0.length + 1 ≤ fnd.length ∨ fnd = fnd0 ∧ ∀ j', j' < j → ∀ k, tk[j']? = some k → ClosedT ts fnd0 k)) ?_ ?_ ?_ ?_
      · exact ⟨v6, v7, v8, fnd0, rfl, s2, R2, fun _ => rfl, .inr ⟨rfl, fun j' hj => absurd hj (Nat.not_lt_zero _)⟩⟩
      · rintro j σ H' _ ⟨v6, v7, v8, fnd, rfl, sH, _⟩
        exact SqL.of (sH _ _ hal)
      · rintro j x σ H3b H3 hj ⟨v6, v7, v8, fnd, rfl, s3, R3, still0, prog⟩ ⟨rfl, hx⟩
        obtain ⟨kk, hkk, rfl⟩ := get_map hx
        have hkt := List.mem_of_getElem? hkk
        have hkl := htk kk hkt
        have ht : ts[kk]? = some ts[kk] := List.getElem?_eq_getElem hkl
        generalize ts[kk] = t at ht
        have hte := hends t (List.mem_of_getElem? ht)
        have h1n : t.1 < n := by omega
        obtain ⟨y, hy, hyd⟩ := dpAll_at (dpAll_same s3 _ hys) (show (ts.map tieD)[kk]? = some (tieD t) by rw [List.getElem?_map, ht]; rfl)
        obtain ⟨az, rfl, haz⟩ := dp_tie hyd
        show tSeq _ _ _ _ _
        refine tSeq_go ?_
        refine ⟨_, rfl, a, _, _, _, rfl, rfl, sqT_same s3 ha, atI_nat (j := 1) rfl, _, rfl, c, _, _, _, rfl, rfl, sqT_same s3 hc, atI_nat hy, az, _, rfl, haz, rfl, _, _, rfl, _, _, rfl, rfl, ?_⟩
        dsimp only [gName]
        refine at_st [some (.ref a), some (.ref al), some (.int (p0 : Nat)), some (.int (q0 : Nat)), some (.ref d), some (.int (i : Nat)), some (.int (kk : Nat)), some (.int (t.1 : Nat)), some (.int (t.2 : Nat))] rfl ?_
        obtain ⟨⟨kvs, g1, g2, g3⟩, g4, g5, g6⟩ := id R3
        have hkv : kvs.length ≤ 1000 := by
          rw [kv_len g2]
          exact Nat.le_trans (nodup_small n fnd g4 g5) hn
        have stay : ClosedT ts fnd kk → ∃ (v6 v7 v8 : Option V) (fnd : List Nat), [some (V.ref a), some (V.ref al), some (V.int (p0 : Nat)), some (V.int (q0 : Nat)), some (V.ref d), some (V.int (i : Nat)), some (V.int (kk : Nat)), some (V.int (t.1 : Nat)), some (V.int (t.2 : Nat))] = [some (.ref a), some (.ref al), some (.int (p0 : Nat)), some (.int (q0 : Nat)), some (.ref d), some (.int (i : Nat)), v6, v7, v8] ∧ Same H H3 ∧
            Roads ts tk n p0 H3 d fnd ∧ ((∀ k ∈ tk, ClosedT ts fnd0 k) → fnd = fnd0) ∧ (fnd0.length + 1 ≤ fnd.length ∨ fnd = fnd0 ∧ ∀ j', j' < j + 1 → ∀ k, tk[j']? = some k → ClosedT ts fnd0 k) := fun hcl =>
          ⟨_, _, _, fnd, rfl, s3, R3, still0, prog.imp id fun ⟨e1, e2⟩ => ⟨e1, fun j' hj' k2 hk2 => by
            by_cases e : j' = j
            · subst e
              rw [hkk] at hk2
              cases hk2
              rw [← e1]
              exact hcl
            · exact e2 j' (by omega) k2 hk2⟩⟩
        have grow : ∀ (m : Addr) (H4 : Hp) (q : Nat), ¬ ClosedT ts fnd kk → Same H3 H4 → Roads ts tk n p0 (upd H4 d (.dK (putK kvs (Sum.inl (q : Int)) (.ref m)))) d (fnd ++ [q]) → ∃ (v6 v7 v8 : Option V) (fnd : List Nat), [some (V.ref a), some (V.ref al), some (V.int (p0 : Nat)), some (V.int (q0 : Nat)), some (V.ref d), some (V.int (i : Nat)), some (V.int (kk : Nat)), some (V.int (t.1 : Nat)), some (V.int (t.2 : Nat))] = [some (.ref a), some (.ref al), some (.int (p0 : Nat)), some (.int (q0 : Nat)), some (.ref d), some (.int (i : Nat)), v6, v7, v8] ∧ Same H (upd H4 d (.dK (putK kvs (Sum.inl (q : Int)) (.ref m)))) ∧
            Roads ts tk n p0 (upd H4 d (.dK (putK kvs (Sum.inl (q : Int)) (.ref m)))) d fnd ∧ ((∀ k ∈ tk, ClosedT ts fnd0 k) → fnd = fnd0) ∧ (fnd0.length + 1 ≤ fnd.length ∨ fnd = fnd0 ∧ ∀ j', j' < j + 1 → ∀ k, tk[j']? = some k → ClosedT ts fnd0 k) := fun m H4 q ncl s4 R4 =>
          ⟨_, _, _, fnd ++ [q], rfl, same_old hd (s3.trans s4), R4, (fun z => absurd (by rw [still0 z]; exact z kk hkt) ncl), .inl (by
            rw [List.length_append, List.length_singleton]
            rcases prog with z | ⟨z, _⟩
            · omega
            · rw [z]
              exact Nat.le_refl _)⟩
        have tA : valV kvs (Sum.inl ((t.1 : Nat) : Int)) = valV kvs (Sum.inl ((t.1 : Nat) : Int)) := rfl
        refine ⟨_, rfl, _, rfl, d, _, rfl, DGet.k (k := Sum.inl ((t.1 : Nat) : Int)) g1, _, rfl, ?_⟩
        rw [val_some g2]
        refine ite2 (fun h1 => ?_) (fun h1 => ?_)
        · have hm1 : t.1 ∈ fnd := of_decide_eq_true h1
          refine ⟨_, rfl, _, rfl, d, _, rfl, DGet.k (k := Sum.inl ((t.2 : Nat) : Int)) g1, _, rfl, ?_⟩
          rw [val_none g2]
          refine ite2 (fun h2 => ?_) (fun h2 => ?_)
          · have hm2 : t.2 ∉ fnd := by simpa using h2
            obtain ⟨aw, w0, e1, e2, e3, e4, e5, e6⟩ := g3 t.1 hm1
            refine ⟨_, rfl, _, rfl, d, _, rfl, by rw [← e1]; exact DGet.k (k := Sum.inl ((t.1 : Nat) : Int)) g1, ?_⟩
            refine ⟨_, rfl, by show 1 ≤ sizeLine; decide, fun q1 hq1 => ?_⟩
            have t1 := same_new (o := .lst [.int (kk : Nat)]) hq1
            have hwl : w0.length ≤ 3000 := Nat.le_trans (nodup_small ts.length w0 e5 fun x hx => htk x (e4 x hx)) hl
            refine ⟨aw, q1, _, _, rfl, rfl, t1 _ _ e2, upd_same, by rw [natsV_len]; exact Nat.le_trans (show w0.length + 1 ≤ 100000 by omega) (by decide), fun m hm => ?_⟩
            have t2 := same_new (o := .lst (natsV w0 ++ [V.int (kk : Nat)])) hm
            have t12 := t1.trans t2
            refine ⟨_, rfl, _, rfl, d, _, rfl, DPut.k (k := Sum.inl ((t.2 : Nat) : Int)) (t12 _ _ g1) (Nat.lt_of_lt_of_le (show kvs.length < 100000 by omega) (by decide)), ?_⟩
            exact grow m _ t.2 (fun z => hm2 ((z t ht).mp hm1)) t12 ((R3.same t12).put (t12 _ _ g1) ht hkt (.inl ⟨rfl, rfl⟩) e3 e4 e5 e6 hm1 hm2 hte.2 (by rw [upd_same, natsV_snoc]))
          · have hm2 : t.2 ∈ fnd := by simpa using h2
            refine ⟨_, rfl, _, rfl, d, _, rfl, DGet.k (k := Sum.inl ((t.2 : Nat) : Int)) g1, _, rfl, ?_⟩
            rw [val_some g2]
            refine ite2 (fun h3 => ?_) (fun h3 => absurd (decide_eq_true hm2) h3)
            refine ⟨_, rfl, _, rfl, d, _, rfl, DGet.k (k := Sum.inl ((t.1 : Nat) : Int)) g1, _, rfl, ?_⟩
            rw [val_none g2]
            refine ite2 (fun h4 => absurd hm1 (by simpa using h4)) (fun h4 => ?_)
            exact stay fun u hu => by
              rw [ht] at hu
              cases hu
              exact ⟨fun _ => hm2, fun _ => hm1⟩
        · have hm1 : t.1 ∉ fnd := fun z => h1 (decide_eq_true z)
          refine ⟨_, rfl, _, rfl, d, _, rfl, DGet.k (k := Sum.inl ((t.2 : Nat) : Int)) g1, _, rfl, ?_⟩
          rw [val_some g2]
          refine ite2 (fun h3 => ?_) (fun h3 => ?_)
          · have hm2 : t.2 ∈ fnd := of_decide_eq_true h3
            refine ⟨_, rfl, _, rfl, d, _, rfl, DGet.k (k := Sum.inl ((t.1 : Nat) : Int)) g1, _, rfl, ?_⟩
            rw [val_none g2]
            refine ite2 (fun h4 => ?_) (fun h4 => absurd (by simpa using h4) hm1)
            obtain ⟨aw, w0, e1, e2, e3, e4, e5, e6⟩ := g3 t.2 hm2
            refine ⟨_, rfl, _, rfl, d, _, rfl, by rw [← e1]; exact DGet.k (k := Sum.inl ((t.2 : Nat) : Int)) g1, ?_⟩
            refine ⟨_, rfl, by show 1 ≤ sizeLine; decide, fun q1 hq1 => ?_⟩
            have t1 := same_new (o := .lst [.int (kk : Nat)]) hq1
            have hwl : w0.length ≤ 3000 := Nat.le_trans (nodup_small ts.length w0 e5 fun x hx => htk x (e4 x hx)) hl
            refine ⟨aw, q1, _, _, rfl, rfl, t1 _ _ e2, upd_same, by rw [natsV_len]; exact Nat.le_trans (show w0.length + 1 ≤ 100000 by omega) (by decide), fun m hm => ?_⟩
            have t2 := same_new (o := .lst (natsV w0 ++ [V.int (kk : Nat)])) hm
            have t12 := t1.trans t2
            refine ⟨_, rfl, _, rfl, d, _, rfl, DPut.k (k := Sum.inl ((t.1 : Nat) : Int)) (t12 _ _ g1) (Nat.lt_of_lt_of_le (show kvs.length < 100000 by omega) (by decide)), ?_⟩
            exact grow m _ t.1 (fun z => hm1 ((z t ht).mpr hm2)) t12 ((R3.same t12).put (t12 _ _ g1) ht hkt (.inr ⟨rfl, rfl⟩) e3 e4 e5 e6 hm2 hm1 h1n (by rw [upd_same, natsV_snoc]))
          · have hm2 : t.2 ∉ fnd := fun z => h3 (decide_eq_true z)
            exact stay fun u hu => by
              rw [ht] at hu
              cases hu
              exact ⟨fun z => absurd z hm1, fun z => absurd z hm2⟩
      · rintro σ H3 ⟨v6, v7, v8, fnd, rfl, s3, R3, still0, prog⟩
        refine ⟨_, _, _, _, fnd, rfl, s3, R3, ?_⟩
        have hlt : (natsV tk).length = tk.length := natsV_len tk
        rw [hlt] at prog
        rcases prog with z | ⟨rfl, z⟩
        · rcases prog0 with y | y
          · left
            rw [still0 y]
            exact y
          · right
            omega
        · left
          intro k2 hk2
          obtain ⟨j', hj'⟩ := List.mem_iff_getElem?.mp hk2
          exact z j' (List.getElem?_eq_some_iff.mp hj').1 k2 hj'
    · rintro σ H2 ⟨v5, v6, v7, v8, fnd, rfl, s2, R2, prog⟩
      obtain ⟨⟨kvs, g1, g2, g3⟩, g4, g5, g6⟩ := id R2
      have hcl : ∀ k ∈ tk, ClosedT ts fnd k := prog.resolve_right fun z => by
        have := nodup_small n fnd g4 g5
        omega
      have go : ∀ {w0 : List Nat} {q : Nat}, Way ts p0 w0 q → (∀ x ∈ w0, x ∈ tk) → q ∈ fnd := fun hw0 => by
        induction hw0 with
        | nil => exact fun _ => g6
        | @snoc w' r kk q u hw' hu he ih =>
          intro hx
          have h1 := ih fun x hx2 => hx x (List.mem_append_left _ hx2)
          have h2 := hcl kk (hx kk (List.mem_append_right _ (List.mem_singleton.mpr rfl))) u hu
          rcases he with ⟨e1, e2⟩ | ⟨e1, e2⟩
          · rw [← e2]
            exact h2.mp (by rw [e1]; exact h1)
          · rw [← e2]
            exact h2.mpr (by rw [e1]; exact h1)
      refine ⟨_, rfl, d, rfl, .inl ⟨kvs, .inl g1⟩, _, rfl, Nat.zero_le _, fun m hm => ?_⟩
      have s3 := same_new (o := .lst []) hm
      refine ⟨_, DGet.k (k := Sum.inl (q0 : Int)) (s3 _ _ g1), ?_⟩
      by_cases hq : q0 ∈ fnd
      · obtain ⟨aw, w0, e1, e2, e3, e4, e5, _⟩ := g3 q0 hq
        rw [e1]
        exact k aw w0 _ (s2.trans s3) (s3 _ _ e2) (fun _ => ⟨e3, e5, e4⟩) (fun z => absurd ⟨w0, e3, e4⟩ z)
      · have hvn : valV kvs (Sum.inl (q0 : Int)) = none := by
          have := val_none (p := q0) g2
          rw [decide_eq_false hq] at this
          cases e : valV kvs (Sum.inl (q0 : Int)) with
          | none => rfl
          | some x => rw [e] at this; cases this
        rw [hvn]
        exact k m [] _ (s2.trans s3) upd_same (fun ⟨w0, h1, h2⟩ => absurd (go h1 h2) hq) (fun _ => rfl)
end
end BV

namespace BV
open PySem L2
abbrev sFround : Stmt := top 15
abbrev nFround : List Str := ["web", "lot", "one", "other", "way"]
abbrev pFround : List Str := ["web", "lot"]
theorem scFround : FnScope nFround pFround (defScope sFround) := ⟨rfl, rfl, rfl, by decide +kernel, rfl, by decide +kernel, by decide +kernel⟩
abbrev sIsr : Stmt := top 14
abbrev nIsr : List Str := ["web", "lot"]
abbrev pIsr : List Str := ["web", "lot"]
theorem scIsr : FnScope nIsr pIsr (defScope sIsr) := ⟨rfl, rfl, rfl, by decide +kernel, rfl, by decide +kernel, by decide +kernel⟩

theorem eqv_nats (ks : List Nat) : (PyData.list ((ks.map fun (k : Nat) => (k : Int)).map PyData.int)).eqv (.list []) = decide (ks = []) := by
  cases ks with
  | nil => rfl
  | cons k ks => rfl
theorem way_nil {ts : List Tie} {a q : Nat} {w : List Nat} (h : Way ts a w q) : w = [] → q = a := by
  cases h with
  | nil => exact fun _ => rfl
  | snoc _ _ _ => intro e; simp at e
theorem deg_eq (ts : List Tie) (lot : List Nat) (p : Nat) : deg ts lot p = degE ts lot p := by
  unfold deg degE
  congr 1
  refine List.filter_congr fun k _ => ?_
  unfold atEnd atE
  cases ts[k]? with
  | none => rfl
  | some t => exact (Bool.decide_or _ _).symm
theorem evenB_iff {n : Nat} {ts : List Tie} {lot : List Nat} : evenB n ts lot = true ↔ EvenE n ts lot := by
  rw [even_iff]
  unfold EvenE
  constructor
  · intro h p hp
    have := h p hp
    rw [deg_eq] at this
    omega
  · intro h p hp
    have := h p hp
    rw [deg_eq]
    omega
theorem rd_even {n : Nat} {ts : List Tie} (hends : ∀ t ∈ ts, t.1 < t.2 ∧ t.2 < n) {k : Nat} {r : List Nat} (h : IsRd ts k r) (hk : k ∉ treeL ts ts.length) : EvenE n ts r := fun p hp => by
  obtain ⟨a1, t, w, a2, a3, a4, a5, a6⟩ := h
  have pm : r.Perm (w ++ [k]) := by
    refine (List.perm_ext_iff_of_nodup a1.nd ?_).mpr fun x => by rw [a6, List.mem_append, List.mem_singleton]
    rw [List.nodup_append]
    refine ⟨a4, List.nodup_cons.mpr ⟨by simp, .nil⟩, fun x hx y hy e => ?_⟩
    rw [List.mem_singleton.mp hy] at e
    rw [e] at hx
    exact hk (a5 k hx)
  rw [degE_perm pm]
  exact round_even hends a2 a3 p hp
/-- an even lot within such a round is all of it -/
theorem rd_least {n : Nat} {ts : List Tie} (hends : ∀ t ∈ ts, t.1 < t.2 ∧ t.2 < n) {k : Nat} {r E : List Nat} (h : IsRd ts k r) (hk : k ∉ treeL ts ts.length) (hE : LotA ts.length E) (he : EvenE n ts E) (hs : ∀ x ∈ E, x ∈ r) (hne : E ≠ []) : E = r := by
  have hr := rd_even hends h hk
  obtain ⟨a1, t, w, a2, a3, a4, a5, a6⟩ := h
  have tA := tree_lot ts ts.length (Nat.le_refl _)
  have tF := tree_forest ts ts.length (Nat.le_refl _)
  have inT : ∀ x ∈ r, x ≠ k → x ∈ treeL ts ts.length := fun x hx e => a5 x (((a6 x).mp hx).resolve_right e)
  have hkE : k ∈ E := Classical.byContradiction fun hn => hne (forest_even hends tF E hE.nd (fun x hx => inT x (hs x hx) fun e => hn (e ▸ hx)) tA.2 he)
  have hD : sumL ts.length r E = [] := by
    refine forest_even hends tF _ (sumL_lot _ _ _).nd (fun x hx => ?_) tA.2 (sumL_even a1 hE hr he)
    rcases (mem_sumL.mp hx).2 with z | z
    · exact inT x z.1 fun e => z.2 (e ▸ hkE)
    · exact absurd (hs x z.1) z.2
  refine lot_ext hE a1 fun x hx => ⟨hs x, fun hxr => Classical.byContradiction fun hn => ?_⟩
  have : x ∈ sumL ts.length r E := mem_sumL.mpr ⟨hx, .inl ⟨hxr, hn⟩⟩
  rw [hD] at this
  cases this
def spIsr (K : PySem.W.Frag) : Sp := fun vs H Q _ => ∃ (v lv : V) (n : Nat) (ts : List Tie) (k : Nat) (r : List Nat), vs = [v, lv] ∧ Dp K H v (webD n ts) ∧ Dp K H lv (lotD r) ∧ (∀ t ∈ ts, t.1 < t.2 ∧ t.2 < n) ∧ n ≤ 1000 ∧ ts.length ≤ 60 ∧ k ∉ treeL ts ts.length ∧ IsRd ts k r ∧
  ∀ H', Same H H' → Q (.bl true) H'
def spFround (K : PySem.W.Frag) : Sp := fun vs H Q _ => ∃ (v lv : V) (n : Nat) (ts : List Tie) (k : Nat) (r : List Nat), vs = [v, lv] ∧ Dp K H v (webD n ts) ∧ Dp K H lv (lotD r) ∧ (∀ t ∈ ts, t.1 < t.2 ∧ t.2 < n) ∧ n ≤ 1000 ∧ ts.length ≤ 60 ∧ k ∉ treeL ts ts.length ∧ IsRd ts k r ∧
  ∀ (u : V) H', Same H H' → Dp K H' u (lotD r) → Q u H'
section
variable {P : Program} {w : World} {K : PySem.W.Frag} {mg : Str → Option Value} {base : Heap}
theorem ok_ltr {f f1 : Addr} {fd fd1 : FuncData} (D : Df K mg "_law_tree_rounds" sLtr pLtr f fd) (T : Bl mg) (hsorted : mg "sorted" = none) (D_path : Df K mg "_law_path" sPath pPath f1 fd1) : FnOk P w K mg base CX0 2 f fd pLtr (spLtr K) := by
  have G_path : FnOk P w K mg base CX0 1 f1 fd1 pPath (spPath K) := ok_path D_path T
  refine D.fn.ok scLtr (fun vs H Q E h => ?_) (fun cdv A outer s H vs Q E hr h => ?_)
  · obtain ⟨v, n, ts, rfl, _⟩ := h
    rfl
  · obtain ⟨v, n, ts, rfl, hw, hok, hn, hl, k⟩ := h
    have hr_path : Room 1 _ := hr
    have nd := scLtr.nd
    have hends := hok.ends
    obtain ⟨a, c, ys, rfl, ha, hc, hys⟩ := dp_web hw
    have hyl : ys.length = ts.length := by rw [dpAll_len hys, List.length_map]
    refine ⟨_, (pss_cons (ps_par (i := 1) (j := 2) (by rfl) nd rfl rfl (by decide) rfl rfl (pa_cons (pe_lst pa_nil) (pa_cons (pe_lst pa_nil) pa_nil)) (by rfl))
      (pss_cons (ps_for PassesOwn.never rfl (enumT K (by rfl) T.enumerate (pa_cons (pe_ix (ixT K) (pv 0) pe_int (fun _ _ => rfl)) pa_nil)) (pgT K rfl (pgs_cons (pg_name (i := 3) nd rfl (by first | exact Or.inl rfl | exact Or.inr rfl)) (pgs_cons (pgT K rfl (pgs_cons (pg_name (i := 4) nd rfl (by first | exact Or.inl rfl | exact Or.inr rfl)) (pgs_cons (pg_name (i := 5) nd rfl (by first | exact Or.inl rfl | exact Or.inr rfl)) pgs_nil))) pgs_nil))) (pss_cons (ps_set (i := 6) nd rfl (by first | exact Or.inl rfl | exact Or.inr rfl) (pe_call G_path hr_path (by rfl) D_path.ad D_path.fn.kp D_path.bd .nil pass0 (pa_cons (pv 0) (pa_cons (pv 1) (pa_cons (pv 4) (pa_cons (pv 5) pa_nil))))))
      (pss_one (ps_if (pt_cmpR (opEqD K hr.units) (pv 6) (pe_lst pa_nil) (nomark _)) (pss_one (ps_expr (pe_bm PySem.F.plainAttrs_list PySem.F.slot_list_append PySem.F.type_list_append mt_append (pv 1) (pa_cons (pv 3) pa_nil)))) (pss_one (ps_expr (pe_bm PySem.F.plainAttrs_list PySem.F.slot_list_append PySem.F.type_list_append mt_append (pv 2) (pa_cons (pe_callTy (tupleK K) (by rfl) T.tuple (by decide +kernel) (pa_cons (pe_callB cr_sorted (by rfl) hsorted (by decide +kernel) (pa_cons (pe_op op_cat (pv 6) (pe_lst (pa_cons (pv 3) pa_nil))) pa_nil)) pa_nil)) pa_nil))))))))
      (pss_one (ps_ret (pe_callTy (tupleK K) (by rfl) T.tuple (by decide +kernel) (pa_cons (pv 2) pa_nil)))))), ?_⟩
    refine tSeq_go ?_
    refine ⟨Nat.zero_le _, fun m1 hm1 => ⟨Nat.zero_le _, fun m2 hm2 => ⟨_, _, rfl, ?_⟩⟩⟩
    have t1 := same_new (o := .lst []) hm1
    have t2 := same_new (o := .lst []) hm2
    have n12 : m1 ≠ m2 := by
      rintro rfl
      rw [upd_same] at hm2
      cases hm2
    have hm1H : H m1 = none := hm1
    have hm2H : H m2 = none := Same.free t1 hm2
    have s0 := t1.trans t2
    have h01 : (upd (upd H m1 (.lst [])) m2 (.lst [])) m1 = some (.lst (natsV (treeL ts 0))) := t2 _ _ upd_same
    have h02 : (upd (upd H m1 (.lst [])) m2 (.lst [])) m2 = some (.lst []) := upd_same
    generalize upd (upd H m1 (.lst [])) m2 (.lst []) = H0 at *
    clear t1 t2 hm1 hm2
    dsimp only
    refine at_st [some (.ref a), some (.ref m1), some (.ref m2), none, none, none, none] rfl ?_
    refine tSeq_go ?_
    refine ⟨_, rfl, a, _, _, _, rfl, rfl, sqT_same s0 ha, atI_nat (j := 1) rfl, c, ys, rfl, sqT_same s0 hc, ?_⟩
    refine for_it (walk_enumT (xs := ys)) (fun i σ H' => ∃ (v3 v4 v5 v6 : Option V) (xs : List V), σ = [some (.ref a), some (.ref m1), some (.ref m2), v3, v4, v5, v6] ∧ Same H H' ∧
      H' m1 = some (.lst (natsV (treeL ts i))) ∧ H' m2 = some (.lst xs) ∧ DpAll K H' xs (((nonT ts i).map (rdL ts)).map lotD)) ?_ ?_ ?_ ?_
    · exact ⟨none, none, none, none, [], rfl, s0, h01, h02, .nil⟩
    · rintro i σ H' _ ⟨v3, v4, v5, v6, xs, rfl, sH, _⟩
      exact sqT_same sH hc
    · rintro i x σ H3 H'' hi ⟨v3, v4, v5, v6, xs, rfl, s3, hm1, hm2, hxs⟩ ⟨q1, y, z, rfl, hq1, rfl, hy, hz⟩
      have hil : i < ts.length := by omega
      have ht : ts[i]? = some ts[i] := List.getElem?_eq_getElem hil
      generalize ts[i] = t at ht
      have hte := hends t (List.mem_of_getElem? ht)
      have h1n : t.1 < n := by omega
      have hy' : some (V.int i) = some y := hy
      cases hy'
      have hz' : ys[i]? = some z := hz
      obtain ⟨dd, hdd, hzd⟩ := dpAll_get hys hz'
      rw [List.getElem?_map, ht] at hdd
      cases hdd
      obtain ⟨az, rfl, haz⟩ := dp_tie hzd
      have sq := same_new (o := .tup [.int i, .ref az]) hq1
      have s4 := s3.trans sq
      have h41 := sq _ _ hm1
      have h42 := sq _ _ hm2
      have hxs4 := dpAll_same sq _ hxs
      have hqt := upd_same (H := H3) (a := q1) (o := .tup [.int (i : Nat), .ref az])
      generalize upd H3 q1 (.tup [.int (i : Nat), .ref az]) = H4 at *
      refine ⟨q1, _, rfl, SqT.of hqt, rfl, _, _, rfl, _, _, rfl, az, _, rfl, sqT_same s4 haz, rfl, _, _, rfl, _, _, rfl, rfl, rfl, ?_⟩
      have tlA := tree_lot ts i (by omega)
      have tl := lotA_len tlA
      have hnl : (nonT ts i).length ≤ i := by
        unfold nonT
        exact Nat.le_trans (List.length_filter_le _ _) (by rw [List.length_range]; exact Nat.le_refl _)
      have hxl : xs.length ≤ i := by
        rw [dpAll_len hxs4, List.length_map, List.length_map]
        exact hnl
      show tSeq _ _ _ _ _
      refine tSeq_go ?_
      refine ⟨_, rfl, _, rfl, _, rfl, _, rfl, .ref a, m1, n, ts, treeL ts i, t.1, t.2, rfl, dp_same s4 _ hw, h41, hends, (fun x hx => Nat.lt_trans (tlA.2 x hx) hil), h1n, hte.2, by omega, by omega, fun lw w0 H5 s5 hlw hyes hno => ?_⟩
      have s45 := s4.trans s5
      have h51 := s5 _ _ h41
      have h52 := s5 _ _ h42
      have hxs5 := dpAll_same s5 _ hxs4
      dsimp only [gName]
      refine at_st [some (.ref a), some (.ref m1), some (.ref m2), some (.int (i : Nat)), some (.int (t.1 : Nat)), some (.int (t.2 : Nat)), some (.ref lw)] rfl ?_
      refine ⟨_, rfl, Nat.zero_le _, fun q0 hq0 => ?_⟩
      have s6 := same_new (o := .lst []) hq0
      refine ⟨.list ((w0.map fun (k : Nat) => (k : Int)).map PyData.int), .list [], .lst (SqL.of (by rw [s6 _ _ hlw, natsV_ints])) (dpAll_ints _), .lst (SqL.of upd_same) .nil, shaped_intsL _, shaped_intsL [], _, rfl, ?_⟩
      rw [eqv_nats]
      have s46 := s45.trans s6
      have h61 := s6 _ _ h51
      have h62 := s6 _ _ h52
      have hxs6 := dpAll_same s6 _ hxs5
      have hlw6 := s6 _ _ hlw
      generalize upd H5 q0 (.lst []) = H6 at *
      refine ite2 (fun hh => ?_) (fun hh => ?_)
      · have hw0 : w0 = [] := of_decide_eq_true hh
        have hc2 : ¬ Conn ts (treeL ts i) t.1 t.2 := fun z => by
          have := (hyes z).1
          rw [hw0] at this
          have e2 := way_nil this rfl
          omega
        refine ⟨_, rfl, .inl ⟨rfl, _, SqL.of h61⟩, _, rfl, m1, _, _, rfl, rfl, h61, ?_, ?_⟩
        · rw [natsV_len]
          exact Nat.lt_of_lt_of_le (show (treeL ts i).length < 100000 by omega) (by decide)
        rw [natsV_snoc]
        have hin : i ∈ treeL ts ts.length := (tree_mem ht hil (Nat.le_refl _)).mpr hc2
        have en : nonT ts (i + 1) = nonT ts i := by
          unfold nonT
          rw [range_filter_succ, if_neg (by simp [hin]), List.append_nil]
        refine ⟨_, _, _, _, xs, rfl, same_old hm1H s46, by rw [upd_same, tree_no ht hc2], by rw [upd_ne n12.symm]; exact h62, ?_⟩
        rw [en]
        exact dpAll_kf (kf_upd h61 ⟨(fun _ e => nomatch e), (fun _ _ e => nomatch e)⟩) _ (still_lotsL _) hxs6
      · have hw0 : w0 ≠ [] := fun z => hh (decide_eq_true z)
        have hc2 : Conn ts (treeL ts i) t.1 t.2 := Classical.byContradiction fun z => hw0 (hno z)
        obtain ⟨y1, y2, y3⟩ := hyes hc2
        have hni : i ∉ treeL ts ts.length := fun z => ((tree_mem ht hil (Nat.le_refl _)).mp z) hc2
        have hwl : w0.length ≤ 60 := Nat.le_trans (nodup_small ts.length w0 y2 fun x hx => Nat.lt_trans (tlA.2 x (y3 x hx)) hil) hl
        refine ⟨_, rfl, .inl ⟨rfl, _, SqL.of h62⟩, _, rfl, _, rfl, by show 1 ≤ sizeLine; decide, fun q2 hq2 => ?_⟩
        have t1 := same_new (o := .lst [.int (i : Nat)]) hq2
        refine ⟨lw, q2, _, _, rfl, rfl, t1 _ _ hlw6, upd_same, by rw [natsV_len]; exact Nat.le_trans (show w0.length + 1 ≤ 100000 by omega) (by decide), fun m hm => ?_⟩
        have t2 := same_new (o := .lst (natsV w0 ++ [V.int (i : Nat)])) hm
        have ecw : natsV w0 ++ [V.int (i : Nat)] = ((w0 ++ [i]).map fun (k : Nat) => (k : Int)).map V.int := by
          rw [natsV_snoc, natsV_ints]
        refine ⟨m, _, rfl, SqL.of (by rw [upd_same, ecw]), by rw [List.length_map, List.length_append, List.length_singleton]; omega, fun zs p3 hperm hsort hp3 => ?_⟩
        have hnd : (w0 ++ [i]).Nodup := by
          rw [List.nodup_append]
          refine ⟨y2, List.nodup_cons.mpr ⟨by simp, .nil⟩, fun x hx y hy e => ?_⟩
          rw [List.mem_singleton.mp hy] at e
          rw [e] at hx
          exact Nat.lt_irrefl _ (tlA.2 i (y3 i hx))
        obtain ⟨ns, rfl, hnp, hasc⟩ := sorted_nats hperm hsort hnd
        have t3 := same_new (o := .lst ((ns.map fun (k : Nat) => (k : Int)).map V.int)) hp3
        have hRd : IsRd ts i ns := ⟨⟨hasc, fun x hx => by
          rcases List.mem_append.mp (hnp.mem_iff.mp hx) with z | z
          · exact Nat.lt_trans (tlA.2 x (y3 x z)) hil
          · rw [List.mem_singleton.mp z]
            exact hil⟩, t, w0, ht, y1, y2, (fun x hx => tree_mono (by omega) x (y3 x hx)), fun x => by rw [hnp.mem_iff, List.mem_append, List.mem_singleton]⟩
        refine ⟨p3, _, rfl, .inl ⟨SqL.of upd_same, fun u hu2 => ?_⟩⟩
        have t4 := same_new (o := .tup ((ns.map fun (k : Nat) => (k : Int)).map V.int)) hu2
        have t14 := t1.trans (t2.trans (t3.trans t4))
        have h91 := t14 _ _ h61
        have h92 := t14 _ _ h62
        have hxs9 := dpAll_same t14 _ hxs6
        have s9 := s46.trans t14
        refine ⟨m2, _, _, rfl, rfl, h92, ?_, ?_⟩
        · exact Nat.lt_of_lt_of_le (show xs.length < 100000 by omega) (by decide)
        have en : nonT ts (i + 1) = nonT ts i ++ [i] := by
          unfold nonT
          rw [range_filter_succ, if_pos (by simp [hni])]
        have kf9 := kf_upd (x := .lst (xs ++ [.ref u])) h92 ⟨(fun _ e => nomatch e), (fun _ _ e => nomatch e)⟩
        refine ⟨_, _, _, _, xs ++ [.ref u], rfl, same_old hm2H s9, by rw [upd_ne n12, tree_yes ht hc2]; exact h91, upd_same, ?_⟩
        rw [en, List.map_append, List.map_append]
        refine dpAll_app (dpAll_kf kf9 _ (still_lotsL _) hxs9) (.cons ?_ .nil)
        rw [rdL_eq hends hRd]
        refine dp_kf kf9 _ (still_lot _) ?_
        rw [← natsV_ints]
        exact lot_dp (SqT.of upd_same)
    · rintro σ H3 ⟨v3, v4, v5, v6, xs, rfl, s3, hm1, hm2, hxs⟩
      rw [hyl] at hxs
      refine ⟨_, rfl, m2, _, rfl, .inl ⟨SqL.of hm2, fun u hu2 => ?_⟩⟩
      have t1 := same_new (o := .tup xs) hu2
      exact k _ _ (s3.trans t1) (.tup (SqT.of upd_same) (dpAll_same t1 _ hxs))
theorem ok_fround {f f3 f4 : Addr} {fd fd3 fd4 : FuncData} (D : Df K mg "_first_round" sFround pFround f fd) (T : Bl mg) (hsorted : mg "sorted" = none) (D_far : Df K mg "far_end" sFar pFar f3 fd3) (D_ways : Df K mg "ways_from" sWays pWays f4 fd4) : FnOk P w K mg base CX0 3 f fd pFround (spFround K) := by
  have G_ways : FnOk P w K mg base CX0 2 f4 fd4 pWays (spWays K) := ok_ways D_ways T D_far
  refine D.fn.ok scFround (fun vs H Q E h => ?_) (fun cdv A outer s H vs Q E hr h => ?_)
  · obtain ⟨v, lv, n, ts, kk, r, rfl, _⟩ := h
    rfl
  · obtain ⟨v, lv, n, ts, kk, r, rfl, hw, hlv, hends, hn, hl, hkT, hR, k⟩ := h
    have hr_ways : Room 2 _ := hr
    have hu := hu_of hr
    have nd := scFround.nd
    have hev := rd_even hends hR hkT
    have hRA := hR.1
    obtain ⟨a, c, ys, rfl, ha, hc, hys⟩ := dp_web hw
    obtain ⟨al, rfl, hal⟩ := dp_lotN hlv
    obtain ⟨k0, rest, rfl⟩ : ∃ k0 rest, r = k0 :: rest := by
      cases r with
      | nil =>
        have hm : kk ∈ ([] : List Nat) := by
          obtain ⟨_, t, w, _, _, _, _, h6⟩ := hR
          exact (h6 kk).mpr (.inr rfl)
        cases hm
      | cons k0 rest => exact ⟨k0, rest, rfl⟩
    have hk0 := hRA.2 k0 (List.mem_cons_self ..)
    have hrest : ∀ x ∈ rest, x < ts.length := fun x hx => hRA.2 x (List.mem_cons_of_mem _ hx)
    have hasc := List.pairwise_cons.mp hRA.1
    have hnd0 := List.nodup_cons.mp hRA.nd
    have ht : ts[k0]? = some ts[k0] := List.getElem?_eq_getElem hk0
    generalize ts[k0] = t at ht
    have hte := hends t (List.mem_of_getElem? ht)
    have h1n : t.1 < n := by omega
    obtain ⟨y, hy, hyd⟩ := dpAll_at hys (show (ts.map tieD)[k0]? = some (tieD t) by rw [List.getElem?_map, ht]; rfl)
    obtain ⟨az, rfl, haz⟩ := dp_tie hyd
    have hrl : rest.length ≤ 60 := Nat.le_trans (nodup_small ts.length rest hnd0.2 hrest) hl
    refine ⟨_, (pss_cons (ps_asg (pe_ix (ixT K) (pe_ix (ixT K) (pv 0) pe_int (fun _ _ => rfl)) (pe_ix (ixT K) (pv 1) pe_int (fun _ _ => rfl)) (fun _ _ => rfl)) (pgT K rfl (pgs_cons (pg_name (i := 2) nd rfl (by first | exact Or.inl rfl | exact Or.inr rfl)) (pgs_cons (pg_name (i := 3) nd rfl (by first | exact Or.inl rfl | exact Or.inr rfl)) pgs_nil))))
      (pss_cons (ps_set (i := 4) nd rfl (by first | exact Or.inl rfl | exact Or.inr rfl) (pe_dget hu (pe_call G_ways hr_ways (by rfl) D_ways.ad D_ways.fn.kp D_ways.bd .nil pass0 (pa_cons (pv 0) (pa_cons (pe_slice (slTA K) (pv 1) (po_some pe_int) po_none) (pa_cons (pv 2) pa_nil)))) (pv 3) (fun _ _ => rfl)))
      (pss_one (ps_ret (pe_callTy (tupleK K) (by rfl) T.tuple (by decide +kernel) (pa_cons (pe_callB (cr_sortTup K) (by rfl) hsorted (by decide +kernel) (pa_cons (pe_op (catA K) (pe_tup (pa_cons (pe_ix (ixT K) (pv 1) pe_int (fun _ _ => rfl)) pa_nil)) (pv 4)) pa_nil)) pa_nil)))))), ?_⟩
    refine tSeq_go ?_
    refine ⟨_, rfl, a, _, _, _, rfl, rfl, ha, atI_nat (j := 1) rfl, _, rfl, al, _, _, _, rfl, rfl, hal, atI_nat (j := 0) rfl, c, _, _, _, rfl, rfl, hc, atI_nat hy, az, _, rfl, haz, rfl, _, _, rfl, _, _, rfl, rfl, ?_⟩
    dsimp only [gName]
    refine at_st [some (.ref a), some (.ref al), some (.int (t.1 : Nat)), some (.int (t.2 : Nat)), none] rfl ?_
    refine tSeq_go ?_
    refine ⟨_, rfl, _, rfl, 1, rfl, ?_⟩
    dsimp only [tNoPart]
    refine slA_by rfl hal fun c1 H1 s1 hc1 => ?_
    have ecut : cutV (natsV (k0 :: rest)) (some 1) none = natsV rest := cut_lo (natsV (k0 :: rest)) 1
    rw [ecut] at hc1
    refine ⟨_, rfl, .ref a, .ref c1, n, ts, rest, t.1, rfl, dp_same s1 _ hw, lot_dp hc1, hends, hrest, h1n, by omega, by omega, fun d fnd H5 hd5 s5 hF hS => ?_⟩
    have s15 := s1.trans s5
    obtain ⟨⟨kvs, f1, f2, f3⟩, f4, f5, f6⟩ := id hF
    have hin2 : t.2 ∈ fnd := Classical.byContradiction fun hni => by
      have cr := even_cross hends hRA.2 hev fnd
      have e : (k0 :: rest).filter (crossK ts fnd) = [k0] := by
        rw [List.filter_cons]
        have c0 : crossK ts fnd k0 = true := by
          unfold crossK
          rw [ht]
          show crosses fnd t = true
          rw [crosses_xor]
          unfold side
          rw [decide_eq_true f6, decide_eq_false hni]
          rfl
        rw [if_pos c0]
        congr 1
        refine List.filter_eq_nil_iff.mpr fun x hx => ?_
        obtain ⟨u, htx⟩ : ∃ u, ts[x]? = some u := ⟨_, List.getElem?_eq_getElem (hrest x hx)⟩
        unfold crossK
        rw [htx]
        show ¬ crosses fnd u = true
        rw [crosses_xor]
        unfold side
        have e1 : u.1 ∈ fnd ↔ u.2 ∈ fnd := ⟨fun z => (hS u.1 z x hx u htx).1 rfl, fun z => (hS u.2 z x hx u htx).2 rfl⟩
        by_cases z : u.1 ∈ fnd
        · have z2 := e1.mp z
          simp [z, z2]
        · have z2 : u.2 ∉ fnd := fun q => z (e1.mpr q)
          simp [z, z2]
      unfold crossN at cr
      rw [e] at cr
      have cr2 : 1 % 2 = 0 := cr
      exact absurd cr2 (by decide)
    obtain ⟨aw, w0, g1, g2, g3, g4, g5, g6, g7⟩ := f3 t.2 hin2
    refine ⟨_, rfl, d, _, rfl, by rw [← g1]; exact DGet.k (k := Sum.inl ((t.2 : Nat) : Int)) f1, ?_⟩
    dsimp only [gName]
    refine at_st [some (.ref a), some (.ref al), some (.int (t.1 : Nat)), some (.int (t.2 : Nat)), some (.ref aw)] rfl ?_
    have hwl : w0.length ≤ 60 := Nat.le_trans (nodup_small ts.length w0 g6 fun x hx => hrest x (g4 x hx)) hl
    refine ⟨_, rfl, al, _, _, _, rfl, rfl, sqT_same s15 hal, atI_nat (j := 0) rfl, by show 1 ≤ sizeLine; decide, fun q2 hq2 => ⟨_, rfl, ?_⟩⟩
    have t1 := same_new (o := .tup [.int (k0 : Nat)]) hq2
    refine catA_by rfl rfl (SqT.of upd_same) (sqT_same t1 g2) (by rw [natsV_len]; show 1 + _ ≤ 100000; omega) fun cw H8 t2 hcw => ?_
    have ecw : [V.int (k0 : Nat)] ++ natsV w0 = ((k0 :: w0).map fun (k : Nat) => (k : Int)).map V.int := by
      rw [natsV_ints]
      rfl
    rw [ecw] at hcw
    refine ⟨cw, _, rfl, hcw, by rw [List.length_map, List.length_cons]; omega, fun zs p3 hperm hsort hp3 => ?_⟩
    have hnd : (k0 :: w0).Nodup := List.nodup_cons.mpr ⟨fun z => hnd0.1 (g4 k0 z), g6⟩
    obtain ⟨ns, rfl, hnp, hasc2⟩ := sorted_nats hperm hsort hnd
    have t3 := same_new (o := .lst ((ns.map fun (k : Nat) => (k : Int)).map V.int)) hp3
    have hmem : ∀ x ∈ ns, x ∈ k0 :: rest := fun x hx => by
      rcases List.mem_cons.mp (hnp.mem_iff.mp hx) with z | z
      · rw [z]
        exact List.mem_cons_self ..
      · exact List.mem_cons_of_mem _ (g4 x z)
    have hns : ns = k0 :: rest := by
      refine rd_least hends hR hkT ⟨hasc2, fun x hx => hRA.2 x (hmem x hx)⟩ (fun p hp => ?_) hmem fun e => ?_
      · have pm : ns.Perm (w0 ++ [k0]) := hnp.trans (List.perm_append_singleton k0 w0).symm
        rw [degE_perm pm]
        exact round_even hends ht g3 p hp
      · rw [e] at hnp
        exact absurd hnp.length_eq (by simp)
    refine ⟨p3, _, rfl, .inl ⟨SqL.of upd_same, fun u hu2 => ?_⟩⟩
    have t4 := same_new (o := .tup ((ns.map fun (k : Nat) => (k : Int)).map V.int)) hu2
    refine k _ _ (s15.trans (t1.trans (t2.trans (t3.trans t4)))) ?_
    rw [← hns, ← natsV_ints]
    exact lot_dp (SqT.of upd_same)
theorem ok_isr {f f1 f2 f3 f4 f5 : Addr} {fd fd1 fd2 fd3 fd4 fd5 : FuncData} (D : Df K mg "is_round" sIsr pIsr f fd) (T : Bl mg) (hsorted : mg "sorted" = none) (D_odd : Df K mg "odd_places" sOdd pOdd f1 fd1) (D_even : Df K mg "is_even" sEven pEven f2 fd2)
    (D_far : Df K mg "far_end" sFar pFar f3 fd3) (D_ways : Df K mg "ways_from" sWays pWays f4 fd4) (D_fround : Df K mg "_first_round" sFround pFround f5 fd5) : FnOk P w K mg base CX0 4 f fd pIsr (spIsr K) := by
  have G_even : FnOk P w K mg base CX0 2 f2 fd2 pEven (spEven K) := ok_even D_even T D_odd
  have G_fround : FnOk P w K mg base CX0 3 f5 fd5 pFround (spFround K) := ok_fround D_fround T hsorted D_far D_ways
  refine D.fn.ok scIsr (fun vs H Q E h => ?_) (fun cdv A outer s H vs Q E hr h => ?_)
  · obtain ⟨v, lv, n, ts, kk, r, rfl, _⟩ := h
    rfl
  · obtain ⟨v, lv, n, ts, kk, r, rfl, hw, hlv, hends, hn, hl, hkT, hR, k⟩ := h
    have hr_fround : Room 3 _ := hr
    have hr_even : Room 2 _ := hr.mono (by decide)
    have nd := scIsr.nd
    have hev : evenB n ts r = true := evenB_iff.mpr (rd_even hends hR hkT)
    have hne : r ≠ [] := fun e => by
      obtain ⟨_, t, w, _, _, _, _, h6⟩ := hR
      have := (h6 kk).mpr (.inr rfl)
      rw [e] at this
      cases this
    refine ⟨_, (pss_one (ps_ret (pe_and (pe_cmpR (opNeD K hr.units) (pv 1) (pe_tup pa_nil) (nomark _)) (pe_and (pe_call G_even hr_even (by rfl) D_even.ad D_even.fn.kp D_even.bd .nil pass0 (pa_cons (pv 0) (pa_cons (pv 1) pa_nil))) (pe_one (pe_cmpR (opEqD K hr.units) (pe_call G_fround hr_fround (by rfl) D_fround.ad D_fround.fn.kp D_fround.bd .nil pass0 (pa_cons (pv 0) (pa_cons (pv 1) pa_nil))) (pv 1) (nomark _))))))), ?_⟩
    refine ⟨_, rfl, Nat.zero_le _, fun q hq => ?_⟩
    have s1 := same_new (o := .tup []) hq
    refine ⟨lotD r, lotD [], dp_same s1 _ hlv, lot_dp (SqT.of upd_same), shaped_lotN _, shaped_lotN _, _, rfl, ?_⟩
    rw [eqv_lots, decide_eq_false hne]
    refine iteT ?_
    refine ⟨_, rfl, _, rfl, v, lv, n, ts, r, rfl, dp_same s1 _ hw, dp_same s1 _ hlv, hends, hR.1.2, hn, fun H2 s2 => ⟨_, rfl, ?_⟩⟩
    rw [hev]
    refine iteT ?_
    have s12 := s1.trans s2
    refine ⟨_, rfl, _, rfl, v, lv, n, ts, kk, r, rfl, dp_same s12 _ hw, dp_same s12 _ hlv, hends, hn, hl, hkT, hR, fun u H3 s3 hu3 => ?_⟩
    refine ⟨_, rfl, lotD r, lotD r, hu3, dp_same (s12.trans s3) _ hlv, shaped_lotN _, shaped_lotN _, ?_⟩
    rw [eqv_lots, decide_eq_true rfl]
    exact k _ (s12.trans s3)
end
end BV

namespace BV
open PySem L2
abbrev sWhole : Stmt := top 31
abbrev nWhole : List Str := ["_law_web_here", "_law_sums", "_law_lot_here", "_law_evens", "_law_number", "_law_own"]
abbrev pWhole : List Str := ["_law_web_here"]
theorem scWhole : FnScope nWhole pWhole (defScope sWhole) := ⟨rfl, rfl, rfl, by decide +kernel, rfl, by decide +kernel, by decide +kernel⟩

def spWhole (K : PySem.W.Frag) : Sp := fun vs H Q _ => ∃ (v : V) (n : Nat) (ts : List Tie), vs = [v] ∧ Dp K H v (webD n ts) ∧ WebOk n ts ∧ n ≤ 1000 ∧ ts.length ≤ 7 ∧ ∀ H', Same H H' → Q (.bl true) H'
open Classical in
theorem evens_yes {n : Nat} {ts : List Tie} {i : Nat} (h : EvenE n ts (lotN ts.length i)) : evensL n ts (i + 1) = evensL n ts i ++ [lotN ts.length i] := by
  unfold evensL
  rw [List.range_succ, List.map_append, List.filter_append]
  congr 1
  show List.filter _ [lotN ts.length i] = _
  rw [List.filter_cons, if_pos (decide_eq_true h)]
  rfl
open Classical in
theorem evens_no {n : Nat} {ts : List Tie} {i : Nat} (h : ¬ EvenE n ts (lotN ts.length i)) : evensL n ts (i + 1) = evensL n ts i := by
  unfold evensL
  rw [List.range_succ, List.map_append, List.filter_append]
  show _ ++ List.filter _ [lotN ts.length i] = _
  rw [List.filter_cons, if_neg (by rw [decide_eq_false h]; decide)]
  exact List.append_nil _
section
variable {P : Program} {w : World} {K : PySem.W.Frag} {mg : Str → Option Value} {base : Heap}
theorem ok_whole {f f1 f2 f3 f4 f5 f6 f7 f8 f9 : Addr} {fd fd1 fd2 fd3 fd4 fd5 fd6 fd7 fd8 fd9 : FuncData} (D : Df K mg "_law_is_whole" sWhole pWhole f fd) (T : Bl mg) (hsorted : mg "sorted" = none) (D_made : Df K mg "made_one" sMade pMade f1 fd1) (D_ftree : Df K mg "first_tree" sFtree pFtree f2 fd2)
    (D_far : Df K mg "far_end" sFar pFar f3 fd3) (D_ways : Df K mg "ways_from" sWays pWays f4 fd4) (D_trounds : Df K mg "tree_rounds" sTrounds pTrounds f5 fd5) (D_lsum : Df K mg "_law_sum" sLsum pLsum f6 fd6) (D_twos : Df K mg "_law_twos" sTwos ["_law_many"] f7 fd7) (D_lot : Df K mg "_law_lot" sLot pLot f8 fd8)
    {f10 : Addr} {fd10 : FuncData} (D_counts : Df K mg "_law_counts" sCounts pCounts f9 fd9) (D_leven : Df K mg "_law_is_even" sLeven pLeven f10 fd10) : FnOk P w K mg base CX0 4 f fd pWhole (spWhole K) := by
  have G_trounds : FnOk P w K mg base CX0 3 f5 fd5 pTrounds (spTrounds K) := ok_trounds D_trounds T hsorted D_made D_ftree D_far D_ways
  have G_lsum : FnOk P w K mg base CX0 1 f6 fd6 pLsum (spLsum K) := ok_lsum D_lsum T hsorted
  have G_twos : FnOk P w K mg base CX0 1 f7 fd7 ["_law_many"] spTwos := ok_twos D_twos T
  have G_lot : FnOk P w K mg base CX0 1 f8 fd8 pLot (spLotN K) := ok_lot D_lot T
  have G_leven : FnOk P w K mg base CX0 2 f10 fd10 pLeven (spEven K) := ok_leven D_leven T D_counts
  refine D.fn.ok scWhole (fun vs H Q E h => ?_) (fun cdv A outer s H vs Q E hr h => ?_)
  · obtain ⟨v, n, ts, rfl, _⟩ := h
    rfl
  · obtain ⟨v, n, ts, rfl, hw, hok, hn, hl, k⟩ := h
    have hr_trounds : Room 3 _ := hr
    have hr_leven : Room 2 _ := hr.mono (by decide)
    have hr_lsum : Room 1 _ := hr.mono (by decide)
    have hr_twos : Room 1 _ := hr.mono (by decide)
    have hr_lot : Room 1 _ := hr.mono (by decide)
    have nd := scWhole.nd
    have hends := hok.ends
    obtain ⟨a, c, ys0, rfl, ha, hc, hys⟩ := dp_web hw
    have hyl : ys0.length = ts.length := by rw [dpAll_len hys, List.length_map]
    have tA := tree_lot ts ts.length (Nat.le_refl _)
    have hcs : (nonT ts ts.length).length ≤ 7 := by
      unfold nonT
      exact Nat.le_trans (List.length_filter_le _ _) (by rw [List.length_range]; exact hl)
    have p7 : (2 : Nat) ^ ts.length ≤ 128 := Nat.pow_le_pow_right (by decide) hl
    refine ⟨_, (pss_cons (ps_set (i := 1) nd rfl (by first | exact Or.inl rfl | exact Or.inr rfl) (pe_lst (pa_cons (pe_tup pa_nil) pa_nil)))
      (pss_cons (ps_for PassesOwn.never rfl (piT K (pe_call G_trounds hr_trounds (by rfl) D_trounds.ad D_trounds.fn.kp D_trounds.bd .nil pass0 (pa_cons (pv 0) pa_nil))) (pg_name (i := 2) nd rfl (by first | exact Or.inl rfl | exact Or.inr rfl)) (pss_one (ps_set (i := 1) nd rfl (by first | exact Or.inl rfl | exact Or.inr rfl) (pe_op op_cat (pv 1) (pe_lc (own := [("_law_own", 5)]) (g := (gName 5)) (tt := tYes) rfl nd (piL K (pv 1)) (blkOk_by (own := [("_law_own", 5)]) (N := nWhole) (sc := defScope sWhole) (by decide +kernel)) (fun _ _ _ _ _ => (pg_name (i := 5) nd rfl (by first | exact Or.inl rfl | exact Or.inr rfl))) (fun _ _ _ _ _ => pts_nil) (fun _ _ _ _ _ => (pe_call G_lsum hr_lsum (by rfl) D_lsum.ad D_lsum.fn.kp D_lsum.bd .nil pass0 (pa_cons (pv 5) (pa_cons (pv 2) pa_nil)))))))))
      (pss_cons (ps_set (i := 3) nd rfl (by first | exact Or.inl rfl | exact Or.inr rfl) (pe_lst pa_nil))
      (pss_cons (ps_for PassesOwn.never rfl (pi_range1 rfl T.range (pa_cons (pe_call G_twos hr_twos (by rfl) D_twos.ad D_twos.fn.kp D_twos.bd .nil pass0 (pa_cons (pe_callB (lenK K) (by rfl) T.len PySem.boot_len (pa_cons (pe_ix (ixT K) (pv 0) pe_int (fun _ _ => rfl)) pa_nil)) pa_nil)) pa_nil)) (pg_name (i := 4) nd rfl (by first | exact Or.inl rfl | exact Or.inr rfl)) (pss_cons (ps_set (i := 2) nd rfl (by first | exact Or.inl rfl | exact Or.inr rfl) (pe_call G_lot hr_lot (by rfl) D_lot.ad D_lot.fn.kp D_lot.bd .nil pass0 (pa_cons (pv 0) (pa_cons (pv 4) pa_nil))))
      (pss_one (ps_if (pt_val (pe_call G_leven hr_leven (by rfl) D_leven.ad D_leven.fn.kp D_leven.bd .nil pass0 (pa_cons (pv 0) (pa_cons (pv 2) pa_nil)))) (pss_one (ps_expr (pe_bm PySem.F.plainAttrs_list PySem.F.slot_list_append PySem.F.type_list_append mt_append (pv 3) (pa_cons (pv 2) pa_nil)))) pss_nil))))
      (pss_one (ps_ret (pe_cmpR (opEqD K hr.units) (pe_callB (cr_sortLots K hr.units) (by rfl) hsorted (by decide +kernel) (pa_cons (pv 1) pa_nil)) (pe_callB (cr_sortLots K hr.units) (by rfl) hsorted (by decide +kernel) (pa_cons (pv 3) pa_nil)) (nomark _)))))))), ?_⟩
    refine tSeq_go ?_
    refine ⟨Nat.zero_le _, fun q0 hq0 => ⟨by show 1 ≤ sizeLine; decide, fun l0 hl0 => ?_⟩⟩
    have t1 := same_new (o := .lst [.ref q0]) hl0
    have s0 := (same_new (o := .tup []) hq0).trans t1
    have h0 : (upd (upd H q0 (.tup [])) l0 (.lst [.ref q0])) l0 = some (.lst [.ref q0]) := upd_same
    have d0 : DpAll K (upd (upd H q0 (.tup [])) l0 (.lst [.ref q0])) [.ref q0] (([[]] : List (List Nat)).map lotD) := .cons (lot_dp (SqT.of (t1 _ _ upd_same))) .nil
    generalize upd (upd H q0 (.tup [])) l0 (.lst [.ref q0]) = H0 at *
    clear t1 hq0 hl0
    dsimp only [gName]
    refine at_st [some (.ref a), some (.ref l0), none, none, none, none] rfl ?_
    refine tSeq_go ?_
    refine ⟨_, rfl, .ref a, n, ts, rfl, dp_same s0 _ hw, hok, hn, by omega, fun u H1 s1 hu hrd => ?_⟩
    obtain ⟨au, xs, rfl, hau, hxs⟩ := dp_tup hu
    have hxl : xs.length = (nonT ts ts.length).length := by
      rw [dpAll_len hxs, List.length_map]
      unfold rdsL
      rw [List.length_map]
    have s01 := s0.trans s1
    have tF := tree_forest ts ts.length (Nat.le_refl _)
    have notT : ∀ c ∈ nonT ts ts.length, c ∉ treeL ts ts.length := fun c hc => by
      unfold nonT at hc
      simpa using (List.mem_filter.mp hc).2
    have hFo : Founds n ts (treeL ts ts.length) (nonT ts ts.length) (rdL ts) := fun c hc => by
      have h := hrd c hc
      obtain ⟨_, t, w, _, _, _, h5, h6⟩ := id h
      exact ⟨h.1, rd_even hends h (notT c hc), (h6 c).mpr (.inr rfl), notT c hc, fun k hk => ((h6 k).mp hk).symm.imp id (h5 k)⟩
    refine ⟨au, rfl, ⟨_, hau⟩, ?_⟩
    refine for_it (walk_tup (xs := xs)) (fun i σ H' => ∃ (l : Addr) (ys : List V) (v2 v5 : Option V), σ = [some (.ref a), some (.ref l), v2, none, none, v5] ∧ Same H H' ∧ Same H1 H' ∧ H' l = some (.lst ys) ∧
      DpAll K H' ys ((sumsOf ts.length (rdL ts) ((nonT ts ts.length).take i).reverse).map lotD)) ?_ ?_ ?_ ?_
    · exact ⟨l0, [.ref q0], none, none, rfl, s01, Same.refl _, s1 _ _ h0, dpAll_same s1 _ d0⟩
    · rintro i σ H' _ ⟨l, ys, v2, v5, rfl, _, sH, _⟩
      exact sqT_same sH hau
    · rintro i x σ H2b H2 hi ⟨l, ys, v2, v5, rfl, s2, s12, hl2, hy2⟩ ⟨rfl, hx⟩
      obtain ⟨dd, hdd, hdx⟩ := dpAll_get (dpAll_same s12 _ hxs) hx
      obtain ⟨r, hr1, rfl⟩ := get_map hdd
      unfold rdsL at hr1
      obtain ⟨cc, hcc, rfl⟩ := get_map hr1
      have hRd := hrd cc (List.mem_of_getElem? hcc)
      have htk : ((nonT ts ts.length).take (i + 1)).reverse = cc :: ((nonT ts ts.length).take i).reverse := by
        rw [List.take_add_one, hcc, List.reverse_append]
        rfl
      have hlen : ys.length ≤ 128 := by
        rw [dpAll_len hy2, List.length_map, sums_len]
        have h7 : ((nonT ts ts.length).take i).reverse.length ≤ 7 := by
          rw [List.length_reverse, List.length_take]
          omega
        exact Nat.le_trans (Nat.pow_le_pow_right (by decide) h7) (show 2 ^ 7 ≤ 128 by decide)
      have ndc : ((nonT ts ts.length).take i).reverse.Nodup := by
        have h1 : ((nonT ts ts.length).take i).Nodup := (List.nodup_range.filter _).sublist (List.take_sublist _ _)
        exact List.pairwise_reverse.mpr (h1.imp fun z => z.symm)
      obtain ⟨S, hS⟩ : ∃ S, S = sumsOf ts.length (rdL ts) ((nonT ts ts.length).take i).reverse := ⟨_, rfl⟩
      have lots_A : ∀ o ∈ S, LotA ts.length o := fun o ho => by
        rw [hS] at ho
        exact (((sums_are hends tF tA.2 ndc fun c hc => hFo c (List.mem_of_mem_take (List.mem_reverse.mp hc))).2 o).mp ho).1
      rw [← hS] at hy2
      refine ⟨_, rfl, _, rfl, l, rfl, ⟨_, SqL.of hl2⟩, fun E1 hE1 => ?_⟩
      refine lc_run (walk_list (xs := ys)) hE1 (fun j acc Hq => DpAll K Hq acc (((S.take j).map fun o => sumL ts.length o (rdL ts cc)).map lotD)) ?_ ?_ ?_ ?_
      · exact fun H' s => SqL.of (s _ _ hl2)
      · exact .nil
      · rintro j x2 acc H3 H' hj hacc e s r ⟨rfl, hx2⟩
        obtain ⟨d2, hd2, hdx2⟩ := dpAll_get (dpAll_same s _ hy2) hx2
        obtain ⟨o, ho, rfl⟩ := get_map hd2
        have hoA := lots_A o (List.mem_of_getElem? ho)
        refine ⟨rfl, yes_go ?_⟩
        refine ⟨_, rfl, _, rfl, x2, x, ts.length, o, rdL ts cc, rfl, hdx2, dp_same s _ hdx, hoA, hRd.1, by omega, fun z q H4 s4 hq hz hmem => ?_⟩
        have hqe : q = sumL ts.length o (rdL ts cc) := lot_ext hq (sumL_lot _ _ _) fun y hy => by
          rw [hmem, mem_sumL]
          exact ⟨fun z => ⟨hy, z⟩, fun z => z.2⟩
        have h4 := s4 _ _ hacc
        have kfE : KF H4 (era H4 E1) := fun z o hz q => by
          have nz : z ≠ E1 := by
            rintro rfl
            rw [h4] at hz
            obtain ⟨_, rfl | ⟨_, rfl⟩⟩ := q <;> cases hz
          rw [era_ne nz]
          exact hz
        have hal : acc.length ≤ 128 := by
          rw [dpAll_len r, List.length_map, List.length_map, List.length_take]
          omega
        refine lc_add hacc e s4 (by omega) ?_
        have htk2 : S.take (j + 1) = S.take j ++ [o] := by
          rw [List.take_add_one, ho]
          rfl
        rw [htk2, List.map_append, List.map_append]
        exact dpAll_app (dpAll_same (era_same s4) _ r) (.cons (by show Dp K _ z (lotD (sumL ts.length o (rdL ts cc))); rw [← hqe]; exact dp_kf kfE _ (still_lot _) hz) .nil)
      · rintro acc H3 g3 s3 r3
        have r4 := dpAll_same era_back _ r3
        have hal : acc.length ≤ 128 := by
          rw [dpAll_len r3, List.length_map, List.length_map, List.length_take]
          omega
        have hSl : S.length = ys.length := by rw [dpAll_len hy2, List.length_map]
        rw [← hSl, List.take_of_length_le (Nat.le_refl _)] at r4
        refine ⟨l, E1, _, _, rfl, rfl, s3 _ _ hl2, g3, Nat.le_trans (show _ ≤ 1000 by omega) (by decide), fun m hm => ?_⟩
        have t3 := same_new (o := .lst (ys ++ acc)) hm
        refine ⟨m, _, _, _, rfl, s2.trans (s3.trans t3), s12.trans (s3.trans t3), upd_same, ?_⟩
        rw [htk]
        show DpAll _ _ _ ((sumsOf ts.length (rdL ts) ((nonT ts ts.length).take i).reverse ++ (sumsOf ts.length (rdL ts) ((nonT ts ts.length).take i).reverse).map fun o => sumL ts.length o (rdL ts cc)).map lotD)
        rw [← hS, List.map_append]
        exact dpAll_app (dpAll_same (s3.trans t3) _ hy2) (dpAll_same t3 _ r4)
    · rintro σ H2 ⟨l, ys, v2, v5, rfl, s2, s12, hl2, hy2⟩
      rw [hxl, List.take_of_length_le (Nat.le_refl _)] at hy2
      refine tSeq_go ?_
      refine ⟨Nat.zero_le _, fun m hm => ?_⟩
      have t1 := same_new (o := .lst []) hm
      have hmH : H m = none := Same.free s2 hm
      have s3 := s2.trans t1
      have hl3 := t1 _ _ hl2
      have hy3 := dpAll_same t1 _ hy2
      have hm3 : (upd H2 m (.lst [])) m = some (.lst []) := upd_same
      have nlm : l ≠ m := by
        rintro rfl
        rw [hl2] at hm
        cases hm
      generalize upd H2 m (.lst []) = H3 at *
      dsimp only [gName]
      refine at_st [some (.ref a), some (.ref l), v2, some (.ref m), none, v5] rfl ?_
      refine tSeq_go ?_
      refine ⟨_, rfl, a, _, _, _, rfl, rfl, sqT_same s3 ha, atI_nat (j := 1) rfl, c, ys0, rfl, .inr (sqT_same s3 hc), ?_⟩
      rw [hyl]
      have pi : ((2 : Int) ^ ts.length) = ((2 ^ ts.length : Nat) : Int) := by
        rw [Int.natCast_pow]
        rfl
      have b1 : ((2 ^ ts.length : Nat) : Int) ≤ 128 := by exact_mod_cast p7
      have b0 : (0 : Int) ≤ ((2 ^ ts.length : Nat) : Int) := Int.natCast_nonneg _
      refine ⟨ts.length, rfl, by omega, ?_⟩
      rw [pi]
      refine ⟨((2 ^ ts.length : Nat) : Int), rfl, by omega, by omega, ?_⟩
      refine for_range (lo := 0) (n := (((2 ^ ts.length : Nat) : Int)).toNat) (fun i σ H' => ∃ (v2 v4 : Option V) (zs : List V), σ = [some (.ref a), some (.ref l), v2, some (.ref m), v4, v5] ∧ Same H H' ∧ H' l = some (.lst ys) ∧
        DpAll K H' ys ((sumsOf ts.length (rdL ts) (nonT ts ts.length).reverse).map lotD) ∧ H' m = some (.lst zs) ∧ DpAll K H' zs ((evensL n ts i).map lotD)) ?_ ?_ ?_
      · exact ⟨v2, none, [], rfl, s3, hl3, hy3, hm3, .nil⟩
      · rintro i σ H4 hi ⟨v2, v4, zs, rfl, s4, hl4, hy4, hm4, hz4⟩
        rw [Int.zero_add]
        show tSeq _ _ _ _ _
        refine tSeq_go ?_
        refine ⟨_, rfl, _, rfl, .ref a, n, ts, i, rfl, dp_same s4 _ hw, by omega, fun u5 ks H5 s5 hu5 hA5 hb5 => ?_⟩
        have hks : ks = lotN ts.length i := lot_ext hA5 (lotN_lot _ _) fun y hy => by
          rw [hb5 y hy, mem_lotN]
          exact ⟨fun z => ⟨hy, z⟩, fun z => z.2⟩
        dsimp only [gName]
        refine at_st [some (.ref a), some (.ref l), some u5, some (.ref m), some (.int (i : Nat)), v5] rfl ?_
        refine ⟨_, rfl, _, rfl, .ref a, u5, n, ts, ks, rfl, dp_same (s4.trans s5) _ hw, hu5, hends, hA5.2, by omega, fun H6 s6 => ⟨_, rfl, ?_⟩⟩
        have s46 := s4.trans (s5.trans s6)
        have t56 := s5.trans s6
        have hzl : zs.length ≤ i := by
          rw [dpAll_len hz4, List.length_map]
          unfold evensL
          exact Nat.le_trans (List.length_filter_le _ _) (by rw [List.length_map, List.length_range]; exact Nat.le_refl _)
        refine ite2 (fun hh => ?_) (fun hh => ?_)
        · have hev : EvenE n ts (lotN ts.length i) := by
            rw [← hks]
            exact evenB_iff.mp hh
          have en : evensL n ts (i + 1) = evensL n ts i ++ [lotN ts.length i] := evens_yes hev
          have hm6 := t56 _ _ hm4
          have kf := kf_upd (x := .lst (zs ++ [u5])) hm6 ⟨(fun _ e => nomatch e), (fun _ _ e => nomatch e)⟩
          refine ⟨_, rfl, .inl ⟨rfl, _, SqL.of hm6⟩, _, rfl, m, _, _, rfl, rfl, hm6, Nat.lt_of_lt_of_le (show zs.length < 1000 by omega) (by decide), ?_⟩
          refine ⟨_, _, zs ++ [u5], rfl, same_old hmH s46, by rw [upd_ne nlm]; exact t56 _ _ hl4, dpAll_kf kf _ (still_lotsL _) (dpAll_same t56 _ hy4), upd_same, ?_⟩
          rw [en, List.map_append]
          refine dpAll_app (dpAll_kf kf _ (still_lotsL _) (dpAll_same t56 _ hz4)) (.cons ?_ .nil)
          rw [← hks]
          exact dp_kf kf _ (still_lot _) (dp_same s6 _ hu5)
        · have hev : ¬ EvenE n ts (lotN ts.length i) := fun z => hh (by
            rw [hks]
            exact evenB_iff.mpr z)
          have en : evensL n ts (i + 1) = evensL n ts i := evens_no hev
          exact ⟨_, _, zs, rfl, s46, t56 _ _ hl4, dpAll_same t56 _ hy4, t56 _ _ hm4, by rw [en]; exact dpAll_same t56 _ hz4⟩
      · rintro σ H4 ⟨v2, v4, zs, rfl, s4, hl4, hy4, hm4, hz4⟩
        rw [Int.toNat_natCast] at hz4
        have p1 : 1 ≤ (2 : Nat) ^ ts.length := Nat.pow_pos (by decide)
        have eh : (evensL n ts (2 ^ ts.length)).head? = some [] := by
          rw [show 2 ^ ts.length = (2 ^ ts.length - 1) + 1 by omega]
          exact evens_head n ts _
        have ndr : (nonT ts ts.length).reverse.Nodup := by
          have h1 : (nonT ts ts.length).Nodup := List.nodup_range.filter _
          exact List.pairwise_reverse.mpr (h1.imp fun z => z.symm)
        have sa := sums_are hends tF tA.2 (cs := (nonT ts ts.length).reverse) ndr fun c hc => hFo c (List.mem_reverse.mp hc)
        have pm : (sumsOf ts.length (rdL ts) (nonT ts ts.length).reverse).Perm (evensL n ts (2 ^ ts.length)) := by
          refine (List.perm_ext_iff_of_nodup sa.1 (evens_nd n ts)).mpr fun E => ?_
          rw [sa.2, mem_evens]
          constructor
          · exact fun z => ⟨z.1, z.2.1⟩
          · rintro ⟨z1, z2⟩
            refine ⟨z1, z2, fun x hx => ?_⟩
            by_cases hxT : x ∈ treeL ts ts.length
            · exact .inl hxT
            · right
              rw [List.mem_reverse]
              unfold nonT
              rw [List.mem_filter, List.mem_range]
              exact ⟨z1.2 x hx, by simpa using hxT⟩
        refine ⟨_, rfl, l, ys, _, rfl, SqL.of hl4, hy4, sums_head _ _ _, fun p ws hp hws => ?_⟩
        have t5 := same_new (o := .lst ws) hp
        refine ⟨_, rfl, m, zs, _, rfl, SqL.of (t5 _ _ hm4), dpAll_same t5 _ hz4, eh, fun p2 ws2 hp2 hws2 => ?_⟩
        have t6 := same_new (o := .lst ws2) hp2
        refine ⟨.list (((sumsOf ts.length (rdL ts) (nonT ts ts.length).reverse).mergeSort leL).map lotD), .list (((evensL n ts (2 ^ ts.length)).mergeSort leL).map lotD), .lst (SqL.of (t6 _ _ upd_same)) (dpAll_same (t5.trans t6) _ hws), .lst (SqL.of upd_same) (dpAll_same t6 _ hws2), shaped_lotsL _, shaped_lotsL _, ?_⟩
        rw [sort_lots pm, eqv_lotsL]
        exact k _ (s4.trans (t5.trans t6))
end
end BV

namespace BV
open PySem L2
abbrev sRight : Stmt := top 29
abbrev nRight : List Str := ["_law_box_here", "_law_web_here", "_law_is_named", "_law_due", "_law_told", "_law_turn", "_law_places", "_law_cuts", "_law_both", "_law_lot_here", "_law_side", "_law_place", "_law_own", "_law_tie"]
abbrev pRight : List Str := ["_law_box_here", "_law_web_here", "_law_is_named"]
theorem scRight : FnScope nRight pRight (defScope sRight) := ⟨rfl, rfl, rfl, by decide +kernel, rfl, by decide +kernel, by decide +kernel⟩

theorem lotA_up {L : Nat} {ks : List Nat} (h : LotA L ks) : LotA (L + 1) ks := ⟨h.1, fun k hk => Nat.lt_succ_of_lt (h.2 k hk)⟩
theorem lotA_snoc {L : Nat} {ks : List Nat} (h : LotA L ks) : LotA (L + 1) (ks ++ [L]) := by
  refine ⟨?_, fun k hk => ?_⟩
  · rw [List.pairwise_append]
    refine ⟨h.1, List.pairwise_singleton _ _, fun x hx y hy => ?_⟩
    rw [List.mem_singleton.mp hy]
    exact h.2 x hx
  · rcases List.mem_append.mp hk with z | z
    · exact Nat.lt_succ_of_lt (h.2 k z)
    · rw [List.mem_singleton.mp z]
      exact Nat.lt_succ_self L
theorem nonT_len {n : Nat} {ts : List Tie} (hok : WebOk n ts) : (((nonT ts ts.length).length : Nat) : Int) = (ts.length : Int) - (n : Int) + 1 := by
  have h1 := tree_len hok
  have tA := tree_lot ts ts.length (Nat.le_refl _)
  have e : (List.range ts.length).filter (fun k => decide (k ∈ treeL ts ts.length)) = treeL ts ts.length := asc_uniq (List.pairwise_lt_range.filter _) tA.1 fun k => by
    rw [List.mem_filter, List.mem_range, decide_eq_true_eq]
    exact ⟨fun z => z.2, fun z => ⟨tA.2 k z, z⟩⟩
  have h2 := List.length_eq_countP_add_countP (fun k => decide (k ∈ treeL ts ts.length)) (l := List.range ts.length)
  rw [List.length_range, List.countP_eq_length_filter, List.countP_eq_length_filter, e] at h2
  have e2 : ((List.range ts.length).filter fun k => decide (¬ decide (k ∈ treeL ts ts.length) = true)) = nonT ts ts.length := by
    unfold nonT
    refine List.filter_congr fun k _ => ?_
    by_cases z : k ∈ treeL ts ts.length <;> simp [z]
  have h3 : ts.length = (treeL ts ts.length).length + (nonT ts ts.length).length := by
    rw [← e2]
    exact h2
  omega
/-- the lots of which all sums are even: the sum of some even ones -/
theorem flat_even {n : Nat} {ts : List Tie} : ∀ {ls : List (List Nat)}, (∀ l ∈ ls, EvenE n ts l) → ∀ p, p < n → degE ts ls.flatten p % 2 = 0
  | [], _, _, _ => rfl
  | l :: ls, h, p, hp => by
    rw [List.flatten_cons, degE_app]
    have h1 := h l (List.mem_cons_self ..) p hp
    have h2 := flat_even (ls := ls) (fun x hx => h x (List.mem_cons_of_mem _ hx)) p hp
    omega
def spRight (K : PySem.W.Frag) : Sp := fun vs H Q _ => ∃ (b g : Addr) (v : V) (n : Nat) (ts : List Tie) (nm : Bool), vs = [.ref b, v, .bl nm] ∧ Dp K H v (webD n ts) ∧ Box H b g ∧ WebOk n ts ∧ n ≤ 100 ∧ ts.length ≤ 50 ∧ ∀ H', Kp b g H H' → Box H' b g → Q (.bl true) H'
def oddL (L : Nat) (fl : List Nat) : List Nat := (List.range L).filter fun k => decide (fl.count k % 2 = 1)
theorem oddL_lot (L : Nat) (fl : List Nat) : LotA L (oddL L fl) := ⟨List.pairwise_lt_range.filter _, fun k hk => List.mem_range.mp (List.mem_filter.mp hk).1⟩
theorem mem_oddL {L : Nat} {fl : List Nat} {k : Nat} : k ∈ oddL L fl ↔ k < L ∧ fl.count k % 2 = 1 := by
  unfold oddL
  rw [List.mem_filter, List.mem_range, decide_eq_true_eq]
theorem deg_odd {ts : List Tie} (p : Nat) : ∀ {fl : List Nat}, (∀ k ∈ fl, k < ts.length) → degE ts (oddL ts.length fl) p % 2 = degE ts fl p % 2
  | [], _ => by
    have : oddL ts.length [] = [] := List.filter_eq_nil_iff.mpr fun k _ => by simp
    rw [this]
  | k :: fl, h => by
    have ih := deg_odd p (fl := fl) fun x hx => h x (List.mem_cons_of_mem _ hx)
    have hk := h k (List.mem_cons_self ..)
    have hA : LotA ts.length [k] := ⟨List.pairwise_singleton _ _, fun y hy => by rw [List.mem_singleton.mp hy]; exact hk⟩
    have e : oddL ts.length (k :: fl) = sumL ts.length (oddL ts.length fl) [k] := lot_ext (oddL_lot _ _) (sumL_lot _ _ _) fun x hx => by
      rw [mem_oddL, mem_sumL, mem_oddL, List.mem_singleton, List.count_cons]
      by_cases e : k = x
      · subst e
        simp [hx]
        omega
      · have e2 : ¬ x = k := fun z => e z.symm
        simp [e, e2, hx]
    rw [e, degE_perm (sumL_perm (oddL_lot _ _) hA), degE_sym (oddL_lot _ _).nd hA.nd]
    have e2 : degE ts [k] p = b2 (atE ts p k) := by
      rw [degE_cons]
      rfl
    have e3 := degE_cons ts k fl p
    omega
theorem cut_sum {n : Nat} {ts : List Tie} (hends : ∀ t ∈ ts, t.1 < t.2 ∧ t.2 < n) {A B C ks : List Nat} (hks : ks.Pairwise (· < ·)) (h : ∀ k, k ∈ ks ↔ [cutL ts A, cutL ts B].flatten.count k % 2 = 1) (hC : ∀ p, p < n → (p ∈ C ↔ ¬ (p ∈ A ↔ p ∈ B))) : ks = cutL ts C := by
  refine asc_uniq hks (cutL_asc ts C) fun k => ?_
  have nA : (cutL ts A).Nodup := (cutL_lot ts A).nd
  have nB : (cutL ts B).Nodup := (cutL_lot ts B).nd
  have hc : ([cutL ts A, cutL ts B].flatten.count k % 2 = 1) ↔ ¬ (k ∈ cutL ts A ↔ k ∈ cutL ts B) := by
    rw [List.flatten_cons, List.flatten_cons, List.flatten_nil, List.append_nil, List.count_append, nA.count, nB.count]
    by_cases x : k ∈ cutL ts A <;> by_cases y : k ∈ cutL ts B <;> simp [x, y]
  rw [h, hc]
  by_cases hk : k < ts.length
  · obtain ⟨t, ht⟩ : ∃ t, ts[k]? = some t := ⟨_, List.getElem?_eq_getElem hk⟩
    have hte := hends t (List.mem_of_getElem? ht)
    have m : ∀ S : List Nat, k ∈ cutL ts S ↔ ¬ (t.1 ∈ S ↔ t.2 ∈ S) := fun S => by
      rw [mem_cutL]
      constructor
      · rintro ⟨u, hu, hc⟩
        rw [ht] at hu
        cases hu
        unfold crosses at hc
        intro z
        simp [z] at hc
      · intro z
        refine ⟨t, ht, ?_⟩
        unfold crosses
        by_cases x : t.1 ∈ S <;> by_cases y : t.2 ∈ S <;> simp [x, y] at z ⊢
    rw [m, m, m, hC t.1 (by omega), hC t.2 hte.2]
    by_cases a1 : t.1 ∈ A <;> by_cases a2 : t.2 ∈ A <;> by_cases b1 : t.1 ∈ B <;> by_cases b2 : t.2 ∈ B <;> simp [a1, a2, b1, b2]
  · have z : ∀ S : List Nat, k ∉ cutL ts S := fun S q => hk ((cutL_lot ts S).2 k q)
    simp [z]
section
variable {P : Program} {w : World} {K : PySem.W.Frag} {mg : Str → Option Value} {base : Heap}
theorem ok_right {f a1 a2 a3 a4 a5 a6 a7 a8 a9 c1 c2 c3 c4 c5 c6 c7 c8 : Addr} {fd d1 d2 d3 d4 d5 d6 d7 d8 d9 e1 e2 e3 e4 e5 e6 e7 e8 : FuncData} (D : Df K mg "_law_is_right" sRight pRight f fd) (T : Bl mg) (hsorted : mg "sorted" = none)
    (D_cut : Df K mg "cut_of" sCut pCut a1 d1) (D_all : Df K mg "all_ties" sAll pAll a2 d2) (D_far : Df K mg "far_end" sFar pFar a3 d3) (D_ways : Df K mg "ways_from" sWays pWays a4 d4) (D_codd : Df K mg "common_odd" sCodd pCodd a5 d5) (D_fside : Df K mg "_far_side" sFside pFside a6 d6)
    (D_iscut : Df K mg "is_cut" sIscut pIscut a7 d7) (D_odd : Df K mg "odd_places" sOdd pOdd a8 d8) (D_even : Df K mg "is_even" sEven pEven a9 d9) (D_sum : Df K mg "sum_of" sSum ["lots"] c1 e1) (D_made : Df K mg "made_one" sMade pMade c2 e2) (D_ftree : Df K mg "first_tree" sFtree pFtree c3 e3)
    (D_trounds : Df K mg "tree_rounds" sTrounds pTrounds c4 e4) (K_trounds : KBn K e4 pTrounds 0 ["web"] (fun _ ws => ws) (fun _ zs => zs)) (D_fround : Df K mg "_first_round" sFround pFround c5 e5) (D_isr : Df K mg "is_round" sIsr pIsr c6 e6)
    (D_draw : Df K mg "_law_draw" sDraw ["_law_box_here", "_law_many"] c7 e7) (D_path : Df K mg "_law_path" sPath pPath c8 e8) {c9 : Addr} {e9 : FuncData} (D_ltr : Df K mg "_law_tree_rounds" sLtr pLtr c9 e9) : FnG P w K mg base CX0 5 f fd pRight (spRight K) := by
  have G_cut : FnOk P w K mg base CX0 1 a1 d1 pCut (spCut K) := ok_cut D_cut T
  have G_iscut : FnOk P w K mg base CX0 4 a7 d7 pIscut (spIscut K) := ok_iscut D_iscut T D_cut D_all D_far D_ways D_codd D_fside
  have G_even : FnOk P w K mg base CX0 2 a9 d9 pEven (spEven K) := ok_even D_even T D_odd
  have G_sum : FnOk P w K mg base CX0 1 c1 e1 ["lots"] (spSum K) := ok_sum D_sum T hsorted
  have G_trounds : FnOk P w K mg base CX0 3 c4 e4 pTrounds (spTrounds K) := ok_trounds D_trounds T hsorted D_made D_ftree D_far D_ways
  have G_isr : FnOk P w K mg base CX0 4 c6 e6 pIsr (spIsr K) := ok_isr D_isr T hsorted D_odd D_even D_far D_ways D_fround
  have G_draw : FnOk P w K mg base CX0 1 c7 e7 ["_law_box_here", "_law_many"] spDraw := ok_draw D_draw T
  have G_ltr : FnOk P w K mg base CX0 2 c9 e9 pLtr (spLtr K) := ok_ltr D_ltr T hsorted D_path
  refine okG D.fn scRight (fun vs H Q E h => ?_) (fun cdv A outer s H vs Q E hgd hr h => ?_)
  · obtain ⟨b, g, v, n, ts, nm, rfl, _⟩ := h
    rfl
  · obtain ⟨b, g, v, n, ts, nm, rfl, hw, hB, hok, hn, hl, k⟩ := h
    have hr_iscut : Room 4 _ := hr
    have hr_isr : Room 4 _ := hr
    have hr_trounds : Room 3 _ := hr.mono (by decide)
    have hr_ltr : Room 2 _ := hr.mono (by decide)
    have hr_even : Room 2 _ := hr.mono (by decide)
    have hr_cut : Room 1 _ := hr.mono (by decide)
    have hr_sum : Room 1 _ := hr.mono (by decide)
    have hr_draw : Room 1 _ := hr.mono (by decide)
    have hu64 := hr.units
    have nd := scRight.nd
    have hends := hok.ends
    have hpos := hok.pos
    have tA := tree_lot ts ts.length (Nat.le_refl _)
    obtain ⟨a, c, ys, rfl, ha, hc, hys⟩ := dp_web hw
    have hyl : ys.length = ts.length := by rw [dpAll_len hys, List.length_map]
    have hnt : (nonT ts ts.length).length ≤ 50 := by
      unfold nonT
      exact Nat.le_trans (List.length_filter_le _ _) (by rw [List.length_range]; exact hl)
    have notT : ∀ c ∈ nonT ts ts.length, c ∉ treeL ts ts.length := fun c hc => by
      unfold nonT at hc
      simpa using (List.mem_filter.mp hc).2
    have smL : ∀ ks : List Nat, LotA ts.length ks → Sm (lotD ks) 60 1 := fun ks h => by
      have h3 := nodup_small ts.length ks h.nd h.2
      exact (sm_lot fun j hj => by have := h.2 j hj; omega).mono (by omega) (by omega)
    refine ⟨_, (pss_cons (ps_set (i := 3) nd rfl (by first | exact Or.inl rfl | exact Or.inr rfl) (pe_call G_ltr hr_ltr (by rfl) D_ltr.ad D_ltr.fn.kp D_ltr.bd .nil pass0 (pa_cons (pv 1) pa_nil)))
      (pss_cons (ps_set (i := 4) nd rfl (by first | exact Or.inl rfl | exact Or.inr rfl) (pe_ifExp (pt_val (pv 2)) (pe_callK0 G_trounds hr_trounds (by rfl) D_trounds.ad D_trounds.fn.kp K_trounds pass0 (pk_cons (pv 1) pk_nil)) (pe_call G_trounds hr_trounds (by rfl) D_trounds.ad D_trounds.fn.kp D_trounds.bd .nil pass0 (pa_cons (pv 1) pa_nil))))
      (pss_cons (ps_if (PW.pt (pw_or (pt_cmpR op_ne (pe_callB (reprK K hgd hu64) (by rfl) T.repr (by decide +kernel) (pa_cons (pv 4) pa_nil)) (pe_callB (reprK K hgd hu64) (by rfl) T.repr (by decide +kernel) (pa_cons (pv 3) pa_nil)) (nomark _)) (pw_or1 (pt_cmpR op_ne (pe_callB (lenK K) (by rfl) T.len PySem.boot_len (pa_cons (pv 3) pa_nil)) (pe_op op_add (pe_op op_sub (pe_callB (lenK K) (by rfl) T.len PySem.boot_len (pa_cons (pe_ix (ixT K) (pv 1) pe_int (fun _ _ => rfl)) pa_nil)) (pe_ix (ixT K) (pv 1) pe_int (fun _ _ => rfl))) pe_int) (nomark _))))) (pss_one (ps_ret pe_bl)) pss_nil)
      (pss_cons (ps_if (pt_cmpR (opNeD K hr.units) (pe_lc (own := [("_law_lot_here", 9)]) (g := (gName 9)) rfl nd (piT K (pv 3)) (blkOk_by (own := [("_law_lot_here", 9)]) (N := nRight) (sc := defScope sRight) (by decide +kernel)) (fun _ _ _ _ _ => (pg_name (i := 9) nd rfl (by first | exact Or.inl rfl | exact Or.inr rfl))) (fun _ _ _ _ _ => (pts_one (pt_cmpR op_notBl (pe_call G_isr hr_isr (by rfl) D_isr.ad D_isr.fn.kp D_isr.bd .nil pass0 (pa_cons (pv 1) (pa_cons (pv 9) pa_nil))) pe_bl (nomark _)))) (fun _ _ _ _ _ => pe_int)) (pe_lst pa_nil) (nomark _)) (pss_one (ps_ret pe_bl)) pss_nil)
      (pss_cons (ps_for PassesOwn.never rfl (pi_range1 rfl T.range (pa_cons pe_int pa_nil)) (pg_name (i := 5) nd rfl (by first | exact Or.inl rfl | exact Or.inr rfl)) (pss_cons (ps_set (i := 6) nd rfl (by first | exact Or.inl rfl | exact Or.inr rfl) (pe_lc (own := [("_law_side", 10)]) (g := (gName 10)) (tt := tYes) rfl nd (piL K (pe_lst (pa_cons pe_int (pa_cons pe_int pa_nil)))) (blkOk_by (own := [("_law_side", 10)]) (N := nRight) (sc := defScope sRight) (by decide +kernel)) (fun _ _ _ _ _ => (pg_name (i := 10) nd rfl (by first | exact Or.inl rfl | exact Or.inr rfl))) (fun _ _ _ _ _ => pts_nil) (fun _ _ _ _ _ => (pe_callTy (tupleK K) (by rfl) T.tuple (by decide +kernel) (pa_cons (pe_lc (own := [("_law_place", 11)]) (g := (gName 11)) rfl nd (pi_range1 rfl T.range (pa_cons (pe_ix (ixT K) (pv 1) pe_int (fun _ _ => rfl)) pa_nil)) (blkOk_by (own := [("_law_place", 11)]) (N := nRight) (by first | rfl | decide +kernel)) (fun _ _ _ _ _ => (pg_name (i := 11) nd rfl (by first | exact Or.inl rfl | exact Or.inr rfl))) (fun _ _ _ _ _ => (pts_one (pt_cmpR op_eq (pe_call G_draw hr_draw (by rfl) D_draw.ad D_draw.fn.kp D_draw.bd .nil pass0 (pa_cons (pv 0) (pa_cons pe_int pa_nil))) pe_int (nomark _)))) (fun _ _ _ _ _ => (pv 11))) pa_nil)))))
      (pss_cons (ps_set (i := 7) nd rfl (by first | exact Or.inl rfl | exact Or.inr rfl) (pe_lst (pa_cons (pe_call G_cut hr_cut (by rfl) D_cut.ad D_cut.fn.kp D_cut.bd .nil pass0 (pa_cons (pv 1) (pa_cons (pe_ix (ixL K) (pv 6) pe_int (fun _ _ => rfl)) pa_nil))) (pa_cons (pe_call G_cut hr_cut (by rfl) D_cut.ad D_cut.fn.kp D_cut.bd .nil pass0 (pa_cons (pv 1) (pa_cons (pe_ix (ixL K) (pv 6) pe_int (fun _ _ => rfl)) pa_nil))) pa_nil))))
      (pss_cons (ps_set (i := 8) nd rfl (by first | exact Or.inl rfl | exact Or.inr rfl) (pe_callTy (tupleK K) (by rfl) T.tuple (by decide +kernel) (pa_cons (pe_lc (own := [("_law_place", 11)]) (g := (gName 11)) rfl nd (pi_range1 rfl T.range (pa_cons (pe_ix (ixT K) (pv 1) pe_int (fun _ _ => rfl)) pa_nil)) (blkOk_by (own := [("_law_place", 11)]) (N := nRight) (sc := defScope sRight) (by decide +kernel)) (fun _ _ _ _ _ => (pg_name (i := 11) nd rfl (by first | exact Or.inl rfl | exact Or.inr rfl))) (fun _ _ _ _ _ => (pts_one (pt_cmpR op_ne (pe_cmpR (opIn K) (pv 11) (pe_ix (ixL K) (pv 6) pe_int (fun _ _ => rfl)) rfl) (pe_cmpR (opIn K) (pv 11) (pe_ix (ixL K) (pv 6) pe_int (fun _ _ => rfl)) rfl) (nomark _)))) (fun _ _ _ _ _ => (pv 11))) pa_nil)))
      (pss_cons (ps_if (PW.pt (pw_or (pt_cmpR op_ne (pe_callB (reprK K hgd hu64) (by rfl) T.repr (by decide +kernel) (pa_cons (pe_call G_sum hr_sum (by rfl) D_sum.ad D_sum.fn.kp D_sum.bd .nil pass0 (pa_cons (pe_callTy (tupleK K) (by rfl) T.tuple (by decide +kernel) (pa_cons (pv 7) pa_nil)) pa_nil)) pa_nil)) (pe_callB (reprK K hgd hu64) (by rfl) T.repr (by decide +kernel) (pa_cons (pe_call G_cut hr_cut (by rfl) D_cut.ad D_cut.fn.kp D_cut.bd .nil pass0 (pa_cons (pv 1) (pa_cons (pv 8) pa_nil))) pa_nil)) (nomark _)) (pw_or1 (pt_cmpR op_notBl (pe_call G_iscut hr_iscut (by rfl) D_iscut.ad D_iscut.fn.kp D_iscut.bd .nil pass0 (pa_cons (pv 1) (pa_cons (pe_call G_sum hr_sum (by rfl) D_sum.ad D_sum.fn.kp D_sum.bd .nil pass0 (pa_cons (pe_callTy (tupleK K) (by rfl) T.tuple (by decide +kernel) (pa_cons (pv 7) pa_nil)) pa_nil)) pa_nil))) pe_bl (nomark _))))) (pss_one (ps_ret pe_bl)) pss_nil)
      (pss_cons (ps_set (i := 9) nd rfl (by first | exact Or.inl rfl | exact Or.inr rfl) (pe_call G_sum hr_sum (by rfl) D_sum.ad D_sum.fn.kp D_sum.bd .nil pass0 (pa_cons (pe_callTy (tupleK K) (by rfl) T.tuple (by decide +kernel) (pa_cons (pe_lc (own := [("_law_own", 12)]) (g := (gName 12)) rfl nd (piT K (pv 3)) (blkOk_by (own := [("_law_own", 12)]) (N := nRight) (sc := defScope sRight) (by decide +kernel)) (fun _ _ _ _ _ => (pg_name (i := 12) nd rfl (by first | exact Or.inl rfl | exact Or.inr rfl))) (fun _ _ _ _ _ => (pts_one (pt_cmpR op_eq (pe_call G_draw hr_draw (by rfl) D_draw.ad D_draw.fn.kp D_draw.bd .nil pass0 (pa_cons (pv 0) (pa_cons pe_int pa_nil))) pe_int (nomark _)))) (fun _ _ _ _ _ => (pv 12))) pa_nil)) pa_nil)))
      (pss_one (ps_if (PW.pt (pw_or (pt_cmpR op_notBl (pe_call G_even hr_even (by rfl) D_even.ad D_even.fn.kp D_even.bd .nil pass0 (pa_cons (pv 1) (pa_cons (pv 9) pa_nil))) pe_bl (nomark _)) (pw_or1 (pt_cmpR op_eq (pe_op op_mod (pe_callB (lenK K) (by rfl) T.len PySem.boot_len (pa_cons (pe_lc (own := [("_law_tie", 13)]) (g := (gName 13)) rfl nd (piT K (pe_ix (ixL K) (pv 7) pe_int (fun _ _ => rfl))) (blkOk_by (own := [("_law_tie", 13)]) (N := nRight) (sc := defScope sRight) (by decide +kernel)) (fun _ _ _ _ _ => (pg_name (i := 13) nd rfl (by first | exact Or.inl rfl | exact Or.inr rfl))) (fun _ _ _ _ _ => (pts_one (pt_cmpR (opIn K) (pv 13) (pv 9) rfl))) (fun _ _ _ _ _ => pe_int)) pa_nil)) pe_int) pe_int (nomark _))))) (pss_one (ps_ret pe_bl)) pss_nil))))))))
      (pss_one (ps_ret pe_bl))))))), ?_⟩
    refine tSeq_go ?_
    refine ⟨_, rfl, .ref a, n, ts, rfl, hw, hok, by omega, by omega, fun dv H1 s1 hdv => ?_⟩
    obtain ⟨ad, xs, rfl, had, hxs⟩ := dp_tup hdv
    dsimp only [gName]
    refine at_st [some (.ref b), some (.ref a), some (.bl nm), some (.ref ad), none, none, none, none, none, none, none, none, none, none] rfl ?_
    refine tSeq_go ?_
    refine tAsg_by (fun z H' => Same H1 H' ∧ Dp K H' z (.tuple ((rdsL ts).map lotD)) ∧ ∀ k ∈ nonT ts ts.length, IsRd ts k (rdL ts k)) ?_ (fun cont => ?_)
    rotate_left
    · refine ⟨_, rfl, nm, rfl, ?_⟩
      refine ite2 (fun hh => ?_) (fun hh => ?_)
      · exact ⟨_, rfl, rfl, .ref a, n, ts, rfl, dp_same s1 _ hw, hok, by omega, by omega, fun u H2 s2 hu hrd => cont _ _ ⟨s2, hu, hrd⟩⟩
      · exact ⟨_, rfl, .ref a, n, ts, rfl, dp_same s1 _ hw, hok, by omega, by omega, fun u H2 s2 hu hrd => cont _ _ ⟨s2, hu, hrd⟩⟩
    rintro tv H2 ⟨s12, htv, hrd⟩
    have s2 := s1.trans s12
    have hdv2 := dp_same s12 _ hdv
    dsimp only [gName]
    refine at_st [some (.ref b), some (.ref a), some (.bl nm), some (.ref ad), some tv, none, none, none, none, none, none, none, none, none] rfl ?_
    have showR : Show (.tuple ((rdsL ts).map lotD)) := sm_show (sm_tup (c := 60) (k := 1) fun d hd => by
      obtain ⟨l, hl2, rfl⟩ := List.mem_map.mp hd
      unfold rdsL at hl2
      obtain ⟨cc, hcc, rfl⟩ := List.mem_map.mp hl2
      exact smL _ (hrd cc hcc).1) (by
        rw [List.length_map]
        unfold rdsL
        rw [List.length_map]
        omega) (by decide)
    have hxl : xs.length = (nonT ts ts.length).length := by
      rw [dpAll_len hxs, List.length_map]
      unfold rdsL
      rw [List.length_map]
    refine tSeq_go ?_
    refine tIfS_t (fun t H' => H2 = H' ∧ t = false) ?_ ?_ (fun cont2 => ?_)
    · rintro H' ⟨_, z⟩
      cases z
    · rintro _ ⟨rfl, _⟩
      dsimp only [tNext]
      have had2 := sqT_same s12 had
      have hxs2 := dpAll_same s12 _ hxs
      refine tSeq_go ?_
      refine tIfS_t (fun t H' => Same H' H' ∧ t = false ∧ Same H2 H') ?_ ?_ (fun cont3 => ?_)
      · rintro H' ⟨_, z, _⟩
        cases z
      · rintro H3 ⟨_, _, s23⟩
        have s3 := s2.trans s23
        have B3 := hB.same s3
        have had3 := sqT_same s23 had2
        have hxs3 := dpAll_same s23 _ hxs2
        dsimp only [tNext]
        refine tSeq_go ?_
        refine ⟨3, rfl, by decide, by decide, ?_⟩
        refine for_range (lo := 0) (n := (3 : Int).toNat) (fun i σ H' => ∃ (v5 v6 v7 v8 v9 v10 v11 v12 v13 : Option V), σ = [some (.ref b), some (.ref a), some (.bl nm), some (.ref ad), some tv, v5, v6, v7, v8, v9, v10, v11, v12, v13] ∧ Kp b g H3 H' ∧ Box H' b g) ?_ ?_ ?_
        · exact ⟨none, none, none, none, none, none, none, none, none, rfl, Kp.refl _, B3⟩
        · rintro i σ H4 hi ⟨v5, v6, v7, v8, v9, v10, v11, v12, v13, rfl, kp4, B4⟩
          rw [Int.zero_add]
          have k4 := (Kp.same s3).trans kp4
          have web_at : ∀ {H' : Hp}, Kp b g H4 H' → Dp K H' (.ref a) (webD n ts) := fun kp => dp_kf (KF.of_kp (k4.trans kp) hB) _ (still_web n ts) hw
          have ha_at : ∀ {H' : Hp}, Kp b g H4 H' → SqT K H' a [.int n, .ref c] := fun kp => sqT_kf (KF.of_kp (k4.trans kp) hB) ha
          have due_at : ∀ {H' : Hp}, Kp b g H4 H' → SqT K H' ad xs ∧ DpAll K H' xs ((rdsL ts).map lotD) := fun kp => ⟨sqT_kf (KF.of_kp (kp4.trans kp) B3) had3, dpAll_kf (KF.of_kp (kp4.trans kp) B3) _ (still_lotsL _) hxs3⟩
          show tSeq _ _ _ _ _
          refine tSeq_go ?_
          refine tAsg_by (fun z H' => ∃ (lp : Addr) (x0 x1 : V) (P0 P1 : List Nat), z = .ref lp ∧ Kp b g H4 H' ∧ Box H' b g ∧ lp ≠ b ∧ lp ≠ g ∧ H' lp = some (.lst [x0, x1]) ∧ Dp K H' x0 (lotD P0) ∧ Dp K H' x1 (lotD P1)) ?_ (fun cont => ?_)
          rotate_left
          · refine ⟨by show 2 ≤ sizeLine; decide, fun lq hlq => ?_⟩
            have tq := same_new (o := .lst [.int 0, .int 1]) hlq
            refine ⟨lq, rfl, ⟨_, SqL.of upd_same⟩, fun E1 hE1 => ?_⟩
            obtain ⟨eb, eg⟩ := bx_ne (B4.same tq) hE1
            refine lc_runB (walk_list (xs := [V.int 0, V.int 1])) hE1 (B4.same tq) (fun i acc Hq => ∃ ls : List (List Nat), DpAll K Hq acc (ls.map lotD) ∧ ls.length = i) ?_ ?_ ?_ ?_
            · exact fun H' kp hBx => Kp.seq kp (bx_ne B4 hlq).1 (bx_ne B4 hlq).2 (SqL.of upd_same)
            · exact ⟨[], .nil, rfl⟩
            · rintro i2 x acc H5 H' nb ng hi2 hacc e kk hBx ⟨ls, h1, h2⟩ ⟨rfl, hx⟩
              refine ⟨rfl, yes_go ?_⟩
              have kk4 := (Kp.same tq).trans kk
              refine ⟨_, rfl, a, _, _, _, rfl, rfl, ha_at kk4, atI_nat (j := 0) rfl, (n : Int), rfl, by omega, by omega, fun E2 hE2 => ?_⟩
              refine lc_runB (walk_range (lo := 0) (n := (n : Int).toNat)) hE2 hBx (fun j acc _ => ∃ ks : List Nat, acc = natsV ks ∧ LotA j ks) ?_ ?_ ?_ ?_
              · exact fun _ _ _ => trivial
              · exact ⟨[], rfl, lotA_nil 0⟩
              · rintro j x2 acc2 H6 H7 nb2 ng2 hj hacc2 e2 kk2 hB2 ⟨ks, rfl, hks⟩ ⟨rfl, rfl⟩
                dsimp only
                rw [Int.zero_add]
                have hkl := lotA_len hks
                refine ⟨rfl, ?_⟩
                refine ⟨_, rfl, b, g, 2, rfl, by decide, by decide, hB2, fun r H8 r0 r1 kp8 hB8 => ?_⟩
                refine ⟨rfl, _, rfl, ?_⟩
                refine ite2 (fun hh => ?_) (fun hh => ?_)
                · refine ⟨_, rfl, ?_⟩
                  exact lc_addB nb2 ng2 hacc2 e2 kp8 hB8 (by rw [natsV_len]; omega) ⟨ks ++ [j], natsV_snoc _ _, lotA_snoc hks⟩
                · exact lc_skipB nb2 ng2 hacc2 e2 kp8 hB8 ⟨ks, rfl, lotA_up hks⟩
              · rintro acc2 H6 g2 kk2 hB2 ⟨ks, rfl, hks⟩
                refine ⟨E2, _, rfl, .inl ⟨SqL.of g2, fun u hu => ?_⟩⟩
                have su := same_new (o := .tup (natsV ks)) hu
                have kp7 := kk2.trans (Kp.same su)
                have h7 := kp7 _ _ hacc nb ng
                have kfE : KF (upd H6 u (.tup (natsV ks))) (era (upd H6 u (.tup (natsV ks))) E1) := fun z o hz q => by
                  have nz : z ≠ E1 := by
                    rintro rfl
                    rw [h7] at hz
                    obtain ⟨_, rfl | ⟨_, rfl⟩⟩ := q <;> cases hz
                  rw [era_ne nz]
                  exact hz
                have hal : acc.length ≤ 2 := by
                  have e1 := dpAll_len h1
                  rw [List.length_map] at e1
                  have : i2 < 2 := hi2
                  omega
                refine lc_addB nb ng hacc e kp7 (hB2.same su) (by omega) ⟨ls ++ [ks], ?_, by rw [List.length_append, List.length_singleton]; omega⟩
                rw [List.map_append]
                exact dpAll_app (dpAll_kf (KF.of_kp (era_kp kp7) (box_era hBx nb ng)) _ (still_lotsL ls) h1) (.cons (dp_kf kfE _ (still_lot ks) (lot_dp (SqT.of upd_same))) .nil)
            · rintro acc H5 g1 kk hBx ⟨ls, h1, h2⟩
              have h2' : ls.length = 2 := h2
              match ls, h2', dpAll_same era_back _ h1 with
              | [P0, P1], _, .cons y0 (.cons y1 .nil) => exact cont _ _ ⟨E1, _, _, P0, P1, rfl, (Kp.same tq).trans kk, hBx, eb, eg, g1, y0, y1⟩
          rintro z5 H5 ⟨lp, x0, x1, P0, P1, rfl, kp45, B5, lb, lg, hlp, hx0, hx1⟩
          dsimp only [gName]
          refine at_st [some (.ref b), some (.ref a), some (.bl nm), some (.ref ad), some tv, some (.int (i : Nat)), some (.ref lp), v7, v8, v9, v10, v11, v12, v13] rfl ?_
          refine tSeq_go ?_
          -- two cuts
          refine ⟨_, rfl, _, rfl, lp, _, _, _, rfl, rfl, SqL.of hlp, atI_nat (j := 0) rfl, .ref a, x0, n, ts, P0, rfl, web_at kp45, hx0, by omega, fun u0 H6 s6 hu0 => ?_⟩
          refine ⟨_, rfl, _, rfl, lp, _, _, _, rfl, rfl, SqL.of (s6 _ _ hlp), atI_nat (j := 1) rfl, .ref a, x1, n, ts, P1, rfl, web_at (kp45.trans (Kp.same s6)), dp_same s6 _ hx1, by omega, fun u1 H7 s7 hu1 => ?_⟩
          refine ⟨by show 2 ≤ sizeLine; decide, fun lc hlc => ?_⟩
          obtain ⟨cb, cg⟩ := bx_ne (B5.same (s6.trans s7)) hlc
          have t8 := same_new (o := .lst [u0, u1]) hlc
          have s58 := s6.trans (s7.trans t8)
          have hlc8 : (upd H7 lc (.lst [u0, u1])) lc = some (.lst [u0, u1]) := upd_same
          have hu08 := dp_same (s7.trans t8) _ hu0
          have hu18 := dp_same t8 _ hu1
          generalize upd H7 lc (.lst [u0, u1]) = H8 at *
          have kp48 := kp45.trans (Kp.same s58)
          have B8 := B5.same s58
          obtain ⟨ax0, rfl, hax0⟩ := dp_lotN hx0
          obtain ⟨ax1, rfl, hax1⟩ := dp_lotN hx1
          dsimp only [gName]
          refine at_st [some (.ref b), some (.ref a), some (.bl nm), some (.ref ad), some tv, some (.int (i : Nat)), some (.ref lp), some (.ref lc), v8, v9, v10, v11, v12, v13] rfl ?_
          refine tSeq_go ?_
          refine tAsg_by (fun z H' => Same H8 H' ∧ ∃ C : List Nat, Dp K H' z (lotD C) ∧ ∀ p, p < n → (p ∈ C ↔ ¬ (p ∈ P0 ↔ p ∈ P1))) ?_ (fun cont => ?_)
          rotate_left
          · refine ⟨_, rfl, a, _, _, _, rfl, rfl, ha_at kp48, atI_nat (j := 0) rfl, (n : Int), rfl, by omega, by omega, fun E1 hE1 => ?_⟩
            refine lc_run (walk_range (lo := 0) (n := (n : Int).toNat)) hE1 (fun i acc _ => acc = natsV ((List.range i).filter fun p => !decide (decide (p ∈ P0) = decide (p ∈ P1)))) ?_ ?_ ?_ ?_
            · exact fun _ _ => trivial
            · rfl
            · rintro j x acc H9 H' hj hacc e s r ⟨rfl, rfl⟩
              dsimp only
              rw [Int.zero_add]
              have r' : acc = natsV ((List.range j).filter fun p => !decide (decide (p ∈ P0) = decide (p ∈ P1))) := r
              have hal : acc.length ≤ j := by
                rw [r', natsV_len]
                exact Nat.le_trans (List.length_filter_le _ _) (by rw [List.length_range]; exact Nat.le_refl _)
              have slp := SqL.of (K := K) ((s58.trans s) _ _ hlp)
              refine ⟨rfl, ?_⟩
              refine ⟨_, rfl, _, rfl, lp, _, _, _, rfl, rfl, slp, atI_nat (j := 0) rfl, ax0, _, rfl, .inr (sqT_same (s58.trans s) hax0), rfl, flat_nats P0, ?_⟩
              refine ⟨_, rfl, _, rfl, lp, _, _, _, rfl, rfl, slp, atI_nat (j := 1) rfl, ax1, _, rfl, .inr (sqT_same (s58.trans s) hax1), rfl, flat_nats P1, rfl, _, rfl, ?_⟩
              have key : (!decide (V.bl (inV (V.int (j : Int)) (P0.map fun (k : Nat) => V.int k)) = V.bl (inV (V.int (j : Int)) (P1.map fun (k : Nat) => V.int k)))) = !decide (decide (j ∈ P0) = decide (j ∈ P1)) := by
                rw [inv_nats, inv_nats]
                congr 1
                exact decide_eq_decide.mpr ⟨fun z => V.bl.inj z, fun z => by rw [z]⟩
              refine ite2 (fun hh => ?_) (fun hh => ?_)
              · refine ⟨_, rfl, lc_add hacc e (Same.refl _) (by omega) ?_⟩
                show _ = _
                rw [range_filter_succ, if_pos (by rw [← key]; exact hh), ← natsV_snoc, r']
              · refine lc_skip hacc e (Same.refl _) ?_
                show _ = _
                rw [range_filter_succ, if_neg (by rw [← key]; exact hh), List.append_nil]
                exact r'
            · rintro acc H9 g9 s9 r
              rw [show ((n : Int)).toNat = n by omega] at r
              have r' : acc = natsV ((List.range n).filter fun p => !decide (decide (p ∈ P0) = decide (p ∈ P1))) := r
              refine ⟨E1, _, rfl, .inl ⟨SqL.of g9, fun u hu => ?_⟩⟩
              refine cont _ _ ⟨s9.trans (same_new hu), _, lot_dp (SqT.of (by rw [upd_same, r']; rfl)), fun p hp => ?_⟩
              rw [List.mem_filter, List.mem_range]
              by_cases x : p ∈ P0 <;> by_cases y : p ∈ P1 <;> simp [x, y, hp]
          rintro zc H9 ⟨s89, C, hC, hCm⟩
          have kp49 := kp48.trans (Kp.same s89)
          have B9 := B8.same s89
          dsimp only [gName]
          refine at_st [some (.ref b), some (.ref a), some (.bl nm), some (.ref ad), some tv, some (.int (i : Nat)), some (.ref lp), some (.ref lc), some zc, v9, v10, v11, v12, v13] rfl ?_
          have cutsum : ∀ {H' : Hp}, Same H9 H' → ∀ {Q' : VK}, (∀ (z : V) H'', Same H' H'' → Dp K H'' z (lotD (cutL ts C)) → Q' z H'') → ∀ u, H' u = none → spSum K [.ref u] (upd H' u (.tup [u0, u1])) Q' E0 := fun {H'} s' {Q'} k' u hu =>
            have su := same_new (o := .tup [u0, u1]) hu
            ⟨.ref u, [cutL ts P0, cutL ts P1], ts.length, rfl, .tup (SqT.of upd_same) (.cons (dp_same ((s89.trans s').trans su) _ hu08) (.cons (dp_same ((s89.trans s').trans su) _ hu18) .nil)), (fun l hl2 => by
              rcases List.mem_cons.mp hl2 with rfl | hl2
              · exact (cutL_lot ts P0).2
              · rw [List.mem_singleton.mp hl2]
                exact (cutL_lot ts P1).2), by omega, by show 2 ≤ 100; decide, fun z ks H'' s'' hz hasc hmem => k' z H'' (su.trans s'') (by rw [← cut_sum hends hasc hmem hCm]; exact hz)⟩
          have showC := sm_show (smL _ (cutL_lot ts C)) (by decide) (by decide)
          refine tSeq_go ?_
          refine tIfS_t (fun t H' => Same H9 H' ∧ t = false) ?_ ?_ (fun cont4 => ?_)
          · rintro H' ⟨_, z⟩
            cases z
          · rintro H10 ⟨s910, _⟩
            dsimp only [tNext]
            have kp410 := kp49.trans (Kp.same s910)
            have B10 := B9.same s910
            refine tSeq_go ?_
            refine tAsg_by (fun z H' => Kp b g H10 H' ∧ Box H' b g ∧ ∃ R : List Nat, Dp K H' z (lotD R) ∧ LotA ts.length R ∧ EvenE n ts R) ?_ (fun cont => ?_)
            rotate_left
            · obtain ⟨had10, _⟩ := due_at kp410
              refine ⟨_, rfl, ad, rfl, ⟨_, had10⟩, fun E1 hE1 => ?_⟩
              refine lc_runB (walk_tup (xs := xs)) hE1 B10 (fun i acc Hq => ∃ ls : List (List Nat), DpAll K Hq acc (ls.map lotD) ∧ (∀ l ∈ ls, LotA ts.length l ∧ EvenE n ts l) ∧ ls.length ≤ i) ?_ ?_ ?_ ?_
              · exact fun H' kp _ => (due_at (kp410.trans kp)).1
              · exact ⟨[], .nil, (fun _ h => nomatch h), Nat.le_refl _⟩
              · rintro j x acc H11 H' nb ng hj hacc e kk hBx ⟨ls, h1, h2, h3⟩ ⟨rfl, hx⟩
                obtain ⟨dd, hdd, hdx⟩ := dpAll_get (due_at (kp410.trans kk)).2 hx
                obtain ⟨r1, hr1, rfl⟩ := get_map hdd
                unfold rdsL at hr1
                obtain ⟨cc, hcc, rfl⟩ := get_map hr1
                have hcm := List.mem_of_getElem? hcc
                have hal : acc.length ≤ 50 := by
                  have e1 := dpAll_len h1
                  rw [List.length_map] at e1
                  omega
                refine ⟨rfl, ?_⟩
                refine ⟨_, rfl, b, g, 2, rfl, by decide, by decide, hBx, fun r H12 r0 r1 kp8 hB8 => ?_⟩
                refine ⟨rfl, _, rfl, ?_⟩
                have h12 := kp8 _ _ hacc nb ng
                have kfE : KF H12 (era H12 E1) := fun z o hz q => by
                  have nz : z ≠ E1 := by
                    rintro rfl
                    rw [h12] at hz
                    obtain ⟨_, rfl | ⟨_, rfl⟩⟩ := q <;> cases hz
                  rw [era_ne nz]
                  exact hz
                have old := dpAll_kf (KF.of_kp (era_kp kp8) (box_era hBx nb ng)) _ (still_lotsL ls) h1
                refine ite2 (fun hh => ?_) (fun hh => ?_)
                · refine ⟨_, rfl, ?_⟩
                  refine lc_addB nb ng hacc e kp8 hB8 (by omega) ⟨ls ++ [rdL ts cc], ?_, fun l hl2 => ?_, by rw [List.length_append, List.length_singleton]; omega⟩
                  · rw [List.map_append]
                    exact dpAll_app old (.cons (dp_kf kfE _ (still_lot _) (dp_kf (KF.of_kp kp8 hBx) _ (still_lot _) hdx)) .nil)
                  · rcases List.mem_append.mp hl2 with z | z
                    · exact h2 l z
                    · rw [List.mem_singleton.mp z]
                      exact ⟨(hrd cc hcm).1, rd_even hends (hrd cc hcm) (notT cc hcm)⟩
                · exact lc_skipB nb ng hacc e kp8 hB8 ⟨ls, old, h2, by omega⟩
              · rintro acc H11 g1 kk hBx ⟨ls, h1, h2, h3⟩
                refine ⟨E1, _, rfl, .inl ⟨SqL.of g1, fun u hu => ?_⟩⟩
                have su := same_new (o := .tup acc) hu
                refine ⟨.ref u, ls, ts.length, rfl, .tup (SqT.of upd_same) (dpAll_same (era_back.trans su) _ h1), (fun l hl2 => (h2 l hl2).1.2), by omega, by omega, fun z ks H12 s12 hz hasc hmem => ?_⟩
                have hfl : ∀ k ∈ ls.flatten, k < ts.length := fun k hk => by
                  obtain ⟨l, hl2, hkl⟩ := List.mem_flatten.mp hk
                  exact (h2 l hl2).1.2 k hkl
                have hks : LotA ts.length ks := ⟨hasc, fun k hk => by
                  have h5 := (hmem k).mp hk
                  refine hfl k (Classical.byContradiction fun q => ?_)
                  rw [List.count_eq_zero_of_not_mem q] at h5
                  cases h5⟩
                have eks : ks = oddL ts.length ls.flatten := lot_ext hks (oddL_lot _ _) fun x hx => by
                  rw [hmem, mem_oddL]
                  exact ⟨fun z => ⟨hx, z⟩, fun z => z.2⟩
                exact cont _ _ ⟨kk.trans (Kp.same (su.trans s12)), (hBx.same su).same s12, ks, hz, hks, fun p hp => by
                  rw [eks, deg_odd p hfl]
                  exact flat_even (fun l hl2 => (h2 l hl2).2) p hp⟩
            rintro zr H11 ⟨kp1011, B11, R, hR, hRA, hRE⟩
            have kp411 := kp410.trans kp1011
            dsimp only [gName]
            refine at_st [some (.ref b), some (.ref a), some (.bl nm), some (.ref ad), some tv, some (.int (i : Nat)), some (.ref lp), some (.ref lc), some zc, some zr, v10, v11, v12, v13] rfl ?_
            have hlc11 := kp1011 _ _ ((s89.trans s910) _ _ hlc8) cb cg
            have hu011 := dp_kf (KF.of_kp ((Kp.same (s89.trans s910)).trans kp1011) B8) _ (still_lot _) hu08
            obtain ⟨au0, rfl, hau0⟩ := dp_lotN hu011
            obtain ⟨ar, rfl, har⟩ := dp_lotN hR
            refine tIfS_t (fun t H' => Same H11 H' ∧ t = false) ?_ ?_ (fun cont5 => ?_)
            · rintro H' ⟨_, z⟩
              cases z
            · rintro H12 ⟨s12, _⟩
              exact ⟨_, _, _, _, _, _, _, _, _, rfl, kp4.trans (kp411.trans (Kp.same s12)), B11.same s12⟩
            · have hev : evenB n ts R = true := evenB_iff.mpr hRE
              refine ⟨_, rfl, _, rfl, .ref a, .ref ar, n, ts, R, rfl, web_at kp411, hR, hends, hRA.2, by omega, fun H12 s12 => ?_⟩
              refine ⟨_, true, rfl, rfl, _, rfl, iteNS hev ?_⟩
              refine ⟨_, rfl, lc, _, _, _, rfl, rfl, SqL.of (s12 _ _ hlc11), atI_nat (j := 0) rfl, au0, rfl, ⟨_, sqT_same s12 hau0⟩, fun E1 hE1 => ?_⟩
              refine lc_run (walk_tup (xs := natsV (cutL ts P0))) hE1 (fun i acc _ => acc.length = (((cutL ts P0).take i).filter fun k => decide (k ∈ R)).length) ?_ ?_ ?_ ?_
              · exact fun H' s => sqT_same (s12.trans s) hau0
              · rfl
              · rintro j x acc H13 H' hj hacc e s r ⟨rfl, hx⟩
                obtain ⟨kk, hkk, rfl⟩ := get_map hx
                have htk : (cutL ts P0).take (j + 1) = (cutL ts P0).take j ++ [kk] := by
                  rw [List.take_add_one, hkk]
                  rfl
                have r' : acc.length = (((cutL ts P0).take j).filter fun k => decide (k ∈ R)).length := r
                have hal : acc.length ≤ 50 := by
                  rw [r']
                  refine Nat.le_trans (List.length_filter_le _ _) ?_
                  rw [List.length_take]
                  have := lotA_len (cutL_lot ts P0)
                  omega
                have key : inV (V.int (kk : Int)) (R.map fun (k : Nat) => V.int k) = decide (kk ∈ R) := inv_nats kk R
                refine ⟨rfl, _, rfl, _, rfl, ar, _, rfl, .inr (sqT_same (s12.trans s) har), rfl, flat_nats R, _, rfl, ?_⟩
                refine ite2 (fun hh => ?_) (fun hh => ?_)
                · have hh2 : inV (V.int (kk : Int)) (R.map fun (k : Nat) => V.int k) = true := hh
                  rw [key] at hh2
                  refine lc_add hacc e (Same.refl _) (by omega) ?_
                  show _ = _
                  rw [List.length_append, List.length_singleton, r', htk, List.filter_append, List.length_append, List.filter_cons, if_pos hh2]
                  rfl
                · have hh2 : ¬ inV (V.int (kk : Int)) (R.map fun (k : Nat) => V.int k) = true := hh
                  rw [key] at hh2
                  refine lc_skip hacc e (Same.refl _) ?_
                  show _ = _
                  rw [r', htk, List.filter_append, List.filter_cons, if_neg hh2]
                  simp
              · rintro acc H13 g13 s13 r
                rw [natsV_len, List.take_of_length_le (Nat.le_refl _)] at r
                have r' : acc.length = ((cutL ts P0).filter fun k => decide (k ∈ R)).length := r
                have ecr : ((cutL ts P0).filter fun k => decide (k ∈ R)).length = crossN ts P0 R := by
                  unfold crossN
                  refine List.Perm.length_eq ((List.perm_ext_iff_of_nodup ((cutL_lot ts P0).nd.filter _) (hRA.nd.filter _)).mpr fun k => ?_)
                  rw [List.mem_filter, List.mem_filter, decide_eq_true_eq, mem_cutL]
                  constructor
                  · rintro ⟨⟨t, ht, hc⟩, hk⟩
                    refine ⟨hk, ?_⟩
                    unfold crossK
                    rw [ht]
                    exact hc
                  · rintro ⟨hk, hc⟩
                    obtain ⟨t, ht⟩ : ∃ t, ts[k]? = some t := ⟨_, List.getElem?_eq_getElem (hRA.2 k hk)⟩
                    unfold crossK at hc
                    rw [ht] at hc
                    exact ⟨⟨t, ht, hc⟩, hk⟩
                have par := even_cross hends hRA.2 hRE P0
                refine ⟨E1, acc, rfl, .inl (SqL.of g13), _, _, rfl, rfl, (by show (0 : Int) < 2; decide), rfl, _, rfl, ?_⟩
                refine cont5 _ _ ⟨s12.trans s13, ?_⟩
                refine decide_eq_false fun z => ?_
                have z2 := V.int.inj z
                omega
          · refine ⟨_, rfl, lc, _, rfl, .inl ⟨SqL.of (s89 _ _ hlc8), fun u hu => ?_⟩⟩
            refine cutsum (Same.refl _) (fun z H10 s10 hz => ?_) u hu
            refine ⟨z, _, rfl, hz, showC, ?_⟩
            refine ⟨_, rfl, _, rfl, .ref a, zc, n, ts, C, rfl, web_at (kp49.trans (Kp.same s10)), dp_same s10 _ hC, by omega, fun z2 H11 s11 hz2 => ?_⟩
            refine ⟨z2, _, rfl, hz2, showC, rfl, _, rfl, iteNS rfl ?_⟩
            have s911 := s10.trans s11
            refine ⟨_, rfl, _, rfl, lc, _, rfl, .inl ⟨SqL.of ((s89.trans s911) _ _ hlc8), fun u2 hu2 => ?_⟩⟩
            refine cutsum s911 (fun z3 H12 s12 hz3 => ?_) u2 hu2
            have hcb : cutB ts (cutL ts C) = true := cutB_iff.mpr ⟨C, cut_of_cutL ts C⟩
            refine ⟨.ref a, z3, n, ts, cutL ts C, rfl, web_at (kp49.trans (Kp.same (s911.trans s12))), hz3, hok, cutL_lot ts C, by omega, by omega, fun H13 s13 => ?_⟩
            refine ⟨_, true, rfl, rfl, _, rfl, ?_⟩
            exact cont4 _ _ ⟨s911.trans (s12.trans s13), by simp [hcb]⟩
        · rintro σ H4 ⟨v5, v6, v7, v8, v9, v10, v11, v12, v13, rfl, kp4, B4⟩
          exact k _ ((Kp.same s3).trans kp4) B4
      · refine ⟨_, rfl, ad, rfl, ⟨_, had2⟩, fun E1 hE1 => ?_⟩
        refine lc_run (walk_tup (xs := xs)) hE1 (fun _ acc _ => acc = []) ?_ ?_ ?_ ?_
        · exact fun H' s => sqT_same s had2
        · rfl
        · rintro i x acc H3 H' hi hacc e s r ⟨rfl, hx⟩
          obtain ⟨dd, hdd, hdx⟩ := dpAll_get (dpAll_same s _ hxs2) hx
          obtain ⟨r1, hr1, rfl⟩ := get_map hdd
          unfold rdsL at hr1
          obtain ⟨cc, hcc, rfl⟩ := get_map hr1
          have hcm := List.mem_of_getElem? hcc
          refine ⟨rfl, ?_⟩
          refine ⟨_, rfl, _, rfl, .ref a, x, n, ts, cc, rdL ts cc, rfl, dp_same (s2.trans s) _ hw, hdx, hends, by omega, by omega, notT cc hcm, hrd cc hcm, fun H' s' => ?_⟩
          refine ⟨_, true, rfl, rfl, _, rfl, iteF ?_⟩
          exact lc_skip hacc e s' r
        · rintro acc H3 g3 s3 r
          have r' : acc = [] := r
          rw [r'] at g3
          refine ⟨Nat.zero_le _, fun p hp => ?_⟩
          have sp := same_new (o := .lst []) hp
          refine ⟨.list [], .list [], .lst (SqL.of (sp _ _ g3)) .nil, .lst (SqL.of upd_same) .nil, shaped_intsL [], shaped_intsL [], _, rfl, ?_⟩
          exact cont3 _ _ ⟨Same.refl _, rfl, s3.trans sp⟩
    · refine ⟨_, rfl, tv, _, rfl, htv, showR, ?_⟩
      refine ⟨_, rfl, .ref ad, _, rfl, hdv2, showR, rfl, _, rfl, iteNS rfl ?_⟩
      have ha2 := sqT_same s2 ha
      have hc2 := sqT_same s2 hc
      refine ⟨_, rfl, ad, xs, rfl, .inr (sqT_same s12 had), _, rfl, a, _, _, _, rfl, rfl, ha2, atI_nat (j := 1) rfl, c, ys, rfl, .inr hc2, _, rfl, a, _, _, _, rfl, rfl, ha2, atI_nat (j := 0) rfl, _, _, rfl, rfl, _, _, rfl, rfl, rfl, _, rfl, ?_⟩
      refine cont2 _ _ ⟨rfl, ?_⟩
      rw [hxl, nonT_len hok, hyl]
      simp
end
end BV

namespace BV
open PySem L2
abbrev sLaw : Stmt := top 32
abbrev nLaw : List Str := ["_law_script", "_law_box_here", "_law_turn", "_law_web_here"]
abbrev pLaw : List Str := ["_law_script"]
theorem scLaw : FnScope nLaw pLaw (defScope sLaw) := ⟨rfl, rfl, rfl, by decide +kernel, rfl, by decide +kernel, by decide +kernel⟩

def spLaw (K : PySem.W.Frag) : Sp := fun vs H Q _ => ∃ (a : Addr) (ns : List Int), vs = [.ref a] ∧ SqL K H a (ns.map V.int) ∧ ns.length ≤ 63 ∧ ∀ H', Q (.bl true) H'
theorem most4 : ∀ i, i < 4 → ∃ m : Nat, [V.int 3, V.int 5, V.int 7, V.int 7][i]? = some (V.int (m : Int)) ∧ 1 ≤ m ∧ m ≤ 12
  | 0, _ => ⟨3, rfl, by decide, by decide⟩
  | 1, _ => ⟨5, rfl, by decide, by decide⟩
  | 2, _ => ⟨7, rfl, by decide, by decide⟩
  | 3, _ => ⟨7, rfl, by decide, by decide⟩
theorem more4 : ∀ i, i < 4 → ∃ m : Nat, [V.int 3, V.int 4, V.int 5, V.int 5][i]? = some (V.int (m : Int)) ∧ m ≤ 28
  | 0, _ => ⟨3, rfl, by decide⟩
  | 1, _ => ⟨4, rfl, by decide⟩
  | 2, _ => ⟨5, rfl, by decide⟩
  | 3, _ => ⟨5, rfl, by decide⟩
section
variable {P : Program} {w : World} {K : PySem.W.Frag} {mg : Str → Option Value} {base : Heap}
theorem ok_law {f a1 a2 a3 a4 a5 a6 a7 a8 a9 c1 c2 c3 c4 c5 c6 c7 c8 c9 : Addr} {fd d1 d2 d3 d4 d5 d6 d7 d8 d9 e1 e2 e3 e4 e5 e6 e7 e8 e9 : FuncData} (D : Df K mg "law" sLaw pLaw f fd) (T : Bl mg) (hsorted : mg "sorted" = none)
    (D_cut : Df K mg "cut_of" sCut pCut a1 d1) (D_all : Df K mg "all_ties" sAll pAll a2 d2) (D_far : Df K mg "far_end" sFar pFar a3 d3) (D_ways : Df K mg "ways_from" sWays pWays a4 d4) (D_codd : Df K mg "common_odd" sCodd pCodd a5 d5) (D_fside : Df K mg "_far_side" sFside pFside a6 d6)
    (D_iscut : Df K mg "is_cut" sIscut pIscut a7 d7) (D_odd : Df K mg "odd_places" sOdd pOdd a8 d8) (D_even : Df K mg "is_even" sEven pEven a9 d9) (D_sum : Df K mg "sum_of" sSum ["lots"] c1 e1) (D_made : Df K mg "made_one" sMade pMade c2 e2) (D_ftree : Df K mg "first_tree" sFtree pFtree c3 e3)
    (D_trounds : Df K mg "tree_rounds" sTrounds pTrounds c4 e4) (K_trounds : KBn K e4 pTrounds 0 ["web"] (fun _ ws => ws) (fun _ zs => zs)) (D_fround : Df K mg "_first_round" sFround pFround c5 e5) (D_isr : Df K mg "is_round" sIsr pIsr c6 e6)
    (D_draw : Df K mg "_law_draw" sDraw ["_law_box_here", "_law_many"] c7 e7) (D_path : Df K mg "_law_path" sPath pPath c8 e8) (D_ltr : Df K mg "_law_tree_rounds" sLtr pLtr c9 e9)
    {b1 b2 b3 b4 b5 b6 b7 b8 b9 : Addr} {x1 x2 x3 x4 x5 x6 x7 x8 x9 : FuncData} (D_box : Df K mg "_law_box" sBox ["_law_script"] b1 x1) (D_pick : Df K mg "_law_pick" sPick nPick b2 x2) (D_web : Df K mg "_law_web" sWeb pWeb b3 x3)
    (D_right_g : Df K mg "_law_is_right" sRight pRight b4 x4) (D_lsum : Df K mg "_law_sum" sLsum pLsum b5 x5) (D_twos : Df K mg "_law_twos" sTwos ["_law_many"] b6 x6) (D_lot : Df K mg "_law_lot" sLot pLot b7 x7) (D_counts : Df K mg "_law_counts" sCounts pCounts b8 x8) (D_leven : Df K mg "_law_is_even" sLeven pLeven b9 x9)
    {g1 : Addr} {y1 : FuncData} (D_whole : Df K mg "_law_is_whole" sWhole pWhole g1 y1) : FnG P w K mg base CX0 6 f fd ["_law_script"] (spLaw K) := by
  have G_box : FnOk P w K mg base CX0 1 b1 x1 ["_law_script"] (spBox K) := ok_box D_box T
  have G_draw : FnOk P w K mg base CX0 1 c7 e7 ["_law_box_here", "_law_many"] spDraw := ok_draw D_draw T
  have G_web : FnOk P w K mg base CX0 3 b3 x3 pWeb (spWeb K) := ok_web D_web T D_draw D_pick
  have G_right_g : FnG P w K mg base CX0 5 b4 x4 pRight (spRight K) := ok_right D_right_g T hsorted D_cut D_all D_far D_ways D_codd D_fside D_iscut D_odd D_even D_sum D_made D_ftree D_trounds K_trounds D_fround D_isr D_draw D_path D_ltr
  have G_whole : FnOk P w K mg base CX0 4 g1 y1 pWhole (spWhole K) := ok_whole D_whole T hsorted D_made D_ftree D_far D_ways D_trounds D_lsum D_twos D_lot D_counts D_leven
  refine okG D.fn scLaw (fun vs H Q E h => ?_) (fun cdv A outer s H vs Q E hgd hr h => ?_)
  · obtain ⟨a, ns, rfl, _⟩ := h
    rfl
  · obtain ⟨a, ns, rfl, hS, hlen, k⟩ := h
    have hr_box : Room 1 _ := hr.mono (by decide)
    have hr_draw : Room 1 _ := hr.mono (by decide)
    have hr_web : Room 3 _ := hr.mono (by decide)
    have hr_whole : Room 4 _ := hr.mono (by decide)
    have hr_right_g : Room 5 _ := hr
    have hu64 := hr.units
    have nd := scLaw.nd
    refine ⟨_, (pss_cons (ps_set (i := 1) nd rfl (by first | exact Or.inl rfl | exact Or.inr rfl) (pe_call G_box hr_box (by rfl) D_box.ad D_box.fn.kp D_box.bd .nil pass0 (pa_cons (pv 0) pa_nil)))
      (pss_cons (ps_for PassesOwn.never rfl (pi_range1 rfl T.range (pa_cons pe_int pa_nil)) (pg_name (i := 2) nd rfl (by first | exact Or.inl rfl | exact Or.inr rfl)) (pss_cons (ps_set (i := 3) nd rfl (by first | exact Or.inl rfl | exact Or.inr rfl) (pe_call G_web hr_web (by rfl) D_web.ad D_web.fn.kp D_web.bd .nil pass0 (pa_cons (pv 1) (pa_cons (pe_ix (ixL K) (pe_lst (pa_cons pe_int (pa_cons pe_int (pa_cons pe_int (pa_cons pe_int pa_nil))))) (pv 2) (fun _ _ => rfl)) (pa_cons (pe_ix (ixL K) (pe_lst (pa_cons pe_int (pa_cons pe_int (pa_cons pe_int (pa_cons pe_int pa_nil))))) (pv 2) (fun _ _ => rfl)) pa_nil)))))
      (pss_cons (ps_if (PW.pt (pw_and (pt_cmpR op_eq (pv 2) pe_int (nomark _)) (pw_and1 (pt_cmpR op_eq (pe_call G_draw hr_draw (by rfl) D_draw.ad D_draw.fn.kp D_draw.bd .nil pass0 (pa_cons (pv 1) (pa_cons pe_int pa_nil))) pe_int (nomark _))))) (pss_one (ps_set (i := 3) nd rfl (by first | exact Or.inl rfl | exact Or.inr rfl) (pe_call G_web hr_web (by rfl) D_web.ad D_web.fn.kp D_web.bd .nil pass0 (pa_cons (pv 1) (pa_cons pe_int (pa_cons pe_int pa_nil)))))) pss_nil)
      (pss_cons (ps_if (pt_not (pt_val (pe_callG G_right_g hgd hr_right_g (by rfl) D_right_g.ad D_right_g.fn.kp D_right_g.bd .nil pass0 (pa_cons (pv 1) (pa_cons (pv 3) (pa_cons (pe_cmpR op_eq (pv 2) pe_int (nomark _)) pa_nil)))))) (pss_one (ps_ret pe_bl)) pss_nil)
      (pss_one (ps_if (PW.pt (pw_and (pt_cmpR op_lt (pe_callB (lenK K) (by rfl) T.len PySem.boot_len (pa_cons (pe_ix (ixT K) (pv 3) pe_int (fun _ _ => rfl)) pa_nil)) pe_int (nomark _)) (pw_and1 (pt_not (pt_val (pe_call G_whole hr_whole (by rfl) D_whole.ad D_whole.fn.kp D_whole.bd .nil pass0 (pa_cons (pv 3) pa_nil))))))) (pss_one (ps_ret pe_bl)) pss_nil))))))
      (pss_one (ps_ret pe_bl)))), ?_⟩
    refine tSeq_go ?_
    refine ⟨_, rfl, a, ns, rfl, hS, hlen, fun b g H1 _ _ _ hB => ?_⟩
    show tSeq _ _ _ _ _
    refine tSeq_go ?_
    refine ⟨4, rfl, by decide, by decide, ?_⟩
    refine for_range (lo := 0) (n := (4 : Int).toNat) (fun i σ Hc => ∃ (v2 v3 : Option V), σ = [some (.ref a), some (.ref b), v2, v3] ∧ Box Hc b g) ?_ ?_ ?_
    · exact ⟨none, none, rfl, hB⟩
    · rintro i σ Hc hi ⟨v2, v3, rfl, hBc⟩
      have hi4 : i < 4 := hi
      rw [Int.zero_add]
      obtain ⟨m1, e1, q1, q2⟩ := most4 i hi4
      obtain ⟨m2, e2, q3⟩ := more4 i hi4
      have q3' : m2 ≤ 5 := by
        match i, hi4 with
        | 0, _ | 1, _ | 2, _ | 3, _ =>
          have := V.int.inj (Option.some.inj e2)
          omega
      have q2' : m1 ≤ 7 := by
        match i, hi4 with
        | 0, _ | 1, _ | 2, _ | 3, _ =>
          have := V.int.inj (Option.some.inj e1)
          omega
      show tSeq _ _ _ _ _
      refine tSeq_go ?_
      refine ⟨_, rfl, by decide, fun l1 hl1 => ?_⟩
      have s1 := same_new (o := .lst [.int 3, .int 5, .int 7, .int 7]) hl1
      refine ⟨_, rfl, l1, _, _, _, rfl, rfl, SqL.of upd_same, atI_nat e1, by decide, fun l2 hl2 => ?_⟩
      have s2 := same_new (o := .lst [.int 3, .int 4, .int 5, .int 5]) hl2
      refine ⟨_, rfl, l2, _, _, _, rfl, rfl, SqL.of upd_same, atI_nat e2, ?_⟩
      refine ⟨b, g, m1, m2, rfl, q1, by omega, by omega, (hBc.same s1).same s2, fun p n ts H3 _ hB3 hdp hok hn hl _ => ?_⟩
      dsimp only [gName]
      refine at_st [some (.ref a), some (.ref b), some (.int (i : Nat)), some (.ref p)] rfl ?_
      refine tSeq_go ?_
      refine tIfS_by (fun σ' H' => ∃ (p : Addr) (n : Nat) (ts : List Tie), σ' = [some (.ref a), some (.ref b), some (.int (i : Nat)), some (.ref p)] ∧ Box H' b g ∧ Dp K H' (.ref p) (webD n ts) ∧ WebOk n ts ∧ n ≤ 12 ∧ ts.length ≤ 40) ?_ (fun cont => ?_)
      rotate_left
      · refine ⟨_, rfl, rfl, _, rfl, ?_⟩
        refine ite2 (fun hh => ?_) (fun hh => ?_)
        · refine ⟨_, rfl, b, g, 4, rfl, by decide, by decide, hB3, fun r8 H8 r80 r81 kp8 B8 => ?_⟩
          refine ⟨rfl, _, rfl, ?_⟩
          refine ite2 (fun hh => ?_) (fun hh => ?_)
          · refine ⟨_, rfl, b, g, 12, 11, rfl, by decide, by decide, by decide, B8, fun p2 n2 ts2 H9 _ hB9 hdp2 hok2 hn2 hl2 _ => ?_⟩
            exact cont _ _ ⟨p2, n2, ts2, rfl, hB9, hdp2, hok2, hn2, by omega⟩
          · exact cont _ _ ⟨p, n, ts, rfl, B8, dp_kf (KF.of_kp kp8 hB3) _ (still_web n ts) hdp, hok, by omega, by omega⟩
        · exact cont _ _ ⟨p, n, ts, rfl, hB3, hdp, hok, by omega, by omega⟩
      clear hok hdp hB3 hl hn s1 s2 hl1 hl2
      rintro σ' H4 ⟨p, n, ts, rfl, B4, hdp, hok, hn, hl⟩
      refine tSeq_go ?_
      refine ⟨_, rfl, _, rfl, _, rfl, rfl, b, g, .ref p, n, ts, _, rfl, hdp, B4, hok, by omega, by omega, fun H5 kp5 B5 => ⟨true, rfl, iteF ?_⟩⟩
      have w5 := dp_kf (KF.of_kp kp5 B4) _ (still_web n ts) hdp
      dsimp only [tNext]
      obtain ⟨ap, c, ys, ep, ha, hc, hys⟩ := dp_web w5
      cases ep
      have hyl : ys.length = ts.length := by rw [dpAll_len hys, List.length_map]
      refine ⟨_, rfl, p, _, _, _, rfl, rfl, ha, atI_nat (j := 1) rfl, c, ys, rfl, .inr hc, _, _, rfl, rfl, _, rfl, ?_⟩
      refine ite2 (fun hh => ?_) (fun hh => ?_)
      · have h8 : ts.length ≤ 7 := by
          have := of_decide_eq_true hh
          omega
        refine ⟨_, rfl, .ref p, n, ts, rfl, w5, hok, by omega, h8, fun H6 s6 => ⟨true, rfl, iteF ?_⟩⟩
        exact ⟨_, _, rfl, B5.same s6⟩
      · exact ⟨_, _, rfl, B5⟩
    · rintro σ Hc ⟨v2, v3, rfl, hBc⟩
      exact k _
end
end BV

namespace BV
open PySem L2
section
variable {K : PySem.W.Frag} {mg : Str → Option Value}
theorem df_mk {x : String} {st : Stmt} {ps : List Str} {f : Addr} {oc : Value} {od an : Option Addr} {osl : Array (Option Value)} {kV doc pm cdv ct : Value} {h : Heap}
    (X : K.In h) (G : h.Ns mainGlobals mg)
    (a : PySem.W.nsIn K mainGlobals (Str.ofString x) = some (some (.ref f)))
    (l : K.lookup f = some ⟨oc, od, .func (PySem.W.fnOf (Str.ofString x) (Str.ofString x) (defArgs st) (defBody st) (defScope st) .none kV doc pm an cdv ct), osl⟩)
    (c : PySem.W.codeIn K cdv (Str.ofString x) = true) (k : PySem.W.keepIn K (.ref f) = true)
    (hb : ∀ (kV doc pm : Value) (an : Option Addr) (cdv ct : Value) (us : List Value), us.length = ps.length →
      bindArgs (PySem.W.fnOf (Str.ofString x) (Str.ofString x) (defArgs st) (defBody st) (defScope st) .none kV doc pm an cdv ct) ⟨us, []⟩ = pure (ps.zip us)) :
    Df K mg x st ps f (PySem.W.fnOf (Str.ofString x) (Str.ofString x) (defArgs st) (defBody st) (defScope st) .none kV doc pm an cdv ct) :=
  ⟨fun_mk (st := st) l c k, PySem.W.mg_of X G a, (fun_mk (st := st) l c k).binds hb⟩
theorem kbn_mk {x : Str} {params : Arguments} {body : List Stmt} {scope : Scope} {f : Addr} {ps ks : List Str} {g : List Value → List Value → List Value} {gV : List V → List V → List V}
    {oc : Value} {od an : Option Addr} {osl : Array (Option Value)} {kV doc pm cdv ct : Value}
    (_l : K.lookup f = some ⟨oc, od, .func (PySem.W.fnOf x x params body scope .none kV doc pm an cdv ct), osl⟩)
    (hb : ∀ us ws : List Value, us.length = 0 → ws.length = ks.length →
      bindArgs (PySem.W.fnOf x x params body scope .none kV doc pm an cdv ct) ⟨us, ks.zip ws⟩ = pure (ps.zip (g us ws)))
    (hr : ∀ {vs : List V} {us : List Value} {zs : List V} {ws : List Value}, Vals vs us → Vals zs ws → Vals (gV vs zs) (g us ws)) :
    KBn K (PySem.W.fnOf x x params body scope .none kV doc pm an cdv ct) ps 0 ks g gV :=
  ⟨fun _ us ws _ h1 h2 => .of_eq (hb us ws h1 h2), hr⟩
end
theorem all_mk {l : PySem.W.OpenLaw} {w : World} {K : PySem.W.Frag} {h : Heap} {mg : Str → Option Value} {fa : Addr} (X : K.In h) (G : h.Ns mainGlobals mg) (hfa : mg "law" = some (.ref fa))
    {f0 f1 f2 f3 f4 f5 f6 f7 f8 f9 f10 f11 f12 f13 f14 f15 f16 f17 f18 f19 f20 f21 f22 f23 f24 f25 f26 f27 f28 : Addr} {od0 an0 od1 an1 od2 an2 od3 an3 od4 an4 od5 an5 od6 an6 od7 an7 od8 an8 od9 an9 od10 an10 od11 an11 od12 an12 od13 an13 od14 an14 od15 an15 od16 an16 od17 an17 od18 an18 od19 an19 od20 an20 od21 an21 od22 an22 od23 an23 od24 an24 od25 an25 od26 an26 od27 an27 od28 an28 : Option Addr} {sl0 sl1 sl2 sl3 sl4 sl5 sl6 sl7 sl8 sl9 sl10 sl11 sl12 sl13 sl14 sl15 sl16 sl17 sl18 sl19 sl20 sl21 sl22 sl23 sl24 sl25 sl26 sl27 sl28 : Array (Option Value)}
    {oc0 kV0 dc0 pm0 cd0 ct0 oc1 kV1 dc1 pm1 cd1 ct1 oc2 kV2 dc2 pm2 cd2 ct2 oc3 kV3 dc3 pm3 cd3 ct3 oc4 kV4 dc4 pm4 cd4 ct4 oc5 kV5 dc5 pm5 cd5 ct5 oc6 kV6 dc6 pm6 cd6 ct6 oc7 kV7 dc7 pm7 cd7 ct7 oc8 kV8 dc8 pm8 cd8 ct8 oc9 kV9 dc9 pm9 cd9 ct9 oc10 kV10 dc10 pm10 cd10 ct10 oc11 kV11 dc11 pm11 cd11 ct11 oc12 kV12 dc12 pm12 cd12 ct12 oc13 kV13 dc13 pm13 cd13 ct13 oc14 kV14 dc14 pm14 cd14 ct14 oc15 kV15 dc15 pm15 cd15 ct15 oc16 kV16 dc16 pm16 cd16 ct16 oc17 kV17 dc17 pm17 cd17 ct17 oc18 kV18 dc18 pm18 cd18 ct18 oc19 kV19 dc19 pm19 cd19 ct19 oc20 kV20 dc20 pm20 cd20 ct20 oc21 kV21 dc21 pm21 cd21 ct21 oc22 kV22 dc22 pm22 cd22 ct22 oc23 kV23 dc23 pm23 cd23 ct23 oc24 kV24 dc24 pm24 cd24 ct24 oc25 kV25 dc25 pm25 cd25 ct25 oc26 kV26 dc26 pm26 cd26 ct26 oc27 kV27 dc27 pm27 cd27 ct27 oc28 kV28 dc28 pm28 cd28 ct28 : Value}
    (a0 : PySem.W.nsIn K mainGlobals "all_ties" = some (some (.ref f0)))
    (l0 : K.lookup f0 = some ⟨oc0, od0, .func (PySem.W.fnOf "all_ties" "all_ties" (defArgs sAll) (defBody sAll) (defScope sAll) .none kV0 dc0 pm0 an0 cd0 ct0), sl0⟩)
    (c0 : PySem.W.codeIn K cd0 "all_ties" = true) (k0 : PySem.W.keepIn K (.ref f0) = true)
    (a1 : PySem.W.nsIn K mainGlobals "far_end" = some (some (.ref f1)))
    (l1 : K.lookup f1 = some ⟨oc1, od1, .func (PySem.W.fnOf "far_end" "far_end" (defArgs sFar) (defBody sFar) (defScope sFar) .none kV1 dc1 pm1 an1 cd1 ct1), sl1⟩)
    (c1 : PySem.W.codeIn K cd1 "far_end" = true) (k1 : PySem.W.keepIn K (.ref f1) = true)
    (a2 : PySem.W.nsIn K mainGlobals "ways_from" = some (some (.ref f2)))
    (l2 : K.lookup f2 = some ⟨oc2, od2, .func (PySem.W.fnOf "ways_from" "ways_from" (defArgs sWays) (defBody sWays) (defScope sWays) .none kV2 dc2 pm2 an2 cd2 ct2), sl2⟩)
    (c2 : PySem.W.codeIn K cd2 "ways_from" = true) (k2 : PySem.W.keepIn K (.ref f2) = true)
    (a3 : PySem.W.nsIn K mainGlobals "made_one" = some (some (.ref f3)))
    (l3 : K.lookup f3 = some ⟨oc3, od3, .func (PySem.W.fnOf "made_one" "made_one" (defArgs sMade) (defBody sMade) (defScope sMade) .none kV3 dc3 pm3 an3 cd3 ct3), sl3⟩)
    (c3 : PySem.W.codeIn K cd3 "made_one" = true) (k3 : PySem.W.keepIn K (.ref f3) = true)
    (a4 : PySem.W.nsIn K mainGlobals "sum_of" = some (some (.ref f4)))
    (l4 : K.lookup f4 = some ⟨oc4, od4, .func (PySem.W.fnOf "sum_of" "sum_of" (defArgs sSum) (defBody sSum) (defScope sSum) .none kV4 dc4 pm4 an4 cd4 ct4), sl4⟩)
    (c4 : PySem.W.codeIn K cd4 "sum_of" = true) (k4 : PySem.W.keepIn K (.ref f4) = true)
    (a5 : PySem.W.nsIn K mainGlobals "common_odd" = some (some (.ref f5)))
    (l5 : K.lookup f5 = some ⟨oc5, od5, .func (PySem.W.fnOf "common_odd" "common_odd" (defArgs sCodd) (defBody sCodd) (defScope sCodd) .none kV5 dc5 pm5 an5 cd5 ct5), sl5⟩)
    (c5 : PySem.W.codeIn K cd5 "common_odd" = true) (k5 : PySem.W.keepIn K (.ref f5) = true)
    (a6 : PySem.W.nsIn K mainGlobals "cut_of" = some (some (.ref f6)))
    (l6 : K.lookup f6 = some ⟨oc6, od6, .func (PySem.W.fnOf "cut_of" "cut_of" (defArgs sCut) (defBody sCut) (defScope sCut) .none kV6 dc6 pm6 an6 cd6 ct6), sl6⟩)
    (c6 : PySem.W.codeIn K cd6 "cut_of" = true) (k6 : PySem.W.keepIn K (.ref f6) = true)
    (a7 : PySem.W.nsIn K mainGlobals "odd_places" = some (some (.ref f7)))
    (l7 : K.lookup f7 = some ⟨oc7, od7, .func (PySem.W.fnOf "odd_places" "odd_places" (defArgs sOdd) (defBody sOdd) (defScope sOdd) .none kV7 dc7 pm7 an7 cd7 ct7), sl7⟩)
    (c7 : PySem.W.codeIn K cd7 "odd_places" = true) (k7 : PySem.W.keepIn K (.ref f7) = true)
    (a8 : PySem.W.nsIn K mainGlobals "is_even" = some (some (.ref f8)))
    (l8 : K.lookup f8 = some ⟨oc8, od8, .func (PySem.W.fnOf "is_even" "is_even" (defArgs sEven) (defBody sEven) (defScope sEven) .none kV8 dc8 pm8 an8 cd8 ct8), sl8⟩)
    (c8 : PySem.W.codeIn K cd8 "is_even" = true) (k8 : PySem.W.keepIn K (.ref f8) = true)
    (a9 : PySem.W.nsIn K mainGlobals "_far_side" = some (some (.ref f9)))
    (l9 : K.lookup f9 = some ⟨oc9, od9, .func (PySem.W.fnOf "_far_side" "_far_side" (defArgs sFside) (defBody sFside) (defScope sFside) .none kV9 dc9 pm9 an9 cd9 ct9), sl9⟩)
    (c9 : PySem.W.codeIn K cd9 "_far_side" = true) (k9 : PySem.W.keepIn K (.ref f9) = true)
    (a10 : PySem.W.nsIn K mainGlobals "is_cut" = some (some (.ref f10)))
    (l10 : K.lookup f10 = some ⟨oc10, od10, .func (PySem.W.fnOf "is_cut" "is_cut" (defArgs sIscut) (defBody sIscut) (defScope sIscut) .none kV10 dc10 pm10 an10 cd10 ct10), sl10⟩)
    (c10 : PySem.W.codeIn K cd10 "is_cut" = true) (k10 : PySem.W.keepIn K (.ref f10) = true)
    (a11 : PySem.W.nsIn K mainGlobals "is_round" = some (some (.ref f11)))
    (l11 : K.lookup f11 = some ⟨oc11, od11, .func (PySem.W.fnOf "is_round" "is_round" (defArgs sIsr) (defBody sIsr) (defScope sIsr) .none kV11 dc11 pm11 an11 cd11 ct11), sl11⟩)
    (c11 : PySem.W.codeIn K cd11 "is_round" = true) (k11 : PySem.W.keepIn K (.ref f11) = true)
    (a12 : PySem.W.nsIn K mainGlobals "_first_round" = some (some (.ref f12)))
    (l12 : K.lookup f12 = some ⟨oc12, od12, .func (PySem.W.fnOf "_first_round" "_first_round" (defArgs sFround) (defBody sFround) (defScope sFround) .none kV12 dc12 pm12 an12 cd12 ct12), sl12⟩)
    (c12 : PySem.W.codeIn K cd12 "_first_round" = true) (k12 : PySem.W.keepIn K (.ref f12) = true)
    (a13 : PySem.W.nsIn K mainGlobals "first_tree" = some (some (.ref f13)))
    (l13 : K.lookup f13 = some ⟨oc13, od13, .func (PySem.W.fnOf "first_tree" "first_tree" (defArgs sFtree) (defBody sFtree) (defScope sFtree) .none kV13 dc13 pm13 an13 cd13 ct13), sl13⟩)
    (c13 : PySem.W.codeIn K cd13 "first_tree" = true) (k13 : PySem.W.keepIn K (.ref f13) = true)
    (a14 : PySem.W.nsIn K mainGlobals "tree_rounds" = some (some (.ref f14)))
    (l14 : K.lookup f14 = some ⟨oc14, od14, .func (PySem.W.fnOf "tree_rounds" "tree_rounds" (defArgs sTrounds) (defBody sTrounds) (defScope sTrounds) .none kV14 dc14 pm14 an14 cd14 ct14), sl14⟩)
    (c14 : PySem.W.codeIn K cd14 "tree_rounds" = true) (k14 : PySem.W.keepIn K (.ref f14) = true)
    (a15 : PySem.W.nsIn K mainGlobals "_law_box" = some (some (.ref f15)))
    (l15 : K.lookup f15 = some ⟨oc15, od15, .func (PySem.W.fnOf "_law_box" "_law_box" (defArgs sBox) (defBody sBox) (defScope sBox) .none kV15 dc15 pm15 an15 cd15 ct15), sl15⟩)
    (c15 : PySem.W.codeIn K cd15 "_law_box" = true) (k15 : PySem.W.keepIn K (.ref f15) = true)
    (a16 : PySem.W.nsIn K mainGlobals "_law_draw" = some (some (.ref f16)))
    (l16 : K.lookup f16 = some ⟨oc16, od16, .func (PySem.W.fnOf "_law_draw" "_law_draw" (defArgs sDraw) (defBody sDraw) (defScope sDraw) .none kV16 dc16 pm16 an16 cd16 ct16), sl16⟩)
    (c16 : PySem.W.codeIn K cd16 "_law_draw" = true) (k16 : PySem.W.keepIn K (.ref f16) = true)
    (a17 : PySem.W.nsIn K mainGlobals "_law_pick" = some (some (.ref f17)))
    (l17 : K.lookup f17 = some ⟨oc17, od17, .func (PySem.W.fnOf "_law_pick" "_law_pick" (defArgs sPick) (defBody sPick) (defScope sPick) .none kV17 dc17 pm17 an17 cd17 ct17), sl17⟩)
    (c17 : PySem.W.codeIn K cd17 "_law_pick" = true) (k17 : PySem.W.keepIn K (.ref f17) = true)
    (a18 : PySem.W.nsIn K mainGlobals "_law_web" = some (some (.ref f18)))
    (l18 : K.lookup f18 = some ⟨oc18, od18, .func (PySem.W.fnOf "_law_web" "_law_web" (defArgs sWeb) (defBody sWeb) (defScope sWeb) .none kV18 dc18 pm18 an18 cd18 ct18), sl18⟩)
    (c18 : PySem.W.codeIn K cd18 "_law_web" = true) (k18 : PySem.W.keepIn K (.ref f18) = true)
    (a19 : PySem.W.nsIn K mainGlobals "_law_counts" = some (some (.ref f19)))
    (l19 : K.lookup f19 = some ⟨oc19, od19, .func (PySem.W.fnOf "_law_counts" "_law_counts" (defArgs sCounts) (defBody sCounts) (defScope sCounts) .none kV19 dc19 pm19 an19 cd19 ct19), sl19⟩)
    (c19 : PySem.W.codeIn K cd19 "_law_counts" = true) (k19 : PySem.W.keepIn K (.ref f19) = true)
    (a20 : PySem.W.nsIn K mainGlobals "_law_is_even" = some (some (.ref f20)))
    (l20 : K.lookup f20 = some ⟨oc20, od20, .func (PySem.W.fnOf "_law_is_even" "_law_is_even" (defArgs sLeven) (defBody sLeven) (defScope sLeven) .none kV20 dc20 pm20 an20 cd20 ct20), sl20⟩)
    (c20 : PySem.W.codeIn K cd20 "_law_is_even" = true) (k20 : PySem.W.keepIn K (.ref f20) = true)
    (a21 : PySem.W.nsIn K mainGlobals "_law_sum" = some (some (.ref f21)))
    (l21 : K.lookup f21 = some ⟨oc21, od21, .func (PySem.W.fnOf "_law_sum" "_law_sum" (defArgs sLsum) (defBody sLsum) (defScope sLsum) .none kV21 dc21 pm21 an21 cd21 ct21), sl21⟩)
    (c21 : PySem.W.codeIn K cd21 "_law_sum" = true) (k21 : PySem.W.keepIn K (.ref f21) = true)
    (a22 : PySem.W.nsIn K mainGlobals "_law_lot" = some (some (.ref f22)))
    (l22 : K.lookup f22 = some ⟨oc22, od22, .func (PySem.W.fnOf "_law_lot" "_law_lot" (defArgs sLot) (defBody sLot) (defScope sLot) .none kV22 dc22 pm22 an22 cd22 ct22), sl22⟩)
    (c22 : PySem.W.codeIn K cd22 "_law_lot" = true) (k22 : PySem.W.keepIn K (.ref f22) = true)
    (a23 : PySem.W.nsIn K mainGlobals "_law_path" = some (some (.ref f23)))
    (l23 : K.lookup f23 = some ⟨oc23, od23, .func (PySem.W.fnOf "_law_path" "_law_path" (defArgs sPath) (defBody sPath) (defScope sPath) .none kV23 dc23 pm23 an23 cd23 ct23), sl23⟩)
    (c23 : PySem.W.codeIn K cd23 "_law_path" = true) (k23 : PySem.W.keepIn K (.ref f23) = true)
    (a24 : PySem.W.nsIn K mainGlobals "_law_tree_rounds" = some (some (.ref f24)))
    (l24 : K.lookup f24 = some ⟨oc24, od24, .func (PySem.W.fnOf "_law_tree_rounds" "_law_tree_rounds" (defArgs sLtr) (defBody sLtr) (defScope sLtr) .none kV24 dc24 pm24 an24 cd24 ct24), sl24⟩)
    (c24 : PySem.W.codeIn K cd24 "_law_tree_rounds" = true) (k24 : PySem.W.keepIn K (.ref f24) = true)
    (a25 : PySem.W.nsIn K mainGlobals "_law_is_right" = some (some (.ref f25)))
    (l25 : K.lookup f25 = some ⟨oc25, od25, .func (PySem.W.fnOf "_law_is_right" "_law_is_right" (defArgs sRight) (defBody sRight) (defScope sRight) .none kV25 dc25 pm25 an25 cd25 ct25), sl25⟩)
    (c25 : PySem.W.codeIn K cd25 "_law_is_right" = true) (k25 : PySem.W.keepIn K (.ref f25) = true)
    (a26 : PySem.W.nsIn K mainGlobals "_law_twos" = some (some (.ref f26)))
    (l26 : K.lookup f26 = some ⟨oc26, od26, .func (PySem.W.fnOf "_law_twos" "_law_twos" (defArgs sTwos) (defBody sTwos) (defScope sTwos) .none kV26 dc26 pm26 an26 cd26 ct26), sl26⟩)
    (c26 : PySem.W.codeIn K cd26 "_law_twos" = true) (k26 : PySem.W.keepIn K (.ref f26) = true)
    (a27 : PySem.W.nsIn K mainGlobals "_law_is_whole" = some (some (.ref f27)))
    (l27 : K.lookup f27 = some ⟨oc27, od27, .func (PySem.W.fnOf "_law_is_whole" "_law_is_whole" (defArgs sWhole) (defBody sWhole) (defScope sWhole) .none kV27 dc27 pm27 an27 cd27 ct27), sl27⟩)
    (c27 : PySem.W.codeIn K cd27 "_law_is_whole" = true) (k27 : PySem.W.keepIn K (.ref f27) = true)
    (a28 : PySem.W.nsIn K mainGlobals "law" = some (some (.ref f28)))
    (l28 : K.lookup f28 = some ⟨oc28, od28, .func (PySem.W.fnOf "law" "law" (defArgs sLaw) (defBody sLaw) (defScope sLaw) .none kV28 dc28 pm28 an28 cd28 ct28), sl28⟩)
    (c28 : PySem.W.codeIn K cd28 "law" = true) (k28 : PySem.W.keepIn K (.ref f28) = true)
    (z_int : PySem.W.nsIn K mainGlobals "int" = some none)
    (z_abs : PySem.W.nsIn K mainGlobals "abs" = some none)
    (z_len : PySem.W.nsIn K mainGlobals "len" = some none)
    (z_range : PySem.W.nsIn K mainGlobals "range" = some none)
    (z_enumerate : PySem.W.nsIn K mainGlobals "enumerate" = some none)
    (z_tuple : PySem.W.nsIn K mainGlobals "tuple" = some none)
    (z_min : PySem.W.nsIn K mainGlobals "min" = some none)
    (z_max : PySem.W.nsIn K mainGlobals "max" = some none)
    (z_sum : PySem.W.nsIn K mainGlobals "sum" = some none)
    (z_repr : PySem.W.nsIn K mainGlobals "repr" = some none)
    (z_sorted : PySem.W.nsIn K mainGlobals "sorted" = some none) :
    ∃ fd : FuncData, (∀ (s : Shared) (v : Value), BindsTo s fd ⟨[v], []⟩ [("_law_script", v)]) ∧
      ∀ base : Heap, K.In base → base.Ns mainGlobals mg → FnG l.prog w K mg base CX0 6 fa fd ["_law_script"] (spLaw K) := by
  have e := hfa.symm.trans (PySem.W.mg_of X G a28)
  cases e
  have T : Bl mg := ⟨PySem.W.mg_none_of X G z_int, PySem.W.mg_none_of X G z_abs, PySem.W.mg_none_of X G z_len, PySem.W.mg_none_of X G z_range, PySem.W.mg_none_of X G z_enumerate, PySem.W.mg_none_of X G z_tuple, PySem.W.mg_none_of X G z_min, PySem.W.mg_none_of X G z_max, PySem.W.mg_none_of X G z_sum, PySem.W.mg_none_of X G z_repr⟩
  have Zsorted : mg "sorted" = none := PySem.W.mg_none_of X G z_sorted
  have D0 : Df K mg "all_ties" sAll ["web"] f0 _ := df_mk X G a0 l0 c0 k0 fun _ _ _ _ _ _ us hl => match us, hl with | [_], _ => rfl
  have D1 : Df K mg "far_end" sFar ["web", "tie", "place"] f1 _ := df_mk X G a1 l1 c1 k1 fun _ _ _ _ _ _ us hl => match us, hl with | [_, _, _], _ => rfl
  have D2 : Df K mg "ways_from" sWays ["web", "ties", "start"] f2 _ := df_mk X G a2 l2 c2 k2 fun _ _ _ _ _ _ us hl => match us, hl with | [_, _, _], _ => rfl
  have D3 : Df K mg "made_one" sMade ["part", "one", "other"] f3 _ := df_mk X G a3 l3 c3 k3 fun _ _ _ _ _ _ us hl => match us, hl with | [_, _, _], _ => rfl
  have D4 : Df K mg "sum_of" sSum ["lots"] f4 _ := df_mk X G a4 l4 c4 k4 fun _ _ _ _ _ _ us hl => match us, hl with | [_], _ => rfl
  have D5 : Df K mg "common_odd" sCodd ["one", "other"] f5 _ := df_mk X G a5 l5 c5 k5 fun _ _ _ _ _ _ us hl => match us, hl with | [_, _], _ => rfl
  have D6 : Df K mg "cut_of" sCut ["web", "places"] f6 _ := df_mk X G a6 l6 c6 k6 fun _ _ _ _ _ _ us hl => match us, hl with | [_, _], _ => rfl
  have D7 : Df K mg "odd_places" sOdd ["web", "lot"] f7 _ := df_mk X G a7 l7 c7 k7 fun _ _ _ _ _ _ us hl => match us, hl with | [_, _], _ => rfl
  have D8 : Df K mg "is_even" sEven ["web", "lot"] f8 _ := df_mk X G a8 l8 c8 k8 fun _ _ _ _ _ _ us hl => match us, hl with | [_, _], _ => rfl
  have D9 : Df K mg "_far_side" sFside ["web", "lot"] f9 _ := df_mk X G a9 l9 c9 k9 fun _ _ _ _ _ _ us hl => match us, hl with | [_, _], _ => rfl
  have D10 : Df K mg "is_cut" sIscut ["web", "lot"] f10 _ := df_mk X G a10 l10 c10 k10 fun _ _ _ _ _ _ us hl => match us, hl with | [_, _], _ => rfl
  have D11 : Df K mg "is_round" sIsr ["web", "lot"] f11 _ := df_mk X G a11 l11 c11 k11 fun _ _ _ _ _ _ us hl => match us, hl with | [_, _], _ => rfl
  have D12 : Df K mg "_first_round" sFround ["web", "lot"] f12 _ := df_mk X G a12 l12 c12 k12 fun _ _ _ _ _ _ us hl => match us, hl with | [_, _], _ => rfl
  have D13 : Df K mg "first_tree" sFtree ["web"] f13 _ := df_mk X G a13 l13 c13 k13 fun _ _ _ _ _ _ us hl => match us, hl with | [_], _ => rfl
  have D14 : Df K mg "tree_rounds" sTrounds ["web"] f14 _ := df_mk X G a14 l14 c14 k14 fun _ _ _ _ _ _ us hl => match us, hl with | [_], _ => rfl
  have D15 : Df K mg "_law_box" sBox ["_law_script"] f15 _ := df_mk X G a15 l15 c15 k15 fun _ _ _ _ _ _ us hl => match us, hl with | [_], _ => rfl
  have D16 : Df K mg "_law_draw" sDraw ["_law_box_here", "_law_many"] f16 _ := df_mk X G a16 l16 c16 k16 fun _ _ _ _ _ _ us hl => match us, hl with | [_, _], _ => rfl
  have D17 : Df K mg "_law_pick" sPick ["_law_box_here", "_law_items"] f17 _ := df_mk X G a17 l17 c17 k17 fun _ _ _ _ _ _ us hl => match us, hl with | [_, _], _ => rfl
  have D18 : Df K mg "_law_web" sWeb ["_law_box_here", "_law_most", "_law_more"] f18 _ := df_mk X G a18 l18 c18 k18 fun _ _ _ _ _ _ us hl => match us, hl with | [_, _, _], _ => rfl
  have D19 : Df K mg "_law_counts" sCounts ["_law_web_here", "_law_lot_here"] f19 _ := df_mk X G a19 l19 c19 k19 fun _ _ _ _ _ _ us hl => match us, hl with | [_, _], _ => rfl
  have D20 : Df K mg "_law_is_even" sLeven ["_law_web_here", "_law_lot_here"] f20 _ := df_mk X G a20 l20 c20 k20 fun _ _ _ _ _ _ us hl => match us, hl with | [_, _], _ => rfl
  have D21 : Df K mg "_law_sum" sLsum ["_law_one", "_law_other"] f21 _ := df_mk X G a21 l21 c21 k21 fun _ _ _ _ _ _ us hl => match us, hl with | [_, _], _ => rfl
  have D22 : Df K mg "_law_lot" sLot ["_law_web_here", "_law_number"] f22 _ := df_mk X G a22 l22 c22 k22 fun _ _ _ _ _ _ us hl => match us, hl with | [_, _], _ => rfl
  have D23 : Df K mg "_law_path" sPath ["_law_web_here", "_law_taken", "_law_begin", "_law_end"] f23 _ := df_mk X G a23 l23 c23 k23 fun _ _ _ _ _ _ us hl => match us, hl with | [_, _, _, _], _ => rfl
  have D24 : Df K mg "_law_tree_rounds" sLtr ["_law_web_here"] f24 _ := df_mk X G a24 l24 c24 k24 fun _ _ _ _ _ _ us hl => match us, hl with | [_], _ => rfl
  have D25 : Df K mg "_law_is_right" sRight ["_law_box_here", "_law_web_here", "_law_is_named"] f25 _ := df_mk X G a25 l25 c25 k25 fun _ _ _ _ _ _ us hl => match us, hl with | [_, _, _], _ => rfl
  have D26 : Df K mg "_law_twos" sTwos ["_law_many"] f26 _ := df_mk X G a26 l26 c26 k26 fun _ _ _ _ _ _ us hl => match us, hl with | [_], _ => rfl
  have D27 : Df K mg "_law_is_whole" sWhole ["_law_web_here"] f27 _ := df_mk X G a27 l27 c27 k27 fun _ _ _ _ _ _ us hl => match us, hl with | [_], _ => rfl
  have D28 : Df K mg "law" sLaw ["_law_script"] fa _ := df_mk X G a28 l28 c28 k28 fun _ _ _ _ _ _ us hl => match us, hl with | [_], _ => rfl
  have Kt : KBn K _ ["web"] 0 ["web"] (fun _ ws => ws) (fun _ zs => zs) := kbn_mk l14 (fun us ws h1 h2 => match us, ws, h1, h2 with | [], [_], _, _ => rfl) (fun r1 r2 => r2)
  exact ⟨_, fun s v => .of_eq rfl, fun base _ _ => ok_law D28 T Zsorted D6 D0 D1 D2 D5 D9 D10 D7 D8 D4 D3 D13 D14 Kt D12 D11 D16 D23 D24 D15 D17 D18 D25 D21 D26 D22 D19 D20 D27⟩
end BV

open PySem PySem.W PyProof.Rows in
set_option maxRecDepth 100000 in
set_option maxHeartbeats 0 in
theorem PySem.Challenge.cw_botheven_k08_whole_rounds_of_the_first_t_holds : PySem.Challenge.rw_botheven_k08_whole_rounds_of_the_first_t.Holds := by
  w_on; o_law; k_head; (case hw => w_witness2)
  k_fill
  refine BV.walk_ofG (n := 63) (k := 6) (x := "_law_script") (CX := L2.CX0) (sp := BV.spLaw) (l := PySem.Challenge.rw_botheven_k08_whole_rounds_of_the_first_t) rfl (by decide) rfl ⟨rfl, by decide, by decide⟩ (fun w h Y => PySem.W.kIn_of Y) ?F (fun _ _ a ns hl _ _ hS => ⟨a, ns, rfl, hS, hl, fun _ => rfl⟩) fun _ _ _ _ z => z
  case F =>
    intro w mg fa h KX G hmg
    refine' BV.all_mk KX G hmg ?a0 ?l0 ?c0 ?k0 ?a1 ?l1 ?c1 ?k1 ?a2 ?l2 ?c2 ?k2 ?a3 ?l3 ?c3 ?k3 ?a4 ?l4 ?c4 ?k4 ?a5 ?l5 ?c5 ?k5 ?a6 ?l6 ?c6 ?k6 ?a7 ?l7 ?c7 ?k7 ?a8 ?l8 ?c8 ?k8 ?a9 ?l9 ?c9 ?k9 ?a10 ?l10 ?c10 ?k10 ?a11 ?l11 ?c11 ?k11 ?a12 ?l12 ?c12 ?k12 ?a13 ?l13 ?c13 ?k13 ?a14 ?l14 ?c14 ?k14 ?a15 ?l15 ?c15 ?k15 ?a16 ?l16 ?c16 ?k16 ?a17 ?l17 ?c17 ?k17 ?a18 ?l18 ?c18 ?k18 ?a19 ?l19 ?c19 ?k19 ?a20 ?l20 ?c20 ?k20 ?a21 ?l21 ?c21 ?k21 ?a22 ?l22 ?c22 ?k22 ?a23 ?l23 ?c23 ?k23 ?a24 ?l24 ?c24 ?k24 ?a25 ?l25 ?c25 ?k25 ?a26 ?l26 ?c26 ?k26 ?a27 ?l27 ?c27 ?k27 ?a28 ?l28 ?c28 ?k28 ?z_int ?z_abs ?z_len ?z_range ?z_enumerate ?z_tuple ?z_min ?z_max ?z_sum ?z_repr ?z_sorted
    (case a0 => k_is)
    (case l0 => k_is)
    (case c0 => k_is)
    (case k0 => k_is)
    (case a1 => k_is)
    (case l1 => k_is)
    (case c1 => k_is)
    (case k1 => k_is)
    (case a2 => k_is)
    (case l2 => k_is)
    (case c2 => k_is)
    (case k2 => k_is)
    (case a3 => k_is)
    (case l3 => k_is)
    (case c3 => k_is)
    (case k3 => k_is)
    (case a4 => k_is)
    (case l4 => k_is)
    (case c4 => k_is)
    (case k4 => k_is)
    (case a5 => k_is)
    (case l5 => k_is)
    (case c5 => k_is)
    (case k5 => k_is)
    (case a6 => k_is)
    (case l6 => k_is)
    (case c6 => k_is)
    (case k6 => k_is)
    (case a7 => k_is)
    (case l7 => k_is)
    (case c7 => k_is)
    (case k7 => k_is)
    (case a8 => k_is)
    (case l8 => k_is)
    (case c8 => k_is)
    (case k8 => k_is)
    (case a9 => k_is)
    (case l9 => k_is)
    (case c9 => k_is)
    (case k9 => k_is)
    (case a10 => k_is)
    (case l10 => k_is)
    (case c10 => k_is)
    (case k10 => k_is)
    (case a11 => k_is)
    (case l11 => k_is)
    (case c11 => k_is)
    (case k11 => k_is)
    (case a12 => k_is)
    (case l12 => k_is)
    (case c12 => k_is)
    (case k12 => k_is)
    (case a13 => k_is)
    (case l13 => k_is)
    (case c13 => k_is)
    (case k13 => k_is)
    (case a14 => k_is)
    (case l14 => k_is)
    (case c14 => k_is)
    (case k14 => k_is)
    (case a15 => k_is)
    (case l15 => k_is)
    (case c15 => k_is)
    (case k15 => k_is)
    (case a16 => k_is)
    (case l16 => k_is)
    (case c16 => k_is)
    (case k16 => k_is)
    (case a17 => k_is)
    (case l17 => k_is)
    (case c17 => k_is)
    (case k17 => k_is)
    (case a18 => k_is)
    (case l18 => k_is)
    (case c18 => k_is)
    (case k18 => k_is)
    (case a19 => k_is)
    (case l19 => k_is)
    (case c19 => k_is)
    (case k19 => k_is)
    (case a20 => k_is)
    (case l20 => k_is)
    (case c20 => k_is)
    (case k20 => k_is)
    (case a21 => k_is)
    (case l21 => k_is)
    (case c21 => k_is)
    (case k21 => k_is)
    (case a22 => k_is)
    (case l22 => k_is)
    (case c22 => k_is)
    (case k22 => k_is)
    (case a23 => k_is)
    (case l23 => k_is)
    (case c23 => k_is)
    (case k23 => k_is)
    (case a24 => k_is)
    (case l24 => k_is)
    (case c24 => k_is)
    (case k24 => k_is)
    (case a25 => k_is)
    (case l25 => k_is)
    (case c25 => k_is)
    (case k25 => k_is)
    (case a26 => k_is)
    (case l26 => k_is)
    (case c26 => k_is)
    (case k26 => k_is)
    (case a27 => k_is)
    (case l27 => k_is)
    (case c27 => k_is)
    (case k27 => k_is)
    (case a28 => k_is)
    (case l28 => k_is)
    (case c28 => k_is)
    (case k28 => k_is)
    (case z_int => k_is)
    (case z_abs => k_is)
    (case z_len => k_is)
    (case z_range => k_is)
    (case z_enumerate => k_is)
    (case z_tuple => k_is)
    (case z_min => k_is)
    (case z_max => k_is)
    (case z_sum => k_is)
    (case z_repr => k_is)
    (case z_sorted => k_is)

