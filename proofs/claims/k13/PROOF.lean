import PyProof.Rows.All
import Wide.All
import OpenK.AllK
import Wide.FinOn
import HandS.Words
import HandS.WordsList
import HandS.Defaults
import HandS.List
import PyProof.ReprRoads
import HandS.Ends
import HandS.EndBits
import HandS.ForMost
import HandS.TupMul
import HandS.Walk
import HandS.Wide
import KE.GoesEnum
import KE.KTupSum
import KE.KRevSl
import HandS.Style
import PyProof.ReprLen
import HandS.TupAny
import HandS.Zip
import HandS.TupLe
import HandS.IsInst
import HandS.WordsExc
import HandS.ExcIs
import HandS.TryOnly
import PySem.Challenge.RW_botheven_k13_whole_first_all_that_add
set_option Elab.async false
set_option maxRecDepth 100000
set_option maxHeartbeats 4000000
set_option linter.all false
namespace BV
open PySem PySem.Spec PyProof.Rows L2

/-! ### defs that may write texts of data: the same promise, asked only where nothing is being written -/
def CanRun (P : Program) (w : World) (K : PySem.W.Frag) (mg : Str → Option Value) (base : Heap)
    (CX : CXT) (k : Nat) (f : Addr) (fd : FuncData) (ps : List Str) (sp : Sp) : Prop :=
  ∀ (A : Around) (outer : List Env) (s : Shared) (H : Hp) (args : Args) (us : List Value) (vs : List V) (Q : VK) (E : XK),
    A.guards = some [] → Room k A → Env0 P w K mg base A outer s H → BindsTo s fd args (ps.zip us) →
    Vals vs us → sp vs H Q E →
      codeAny (model P w) A (.call (.ref f) args) (CR CX outer P w H s Q E) s

structure FnG (P : Program) (w : World) (K : PySem.W.Frag) (mg : Str → Option Value) (base : Heap)
    (CX : CXT) (k : Nat) (f : Addr) (fd : FuncData) (ps : List Str) (sp : Sp) : Prop where
  len : ∀ vs H Q E, sp vs H Q E → vs.length = ps.length
  run : CanRun P w K mg base CX k f fd ps sp

section
variable {P : Program} {w : World} {K : PySem.W.Frag} {mg : Str → Option Value} {base : Heap} {CX : CXT}

/-- a def's body keeps its promise, the guards told -/
theorem fn_ofG {k : Nat} {f : Addr} {name qual : Str} {params : Arguments} {body : List Stmt} {scope : Scope}
    {dV kV doc pm cdv ct oc : Value} {an od : Option Addr} {osl : Array (Option Value)} {N ps : List Str} {sp : Sp}
    (lk : K.lookup f = some ⟨oc, od, .func (PySem.W.fnOf name qual params body scope dV kV doc pm an cdv ct), osl⟩)
    (hcd : PySem.W.codeIn K cdv qual = true) (S : FnScope N ps scope)
    (len : ∀ vs H Q E, sp vs H Q E → vs.length = ps.length)
    (hbody : ∀ (A : Around) (outer : List Env) (s : Shared) (H : Hp) (vs : List V) (Q : VK) (E : XK), A.guards = some [] →
      Room k (A.deeper (envOfC qual scope s.heap.objs.size f cdv)) → sp vs H Q E →
      ∃ t, PSs (cxOf CX P w K mg base N qual scope f cdv A outer s H E) body t ∧
        t { nx := fun _ H' => Q .non H', rt := Q } (start N vs) H) :
    FnG P w K mg base CX (k + 1) f (PySem.W.fnOf name qual params body scope dV kV doc pm an cdv ct) ps sp := by
  constructor
  · exact len
  · intro A outer s H args us vs Q E hgd hr e0 hb r hsp
    have hl := len _ _ _ _ hsp
    have bk : ∀ b o, base.get? b = some o → s.heap.get? b = some o := fun b o e => (e0.bs b o e).1
    have KX : K.In s.heap := e0.mod.kin.keeps bk
    have hkind : ∀ y ∈ ps.zip us, scope.names.lookup y.1 = some .local ∨
        (scope.names.lookup y.1 = some .cell ∧
          ((cellsFrom (s.heap.objs.size + 1) scope.names []).lookup y.1).isSome = true) := by
      intro y hy
      obtain ⟨n, v⟩ := y
      cases S.par n (List.of_mem_zip hy).1 with
      | inl q => exact Or.inl q
      | inr q => exact Or.inr ⟨q, PySem.W.cellsFrom_some _ _ _ (.inl q)⟩
    refine codeAny_call_function hr.depth (KX _ _ lk) rfl S.co S.gen rfl
      (PySem.W.codeRec_of KX hcd) (hb _ _ _ _ ?_)
    refine wpAny_newFunctionEnv_cells S.kind hkind fun env he s1 x => ?_
    subst he
    refine ⟨(e0.mod.nolimit.keeps bk).keeps x.toInCall.keep, codeAny_func ?_⟩
    obtain ⟨t, ht, hq⟩ := hbody A outer s H vs Q E hgd (hr.deeper _) hsp
    have I := inv_start (CX := CX) (P := P) (w := w) (K := K) (mg := mg) (base := base) (E := E) S hr.hd e0 hl r x
    refine wpAny_mono (ht.run [] s1 (start N vs) H _ I hq) (fun fl s' hs => ?_) fun e s' hs => hs
    cases fl with
    | ret u =>
      obtain ⟨v, σ', H', J, rv, q⟩ := hs
      exact ⟨v, H', J.os, J.bare, J.base, J.hok, rv, q⟩
    | next =>
      obtain ⟨σ', H', J, q⟩ := hs
      exact ⟨V.non, H', J.os, J.bare, J.base, J.hok, rfl, q⟩
    | brk => exact hs.choose_spec.choose_spec.2.elim
    | cont => exact hs.choose_spec.choose_spec.2.elim

theorem okG {x qual : Str} {st : Stmt} {f : Addr} {fd : FuncData} {N ps : List Str} {k : Nat} {sp : Sp}
    (F : Fun K x qual st f fd) (S : FnScope N ps (defScope st)) (len : ∀ vs H Q E, sp vs H Q E → vs.length = ps.length)
    (hbody : ∀ (cdv : Value) (A : Around) (outer : List Env) (s : Shared) (H : Hp) (vs : List V) (Q : VK) (E : XK),
      A.guards = some [] → Room k (A.deeper (envOfC qual (defScope st) s.heap.objs.size f cdv)) → sp vs H Q E →
      ∃ t, PSs (cxOf CX0 P w K mg base N qual (defScope st) f cdv A outer s H E).nox (defBody st) t ∧
        t { nx := fun _ H' => Q .non H', rt := Q } (start N vs) H) :
    FnG P w K mg base CX0 (k + 1) f fd ps sp := by
  obtain ⟨oc, od, kV, doc, pm, an, cdv, ct, osl, e, lk, hcd⟩ := F.ex
  subst e
  refine fn_ofG lk hcd S len fun A outer s H vs Q E hg hr hsp => ?_
  obtain ⟨t, h, q⟩ := hbody cdv A outer s H vs Q E hg hr hsp
  exact ⟨t, h.nox, q⟩

theorem FnG.of {k : Nat} {f : Addr} {fd : FuncData} {ps : List Str} {sp : Sp} (F : FnOk P w K mg base CX k f fd ps sp) :
    FnG P w K mg base CX k f fd ps sp :=
  ⟨F.len, fun A outer s H args us vs Q E _ hr => F.run A outer s H args us vs Q E hr⟩
end

section
variable {X : Cx} {CX : CXT} {k n : Nat} {f : Addr} {fd : FuncData} {ps ks : List Str} {sp : Sp} {dvs : List V} {ds : List Value}
  {E : XK} {x : Str} {p pos : Pos} {e : Expr} {es : List Expr} {t tk : TA} {kws : List Keyword}
  {g : List Value → List Value → List Value} {gV : List V → List V → List V}

/-- the way out of a callee's run -/
theorem back_of {pins : List (Addr × Obj)} {σ : L2.St} {H : Hp} {s s' : Shared} {Q : VK} {r : Result}
    (hx : Passes CX X E) (I : Inv X pins σ H s) (hq : CR CX X.stack X.prog X.w H s Q E r s') :
    match r with
    | .ok (.ret u) => EP X pins σ Q u s'
    | .ok _ => False
    | .error e => X.xe e s' := by
  cases r with
  | error e => exact hx pins σ H s e s' I hq
  | ok fl =>
    cases fl with
    | ret u => exact I.after hq
    | next => exact hq
    | brk => exact hq
    | cont => exact hq

theorem run_fnG {pins : List (Addr × Obj)} {σ : L2.St} {H : Hp} {s : Shared} {Q : VK} {us : List Value} {vs : List V}
    (F : FnG X.prog X.w X.K X.mg X.base CX k f fd ps sp) (hgd : X.A.guards = some []) (hr : Room k X.A)
    (hb : Binds X.K fd ps ds) (hd : Vals dvs ds) (hx : Passes CX X E)
    (I : Inv X pins σ H s) (r : Vals vs us) (h : sp (vs ++ dvs) H Q E) :
    wpAny (model X.prog X.w) X.A (call (.ref f) us) (EP X pins σ Q) X.xe s := by
  have r2 : Vals (vs ++ dvs) (us ++ ds) := r.append hd
  have hl : (us ++ ds).length = ps.length := by
    rw [← r2.length]
    exact F.len _ _ _ _ h
  have c := F.run X.A X.stack s H ⟨us, []⟩ (us ++ ds) (vs ++ dvs) Q E hgd hr I.env0 (hb s us I.kIn hl) r2 h
  refine wpAny_call (codeAny_mono c fun r s' hq => ?_)
  have b := back_of hx I hq
  cases r with
  | error e => exact b
  | ok fl =>
    cases fl with
    | ret u => exact b
    | next => exact b.elim
    | brk => exact b.elim
    | cont => exact b.elim

theorem pe_callG (F : FnG X.prog X.w X.K X.mg X.base CX k f fd ps sp) (hgd : X.A.guards = some []) (hr : Room k X.A)
    (hg : Gl X x) (hm : X.mg x = some (.ref f)) (hk : PySem.W.keepIn X.K (.ref f) = true)
    (hb : Binds X.K fd ps ds) (hd : Vals dvs ds) (hx : Passes CX X E) (ha : PA X (e :: es) t)
    (hdb : (x == ("__debug__" : Str)) = false := by decide)
    (he : starEach (e :: es) X.env = (false, eval e X.env) :: starEach es X.env := by rfl)
    (hpl : (backTo pos (starEach es X.env)).any (·.1) = false := by rfl) :
    PE X (.Call (.Name x p) (e :: es) [] pos) (tCall sp dvs E t) := by
  constructor
  intro pins s σ H Q I h
  refine wpAny_Call_Name_kw (ld_glob I hg hm ?_ hdb)
  refine PySem.W.callWith_K (h₀ := X.base) I.ok.mod.kin hk ?_ he hpl
  refine thn (ha.run pos pins s σ H _ I h) fun us s1 hh => ?_
  obtain ⟨vs, H1, I1, r, q⟩ := hh
  exact ⟨I1.kIn, run_fnG F hgd hr hb hd hx I1 r q⟩

/-- f(k = v, ..), keywords alone -/
def tCallK0 (m : Nat) (sp : Sp) (gV : List V → List V → List V) (E : XK) (tk : TA) : TE :=
  fun σ H Q => tk σ H fun zs H2 => zs.length = m ∧ sp (gV [] zs) H2 Q E

theorem pe_callK0 (F : FnOk X.prog X.w X.K X.mg X.base CX k f fd ps sp) (hr : Room k X.A)
    (hg : Gl X x) (hm : X.mg x = some (.ref f)) (hk : PySem.W.keepIn X.K (.ref f) = true)
    (hb : KBn X.K fd ps 0 ks g gV) (hx : Passes CX X E) (hkw : PK X kws tk)
    (hall : (backToKw pos (keywordEach kws X.env)).all (·.1.isSome) = true := by rfl)
    (hks : (backToKw pos (keywordEach kws X.env)).filterMap (·.1) = ks := by rfl)
    (hdb : (x == ("__debug__" : Str)) = false := by decide)
    (hpl : ((backTo pos (starEach [] X.env)).any (·.1) || (backToKw pos (keywordEach kws X.env)).any (·.1.isNone)) = false := by rfl) :
    PE X (.Call (.Name x p) [] kws pos) (tCallK0 ks.length sp gV E tk) := by
  constructor
  intro pins s σ H Q I h
  refine wpAny_Call_Name_kw (ld_glob I hg hm ?_ hdb)
  refine PySem.W.callWith_KW0 (h₀ := X.base) I.ok.mod.kin hk hall ?_ hpl
  refine thn (hkw.run pos pins s σ H _ I h) fun ws s2 hh => ?_
  obtain ⟨zs, H2, I2, rz, l2, q2⟩ := hh
  refine ⟨I2.kIn, ?_⟩
  rw [hks]
  exact run_fnN (us := []) (vs := []) F hr hb hx I2 .nil rz rfl l2 q2

/-! ### repr of data -/
def Show (d : PyData) : Prop := d.showable = true ∧ d.hasDict = false ∧ d.depth ≤ 40 ∧ d.shown.length ≤ sizeLine

theorem call_reprD (hgd : X.A.guards = some []) (hu : X.A.units + 64 < cLine) :
    CallR X (.builtin "repr") (fun xs H Q => ∃ (x : V) (d : PyData), xs = [x] ∧ Dp X.K H x d ∧ Show d ∧ Q (.str d.shown) H) := by
  intro pins s σ H xs us Q I r h
  obtain ⟨x, d, rfl, hd, ⟨h1, h2, h3, h4⟩, q⟩ := h
  cases r with
  | cons r0 rr =>
    cases rr
    rename_i v
    obtain ⟨as, rd⟩ := Dp.reads I d x v hd r0
    cases rd with
    | list a b c dd =>
      refine repr_of_reads' (.list a b c dd) h1 (PyData.noDict_hsm h2) hgd (by omega) (fun _ _ e => e) (fun h' u tk hk => ?_) h4
      exact ⟨.str _, H, I.kept (t' := tk) hk, ⟨u, rfl⟩, q⟩
    | tuple a b c dd =>
      refine repr_of_reads' (.tuple a b c dd) h1 (PyData.noDict_hsm h2) hgd (by omega) (fun _ _ e => e) (fun h' u tk hk => ?_) h4
      exact ⟨.str _, H, I.kept (t' := tk) hk, ⟨u, rfl⟩, q⟩
    | int i t =>
      refine PySem.P.repr_of_int (by simpa [PyData.showable] using h1) ⟨.str _, H, I.tok _, ⟨_, rfl⟩, ?_⟩
      simpa only [PyData.shown] using q
    | none =>
      refine PySem.P.repr_of_none ⟨.str _, H, I.tok _, ⟨_, rfl⟩, ?_⟩
      simpa only [PyData.shown] using q
    | bool b =>
      refine PySem.P.repr_of_bool ⟨.str _, H, I.tok _, ⟨_, rfl⟩, ?_⟩
      simpa only [PyData.shown] using q
    | str z t =>
      refine PySem.P.repr_of_str ⟨.str _, H, I.tok _, ⟨_, rfl⟩, ?_⟩ (by simpa only [PyData.shown] using h4)
      simpa only [PyData.shown] using q
    | dict a b c dd ee => simp [PyData.hasDict] at h2
end
end BV

namespace BV
open PySem PySem.Spec PyProof.Rows L2

/-- the heap at the law's entry: the script alone is tracked, unless the module wrote it -/
def entryHp (K : PySem.W.Frag) (a : Addr) (vs : List Value) (ns : List Int) : Hp := fun b =>
  if b = a ∧ K.lookup a = none then some (.frz { cls := .type "list", data := .seq vs.toArray } (.lst (ns.map V.int))) else none

section
variable {P : Program} {w : World} {K : PySem.W.Frag} {mg mb : Str → Option Value} {CX : CXT} {k : Nat} {fa a : Addr} {fd : FuncData}
  {x : Str} {sp : Sp} {s₁ : Shared} {vs : List Value} {ns : List Int}

theorem entry_none {b : Addr} (h : ¬ (b = a ∧ K.lookup a = none)) : entryHp K a vs ns b = none := if_neg h
theorem entry_some (h : K.lookup a = none) : entryHp K a vs ns a =
    some (.frz { cls := .type "list", data := .seq vs.toArray } (.lst (ns.map V.int))) := if_pos ⟨rfl, h⟩
theorem entry_only : Only (entryHp K a vs ns) := fun b => by
  by_cases h : b = a ∧ K.lookup a = none
  · exact .inr ⟨_, _, if_pos h⟩
  · exact .inl (if_neg h)

theorem law_callG (KX : K.In s₁.heap) (hns : s₁.heap.Ns mainGlobals mg) (hb : s₁.heap.Ns builtinsNs mb)
    (hbb : ∀ x : Str, x ≠ "__name__" → mb x = bootBuiltins x) (hlim : s₁.heap.NoLimit) (hg : s₁.gens = #[])
    (ha : s₁.heap.get? a = some { cls := .type "list", data := .seq vs.toArray })
    (hi : IntsAre vs ns) (hl : ns.length ≤ sizeLine) (hr : Room k callerA)
    (F : ∀ base : Heap, K.In base → base.Ns mainGlobals mg → FnG P w K mg base CX k fa fd [x] sp)
    (hbind : ∀ (s : Shared) (u : Value), BindsTo s fd ⟨[u], []⟩ [(x, u)])
    (hsp : ∀ H : Hp, Only H → SqL K H a (ns.map V.int) → sp [.ref a] H (fun v _ => v = .bl true) fun _ _ _ => False)
    (hCX : ∀ H e s', CX [] H s₁ (fun _ _ _ => False) e s' → False) :
    codeAny (model P w) callerA (.call (.ref fa) ⟨[.ref a], []⟩)
      (fun r s' => r = .ok (.ret (.bool true)) ∧ OldK s₁.heap s'.heap ∧ s'.os = s₁.os ∧ AllBare s'.gens) s₁ := by
  have rv := vals_ints hi
  let H := entryHp K a vs ns
  have hO : Only H := entry_only
  have hS : SqL K H a (ns.map V.int) := by
    cases hk : K.lookup a with
    | none => exact .inl (.inr ⟨_, entry_some hk⟩)
    | some o =>
      have e := KX a o hk
      rw [ha] at e
      cases e
      refine .inr ⟨_, vs.toArray, _, hk, rfl, rfl, rfl, ?_, by simpa using rv⟩
      rw [List.size_toArray, hi.length]
      exact hl
  have hok : HOk P w H s₁.heap := by
    intro b u e
    by_cases h : b = a ∧ K.lookup a = none
    · have e2 := (if_pos h).symm.trans e
      cases e2
      obtain ⟨rfl, _⟩ := h
      exact ⟨ha, by rw [List.length_map]; exact hl, vs, _, rv, ha⟩
    · cases (entry_none h).symm.trans e
  have at_a : ∀ b, H b ≠ none → b = a ∧ K.lookup a = none := fun b h => by
    by_cases h2 : b = a ∧ K.lookup a = none
    · exact h2
    · exact absurd (entry_none h2) h
  have away : ∀ {b : Addr} {o : Obj}, s₁.heap.get? b = some o → (b = a → K.lookup a = none → False) → (hidT s₁.heap H).get? b = some o :=
    fun {b o} e n => hidT_get e (entry_none fun z => n z.1 z.2)
  have nsK : ∀ {b : Addr} {m : Str → Option Value}, s₁.heap.Ns b m → (hidT s₁.heap H).Ns b m := by
    intro b m h
    obtain ⟨o, es, ep, e, d, r⟩ := h
    refine ⟨o, es, ep, away e fun z _ => ?_, d, r⟩
    subst z
    rw [ha] at e
    cases e
    cases d
  have hKb : K.In (hidT s₁.heap H) := fun b o e => away (KX b o e) fun z n => by
    subst z
    rw [n] at e
    cases e
  obtain ⟨mc, l1, l2⟩ := hlim
  have hM : Mod K mg (hidT s₁.heap H) := ⟨hKb, nsK hns, ⟨mb, nsK hb, hbb⟩, ⟨mc, nsK l1, l2⟩⟩
  have e0 : Env0 P w K mg (hidT s₁.heap H) callerA [] s₁ H :=
    { frames := rfl, mod := hM, bs := fun b o e => of_hidT e, bsz := Nat.le_of_eq (hidT_size _ _), funs := trivial,
      frf := fun b hb => absurd (show b ∈ ([] : List Addr) from hb) (by simp), hok := hok, bare := .of_eq hg }
  have go := (F _ hKb (nsK hns)).run callerA [] s₁ H ⟨[.ref a], []⟩ [.ref a] [.ref a] _ _ rfl hr e0
    (hbind s₁ (.ref a)) (.cons rfl .nil) (hsp H hO hS)
  refine codeAny_mono go fun r s' h => ?_
  cases r with
  | error e => exact (hCX H e s' h).elim
  | ok fl =>
    cases fl with
    | next => exact h.elim
    | brk => exact h.elim
    | cont => exact h.elim
    | ret u =>
      obtain ⟨v, H', os, bare, un, hok', r', q⟩ := h
      have q' : v = .bl true := q
      subst q'
      obtain rfl : u = Value.bool true := r'
      refine ⟨rfl, OldK.of_keep fun b o e => ?_, os, bare⟩
      cases hq : H b with
      | none => exact un.keep b o e hq (fun z => absurd (show b ∈ ([] : List Addr) from z) (by simp)) (by simp)
      | some u =>
        rcases hO b with z | ⟨ob, xs, z⟩
        · rw [hq] at z
          cases z
        · obtain ⟨e1, _⟩ := hok b _ z
          obtain ⟨e2, _⟩ := hok' b _ (un.frzs b ob _ z)
          rw [e] at e1
          cases e1
          exact e2
end

theorem walk_ofG {l : PySem.W.OpenLaw} {n k : Nat} {q : Program} {loose : List Str} {XP : (Str → Option Value) → Heap → Prop}
    {YP : World → Heap → Prop} {d : DefRec} {K : Params → PySem.W.Frag} {CX : CXT} {sp : PySem.W.Frag → Sp} {x : Str}
    (hn : l.most = some n) (hn2 : n ≤ sizeLine) (hdf : d.params.defaults = []) (hr : Room k callerA)
    (hY : ∀ (w : World) (h : Heap), YP w h → (K w.params).In h)
    (F : ∀ (w : World) (mg : Str → Option Value) (fa : Addr) (h : Heap), (K w.params).In h → h.Ns mainGlobals mg → mg d.name = some (.ref fa) →
      ∃ fd : FuncData, (∀ (s : Shared) (u : Value), BindsTo s fd ⟨[u], []⟩ [(x, u)]) ∧
        ∀ base : Heap, (K w.params).In base → base.Ns mainGlobals mg →
          FnG l.prog w (K w.params) mg base CX k fa fd [x] (sp (K w.params)))
    (hsp : ∀ (K : PySem.W.Frag) (H : Hp) (a : Addr) (ns : List Int), ns.length ≤ n → (∀ z ∈ ns, Builtin.Int.intBits z ≤ 1048576) →
      Only H → SqL K H a (ns.map V.int) → sp K [.ref a] H (fun v _ => v = .bl true) fun _ _ _ => False)
    (hCX : ∀ (H : Hp) (s : Shared) (e : Value) (s' : Shared), CX [] H s (fun _ _ _ => False) e s' → False) :
    PySem.W.WalkO q loose XP YP l.row.toRowW d [] (fun f vs => PySem.call f vs) := by
  refine Att.attach_callB hn hdf fun w s₀ s₁ mg mb fa o pm cd doc a vs ns G Y ho hd hcd hmg hobj hints hlen hbits hg => ?_
  have KX := hY w _ Y
  obtain ⟨fd, hb, hF⟩ := F w mg fa _ KX G.T.g hmg
  refine law_callG KX G.T.g G.T.b G.T.builtins G.T.nolimit hg hobj hints (Nat.le_trans hlen hn2) hr hF hb ?_ ?_
  · exact fun H hO hS => hsp (K w.params) H a ns hlen hbits hO hS
  · exact fun H e s' => hCX H s₁ e s'
end BV

namespace BV
open PySem PySem.Spec PyProof.Rows L2
open AutoSeq1 (wpAny_loadPart')

/-! ### enumerate(tuple) -/
theorem meets_enumT (l : Addr) (items : Array Value) (n : Nat) (dct : Option Addr) (sl : Array (Option Value)) :
    Meets (Builtin.«enumerate.__new__» ⟨[.type "enumerate", .ref l], []⟩)
      (fun _ R s => s.heap.get? l = some { cls := .type "tuple", dict := dct, data := .seq items n, slots := sl } ∧
        R (.ok (.ret (.ref (s.heap.push { cls := .type "tuple_iterator", data := .fields #[.ref l, .int 0 0] }).objs.size)))
          { s with heap := ((s.heap.push { cls := .type "tuple_iterator", data := .fields #[.ref l, .int 0 0] }).push
              ({ cls := .type "enumerate", data := .fields #[.none, .bool false, .ref s.heap.objs.size, rawInt 0, .none, .none] } : Obj)) }) := by
  refine .of_wp fun prog w A R s h => ?_
  obtain ⟨hp, g, d, tk, os⟩ := s
  obtain ⟨hl, h⟩ := h
  have hsub := sub_enumerate
  have hL : Heap.IsTuple (Shared.heap ⟨hp, g, d, tk, os⟩) l items := ⟨_, hl, rfl, n, rfl⟩
  wp_walk using wpAny_loadPart' hl
  refine wpAny_stack_any fun st => wpAny_pure ?_
  split
  · rename_i c _ _ _ _ _
    cases (c == Value.type "enumerate") <;>
    · wp_walk using wpAny_loadPart' hl, wpAny_pyIter_tuple hL
      exact ⟨_, rfl, h⟩
  · wp_walk using wpAny_loadPart' hl, wpAny_pyIter_tuple hL
    exact ⟨_, rfl, h⟩

theorem call_enumT {prog : Program} {w : World} {A : Around} {E : Value → Shared → Prop} {s : Shared} {l : Addr} {items : Array Value}
    {Q : Value → Shared → Prop} (hL : s.heap.IsTuple l items)
    (h : ∀ h', IsEnum h' (s.heap.objs.size + 1) s.heap.objs.size 0 .none → h'.IsTupleIter s.heap.objs.size l 0 →
      (∀ b o, s.heap.get? b = some o → h'.get? b = some o) → Q (.ref (s.heap.objs.size + 1)) { s with heap := h' }) :
    wpAny (model prog w) A (call (.type "enumerate") [.ref l]) Q E s := by
  obtain ⟨⟨c, dct, dt, sl⟩, hl, hc, n, hd⟩ := hL
  obtain rfl : c = .type "tuple" := hc
  obtain rfl : dt = .seq items n := hd
  refine callType_new F.called_enumerate (by decide) (F.typeCall_enumerate_1 _) (F.newCall_enumerate_1 _)
    (fun obj => F.args_object_init_2 obj _) F.entry_enumerate_new (meets_enumT l items n dct sl) ⟨hl, ?_⟩
  have hz : (s.heap.push { cls := .type "tuple_iterator", data := .fields #[.ref l, .int 0 0] }).objs.size = s.heap.objs.size + 1 := Heap.size_push ..
  show _ ∧ _
  rw [hz]
  have he : IsEnum ((s.heap.push { cls := .type "tuple_iterator", data := .fields #[.ref l, .int 0 0] }).push
      { cls := .type "enumerate", data := .fields #[.none, .bool false, .ref s.heap.objs.size, rawInt 0, .none, .none] })
      (s.heap.objs.size + 1) s.heap.objs.size 0 .none := by
    have q := Heap.get?_push_size (s.heap.push { cls := .type "tuple_iterator", data := .fields #[.ref l, .int 0 0] })
      (o := { cls := .type "enumerate", data := .fields #[.none, .bool false, .ref s.heap.objs.size, rawInt 0, .none, .none] }) rfl
    rw [hz] at q
    exact q
  refine ⟨⟨_, he, rfl⟩, h _ he ⟨_, Heap.get?_push_of_some _ (Heap.get?_push_size _ rfl), rfl, rfl⟩ ?_⟩
  exact fun b o x => Heap.get?_push_of_some _ (Heap.get?_push_of_some _ x)

/-- the tuple at a, each item in a new pair -/
def ItE (K : PySem.W.Frag) (a : Addr) (xs : List V) : It :=
  ⟨fun i H => SqT K H a xs ∧ i < xs.length,
   fun i H v H' => ∃ T x, v = .ref T ∧ H T = none ∧ H' = upd H T (.tup [.int (i : Nat), x]) ∧ xs[i]? = some x,
   fun i H => SqT K H a xs ∧ i = xs.length⟩

theorem turn_enumT {P : Program} {w : World} {K : PySem.W.Frag} {elts : List Expr} {kk : Nat} {tpos : Pos} (a e it : Addr) (xs : List V)
    (hae : a ≠ it) :
    Turn P w K (.Tuple elts kk tpos) (ItE K a xs) [e, it] e
      (fun i h => (∃ old, IsEnum h e it ((i : Nat) : Int) old) ∧ h.IsTupleIter it a i ∧ e ≠ it ∧ e ≠ a) where
  mem := by simp
  obj := by
    intro i h st b hb
    obtain ⟨⟨old, he⟩, ⟨o, ho, hc, hd⟩, _⟩ := st
    rcases (show b = e ∨ b = it by simpa using hb) with rfl | rfl
    · exact ⟨_, he, fun v q => nomatch q⟩
    · exact ⟨o, ho, fun v q => by rw [hd] at q; cases q⟩
  keep := by
    intro i h h' st k
    obtain ⟨⟨old, he⟩, hi, h1, h2⟩ := st
    exact ⟨⟨old, k e (by simp) _ he⟩, hi.at fun o q => k it (by simp) o q, h1, h2⟩
  item := by
    intro X hP hw hK hc i pins s σ H E I hf st hg
    subst hP hw hK
    obtain ⟨⟨old, he⟩, hit, hne, hea⟩ := st
    obtain ⟨hq, hlt⟩ := hg
    obtain ⟨its, rv, p, hz⟩ := I.tuple hq
    have htu : s.heap.IsTuple a its.toArray := p
    have hlen := rv.length
    have hel : e < s.heap.objs.size := Heap.lt_size he
    have hil : it < s.heap.objs.size := by
      obtain ⟨_, q, _⟩ := hit
      exact Heap.lt_size q
    have D := Draws.tuple (prog := X.prog) (w := X.w) (A := X.A.in1) (I.ok.hd hc) it a hae its.toArray
    have hlt2 : i < its.toArray.size := by rw [List.size_toArray]; omega
    refine wpAny_pyNext_enum_itemD D he ⟨hit, htu⟩ hlt2 hne (by simp [hne, hea]) ?_
    intro u h' tk hu ho hit' hT hsz hk
    refine ⟨_, rfl, wpAny_letOwnedTupleGo_enum (s := { s with heap := h', toks := tk + 1 }) ho fun h'' he' sb => ?_⟩
    have hx : xs[i]? = some xs[i] := by simp [hlt]
    obtain ⟨u', hu', ru⟩ := rv.get hx
    have eu : u' = u := by
      have := hu
      simp only [List.getElem?_toArray] at this
      rw [hu'] at this
      exact Option.some.inj this
    subst eu
    have hT2 : h''.get? s.heap.objs.size = some { cls := .type "tuple", data := .seq #[.int i tk, u'] } := (sb.2 _ (Nat.ne_of_gt hel)).trans hT
    have new : ObjOk X.prog X.w (upd H s.heap.objs.size (.tup [.int (i : Nat), xs[i]])) h'' s.heap.objs.size (.tup [.int (i : Nat), xs[i]]) :=
      ⟨by show 2 ≤ sizeLine; decide, [.int i tk, u'], .cons ⟨_, rfl⟩ (.cons ru .nil), ⟨_, hT2, rfl, _, rfl⟩⟩
    have kk : ∀ b o, b ∉ [e, it] → s.heap.get? b = some o → h''.get? b = some o := by
      intro b ob hb q
      have b1 : b ≠ e := fun z => hb (by simp [z])
      have b2 : b ≠ it := fun z => hb (by simp [z])
      exact (sb.2 b b1).trans (hk b ob b1 b2 q)
    have I1 : Inv X pins σ (upd H s.heap.objs.size (.tup [.int (i : Nat), xs[i]])) { s with heap := h'', toks := tk + 1 } :=
      I.turnedNew (ch := [e, it]) kk hf (Nat.le_refl _) new
    refine ⟨.ref s.heap.objs.size, _, I1, rfl, ⟨_, xs[i], rfl, I.hok.fresh (Nat.le_refl _), rfl, hx⟩,
      ⟨⟨u', ?_⟩, hit'.1.at fun o q => (sb.2 it (Ne.symm hne)).trans q, hne, hea⟩, fun b hb => ?_⟩
    · have e1 : ((i + 1 : Nat) : Int) = (i : Int) + 1 := by omega
      rw [e1]
      exact he'
    · have hb' : b < s.heap.objs.size := by
        rcases (show b = e ∨ b = it by simpa using hb) with rfl | rfl
        · exact hel
        · exact hil
      rw [upd_ne (Nat.ne_of_lt hb')]
      exact (hf b hb).1
  done := by
    intro X hP hw hK hc i pins s σ H E I hf st hg
    subst hP hw hK
    obtain ⟨⟨old, he⟩, hit, hne, hea⟩ := st
    obtain ⟨hq, hlt⟩ := hg
    obtain ⟨its, rv, p, hz⟩ := I.tuple hq
    have htu : s.heap.IsTuple a its.toArray := p
    have hlen := rv.length
    obtain ⟨f0, f1, f2, f3, f4, f5⟩ := hf it (by simp)
    have D := Draws.tuple (prog := X.prog) (w := X.w) (A := X.A.in1) (I.ok.hd hc) it a hae its.toArray
    have e3 : its.toArray.size = i := by rw [List.size_toArray]; omega
    rw [e3] at D
    refine wpAny_pyNext_enum_endD D he ⟨hit, htu⟩ fun h' eb => ⟨rfl, ?_⟩
    exact I.turned (t' := s.toks) (fun b o hb q => eb b o hb q) f0 f1 f3 f4 f5
  self := fun A i s Q E st h => let ⟨⟨_, he⟩, _⟩ := st; wpAny_pyIter_enum he h

def iEnumT (K : PySem.W.Frag) (ta : TA) : TI := fun σ H R => ta σ H fun vs H1 => ∃ a xs, vs = [.ref a] ∧ SqT K H1 a xs ∧ R (ItE K a xs) H1
theorem pi_enumT {X : Cx} {e : Expr} {ta : TA} {p pos tpos : Pos} {elts : List Expr} {kk : Nat} (hg : Gl X "enumerate") (hm : X.mg "enumerate" = none)
    (ha : PA X [e] ta) (hs : starEach [e] X.env = [(false, eval e X.env)] := by rfl) :
    PI X (.Tuple elts kk tpos) (.Call (.Name "enumerate" p) [e] [] pos) (iEnumT X.K ta) := by
  constructor
  intro pins s σ H R I h
  refine Call_ (ld_blt I hg hm boot_enumerate (PyProof.Rows.callWith_type1 (thn (ha.run pos pins s σ H _ I h) fun us s1 hh => ?_) hs rfl))
  obtain ⟨vs, H1, I1, r1, a, xs, ex, hq, q⟩ := hh
  subst ex
  cases r1 with
  | cons r rr =>
    cases rr
    cases r
    obtain ⟨its, rv, p', hz⟩ := I1.tuple hq
    have htu : s1.heap.IsTuple a its.toArray := p'
    have hlt : a < s1.heap.objs.size := by
      obtain ⟨o, ho, _⟩ := htu
      exact Heap.lt_size ho
    refine call_enumT htu fun h' he hit hk => wpAny_pyIter_enum he ?_
    have I2 : Inv X pins σ H1 { s1 with heap := h' } := I1.kept (t' := s1.toks) hk
    refine ⟨s1.heap.objs.size + 1, [s1.heap.objs.size + 1, s1.heap.objs.size], _, _, H1, rfl, I2,
      turn_enumT a (s1.heap.objs.size + 1) s1.heap.objs.size xs (Nat.ne_of_lt hlt),
      ⟨⟨.none, he⟩, hit, Nat.succ_ne_self _, Nat.ne_of_gt (Nat.lt_succ_of_lt hlt)⟩, fun b hb => ?_, q⟩
    have hle : s1.heap.objs.size ≤ b := by
      rcases (show b = s1.heap.objs.size + 1 ∨ b = s1.heap.objs.size by simpa using hb) with z | z
      · rw [z]; exact Nat.le_add_right _ _
      · rw [z]; exact Nat.le_refl _
    exact I1.fpOk hle (I1.hok.fresh hle)
theorem walk_enumT {K : PySem.W.Frag} {a : Addr} {xs : List V} :
    Walk (ItE K a xs) xs.length (fun H => SqT K H a xs) (YPair (fun i => some (.int (i : Nat))) (fun i => xs[i]?)) := by
  refine ⟨fun i H hi q => ⟨q, hi⟩, fun H q => ⟨q, rfl⟩, fun i H v H' _ q y => ?_⟩
  obtain ⟨T, x, h1, h2, h3, h4⟩ := y
  exact ⟨T, .int (i : Nat), x, h1, h2, h3, rfl, h4⟩

/-! ### sum of a tuple of ints -/
theorem cr_sumT {X : Cx} (hc : X.calm = true) : CallR X (.builtin "sum")
    (fun vs H Q => ∃ (a : Addr) (ns : List Int), vs = [V.ref a] ∧ SqT X.K H a (ns.map V.int) ∧ Q (.int ns.sum) H) := by
  intro pins s σ H vs us Q I r h
  obtain ⟨a, ns, rfl, hs, q⟩ := h
  obtain ⟨its, rv, hl, _⟩ := I.tuple hs
  rw [Vals.ref1 r]
  have hi := rv.ints
  obtain ⟨xs, e⟩ := hi.allInts.items
  have hn : numsOf (intItems xs).toList = ns := by rw [← e]; exact hi.numsOf
  rw [nums_intItems] at hn
  have hl2 : s.heap.IsTuple a its.toArray := hl
  rw [e] at hl2
  refine PySem.W.ktm_sumG (I.ok.hd hc) hl2 fun h' tk t' hk => ?_
  rw [preSum_eq, List.take_of_length_le (by simp), hn]
  exact ⟨.int _, H, I.kept hk, ⟨_, rfl⟩, q⟩
end BV

namespace BV
open PySem PySem.Spec PyProof.Rows L2

/-! ### xs[i] of a list, by values, for xs[i] op= e -/
def rGetL (K : PySem.W.Frag) : V → V → Hp → VK → Prop := fun x y H Q => ∃ p xs j z,
  x = .ref p ∧ y = .int ((j : Nat) : Int) ∧ SqL K H p xs ∧ xs[j]? = some z ∧ Q z H
theorem get_list {X : Cx} : PGet X (rGetL X.K) := by
  intro pins s σ H x y v u Q I rx ry h
  obtain ⟨p, xs, j, z, rfl, rfl, hq, he, q⟩ := h
  cases rx
  obtain ⟨t, rfl⟩ := ry
  obtain ⟨its, r, pl, hz⟩ := I.list hq
  obtain ⟨w, ew, rw'⟩ := r.get he
  have hl := r.length
  have hn := line63
  have hj : j < xs.length := (List.getElem?_eq_some_iff.mp he).1
  refine wpAny_getItem_list pl.isList (by omega) (by omega) (by simpa using ew) ?_
  exact ⟨z, H, I, rw', q⟩

/-! ### t[::-1] of a tuple -/
theorem applied_rev {prog : Program} {w : World} {A : Around} {E : Value → Shared → Prop} {s : Shared} {sl : Addr} {vs : Value} {n : Nat}
    {Q : Int × Int × Nat → Shared → Prop} (hs : s.heap.IsSliceOf sl .none .none vs) (ps : IsPart vs (some (-1)))
    (h : Q ((n : Int) - 1, -1, n) s) : wpAny (model prog w) A (Builtin.Slice.sliceApplied (.ref sl) (pure (n : Int))) Q E s := by
  obtain ⟨os, hos, hcs, hds⟩ := id hs
  unfold Builtin.Slice.sliceApplied Builtin.Slice.sliceFields
  refine wpAny_bind (wpAny_bind (wpAny_field hos hds (x := .none) rfl ?_))
  refine wpAny_bind (wpAny_field hos hds (x := .none) rfl ?_)
  refine wpAny_bind (wpAny_field hos hds (x := vs) rfl (wpAny_pure ?_))
  refine wpAny_bind (HT.slicePart_ ps ?_)
  show wpAny _ _ (if ((-1 : Int) == 0) = true then _ else _) _ _ s
  rw [if_neg (by decide)]
  refine wpAny_bind (HT.slicePart_ .none (wpAny_bind (HT.slicePart_ .none (wpAny_bind (wpAny_pure ?_)))))
  have e1 : Builtin.Slice.sliceAdjust none none (-1) (n : Int) = ((n : Int) - 1, -1) := by
    unfold Builtin.Slice.sliceAdjust
    simp
  have e2 : Builtin.Slice.slicePlaces ((n : Int) - 1) (-1) (-1) = n := by
    unfold Builtin.Slice.slicePlaces
    simp
    try omega
  show wpAny _ _ (match Builtin.Slice.sliceAdjust none none (-1) (n : Int) with
    | (lo, hi) => pure (lo, (-1 : Int), Builtin.Slice.slicePlaces lo hi (-1))) _ _ s
  rw [e1]
  show wpAny _ _ (pure ((n : Int) - 1, (-1 : Int), Builtin.Slice.slicePlaces ((n : Int) - 1) (-1) (-1))) _ _ s
  rw [e2]
  exact wpAny_pure h

theorem getItem_rev {prog : Program} {w : World} {A : Around} {E : Value → Shared → Prop} {s : Shared} {t sl : Addr} {items : Array Value} {vs : Value}
    {Q : Value → Shared → Prop} (ht : IsTup s.heap t items) (hs : s.heap.IsSliceOf sl .none .none vs) (ps : IsPart vs (some (-1)))
    (h : Q (.ref s.heap.objs.size) { s with heap := s.heap.push { cls := .type "tuple", data := .seq items.toList.reverse.toArray } })
    (hsz : items.size ≤ sizeLine) : wpAny (model prog w) A (getItem (.ref t) (.ref sl)) Q E s := by
  have hsize : sizeOk (.seq items.toList.reverse.toArray) := by
    show items.toList.reverse.toArray.size ≤ sizeLine
    rw [List.size_toArray, List.length_reverse, Array.length_toList]
    exact hsz
  obtain ⟨os, hos, hcs, hds⟩ := id hs
  have hTs : s.TypeIs (.ref sl) "slice" := ⟨os, hos, hcs⟩
  unfold getItem
  try with_reducible refine wpAny_holding ?_
  first | refine wpAny_bind (wpAny_pure ?_) | skip
  refine wpAny_bind (wpAny_sequenceKey ht.typeIs (by decide) ?_)
  refine wpAny_bind (wpAny_callSpecial?_slot (name := Str.ofString "__getitem__") ht.typeIs PyProof.Rows.slot_tuple_getitem ?_)
  refine wpAny_call_entry PyProof.Rows.slot_tuple_getitem ht.typeIs entry_tuple_getitem ?_ (args_tuple_getitem _ _)
  show wpAny _ _ (Builtin.Tuple.tupleItemsOf (.ref t) >>= _) _ _ s
  refine wpAny_bind (tupleItemsOf_ ht ?_)
  refine wpAny_bind (wpAny_typeOf hTs ?_)
  rw [if_pos (by decide)]
  refine wpAny_bind (applied_rev hs ps ?_)
  have hno : ¬ ((((items.size : Int) - 1) == 0 && (-1 : Int) == 1 && items.size == items.size) = true) := by
    intro q
    rw [Bool.and_eq_true, Bool.and_eq_true] at q
    exact absurd (eq_of_beq q.1.2) (by decide)
  have pick : ((List.range items.size).filterMap fun (k : Nat) => items[(((items.size : Int) - 1) + (k : Int) * (-1)).toNat]?) = items.toList.reverse := by
    have e1 : (fun (k : Nat) => items[(((items.size : Int) - 1) + (k : Int) * (-1)).toNat]?) = fun k => (fun j => items[j]?) ((items.size - 1) - k) := by
      funext k
      have : (((items.size : Int) - 1) + (k : Int) * (-1)).toNat = (items.size - 1) - k := by omega
      rw [this]
    rw [e1]
    have e2 := PySem.W.krv_all items
    have e3 := PySem.W.krv_range items.size
    have e4 : (List.range items.size).filterMap (fun k => (fun j => items[j]?) ((items.size - 1) - k)) =
        ((List.range items.size).map fun k => items.size - 1 - k).filterMap (fun j => items[j]?) := by
      rw [List.filterMap_map]
      rfl
    rw [e4, e3, List.filterMap_reverse, e2]
  show wpAny _ _ (if (((items.size : Int) - 1) == 0 && (-1 : Int) == 1 && items.size == items.size) = true then _ else _) _ _ s
  rw [if_neg hno, pick]
  first
    | exact wpAny_bind (m := Builtin.Tuple.tupleExact _) (wpAny_newObj_type (wpAny_pure ⟨_, rfl, wpAny_pure h⟩) hsize)
    | exact wpAny_bind (m := Builtin.Tuple.tupleExact _) (wpAny_newObj_type (wpAny_bind (wpAny_pure (wpAny_pure ⟨_, rfl, wpAny_pure h⟩))) hsize)
    | exact wpAny_bind (wpAny_bind (m := Builtin.Tuple.tupleExact _) (wpAny_newObj_type (wpAny_pure (wpAny_pure ⟨_, rfl, wpAny_pure h⟩)) hsize))
    | exact wpAny_bind (wpAny_bind (m := Builtin.Tuple.tupleExact _) (wpAny_newObj_type (wpAny_pure ⟨_, rfl, wpAny_pure h⟩) hsize))

/-- t[::-1] -/
def tRevT (K : PySem.W.Frag) (te : TE) : TE := fun σ H Q => te σ H fun x H1 => ∃ a xs, x = .ref a ∧ SqT K H1 a xs ∧
  ∀ p, H1 p = none → Q (.ref p) (upd H1 p (.tup xs.reverse))
theorem pe_revT {X : Cx} {e : Expr} {te : TE} {k : Nat} {p1 p2 p3 pos : Pos} (he : PE X e te) :
    PE X (.Subscript e (.Slice none none (some (.UnaryOp .USub (.Constant (.int 1) k p1) p2)) p3) pos) (tRevT X.K te) := by
  constructor
  intro pins s σ H Q I h
  refine Subscript_ (thn (he.run pins s σ H _ I h) fun v s1 hh => ?_)
  obtain ⟨x, H1, I1, r1, a, xs, ex, hx, q⟩ := hh
  subst ex
  cases r1
  have hst : PO X (some (.UnaryOp .USub (.Constant (.int 1) k p1) p2)) (tPart (tUn (rU fun i => .int (-i)) (tC (.int 1)))) :=
    po_some (pe_un un_neg pe_int)
  refine wpAny_Slice ?_
  rw [evalPart_none]
  refine wpAny_pure (wpAny_pure ?_)
  refine thn (hst.run pins s1 σ H1 (fun o H4 => o = some (-1) ∧ H4 = H1) I1 ⟨1, rfl, -1, rfl, rfl, rfl⟩) fun vs s4 h4 => ?_
  obtain ⟨o, H4, I4, ps, eo, e4⟩ := h4
  subst eo e4
  have I5 : Inv X pins σ H4 { s4 with heap := s4.heap.push { cls := .type "slice", data := .fields #[.none, .none, vs] } } :=
    I4.kept (t' := s4.toks) fun b ob q => Heap.get?_push_of_some _ q
  obtain ⟨its, r, ht, hz⟩ := I5.tuple hx
  have hlen := r.length
  refine tail_any (T := "tuple") (ops := [.ref a, .ref s4.heap.objs.size]) ht.typeIs (PyProof.Rows.slot_tuple_getitem.lookup) ?_ (by with_unfolding_all rfl)
  refine getItem_rev ht (Heap.IsSliceOf.new _ .none .none vs) ps ?_ (by rw [List.size_toArray]; omega)
  refine ⟨.ref _, _, I5.laid (t' := s4.toks) (o := .tup xs.reverse) (fun b ob q => Heap.get?_push_of_some _ q) (Nat.le_refl _) ?_, rfl, q _ (I5.hok.fresh (Nat.le_refl _))⟩
  exact ⟨by rw [List.length_reverse]; exact hz, _, r.reverse, IsTup.new _ _⟩
end BV

namespace BV
open PySem L2

/-! ### a def of the text, by its name -/
structure Df (K : PySem.W.Frag) (mg : Str → Option Value) (x : String) (st : Stmt) (ps : List Str) (f : Addr) (fd : FuncData) : Prop where
  fn : Fun K (Str.ofString x) (Str.ofString x) st f fd
  ad : mg (Str.ofString x) = some (.ref f)
  bd : L2.Binds K fd ps []

/-- the built-in names that the text uses are not its own -/
structure Bl (mg : Str → Option Value) : Prop where
  int : mg "int" = none
  abs : mg "abs" = none
  len : mg "len" = none
  range : mg "range" = none
  enumerate : mg "enumerate" = none
  tuple : mg "tuple" = none
  min : mg "min" = none
  max : mg "max" = none
  sum : mg "sum" = none
  repr : mg "repr" = none

/-! ### heaps -/
theorem same_new {H : Hp} {p : Addr} {o : HO} (h : H p = none) : Same H (upd H p o) := fun b x e => by
  rw [upd_ne (ne_of_none e h)]
  exact e
/-- all but b and g as it was -/
def Kp (b g : Addr) (H H' : Hp) : Prop := ∀ a o, H a = some o → a ≠ b → a ≠ g → H' a = some o
theorem Kp.refl {b g : Addr} (H : Hp) : Kp b g H H := fun _ _ h _ _ => h
theorem Kp.trans {b g : Addr} {H H1 H2 : Hp} (x : Kp b g H H1) (y : Kp b g H1 H2) : Kp b g H H2 :=
  fun a o h n1 n2 => y a o (x a o h n1 n2) n1 n2
theorem Kp.same {b g : Addr} {H H' : Hp} (x : Same H H') : Kp b g H H' := fun a o h _ _ => x a o h
theorem Kp.setb {b g : Addr} {H : Hp} {o : HO} : Kp b g H (upd H b o) := fun a x h n _ => by
  rw [upd_ne n]
  exact h
theorem Kp.setg {b g : Addr} {H : Hp} {o : HO} : Kp b g H (upd H g o) := fun a x h _ n => by
  rw [upd_ne n]
  exact h
theorem Kp.new {b g p : Addr} {H : Hp} {o : HO} (h : H p = none) : Kp b g H (upd H p o) := Kp.same (same_new h)

/-! ### comprehensions that change nothing -/
def era (H : Hp) (D : Addr) : Hp := fun a => if a = D then none else H a
theorem era_at {H : Hp} {D : Addr} : era H D D = none := if_pos rfl
theorem era_ne {H : Hp} {D a : Addr} (h : a ≠ D) : era H D a = H a := if_neg h
theorem era_back {H : Hp} {D : Addr} : Same (era H D) H := fun a o e => by
  by_cases h : a = D
  · subst h
    rw [era_at] at e
    cases e
  · rw [era_ne h] at e
    exact e
theorem era_upd {H : Hp} {D : Addr} {o : HO} : era (upd H D o) D = era H D := by
  funext a
  by_cases h : a = D
  · subst h
    rw [era_at, era_at]
  · rw [era_ne h, era_ne h, upd_ne h]
theorem era_same {H H' : Hp} {D : Addr} (s : Same H H') : Same (era H D) (era H' D) := fun a o e => by
  by_cases h : a = D
  · subst h
    rw [era_at] at e
    cases e
  · rw [era_ne h] at e ⊢
    exact s _ _ e
theorem era_none {H : Hp} {D : Addr} (h : H D = none) : era H D = H := by
  funext a
  by_cases q : a = D
  · subst q
    rw [era_at, h]
  · exact era_ne q

/-- what stands between two turns: the list at D, all else an extension of H1, and R of the list over the heap without D -/
def LcI (H1 : Hp) (D : Addr) (R : Nat → List V → Hp → Prop) (i : Nat) (H : Hp) : Prop :=
  ∃ acc, H D = some (.lst acc) ∧ Same H1 (era H D) ∧ R i acc (era H D)
theorem lc_add {H1 H H4 : Hp} {D : Addr} {R : Nat → List V → Hp → Prop} {i : Nat} {acc : List V} {y : V} (ha : H D = some (.lst acc))
    (e : Same H1 (era H D)) (s : Same H H4) (hl : acc.length < 100000) (r : R i (acc ++ [y]) (era H4 D)) :
    ∃ acc, H4 D = some (.lst acc) ∧ acc.length < sizeLine ∧ LcI H1 D R i (upd H4 D (.lst (acc ++ [y]))) := by
  refine ⟨acc, s _ _ ha, Nat.lt_of_lt_of_le hl (by decide), acc ++ [y], upd_same, ?_, ?_⟩
  · rw [era_upd]
    exact Same.trans e (era_same s)
  · rw [era_upd]
    exact r
theorem lc_skip {H1 H H3 : Hp} {D : Addr} {R : Nat → List V → Hp → Prop} {i : Nat} {acc : List V} (ha : H D = some (.lst acc))
    (e : Same H1 (era H D)) (s : Same H H3) (r : R i acc (era H3 D)) : LcI H1 D R i H3 :=
  ⟨acc, s _ _ ha, Same.trans e (era_same s), r⟩
theorem lc_run {J : It} {n : Nat} {G : Hp → Prop} {Y : Nat → Hp → V → Hp → Prop} (w : Walk J n G Y) {g : TG} {tt : TT} {te : TE} {vs : List Nat}
    {σ : L2.St} {H1 : Hp} {D : Addr} {Qd : Hp → Prop} (hD : H1 D = none) (R : Nat → List V → Hp → Prop)
    (hG : ∀ H, Same H1 H → G H) (h0 : R 0 [] H1)
    (hs : ∀ i x acc H H', i < n → H D = some (.lst acc) → Same H1 (era H D) → Same H1 H → R i acc (era H D) → Y i H x H' →
      g x (wipe σ vs) H' fun σ2 H2 => wipe σ2 vs = wipe σ vs ∧ tt σ2 H2 fun b H3 =>
        if b = true then te σ2 H3 fun y H4 => ∃ acc, H4 D = some (.lst acc) ∧ acc.length < sizeLine ∧ LcI H1 D R (i + 1) (upd H4 D (.lst (acc ++ [y])))
        else LcI H1 D R (i + 1) H3)
    (hd : ∀ acc H, H D = some (.lst acc) → Same H1 H → R n acc (era H D) → Qd H) :
    ∃ W : Nat → Nat → Hp → Prop, (∃ m, W 0 m (upd H1 D (.lst []))) ∧ ∀ i m H, W i m H →
      (J.stop i H ∧ Qd H) ∨ (J.go i H ∧ ∃ Nx : Hp → Prop, (∀ H', Nx H' → ∃ m', m' < m ∧ W (i + 1) m' H') ∧
        ∀ x H', J.yld i H x H' → g x (wipe σ vs) H' fun σ2 H2 => wipe σ2 vs = wipe σ vs ∧ tt σ2 H2 fun b H3 =>
        if b = true then te σ2 H3 fun y H4 => ∃ acc, H4 D = some (.lst acc) ∧ acc.length < sizeLine ∧ Nx (upd H4 D (.lst (acc ++ [y]))) else Nx H3) := by
  refine lc_it w (LcI H1 D R) ?_ ?_ ?_ ?_
  · exact ⟨[], upd_same, by rw [era_upd, era_none hD]; exact Same.refl _, by rw [era_upd, era_none hD]; exact h0⟩
  · rintro i H _ ⟨acc, _, e, _⟩
    exact hG H (Same.trans e era_back)
  · rintro i x H H' hi ⟨acc, ha, e, r⟩ y
    exact hs i x acc H H' hi ha e (Same.trans e era_back) r y
  · rintro H ⟨acc, ha, e, r⟩
    exact hd acc H ha (Same.trans e era_back) r

theorem yes_go {σ : L2.St} {H : Hp} {A B : Hp → Prop} (h : A H) : tYes σ H (fun b H3 => if b = true then A H3 else B H3) := by
  show (if true = true then A H else B H)
  rw [if_pos rfl]
  exact h
/-! ### for loops: what is carried over a turn -/
theorem ints_at {ns : List Int} {i : Nat} {x : V} (h : (ns.map V.int)[i]? = some x) : ∃ z, ns[i]? = some z ∧ x = .int z := by
  rw [List.getElem?_map] at h
  cases e : ns[i]? with
  | none =>
    rw [e] at h
    cases h
  | some z =>
    rw [e] at h
    exact ⟨z, rfl, (Option.some.inj h).symm⟩

/-! ### the box of draws -/
def boxD (g : Addr) (st c : Int) : List (Key × V) :=
  [(Sum.inr "great", .ref g), (Sum.inr "stirred", .int st), (Sum.inr "count", .int c)]
structure Box (H : Hp) (b g : Addr) : Prop where
  bx : ∃ st c : Int, H b = some (.dK (boxD g st c))
  gr : ∃ ns : List Int, H g = some (.lst (ns.map V.int)) ∧ ns.length ≤ 63
theorem Box.ne {H : Hp} {b g : Addr} (x : Box H b g) : b ≠ g := by
  obtain ⟨⟨_, _, h1⟩, _, h2, _⟩ := x
  exact ne_of h1 h2 (by intro z; cases z)
theorem Box.same {H H' : Hp} {b g : Addr} (x : Box H b g) (s : Same H H') : Box H' b g := by
  obtain ⟨⟨st, c, h1⟩, ns, h2, h3⟩ := x
  exact ⟨⟨st, c, s _ _ h1⟩, ns, s _ _ h2, h3⟩

def spBox (K : PySem.W.Frag) : Sp := fun vs H Q _ => ∃ (a : Addr) (ns : List Int), vs = [.ref a] ∧ SqL K H a (ns.map V.int) ∧ ns.length ≤ 63 ∧
  ∀ (b g : Addr) (H' : Hp), H b = none → H g = none → Same H H' → Box H' b g → Q (.ref b) H'
def spDraw : Sp := fun vs H Q _ => ∃ (b g : Addr) (m : Int), vs = [.ref b, .int m] ∧ 0 < m ∧ m < 2 ^ 30 ∧ Box H b g ∧
  ∀ (r : Int) (H' : Hp), 0 ≤ r → r < m → Kp b g H H' → Box H' b g → Q (.int r) H'
end BV

namespace BV
open PySem L2
theorem get_great {H : Hp} {b g : Addr} {st c : Int} (h : H b = some (.dK (boxD g st c))) : DGet H b (.str "great") (some (.ref g)) :=
  DGet.k (k := Sum.inr "great") h
theorem get_stirred {H : Hp} {b g : Addr} {st c : Int} (h : H b = some (.dK (boxD g st c))) : DGet H b (.str "stirred") (some (.int st)) :=
  DGet.k (k := Sum.inr "stirred") h
theorem get_count {H : Hp} {b g : Addr} {st c : Int} (h : H b = some (.dK (boxD g st c))) : DGet H b (.str "count") (some (.int c)) :=
  DGet.k (k := Sum.inr "count") h
theorem put_count {H : Hp} {b g : Addr} {st c d : Int} (h : H b = some (.dK (boxD g st c))) :
    DPut H b (.str "count") (.int d) (upd H b (.dK (boxD g st d))) :=
  DPut.k (k := Sum.inr "count") h (by show 3 < sizeLine; decide)
theorem dpAll_ints {K : PySem.W.Frag} {H : Hp} : ∀ ns : List Int, DpAll K H (ns.map V.int) (ns.map PyData.int)
  | [] => .nil
  | n :: ns => .cons (.int n) (dpAll_ints ns)
theorem lay_ints : ∀ ns : List Int, PyData.canLayAll0 (ns.map PyData.int) = true
  | [] => by simp [PyData.canLayAll0]
  | n :: ns => by simp [PyData.canLayAll0, PyData.canLay0, lay_ints ns]
theorem deep_ints : ∀ ns : List Int, PyData.depthAll (ns.map PyData.int) ≤ 1
  | [] => by simp [PyData.depthAll]
  | n :: ns => by
    have := deep_ints ns
    simp only [List.map_cons, PyData.depthAll, PyData.depth]
    omega
theorem shaped_intsL (ns : List Int) : SeqAt.shaped (.list (ns.map PyData.int)) = true := by
  have h1 := lay_ints ns
  have h2 := deep_ints ns
  have h3 : PyData.depthAll (ns.map PyData.int) + 1 ≤ 64 := by omega
  simp [SeqAt.shaped, PyData.canLay0, PyData.depth, h1, h3]
end BV

namespace BV
open PySem L2
theorem ix_nat {n j : Nat} (h : j < n) : ixN n (j : Int) = some j := by
  unfold ixN
  rw [if_pos (by omega), if_pos (by omega), Int.toNat_natCast]
theorem seq_nat {n j : Nat} (h : j < n) : seqIndex? (j : Int) n = some j := (ixN_seq (ix_nat h)).1
end BV

namespace BV
open PySem L2
theorem Kp.seq {K : PySem.W.Frag} {b g l : Addr} {H H' : Hp} {xs : List V} (k : Kp b g H H') (h1 : l ≠ b) (h2 : l ≠ g) (h : SqL K H l xs) : SqL K H' l xs := by
  rcases h with (h | ⟨o, h⟩) | h
  · exact .inl (.inl (k _ _ h h1 h2))
  · exact .inl (.inr ⟨o, k _ _ h h1 h2⟩)
  · exact .inr h
def spPick (K : PySem.W.Frag) : Sp := fun vs H Q _ => ∃ (b g l : Addr) (xs : List V), vs = [.ref b, .ref l] ∧ SqL K H l xs ∧ l ≠ b ∧ l ≠ g ∧
  0 < xs.length ∧ xs.length < 1000000 ∧ Box H b g ∧ ∀ (j : Nat) (v : V) (H' : Hp), xs[j]? = some v → Kp b g H H' → Box H' b g → Q v H'
end BV

namespace BV
open PySem L2
/-- what follows is shown once, for all ways through -/
theorem tIf_by {t : TT} {ta tb : TE} {σ : L2.St} {H : Hp} {Q : VK} (P : V → Hp → Prop) (cont : ∀ v H', P v H' → Q v H')
    (h : (∀ v H', P v H' → Q v H') → tIf t ta tb σ H Q) : tIf t ta tb σ H Q := h cont
theorem tIfS_by {c : TT} {t u : TS} {D : Ends} {σ : L2.St} {H : Hp} (P : L2.St → Hp → Prop) (cont : ∀ σ' H', P σ' H' → D.nx σ' H')
    (h : (∀ σ' H', P σ' H' → D.nx σ' H') → tIfS c t u D σ H) : tIfS c t u D σ H := h cont
end BV

namespace BV
open PySem L2
theorem tSeq_go {t u : TS} {D : Ends} {σ : L2.St} {H : Hp} (h : t { D with nx := u D } σ H) : tSeq t u D σ H := h
/-- for .. in range(e): what follows e, once for all ways through e -/
def rngK (g : TG) (tb : TS) (D : Ends) (σ : L2.St) (v : V) (H1 : Hp) : Prop := ∃ j : Int, [v] = [V.int j] ∧ -(2 ^ 62) ≤ j ∧ j < 2 ^ 62 ∧
  ∃ W : Nat → Nat → L2.St → Hp → Prop, (∃ m, W 0 m σ H1) ∧ ∀ i m σ H, W i m σ H →
    ((Itr 0 j.toNat).stop i H ∧ D.nx σ H) ∨ ((Itr 0 j.toNat).go i H ∧ ∃ N : L2.St → Hp → Prop, (∀ σ' H', N σ' H' → ∃ m', m' < m ∧ W (i + 1) m' σ' H') ∧
      ∀ x H', (Itr 0 j.toNat).yld i H x H' → g x σ H' fun σ2 H2 => tb { D with nx := N, ct := N, bk := D.nx } σ2 H2)
theorem for_rng1_by {te : TE} {g : TG} {tb : TS} {D : Ends} {σ : L2.St} {H : Hp} (P : V → Hp → Prop)
    (loop : ∀ v H', P v H' → rngK g tb D σ v H') (h : (∀ v H', P v H' → rngK g tb D σ v H') → te σ H (rngK g tb D σ)) :
    tFor (iRng1 (tCons te tNil)) g tb D σ H := h loop
end BV

namespace BV
open PySem L2
theorem tIfS_t {c : TT} {t u : TS} {D : Ends} {σ : L2.St} {H : Hp} (R : Bool → Hp → Prop) (ht : ∀ H', R true H' → t D σ H') (hu : ∀ H', R false H' → u D σ H')
    (h : (∀ b H', R b H' → if b = true then t D σ H' else u D σ H') → c σ H fun b H' => if b = true then t D σ H' else u D σ H') : tIfS c t u D σ H := by
  refine h fun b H' r => ?_
  cases b with
  | true => exact iteT (ht H' r)
  | false => exact iteF (hu H' r)
end BV

namespace BV
open PySem L2

/-! ### webs as data -/
abbrev Tie := Nat × Nat
def tieD (t : Tie) : PyData := .tuple [.int t.1, .int t.2]
def tiesD (ts : List Tie) : PyData := .tuple (ts.map tieD)
def webD (n : Nat) (ts : List Tie) : PyData := .tuple [.int n, tiesD ts]
structure WebOk (n : Nat) (ts : List Tie) : Prop where
  pos : 1 ≤ n
  ends : ∀ t ∈ ts, t.1 < t.2 ∧ t.2 < n
  hang : ∀ p, 1 ≤ p → p < n → ∃ q, q < p ∧ (q, p) ∈ ts

/-- the ends of a tie stand at v -/
def TieAt (H : Hp) (v : V) (t : Tie) : Prop := ∃ p, v = .ref p ∧ H p = some (.tup [.int t.1, .int t.2])
/-- tuples stay -/
def KT (H H' : Hp) : Prop := ∀ a xs, H a = some (.tup xs) → H' a = some (.tup xs)
theorem KT.of_same {H H' : Hp} (s : Same H H') : KT H H' := fun a xs h => s _ _ h
theorem KT.of_kp {b g : Addr} {H H' : Hp} (k : Kp b g H H') (x : Box H b g) : KT H H' := fun a xs h => by
  obtain ⟨⟨_, _, h1⟩, _, h2, _⟩ := x
  exact k _ _ h (ne_of h h1 (by intro z; cases z)) (ne_of h h2 (by intro z; cases z))
theorem KT.of_upd {H : Hp} {l : Addr} {xs ys : List V} (h : H l = some (.lst xs)) : KT H (upd H l (.lst ys)) := fun a zs e => by
  rw [upd_ne (ne_of e h (by intro z; cases z))]
  exact e
theorem TieAt.kt {H H' : Hp} {v : V} {t : Tie} (h : TieAt H v t) (k : KT H H') : TieAt H' v t := by
  obtain ⟨p, e, hp⟩ := h
  exact ⟨p, e, k _ _ hp⟩

abbrev Ties (H : Hp) : List V → List Tie → Prop := Paired (TieAt H)
theorem Ties.kt {H H' : Hp} (k : KT H H') : ∀ {xs : List V} {ts : List Tie}, Ties H xs ts → Ties H' xs ts
  | _, _, .nil => .nil
  | _, _, .cons a r => .cons (a.kt k) (Ties.kt k r)
theorem Ties.app {H : Hp} : ∀ {xs : List V} {ts : List Tie} {v : V} {t : Tie}, Ties H xs ts → TieAt H v t → Ties H (xs ++ [v]) (ts ++ [t])
  | _, _, _, _, .nil, h => .cons h .nil
  | _, _, _, _, .cons a r, h => .cons a (Ties.app r h)
theorem Ties.era {H : Hp} : ∀ {xs : List V} {ts : List Tie} (j : Nat), Ties H xs ts → Ties H (xs.eraseIdx j) (ts.eraseIdx j)
  | _, _, _, .nil => .nil
  | _, _, 0, .cons a r => r
  | _, _, j + 1, .cons a r => .cons a (Ties.era j r)
theorem Ties.get {H : Hp} : ∀ {xs : List V} {ts : List Tie} {j : Nat} {t : Tie}, Ties H xs ts → ts[j]? = some t → ∃ v, xs[j]? = some v ∧ TieAt H v t
  | _, _, _, _, .nil, h => by simp at h
  | _, _, 0, _, .cons a r, h => by
    simp at h
    subst h
    exact ⟨_, rfl, a⟩
  | _, _, j + 1, t, .cons a r, h => by
    obtain ⟨v, h1, h2⟩ := Ties.get (j := j) (t := t) r (by simpa using h)
    exact ⟨v, by simpa using h1, h2⟩
theorem Ties.at {H : Hp} : ∀ {xs : List V} {ts : List Tie} {j : Nat} {v : V}, Ties H xs ts → xs[j]? = some v → ∃ t, ts[j]? = some t ∧ TieAt H v t
  | _, _, _, _, .nil, h => by simp at h
  | _, _, 0, _, .cons a r, h => by
    simp at h
    subst h
    exact ⟨_, rfl, a⟩
  | _, _, j + 1, v, .cons a r, h => by
    obtain ⟨t, h1, h2⟩ := Ties.at (j := j) (v := v) r (by simpa using h)
    exact ⟨t, by simpa using h1, h2⟩
theorem Ties.dp {K : PySem.W.Frag} {H : Hp} : ∀ {xs : List V} {ts : List Tie}, Ties H xs ts → DpAll K H xs (ts.map tieD)
  | _, _, .nil => .nil
  | _, _, .cons h r => by
    obtain ⟨p, rfl, hp⟩ := h
    exact .cons (.tup (SqT.of hp) (.cons (.int _) (.cons (.int _) .nil))) (Ties.dp r)

/-- taking one out and laying it behind -/
theorem perm_move : ∀ (ts fs : List Tie) (j : Nat) (t : Tie), ts[j]? = some t → (ts.eraseIdx j ++ (fs ++ [t])).Perm (ts ++ fs) := by
  intro ts fs j t h
  have h1 : (t :: ts.eraseIdx j).Perm ts := by
    induction ts generalizing j with
    | nil => simp at h
    | cons a r ih =>
      cases j with
      | zero =>
        simp at h
        subst h
        exact .refl _
      | succ j =>
        have := ih j (by simpa using h)
        simp only [List.eraseIdx_cons_succ]
        exact (List.Perm.swap a t _).trans (this.cons a)
  have h2 : (ts.eraseIdx j ++ (fs ++ [t])).Perm (t :: (ts.eraseIdx j ++ fs)) := by
    rw [← List.append_assoc]
    exact List.perm_append_comm
  exact h2.trans (by simpa using h1.append_right fs)

/-- two lists of ties that grow, new since H0 -/
structure WI (b g l l2 : Addr) (H0 H : Hp) (ts fs : List Tie) : Prop where
  kp : Kp b g H0 H
  bx : Box H b g
  n1 : H0 l = none
  n2 : H0 l2 = none
  d1 : l ≠ b
  d2 : l ≠ g
  d3 : l2 ≠ b
  d4 : l2 ≠ g
  d5 : l ≠ l2
  tl : ∃ xs, H l = some (.lst xs) ∧ Ties H xs ts
  fl : ∃ ys, H l2 = some (.lst ys) ∧ Ties H ys fs
section
variable {b g l l2 p : Addr} {H0 H H' : Hp} {ts fs : List Tie} {v : V} {t : Tie} {xs : List V}
theorem WI.draw (w : WI b g l l2 H0 H ts fs) (k : Kp b g H H') (x : Box H' b g) : WI b g l l2 H0 H' ts fs := by
  obtain ⟨kp, bx, n1, n2, d1, d2, d3, d4, d5, ⟨xs, h1, h2⟩, ⟨ys, h3, h4⟩⟩ := w
  have kt := KT.of_kp k bx
  exact ⟨kp.trans k, x, n1, n2, d1, d2, d3, d4, d5, ⟨xs, k _ _ h1 d1 d2, h2.kt kt⟩, ⟨ys, k _ _ h3 d3 d4, h4.kt kt⟩⟩
theorem WI.same (w : WI b g l l2 H0 H ts fs) (s : Same H H') : WI b g l l2 H0 H' ts fs := w.draw (Kp.same s) (w.bx.same s)
theorem WI.app (w : WI b g l l2 H0 H ts fs) (h : H l = some (.lst xs)) (hv : TieAt H v t) : WI b g l l2 H0 (upd H l (.lst (xs ++ [v]))) (ts ++ [t]) fs := by
  obtain ⟨kp, bx, n1, n2, d1, d2, d3, d4, d5, ⟨zs, h1, h2⟩, ⟨ys, h3, h4⟩⟩ := w
  rw [h] at h1
  cases h1
  have kt : KT H (upd H l (.lst (xs ++ [v]))) := KT.of_upd h
  refine ⟨fun a o q q1 q2 => ?_, ?_, n1, n2, d1, d2, d3, d4, d5, ⟨_, upd_same, (h2.kt kt).app (hv.kt kt)⟩, ⟨ys, ?_, h4.kt kt⟩⟩
  · rw [upd_ne (ne_of_none q n1)]
    exact kp _ _ q q1 q2
  · obtain ⟨⟨st, c, x1⟩, ns, x2, x3⟩ := bx
    exact ⟨⟨st, c, by rw [upd_ne d1.symm]; exact x1⟩, ns, by rw [upd_ne d2.symm]; exact x2, x3⟩
  · rw [upd_ne d5.symm]
    exact h3
theorem WI.swap (w : WI b g l l2 H0 H ts fs) : WI b g l2 l H0 H fs ts := by
  obtain ⟨kp, bx, n1, n2, d1, d2, d3, d4, d5, t1, t2⟩ := w
  exact ⟨kp, bx, n2, n1, d3, d4, d1, d2, d5.symm, t2, t1⟩
theorem WI.pop (w : WI b g l l2 H0 H ts fs) (h : H l = some (.lst xs)) (j : Nat) : WI b g l l2 H0 (upd H l (.lst (xs.eraseIdx j))) (ts.eraseIdx j) fs := by
  obtain ⟨kp, bx, n1, n2, d1, d2, d3, d4, d5, ⟨zs, h1, h2⟩, ⟨ys, h3, h4⟩⟩ := w
  rw [h] at h1
  cases h1
  have kt : KT H (upd H l (.lst (xs.eraseIdx j))) := KT.of_upd h
  refine ⟨fun a o q q1 q2 => ?_, ?_, n1, n2, d1, d2, d3, d4, d5, ⟨_, upd_same, (h2.kt kt).era j⟩, ⟨ys, ?_, h4.kt kt⟩⟩
  · rw [upd_ne (ne_of_none q n1)]
    exact kp _ _ q q1 q2
  · obtain ⟨⟨st, c, x1⟩, ns, x2, x3⟩ := bx
    exact ⟨⟨st, c, by rw [upd_ne d1.symm]; exact x1⟩, ns, by rw [upd_ne d2.symm]; exact x2, x3⟩
  · rw [upd_ne d5.symm]
    exact h3
end

def spWeb (K : PySem.W.Frag) : Sp := fun vs H Q _ => ∃ (b g : Addr) (most more : Nat), vs = [.ref b, .int most, .int more] ∧ 1 ≤ most ∧ most ≤ 1000 ∧ more ≤ 1000 ∧ Box H b g ∧
  ∀ (p : Addr) (n : Nat) (ts : List Tie) (H' : Hp), Kp b g H H' → Box H' b g → Dp K H' (.ref p) (webD n ts) → WebOk n ts → n ≤ most → ts.length + 1 ≤ n + more →
    (n = 1 → ts = []) → Q (.ref p) H'
end BV

namespace BV
open PySem L2

/-! ### data that is read -/
section
variable {K : PySem.W.Frag} {H H' : Hp}
theorem sqT_same {a : Addr} {xs : List V} (s : Same H H') (h : SqT K H a xs) : SqT K H' a xs := by
  rcases h with (h | ⟨o, h⟩) | h
  · exact .inl (.inl (s _ _ h))
  · exact .inl (.inr ⟨o, s _ _ h⟩)
  · exact .inr h
mutual
theorem dp_same (s : Same H H') : ∀ (d : PyData) {v : V}, Dp K H v d → Dp K H' v d
  | .none, _, h => by cases h; exact .non
  | .bool b, _, h => by cases h; exact .bl b
  | .int i, _, h => by cases h; exact .int i
  | .str x, _, h => by cases h; exact .str x
  | .list ds, _, h => by
    cases h with
    | lst h1 h2 => exact .lst (Same.seq s h1) (dpAll_same s ds h2)
  | .tuple ds, _, h => by
    cases h with
    | tup h1 h2 => exact .tup (sqT_same s h1) (dpAll_same s ds h2)
  | .dict _, _, h => by cases h
theorem dpAll_same (s : Same H H') : ∀ (ds : List PyData) {vs : List V}, DpAll K H vs ds → DpAll K H' vs ds
  | [], _, h => by cases h; exact .nil
  | d :: ds, _, h => by
    cases h with
    | cons h1 h2 => exact .cons (dp_same s d h1) (dpAll_same s ds h2)
end

/-- what is locked or a tuple stays -/
def KF (H H' : Hp) : Prop := ∀ a o, H a = some o → (∃ xs, o = .tup xs ∨ ∃ ob, o = .frz ob (.tup xs)) → H' a = some o
theorem KF.of_same (s : Same H H') : KF H H' := fun a o h _ => s a o h
theorem KF.of_kp {b g : Addr} (k : Kp b g H H') (x : Box H b g) : KF H H' := fun a o h q => by
  obtain ⟨⟨_, _, h1⟩, _, h2, _⟩ := x
  obtain ⟨xs, rfl | ⟨ob, rfl⟩⟩ := q
  · exact k _ _ h (ne_of h h1 (by intro z; cases z)) (ne_of h h2 (by intro z; cases z))
  · exact k _ _ h (ne_of h h1 (by intro z; cases z)) (ne_of h h2 (by intro z; cases z))
theorem KF.trans {H'' : Hp} (x : KF H H') (y : KF H' H'') : KF H H'' := fun a o h q => y a o (x a o h q) q
theorem KF.of_upd {l : Addr} {xs ys : List V} (h : H l = some (.lst xs)) : KF H (upd H l (.lst ys)) := fun a o e q => by
  obtain ⟨zs, rfl | ⟨ob, rfl⟩⟩ := q
  · rw [upd_ne (ne_of e h (by intro z; cases z))]
    exact e
  · rw [upd_ne (ne_of e h (by intro z; cases z))]
    exact e
theorem sqT_kf {a : Addr} {xs : List V} (s : KF H H') (h : SqT K H a xs) : SqT K H' a xs := by
  rcases h with (h | ⟨o, h⟩) | h
  · exact .inl (.inl (s _ _ h ⟨xs, .inl rfl⟩))
  · exact .inl (.inr ⟨o, s _ _ h ⟨xs, .inr ⟨o, rfl⟩⟩⟩)
  · exact .inr h
mutual
/-- data without a list in it -/
def still : PyData → Bool
  | .none | .bool _ | .int _ | .str _ => true
  | .list _ | .dict _ => false
  | .tuple ds => stillAll ds
def stillAll : List PyData → Bool
  | [] => true
  | d :: ds => still d && stillAll ds
end
mutual
theorem dp_kf (s : KF H H') : ∀ (d : PyData) {v : V}, still d = true → Dp K H v d → Dp K H' v d
  | .none, _, _, h => by cases h; exact .non
  | .bool b, _, _, h => by cases h; exact .bl b
  | .int i, _, _, h => by cases h; exact .int i
  | .str x, _, _, h => by cases h; exact .str x
  | .list ds, _, q, h => by simp [still] at q
  | .tuple ds, _, q, h => by
    cases h with
    | tup h1 h2 => exact .tup (sqT_kf s h1) (dpAll_kf s ds (by simpa [still] using q) h2)
  | .dict _, _, _, h => by cases h
theorem dpAll_kf (s : KF H H') : ∀ (ds : List PyData) {vs : List V}, stillAll ds = true → DpAll K H vs ds → DpAll K H' vs ds
  | [], _, _, h => by cases h; exact .nil
  | d :: ds, _, q, h => by
    have q' : still d = true ∧ stillAll ds = true := by simpa [stillAll] using q
    cases h with
    | cons h1 h2 => exact .cons (dp_kf s d q'.1 h1) (dpAll_kf s ds q'.2 h2)
end
theorem dpAll_len : ∀ {ds : List PyData} {vs : List V}, DpAll K H vs ds → vs.length = ds.length
  | [], _, h => by cases h; rfl
  | d :: ds, _, h => by
    cases h with
    | cons h1 h2 => exact congrArg Nat.succ (dpAll_len h2)
theorem dpAll_get : ∀ {ds : List PyData} {vs : List V} {i : Nat} {v : V}, DpAll K H vs ds → vs[i]? = some v → ∃ d, ds[i]? = some d ∧ Dp K H v d
  | [], _, _, _, h, e => by cases h; simp at e
  | d :: ds, _, 0, _, h, e => by
    cases h with
    | cons h1 h2 =>
      simp at e
      subst e
      exact ⟨d, rfl, h1⟩
  | d :: ds, _, i + 1, v, h, e => by
    cases h with
    | cons h1 h2 =>
      obtain ⟨d', a, b⟩ := dpAll_get (i := i) (v := v) h2 (by simpa using e)
      exact ⟨d', by simpa using a, b⟩
theorem dpAll_at : ∀ {ds : List PyData} {vs : List V} {i : Nat} {d : PyData}, DpAll K H vs ds → ds[i]? = some d → ∃ v, vs[i]? = some v ∧ Dp K H v d
  | [], _, _, _, h, e => by simp at e
  | d :: ds, _, 0, _, h, e => by
    cases h with
    | cons h1 h2 =>
      simp at e
      subst e
      exact ⟨_, rfl, h1⟩
  | d :: ds, _, i + 1, v, h, e => by
    cases h with
    | cons h1 h2 =>
      obtain ⟨d', a, b⟩ := dpAll_at (i := i) (d := v) h2 (by simpa using e)
      exact ⟨d', by simpa using a, b⟩
theorem dpAll_app : ∀ {ds es : List PyData} {vs us : List V}, DpAll K H vs ds → DpAll K H us es → DpAll K H (vs ++ us) (ds ++ es)
  | [], _, _, _, h, g => by cases h; exact g
  | d :: ds, _, _, _, h, g => by
    cases h with
    | cons h1 h2 => exact .cons h1 (dpAll_app h2 g)
theorem dpAll_ints' : ∀ {ns : List Int} {vs : List V}, DpAll K H vs (ns.map PyData.int) → vs = ns.map V.int
  | [], _, h => by cases h; rfl
  | n :: ns, _, h => by
    cases h with
    | cons h1 h2 =>
      cases h1
      rw [dpAll_ints' h2]
      rfl
theorem dp_tup {v : V} {ds : List PyData} (h : Dp K H v (.tuple ds)) : ∃ a xs, v = .ref a ∧ SqT K H a xs ∧ DpAll K H xs ds := by
  cases h with
  | tup h1 h2 => exact ⟨_, _, rfl, h1, h2⟩
theorem dp_lst {v : V} {ds : List PyData} (h : Dp K H v (.list ds)) : ∃ a xs, v = .ref a ∧ SqL K H a xs ∧ DpAll K H xs ds := by
  cases h with
  | lst h1 h2 => exact ⟨_, _, rfl, h1, h2⟩
theorem dp_tie {v : V} {t : Tie} (h : Dp K H v (tieD t)) : ∃ a, v = .ref a ∧ SqT K H a [.int t.1, .int t.2] := by
  obtain ⟨a, xs, e, h1, h2⟩ := dp_tup h
  have q : xs = [.int t.1, .int t.2] := dpAll_ints' (ns := [t.1, t.2]) h2
  subst q
  exact ⟨a, e, h1⟩
theorem dp_web {v : V} {n : Nat} {ts : List Tie} (h : Dp K H v (webD n ts)) :
    ∃ a c ys, v = .ref a ∧ SqT K H a [.int n, .ref c] ∧ SqT K H c ys ∧ DpAll K H ys (ts.map tieD) := by
  obtain ⟨a, xs, e, h1, h2⟩ := dp_tup h
  cases h2 with
  | cons q1 q2 =>
    cases q1
    cases q2 with
    | cons q3 q4 =>
      cases q4
      obtain ⟨c, ys, e3, h3, h4⟩ := dp_tup q3
      subst e3
      exact ⟨a, c, ys, e, h1, h3, h4⟩
theorem still_ties : ∀ ts : List Tie, stillAll (ts.map tieD) = true
  | [] => by simp [stillAll]
  | t :: ts => by simp [stillAll, tieD, still, still_ties ts]
theorem still_web (n : Nat) (ts : List Tie) : still (webD n ts) = true := by simp [webD, tiesD, still, stillAll, still_ties ts]
end

/-! ### lots -/
def lotD (ks : List Nat) : PyData := .tuple (ks.map fun (k : Nat) => .int k)
def hit (ts : List Tie) (p k : Nat) : Bool := match ts[k]? with
  | some t => t.1 == p || t.2 == p
  | none => false
def tiesAt (ts : List Tie) (p : Nat) : List Nat := (List.range ts.length).filter (hit ts p)
def spTies (K : PySem.W.Frag) : Sp := fun vs H Q _ => ∃ (v : V) (n p : Nat) (ts : List Tie), vs = [v, .int p] ∧ Dp K H v (webD n ts) ∧ ts.length ≤ 3000 ∧
  ∀ (u : V) (H' : Hp), Same H H' → Dp K H' u (lotD (tiesAt ts p)) → Q u H'
end BV

/-! ### rules that name the written part -/
namespace BV
open PySem L2
section
variable {X : Cx} (K : PySem.W.Frag)
theorem opIn (h : X.K = K := by rfl) : OpR X (compareOp .In) (rIn K false) := by
  subst h
  exact op_in_seq
theorem opNotIn (h : X.K = K := by rfl) : OpR X (compareOp .NotIn) (rIn K true) := by
  subst h
  exact op_notIn_seq
theorem opEqD (hu : X.A.units + 64 < cLine) (h : X.K = K := by rfl) : OpR X (compareOp .Eq) (rEqD K) := by
  subst h
  exact op_eqD hu
theorem opNeD (hu : X.A.units + 64 < cLine) (h : X.K = K := by rfl) : OpR X (compareOp .NotEq) (rNeD K) := by
  subst h
  exact op_neD hu
theorem ixL (h : X.K = K := by rfl) : IxR X (rIxL K) := by
  subst h
  exact ix_list
theorem ixT (h : X.K = K := by rfl) : IxR X (rIxT K) := by
  subst h
  exact ix_tup
def rLenK (K : PySem.W.Frag) : List V → Hp → VK → Prop := fun xs H Q => ∃ p ys, xs = [.ref p] ∧ (SqL K H p ys ∨ SqT K H p ys) ∧ Q (.int ys.length) H
theorem lenK (h : X.K = K := by rfl) : CallR X (.builtin "len") (rLenK K) := by
  subst h
  exact call_len_seq
def rTupK (K : PySem.W.Frag) : List V → Hp → VK → Prop := fun xs H Q => ∃ p ys, xs = [.ref p] ∧
  ((SqL K H p ys ∧ ∀ l, H l = none → Q (.ref l) (upd H l (.tup ys))) ∨ (SqT K H p ys ∧ Q (.ref p) H))
theorem tupleK (h : X.K = K := by rfl) : CallR X (.type "tuple") (rTupK K) := by
  subst h
  exact call_tuple_of
def rSumT (K : PySem.W.Frag) : List V → Hp → VK → Prop := fun vs H Q => ∃ (a : Addr) (ns : List Int), vs = [V.ref a] ∧ SqT K H a (ns.map V.int) ∧ Q (.int ns.sum) H
theorem sumTK (hc : X.calm = true := by rfl) (h : X.K = K := by rfl) : CallR X (.builtin "sum") (rSumT K) := by
  subst h
  exact cr_sumT hc
def rReprK (K : PySem.W.Frag) : List V → Hp → VK → Prop := fun xs H Q => ∃ (x : V) (d : PyData), xs = [x] ∧ Dp K H x d ∧ Show d ∧ Q (.str d.shown) H
theorem reprK (hgd : X.A.guards = some []) (hu : X.A.units + 64 < cLine) (h : X.K = K := by rfl) : CallR X (.builtin "repr") (rReprK K) := by
  subst h
  exact call_reprD hgd hu
theorem revT {e : Expr} {te : TE} {k : Nat} {p1 p2 p3 pos : Pos} (he : PE X e te) (h : X.K = K := by rfl) :
    PE X (.Subscript e (.Slice none none (some (.UnaryOp .USub (.Constant (.int 1) k p1) p2)) p3) pos) (tRevT K te) := by
  subst h
  exact pe_revT he
theorem enumT {e : Expr} {ta : TA} {p pos tpos : Pos} {elts : List Expr} {kk : Nat} (hg : Gl X "enumerate") (hm : X.mg "enumerate" = none)
    (ha : PA X [e] ta) (hs : starEach [e] X.env = [(false, eval e X.env)] := by rfl) (h : X.K = K := by rfl) :
    PI X (.Tuple elts kk tpos) (.Call (.Name "enumerate" p) [e] [] pos) (iEnumT K ta) := by
  subst h
  exact pi_enumT hg hm ha hs
theorem piL {l tg : Expr} {tl : TE} (hl : PE X l tl) (h : X.K = K := by rfl) : PI X tg l (iList K tl) := by
  subst h
  exact pi_list hl
theorem piT {l tg : Expr} {tl : TE} (hl : PE X l tl) (h : X.K = K := by rfl) : PI X tg l (iTup K tl) := by
  subst h
  exact pi_tup hl
theorem pgT {es : List Expr} {k : Nat} {t : TGs} {n : Nat} (hc : X.calm = true) (h : PGs X es t)
    (hn : (assignEach es X.env).length = n := by rfl) (hst : (assignEach es X.env).findIdx? (·.1) = none := by rfl) {pos : Pos} (hK : X.K = K := by rfl) :
    PG X (.Tuple es k pos) (gTup K n t) := by
  subst hK
  exact pg_tup hc h hn hst
theorem getL (h : X.K = K := by rfl) : PGet X (rGetL K) := by
  subst h
  exact get_list
theorem slL (h : X.K = K := by rfl) : SlR X (rSlL K) := by
  subst h
  exact sl_list
end
end BV

namespace BV
open PySem L2
theorem inv_tie (p : Nat) (t : Tie) : inV (.int (p : Int)) [.int t.1, .int t.2] = (t.1 == p || t.2 == p) := by
  have e : ∀ a : Nat, (((a : Nat) : Int) == (p : Int)) = (a == p) := fun a => by
    by_cases h : a = p
    · subst h
      simp
    · rw [beq_eq_false_iff_ne.mpr h]
      exact beq_eq_false_iff_ne.mpr fun z => h (by omega)
  show ((((t.1 : Nat) : Int) == (p : Int)) || ((((t.2 : Nat) : Int) == (p : Int)) || false)) = _
  rw [e, e, Bool.or_false]
theorem range_filter_succ {f : Nat → Bool} {i : Nat} : (List.range (i + 1)).filter f = (List.range i).filter f ++ if f i then [i] else [] := by
  rw [List.range_succ, List.filter_append]
  congr 1
  by_cases h : f i = true
  · rw [if_pos h, List.filter_cons_of_pos h, List.filter_nil]
  · rw [if_neg h, List.filter_cons_of_neg h, List.filter_nil]
theorem hit_at {ts : List Tie} {p i : Nat} {t : Tie} (h : ts[i]? = some t) : hit ts p i = (t.1 == p || t.2 == p) := by
  unfold hit
  rw [h]
end BV

namespace BV
open PySem L2

/-! ### the matrix of a web -/
def meets (p : Nat) (t : Tie) : Bool := t.1 == p || t.2 == p
def joins (p q : Nat) (t : Tie) : Bool := (t.1 == p && t.2 == q) || (t.1 == q && t.2 == p)
def entry (ts : List Tie) (p q : Nat) : Int := if p = q then (ts.countP (meets p) : Nat) else -((ts.countP (joins p q) : Nat) : Int)
def rowD (ts : List Tie) (n p : Nat) : PyData := .tuple ((List.range n).map fun q => .int (entry ts p q))
def matD (n : Nat) (ts : List Tie) : PyData := .tuple ((List.range n).map (rowD ts n))
def spMat (K : PySem.W.Frag) : Sp := fun vs H Q _ => ∃ (v : V) (n : Nat) (ts : List Tie), vs = [v] ∧ Dp K H v (webD n ts) ∧ (∀ t ∈ ts, t.1 < t.2 ∧ t.2 < n) ∧
  n ≤ 1000 ∧ ts.length ≤ 3000 ∧ ∀ (u : V) (H' : Hp), Same H H' → Dp K H' u (matD n ts) → Q u H'

/-- n rows of n numbers, lists of their own -/
structure Mat (H : Hp) (r : Addr) (as : List Addr) (n : Nat) (M : Nat → Nat → Int) : Prop where
  rows : H r = some (.lst (as.map V.ref))
  len : as.length = n
  nd : as.Nodup
  row : ∀ p a, as[p]? = some a → H a = some (.lst ((List.range n).map fun q => V.int (M p q)))
def bump (M : Nat → Nat → Int) (p q : Nat) (d : Int) : Nat → Nat → Int := fun i j => if i = p ∧ j = q then M p q + d else M i j
theorem range_set {α : Type} (f : Nat → α) (n q : Nat) (v : α) : ((List.range n).map f).set q v = (List.range n).map fun j => if j = q then v else f j := by
  apply List.ext_getElem?
  intro i
  by_cases hi : i < n
  · rw [List.getElem?_set]
    by_cases e : q = i
    · subst e
      simp [hi]
    · have e' : ¬ i = q := fun z => e z.symm
      simp [hi, e, e']
  · rw [List.getElem?_eq_none (by simp; omega), List.getElem?_eq_none (by simp; omega)]
theorem Mat.set {H : Hp} {r a : Addr} {as : List Addr} {n p q : Nat} {M : Nat → Nat → Int} {d : Int} (m : Mat H r as n M) (ha : as[p]? = some a) (hq : q < n) :
    Mat (upd H a (.lst (((List.range n).map fun q => V.int (M p q)).set q (.int (M p q + d))))) r as n (bump M p q d) := by
  obtain ⟨h1, h2, h3, h4⟩ := m
  have hpa := h4 p a ha
  have hp : p < as.length := (List.getElem?_eq_some_iff.mp ha).1
  have nra : r ≠ a := by
    intro e
    subst e
    rw [h1] at hpa
    have z := Option.some.inj hpa
    injection z with z
    cases as with
    | nil => simp at ha
    | cons x xs =>
      cases n with
      | zero => simp at h2
      | succ n =>
        rw [List.range_succ_eq_map] at z
        cases z
  refine ⟨by rw [upd_ne nra]; exact h1, h2, h3, fun p' a' ha' => ?_⟩
  by_cases e : p' = p
  · subst e
    rw [ha] at ha'
    cases ha'
    rw [upd_same, range_set]
    congr 2
    apply List.map_congr_left
    intro j hj
    unfold bump
    by_cases ej : j = q
    · subst ej
      simp
    · simp [ej]
  · have na : a' ≠ a := by
      rintro rfl
      have hp' : p' < as.length := (List.getElem?_eq_some_iff.mp ha').1
      have e1 : as[p'] = a' := (List.getElem?_eq_some_iff.mp ha').2
      have e2 : as[p] = a' := (List.getElem?_eq_some_iff.mp ha).2
      have pw := List.pairwise_iff_getElem.mp h3
      rcases Nat.lt_or_ge p' p with z | z
      · exact pw p' p hp' hp z (e1.trans e2.symm)
      · exact pw p p' hp hp' (by omega) (e2.trans e1.symm)
    rw [upd_ne na, h4 p' a' ha']
    congr 2
    apply List.map_congr_left
    intro j hj
    unfold bump
    simp [e]
theorem entry_app (ts : List Tie) (a b : Nat) (hab : a < b) (p q : Nat) :
    bump (bump (bump (bump (entry ts) a a 1) b b 1) a b (-1)) b a (-1) p q = entry (ts ++ [(a, b)]) p q := by
  have c1 : ∀ f : Tie → Bool, (ts ++ [(a, b)]).countP f = ts.countP f + (if f (a, b) = true then 1 else 0) := fun f => by
    rw [List.countP_append, List.countP_singleton]
  unfold entry
  rw [c1, c1]
  unfold bump meets joins
  by_cases e : p = q
  · subst e
    by_cases ea : p = a
    · subst ea
      have : ¬ p = b := by omega
      have : ¬ b = p := by omega
      simp_all
    · by_cases eb : p = b
      · subst eb
        have : ¬ a = p := by omega
        simp_all
      · have : ¬ a = p := fun z => ea z.symm
        have : ¬ b = p := fun z => eb z.symm
        simp_all
  · by_cases e1 : p = a ∧ q = b
    · obtain ⟨rfl, rfl⟩ := e1
      have h1 : ¬ q = p := fun z => e z.symm
      simp_all
      omega
    · by_cases e2 : p = b ∧ q = a
      · obtain ⟨rfl, rfl⟩ := e2
        have h1 : ¬ q = p := fun z => e z.symm
        simp_all
        omega
      · have h3 : ¬ (p = a ∧ q = a) := fun z => e (z.1.trans z.2.symm)
        have h4 : ¬ (p = b ∧ q = b) := fun z => e (z.1.trans z.2.symm)
        have h5 : ((a == p && b == q) || (a == q && b == p)) = false := by
          rw [Bool.or_eq_false_iff, Bool.and_eq_false_iff, Bool.and_eq_false_iff]
          simp only [beq_eq_false_iff_ne]
          omega
        simp only [e1, e2, h3, h4, if_false, e, h5, Bool.false_eq_true, Nat.add_zero]
end BV

namespace BV
open PySem L2
theorem Mat.row_get {H : Hp} {r a : Addr} {as : List Addr} {n p q : Nat} {M : Nat → Nat → Int} (m : Mat H r as n M) (ha : as[p]? = some a) (hq : q < n) :
    ((List.range n).map fun q => V.int (M p q))[q]? = some (.int (M p q)) := by
  rw [List.getElem?_map, List.getElem?_range hq]
  rfl
theorem mat_aug {K : PySem.W.Frag} {H : Hp} {r : Addr} {as : List Addr} {n p q ir ip iq : Nat} {M : Nat → Nat → Int} {d : Int} {f : Int → Int → Int} {σ : L2.St} {D : Ends}
    (m : Mat H r as n M) (hp : p < n) (hq : q < n) (h3 : σ[ir]? = some (some (.ref r))) (h4 : σ[ip]? = some (some (.int (p : Int)))) (h5 : σ[iq]? = some (some (.int (q : Int))))
    (hf : f (M p q) 1 = M p q + d)
    (h : ∀ a, as[p]? = some a → ∀ H', (∀ b, b ≠ a → H' b = H b) → Mat H' r as n (bump M p q d) → D.nx σ H') :
    tAugS (tOp (rIxL K) (tVar ir) (tVar ip)) (tVar iq) (tC (.int 1)) (rGetL K) (ipI f) rSetL D σ H := by
  have hpl : p < as.length := by rw [m.len]; exact hp
  have ha : as[p]? = some as[p] := by simp [hpl]
  have hrow := m.row p _ ha
  have hr : (as.map V.ref)[p]? = some (.ref as[p]) := by rw [List.getElem?_map, ha]; rfl
  refine ⟨_, h3, _, h4, r, _, _, _, rfl, rfl, SqL.of m.rows, atI_nat hr, ?_⟩
  refine ⟨_, h5, as[p], _, q, _, rfl, rfl, SqL.of hrow, m.row_get ha hq, ?_⟩
  refine ⟨_, _, rfl, rfl, as[p], _, (q : Int), q, rfl, rfl, hrow, ix_nat (by simpa using hq), ?_⟩
  rw [hf]
  exact h _ ha _ (fun b hb => upd_ne hb) (m.set ha hq)
theorem zeros (n : Nat) : (List.replicate n [V.int 0]).flatten = (List.range n).map fun _ => V.int 0 := by
  induction n with
  | zero => rfl
  | succ n ih =>
    rw [List.replicate_succ', List.flatten_append, ih, List.range_succ, List.map_append]
    rfl
end BV

namespace BV
open PySem L2
mutual
def tiny : PyData → Bool
  | .none | .bool _ => true
  | .int i => decide (i.natAbs.log2 < 300)
  | .str x => decide (x.length ≤ 100) && x.cps.toList.all fun c => decide (c < 16 ^ 8)
  | .list xs | .tuple xs => tinyAll xs
  | .dict _ => false
def tinyAll : List PyData → Bool
  | [] => true
  | x :: xs => tiny x && tinyAll xs
end
mutual
def nodes : PyData → Nat
  | .none | .bool _ | .int _ | .str _ | .dict _ => 1
  | .list xs | .tuple xs => nodesAll xs + 1
def nodesAll : List PyData → Nat
  | [] => 0
  | x :: xs => nodes x + nodesAll xs
end
theorem int_shown {i : Int} (h : i.natAbs.log2 < 300) : (PyData.shown (.int i)).length ≤ 301 := by
  have h1 := int_text_length_le (k := 300) (by decide) h
  have h2 : (PyData.shown (.int i)) = Str.ofString (toString i) := by simp only [PyData.shown]
  rw [h2]
  have h3 : (Str.ofString (toString i)).length = (toString i).length := ofString_length _
  omega
mutual
theorem tiny_facts : ∀ d : PyData, tiny d = true → d.showable = true ∧ d.hasDict = false ∧ d.shown.length + 2 ≤ 1100 * nodes d
  | .none, _ => ⟨by simp [PyData.showable], by simp [PyData.hasDict], by
      have e : (PyData.shown .none).length = 4 := rfl
      simp only [nodes]
      omega⟩
  | .bool b, _ => ⟨by simp [PyData.showable], by simp [PyData.hasDict], by
      have e : (PyData.shown (.bool b)).length ≤ 5 := by cases b <;> decide
      simp only [nodes]
      omega⟩
  | .int i, h => by
    have h' : i.natAbs.log2 < 300 := by simpa [tiny] using h
    refine ⟨?_, by simp [PyData.hasDict], ?_⟩
    · simp only [PyData.showable, decide_eq_true_eq]
      omega
    · have := int_shown h'
      simp only [nodes]
      omega
  | .str x, h => by
    have h' : x.length ≤ 100 ∧ ∀ c ∈ x.cps.toList, c < 16 ^ 8 := by
      simp only [tiny, Bool.and_eq_true, decide_eq_true_eq, List.all_eq_true] at h
      exact h
    refine ⟨by simp [PyData.showable], by simp [PyData.hasDict], ?_⟩
    have e := StrLaws.reprText_len x h'.2
    simp only [PyData.shown, nodes]
    omega
  | .list xs, h => by
    have h1 := tiny_all xs (by simpa [tiny] using h)
    refine ⟨by simpa [PyData.showable] using h1.1, by simpa [PyData.hasDict] using h1.2.1, ?_⟩
    have h2 := listText_len_le (PyData.shownAll xs)
    simp only [PyData.shown, nodes]
    omega
  | .tuple xs, h => by
    have h1 := tiny_all xs (by simpa [tiny] using h)
    refine ⟨by simpa [PyData.showable] using h1.1, by simpa [PyData.hasDict] using h1.2.1, ?_⟩
    have h2 := tupleText_len_le (PyData.shownAll xs)
    simp only [PyData.shown, nodes]
    omega
  | .dict _, h => by simp [tiny] at h
theorem tiny_all : ∀ xs : List PyData, tinyAll xs = true → PyData.showableAll xs = true ∧ PyData.hasDictAll xs = false ∧
    ((PyData.shownAll xs).map (·.length)).sum + 2 * (PyData.shownAll xs).length ≤ 1100 * nodesAll xs
  | [], _ => ⟨by simp [PyData.showableAll], by simp [PyData.hasDictAll], by simp [PyData.shownAll]⟩
  | x :: xs, h => by
    have h' : tiny x = true ∧ tinyAll xs = true := by simpa [tinyAll] using h
    obtain ⟨a1, a2, a3⟩ := tiny_facts x h'.1
    obtain ⟨b1, b2, b3⟩ := tiny_all xs h'.2
    refine ⟨by simp [PyData.showableAll, a1, b1], by simp [PyData.hasDictAll, a2, b2], ?_⟩
    simp only [PyData.shownAll, nodesAll, List.map_cons, List.sum_cons, List.length_cons]
    omega
end
theorem show_of {d : PyData} (h : tiny d = true) (hd : d.depth ≤ 40) (hn : nodes d ≤ 15000) : Show d := by
  obtain ⟨a, b, c⟩ := tiny_facts d h
  refine ⟨a, b, hd, Nat.le_trans (Nat.le_trans (Nat.le_add_right _ 2) c) (Nat.le_trans (Nat.mul_le_mul_left 1100 hn) (by decide))⟩
end BV

namespace BV
open PySem L2
/-! ### sums of a row -/
theorem sum_add (f g : Nat → Int) : ∀ l : List Nat, (l.map fun q => f q + g q).sum = (l.map f).sum + (l.map g).sum
  | [] => rfl
  | a :: l => by
    simp only [List.map_cons, List.sum_cons, sum_add f g l]
    omega
theorem sum_at (n x : Nat) (c : Int) : ((List.range n).map fun q => if q = x then c else (0 : Int)).sum = if x < n then c else 0 := by
  induction n with
  | zero => rfl
  | succ n ih =>
    rw [List.range_succ, List.map_append, List.sum_append, ih]
    simp only [List.map_cons, List.map_nil, List.sum_cons, List.sum_nil]
    by_cases h : n = x
    · subst h
      simp
    · by_cases h2 : x < n
      · have : x < n + 1 := by omega
        simp [h, h2, this]
      · have : ¬ x < n + 1 := by omega
        simp [h, h2, this]
theorem sum_none (n : Nat) : ((List.range n).map fun (_ : Nat) => (0 : Int)).sum = 0 := by
  induction n with
  | zero => rfl
  | succ n ih =>
    rw [List.range_succ, List.map_append, List.sum_append, ih]
    rfl
def delta (t : Tie) (p q : Nat) : Int :=
  (if p = t.1 then ((if q = t.1 then 1 else 0) + (if q = t.2 then -1 else 0)) else 0) + (if p = t.2 then ((if q = t.2 then 1 else 0) + (if q = t.1 then -1 else 0)) else 0)
theorem entry_cons (t : Tie) (ts : List Tie) (h : t.1 < t.2) (p q : Nat) : entry (t :: ts) p q = entry ts p q + delta t p q := by
  obtain ⟨a, b⟩ := t
  have h : a < b := h
  unfold entry delta
  rw [List.countP_cons, List.countP_cons]
  unfold meets joins
  by_cases e : p = q
  · subst e
    by_cases ea : p = a
    · subst ea
      have : ¬ p = b := by omega
      have : ¬ b = p := by omega
      simp_all
    · by_cases eb : p = b
      · subst eb
        have : ¬ a = p := by omega
        simp_all
      · have : ¬ a = p := fun z => ea z.symm
        have : ¬ b = p := fun z => eb z.symm
        simp_all
  · by_cases e1 : p = a ∧ q = b
    · obtain ⟨rfl, rfl⟩ := e1
      have h1 : ¬ q = p := fun z => e z.symm
      simp_all
      omega
    · by_cases e2 : p = b ∧ q = a
      · obtain ⟨rfl, rfl⟩ := e2
        have h1 : ¬ q = p := fun z => e z.symm
        simp_all
        omega
      · have h5 : ((a == p && b == q) || (a == q && b == p)) = false := by
          rw [Bool.or_eq_false_iff, Bool.and_eq_false_iff, Bool.and_eq_false_iff]
          simp only [beq_eq_false_iff_ne]
          omega
        simp only [e, if_false, h5, Bool.false_eq_true, Nat.add_zero]
        by_cases ea : p = a
        · subst ea
          have q1 : ¬ q = p := fun z => e z.symm
          have q2 : ¬ q = b := fun z => e1 ⟨rfl, z⟩
          have q3 : ¬ p = b := by omega
          simp [q1, q2, q3]
        · by_cases eb : p = b
          · subst eb
            have q1 : ¬ q = p := fun z => e z.symm
            have q2 : ¬ q = a := fun z => e2 ⟨rfl, z⟩
            simp [q1, q2, ea]
          · simp [ea, eb]
theorem delta_sum (t : Tie) (n p : Nat) (h : t.1 < t.2) (h2 : t.2 < n) : ((List.range n).map fun q => delta t p q).sum = 0 := by
  unfold delta
  rw [sum_add]
  have h1 : t.1 < n := by omega
  by_cases ea : p = t.1
  · have eb : ¬ p = t.2 := by omega
    simp only [if_pos ea, if_neg eb]
    rw [sum_add, sum_at, sum_at, sum_none, if_pos h1, if_pos h2]
    rfl
  · by_cases eb : p = t.2
    · simp only [if_neg ea, if_pos eb]
      rw [sum_add, sum_at, sum_at, sum_none, if_pos h1, if_pos h2]
      rfl
    · simp only [if_neg ea, if_neg eb]
      rw [sum_none]
      rfl
theorem entry_sum (n p : Nat) : ∀ ts : List Tie, (∀ t ∈ ts, t.1 < t.2 ∧ t.2 < n) → ((List.range n).map fun q => entry ts p q).sum = 0
  | [], _ => by
    have : (fun q => entry [] p q) = fun _ => (0 : Int) := by
      funext q
      unfold entry
      by_cases e : p = q <;> simp [e]
    rw [this]
    exact sum_none n
  | t :: ts, h => by
    have ht := h t (List.mem_cons_self ..)
    have : (fun q => entry (t :: ts) p q) = fun q => entry ts p q + delta t p q := by
      funext q
      exact entry_cons t ts ht.1 p q
    rw [this, sum_add, entry_sum n p ts fun u hu => h u (List.mem_cons_of_mem _ hu), delta_sum t n p ht.1 ht.2]
    rfl
theorem entry_symm (ts : List Tie) (p q : Nat) : entry ts p q = entry ts q p := by
  unfold entry
  by_cases e : p = q
  · subst e
    rfl
  · have e' : ¬ q = p := fun z => e z.symm
    rw [if_neg e, if_neg e']
    congr 2
    have : joins p q = joins q p := by
      funext t
      unfold joins
      rw [Bool.or_comm]
    rw [this]
theorem entry_perm {ts us : List Tie} (h : ts.Perm us) (p q : Nat) : entry ts p q = entry us p q := by
  unfold entry
  rw [h.countP_eq, h.countP_eq]
theorem deg_len : ∀ (ts : List Tie) (p : Nat), (tiesAt ts p).length = ts.countP (meets p) := by
  intro ts p
  have key : ∀ i, i ≤ ts.length → ((List.range i).filter (hit ts p)).length = (ts.take i).countP (meets p) := by
    intro i
    induction i with
    | zero => intro _; rfl
    | succ i ih =>
      intro hi
      have hg : ts[i]? = some ts[i] := by simp [show i < ts.length by omega]
      rw [range_filter_succ, List.length_append, ih (by omega), List.take_add_one, hg, List.countP_append, hit_at hg]
      show _ = _ + List.countP (meets p) [ts[i]]
      rw [List.countP_singleton]
      show _ + (if meets p ts[i] = true then [i] else []).length = _
      by_cases h : meets p ts[i] = true
      · rw [if_pos h, if_pos h]; rfl
      · rw [if_neg h, if_neg h]; rfl
  have := key ts.length (Nat.le_refl _)
  rw [List.take_of_length_le (Nat.le_refl _)] at this
  exact this
theorem joins_pair {p q : Nat} {t : Tie} (h : t.1 < t.2) (e : p ≠ q) : joins p q t = decide (t = (min p q, max p q)) := by
  obtain ⟨a, b⟩ := t
  have h : a < b := h
  unfold joins
  rcases Nat.lt_or_ge p q with z | z
  · have e1 : min p q = p := by omega
    have e2 : max p q = q := by omega
    rw [e1, e2]
    by_cases c : a = p ∧ b = q
    · obtain ⟨rfl, rfl⟩ := c
      simp
    · have c' : ¬ ((a, b) = (p, q)) := fun z => c (Prod.mk.inj z)
      rw [decide_eq_false c', Bool.or_eq_false_iff, Bool.and_eq_false_iff, Bool.and_eq_false_iff]
      simp only [beq_eq_false_iff_ne]
      omega
  · have e1 : min p q = q := by omega
    have e2 : max p q = p := by omega
    rw [e1, e2]
    by_cases c : a = q ∧ b = p
    · obtain ⟨rfl, rfl⟩ := c
      simp
    · have c' : ¬ ((a, b) = (q, p)) := fun z => c (Prod.mk.inj z)
      rw [decide_eq_false c', Bool.or_eq_false_iff, Bool.and_eq_false_iff, Bool.and_eq_false_iff]
      simp only [beq_eq_false_iff_ne]
      omega
/-! ### each tie is at two places -/
def seen (ts : List Tie) (i k : Nat) : Int := match ts[k]? with
  | some t => (if t.1 < i then 1 else 0) + (if t.2 < i then 1 else 0)
  | none => 0
theorem seen_zero (ts : List Tie) (k : Nat) : seen ts 0 k = 0 := by
  unfold seen
  split <;> simp
theorem seen_succ {ts : List Tie} {i k : Nat} (h : ∀ t ∈ ts, t.1 < t.2) : seen ts (i + 1) k = seen ts i k + if hit ts i k = true then 1 else 0 := by
  unfold seen hit
  cases e : ts[k]? with
  | none => simp
  | some t =>
    have ht := h t (List.mem_of_getElem? e)
    obtain ⟨a, b⟩ := t
    have ht : a < b := ht
    simp only [Bool.or_eq_true, beq_iff_eq]
    by_cases h1 : a = i
    · subst h1
      have c1 : ¬ b < a := by omega
      have c2 : ¬ b < a + 1 := by omega
      simp [c1, c2]
    · by_cases h2 : b = i
      · subst h2
        have c1 : a < b := ht
        have c2 : a < b + 1 := by omega
        simp [c1, c2]
      · simp only [h1, h2, or_self, if_false]
        have c1 : (a < i + 1) = (a < i) := by apply propext; omega
        have c2 : (b < i + 1) = (b < i) := by apply propext; omega
        simp only [c1, c2]
        omega
theorem seen_all {ts : List Tie} {n k : Nat} (h : ∀ t ∈ ts, t.1 < t.2 ∧ t.2 < n) (hk : k < ts.length) : seen ts n k = 2 := by
  unfold seen
  have e : ts[k]? = some ts[k] := by simp [hk]
  rw [e]
  have ht := h ts[k] (List.getElem_mem hk)
  have h1 : ts[k].1 < n := by omega
  simp [h1, ht.2]
theorem mem_tiesAt {ts : List Tie} {p k : Nat} : k ∈ tiesAt ts p ↔ k < ts.length ∧ hit ts p k = true := by
  unfold tiesAt
  rw [List.mem_filter, List.mem_range]
theorem tiesAt_nodup (ts : List Tie) (p : Nat) : (tiesAt ts p).Nodup := (List.nodup_range (n := ts.length)).sublist List.filter_sublist
end BV

namespace BV
open PySem L2
theorem tAsg_by {te : TE} {g : TG} {D : Ends} {σ : L2.St} {H : Hp} (P : V → Hp → Prop) (cont : ∀ v H', P v H' → g v σ H' D.nx)
    (h : (∀ v H', P v H' → g v σ H' D.nx) → te σ H (fun x H1 => g x σ H1 D.nx)) : tAsg te g D σ H := h cont
theorem get_map {α β : Type} {f : α → β} {l : List α} {i : Nat} {y : β} (h : (l.map f)[i]? = some y) : ∃ x, l[i]? = some x ∧ y = f x := by
  rw [List.getElem?_map] at h
  cases e : l[i]? with
  | none =>
    rw [e] at h
    cases h
  | some x =>
    rw [e] at h
    exact ⟨x, rfl, (Option.some.inj h).symm⟩
theorem still_ints : ∀ ns : List Int, stillAll (ns.map PyData.int) = true
  | [] => by simp [stillAll]
  | n :: ns => by simp [stillAll, still, still_ints ns]
theorem ints_row (f : Nat → Int) (n : Nat) : ((List.range n).map fun q => PyData.int (f q)) = ((List.range n).map f).map PyData.int := by rw [List.map_map]; rfl
theorem ints_rowV (f : Nat → Int) (n : Nat) : ((List.range n).map fun q => V.int (f q)) = ((List.range n).map f).map V.int := by rw [List.map_map]; rfl
theorem still_row (ts : List Tie) (n p : Nat) : still (rowD ts n p) = true := by
  have h := still_ints ((List.range n).map fun q => entry ts p q)
  rw [← ints_row] at h
  simpa [rowD, still] using h
theorem still_rows (ts : List Tie) (n : Nat) : ∀ l : List Nat, stillAll (l.map (rowD ts n)) = true
  | [] => by simp [stillAll]
  | p :: l => by simp [stillAll, still_row, still_rows ts n l]

/-! ### what may be written as a text -/
theorem tiny_ints : ∀ ns : List Int, (∀ n ∈ ns, n.natAbs < 2 ^ 200) → tinyAll (ns.map PyData.int) = true ∧ nodesAll (ns.map PyData.int) = ns.length ∧ PyData.depthAll (ns.map PyData.int) = 0
  | [], _ => by simp [tinyAll, nodesAll, PyData.depthAll]
  | n :: ns, h => by
    obtain ⟨a, b, c⟩ := tiny_ints ns fun m hm => h m (List.mem_cons_of_mem _ hm)
    have hn := h n (List.mem_cons_self ..)
    have hl : n.natAbs.log2 < 300 := Nat.lt_of_lt_of_le (PySem.Flt.log2_lt_of (by decide) hn) (by decide)
    refine ⟨by simp [tinyAll, tiny, hl, a], ?_, by simp [PyData.depthAll, PyData.depth, c]⟩
    simp only [List.map_cons, nodesAll, nodes, b, List.length_cons]
    omega
theorem tiny_row (f : Nat → Int) (n : Nat) (h : ∀ q, (f q).natAbs < 2 ^ 200) : tiny (.tuple ((List.range n).map fun q => .int (f q))) = true ∧
    nodes (.tuple ((List.range n).map fun q => .int (f q))) = n + 1 ∧ (PyData.tuple ((List.range n).map fun q => .int (f q))).depth = 1 := by
  rw [ints_row]
  obtain ⟨a, b, c⟩ := tiny_ints ((List.range n).map f) fun m hm => by
    obtain ⟨q, _, rfl⟩ := List.mem_map.mp hm
    exact h q
  refine ⟨by simp only [tiny, a], ?_, by simp only [PyData.depth, c]⟩
  simp only [nodes, b, List.length_map, List.length_range]
theorem show_lot (ks : List Nat) (h : ∀ k ∈ ks, k < 100000) (hl : ks.length ≤ 1000) : Show (lotD ks) := by
  have e : lotD ks = .tuple ((ks.map fun (k : Nat) => (k : Int)).map PyData.int) := by unfold lotD; rw [List.map_map]; rfl
  obtain ⟨a, b, c⟩ := tiny_ints (ks.map fun (k : Nat) => (k : Int)) fun m hm => by
    obtain ⟨q, hq, rfl⟩ := List.mem_map.mp hm
    have := h q hq
    have e2 : ((q : Int)).natAbs = q := by omega
    rw [e2]
    exact Nat.lt_of_lt_of_le this (by decide)
  rw [e]
  refine show_of (by simp only [tiny, a]) (by simp only [PyData.depth, c]; decide) ?_
  simp only [nodes, b, List.length_map]
  omega
theorem entry_small (ts : List Tie) (hl : ts.length ≤ 100000) (p q : Nat) : (entry ts p q).natAbs < 2 ^ 200 := by
  have h1 := List.countP_le_length (p := meets p) (l := ts)
  have h2 := List.countP_le_length (p := joins p q) (l := ts)
  have : (entry ts p q).natAbs ≤ 100000 := by
    unfold entry
    split <;> omega
  exact Nat.lt_of_le_of_lt this (by decide)
theorem tiny_rows (ts : List Tie) (n : Nat) (hl : ts.length ≤ 100000) : ∀ l : List Nat, tinyAll (l.map (rowD ts n)) = true ∧ nodesAll (l.map (rowD ts n)) = l.length * (n + 1) ∧ PyData.depthAll (l.map (rowD ts n)) ≤ 1
  | [] => by simp [tinyAll, nodesAll, PyData.depthAll]
  | p :: l => by
    obtain ⟨a, b, c⟩ := tiny_rows ts n hl l
    obtain ⟨a1, b1, c1⟩ := tiny_row (entry ts p) n fun q => entry_small ts hl p q
    refine ⟨?_, ?_, ?_⟩
    · simp only [List.map_cons, tinyAll, a, Bool.and_true]
      exact a1
    · simp only [List.map_cons, nodesAll, b, List.length_cons]
      have : nodes (rowD ts n p) = n + 1 := b1
      rw [this, Nat.succ_mul]
      omega
    · simp only [List.map_cons, PyData.depthAll]
      have : (rowD ts n p).depth = 1 := c1
      omega
theorem show_mat (n : Nat) (ts : List Tie) (hl : ts.length ≤ 100000) (hn : n ≤ 100) : Show (matD n ts) := by
  obtain ⟨a, b, c⟩ := tiny_rows ts n hl (List.range n)
  refine show_of (by simp [matD, tiny, a]) (by simp only [matD, PyData.depth]; omega) ?_
  simp only [matD, nodes, b, List.length_range]
  have := Nat.mul_le_mul hn (Nat.add_le_add_right hn 1)
  omega
theorem tiny_ties : ∀ ts : List Tie, (∀ t ∈ ts, t.1 < 100000 ∧ t.2 < 100000) → tinyAll (ts.map tieD) = true ∧ nodesAll (ts.map tieD) = 3 * ts.length ∧ PyData.depthAll (ts.map tieD) ≤ 1
  | [], _ => by simp [tinyAll, nodesAll, PyData.depthAll]
  | t :: ts, h => by
    obtain ⟨a, b, c⟩ := tiny_ties ts fun m hm => h m (List.mem_cons_of_mem _ hm)
    have ht := h t (List.mem_cons_self ..)
    obtain ⟨a1, b1, c1⟩ := tiny_ints [(t.1 : Int), (t.2 : Int)] fun m hm => by
      have e1 : (2 : Nat) ^ 200 > 100000 := by decide
      rcases List.mem_cons.mp hm with rfl | hm
      · omega
      · obtain rfl := List.mem_singleton.mp hm
        omega
    have e : tieD t = .tuple ([(t.1 : Int), (t.2 : Int)].map PyData.int) := rfl
    refine ⟨?_, ?_, ?_⟩
    · simp only [List.map_cons, tinyAll, a, Bool.and_true]
      rw [e]
      simp only [tiny]
      exact a1
    · have e2 : nodes (tieD t) = 3 := by
        rw [e]
        simp only [nodes, b1]
        rfl
      simp only [List.map_cons, nodesAll, b, e2, List.length_cons]
      omega
    · have e3 : (tieD t).depth = 1 := by
        rw [e]
        simp only [PyData.depth, c1]
      simp only [List.map_cons, PyData.depthAll, e3]
      omega
theorem show_web (n : Nat) (ts : List Tie) (h : ∀ t ∈ ts, t.1 < 100000 ∧ t.2 < 100000) (hn : n < 100000) (hl : ts.length ≤ 4000) : Show (webD n ts) := by
  obtain ⟨a, b, c⟩ := tiny_ties ts h
  have e : ((n : Int)).natAbs.log2 < 300 := by
    have : ((n : Int)).natAbs < 2 ^ 200 := Nat.lt_of_lt_of_le (show ((n : Int)).natAbs < 100000 by omega) (by decide)
    exact Nat.lt_of_lt_of_le (PySem.Flt.log2_lt_of (by decide) this) (by decide)
  refine show_of ?_ ?_ ?_
  · simp only [webD, tiesD, tiny, tinyAll, a, decide_eq_true e, Bool.and_self]
  · simp only [webD, tiesD, PyData.depth, PyData.depthAll]
    omega
  · simp only [webD, tiesD, nodes, nodesAll, b]
    omega

/-! ### the numbers of the ties at a place, by a comprehension -/
theorem lc_hits {K : PySem.W.Frag} {te : TE} {σ : L2.St} {H : Hp} {c : Addr} {ys : List V} {ts : List Tie} {p ik ie ip : Nat} {Q : VK}
    (hc : SqT K H c ys) (hys : DpAll K H ys (ts.map tieD)) (hl : ts.length ≤ 3000) (hte : ∀ Q : VK, Q (.ref c) H → te σ H Q)
    (hw : ∀ v u, wipe (((wipe σ [ik, ie]).set ik v).set ie u) [ik, ie] = wipe σ [ik, ie])
    (hk : ∀ v u, (((wipe σ [ik, ie]).set ik v).set ie u)[ik]? = some v) (he : ∀ v u, (((wipe σ [ik, ie]).set ik v).set ie u)[ie]? = some u)
    (hp : ∀ v u, (((wipe σ [ik, ie]).set ik v).set ie u)[ip]? = some (some (.int (p : Int))))
    (h : ∀ D H', H' D = some (.lst ((tiesAt ts p).map fun (k : Nat) => V.int k)) → Same H H' → H D = none → Q (.ref D) H') :
    tLc (iEnumT K (tCons te tNil)) (gTup K 2 (gCons (gName ik) (gCons (gName ie) gNil))) (tTest (tOp (rIn K false) (tVar ip) (tVar ie))) (tVar ik) [ik, ie] σ H Q := by
  have hyl : ys.length = ts.length := by rw [dpAll_len hys, List.length_map]
  refine hte _ ?_
  refine ⟨c, ys, rfl, hc, fun D hD => ?_⟩
  refine lc_run walk_enumT hD (fun i acc _ => acc = ((List.range i).filter (hit ts p)).map fun (k : Nat) => V.int k) ?_ ?_ ?_ ?_
  · exact fun H' s => sqT_same s hc
  · rfl
  · rintro i x acc H2 H' hi hacc e s r ⟨q, u, y, rfl, hq, rfl, hu, hy⟩
    cases hu
    obtain ⟨d, hd, hv⟩ := dpAll_get hys hy
    obtain ⟨t', ht', rfl⟩ := get_map hd
    have sq : Same H2 (upd H2 q (.tup [.int (i : Nat), y])) := same_new hq
    obtain ⟨pa, rfl, hpa⟩ := dp_tie (dp_same (s.trans sq) _ hv)
    refine ⟨q, _, rfl, SqT.of upd_same, rfl, _, _, rfl, _, _, rfl, rfl, hw _ _, ?_⟩
    refine ⟨_, hp _ _, _, he _ _, pa, _, rfl, .inr hpa, rfl, rfl, _, rfl, ?_⟩
    show (if inV (.int (p : Int)) [.int t'.1, .int t'.2] = true then _ else _)
    have hacc2 : ((List.range i).filter (hit ts p)).length ≤ i := Nat.le_trans (List.length_filter_le _ _) (by rw [List.length_range]; exact Nat.le_refl _)
    have hin : inV (.int (p : Int)) [.int t'.1, .int t'.2] = hit ts p i := by rw [inv_tie, hit_at ht']
    have r' : acc = ((List.range i).filter (hit ts p)).map fun (k : Nat) => V.int k := r
    rw [hin]
    refine ite2 (fun hh => ?_) (fun hh => ?_)
    · refine ⟨_, hk _ _, ?_⟩
      refine lc_add hacc e sq (by rw [r', List.length_map]; omega) ?_
      rw [range_filter_succ, if_pos hh, List.map_append, r']
      rfl
    · refine lc_skip hacc e sq ?_
      rw [range_filter_succ, if_neg hh, List.append_nil]
      exact r'
  · rintro acc H2 h1 s2 r
    have r' : acc = ((List.range ys.length).filter (hit ts p)).map fun (k : Nat) => V.int k := r
    rw [hyl] at r'
    refine h D H2 ?_ s2 hD
    rw [h1, r']
    rfl
theorem dp_lot {K : PySem.W.Frag} {H : Hp} {u : Addr} {ks : List Nat} (h : H u = some (.tup (ks.map fun (k : Nat) => V.int k))) : Dp K H (.ref u) (lotD ks) := by
  refine .tup (SqT.of h) ?_
  have e2 : (ks.map fun (k : Nat) => PyData.int k) = (ks.map fun (k : Nat) => (k : Int)).map PyData.int := by rw [List.map_map]; rfl
  have e3 : (ks.map fun (k : Nat) => V.int k) = (ks.map fun (k : Nat) => (k : Int)).map V.int := by rw [List.map_map]; rfl
  rw [e2, e3]
  exact dpAll_ints _
/-- the equal ones counted by a comprehension of ones -/
theorem lc_pairs {K : PySem.W.Frag} {tp : TE} {σ : L2.St} {H : Hp} {c : Addr} {ys : List V} {ts : List Tie} {x y ic ie : Nat} {Q : VK}
    (hc : SqT K H c ys) (hys : DpAll K H ys (ts.map tieD)) (hl : ts.length ≤ 3000) (hcs : σ[ic]? = some (some (.ref c)))
    (hw : ∀ u, wipe ((wipe σ [ie]).set ie u) [ie] = wipe σ [ie]) (he : ∀ u, ((wipe σ [ie]).set ie u)[ie]? = some u)
    (htp : ∀ u H' (Q : VK), (∀ p, H' p = none → Q (.ref p) (upd H' p (.tup [.int (x : Int), .int (y : Int)]))) → tp ((wipe σ [ie]).set ie u) H' Q)
    (h : ∀ D H', H' D = some (.lst (List.replicate (ts.countP fun t => decide (t = (x, y))) (V.int 1))) → Same H H' → H D = none → Q (.ref D) H') :
    tLc (iTup K (tVar ic)) (gName ie) (tTest (tOp (rEqD K) (tVar ie) tp)) (tC (.int 1)) [ie] σ H Q := by
  have hyl : ys.length = ts.length := by rw [dpAll_len hys, List.length_map]
  refine ⟨_, hcs, c, rfl, ⟨ys, hc⟩, fun D hD => ?_⟩
  refine lc_run (walk_tup (xs := ys)) hD (fun i acc _ => acc = List.replicate ((ts.take i).countP fun t => decide (t = (x, y))) (V.int 1)) ?_ ?_ ?_ ?_
  · exact fun H' s => sqT_same s hc
  · rfl
  · rintro i v acc H2 H' hi hacc e s r ⟨rfl, hv⟩
    obtain ⟨d, hd, hdp⟩ := dpAll_get hys hv
    obtain ⟨t, ht, rfl⟩ := get_map hd
    refine ⟨hw _, ?_⟩
    refine ⟨_, he _, htp _ _ _ fun q hq => ?_⟩
    have sq : Same H' (upd H' q (.tup [.int (x : Int), .int (y : Int)])) := same_new hq
    have s1 : SeqAt.shaped (tieD t) = true := by simp [SeqAt.shaped, tieD, PyData.canLay0, PyData.canLayAll0, PyData.depth, PyData.depthAll]
    have s2 : SeqAt.shaped (tieD (x, y)) = true := by simp [SeqAt.shaped, tieD, PyData.canLay0, PyData.canLayAll0, PyData.depth, PyData.depthAll]
    refine ⟨tieD t, tieD (x, y), dp_same (s.trans sq) _ hdp, .tup (SqT.of upd_same) (.cons (.int _) (.cons (.int _) .nil)), s1, s2, _, rfl, ?_⟩
    have r' : acc = List.replicate ((ts.take i).countP fun t => decide (t = (x, y))) (V.int 1) := r
    have hcl : (ts.take i).countP (fun t => decide (t = (x, y))) ≤ 3000 := Nat.le_trans List.countP_le_length (by rw [List.length_take]; omega)
    have hstep : (ts.take (i + 1)).countP (fun t => decide (t = (x, y))) = (ts.take i).countP (fun t => decide (t = (x, y))) + if t = (x, y) then 1 else 0 := by
      rw [List.take_add_one, ht, List.countP_append]
      show _ + List.countP _ [t] = _
      rw [List.countP_singleton]
      simp
    have heq : PyData.eqv (tieD t) (tieD (x, y)) = decide (t = (x, y)) := by
      obtain ⟨a, b⟩ := t
      have e1 : ∀ m n : Nat, (((m : Int)) == ((n : Int))) = decide (m = n) := fun m n => by
        by_cases z : m = n
        · subst z; simp
        · rw [decide_eq_false z]
          exact beq_eq_false_iff_ne.mpr fun w => z (by omega)
      have e2 : decide ((a, b) = (x, y)) = (decide (a = x) && decide (b = y)) := by
        rw [← Bool.decide_and]
        congr 1
        exact propext ⟨fun z => Prod.mk.inj z, fun z => by rw [z.1, z.2]⟩
      rw [e2]
      show (((a : Int) == (x : Int)) && (((b : Int) == (y : Int)) && true)) = _
      rw [e1, e1, Bool.and_true]
    rw [heq]
    refine ite2 (fun hh => ?_) (fun hh => ?_)
    · have hh' := of_decide_eq_true hh
      refine lc_add hacc e sq (by rw [r', List.length_replicate]; omega) ?_
      rw [hstep, if_pos hh', r', List.replicate_succ']
    · have hh' : ¬ t = (x, y) := fun z => hh (decide_eq_true z)
      refine lc_skip hacc e sq ?_
      rw [hstep, if_neg hh', Nat.add_zero]
      exact r'
  · rintro acc H2 h1 s2 r
    have r' : acc = List.replicate ((ts.take ys.length).countP fun t => decide (t = (x, y))) (V.int 1) := r
    rw [hyl, List.take_of_length_le (Nat.le_refl _)] at r'
    exact h D H2 (by rw [h1, r']) s2 hD
end BV

namespace BV
open PySem L2
theorem tupLc_by {K : PySem.W.Frag} {wi : TI} {g : TG} {tt : TT} {te : TE} {vs : List Nat} {σ : L2.St} {H : Hp} {i : Nat} {D : Ends}
    (h : tLc wi g tt te vs σ H (fun x H1 => rTupK K [x] H1 (fun v H2 => D.nx (σ.set i (some v)) H2))) :
    tAsg (tCB (rTupK K) (tCons (tLc wi g tt te vs) tNil)) (gName i) D σ H := h
theorem lenLc_by {K : PySem.W.Frag} {wi : TI} {g : TG} {tt : TT} {te : TE} {vs : List Nat} {σ : L2.St} {H : Hp} {i : Nat} {D : Ends}
    (h : tLc wi g tt te vs σ H (fun x H1 => rLenK K [x] H1 (fun v H2 => D.nx (σ.set i (some v)) H2))) :
    tAsg (tCB (rLenK K) (tCons (tLc wi g tt te vs) tNil)) (gName i) D σ H := h
end BV

namespace BV
open PySem L2
theorem reps (n : Nat) (v : V) : (List.replicate n [v]).flatten = (List.range n).map fun _ => v := by
  induction n with
  | zero => rfl
  | succ n ih =>
    rw [List.replicate_succ', List.flatten_append, ih, List.range_succ, List.map_append]
    rfl
theorem shaped_row (f : Nat → Int) (n : Nat) : SeqAt.shaped (.tuple ((List.range n).map fun q => .int (f q))) = true := by
  rw [ints_row]
  have h1 := lay_ints ((List.range n).map f)
  have h2 := deep_ints ((List.range n).map f)
  have h3 : PyData.depthAll (((List.range n).map f).map PyData.int) + 1 ≤ 64 := by omega
  simp only [SeqAt.shaped, PyData.canLay0, PyData.depth, h1, Bool.true_and]
  exact decide_eq_true h3
theorem dp_row {K : PySem.W.Frag} {H : Hp} {v : V} {f : Nat → Int} {n : Nat} (h : Dp K H v (.tuple ((List.range n).map fun q => .int (f q)))) :
    ∃ a, v = .ref a ∧ SqT K H a ((List.range n).map fun q => V.int (f q)) := by
  obtain ⟨a, xs, e, h1, h2⟩ := dp_tup h
  rw [ints_row] at h2
  rw [ints_rowV, ← dpAll_ints' h2]
  exact ⟨a, e, h1⟩
theorem eqv_self {d : PyData} (h : SeqAt.shaped d = true) : PyData.eqv d d = true := by
  have h1 : d.canLay0 = true := SeqAt.canLay_of_shaped h
  first | exact PySem.eqv_refl d h1 | exact PySem.P3.eqv_refl d h1 | exact PySem.SeqAt.eqv_refl d h1 | exact PyData.eqv_refl d h1
/-- nothing in it: two empty lists -/
theorem none_found {K : PySem.W.Frag} {H : Hp} {a b : Addr} (ha : H a = some (.lst [])) (hb : H b = some (.lst [])) :
    ∃ d e, Dp K H (.ref a) d ∧ Dp K H (.ref b) e ∧ SeqAt.shaped d = true ∧ SeqAt.shaped e = true ∧ PyData.eqv d e = true :=
  ⟨.list [], .list [], .lst (SqL.of ha) .nil, .lst (SqL.of hb) .nil, shaped_intsL [], shaped_intsL [], by rfl⟩
end BV

namespace BV
open PySem PySem.Spec PyProof.Rows L2

/-! ### t * k for k from 1 on: once is the tuple itself -/
theorem mul_once (l : Addr) (items : Array Value) (n : Nat) (dd : Option Addr) (sl : Array (Option Value)) (u : Tok) :
    Meets (Builtin.«tuple.__mul__» ⟨[.ref l, .int 1 u], []⟩) (fun _ R s => s.heap.get? l = some { cls := .type "tuple", dict := dd, data := .seq items n, slots := sl } ∧
      R (.ok (.ret (Value.ref l))) s) := by
  refine .of_wp fun prog w A R s h => ?_
  obtain ⟨hp, g, d, tk, os⟩ := s
  obtain ⟨hl, h⟩ := h
  have f1 := AutoSeq1.idx_int
  have c0 : (decide ((1 : Int) < -(2 ^ 63)) || decide ((1 : Int) ≥ 2 ^ 63)) = false := by decide
  have c1 : (items.isEmpty || (1 : Int) == 1) = true := by simp
  wp_walk using AutoSeq1.wpAny_loadPart' hl
  repeat (first
    | (refine wpAny_ite_false (decide_eq_false (by rw [c0]; exact Bool.false_ne_true)) ?_; wp_walk using AutoSeq1.wpAny_loadPart' hl)
    | (refine wpAny_ite_true (decide_eq_true c1) ?_; wp_walk using AutoSeq1.wpAny_loadPart' hl))
  exact ⟨_, rfl, h⟩
def rRepT1 (K : PySem.W.Frag) : R2 := fun x y H Q => ∃ l k xs, x = .ref l ∧ y = .int k ∧ SqT K H l xs ∧ xs ≠ [] ∧ 1 ≤ k ∧ k ≤ 1000 ∧ xs.length ≤ 1000 ∧
  (k = 1 → Q (.ref l) H) ∧ (2 ≤ k → ∀ p, H p = none → Q (.ref p) (upd H p (.tup (List.replicate k.toNat xs).flatten)))
theorem op_repT1 {X : Cx} (K : PySem.W.Frag) (hK : X.K = K := by rfl) : OpR X (binaryOp .Mult) (rRepT1 K) := by
  subst hK
  intro pins s σ H x y v u Q I rx ry h
  obtain ⟨l, k, xs, rfl, rfl, hT, hne, h1, h2, hz, q1, q2⟩ := h
  by_cases hk : k = 1
  · subst hk
    cases rx
    obtain ⟨t, rfl⟩ := ry
    obtain ⟨its, r, ⟨⟨cls, dd, data, sl⟩, ho, hc, n, hd⟩, hs⟩ := I.tuple hT
    simp only at hc hd
    subst hc hd
    refine wpAny_binaryOp_repeat_ref (T := "tuple") (U := "int") (by decide) ⟨_, ho, rfl⟩ (fun s' => typeIs_int s' 1 t) noFill_tuple_mul F.fills_int_mul F.slot_int_rmul repeat_tuple F.slot_int_index.lookup ?_
    refine call_meets F.slot_int_rmul (typeIs_int s 1 t) F.entry_int_rmul (F.args_int_rmul_2 _ _) (int_rmul_tuple 1 t l its.toArray n dd sl) ⟨ho, rfl, ⟨_, ho, rfl⟩, ?_⟩
    refine call_meets F.slot_tuple_mul ⟨_, ho, rfl⟩ F.entry_tuple_mul (F.args_tuple_mul_2 _ _) (mul_once l its.toArray n dd sl t) ⟨ho, ?_⟩
    exact ⟨.ref l, H, I, rfl, q1 rfl⟩
  · exact op_repT pins s σ H (.ref l) (.int k) v u Q I rx ry ⟨l, k, xs, rfl, rfl, hT, hne, by omega, h2, hz, q2 (by omega)⟩
end BV

namespace BV
open PySem L2
theorem mat_perm {ts us : List Tie} (h : ts.Perm us) (n : Nat) : matD n ts = matD n us := by
  unfold matD rowD
  congr 2
  funext p
  congr 2
  funext q
  rw [entry_perm h]
theorem dpAll_rev {K : PySem.W.Frag} {H : Hp} : ∀ {ds : List PyData} {vs : List V}, DpAll K H vs ds → DpAll K H vs.reverse ds.reverse
  | [], _, h => by cases h; exact .nil
  | d :: ds, _, h => by
    cases h with
    | cons h1 h2 =>
      rw [List.reverse_cons, List.reverse_cons]
      exact dpAll_app (dpAll_rev h2) (.cons h1 .nil)
theorem flat_one (k : Nat) (v : V) : (List.replicate k [v]).flatten = List.replicate k v := by
  induction k with
  | zero => rfl
  | succ k ih =>
    rw [List.replicate_succ, List.flatten_cons, ih, List.replicate_succ]
    rfl
theorem dp_fat {K : PySem.W.Frag} {H : Hp} {z t1 : Addr} {k : Nat} (hz : SqT K H z (List.replicate k (.ref t1))) (ht : SqT K H t1 [.int 0, .int 1]) :
    Dp K H (.ref z) (tiesD (List.replicate k (0, 1))) := by
  refine .tup hz ?_
  clear hz
  induction k with
  | zero => exact .nil
  | succ k ih =>
    rw [List.replicate_succ, List.replicate_succ, List.map_cons]
    exact .cons (.tup ht (.cons (.int _) (.cons (.int _) .nil))) ih
end BV

namespace BV
open PySem L2 RZ

/-! ### further rules that name the written part -/
section
variable {X : Cx} (K : PySem.W.Frag)
theorem slTA (h : X.K = K := by rfl) : SlR X (rSlA K) := by
  subst h
  exact sl_tupA
def rListK (K : PySem.W.Frag) : List V → Hp → VK → Prop := fun xs H Q => ∃ p ys, xs = [.ref p] ∧ (SqL K H p ys ∨ SqT K H p ys) ∧ ∀ l, H l = none → Q (.ref l) (upd H l (.lst ys))
theorem listK (h : X.K = K := by rfl) : CallR X (.type "list") (rListK K) := by
  subst h
  exact call_list_of
theorem revL {e : Expr} {te : TE} {k : Nat} {p1 p2 p3 pos : Pos} (he : PE X e te) (h : X.K = K := by rfl) :
    PE X (.Subscript e (.Slice none none (some (.UnaryOp .USub (.Constant (.int 1) k p1) p2)) p3) pos) (tRevL K te) := by
  subst h
  exact pe_revL he
theorem zipA {e e2 : Expr} {ta : TA} {p pos tpos : Pos} {elts : List Expr} {kk : Nat} (hg : Gl X "zip") (hm : X.mg "zip" = none) (ha : PA X [e, e2] ta)
    (hs : starEach [e, e2] X.env = (false, eval e X.env) :: starEach [e2] X.env := by rfl) (hpl : (backTo pos (starEach [e2] X.env)).any (·.1) = false := by rfl) (h : X.K = K := by rfl) :
    PI X (.Tuple elts kk tpos) (.Call (.Name "zip" p) [e, e2] [] pos) (iZipA K ta) := by
  subst h
  exact pi_zipA hg hm ha hs hpl
theorem rgc {a b c : Expr} {tg : Expr} {ta : TA} {p pos : Pos} (hg : Gl X "range") (hm : X.mg "range" = none) (ha : PA X [a, b, c] ta)
    (hs : starEach [a, b, c] X.env = (false, eval a X.env) :: starEach [b, c] X.env := by rfl) (hpl : (backTo pos (starEach [b, c] X.env)).any (·.1) = false := by rfl) :
    PI X tg (.Call (.Name "range" p) [a, b, c] [] pos) (iRng3 ta) := pi_range3 hg hm ha hs hpl
end
theorem walk_zipT {K : PySem.W.Frag} {a b : Addr} {xs ys : List V} (hl : xs.length = ys.length) :
    Walk (ItzT K a b) xs.length (fun H => SqT K H a xs ∧ SqT K H b ys) (YPair (fun i => xs[i]?) (fun i => ys[i]?)) := by
  refine ⟨fun i H hi q => ?_, fun H q => ⟨xs, ys, q.1, q.2, .inl (Nat.le_refl _)⟩, fun i H v H' _ q y => ?_⟩
  · have h2 : i < ys.length := by omega
    exact ⟨xs, ys, xs[i], ys[i], q.1, q.2, by simp [hi], by simp [h2]⟩
  · obtain ⟨T, x, z, h1, h2, h3, h4, h5⟩ := y
    exact ⟨T, x, z, h1, h2, h3, h4 xs q.1, h5 ys q.2⟩
theorem tAnd_by {ta : TT} {tb : TT} {σ : L2.St} {H : Hp} {Q : Bool → Hp → Prop} (h : tAnd ta tb σ H Q) : tAnd ta tb σ H Q := h

/-! ### numbers on ties -/
def numsD (L : Nat) (f : Nat → Int) : PyData := .tuple ((List.range L).map fun k => .int (f k))
def numsV (L : Nat) (f : Nat → Int) : List V := (List.range L).map fun k => V.int (f k)
theorem dp_nums {K : PySem.W.Frag} {H : Hp} {v : V} {L : Nat} {f : Nat → Int} (h : Dp K H v (numsD L f)) : ∃ a, v = .ref a ∧ SqT K H a (numsV L f) := dp_row h
theorem nums_dp {K : PySem.W.Frag} {H : Hp} {a : Addr} {L : Nat} {f : Nat → Int} (h : SqT K H a (numsV L f)) : Dp K H (.ref a) (numsD L f) := by
  refine .tup h ?_
  unfold numsV
  rw [ints_row, ints_rowV]
  exact dpAll_ints _
theorem numsV_len (L : Nat) (f : Nat → Int) : (numsV L f).length = L := by simp [numsV]
theorem numsV_get {L : Nat} {f : Nat → Int} {k : Nat} (h : k < L) : (numsV L f)[k]? = some (.int (f k)) := by
  unfold numsV
  rw [List.getElem?_map, List.getElem?_range h]
  rfl
theorem numsV_set (L : Nat) (f : Nat → Int) (k : Nat) (z : Int) : (numsV L f).set k (.int z) = numsV L (fun j => if j = k then z else f j) := by
  unfold numsV
  rw [range_set]
  apply List.map_congr_left
  intro j _
  by_cases h : j = k <;> simp [h]
theorem numsV_congr {L : Nat} {f g : Nat → Int} (h : ∀ k, k < L → f k = g k) : numsV L f = numsV L g :=
  List.map_congr_left fun k hk => by rw [h k (List.mem_range.mp hk)]
theorem numsD_congr {L : Nat} {f g : Nat → Int} (h : ∀ k, k < L → f k = g k) : numsD L f = numsD L g := by
  unfold numsD
  congr 1
  exact List.map_congr_left fun k hk => by rw [h k (List.mem_range.mp hk)]
theorem still_nums (L : Nat) (f : Nat → Int) : still (numsD L f) = true := by
  have h := still_ints ((List.range L).map f)
  rw [← ints_row] at h
  simpa [numsD, still] using h

/-! ### deeds -/
inductive Deed where
  | star (p : Nat) (t : Int) | round (ks : List Nat) (t : Int)
namespace Deed
def times : Deed → Int
  | star _ t => t
  | round _ t => t
def about : Deed → PyData
  | star p _ => .int p
  | round ks _ => lotD ks
def word : Deed → Str
  | star _ _ => "star"
  | round _ _ => "round"
def neg : Deed → Deed
  | star p t => star p (-t)
  | round ks t => round ks (-t)
def D (d : Deed) : PyData := .tuple [.str d.word, d.about, .int d.times]
def touch (ts : List Tie) : Deed → Nat → Bool
  | star p _, k => hit ts p k
  | round ks _, k => decide (k ∈ ks)
def part (ts : List Tie) (d : Deed) (k : Nat) : Int := if d.touch ts k = true then d.times else 0
def Ok (ts : List Tie) : Deed → Prop
  | star _ _ => True
  | round ks _ => (∀ k ∈ ks, k < ts.length) ∧ ks.Nodup
end Deed
/-- the numbers behind some deeds -/
def behind (ts : List Tie) (f : Nat → Int) : List Deed → Nat → Int
  | [] => f
  | d :: ds => behind ts (fun k => f k + d.part ts k) ds
def effect (ts : List Tie) (ds : List Deed) (k : Nat) : Int := (ds.map fun d => d.part ts k).sum
theorem behind_eq (ts : List Tie) : ∀ (ds : List Deed) (f : Nat → Int) (k : Nat), behind ts f ds k = f k + effect ts ds k
  | [], f, k => by simp [behind, effect]
  | d :: ds, f, k => by
    rw [behind, behind_eq ts ds]
    simp only [effect, List.map_cons, List.sum_cons]
    omega
theorem effect_perm {ts : List Tie} {ds es : List Deed} (h : ds.Perm es) (k : Nat) : effect ts ds k = effect ts es k := by
  induction h with
  | nil => rfl
  | cons d _ ih =>
    unfold effect at ih ⊢
    simp only [List.map_cons, List.sum_cons, ih]
  | swap a b l =>
    unfold effect
    simp only [List.map_cons, List.sum_cons]
    omega
  | trans _ _ ih1 ih2 => rw [ih1, ih2]
theorem effect_app (ts : List Tie) (ds es : List Deed) (k : Nat) : effect ts (ds ++ es) k = effect ts ds k + effect ts es k := by
  unfold effect
  rw [List.map_append, List.sum_append]
theorem touch_neg (ts : List Tie) (d : Deed) (k : Nat) : d.neg.touch ts k = d.touch ts k := by cases d <;> rfl
theorem part_neg (ts : List Tie) (d : Deed) (k : Nat) : d.neg.part ts k = -(d.part ts k) := by
  unfold Deed.part
  rw [touch_neg]
  split
  · cases d <;> rfl
  · rfl
theorem effect_neg (ts : List Tie) : ∀ (ds : List Deed) (k : Nat), effect ts (ds.map Deed.neg) k = -(effect ts ds k)
  | [], k => rfl
  | d :: ds, k => by
    have := effect_neg ts ds k
    unfold effect at this ⊢
    simp only [List.map_cons, List.sum_cons, this, part_neg]
    omega
theorem still_deed (d : Deed) : still d.D = true := by
  cases d with
  | star p t => simp [Deed.D, Deed.about, still, stillAll]
  | round ks t =>
    have h : stillAll (ks.map fun (k : Nat) => PyData.int k) = true := by
      have e : (ks.map fun (k : Nat) => PyData.int k) = (ks.map fun (k : Nat) => (k : Int)).map PyData.int := by rw [List.map_map]; rfl
      rw [e]
      exact still_ints _
    simp [Deed.D, Deed.about, still, stillAll, lotD, h]
theorem still_deeds : ∀ ds : List Deed, stillAll (ds.map Deed.D) = true
  | [] => by simp [stillAll]
  | d :: ds => by simp [stillAll, still_deed, still_deeds ds]
theorem still_lot (ks : List Nat) : still (lotD ks) = true := by
  have e : (ks.map fun (k : Nat) => PyData.int k) = (ks.map fun (k : Nat) => (k : Int)).map PyData.int := by rw [List.map_map]; rfl
  simp only [lotD, still, e]
  exact still_ints _
theorem dp_deed {K : PySem.W.Frag} {H : Hp} {v : V} {d : Deed} (h : Dp K H v d.D) :
    ∃ a va, v = .ref a ∧ SqT K H a [.str d.word, va, .int d.times] ∧ Dp K H va d.about := by
  obtain ⟨a, xs, e, h1, h2⟩ := dp_tup h
  cases h2 with
  | cons q1 q2 =>
    cases q1
    cases q2 with
    | cons q3 q4 =>
      cases q4 with
      | cons q5 q6 =>
        cases q5
        cases q6
        exact ⟨a, _, e, h1, q3⟩
theorem dp_lotI {K : PySem.W.Frag} {H : Hp} {v : V} {ks : List Nat} (h : Dp K H v (lotD ks)) : ∃ a, v = .ref a ∧ SqT K H a (ks.map fun (k : Nat) => V.int k) := by
  obtain ⟨a, xs, e, h1, h2⟩ := dp_tup h
  have e2 : (ks.map fun (k : Nat) => PyData.int k) = (ks.map fun (k : Nat) => (k : Int)).map PyData.int := by rw [List.map_map]; rfl
  have e3 : (ks.map fun (k : Nat) => V.int k) = (ks.map fun (k : Nat) => (k : Int)).map V.int := by rw [List.map_map]; rfl
  rw [e2] at h2
  rw [e3, ← dpAll_ints' h2]
  exact ⟨a, e, h1⟩
def spDo (K : PySem.W.Frag) : Sp := fun vs H Q _ => ∃ (v dv : V) (l : Addr) (n : Nat) (ts : List Tie) (d : Deed) (f : Nat → Int), vs = [v, .ref l, dv] ∧
  Dp K H v (webD n ts) ∧ Dp K H dv d.D ∧ d.Ok ts ∧ ts.length ≤ 3000 ∧ H l = some (.lst (numsV ts.length f)) ∧
  ∀ H', Kp l l H H' → H' l = some (.lst (numsV ts.length fun k => f k + d.part ts k)) → Q .non H'
def spDone (K : PySem.W.Frag) : Sp := fun vs H Q _ => ∃ (v sv dv : V) (n : Nat) (ts : List Tie) (f : Nat → Int) (ds : List Deed), vs = [v, sv, dv] ∧
  Dp K H v (webD n ts) ∧ Dp K H sv (numsD ts.length f) ∧ Dp K H dv (.tuple (ds.map Deed.D)) ∧ (∀ d ∈ ds, d.Ok ts) ∧ ts.length ≤ 3000 ∧
  ∀ u H', Same H H' → Dp K H' u (numsD ts.length (behind ts f ds)) → Q u H'
def spUndone (K : PySem.W.Frag) : Sp := fun vs H Q _ => ∃ (dv : V) (ds : List Deed), vs = [dv] ∧ Dp K H dv (.tuple (ds.map Deed.D)) ∧ ds.length ≤ 3000 ∧
  ∀ u H', Same H H' → Dp K H' u (.tuple ((ds.reverse.map Deed.neg).map Deed.D)) → Q u H'
def spDiff (K : PySem.W.Frag) : Sp := fun vs H Q _ => ∃ (v u : V) (L : Nat) (f g : Nat → Int), vs = [v, u] ∧ Dp K H v (numsD L f) ∧ Dp K H u (numsD L g) ∧ L ≤ 3000 ∧
  ∀ z H', Same H H' → Dp K H' z (numsD L fun k => g k - f k) → Q z H'
end BV

namespace BV
open PySem L2
/-! ### small data, that may be written as a text -/
structure Sm (d : PyData) (c k : Nat) : Prop where
  t : tiny d = true
  n : nodes d ≤ c
  p : d.depth ≤ k
theorem Sm.mono {d : PyData} {c k c' k' : Nat} (h : Sm d c k) (h1 : c ≤ c') (h2 : k ≤ k') : Sm d c' k' := ⟨h.t, Nat.le_trans h.n h1, Nat.le_trans h.p h2⟩
theorem sm_all {c k : Nat} : ∀ ds : List PyData, (∀ d ∈ ds, Sm d c k) → tinyAll ds = true ∧ nodesAll ds ≤ ds.length * c ∧ PyData.depthAll ds ≤ k
  | [], _ => by simp [tinyAll, nodesAll, PyData.depthAll]
  | d :: ds, h => by
    obtain ⟨a, b, e⟩ := sm_all ds fun m hm => h m (List.mem_cons_of_mem _ hm)
    obtain ⟨a1, b1, e1⟩ := h d (List.mem_cons_self ..)
    refine ⟨by simp only [tinyAll, a, a1, Bool.and_self], ?_, ?_⟩
    · simp only [nodesAll, List.length_cons]
      rw [Nat.succ_mul]
      omega
    · simp only [PyData.depthAll]
      omega
theorem sm_tup {ds : List PyData} {c k : Nat} (h : ∀ d ∈ ds, Sm d c k) : Sm (.tuple ds) (ds.length * c + 1) (k + 1) := by
  obtain ⟨a, b, e⟩ := sm_all ds h
  refine ⟨by simpa only [tiny] using a, by simp only [nodes]; omega, by simp only [PyData.depth]; omega⟩
theorem sm_lst {ds : List PyData} {c k : Nat} (h : ∀ d ∈ ds, Sm d c k) : Sm (.list ds) (ds.length * c + 1) (k + 1) := by
  obtain ⟨a, b, e⟩ := sm_all ds h
  refine ⟨by simpa only [tiny] using a, by simp only [nodes]; omega, by simp only [PyData.depth]; omega⟩
theorem sm_show {d : PyData} {c k : Nat} (h : Sm d c k) (hc : c ≤ 15000) (hk : k ≤ 40) : Show d := show_of h.t (Nat.le_trans h.p hk) (Nat.le_trans h.n hc)
theorem sm_int {z : Int} (h : z.natAbs < 2 ^ 200) : Sm (.int z) 1 0 := by
  have hl : z.natAbs.log2 < 300 := Nat.lt_of_lt_of_le (PySem.Flt.log2_lt_of (by decide) h) (by decide)
  exact ⟨by simp only [tiny, hl, decide_true], by simp only [nodes]; exact Nat.le_refl _, by simp only [PyData.depth]; exact Nat.le_refl _⟩
theorem sm_nat {k : Nat} (h : k < 100000) : Sm (.int (k : Int)) 1 0 := sm_int (Nat.lt_of_lt_of_le (show ((k : Int)).natAbs < 100000 by omega) (by decide))
theorem sm_lot {ks : List Nat} (h : ∀ k ∈ ks, k < 100000) : Sm (lotD ks) (ks.length + 1) 1 := by
  have := sm_tup (ds := ks.map fun (k : Nat) => PyData.int k) (c := 1) (k := 0) fun d hd => by
    obtain ⟨k, hk, rfl⟩ := List.mem_map.mp hd
    exact sm_nat (h k hk)
  rw [List.length_map, Nat.mul_one] at this
  exact this
theorem sm_nums {L : Nat} {f : Nat → Int} (h : ∀ k, (f k).natAbs < 2 ^ 200) : Sm (numsD L f) (L + 1) 1 := by
  have := sm_tup (ds := (List.range L).map fun k => PyData.int (f k)) (c := 1) (k := 0) fun d hd => by
    obtain ⟨k, hk, rfl⟩ := List.mem_map.mp hd
    exact sm_int (h k)
  rw [List.length_map, List.length_range, Nat.mul_one] at this
  exact this
theorem sm_tie {t : Tie} (h : t.1 < 100000 ∧ t.2 < 100000) : Sm (tieD t) 3 1 :=
  sm_tup (ds := [.int t.1, .int t.2]) (c := 1) (k := 0) fun d hd => by
    rcases List.mem_cons.mp hd with rfl | hd
    · exact sm_nat h.1
    · obtain rfl := List.mem_singleton.mp hd
      exact sm_nat h.2
theorem sm_web {n : Nat} {ts : List Tie} (h : ∀ t ∈ ts, t.1 < 100000 ∧ t.2 < 100000) (hn : n < 100000) : Sm (webD n ts) (6 * ts.length + 3) 3 := by
  have h1 : Sm (tiesD ts) (ts.length * 3 + 1) 2 := by
    have := sm_tup (ds := ts.map tieD) (c := 3) (k := 1) fun d hd => by
      obtain ⟨k, hk, rfl⟩ := List.mem_map.mp hd
      exact sm_tie (h k hk)
    rw [List.length_map] at this
    exact this
  have h2 := sm_tup (ds := [.int n, tiesD ts]) (c := ts.length * 3 + 1) (k := 2) fun d hd => by
    rcases List.mem_cons.mp hd with rfl | hd
    · exact (sm_nat hn).mono (by omega) (by omega)
    · obtain rfl := List.mem_singleton.mp hd
      exact h1
  exact h2.mono (by show 2 * (ts.length * 3 + 1) + 1 ≤ _; omega) (Nat.le_refl _)
theorem sm_deed {d : Deed} {m : Nat} (h1 : d.times.natAbs < 2 ^ 200) (h2 : Sm d.about m 1) (hm : 1 ≤ m) : Sm d.D (3 * m + 1) 2 := by
  refine sm_tup (ds := [.str d.word, d.about, .int d.times]) (c := m) (k := 1) fun e he => ?_
  rcases List.mem_cons.mp he with rfl | he
  · refine ⟨?_, by simp only [nodes]; exact hm, by simp only [PyData.depth]; omega⟩
    cases d with
    | star p t => show tiny (.str "star") = true; decide
    | round ks t => show tiny (.str "round") = true; decide
  · rcases List.mem_cons.mp he with rfl | he
    · exact h2
    · obtain rfl := List.mem_singleton.mp he
      exact (sm_int h1).mono hm (by omega)
theorem sm_deeds {ds : List Deed} {m : Nat} (h : ∀ d ∈ ds, d.times.natAbs < 2 ^ 200 ∧ Sm d.about m 1) (hm : 1 ≤ m) : Sm (.tuple (ds.map Deed.D)) (ds.length * (3 * m + 1) + 1) 3 := by
  have := sm_tup (ds := ds.map Deed.D) (c := 3 * m + 1) (k := 2) fun e he => by
    obtain ⟨d, hd, rfl⟩ := List.mem_map.mp he
    exact sm_deed (h d hd).1 (h d hd).2 hm
  rw [List.length_map] at this
  exact this
/-- how much some deeds can do -/
theorem effect_abs {ts : List Tie} {B : Nat} : ∀ (ds : List Deed) (k : Nat), (∀ d ∈ ds, d.times.natAbs ≤ B) → (effect ts ds k).natAbs ≤ ds.length * B
  | [], k, _ => by simp [effect]
  | d :: ds, k, h => by
    have ih := effect_abs (ts := ts) ds k fun m hm => h m (List.mem_cons_of_mem _ hm)
    have hd := h d (List.mem_cons_self ..)
    have hp : (d.part ts k).natAbs ≤ B := by
      unfold Deed.part
      split
      · exact hd
      · simp
    unfold effect at ih ⊢
    simp only [List.map_cons, List.sum_cons, List.length_cons]
    rw [Nat.succ_mul]
    omega
theorem behind_abs {ts : List Tie} {B M : Nat} {f : Nat → Int} (ds : List Deed) (k : Nat) (h : ∀ d ∈ ds, d.times.natAbs ≤ B) (hf : ∀ k, (f k).natAbs ≤ M) :
    (behind ts f ds k).natAbs ≤ M + ds.length * B := by
  rw [behind_eq]
  have h1 := effect_abs (ts := ts) ds k h
  have h2 := hf k
  omega
theorem neg_neg (d : Deed) : d.neg.neg = d := by
  cases d <;> simp [Deed.neg]
theorem map_neg_neg (ds : List Deed) : (ds.map Deed.neg).map Deed.neg = ds := by
  rw [List.map_map]
  have : Deed.neg ∘ Deed.neg = id := funext neg_neg
  rw [this, List.map_id]
end BV
namespace BV
open PySem L2
theorem atI_last {xs : List V} {v : V} (h0 : 0 < xs.length) (h : xs[xs.length - 1]? = some v) : atI xs (-1) = some v := by
  have e : ixN xs.length (-1) = some (xs.length - 1) := by
    unfold ixN
    rw [if_neg (by omega), if_pos (by omega)]
    congr 1
    omega
  unfold atI
  rw [e]
  exact h
end BV
namespace BV
open PySem L2
theorem dpAll_take {K : PySem.W.Frag} {H : Hp} : ∀ {ds : List PyData} {vs : List V} (j : Nat), DpAll K H vs ds → DpAll K H (vs.take j) (ds.take j)
  | [], _, j, h => by cases h; simpa using DpAll.nil
  | d :: ds, _, 0, h => .nil
  | d :: ds, _, j + 1, h => by
    cases h with
    | cons h1 h2 => exact .cons h1 (dpAll_take j h2)
theorem dpAll_drop {K : PySem.W.Frag} {H : Hp} : ∀ {ds : List PyData} {vs : List V} (j : Nat), DpAll K H vs ds → DpAll K H (vs.drop j) (ds.drop j)
  | [], _, j, h => by cases h; simpa using DpAll.nil
  | d :: ds, _, 0, h => h
  | d :: ds, _, j + 1, h => by
    cases h with
    | cons h1 h2 => exact dpAll_drop j h2
theorem sIx_nat (n d j : Nat) : HT.sIx n d (some (j : Int)) = min j n := by
  unfold HT.sIx
  show (if (j : Int) < 0 then _ else min (j : Int).toNat n) = _
  rw [if_neg (by omega), Int.toNat_natCast]
theorem cut_hi (xs : List V) (j : Nat) : cutV xs none (some (j : Int)) = xs.take j := by
  unfold cutV
  rw [sIx_nat]
  show List.take (min j xs.length - 0) (List.drop 0 xs) = _
  rw [Nat.sub_zero, List.drop_zero]
  by_cases h : j ≤ xs.length
  · rw [Nat.min_eq_left h]
  · rw [Nat.min_eq_right (by omega), List.take_of_length_le (Nat.le_refl _), List.take_of_length_le (by omega)]
theorem cut_lo (xs : List V) (j : Nat) : cutV xs (some (j : Int)) none = xs.drop j := by
  unfold cutV
  rw [sIx_nat]
  show List.take (xs.length - min j xs.length) (List.drop (min j xs.length) xs) = _
  by_cases h : j ≤ xs.length
  · rw [Nat.min_eq_left h]
    exact List.take_of_length_le (by rw [List.length_drop]; exact Nat.le_refl _)
  · rw [Nat.min_eq_right (by omega), List.drop_of_length_le (Nat.le_refl _), List.drop_of_length_le (by omega)]
    simp
theorem at_st {t : TS} {D : Ends} {σ : L2.St} {H : Hp} (σ' : L2.St) (e : σ = σ') (h : t D σ' H) : t D σ H := by
  subst e
  exact h
end BV
namespace BV
open PySem L2
theorem slA_by {K : PySem.W.Frag} {x : V} {lo hi : Option Int} {H : Hp} {Q : VK} {a : Addr} {xs : List V} (hx : x = .ref a) (h : SqT K H a xs)
    (k : ∀ (c : Addr) H', Same H H' → SqT K H' c (cutV xs lo hi) → Q (.ref c) H') : rSlA K x lo hi H Q := by
  refine ⟨a, xs, hx, h, fun z => k _ _ (Same.refl _) ?_, fun _ p hp => k _ _ (same_new hp) (SqT.of upd_same)⟩
  have e : cutV xs lo hi = xs := by
    unfold cutV
    rw [z.1, z.2, List.drop_zero, Nat.sub_zero, List.take_of_length_le (Nat.le_refl _)]
  rw [e]
  exact h
end BV

namespace BV
open PySem PySem.Spec PyProof.Rows L2
theorem cr_minT {X : Cx} (hc : X.calm = true) : CallR X (.builtin "min")
    (fun vs H Q => ∃ (a : Addr) (ns : List Int), vs = [V.ref a] ∧ SqT X.K H a (ns.map V.int) ∧ 0 < ns.length ∧ ∀ m, m ∈ ns → (∀ y ∈ ns, m ≤ y) → Q (.int m) H) := by
  intro pins s σ H vs us Q I r h
  obtain ⟨a, ns, rfl, hs, hpos, q⟩ := h
  obtain ⟨its, rv, hl, _⟩ := I.tuple hs
  rw [Vals.ref1 r]
  have hi := rv.ints
  obtain ⟨xs, e⟩ := hi.allInts.items
  have hn : numsOf (intItems xs).toList = ns := by rw [← e]; exact hi.numsOf
  rw [nums_intItems] at hn
  have hl2 : s.heap.IsTuple a its.toArray := hl
  rw [e] at hl2
  have hd := I.ok.hd hc
  have hsz : ns.length = xs.size := by rw [← hn]; simp
  have alt : a < s.heap.objs.size := by
    obtain ⟨o, h1, _⟩ := hl2
    exact Heap.lt_size h1
  have isz : (intItems xs).size = xs.size := by simp [intItems]
  refine call_min_walk (wpAny_pyIter_tuple hl2 ⟨_, _, _, _, _, _, _, rfl, Walks.tuple ?_ s.heap.objs.size a (Nat.ne_of_lt alt) (intItems xs), ⟨?_, ?_⟩, ?_, ?_, CmpOf.ints_lt (numAt xs) ?_, fun v h' tk hP hk => ?_⟩)
  · exact hd
  · exact ⟨_, Heap.get?_push_size _ rfl, rfl, rfl⟩
  · exact hl2.push _
  · intro b hb
    show b < (s.heap.objs.push _).size
    rw [Array.size_push]
    rcases List.mem_cons.mp hb with rfl | hb
    · exact Nat.lt_succ_self _
    · obtain rfl := List.mem_singleton.mp hb
      exact Nat.lt_succ_of_lt alt
  · rw [isz]
    omega
  · exact fun i v hv => intItems_at hv
  · rw [isz] at hP
    obtain ⟨t, rfl⟩ := intItems_at hP
    obtain ⟨b1, b2⟩ := argBest_lt (numAt xs) (xs.size - 1)
    refine ⟨.int _, H, I.kept fun b o hb => ?_, ⟨_, rfl⟩, ?_⟩
    · exact hk b o (fun z => by
        obtain rfl := List.mem_singleton.mp z
        exact Nat.lt_irrefl _ (Heap.lt_size hb)) (Heap.get?_push_of_some _ hb)
    · have nat : ∀ i, i < xs.size → numAt xs i ∈ ns ∧ True := fun i hi => by
        refine ⟨?_, trivial⟩
        rw [← hn]
        unfold numAt
        rw [Array.getElem?_eq_getElem hi]
        exact List.mem_map.mpr ⟨xs[i], by simp, rfl⟩
      refine q _ (nat _ (by omega)).1 fun y hy => ?_
      rw [← hn] at hy
      obtain ⟨p, hp, rfl⟩ := List.mem_map.mp hy
      obtain ⟨j, hj, rfl⟩ := List.mem_iff_getElem.mp hp
      have hj' : j < xs.size := by simpa using hj
      have := b2 j (by omega)
      have e2 : numAt xs j = (xs.toList[j]).1 := by
        unfold numAt
        rw [Array.getElem?_eq_getElem hj']
        simp
      rw [← e2]
      exact this
end BV
namespace BV
open PySem L2
section
variable {X : Cx} (K : PySem.W.Frag)
def rMinT (K : PySem.W.Frag) : List V → Hp → VK → Prop := fun vs H Q => ∃ (a : Addr) (ns : List Int), vs = [V.ref a] ∧ SqT K H a (ns.map V.int) ∧ 0 < ns.length ∧ ∀ m, m ∈ ns → (∀ y ∈ ns, m ≤ y) → Q (.int m) H
theorem minTK (hc : X.calm = true := by rfl) (h : X.K = K := by rfl) : CallR X (.builtin "min") (rMinT K) := by
  subst h
  exact cr_minT hc
theorem minLK (hc : X.calm = true := by rfl) (h : X.K = K := by rfl) : CallR X (.builtin "min") (rMin K) := by
  subst h
  exact cr_min hc
theorem anyLK (hc : X.calm = true := by rfl) (h : X.K = K := by rfl) : CallR X (.builtin "any") (rAny K) := by
  subst h
  exact cr_any hc
end
end BV

namespace BV
open PySem L2
/-! ### comprehensions that draw -/
theorem era_kp {b g D : Addr} {H H' : Hp} (s : Kp b g H H') : Kp b g (era H D) (era H' D) := fun a o e n1 n2 => by
  by_cases h : a = D
  · subst h
    rw [era_at] at e
    cases e
  · rw [era_ne h] at e ⊢
    exact s _ _ e n1 n2
theorem box_era {b g D : Addr} {H : Hp} (x : Box H b g) (h1 : D ≠ b) (h2 : D ≠ g) : Box (era H D) b g := by
  obtain ⟨⟨st, c, x1⟩, ns, x2, x3⟩ := x
  exact ⟨⟨st, c, by rw [era_ne h1.symm]; exact x1⟩, ns, by rw [era_ne h2.symm]; exact x2, x3⟩
theorem bx_set {b g l : Addr} {H : Hp} {o : HO} (x : Box H b g) (h1 : l ≠ b) (h2 : l ≠ g) : Box (upd H l o) b g := by
  obtain ⟨⟨st, c, x1⟩, ns, x2, x3⟩ := x
  exact ⟨⟨st, c, by rw [upd_ne h1.symm]; exact x1⟩, ns, by rw [upd_ne h2.symm]; exact x2, x3⟩
theorem bx_ne {b g l : Addr} {H : Hp} (x : Box H b g) (h : H l = none) : l ≠ b ∧ l ≠ g := by
  obtain ⟨⟨st, c, x1⟩, ns, x2, x3⟩ := x
  exact ⟨fun e => (by rw [e, x1] at h; cases h), fun e => (by rw [e, x2] at h; cases h)⟩
/-- as LcI, with the box of draws -/
def LcB (b g : Addr) (H1 : Hp) (D : Addr) (R : Nat → List V → Hp → Prop) (i : Nat) (H : Hp) : Prop :=
  ∃ acc, H D = some (.lst acc) ∧ Kp b g H1 (era H D) ∧ Box H b g ∧ R i acc (era H D)
theorem lc_addB {b g : Addr} {H1 H H4 : Hp} {D : Addr} {R : Nat → List V → Hp → Prop} {i : Nat} {acc : List V} {y : V} (nb : D ≠ b) (ng : D ≠ g) (ha : H D = some (.lst acc))
    (e : Kp b g H1 (era H D)) (s : Kp b g H H4) (x : Box H4 b g) (hl : acc.length < 100000) (r : R i (acc ++ [y]) (era H4 D)) :
    ∃ acc, H4 D = some (.lst acc) ∧ acc.length < sizeLine ∧ LcB b g H1 D R i (upd H4 D (.lst (acc ++ [y]))) := by
  refine ⟨acc, s _ _ ha nb ng, Nat.lt_of_lt_of_le hl (by decide), acc ++ [y], upd_same, ?_, bx_set x nb ng, ?_⟩
  · rw [era_upd]
    exact e.trans (era_kp s)
  · rw [era_upd]
    exact r
theorem lc_skipB {b g : Addr} {H1 H H3 : Hp} {D : Addr} {R : Nat → List V → Hp → Prop} {i : Nat} {acc : List V} (nb : D ≠ b) (ng : D ≠ g) (ha : H D = some (.lst acc))
    (e : Kp b g H1 (era H D)) (s : Kp b g H H3) (x : Box H3 b g) (r : R i acc (era H3 D)) : LcB b g H1 D R i H3 :=
  ⟨acc, s _ _ ha nb ng, e.trans (era_kp s), x, r⟩
theorem lc_runB {b g0 : Addr} {J : It} {n : Nat} {G : Hp → Prop} {Y : Nat → Hp → V → Hp → Prop} (w : Walk J n G Y) {g : TG} {tt : TT} {te : TE} {vs : List Nat}
    {σ : L2.St} {H1 : Hp} {D : Addr} {Qd : Hp → Prop} (hD : H1 D = none) (hB : Box H1 b g0) (R : Nat → List V → Hp → Prop)
    (hG : ∀ H, Kp b g0 H1 H → Box H b g0 → G H) (h0 : R 0 [] H1)
    (hs : ∀ i x acc H H', D ≠ b → D ≠ g0 → i < n → H D = some (.lst acc) → Kp b g0 H1 (era H D) → Kp b g0 H1 H → Box H b g0 → R i acc (era H D) → Y i H x H' →
      g x (wipe σ vs) H' fun σ2 H2 => wipe σ2 vs = wipe σ vs ∧ tt σ2 H2 fun t H3 =>
        if t = true then te σ2 H3 fun y H4 => ∃ acc, H4 D = some (.lst acc) ∧ acc.length < sizeLine ∧ LcB b g0 H1 D R (i + 1) (upd H4 D (.lst (acc ++ [y])))
        else LcB b g0 H1 D R (i + 1) H3)
    (hd : ∀ acc H, H D = some (.lst acc) → Kp b g0 H1 H → Box H b g0 → R n acc (era H D) → Qd H) :
    ∃ W : Nat → Nat → Hp → Prop, (∃ m, W 0 m (upd H1 D (.lst []))) ∧ ∀ i m H, W i m H →
      (J.stop i H ∧ Qd H) ∨ (J.go i H ∧ ∃ Nx : Hp → Prop, (∀ H', Nx H' → ∃ m', m' < m ∧ W (i + 1) m' H') ∧
        ∀ x H', J.yld i H x H' → g x (wipe σ vs) H' fun σ2 H2 => wipe σ2 vs = wipe σ vs ∧ tt σ2 H2 fun b H3 =>
        if b = true then te σ2 H3 fun y H4 => ∃ acc, H4 D = some (.lst acc) ∧ acc.length < sizeLine ∧ Nx (upd H4 D (.lst (acc ++ [y]))) else Nx H3) := by
  obtain ⟨nb, ng⟩ := bx_ne hB hD
  have back : ∀ {H : Hp}, Kp b g0 H1 (era H D) → Kp b g0 H1 H := fun e => e.trans (Kp.same era_back)
  refine lc_it w (LcB b g0 H1 D R) ?_ ?_ ?_ ?_
  · exact ⟨[], upd_same, by rw [era_upd, era_none hD]; exact Kp.refl _, bx_set hB nb ng, by rw [era_upd, era_none hD]; exact h0⟩
  · rintro i H _ ⟨acc, _, e, x, _⟩
    exact hG H (back e) x
  · rintro i x acc' H' hi ⟨acc, ha, e, bx, r⟩ y
    exact hs i x acc _ _ nb ng hi ha e (back e) bx r y
  · rintro H ⟨acc, ha, e, bx, r⟩
    exact hd acc H ha (back e) bx r
end BV

namespace BV
open PySem L2
/-! ### data, the empty dict among it -/
def Od (K : PySem.W.Frag) (H : Hp) (x : V) (d : PyData) : Prop := Dp K H x d ∨ (d = .dict [] ∧ ∃ a, x = .ref a ∧ H a = some (.dK []))
theorem Od.same {K : PySem.W.Frag} {H H' : Hp} {x : V} {d : PyData} (s : Same H H') (h : Od K H x d) : Od K H' x d := by
  rcases h with h | ⟨rfl, a, rfl, h⟩
  · exact .inl (dp_same s _ h)
  · exact .inr ⟨rfl, a, rfl, s _ _ h⟩
def tyN : PyData → String
  | .none => "NoneType"
  | .bool _ => "bool"
  | .int _ => "int"
  | .str _ => "str"
  | .list _ => "list"
  | .tuple _ => "tuple"
  | .dict _ => "dict"
theorem sq_list_ty {K : PySem.W.Frag} {H : Hp} {a : Addr} {xs : List V} (h : SqL K H a xs) : TyX K H (.ref a) (.type "list") := by
  rcases h with (h | ⟨o, h⟩) | h
  · exact .base (.lst h)
  · exact .base (.frz h)
  · obtain ⟨o, its, n, h1, h2, _⟩ := h
    exact .kList h1 h2
theorem sq_tup_ty {K : PySem.W.Frag} {H : Hp} {a : Addr} {xs : List V} (h : SqT K H a xs) : TyX K H (.ref a) (.type "tuple") := by
  rcases h with (h | ⟨o, h⟩) | h
  · exact .base (.tup h)
  · exact .fTuple h
  · obtain ⟨o, its, n, h1, h2, _⟩ := h
    exact .kTuple h1 h2
theorem ty_of {K : PySem.W.Frag} {H : Hp} {x : V} {d : PyData} (h : Od K H x d) : TyX K H x (.type (tyN d)) := by
  rcases h with h | ⟨rfl, a, rfl, h⟩
  · cases h with
    | non => exact .base .non
    | bl b => exact .base (.bl b)
    | int i => exact .base (.int i)
    | str s => exact .base (.str s)
    | lst h1 _ => exact sq_list_ty h1
    | tup h1 _ => exact sq_tup_ty h1
  · exact .base (.dK h)
def rIsiD (K : PySem.W.Frag) : List V → Hp → VK → Prop := fun xs H Q => ∃ (x : V) (d : PyData) (T : String) (b : Bool), xs = [x, .ty T] ∧ Od K H x d ∧ kitB (tyN d) T = some b ∧ Q (.bl b) H
theorem isiD {X : Cx} (K : PySem.W.Frag) (h : X.K = K := by rfl) : CallR X (.builtin "isinstance") (rIsiD K) := by
  subst h
  intro pins s σ H vs us Q I r h
  obtain ⟨x, d, T, b, rfl, hd, hk, q⟩ := h
  exact call_isi pins s σ H _ us Q I r ⟨x, _, _, _, b, rfl, .ty T, ty_of hd, kit_ty hk, q⟩
def isTup : PyData → Bool
  | .tuple _ => true
  | _ => false
def isInt : PyData → Bool
  | .int _ => true
  | _ => false
theorem kit_tup (d : PyData) : kitB (tyN d) "tuple" = some (isTup d) := by
  cases d <;> simp only [tyN, isTup] <;> decide +kernel
def isIntB : PyData → Bool
  | .int _ => true
  | .bool _ => true
  | _ => false
def isBool : PyData → Bool
  | .bool _ => true
  | _ => false
theorem kit_int (d : PyData) : kitB (tyN d) "int" = some (isIntB d) := by
  cases d <;> simp only [tyN, isIntB] <;> decide +kernel
theorem kit_bool (d : PyData) : kitB (tyN d) "bool" = some (isBool d) := by
  cases d <;> simp only [tyN, isBool] <;> decide +kernel
end BV

namespace BV
open PySem PySem.Spec PyProof.Rows L2
/-! ### an own error without arguments: raised, caught, looked at -/
section
variable {X : Cx} {C : Addr} {mr : List Value} {B n1 n2 : String}
theorem pmk_bare {x : Str} {p pos : Pos} (F : ExcBaseFacts B n1 n2 mr) (hq : PySem.W.excIn X.K C mr n1 = true) (hm : X.mg x = some (.ref C)) (hk : PySem.W.keepIn X.K (.ref C) = true) (hr : Raises X (.ref C)) (hg : Gl X x)
    (hdb : (x == ("__debug__" : Str)) = false := by decide) : PMk X (.Call (.Name x p) [] [] pos) (fun _ H Q => Q (.ref C) none H) := by
  intro pins ⟨hp, gn, dr, tk, os⟩ σ H Q J q0
  refine wpAny_Call_Name_kw (ld_glob J hg hm (PySem.W.callWith_K0 J.kIn hk ?_) hdb)
  have ⟨c1, c2, c3, c4, c5, c6, c7, c8, c9, d1, d2, d3, d4, d5, d6, d7, e1, e2, e3, e4, e5⟩ := exc_obj J.kIn hq
  exact wpAny_call_exc_subT F e5 e2 e3 e4 (fun _ _ made => mk_of J made hr q0 (J.hok.gone made.new)) (Nat.zero_le _)
end
/-- what is known of the class Unfit, under BothError -/
structure ErrU (K : PySem.W.Frag) (mg : Str → Option Value) (U B : Addr) : Prop where
  gU : mg "Unfit" = some (.ref U)
  gB : mg "BothError" = some (.ref B)
  gv : mg "ValueError" = none
  xU : PySem.W.excIn K U [.type "ValueError", .type "Exception", .type "BaseException", .type "object"] "ValueError.__new__" = true
  kU : PySem.W.keepIn K (.ref U) = true
  bU : PySem.W.subIn K (.ref U) (.type "BaseException") = some true
  tU : PySem.W.typeIn K (.ref U) = some (.type "type")
  te : PySem.W.exmOne K (.ref U) (.ref U) = some true
  ex : ExcC K U
  iv : PySem.W.kitOne K (.ref U) (.type "ValueError") = some true
  ib : PySem.W.kitOne K (.ref U) (.ref B) = some true
theorem ErrU.raises {X : Cx} {U B : Addr} (T : ErrU X.K X.mg U B) : Raises X (.ref U) := raises_own T.bU T.tU
theorem ps_unfit {X : Cx} {U B : Addr} {W : WX} {p pos pos2 : Pos} (hc : X.calm = true) (T : ErrU X.K X.mg U B) (tk : Takes X W) (hg : Gl X "Unfit" := by rfl) :
    PS X (.Raise (some (.Call (.Name "Unfit" p) [] [] pos)) none pos2) (fun _ σ H => W (.ref U) none σ H) :=
  ps_raise hc tk (pmk_bare PySem.F.excBase_ValueError T.xU T.gU T.kU T.raises hg)
/-- isinstance(e, c), e the error that the suite holds -/
def rIsX (K : PySem.W.Frag) (a : Addr) (cls : Value) (d : Option Addr) : List V → Hp → VK → Prop := fun xs H Q => ∃ U, ExcC K U ∧ cls = .ref U ∧ d = none ∧ rIsE K U a xs H Q
theorem isX {X : Cx} {a : Addr} {oe : Obj} {cls : Value} {d : Option Addr} {pn : List (Addr × Obj)} (hz : Zc cls d oe) (hf : ∃ vs, oe.data = .fields vs) : CallR (X.suite a ((a, oe) :: pn)) (.builtin "isinstance") (rIsX X.K a cls d) := by
  intro pins s σ H xs us Q J r h
  obtain ⟨U, hC, e1, e2, h⟩ := h
  subst e1 e2
  exact call_isE hC hz hf pins s σ H xs us Q J r h
section
variable {X : Cx} {CX : CXT} {k n : Nat} {f : Addr} {fd : FuncData} {ps ks : List Str} {sp : Sp} {dvs : List V} {ds : List Value}
  {E : L2.St → XK} {x : Str} {p pos : Pos} {tk : TA} {kws : List Keyword} {g : List Value → List Value → List Value} {gV : List V → List V → List V}
def tCallKS (m : Nat) (sp : Sp) (gV : List V → List V → List V) (E : L2.St → XK) (tk : TA) : TE := fun σ H Q => tk σ H fun zs H2 => zs.length = m ∧ sp (gV [] zs) H2 Q (E σ)
/-- f(k = v, ..), where what f raises is wished for at the slots -/
theorem pe_callKS (F : FnOk X.prog X.w X.K X.mg X.base CX k f fd ps sp) (hr : Room k X.A) (hg : Gl X x) (hm : X.mg x = some (.ref f)) (hk : PySem.W.keepIn X.K (.ref f) = true)
    (hb : KBn X.K fd ps 0 ks g gV) (hx : ∀ σ, PassesAt CX X σ (E σ)) (hkw : PK X kws tk)
    (hall : (backToKw pos (keywordEach kws X.env)).all (·.1.isSome) = true := by rfl) (hks : (backToKw pos (keywordEach kws X.env)).filterMap (·.1) = ks := by rfl)
    (hdb : (x == ("__debug__" : Str)) = false := by decide)
    (hpl : ((backTo pos (starEach [] X.env)).any (·.1) || (backToKw pos (keywordEach kws X.env)).any (·.1.isNone)) = false := by rfl) :
    PE X (.Call (.Name x p) [] kws pos) (tCallKS ks.length sp gV E tk) := by
  constructor
  intro pins s σ H Q J h
  refine wpAny_Call_Name_kw (ld_glob J hg hm ?_ hdb)
  refine PySem.W.callWith_KW0 (h₀ := X.base) J.ok.mod.kin hk hall (thn (hkw.run pos pins s σ H _ J h) fun ws s2 hh => ?_) hpl
  obtain ⟨zs, H2, J2, rz, l2, q2⟩ := hh
  refine ⟨J2.kIn, ?_⟩
  rw [hks]
  refine wpAny_call (codeAny_mono (F.run X.A X.stack s2 H2 ⟨[], ks.zip ws⟩ _ _ Q (E σ) hr J2.env0 (hb.to s2 [] ws J2.kIn rfl (by rw [← rz.length]; exact l2)) (hb.rel .nil rz) q2) fun r s' hq => ?_)
  cases r with
  | error e => exact hx σ pins H2 s2 e s' J2 hq
  | ok fl =>
    cases fl with
    | ret u => exact J2.after hq
    | next => exact hq.elim
    | brk => exact hq.elim
    | cont => exact hq.elim
end
end BV

namespace BV
open PySem L2
section
variable {X : Cx} (K : PySem.W.Frag)
theorem catA (h : X.K = K := by rfl) : OpR X (binaryOp .Add) (rCatA K) := by
  subst h
  exact op_catA
end
theorem catA_by {K : PySem.W.Frag} {x y : V} {H : Hp} {Q : VK} {a b : Addr} {xs ys : List V} (hx : x = .ref a) (hy : y = .ref b) (h1 : SqT K H a xs) (h2 : SqT K H b ys) (hl : xs.length + ys.length ≤ 100000)
    (k : ∀ (c : Addr) H', Same H H' → SqT K H' c (xs ++ ys) → Q (.ref c) H') : rCatA K x y H Q := by
  refine ⟨a, b, xs, ys, hx, hy, h1, h2, Nat.le_trans hl (by decide), fun e => ?_, fun _ e => ?_, fun _ _ p hp => ?_⟩
  · subst e
    exact k _ _ (Same.refl _) h2
  · subst e
    exact k _ _ (Same.refl _) (by rw [List.append_nil]; exact h1)
  · exact k _ _ (same_new hp) (SqT.of upd_same)
theorem sqL_same {K : PySem.W.Frag} {H H' : Hp} {a : Addr} {xs : List V} (s : Same H H') (h : SqL K H a xs) : SqL K H' a xs := by
  rcases h with (h | ⟨o, h⟩) | h
  · exact .inl (.inl (s _ _ h))
  · exact .inl (.inr ⟨o, s _ _ h⟩)
  · exact .inr h
/-- [1 for z in zs if z < 0], walked to the place i -/
def Ones (zs : List Int) (i : Nat) (acc : List V) : Prop := ∃ m : Nat, acc = (List.replicate m (1 : Int)).map V.int ∧ m ≤ i ∧ (m = 0 ↔ ∀ z ∈ zs.take i, 0 ≤ z)
theorem Ones.yes {zs : List Int} {i : Nat} {acc : List V} {z : Int} (h : Ones zs i acc) (hz : zs[i]? = some z) (hn : z < 0) : Ones zs (i + 1) (acc ++ [.int 1]) := by
  obtain ⟨m, rfl, h1, _⟩ := h
  refine ⟨m + 1, ?_, by omega, ?_⟩
  · rw [List.replicate_succ', List.map_append]
    rfl
  · constructor
    · intro e
      omega
    · intro e
      have := e z (by rw [List.take_add_one, hz]; simp)
      omega
theorem Ones.no {zs : List Int} {i : Nat} {acc : List V} {z : Int} (h : Ones zs i acc) (hz : zs[i]? = some z) (hn : ¬ z < 0) : Ones zs (i + 1) acc := by
  obtain ⟨m, rfl, h1, h2⟩ := h
  refine ⟨m, rfl, by omega, ?_⟩
  rw [h2, List.take_add_one, hz]
  constructor
  · intro e x hx
    rcases List.mem_append.mp hx with q | q
    · exact e x q
    · have : x = z := by simpa using q
      omega
  · intro e x hx
    exact e x (List.mem_append_left _ hx)
theorem ones_eqv (m : Nat) : (PyData.list ((List.replicate m (1 : Int)).map PyData.int)).eqv (.list []) = decide (m = 0) := by
  cases m with
  | zero => rfl
  | succ m => rfl
end BV

namespace BV
open PySem PySem.Spec PyProof.Rows L2
/-! ### (v,) * k for any k from 0 on -/
theorem mul_none (l : Addr) (items : Array Value) (n : Nat) (dd : Option Addr) (sl : Array (Option Value)) (u : Tok) (hi : items.isEmpty = false) :
    Meets (Builtin.«tuple.__mul__» ⟨[.ref l, .int 0 u], []⟩) (fun _ R s => s.heap.get? l = some { cls := .type "tuple", dict := dd, data := .seq items n, slots := sl } ∧
      R (.ok (.ret (Value.ref s.heap.objs.size))) { s with heap := s.heap.push { cls := Value.type "tuple", data := Data.seq #[] }, toks := s.toks }) := by
  refine .of_wp fun prog w A R s h => ?_
  obtain ⟨hp, g, d, tk, os⟩ := s
  obtain ⟨hl, h⟩ := h
  have f1 := AutoSeq1.idx_int
  have c0 : (decide ((0 : Int) < -(2 ^ 63)) || decide ((0 : Int) ≥ 2 ^ 63)) = false := by decide
  have c1 : (items.isEmpty || (0 : Int) == 1) = false := by rw [hi]; rfl
  have c2 : (decide ((0 : Int) ≤ 0) || items.isEmpty) = true := by simp
  wp_walk using AutoSeq1.wpAny_loadPart' hl
  repeat (first
    | (refine wpAny_ite_false (decide_eq_false (by rw [c0]; exact Bool.false_ne_true)) ?_; wp_walk using AutoSeq1.wpAny_loadPart' hl)
    | (refine wpAny_ite_false (decide_eq_false (by rw [c1]; exact Bool.false_ne_true)) ?_; wp_walk using AutoSeq1.wpAny_loadPart' hl)
    | (refine wpAny_ite_true (decide_eq_true c2) ?_; wp_walk using AutoSeq1.wpAny_loadPart' hl))
  exact ⟨_, rfl, h⟩
def rRepN (K : PySem.W.Frag) : R2 := fun x y H Q => ∃ (l : Addr) (k : Nat) (v : V), x = .ref l ∧ y = .int (k : Int) ∧ SqT K H l [v] ∧ k ≤ 1000 ∧ ∀ (p : Addr) H', Same H H' → SqT K H' p (List.replicate k v) → Q (.ref p) H'
theorem flat_rep (k : Nat) (v : V) : (List.replicate k [v]).flatten = List.replicate k v := by
  induction k with
  | zero => rfl
  | succ k ih => rw [List.replicate_succ, List.flatten_cons, ih, List.replicate_succ]; rfl
theorem op_repN {X : Cx} (K : PySem.W.Frag) (hK : X.K = K := by rfl) : OpR X (binaryOp .Mult) (rRepN K) := by
  subst hK
  intro pins s σ H x y v u Q I rx ry h
  obtain ⟨l, k, w0, rfl, rfl, hT, hk, q⟩ := h
  by_cases h0 : k = 0
  · subst h0
    cases rx
    obtain ⟨t, rfl⟩ := ry
    obtain ⟨its, r, ⟨⟨cls, dd, data, sl⟩, ho, hc, n, hd⟩, hs⟩ := I.tuple hT
    simp only at hc hd
    subst hc hd
    have hi : its.toArray.isEmpty = false := by
      have := r.length
      cases its with
      | nil => simp at this
      | cons a b => rfl
    refine wpAny_binaryOp_repeat_ref (T := "tuple") (U := "int") (by decide) ⟨_, ho, rfl⟩ (fun s' => typeIs_int s' _ t) noFill_tuple_mul F.fills_int_mul F.slot_int_rmul repeat_tuple F.slot_int_index.lookup ?_
    refine call_meets F.slot_int_rmul (typeIs_int s _ t) F.entry_int_rmul (F.args_int_rmul_2 _ _) (int_rmul_tuple _ t l its.toArray n dd sl) ⟨ho, rfl, ⟨_, ho, rfl⟩, ?_⟩
    refine call_meets F.slot_tuple_mul ⟨_, ho, rfl⟩ F.entry_tuple_mul (F.args_tuple_mul_2 _ _) (mul_none l its.toArray n dd sl t hi) ⟨ho, ?_⟩
    have fr := I.hok.fresh (Nat.le_refl s.heap.objs.size)
    refine ⟨.ref s.heap.objs.size, _, I.laid (t' := s.toks) (o := .tup []) (fun b ob z => Heap.get?_push_of_some _ z) (Nat.le_refl _) ⟨Nat.zero_le _, [], .nil, IsTup.new _ _⟩, rfl, q _ _ (same_new fr) (SqT.of upd_same)⟩
  · refine op_repT1 X.K rfl pins s σ H (.ref l) (.int k) v u Q I rx ry ⟨l, k, [w0], rfl, rfl, hT, by simp, by omega, by omega, by simp, fun e => ?_, fun _ p hp => ?_⟩
    · have : k = 1 := by omega
      subst this
      exact q _ _ (Same.refl _) hT
    · refine q _ _ (same_new hp) (SqT.of ?_)
      rw [upd_same, Int.toNat_natCast, flat_rep]
end BV

namespace BV
open PySem L2
local macro_rules | `(tactic| walk_at "rd") => `(tactic| (repeat (first | refine ⟨_, rfl, ?_⟩ | refine ⟨_, _, rfl, rfl, ?_⟩ | refine Or.inl ⟨_, rfl, ?_⟩ | refine Or.inr ⟨_, rfl, ?_⟩ | refine ⟨_, _, rfl, ?_⟩)))
def top (i : Nat) : Stmt := PySem.Challenge.pw_botheven_k13_whole_first_all_that_add.main.body.getD i (.Pass ⟨0, 0, 0, 0⟩)
abbrev sBox : Stmt := top 12
abbrev nBox : List Str := ["_law_script", "_law_marks", "_law_stirred", "_law_mark", "_law_cell"]
theorem scBox : FnScope nBox ["_law_script"] (defScope sBox) := ⟨rfl, rfl, rfl, by decide +kernel, rfl, by decide +kernel, by decide +kernel⟩
section
variable {P : Program} {w : World} {K : PySem.W.Frag} {mg : Str → Option Value} {base : Heap}
theorem ok_box {f : Addr} {fd : FuncData} (D : Df K mg "_law_box" sBox ["_law_script"] f fd) (T : Bl mg) : FnOk P w K mg base CX0 1 f fd ["_law_script"] (spBox K) := by
  refine D.fn.ok scBox (fun vs H Q E h => ?_) (fun cdv A outer s H vs Q E hr h => ?_)
  · obtain ⟨a, ns, rfl, _⟩ := h
    rfl
  · obtain ⟨a, ns, rfl, hS, hlen, k⟩ := h
    have hu := hu_of hr
    have nd := scBox.nd
    refine ⟨_, (pss_cons (ps_par (i := 1) (j := 2) (by rfl) nd rfl rfl (by decide) rfl rfl (pa_cons (pe_lc (own := [("_law_cell", 4)]) (g := gName 4) (tt := tYes) rfl nd (pi_list (pe_slice sl_list (pv 0) po_none (po_some pe_int))) (blkOk_by (own := [("_law_cell", 4)]) (N := nBox) (sc := defScope sBox) (by decide +kernel)) (fun _ _ _ _ _ => (pg_name (i := 4) nd rfl (by first | exact Or.inl rfl | exact Or.inr rfl))) (fun _ _ _ _ _ => pts_nil) (fun _ _ _ _ _ => (pe_op op_add (pe_op op_mul pe_int (pe_callB call_abs (by rfl) T.abs (by decide +kernel) (pa_cons (pv 4) pa_nil))) (pe_callTy call_int1 (by rfl) T.int (by decide +kernel) (pa_cons (pe_cmpR op_lt (pv 4) pe_int (nomark _)) pa_nil))))) (pa_cons (pe_op op_add pe_int (pe_callB call_len_seq (by rfl) T.len PySem.boot_len (pa_cons (pv 0) pa_nil))) pa_nil)) (by rfl))
      (pss_cons (ps_for PassesOwn.never rfl (pi_list (pv 1)) (pg_name (i := 3) nd rfl (by first | exact Or.inl rfl | exact Or.inr rfl)) (pss_one (ps_set (i := 2) nd rfl (by first | exact Or.inl rfl | exact Or.inr rfl) (pe_op op_mod (pe_callTy call_int1 (by rfl) T.int (by decide +kernel) (pa_cons (pe_op op_add (pe_op op_mul (pv 2) pe_int) (pv 3)) pa_nil)) pe_int))))
      (pss_one (ps_ret (pe_disp (pps_cons pe_str (pe_lc (own := [("_law_mark", 3)]) (g := gName 3) rfl nd (pi_list (pv 1)) (blkOk_by (own := [("_law_mark", 3)]) (N := nBox) (sc := defScope sBox) (by decide +kernel)) (fun _ _ _ _ _ => (pg_name (i := 3) nd rfl (by first | exact Or.inl rfl | exact Or.inr rfl))) (fun _ _ _ _ _ => (pts_one (pt_cmpR op_gt (pv 3) (pe_op op_pow pe_int pe_int) (nomark _)))) (fun _ _ _ _ _ => (pv 3))) (pps_cons pe_str (pv 2) (pps_cons pe_str pe_int pps_nil))) (by rfl) (by rfl) (fun z => by cases z) (by decide)))))), ?_⟩
    -- the comprehension over script[:63]
    refine ⟨_, rfl, 63, rfl, a, _, rfl, hS, fun p hp => ?_⟩
    refine ⟨p, rfl, ⟨_, SqL.of upd_same⟩, fun D hD => ?_⟩
    have s1 : Same H (upd H p (.lst (cutV (ns.map V.int) none (some 63)))) := same_new hp
    refine lc_run (walk_list (xs := cutV (ns.map V.int) none (some 63))) hD (fun i acc _ => acc.length = i ∧ ∃ ms : List Int, acc = ms.map V.int) ?_ ?_ ?_ ?_
    · exact fun H' s => SqL.of (s _ _ upd_same)
    · exact ⟨rfl, [], rfl⟩
    · rintro i x acc H2 H' hi ha e s ⟨hl, ms, rfl⟩ ⟨rfl, hx⟩
      obtain ⟨z, rfl⟩ : ∃ z : Int, x = .int z := by
        have h1 : x ∈ cutV (ns.map V.int) none (some 63) := List.mem_of_getElem? hx
        have h2 : x ∈ ns.map V.int := List.mem_of_mem_drop (List.mem_of_mem_take h1)
        obtain ⟨z, _, e⟩ := List.mem_map.mp h2
        exact ⟨z, e.symm⟩
      refine ⟨rfl, yes_go ?_⟩
      walk_at "rd"
      refine ⟨.inl ⟨by decide, by decide⟩, ?_⟩
      walk_at "rd"
      have hms : ms.length = i := by rw [← hl, List.length_map]
      have hb : cutV (ns.map V.int) none (some 63) = ns.map V.int := by
        rw [show cutV (ns.map V.int) none (some 63) = ((ns.map V.int).drop 0).take (min 63 (ns.map V.int).length - 0) from rfl, List.drop_zero, List.take_of_length_le]
        rw [List.length_map]
        omega
      have hi2 : i < 63 := by
        rw [hb, List.length_map] at hi
        omega
      refine lc_add ha e (Same.refl _) (by rw [hl]; omega) ⟨by rw [List.length_append, hl]; rfl, ms ++ [_], by rw [List.map_append]; rfl⟩
    · rintro acc H2 hD2 s2 ⟨hl, ms, rfl⟩
      have hS2 : SqL K H2 a (ns.map V.int) := Same.seq (Same.trans s1 s2) hS
      have hml : ms.length ≤ 63 := by
        have h0 := cutV_length (ns.map V.int) none (some 63)
        rw [List.length_map] at h0 hl
        omega
      walk_at "rd"
      refine ⟨_, _, rfl, .inl hS2, ?_⟩
      walk_at "rd"
      -- the stirring
      refine ⟨⟨_, SqL.of hD2⟩, for_it (walk_list (xs := ms.map V.int)) (fun i σ H' => ∃ (st : Int) (v : Option V),
        σ = [some (.ref a), some (.ref D), some (.int st), v, none] ∧ H' = H2 ∧ 0 ≤ st ∧ st < 2 ^ 33) ?_ ?_ ?_ ?_⟩
      · refine ⟨40961 + ((ns.map V.int).length : Int), none, rfl, rfl, by omega, ?_⟩
        rw [List.length_map]
        omega
      · rintro i σ H' _ ⟨st, v, rfl, rfl, _⟩
        exact SqL.of hD2
      · rintro i x σ H' H'' hi ⟨st, v, rfl, rfl, h0, h1⟩ ⟨rfl, hx⟩
        obtain ⟨z, hz, rfl⟩ := ints_at hx
        walk_at "rd"
        refine ⟨.inl ⟨by omega, by omega⟩, ?_⟩
        walk_at "rd"
        refine ⟨by show (0 : Int) < 4294967291; decide, ?_⟩
        refine ⟨_, some _, rfl, rfl, Int.emod_nonneg _ (by decide), Int.lt_of_lt_of_le (Int.emod_lt_of_pos _ (by decide)) (by decide)⟩
      · rintro σ H' ⟨st, v, rfl, rfl, h0, h1⟩
        intro b hb
        -- the great ones
        have nDb : D ≠ b := ne_of_none hD2 hb
        have hDb : upd H' b (.dK []) D = some (.lst (ms.map V.int)) := by rw [upd_ne nDb]; exact hD2
        have sb : Same H' (upd H' b (.dK [])) := same_new hb
        refine ⟨_, rfl, D, rfl, ⟨_, SqL.of hDb⟩, fun g hg => ?_⟩
        refine lc_run (walk_list (xs := ms.map V.int)) hg (fun i acc _ => acc.length ≤ i ∧ ∃ ms : List Int, acc = ms.map V.int) ?_ ?_ ?_ ?_
        · exact fun H3 s => SqL.of (s _ _ hDb)
        · exact ⟨Nat.le_refl _, [], rfl⟩
        · rintro i x acc H3 H4 hi ha e s3 ⟨hl, ms2, rfl⟩ ⟨rfl, hx⟩
          obtain ⟨z, hz, rfl⟩ := ints_at hx
          rw [List.length_map] at hi
          refine ⟨rfl, ?_⟩
          walk_at "rd"
          refine ⟨⟨by decide, by decide, by decide⟩, ?_⟩
          walk_at "rd"
          refine ite2 (fun _ => ?_) (fun _ => ?_)
          · walk_at "rd"
            refine lc_add ha e (Same.refl _) (by omega) ⟨?_, ms2 ++ [z], by rw [List.map_append]; rfl⟩
            rw [List.length_append]
            exact Nat.succ_le_succ hl
          · exact lc_skip ha e (Same.refl _) ⟨Nat.le_succ_of_le hl, ms2, rfl⟩
        · rintro acc H3 hg3 s3 ⟨hl, ms2, rfl⟩
          rw [List.length_map, List.length_map] at hl
          have hb3 : H3 b = some (.dK []) := s3 _ _ upd_same
          walk_at "rd"
          refine ⟨hb3, boxD g st 0, rfl, by show 3 ≤ 15; decide, ?_⟩
          have hbg : b ≠ g := ne_of_none upd_same hg
          have hg0 : H' g = none := Same.free sb hg
          have s4 : Same H H' := Same.trans s1 s2
          have s5 : Same H H3 := Same.trans s4 (Same.trans sb s3)
          have hb0 : H b = none := Same.free s4 hb
          refine k b g _ hb0 (Same.free s4 hg0) (fun c o q => ?_) ⟨⟨st, 0, ?_⟩, ms2, ?_, by omega⟩
          · rw [upd_ne (ne_of_none q hb0)]
            exact s5 _ _ q
          · rw [upd_same]
            rfl
          · rw [upd_ne hbg.symm]
            exact hg3
end
end BV

namespace BV
open PySem L2
local macro_rules | `(tactic| walk_at "rd") => `(tactic| (repeat (first | refine ⟨_, rfl, ?_⟩ | refine ⟨_, _, rfl, rfl, ?_⟩ | refine Or.inl ⟨_, rfl, ?_⟩ | refine Or.inr ⟨_, rfl, ?_⟩ | refine ⟨_, _, rfl, ?_⟩)))
abbrev sDraw : Stmt := top 13
abbrev nDraw : List Str := ["_law_box_here", "_law_many", "_law_great", "_law_count", "_law_found", "_law_mark"]
theorem scDraw : FnScope nDraw ["_law_box_here", "_law_many"] (defScope sDraw) := ⟨rfl, rfl, rfl, by decide +kernel, rfl, by decide +kernel, by decide +kernel⟩
section
variable {P : Program} {w : World} {K : PySem.W.Frag} {mg : Str → Option Value} {base : Heap}
theorem ok_draw {f : Addr} {fd : FuncData} (D : Df K mg "_law_draw" sDraw ["_law_box_here", "_law_many"] f fd) (T : Bl mg) :
    FnOk P w K mg base CX0 1 f fd ["_law_box_here", "_law_many"] spDraw := by
  refine D.fn.ok scDraw (fun vs H Q E h => ?_) (fun cdv A outer s H vs Q E hr h => ?_)
  · obtain ⟨b, g, m, rfl, _⟩ := h
    rfl
  · obtain ⟨b, g, m, rfl, hm0, hm1, hB, k⟩ := h
    have hu := hu_of hr
    have nd := scDraw.nd
    have hbg := hB.ne
    obtain ⟨⟨st, c, hb⟩, ns, hg, hns⟩ := hB
    refine ⟨_, (pss_cons (ps_set (i := 2) nd rfl (by first | exact Or.inl rfl | exact Or.inr rfl) (pe_dget hu (pv 0) pe_str (fun _ _ => rfl)))
      (pss_cons (ps_if (pt_cmpR (op_neD hr.units) (pv 2) (pe_lst pa_nil) (nomark _)) (pss_cons (ps_set (i := 5) nd rfl (by first | exact Or.inl rfl | exact Or.inr rfl) (pe_ix ix_list (pv 2) pe_int (fun _ _ => rfl)))
      (pss_cons (ps_asg (pe_op op_fdivW (pv 5) (pv 1)) (pg_sub (pv 2) pe_int set_list))
      (pss_cons (ps_if (pt_cmpR op_lt (pv 5) (pv 1) (nomark _)) (pss_one (ps_expr (pe_bm PySem.F.plainAttrs_list PySem.F.slot_list_pop PySem.F.type_list_pop mt_popAt (pv 2) (pa_cons pe_int pa_nil)))) pss_nil)
      (pss_one (ps_ret (pe_op op_mod (pe_callTy call_int1 (by rfl) T.int (by decide +kernel) (pa_cons (pv 5) pa_nil)) (pv 1))))))) pss_nil)
      (pss_cons (ps_set (i := 3) nd rfl (by first | exact Or.inl rfl | exact Or.inr rfl) (pe_op op_add (pe_dget hu (pv 0) pe_str (fun _ _ => rfl)) pe_int))
      (pss_cons (ps_dput hu (pv 0) pe_str (pv 3) rfl)
      (pss_cons (ps_set (i := 4) nd rfl (by first | exact Or.inl rfl | exact Or.inr rfl) (pe_op op_mod (pe_callTy call_int1 (by rfl) T.int (by decide +kernel) (pa_cons (pe_op op_add (pe_dget hu (pv 0) pe_str (fun _ _ => rfl)) (pe_op op_mul pe_int (pv 3))) pa_nil)) pe_int))
      (pss_cons (ps_set (i := 4) nd rfl (by first | exact Or.inl rfl | exact Or.inr rfl) (pe_op op_mod (pe_callTy call_int1 (by rfl) T.int (by decide +kernel) (pa_cons (pe_op op_add (pe_op op_add (pe_op op_mul (pv 4) (pv 4)) (pe_op op_mul pe_int (pv 3))) pe_int) pa_nil)) pe_int))
      (pss_cons (ps_set (i := 4) nd rfl (by first | exact Or.inl rfl | exact Or.inr rfl) (pe_op op_mod (pe_callTy call_int1 (by rfl) T.int (by decide +kernel) (pa_cons (pe_op op_add (pe_op op_mul (pv 4) (pv 4)) (pe_dget hu (pv 0) pe_str (fun _ _ => rfl))) pa_nil)) pe_int))
      (pss_one (ps_ret (pe_op op_mod (pe_callTy call_int1 (by rfl) T.int (by decide +kernel) (pa_cons (pe_op op_fdivW (pv 4) pe_int) pa_nil)) (pv 1))))))))))), ?_⟩
    refine ⟨_, rfl, b, _, rfl, get_great hb, ?_⟩
    refine ⟨_, rfl, Nat.zero_le _, fun p hp => ?_⟩
    have s1 : Same H (upd H p (.lst [])) := same_new hp
    have hb1 := s1 _ _ hb
    have hg1 := s1 _ _ hg
    have nbp : b ≠ p := ne_of_none hb hp
    have ngp : g ≠ p := ne_of_none hg hp
    refine ⟨.list (ns.map .int), .list [], .lst (SqL.of hg1) (dpAll_ints ns), .lst (SqL.of upd_same) .nil, shaped_intsL ns, shaped_intsL [], _, rfl, ?_⟩
    have kk : Kp b g H (upd H p (.lst [])) := Kp.same s1
    cases ns with
    | nil =>
      refine ite2 (fun z => absurd z (by decide)) (fun _ => ?_)
      refine ⟨_, rfl, b, _, rfl, get_count hb1, ?_⟩
      walk_at "rd"
      refine ⟨b, _, rfl, put_count hb1, ?_⟩
      have hb2 : upd (upd H p (.lst [])) b (.dK (boxD g st (c + 1))) b = some (.dK (boxD g st (c + 1))) := upd_same
      have gs : ∀ x : Int, 0 ≤ x % 4294967291 ∧ x % 4294967291 < 4294967291 := fun x => ⟨Int.emod_nonneg _ (by decide), Int.emod_lt_of_pos _ (by decide)⟩
      have gt : ∀ x : Int, 0 ≤ x % 4294967279 ∧ x % 4294967279 < 4294967279 := fun x => ⟨Int.emod_nonneg _ (by decide), Int.emod_lt_of_pos _ (by decide)⟩
      refine ⟨_, rfl, b, _, rfl, get_stirred hb2, ?_⟩
      walk_at "rd"
      refine ⟨.inl ⟨by decide, by decide⟩, ?_⟩
      walk_at "rd"
      refine ⟨by show (0 : Int) < 4294967291; decide, ?_⟩
      have g1 := gs (st + 2654435761 * (c + 1))
      walk_at "rd"
      refine ⟨.inl ⟨by omega, by omega⟩, ?_⟩
      walk_at "rd"
      refine ⟨.inl ⟨by decide, by decide⟩, ?_⟩
      walk_at "rd"
      refine ⟨by show (0 : Int) < 4294967279; decide, ?_⟩
      generalize (st + 2654435761 * (c + 1)) % 4294967291 = x1 at g1
      have g2 := gt (x1 * x1 + 40503 * (c + 1) + 7)
      generalize (x1 * x1 + 40503 * (c + 1) + 7) % 4294967279 = x2 at g2
      walk_at "rd"
      refine ⟨.inl ⟨by omega, by omega⟩, ?_⟩
      refine ⟨_, rfl, b, _, rfl, get_stirred hb2, ?_⟩
      walk_at "rd"
      refine ⟨by show (0 : Int) < 4294967231; decide, ?_⟩
      walk_at "rd"
      refine ⟨⟨by decide, by decide⟩, ?_⟩
      walk_at "rd"
      refine ⟨hm0, ?_⟩
      refine k _ _ (Int.emod_nonneg _ (by omega)) (Int.emod_lt_of_pos _ hm0) (Kp.trans kk Kp.setb) ⟨⟨st, c + 1, hb2⟩, [], ?_, by decide⟩
      rw [upd_ne hbg.symm]
      exact hg1
    | cons z rest =>
      refine ite2 (fun _ => ?_) (fun q => absurd (by rfl) q)
      refine ⟨_, rfl, g, _, 0, _, rfl, rfl, SqL.of hg1, atI_nat (j := 0) rfl, ?_⟩
      walk_at "rd"
      refine ⟨⟨hm0, ?_⟩, ?_⟩
      · have h30 : m.natAbs < 2 ^ 30 := by omega
        exact Nat.lt_of_lt_of_le (PySem.Flt.log2_lt_of (by decide) h30) (by decide)
      refine ⟨_, rfl, g, _, 0, 0, rfl, rfl, hg1, ix_nat (j := 0) (Nat.zero_lt_succ _), ?_⟩
      have hg2 : upd (upd H p (.lst [])) g (.lst (((z :: rest).map V.int).set 0 (.int (z / m)))) g = some (.lst (((z / m) :: rest).map V.int)) := upd_same
      have hb2 : upd (upd H p (.lst [])) g (.lst (((z :: rest).map V.int).set 0 (.int (z / m)))) b = some (.dK (boxD g st c)) := by
        rw [upd_ne hbg]
        exact hb1
      have k2 : Kp b g H (upd (upd H p (.lst [])) g (.lst (((z :: rest).map V.int).set 0 (.int (z / m))))) := Kp.trans kk Kp.setg
      walk_at "rd"
      refine ite2 (fun _ => ?_) (fun _ => ?_)
      · refine ⟨_, rfl, .inl ⟨rfl, _, SqL.of hg2⟩, ?_⟩
        refine ⟨g, _, 0, 0, _, rfl, rfl, hg2, by decide, by decide, seq_nat (j := 0) (Nat.zero_lt_succ _), rfl, ?_⟩
        walk_at "rd"
        refine ⟨hm0, ?_⟩
        refine k _ _ (Int.emod_nonneg _ (by omega)) (Int.emod_lt_of_pos _ hm0) (Kp.trans k2 Kp.setg) ⟨⟨st, c, ?_⟩, rest, ?_, ?_⟩
        · rw [upd_ne hbg]
          exact hb2
        · exact upd_same
        · exact Nat.le_of_succ_le hns
      · walk_at "rd"
        refine ⟨hm0, ?_⟩
        exact k _ _ (Int.emod_nonneg _ (by omega)) (Int.emod_lt_of_pos _ hm0) k2 ⟨⟨st, c, hb2⟩, _, hg2, hns⟩
end
end BV

namespace BV
open PySem L2
local macro_rules | `(tactic| walk_at "rd") => `(tactic| (repeat (first | refine ⟨_, rfl, ?_⟩ | refine ⟨_, _, rfl, rfl, ?_⟩ | refine Or.inl ⟨_, rfl, ?_⟩ | refine Or.inr ⟨_, rfl, ?_⟩ | refine ⟨_, _, rfl, ?_⟩)))
abbrev sPick : Stmt := top 14
abbrev nPick : List Str := ["_law_box_here", "_law_items"]
theorem scPick : FnScope nPick nPick (defScope sPick) := ⟨rfl, rfl, rfl, by decide +kernel, rfl, by decide +kernel, by decide +kernel⟩
section
variable {P : Program} {w : World} {K : PySem.W.Frag} {mg : Str → Option Value} {base : Heap}
theorem ok_pick {f fd1 : Addr} {fd fdd : FuncData} (D : Df K mg "_law_pick" sPick nPick f fd) (T : Bl mg)
    (D_draw : Df K mg "_law_draw" sDraw ["_law_box_here", "_law_many"] fd1 fdd) :
    FnOk P w K mg base CX0 2 f fd nPick (spPick K) := by
  have G_draw : FnOk P w K mg base CX0 1 fd1 fdd ["_law_box_here", "_law_many"] spDraw := ok_draw D_draw T
  refine D.fn.ok scPick (fun vs H Q E h => ?_) (fun cdv A outer s H vs Q E hr h => ?_)
  · obtain ⟨b, g, l, xs, rfl, _⟩ := h
    rfl
  · obtain ⟨b, g, l, xs, rfl, hl, n1, n2, h0, h1, hB, k⟩ := h
    have hr_draw : Room 1 _ := hr
    have nd := scPick.nd
    refine ⟨_, (pss_one (ps_ret (pe_ix ix_list (pv 1) (pe_call G_draw hr_draw (by rfl) D_draw.ad D_draw.fn.kp D_draw.bd .nil pass0 (pa_cons (pv 0) (pa_cons (pe_callB call_len_seq (by rfl) T.len PySem.boot_len (pa_cons (pv 1) pa_nil)) pa_nil))) (fun _ _ => rfl)))), ?_⟩
    walk_at "rd"
    refine ⟨_, _, rfl, .inl hl, ?_⟩
    refine ⟨b, g, (xs.length : Int), rfl, by omega, by omega, hB, fun r H' r0 r1 kp hB' => ?_⟩
    obtain ⟨j, rfl⟩ : ∃ j : Nat, r = (j : Int) := ⟨r.toNat, by omega⟩
    have hj : j < xs.length := by omega
    have hx : xs[j]? = some xs[j] := by simp [hj]
    exact ⟨l, xs, _, _, rfl, rfl, Kp.seq kp n1 n2 hl, atI_nat hx, k j _ H' hx kp hB'⟩
end
end BV

namespace BV
open PySem L2
local macro_rules | `(tactic| walk_at "rd") => `(tactic| (repeat (first | refine ⟨_, rfl, ?_⟩ | refine ⟨_, _, rfl, rfl, ?_⟩ | refine Or.inl ⟨_, rfl, ?_⟩ | refine Or.inr ⟨_, rfl, ?_⟩ | refine ⟨_, _, rfl, ?_⟩)))
abbrev sWeb : Stmt := top 15
abbrev nWeb : List Str := ["_law_box_here", "_law_most", "_law_more", "_law_many", "_law_ties", "_law_found", "_law_place", "_law_turn", "_law_one", "_law_other"]
abbrev pWeb : List Str := ["_law_box_here", "_law_most", "_law_more"]
theorem scWeb : FnScope nWeb pWeb (defScope sWeb) := ⟨rfl, rfl, rfl, by decide +kernel, rfl, by decide +kernel, by decide +kernel⟩
section
variable {P : Program} {w : World} {K : PySem.W.Frag} {mg : Str → Option Value} {base : Heap}
theorem ok_web {f f1 f2 : Addr} {fd fd1 fd2 : FuncData} (D : Df K mg "_law_web" sWeb pWeb f fd) (T : Bl mg)
    (D_draw : Df K mg "_law_draw" sDraw ["_law_box_here", "_law_many"] f1 fd1)
    (D_pick : Df K mg "_law_pick" sPick nPick f2 fd2) :
    FnOk P w K mg base CX0 3 f fd pWeb (spWeb K) := by
  have G_draw : FnOk P w K mg base CX0 1 f1 fd1 ["_law_box_here", "_law_many"] spDraw := ok_draw D_draw T
  have G_pick : FnOk P w K mg base CX0 2 f2 fd2 nPick (spPick K) := ok_pick D_pick T D_draw
  refine D.fn.ok scWeb (fun vs H Q E h => ?_) (fun cdv A outer s H vs Q E hr h => ?_)
  · obtain ⟨b, g, most, more, rfl, _⟩ := h
    rfl
  · obtain ⟨b, g, most, more, rfl, m1, m2, m3, hB, k⟩ := h
    have hr_pick : Room 2 _ := hr
    have hr_draw : Room 1 _ := hr.mono (by decide)
    have nd := scWeb.nd
    refine ⟨_, (pss_cons (ps_par3 (i := 3) (j := 4) (l := 5) (by rfl) nd rfl rfl rfl (by decide) (by decide) (by decide) rfl rfl rfl (pa_cons (pe_op op_add pe_int (pe_call G_draw hr_draw (by rfl) D_draw.ad D_draw.fn.kp D_draw.bd .nil pass0 (pa_cons (pv 0) (pa_cons (pv 1) pa_nil)))) (pa_cons (pe_lst pa_nil) (pa_cons (pe_lst pa_nil) pa_nil))) (by rfl))
      (pss_cons (ps_for PassesOwn.never rfl (pi_range2 rfl T.range (pa_cons pe_int (pa_cons (pv 3) pa_nil))) (pg_name (i := 6) nd rfl (by first | exact Or.inl rfl | exact Or.inr rfl)) (pss_one (ps_expr (pe_bm PySem.F.plainAttrs_list PySem.F.slot_list_append PySem.F.type_list_append mt_append (pv 4) (pa_cons (pe_tup (pa_cons (pe_call G_draw hr_draw (by rfl) D_draw.ad D_draw.fn.kp D_draw.bd .nil pass0 (pa_cons (pv 0) (pa_cons (pv 6) pa_nil))) (pa_cons (pv 6) pa_nil))) pa_nil)))))
      (pss_cons (ps_for PassesOwn.never rfl (pi_range1 rfl T.range (pa_cons (pe_ifExp (pt_cmpR op_gt (pv 3) pe_int (nomark _)) (pe_call G_draw hr_draw (by rfl) D_draw.ad D_draw.fn.kp D_draw.bd .nil pass0 (pa_cons (pv 0) (pa_cons (pe_op op_add (pv 2) pe_int) pa_nil))) pe_int) pa_nil)) (pg_name (i := 7) nd rfl (by first | exact Or.inl rfl | exact Or.inr rfl)) (pss_cons (ps_par (i := 8) (j := 9) (by rfl) nd rfl rfl (by decide) rfl rfl (pa_cons (pe_call G_draw hr_draw (by rfl) D_draw.ad D_draw.fn.kp D_draw.bd .nil pass0 (pa_cons (pv 0) (pa_cons (pv 3) pa_nil))) (pa_cons (pe_call G_draw hr_draw (by rfl) D_draw.ad D_draw.fn.kp D_draw.bd .nil pass0 (pa_cons (pv 0) (pa_cons (pv 3) pa_nil))) pa_nil)) (by rfl))
      (pss_cons (ps_if (PW.pt (pw_or (pt_cmpR op_eq (pv 8) (pv 9) (nomark _)) (pw_or1 (pt_cmpR op_eq (pe_call G_draw hr_draw (by rfl) D_draw.ad D_draw.fn.kp D_draw.bd .nil pass0 (pa_cons (pv 0) (pa_cons pe_int pa_nil))) pe_int (nomark _))))) (pss_one (ps_asg (pe_call G_pick hr_pick (by rfl) D_pick.ad D_pick.fn.kp D_pick.bd .nil pass0 (pa_cons (pv 0) (pa_cons (pv 4) pa_nil))) (pg_tup rfl (pgs_cons (pg_name (i := 8) nd rfl (by first | exact Or.inl rfl | exact Or.inr rfl)) (pgs_cons (pg_name (i := 9) nd rfl (by first | exact Or.inl rfl | exact Or.inr rfl)) pgs_nil))))) pss_nil)
      (pss_one (ps_expr (pe_bm PySem.F.plainAttrs_list PySem.F.slot_list_append PySem.F.type_list_append mt_append (pv 4) (pa_cons (pe_tup (pa_cons (pe_callB (call_min2 rfl) (by rfl) T.min (by decide +kernel) (pa_cons (pv 8) (pa_cons (pv 9) pa_nil))) (pa_cons (pe_callB (call_max2 rfl) (by rfl) T.max (by decide +kernel) (pa_cons (pv 8) (pa_cons (pv 9) pa_nil))) pa_nil))) pa_nil)))))))
      (pss_cons (ps_for PassesOwn.never rfl (pi_range1 rfl T.range (pa_cons (pe_callB call_len_seq (by rfl) T.len PySem.boot_len (pa_cons (pv 4) pa_nil)) pa_nil)) (pg_name (i := 7) nd rfl (by first | exact Or.inl rfl | exact Or.inr rfl)) (pss_one (ps_expr (pe_bm PySem.F.plainAttrs_list PySem.F.slot_list_append PySem.F.type_list_append mt_append (pv 5) (pa_cons (pe_bm PySem.F.plainAttrs_list PySem.F.slot_list_pop PySem.F.type_list_pop mt_popAt (pv 4) (pa_cons (pe_call G_draw hr_draw (by rfl) D_draw.ad D_draw.fn.kp D_draw.bd .nil pass0 (pa_cons (pv 0) (pa_cons (pe_callB call_len_seq (by rfl) T.len PySem.boot_len (pa_cons (pv 4) pa_nil)) pa_nil))) pa_nil)) pa_nil)))))
      (pss_one (ps_ret (pe_tup (pa_cons (pv 3) (pa_cons (pe_callTy call_tuple_of (by rfl) T.tuple (by decide +kernel) (pa_cons (pv 5) pa_nil)) pa_nil))))))))), ?_⟩
    -- _law_many, _law_ties, _law_found
    walk_at "rd"
    refine ⟨b, g, (most : Int), rfl, by omega, by omega, hB, fun r H1 r0 r1 kp1 hB1 => ?_⟩
    obtain ⟨n0, rfl⟩ : ∃ j : Nat, r = (j : Int) := ⟨r.toNat, by omega⟩
    walk_at "rd"
    refine ⟨Nat.zero_le _, fun l hl => ⟨Nat.zero_le _, fun l2 hl2 => ⟨_, _, _, rfl, ?_⟩⟩⟩
    have hll : upd H1 l (.lst []) l = some (.lst []) := upd_same
    have nll : l ≠ l2 := ne_of_none hll hl2
    have s1 : Same H1 (upd H1 l (.lst [])) := same_new hl
    have s2 : Same (upd H1 l (.lst [])) (upd (upd H1 l (.lst [])) l2 (.lst [])) := same_new hl2
    have hB2 := (hB1.same s1).same s2
    have lkeep : ∀ {a : Addr}, H1 a = none → a ≠ b → a ≠ g → H a = none := fun {a} h n1 n2 => by
      cases e : H a with
      | none => rfl
      | some o =>
        rw [kp1 _ _ e n1 n2] at h
        cases h
    have hBx := hB1
    obtain ⟨⟨bst, bc, hb1⟩, bns, hg1, _⟩ := hBx
    have lb : l ≠ b := (ne_of_none hb1 hl).symm
    have lg : l ≠ g := (ne_of_none hg1 hl).symm
    have l2b : l2 ≠ b := (ne_of_none (s1 _ _ hb1) hl2).symm
    have l2g : l2 ≠ g := (ne_of_none (s1 _ _ hg1) hl2).symm
    have W0 : WI b g l l2 H (upd (upd H1 l (.lst [])) l2 (.lst [])) [] [] :=
      ⟨kp1.trans ((Kp.same s1).trans (Kp.same s2)), hB2, lkeep hl lb lg, lkeep (Same.free s1 hl2) l2b l2g, lb, lg, l2b, l2g, nll,
        ⟨[], by rw [upd_ne nll]; exact upd_same, .nil⟩, ⟨[], upd_same, .nil⟩⟩
    generalize upd (upd H1 l (.lst [])) l2 (.lst []) = H2 at W0
    clear s1 s2 hB2 hl hl2 hll hb1 hg1 hB1 kp1
    -- each place behind an earlier one
    walk_at "rd"
    refine ⟨by omega, ?_⟩
    refine for_range (lo := 1) (n := (1 + (n0 : Int) - 1).toNat) (fun i σ Hc => ∃ (ts : List Tie) (v6 : Option V),
      σ = [some (.ref b), some (.int most), some (.int more), some (.int (1 + (n0 : Int))), some (.ref l), some (.ref l2), v6, none, none, none] ∧
      WI b g l l2 H Hc ts [] ∧ ts.length = i ∧ (∀ t ∈ ts, t.1 < t.2 ∧ t.2 ≤ i) ∧ ∀ p, 1 ≤ p → p ≤ i → ∃ q, q < p ∧ (q, p) ∈ ts) ?_ ?_ ?_
    · exact ⟨[], none, rfl, W0, rfl, by simp, fun p h1 h2 => by omega⟩
    · rintro i σ Hc hi ⟨ts, v6, rfl, W, e1, e2, e3⟩
      have hi2 : i < n0 := by omega
      obtain ⟨xs, hx, hxs⟩ := W.tl
      refine ⟨_, rfl, .inl ⟨rfl, _, SqL.of hx⟩, ?_⟩
      walk_at "rd"
      refine ⟨b, g, 1 + (i : Int), rfl, by omega, by omega, W.bx, fun r H3 r0 r1 kp3 hB3 => ?_⟩
      obtain ⟨q, rfl⟩ : ∃ j : Nat, r = (j : Int) := ⟨r.toNat, by omega⟩
      have W3 := W.draw kp3 hB3
      walk_at "rd"
      refine ⟨by show 2 ≤ sizeLine; decide, fun p hp => ?_⟩
      have W4 := W3.same (same_new (o := .tup [.int (q : Int), .int (1 + (i : Int))]) hp)
      obtain ⟨ys, hy, hys⟩ := W4.tl
      have hyl : ys.length = ts.length := hys.length
      refine ⟨l, ys, _, rfl, rfl, hy, Nat.lt_of_le_of_lt (show ys.length ≤ 1000 by omega) (by decide), ?_⟩
      have hv : TieAt (upd H3 p (.tup [.int (q : Int), .int (1 + (i : Int))])) (.ref p) (q, 1 + i) :=
        ⟨p, rfl, by rw [upd_same]; show some (HO.tup [V.int (q : Int), V.int (1 + (i : Int))]) = some (HO.tup [V.int (q : Int), V.int (((1 + i : Nat)) : Int)]); rw [Int.natCast_add]; rfl⟩
      refine ⟨ts ++ [(q, 1 + i)], _, rfl, W4.app hy hv, by rw [List.length_append, e1]; rfl, fun t ht => ?_, fun p' h1 h2 => ?_⟩
      · rcases List.mem_append.mp ht with ht | ht
        · have := e2 t ht
          omega
        · obtain rfl := List.mem_singleton.mp ht
          show q < 1 + i ∧ 1 + i ≤ i + 1
          omega
      · by_cases hp' : p' ≤ i
        · obtain ⟨q', a1, a2⟩ := e3 p' h1 hp'
          exact ⟨q', a1, List.mem_append_left _ a2⟩
        · obtain rfl : p' = 1 + i := by omega
          exact ⟨q, by omega, List.mem_append_right _ (List.mem_singleton.mpr rfl)⟩
    · rintro σ Hc ⟨ts, v6, rfl, W, e1, e2, e3⟩
      have e1' : ts.length = n0 := by omega
      have e2' : ∀ t ∈ ts, t.1 < t.2 ∧ t.2 < 1 + n0 := fun t ht => by
        have := e2 t ht
        omega
      have e3' : ∀ p, 1 ≤ p → p < 1 + n0 → ∃ q, q < p ∧ (q, p) ∈ ts := fun p h1 h2 => e3 p h1 (by omega)
      clear e1 e2 e3
      -- more ties
      dsimp only
      refine tSeq_go ?_
      refine for_rng1_by (fun v H' => ∃ m : Nat, v = .int (m : Int) ∧ m ≤ more ∧ (n0 = 0 → m = 0) ∧ WI b g l l2 H H' ts []) ?_ (fun cont => ?_)
      · rintro v H' ⟨m, rfl, hm, hz, W'⟩
        refine ⟨_, rfl, by omega, by omega, ?_⟩
        refine for_range (lo := 0) (n := (m : Int).toNat) (fun i σ Hc => ∃ (ts : List Tie) (v7 v8 v9 : Option V),
          σ = [some (.ref b), some (.int most), some (.int more), some (.int (1 + (n0 : Int))), some (.ref l), some (.ref l2), v6, v7, v8, v9] ∧
          WI b g l l2 H Hc ts [] ∧ ts.length = n0 + i ∧ (∀ t ∈ ts, t.1 < t.2 ∧ t.2 < 1 + n0) ∧ ∀ p, 1 ≤ p → p < 1 + n0 → ∃ q, q < p ∧ (q, p) ∈ ts) ?_ ?_ ?_
        · exact ⟨ts, none, none, none, rfl, W', e1', e2', e3'⟩
        · clear W W' e1' e2' e3'
          rintro i σ Hc hi ⟨ts, v7, v8, v9, rfl, W, e1, e2, e3⟩
          have hn0 : 0 < n0 := by
            rcases Nat.eq_zero_or_pos n0 with z | z
            · have := hz z
              omega
            · exact z
          walk_at "rd"
          refine ⟨b, g, 1 + (n0 : Int), rfl, by omega, by omega, W.bx, fun r H3 r0 r1 kp3 hB3 => ?_⟩
          obtain ⟨one, rfl⟩ : ∃ j : Nat, r = (j : Int) := ⟨r.toNat, by omega⟩
          have W3 := W.draw kp3 hB3
          walk_at "rd"
          refine ⟨b, g, 1 + (n0 : Int), rfl, by omega, by omega, W3.bx, fun r' H4 r0' r1' kp4 hB4 => ?_⟩
          obtain ⟨oth, rfl⟩ : ∃ j : Nat, r' = (j : Int) := ⟨r'.toNat, by omega⟩
          have W4 := W3.draw kp4 hB4
          refine ⟨_, _, rfl, ?_⟩
          dsimp only
          refine tSeq_go ?_
          refine tIfS_by (fun σ' H' => ∃ x y : Nat, x ≠ y ∧ x < 1 + n0 ∧ y < 1 + n0 ∧
            σ' = [some (.ref b), some (.int most), some (.int more), some (.int (1 + (n0 : Int))), some (.ref l), some (.ref l2), v6, some (.int (0 + (i : Int))), some (.int (x : Int)), some (.int (y : Int))] ∧
            WI b g l l2 H H' ts []) ?_ (fun cont => ?_)
          · rintro σ' H' ⟨x, y, nxy, hx, hy, rfl, W5⟩
            obtain ⟨xs, hl1, hl2⟩ := W5.tl
            refine ⟨_, rfl, .inl ⟨rfl, _, SqL.of hl1⟩, ?_⟩
            walk_at "rd"
            refine ⟨by show 2 ≤ sizeLine; decide, fun p hp => ?_⟩
            obtain ⟨lo, hi', e4, e5, hlt, hhi⟩ : ∃ lo hi' : Nat, (if (y : Int) < (x : Int) then (y : Int) else (x : Int)) = (lo : Int) ∧
                (if (y : Int) > (x : Int) then (y : Int) else (x : Int)) = (hi' : Int) ∧ lo < hi' ∧ hi' < 1 + n0 := by
              rcases Nat.lt_or_ge y x with z | z
              · exact ⟨y, x, if_pos (by omega), if_neg (by omega), z, hx⟩
              · exact ⟨x, y, if_neg (by omega), if_pos (by omega), by omega, hy⟩
            rw [e4, e5] at *
            have W6 := W5.same (same_new (o := .tup [.int (lo : Int), .int (hi' : Int)]) hp)
            obtain ⟨ys, hy1, hys⟩ := W6.tl
            have hyl : ys.length = ts.length := hys.length
            refine ⟨l, ys, _, rfl, rfl, hy1, Nat.lt_of_le_of_lt (show ys.length ≤ 3000 by omega) (by decide), ?_⟩
            refine ⟨ts ++ [(lo, hi')], _, _, _, rfl, W6.app hy1 ⟨p, rfl, upd_same⟩, by rw [List.length_append, e1]; rfl, fun t ht => ?_, fun p' h1 h2 => ?_⟩
            · rcases List.mem_append.mp ht with ht | ht
              · exact e2 t ht
              · obtain rfl := List.mem_singleton.mp ht
                exact ⟨hlt, hhi⟩
            · obtain ⟨q', a1, a2⟩ := e3 p' h1 h2
              exact ⟨q', a1, List.mem_append_left _ a2⟩
          · refine tIfS_t (fun c Hx => WI b g l l2 H Hx ts [] ∧ (c = false → one ≠ oth)) ?_ ?_ (fun both => ?_)
            · rintro Hx ⟨Wx, _⟩
              obtain ⟨xs, hl1, hl2⟩ := Wx.tl
              have hxl : xs.length = ts.length := hl2.length
              walk_at "rd"
              refine ⟨b, g, l, xs, rfl, SqL.of hl1, Wx.d1, Wx.d2, by omega, by omega, Wx.bx, fun j v Hy hj kpy hBy => ?_⟩
              have Wy := Wx.draw kpy hBy
              obtain ⟨t, ht, hv⟩ := hl2.at hj
              obtain ⟨p, rfl, hp⟩ := hv.kt (KT.of_kp kpy Wx.bx)
              refine ⟨p, _, rfl, SqT.of hp, rfl, _, _, rfl, _, _, rfl, rfl, ?_⟩
              have hm := e2 t (List.mem_of_getElem? ht)
              exact cont _ _ ⟨t.1, t.2, by omega, by omega, hm.2, rfl, Wy⟩
            · rintro Hx ⟨Wx, hne⟩
              exact cont _ _ ⟨one, oth, hne rfl, by omega, by omega, rfl, Wx⟩
            · refine ⟨_, rfl, _, rfl, rfl, _, rfl, ?_⟩
              refine ite2 (fun hc => ?_) (fun hc => ?_)
              · exact both _ _ ⟨W4, fun z => by cases z⟩
              · have hne : one ≠ oth := by
                  rintro rfl
                  exact hc (decide_eq_true rfl)
                walk_at "rd"
                refine ⟨b, g, 4, rfl, by decide, by decide, W4.bx, fun r Hx q0 q1 kpx hBx => ?_⟩
                refine ⟨rfl, _, rfl, ?_⟩
                exact both _ _ ⟨W4.draw kpx hBx, fun _ => hne⟩
        · clear W W' e1' e2' e3'
          rintro σ Hc ⟨ts, v7, v8, v9, rfl, W, e1, e2, e3⟩
          have e1 : ts.length = n0 + m := e1
          obtain ⟨xs, hl1, hl2⟩ := W.tl
          have hxl : xs.length = ts.length := hl2.length
          -- in another order
          refine ⟨_, rfl, _, _, rfl, .inl (SqL.of hl1), _, rfl, by omega, by omega, ?_⟩
          refine for_range (lo := 0) (n := (xs.length : Int).toNat) (fun i σ Hc => ∃ (us fs : List Tie) (v7 : Option V),
            σ = [some (.ref b), some (.int most), some (.int more), some (.int (1 + (n0 : Int))), some (.ref l), some (.ref l2), v6, v7, v8, v9] ∧
            WI b g l l2 H Hc us fs ∧ us.length + i = ts.length ∧ (us ++ fs).Perm ts) ?_ ?_ ?_
          · exact ⟨ts, [], v7, rfl, W, rfl, by simp⟩
          · rintro i σ Hd hi ⟨us, fs, v7', rfl, Wd, d1, d2⟩
            obtain ⟨xs', hu1, hu2⟩ := Wd.tl
            obtain ⟨ys', hf1, hf2⟩ := Wd.fl
            have hul : xs'.length = us.length := hu2.length
            have hfl : ys'.length = fs.length := hf2.length
            have hpl : us.length + fs.length = ts.length := by
              rw [← List.length_append]
              exact d2.length_eq
            have hi2 : i < xs.length := by omega
            refine ⟨_, rfl, .inl ⟨rfl, _, SqL.of hf1⟩, ?_⟩
            refine ⟨_, rfl, .inl ⟨rfl, _, SqL.of hu1⟩, ?_⟩
            walk_at "rd"
            refine ⟨_, _, rfl, .inl (SqL.of hu1), ?_⟩
            refine ⟨b, g, (xs'.length : Int), rfl, by omega, by omega, Wd.bx, fun r He r0 r1 kpe hBe => ?_⟩
            obtain ⟨j, rfl⟩ : ∃ j : Nat, r = (j : Int) := ⟨r.toNat, by omega⟩
            have hj : j < xs'.length := by omega
            have We := Wd.draw kpe hBe
            have hu1e := kpe _ _ hu1 Wd.d1 Wd.d2
            have hjx : xs'[j]? = some xs'[j] := by simp [hj]
            obtain ⟨t, ht, hv⟩ := hu2.at hjx
            have hve := hv.kt (KT.of_kp kpe Wd.bx)
            refine ⟨l, xs', _, j, _, rfl, rfl, hu1e, by omega, by omega, seq_nat hj, hjx, ?_⟩
            have Wf := We.pop hu1e j
            have hvf := hve.kt (KT.of_upd (ys := xs'.eraseIdx j) hu1e)
            have hf1f : upd He l (.lst (xs'.eraseIdx j)) l2 = some (.lst ys') := by
              rw [upd_ne Wd.d5.symm]
              exact kpe _ _ hf1 Wd.d3 Wd.d4
            refine ⟨l2, ys', _, rfl, rfl, hf1f, Nat.lt_of_le_of_lt (show ys'.length ≤ 3000 by omega) (by decide), ?_⟩
            have hjt : j < us.length := by omega
            refine ⟨us.eraseIdx j, fs ++ [t], _, rfl, (Wf.swap.app hf1f hvf).swap, ?_, (perm_move us fs j t ht).trans d2⟩
            rw [List.length_eraseIdx_of_lt hjt]
            omega
          · rintro σ Hd ⟨us, fs, v7', rfl, Wd, d1, d2⟩
            have hus : us = [] := List.eq_nil_of_length_eq_zero (by omega)
            subst hus
            have hp : fs.Perm ts := d2
            obtain ⟨ys', hf1, hf2⟩ := Wd.fl
            have hfl : ys'.length = fs.length := hf2.length
            have hpl : fs.length = ts.length := hp.length_eq
            refine ⟨_, rfl, _, rfl, l2, _, rfl, .inl ⟨SqL.of hf1, fun q hq => ?_⟩⟩
            refine ⟨by show 2 ≤ sizeLine; decide, fun p hp2 => ?_⟩
            have sq : Same Hd (upd Hd q (.tup ys')) := same_new hq
            have sp : Same (upd Hd q (.tup ys')) (upd (upd Hd q (.tup ys')) p (.tup [.int (1 + (n0 : Int)), .ref q])) := same_new hp2
            have Wz := (Wd.same sq).same sp
            refine k p (1 + n0) fs _ Wz.kp Wz.bx ?_ ⟨by omega, fun t ht => e2 t (hp.mem_iff.mp ht), fun p' h1 h2 => ?_⟩ (by omega) (by omega) fun z => ?_
            · have e : V.int (1 + (n0 : Int)) = V.int ((1 + n0 : Nat) : Int) := by rw [Int.natCast_add]; rfl
              refine .tup (SqT.of upd_same) (.cons ?_ (.cons (.tup (SqT.of (sp _ _ upd_same)) ((hf2.kt ((KT.of_same sq))).kt (KT.of_same sp)).dp) .nil))
              rw [e]
              exact .int _
            · obtain ⟨q', a1, a2⟩ := e3 p' h1 h2
              exact ⟨q', a1, hp.mem_iff.mpr a2⟩
            · have hm0 : m = 0 := hz (by omega)
              exact List.eq_nil_of_length_eq_zero (by omega)
      · walk_at "rd"
        refine ite2 (fun hc => ?_) (fun hc => ?_)
        · have hc' := of_decide_eq_true hc
          walk_at "rd"
          refine ⟨b, g, (more : Int) + 1, rfl, by omega, by omega, W.bx, fun r H3 r0 r1 kp3 hB3 => ?_⟩
          obtain ⟨m, rfl⟩ : ∃ j : Nat, r = (j : Int) := ⟨r.toNat, by omega⟩
          exact cont _ _ ⟨m, rfl, by omega, by omega, W.draw kp3 hB3⟩
        · have hc' : ¬ (1 : Int) < 1 + (n0 : Int) := fun z => hc (decide_eq_true z)
          exact cont _ _ ⟨0, rfl, Nat.zero_le _, fun _ => rfl, W⟩
end
end BV

namespace BV
open PySem L2
local macro_rules | `(tactic| walk_at "rd") => `(tactic| (repeat (first | refine ⟨_, rfl, ?_⟩ | refine ⟨_, _, rfl, rfl, ?_⟩ | refine Or.inl ⟨_, rfl, ?_⟩ | refine Or.inr ⟨_, rfl, ?_⟩ | refine ⟨_, _, rfl, ?_⟩)))
abbrev sTies : Stmt := top 4
abbrev nTies : List Str := ["web", "place", "tie", "ends"]
theorem scTies : FnScope nTies ["web", "place"] (defScope sTies) := ⟨rfl, rfl, rfl, by decide +kernel, rfl, by decide +kernel, by decide +kernel⟩
section
variable {P : Program} {w : World} {K : PySem.W.Frag} {mg : Str → Option Value} {base : Heap}
theorem ok_ties {f : Addr} {fd : FuncData} (D : Df K mg "ties_at" sTies ["web", "place"] f fd) (T : Bl mg) :
    FnOk P w K mg base CX0 1 f fd ["web", "place"] (spTies K) := by
  refine D.fn.ok scTies (fun vs H Q E h => ?_) (fun cdv A outer s H vs Q E hr h => ?_)
  · obtain ⟨v, n, p, ts, rfl, _⟩ := h
    rfl
  · obtain ⟨v, n, p, ts, rfl, hw, hl, k⟩ := h
    have nd := scTies.nd
    obtain ⟨a, c, ys, rfl, ha, hc, hys⟩ := dp_web hw
    have hyl : ys.length = ts.length := by rw [dpAll_len hys, List.length_map]
    refine ⟨_, (pss_one (ps_ret (pe_callTy (tupleK K) (by rfl) T.tuple (by decide +kernel) (pa_cons (pe_lc (own := [("tie", 2), ("ends", 3)]) (g := (gTup K 2 (gCons (gName 2) (gCons (gName 3) gNil)))) rfl nd (enumT K (by rfl) T.enumerate (pa_cons (pe_ix (ixT K) (pv 0) pe_int (fun _ _ => rfl)) pa_nil)) (blkOk_by (own := [("tie", 2), ("ends", 3)]) (N := nTies) (sc := defScope sTies) (by decide +kernel)) (fun _ _ _ _ _ => (pgT K rfl (pgs_cons (pg_name (i := 2) nd rfl (by first | exact Or.inl rfl | exact Or.inr rfl)) (pgs_cons (pg_name (i := 3) nd rfl (by first | exact Or.inl rfl | exact Or.inr rfl)) pgs_nil)))) (fun _ _ _ _ _ => (pts_one (pt_cmpR (opIn K) (pv 1) (pv 3) rfl))) (fun _ _ _ _ _ => (pv 2))) pa_nil)))), ?_⟩
    refine ⟨_, rfl, a, _, 1, _, rfl, rfl, ha, atI_nat (j := 1) rfl, ?_⟩
    refine ⟨c, ys, rfl, hc, fun D hD => ?_⟩
    refine lc_run walk_enumT hD (fun i acc _ => acc = ((List.range i).filter (hit ts p)).map fun (k : Nat) => V.int k) ?_ ?_ ?_ ?_
    · exact fun H' s => sqT_same s hc
    · rfl
    · rintro i x acc H2 H' hi hacc e s r ⟨q, u, y, rfl, hq, rfl, hu, hy⟩
      cases hu
      obtain ⟨t, ht, hv⟩ := dpAll_get hys hy
      obtain ⟨t', ht', rfl⟩ : ∃ t', ts[i]? = some t' ∧ t = tieD t' := by
        rw [List.getElem?_map] at ht
        cases e : ts[i]? with
        | none => rw [e] at ht; cases ht
        | some t' => rw [e] at ht; exact ⟨t', rfl, (Option.some.inj ht).symm⟩
      have sq : Same H2 (upd H2 q (.tup [.int (i : Nat), y])) := same_new hq
      obtain ⟨pa, rfl, hpa⟩ := dp_tie (dp_same (s.trans sq) _ hv)
      refine ⟨q, _, rfl, SqT.of upd_same, rfl, _, _, rfl, _, _, rfl, rfl, rfl, ?_⟩
      walk_at "rd"
      refine ⟨pa, _, rfl, .inr hpa, rfl, rfl, _, rfl, ?_⟩
      show (if inV (.int (p : Int)) [.int t'.1, .int t'.2] = true then _ else _)
      have hacc2 : ((List.range i).filter (hit ts p)).length ≤ i := Nat.le_trans (List.length_filter_le _ _) (by rw [List.length_range]; exact Nat.le_refl _)
      have hin : inV (.int (p : Int)) [.int t'.1, .int t'.2] = hit ts p i := by rw [inv_tie, hit_at ht']
      have r' : acc = ((List.range i).filter (hit ts p)).map fun (k : Nat) => V.int k := r
      rw [hin]
      refine ite2 (fun hh => ?_) (fun hh => ?_)
      · walk_at "rd"
        refine lc_add hacc e sq (by rw [r', List.length_map]; omega) ?_
        rw [range_filter_succ, if_pos hh, List.map_append, r']
        rfl
      · refine lc_skip hacc e sq ?_
        rw [range_filter_succ, if_neg hh, List.append_nil]
        exact r'
    · rintro acc H2 h1 s2 r
      refine ⟨D, _, rfl, .inl ⟨SqL.of h1, fun u hu => ?_⟩⟩
      have su : Same H2 (upd H2 u (.tup acc)) := same_new hu
      refine k _ _ (s2.trans su) ?_
      have r' : acc = ((List.range ys.length).filter (hit ts p)).map fun (k : Nat) => V.int k := r
      rw [hyl] at r'
      refine .tup (SqT.of upd_same) ?_
      have e2 : ((tiesAt ts p).map fun (k : Nat) => PyData.int k) = ((tiesAt ts p).map fun (k : Nat) => (k : Int)).map PyData.int := by rw [List.map_map]; rfl
      have e3 : acc = ((tiesAt ts p).map fun (k : Nat) => (k : Int)).map V.int := by rw [r', List.map_map]; rfl
      rw [e2, e3]
      exact dpAll_ints _
end
end BV

namespace BV
open PySem L2
abbrev sDo : Stmt := top 6
abbrev nDo : List Str := ["web", "numbers", "deed", "word", "target", "times", "touched", "tie"]
theorem scDo : FnScope nDo ["web", "numbers", "deed"] (defScope sDo) := ⟨rfl, rfl, rfl, by decide +kernel, rfl, by decide +kernel, by decide +kernel⟩
abbrev sDone : Stmt := top 7
abbrev nDone : List Str := ["web", "standing", "deeds", "numbers", "deed"]
theorem scDone : FnScope nDone ["web", "standing", "deeds"] (defScope sDone) := ⟨rfl, rfl, rfl, by decide +kernel, rfl, by decide +kernel, by decide +kernel⟩
section
variable {P : Program} {w : World} {K : PySem.W.Frag} {mg : Str → Option Value} {base : Heap}
theorem ok_do {f f1 : Addr} {fd fd1 : FuncData} (D : Df K mg "_do" sDo ["web", "numbers", "deed"] f fd) (T : Bl mg)
    (D_ties : Df K mg "ties_at" sTies ["web", "place"] f1 fd1) : FnOk P w K mg base CX0 2 f fd ["web", "numbers", "deed"] (spDo K) := by
  have G_ties : FnOk P w K mg base CX0 1 f1 fd1 ["web", "place"] (spTies K) := ok_ties D_ties T
  refine D.fn.ok scDo (fun vs H Q E h => ?_) (fun cdv A outer s H vs Q E hr h => ?_)
  · obtain ⟨v, dv, l, n, ts, d, g, rfl, _⟩ := h
    rfl
  · obtain ⟨v, dv, l, n, ts, d, g, rfl, hw, hd, hok, hl, hn, k⟩ := h
    have hr_ties : Room 1 _ := hr
    have nd := scDo.nd
    obtain ⟨a, va, rfl, ha, hva⟩ := dp_deed hd
    refine ⟨_, (pss_cons (ps_asg (pv 2) (pgT K rfl (pgs_cons (pg_name (i := 3) nd rfl (by first | exact Or.inl rfl | exact Or.inr rfl)) (pgs_cons (pg_name (i := 4) nd rfl (by first | exact Or.inl rfl | exact Or.inr rfl)) (pgs_cons (pg_name (i := 5) nd rfl (by first | exact Or.inl rfl | exact Or.inr rfl)) pgs_nil)))))
      (pss_cons (ps_set (i := 6) nd rfl (by first | exact Or.inl rfl | exact Or.inr rfl) (pe_ifExp (pt_cmpR op_eq (pv 3) pe_str (nomark _)) (pe_call G_ties hr_ties (by rfl) D_ties.ad D_ties.fn.kp D_ties.bd .nil pass0 (pa_cons (pv 0) (pa_cons (pv 4) pa_nil))) (pv 4)))
      (pss_one (ps_for PassesOwn.never rfl (piT K (pv 6)) (pg_name (i := 7) nd rfl (by first | exact Or.inl rfl | exact Or.inr rfl)) (pss_one (ps_augS (pv 1) (pv 7) (getL K) (pv 5) ip_add set_list)))))), ?_⟩
    refine ⟨_, rfl, a, _, rfl, ha, rfl, _, _, rfl, _, _, rfl, _, _, rfl, rfl, ?_⟩
    -- the ties that are touched
    dsimp only
    refine tSeq_go ?_
    refine tAsg_by (fun u H' => Same H H' ∧ ∃ ks : List Nat, Dp K H' u (lotD ks) ∧ (∀ k ∈ ks, k < ts.length) ∧ ks.Nodup ∧ ∀ k, k < ts.length → (d.touch ts k = true ↔ k ∈ ks)) ?_ (fun cont => ?_)
    · rintro u H1 ⟨s1, ks, hu, hk1, hk2, hk3⟩
      obtain ⟨au, rfl, hau⟩ := dp_lotI hu
      have hn1 := s1 _ _ hn
      refine ⟨_, rfl, au, rfl, ⟨_, hau⟩, for_it (walk_tup (xs := ks.map fun (k : Nat) => V.int k)) (fun j σ H' => ∃ v7 : Option V,
        σ = [some v, some (.ref l), some (.ref a), some (.str d.word), some va, some (.int d.times), some (.ref au), v7] ∧
        Kp l l H1 H' ∧ H' l = some (.lst (numsV ts.length fun k => g k + if k ∈ ks.take j then d.times else 0))) ?_ ?_ ?_ ?_⟩
      · refine ⟨none, rfl, Kp.refl _, ?_⟩
        rw [hn1]
        congr 2
        exact numsV_congr fun k _ => by simp
      · rintro j σ H' _ ⟨v7, rfl, h1, h2⟩
        refine sqT_kf (H := H1) (fun z o hz q => ?_) hau
        have nz : z ≠ l := by
          rintro rfl
          rw [hn1] at hz
          obtain ⟨_, rfl | ⟨_, rfl⟩⟩ := q <;> cases hz
        exact h1 _ _ hz nz nz
      · rintro j x σ H' H'' hj ⟨v7, rfl, h1, h2⟩ ⟨rfl, hx⟩
        obtain ⟨kk, hkk, rfl⟩ := get_map hx
        have hkm : kk ∈ ks := List.mem_of_getElem? hkk
        have hkt := hk1 kk hkm
        refine ⟨_, rfl, _, rfl, l, _, kk, _, rfl, rfl, SqL.of h2, numsV_get hkt, ?_⟩
        refine ⟨_, rfl, _, _, rfl, rfl, l, _, (kk : Int), kk, rfl, rfl, h2, ix_nat (by rw [numsV_len]; exact hkt), ?_⟩
        refine ⟨some (.int kk), rfl, h1.trans Kp.setb, ?_⟩
        rw [upd_same, numsV_set]
        congr 2
        refine numsV_congr fun k _ => ?_
        have htk : ks.take (j + 1) = ks.take j ++ [kk] := by
          rw [List.take_add_one, hkk]
          rfl
        have hnot : kk ∉ ks.take j := by
          have hnd := hk2
          rw [← List.take_append_drop (j + 1) ks, htk, List.nodup_append, List.nodup_append] at hnd
          intro hmem
          exact hnd.1.2.2 kk hmem kk (by simp) rfl
        rw [htk]
        by_cases e : k = kk
        · subst e
          simp [hnot]
        · simp [e]
      · rintro σ H' ⟨v7, rfl, h1, h2⟩
        refine k H' (fun z o hz n1 n2 => h1 _ _ (s1 _ _ hz) n1 n2) ?_
        rw [h2]
        congr 2
        refine numsV_congr fun k hk => ?_
        rw [List.take_of_length_le (by rw [List.length_map]; exact Nat.le_refl _)]
        unfold Deed.part
        by_cases e : d.touch ts k = true
        · rw [if_pos e, if_pos ((hk3 k hk).mp e)]
        · rw [if_neg e, if_neg (fun z => e ((hk3 k hk).mpr z))]
    · cases d with
      | star p t =>
        refine ⟨_, rfl, rfl, _, rfl, ?_⟩
        refine iteT ?_
        refine ⟨_, rfl, _, rfl, ?_⟩
        cases hva
        refine ⟨v, n, p, ts, rfl, hw, hl, fun u H' su hu => cont _ _ ⟨su, tiesAt ts p, hu, fun k hk => (mem_tiesAt.mp hk).1, tiesAt_nodup ts p, fun k hk => ?_⟩⟩
        exact ⟨fun z => mem_tiesAt.mpr ⟨hk, z⟩, fun z => (mem_tiesAt.mp z).2⟩
      | round ks t =>
        refine ⟨_, rfl, rfl, _, rfl, ?_⟩
        refine iteF ?_
        refine ⟨_, rfl, ?_⟩
        exact cont _ _ ⟨Same.refl _, ks, hva, hok.1, hok.2, fun k _ => ⟨fun z => of_decide_eq_true z, fun z => decide_eq_true z⟩⟩
theorem ok_done {f f1 f2 : Addr} {fd fd1 fd2 : FuncData} (D : Df K mg "done" sDone ["web", "standing", "deeds"] f fd) (T : Bl mg) (hlist : mg "list" = none)
    (D_ties : Df K mg "ties_at" sTies ["web", "place"] f1 fd1) (D_do : Df K mg "_do" sDo ["web", "numbers", "deed"] f2 fd2) :
    FnOk P w K mg base CX0 3 f fd ["web", "standing", "deeds"] (spDone K) := by
  have G_do : FnOk P w K mg base CX0 2 f2 fd2 ["web", "numbers", "deed"] (spDo K) := ok_do D_do T D_ties
  refine D.fn.ok scDone (fun vs H Q E h => ?_) (fun cdv A outer s H vs Q E hr h => ?_)
  · obtain ⟨v, sv, dv, n, ts, g, ds, rfl, _⟩ := h
    rfl
  · obtain ⟨v, sv, dv, n, ts, g, ds, rfl, hw, hs, hd, hok, hl, k⟩ := h
    have hr_do : Room 2 _ := hr
    have nd := scDone.nd
    obtain ⟨as, rfl, has⟩ := dp_nums hs
    obtain ⟨ad, xs, rfl, had, hxs⟩ := dp_tup hd
    have hxl : xs.length = ds.length := by rw [dpAll_len hxs, List.length_map]
    refine ⟨_, (pss_cons (ps_set (i := 3) nd rfl (by first | exact Or.inl rfl | exact Or.inr rfl) (pe_callTy call_list_of (by rfl) hlist (by decide +kernel) (pa_cons (pv 1) pa_nil)))
      (pss_cons (ps_for PassesOwn.never rfl (piT K (pv 2)) (pg_name (i := 4) nd rfl (by first | exact Or.inl rfl | exact Or.inr rfl)) (pss_one (ps_expr (pe_call G_do hr_do (by rfl) D_do.ad D_do.fn.kp D_do.bd .nil pass0 (pa_cons (pv 0) (pa_cons (pv 3) (pa_cons (pv 4) pa_nil)))))))
      (pss_one (ps_ret (pe_callTy (tupleK K) (by rfl) T.tuple (by decide +kernel) (pa_cons (pv 3) pa_nil)))))), ?_⟩
    refine ⟨_, rfl, as, _, rfl, .inr has, fun l hln => ?_⟩
    have s0 : Same H (upd H l (.lst (numsV ts.length g))) := same_new hln
    refine ⟨_, rfl, ad, rfl, ⟨_, sqT_same s0 had⟩, for_it (walk_tup (xs := xs)) (fun j σ H' => ∃ v4 : Option V,
      σ = [some v, some (.ref as), some (.ref ad), some (.ref l), v4] ∧ Same H H' ∧ H' l = some (.lst (numsV ts.length (behind ts g (ds.take j))))) ?_ ?_ ?_ ?_⟩
    · exact ⟨none, rfl, s0, upd_same⟩
    · rintro j σ H' _ ⟨v4, rfl, h1, h2⟩
      exact sqT_same h1 had
    · rintro j x σ H' H'' hj ⟨v4, rfl, h1, h2⟩ ⟨rfl, hx⟩
      obtain ⟨dd, hdd, hdp⟩ := dpAll_get hxs hx
      obtain ⟨d, hdj, rfl⟩ := get_map hdd
      refine ⟨_, rfl, _, rfl, _, rfl, ?_⟩
      refine ⟨v, x, l, n, ts, d, _, rfl, dp_same h1 _ hw, dp_same h1 _ hdp, hok d (List.mem_of_getElem? hdj), hl, h2, fun H3 k3 h3 => ?_⟩
      refine ⟨some x, rfl, fun z o hz => ?_, ?_⟩
      · have nz := ne_of_none hz hln
        exact k3 _ _ (h1 _ _ hz) nz nz
      · rw [h3]
        congr 2
        refine numsV_congr fun kk _ => ?_
        have htk : ds.take (j + 1) = ds.take j ++ [d] := by
          rw [List.take_add_one, hdj]
          rfl
        rw [htk, behind_eq, behind_eq, effect_app]
        simp only [effect, List.map_cons, List.map_nil, List.sum_cons, List.sum_nil]
        omega
    · rintro σ H' ⟨v4, rfl, h1, h2⟩
      rw [hxl, List.take_of_length_le (Nat.le_refl _)] at h2
      refine ⟨_, rfl, l, _, rfl, .inl ⟨SqL.of h2, fun u hu => ?_⟩⟩
      exact k _ _ (h1.trans (same_new hu)) (nums_dp (SqT.of upd_same))
end
end BV

namespace BV
open PySem L2
abbrev sCounts : Stmt := top 16
abbrev nCounts : List Str := ["_law_web_here", "_law_lot_here", "_law_found", "_law_tie", "_law_one", "_law_other"]
abbrev pCounts : List Str := ["_law_web_here", "_law_lot_here"]
theorem scCounts : FnScope nCounts pCounts (defScope sCounts) := ⟨rfl, rfl, rfl, by decide +kernel, rfl, by decide +kernel, by decide +kernel⟩
abbrev sLot : Stmt := top 17
abbrev nLot : List Str := ["_law_web_here", "_law_number", "_law_found", "_law_left", "_law_tie"]
abbrev pLot : List Str := ["_law_web_here", "_law_number"]
theorem scLot : FnScope nLot pLot (defScope sLot) := ⟨rfl, rfl, rfl, by decide +kernel, rfl, by decide +kernel, by decide +kernel⟩
abbrev sTwos : Stmt := top 18
abbrev nTwos : List Str := ["_law_many", "_law_found", "_law_turn"]
theorem scTwos : FnScope nTwos ["_law_many"] (defScope sTwos) := ⟨rfl, rfl, rfl, by decide +kernel, rfl, by decide +kernel, by decide +kernel⟩
def spCounts (K : PySem.W.Frag) : Sp := fun vs H Q _ => ∃ (v lv : V) (n : Nat) (ts : List Tie) (ks : List Nat), vs = [v, lv] ∧ Dp K H v (webD n ts) ∧ Dp K H lv (lotD ks) ∧
  (∀ t ∈ ts, t.1 < t.2 ∧ t.2 < n) ∧ (∀ k ∈ ks, k < ts.length) ∧ n ≤ 1000 ∧
  ∀ (l : Addr) (ms : List Int) H', Same H H' → H' l = some (.lst (ms.map V.int)) → ms.length = n → Q (.ref l) H'
def spLot (K : PySem.W.Frag) : Sp := fun vs H Q _ => ∃ (v : V) (n : Nat) (ts : List Tie) (z : Int), vs = [v, .int z] ∧ Dp K H v (webD n ts) ∧ ts.length ≤ 1000 ∧
  ∀ (u : V) (ks : List Nat) H', Same H H' → Dp K H' u (lotD ks) → (∀ k ∈ ks, k < ts.length) → ks.Nodup → ks.length ≤ ts.length → Q u H'
def spTwos : Sp := fun vs H Q _ => ∃ m : Nat, vs = [.int m] ∧ m ≤ 40 ∧ Q (.int (2 ^ m)) H
theorem same_old {H H' : Hp} {l : Addr} {o : HO} (h : H l = none) (s : Same H H') : Same H (upd H' l o) := fun a x e => by
  rw [upd_ne (ne_of_none e h)]
  exact s _ _ e
theorem set_ints (ms : List Int) (i : Nat) (z : Int) : (ms.map V.int).set i (.int z) = (ms.set i z).map V.int := by
  rw [List.map_set]
section
variable {P : Program} {w : World} {K : PySem.W.Frag} {mg : Str → Option Value} {base : Heap}
theorem ok_twos {f : Addr} {fd : FuncData} (D : Df K mg "_law_twos" sTwos ["_law_many"] f fd) (T : Bl mg) : FnOk P w K mg base CX0 1 f fd ["_law_many"] spTwos := by
  refine D.fn.ok scTwos (fun vs H Q E h => ?_) (fun cdv A outer s H vs Q E hr h => ?_)
  · obtain ⟨m, rfl, _⟩ := h
    rfl
  · obtain ⟨m, rfl, hm, k⟩ := h
    have nd := scTwos.nd
    refine ⟨_, (pss_cons (ps_set (i := 1) nd rfl (by first | exact Or.inl rfl | exact Or.inr rfl) pe_int)
      (pss_cons (ps_for PassesOwn.never rfl (pi_range1 rfl T.range (pa_cons (pv 0) pa_nil)) (pg_name (i := 2) nd rfl (by first | exact Or.inl rfl | exact Or.inr rfl)) (pss_one (ps_set (i := 1) nd rfl (by first | exact Or.inl rfl | exact Or.inr rfl) (pe_op op_mul pe_int (pv 1)))))
      (pss_one (ps_ret (pv 1))))), ?_⟩
    refine ⟨_, rfl, _, rfl, by omega, by omega, ?_⟩
    refine for_range (lo := 0) (n := (m : Int).toNat) (fun i σ Hc => ∃ v2 : Option V, σ = [some (.int m), some (.int (2 ^ i)), v2] ∧ Hc = H) ?_ ?_ ?_
    · exact ⟨none, rfl, rfl⟩
    · rintro i σ Hc hi ⟨v2, rfl, rfl⟩
      have hi2 : i < m := by omega
      have h1 : (2 : Int) ^ i ≤ 2 ^ 40 := by
        have : (2 : Nat) ^ i ≤ 2 ^ 40 := Nat.pow_le_pow_right (by decide) (by omega)
        exact_mod_cast this
      have h0 : (0 : Int) < 2 ^ i := Int.pow_pos (by decide)
      refine ⟨_, rfl, _, _, rfl, rfl, .inl ⟨by omega, by omega⟩, some (.int (0 + i)), ?_, rfl⟩
      have e : (2 : Int) ^ (i + 1) = 2 * 2 ^ i := by rw [Int.pow_succ, Int.mul_comm]
      rw [e]
      rfl
    · rintro σ Hc ⟨v2, rfl, rfl⟩
      exact ⟨_, rfl, k⟩
theorem ok_counts {f : Addr} {fd : FuncData} (D : Df K mg "_law_counts" sCounts pCounts f fd) (T : Bl mg) : FnOk P w K mg base CX0 1 f fd pCounts (spCounts K) := by
  refine D.fn.ok scCounts (fun vs H Q E h => ?_) (fun cdv A outer s H vs Q E hr h => ?_)
  · obtain ⟨v, lv, n, ts, ks, rfl, _⟩ := h
    rfl
  · obtain ⟨v, lv, n, ts, ks, rfl, hw, hk, hends, hks, hn, k⟩ := h
    have nd := scCounts.nd
    obtain ⟨a, c, ys, rfl, ha, hc, hys⟩ := dp_web hw
    obtain ⟨al, rfl, hal⟩ := dp_lotI hk
    refine ⟨_, (pss_cons (ps_set (i := 2) nd rfl (by first | exact Or.inl rfl | exact Or.inr rfl) (pe_op op_rep (pe_lst (pa_cons pe_int pa_nil)) (pe_ix (ixT K) (pv 0) pe_int (fun _ _ => rfl))))
      (pss_cons (ps_for PassesOwn.never rfl (piT K (pv 1)) (pg_name (i := 3) nd rfl (by first | exact Or.inl rfl | exact Or.inr rfl)) (pss_cons (ps_asg (pe_ix (ixT K) (pe_ix (ixT K) (pv 0) pe_int (fun _ _ => rfl)) (pv 3) (fun _ _ => rfl)) (pgT K rfl (pgs_cons (pg_name (i := 4) nd rfl (by first | exact Or.inl rfl | exact Or.inr rfl)) (pgs_cons (pg_name (i := 5) nd rfl (by first | exact Or.inl rfl | exact Or.inr rfl)) pgs_nil))))
      (pss_cons (ps_asg (pe_op op_add (pe_ix (ixL K) (pv 2) (pv 4) (fun _ _ => rfl)) pe_int) (pg_sub (pv 2) (pv 4) set_list))
      (pss_one (ps_asg (pe_op op_add (pe_ix (ixL K) (pv 2) (pv 5) (fun _ _ => rfl)) pe_int) (pg_sub (pv 2) (pv 5) set_list))))))
      (pss_one (ps_ret (pv 2))))), ?_⟩
    refine ⟨by decide, fun p0 hp0 => ?_⟩
    have s0 : Same H (upd H p0 (.lst [.int 0])) := same_new hp0
    refine ⟨_, rfl, a, _, _, _, rfl, rfl, sqT_same s0 ha, atI_nat (j := 0) rfl, ?_⟩
    refine ⟨p0, _, [.int 0], rfl, rfl, upd_same, by omega, by omega, ?_, fun m0 hm0 => ?_⟩
    · exact Nat.le_trans (show 1 * (n : Int).toNat ≤ 1000 by omega) (by decide)
    have s1 : Same (upd H p0 (.lst [.int 0])) (upd (upd H p0 (.lst [.int 0])) m0 (.lst (List.replicate (n : Int).toNat [V.int 0]).flatten)) := same_new hm0
    have hHm : H m0 = none := Same.free s0 hm0
    refine ⟨_, rfl, al, rfl, ⟨_, sqT_same (s0.trans s1) hal⟩, for_it (walk_tup (xs := ks.map fun (k : Nat) => V.int k)) (fun j σ H' => ∃ (v3 v4 v5 : Option V) (ms : List Int),
        σ = [some (.ref a), some (.ref al), some (.ref m0), v3, v4, v5] ∧ Same H H' ∧ ms.length = n ∧ H' m0 = some (.lst (ms.map V.int))) ?_ ?_ ?_ ?_⟩
    · refine ⟨none, none, none, List.replicate n 0, rfl, s0.trans s1, by rw [List.length_replicate], ?_⟩
      rw [upd_same, reps, Int.toNat_natCast]
      congr 2
      rw [List.map_replicate, List.map_const', List.length_range]
    · rintro j σ H' _ ⟨v3, v4, v5, ms, rfl, h1, _, _⟩
      exact sqT_same h1 hal
    · rintro j x σ H' H'' hj ⟨v3, v4, v5, ms, rfl, h1, h2, h3⟩ ⟨rfl, hx⟩
      obtain ⟨kk, hkk, rfl⟩ := get_map hx
      have hkm : kk < ts.length := hks kk (List.mem_of_getElem? hkk)
      have ht : ts[kk]? = some ts[kk] := by simp [hkm]
      have hte := hends ts[kk] (List.getElem_mem hkm)
      obtain ⟨y, hy, hyd⟩ := dpAll_at hys (show (ts.map tieD)[kk]? = some (tieD ts[kk]) by rw [List.getElem?_map, ht]; rfl)
      obtain ⟨ay, rfl, hay⟩ := dp_tie hyd
      refine ⟨_, rfl, a, _, _, _, rfl, rfl, sqT_same h1 ha, atI_nat (j := 1) rfl, ?_⟩
      refine ⟨_, rfl, c, _, _, _, rfl, rfl, sqT_same h1 hc, atI_nat hy, ?_⟩
      refine ⟨ay, _, rfl, sqT_same h1 hay, rfl, _, _, rfl, _, _, rfl, rfl, ?_⟩
      generalize ts[kk] = t at *
      have g1 : ms[t.1]? = some (ms[t.1]'(by omega)) := by simp [show t.1 < ms.length by omega]
      refine ⟨_, rfl, _, rfl, m0, _, t.1, _, rfl, rfl, SqL.of h3, atI_nat (by rw [List.getElem?_map, g1]; rfl), ?_⟩
      refine ⟨_, _, rfl, rfl, ?_⟩
      refine ⟨_, rfl, _, rfl, m0, _, (t.1 : Int), t.1, rfl, rfl, h3, ix_nat (by rw [List.length_map]; omega), ?_⟩
      rw [set_ints]
      generalize he : ms.set t.1 (ms[t.1]'(by omega) + 1) = ms1
      have hl1 : ms1.length = n := by rw [← he, List.length_set, h2]
      have g2 : ms1[t.2]? = some (ms1[t.2]'(by omega)) := by simp [show t.2 < ms1.length by omega]
      refine ⟨_, rfl, _, rfl, m0, _, t.2, _, rfl, rfl, SqL.of upd_same, atI_nat (by rw [List.getElem?_map, g2]; rfl), ?_⟩
      refine ⟨_, _, rfl, rfl, ?_⟩
      refine ⟨_, rfl, _, rfl, m0, _, (t.2 : Int), t.2, rfl, rfl, upd_same, ix_nat (by rw [List.length_map]; omega), ?_⟩
      rw [set_ints]
      exact ⟨_, _, _, _, rfl, same_old hHm (same_old hHm h1), by rw [List.length_set, hl1], upd_same⟩
    · rintro σ H' ⟨v3, v4, v5, ms, rfl, h1, h2, h3⟩
      exact ⟨_, rfl, k _ _ _ h1 h3 h2⟩
end
end BV

namespace BV
open PySem L2
local macro_rules | `(tactic| walk_at "rd") => `(tactic| (repeat (first | refine ⟨_, rfl, ?_⟩ | refine ⟨_, _, rfl, rfl, ?_⟩ | refine Or.inl ⟨_, rfl, ?_⟩ | refine Or.inr ⟨_, rfl, ?_⟩ | refine ⟨_, _, rfl, ?_⟩)))
theorem nodup_rev_gt {ks : List Nat} (h : ks.Pairwise (· > ·)) : ks.reverse.Nodup := by
  unfold List.Nodup
  rw [List.pairwise_reverse]
  exact h.imp fun {a b} z e => by
    subst e
    exact Nat.lt_irrefl _ z
theorem lot_dp {K : PySem.W.Frag} {H : Hp} {a : Addr} {ks : List Nat} (h : SqT K H a (ks.map fun (k : Nat) => V.int k)) : Dp K H (.ref a) (lotD ks) := by
  refine .tup h ?_
  have e2 : (ks.map fun (k : Nat) => PyData.int k) = (ks.map fun (k : Nat) => (k : Int)).map PyData.int := by rw [List.map_map]; rfl
  have e3 : (ks.map fun (k : Nat) => V.int k) = (ks.map fun (k : Nat) => (k : Int)).map V.int := by rw [List.map_map]; rfl
  rw [e2, e3]
  exact dpAll_ints _
section
variable {P : Program} {w : World} {K : PySem.W.Frag} {mg : Str → Option Value} {base : Heap}
theorem ok_lot {f : Addr} {fd : FuncData} (D : Df K mg "_law_lot" sLot pLot f fd) (T : Bl mg) : FnOk P w K mg base CX0 1 f fd pLot (spLot K) := by
  refine D.fn.ok scLot (fun vs H Q E h => ?_) (fun cdv A outer s H vs Q E hr h => ?_)
  · obtain ⟨v, n, ts, z, rfl, _⟩ := h
    rfl
  · obtain ⟨v, n, ts, z, rfl, hw, hl, k⟩ := h
    have nd := scLot.nd
    obtain ⟨a, c, ys, rfl, ha, hc, hys⟩ := dp_web hw
    have hyl : ys.length = ts.length := by rw [dpAll_len hys, List.length_map]
    refine ⟨_, (pss_cons (ps_par (i := 2) (j := 3) (by rfl) nd rfl rfl (by decide) rfl rfl (pa_cons (pe_lst pa_nil) (pa_cons (pv 1) pa_nil)) (by rfl))
      (pss_cons (ps_for PassesOwn.never rfl (pi_range3 rfl T.range (pa_cons (pe_op op_sub (pe_callB (lenK K) (by rfl) T.len PySem.boot_len (pa_cons (pe_ix (ixT K) (pv 0) pe_int (fun _ _ => rfl)) pa_nil)) pe_int) (pa_cons (pe_un un_neg pe_int) (pa_cons (pe_un un_neg pe_int) pa_nil)))) (pg_name (i := 4) nd rfl (by first | exact Or.inl rfl | exact Or.inr rfl)) (pss_cons (ps_if (pt_cmpR op_eq (pe_op op_mod (pe_callTy call_int1 (by rfl) T.int (by decide +kernel) (pa_cons (pv 3) pa_nil)) pe_int) pe_int (nomark _)) (pss_one (ps_expr (pe_bm PySem.F.plainAttrs_list PySem.F.slot_list_append PySem.F.type_list_append mt_append (pv 2) (pa_cons (pv 4) pa_nil)))) pss_nil)
      (pss_one (ps_set (i := 3) nd rfl (by first | exact Or.inl rfl | exact Or.inr rfl) (pe_op op_fdivW (pv 3) pe_int)))))
      (pss_one (ps_ret (pe_callTy (tupleK K) (by rfl) T.tuple (by decide +kernel) (pa_cons (revL K (pv 2)) pa_nil)))))), ?_⟩
    refine ⟨Nat.zero_le _, fun m0 hm0 => ⟨_, rfl, _, _, rfl, ?_⟩⟩
    have s0 : Same H (upd H m0 (.lst [])) := same_new hm0
    refine ⟨_, rfl, a, _, _, _, rfl, rfl, sqT_same s0 ha, atI_nat (j := 1) rfl, ?_⟩
    refine ⟨c, ys, rfl, .inr (sqT_same s0 hc), ?_⟩
    refine ⟨_, _, rfl, rfl, ?_⟩
    refine ⟨_, rfl, _, rfl, _, _, _, _, rfl, RgC.neg (by omega) (by omega) (by decide) (by decide), ?_⟩
    refine for_rangeC (fun i σ H' => ∃ (v4 : Option V) (left : Int) (ks : List Nat), σ = [some (.ref a), some (.int z), some (.ref m0), some (.int left), v4] ∧
      Same H H' ∧ H' m0 = some (.lst (ks.map fun (k : Nat) => V.int k)) ∧ ks.Pairwise (· > ·) ∧ (∀ k ∈ ks, ts.length - i ≤ k ∧ k < ts.length) ∧ ks.length ≤ i) ?_ ?_ ?_
    · exact ⟨none, z, [], rfl, s0, upd_same, .nil, by simp, by simp⟩
    · rintro i σ H' hi ⟨v4, left, ks, rfl, h1, h2, h3, h4, h5⟩
      have hi2 : i < ts.length := by omega
      have hx : ((ys.length : Int) - 1 + (i : Int) * (-1)) = ((ts.length - 1 - i : Nat) : Int) := by omega
      rw [hx]
      show tSeq _ _ _ _ _
      refine tSeq_go ?_
      refine tIfS_by (fun σ' H'' => ∃ ks : List Nat, σ' = [some (.ref a), some (.int z), some (.ref m0), some (.int left), some (.int ((ts.length - 1 - i : Nat) : Int))] ∧
        Same H H'' ∧ H'' m0 = some (.lst (ks.map fun (k : Nat) => V.int k)) ∧ ks.Pairwise (· > ·) ∧ (∀ k ∈ ks, ts.length - (i + 1) ≤ k ∧ k < ts.length) ∧ ks.length ≤ i + 1) ?_ (fun cont => ?_)
      · rintro σ' H'' ⟨ks', rfl, g1, g2, g3, g4, g5⟩
        refine ⟨_, rfl, _, _, rfl, rfl, ⟨by decide, by decide⟩, _, _, _, rfl, g1, g2, g3, g4, g5⟩
      · refine ⟨_, rfl, .inl ⟨_, rfl, _, _, rfl, rfl, (by decide : (0 : Int) < 2), ?_⟩⟩
        refine ⟨rfl, _, rfl, ?_⟩
        refine ite2 (fun hh => ?_) (fun hh => ?_)
        · refine ⟨_, rfl, .inl ⟨rfl, _, SqL.of h2⟩, _, rfl, m0, _, _, rfl, rfl, h2, ?_, ?_⟩
          · rw [List.length_map]
            exact Nat.lt_of_lt_of_le (show ks.length < 100000 by omega) (by decide)
          refine cont _ _ ⟨ks ++ [ts.length - 1 - i], rfl, same_old hm0 h1, ?_, ?_, ?_, ?_⟩
          · rw [upd_same, List.map_append]
            rfl
          · rw [List.pairwise_append]
            refine ⟨h3, List.pairwise_singleton _ _, fun k1 hk1 k2 hk2 => ?_⟩
            have e := List.mem_singleton.mp hk2
            have := h4 k1 hk1
            show k1 > k2
            omega
          · intro k1 hk1
            rcases List.mem_append.mp hk1 with q | q
            · have := h4 k1 q
              omega
            · have e := List.mem_singleton.mp q
              omega
          · rw [List.length_append, List.length_singleton]
            omega
        · refine cont _ _ ⟨ks, rfl, h1, h2, h3, fun k hk => ?_, by omega⟩
          have := h4 k hk
          omega
    · rintro σ H' ⟨v4, left, ks, rfl, h1, h2, h3, h4, h5⟩
      refine ⟨_, rfl, m0, _, rfl, SqL.of h2, fun p hp => ?_⟩
      have s2 : Same H' (upd H' p (.lst (ks.map fun (k : Nat) => V.int k).reverse)) := same_new hp
      refine ⟨p, _, rfl, .inl ⟨SqL.of upd_same, fun u hu => ?_⟩⟩
      refine k _ ks.reverse _ (h1.trans (s2.trans (same_new hu))) (lot_dp (SqT.of ?_)) (fun k hk => (h4 k (List.mem_reverse.mp hk)).2) (nodup_rev_gt h3) ?_
      · rw [upd_same, List.map_reverse]
      · rw [List.length_reverse]
        have : ((ys.length : Int) - 1 - -1).toNat = ts.length := by omega
        omega
end
end BV

namespace BV
open PySem L2
abbrev sIsr : Stmt := top 19
abbrev nIsr : List Str := ["_law_web_here", "_law_lot_here", "_law_met", "_law_rest", "_law_turn", "_law_further", "_law_tie", "_law_many"]
abbrev pIsr : List Str := ["_law_web_here", "_law_lot_here"]
theorem scIsr : FnScope nIsr pIsr (defScope sIsr) := ⟨rfl, rfl, rfl, by decide +kernel, rfl, by decide +kernel, by decide +kernel⟩
def spIsr (K : PySem.W.Frag) : Sp := fun vs H Q _ => ∃ (v lv : V) (n : Nat) (ts : List Tie) (ks : List Nat), vs = [v, lv] ∧ Dp K H v (webD n ts) ∧ Dp K H lv (lotD ks) ∧
  (∀ t ∈ ts, t.1 < t.2 ∧ t.2 < n) ∧ (∀ k ∈ ks, k < ts.length) ∧ n ≤ 1000 ∧ ks.length ≤ 80 ∧ ∀ (b : Bool) H', Same H H' → Q (.bl b) H'
theorem flat_ints : ∀ ms : List Int, (ms.map V.int).all flatV = true
  | [] => rfl
  | m :: ms => by
    rw [List.map_cons, List.all_cons, flat_ints ms]
    rfl
theorem flat_nats (ms : List Nat) : (ms.map fun (k : Nat) => V.int k).all flatV = true := by
  have e3 : (ms.map fun (k : Nat) => V.int k) = (ms.map fun (k : Nat) => (k : Int)).map V.int := by rw [List.map_map]; rfl
  rw [e3]
  exact flat_ints _
theorem nats_ints (ms : List Nat) : (ms.map fun (k : Nat) => V.int k) = (ms.map fun (k : Nat) => (k : Int)).map V.int := by rw [List.map_map]; rfl
theorem shaped_lot (ks : List Nat) : SeqAt.shaped (lotD ks) = true := by
  have e2 : lotD ks = .tuple ((ks.map fun (k : Nat) => (k : Int)).map PyData.int) := by unfold lotD; rw [List.map_map]; rfl
  rw [e2]
  have h1 := lay_ints (ks.map fun (k : Nat) => (k : Int))
  have h2 := deep_ints (ks.map fun (k : Nat) => (k : Int))
  have h3 : PyData.depthAll ((ks.map fun (k : Nat) => (k : Int)).map PyData.int) + 1 ≤ 64 := by omega
  simp only [SeqAt.shaped, PyData.canLay0, PyData.depth, h1, Bool.true_and]
  exact decide_eq_true h3
theorem eqv_lot0 (k : Nat) (ks : List Nat) : PyData.eqv (lotD (k :: ks)) (.tuple []) = false := by rfl
section
variable {P : Program} {w : World} {K : PySem.W.Frag} {mg : Str → Option Value} {base : Heap}
theorem ok_isr {f f1 : Addr} {fd fd1 : FuncData} (D : Df K mg "_law_is_round" sIsr pIsr f fd) (T : Bl mg) (hlist : mg "list" = none)
    (D_counts : Df K mg "_law_counts" sCounts pCounts f1 fd1) : FnOk P w K mg base CX0 2 f fd pIsr (spIsr K) := by
  have G_counts : FnOk P w K mg base CX0 1 f1 fd1 pCounts (spCounts K) := ok_counts D_counts T
  refine D.fn.ok scIsr (fun vs H Q E h => ?_) (fun cdv A outer s H vs Q E hr h => ?_)
  · obtain ⟨v, lv, n, ts, ks, rfl, _⟩ := h
    rfl
  · obtain ⟨v, lv, n, ts, ks, rfl, hw, hk, hends, hks, hn, hkl, k⟩ := h
    have hr_counts : Room 1 _ := hr
    have nd := scIsr.nd
    obtain ⟨a, c, ys, rfl, ha, hc, hys⟩ := dp_web hw
    obtain ⟨al, rfl, hal⟩ := dp_lotI hk
    have tieAt : ∀ kk, kk < ts.length → ∃ ay, ys[kk]? = some (.ref ay) ∧ SqT K H ay [.int (ts.getD kk (0, 0)).1, .int (ts.getD kk (0, 0)).2] := fun kk hkm => by
      have ht : ts[kk]? = some ts[kk] := by simp [hkm]
      obtain ⟨y, hy, hyd⟩ := dpAll_at hys (show (ts.map tieD)[kk]? = some (tieD ts[kk]) by rw [List.getElem?_map, ht]; rfl)
      obtain ⟨ay, rfl, hay⟩ := dp_tie hyd
      exact ⟨ay, hy, by rw [List.getD_eq_getElem?_getD, ht]; exact hay⟩
    refine ⟨_, (pss_cons (ps_if (PW.pt (pw_or (pt_cmpR (opEqD K hr.units) (pv 1) (pe_tup pa_nil) (nomark _)) (pw_or1 (pt_cmpR (opNeD K hr.units) (pe_lc (own := [("_law_many", 7)]) (g := (gName 7)) rfl nd (piL K (pe_call G_counts hr_counts (by rfl) D_counts.ad D_counts.fn.kp D_counts.bd .nil pass0 (pa_cons (pv 0) (pa_cons (pv 1) pa_nil)))) (blkOk_by (own := [("_law_many", 7)]) (N := nIsr) (sc := defScope sIsr) (by decide +kernel)) (fun _ _ _ _ _ => (pg_name (i := 7) nd rfl (by first | exact Or.inl rfl | exact Or.inr rfl))) (fun _ _ _ _ _ => (pts_one (pt_cmpR (opNotIn K) (pv 7) (pe_tup (pa_cons pe_int (pa_cons pe_int pa_nil))) rfl))) (fun _ _ _ _ _ => pe_int)) (pe_lst pa_nil) (nomark _))))) (pss_one (ps_ret pe_bl)) pss_nil)
      (pss_cons (ps_asg (pe_tup (pa_cons (pe_callTy (listK K) (by rfl) hlist (by decide +kernel) (pa_cons (pe_ix (ixT K) (pe_ix (ixT K) (pv 0) pe_int (fun _ _ => rfl)) (pe_ix (ixT K) (pv 1) pe_int (fun _ _ => rfl)) (fun _ _ => rfl)) pa_nil)) (pa_cons (pe_callTy (listK K) (by rfl) hlist (by decide +kernel) (pa_cons (pe_slice (slTA K) (pv 1) (po_some pe_int) po_none) pa_nil)) pa_nil))) (pgT K rfl (pgs_cons (pg_name (i := 2) nd rfl (by first | exact Or.inl rfl | exact Or.inr rfl)) (pgs_cons (pg_name (i := 3) nd rfl (by first | exact Or.inl rfl | exact Or.inr rfl)) pgs_nil))))
      (pss_cons (ps_for PassesOwn.never rfl (pi_range1 rfl T.range (pa_cons (pe_callB (lenK K) (by rfl) T.len PySem.boot_len (pa_cons (pv 1) pa_nil)) pa_nil)) (pg_name (i := 4) nd rfl (by first | exact Or.inl rfl | exact Or.inr rfl)) (pss_cons (ps_set (i := 5) nd rfl (by first | exact Or.inl rfl | exact Or.inr rfl) (pe_lc (own := [("_law_tie", 6)]) (g := (gName 6)) rfl nd (piL K (pv 3)) (blkOk_by (own := [("_law_tie", 6)]) (N := nIsr) (sc := defScope sIsr) (by decide +kernel)) (fun _ _ _ _ _ => (pg_name (i := 6) nd rfl (by first | exact Or.inl rfl | exact Or.inr rfl))) (fun _ _ _ _ _ => (pts_one (PW.pt (pw_or (pt_cmpR (opIn K) (pe_ix (ixT K) (pe_ix (ixT K) (pe_ix (ixT K) (pv 0) pe_int (fun _ _ => rfl)) (pv 6) (fun _ _ => rfl)) pe_int (fun _ _ => rfl)) (pv 2) rfl) (pw_or1 (pt_cmpR (opIn K) (pe_ix (ixT K) (pe_ix (ixT K) (pe_ix (ixT K) (pv 0) pe_int (fun _ _ => rfl)) (pv 6) (fun _ _ => rfl)) pe_int (fun _ _ => rfl)) (pv 2) rfl)))))) (fun _ _ _ _ _ => (pv 6))))
      (pss_cons (ps_for PassesOwn.never rfl (piL K (pv 5)) (pg_name (i := 6) nd rfl (by first | exact Or.inl rfl | exact Or.inr rfl)) (pss_one (ps_set (i := 2) nd rfl (by first | exact Or.inl rfl | exact Or.inr rfl) (pe_op op_cat (pv 2) (pe_callTy (listK K) (by rfl) hlist (by decide +kernel) (pa_cons (pe_ix (ixT K) (pe_ix (ixT K) (pv 0) pe_int (fun _ _ => rfl)) (pv 6) (fun _ _ => rfl)) pa_nil))))))
      (pss_one (ps_setLc (i := 3) (own := [("_law_tie", 6)]) (g := (gName 6)) rfl nd rfl rfl (sw_true rfl rfl rfl (by decide +kernel)) (piL K (pv 3)) (blkOk_by (own := [("_law_tie", 6)]) (N := nIsr) (sc := defScope sIsr) (by decide +kernel)) (fun _ _ _ _ _ => (pg_name (i := 6) nd rfl (by first | exact Or.inl rfl | exact Or.inr rfl))) (fun _ _ _ _ _ => (pts_one (pt_cmpR (opNotIn K) (pv 6) (pv 5) rfl))) (fun _ _ _ _ _ => (pv 6)))))))
      (pss_one (ps_ret (pe_cmpR (opEqD K hr.units) (pv 3) (pe_lst pa_nil) (nomark _))))))), ?_⟩
    show tSeq _ _ _ _ _
    refine tSeq_go ?_
    refine tIfS_t (fun b H' => Same H H' ∧ (b = false → ks ≠ [])) ?_ ?_ (fun cont => ?_)
    · rintro H' ⟨sH, _⟩
      exact k _ _ sH
    · rintro H1 ⟨sH, hne⟩
      have hne := hne rfl
      obtain ⟨k0, kr, rfl⟩ : ∃ k0 kr, ks = k0 :: kr := List.exists_cons_of_ne_nil hne
      clear hne
      have hk0 := hks k0 (List.mem_cons_self ..)
      obtain ⟨ay0, hy0, hay0⟩ := tieAt k0 hk0
      generalize hG : List.map (fun (k : Nat) => V.int k) (k0 :: kr) = lotV at *
      show tSeq _ _ _ _ _
      refine tSeq_go ?_
      refine ⟨_, rfl, a, _, _, _, rfl, rfl, sqT_same sH ha, atI_nat (j := 1) rfl, ?_⟩
      refine ⟨_, rfl, al, _, _, _, rfl, rfl, sqT_same sH hal, atI_nat (j := 0) (by rw [← hG]; rfl), c, _, _, _, rfl, rfl, sqT_same sH hc, atI_nat hy0, ?_⟩
      refine ⟨ay0, _, rfl, .inr (sqT_same sH hay0), fun m hm => ?_⟩
      have s1 : Same H1 (upd H1 m (.lst [.int (ts.getD k0 (0, 0)).1, .int (ts.getD k0 (0, 0)).2])) := same_new hm
      have hcut : cutV lotV (some 1) none = kr.map fun (k : Nat) => V.int k := by
        rw [← hG]
        show List.take _ (List.drop (min 1 (kr.map fun (k : Nat) => V.int k).length.succ) _) = _
        rw [Nat.min_eq_left (by omega)]
        exact List.take_of_length_le (by
          show _ ≤ (kr.map fun (k : Nat) => V.int k).length.succ - min 1 (kr.map fun (k : Nat) => V.int k).length.succ
          rw [Nat.min_eq_left (by omega)]
          exact Nat.le_refl _)
      refine ⟨_, rfl, 1, rfl, al, lotV, rfl, sqT_same (sH.trans s1) hal, fun z => ?_, fun _ p hp => ?_⟩
      · exfalso
        have h0 : min 1 lotV.length = 0 := z.1
        rw [← hG] at h0
        have : (List.map (fun (k : Nat) => V.int k) (k0 :: kr)).length = kr.length + 1 := by rw [List.length_map]; rfl
        omega
      rw [hcut]
      have s2 := same_new (o := .tup (kr.map fun (k : Nat) => V.int k)) hp
      refine ⟨p, _, rfl, .inr (SqT.of upd_same), fun r hr => ?_⟩
      have s3 := same_new (o := .lst (kr.map fun (k : Nat) => V.int k)) hr
      refine ⟨by show 2 ≤ sizeLine; decide, fun p2 hp2 => ?_⟩
      have s4 := same_new (o := .tup [.ref m, .ref r]) hp2
      have hmH : H m = none := Same.free sH hm
      have hM := s4 _ _ (s3 _ _ (s2 _ _ (upd_same (H := H1) (a := m) (o := .lst [.int (ts.getD k0 (0, 0)).1, .int (ts.getD k0 (0, 0)).2]))))
      have hlv : lotV.length = kr.length + 1 := by rw [← hG, List.length_map]; rfl
      have hkr : kr.length + 1 ≤ 80 := hkl
      have hRr := s4 _ _ (upd_same (a := r) (o := .lst (kr.map fun (k : Nat) => V.int k)))
      refine ⟨p2, _, rfl, SqT.of upd_same, rfl, _, _, rfl, _, _, rfl, rfl, ?_⟩
      have S4 := sH.trans (s1.trans (s2.trans (s3.trans s4)))
      generalize upd (upd (upd (upd H1 m (HO.lst [V.int ↑(ts.getD k0 (0, 0)).fst, V.int ↑(ts.getD k0 (0, 0)).snd])) p (HO.tup (List.map (fun (k : Nat) => V.int ↑k) kr))) r (HO.lst (List.map (fun (k : Nat) => V.int ↑k) kr))) p2 (HO.tup [V.ref m, V.ref r]) = H4 at hM hRr S4
      clear s1 s2 s3 s4 hp2 hr hp hm
      refine ⟨_, rfl, al, lotV, rfl, .inr (sqT_same S4 hal), _, rfl, by omega, by omega, ?_⟩
      refine for_range (lo := 0) (n := (lotV.length : Int).toNat) (fun i σ Hc => ∃ (v4 v5 v6 : Option V) (m r : Addr) (met : List Int) (rest : List Nat),
        σ = [some (.ref a), some (.ref al), some (.ref m), some (.ref r), v4, v5, v6, none] ∧ Same H Hc ∧ Hc m = some (.lst (met.map V.int)) ∧
        Hc r = some (.lst (rest.map fun (k : Nat) => V.int k)) ∧ met.length ≤ 2 + 160 * i ∧ (∀ k ∈ rest, k < ts.length) ∧ rest.length ≤ 80) ?_ ?_ ?_
      · exact ⟨none, none, none, m, r, [((ts.getD k0 (0, 0)).1 : Int), ((ts.getD k0 (0, 0)).2 : Int)], kr, rfl, S4, hM, hRr, by simp, fun k hk => hks k (List.mem_cons_of_mem _ hk), by omega⟩
      · clear hM hRr S4 m r hmH
        rintro i σ Hc hi ⟨v4, v5, v6, m, r, met, rest, rfl, sC, hM, hR, hml, hrest, hrl⟩
        have hi2 : i < 80 := by omega
        rw [Int.zero_add]
        show tSeq _ _ _ _ _
        refine tSeq_go ?_
        -- further
        refine tAsg_by (fun v H' => ∃ (fa : Addr) (fs : List Nat), v = .ref fa ∧ Same Hc H' ∧ H' fa = some (.lst (fs.map fun (k : Nat) => V.int k)) ∧ (∀ k ∈ fs, k < ts.length) ∧ fs.length ≤ 80) ?_ (fun cont => ?_)
        · rintro _ H5 ⟨fa, fs, rfl, s5, hF, hfs, hfl⟩
          have hM5 := s5 _ _ hM
          have hR5 := s5 _ _ hR
          have sC5 := sC.trans s5
          show tSeq _ _ _ _ _
          refine tSeq_go ?_
          -- the places met
          refine ⟨_, rfl, fa, rfl, ⟨_, SqL.of hF⟩, for_it (walk_list (xs := fs.map fun (k : Nat) => V.int k)) (fun j σ H' => ∃ (v6 : Option V) (m : Addr) (met' : List Int),
            σ = [some (.ref a), some (.ref al), some (.ref m), some (.ref r), some (.int i), some (.ref fa), v6, none] ∧ Same H5 H' ∧
            H' m = some (.lst (met'.map V.int)) ∧ met'.length ≤ 2 + 160 * i + 2 * j) ?_ ?_ ?_ ?_⟩
          · exact ⟨v6, m, met, rfl, Same.refl _, hM5, by omega⟩
          · rintro j σ H' _ ⟨v6, m, met', rfl, h1, _⟩
            exact SqL.of (h1 _ _ hF)
          · rintro j x σ H' H'' hj ⟨v6, m, met', rfl, h1, h2, h3⟩ ⟨rfl, hx⟩
            obtain ⟨kk, hkk, rfl⟩ := get_map hx
            obtain ⟨ay, hy, hay⟩ := tieAt kk (hfs kk (List.mem_of_getElem? hkk))
            rw [List.length_map] at hj
            have sA := sC5.trans h1
            refine ⟨_, rfl, _, rfl, a, _, _, _, rfl, rfl, sqT_same sA ha, atI_nat (j := 1) rfl, ?_⟩
            refine ⟨_, rfl, c, _, _, _, rfl, rfl, sqT_same sA hc, atI_nat hy, ?_⟩
            refine ⟨ay, _, rfl, .inr (sqT_same sA hay), fun q hq => ?_⟩
            have sq := same_new (o := .lst [.int (ts.getD kk (0, 0)).1, .int (ts.getD kk (0, 0)).2]) hq
            refine ⟨m, q, _, [.int (ts.getD kk (0, 0)).1, .int (ts.getD kk (0, 0)).2], rfl, rfl, sq _ _ h2, upd_same, ?_, fun m2 hm2 => ?_⟩
            · rw [List.length_map]
              exact Nat.le_trans (show met'.length + 2 ≤ 100000 by omega) (by decide)
            · refine ⟨_, m2, met' ++ [((ts.getD kk (0, 0)).1 : Int), ((ts.getD kk (0, 0)).2 : Int)], rfl, h1.trans (sq.trans (same_new hm2)), ?_, ?_⟩
              · rw [upd_same, List.map_append]
                rfl
              · rw [List.length_append]
                show met'.length + 2 ≤ _
                omega
          · rintro σ H6 ⟨v6, m, met', rfl, h1, h2, h3⟩
            rw [List.length_map] at h3
            have sA := sC5.trans h1
            -- the rest
            refine ⟨_, rfl, r, rfl, ⟨_, SqL.of (h1 _ _ hR5)⟩, fun E1 hE1 => ?_⟩
            refine lc_run (walk_list (xs := rest.map fun (k : Nat) => V.int k)) hE1 (fun i acc _ => ∃ zs : List Nat, acc = (zs.map fun (k : Nat) => V.int k) ∧ zs.length ≤ i ∧ ∀ k ∈ zs, k < ts.length) ?_ ?_ ?_ ?_
            · exact fun H' s => SqL.of (s _ _ (h1 _ _ hR5))
            · exact ⟨[], rfl, Nat.le_refl _, by simp⟩
            · rintro i x acc H2 H' hi hacc e s ⟨zs, rfl, hz, hzk⟩ ⟨rfl, hx⟩
              obtain ⟨kk, hkk, rfl⟩ := get_map hx
              rw [List.length_map] at hi
              refine ⟨rfl, ?_⟩
              refine ⟨_, rfl, _, rfl, fa, _, rfl, .inl (SqL.of (s _ _ (h1 _ _ hF))), rfl, flat_nats fs, _, rfl, ?_⟩
              refine ite2 (fun hh => ?_) (fun hh => ?_)
              · refine ⟨_, rfl, ?_⟩
                refine lc_add hacc e (Same.refl _) (by rw [List.length_map]; omega) ⟨zs ++ [kk], by rw [List.map_append]; rfl, by rw [List.length_append, List.length_singleton]; omega, fun k hk => ?_⟩
                rcases List.mem_append.mp hk with q | q
                · exact hzk k q
                · rw [List.mem_singleton.mp q]
                  exact hrest kk (List.mem_of_getElem? hkk)
              · exact lc_skip hacc e (Same.refl _) ⟨zs, rfl, by omega, hzk⟩
            · rintro acc H2 g1 s2 ⟨zs, rfl, hz, hzk⟩
              rw [List.length_map] at hz
              exact ⟨_, _, _, m, E1, met', zs, rfl, sA.trans s2, s2 _ _ h2, g1, by omega, hzk, by omega⟩
        · refine ⟨_, rfl, r, rfl, ⟨_, SqL.of hR⟩, fun E1 hE1 => ?_⟩
          refine lc_run (walk_list (xs := rest.map fun (k : Nat) => V.int k)) hE1 (fun i acc _ => ∃ zs : List Nat, acc = (zs.map fun (k : Nat) => V.int k) ∧ zs.length ≤ i ∧ ∀ k ∈ zs, k < ts.length) ?_ ?_ ?_ ?_
          · exact fun H' s => SqL.of (s _ _ hR)
          · exact ⟨[], rfl, Nat.le_refl _, by simp⟩
          · rintro i x acc H2 H' hi hacc e s ⟨zs, rfl, hz, hzk⟩ ⟨rfl, hx⟩
            obtain ⟨kk, hkk, rfl⟩ := get_map hx
            rw [List.length_map] at hi
            have hkt := hrest kk (List.mem_of_getElem? hkk)
            obtain ⟨ay, hy, hay⟩ := tieAt kk hkt
            have sA := sC.trans s
            refine ⟨rfl, ?_⟩
            refine ⟨_, rfl, a, _, _, _, rfl, rfl, sqT_same sA ha, atI_nat (j := 1) rfl, ?_⟩
            refine ⟨_, rfl, c, _, _, _, rfl, rfl, sqT_same sA hc, atI_nat hy, ?_⟩
            refine ⟨ay, _, _, _, rfl, rfl, sqT_same sA hay, atI_nat (j := 0) rfl, ?_⟩
            refine ⟨_, rfl, m, _, rfl, .inl (SqL.of (s _ _ hM)), rfl, flat_ints met, _, rfl, ?_⟩
            have go : ∃ acc, H' E1 = some (.lst acc) ∧ acc.length < sizeLine ∧ LcI Hc E1 (fun i acc _ => ∃ zs : List Nat, acc = (zs.map fun (k : Nat) => V.int k) ∧ zs.length ≤ i ∧ ∀ k ∈ zs, k < ts.length) (i + 1) (upd H' E1 (.lst (acc ++ [.int kk]))) := by
              refine lc_add hacc e (Same.refl _) (by rw [List.length_map]; omega) ⟨zs ++ [kk], by rw [List.map_append]; rfl, by rw [List.length_append, List.length_singleton]; omega, fun k hk => ?_⟩
              rcases List.mem_append.mp hk with q | q
              · exact hzk k q
              · rw [List.mem_singleton.mp q]
                exact hkt
            refine ite2 (fun hh => ?_) (fun hh => ?_)
            · exact ⟨_, rfl, go⟩
            · refine ⟨_, rfl, a, _, _, _, rfl, rfl, sqT_same sA ha, atI_nat (j := 1) rfl, ?_⟩
              refine ⟨_, rfl, c, _, _, _, rfl, rfl, sqT_same sA hc, atI_nat hy, ?_⟩
              refine ⟨ay, _, _, _, rfl, rfl, sqT_same sA hay, atI_nat (j := 1) rfl, ?_⟩
              refine ⟨_, rfl, m, _, rfl, .inl (SqL.of (s _ _ hM)), rfl, flat_ints met, _, rfl, ?_⟩
              refine ite2 (fun hh => ?_) (fun hh => ?_)
              · exact ⟨_, rfl, go⟩
              · exact lc_skip hacc e (Same.refl _) ⟨zs, rfl, by omega, hzk⟩
          · rintro acc H2 g1 s2 ⟨zs, rfl, hz, hzk⟩
            rw [List.length_map] at hz
            exact cont _ _ ⟨E1, zs, rfl, s2, g1, hzk, by omega⟩
      · rintro σ Hc ⟨v4, v5, v6, m, r, met, rest, rfl, sC, hM, hR, hml, hrest, hrl⟩
        refine ⟨_, rfl, Nat.zero_le _, fun p hp => ?_⟩
        have sp := same_new (o := .lst []) hp
        rw [nats_ints] at hR
        refine ⟨.list ((rest.map fun (k : Nat) => (k : Int)).map PyData.int), .list [], .lst (SqL.of (sp _ _ hR)) (dpAll_ints _), .lst (SqL.of upd_same) .nil, shaped_intsL _, shaped_intsL [], ?_⟩
        exact k _ _ (sC.trans sp)
    · refine ⟨_, rfl, Nat.zero_le _, fun p0 hp0 => ?_⟩
      have s0 : Same H (upd H p0 (.tup [])) := same_new hp0
      refine ⟨lotD ks, .tuple [], dp_same s0 _ hk, .tup (SqT.of upd_same) .nil, shaped_lot ks, by rfl, _, rfl, ?_⟩
      cases ks with
      | nil =>
        refine iteT ?_
        exact cont true _ ⟨s0, fun z => by cases z⟩
      | cons k0 kr =>
        rw [eqv_lot0]
        refine iteF ?_
        refine ⟨_, rfl, _, rfl, _, _, n, ts, k0 :: kr, rfl, dp_same s0 _ hw, dp_same s0 _ hk, hends, hks, hn, fun l ms H1 s1 hl hml => ?_⟩
        refine ⟨l, rfl, ⟨_, SqL.of hl⟩, fun E1 hE1 => ?_⟩
        refine lc_run (walk_list (xs := ms.map V.int)) hE1 (fun i acc _ => ∃ zs : List Int, acc = zs.map V.int ∧ zs.length ≤ i) ?_ ?_ ?_ ?_
        · exact fun H' s => SqL.of (s _ _ hl)
        · exact ⟨[], rfl, Nat.le_refl _⟩
        · rintro i x acc H2 H' hi hacc e s ⟨zs, rfl, hz⟩ ⟨rfl, hx⟩
          obtain ⟨z, hz', rfl⟩ := ints_at hx
          refine ⟨rfl, ?_⟩
          refine ⟨_, rfl, by show 2 ≤ sizeLine; decide, fun p hp => ?_⟩
          have sp : Same H' (upd H' p (.tup [.int 0, .int 2])) := same_new hp
          refine ⟨p, _, rfl, .inr (SqT.of upd_same), rfl, rfl, _, rfl, ?_⟩
          have hil : i < 1000 := by rw [List.length_map] at hi; omega
          refine ite2 (fun hh => ?_) (fun hh => ?_)
          · refine lc_add hacc e sp (by rw [List.length_map]; omega) ⟨zs ++ [1], by rw [List.map_append]; rfl, by rw [List.length_append, List.length_singleton]; omega⟩
          · exact lc_skip hacc e sp ⟨zs, rfl, by omega⟩
        · rintro acc H2 h1 s2 ⟨zs, rfl, _⟩
          refine ⟨Nat.zero_le _, fun p hp => ?_⟩
          have sp : Same H2 (upd H2 p (.lst [])) := same_new hp
          refine ⟨.list (zs.map PyData.int), .list [], .lst (SqL.of (sp _ _ h1)) (dpAll_ints zs), .lst (SqL.of upd_same) .nil, shaped_intsL zs, shaped_intsL [], _, rfl, ?_⟩
          exact cont _ _ ⟨s0.trans (s1.trans (s2.trans sp)), fun _ => by simp⟩
end
end BV

namespace BV
open PySem L2
local macro_rules | `(tactic| walk_at "rd") => `(tactic| (repeat (first | refine ⟨_, rfl, ?_⟩ | refine ⟨_, _, rfl, rfl, ?_⟩ | refine Or.inl ⟨_, rfl, ?_⟩ | refine Or.inr ⟨_, rfl, ?_⟩ | refine ⟨_, _, rfl, ?_⟩)))
abbrev sRounds : Stmt := top 20
abbrev nRounds : List Str := ["_law_web_here", "_law_found", "_law_number", "_law_lot_here"]
theorem scRounds : FnScope nRounds ["_law_web_here"] (defScope sRounds) := ⟨rfl, rfl, rfl, by decide +kernel, rfl, by decide +kernel, by decide +kernel⟩
def LotOk (L : Nat) (ks : List Nat) : Prop := (∀ k ∈ ks, k < L) ∧ ks.Nodup ∧ ks.length ≤ 12
def spRounds (K : PySem.W.Frag) : Sp := fun vs H Q _ => ∃ (v : V) (n : Nat) (ts : List Tie), vs = [v] ∧ Dp K H v (webD n ts) ∧
  (∀ t ∈ ts, t.1 < t.2 ∧ t.2 < n) ∧ n ≤ 1000 ∧ ts.length ≤ 12 ∧
  ∀ (l : Addr) (xs : List V) (ls : List (List Nat)) H', H l = none → Same H H' → H' l = some (.lst xs) → DpAll K H' xs (ls.map lotD) → (∀ ks ∈ ls, LotOk ts.length ks) → ls.length ≤ 5000 → Q (.ref l) H'
def spStd (K : PySem.W.Frag) : Sp := fun vs H Q _ => ∃ (b g : Addr) (v : V) (n : Nat) (ts : List Tie), vs = [.ref b, v] ∧ Box H b g ∧ Dp K H v (webD n ts) ∧ ts.length ≤ 3000 ∧
  ∀ (u : V) (f : Nat → Int) H', Kp b g H H' → Box H' b g → (∀ k, (f k).natAbs ≤ 10 ^ 12) → Dp K H' u (numsD ts.length f) → Q u H'
def spIsstd (K : PySem.W.Frag) : Sp := fun vs H Q _ => ∃ (v : V) (L : Nat) (f : Nat → Int), vs = [v] ∧ Dp K H v (numsD L f) ∧ L ≤ 3000 ∧ ∀ (b : Bool) H', Same H H' → Q (.bl b) H'
theorem kp_old {b g l : Addr} {H H' : Hp} {o : HO} (h : H l = none) (k : Kp b g H H') : Kp b g H (upd H' l o) := fun a x e n1 n2 => by
  rw [upd_ne (ne_of_none e h)]
  exact k _ _ e n1 n2
theorem box_old {b g l : Addr} {H : Hp} {o : HO} (x : Box H b g) (h1 : l ≠ b) (h2 : l ≠ g) : Box (upd H l o) b g := by
  obtain ⟨⟨st, c, x1⟩, ns, x2, x3⟩ := x
  exact ⟨⟨st, c, by rw [upd_ne h1.symm]; exact x1⟩, ns, by rw [upd_ne h2.symm]; exact x2, x3⟩
theorem box_ne {b g l : Addr} {H : Hp} (x : Box H b g) (h : H l = none) : l ≠ b ∧ l ≠ g := by
  obtain ⟨⟨st, c, x1⟩, ns, x2, x3⟩ := x
  exact ⟨fun e => (by rw [e, x1] at h; cases h), fun e => (by rw [e, x2] at h; cases h)⟩
theorem still_lots : ∀ ls : List (List Nat), stillAll (ls.map lotD) = true
  | [] => by simp [stillAll]
  | l :: ls => by
    have h := still_lot l
    simp only [List.map_cons, stillAll, still_lots ls, h, Bool.and_self]
theorem numsV_succ (L : Nat) (f : Nat → Int) : numsV (L + 1) f = numsV L f ++ [.int (f L)] := by
  unfold numsV
  rw [List.range_succ, List.map_append]
  rfl
section
variable {P : Program} {w : World} {K : PySem.W.Frag} {mg : Str → Option Value} {base : Heap}
theorem ok_rounds {f f1 f2 f3 f4 : Addr} {fd fd1 fd2 fd3 fd4 : FuncData} (D : Df K mg "_law_rounds" sRounds ["_law_web_here"] f fd) (T : Bl mg) (hlist : mg "list" = none)
    (D_counts : Df K mg "_law_counts" sCounts pCounts f1 fd1) (D_lot : Df K mg "_law_lot" sLot pLot f2 fd2) (D_twos : Df K mg "_law_twos" sTwos ["_law_many"] f3 fd3)
    (D_isr : Df K mg "_law_is_round" sIsr pIsr f4 fd4) : FnOk P w K mg base CX0 3 f fd ["_law_web_here"] (spRounds K) := by
  have G_lot : FnOk P w K mg base CX0 1 f2 fd2 pLot (spLot K) := ok_lot D_lot T
  have G_twos : FnOk P w K mg base CX0 1 f3 fd3 ["_law_many"] spTwos := ok_twos D_twos T
  have G_isr : FnOk P w K mg base CX0 2 f4 fd4 pIsr (spIsr K) := ok_isr D_isr T hlist D_counts
  refine D.fn.ok scRounds (fun vs H Q E h => ?_) (fun cdv A outer s H vs Q E hr h => ?_)
  · obtain ⟨v, n, ts, rfl, _⟩ := h
    rfl
  · obtain ⟨v, n, ts, rfl, hw, hends, hn, hl, k⟩ := h
    have hr_isr : Room 2 _ := hr
    have hr_lot : Room 1 _ := hr.mono (by decide)
    have hr_twos : Room 1 _ := hr.mono (by decide)
    have nd := scRounds.nd
    obtain ⟨a, c, ys, rfl, ha, hc, hys⟩ := dp_web hw
    have hyl : ys.length = ts.length := by rw [dpAll_len hys, List.length_map]
    refine ⟨_, (pss_cons (ps_set (i := 1) nd rfl (by first | exact Or.inl rfl | exact Or.inr rfl) (pe_lst pa_nil))
      (pss_cons (ps_for PassesOwn.never rfl (pi_range2 rfl T.range (pa_cons pe_int (pa_cons (pe_call G_twos hr_twos (by rfl) D_twos.ad D_twos.fn.kp D_twos.bd .nil pass0 (pa_cons (pe_callB (lenK K) (by rfl) T.len PySem.boot_len (pa_cons (pe_ix (ixT K) (pv 0) pe_int (fun _ _ => rfl)) pa_nil)) pa_nil)) pa_nil))) (pg_name (i := 2) nd rfl (by first | exact Or.inl rfl | exact Or.inr rfl)) (pss_cons (ps_set (i := 3) nd rfl (by first | exact Or.inl rfl | exact Or.inr rfl) (pe_call G_lot hr_lot (by rfl) D_lot.ad D_lot.fn.kp D_lot.bd .nil pass0 (pa_cons (pv 0) (pa_cons (pv 2) pa_nil))))
      (pss_one (ps_if (pt_val (pe_call G_isr hr_isr (by rfl) D_isr.ad D_isr.fn.kp D_isr.bd .nil pass0 (pa_cons (pv 0) (pa_cons (pv 3) pa_nil)))) (pss_one (ps_expr (pe_bm PySem.F.plainAttrs_list PySem.F.slot_list_append PySem.F.type_list_append mt_append (pv 1) (pa_cons (pv 3) pa_nil)))) pss_nil))))
      (pss_one (ps_ret (pv 1))))), ?_⟩
    refine ⟨Nat.zero_le _, fun l hln => ?_⟩
    have s0 : Same H (upd H l (.lst [])) := same_new hln
    refine ⟨_, rfl, a, _, _, _, rfl, rfl, sqT_same s0 ha, atI_nat (j := 1) rfl, ?_⟩
    refine ⟨c, ys, rfl, .inr (sqT_same s0 hc), ?_⟩
    refine ⟨ys.length, rfl, by omega, ?_⟩
    have h1 : (2 : Int) ^ ys.length ≤ 2 ^ 12 := by
      have : (2 : Nat) ^ ys.length ≤ 2 ^ 12 := Nat.pow_le_pow_right (by decide) (by omega)
      exact_mod_cast this
    have h0 : (0 : Int) < 2 ^ ys.length := Int.pow_pos (by decide)
    refine ⟨_, _, rfl, ⟨by decide, by decide, by omega, by omega⟩, ?_⟩
    refine for_range (fun i σ H' => ∃ (v2 v3 : Option V) (xs : List V) (ls : List (List Nat)), σ = [some (.ref a), some (.ref l), v2, v3] ∧ Same H H' ∧
      H' l = some (.lst xs) ∧ DpAll K H' xs (ls.map lotD) ∧ (∀ ks ∈ ls, LotOk ts.length ks) ∧ ls.length ≤ i) ?_ ?_ ?_
    · exact ⟨none, none, [], [], rfl, s0, upd_same, .nil, by simp, Nat.le_refl _⟩
    · rintro i σ H' hi ⟨v2, v3, xs, ls, rfl, sH, hL, hdp, hls, hlen⟩
      have hxl : xs.length = ls.length := by rw [dpAll_len hdp, List.length_map]
      show tSeq _ _ _ _ _
      refine tSeq_go ?_
      refine ⟨_, rfl, _, rfl, _, n, ts, _, rfl, dp_same sH _ hw, by omega, fun u ks H2 s2 hu hk1 hk2 hk3 => ?_⟩
      refine ⟨_, rfl, _, rfl, _, _, n, ts, ks, rfl, dp_same (sH.trans s2) _ hw, hu, hends, hk1, hn, by omega, fun b H3 s3 => ?_⟩
      refine ⟨_, rfl, ?_⟩
      have sH3 := sH.trans (s2.trans s3)
      have hL3 := s3 _ _ (s2 _ _ hL)
      have hdp3 := dpAll_same (s2.trans s3) _ hdp
      refine ite2 (fun hh => ?_) (fun hh => ?_)
      · refine ⟨_, rfl, .inl ⟨rfl, _, SqL.of hL3⟩, _, rfl, l, _, _, rfl, rfl, hL3, ?_, ?_⟩
        · exact Nat.lt_of_lt_of_le (show xs.length < 100000 by omega) (by decide)
        refine ⟨_, _, xs ++ [u], ls ++ [ks], rfl, same_old hln sH3, upd_same, ?_, ?_, ?_⟩
        · rw [List.map_append]
          have kf : KF H3 (upd H3 l (.lst (xs ++ [u]))) := KF.of_upd hL3
          exact dpAll_app (dpAll_kf kf _ (still_lots ls) hdp3) (.cons (dp_kf kf _ (still_lot ks) (dp_same s3 _ hu)) .nil)
        · intro q hq
          rcases List.mem_append.mp hq with z | z
          · exact hls q z
          · rw [List.mem_singleton.mp z]
            exact ⟨hk1, hk2, by omega⟩
        · rw [List.length_append, List.length_singleton]
          omega
      · exact ⟨_, _, xs, ls, rfl, sH3, hL3, hdp3, hls, by omega⟩
    · rintro σ H' ⟨v2, v3, xs, ls, rfl, sH, hL, hdp, hls, hlen⟩
      exact ⟨_, rfl, k l xs ls H' hln sH hL hdp hls (by omega)⟩
end
end BV

namespace BV
open PySem L2
abbrev sDeeds : Stmt := top 21
abbrev nDeeds : List Str := ["_law_box_here", "_law_web_here", "_law_every", "_law_many", "_law_most", "_law_found", "_law_turn", "_law_small", "_law_times"]
abbrev pDeeds : List Str := ["_law_box_here", "_law_web_here", "_law_every", "_law_many", "_law_most"]
theorem scDeeds : FnScope nDeeds pDeeds (defScope sDeeds) := ⟨rfl, rfl, rfl, by decide +kernel, rfl, by decide +kernel, by decide +kernel⟩
abbrev sLdone : Stmt := top 22
abbrev nLdone : List Str := ["_law_web_here", "_law_standing", "_law_deeds_here", "_law_rows", "_law_found", "_law_word", "_law_about", "_law_times", "_law_tie", "_law_ends"]
abbrev pLdone : List Str := ["_law_web_here", "_law_standing", "_law_deeds_here"]
theorem scLdone : FnScope nLdone pLdone (defScope sLdone) := ⟨rfl, rfl, rfl, by decide +kernel, rfl, by decide +kernel, by decide +kernel⟩
/-- a deed that was drawn -/
def Fit (n L : Nat) (B : Nat) (d : Deed) : Prop := d.times.natAbs ≤ B ∧ match d with
  | .star p _ => p < n
  | .round ks _ => LotOk L ks
theorem Fit.ok {n : Nat} {ts : List Tie} {B : Nat} {d : Deed} (h : Fit n ts.length B d) : d.Ok ts := by
  cases d with
  | star p t => exact trivial
  | round ks t => exact ⟨h.2.1, h.2.2.1⟩
def spDeeds (K : PySem.W.Frag) : Sp := fun vs H Q _ => ∃ (b g l : Addr) (v : V) (n : Nat) (ts : List Tie) (xs : List V) (ls : List (List Nat)) (many : Nat) (most : Int),
  vs = [.ref b, v, .ref l, .int many, .int most] ∧ Box H b g ∧ Dp K H v (webD n ts) ∧ 1 ≤ n ∧ n ≤ 1000 ∧ H l = some (.lst xs) ∧ DpAll K H xs (ls.map lotD) ∧ l ≠ b ∧ l ≠ g ∧
  (∀ ks ∈ ls, LotOk ts.length ks) ∧ ls.length ≤ 5000 ∧ many ≤ 100 ∧
  ∀ (u : V) (ds : List Deed) H', Kp b g H H' → Box H' b g → Dp K H' u (.tuple (ds.map Deed.D)) → ds.length = many → (∀ d ∈ ds, Fit n ts.length (most.natAbs + 6) d) → Q u H'
def rowsD (ts : List Tie) (f : Nat → Int) (ds : List Deed) (i : Nat) : PyData := numsD ts.length (behind ts f (ds.take i))
def spLdone (K : PySem.W.Frag) : Sp := fun vs H Q _ => ∃ (v sv dv : V) (n : Nat) (ts : List Tie) (f : Nat → Int) (ds : List Deed), vs = [v, sv, dv] ∧
  Dp K H v (webD n ts) ∧ Dp K H sv (numsD ts.length f) ∧ Dp K H dv (.tuple (ds.map Deed.D)) ∧ ts.length ≤ 3000 ∧ ds.length ≤ 3000 ∧
  ∀ (l : Addr) (xs : List V) H', Same H H' → H' l = some (.lst xs) → DpAll K H' xs ((List.range (ds.length + 1)).map (rowsD ts f ds)) → Q (.ref l) H'
theorem inv_nats (k : Nat) : ∀ ks : List Nat, inV (.int (k : Int)) (ks.map fun (k : Nat) => V.int k) = decide (k ∈ ks)
  | [] => by simp [inV]
  | x :: ks => by
    have ih := inv_nats k ks
    have e : (((x : Nat) : Int) == (k : Int)) = decide (k = x) := by
      by_cases h : k = x
      · subst h
        simp
      · rw [decide_eq_false h]
        exact beq_eq_false_iff_ne.mpr fun z => h (by omega)
    show ((((x : Nat) : Int) == (k : Int)) || inV (.int (k : Int)) (ks.map fun (k : Nat) => V.int k)) = _
    rw [e, ih, ← Bool.decide_or]
    congr 1
    simp
theorem lay_lots : ∀ ls : List (List Nat), PyData.canLayAll0 (ls.map lotD) = true ∧ PyData.depthAll (ls.map lotD) ≤ 3
  | [] => by simp [PyData.canLayAll0, PyData.depthAll]
  | l :: ls => by
    obtain ⟨h1, h2⟩ := lay_lots ls
    have e2 : lotD l = .tuple ((l.map fun (k : Nat) => (k : Int)).map PyData.int) := by unfold lotD; rw [List.map_map]; rfl
    have g1 := lay_ints (l.map fun (k : Nat) => (k : Int))
    have g2 := deep_ints (l.map fun (k : Nat) => (k : Int))
    rw [List.map_cons, e2]
    simp only [PyData.canLayAll0, PyData.canLay0, PyData.depthAll, PyData.depth, g1, h1, Bool.and_self, true_and]
    omega
theorem shaped_lots (ls : List (List Nat)) : SeqAt.shaped (.list (ls.map lotD)) = true := by
  obtain ⟨h1, h2⟩ := lay_lots ls
  have h3 : PyData.depthAll (ls.map lotD) + 1 ≤ 64 := by omega
  simp only [SeqAt.shaped, PyData.canLay0, PyData.depth, h1, Bool.true_and]
  exact decide_eq_true h3
section
variable {P : Program} {w : World} {K : PySem.W.Frag} {mg : Str → Option Value} {base : Heap}
theorem ok_deeds {f f1 f2 : Addr} {fd fd1 fd2 : FuncData} (D : Df K mg "_law_deeds" sDeeds pDeeds f fd) (T : Bl mg)
    (D_draw : Df K mg "_law_draw" sDraw ["_law_box_here", "_law_many"] f1 fd1) (D_pick : Df K mg "_law_pick" sPick nPick f2 fd2) : FnOk P w K mg base CX0 3 f fd pDeeds (spDeeds K) := by
  have G_draw : FnOk P w K mg base CX0 1 f1 fd1 ["_law_box_here", "_law_many"] spDraw := ok_draw D_draw T
  have G_pick : FnOk P w K mg base CX0 2 f2 fd2 nPick (spPick K) := ok_pick D_pick T D_draw
  refine D.fn.ok scDeeds (fun vs H Q E h => ?_) (fun cdv A outer s H vs Q E hr h => ?_)
  · obtain ⟨b, g, l, v, n, ts, xs, ls, many, most, rfl, _⟩ := h
    rfl
  · obtain ⟨b, g, l, v, n, ts, xs, ls, many, most, rfl, hB, hw, hn0, hn, hL, hLd, lb, lg, hls, hll, hm, k⟩ := h
    have hr_pick : Room 2 _ := hr
    have hr_draw : Room 1 _ := hr.mono (by decide)
    have nd := scDeeds.nd
    obtain ⟨a, c, ys, rfl, ha, hc, hys⟩ := dp_web hw
    have hxl : xs.length = ls.length := by rw [dpAll_len hLd, List.length_map]
    refine ⟨_, (pss_cons (ps_set (i := 5) nd rfl (by first | exact Or.inl rfl | exact Or.inr rfl) (pe_lst pa_nil))
      (pss_cons (ps_for PassesOwn.never rfl (pi_range1 rfl T.range (pa_cons (pv 3) pa_nil)) (pg_name (i := 6) nd rfl (by first | exact Or.inl rfl | exact Or.inr rfl)) (pss_cons (ps_set (i := 7) nd rfl (by first | exact Or.inl rfl | exact Or.inr rfl) (pe_op op_add pe_int (pe_call G_draw hr_draw (by rfl) D_draw.ad D_draw.fn.kp D_draw.bd .nil pass0 (pa_cons (pv 0) (pa_cons pe_int pa_nil)))))
      (pss_cons (ps_set (i := 8) nd rfl (by first | exact Or.inl rfl | exact Or.inr rfl) (pe_call G_pick hr_pick (by rfl) D_pick.ad D_pick.fn.kp D_pick.bd .nil pass0 (pa_cons (pv 0) (pa_cons (pe_lst (pa_cons (pv 7) (pa_cons (pv 7) (pa_cons (pe_un un_neg (pv 7)) (pa_cons (pe_un un_neg (pv 7)) (pa_cons (pv 7) (pa_cons (pe_un un_neg (pv 7)) (pa_cons (pv 4) (pa_cons (pe_un un_neg (pv 4)) pa_nil))))))))) pa_nil))))
      (pss_one (ps_if (PW.pt (pw_and (pt_cmpR (opNeD K hr.units) (pv 2) (pe_lst pa_nil) (nomark _)) (pw_and1 (pt_cmpR op_eq (pe_call G_draw hr_draw (by rfl) D_draw.ad D_draw.fn.kp D_draw.bd .nil pass0 (pa_cons (pv 0) (pa_cons pe_int pa_nil))) pe_int (nomark _))))) (pss_one (ps_expr (pe_bm PySem.F.plainAttrs_list PySem.F.slot_list_append PySem.F.type_list_append mt_append (pv 5) (pa_cons (pe_tup (pa_cons pe_str (pa_cons (pe_call G_pick hr_pick (by rfl) D_pick.ad D_pick.fn.kp D_pick.bd .nil pass0 (pa_cons (pv 0) (pa_cons (pv 2) pa_nil))) (pa_cons (pv 8) pa_nil)))) pa_nil)))) (pss_one (ps_expr (pe_bm PySem.F.plainAttrs_list PySem.F.slot_list_append PySem.F.type_list_append mt_append (pv 5) (pa_cons (pe_tup (pa_cons pe_str (pa_cons (pe_call G_draw hr_draw (by rfl) D_draw.ad D_draw.fn.kp D_draw.bd .nil pass0 (pa_cons (pv 0) (pa_cons (pe_ix (ixT K) (pv 1) pe_int (fun _ _ => rfl)) pa_nil))) (pa_cons (pv 8) pa_nil)))) pa_nil)))))))))
      (pss_one (ps_ret (pe_callTy (tupleK K) (by rfl) T.tuple (by decide +kernel) (pa_cons (pv 5) pa_nil)))))), ?_⟩
    refine ⟨Nat.zero_le _, fun l5 hl5 => ?_⟩
    have s0 : Same H (upd H l5 (.lst [])) := same_new hl5
    obtain ⟨nb, ng⟩ := box_ne hB hl5
    refine ⟨_, rfl, _, rfl, by omega, by omega, ?_⟩
    refine for_range (lo := 0) (n := (many : Int).toNat) (fun i σ H' => ∃ (v6 v7 v8 : Option V) (acc : List V) (ds : List Deed),
      σ = [some (.ref b), some (.ref a), some (.ref l), some (.int many), some (.int most), some (.ref l5), v6, v7, v8] ∧ Kp b g H H' ∧ Box H' b g ∧
      H' l5 = some (.lst acc) ∧ DpAll K H' acc (ds.map Deed.D) ∧ ds.length = i ∧ (∀ d ∈ ds, Fit n ts.length (most.natAbs + 6) d)) ?_ ?_ ?_
    · exact ⟨none, none, none, [], [], rfl, Kp.same s0, hB.same s0, upd_same, .nil, rfl, by simp⟩
    · rintro i σ H' hi ⟨v6, v7, v8, acc, ds, rfl, kp, hB', hA, hAd, hdl, hfit⟩
      have hal : acc.length = ds.length := by rw [dpAll_len hAd, List.length_map]
      show tSeq _ _ _ _ _
      refine tSeq_go ?_
      refine ⟨_, rfl, b, g, 6, rfl, by decide, by decide, hB', fun r H2 r0 r1 kp2 hB2 => ?_⟩
      refine ⟨_, _, rfl, rfl, ?_⟩
      show tSeq _ _ _ _ _
      refine tSeq_go ?_
      refine ⟨_, rfl, _, rfl, _, rfl, _, rfl, _, rfl, _, rfl, _, rfl, _, rfl, _, rfl, _, rfl, _, rfl, _, rfl, _, rfl, by show 8 ≤ sizeLine; decide, fun q hq => ?_⟩
      obtain ⟨qb, qg⟩ := box_ne hB2 hq
      have s2 := same_new (o := .lst [.int (1 + r), .int (1 + r), .int (-(1 + r)), .int (-(1 + r)), .int (1 + r), .int (-(1 + r)), .int most, .int (-most)]) hq
      refine ⟨b, g, q, _, rfl, SqL.of upd_same, qb, qg, (by show 0 < 8; decide), (by show 8 < 1000000; decide), hB2.same s2, fun j u H3 hj kp3 hB3 => ?_⟩
      obtain ⟨z, rfl, hz⟩ : ∃ z : Int, u = .int z ∧ z.natAbs ≤ most.natAbs + 6 := by
        have hm := List.mem_of_getElem? hj
        simp only [List.mem_cons, List.not_mem_nil, or_false] at hm
        rcases hm with rfl | rfl | rfl | rfl | rfl | rfl | rfl | rfl <;> exact ⟨_, rfl, by omega⟩
      have kpA := kp.trans (kp2.trans ((Kp.same s2).trans kp3))
      have kpB := kp2.trans ((Kp.same s2).trans kp3)
      have kf3 : KF H' H3 := KF.of_kp kpB hB'
      have hA3 := kpB _ _ hA nb ng
      have hAd3 := dpAll_kf kf3 _ (still_deeds ds) hAd
      have hL3 := kpA _ _ hL lb lg
      have hLd3 := dpAll_kf (KF.of_kp kpA hB) _ (still_lots ls) hLd
      clear kpB kf3 hA hAd hB2 hj s2 qb qg kp2 kp3 hB'
      have fin : ∀ (H6 : Hp) (p : Addr) (va : V) (d : Deed), Kp b g H H6 → Box H6 b g → H6 l5 = some (.lst acc) → DpAll K H6 acc (ds.map Deed.D) →
          H6 p = some (.tup [.str d.word, va, .int d.times]) → Dp K H6 va d.about → Fit n ts.length (most.natAbs + 6) d → ∃ (v6 v7 v8 : Option V) (acc' : List V) (ds' : List Deed),
          [some (V.ref b), some (.ref a), some (.ref l), some (.int many), some (.int most), some (.ref l5), some (.int (0 + i)), some (.int (1 + r)), some (.int z)] =
            [some (.ref b), some (.ref a), some (.ref l), some (.int many), some (.int most), some (.ref l5), v6, v7, v8] ∧ Kp b g H (upd H6 l5 (.lst (acc ++ [.ref p]))) ∧ Box (upd H6 l5 (.lst (acc ++ [.ref p]))) b g ∧
          upd H6 l5 (.lst (acc ++ [.ref p])) l5 = some (.lst acc') ∧ DpAll K (upd H6 l5 (.lst (acc ++ [.ref p]))) acc' (ds'.map Deed.D) ∧ ds'.length = i + 1 ∧ (∀ d ∈ ds', Fit n ts.length (most.natAbs + 6) d) := by
        intro H6 p va d k6 b6 a6 d6 hp hva hf
        have kf : KF H6 (upd H6 l5 (.lst (acc ++ [.ref p]))) := KF.of_upd a6
        have hd : Dp K H6 (.ref p) d.D := by
          cases d with
          | star p' t => exact .tup (SqT.of hp) (.cons (.str _) (.cons hva (.cons (.int _) .nil)))
          | round ks t => exact .tup (SqT.of hp) (.cons (.str _) (.cons hva (.cons (.int _) .nil)))
        refine ⟨_, _, _, acc ++ [.ref p], ds ++ [d], rfl, kp_old hl5 k6, box_old b6 nb ng, upd_same, ?_, ?_, ?_⟩
        · rw [List.map_append]
          exact dpAll_app (dpAll_kf kf _ (still_deeds ds) d6) (.cons (dp_kf kf _ (still_deed d) hd) .nil)
        · rw [List.length_append, List.length_singleton, hdl]
        · intro q hq
          rcases List.mem_append.mp hq with y | y
          · exact hfit q y
          · rw [List.mem_singleton.mp y]
            exact hf
      dsimp only [gName]
      refine tIfS_t (fun t H4 => Kp b g H3 H4 ∧ Box H4 b g ∧ (t = true → ls ≠ [])) ?_ ?_ (fun cont => ?_)
      · rintro H4 ⟨kp4, hB4, hne⟩
        have hne := hne rfl
        have kpC := kpA.trans kp4
        have hA4 := kp4 _ _ hA3 nb ng
        have hL4 := kp4 _ _ hL3 lb lg
        have hlp : 0 < ls.length := List.length_pos_iff.mpr hne
        refine ⟨_, rfl, .inl ⟨rfl, _, SqL.of hA4⟩, _, rfl, _, rfl, b, g, l, xs, rfl, SqL.of hL4, lb, lg, by omega, by omega, hB4, fun j u H5 hj kp5 hB5 => ?_⟩
        refine ⟨_, rfl, by show 3 ≤ sizeLine; decide, fun p hp => ?_⟩
        have s6 := same_new (o := .tup [.str "round", u, .int z]) hp
        have kpD := kp4.trans kp5
        have kf5 := KF.of_kp kpD hB3
        have hA5 := kp5 _ _ hA4 nb ng
        obtain ⟨dd, hdd, hdp⟩ := dpAll_get hLd3 hj
        obtain ⟨ks, hks, rfl⟩ := get_map hdd
        refine ⟨l5, _, _, rfl, rfl, s6 _ _ hA5, Nat.lt_of_lt_of_le (show acc.length < 100000 by omega) (by decide), ?_⟩
        exact fin _ p u (.round ks z) (kpC.trans (kp5.trans (Kp.same s6))) (hB5.same s6) (s6 _ _ hA5) (dpAll_same s6 _ (dpAll_kf kf5 _ (still_deeds ds) hAd3)) upd_same
          (dp_same s6 _ (dp_kf kf5 _ (still_lot ks) hdp)) ⟨hz, hls ks (List.mem_of_getElem? hks)⟩
      · rintro H4 ⟨kp4, hB4, _⟩
        have kpC := kpA.trans kp4
        have hA4 := kp4 _ _ hA3 nb ng
        have ha4 := sqT_kf (KF.of_kp kpC hB) ha
        refine ⟨_, rfl, .inl ⟨rfl, _, SqL.of hA4⟩, _, rfl, _, rfl, a, _, _, _, rfl, rfl, ha4, atI_nat (j := 0) rfl, b, g, n, rfl, by omega, by omega, hB4, fun r2 H5 q0 q1 kp5 hB5 => ?_⟩
        refine ⟨_, rfl, by show 3 ≤ sizeLine; decide, fun p hp => ?_⟩
        have s6 := same_new (o := .tup [.str "star", .int r2, .int z]) hp
        have kpD := kp4.trans kp5
        have kf5 := KF.of_kp kpD hB3
        have hA5 := kp5 _ _ hA4 nb ng
        obtain ⟨pp, rfl⟩ : ∃ pp : Nat, r2 = (pp : Int) := ⟨r2.toNat, by omega⟩
        refine ⟨l5, _, _, rfl, rfl, s6 _ _ hA5, Nat.lt_of_lt_of_le (show acc.length < 100000 by omega) (by decide), ?_⟩
        exact fin _ p (.int pp) (.star pp z) (kpC.trans (kp5.trans (Kp.same s6))) (hB5.same s6) (s6 _ _ hA5) (dpAll_same s6 _ (dpAll_kf kf5 _ (still_deeds ds) hAd3)) upd_same
          (.int _) ⟨hz, by show pp < n; omega⟩
      · refine ⟨_, rfl, Nat.zero_le _, fun p hp => ?_⟩
        have sp := same_new (o := .lst []) hp
        refine ⟨.list (ls.map lotD), .list [], .lst (SqL.of (sp _ _ hL3)) (dpAll_same sp _ hLd3), .lst (SqL.of upd_same) .nil, shaped_lots ls, shaped_intsL [], _, rfl, ?_⟩
        cases ls with
        | nil =>
          refine iteF ?_
          exact cont false _ ⟨Kp.same sp, hB3.same sp, fun z => by cases z⟩
        | cons k0 kr =>
          refine iteT ?_
          refine ⟨_, rfl, b, g, 2, rfl, by decide, by decide, hB3.same sp, fun r2 H5 q0 q1 kp5 hB5 => ?_⟩
          refine ⟨rfl, _, rfl, ?_⟩
          exact cont _ _ ⟨(Kp.same sp).trans kp5, hB5, fun _ => by simp⟩
    · rintro σ H' ⟨v6, v7, v8, acc, ds, rfl, kp, hB', hA, hAd, hdl, hfit⟩
      refine ⟨_, rfl, l5, _, rfl, .inl ⟨SqL.of hA, fun u hu => ?_⟩⟩
      have su := same_new (o := .tup acc) hu
      exact k _ ds _ (kp.trans (Kp.same su)) (hB'.same su) (.tup (SqT.of upd_same) (dpAll_same su _ hAd)) (by omega) hfit
theorem ok_ldone {f : Addr} {fd : FuncData} (D : Df K mg "_law_done" sLdone pLdone f fd) (T : Bl mg) (hlist : mg "list" = none) : FnOk P w K mg base CX0 1 f fd pLdone (spLdone K) := by
  refine D.fn.ok scLdone (fun vs H Q E h => ?_) (fun cdv A outer s H vs Q E hr h => ?_)
  · obtain ⟨v, sv, dv, n, ts, f, ds, rfl, _⟩ := h
    rfl
  · obtain ⟨v, sv, dv, n, ts, f, ds, rfl, hw, hs, hd, hl, hdl, k⟩ := h
    have nd := scLdone.nd
    obtain ⟨a, c, ys, rfl, ha, hc, hys⟩ := dp_web hw
    have hyl : ys.length = ts.length := by rw [dpAll_len hys, List.length_map]
    obtain ⟨as, rfl, has⟩ := dp_nums hs
    obtain ⟨ad, xs, rfl, had, hxs⟩ := dp_tup hd
    have hxl : xs.length = ds.length := by rw [dpAll_len hxs, List.length_map]
    refine ⟨_, (pss_cons (ps_par (i := 3) (j := 4) (by rfl) nd rfl rfl (by decide) rfl rfl (pa_cons (pe_lst (pa_cons (pe_callTy (tupleK K) (by rfl) T.tuple (by decide +kernel) (pa_cons (pv 1) pa_nil)) pa_nil)) (pa_cons (pe_callTy (listK K) (by rfl) hlist (by decide +kernel) (pa_cons (pv 1) pa_nil)) pa_nil)) (by rfl))
      (pss_cons (ps_for PassesOwn.never rfl (piT K (pv 2)) (pgT K rfl (pgs_cons (pg_name (i := 5) nd rfl (by first | exact Or.inl rfl | exact Or.inr rfl)) (pgs_cons (pg_name (i := 6) nd rfl (by first | exact Or.inl rfl | exact Or.inr rfl)) (pgs_cons (pg_name (i := 7) nd rfl (by first | exact Or.inl rfl | exact Or.inr rfl)) pgs_nil)))) (pss_cons (ps_for PassesOwn.never rfl (enumT K (by rfl) T.enumerate (pa_cons (pe_ix (ixT K) (pv 0) pe_int (fun _ _ => rfl)) pa_nil)) (pgT K rfl (pgs_cons (pg_name (i := 8) nd rfl (by first | exact Or.inl rfl | exact Or.inr rfl)) (pgs_cons (pg_name (i := 9) nd rfl (by first | exact Or.inl rfl | exact Or.inr rfl)) pgs_nil))) (pss_one (ps_if (PW.pt (pw_or (PW.pt (pw_and (pt_cmpR op_eq (pv 5) pe_str (nomark _)) (pw_and1 (pt_cmpR (opIn K) (pv 6) (pv 9) rfl)))) (pw_or1 (PW.pt (pw_and (pt_cmpR op_eq (pv 5) pe_str (nomark _)) (pw_and1 (pt_cmpR (opIn K) (pv 8) (pv 6) rfl))))))) (pss_one (ps_asg (pe_op op_add (pe_ix (ixL K) (pv 4) (pv 8) (fun _ _ => rfl)) (pv 7)) (pg_sub (pv 4) (pv 8) set_list))) pss_nil)))
      (pss_one (ps_expr (pe_bm PySem.F.plainAttrs_list PySem.F.slot_list_append PySem.F.type_list_append mt_append (pv 3) (pa_cons (pe_callTy (tupleK K) (by rfl) T.tuple (by decide +kernel) (pa_cons (pv 4) pa_nil)) pa_nil))))))
      (pss_one (ps_ret (pv 3))))), ?_⟩
    refine ⟨_, rfl, as, _, rfl, .inr ⟨has, by show 1 ≤ sizeLine; decide, fun lr hlr => ?_⟩⟩
    have s0 := same_new (o := .lst [.ref as]) hlr
    refine ⟨_, rfl, as, _, rfl, .inr (sqT_same s0 has), fun lf hlf => ⟨_, _, rfl, ?_⟩⟩
    have s1 := same_new (o := .lst (numsV ts.length f)) hlf
    have hlfH : H lf = none := Same.free s0 hlf
    have nrf : lr ≠ lf := by
      rintro rfl
      rw [upd_same] at hlf
      cases hlf
    have I0 := s1 _ _ (upd_same (H := H) (a := lr) (o := .lst [.ref as]))
    have I1 := upd_same (H := upd H lr (.lst [.ref as])) (a := lf) (o := .lst (numsV ts.length f))
    have I2 := s0.trans s1
    generalize upd (upd H lr (.lst [.ref as])) lf (.lst (numsV ts.length f)) = H2 at I0 I1 I2
    clear s0 s1 hlf
    refine ⟨_, rfl, ad, rfl, ⟨_, sqT_same I2 had⟩, for_it (walk_tup (xs := xs)) (fun i σ H' => ∃ (v5 v6 v7 v8 v9 : Option V) (racc : List V),
      σ = [some (.ref a), some (.ref as), some (.ref ad), some (.ref lr), some (.ref lf), v5, v6, v7, v8, v9] ∧ Same H H' ∧ H' lr = some (.lst racc) ∧
      DpAll K H' racc ((List.range (i + 1)).map (rowsD ts f ds)) ∧ H' lf = some (.lst (numsV ts.length (behind ts f (ds.take i))))) ?_ ?_ ?_ ?_⟩
    · exact ⟨none, none, none, none, none, _, rfl, I2, I0, .cons (nums_dp (sqT_same I2 has)) .nil, I1⟩
    · rintro i σ H' _ ⟨v5, v6, v7, v8, v9, racc, rfl, sH, _⟩
      exact sqT_same sH had
    · clear I0 I1 I2
      rintro i x σ Hi H'' hi ⟨v5, v6, v7, v8, v9, racc, rfl, sH, hR, hRd, hF⟩ ⟨rfl, hx⟩
      obtain ⟨dd, hdd, hdp⟩ := dpAll_get hxs hx
      obtain ⟨d, hdj, rfl⟩ := get_map hdd
      obtain ⟨ax, va, rfl, hax, hva⟩ := dp_deed (dp_same sH _ hdp)
      have hRl : racc.length = i + 1 := by rw [dpAll_len hRd, List.length_map, List.length_range]
      refine ⟨ax, _, rfl, hax, rfl, _, _, rfl, _, _, rfl, _, _, rfl, rfl, ?_⟩
      dsimp only
      refine tSeq_go ?_
      generalize hg : behind ts f (ds.take i) = g at hF
      have hc2 := sqT_same sH hc
      refine ⟨_, rfl, a, _, _, _, rfl, rfl, sqT_same sH ha, atI_nat (j := 1) rfl, c, ys, rfl, hc2, ?_⟩
      refine for_it (walk_enumT (xs := ys)) (fun j σ H' => ∃ (v8 v9 : Option V),
        σ = [some (.ref a), some (.ref as), some (.ref ad), some (.ref lr), some (.ref lf), some (.str d.word), some va, some (.int d.times), v8, v9] ∧ Kp lf lf H'' H' ∧
        H' lf = some (.lst (numsV ts.length fun k => g k + if k < j then d.part ts k else 0))) ?_ ?_ ?_ ?_
      · refine ⟨v8, v9, rfl, Kp.refl _, ?_⟩
        rw [hF]
        congr 2
        exact numsV_congr fun k _ => by simp
      · rintro j σ H' _ ⟨v8, v9, rfl, h1, _⟩
        have kf : KF H'' H' := fun z o hz q => by
          have nz : z ≠ lf := by
            rintro rfl
            rw [hF] at hz
            obtain ⟨_, rfl | ⟨_, rfl⟩⟩ := q <;> cases hz
          exact h1 _ _ hz nz nz
        exact sqT_kf kf hc2
      · rintro j x σ H' H3 hj ⟨v8, v9, rfl, h1, h2⟩ ⟨q, y, z, rfl, hq, rfl, hy, hz⟩
        have hjt : j < ts.length := by omega
        have ht : ts[j]? = some ts[j] := by simp [hjt]
        have hy' : some (V.int j) = some y := hy
        cases hy'
        have hz' : ys[j]? = some z := hz
        obtain ⟨dd2, hdd2, hzd⟩ := dpAll_get hys hz'
        rw [List.getElem?_map, ht] at hdd2
        cases hdd2
        obtain ⟨az, rfl, haz⟩ := dp_tie hzd
        have kf : KF H'' H' := fun z o hz q => by
          have nz : z ≠ lf := by
            rintro rfl
            rw [hF] at hz
            obtain ⟨_, rfl | ⟨_, rfl⟩⟩ := q <;> cases hz
          exact h1 _ _ hz nz nz
        have sq := same_new (o := .tup [.int j, .ref az]) hq
        have haz2 := sqT_same sq (sqT_kf kf (sqT_same sH haz))
        have hva2 : Dp K (upd H' q (.tup [.int j, .ref az])) va d.about := by
          refine dp_same sq _ (dp_kf kf _ ?_ hva)
          cases d with
          | star p t => simp [Deed.about, still]
          | round ks t => exact still_lot ks
        have h3 := sq _ _ h2
        have k3 := h1.trans (Kp.same sq)
        have hst : (fun k => g k + if k < j + 1 then d.part ts k else 0) j = g j + d.part ts j := by
          show g j + (if j < j + 1 then d.part ts j else 0) = _
          rw [if_pos (by omega)]
        refine ⟨q, _, rfl, SqT.of upd_same, rfl, _, _, rfl, _, _, rfl, rfl, ?_⟩
        refine tIfS_t (fun t H4 => H4 = upd H' q (.tup [.int j, .ref az]) ∧ t = d.touch ts j) ?_ ?_ (fun cont => ?_)
        · rintro H4 ⟨rfl, htt⟩
          refine ⟨_, rfl, _, rfl, lf, _, (j : Int), _, rfl, rfl, SqL.of h3, atI_nat (numsV_get hjt), _, rfl, _, _, rfl, rfl, ?_⟩
          refine ⟨_, rfl, _, rfl, lf, _, (j : Int), j, rfl, rfl, h3, ix_nat (by rw [numsV_len]; exact hjt), ?_⟩
          refine ⟨_, _, rfl, k3.trans Kp.setb, ?_⟩
          rw [upd_same, numsV_set]
          congr 2
          refine numsV_congr fun k _ => ?_
          by_cases e : k = j
          · subst e
            rw [if_pos rfl, if_neg (by omega), if_pos (by omega)]
            unfold Deed.part
            rw [if_pos htt.symm]
            omega
          · rw [if_neg e]
            by_cases e2 : k < j
            · rw [if_pos e2, if_pos (by omega)]
            · rw [if_neg e2, if_neg (by omega)]
        · rintro H4 ⟨rfl, htt⟩
          refine ⟨_, _, rfl, k3, ?_⟩
          rw [h3]
          congr 2
          refine numsV_congr fun k _ => ?_
          by_cases e : k = j
          · subst e
            rw [if_neg (by omega), if_pos (by omega)]
            unfold Deed.part
            rw [if_neg (by rw [← htt]; decide)]
          · by_cases e2 : k < j
            · rw [if_pos e2, if_pos (by omega)]
            · rw [if_neg e2, if_neg (by omega)]
        · cases d with
          | star p t =>
            cases hva2
            refine ⟨_, rfl, rfl, _, rfl, ?_⟩
            refine iteT ?_
            refine ⟨_, rfl, _, rfl, az, _, rfl, .inr haz2, rfl, by rfl, _, rfl, ?_⟩
            have hin : inV (.int (p : Int)) [.int (ts[j]).1, .int (ts[j]).2] = hit ts p j := by rw [inv_tie, hit_at ht]
            refine ite2 (fun hh => ?_) (fun hh => ?_)
            · refine cont _ _ ⟨rfl, ?_⟩
              exact (hin.symm.trans hh).symm
            · refine ⟨_, rfl, rfl, _, rfl, ?_⟩
              refine iteF ?_
              refine cont _ _ ⟨rfl, ?_⟩
              show false = hit ts p j
              rw [← hin]
              exact (Bool.eq_false_iff.mpr hh).symm
          | round ks t =>
            obtain ⟨au, rfl, hau⟩ := dp_lotI hva2
            refine ⟨_, rfl, rfl, _, rfl, ?_⟩
            refine iteF ?_
            refine ⟨_, rfl, rfl, _, rfl, ?_⟩
            refine iteT ?_
            refine ⟨_, rfl, _, rfl, au, _, rfl, .inr hau, rfl, flat_nats ks, _, rfl, ?_⟩
            exact cont _ _ ⟨rfl, inv_nats j ks⟩
      · rintro σ H3 ⟨v8, v9, rfl, h1, h2⟩
        have h3 : H3 lf = some (.lst (numsV ts.length (behind ts f (ds.take (i + 1))))) := by
          rw [h2]
          congr 2
          refine numsV_congr fun k hk => ?_
          have htk : ds.take (i + 1) = ds.take i ++ [d] := by
            rw [List.take_add_one, hdj]
            rfl
          rw [htk, behind_eq, ← hg, behind_eq, effect_app, if_pos (by omega)]
          simp only [effect, List.map_cons, List.map_nil, List.sum_cons, List.sum_nil]
          omega
        have sH3 : Same H H3 := fun z o hz => h1 _ _ (sH _ _ hz) (ne_of_none hz hlfH) (ne_of_none hz hlfH)
        have hR3 := h1 _ _ hR nrf nrf
        have hstill : ∀ l : List Nat, stillAll (l.map (rowsD ts f ds)) = true := fun l => by
          induction l with
          | nil => simp [stillAll]
          | cons k l ih => 
            have h := still_nums ts.length (behind ts f (ds.take k))
            simp only [List.map_cons, stillAll, ih, rowsD, h, Bool.and_self]
        have kf : KF H'' H3 := fun z o hz q => by
          have nz : z ≠ lf := by
            rintro rfl
            rw [hF] at hz
            obtain ⟨_, rfl | ⟨_, rfl⟩⟩ := q <;> cases hz
          exact h1 _ _ hz nz nz
        have hRd3 := dpAll_kf kf _ (hstill _) hRd
        refine ⟨_, rfl, .inl ⟨rfl, _, SqL.of hR3⟩, _, rfl, lf, _, rfl, .inl ⟨SqL.of h3, fun u hu => ?_⟩⟩
        have su := same_new (o := .tup (numsV ts.length (behind ts f (ds.take (i + 1))))) hu
        refine ⟨lr, _, _, rfl, rfl, su _ _ hR3, Nat.lt_of_lt_of_le (show racc.length < 100000 by omega) (by decide), ?_⟩
        have hlrn : H lr = none := hlr
        refine ⟨_, _, _, _, _, racc ++ [.ref u], rfl, same_old hlrn (sH3.trans su), upd_same, ?_, ?_⟩
        · have kf2 : KF _ (upd (upd H3 u (.tup (numsV ts.length (behind ts f (ds.take (i + 1)))))) lr (.lst (racc ++ [.ref u]))) := KF.of_upd (su _ _ hR3)
          rw [List.range_succ, List.map_append]
          exact dpAll_app (dpAll_kf kf2 _ (hstill _) (dpAll_same su _ hRd3)) (.cons (dp_kf kf2 _ (still_nums _ _) (nums_dp (SqT.of upd_same))) .nil)
        · rw [upd_ne nrf.symm]
          exact su _ _ h3
    · rintro σ H' ⟨v5, v6, v7, v8, v9, racc, rfl, sH, hR, hRd, _⟩
      rw [hxl] at hRd
      exact ⟨_, rfl, k lr racc H' sH hR hRd⟩
end
end BV


namespace BV
open PySem L2
abbrev sHb : Stmt := top 8
abbrev nHb : List Str := ["numbers", "number"]
theorem scHb : FnScope nHb ["numbers"] (defScope sHb) := ⟨rfl, rfl, rfl, by decide +kernel, rfl, by decide +kernel, by decide +kernel⟩
abbrev sNb : Stmt := top 9
abbrev nNb : List Str := ["web", "standing", "deeds", "numbers", "deed"]
abbrev pNb : List Str := ["web", "standing", "deeds"]
theorem scNb : FnScope nNb pNb (defScope sNb) := ⟨rfl, rfl, rfl, by decide +kernel, rfl, by decide +kernel, by decide +kernel⟩
abbrev sLifted : Stmt := top 10
abbrev nLifted : List Str := ["web", "standing", "deeds", "adding", "taking", "deed"]
theorem scLifted : FnScope nLifted pNb (defScope sLifted) := ⟨rfl, rfl, rfl, by decide +kernel, rfl, by decide +kernel, by decide +kernel⟩
abbrev sTold : Stmt := top 23
abbrev nTold : List Str := ["_law_web_here", "_law_standing", "_law_deeds_here", "_law_is_named", "bad_deeds"]
abbrev pTold : List Str := ["_law_web_here", "_law_standing", "_law_deeds_here", "_law_is_named"]
theorem scTold : FnScope nTold pTold (defScope sTold) := ⟨rfl, rfl, rfl, by decide +kernel, rfl, by decide +kernel, by decide +kernel⟩
def negB (L : Nat) (f : Nat → Int) : Bool := ((List.range L).map fun k => decide (f k < 0)).any id
theorem negB_false {L : Nat} {f : Nat → Int} : negB L f = false ↔ ∀ k, k < L → 0 ≤ f k := by
  unfold negB
  rw [List.any_eq_false]
  constructor
  · intro h k hk
    have := h (decide (f k < 0)) (List.mem_map.mpr ⟨k, List.mem_range.mpr hk, rfl⟩)
    simpa using this
  · intro h x hx
    obtain ⟨k, hk, rfl⟩ := List.mem_map.mp hx
    have := h k (List.mem_range.mp hk)
    simp only [id, decide_eq_true_eq]
    omega
def nbR (R L : Nat) (g : Nat → Nat → Int) : Bool := (List.range R).all fun i => !negB L (g i)
theorem nbR_true {R L : Nat} {g : Nat → Nat → Int} : nbR R L g = true ↔ ∀ i, i < R → ∀ k, k < L → 0 ≤ g i k := by
  unfold nbR
  rw [List.all_eq_true]
  constructor
  · intro h i hi
    have := h i (List.mem_range.mpr hi)
    exact negB_false.mp (by simpa using this)
  · intro h i hi
    have := negB_false.mpr (h i (List.mem_range.mp hi))
    simp [this]
def nbB (ts : List Tie) (f : Nat → Int) (ds : List Deed) : Bool := nbR (ds.length + 1) ts.length fun i => behind ts f (ds.take i)
def spHb (K : PySem.W.Frag) : Sp := fun vs H Q _ => ∃ (l : Addr) (L : Nat) (f : Nat → Int), vs = [.ref l] ∧ H l = some (.lst (numsV L f)) ∧ L ≤ 3000 ∧ ∀ H', Same H H' → Q (.bl (negB L f)) H'
def spNb (K : PySem.W.Frag) : Sp := fun vs H Q _ => ∃ (v sv dv : V) (n : Nat) (ts : List Tie) (f : Nat → Int) (ds : List Deed), vs = [v, sv, dv] ∧
  Dp K H v (webD n ts) ∧ Dp K H sv (numsD ts.length f) ∧ Dp K H dv (.tuple (ds.map Deed.D)) ∧ (∀ d ∈ ds, d.Ok ts) ∧ ts.length ≤ 3000 ∧
  ∀ H', Same H H' → Q (.bl (nbB ts f ds)) H'
def deedsD (ds : List Deed) : PyData := .tuple (ds.map Deed.D)
def posD (ds : List Deed) : List Deed := ds.filter fun d => decide (0 < d.times)
def negD (ds : List Deed) : List Deed := ds.filter fun d => decide (d.times < 0)
def liftL (ds : List Deed) : List Deed := posD ds ++ negD ds
def badB (ts : List Tie) (f : Nat → Int) (ds : List Deed) : Bool := negB ts.length f || negB ts.length (behind ts f ds)
theorem eff_cons (ts : List Tie) (d : Deed) (ds : List Deed) (k : Nat) : effect ts (d :: ds) k = d.part ts k + effect ts ds k := by
  simp only [effect, List.map_cons, List.sum_cons]
theorem part_pos {ts : List Tie} {d : Deed} (h : 0 < d.times) (k : Nat) : 0 ≤ d.part ts k := by
  unfold Deed.part
  split <;> omega
theorem part_neg0 {ts : List Tie} {d : Deed} (h : d.times < 0) (k : Nat) : d.part ts k ≤ 0 := by
  unfold Deed.part
  split <;> omega
theorem eff_pos {ts : List Tie} (k : Nat) : ∀ {ds : List Deed}, (∀ d ∈ ds, 0 < d.times) → 0 ≤ effect ts ds k
  | [], _ => by simp [effect]
  | d :: ds, h => by
    rw [eff_cons]
    have h1 := part_pos (ts := ts) (h d (List.mem_cons_self ..)) k
    have h2 := eff_pos (ts := ts) k fun x hx => h x (List.mem_cons_of_mem d hx)
    omega
theorem eff_neg {ts : List Tie} (k : Nat) : ∀ {ds : List Deed}, (∀ d ∈ ds, d.times < 0) → effect ts ds k ≤ 0
  | [], _ => by simp [effect]
  | d :: ds, h => by
    rw [eff_cons]
    have h1 := part_neg0 (ts := ts) (h d (List.mem_cons_self ..)) k
    have h2 := eff_neg (ts := ts) k fun x hx => h x (List.mem_cons_of_mem d hx)
    omega
theorem eff_lift (ts : List Tie) (k : Nat) : ∀ ds : List Deed, effect ts (liftL ds) k = effect ts ds k
  | [] => rfl
  | d :: ds => by
    have ih := eff_lift ts k ds
    unfold liftL at ih ⊢
    rw [effect_app] at ih ⊢
    rw [eff_cons]
    unfold posD negD at ih ⊢
    rw [List.filter_cons, List.filter_cons]
    by_cases h1 : 0 < d.times
    · rw [if_pos (decide_eq_true h1), if_neg (by simp; omega), eff_cons]
      omega
    · by_cases h2 : d.times < 0
      · rw [if_neg (by simpa using h1), if_pos (decide_eq_true h2), eff_cons]
        omega
      · rw [if_neg (by simpa using h1), if_neg (by simpa using h2)]
        have : d.part ts k = 0 := by
          unfold Deed.part
          split <;> omega
        omega
theorem pos_mem {ds : List Deed} : ∀ d ∈ posD ds, 0 < d.times := fun d hd => of_decide_eq_true (List.mem_filter.mp hd).2
theorem neg_mem {ds : List Deed} : ∀ d ∈ negD ds, d.times < 0 := fun d hd => of_decide_eq_true (List.mem_filter.mp hd).2
theorem lift_mem {ds : List Deed} {d : Deed} (h : d ∈ liftL ds) : d ∈ ds := (List.mem_append.mp h).elim (fun z => (List.mem_filter.mp z).1) (fun z => (List.mem_filter.mp z).1)
theorem lift_len (ds : List Deed) : (liftL ds).length ≤ 2 * ds.length := by
  unfold liftL posD negD
  rw [List.length_append]
  have h1 := List.length_filter_le (fun d : Deed => decide (0 < d.times)) ds
  have h2 := List.length_filter_le (fun d : Deed => decide (d.times < 0)) ds
  omega
theorem pos_of_pos {ds : List Deed} (h : ∀ d ∈ ds, 0 < d.times) : posD ds = ds ∧ negD ds = [] :=
  ⟨List.filter_eq_self.mpr fun d hd => decide_eq_true (h d hd), List.filter_eq_nil_iff.mpr fun d hd => by have := h d hd; simp; omega⟩
theorem neg_of_neg {ds : List Deed} (h : ∀ d ∈ ds, d.times < 0) : posD ds = [] ∧ negD ds = ds :=
  ⟨List.filter_eq_nil_iff.mpr fun d hd => by have := h d hd; simp; omega, List.filter_eq_self.mpr fun d hd => decide_eq_true (h d hd)⟩
theorem lift_lift (ds : List Deed) : liftL (liftL ds) = liftL ds := by
  have e1 := pos_of_pos (ds := posD ds) pos_mem
  have e2 := neg_of_neg (ds := negD ds) neg_mem
  unfold liftL
  have a1 : posD (posD ds ++ negD ds) = posD (posD ds) ++ posD (negD ds) := by simp only [posD, List.filter_append]
  have a2 : negD (posD ds ++ negD ds) = negD (posD ds) ++ negD (negD ds) := by simp only [negD, List.filter_append]
  rw [a1, a2, e1.1, e1.2, e2.1, e2.2]
  simp
theorem behind_lift (ts : List Tie) (f : Nat → Int) (ds : List Deed) : behind ts f (liftL ds) = behind ts f ds := funext fun k => by
  rw [behind_eq, behind_eq, eff_lift]
theorem bad_lift (ts : List Tie) (f : Nat → Int) (ds : List Deed) : badB ts f (liftL ds) = badB ts f ds := by
  unfold badB
  rw [behind_lift]
theorem lift_never {ts : List Tie} {f : Nat → Int} {ds : List Deed} (h : badB ts f ds = false) : nbB ts f (liftL ds) = true := by
  unfold badB at h
  rw [Bool.or_eq_false_iff] at h
  refine nbR_true.mpr fun i _ k hk => ?_
  have h1 := negB_false.mp h.1 k hk
  have h2 := negB_false.mp h.2 k hk
  rw [behind_eq] at h2 ⊢
  rw [← eff_lift] at h2
  unfold liftL at h2 ⊢
  rw [effect_app] at h2
  rw [List.take_append, effect_app]
  have p1 : 0 ≤ effect ts ((posD ds).take i) k := eff_pos k fun d hd => pos_mem d (List.mem_of_mem_take hd)
  have e1 : effect ts (posD ds) k = effect ts ((posD ds).take i) k + effect ts ((posD ds).drop i) k := by rw [← effect_app, List.take_append_drop]
  have e2 : effect ts (negD ds) k = effect ts ((negD ds).take (i - (posD ds).length)) k + effect ts ((negD ds).drop (i - (posD ds).length)) k := by rw [← effect_app, List.take_append_drop]
  have p2 : effect ts ((negD ds).drop (i - (posD ds).length)) k ≤ 0 := eff_neg k fun d hd => neg_mem d (List.mem_of_mem_drop hd)
  by_cases hi : i ≤ (posD ds).length
  · have : i - (posD ds).length = 0 := by omega
    rw [this, List.take_zero]
    have z : effect ts [] k = 0 := rfl
    omega
  · have z : (posD ds).drop i = [] := List.drop_eq_nil_of_le (by omega)
    have z2 : effect ts [] k = 0 := rfl
    rw [z] at e1
    omega
def spHbT (K : PySem.W.Frag) : Sp := fun vs H Q _ => ∃ (v : V) (L : Nat) (f : Nat → Int), vs = [v] ∧ Dp K H v (numsD L f) ∧ L ≤ 3000 ∧ ∀ H', Same H H' → Q (.bl (negB L f)) H'
def spLifted (K : PySem.W.Frag) (U : Addr) : Sp := fun vs H Q E => ∃ (v sv dv : V) (n : Nat) (ts : List Tie) (f : Nat → Int) (ds : List Deed), vs = [v, sv, dv] ∧
  Dp K H v (webD n ts) ∧ Dp K H sv (numsD ts.length f) ∧ Dp K H dv (deedsD ds) ∧ (∀ d ∈ ds, d.Ok ts) ∧ ts.length ≤ 3000 ∧ ds.length ≤ 3000 ∧
  (badB ts f ds = true → ∀ H', Same H H' → E (.ref U) none H') ∧ (badB ts f ds = false → ∀ (u : V) H', Same H H' → Dp K H' u (deedsD (liftL ds)) → Q u H')
def toldD (ts : List Tie) (f : Nat → Int) (ds : List Deed) : PyData := if badB ts f ds = true then .list [.str "Unfit", .bool true] else .list [.str "told", deedsD (liftL ds)]
def spTold (K : PySem.W.Frag) : Sp := fun vs H Q _ => ∃ (v sv dv : V) (n : Nat) (ts : List Tie) (f : Nat → Int) (ds : List Deed) (nm : Bool), vs = [v, sv, dv, .bl nm] ∧
  Dp K H v (webD n ts) ∧ Dp K H sv (numsD ts.length f) ∧ Dp K H dv (deedsD ds) ∧ (∀ d ∈ ds, d.Ok ts) ∧ ts.length ≤ 3000 ∧ ds.length ≤ 3000 ∧
  ∀ (u : V) H', Same H H' → Dp K H' u (toldD ts f ds) → Q u H'
section
variable {P : Program} {w : World} {K : PySem.W.Frag} {mg : Str → Option Value} {base : Heap}
theorem ok_hb {f : Addr} {fd : FuncData} (D : Df K mg "_has_below" sHb ["numbers"] f fd) (T : Bl mg) (hany : mg "any" = none) : FnOk P w K mg base CX0 1 f fd ["numbers"] (spHb K) := by
  refine D.fn.ok scHb (fun vs H Q E h => ?_) (fun cdv A outer s H vs Q E hr h => ?_)
  · obtain ⟨l, L, f, rfl, _⟩ := h
    rfl
  · obtain ⟨l, L, f, rfl, hl, hL, k⟩ := h
    have nd := scHb.nd
    refine ⟨_, (pss_one (ps_ret (pe_callB (anyLK K) (by rfl) hany (by decide +kernel) (pa_cons (pe_lc (own := [("number", 1)]) (g := (gName 1)) (tt := tYes) rfl nd (piL K (pv 0)) (blkOk_by (own := [("number", 1)]) (N := nHb) (sc := defScope sHb) (by decide +kernel)) (fun _ _ _ _ _ => (pg_name (i := 1) nd rfl (by first | exact Or.inl rfl | exact Or.inr rfl))) (fun _ _ _ _ _ => pts_nil) (fun _ _ _ _ _ => (pe_cmpR op_lt (pv 1) pe_int (nomark _)))) pa_nil)))), ?_⟩
    refine ⟨_, rfl, l, rfl, ⟨_, SqL.of hl⟩, fun E1 hE1 => ?_⟩
    refine lc_run (walk_list (xs := numsV L f)) hE1 (fun i acc _ => acc = (List.range i).map fun k => V.bl (decide (f k < 0))) ?_ ?_ ?_ ?_
    · exact fun H' s => SqL.of (s _ _ hl)
    · rfl
    · rintro i x acc H2 H' hi hacc e s r ⟨rfl, hx⟩
      rw [numsV_len] at hi
      rw [numsV_get hi] at hx
      cases hx
      refine ⟨rfl, yes_go ?_⟩
      refine ⟨_, rfl, _, _, rfl, rfl, ?_⟩
      have r' : acc = (List.range i).map fun k => V.bl (decide (f k < 0)) := r
      refine lc_add hacc e (Same.refl _) (by rw [r', List.length_map, List.length_range]; omega) ?_
      rw [List.range_succ, List.map_append, r']
      rfl
    · rintro acc H2 h1 s2 r
      have r' : acc = (List.range (numsV L f).length).map fun k => V.bl (decide (f k < 0)) := r
      rw [numsV_len] at r'
      refine ⟨E1, (List.range L).map fun k => decide (f k < 0), rfl, SqL.of ?_, k _ s2⟩
      rw [h1, r', List.map_map]
      rfl
theorem ok_nb {f f1 f2 f3 : Addr} {fd fd1 fd2 fd3 : FuncData} (D : Df K mg "never_below" sNb pNb f fd) (T : Bl mg) (hlist : mg "list" = none) (hany : mg "any" = none)
    (D_ties : Df K mg "ties_at" sTies ["web", "place"] f1 fd1) (D_do : Df K mg "_do" sDo ["web", "numbers", "deed"] f2 fd2) (D_hb : Df K mg "_has_below" sHb ["numbers"] f3 fd3) :
    FnOk P w K mg base CX0 3 f fd pNb (spNb K) := by
  have G_do : FnOk P w K mg base CX0 2 f2 fd2 ["web", "numbers", "deed"] (spDo K) := ok_do D_do T D_ties
  have G_hb : FnOk P w K mg base CX0 1 f3 fd3 ["numbers"] (spHb K) := ok_hb D_hb T hany
  refine D.fn.ok scNb (fun vs H Q E h => ?_) (fun cdv A outer s H vs Q E hr h => ?_)
  · obtain ⟨v, sv, dv, n, ts, g, ds, rfl, _⟩ := h
    rfl
  · obtain ⟨v, sv, dv, n, ts, g, ds, rfl, hw, hs, hd, hok, hl, k⟩ := h
    have hr_do : Room 2 _ := hr
    have hr_hb : Room 1 _ := hr.mono (by decide)
    have nd := scNb.nd
    obtain ⟨as, rfl, has⟩ := dp_nums hs
    obtain ⟨ad, xs, rfl, had, hxs⟩ := dp_tup hd
    have hxl : xs.length = ds.length := by rw [dpAll_len hxs, List.length_map]
    have fails : ∀ i, i ≤ ds.length → negB ts.length (behind ts g (ds.take i)) = true → nbB ts g ds = false := fun i hi h => by
      refine Bool.eq_false_iff.mpr fun z => ?_
      have := nbR_true.mp z i (by omega)
      rw [negB_false.mpr this] at h
      cases h
    refine ⟨_, (pss_cons (ps_set (i := 3) nd rfl (by first | exact Or.inl rfl | exact Or.inr rfl) (pe_callTy (listK K) (by rfl) hlist (by decide +kernel) (pa_cons (pv 1) pa_nil)))
      (pss_cons (ps_if (pt_val (pe_call G_hb hr_hb (by rfl) D_hb.ad D_hb.fn.kp D_hb.bd .nil pass0 (pa_cons (pv 3) pa_nil))) (pss_one (ps_ret pe_bl)) pss_nil)
      (pss_cons (ps_for PassesOwn.never rfl (piT K (pv 2)) (pg_name (i := 4) nd rfl (by first | exact Or.inl rfl | exact Or.inr rfl)) (pss_cons (ps_expr (pe_call G_do hr_do (by rfl) D_do.ad D_do.fn.kp D_do.bd .nil pass0 (pa_cons (pv 0) (pa_cons (pv 3) (pa_cons (pv 4) pa_nil)))))
      (pss_one (ps_if (pt_val (pe_call G_hb hr_hb (by rfl) D_hb.ad D_hb.fn.kp D_hb.bd .nil pass0 (pa_cons (pv 3) pa_nil))) (pss_one (ps_ret pe_bl)) pss_nil))))
      (pss_one (ps_ret pe_bl))))), ?_⟩
    refine ⟨_, rfl, as, _, rfl, .inr has, fun l hln => ?_⟩
    have s0 : Same H (upd H l (.lst (numsV ts.length g))) := same_new hln
    dsimp only [gName]
    refine tSeq_go ?_
    refine ⟨_, rfl, l, ts.length, g, rfl, upd_same, hl, fun H1 s1 => ⟨_, rfl, ?_⟩⟩
    refine ite2 (fun hh => ?_) (fun hh => ?_)
    · have := fails 0 (by omega) hh
      have k' := k _ (s0.trans s1)
      rw [this] at k'
      exact k'
    dsimp only [tNext]
    refine tSeq_go ?_
    have h1 := s1 _ _ (upd_same (H := H) (a := l) (o := .lst (numsV ts.length g)))
    have s01 := s0.trans s1
    refine ⟨_, rfl, ad, rfl, ⟨_, sqT_same s01 had⟩, for_it (walk_tup (xs := xs)) (fun j σ H' => ∃ v4 : Option V,
      σ = [some v, some (.ref as), some (.ref ad), some (.ref l), v4] ∧ Same H H' ∧ H' l = some (.lst (numsV ts.length (behind ts g (ds.take j)))) ∧
      ∀ i, i ≤ j → negB ts.length (behind ts g (ds.take i)) = false) ?_ ?_ ?_ ?_⟩
    · refine ⟨none, rfl, s01, h1, fun i hi => ?_⟩
      obtain rfl : i = 0 := by omega
      exact Bool.eq_false_iff.mpr hh
    · rintro j σ H' _ ⟨v4, rfl, h1, h2, _⟩
      exact sqT_same h1 had
    · rintro j x σ H' H'' hj ⟨v4, rfl, h1, h2, h3⟩ ⟨rfl, hx⟩
      obtain ⟨dd, hdd, hdp⟩ := dpAll_get hxs hx
      obtain ⟨d, hdj, rfl⟩ := get_map hdd
      dsimp only [gName]
      refine tSeq_go ?_
      refine ⟨_, rfl, _, rfl, _, rfl, ?_⟩
      refine ⟨v, x, l, n, ts, d, _, rfl, dp_same h1 _ hw, dp_same h1 _ hdp, hok d (List.mem_of_getElem? hdj), hl, h2, fun H3 k3 h4 => ?_⟩
      have s3 : Same H H3 := fun z o hz => by
        have nz := ne_of_none hz hln
        exact k3 _ _ (h1 _ _ hz) nz nz
      have h5 : H3 l = some (.lst (numsV ts.length (behind ts g (ds.take (j + 1))))) := by
        rw [h4]
        congr 2
        refine numsV_congr fun kk _ => ?_
        have htk : ds.take (j + 1) = ds.take j ++ [d] := by
          rw [List.take_add_one, hdj]
          rfl
        rw [htk, behind_eq, behind_eq, effect_app]
        simp only [effect, List.map_cons, List.map_nil, List.sum_cons, List.sum_nil]
        omega
      refine ⟨_, rfl, l, ts.length, _, rfl, h5, hl, fun H4 s4 => ⟨_, rfl, ?_⟩⟩
      refine ite2 (fun hh2 => ?_) (fun hh2 => ?_)
      · have := fails (j + 1) (by omega) hh2
        have k' := k _ (s3.trans s4)
        rw [this] at k'
        exact k'
      · refine ⟨_, rfl, s3.trans s4, s4 _ _ h5, fun i hi => ?_⟩
        by_cases e : i = j + 1
        · subst e
          exact Bool.eq_false_iff.mpr hh2
        · exact h3 i (by omega)
    · rintro σ H' ⟨v4, rfl, h1, h2, h3⟩
      have e : nbB ts g ds = true := nbR_true.mpr fun i hi => negB_false.mp (h3 i (by omega))
      have k' := k _ h1
      rw [e] at k'
      exact k'
theorem ok_hbT {f : Addr} {fd : FuncData} (D : Df K mg "_has_below" sHb ["numbers"] f fd) (T : Bl mg) (hany : mg "any" = none) : FnOk P w K mg base CX0 1 f fd ["numbers"] (spHbT K) := by
  refine D.fn.ok scHb (fun vs H Q E h => ?_) (fun cdv A outer s H vs Q E hr h => ?_)
  · obtain ⟨v, L, f, rfl, _⟩ := h
    rfl
  · obtain ⟨v, L, f, rfl, hv, hL, k⟩ := h
    have nd := scHb.nd
    obtain ⟨a, rfl, ha⟩ := dp_nums hv
    refine ⟨_, (pss_one (ps_ret (pe_callB (anyLK K) (by rfl) hany (by decide +kernel) (pa_cons (pe_lc (own := [("number", 1)]) (g := (gName 1)) (tt := tYes) rfl nd (piT K (pv 0)) (blkOk_by (own := [("number", 1)]) (N := nHb) (sc := defScope sHb) (by decide +kernel)) (fun _ _ _ _ _ => (pg_name (i := 1) nd rfl (by first | exact Or.inl rfl | exact Or.inr rfl))) (fun _ _ _ _ _ => pts_nil) (fun _ _ _ _ _ => (pe_cmpR op_lt (pv 1) pe_int (nomark _)))) pa_nil)))), ?_⟩
    refine ⟨_, rfl, a, rfl, ⟨_, ha⟩, fun E1 hE1 => ?_⟩
    refine lc_run (walk_tup (xs := numsV L f)) hE1 (fun i acc _ => acc = (List.range i).map fun k => V.bl (decide (f k < 0))) ?_ ?_ ?_ ?_
    · exact fun H' s => sqT_same s ha
    · rfl
    · rintro i x acc H2 H' hi hacc e s r ⟨rfl, hx⟩
      rw [numsV_len] at hi
      rw [numsV_get hi] at hx
      cases hx
      refine ⟨rfl, yes_go ?_⟩
      refine ⟨_, rfl, _, _, rfl, rfl, ?_⟩
      have r' : acc = (List.range i).map fun k => V.bl (decide (f k < 0)) := r
      refine lc_add hacc e (Same.refl _) (by rw [r', List.length_map, List.length_range]; omega) ?_
      rw [List.range_succ, List.map_append, r']
      rfl
    · rintro acc H2 h1 s2 r
      have r' : acc = (List.range (numsV L f).length).map fun k => V.bl (decide (f k < 0)) := r
      rw [numsV_len] at r'
      refine ⟨E1, (List.range L).map fun k => decide (f k < 0), rfl, SqL.of ?_, k _ s2⟩
      rw [h1, r', List.map_map]
      rfl
theorem ok_lifted {f f1 f2 f3 f4 U B : Addr} {fd fd1 fd2 fd3 fd4 : FuncData} (D : Df K mg "lifted" sLifted pNb f fd) (T : Bl mg) (hlist : mg "list" = none) (hany : mg "any" = none) (EU : ErrU K mg U B)
    (D_ties : Df K mg "ties_at" sTies ["web", "place"] f1 fd1) (D_do : Df K mg "_do" sDo ["web", "numbers", "deed"] f2 fd2) (D_hb : Df K mg "_has_below" sHb ["numbers"] f3 fd3)
    (D_done : Df K mg "done" sDone ["web", "standing", "deeds"] f4 fd4) : FnOk P w K mg base (L2.CX P w) 4 f fd pNb (spLifted K U) := by
  have G_hb : FnOk P w K mg base CX0 1 f3 fd3 ["numbers"] (spHbT K) := ok_hbT D_hb T hany
  have G_done : FnOk P w K mg base CX0 3 f4 fd4 ["web", "standing", "deeds"] (spDone K) := ok_done D_done T hlist D_ties D_do
  refine D.fn.okX scLifted (fun vs H Q E h => ?_) (fun cdv A outer s H vs Q E hr h => ?_)
  · obtain ⟨v, sv, dv, n, ts, f, ds, rfl, _⟩ := h
    rfl
  · obtain ⟨v, sv, dv, n, ts, f, ds, rfl, hw, hs, hd, hok, hl, hdl, kx, k⟩ := h
    have hr_done : Room 3 _ := hr
    have hr_hb : Room 1 _ := hr.mono (by decide)
    have nd := scLifted.nd
    refine ⟨_, (pss_cons (ps_if (PW.pt (pw_or (pt_val (pe_call G_hb hr_hb (by rfl) D_hb.ad D_hb.fn.kp D_hb.bd .nil pass0 (pa_cons (pv 1) pa_nil))) (pw_or1 (pt_val (pe_call G_hb hr_hb (by rfl) D_hb.ad D_hb.fn.kp D_hb.bd .nil pass0 (pa_cons (pe_call G_done hr_done (by rfl) D_done.ad D_done.fn.kp D_done.bd .nil pass0 (pa_cons (pv 0) (pa_cons (pv 1) (pa_cons (pv 2) pa_nil)))) pa_nil)))))) (pss_one (ps_unfit rfl EU (takes_of rfl rfl rfl rfl))) pss_nil)
      (pss_cons (ps_setLc (i := 3) (own := [("deed", 5)]) (g := (gName 5)) rfl nd rfl rfl (sw_true rfl rfl rfl (by decide +kernel)) (piT K (pv 2)) (blkOk_by (own := [("deed", 5)]) (N := nLifted) (sc := defScope sLifted) (by decide +kernel)) (fun _ _ _ _ _ => (pg_name (i := 5) nd rfl (by first | exact Or.inl rfl | exact Or.inr rfl))) (fun _ _ _ _ _ => (pts_one (pt_cmpR op_gt (pe_ix (ixT K) (pv 5) pe_int (fun _ _ => rfl)) pe_int (nomark _)))) (fun _ _ _ _ _ => (pv 5)))
      (pss_cons (ps_setLc (i := 4) (own := [("deed", 5)]) (g := (gName 5)) rfl nd rfl rfl (sw_true rfl rfl rfl (by decide +kernel)) (piT K (pv 2)) (blkOk_by (own := [("deed", 5)]) (N := nLifted) (sc := defScope sLifted) (by decide +kernel)) (fun _ _ _ _ _ => (pg_name (i := 5) nd rfl (by first | exact Or.inl rfl | exact Or.inr rfl))) (fun _ _ _ _ _ => (pts_one (pt_cmpR op_lt (pe_ix (ixT K) (pv 5) pe_int (fun _ _ => rfl)) pe_int (nomark _)))) (fun _ _ _ _ _ => (pv 5)))
      (pss_one (ps_ret (pe_callTy (tupleK K) (by rfl) T.tuple (by decide +kernel) (pa_cons (pe_op op_cat (pv 3) (pv 4)) pa_nil))))))), ?_⟩
    obtain ⟨ad, xs, rfl, had, hxs⟩ := dp_tup hd
    have hxl : xs.length = ds.length := by rw [dpAll_len hxs, List.length_map]
    refine tSeq_go ?_
    refine tIfS_t (fun t H' => Same H H' ∧ t = badB ts f ds) ?_ ?_ (fun cont => ?_)
    · rintro H1 ⟨s1, e⟩
      exact kx e.symm H1 s1
    · rintro H1 ⟨s1, e⟩
      have hb : badB ts f ds = false := e.symm
      dsimp only [tNext]
      refine tSeq_go ?_
      refine tAsg_by (fun u H' => ∃ (l : Addr) (ys : List V), u = .ref l ∧ Same H1 H' ∧ H' l = some (.lst ys) ∧ DpAll K H' ys ((posD ds).map Deed.D)) ?_ (fun cont1 => ?_)
      rotate_left
      · refine ⟨_, rfl, ad, rfl, ⟨_, sqT_same s1 had⟩, fun E1 hE1 => ?_⟩
        refine lc_run (walk_tup (xs := xs)) hE1 (fun i acc Hq => DpAll K Hq acc ((posD (ds.take i)).map Deed.D)) ?_ ?_ ?_ ?_
        · exact fun H' s => sqT_same (s1.trans s) had
        · exact .nil
        · rintro i x acc H2 H' hi hacc e s r ⟨rfl, hx⟩
          obtain ⟨dd, hdd, hdp⟩ := dpAll_get hxs hx
          obtain ⟨d, hdj, rfl⟩ := get_map hdd
          obtain ⟨ax, va, rfl, hax, _⟩ := dp_deed hdp
          have htk : ds.take (i + 1) = ds.take i ++ [d] := by
            rw [List.take_add_one, hdj]
            rfl
          have hal : acc.length ≤ 3000 := by
            rw [dpAll_len r, List.length_map]
            exact Nat.le_trans (List.length_filter_le _ _) (by rw [List.length_take]; omega)
          have hax2 := sqT_same (s1.trans s) hax
          refine ⟨rfl, ?_⟩
          refine ⟨_, rfl, ax, _, _, _, rfl, rfl, hax2, atI_nat (j := 2) rfl, _, _, rfl, rfl, _, rfl, ?_⟩
          refine ite2 (fun hh => ?_) (fun hh => ?_)
          · refine ⟨_, rfl, ?_⟩
            refine lc_add hacc e (Same.refl _) (by omega) ?_
            have e1 : posD (ds.take (i + 1)) = posD (ds.take i) ++ [d] := by
              unfold posD
              rw [htk, List.filter_append, List.filter_cons, if_pos hh]
              rfl
            rw [e1, List.map_append]
            exact dpAll_app r (.cons (dp_same (s1.trans e) _ hdp) .nil)
          · refine lc_skip hacc e (Same.refl _) ?_
            have e1 : posD (ds.take (i + 1)) = posD (ds.take i) := by
              unfold posD
              rw [htk, List.filter_append, List.filter_cons, if_neg hh]
              simp
            rw [e1]
            exact r
        · rintro acc H2 h1 s2 r
          rw [hxl, List.take_of_length_le (Nat.le_refl _)] at r
          exact cont1 _ _ ⟨E1, acc, rfl, s2, h1, dpAll_same era_back _ r⟩
      rintro u1 H2 ⟨l1, ys1, rfl, s2, hl1, hy1⟩
      dsimp only [gName]
      refine at_st [some v, some sv, some (.ref ad), some (.ref l1), none, none] rfl ?_
      refine tSeq_go ?_
      refine tAsg_by (fun u H' => ∃ (l : Addr) (ys : List V), u = .ref l ∧ Same H2 H' ∧ H' l = some (.lst ys) ∧ DpAll K H' ys ((negD ds).map Deed.D)) ?_ (fun cont2 => ?_)
      rotate_left
      · refine ⟨_, rfl, ad, rfl, ⟨_, sqT_same (s1.trans s2) had⟩, fun E1 hE1 => ?_⟩
        refine lc_run (walk_tup (xs := xs)) hE1 (fun i acc Hq => DpAll K Hq acc ((negD (ds.take i)).map Deed.D)) ?_ ?_ ?_ ?_
        · exact fun H' s => sqT_same ((s1.trans s2).trans s) had
        · exact .nil
        · rintro i x acc H2 H' hi hacc e s r ⟨rfl, hx⟩
          obtain ⟨dd, hdd, hdp⟩ := dpAll_get hxs hx
          obtain ⟨d, hdj, rfl⟩ := get_map hdd
          obtain ⟨ax, va, rfl, hax, _⟩ := dp_deed hdp
          have htk : ds.take (i + 1) = ds.take i ++ [d] := by
            rw [List.take_add_one, hdj]
            rfl
          have hal : acc.length ≤ 3000 := by
            rw [dpAll_len r, List.length_map]
            exact Nat.le_trans (List.length_filter_le _ _) (by rw [List.length_take]; omega)
          have hax2 := sqT_same ((s1.trans s2).trans s) hax
          refine ⟨rfl, ?_⟩
          refine ⟨_, rfl, ax, _, _, _, rfl, rfl, hax2, atI_nat (j := 2) rfl, _, _, rfl, rfl, _, rfl, ?_⟩
          refine ite2 (fun hh => ?_) (fun hh => ?_)
          · refine ⟨_, rfl, ?_⟩
            refine lc_add hacc e (Same.refl _) (by omega) ?_
            have e1 : negD (ds.take (i + 1)) = negD (ds.take i) ++ [d] := by
              unfold negD
              rw [htk, List.filter_append, List.filter_cons, if_pos hh]
              rfl
            rw [e1, List.map_append]
            exact dpAll_app r (.cons (dp_same ((s1.trans s2).trans e) _ hdp) .nil)
          · refine lc_skip hacc e (Same.refl _) ?_
            have e1 : negD (ds.take (i + 1)) = negD (ds.take i) := by
              unfold negD
              rw [htk, List.filter_append, List.filter_cons, if_neg hh]
              simp
            rw [e1]
            exact r
        · rintro acc H2 h1 s2 r
          rw [hxl, List.take_of_length_le (Nat.le_refl _)] at r
          exact cont2 _ _ ⟨E1, acc, rfl, s2, h1, dpAll_same era_back _ r⟩
      rintro u2 H3 ⟨l2, ys2, rfl, s3, hl2, hy2⟩
      dsimp only [gName]
      refine at_st [some v, some sv, some (.ref ad), some (.ref l1), some (.ref l2), none] rfl ?_
      have hlen : ys1.length + ys2.length ≤ 2 * ds.length := by
        have e1 := dpAll_len hy1
        have e2 := dpAll_len hy2
        have e3 := lift_len ds
        unfold liftL at e3
        rw [List.length_append] at e3
        rw [List.length_map] at e1 e2
        omega
      refine ⟨_, rfl, _, rfl, l1, l2, _, _, rfl, rfl, s3 _ _ hl1, hl2, Nat.le_trans (show _ ≤ 100000 by omega) (by decide), fun p hp => ?_⟩
      have s4 := same_new (o := .lst (ys1 ++ ys2)) hp
      refine ⟨p, _, rfl, .inl ⟨SqL.of upd_same, fun q hq => ?_⟩⟩
      have s5 := same_new (o := .tup (ys1 ++ ys2)) hq
      refine k hb _ _ (s1.trans (s2.trans (s3.trans (s4.trans s5)))) (.tup (SqT.of upd_same) ?_)
      unfold liftL
      rw [List.map_append]
      exact dpAll_app (dpAll_same (s3.trans (s4.trans s5)) _ hy1) (dpAll_same (s4.trans s5) _ hy2)
    · refine ⟨_, rfl, sv, ts.length, f, rfl, hs, hl, fun H1 s1 => ⟨_, rfl, ?_⟩⟩
      refine ite2 (fun hh => ?_) (fun hh => ?_)
      · refine cont _ _ ⟨s1, ?_⟩
        unfold badB
        rw [hh]
        rfl
      · refine ⟨_, rfl, _, rfl, _, rfl, v, sv, .ref ad, n, ts, f, ds, rfl, dp_same s1 _ hw, dp_same s1 _ hs, dp_same s1 _ hd, hok, hl, fun u H2 s2 hu => ?_⟩
        refine ⟨u, ts.length, _, rfl, hu, hl, fun H3 s3 => ⟨_, rfl, ?_⟩⟩
        refine cont _ _ ⟨s1.trans (s2.trans s3), ?_⟩
        unfold badB
        rw [Bool.eq_false_iff.mpr hh]
        rfl
theorem ok_told {f f0 f1 f2 f3 f4 U B : Addr} {fd fd0 fd1 fd2 fd3 fd4 : FuncData} (D : Df K mg "_law_told" sTold pTold f fd) (T : Bl mg) (hlist : mg "list" = none) (hany : mg "any" = none) (hisinstance : mg "isinstance" = none) (EU : ErrU K mg U B)
    (D_ties : Df K mg "ties_at" sTies ["web", "place"] f1 fd1) (D_do : Df K mg "_do" sDo ["web", "numbers", "deed"] f2 fd2) (D_hb : Df K mg "_has_below" sHb ["numbers"] f3 fd3)
    (D_done : Df K mg "done" sDone ["web", "standing", "deeds"] f4 fd4) (D_lifted_x : Df K mg "lifted" sLifted pNb f0 fd0)
    (K_lifted_x : KBn K fd0 pNb 0 ["deeds", "standing", "web"] (fun _ ws => ws.reverse) (fun _ zs => zs.reverse)) : FnOk P w K mg base CX0 5 f fd pTold (spTold K) := by
  have G_lifted_x : FnOk P w K mg base (L2.CX P w) 4 f0 fd0 pNb (spLifted K U) := ok_lifted D_lifted_x T hlist hany EU D_ties D_do D_hb D_done
  refine D.fn.ok scTold (fun vs H Q E h => ?_) (fun cdv A outer s H vs Q E hr h => ?_)
  · obtain ⟨v, sv, dv, n, ts, f, ds, nm, rfl, _⟩ := h
    rfl
  · obtain ⟨v, sv, dv, n, ts, f, ds, nm, rfl, hw, hs, hd, hok, hl, hdl, k⟩ := h
    have hr_lifted_x : Room 4 _ := hr
    have nd := scTold.nd
    refine ⟨_, (pss_one (ps_try_as (i := 4) rfl rfl nd rfl rfl ⟨rfl, by decide, .inl EU.gU⟩ takes0 (fun W pn xe tk _ => (pss_cons (ps_if (pt_val (pv 3)) (pss_one (ps_ret (pe_lst (pa_cons pe_str (pa_cons (pe_callKS G_lifted_x hr_lifted_x (by rfl) D_lifted_x.ad D_lifted_x.fn.kp K_lifted_x (fun σ => passAt tk σ) (pk_cons (pv 2) (pk_cons (pv 1) (pk_cons (pv 0) pk_nil)))) pa_nil))))) pss_nil)
      (pss_one (ps_ret (pe_lst (pa_cons pe_str (pa_cons (pe_callS G_lifted_x hr_lifted_x (by rfl) D_lifted_x.ad D_lifted_x.fn.kp D_lifted_x.bd (fun σ => passAt tk σ) (pa_cons (pv 0) (pa_cons (pv 1) (pa_cons (pv 2) pa_nil)))) pa_nil))))))) (fun a oe cls d pn hz hf => (pss_one (ps_ret (pe_lst (pa_cons pe_str (pa_cons (pe_and (pe_callB (isX hz hf) (by rfl) hisinstance (by decide +kernel) (pa_cons (pv 4) (pa_cons (pe_bltn (v := .ty "ValueError") (by rfl) EU.gv (by decide +kernel) rfl) pa_nil))) (pe_one (pe_callB (isX hz hf) (by rfl) hisinstance (by decide +kernel) (pa_cons (pv 4) (pa_cons (pe_glob (by rfl) EU.gB (show RelV (.ref B) (.ref B) from rfl)) pa_nil))))) pa_nil)))))))), ?_⟩
    have exc : ∀ (cls : Value) (H1 : Hp), Same H H1 → badB ts f ds = true → cls = .ref U → ∀ (q : Addr), H1 q = none → Q (.ref q) (upd H1 q (.lst [.str "Unfit", .bl true])) := fun cls H1 s1 hb _ q hq => by
      refine k _ _ (s1.trans (same_new hq)) ?_
      unfold toldD
      rw [if_pos hb]
      exact .lst (SqL.of upd_same) (.cons (.str _) (.cons (.bl _) .nil))
    have fine : ∀ (u : V) (H1 : Hp), Same H H1 → badB ts f ds = false → Dp K H1 u (deedsD (liftL ds)) → ∀ (q : Addr), H1 q = none → Q (.ref q) (upd H1 q (.lst [.str "told", u])) := fun u H1 s1 hb hu q hq => by
      refine k _ _ (s1.trans (same_new hq)) ?_
      unfold toldD
      rw [if_neg (by rw [hb]; decide)]
      exact .lst (SqL.of upd_same) (.cons (.str _) (.cons (dp_same (same_new hq) _ hu) .nil))
    refine tSeq_go ?_
    refine ⟨_, rfl, nm, rfl, ?_⟩
    refine ite2 (fun hh => ?_) (fun hh => ?_)
    · refine ⟨_, rfl, _, rfl, _, rfl, rfl, v, sv, dv, n, ts, f, ds, rfl, hw, hs, hd, hok, hl, hdl, fun hb H1 s1 => ⟨true, EU.te, fun _ a ha => ?_, fun z => nomatch z⟩, fun hb u H1 s1 hu => ⟨by show 2 ≤ sizeLine; decide, fun q hq => fine u H1 s1 hb hu q hq⟩⟩
      refine ⟨_, rfl, U, EU.ex, rfl, rfl, .ty "ValueError", .type "ValueError", true, rfl, fun _ h => h, EU.iv, ?_⟩
      refine ⟨true, rfl, iteT ⟨_, rfl, U, EU.ex, rfl, rfl, .ref B, .ref B, true, rfl, fun _ h => h, EU.ib, ?_⟩⟩
      exact ⟨by show 2 ≤ sizeLine; decide, fun q hq => exc _ H1 s1 hb rfl q hq⟩
    · refine ⟨_, rfl, _, rfl, _, rfl, v, sv, dv, n, ts, f, ds, rfl, hw, hs, hd, hok, hl, hdl, fun hb H1 s1 => ⟨true, EU.te, fun _ a ha => ?_, fun z => nomatch z⟩, fun hb u H1 s1 hu => ⟨by show 2 ≤ sizeLine; decide, fun q hq => fine u H1 s1 hb hu q hq⟩⟩
      refine ⟨_, rfl, U, EU.ex, rfl, rfl, .ty "ValueError", .type "ValueError", true, rfl, fun _ h => h, EU.iv, ?_⟩
      refine ⟨true, rfl, iteT ⟨_, rfl, U, EU.ex, rfl, rfl, .ref B, .ref B, true, rfl, fun _ h => h, EU.ib, ?_⟩⟩
      exact ⟨by show 2 ≤ sizeLine; decide, fun q hq => exc _ H1 s1 hb rfl q hq⟩
end
end BV

namespace BV
open PySem L2
abbrev sRight : Stmt := top 24
abbrev nRight : List Str := ["_law_web_here", "_law_standing", "_law_deeds_here", "_law_is_named", "_law_kept", "_law_end", "_law_told_here", "_law_due", "_law_row", "_law_number", "_law_deed"]
theorem scRight : FnScope nRight pTold (defScope sRight) := ⟨rfl, rfl, rfl, by decide +kernel, rfl, by decide +kernel, by decide +kernel⟩
/-- what may be asked of a deed that is written -/
def Mild (L : Nat) (d : Deed) : Prop := d.times.natAbs ≤ 2 ^ 110 ∧ Sm d.about 13 1
def spRight (K : PySem.W.Frag) : Sp := fun vs H Q _ => ∃ (v sv dv : V) (n : Nat) (ts : List Tie) (f : Nat → Int) (ds : List Deed) (nm : Bool), vs = [v, sv, dv, .bl nm] ∧
  Dp K H v (webD n ts) ∧ Dp K H sv (numsD ts.length f) ∧ Dp K H dv (deedsD ds) ∧ (∀ t ∈ ts, t.1 < t.2 ∧ t.2 < n) ∧ n ≤ 1000 ∧ ts.length ≤ 12 ∧ ds.length ≤ 12 ∧
  (∀ d ∈ ds, d.Ok ts ∧ Mild ts.length d) ∧ (∀ k, (f k).natAbs ≤ 10 ^ 12) ∧ ∀ H', Same H H' → Q (.bl true) H'
theorem sm_boolR (b : Bool) : Sm (.bool b) 1 0 := ⟨by simp only [tiny], by simp only [nodes]; exact Nat.le_refl _, by simp only [PyData.depth]; exact Nat.le_refl _⟩
def intsR (L : Nat) (f : Nat → Int) : List Int := (List.range L).map f
theorem numsV_ints (L : Nat) (f : Nat → Int) : numsV L f = (intsR L f).map V.int := by
  unfold numsV intsR
  rw [List.map_map]
  rfl
theorem ints_ok {L : Nat} {f : Nat → Int} : (∀ z ∈ intsR L f, 0 ≤ z) ↔ negB L f = false := by
  rw [negB_false]
  constructor
  · intro h k hk
    exact h _ (List.mem_map.mpr ⟨k, List.mem_range.mpr hk, rfl⟩)
  · intro h z hz
    obtain ⟨k, hk, rfl⟩ := List.mem_map.mp hz
    exact h k (List.mem_range.mp hk)
theorem ints_two {ts : List Tie} {f : Nat → Int} {ds : List Deed} : (∀ z ∈ intsR ts.length f ++ intsR ts.length (behind ts f ds), 0 ≤ z) ↔ badB ts f ds = false := by
  unfold badB
  rw [Bool.or_eq_false_iff, ← ints_ok, ← ints_ok]
  constructor
  · exact fun h => ⟨fun z hz => h z (List.mem_append_left _ hz), fun z hz => h z (List.mem_append_right _ hz)⟩
  · rintro ⟨h1, h2⟩ z hz
    exact (List.mem_append.mp hz).elim (h1 z) (h2 z)
theorem still_deedsD (ds : List Deed) : still (deedsD ds) = true := by simp only [deedsD, still, still_deeds]
section
variable {P : Program} {w : World} {K : PySem.W.Frag} {mg : Str → Option Value} {base : Heap}
theorem ok_right {f f0 f1 f2 f3 f4 f5 f6 f7 U B : Addr} {fd fd0 fd1 fd2 fd3 fd4 fd5 fd6 fd7 : FuncData} (D : Df K mg "_law_is_right" sRight pTold f fd) (T : Bl mg) (hlist : mg "list" = none) (hany : mg "any" = none) (hisinstance : mg "isinstance" = none) (EU : ErrU K mg U B)
    (D_ties : Df K mg "ties_at" sTies ["web", "place"] f1 fd1) (D_do : Df K mg "_do" sDo ["web", "numbers", "deed"] f2 fd2) (D_hb : Df K mg "_has_below" sHb ["numbers"] f3 fd3)
    (D_done : Df K mg "done" sDone ["web", "standing", "deeds"] f4 fd4) (D_lifted_x : Df K mg "lifted" sLifted pNb f0 fd0)
    (K_lifted_x : KBn K fd0 pNb 0 ["deeds", "standing", "web"] (fun _ ws => ws.reverse) (fun _ zs => zs.reverse)) (D_nb : Df K mg "never_below" sNb pNb f5 fd5)
    (D_ldone : Df K mg "_law_done" sLdone pLdone f6 fd6) (D_told : Df K mg "_law_told" sTold pTold f7 fd7) : FnG P w K mg base CX0 6 f fd pTold (spRight K) := by
  have G_lifted_x : FnOk P w K mg base (L2.CX P w) 4 f0 fd0 pNb (spLifted K U) := ok_lifted D_lifted_x T hlist hany EU D_ties D_do D_hb D_done
  have G_told : FnOk P w K mg base CX0 5 f7 fd7 pTold (spTold K) := ok_told D_told T hlist hany hisinstance EU D_ties D_do D_hb D_done D_lifted_x K_lifted_x
  have G_done : FnOk P w K mg base CX0 3 f4 fd4 ["web", "standing", "deeds"] (spDone K) := ok_done D_done T hlist D_ties D_do
  have G_nb : FnOk P w K mg base CX0 3 f5 fd5 pNb (spNb K) := ok_nb D_nb T hlist hany D_ties D_do D_hb
  have G_ldone : FnOk P w K mg base CX0 1 f6 fd6 pLdone (spLdone K) := ok_ldone D_ldone T hlist
  refine okG D.fn scRight (fun vs H Q E h => ?_) (fun cdv A outer s H vs Q E hgd hr h => ?_)
  · obtain ⟨v, sv, dv, n, ts, f, ds, nm, rfl, _⟩ := h
    rfl
  · obtain ⟨v, sv, dv, n, ts, f, ds, nm, rfl, hw, hs, hd, hends, hn, hl, hdl, hds, hf, k⟩ := h
    have hr_told : Room 5 _ := hr
    have hr_lifted_x : Room 4 _ := hr.mono (by decide)
    have hr_done : Room 3 _ := hr.mono (by decide)
    have hr_nb : Room 3 _ := hr.mono (by decide)
    have hr_ldone : Room 1 _ := hr.mono (by decide)
    have hu64 := hr.units
    have nd := scRight.nd
    have hok : ∀ d ∈ ds, d.Ok ts := fun d hd => (hds d hd).1
    have hokL : ∀ d ∈ liftL ds, d.Ok ts := fun d hd => hok d (lift_mem hd)
    have hll : (liftL ds).length ≤ 24 := Nat.le_trans (lift_len ds) (by omega)
    have hfS : ∀ k, (f k).natAbs < 2 ^ 200 := fun k => Nat.lt_of_le_of_lt (hf k) (by decide)
    have hbS : ∀ k, (behind ts f ds k).natAbs < 2 ^ 200 := fun k => by
      have h3 := behind_abs (ts := ts) ds k (fun d hd => (hds d hd).2.1) hf
      have h4 : ds.length * 2 ^ 110 ≤ 12 * 2 ^ 110 := Nat.mul_le_mul_right _ hdl
      have h5 : (10 : Nat) ^ 12 + 12 * 2 ^ 110 < 2 ^ 200 := by decide
      omega
    have smW : Sm (webD n ts) 1000 4 := (sm_web (fun t ht => by have := hends t ht; omega) (by omega)).mono (by omega) (by omega)
    have smS : ∀ {h : Nat → Int}, (∀ k, (h k).natAbs < 2 ^ 200) → Sm (numsD ts.length h) 1000 4 := fun h => (sm_nums h).mono (by omega) (by omega)
    have smDD : ∀ es : List Deed, es.length ≤ 24 → (∀ d ∈ es, Mild ts.length d) → Sm (deedsD es) 1000 4 := fun es h8 hes =>
      (sm_deeds (m := 13) (fun d hd => ⟨Nat.lt_of_le_of_lt (hes d hd).1 (by decide), (hes d hd).2⟩) (by decide)).mono (by omega) (by omega)
    have smD := smDD ds (by omega) fun d hd => (hds d hd).2
    have smL := smDD (liftL ds) hll fun d hd => (hds d (lift_mem hd)).2
    have show3 : Show (.list [webD n ts, numsD ts.length f, deedsD ds]) := sm_show (sm_lst (c := 1000) (k := 4) (by
      intro d hd
      simp only [List.mem_cons, List.not_mem_nil, or_false] at hd
      rcases hd with rfl | rfl | rfl
      · exact smW
      · exact smS hfS
      · exact smD)) (by show 3 * 1000 + 1 ≤ 15000; decide) (by decide)
    have smX : ∀ x : Str, x.length ≤ 100 → (x.cps.toList.all fun c => decide (c < 16 ^ 8)) = true → Sm (.str x) 1 0 := fun x h1 h2 => ⟨by simp only [tiny, h2, decide_eq_true h1, Bool.and_self], by simp only [nodes]; exact Nat.le_refl _, by simp only [PyData.depth]; exact Nat.le_refl _⟩
    have showU : Show (.list [.str "Unfit", .bool true]) := sm_show (sm_lst (c := 1) (k := 0) (by
      intro d hd
      simp only [List.mem_cons, List.not_mem_nil, or_false] at hd
      rcases hd with rfl | rfl
      · exact smX _ (by decide) (by decide)
      · exact sm_boolR _)) (by show 2 * 1 + 1 ≤ 15000; decide) (by decide)
    have showL : Show (.list [.str "told", deedsD (liftL ds)]) := sm_show (sm_lst (c := 1000) (k := 4) (by
      intro d hd
      simp only [List.mem_cons, List.not_mem_nil, or_false] at hd
      rcases hd with rfl | rfl
      · exact (smX _ (by decide) (by decide)).mono (by decide) (by decide)
      · exact smL)) (by show 2 * 1000 + 1 ≤ 15000; decide) (by decide)
    have showE : Show (numsD ts.length (behind ts f ds)) := sm_show (smS hbS) (by decide) (by decide)
    have showD : Show (deedsD (liftL ds)) := sm_show smL (by decide) (by decide)
    obtain ⟨ad, xs, rfl, had, hxs⟩ := dp_tup hd
    have hxl : xs.length = ds.length := by rw [dpAll_len hxs, List.length_map]
    obtain ⟨as, rfl, has⟩ := dp_nums hs
    obtain ⟨a, c, ys, rfl, ha, hc, hys⟩ := dp_web hw
    refine ⟨_, (pss_cons (ps_par (i := 4) (j := 5) (by rfl) nd rfl rfl (by decide) rfl rfl (pa_cons (pe_callB (reprK K hgd hu64) (by rfl) T.repr (by decide +kernel) (pa_cons (pe_lst (pa_cons (pv 0) (pa_cons (pv 1) (pa_cons (pv 2) pa_nil)))) pa_nil)) (pa_cons (pe_ix (ixL K) (pe_call G_ldone hr_ldone (by rfl) D_ldone.ad D_ldone.fn.kp D_ldone.bd .nil pass0 (pa_cons (pv 0) (pa_cons (pv 1) (pa_cons (pv 2) pa_nil)))) (pe_un un_neg pe_int) (fun _ _ => rfl)) pa_nil)) (by rfl))
      (pss_cons (ps_set (i := 6) nd rfl (by first | exact Or.inl rfl | exact Or.inr rfl) (pe_call G_told hr_told (by rfl) D_told.ad D_told.fn.kp D_told.bd .nil pass0 (pa_cons (pv 0) (pa_cons (pv 1) (pa_cons (pv 2) (pa_cons (pv 3) pa_nil))))))
      (pss_cons (ps_if (pt_cmpR (opNeD K hr.units) (pe_lc (own := [("_law_number", 9)]) (g := (gName 9)) rfl nd (piT K (pe_op (catA K) (pv 1) (pv 5))) (blkOk_by (own := [("_law_number", 9)]) (N := nRight) (sc := defScope sRight) (by decide +kernel)) (fun _ _ _ _ _ => (pg_name (i := 9) nd rfl (by first | exact Or.inl rfl | exact Or.inr rfl))) (fun _ _ _ _ _ => (pts_one (pt_cmpR op_lt (pv 9) pe_int (nomark _)))) (fun _ _ _ _ _ => pe_int)) (pe_lst pa_nil) (nomark _)) (pss_one (ps_ret (pe_and (pe_cmpR op_eq (pe_callB (reprK K hgd hu64) (by rfl) T.repr (by decide +kernel) (pa_cons (pv 6) pa_nil)) (pe_callB (reprK K hgd hu64) (by rfl) T.repr (by decide +kernel) (pa_cons (pe_lst (pa_cons pe_str (pa_cons pe_bl pa_nil))) pa_nil)) (nomark _)) (pe_one (pe_cmpR op_eq (pe_callB (reprK K hgd hu64) (by rfl) T.repr (by decide +kernel) (pa_cons (pe_lst (pa_cons (pv 0) (pa_cons (pv 1) (pa_cons (pv 2) pa_nil)))) pa_nil)) (pv 4) (nomark _)))))) pss_nil)
      (pss_cons (ps_set (i := 7) nd rfl (by first | exact Or.inl rfl | exact Or.inr rfl) (pe_op op_cat (pe_lc (own := [("_law_deed", 10)]) (g := (gName 10)) rfl nd (piT K (pv 2)) (blkOk_by (own := [("_law_deed", 10)]) (N := nRight) (sc := defScope sRight) (by decide +kernel)) (fun _ _ _ _ _ => (pg_name (i := 10) nd rfl (by first | exact Or.inl rfl | exact Or.inr rfl))) (fun _ _ _ _ _ => (pts_one (pt_cmpR op_gt (pe_ix (ixT K) (pv 10) pe_int (fun _ _ => rfl)) pe_int (nomark _)))) (fun _ _ _ _ _ => (pv 10))) (pe_lc (own := [("_law_deed", 10)]) (g := (gName 10)) rfl nd (piT K (pv 2)) (blkOk_by (own := [("_law_deed", 10)]) (N := nRight) (sc := defScope sRight) (by decide +kernel)) (fun _ _ _ _ _ => (pg_name (i := 10) nd rfl (by first | exact Or.inl rfl | exact Or.inr rfl))) (fun _ _ _ _ _ => (pts_one (pt_cmpR op_lt (pe_ix (ixT K) (pv 10) pe_int (fun _ _ => rfl)) pe_int (nomark _)))) (fun _ _ _ _ _ => (pv 10)))))
      (pss_cons (ps_if (PW.pt (pw_or (pt_cmpR op_ne (pe_callB (reprK K hgd hu64) (by rfl) T.repr (by decide +kernel) (pa_cons (pv 6) pa_nil)) (pe_callB (reprK K hgd hu64) (by rfl) T.repr (by decide +kernel) (pa_cons (pe_lst (pa_cons pe_str (pa_cons (pe_callTy (tupleK K) (by rfl) T.tuple (by decide +kernel) (pa_cons (pv 7) pa_nil)) pa_nil))) pa_nil)) (nomark _)) (pw_or1 (pt_cmpR op_ne (pe_callB (reprK K hgd hu64) (by rfl) T.repr (by decide +kernel) (pa_cons (pe_call G_done hr_done (by rfl) D_done.ad D_done.fn.kp D_done.bd .nil pass0 (pa_cons (pv 0) (pa_cons (pv 1) (pa_cons (pe_ix (ixL K) (pv 6) pe_int (fun _ _ => rfl)) pa_nil)))) pa_nil)) (pe_callB (reprK K hgd hu64) (by rfl) T.repr (by decide +kernel) (pa_cons (pv 5) pa_nil)) (nomark _))))) (pss_one (ps_ret pe_bl)) pss_nil)
      (pss_cons (ps_for PassesOwn.never rfl (piL K (pe_call G_ldone hr_ldone (by rfl) D_ldone.ad D_ldone.fn.kp D_ldone.bd .nil pass0 (pa_cons (pv 0) (pa_cons (pv 1) (pa_cons (pe_ix (ixL K) (pv 6) pe_int (fun _ _ => rfl)) pa_nil))))) (pg_name (i := 8) nd rfl (by first | exact Or.inl rfl | exact Or.inr rfl)) (pss_one (ps_if (pt_cmpR (opNeD K hr.units) (pe_lc (own := [("_law_number", 9)]) (g := (gName 9)) rfl nd (piT K (pv 8)) (blkOk_by (own := [("_law_number", 9)]) (N := nRight) (sc := defScope sRight) (by decide +kernel)) (fun _ _ _ _ _ => (pg_name (i := 9) nd rfl (by first | exact Or.inl rfl | exact Or.inr rfl))) (fun _ _ _ _ _ => (pts_one (pt_cmpR op_lt (pv 9) pe_int (nomark _)))) (fun _ _ _ _ _ => pe_int)) (pe_lst pa_nil) (nomark _)) (pss_one (ps_ret pe_bl)) pss_nil)))
      (pss_cons (ps_if (pt_cmpR op_notBl (pe_call G_nb hr_nb (by rfl) D_nb.ad D_nb.fn.kp D_nb.bd .nil pass0 (pa_cons (pv 0) (pa_cons (pv 1) (pa_cons (pe_ix (ixL K) (pv 6) pe_int (fun _ _ => rfl)) pa_nil)))) pe_bl (nomark _)) (pss_one (ps_ret pe_bl)) pss_nil)
      (pss_one (ps_ret (pe_and (pe_cmpR op_eq (pe_callB (reprK K hgd hu64) (by rfl) T.repr (by decide +kernel) (pa_cons (pe_call G_lifted_x hr_lifted_x (by rfl) D_lifted_x.ad D_lifted_x.fn.kp D_lifted_x.bd .nil passL (pa_cons (pv 0) (pa_cons (pv 1) (pa_cons (pe_ix (ixL K) (pv 6) pe_int (fun _ _ => rfl)) pa_nil)))) pa_nil)) (pe_callB (reprK K hgd hu64) (by rfl) T.repr (by decide +kernel) (pa_cons (pe_ix (ixL K) (pv 6) pe_int (fun _ _ => rfl)) pa_nil)) (nomark _)) (pe_one (pe_cmpR op_eq (pe_callB (reprK K hgd hu64) (by rfl) T.repr (by decide +kernel) (pa_cons (pe_lst (pa_cons (pv 0) (pa_cons (pv 1) (pa_cons (pv 2) pa_nil)))) pa_nil)) (pv 4) (nomark _))))))))))))), ?_⟩
    -- kept and end
    refine ⟨_, rfl, _, rfl, _, rfl, by show 3 ≤ sizeLine; decide, fun q hq => ?_⟩
    have s1 := same_new (o := .lst [.ref a, .ref as, .ref ad]) hq
    refine ⟨.ref q, .list [webD n ts, numsD ts.length f, deedsD ds], rfl, .lst (SqL.of upd_same) (.cons (dp_same s1 _ hw) (.cons (dp_same s1 _ hs) (.cons (dp_same s1 _ hd) .nil))), show3, ?_⟩
    refine ⟨_, rfl, _, rfl, _, rfl, .ref a, .ref as, .ref ad, n, ts, f, ds, rfl, dp_same s1 _ hw, dp_same s1 _ hs, dp_same s1 _ hd, by omega, by omega, fun l2 rows H2 s2 hrows hrd => ?_⟩
    have hrl : rows.length = ds.length + 1 := by rw [dpAll_len hrd, List.length_map, List.length_range]
    have hlast : rows[rows.length - 1]? = some rows[rows.length - 1] := List.getElem?_eq_getElem (by omega)
    obtain ⟨dE, hdE, hE⟩ := dpAll_get hrd hlast
    rw [hrl, List.getElem?_map, List.getElem?_range (by omega)] at hdE
    have hdE2 : dE = numsD ts.length (behind ts f ds) := by
      have e := Option.some.inj hdE
      rw [← e]
      unfold rowsD
      rw [List.take_of_length_le (by omega)]
    subst hdE2
    generalize rows[rows.length - 1] = ev at *
    refine ⟨_, rfl, l2, rows, -1, ev, rfl, rfl, SqL.of hrows, atI_last (by omega) hlast, ⟨_, _, rfl, ?_⟩⟩
    obtain ⟨ae, rfl, hae⟩ := dp_nums hE
    have s12 := s1.trans s2
    dsimp only
    refine at_st [some (.ref a), some (.ref as), some (.ref ad), some (.bl nm), some (.str (PyData.list [webD n ts, numsD ts.length f, deedsD ds]).shown), some (.ref ae), none, none, none, none, none] rfl ?_
    refine tSeq_go ?_
    -- told
    refine ⟨_, rfl, _, rfl, _, rfl, _, rfl, .ref a, .ref as, .ref ad, n, ts, f, ds, nm, rfl, dp_same s12 _ hw, dp_same s12 _ hs, dp_same s12 _ hd, hok, by omega, by omega, fun tv H3 s3 htv => ?_⟩
    have s13 := s12.trans s3
    have hae3 := sqT_same s3 hae
    dsimp only [gName]
    refine at_st [some (.ref a), some (.ref as), some (.ref ad), some (.bl nm), some (.str (PyData.list [webD n ts, numsD ts.length f, deedsD ds]).shown), some (.ref ae), some tv, none, none, none, none] rfl ?_
    refine tSeq_go ?_
    have keep : ∀ (H4 : Hp) (q4 : Addr), Same H H4 → H4 q4 = none → Dp K (upd H4 q4 (.lst [.ref a, .ref as, .ref ad])) (.ref q4) (.list [webD n ts, numsD ts.length f, deedsD ds]) := fun H4 q4 s4 hq4 =>
      have s5 := s4.trans (same_new hq4)
      .lst (SqL.of upd_same) (.cons (dp_same s5 _ hw) (.cons (dp_same s5 _ hs) (.cons (dp_same s5 _ hd) .nil)))
    refine tIfS_t (fun t H' => Same H3 H' ∧ t = badB ts f ds) ?_ ?_ (fun cont => ?_)
    · rintro H4 ⟨s4, e⟩
      have hb : badB ts f ds = true := e.symm
      unfold toldD at htv
      rw [if_pos hb] at htv
      refine ⟨_, rfl, tv, _, rfl, dp_same s4 _ htv, showU, ?_⟩
      refine ⟨by show 2 ≤ sizeLine; decide, fun q2 hq2 => ?_⟩
      have s5 := same_new (o := .lst [.str "Unfit", .bl true]) hq2
      refine ⟨.ref q2, .list [.str "Unfit", .bool true], rfl, .lst (SqL.of upd_same) (.cons (.str _) (.cons (.bl _) .nil)), showU, rfl, _, rfl, ?_⟩
      rw [decide_eq_true rfl]
      refine iteT ?_
      have s45 := s13.trans (s4.trans s5)
      refine ⟨_, rfl, _, rfl, _, rfl, by show 3 ≤ sizeLine; decide, fun q4 hq4 => ?_⟩
      refine ⟨.ref q4, _, rfl, keep _ q4 s45 hq4, show3, _, rfl, rfl, ?_⟩
      rw [decide_eq_true rfl]
      exact k _ (s45.trans (same_new hq4))
    · rintro H4 ⟨s4, e⟩
      have hb : badB ts f ds = false := e.symm
      unfold toldD at htv
      rw [if_neg (by rw [hb]; decide)] at htv
      have s14 := s13.trans s4
      have hbl : badB ts f (liftL ds) = false := by rw [bad_lift, hb]
      dsimp only [tNext]
      refine tSeq_go ?_
      -- due
      refine tAsg_by (fun u H' => ∃ (l : Addr) (ys : List V), u = .ref l ∧ Same H4 H' ∧ H' l = some (.lst ys) ∧ DpAll K H' ys ((liftL ds).map Deed.D)) ?_ (fun cont1 => ?_)
      · rintro u1 H5 ⟨l1, ys1, rfl, s5, hl1, hy1⟩
        have s15 := s14.trans s5
        have htv5 := dp_same (s4.trans s5) _ htv
        obtain ⟨tl, its, rfl, htl, hits⟩ := dp_lst htv5
        cases hits with
        | cons hw0 hits => 
        cases hits with
        | cons hw1 hits => 
        cases hits
        rename_i w0 w1
        dsimp only [gName]
        refine at_st [some (.ref a), some (.ref as), some (.ref ad), some (.bl nm), some (.str (PyData.list [webD n ts, numsD ts.length f, deedsD ds]).shown), some (.ref ae), some (.ref tl), some (.ref l1), none, none, none] rfl ?_
        refine tSeq_go ?_
        refine tIfS_t (fun t H' => Same H5 H' ∧ t = false) ?_ ?_ (fun cont2 => ?_)
        · rintro H' ⟨_, z⟩
          cases z
        · rintro H6 ⟨s6, _⟩
          have s16 := s15.trans s6
          dsimp only [tNext]
          refine tSeq_go ?_
          have htl6 := sqL_same s6 htl
          have hw16 := dp_same s6 _ hw1
          have hnb : nbB ts f (liftL ds) = true := lift_never hb
          refine ⟨_, rfl, _, rfl, _, rfl, tl, _, 1, w1, rfl, rfl, htl6, atI_nat (j := 1) rfl, ?_⟩
          refine ⟨.ref a, .ref as, w1, n, ts, f, liftL ds, rfl, dp_same s16 _ hw, dp_same s16 _ hs, hw16, by omega, by omega, fun l7 rows7 H7 s7 hrows7 hrd7 => ?_⟩
          refine ⟨l7, rfl, ⟨_, SqL.of hrows7⟩, for_it (walk_list (xs := rows7)) (fun i σ H' => ∃ (v8 : Option V), σ = [some (.ref a), some (.ref as), some (.ref ad), some (.bl nm), some (.str (PyData.list [webD n ts, numsD ts.length f, deedsD ds]).shown), some (.ref ae), some (.ref tl), some (.ref l1), v8, none, none] ∧ Same H7 H') ?_ ?_ ?_ ?_⟩
          · exact ⟨none, rfl, Same.refl _⟩
          · rintro i σ H' _ ⟨v8, rfl, sH⟩
            exact SqL.of (sH _ _ hrows7)
          · rintro i x σ H8 H'' hi ⟨v8, rfl, sH⟩ ⟨rfl, hx⟩
            obtain ⟨dd, hdd, hdp⟩ := dpAll_get (dpAll_same sH _ hrd7) hx
            have hil : i < (liftL ds).length + 1 := by
              have e := dpAll_len hrd7
              rw [List.length_map, List.length_range] at e
              omega
            rw [List.getElem?_map, List.getElem?_range hil] at hdd
            obtain rfl := Option.some.inj hdd
            obtain ⟨ax, rfl, hax⟩ := dp_nums hdp
            have hrow : negB ts.length (behind ts f ((liftL ds).take i)) = false := negB_false.mpr (nbR_true.mp hnb i hil)
            rw [numsV_ints] at hax
            refine tIfS_t (fun t H' => Same H'' H' ∧ t = false) ?_ ?_ (fun cont3 => ?_)
            · rintro H' ⟨_, z⟩
              cases z
            · rintro H9 ⟨s9, _⟩
              exact ⟨_, rfl, sH.trans s9⟩
            · refine ⟨_, rfl, ax, rfl, ⟨_, hax⟩, fun E1 hE1 => ?_⟩
              refine lc_run (walk_tup (xs := (intsR ts.length (behind ts f ((liftL ds).take i))).map V.int)) hE1 (fun j acc _ => Ones (intsR ts.length (behind ts f ((liftL ds).take i))) j acc) ?_ ?_ ?_ ?_
              · exact fun H' s => sqT_same s hax
              · exact ⟨0, rfl, Nat.le_refl _, by simp⟩
              · rintro j x acc H5 H' hj hacc e s r ⟨rfl, hx⟩
                obtain ⟨z, hz, rfl⟩ := get_map hx
                have hal : acc.length ≤ 100 := by
                  obtain ⟨m, rfl, hm, _⟩ := id r
                  rw [List.length_map, intsR, List.length_map, List.length_range] at hj
                  rw [List.length_map, List.length_replicate]
                  omega
                refine ⟨rfl, _, rfl, _, _, rfl, rfl, _, rfl, ?_⟩
                refine ite2 (fun hh => ?_) (fun hh => ?_)
                · exact lc_add hacc e (Same.refl _) (by omega) (r.yes hz (by simpa using hh))
                · exact lc_skip hacc e (Same.refl _) (r.no hz (by simpa using hh))
              · rintro acc H5 h1 s5 ⟨m, rfl, _, hm⟩
                refine ⟨Nat.zero_le _, fun p hp => ?_⟩
                have sp : Same H5 (upd H5 p (.lst [])) := same_new hp
                refine ⟨.list ((List.replicate m (1 : Int)).map PyData.int), .list [], .lst (SqL.of (sp _ _ h1)) (dpAll_ints _), .lst (SqL.of upd_same) .nil, shaped_intsL _, shaped_intsL [], _, rfl, ?_⟩
                refine cont3 _ _ ⟨s5.trans sp, ?_⟩
                rw [ones_eqv]
                rw [List.length_map, List.take_of_length_le (Nat.le_refl _), ints_ok] at hm
                have : m = 0 := hm.mpr hrow
                simp [this]
          · rintro σ H8 ⟨v8, rfl, s78⟩
            have s68 := s7.trans s78
            have s18 := s16.trans s68
            dsimp only
            refine tSeq_go ?_
            refine tIfS_t (fun t H' => Same H8 H' ∧ t = false) ?_ ?_ (fun cont3 => ?_)
            · rintro H' ⟨_, z⟩
              cases z
            · rintro H9 ⟨s9, _⟩
              have s19 := s18.trans s9
              have htl9 := sqL_same (s68.trans s9) htl6
              have hw19 := dp_same (s68.trans s9) _ hw16
              dsimp only [tNext]
              refine ⟨_, rfl, _, rfl, _, rfl, tl, _, 1, w1, rfl, rfl, htl9, atI_nat (j := 1) rfl, ?_⟩
              refine ⟨.ref a, .ref as, w1, n, ts, f, liftL ds, rfl, dp_same s19 _ hw, dp_same s19 _ hs, hw19, hokL, by omega, by omega, (fun z => absurd (z.symm.trans hbl) (by decide)), fun _ u10 H10 s10 hu10 => ?_⟩
              rw [lift_lift] at hu10
              refine ⟨u10, _, rfl, hu10, showD, ?_⟩
              refine ⟨_, rfl, tl, _, 1, w1, rfl, rfl, sqL_same s10 htl9, atI_nat (j := 1) rfl, w1, _, rfl, dp_same s10 _ hw19, showD, rfl, _, rfl, ?_⟩
              rw [decide_eq_true rfl]
              refine iteT ?_
              have s110 := s19.trans s10
              refine ⟨_, rfl, _, rfl, _, rfl, by show 3 ≤ sizeLine; decide, fun q4 hq4 => ?_⟩
              refine ⟨.ref q4, _, rfl, keep _ q4 s110 hq4, show3, _, rfl, rfl, ?_⟩
              rw [decide_eq_true rfl]
              exact k _ (s110.trans (same_new hq4))
            · refine ⟨_, rfl, _, rfl, _, rfl, tl, _, 1, w1, rfl, rfl, sqL_same s68 htl6, atI_nat (j := 1) rfl, ?_⟩
              refine ⟨.ref a, .ref as, w1, n, ts, f, liftL ds, rfl, dp_same s18 _ hw, dp_same s18 _ hs, dp_same s68 _ hw16, hokL, by omega, fun H9 s9 => ?_⟩
              refine ⟨_, true, rfl, rfl, _, rfl, iteNS hnb ?_⟩
              exact cont3 _ _ ⟨s9, rfl⟩
        · refine ⟨_, rfl, .ref tl, _, rfl, htv5, showL, ?_⟩
          refine ⟨_, rfl, l1, _, rfl, .inl ⟨SqL.of hl1, fun q5 hq5 => ?_⟩⟩
          have s6 := same_new (o := .tup ys1) hq5
          refine ⟨by show 2 ≤ sizeLine; decide, fun q6 hq6 => ?_⟩
          have s7 := same_new (o := .lst [.str "told", .ref q5]) hq6
          have s67 := s6.trans s7
          refine ⟨.ref q6, .list [.str "told", deedsD (liftL ds)], rfl, .lst (SqL.of upd_same) (.cons (.str _) (.cons (.tup (SqT.of (s7 _ _ upd_same)) (dpAll_same s67 _ hy1)) .nil)), showL, rfl, _, rfl, iteNS rfl ?_⟩
          have s17 := s15.trans s67
          refine ⟨_, rfl, _, rfl, _, rfl, tl, _, 1, w1, rfl, rfl, sqL_same s67 htl, atI_nat (j := 1) rfl, ?_⟩
          refine ⟨.ref a, .ref as, w1, n, ts, f, liftL ds, rfl, dp_same s17 _ hw, dp_same s17 _ hs, dp_same s67 _ hw1, hokL, by omega, fun u8 H8 s8 hu8 => ?_⟩
          rw [behind_lift] at hu8
          refine ⟨u8, _, rfl, hu8, showE, ?_⟩
          refine ⟨_, rfl, .ref ae, _, rfl, nums_dp (sqT_same (s4.trans (s5.trans (s67.trans s8))) hae3), showE, rfl, _, rfl, ?_⟩
          exact cont2 _ _ ⟨s67.trans s8, by simp⟩
      · refine ⟨_, rfl, ad, rfl, ⟨_, sqT_same (s14) had⟩, fun E1 hE1 => ?_⟩
        refine lc_run (walk_tup (xs := xs)) hE1 (fun i acc Hq => DpAll K Hq acc ((posD (ds.take i)).map Deed.D)) ?_ ?_ ?_ ?_
        · exact fun H' s => sqT_same (Same.trans (s14) s) had
        · exact .nil
        · rintro i x acc H2 H' hi hacc e s r ⟨rfl, hx⟩
          obtain ⟨dd, hdd, hdp⟩ := dpAll_get hxs hx
          obtain ⟨d, hdj, rfl⟩ := get_map hdd
          obtain ⟨ax, va, rfl, hax, _⟩ := dp_deed hdp
          have htk : ds.take (i + 1) = ds.take i ++ [d] := by
            rw [List.take_add_one, hdj]
            rfl
          have hal : acc.length ≤ 3000 := by
            rw [dpAll_len r, List.length_map]
            exact Nat.le_trans (List.length_filter_le _ _) (by rw [List.length_take]; omega)
          have hax2 := sqT_same (Same.trans (s14) s) hax
          refine ⟨rfl, ?_⟩
          refine ⟨_, rfl, ax, _, _, _, rfl, rfl, hax2, atI_nat (j := 2) rfl, _, _, rfl, rfl, _, rfl, ?_⟩
          refine ite2 (fun hh => ?_) (fun hh => ?_)
          · refine ⟨_, rfl, ?_⟩
            refine lc_add hacc e (Same.refl _) (by omega) ?_
            have e1 : posD (ds.take (i + 1)) = posD (ds.take i) ++ [d] := by
              unfold posD
              rw [htk, List.filter_append, List.filter_cons, if_pos hh]
              rfl
            rw [e1, List.map_append]
            exact dpAll_app r (.cons (dp_same (Same.trans (s14) e) _ hdp) .nil)
          · refine lc_skip hacc e (Same.refl _) ?_
            have e1 : posD (ds.take (i + 1)) = posD (ds.take i) := by
              unfold posD
              rw [htk, List.filter_append, List.filter_cons, if_neg hh]
              simp
            rw [e1]
            exact r
        · rintro acc1 H5 h1 s5 r1
          rw [hxl, List.take_of_length_le (Nat.le_refl _)] at r1
          refine ⟨_, rfl, ad, rfl, ⟨_, sqT_same (s14.trans s5) had⟩, fun E2 hE2 => ?_⟩
          refine lc_run (walk_tup (xs := xs)) hE2 (fun i acc Hq => DpAll K Hq acc ((negD (ds.take i)).map Deed.D)) ?_ ?_ ?_ ?_
          · exact fun H' s => sqT_same (Same.trans (s14.trans s5) s) had
          · exact .nil
          · rintro i x acc H2 H' hi hacc e s r ⟨rfl, hx⟩
            obtain ⟨dd, hdd, hdp⟩ := dpAll_get hxs hx
            obtain ⟨d, hdj, rfl⟩ := get_map hdd
            obtain ⟨ax, va, rfl, hax, _⟩ := dp_deed hdp
            have htk : ds.take (i + 1) = ds.take i ++ [d] := by
              rw [List.take_add_one, hdj]
              rfl
            have hal : acc.length ≤ 3000 := by
              rw [dpAll_len r, List.length_map]
              exact Nat.le_trans (List.length_filter_le _ _) (by rw [List.length_take]; omega)
            have hax2 := sqT_same (Same.trans (s14.trans s5) s) hax
            refine ⟨rfl, ?_⟩
            refine ⟨_, rfl, ax, _, _, _, rfl, rfl, hax2, atI_nat (j := 2) rfl, _, _, rfl, rfl, _, rfl, ?_⟩
            refine ite2 (fun hh => ?_) (fun hh => ?_)
            · refine ⟨_, rfl, ?_⟩
              refine lc_add hacc e (Same.refl _) (by omega) ?_
              have e1 : negD (ds.take (i + 1)) = negD (ds.take i) ++ [d] := by
                unfold negD
                rw [htk, List.filter_append, List.filter_cons, if_pos hh]
                rfl
              rw [e1, List.map_append]
              exact dpAll_app r (.cons (dp_same (Same.trans (s14.trans s5) e) _ hdp) .nil)
            · refine lc_skip hacc e (Same.refl _) ?_
              have e1 : negD (ds.take (i + 1)) = negD (ds.take i) := by
                unfold negD
                rw [htk, List.filter_append, List.filter_cons, if_neg hh]
                simp
              rw [e1]
              exact r
          · rintro acc2 H6 h2 s6 r2
            rw [hxl, List.take_of_length_le (Nat.le_refl _)] at r2
            have hy1 := dpAll_same (era_back.trans s6) _ r1
            have hy2 := dpAll_same era_back _ r2
            have hlen : acc1.length + acc2.length ≤ 2 * ds.length := by
              have e1 := dpAll_len hy1
              have e2 := dpAll_len hy2
              have e3 := lift_len ds
              unfold liftL at e3
              rw [List.length_append] at e3
              rw [List.length_map] at e1 e2
              omega
            refine ⟨E1, E2, _, _, rfl, rfl, s6 _ _ h1, h2, Nat.le_trans (show _ ≤ 100000 by omega) (by decide), fun p hp => ?_⟩
            have s7 := same_new (o := .lst (acc1 ++ acc2)) hp
            refine cont1 _ _ ⟨p, acc1 ++ acc2, rfl, s5.trans (s6.trans s7), upd_same, ?_⟩
            unfold liftL
            rw [List.map_append]
            exact dpAll_app (dpAll_same s7 _ hy1) (dpAll_same s7 _ hy2)
    · refine ⟨_, rfl, _, rfl, ?_⟩
      refine catA_by rfl rfl (sqT_same s13 has) hae3 (by rw [numsV_len, numsV_len]; omega) fun c1 H4 s4 hc1 => ?_
      rw [numsV_ints, numsV_ints, ← List.map_append] at hc1
      refine ⟨c1, rfl, ⟨_, hc1⟩, fun E1 hE1 => ?_⟩
      refine lc_run (walk_tup (xs := (intsR ts.length f ++ intsR ts.length (behind ts f ds)).map V.int)) hE1 (fun i acc _ => Ones (intsR ts.length f ++ intsR ts.length (behind ts f ds)) i acc) ?_ ?_ ?_ ?_
      · exact fun H' s => sqT_same s hc1
      · exact ⟨0, rfl, Nat.le_refl _, by simp⟩
      · rintro i x acc H5 H' hi hacc e s r ⟨rfl, hx⟩
        obtain ⟨z, hz, rfl⟩ := get_map hx
        have hal : acc.length ≤ 100 := by
          obtain ⟨m, rfl, hm, _⟩ := id r
          rw [List.length_map, List.length_append, intsR, intsR, List.length_map, List.length_map, List.length_range] at hi
          rw [List.length_map, List.length_replicate]
          omega
        refine ⟨rfl, _, rfl, _, _, rfl, rfl, _, rfl, ?_⟩
        refine ite2 (fun hh => ?_) (fun hh => ?_)
        · exact lc_add hacc e (Same.refl _) (by omega) (r.yes hz (by simpa using hh))
        · exact lc_skip hacc e (Same.refl _) (r.no hz (by simpa using hh))
      · rintro acc H5 h1 s5 ⟨m, rfl, _, hm⟩
        refine ⟨Nat.zero_le _, fun p hp => ?_⟩
        have sp : Same H5 (upd H5 p (.lst [])) := same_new hp
        refine ⟨.list ((List.replicate m (1 : Int)).map PyData.int), .list [], .lst (SqL.of (sp _ _ h1)) (dpAll_ints _), .lst (SqL.of upd_same) .nil, shaped_intsL _, shaped_intsL [], _, rfl, ?_⟩
        refine cont _ _ ⟨s4.trans (s5.trans sp), ?_⟩
        rw [ones_eqv]
        rw [List.length_map, List.take_of_length_le (Nat.le_refl _), ints_two] at hm
        cases hb : badB ts f ds with
        | true =>
          rw [hb] at hm
          have : m ≠ 0 := fun e => by cases hm.mp e
          simp [this]
        | false =>
          have : m = 0 := hm.mpr hb
          simp [this]
end
end BV

namespace BV
open PySem L2
abbrev sLaw : Stmt := top 25
abbrev nLaw : List Str := ["_law_script", "_law_box_here", "_law_turn", "_law_web_here", "_law_every", "_law_size", "_law_deeds_here", "_law_gone", "_law_begin", "_law_both", "_law_low", "_law_end", "_law_step", "_law_row", "_law_great", "_law_standing", "_law_word", "_law_about", "_law_times", "_law_tie", "_law_number"]
theorem scLaw : FnScope nLaw ["_law_script"] (defScope sLaw) := ⟨rfl, rfl, rfl, by decide +kernel, rfl, by decide +kernel, by decide +kernel⟩
def spLaw (K : PySem.W.Frag) : Sp := fun vs H Q _ => ∃ (a : Addr) (ns : List Int), vs = [.ref a] ∧ SqL K H a (ns.map V.int) ∧ ns.length ≤ 63 ∧ ∀ H', Q (.bl true) H'
theorem most5 : ∀ i, i < 5 → ∃ m : Nat, [V.int 1, V.int 2, V.int 4, V.int 6, V.int 5][i]? = some (V.int (m : Int)) ∧ 1 ≤ m ∧ m ≤ 6
  | 0, _ => ⟨1, rfl, by decide, by decide⟩
  | 1, _ => ⟨2, rfl, by decide, by decide⟩
  | 2, _ => ⟨4, rfl, by decide, by decide⟩
  | 3, _ => ⟨6, rfl, by decide, by decide⟩
  | 4, _ => ⟨5, rfl, by decide, by decide⟩
theorem more5 : ∀ i, i < 5 → ∃ m : Nat, [V.int 0, V.int 5, V.int 4, V.int 3, V.int 3][i]? = some (V.int (m : Int)) ∧ m ≤ 5
  | 0, _ => ⟨0, rfl, by decide⟩
  | 1, _ => ⟨5, rfl, by decide⟩
  | 2, _ => ⟨4, rfl, by decide⟩
  | 3, _ => ⟨3, rfl, by decide⟩
  | 4, _ => ⟨3, rfl, by decide⟩
theorem times5 : ∀ i, i < 5 → ∃ z : Int, [V.int 7, V.int 7, V.int 3, V.int (9 * 10 ^ (10 : Int).toNat), V.int 2][i]? = some (V.int z) ∧ z.natAbs ≤ 2 ^ 100
  | 0, _ => ⟨7, rfl, by decide⟩
  | 1, _ => ⟨7, rfl, by decide⟩
  | 2, _ => ⟨3, rfl, by decide⟩
  | 3, _ => ⟨_, rfl, by decide⟩
  | 4, _ => ⟨2, rfl, by decide⟩
theorem nums_snoc (i : Nat) (f : Nat → Int) (z : Int) : ∃ f' : Nat → Int, numsV i f ++ [V.int z] = numsV (i + 1) f' :=
  ⟨fun k => if k = i then z else f k, by
    rw [numsV_succ, if_pos rfl, numsV_congr (f := f) (g := fun k => if k = i then z else f k) fun k hk => ?_]
    show f k = if k = i then z else f k
    rw [if_neg (by omega)]⟩
theorem nums_snocB {B : Nat} (i : Nat) (f : Nat → Int) (z : Int) (hf : ∀ k, (f k).natAbs ≤ B) (hz : z.natAbs ≤ B) : ∃ f' : Nat → Int, numsV i f ++ [V.int z] = numsV (i + 1) f' ∧ ∀ k, (f' k).natAbs ≤ B :=
  ⟨fun k => if k = i then z else f k, by
    rw [numsV_succ, if_pos rfl, numsV_congr (f := f) (g := fun k => if k = i then z else f k) fun k hk => ?_]
    show f k = if k = i then z else f k
    rw [if_neg (by omega)], fun k => by
    show (if k = i then z else f k).natAbs ≤ B
    split
    · exact hz
    · exact hf k⟩
theorem clamp_abs (n : Int) : (if (if n < 10 ^ (12 : Int).toNat then n else 10 ^ (12 : Int).toNat) > -(10 ^ (12 : Int).toNat) then (if n < 10 ^ (12 : Int).toNat then n else 10 ^ (12 : Int).toNat) else -(10 ^ (12 : Int).toNat) : Int).natAbs ≤ 10 ^ 12 := by
  have e : (10 : Int) ^ (12 : Int).toNat = 1000000000000 := by decide
  have e2 : (10 : Nat) ^ 12 = 1000000000000 := by decide
  rw [e, e2]
  split <;> split at * <;> omega
theorem nums_rep (L : Nat) (c : Int) : List.replicate L (V.int c) = numsV L fun _ => c := by
  induction L with
  | zero => rfl
  | succ L ih => rw [List.replicate_succ', ih, numsV_succ]
/-- a deed with other times -/
def Deed.withT (d : Deed) (t : Int) : Deed := match d with
  | .star p _ => .star p t
  | .round ks _ => .round ks t
theorem withT_D (d : Deed) (t : Int) : (d.withT t).D = .tuple [.str d.word, d.about, .int t] := by cases d <;> rfl
theorem withT_ok {d : Deed} {ts : List Tie} (t : Int) (h : d.Ok ts) : (d.withT t).Ok ts := by cases d <;> exact h
theorem withT_mild {L : Nat} {d : Deed} {t : Int} (h : Mild L d) (ht : t.natAbs ≤ 2 ^ 110) : Mild L (d.withT t) := by
  cases d with
  | star p z => exact ⟨ht, h.2⟩
  | round ks z => exact ⟨ht, h.2⟩
theorem fit_mild {n L B : Nat} {d : Deed} (h : Fit n L B d) (hB : B ≤ 2 ^ 110) (hn : n ≤ 1000) (hL : L ≤ 12) : Mild L d := by
  refine ⟨Nat.le_trans h.1 hB, ?_⟩
  have h := h.2
  cases d with
  | star p t => exact (sm_nat (show p < 100000 by have : p < n := h; omega)).mono (by omega) (by omega)
  | round ks t => exact (sm_lot fun k hk => by have := h.1 k hk; omega).mono (by have := h.2.2; omega) (Nat.le_refl _)
section
variable {P : Program} {w : World} {K : PySem.W.Frag} {mg : Str → Option Value} {base : Heap}
theorem ok_law {f a0 a1 a2 a3 a4 a5 a6 a7 a8 a9 b1 b2 b3 b4 b5 b6 b7 b8 b9 U B : Addr} {fd d0 d1 d2 d3 d4 d5 d6 d7 d8 d9 e1 e2 e3 e4 e5 e6 e7 e8 e9 : FuncData}
    (D : Df K mg "law" sLaw ["_law_script"] f fd) (T : Bl mg) (hlist : mg "list" = none) (hany : mg "any" = none) (hisinstance : mg "isinstance" = none) (EU : ErrU K mg U B)
    (D_ties : Df K mg "ties_at" sTies ["web", "place"] a1 d1) (D_do : Df K mg "_do" sDo ["web", "numbers", "deed"] a2 d2)
    (D_hb : Df K mg "_has_below" sHb ["numbers"] a3 d3) (D_done : Df K mg "done" sDone ["web", "standing", "deeds"] a4 d4) (D_lifted_x : Df K mg "lifted" sLifted pNb a5 d5)
    (K_lifted_x : KBn K d5 pNb 0 ["deeds", "standing", "web"] (fun _ ws => ws.reverse) (fun _ zs => zs.reverse)) (D_nb : Df K mg "never_below" sNb pNb a0 d0)
    (D_box : Df K mg "_law_box" sBox ["_law_script"] a6 d6)
    (D_draw : Df K mg "_law_draw" sDraw ["_law_box_here", "_law_many"] a7 d7) (D_pick : Df K mg "_law_pick" sPick nPick a8 d8) (D_web : Df K mg "_law_web" sWeb pWeb a9 d9)
    (D_counts : Df K mg "_law_counts" sCounts pCounts b1 e1) (D_lot : Df K mg "_law_lot" sLot pLot b2 e2) (D_twos : Df K mg "_law_twos" sTwos ["_law_many"] b3 e3)
    (D_isr : Df K mg "_law_is_round" sIsr pIsr b4 e4) (D_rounds : Df K mg "_law_rounds" sRounds ["_law_web_here"] b5 e5) (D_deeds : Df K mg "_law_deeds" sDeeds pDeeds b6 e6)
    (D_ldone : Df K mg "_law_done" sLdone pLdone b7 e7) (D_told : Df K mg "_law_told" sTold pTold b8 e8) (D_right_g : Df K mg "_law_is_right" sRight pTold b9 e9) :
    FnG P w K mg base CX0 7 f fd ["_law_script"] (spLaw K) := by
  have G_box : FnOk P w K mg base CX0 1 a6 d6 ["_law_script"] (spBox K) := ok_box D_box T
  have G_draw : FnOk P w K mg base CX0 1 a7 d7 ["_law_box_here", "_law_many"] spDraw := ok_draw D_draw T
  have G_web : FnOk P w K mg base CX0 3 a9 d9 pWeb (spWeb K) := ok_web D_web T D_draw D_pick
  have G_rounds : FnOk P w K mg base CX0 3 b5 e5 ["_law_web_here"] (spRounds K) := ok_rounds D_rounds T hlist D_counts D_lot D_twos D_isr
  have G_deeds : FnOk P w K mg base CX0 3 b6 e6 pDeeds (spDeeds K) := ok_deeds D_deeds T D_draw D_pick
  have G_ldone : FnOk P w K mg base CX0 1 b7 e7 pLdone (spLdone K) := ok_ldone D_ldone T hlist
  have G_right_g : FnG P w K mg base CX0 6 b9 e9 pTold (spRight K) := ok_right D_right_g T hlist hany hisinstance EU D_ties D_do D_hb D_done D_lifted_x K_lifted_x D_nb D_ldone D_told
  refine okG D.fn scLaw (fun vs H Q E h => ?_) (fun cdv A outer s H vs Q E hgd hr h => ?_)
  · obtain ⟨a, ns, rfl, _⟩ := h
    rfl
  · obtain ⟨a, ns, rfl, hS, hlen, k⟩ := h
    have hr_box : Room 1 _ := hr.mono (by decide)
    have hr_draw : Room 1 _ := hr.mono (by decide)
    have hr_ldone : Room 1 _ := hr.mono (by decide)
    have hr_web : Room 3 _ := hr.mono (by decide)
    have hr_rounds : Room 3 _ := hr.mono (by decide)
    have hr_deeds : Room 3 _ := hr.mono (by decide)
    have hr_right_g : Room 6 _ := hr
    have hu64 := hr.units
    have nd := scLaw.nd
    refine ⟨_, (pss_cons (ps_set (i := 1) nd rfl (by first | exact Or.inl rfl | exact Or.inr rfl) (pe_call G_box hr_box (by rfl) D_box.ad D_box.fn.kp D_box.bd .nil pass0 (pa_cons (pv 0) pa_nil)))
      (pss_cons (ps_for PassesOwn.never rfl (pi_range1 rfl T.range (pa_cons pe_int pa_nil)) (pg_name (i := 2) nd rfl (by first | exact Or.inl rfl | exact Or.inr rfl)) (pss_cons (ps_set (i := 3) nd rfl (by first | exact Or.inl rfl | exact Or.inr rfl) (pe_call G_web hr_web (by rfl) D_web.ad D_web.fn.kp D_web.bd .nil pass0 (pa_cons (pv 1) (pa_cons (pe_ix (ixL K) (pe_lst (pa_cons pe_int (pa_cons pe_int (pa_cons pe_int (pa_cons pe_int (pa_cons pe_int pa_nil)))))) (pv 2) (fun _ _ => rfl)) (pa_cons (pe_ix (ixL K) (pe_lst (pa_cons pe_int (pa_cons pe_int (pa_cons pe_int (pa_cons pe_int (pa_cons pe_int pa_nil)))))) (pv 2) (fun _ _ => rfl)) pa_nil)))))
      (pss_cons (ps_par (i := 4) (j := 5) (by rfl) nd rfl rfl (by decide) rfl rfl (pa_cons (pe_call G_rounds hr_rounds (by rfl) D_rounds.ad D_rounds.fn.kp D_rounds.bd .nil pass0 (pa_cons (pv 3) pa_nil)) (pa_cons (pe_callB (lenK K) (by rfl) T.len PySem.boot_len (pa_cons (pe_ix (ixT K) (pv 3) pe_int (fun _ _ => rfl)) pa_nil)) pa_nil)) (by rfl))
      (pss_cons (ps_set (i := 6) nd rfl (by first | exact Or.inl rfl | exact Or.inr rfl) (pe_call G_deeds hr_deeds (by rfl) D_deeds.ad D_deeds.fn.kp D_deeds.bd .nil pass0 (pa_cons (pv 1) (pa_cons (pv 3) (pa_cons (pv 4) (pa_cons (pe_call G_draw hr_draw (by rfl) D_draw.ad D_draw.fn.kp D_draw.bd .nil pass0 (pa_cons (pv 1) (pa_cons pe_int pa_nil))) (pa_cons (pe_ix (ixL K) (pe_lst (pa_cons pe_int (pa_cons pe_int (pa_cons pe_int (pa_cons (pe_op op_mul pe_int (pe_op op_pow pe_int pe_int)) (pa_cons pe_int pa_nil)))))) (pv 2) (fun _ _ => rfl)) pa_nil)))))))
      (pss_cons (ps_if (PW.pt (pw_and (pt_cmpR op_eq (pv 2) pe_int (nomark _)) (pw_and1 (pt_cmpR op_eq (pe_call G_draw hr_draw (by rfl) D_draw.ad D_draw.fn.kp D_draw.bd .nil pass0 (pa_cons (pv 1) (pa_cons pe_int pa_nil))) pe_int (nomark _))))) (pss_cons (ps_setLc (i := 14) (own := [("_law_word", 16), ("_law_about", 17), ("_law_times", 18)]) (g := (gTup K 3 (gCons (gName 16) (gCons (gName 17) (gCons (gName 18) gNil))))) (tt := tYes) rfl nd rfl rfl (sw_true rfl rfl rfl (by decide +kernel)) (piT K (pv 6)) (blkOk_by (own := [("_law_word", 16), ("_law_about", 17), ("_law_times", 18)]) (N := nLaw) (sc := defScope sLaw) (by decide +kernel)) (fun _ _ _ _ _ => (pgT K rfl (pgs_cons (pg_name (i := 16) nd rfl (by first | exact Or.inl rfl | exact Or.inr rfl)) (pgs_cons (pg_name (i := 17) nd rfl (by first | exact Or.inl rfl | exact Or.inr rfl)) (pgs_cons (pg_name (i := 18) nd rfl (by first | exact Or.inl rfl | exact Or.inr rfl)) pgs_nil))))) (fun _ _ _ _ _ => pts_nil) (fun _ _ _ _ _ => (pe_tup (pa_cons (pv 16) (pa_cons (pv 17) (pa_cons (pe_ifExp (pt_cmpR op_gt (pv 18) pe_int (nomark _)) (pe_op op_pow pe_int pe_int) (pe_callB (call_max2 rfl) (by rfl) T.max (by decide +kernel) (pa_cons (pv 18) (pa_cons (pe_un un_neg pe_int) pa_nil)))) pa_nil))))))
      (pss_one (ps_set (i := 6) nd rfl (by first | exact Or.inl rfl | exact Or.inr rfl) (pe_callTy (tupleK K) (by rfl) T.tuple (by decide +kernel) (pa_cons (pv 14) pa_nil))))) pss_nil)
      (pss_cons (ps_set (i := 7) nd rfl (by first | exact Or.inl rfl | exact Or.inr rfl) (pe_ix (ixL K) (pe_call G_ldone hr_ldone (by rfl) D_ldone.ad D_ldone.fn.kp D_ldone.bd .nil pass0 (pa_cons (pv 3) (pa_cons (pe_op (op_repN K) (pe_tup (pa_cons pe_int pa_nil)) (pv 5)) (pa_cons (pv 6) pa_nil)))) (pe_un un_neg pe_int) (fun _ _ => rfl)))
      (pss_cons (ps_set (i := 8) nd rfl (by first | exact Or.inl rfl | exact Or.inr rfl) (pe_callTy (tupleK K) (by rfl) T.tuple (by decide +kernel) (pa_cons (pe_lc (own := [("_law_tie", 19)]) (g := (gName 19)) (tt := tYes) rfl nd (piT K (pe_ix (ixT K) (pv 3) pe_int (fun _ _ => rfl))) (blkOk_by (own := [("_law_tie", 19)]) (N := nLaw) (sc := defScope sLaw) (by decide +kernel)) (fun _ _ _ _ _ => (pg_name (i := 19) nd rfl (by first | exact Or.inl rfl | exact Or.inr rfl))) (fun _ _ _ _ _ => pts_nil) (fun _ _ _ _ _ => (pe_call G_draw hr_draw (by rfl) D_draw.ad D_draw.fn.kp D_draw.bd .nil pass0 (pa_cons (pv 1) (pa_cons pe_int pa_nil))))) pa_nil)))
      (pss_cons (ps_set (i := 9) nd rfl (by first | exact Or.inl rfl | exact Or.inr rfl) (pe_callTy (tupleK K) (by rfl) T.tuple (by decide +kernel) (pa_cons (pe_lc (own := [("_law_number", 20)]) (g := (gName 20)) (tt := tYes) rfl nd (piT K (pv 7)) (blkOk_by (own := [("_law_number", 20)]) (N := nLaw) (sc := defScope sLaw) (by decide +kernel)) (fun _ _ _ _ _ => (pg_name (i := 20) nd rfl (by first | exact Or.inl rfl | exact Or.inr rfl))) (fun _ _ _ _ _ => pts_nil) (fun _ _ _ _ _ => (pe_op op_add (pe_callB (call_max2 rfl) (by rfl) T.max (by decide +kernel) (pa_cons pe_int (pa_cons (pe_un un_neg (pv 20)) pa_nil))) (pe_call G_draw hr_draw (by rfl) D_draw.ad D_draw.fn.kp D_draw.bd .nil pass0 (pa_cons (pv 1) (pa_cons pe_int pa_nil)))))) pa_nil)))
      (pss_cons (ps_set (i := 10) nd rfl (by first | exact Or.inl rfl | exact Or.inr rfl) (pe_callTy (tupleK K) (by rfl) T.tuple (by decide +kernel) (pa_cons (pe_lc (own := [("_law_number", 20)]) (g := (gName 20)) (tt := tYes) rfl nd (piT K (pv 9)) (blkOk_by (own := [("_law_number", 20)]) (N := nLaw) (sc := defScope sLaw) (by decide +kernel)) (fun _ _ _ _ _ => (pg_name (i := 20) nd rfl (by first | exact Or.inl rfl | exact Or.inr rfl))) (fun _ _ _ _ _ => pts_nil) (fun _ _ _ _ _ => (pe_op op_sub (pv 20) (pe_callTy call_int1 (by rfl) T.int (by decide +kernel) (pa_cons (pe_cmpR op_eq (pe_call G_draw hr_draw (by rfl) D_draw.ad D_draw.fn.kp D_draw.bd .nil pass0 (pa_cons (pv 1) (pa_cons pe_int pa_nil))) pe_int (nomark _)) pa_nil))))) pa_nil)))
      (pss_cons (ps_set (i := 11) nd rfl (by first | exact Or.inl rfl | exact Or.inr rfl) (pe_callTy (tupleK K) (by rfl) T.tuple (by decide +kernel) (pa_cons (pe_lc (own := [("_law_number", 20)]) (g := (gName 20)) (tt := tYes) rfl nd (piT K (pv 7)) (blkOk_by (own := [("_law_number", 20)]) (N := nLaw) (sc := defScope sLaw) (by decide +kernel)) (fun _ _ _ _ _ => (pg_name (i := 20) nd rfl (by first | exact Or.inl rfl | exact Or.inr rfl))) (fun _ _ _ _ _ => pts_nil) (fun _ _ _ _ _ => (pe_un un_neg (pv 20)))) pa_nil)))
      (pss_one (ps_for PassesOwn.never rfl (pi_enum (by rfl) T.enumerate (pa_cons (pe_lst (pa_cons (pv 8) (pa_cons (pv 9) (pa_cons (pv 10) (pa_cons (pv 11) (pa_cons (pe_op (op_repN K) (pe_tup (pa_cons pe_int pa_nil)) (pv 5)) (pa_cons (pe_op (op_repN K) (pe_tup (pa_cons (pe_op op_pow pe_int pe_int) pa_nil)) (pv 5)) pa_nil))))))) pa_nil)) (pgT K rfl (pgs_cons (pg_name (i := 12) nd rfl (by first | exact Or.inl rfl | exact Or.inr rfl)) (pgs_cons (pg_name (i := 13) nd rfl (by first | exact Or.inl rfl | exact Or.inr rfl)) pgs_nil))) (pss_cons (ps_set (i := 15) nd rfl (by first | exact Or.inl rfl | exact Or.inr rfl) (pe_callTy (tupleK K) (by rfl) T.tuple (by decide +kernel) (pa_cons (pe_lc (own := [("_law_number", 20)]) (g := (gName 20)) (tt := tYes) rfl nd (piT K (pv 13)) (blkOk_by (own := [("_law_number", 20)]) (N := nLaw) (sc := defScope sLaw) (by decide +kernel)) (fun _ _ _ _ _ => (pg_name (i := 20) nd rfl (by first | exact Or.inl rfl | exact Or.inr rfl))) (fun _ _ _ _ _ => pts_nil) (fun _ _ _ _ _ => (pe_callB (call_max2 rfl) (by rfl) T.max (by decide +kernel) (pa_cons (pe_un un_neg (pe_op op_pow pe_int pe_int)) (pa_cons (pe_callB (call_min2 rfl) (by rfl) T.min (by decide +kernel) (pa_cons (pe_op op_pow pe_int pe_int) (pa_cons (pv 20) pa_nil))) pa_nil))))) pa_nil)))
      (pss_one (ps_if (pt_not (pt_val (pe_callG G_right_g hgd hr_right_g (by rfl) D_right_g.ad D_right_g.fn.kp D_right_g.bd .nil pass0 (pa_cons (pv 3) (pa_cons (pv 15) (pa_cons (pv 6) (pa_cons (pe_cmpR op_eq (pv 12) (pv 2) (nomark _)) pa_nil))))))) (pss_one (ps_ret pe_bl)) pss_nil)))))))))))))))
      (pss_one (ps_ret pe_bl)))), ?_⟩
    refine ⟨_, rfl, a, ns, rfl, hS, hlen, fun b g H1 _ _ _ hB => ?_⟩
    show tSeq _ _ _ _ _
    refine tSeq_go ?_
    refine ⟨5, rfl, by decide, by decide, ?_⟩
    refine for_range (lo := 0) (n := (5 : Int).toNat) (fun i σ Hc => ∃ (v2 v3 v4 v5 v6 v7 v8 v9 v10 v11 v12 v13 v14 v15 : Option V),
      σ = [some (.ref a), some (.ref b), v2, v3, v4, v5, v6, v7, v8, v9, v10, v11, v12, v13, v14, v15, none, none, none, none, none] ∧ Box Hc b g) ?_ ?_ ?_
    · exact ⟨none, none, none, none, none, none, none, none, none, none, none, none, none, none, rfl, hB⟩
    · rintro i σ Hc hi ⟨v2, v3, v4, v5, v6, v7, v8, v9, v10, v11, v12, v13, v14, v15, rfl, hBc⟩
      have hi4 : i < 5 := hi
      rw [Int.zero_add]
      obtain ⟨m1, e1, q1, q2⟩ := most5 i hi4
      obtain ⟨m2, e2, q3⟩ := more5 i hi4
      obtain ⟨z3, e3, q4⟩ := times5 i hi4
      show tSeq _ _ _ _ _
      refine tSeq_go ?_
      refine ⟨_, rfl, by decide, fun l1 hl1 => ?_⟩
      have s1 := same_new (o := .lst [.int 1, .int 2, .int 4, .int 6, .int 5]) hl1
      refine ⟨_, rfl, l1, _, _, _, rfl, rfl, SqL.of upd_same, atI_nat e1, by decide, fun l2 hl2 => ?_⟩
      have s2 := same_new (o := .lst [.int 0, .int 5, .int 4, .int 3, .int 3]) hl2
      refine ⟨_, rfl, l2, _, _, _, rfl, rfl, SqL.of upd_same, atI_nat e2, ?_⟩
      refine ⟨b, g, m1, m2, rfl, q1, by omega, by omega, (hBc.same s1).same s2, fun p n ts H3 _ hB3 hdp hok hn hl _ => ?_⟩
      clear s1 s2 hl1 hl2 hBc
      have hends := hok.ends
      have hpos := hok.pos
      have hn6 : n ≤ 6 := by omega
      have hl12 : ts.length ≤ 12 := by omega
      have web_at : ∀ {H4 : Hp}, Kp b g H3 H4 → Dp K H4 (.ref p) (webD n ts) := fun kp => dp_kf (KF.of_kp kp hB3) _ (still_web n ts) hdp
      have ties_in : ∀ {H4 : Hp}, Kp b g H3 H4 → ∃ (c : Addr) (ys : List V), SqT K H4 p [.int n, .ref c] ∧ SqT K H4 c ys ∧ ys.length = ts.length := fun kp => by
        obtain ⟨a2, c, ys, e, ha, hc, hys⟩ := dp_web (web_at kp)
        cases e
        exact ⟨c, ys, ha, hc, by rw [dpAll_len hys, List.length_map]⟩
      dsimp only [gName]
      refine at_st [some (.ref a), some (.ref b), some (.int i), some (.ref p), v4, v5, v6, v7, v8, v9, v10, v11, v12, v13, v14, v15, none, none, none, none, none] rfl ?_
      refine tSeq_go ?_
      -- every round, and the size
      refine ⟨_, rfl, .ref p, n, ts, rfl, hdp, hends, by omega, hl12, fun l xs ls H4 hln s4 hL hLd hls hll => ?_⟩
      obtain ⟨nb, ng⟩ := box_ne hB3 hln
      have k4 : Kp b g H3 H4 := Kp.same s4
      have B4 := hB3.same s4
      obtain ⟨c, ys, hp4, hc4, hyl⟩ := ties_in k4
      refine ⟨_, rfl, p, _, _, _, rfl, rfl, hp4, atI_nat (j := 1) rfl, c, ys, rfl, .inr hc4, ⟨_, _, rfl, ?_⟩⟩
      rw [hyl]
      dsimp only
      refine at_st [some (.ref a), some (.ref b), some (.int i), some (.ref p), some (.ref l), some (.int ts.length), v6, v7, v8, v9, v10, v11, v12, v13, v14, v15, none, none, none, none, none] rfl ?_
      refine tSeq_go ?_
      -- the deeds
      refine ⟨_, rfl, _, rfl, _, rfl, _, rfl, b, g, 10, rfl, by decide, by decide, B4, fun r H5 r0 r1 kp5 B5 => ?_⟩
      obtain ⟨m, rfl⟩ : ∃ m : Nat, r = (m : Int) := ⟨r.toNat, by omega⟩
      refine ⟨_, _, rfl, rfl, ⟨by decide, by decide, by decide⟩, _, _, rfl, rfl, (.inl ⟨by decide, by decide⟩), by show 5 ≤ sizeLine; decide, fun l3 hl3 => ?_⟩
      have s6 := same_new (o := .lst [.int 7, .int 7, .int 3, .int (9 * 10 ^ (10 : Int).toNat), .int 2]) hl3
      refine ⟨_, rfl, l3, _, _, _, rfl, rfl, SqL.of upd_same, atI_nat e3, ?_⟩
      have k56 := kp5.trans (Kp.same s6)
      have k6 := k4.trans k56
      have B6 := B5.same s6
      refine ⟨b, g, l, .ref p, n, ts, xs, ls, m, z3, rfl, B6, web_at k6, hpos, by omega, k56 _ _ hL nb ng, dpAll_kf (KF.of_kp k56 B4) _ (still_lots ls) hLd, nb, ng, hls, hll, by omega, fun dv ds H7 kp7 B7 hD hdl hfit => ?_⟩
      have k7 := k6.trans kp7
      have hB110 : z3.natAbs + 6 ≤ 2 ^ 110 := by
        have : (2 : Nat) ^ 100 + 6 ≤ 2 ^ 110 := by decide
        omega
      have hds : ∀ d ∈ ds, d.Ok ts ∧ Mild ts.length d := fun d hd => ⟨(hfit d hd).ok, fit_mild (hfit d hd) hB110 (by omega) hl12⟩
      have hdl9 : ds.length ≤ 12 := by omega
      obtain ⟨ad0, xs0, rfl, had0, hxs0⟩ := dp_tup hD
      clear s6 hL hLd hfit hc4 hp4
      dsimp only [gName]
      refine at_st [some (.ref a), some (.ref b), some (.int i), some (.ref p), some (.ref l), some (.int ts.length), some (.ref ad0), v7, v8, v9, v10, v11, v12, v13, v14, v15, none, none, none, none, none] rfl ?_
      refine tSeq_go ?_
      -- great times
      refine tIfS_by (fun σ' H' => Kp b g H7 H' ∧ Box H' b g ∧ ∃ (dv : V) (ds : List Deed) (v14 : Option V), σ' = [some (.ref a), some (.ref b), some (.int i), some (.ref p), some (.ref l), some (.int ts.length), some dv, v7, v8, v9, v10, v11, v12, v13, v14, v15, none, none, none, none, none] ∧ Dp K H' dv (deedsD ds) ∧ ds.length ≤ 12 ∧ ∀ d ∈ ds, d.Ok ts ∧ Mild ts.length d) ?_ (fun cont => ?_)
      · rintro σ' H8 ⟨kp8, B8, dv, ds, v14, rfl, hD, hdl9, hds⟩
        have k8 := k7.trans kp8
        refine tSeq_go ?_
        -- what comes of noughts
        obtain ⟨ad, xsd, rfl, had, hxsd⟩ := dp_tup hD
        refine ⟨_, rfl, by show 1 ≤ sizeLine; decide, fun q1 hq1 => ?_⟩
        have t1 := same_new (o := .tup [.int 0]) hq1
        refine ⟨_, rfl, q1, ts.length, .int 0, rfl, rfl, SqT.of upd_same, by omega, fun q2 H9 t2 hq2 => ?_⟩
        rw [nums_rep] at hq2
        have t12 := t1.trans t2
        have k9 := k8.trans (Kp.same t12)
        refine ⟨_, rfl, .ref p, .ref q2, .ref ad, n, ts, fun _ => 0, ds, rfl, web_at k9, nums_dp hq2, dp_same t12 _ hD, by omega, by omega, fun l4 rows H10 t3 hrows hrd => ?_⟩
        have hrl : rows.length = ds.length + 1 := by rw [dpAll_len hrd, List.length_map, List.length_range]
        have hlast : rows[rows.length - 1]? = some rows[rows.length - 1] := List.getElem?_eq_getElem (by omega)
        obtain ⟨dE, hdE, hE⟩ := dpAll_get hrd hlast
        rw [hrl, List.getElem?_map, List.getElem?_range (by omega)] at hdE
        obtain rfl := Option.some.inj hdE
        generalize rows[rows.length - 1] = ev at *
        refine ⟨_, rfl, l4, rows, -1, ev, rfl, rfl, SqL.of hrows, atI_last (by omega) hlast, ?_⟩
        have k10 := k9.trans (Kp.same t3)
        have B10 := (B8.same t12).same t3
        have hD10 := dp_same (t12.trans t3) _ hD
        unfold rowsD at hE
        obtain ⟨ag, rfl, hag⟩ := dp_nums hE
        generalize behind ts (fun _ => 0) (ds.take (ds.length + 1 - 1)) = fg at *
        have stD := still_deedsD ds
        clear hrows hrd hlast hdE hq2 t1 t2 t3 t12 k9 k8 B8 hrl hD had hxsd hE
        dsimp only [gName]
        refine at_st [some (.ref a), some (.ref b), some (.int i), some (.ref p), some (.ref l), some (.int ts.length), some (.ref ad), some (.ref ag), v8, v9, v10, v11, v12, v13, v14, v15, none, none, none, none, none] rfl ?_
        refine tSeq_go ?_
        -- begin
        refine tAsg_by (fun u H' => Kp b g H10 H' ∧ Box H' b g ∧ ∃ f, Dp K H' u (numsD ts.length f)) ?_ (fun cont1 => ?_)
        rotate_left
        · obtain ⟨c, ys, hp10, hc10, hyl⟩ := ties_in k10
          refine ⟨_, rfl, p, _, _, _, rfl, rfl, hp10, atI_nat (j := 1) rfl, c, rfl, ⟨_, hc10⟩, fun E1 hE1 => ?_⟩
          refine lc_runB (walk_tup (xs := ys)) hE1 B10 (fun i acc _ => ∃ f, acc = numsV i f) ?_ ?_ ?_ ?_
          · exact fun H' kk _ => sqT_kf (KF.of_kp kk B10) hc10
          · exact ⟨fun _ => 0, rfl⟩
          · rintro i x acc H2 H' nb ng hi hacc e kk hBx ⟨f, rfl⟩ ⟨rfl, hx⟩
            refine ⟨rfl, yes_go ?_⟩
            refine ⟨_, rfl, b, g, 3, rfl, by decide, by decide, hBx, fun r H4 r0 r1 kp4 hB4 => ?_⟩
            exact lc_addB nb ng hacc e kp4 hB4 (by rw [numsV_len]; omega) (nums_snoc i f r)
          · rintro acc H2 h1 kk hBx ⟨f, rfl⟩
            rw [hyl] at h1
            refine ⟨E1, _, rfl, .inl ⟨SqL.of h1, fun u hu => ?_⟩⟩
            have su := same_new (o := .tup (numsV ts.length f)) hu
            exact cont1 _ _ ⟨kk.trans (Kp.same su), hBx.same su, f, nums_dp (SqT.of upd_same)⟩
        rintro u1 H11 ⟨kp11, B11, f1, hu1⟩
        dsimp only [gName]
        refine at_st [some (.ref a), some (.ref b), some (.int i), some (.ref p), some (.ref l), some (.int ts.length), some (.ref ad), some (.ref ag), some u1, v9, v10, v11, v12, v13, v14, v15, none, none, none, none, none] rfl ?_
        refine tSeq_go ?_
        -- both
        have hag11 := sqT_kf (KF.of_kp kp11 B10) hag
        refine tAsg_by (fun u H' => Kp b g H11 H' ∧ Box H' b g ∧ ∃ f, Dp K H' u (numsD ts.length f)) ?_ (fun cont2 => ?_)
        rotate_left
        · refine ⟨_, rfl, ag, rfl, ⟨_, hag11⟩, fun E1 hE1 => ?_⟩
          refine lc_runB (walk_tup (xs := numsV ts.length fg)) hE1 B11 (fun i acc _ => ∃ f, acc = numsV i f) ?_ ?_ ?_ ?_
          · exact fun H' kk _ => sqT_kf (KF.of_kp kk B11) hag11
          · exact ⟨fun _ => 0, rfl⟩
          · rintro i x acc H2 H' nb ng hi hacc e kk hBx ⟨f, rfl⟩ ⟨rfl, hx⟩
            rw [numsV_len] at hi
            rw [numsV_get hi] at hx
            cases hx
            refine ⟨rfl, yes_go ?_⟩
            refine ⟨_, rfl, _, rfl, _, _, rfl, _, rfl, b, g, 2, rfl, by decide, by decide, hBx, fun r H4 r0 r1 kp4 hB4 => ?_⟩
            refine ⟨_, _, rfl, rfl, ?_⟩
            exact lc_addB nb ng hacc e kp4 hB4 (by rw [numsV_len]; omega) (nums_snoc i f _)
          · rintro acc H2 h1 kk hBx ⟨f, rfl⟩
            rw [numsV_len] at h1
            refine ⟨E1, _, rfl, .inl ⟨SqL.of h1, fun u hu => ?_⟩⟩
            have su := same_new (o := .tup (numsV ts.length f)) hu
            exact cont2 _ _ ⟨kk.trans (Kp.same su), hBx.same su, f, nums_dp (SqT.of upd_same)⟩
        rintro u2 H12 ⟨kp12, B12, f2, hu2⟩
        obtain ⟨a2, rfl, ha2⟩ := dp_nums hu2
        dsimp only [gName]
        refine at_st [some (.ref a), some (.ref b), some (.int i), some (.ref p), some (.ref l), some (.int ts.length), some (.ref ad), some (.ref ag), some u1, some (.ref a2), v10, v11, v12, v13, v14, v15, none, none, none, none, none] rfl ?_
        refine tSeq_go ?_
        -- low
        refine tAsg_by (fun u H' => Kp b g H12 H' ∧ Box H' b g ∧ ∃ f, Dp K H' u (numsD ts.length f)) ?_ (fun cont3 => ?_)
        rotate_left
        · refine ⟨_, rfl, a2, rfl, ⟨_, ha2⟩, fun E1 hE1 => ?_⟩
          refine lc_runB (walk_tup (xs := numsV ts.length f2)) hE1 B12 (fun i acc _ => ∃ f, acc = numsV i f) ?_ ?_ ?_ ?_
          · exact fun H' kk _ => sqT_kf (KF.of_kp kk B12) ha2
          · exact ⟨fun _ => 0, rfl⟩
          · rintro i x acc H2 H' nb ng hi hacc e kk hBx ⟨f, rfl⟩ ⟨rfl, hx⟩
            rw [numsV_len] at hi
            rw [numsV_get hi] at hx
            cases hx
            refine ⟨rfl, yes_go ?_⟩
            refine ⟨_, rfl, _, rfl, b, g, 4, rfl, by decide, by decide, hBx, fun r H4 r0 r1 kp4 hB4 => ?_⟩
            refine ⟨rfl, .inr ⟨_, rfl, ?_⟩⟩
            refine ⟨_, _, rfl, rfl, ?_⟩
            exact lc_addB nb ng hacc e kp4 hB4 (by rw [numsV_len]; omega) (nums_snoc i f _)
          · rintro acc H2 h1 kk hBx ⟨f, rfl⟩
            rw [numsV_len] at h1
            refine ⟨E1, _, rfl, .inl ⟨SqL.of h1, fun u hu => ?_⟩⟩
            have su := same_new (o := .tup (numsV ts.length f)) hu
            exact cont3 _ _ ⟨kk.trans (Kp.same su), hBx.same su, f, nums_dp (SqT.of upd_same)⟩
        rintro u3 H13 ⟨kp13, B13, f3, hu3⟩
        dsimp only [gName]
        refine at_st [some (.ref a), some (.ref b), some (.int i), some (.ref p), some (.ref l), some (.int ts.length), some (.ref ad), some (.ref ag), some u1, some (.ref a2), some u3, v11, v12, v13, v14, v15, none, none, none, none, none] rfl ?_
        refine tSeq_go ?_
        -- end
        have kp1113 := kp12.trans kp13
        have hag13 := sqT_kf (KF.of_kp kp1113 B11) hag11
        refine tAsg_by (fun u H' => Same H13 H' ∧ ∃ f, Dp K H' u (numsD ts.length f)) ?_ (fun cont4 => ?_)
        rotate_left
        · refine ⟨_, rfl, ag, rfl, ⟨_, hag13⟩, fun E1 hE1 => ?_⟩
          refine lc_run (walk_tup (xs := numsV ts.length fg)) hE1 (fun i acc _ => ∃ f, acc = numsV i f) ?_ ?_ ?_ ?_
          · exact fun H' s => sqT_same s hag13
          · exact ⟨fun _ => 0, rfl⟩
          · rintro i x acc H2 H' hi hacc e s ⟨f, rfl⟩ ⟨rfl, hx⟩
            rw [numsV_len] at hi
            rw [numsV_get hi] at hx
            cases hx
            refine ⟨rfl, yes_go ?_⟩
            refine ⟨_, rfl, _, rfl, ?_⟩
            exact lc_add hacc e (Same.refl _) (by rw [numsV_len]; omega) (nums_snoc i f _)
          · rintro acc H2 h1 s2 ⟨f, rfl⟩
            rw [numsV_len] at h1
            refine ⟨E1, _, rfl, .inl ⟨SqL.of h1, fun u hu => ?_⟩⟩
            have su := same_new (o := .tup (numsV ts.length f)) hu
            exact cont4 _ _ ⟨s2.trans su, f, nums_dp (SqT.of upd_same)⟩
        rintro u4 H14 ⟨s14, f4, hu4⟩
        dsimp only [gName]
        refine at_st [some (.ref a), some (.ref b), some (.int i), some (.ref p), some (.ref l), some (.int ts.length), some (.ref ad), some (.ref ag), some u1, some (.ref a2), some u3, some u4, v12, v13, v14, v15, none, none, none, none, none] rfl ?_
        have kp1314 := kp13.trans (Kp.same s14)
        have kp1214 := kp12.trans kp1314
        have kp1014 := kp11.trans kp1214
        have k14 := k10.trans kp1014
        have B14 := B13.same s14
        have hu1' := dp_kf (KF.of_kp kp1214 B11) _ (still_nums _ _) hu1
        have hu2' := dp_kf (KF.of_kp kp1314 B12) _ (still_nums _ _) hu2
        have hu3' := dp_kf (KF.of_kp (Kp.same s14) B13) _ (still_nums _ _) hu3
        have hD14 := dp_kf (KF.of_kp kp1014 B10) _ stD hD10
        refine ⟨_, rfl, _, rfl, _, rfl, _, rfl, by show 1 ≤ sizeLine; decide, fun q1 hq1 => ?_⟩
        have t1 := same_new (o := .tup [.int 0]) hq1
        refine ⟨_, rfl, q1, ts.length, .int 0, rfl, rfl, SqT.of upd_same, by omega, fun z1 H15 t2 hz1 => ?_⟩
        refine ⟨_, _, rfl, rfl, ⟨by decide, by decide, by decide⟩, by show 1 ≤ sizeLine; decide, fun q2 hq2 => ?_⟩
        have t3 := same_new (o := .tup [.int (10 ^ (12 : Int).toNat)]) hq2
        refine ⟨_, rfl, q2, ts.length, .int (10 ^ (12 : Int).toNat), rfl, rfl, SqT.of upd_same, by omega, fun z2 H16 t4 hz2 => ?_⟩
        refine ⟨by show 6 ≤ sizeLine; decide, fun lq hlq => ?_⟩
        have t5 := same_new (o := .lst [u1, .ref a2, u3, u4, .ref z1, .ref z2]) hlq
        have t46 := t4.trans t5
        have t36 := t3.trans t46
        have t16 := t1.trans (t2.trans t36)
        rw [nums_rep] at hz1 hz2
        have hz1' := sqT_same t36 hz1
        have hz2' := sqT_same t5 hz2
        have hlst := upd_same (H := H16) (a := lq) (o := .lst [u1, .ref a2, u3, u4, .ref z1, .ref z2])
        have rows_ok : ∀ x ∈ [u1, .ref a2, u3, u4, .ref z1, .ref z2], ∃ f, Dp K (upd H16 lq (.lst [u1, .ref a2, u3, u4, .ref z1, .ref z2])) x (numsD ts.length f) := by
          intro x hx
          simp only [List.mem_cons, List.not_mem_nil, or_false] at hx
          rcases hx with rfl | rfl | rfl | rfl | rfl | rfl
          · exact ⟨_, dp_same t16 _ hu1'⟩
          · exact ⟨_, dp_same t16 _ hu2'⟩
          · exact ⟨_, dp_same t16 _ hu3'⟩
          · exact ⟨_, dp_same t16 _ hu4⟩
          · exact ⟨_, nums_dp hz1'⟩
          · exact ⟨_, nums_dp hz2'⟩
        generalize upd H16 lq (.lst [u1, .ref a2, u3, u4, .ref z1, .ref z2]) = H17 at *
        have k17 := k14.trans (Kp.same t16)
        have W17 := web_at k17
        have D17 := dp_same t16 _ hD14
        refine ⟨lq, _, rfl, SqL.of hlst, for_it (walk_enum (xs := [u1, .ref a2, u3, u4, .ref z1, .ref z2])) (fun j σ H' => ∃ (v12 v13 v15 : Option V), σ = [some (.ref a), some (.ref b), some (.int i), some (.ref p), some (.ref l), some (.int ts.length), some (.ref ad), some (.ref ag), some u1, some (.ref a2), some u3, some u4, v12, v13, v14, v15, none, none, none, none, none] ∧ Same H17 H') ?_ ?_ ?_ ?_⟩
        · exact ⟨v12, v13, v15, rfl, Same.refl _⟩
        · rintro j σ H' _ ⟨v12, v13, v15, rfl, sH⟩
          exact SqL.of (sH _ _ hlst)
        · rintro j x σ H18 H'' hj ⟨v12, v13, v15, rfl, sH⟩ ⟨q, y, z, rfl, hq, rfl, hy, hz⟩
          have sq := same_new (o := .tup [y, z]) hq
          refine ⟨q, _, rfl, SqT.of upd_same, rfl, _, _, rfl, _, _, rfl, rfl, ?_⟩
          have hy' : some (V.int j) = some y := hy
          cases hy'
          obtain ⟨fz, hfz⟩ := rows_ok z (List.mem_of_getElem? hz)
          have sA := sH.trans sq
          have hfz' := dp_same sA _ hfz
          obtain ⟨az, rfl, haz⟩ := dp_nums hfz'
          generalize upd H18 q (.tup [.int (j : Nat), .ref az]) = H19 at *
          show tSeq _ _ _ _ _
          refine tSeq_go ?_
          refine tAsg_by (fun u H' => Same H19 H' ∧ ∃ f, Dp K H' u (numsD ts.length f) ∧ ∀ k, (f k).natAbs ≤ 10 ^ 12) ?_ (fun cont5 => ?_)
          · rintro us H20 ⟨s20, fs, hus, hfs⟩
            have sB := sA.trans s20
            dsimp only [gName]
            refine ⟨_, rfl, _, rfl, _, rfl, _, rfl, _, rfl, rfl, .ref p, us, .ref ad, n, ts, fs, ds, _, rfl, dp_same sB _ W17, hus, dp_same sB _ D17, hends, by omega, hl12, hdl9, hds, hfs, fun H21 s21 => ⟨true, rfl, iteF ?_⟩⟩
            exact ⟨_, _, _, rfl, sB.trans s21⟩
          · refine ⟨_, rfl, az, rfl, ⟨_, haz⟩, fun E1 hE1 => ?_⟩
            refine lc_run (walk_tup (xs := numsV ts.length fz)) hE1 (fun i acc _ => ∃ f, acc = numsV i f ∧ ∀ k, (f k).natAbs ≤ 10 ^ 12) ?_ ?_ ?_ ?_
            · exact fun H' s => sqT_same s haz
            · exact ⟨fun _ => 0, rfl, fun _ => (by show (0 : Int).natAbs ≤ 10 ^ 12; decide)⟩
            · rintro i x acc H2 H' hi hacc e s ⟨f, rfl, hf⟩ ⟨rfl, hx⟩
              rw [numsV_len] at hi
              rw [numsV_get hi] at hx
              cases hx
              refine ⟨rfl, yes_go ?_⟩
              refine ⟨_, _, rfl, rfl, ⟨by decide, by decide, by decide⟩, _, rfl, _, _, rfl, rfl, ⟨by decide, by decide, by decide⟩, _, rfl, _, _, rfl, _, _, rfl, ?_⟩
              exact lc_add hacc e (Same.refl _) (by rw [numsV_len]; omega) (nums_snocB i f _ hf (clamp_abs _))
            · rintro acc H2 h1 s2 ⟨f, rfl, hf⟩
              rw [numsV_len] at h1
              refine ⟨E1, _, rfl, .inl ⟨SqL.of h1, fun u hu => ?_⟩⟩
              have su := same_new (o := .tup (numsV ts.length f)) hu
              exact cont5 _ _ ⟨s2.trans su, f, nums_dp (SqT.of upd_same), hf⟩
        · rintro σ H18 ⟨v12, v13, v15, rfl, sH⟩
          exact ⟨_, _, _, _, _, _, _, _, _, _, _, _, _, _, rfl, (B14.same t16).same sH⟩
      · refine ⟨_, rfl, rfl, _, rfl, ?_⟩
        have stay : ∀ H', Kp b g H7 H' → Box H' b g → Dp K H' (.ref ad0) (deedsD ds) := fun H' kk bb => dp_kf (KF.of_kp kk B7) _ (still_deedsD ds) hD
        refine ite2 (fun hh => ?_) (fun hh => ?_)
        · refine ⟨_, rfl, b, g, 2, rfl, by decide, by decide, B7, fun r8 H8 r80 r81 kp8 B8 => ?_⟩
          refine ⟨rfl, _, rfl, ?_⟩
          refine ite2 (fun hh => ?_) (fun hh => ?_)
          · refine tSeq_go ?_
            have had8 := sqT_kf (KF.of_kp kp8 B7) had0
            have hxs8 := dpAll_kf (KF.of_kp kp8 B7) _ (still_deeds ds) hxs0
            have hxl0 : xs0.length = ds.length := by rw [dpAll_len hxs0, List.length_map]
            refine tAsg_by (fun u H' => ∃ (E0 : Addr) (ys : List V) (es : List Deed), u = .ref E0 ∧ Same H8 H' ∧ H' E0 = some (.lst ys) ∧ DpAll K H' ys (es.map Deed.D) ∧ es.length ≤ 12 ∧ ∀ d ∈ es, d.Ok ts ∧ Mild ts.length d) ?_ (fun cont2 => ?_)
            · rintro u8 H9 ⟨E0, ys, es, rfl, s9, hE0, hys, hel, hes⟩
              dsimp only [gName]
              refine ⟨_, rfl, E0, _, rfl, .inl ⟨SqL.of hE0, fun q hq => ?_⟩⟩
              have s10 := same_new (o := .tup ys) hq
              exact cont _ _ ⟨kp8.trans (Kp.same (s9.trans s10)), (B8.same s9).same s10, .ref q, es, _, rfl, .tup (SqT.of upd_same) (dpAll_same s10 _ hys), hel, hes⟩
            · refine ⟨_, rfl, ad0, rfl, ⟨_, had8⟩, fun E1 hE1 => ?_⟩
              refine lc_run (walk_tup (xs := xs0)) hE1 (fun i acc Hq => ∃ es : List Deed, DpAll K Hq acc (es.map Deed.D) ∧ es.length = i ∧ ∀ d ∈ es, d.Ok ts ∧ Mild ts.length d) ?_ ?_ ?_ ?_
              · exact fun H' s => sqT_same s had8
              · exact ⟨[], .nil, rfl, by simp⟩
              · rintro i x acc H2 H' hi hacc e s ⟨es, r1, r2, r3⟩ ⟨rfl, hx⟩
                obtain ⟨dd, hdd, hdp⟩ := dpAll_get (dpAll_same s _ hxs8) hx
                obtain ⟨d, hdj, rfl⟩ := get_map hdd
                obtain ⟨ax, va, rfl, hax, hva⟩ := dp_deed hdp
                have hd0 := hds d (List.mem_of_getElem? hdj)
                refine ⟨ax, _, rfl, hax, rfl, _, _, rfl, _, _, rfl, _, _, rfl, rfl, rfl, yes_go ?_⟩
                refine ⟨_, rfl, _, rfl, ?_⟩
                refine tIf_by (fun u Hn => Hn = H' ∧ ∃ tm : Int, u = .int tm ∧ tm.natAbs ≤ 2 ^ 110) ?_ (fun cont3 => ?_)
                · rintro u Hn ⟨rfl, tm, rfl, htm⟩
                  refine ⟨by show 3 ≤ sizeLine; decide, fun p2 hp2 => ?_⟩
                  have sp : Same Hn (upd Hn p2 (.tup [.str d.word, va, .int tm])) := same_new hp2
                  have np : p2 ≠ E1 := by
                    rintro rfl
                    rw [hacc] at hp2
                    cases hp2
                  have hal : acc.length ≤ 12 := by
                    rw [dpAll_len r1, List.length_map]
                    omega
                  have hva' : Dp K (era (upd Hn p2 (.tup [.str d.word, va, .int tm])) E1) va d.about := by
                    have kf : KF Hn (era (upd Hn p2 (.tup [.str d.word, va, .int tm])) E1) := fun z o hz q => by
                      have nz : z ≠ E1 := by
                        rintro rfl
                        rw [hacc] at hz
                        obtain ⟨_, rfl | ⟨_, rfl⟩⟩ := q <;> cases hz
                      rw [era_ne nz]
                      exact sp _ _ hz
                    refine dp_kf kf _ ?_ hva
                    cases d with
                    | star p t => simp [Deed.about, still]
                    | round ks t => exact still_lot ks
                  have hpn : SqT K (era (upd Hn p2 (.tup [.str d.word, va, .int tm])) E1) p2 [.str d.word, va, .int tm] := SqT.of (by rw [era_ne np, upd_same])
                  refine lc_add hacc e sp (by omega) ⟨es ++ [d.withT tm], ?_, by rw [List.length_append, List.length_singleton]; omega, fun d' hd' => ?_⟩
                  · rw [List.map_append]
                    refine dpAll_app (dpAll_same (era_same sp) _ r1) (.cons ?_ .nil)
                    rw [withT_D]
                    exact .tup hpn (.cons (.str _) (.cons hva' (.cons (.int _) .nil)))
                  · rcases List.mem_append.mp hd' with z | z
                    · exact r3 d' z
                    · rw [List.mem_singleton.mp z]
                      exact ⟨withT_ok tm hd0.1, withT_mild hd0.2 htm⟩
                · refine ⟨_, rfl, _, _, rfl, rfl, _, rfl, ?_⟩
                  refine ite2 (fun hh2 => ?_) (fun hh2 => ?_)
                  · exact ⟨_, _, rfl, rfl, ⟨by decide, by decide, by decide⟩, cont3 _ _ ⟨rfl, _, rfl, by decide⟩⟩
                  · refine ⟨_, rfl, _, rfl, _, _, rfl, cont3 _ _ ⟨rfl, _, rfl, ?_⟩⟩
                    have h9 := hd0.2.1
                    have h110 : 9 ≤ 2 ^ 110 := by decide
                    split <;> omega
              · rintro acc H2 h1 s2 ⟨es, r1, r2, r3⟩
                exact cont2 _ _ ⟨E1, acc, es, rfl, s2, h1, dpAll_same era_back _ r1, by omega, r3⟩
          · exact cont _ _ ⟨kp8, B8, .ref ad0, ds, v14, rfl, stay _ kp8 B8, hdl9, hds⟩
        · exact cont _ _ ⟨Kp.refl _, B7, .ref ad0, ds, v14, rfl, hD, hdl9, hds⟩
    · rintro σ Hc ⟨v2, v3, v4, v5, v6, v7, v8, v9, v10, v11, v12, v13, v14, v15, rfl, hBc⟩
      exact k _
end
end BV

namespace BV
open PySem L2
theorem kit_ve {K : PySem.W.Frag} {S : Addr} (h : PySem.W.subIn K (.ref S) (.type "ValueError") = some true) : PySem.W.kitOne K (.ref S) (.type "ValueError") = some true := by
  have m : PySem.W.kitMeta "ValueError" = true := by decide +kernel
  have e : PySem.W.kitCls K (.ref S) (.type "ValueError") = (if PySem.W.kitMeta "ValueError" = true then PySem.W.subIn K (.ref S) (.type "ValueError") else none) := rfl
  unfold PySem.W.kitOne
  rw [e, m, if_pos rfl, h]
  split <;> rfl
theorem kit_own {K : PySem.W.Frag} {S B : Addr} (h2 : PySem.W.isClsIn K B = true) (h3 : PySem.W.typeIn K (.ref B) = some (.type "type")) (h : PySem.W.subIn K (.ref S) (.ref B) = some true) : PySem.W.kitOne K (.ref S) (.ref B) = some true := by
  have q : (PySem.W.clsIn K B).isSome = true := h2
  have e : PySem.W.kitCls K (.ref S) (.ref B) = (if ((PySem.W.clsIn K B).isSome && PySem.W.typeIn K (.ref B) == some (.type "type")) = true then PySem.W.subIn K (.ref S) (.ref B) else none) := rfl
  have z : ((PySem.W.clsIn K B).isSome && PySem.W.typeIn K (.ref B) == some (.type "type")) = true := by rw [q, h3]; rfl
  unfold PySem.W.kitOne
  rw [e, if_pos z, h]
  split <;> rfl
theorem exm_self {K : PySem.W.Frag} {S : Addr} (h1 : PySem.W.subIn K (.ref S) (.type "BaseException") = some true) (h2 : PySem.W.isClsIn K S = true) (h3 : PySem.W.typeIn K (.ref S) = some (.type "type")) (h4 : PySem.W.subIn K (.ref S) (.ref S) = some true) :
    PySem.W.exmOne K (.ref S) (.ref S) = some true := by
  have q : (PySem.W.clsIn K S).isSome = true := h2
  have e : PySem.W.exmOne K (.ref S) (.ref S) = (if (PySem.W.subIn K (.ref S) (.type "BaseException") == some true) = true then (if ((PySem.W.clsIn K S).isSome && PySem.W.typeIn K (.ref S) == some (.type "type")) = true then PySem.W.subIn K (.ref S) (.ref S) else none) else none) := rfl
  rw [e, h1, h3, q, h4]
  rfl
section
variable {K : PySem.W.Frag} {mg : Str → Option Value}
theorem df_mk {x : String} {st : Stmt} {ps : List Str} {f : Addr} {oc : Value} {od an : Option Addr} {osl : Array (Option Value)} {kV doc pm cdv ct : Value} {h : Heap}
    (X : K.In h) (G : h.Ns mainGlobals mg)
    (a : PySem.W.nsIn K mainGlobals (Str.ofString x) = some (some (.ref f)))
    (l : K.lookup f = some ⟨oc, od, .func (PySem.W.fnOf (Str.ofString x) (Str.ofString x) (defArgs st) (defBody st) (defScope st) .none kV doc pm an cdv ct), osl⟩)
    (c : PySem.W.codeIn K cdv (Str.ofString x) = true) (k : PySem.W.keepIn K (.ref f) = true)
    (hb : ∀ (kV doc pm : Value) (an : Option Addr) (cdv ct : Value) (us : List Value), us.length = ps.length →
      bindArgs (PySem.W.fnOf (Str.ofString x) (Str.ofString x) (defArgs st) (defBody st) (defScope st) .none kV doc pm an cdv ct) ⟨us, []⟩ = pure (ps.zip us)) :
    Df K mg x st ps f (PySem.W.fnOf (Str.ofString x) (Str.ofString x) (defArgs st) (defBody st) (defScope st) .none kV doc pm an cdv ct) :=
  ⟨fun_mk (st := st) l c k, PySem.W.mg_of X G a, (fun_mk (st := st) l c k).binds hb⟩
theorem kbn_mk {x : Str} {params : Arguments} {body : List Stmt} {scope : Scope} {f : Addr} {ps ks : List Str} {g : List Value → List Value → List Value} {gV : List V → List V → List V}
    {oc : Value} {od an : Option Addr} {osl : Array (Option Value)} {kV doc pm cdv ct : Value}
    (_l : K.lookup f = some ⟨oc, od, .func (PySem.W.fnOf x x params body scope .none kV doc pm an cdv ct), osl⟩)
    (hb : ∀ us ws : List Value, us.length = 0 → ws.length = ks.length →
      bindArgs (PySem.W.fnOf x x params body scope .none kV doc pm an cdv ct) ⟨us, ks.zip ws⟩ = pure (ps.zip (g us ws)))
    (hr : ∀ {vs : List V} {us : List Value} {zs : List V} {ws : List Value}, Vals vs us → Vals zs ws → Vals (gV vs zs) (g us ws)) :
    KBn K (PySem.W.fnOf x x params body scope .none kV doc pm an cdv ct) ps 0 ks g gV :=
  ⟨fun _ us ws _ h1 h2 => .of_eq (hb us ws h1 h2), hr⟩
end
theorem all_mk {l : PySem.W.OpenLaw} {w : World} {K : PySem.W.Frag} {h : Heap} {mg : Str → Option Value} {fa : Addr} (X : K.In h) (G : h.Ns mainGlobals mg) (hfa : mg "law" = some (.ref fa))
    {f0 f1 f2 f3 f4 f5 f6 f7 f8 f9 f10 f11 f12 f13 f14 f15 f16 f17 f18 f19 : Addr} {od0 an0 od1 an1 od2 an2 od3 an3 od4 an4 od5 an5 od6 an6 od7 an7 od8 an8 od9 an9 od10 an10 od11 an11 od12 an12 od13 an13 od14 an14 od15 an15 od16 an16 od17 an17 od18 an18 od19 an19 : Option Addr} {sl0 sl1 sl2 sl3 sl4 sl5 sl6 sl7 sl8 sl9 sl10 sl11 sl12 sl13 sl14 sl15 sl16 sl17 sl18 sl19 : Array (Option Value)}
    {oc0 kV0 dc0 pm0 cd0 ct0 oc1 kV1 dc1 pm1 cd1 ct1 oc2 kV2 dc2 pm2 cd2 ct2 oc3 kV3 dc3 pm3 cd3 ct3 oc4 kV4 dc4 pm4 cd4 ct4 oc5 kV5 dc5 pm5 cd5 ct5 oc6 kV6 dc6 pm6 cd6 ct6 oc7 kV7 dc7 pm7 cd7 ct7 oc8 kV8 dc8 pm8 cd8 ct8 oc9 kV9 dc9 pm9 cd9 ct9 oc10 kV10 dc10 pm10 cd10 ct10 oc11 kV11 dc11 pm11 cd11 ct11 oc12 kV12 dc12 pm12 cd12 ct12 oc13 kV13 dc13 pm13 cd13 ct13 oc14 kV14 dc14 pm14 cd14 ct14 oc15 kV15 dc15 pm15 cd15 ct15 oc16 kV16 dc16 pm16 cd16 ct16 oc17 kV17 dc17 pm17 cd17 ct17 oc18 kV18 dc18 pm18 cd18 ct18 oc19 kV19 dc19 pm19 cd19 ct19 : Value}
    {U0 B0 : Addr} (gU : PySem.W.nsIn K mainGlobals "Unfit" = some (some (.ref U0))) (gB : PySem.W.nsIn K mainGlobals "BothError" = some (some (.ref B0)))
    (xU : PySem.W.excIn K U0 [.type "ValueError", .type "Exception", .type "BaseException", .type "object"] "ValueError.__new__" = true) (kU : PySem.W.keepIn K (.ref U0) = true) (bU : PySem.W.subIn K (.ref U0) (.type "BaseException") = some true)
    (tU : PySem.W.typeIn K (.ref U0) = some (.type "type")) (iU : PySem.W.isClsIn K U0 = true) (sU : PySem.W.subIn K (.ref U0) (.ref U0) = some true)
    (hgU : PySem.W.findIn K (.ref U0) "__getattribute__" = some (some (.builtin "BaseException.__getattribute__"))) (hkU : PySem.W.findIn K (.ref U0) "__getattr__" = some none) (hdU : PySem.W.hasDictIn K U0 = true)
    (haU : PySem.W.findIn K (.ref U0) "__class__" = some (some (.builtin "object.__class__"))) (hnU : PySem.W.specialIn K (.builtin "object.__class__") "__get__" = some (some (.builtin "getset_descriptor.__get__")))
    (htU : PySem.W.takesIn K (.builtin "object.__class__") = some true) (hmU : PySem.W.mroIn K U0 (.type "object") = some true)
    (ivU : PySem.W.subIn K (.ref U0) (.type "ValueError") = some true) (ibU : PySem.W.subIn K (.ref U0) (.ref B0) = some true) (iB : PySem.W.isClsIn K B0 = true) (tB : PySem.W.typeIn K (.ref B0) = some (.type "type"))
    (a0 : PySem.W.nsIn K mainGlobals "ties_at" = some (some (.ref f0)))
    (l0 : K.lookup f0 = some ⟨oc0, od0, .func (PySem.W.fnOf "ties_at" "ties_at" (defArgs sTies) (defBody sTies) (defScope sTies) .none kV0 dc0 pm0 an0 cd0 ct0), sl0⟩)
    (c0 : PySem.W.codeIn K cd0 "ties_at" = true) (k0 : PySem.W.keepIn K (.ref f0) = true)
    (a1 : PySem.W.nsIn K mainGlobals "_do" = some (some (.ref f1)))
    (l1 : K.lookup f1 = some ⟨oc1, od1, .func (PySem.W.fnOf "_do" "_do" (defArgs sDo) (defBody sDo) (defScope sDo) .none kV1 dc1 pm1 an1 cd1 ct1), sl1⟩)
    (c1 : PySem.W.codeIn K cd1 "_do" = true) (k1 : PySem.W.keepIn K (.ref f1) = true)
    (a2 : PySem.W.nsIn K mainGlobals "done" = some (some (.ref f2)))
    (l2 : K.lookup f2 = some ⟨oc2, od2, .func (PySem.W.fnOf "done" "done" (defArgs sDone) (defBody sDone) (defScope sDone) .none kV2 dc2 pm2 an2 cd2 ct2), sl2⟩)
    (c2 : PySem.W.codeIn K cd2 "done" = true) (k2 : PySem.W.keepIn K (.ref f2) = true)
    (a3 : PySem.W.nsIn K mainGlobals "_has_below" = some (some (.ref f3)))
    (l3 : K.lookup f3 = some ⟨oc3, od3, .func (PySem.W.fnOf "_has_below" "_has_below" (defArgs sHb) (defBody sHb) (defScope sHb) .none kV3 dc3 pm3 an3 cd3 ct3), sl3⟩)
    (c3 : PySem.W.codeIn K cd3 "_has_below" = true) (k3 : PySem.W.keepIn K (.ref f3) = true)
    (a4 : PySem.W.nsIn K mainGlobals "never_below" = some (some (.ref f4)))
    (l4 : K.lookup f4 = some ⟨oc4, od4, .func (PySem.W.fnOf "never_below" "never_below" (defArgs sNb) (defBody sNb) (defScope sNb) .none kV4 dc4 pm4 an4 cd4 ct4), sl4⟩)
    (c4 : PySem.W.codeIn K cd4 "never_below" = true) (k4 : PySem.W.keepIn K (.ref f4) = true)
    (a5 : PySem.W.nsIn K mainGlobals "lifted" = some (some (.ref f5)))
    (l5 : K.lookup f5 = some ⟨oc5, od5, .func (PySem.W.fnOf "lifted" "lifted" (defArgs sLifted) (defBody sLifted) (defScope sLifted) .none kV5 dc5 pm5 an5 cd5 ct5), sl5⟩)
    (c5 : PySem.W.codeIn K cd5 "lifted" = true) (k5 : PySem.W.keepIn K (.ref f5) = true)
    (a6 : PySem.W.nsIn K mainGlobals "_law_box" = some (some (.ref f6)))
    (l6 : K.lookup f6 = some ⟨oc6, od6, .func (PySem.W.fnOf "_law_box" "_law_box" (defArgs sBox) (defBody sBox) (defScope sBox) .none kV6 dc6 pm6 an6 cd6 ct6), sl6⟩)
    (c6 : PySem.W.codeIn K cd6 "_law_box" = true) (k6 : PySem.W.keepIn K (.ref f6) = true)
    (a7 : PySem.W.nsIn K mainGlobals "_law_draw" = some (some (.ref f7)))
    (l7 : K.lookup f7 = some ⟨oc7, od7, .func (PySem.W.fnOf "_law_draw" "_law_draw" (defArgs sDraw) (defBody sDraw) (defScope sDraw) .none kV7 dc7 pm7 an7 cd7 ct7), sl7⟩)
    (c7 : PySem.W.codeIn K cd7 "_law_draw" = true) (k7 : PySem.W.keepIn K (.ref f7) = true)
    (a8 : PySem.W.nsIn K mainGlobals "_law_pick" = some (some (.ref f8)))
    (l8 : K.lookup f8 = some ⟨oc8, od8, .func (PySem.W.fnOf "_law_pick" "_law_pick" (defArgs sPick) (defBody sPick) (defScope sPick) .none kV8 dc8 pm8 an8 cd8 ct8), sl8⟩)
    (c8 : PySem.W.codeIn K cd8 "_law_pick" = true) (k8 : PySem.W.keepIn K (.ref f8) = true)
    (a9 : PySem.W.nsIn K mainGlobals "_law_web" = some (some (.ref f9)))
    (l9 : K.lookup f9 = some ⟨oc9, od9, .func (PySem.W.fnOf "_law_web" "_law_web" (defArgs sWeb) (defBody sWeb) (defScope sWeb) .none kV9 dc9 pm9 an9 cd9 ct9), sl9⟩)
    (c9 : PySem.W.codeIn K cd9 "_law_web" = true) (k9 : PySem.W.keepIn K (.ref f9) = true)
    (a10 : PySem.W.nsIn K mainGlobals "_law_counts" = some (some (.ref f10)))
    (l10 : K.lookup f10 = some ⟨oc10, od10, .func (PySem.W.fnOf "_law_counts" "_law_counts" (defArgs sCounts) (defBody sCounts) (defScope sCounts) .none kV10 dc10 pm10 an10 cd10 ct10), sl10⟩)
    (c10 : PySem.W.codeIn K cd10 "_law_counts" = true) (k10 : PySem.W.keepIn K (.ref f10) = true)
    (a11 : PySem.W.nsIn K mainGlobals "_law_lot" = some (some (.ref f11)))
    (l11 : K.lookup f11 = some ⟨oc11, od11, .func (PySem.W.fnOf "_law_lot" "_law_lot" (defArgs sLot) (defBody sLot) (defScope sLot) .none kV11 dc11 pm11 an11 cd11 ct11), sl11⟩)
    (c11 : PySem.W.codeIn K cd11 "_law_lot" = true) (k11 : PySem.W.keepIn K (.ref f11) = true)
    (a12 : PySem.W.nsIn K mainGlobals "_law_twos" = some (some (.ref f12)))
    (l12 : K.lookup f12 = some ⟨oc12, od12, .func (PySem.W.fnOf "_law_twos" "_law_twos" (defArgs sTwos) (defBody sTwos) (defScope sTwos) .none kV12 dc12 pm12 an12 cd12 ct12), sl12⟩)
    (c12 : PySem.W.codeIn K cd12 "_law_twos" = true) (k12 : PySem.W.keepIn K (.ref f12) = true)
    (a13 : PySem.W.nsIn K mainGlobals "_law_is_round" = some (some (.ref f13)))
    (l13 : K.lookup f13 = some ⟨oc13, od13, .func (PySem.W.fnOf "_law_is_round" "_law_is_round" (defArgs sIsr) (defBody sIsr) (defScope sIsr) .none kV13 dc13 pm13 an13 cd13 ct13), sl13⟩)
    (c13 : PySem.W.codeIn K cd13 "_law_is_round" = true) (k13 : PySem.W.keepIn K (.ref f13) = true)
    (a14 : PySem.W.nsIn K mainGlobals "_law_rounds" = some (some (.ref f14)))
    (l14 : K.lookup f14 = some ⟨oc14, od14, .func (PySem.W.fnOf "_law_rounds" "_law_rounds" (defArgs sRounds) (defBody sRounds) (defScope sRounds) .none kV14 dc14 pm14 an14 cd14 ct14), sl14⟩)
    (c14 : PySem.W.codeIn K cd14 "_law_rounds" = true) (k14 : PySem.W.keepIn K (.ref f14) = true)
    (a15 : PySem.W.nsIn K mainGlobals "_law_deeds" = some (some (.ref f15)))
    (l15 : K.lookup f15 = some ⟨oc15, od15, .func (PySem.W.fnOf "_law_deeds" "_law_deeds" (defArgs sDeeds) (defBody sDeeds) (defScope sDeeds) .none kV15 dc15 pm15 an15 cd15 ct15), sl15⟩)
    (c15 : PySem.W.codeIn K cd15 "_law_deeds" = true) (k15 : PySem.W.keepIn K (.ref f15) = true)
    (a16 : PySem.W.nsIn K mainGlobals "_law_done" = some (some (.ref f16)))
    (l16 : K.lookup f16 = some ⟨oc16, od16, .func (PySem.W.fnOf "_law_done" "_law_done" (defArgs sLdone) (defBody sLdone) (defScope sLdone) .none kV16 dc16 pm16 an16 cd16 ct16), sl16⟩)
    (c16 : PySem.W.codeIn K cd16 "_law_done" = true) (k16 : PySem.W.keepIn K (.ref f16) = true)
    (a17 : PySem.W.nsIn K mainGlobals "_law_told" = some (some (.ref f17)))
    (l17 : K.lookup f17 = some ⟨oc17, od17, .func (PySem.W.fnOf "_law_told" "_law_told" (defArgs sTold) (defBody sTold) (defScope sTold) .none kV17 dc17 pm17 an17 cd17 ct17), sl17⟩)
    (c17 : PySem.W.codeIn K cd17 "_law_told" = true) (k17 : PySem.W.keepIn K (.ref f17) = true)
    (a18 : PySem.W.nsIn K mainGlobals "_law_is_right" = some (some (.ref f18)))
    (l18 : K.lookup f18 = some ⟨oc18, od18, .func (PySem.W.fnOf "_law_is_right" "_law_is_right" (defArgs sRight) (defBody sRight) (defScope sRight) .none kV18 dc18 pm18 an18 cd18 ct18), sl18⟩)
    (c18 : PySem.W.codeIn K cd18 "_law_is_right" = true) (k18 : PySem.W.keepIn K (.ref f18) = true)
    (a19 : PySem.W.nsIn K mainGlobals "law" = some (some (.ref f19)))
    (l19 : K.lookup f19 = some ⟨oc19, od19, .func (PySem.W.fnOf "law" "law" (defArgs sLaw) (defBody sLaw) (defScope sLaw) .none kV19 dc19 pm19 an19 cd19 ct19), sl19⟩)
    (c19 : PySem.W.codeIn K cd19 "law" = true) (k19 : PySem.W.keepIn K (.ref f19) = true)
    (z_int : PySem.W.nsIn K mainGlobals "int" = some none)
    (z_abs : PySem.W.nsIn K mainGlobals "abs" = some none)
    (z_len : PySem.W.nsIn K mainGlobals "len" = some none)
    (z_range : PySem.W.nsIn K mainGlobals "range" = some none)
    (z_enumerate : PySem.W.nsIn K mainGlobals "enumerate" = some none)
    (z_tuple : PySem.W.nsIn K mainGlobals "tuple" = some none)
    (z_min : PySem.W.nsIn K mainGlobals "min" = some none)
    (z_max : PySem.W.nsIn K mainGlobals "max" = some none)
    (z_sum : PySem.W.nsIn K mainGlobals "sum" = some none)
    (z_repr : PySem.W.nsIn K mainGlobals "repr" = some none)
    (z_list : PySem.W.nsIn K mainGlobals "list" = some none)
    (z_any : PySem.W.nsIn K mainGlobals "any" = some none)
    (z_isinstance : PySem.W.nsIn K mainGlobals "isinstance" = some none)
    (z_ValueError : PySem.W.nsIn K mainGlobals "ValueError" = some none) :
    ∃ fd : FuncData, (∀ (s : Shared) (v : Value), BindsTo s fd ⟨[v], []⟩ [("_law_script", v)]) ∧
      ∀ base : Heap, K.In base → base.Ns mainGlobals mg → FnG l.prog w K mg base CX0 7 fa fd ["_law_script"] (spLaw K) := by
  have e := hfa.symm.trans (PySem.W.mg_of X G a19)
  cases e
  have T : Bl mg := ⟨PySem.W.mg_none_of X G z_int, PySem.W.mg_none_of X G z_abs, PySem.W.mg_none_of X G z_len, PySem.W.mg_none_of X G z_range, PySem.W.mg_none_of X G z_enumerate, PySem.W.mg_none_of X G z_tuple, PySem.W.mg_none_of X G z_min, PySem.W.mg_none_of X G z_max, PySem.W.mg_none_of X G z_sum, PySem.W.mg_none_of X G z_repr⟩
  have Zlist : mg "list" = none := PySem.W.mg_none_of X G z_list
  have Zany : mg "any" = none := PySem.W.mg_none_of X G z_any
  have Zisi : mg "isinstance" = none := PySem.W.mg_none_of X G z_isinstance
  have D0 : Df K mg "ties_at" sTies ["web", "place"] f0 _ := df_mk X G a0 l0 c0 k0 fun _ _ _ _ _ _ us hl => match us, hl with | [_, _], _ => rfl
  have D1 : Df K mg "_do" sDo ["web", "numbers", "deed"] f1 _ := df_mk X G a1 l1 c1 k1 fun _ _ _ _ _ _ us hl => match us, hl with | [_, _, _], _ => rfl
  have D2 : Df K mg "done" sDone ["web", "standing", "deeds"] f2 _ := df_mk X G a2 l2 c2 k2 fun _ _ _ _ _ _ us hl => match us, hl with | [_, _, _], _ => rfl
  have D3 : Df K mg "_has_below" sHb ["numbers"] f3 _ := df_mk X G a3 l3 c3 k3 fun _ _ _ _ _ _ us hl => match us, hl with | [_], _ => rfl
  have D4 : Df K mg "never_below" sNb ["web", "standing", "deeds"] f4 _ := df_mk X G a4 l4 c4 k4 fun _ _ _ _ _ _ us hl => match us, hl with | [_, _, _], _ => rfl
  have D5 : Df K mg "lifted" sLifted ["web", "standing", "deeds"] f5 _ := df_mk X G a5 l5 c5 k5 fun _ _ _ _ _ _ us hl => match us, hl with | [_, _, _], _ => rfl
  have D6 : Df K mg "_law_box" sBox ["_law_script"] f6 _ := df_mk X G a6 l6 c6 k6 fun _ _ _ _ _ _ us hl => match us, hl with | [_], _ => rfl
  have D7 : Df K mg "_law_draw" sDraw ["_law_box_here", "_law_many"] f7 _ := df_mk X G a7 l7 c7 k7 fun _ _ _ _ _ _ us hl => match us, hl with | [_, _], _ => rfl
  have D8 : Df K mg "_law_pick" sPick ["_law_box_here", "_law_items"] f8 _ := df_mk X G a8 l8 c8 k8 fun _ _ _ _ _ _ us hl => match us, hl with | [_, _], _ => rfl
  have D9 : Df K mg "_law_web" sWeb ["_law_box_here", "_law_most", "_law_more"] f9 _ := df_mk X G a9 l9 c9 k9 fun _ _ _ _ _ _ us hl => match us, hl with | [_, _, _], _ => rfl
  have D10 : Df K mg "_law_counts" sCounts ["_law_web_here", "_law_lot_here"] f10 _ := df_mk X G a10 l10 c10 k10 fun _ _ _ _ _ _ us hl => match us, hl with | [_, _], _ => rfl
  have D11 : Df K mg "_law_lot" sLot ["_law_web_here", "_law_number"] f11 _ := df_mk X G a11 l11 c11 k11 fun _ _ _ _ _ _ us hl => match us, hl with | [_, _], _ => rfl
  have D12 : Df K mg "_law_twos" sTwos ["_law_many"] f12 _ := df_mk X G a12 l12 c12 k12 fun _ _ _ _ _ _ us hl => match us, hl with | [_], _ => rfl
  have D13 : Df K mg "_law_is_round" sIsr ["_law_web_here", "_law_lot_here"] f13 _ := df_mk X G a13 l13 c13 k13 fun _ _ _ _ _ _ us hl => match us, hl with | [_, _], _ => rfl
  have D14 : Df K mg "_law_rounds" sRounds ["_law_web_here"] f14 _ := df_mk X G a14 l14 c14 k14 fun _ _ _ _ _ _ us hl => match us, hl with | [_], _ => rfl
  have D15 : Df K mg "_law_deeds" sDeeds ["_law_box_here", "_law_web_here", "_law_every", "_law_many", "_law_most"] f15 _ := df_mk X G a15 l15 c15 k15 fun _ _ _ _ _ _ us hl => match us, hl with | [_, _, _, _, _], _ => rfl
  have D16 : Df K mg "_law_done" sLdone ["_law_web_here", "_law_standing", "_law_deeds_here"] f16 _ := df_mk X G a16 l16 c16 k16 fun _ _ _ _ _ _ us hl => match us, hl with | [_, _, _], _ => rfl
  have D17 : Df K mg "_law_told" sTold ["_law_web_here", "_law_standing", "_law_deeds_here", "_law_is_named"] f17 _ := df_mk X G a17 l17 c17 k17 fun _ _ _ _ _ _ us hl => match us, hl with | [_, _, _, _], _ => rfl
  have D18 : Df K mg "_law_is_right" sRight ["_law_web_here", "_law_standing", "_law_deeds_here", "_law_is_named"] f18 _ := df_mk X G a18 l18 c18 k18 fun _ _ _ _ _ _ us hl => match us, hl with | [_, _, _, _], _ => rfl
  have D19 : Df K mg "law" sLaw ["_law_script"] fa _ := df_mk X G a19 l19 c19 k19 fun _ _ _ _ _ _ us hl => match us, hl with | [_], _ => rfl
  have Kl : KBn K _ ["web", "standing", "deeds"] 0 ["deeds", "standing", "web"] (fun _ ws => ws.reverse) (fun _ zs => zs.reverse) := kbn_mk l5 (fun us ws h1 h2 => match us, ws, h1, h2 with | [], [_, _, _], _, _ => rfl) (fun r1 r2 => r2.reverse)
  have EU : ErrU K mg U0 B0 := { gU := PySem.W.mg_of X G gU, gB := PySem.W.mg_of X G gB, gv := PySem.W.mg_none_of X G z_ValueError, xU := xU, kU := kU, bU := bU, tU := tU, te := exm_self bU iU tU sU, ex := ⟨hgU, hkU, bU, hdU, haU, hnU, htU, hmU⟩, iv := kit_ve ivU, ib := kit_own iB tB ibU }
  exact ⟨_, fun s v => .of_eq rfl, fun base _ _ => ok_law D19 T Zlist Zany Zisi EU D0 D1 D3 D2 D5 Kl D4 D6 D7 D8 D9 D10 D11 D12 D13 D14 D15 D16 D17 D18⟩
end BV

open PySem PySem.W PyProof.Rows in
set_option maxRecDepth 100000 in
set_option maxHeartbeats 0 in
theorem PySem.Challenge.cw_botheven_k13_whole_first_all_that_add_holds : PySem.Challenge.rw_botheven_k13_whole_first_all_that_add.Holds := by
  w_on; o_law; k_head; (case hw => w_witness2)
  k_fill
  refine BV.walk_ofG (n := 63) (k := 7) (x := "_law_script") (CX := L2.CX0) (sp := BV.spLaw) (l := PySem.Challenge.rw_botheven_k13_whole_first_all_that_add) rfl (by decide) rfl ⟨rfl, by decide, by decide⟩ (fun w h Y => PySem.W.kIn_of Y) ?F (fun _ _ a ns hl _ _ hS => ⟨a, ns, rfl, hS, hl, fun _ => rfl⟩) fun _ _ _ _ z => z
  case F =>
    intro w mg fa h KX G hmg
    refine' BV.all_mk KX G hmg ?gU ?gB ?xU ?kU ?bU ?tU ?iU ?sU ?hgU ?hkU ?hdU ?haU ?hnU ?htU ?hmU ?ivU ?ibU ?iB ?tB ?a0 ?l0 ?c0 ?k0 ?a1 ?l1 ?c1 ?k1 ?a2 ?l2 ?c2 ?k2 ?a3 ?l3 ?c3 ?k3 ?a4 ?l4 ?c4 ?k4 ?a5 ?l5 ?c5 ?k5 ?a6 ?l6 ?c6 ?k6 ?a7 ?l7 ?c7 ?k7 ?a8 ?l8 ?c8 ?k8 ?a9 ?l9 ?c9 ?k9 ?a10 ?l10 ?c10 ?k10 ?a11 ?l11 ?c11 ?k11 ?a12 ?l12 ?c12 ?k12 ?a13 ?l13 ?c13 ?k13 ?a14 ?l14 ?c14 ?k14 ?a15 ?l15 ?c15 ?k15 ?a16 ?l16 ?c16 ?k16 ?a17 ?l17 ?c17 ?k17 ?a18 ?l18 ?c18 ?k18 ?a19 ?l19 ?c19 ?k19 ?z_int ?z_abs ?z_len ?z_range ?z_enumerate ?z_tuple ?z_min ?z_max ?z_sum ?z_repr ?z_list ?z_any ?z_isinstance ?z_ValueError
    (case gU => k_is)
    (case gB => k_is)
    (case xU => k_exc)
    (case kU => k_is)
    (case bU => k_is)
    (case tU => k_is)
    (case iU => k_is)
    (case sU => first | rfl | k_is)
    (case hgU => k_is)
    (case hkU => k_is)
    (case hdU => k_is)
    (case haU => k_is)
    (case hnU => k_is)
    (case htU => k_is)
    (case hmU => k_is)
    (case ivU => k_is)
    (case ibU => k_is)
    (case iB => k_is)
    (case tB => k_is)
    (case a0 => k_is)
    (case l0 => k_is)
    (case c0 => k_is)
    (case k0 => k_is)
    (case a1 => k_is)
    (case l1 => k_is)
    (case c1 => k_is)
    (case k1 => k_is)
    (case a2 => k_is)
    (case l2 => k_is)
    (case c2 => k_is)
    (case k2 => k_is)
    (case a3 => k_is)
    (case l3 => k_is)
    (case c3 => k_is)
    (case k3 => k_is)
    (case a4 => k_is)
    (case l4 => k_is)
    (case c4 => k_is)
    (case k4 => k_is)
    (case a5 => k_is)
    (case l5 => k_is)
    (case c5 => k_is)
    (case k5 => k_is)
    (case a6 => k_is)
    (case l6 => k_is)
    (case c6 => k_is)
    (case k6 => k_is)
    (case a7 => k_is)
    (case l7 => k_is)
    (case c7 => k_is)
    (case k7 => k_is)
    (case a8 => k_is)
    (case l8 => k_is)
    (case c8 => k_is)
    (case k8 => k_is)
    (case a9 => k_is)
    (case l9 => k_is)
    (case c9 => k_is)
    (case k9 => k_is)
    (case a10 => k_is)
    (case l10 => k_is)
    (case c10 => k_is)
    (case k10 => k_is)
    (case a11 => k_is)
    (case l11 => k_is)
    (case c11 => k_is)
    (case k11 => k_is)
    (case a12 => k_is)
    (case l12 => k_is)
    (case c12 => k_is)
    (case k12 => k_is)
    (case a13 => k_is)
    (case l13 => k_is)
    (case c13 => k_is)
    (case k13 => k_is)
    (case a14 => k_is)
    (case l14 => k_is)
    (case c14 => k_is)
    (case k14 => k_is)
    (case a15 => k_is)
    (case l15 => k_is)
    (case c15 => k_is)
    (case k15 => k_is)
    (case a16 => k_is)
    (case l16 => k_is)
    (case c16 => k_is)
    (case k16 => k_is)
    (case a17 => k_is)
    (case l17 => k_is)
    (case c17 => k_is)
    (case k17 => k_is)
    (case a18 => k_is)
    (case l18 => k_is)
    (case c18 => k_is)
    (case k18 => k_is)
    (case a19 => k_is)
    (case l19 => k_is)
    (case c19 => k_is)
    (case k19 => k_is)
    (case z_int => k_is)
    (case z_abs => k_is)
    (case z_len => k_is)
    (case z_range => k_is)
    (case z_enumerate => k_is)
    (case z_tuple => k_is)
    (case z_min => k_is)
    (case z_max => k_is)
    (case z_sum => k_is)
    (case z_repr => k_is)
    (case z_list => k_is)
    (case z_any => k_is)
    (case z_isinstance => k_is)
    (case z_ValueError => k_is)

