import PyProof.Rows.All
import Wide.All
import OpenK.AllK
import Wide.FinOn
import HandS.Words
import HandS.WordsList
import HandS.Defaults
import HandS.List
import PyProof.ReprRoads
import HandS.Ends
import HandS.EndBits
import HandS.ForMost
import HandS.TupMul
import HandS.Walk
import HandS.Wide
import KE.GoesEnum
import KE.KTupSum
import KE.KRevSl
import HandS.Style
import PyProof.ReprLen
import HandS.TupAny
import HandS.Zip
import HandS.TupLe
import HandS.Conv
import HandS.ForDict
import HandS.IsInst
import KE.SortData
import HandS.More
import HandS.WordsExc
import HandS.ExcIs
import HandS.TryOnly
import PySem.Challenge.RW_botheven_k01_what_is_a_web
set_option Elab.async false
set_option maxRecDepth 100000
set_option maxHeartbeats 4000000
set_option linter.all false
namespace BV
open PySem PySem.Spec PyProof.Rows L2

/-! ### defs that may write texts of data: the same promise, asked only where nothing is being written -/
def CanRun (P : Program) (w : World) (K : PySem.W.Frag) (mg : Str → Option Value) (base : Heap)
    (CX : CXT) (k : Nat) (f : Addr) (fd : FuncData) (ps : List Str) (sp : Sp) : Prop :=
  ∀ (A : Around) (outer : List Env) (s : Shared) (H : Hp) (args : Args) (us : List Value) (vs : List V) (Q : VK) (E : XK),
    A.guards = some [] → Room k A → Env0 P w K mg base A outer s H → BindsTo s fd args (ps.zip us) →
    Vals vs us → sp vs H Q E →
      codeAny (model P w) A (.call (.ref f) args) (CR CX outer P w H s Q E) s

structure FnG (P : Program) (w : World) (K : PySem.W.Frag) (mg : Str → Option Value) (base : Heap)
    (CX : CXT) (k : Nat) (f : Addr) (fd : FuncData) (ps : List Str) (sp : Sp) : Prop where
  len : ∀ vs H Q E, sp vs H Q E → vs.length = ps.length
  run : CanRun P w K mg base CX k f fd ps sp

section
variable {P : Program} {w : World} {K : PySem.W.Frag} {mg : Str → Option Value} {base : Heap} {CX : CXT}

/-- a def's body keeps its promise, the guards told -/
theorem fn_ofG {k : Nat} {f : Addr} {name qual : Str} {params : Arguments} {body : List Stmt} {scope : Scope}
    {dV kV doc pm cdv ct oc : Value} {an od : Option Addr} {osl : Array (Option Value)} {N ps : List Str} {sp : Sp}
    (lk : K.lookup f = some ⟨oc, od, .func (PySem.W.fnOf name qual params body scope dV kV doc pm an cdv ct), osl⟩)
    (hcd : PySem.W.codeIn K cdv qual = true) (S : FnScope N ps scope)
    (len : ∀ vs H Q E, sp vs H Q E → vs.length = ps.length)
    (hbody : ∀ (A : Around) (outer : List Env) (s : Shared) (H : Hp) (vs : List V) (Q : VK) (E : XK), A.guards = some [] →
      Room k (A.deeper (envOfC qual scope s.heap.objs.size f cdv)) → sp vs H Q E →
      ∃ t, PSs (cxOf CX P w K mg base N qual scope f cdv A outer s H E) body t ∧
        t { nx := fun _ H' => Q .non H', rt := Q } (start N vs) H) :
    FnG P w K mg base CX (k + 1) f (PySem.W.fnOf name qual params body scope dV kV doc pm an cdv ct) ps sp := by
  constructor
  · exact len
  · intro A outer s H args us vs Q E hgd hr e0 hb r hsp
    have hl := len _ _ _ _ hsp
    have bk : ∀ b o, base.get? b = some o → s.heap.get? b = some o := fun b o e => (e0.bs b o e).1
    have KX : K.In s.heap := e0.mod.kin.keeps bk
    have hkind : ∀ y ∈ ps.zip us, scope.names.lookup y.1 = some .local ∨
        (scope.names.lookup y.1 = some .cell ∧
          ((cellsFrom (s.heap.objs.size + 1) scope.names []).lookup y.1).isSome = true) := by
      intro y hy
      obtain ⟨n, v⟩ := y
      cases S.par n (List.of_mem_zip hy).1 with
      | inl q => exact Or.inl q
      | inr q => exact Or.inr ⟨q, PySem.W.cellsFrom_some _ _ _ (.inl q)⟩
    refine codeAny_call_function hr.depth (KX _ _ lk) rfl S.co S.gen rfl
      (PySem.W.codeRec_of KX hcd) (hb _ _ _ _ ?_)
    refine wpAny_newFunctionEnv_cells S.kind hkind fun env he s1 x => ?_
    subst he
    refine ⟨(e0.mod.nolimit.keeps bk).keeps x.toInCall.keep, codeAny_func ?_⟩
    obtain ⟨t, ht, hq⟩ := hbody A outer s H vs Q E hgd (hr.deeper _) hsp
    have I := inv_start (CX := CX) (P := P) (w := w) (K := K) (mg := mg) (base := base) (E := E) S hr.hd e0 hl r x
    refine wpAny_mono (ht.run [] s1 (start N vs) H _ I hq) (fun fl s' hs => ?_) fun e s' hs => hs
    cases fl with
    | ret u =>
      obtain ⟨v, σ', H', J, rv, q⟩ := hs
      exact ⟨v, H', J.os, J.bare, J.base, J.hok, rv, q⟩
    | next =>
      obtain ⟨σ', H', J, q⟩ := hs
      exact ⟨V.non, H', J.os, J.bare, J.base, J.hok, rfl, q⟩
    | brk => exact hs.choose_spec.choose_spec.2.elim
    | cont => exact hs.choose_spec.choose_spec.2.elim

theorem okG {x qual : Str} {st : Stmt} {f : Addr} {fd : FuncData} {N ps : List Str} {k : Nat} {sp : Sp}
    (F : Fun K x qual st f fd) (S : FnScope N ps (defScope st)) (len : ∀ vs H Q E, sp vs H Q E → vs.length = ps.length)
    (hbody : ∀ (cdv : Value) (A : Around) (outer : List Env) (s : Shared) (H : Hp) (vs : List V) (Q : VK) (E : XK),
      A.guards = some [] → Room k (A.deeper (envOfC qual (defScope st) s.heap.objs.size f cdv)) → sp vs H Q E →
      ∃ t, PSs (cxOf CX0 P w K mg base N qual (defScope st) f cdv A outer s H E).nox (defBody st) t ∧
        t { nx := fun _ H' => Q .non H', rt := Q } (start N vs) H) :
    FnG P w K mg base CX0 (k + 1) f fd ps sp := by
  obtain ⟨oc, od, kV, doc, pm, an, cdv, ct, osl, e, lk, hcd⟩ := F.ex
  subst e
  refine fn_ofG lk hcd S len fun A outer s H vs Q E hg hr hsp => ?_
  obtain ⟨t, h, q⟩ := hbody cdv A outer s H vs Q E hg hr hsp
  exact ⟨t, h.nox, q⟩

theorem FnG.of {k : Nat} {f : Addr} {fd : FuncData} {ps : List Str} {sp : Sp} (F : FnOk P w K mg base CX k f fd ps sp) :
    FnG P w K mg base CX k f fd ps sp :=
  ⟨F.len, fun A outer s H args us vs Q E _ hr => F.run A outer s H args us vs Q E hr⟩
end

section
variable {X : Cx} {CX : CXT} {k n : Nat} {f : Addr} {fd : FuncData} {ps ks : List Str} {sp : Sp} {dvs : List V} {ds : List Value}
  {E : XK} {x : Str} {p pos : Pos} {e : Expr} {es : List Expr} {t tk : TA} {kws : List Keyword}
  {g : List Value → List Value → List Value} {gV : List V → List V → List V}

/-- the way out of a callee's run -/
theorem back_of {pins : List (Addr × Obj)} {σ : L2.St} {H : Hp} {s s' : Shared} {Q : VK} {r : Result}
    (hx : Passes CX X E) (I : Inv X pins σ H s) (hq : CR CX X.stack X.prog X.w H s Q E r s') :
    match r with
    | .ok (.ret u) => EP X pins σ Q u s'
    | .ok _ => False
    | .error e => X.xe e s' := by
  cases r with
  | error e => exact hx pins σ H s e s' I hq
  | ok fl =>
    cases fl with
    | ret u => exact I.after hq
    | next => exact hq
    | brk => exact hq
    | cont => exact hq

theorem run_fnG {pins : List (Addr × Obj)} {σ : L2.St} {H : Hp} {s : Shared} {Q : VK} {us : List Value} {vs : List V}
    (F : FnG X.prog X.w X.K X.mg X.base CX k f fd ps sp) (hgd : X.A.guards = some []) (hr : Room k X.A)
    (hb : Binds X.K fd ps ds) (hd : Vals dvs ds) (hx : Passes CX X E)
    (I : Inv X pins σ H s) (r : Vals vs us) (h : sp (vs ++ dvs) H Q E) :
    wpAny (model X.prog X.w) X.A (call (.ref f) us) (EP X pins σ Q) X.xe s := by
  have r2 : Vals (vs ++ dvs) (us ++ ds) := r.append hd
  have hl : (us ++ ds).length = ps.length := by
    rw [← r2.length]
    exact F.len _ _ _ _ h
  have c := F.run X.A X.stack s H ⟨us, []⟩ (us ++ ds) (vs ++ dvs) Q E hgd hr I.env0 (hb s us I.kIn hl) r2 h
  refine wpAny_call (codeAny_mono c fun r s' hq => ?_)
  have b := back_of hx I hq
  cases r with
  | error e => exact b
  | ok fl =>
    cases fl with
    | ret u => exact b
    | next => exact b.elim
    | brk => exact b.elim
    | cont => exact b.elim

theorem pe_callG (F : FnG X.prog X.w X.K X.mg X.base CX k f fd ps sp) (hgd : X.A.guards = some []) (hr : Room k X.A)
    (hg : Gl X x) (hm : X.mg x = some (.ref f)) (hk : PySem.W.keepIn X.K (.ref f) = true)
    (hb : Binds X.K fd ps ds) (hd : Vals dvs ds) (hx : Passes CX X E) (ha : PA X (e :: es) t)
    (hdb : (x == ("__debug__" : Str)) = false := by decide)
    (he : starEach (e :: es) X.env = (false, eval e X.env) :: starEach es X.env := by rfl)
    (hpl : (backTo pos (starEach es X.env)).any (·.1) = false := by rfl) :
    PE X (.Call (.Name x p) (e :: es) [] pos) (tCall sp dvs E t) := by
  constructor
  intro pins s σ H Q I h
  refine wpAny_Call_Name_kw (ld_glob I hg hm ?_ hdb)
  refine PySem.W.callWith_K (h₀ := X.base) I.ok.mod.kin hk ?_ he hpl
  refine thn (ha.run pos pins s σ H _ I h) fun us s1 hh => ?_
  obtain ⟨vs, H1, I1, r, q⟩ := hh
  exact ⟨I1.kIn, run_fnG F hgd hr hb hd hx I1 r q⟩

/-- f(k = v, ..), keywords alone -/
def tCallK0 (m : Nat) (sp : Sp) (gV : List V → List V → List V) (E : XK) (tk : TA) : TE :=
  fun σ H Q => tk σ H fun zs H2 => zs.length = m ∧ sp (gV [] zs) H2 Q E

theorem pe_callK0 (F : FnOk X.prog X.w X.K X.mg X.base CX k f fd ps sp) (hr : Room k X.A)
    (hg : Gl X x) (hm : X.mg x = some (.ref f)) (hk : PySem.W.keepIn X.K (.ref f) = true)
    (hb : KBn X.K fd ps 0 ks g gV) (hx : Passes CX X E) (hkw : PK X kws tk)
    (hall : (backToKw pos (keywordEach kws X.env)).all (·.1.isSome) = true := by rfl)
    (hks : (backToKw pos (keywordEach kws X.env)).filterMap (·.1) = ks := by rfl)
    (hdb : (x == ("__debug__" : Str)) = false := by decide)
    (hpl : ((backTo pos (starEach [] X.env)).any (·.1) || (backToKw pos (keywordEach kws X.env)).any (·.1.isNone)) = false := by rfl) :
    PE X (.Call (.Name x p) [] kws pos) (tCallK0 ks.length sp gV E tk) := by
  constructor
  intro pins s σ H Q I h
  refine wpAny_Call_Name_kw (ld_glob I hg hm ?_ hdb)
  refine PySem.W.callWith_KW0 (h₀ := X.base) I.ok.mod.kin hk hall ?_ hpl
  refine thn (hkw.run pos pins s σ H _ I h) fun ws s2 hh => ?_
  obtain ⟨zs, H2, I2, rz, l2, q2⟩ := hh
  refine ⟨I2.kIn, ?_⟩
  rw [hks]
  exact run_fnN (us := []) (vs := []) F hr hb hx I2 .nil rz rfl l2 q2

/-! ### repr of data -/
def Show (d : PyData) : Prop := d.showable = true ∧ d.hasDict = false ∧ d.depth ≤ 40 ∧ d.shown.length ≤ sizeLine

theorem call_reprD (hgd : X.A.guards = some []) (hu : X.A.units + 64 < cLine) :
    CallR X (.builtin "repr") (fun xs H Q => ∃ (x : V) (d : PyData), xs = [x] ∧ Dp X.K H x d ∧ Show d ∧ Q (.str d.shown) H) := by
  intro pins s σ H xs us Q I r h
  obtain ⟨x, d, rfl, hd, ⟨h1, h2, h3, h4⟩, q⟩ := h
  cases r with
  | cons r0 rr =>
    cases rr
    rename_i v
    obtain ⟨as, rd⟩ := Dp.reads I d x v hd r0
    cases rd with
    | list a b c dd =>
      refine repr_of_reads' (.list a b c dd) h1 (PyData.noDict_hsm h2) hgd (by omega) (fun _ _ e => e) (fun h' u tk hk => ?_) h4
      exact ⟨.str _, H, I.kept (t' := tk) hk, ⟨u, rfl⟩, q⟩
    | tuple a b c dd =>
      refine repr_of_reads' (.tuple a b c dd) h1 (PyData.noDict_hsm h2) hgd (by omega) (fun _ _ e => e) (fun h' u tk hk => ?_) h4
      exact ⟨.str _, H, I.kept (t' := tk) hk, ⟨u, rfl⟩, q⟩
    | int i t =>
      refine PySem.P.repr_of_int (by simpa [PyData.showable] using h1) ⟨.str _, H, I.tok _, ⟨_, rfl⟩, ?_⟩
      simpa only [PyData.shown] using q
    | none =>
      refine PySem.P.repr_of_none ⟨.str _, H, I.tok _, ⟨_, rfl⟩, ?_⟩
      simpa only [PyData.shown] using q
    | bool b =>
      refine PySem.P.repr_of_bool ⟨.str _, H, I.tok _, ⟨_, rfl⟩, ?_⟩
      simpa only [PyData.shown] using q
    | str z t =>
      refine PySem.P.repr_of_str ⟨.str _, H, I.tok _, ⟨_, rfl⟩, ?_⟩ (by simpa only [PyData.shown] using h4)
      simpa only [PyData.shown] using q
    | dict a b c dd ee => simp [PyData.hasDict] at h2
end
end BV

namespace BV
open PySem PySem.Spec PyProof.Rows L2

/-- the heap at the law's entry: the script alone is tracked, unless the module wrote it -/
def entryHp (K : PySem.W.Frag) (a : Addr) (vs : List Value) (ns : List Int) : Hp := fun b =>
  if b = a ∧ K.lookup a = none then some (.frz { cls := .type "list", data := .seq vs.toArray } (.lst (ns.map V.int))) else none

section
variable {P : Program} {w : World} {K : PySem.W.Frag} {mg mb : Str → Option Value} {CX : CXT} {k : Nat} {fa a : Addr} {fd : FuncData}
  {x : Str} {sp : Sp} {s₁ : Shared} {vs : List Value} {ns : List Int}

theorem entry_none {b : Addr} (h : ¬ (b = a ∧ K.lookup a = none)) : entryHp K a vs ns b = none := if_neg h
theorem entry_some (h : K.lookup a = none) : entryHp K a vs ns a =
    some (.frz { cls := .type "list", data := .seq vs.toArray } (.lst (ns.map V.int))) := if_pos ⟨rfl, h⟩
theorem entry_only : Only (entryHp K a vs ns) := fun b => by
  by_cases h : b = a ∧ K.lookup a = none
  · exact .inr ⟨_, _, if_pos h⟩
  · exact .inl (if_neg h)

theorem law_callG (KX : K.In s₁.heap) (hns : s₁.heap.Ns mainGlobals mg) (hb : s₁.heap.Ns builtinsNs mb)
    (hbb : ∀ x : Str, x ≠ "__name__" → mb x = bootBuiltins x) (hlim : s₁.heap.NoLimit) (hg : s₁.gens = #[])
    (ha : s₁.heap.get? a = some { cls := .type "list", data := .seq vs.toArray })
    (hi : IntsAre vs ns) (hl : ns.length ≤ sizeLine) (hr : Room k callerA)
    (F : ∀ base : Heap, K.In base → base.Ns mainGlobals mg → FnG P w K mg base CX k fa fd [x] sp)
    (hbind : ∀ (s : Shared) (u : Value), BindsTo s fd ⟨[u], []⟩ [(x, u)])
    (hsp : ∀ H : Hp, Only H → SqL K H a (ns.map V.int) → sp [.ref a] H (fun v _ => v = .bl true) fun _ _ _ => False)
    (hCX : ∀ H e s', CX [] H s₁ (fun _ _ _ => False) e s' → False) :
    codeAny (model P w) callerA (.call (.ref fa) ⟨[.ref a], []⟩)
      (fun r s' => r = .ok (.ret (.bool true)) ∧ OldK s₁.heap s'.heap ∧ s'.os = s₁.os ∧ AllBare s'.gens) s₁ := by
  have rv := vals_ints hi
  let H := entryHp K a vs ns
  have hO : Only H := entry_only
  have hS : SqL K H a (ns.map V.int) := by
    cases hk : K.lookup a with
    | none => exact .inl (.inr ⟨_, entry_some hk⟩)
    | some o =>
      have e := KX a o hk
      rw [ha] at e
      cases e
      refine .inr ⟨_, vs.toArray, _, hk, rfl, rfl, rfl, ?_, by simpa using rv⟩
      rw [List.size_toArray, hi.length]
      exact hl
  have hok : HOk P w H s₁.heap := by
    intro b u e
    by_cases h : b = a ∧ K.lookup a = none
    · have e2 := (if_pos h).symm.trans e
      cases e2
      obtain ⟨rfl, _⟩ := h
      exact ⟨ha, by rw [List.length_map]; exact hl, vs, _, rv, ha⟩
    · cases (entry_none h).symm.trans e
  have at_a : ∀ b, H b ≠ none → b = a ∧ K.lookup a = none := fun b h => by
    by_cases h2 : b = a ∧ K.lookup a = none
    · exact h2
    · exact absurd (entry_none h2) h
  have away : ∀ {b : Addr} {o : Obj}, s₁.heap.get? b = some o → (b = a → K.lookup a = none → False) → (hidT s₁.heap H).get? b = some o :=
    fun {b o} e n => hidT_get e (entry_none fun z => n z.1 z.2)
  have nsK : ∀ {b : Addr} {m : Str → Option Value}, s₁.heap.Ns b m → (hidT s₁.heap H).Ns b m := by
    intro b m h
    obtain ⟨o, es, ep, e, d, r⟩ := h
    refine ⟨o, es, ep, away e fun z _ => ?_, d, r⟩
    subst z
    rw [ha] at e
    cases e
    cases d
  have hKb : K.In (hidT s₁.heap H) := fun b o e => away (KX b o e) fun z n => by
    subst z
    rw [n] at e
    cases e
  obtain ⟨mc, l1, l2⟩ := hlim
  have hM : Mod K mg (hidT s₁.heap H) := ⟨hKb, nsK hns, ⟨mb, nsK hb, hbb⟩, ⟨mc, nsK l1, l2⟩⟩
  have e0 : Env0 P w K mg (hidT s₁.heap H) callerA [] s₁ H :=
    { frames := rfl, mod := hM, bs := fun b o e => of_hidT e, bsz := Nat.le_of_eq (hidT_size _ _), funs := trivial,
      frf := fun b hb => absurd (show b ∈ ([] : List Addr) from hb) (by simp), hok := hok, bare := .of_eq hg }
  have go := (F _ hKb (nsK hns)).run callerA [] s₁ H ⟨[.ref a], []⟩ [.ref a] [.ref a] _ _ rfl hr e0
    (hbind s₁ (.ref a)) (.cons rfl .nil) (hsp H hO hS)
  refine codeAny_mono go fun r s' h => ?_
  cases r with
  | error e => exact (hCX H e s' h).elim
  | ok fl =>
    cases fl with
    | next => exact h.elim
    | brk => exact h.elim
    | cont => exact h.elim
    | ret u =>
      obtain ⟨v, H', os, bare, un, hok', r', q⟩ := h
      have q' : v = .bl true := q
      subst q'
      obtain rfl : u = Value.bool true := r'
      refine ⟨rfl, OldK.of_keep fun b o e => ?_, os, bare⟩
      cases hq : H b with
      | none => exact un.keep b o e hq (fun z => absurd (show b ∈ ([] : List Addr) from z) (by simp)) (by simp)
      | some u =>
        rcases hO b with z | ⟨ob, xs, z⟩
        · rw [hq] at z
          cases z
        · obtain ⟨e1, _⟩ := hok b _ z
          obtain ⟨e2, _⟩ := hok' b _ (un.frzs b ob _ z)
          rw [e] at e1
          cases e1
          exact e2
end

theorem walk_ofG {l : PySem.W.OpenLaw} {n k : Nat} {q : Program} {loose : List Str} {XP : (Str → Option Value) → Heap → Prop}
    {YP : World → Heap → Prop} {d : DefRec} {K : Params → PySem.W.Frag} {CX : CXT} {sp : PySem.W.Frag → Sp} {x : Str}
    (hn : l.most = some n) (hn2 : n ≤ sizeLine) (hdf : d.params.defaults = []) (hr : Room k callerA)
    (hY : ∀ (w : World) (h : Heap), YP w h → (K w.params).In h)
    (F : ∀ (w : World) (mg : Str → Option Value) (fa : Addr) (h : Heap), (K w.params).In h → h.Ns mainGlobals mg → mg d.name = some (.ref fa) →
      ∃ fd : FuncData, (∀ (s : Shared) (u : Value), BindsTo s fd ⟨[u], []⟩ [(x, u)]) ∧
        ∀ base : Heap, (K w.params).In base → base.Ns mainGlobals mg →
          FnG l.prog w (K w.params) mg base CX k fa fd [x] (sp (K w.params)))
    (hsp : ∀ (K : PySem.W.Frag) (H : Hp) (a : Addr) (ns : List Int), ns.length ≤ n → (∀ z ∈ ns, Builtin.Int.intBits z ≤ 1048576) →
      Only H → SqL K H a (ns.map V.int) → sp K [.ref a] H (fun v _ => v = .bl true) fun _ _ _ => False)
    (hCX : ∀ (H : Hp) (s : Shared) (e : Value) (s' : Shared), CX [] H s (fun _ _ _ => False) e s' → False) :
    PySem.W.WalkO q loose XP YP l.row.toRowW d [] (fun f vs => PySem.call f vs) := by
  refine Att.attach_callB hn hdf fun w s₀ s₁ mg mb fa o pm cd doc a vs ns G Y ho hd hcd hmg hobj hints hlen hbits hg => ?_
  have KX := hY w _ Y
  obtain ⟨fd, hb, hF⟩ := F w mg fa _ KX G.T.g hmg
  refine law_callG KX G.T.g G.T.b G.T.builtins G.T.nolimit hg hobj hints (Nat.le_trans hlen hn2) hr hF hb ?_ ?_
  · exact fun H hO hS => hsp (K w.params) H a ns hlen hbits hO hS
  · exact fun H e s' => hCX H s₁ e s'
end BV

namespace BV
open PySem PySem.Spec PyProof.Rows L2
open AutoSeq1 (wpAny_loadPart')

/-! ### enumerate(tuple) -/
theorem meets_enumT (l : Addr) (items : Array Value) (n : Nat) (dct : Option Addr) (sl : Array (Option Value)) :
    Meets (Builtin.«enumerate.__new__» ⟨[.type "enumerate", .ref l], []⟩)
      (fun _ R s => s.heap.get? l = some { cls := .type "tuple", dict := dct, data := .seq items n, slots := sl } ∧
        R (.ok (.ret (.ref (s.heap.push { cls := .type "tuple_iterator", data := .fields #[.ref l, .int 0 0] }).objs.size)))
          { s with heap := ((s.heap.push { cls := .type "tuple_iterator", data := .fields #[.ref l, .int 0 0] }).push
              ({ cls := .type "enumerate", data := .fields #[.none, .bool false, .ref s.heap.objs.size, rawInt 0, .none, .none] } : Obj)) }) := by
  refine .of_wp fun prog w A R s h => ?_
  obtain ⟨hp, g, d, tk, os⟩ := s
  obtain ⟨hl, h⟩ := h
  have hsub := sub_enumerate
  have hL : Heap.IsTuple (Shared.heap ⟨hp, g, d, tk, os⟩) l items := ⟨_, hl, rfl, n, rfl⟩
  wp_walk using wpAny_loadPart' hl
  refine wpAny_stack_any fun st => wpAny_pure ?_
  split
  · rename_i c _ _ _ _ _
    cases (c == Value.type "enumerate") <;>
    · wp_walk using wpAny_loadPart' hl, wpAny_pyIter_tuple hL
      exact ⟨_, rfl, h⟩
  · wp_walk using wpAny_loadPart' hl, wpAny_pyIter_tuple hL
    exact ⟨_, rfl, h⟩

theorem call_enumT {prog : Program} {w : World} {A : Around} {E : Value → Shared → Prop} {s : Shared} {l : Addr} {items : Array Value}
    {Q : Value → Shared → Prop} (hL : s.heap.IsTuple l items)
    (h : ∀ h', IsEnum h' (s.heap.objs.size + 1) s.heap.objs.size 0 .none → h'.IsTupleIter s.heap.objs.size l 0 →
      (∀ b o, s.heap.get? b = some o → h'.get? b = some o) → Q (.ref (s.heap.objs.size + 1)) { s with heap := h' }) :
    wpAny (model prog w) A (call (.type "enumerate") [.ref l]) Q E s := by
  obtain ⟨⟨c, dct, dt, sl⟩, hl, hc, n, hd⟩ := hL
  obtain rfl : c = .type "tuple" := hc
  obtain rfl : dt = .seq items n := hd
  refine callType_new F.called_enumerate (by decide) (F.typeCall_enumerate_1 _) (F.newCall_enumerate_1 _)
    (fun obj => F.args_object_init_2 obj _) F.entry_enumerate_new (meets_enumT l items n dct sl) ⟨hl, ?_⟩
  have hz : (s.heap.push { cls := .type "tuple_iterator", data := .fields #[.ref l, .int 0 0] }).objs.size = s.heap.objs.size + 1 := Heap.size_push ..
  show _ ∧ _
  rw [hz]
  have he : IsEnum ((s.heap.push { cls := .type "tuple_iterator", data := .fields #[.ref l, .int 0 0] }).push
      { cls := .type "enumerate", data := .fields #[.none, .bool false, .ref s.heap.objs.size, rawInt 0, .none, .none] })
      (s.heap.objs.size + 1) s.heap.objs.size 0 .none := by
    have q := Heap.get?_push_size (s.heap.push { cls := .type "tuple_iterator", data := .fields #[.ref l, .int 0 0] })
      (o := { cls := .type "enumerate", data := .fields #[.none, .bool false, .ref s.heap.objs.size, rawInt 0, .none, .none] }) rfl
    rw [hz] at q
    exact q
  refine ⟨⟨_, he, rfl⟩, h _ he ⟨_, Heap.get?_push_of_some _ (Heap.get?_push_size _ rfl), rfl, rfl⟩ ?_⟩
  exact fun b o x => Heap.get?_push_of_some _ (Heap.get?_push_of_some _ x)

/-- the tuple at a, each item in a new pair -/
def ItE (K : PySem.W.Frag) (a : Addr) (xs : List V) : It :=
  ⟨fun i H => SqT K H a xs ∧ i < xs.length,
   fun i H v H' => ∃ T x, v = .ref T ∧ H T = none ∧ H' = upd H T (.tup [.int (i : Nat), x]) ∧ xs[i]? = some x,
   fun i H => SqT K H a xs ∧ i = xs.length⟩

theorem turn_enumT {P : Program} {w : World} {K : PySem.W.Frag} {elts : List Expr} {kk : Nat} {tpos : Pos} (a e it : Addr) (xs : List V)
    (hae : a ≠ it) :
    Turn P w K (.Tuple elts kk tpos) (ItE K a xs) [e, it] e
      (fun i h => (∃ old, IsEnum h e it ((i : Nat) : Int) old) ∧ h.IsTupleIter it a i ∧ e ≠ it ∧ e ≠ a) where
  mem := by simp
  obj := by
    intro i h st b hb
    obtain ⟨⟨old, he⟩, ⟨o, ho, hc, hd⟩, _⟩ := st
    rcases (show b = e ∨ b = it by simpa using hb) with rfl | rfl
    · exact ⟨_, he, fun v q => nomatch q⟩
    · exact ⟨o, ho, fun v q => by rw [hd] at q; cases q⟩
  keep := by
    intro i h h' st k
    obtain ⟨⟨old, he⟩, hi, h1, h2⟩ := st
    exact ⟨⟨old, k e (by simp) _ he⟩, hi.at fun o q => k it (by simp) o q, h1, h2⟩
  item := by
    intro X hP hw hK hc i pins s σ H E I hf st hg
    subst hP hw hK
    obtain ⟨⟨old, he⟩, hit, hne, hea⟩ := st
    obtain ⟨hq, hlt⟩ := hg
    obtain ⟨its, rv, p, hz⟩ := I.tuple hq
    have htu : s.heap.IsTuple a its.toArray := p
    have hlen := rv.length
    have hel : e < s.heap.objs.size := Heap.lt_size he
    have hil : it < s.heap.objs.size := by
      obtain ⟨_, q, _⟩ := hit
      exact Heap.lt_size q
    have D := Draws.tuple (prog := X.prog) (w := X.w) (A := X.A.in1) (I.ok.hd hc) it a hae its.toArray
    have hlt2 : i < its.toArray.size := by rw [List.size_toArray]; omega
    refine wpAny_pyNext_enum_itemD D he ⟨hit, htu⟩ hlt2 hne (by simp [hne, hea]) ?_
    intro u h' tk hu ho hit' hT hsz hk
    refine ⟨_, rfl, wpAny_letOwnedTupleGo_enum (s := { s with heap := h', toks := tk + 1 }) ho fun h'' he' sb => ?_⟩
    have hx : xs[i]? = some xs[i] := by simp [hlt]
    obtain ⟨u', hu', ru⟩ := rv.get hx
    have eu : u' = u := by
      have := hu
      simp only [List.getElem?_toArray] at this
      rw [hu'] at this
      exact Option.some.inj this
    subst eu
    have hT2 : h''.get? s.heap.objs.size = some { cls := .type "tuple", data := .seq #[.int i tk, u'] } := (sb.2 _ (Nat.ne_of_gt hel)).trans hT
    have new : ObjOk X.prog X.w (upd H s.heap.objs.size (.tup [.int (i : Nat), xs[i]])) h'' s.heap.objs.size (.tup [.int (i : Nat), xs[i]]) :=
      ⟨by show 2 ≤ sizeLine; decide, [.int i tk, u'], .cons ⟨_, rfl⟩ (.cons ru .nil), ⟨_, hT2, rfl, _, rfl⟩⟩
    have kk : ∀ b o, b ∉ [e, it] → s.heap.get? b = some o → h''.get? b = some o := by
      intro b ob hb q
      have b1 : b ≠ e := fun z => hb (by simp [z])
      have b2 : b ≠ it := fun z => hb (by simp [z])
      exact (sb.2 b b1).trans (hk b ob b1 b2 q)
    have I1 : Inv X pins σ (upd H s.heap.objs.size (.tup [.int (i : Nat), xs[i]])) { s with heap := h'', toks := tk + 1 } :=
      I.turnedNew (ch := [e, it]) kk hf (Nat.le_refl _) new
    refine ⟨.ref s.heap.objs.size, _, I1, rfl, ⟨_, xs[i], rfl, I.hok.fresh (Nat.le_refl _), rfl, hx⟩,
      ⟨⟨u', ?_⟩, hit'.1.at fun o q => (sb.2 it (Ne.symm hne)).trans q, hne, hea⟩, fun b hb => ?_⟩
    · have e1 : ((i + 1 : Nat) : Int) = (i : Int) + 1 := by omega
      rw [e1]
      exact he'
    · have hb' : b < s.heap.objs.size := by
        rcases (show b = e ∨ b = it by simpa using hb) with rfl | rfl
        · exact hel
        · exact hil
      rw [upd_ne (Nat.ne_of_lt hb')]
      exact (hf b hb).1
  done := by
    intro X hP hw hK hc i pins s σ H E I hf st hg
    subst hP hw hK
    obtain ⟨⟨old, he⟩, hit, hne, hea⟩ := st
    obtain ⟨hq, hlt⟩ := hg
    obtain ⟨its, rv, p, hz⟩ := I.tuple hq
    have htu : s.heap.IsTuple a its.toArray := p
    have hlen := rv.length
    obtain ⟨f0, f1, f2, f3, f4, f5⟩ := hf it (by simp)
    have D := Draws.tuple (prog := X.prog) (w := X.w) (A := X.A.in1) (I.ok.hd hc) it a hae its.toArray
    have e3 : its.toArray.size = i := by rw [List.size_toArray]; omega
    rw [e3] at D
    refine wpAny_pyNext_enum_endD D he ⟨hit, htu⟩ fun h' eb => ⟨rfl, ?_⟩
    exact I.turned (t' := s.toks) (fun b o hb q => eb b o hb q) f0 f1 f3 f4 f5
  self := fun A i s Q E st h => let ⟨⟨_, he⟩, _⟩ := st; wpAny_pyIter_enum he h

def iEnumT (K : PySem.W.Frag) (ta : TA) : TI := fun σ H R => ta σ H fun vs H1 => ∃ a xs, vs = [.ref a] ∧ SqT K H1 a xs ∧ R (ItE K a xs) H1
theorem pi_enumT {X : Cx} {e : Expr} {ta : TA} {p pos tpos : Pos} {elts : List Expr} {kk : Nat} (hg : Gl X "enumerate") (hm : X.mg "enumerate" = none)
    (ha : PA X [e] ta) (hs : starEach [e] X.env = [(false, eval e X.env)] := by rfl) :
    PI X (.Tuple elts kk tpos) (.Call (.Name "enumerate" p) [e] [] pos) (iEnumT X.K ta) := by
  constructor
  intro pins s σ H R I h
  refine Call_ (ld_blt I hg hm boot_enumerate (PyProof.Rows.callWith_type1 (thn (ha.run pos pins s σ H _ I h) fun us s1 hh => ?_) hs rfl))
  obtain ⟨vs, H1, I1, r1, a, xs, ex, hq, q⟩ := hh
  subst ex
  cases r1 with
  | cons r rr =>
    cases rr
    cases r
    obtain ⟨its, rv, p', hz⟩ := I1.tuple hq
    have htu : s1.heap.IsTuple a its.toArray := p'
    have hlt : a < s1.heap.objs.size := by
      obtain ⟨o, ho, _⟩ := htu
      exact Heap.lt_size ho
    refine call_enumT htu fun h' he hit hk => wpAny_pyIter_enum he ?_
    have I2 : Inv X pins σ H1 { s1 with heap := h' } := I1.kept (t' := s1.toks) hk
    refine ⟨s1.heap.objs.size + 1, [s1.heap.objs.size + 1, s1.heap.objs.size], _, _, H1, rfl, I2,
      turn_enumT a (s1.heap.objs.size + 1) s1.heap.objs.size xs (Nat.ne_of_lt hlt),
      ⟨⟨.none, he⟩, hit, Nat.succ_ne_self _, Nat.ne_of_gt (Nat.lt_succ_of_lt hlt)⟩, fun b hb => ?_, q⟩
    have hle : s1.heap.objs.size ≤ b := by
      rcases (show b = s1.heap.objs.size + 1 ∨ b = s1.heap.objs.size by simpa using hb) with z | z
      · rw [z]; exact Nat.le_add_right _ _
      · rw [z]; exact Nat.le_refl _
    exact I1.fpOk hle (I1.hok.fresh hle)
theorem walk_enumT {K : PySem.W.Frag} {a : Addr} {xs : List V} :
    Walk (ItE K a xs) xs.length (fun H => SqT K H a xs) (YPair (fun i => some (.int (i : Nat))) (fun i => xs[i]?)) := by
  refine ⟨fun i H hi q => ⟨q, hi⟩, fun H q => ⟨q, rfl⟩, fun i H v H' _ q y => ?_⟩
  obtain ⟨T, x, h1, h2, h3, h4⟩ := y
  exact ⟨T, .int (i : Nat), x, h1, h2, h3, rfl, h4⟩

/-! ### sum of a tuple of ints -/
theorem cr_sumT {X : Cx} (hc : X.calm = true) : CallR X (.builtin "sum")
    (fun vs H Q => ∃ (a : Addr) (ns : List Int), vs = [V.ref a] ∧ SqT X.K H a (ns.map V.int) ∧ Q (.int ns.sum) H) := by
  intro pins s σ H vs us Q I r h
  obtain ⟨a, ns, rfl, hs, q⟩ := h
  obtain ⟨its, rv, hl, _⟩ := I.tuple hs
  rw [Vals.ref1 r]
  have hi := rv.ints
  obtain ⟨xs, e⟩ := hi.allInts.items
  have hn : numsOf (intItems xs).toList = ns := by rw [← e]; exact hi.numsOf
  rw [nums_intItems] at hn
  have hl2 : s.heap.IsTuple a its.toArray := hl
  rw [e] at hl2
  refine PySem.W.ktm_sumG (I.ok.hd hc) hl2 fun h' tk t' hk => ?_
  rw [preSum_eq, List.take_of_length_le (by simp), hn]
  exact ⟨.int _, H, I.kept hk, ⟨_, rfl⟩, q⟩
end BV

namespace BV
open PySem PySem.Spec PyProof.Rows L2

/-! ### xs[i] of a list, by values, for xs[i] op= e -/
def rGetL (K : PySem.W.Frag) : V → V → Hp → VK → Prop := fun x y H Q => ∃ p xs j z,
  x = .ref p ∧ y = .int ((j : Nat) : Int) ∧ SqL K H p xs ∧ xs[j]? = some z ∧ Q z H
theorem get_list {X : Cx} : PGet X (rGetL X.K) := by
  intro pins s σ H x y v u Q I rx ry h
  obtain ⟨p, xs, j, z, rfl, rfl, hq, he, q⟩ := h
  cases rx
  obtain ⟨t, rfl⟩ := ry
  obtain ⟨its, r, pl, hz⟩ := I.list hq
  obtain ⟨w, ew, rw'⟩ := r.get he
  have hl := r.length
  have hn := line63
  have hj : j < xs.length := (List.getElem?_eq_some_iff.mp he).1
  refine wpAny_getItem_list pl.isList (by omega) (by omega) (by simpa using ew) ?_
  exact ⟨z, H, I, rw', q⟩

/-! ### t[::-1] of a tuple -/
theorem applied_rev {prog : Program} {w : World} {A : Around} {E : Value → Shared → Prop} {s : Shared} {sl : Addr} {vs : Value} {n : Nat}
    {Q : Int × Int × Nat → Shared → Prop} (hs : s.heap.IsSliceOf sl .none .none vs) (ps : IsPart vs (some (-1)))
    (h : Q ((n : Int) - 1, -1, n) s) : wpAny (model prog w) A (Builtin.Slice.sliceApplied (.ref sl) (pure (n : Int))) Q E s := by
  obtain ⟨os, hos, hcs, hds⟩ := id hs
  unfold Builtin.Slice.sliceApplied Builtin.Slice.sliceFields
  refine wpAny_bind (wpAny_bind (wpAny_field hos hds (x := .none) rfl ?_))
  refine wpAny_bind (wpAny_field hos hds (x := .none) rfl ?_)
  refine wpAny_bind (wpAny_field hos hds (x := vs) rfl (wpAny_pure ?_))
  refine wpAny_bind (HT.slicePart_ ps ?_)
  show wpAny _ _ (if ((-1 : Int) == 0) = true then _ else _) _ _ s
  rw [if_neg (by decide)]
  refine wpAny_bind (HT.slicePart_ .none (wpAny_bind (HT.slicePart_ .none (wpAny_bind (wpAny_pure ?_)))))
  have e1 : Builtin.Slice.sliceAdjust none none (-1) (n : Int) = ((n : Int) - 1, -1) := by
    unfold Builtin.Slice.sliceAdjust
    simp
  have e2 : Builtin.Slice.slicePlaces ((n : Int) - 1) (-1) (-1) = n := by
    unfold Builtin.Slice.slicePlaces
    simp
    try omega
  show wpAny _ _ (match Builtin.Slice.sliceAdjust none none (-1) (n : Int) with
    | (lo, hi) => pure (lo, (-1 : Int), Builtin.Slice.slicePlaces lo hi (-1))) _ _ s
  rw [e1]
  show wpAny _ _ (pure ((n : Int) - 1, (-1 : Int), Builtin.Slice.slicePlaces ((n : Int) - 1) (-1) (-1))) _ _ s
  rw [e2]
  exact wpAny_pure h

theorem getItem_rev {prog : Program} {w : World} {A : Around} {E : Value → Shared → Prop} {s : Shared} {t sl : Addr} {items : Array Value} {vs : Value}
    {Q : Value → Shared → Prop} (ht : IsTup s.heap t items) (hs : s.heap.IsSliceOf sl .none .none vs) (ps : IsPart vs (some (-1)))
    (h : Q (.ref s.heap.objs.size) { s with heap := s.heap.push { cls := .type "tuple", data := .seq items.toList.reverse.toArray } })
    (hsz : items.size ≤ sizeLine) : wpAny (model prog w) A (getItem (.ref t) (.ref sl)) Q E s := by
  have hsize : sizeOk (.seq items.toList.reverse.toArray) := by
    show items.toList.reverse.toArray.size ≤ sizeLine
    rw [List.size_toArray, List.length_reverse, Array.length_toList]
    exact hsz
  obtain ⟨os, hos, hcs, hds⟩ := id hs
  have hTs : s.TypeIs (.ref sl) "slice" := ⟨os, hos, hcs⟩
  unfold getItem
  try with_reducible refine wpAny_holding ?_
  first | refine wpAny_bind (wpAny_pure ?_) | skip
  refine wpAny_bind (wpAny_sequenceKey ht.typeIs (by decide) ?_)
  refine wpAny_bind (wpAny_callSpecial?_slot (name := Str.ofString "__getitem__") ht.typeIs PyProof.Rows.slot_tuple_getitem ?_)
  refine wpAny_call_entry PyProof.Rows.slot_tuple_getitem ht.typeIs entry_tuple_getitem ?_ (args_tuple_getitem _ _)
  show wpAny _ _ (Builtin.Tuple.tupleItemsOf (.ref t) >>= _) _ _ s
  refine wpAny_bind (tupleItemsOf_ ht ?_)
  refine wpAny_bind (wpAny_typeOf hTs ?_)
  rw [if_pos (by decide)]
  refine wpAny_bind (applied_rev hs ps ?_)
  have hno : ¬ ((((items.size : Int) - 1) == 0 && (-1 : Int) == 1 && items.size == items.size) = true) := by
    intro q
    rw [Bool.and_eq_true, Bool.and_eq_true] at q
    exact absurd (eq_of_beq q.1.2) (by decide)
  have pick : ((List.range items.size).filterMap fun (k : Nat) => items[(((items.size : Int) - 1) + (k : Int) * (-1)).toNat]?) = items.toList.reverse := by
    have e1 : (fun (k : Nat) => items[(((items.size : Int) - 1) + (k : Int) * (-1)).toNat]?) = fun k => (fun j => items[j]?) ((items.size - 1) - k) := by
      funext k
      have : (((items.size : Int) - 1) + (k : Int) * (-1)).toNat = (items.size - 1) - k := by omega
      rw [this]
    rw [e1]
    have e2 := PySem.W.krv_all items
    have e3 := PySem.W.krv_range items.size
    have e4 : (List.range items.size).filterMap (fun k => (fun j => items[j]?) ((items.size - 1) - k)) =
        ((List.range items.size).map fun k => items.size - 1 - k).filterMap (fun j => items[j]?) := by
      rw [List.filterMap_map]
      rfl
    rw [e4, e3, List.filterMap_reverse, e2]
  show wpAny _ _ (if (((items.size : Int) - 1) == 0 && (-1 : Int) == 1 && items.size == items.size) = true then _ else _) _ _ s
  rw [if_neg hno, pick]
  first
    | exact wpAny_bind (m := Builtin.Tuple.tupleExact _) (wpAny_newObj_type (wpAny_pure ⟨_, rfl, wpAny_pure h⟩) hsize)
    | exact wpAny_bind (m := Builtin.Tuple.tupleExact _) (wpAny_newObj_type (wpAny_bind (wpAny_pure (wpAny_pure ⟨_, rfl, wpAny_pure h⟩))) hsize)
    | exact wpAny_bind (wpAny_bind (m := Builtin.Tuple.tupleExact _) (wpAny_newObj_type (wpAny_pure (wpAny_pure ⟨_, rfl, wpAny_pure h⟩)) hsize))
    | exact wpAny_bind (wpAny_bind (m := Builtin.Tuple.tupleExact _) (wpAny_newObj_type (wpAny_pure ⟨_, rfl, wpAny_pure h⟩) hsize))

/-- t[::-1] -/
def tRevT (K : PySem.W.Frag) (te : TE) : TE := fun σ H Q => te σ H fun x H1 => ∃ a xs, x = .ref a ∧ SqT K H1 a xs ∧
  ∀ p, H1 p = none → Q (.ref p) (upd H1 p (.tup xs.reverse))
theorem pe_revT {X : Cx} {e : Expr} {te : TE} {k : Nat} {p1 p2 p3 pos : Pos} (he : PE X e te) :
    PE X (.Subscript e (.Slice none none (some (.UnaryOp .USub (.Constant (.int 1) k p1) p2)) p3) pos) (tRevT X.K te) := by
  constructor
  intro pins s σ H Q I h
  refine Subscript_ (thn (he.run pins s σ H _ I h) fun v s1 hh => ?_)
  obtain ⟨x, H1, I1, r1, a, xs, ex, hx, q⟩ := hh
  subst ex
  cases r1
  have hst : PO X (some (.UnaryOp .USub (.Constant (.int 1) k p1) p2)) (tPart (tUn (rU fun i => .int (-i)) (tC (.int 1)))) :=
    po_some (pe_un un_neg pe_int)
  refine wpAny_Slice ?_
  rw [evalPart_none]
  refine wpAny_pure (wpAny_pure ?_)
  refine thn (hst.run pins s1 σ H1 (fun o H4 => o = some (-1) ∧ H4 = H1) I1 ⟨1, rfl, -1, rfl, rfl, rfl⟩) fun vs s4 h4 => ?_
  obtain ⟨o, H4, I4, ps, eo, e4⟩ := h4
  subst eo e4
  have I5 : Inv X pins σ H4 { s4 with heap := s4.heap.push { cls := .type "slice", data := .fields #[.none, .none, vs] } } :=
    I4.kept (t' := s4.toks) fun b ob q => Heap.get?_push_of_some _ q
  obtain ⟨its, r, ht, hz⟩ := I5.tuple hx
  have hlen := r.length
  refine tail_any (T := "tuple") (ops := [.ref a, .ref s4.heap.objs.size]) ht.typeIs (PyProof.Rows.slot_tuple_getitem.lookup) ?_ (by with_unfolding_all rfl)
  refine getItem_rev ht (Heap.IsSliceOf.new _ .none .none vs) ps ?_ (by rw [List.size_toArray]; omega)
  refine ⟨.ref _, _, I5.laid (t' := s4.toks) (o := .tup xs.reverse) (fun b ob q => Heap.get?_push_of_some _ q) (Nat.le_refl _) ?_, rfl, q _ (I5.hok.fresh (Nat.le_refl _))⟩
  exact ⟨by rw [List.length_reverse]; exact hz, _, r.reverse, IsTup.new _ _⟩
end BV

namespace BV
open PySem L2

/-! ### a def of the text, by its name -/
structure Df (K : PySem.W.Frag) (mg : Str → Option Value) (x : String) (st : Stmt) (ps : List Str) (f : Addr) (fd : FuncData) : Prop where
  fn : Fun K (Str.ofString x) (Str.ofString x) st f fd
  ad : mg (Str.ofString x) = some (.ref f)
  bd : L2.Binds K fd ps []

/-- the built-in names that the text uses are not its own -/
structure Bl (mg : Str → Option Value) : Prop where
  int : mg "int" = none
  abs : mg "abs" = none
  len : mg "len" = none
  range : mg "range" = none
  enumerate : mg "enumerate" = none
  tuple : mg "tuple" = none
  min : mg "min" = none
  max : mg "max" = none
  sum : mg "sum" = none
  repr : mg "repr" = none

/-! ### heaps -/
theorem same_new {H : Hp} {p : Addr} {o : HO} (h : H p = none) : Same H (upd H p o) := fun b x e => by
  rw [upd_ne (ne_of_none e h)]
  exact e
/-- all but b and g as it was -/
def Kp (b g : Addr) (H H' : Hp) : Prop := ∀ a o, H a = some o → a ≠ b → a ≠ g → H' a = some o
theorem Kp.refl {b g : Addr} (H : Hp) : Kp b g H H := fun _ _ h _ _ => h
theorem Kp.trans {b g : Addr} {H H1 H2 : Hp} (x : Kp b g H H1) (y : Kp b g H1 H2) : Kp b g H H2 :=
  fun a o h n1 n2 => y a o (x a o h n1 n2) n1 n2
theorem Kp.same {b g : Addr} {H H' : Hp} (x : Same H H') : Kp b g H H' := fun a o h _ _ => x a o h
theorem Kp.setb {b g : Addr} {H : Hp} {o : HO} : Kp b g H (upd H b o) := fun a x h n _ => by
  rw [upd_ne n]
  exact h
theorem Kp.setg {b g : Addr} {H : Hp} {o : HO} : Kp b g H (upd H g o) := fun a x h _ n => by
  rw [upd_ne n]
  exact h
theorem Kp.new {b g p : Addr} {H : Hp} {o : HO} (h : H p = none) : Kp b g H (upd H p o) := Kp.same (same_new h)

/-! ### comprehensions that change nothing -/
def era (H : Hp) (D : Addr) : Hp := fun a => if a = D then none else H a
theorem era_at {H : Hp} {D : Addr} : era H D D = none := if_pos rfl
theorem era_ne {H : Hp} {D a : Addr} (h : a ≠ D) : era H D a = H a := if_neg h
theorem era_back {H : Hp} {D : Addr} : Same (era H D) H := fun a o e => by
  by_cases h : a = D
  · subst h
    rw [era_at] at e
    cases e
  · rw [era_ne h] at e
    exact e
theorem era_upd {H : Hp} {D : Addr} {o : HO} : era (upd H D o) D = era H D := by
  funext a
  by_cases h : a = D
  · subst h
    rw [era_at, era_at]
  · rw [era_ne h, era_ne h, upd_ne h]
theorem era_same {H H' : Hp} {D : Addr} (s : Same H H') : Same (era H D) (era H' D) := fun a o e => by
  by_cases h : a = D
  · subst h
    rw [era_at] at e
    cases e
  · rw [era_ne h] at e ⊢
    exact s _ _ e
theorem era_none {H : Hp} {D : Addr} (h : H D = none) : era H D = H := by
  funext a
  by_cases q : a = D
  · subst q
    rw [era_at, h]
  · exact era_ne q

/-- what stands between two turns: the list at D, all else an extension of H1, and R of the list over the heap without D -/
def LcI (H1 : Hp) (D : Addr) (R : Nat → List V → Hp → Prop) (i : Nat) (H : Hp) : Prop :=
  ∃ acc, H D = some (.lst acc) ∧ Same H1 (era H D) ∧ R i acc (era H D)
theorem lc_add {H1 H H4 : Hp} {D : Addr} {R : Nat → List V → Hp → Prop} {i : Nat} {acc : List V} {y : V} (ha : H D = some (.lst acc))
    (e : Same H1 (era H D)) (s : Same H H4) (hl : acc.length < 100000) (r : R i (acc ++ [y]) (era H4 D)) :
    ∃ acc, H4 D = some (.lst acc) ∧ acc.length < sizeLine ∧ LcI H1 D R i (upd H4 D (.lst (acc ++ [y]))) := by
  refine ⟨acc, s _ _ ha, Nat.lt_of_lt_of_le hl (by decide), acc ++ [y], upd_same, ?_, ?_⟩
  · rw [era_upd]
    exact Same.trans e (era_same s)
  · rw [era_upd]
    exact r
theorem lc_skip {H1 H H3 : Hp} {D : Addr} {R : Nat → List V → Hp → Prop} {i : Nat} {acc : List V} (ha : H D = some (.lst acc))
    (e : Same H1 (era H D)) (s : Same H H3) (r : R i acc (era H3 D)) : LcI H1 D R i H3 :=
  ⟨acc, s _ _ ha, Same.trans e (era_same s), r⟩
theorem lc_run {J : It} {n : Nat} {G : Hp → Prop} {Y : Nat → Hp → V → Hp → Prop} (w : Walk J n G Y) {g : TG} {tt : TT} {te : TE} {vs : List Nat}
    {σ : L2.St} {H1 : Hp} {D : Addr} {Qd : Hp → Prop} (hD : H1 D = none) (R : Nat → List V → Hp → Prop)
    (hG : ∀ H, Same H1 H → G H) (h0 : R 0 [] H1)
    (hs : ∀ i x acc H H', i < n → H D = some (.lst acc) → Same H1 (era H D) → Same H1 H → R i acc (era H D) → Y i H x H' →
      g x (wipe σ vs) H' fun σ2 H2 => wipe σ2 vs = wipe σ vs ∧ tt σ2 H2 fun b H3 =>
        if b = true then te σ2 H3 fun y H4 => ∃ acc, H4 D = some (.lst acc) ∧ acc.length < sizeLine ∧ LcI H1 D R (i + 1) (upd H4 D (.lst (acc ++ [y])))
        else LcI H1 D R (i + 1) H3)
    (hd : ∀ acc H, H D = some (.lst acc) → Same H1 H → R n acc (era H D) → Qd H) :
    ∃ W : Nat → Nat → Hp → Prop, (∃ m, W 0 m (upd H1 D (.lst []))) ∧ ∀ i m H, W i m H →
      (J.stop i H ∧ Qd H) ∨ (J.go i H ∧ ∃ Nx : Hp → Prop, (∀ H', Nx H' → ∃ m', m' < m ∧ W (i + 1) m' H') ∧
        ∀ x H', J.yld i H x H' → g x (wipe σ vs) H' fun σ2 H2 => wipe σ2 vs = wipe σ vs ∧ tt σ2 H2 fun b H3 =>
        if b = true then te σ2 H3 fun y H4 => ∃ acc, H4 D = some (.lst acc) ∧ acc.length < sizeLine ∧ Nx (upd H4 D (.lst (acc ++ [y]))) else Nx H3) := by
  refine lc_it w (LcI H1 D R) ?_ ?_ ?_ ?_
  · exact ⟨[], upd_same, by rw [era_upd, era_none hD]; exact Same.refl _, by rw [era_upd, era_none hD]; exact h0⟩
  · rintro i H _ ⟨acc, _, e, _⟩
    exact hG H (Same.trans e era_back)
  · rintro i x H H' hi ⟨acc, ha, e, r⟩ y
    exact hs i x acc H H' hi ha e (Same.trans e era_back) r y
  · rintro H ⟨acc, ha, e, r⟩
    exact hd acc H ha (Same.trans e era_back) r

theorem yes_go {σ : L2.St} {H : Hp} {A B : Hp → Prop} (h : A H) : tYes σ H (fun b H3 => if b = true then A H3 else B H3) := by
  show (if true = true then A H else B H)
  rw [if_pos rfl]
  exact h
/-! ### for loops: what is carried over a turn -/
theorem ints_at {ns : List Int} {i : Nat} {x : V} (h : (ns.map V.int)[i]? = some x) : ∃ z, ns[i]? = some z ∧ x = .int z := by
  rw [List.getElem?_map] at h
  cases e : ns[i]? with
  | none =>
    rw [e] at h
    cases h
  | some z =>
    rw [e] at h
    exact ⟨z, rfl, (Option.some.inj h).symm⟩

/-! ### the box of draws -/
def boxD (g : Addr) (st c : Int) : List (Key × V) :=
  [(Sum.inr "great", .ref g), (Sum.inr "stirred", .int st), (Sum.inr "count", .int c)]
structure Box (H : Hp) (b g : Addr) : Prop where
  bx : ∃ st c : Int, H b = some (.dK (boxD g st c))
  gr : ∃ ns : List Int, H g = some (.lst (ns.map V.int)) ∧ ns.length ≤ 63
theorem Box.ne {H : Hp} {b g : Addr} (x : Box H b g) : b ≠ g := by
  obtain ⟨⟨_, _, h1⟩, _, h2, _⟩ := x
  exact ne_of h1 h2 (by intro z; cases z)
theorem Box.same {H H' : Hp} {b g : Addr} (x : Box H b g) (s : Same H H') : Box H' b g := by
  obtain ⟨⟨st, c, h1⟩, ns, h2, h3⟩ := x
  exact ⟨⟨st, c, s _ _ h1⟩, ns, s _ _ h2, h3⟩

def spBox (K : PySem.W.Frag) : Sp := fun vs H Q _ => ∃ (a : Addr) (ns : List Int), vs = [.ref a] ∧ SqL K H a (ns.map V.int) ∧ ns.length ≤ 63 ∧
  ∀ (b g : Addr) (H' : Hp), H b = none → H g = none → Same H H' → Box H' b g → Q (.ref b) H'
def spDraw : Sp := fun vs H Q _ => ∃ (b g : Addr) (m : Int), vs = [.ref b, .int m] ∧ 0 < m ∧ m < 2 ^ 30 ∧ Box H b g ∧
  ∀ (r : Int) (H' : Hp), 0 ≤ r → r < m → Kp b g H H' → Box H' b g → Q (.int r) H'
end BV

namespace BV
open PySem L2
theorem get_great {H : Hp} {b g : Addr} {st c : Int} (h : H b = some (.dK (boxD g st c))) : DGet H b (.str "great") (some (.ref g)) :=
  DGet.k (k := Sum.inr "great") h
theorem get_stirred {H : Hp} {b g : Addr} {st c : Int} (h : H b = some (.dK (boxD g st c))) : DGet H b (.str "stirred") (some (.int st)) :=
  DGet.k (k := Sum.inr "stirred") h
theorem get_count {H : Hp} {b g : Addr} {st c : Int} (h : H b = some (.dK (boxD g st c))) : DGet H b (.str "count") (some (.int c)) :=
  DGet.k (k := Sum.inr "count") h
theorem put_count {H : Hp} {b g : Addr} {st c d : Int} (h : H b = some (.dK (boxD g st c))) :
    DPut H b (.str "count") (.int d) (upd H b (.dK (boxD g st d))) :=
  DPut.k (k := Sum.inr "count") h (by show 3 < sizeLine; decide)
theorem dpAll_ints {K : PySem.W.Frag} {H : Hp} : ∀ ns : List Int, DpAll K H (ns.map V.int) (ns.map PyData.int)
  | [] => .nil
  | n :: ns => .cons (.int n) (dpAll_ints ns)
theorem lay_ints : ∀ ns : List Int, PyData.canLayAll0 (ns.map PyData.int) = true
  | [] => by simp [PyData.canLayAll0]
  | n :: ns => by simp [PyData.canLayAll0, PyData.canLay0, lay_ints ns]
theorem deep_ints : ∀ ns : List Int, PyData.depthAll (ns.map PyData.int) ≤ 1
  | [] => by simp [PyData.depthAll]
  | n :: ns => by
    have := deep_ints ns
    simp only [List.map_cons, PyData.depthAll, PyData.depth]
    omega
theorem shaped_intsL (ns : List Int) : SeqAt.shaped (.list (ns.map PyData.int)) = true := by
  have h1 := lay_ints ns
  have h2 := deep_ints ns
  have h3 : PyData.depthAll (ns.map PyData.int) + 1 ≤ 64 := by omega
  simp [SeqAt.shaped, PyData.canLay0, PyData.depth, h1, h3]
end BV

namespace BV
open PySem L2
theorem ix_nat {n j : Nat} (h : j < n) : ixN n (j : Int) = some j := by
  unfold ixN
  rw [if_pos (by omega), if_pos (by omega), Int.toNat_natCast]
theorem seq_nat {n j : Nat} (h : j < n) : seqIndex? (j : Int) n = some j := (ixN_seq (ix_nat h)).1
end BV

namespace BV
open PySem L2
theorem Kp.seq {K : PySem.W.Frag} {b g l : Addr} {H H' : Hp} {xs : List V} (k : Kp b g H H') (h1 : l ≠ b) (h2 : l ≠ g) (h : SqL K H l xs) : SqL K H' l xs := by
  rcases h with (h | ⟨o, h⟩) | h
  · exact .inl (.inl (k _ _ h h1 h2))
  · exact .inl (.inr ⟨o, k _ _ h h1 h2⟩)
  · exact .inr h
def spPick (K : PySem.W.Frag) : Sp := fun vs H Q _ => ∃ (b g l : Addr) (xs : List V), vs = [.ref b, .ref l] ∧ SqL K H l xs ∧ l ≠ b ∧ l ≠ g ∧
  0 < xs.length ∧ xs.length < 1000000 ∧ Box H b g ∧ ∀ (j : Nat) (v : V) (H' : Hp), xs[j]? = some v → Kp b g H H' → Box H' b g → Q v H'
end BV

namespace BV
open PySem L2
/-- what follows is shown once, for all ways through -/
theorem tIf_by {t : TT} {ta tb : TE} {σ : L2.St} {H : Hp} {Q : VK} (P : V → Hp → Prop) (cont : ∀ v H', P v H' → Q v H')
    (h : (∀ v H', P v H' → Q v H') → tIf t ta tb σ H Q) : tIf t ta tb σ H Q := h cont
theorem tIfS_by {c : TT} {t u : TS} {D : Ends} {σ : L2.St} {H : Hp} (P : L2.St → Hp → Prop) (cont : ∀ σ' H', P σ' H' → D.nx σ' H')
    (h : (∀ σ' H', P σ' H' → D.nx σ' H') → tIfS c t u D σ H) : tIfS c t u D σ H := h cont
end BV

namespace BV
open PySem L2
theorem tSeq_go {t u : TS} {D : Ends} {σ : L2.St} {H : Hp} (h : t { D with nx := u D } σ H) : tSeq t u D σ H := h
/-- for .. in range(e): what follows e, once for all ways through e -/
def rngK (g : TG) (tb : TS) (D : Ends) (σ : L2.St) (v : V) (H1 : Hp) : Prop := ∃ j : Int, [v] = [V.int j] ∧ -(2 ^ 62) ≤ j ∧ j < 2 ^ 62 ∧
  ∃ W : Nat → Nat → L2.St → Hp → Prop, (∃ m, W 0 m σ H1) ∧ ∀ i m σ H, W i m σ H →
    ((Itr 0 j.toNat).stop i H ∧ D.nx σ H) ∨ ((Itr 0 j.toNat).go i H ∧ ∃ N : L2.St → Hp → Prop, (∀ σ' H', N σ' H' → ∃ m', m' < m ∧ W (i + 1) m' σ' H') ∧
      ∀ x H', (Itr 0 j.toNat).yld i H x H' → g x σ H' fun σ2 H2 => tb { D with nx := N, ct := N, bk := D.nx } σ2 H2)
theorem for_rng1_by {te : TE} {g : TG} {tb : TS} {D : Ends} {σ : L2.St} {H : Hp} (P : V → Hp → Prop)
    (loop : ∀ v H', P v H' → rngK g tb D σ v H') (h : (∀ v H', P v H' → rngK g tb D σ v H') → te σ H (rngK g tb D σ)) :
    tFor (iRng1 (tCons te tNil)) g tb D σ H := h loop
end BV

namespace BV
open PySem L2
theorem tIfS_t {c : TT} {t u : TS} {D : Ends} {σ : L2.St} {H : Hp} (R : Bool → Hp → Prop) (ht : ∀ H', R true H' → t D σ H') (hu : ∀ H', R false H' → u D σ H')
    (h : (∀ b H', R b H' → if b = true then t D σ H' else u D σ H') → c σ H fun b H' => if b = true then t D σ H' else u D σ H') : tIfS c t u D σ H := by
  refine h fun b H' r => ?_
  cases b with
  | true => exact iteT (ht H' r)
  | false => exact iteF (hu H' r)
end BV

namespace BV
open PySem L2

/-! ### webs as data -/
abbrev Tie := Nat × Nat
def tieD (t : Tie) : PyData := .tuple [.int t.1, .int t.2]
def tiesD (ts : List Tie) : PyData := .tuple (ts.map tieD)
def webD (n : Nat) (ts : List Tie) : PyData := .tuple [.int n, tiesD ts]
structure WebOk (n : Nat) (ts : List Tie) : Prop where
  pos : 1 ≤ n
  ends : ∀ t ∈ ts, t.1 < t.2 ∧ t.2 < n
  hang : ∀ p, 1 ≤ p → p < n → ∃ q, q < p ∧ (q, p) ∈ ts

/-- the ends of a tie stand at v -/
def TieAt (H : Hp) (v : V) (t : Tie) : Prop := ∃ p, v = .ref p ∧ H p = some (.tup [.int t.1, .int t.2])
/-- tuples stay -/
def KT (H H' : Hp) : Prop := ∀ a xs, H a = some (.tup xs) → H' a = some (.tup xs)
theorem KT.of_same {H H' : Hp} (s : Same H H') : KT H H' := fun a xs h => s _ _ h
theorem KT.of_kp {b g : Addr} {H H' : Hp} (k : Kp b g H H') (x : Box H b g) : KT H H' := fun a xs h => by
  obtain ⟨⟨_, _, h1⟩, _, h2, _⟩ := x
  exact k _ _ h (ne_of h h1 (by intro z; cases z)) (ne_of h h2 (by intro z; cases z))
theorem KT.of_upd {H : Hp} {l : Addr} {xs ys : List V} (h : H l = some (.lst xs)) : KT H (upd H l (.lst ys)) := fun a zs e => by
  rw [upd_ne (ne_of e h (by intro z; cases z))]
  exact e
theorem TieAt.kt {H H' : Hp} {v : V} {t : Tie} (h : TieAt H v t) (k : KT H H') : TieAt H' v t := by
  obtain ⟨p, e, hp⟩ := h
  exact ⟨p, e, k _ _ hp⟩

abbrev Ties (H : Hp) : List V → List Tie → Prop := Paired (TieAt H)
theorem Ties.kt {H H' : Hp} (k : KT H H') : ∀ {xs : List V} {ts : List Tie}, Ties H xs ts → Ties H' xs ts
  | _, _, .nil => .nil
  | _, _, .cons a r => .cons (a.kt k) (Ties.kt k r)
theorem Ties.app {H : Hp} : ∀ {xs : List V} {ts : List Tie} {v : V} {t : Tie}, Ties H xs ts → TieAt H v t → Ties H (xs ++ [v]) (ts ++ [t])
  | _, _, _, _, .nil, h => .cons h .nil
  | _, _, _, _, .cons a r, h => .cons a (Ties.app r h)
theorem Ties.era {H : Hp} : ∀ {xs : List V} {ts : List Tie} (j : Nat), Ties H xs ts → Ties H (xs.eraseIdx j) (ts.eraseIdx j)
  | _, _, _, .nil => .nil
  | _, _, 0, .cons a r => r
  | _, _, j + 1, .cons a r => .cons a (Ties.era j r)
theorem Ties.get {H : Hp} : ∀ {xs : List V} {ts : List Tie} {j : Nat} {t : Tie}, Ties H xs ts → ts[j]? = some t → ∃ v, xs[j]? = some v ∧ TieAt H v t
  | _, _, _, _, .nil, h => by simp at h
  | _, _, 0, _, .cons a r, h => by
    simp at h
    subst h
    exact ⟨_, rfl, a⟩
  | _, _, j + 1, t, .cons a r, h => by
    obtain ⟨v, h1, h2⟩ := Ties.get (j := j) (t := t) r (by simpa using h)
    exact ⟨v, by simpa using h1, h2⟩
theorem Ties.at {H : Hp} : ∀ {xs : List V} {ts : List Tie} {j : Nat} {v : V}, Ties H xs ts → xs[j]? = some v → ∃ t, ts[j]? = some t ∧ TieAt H v t
  | _, _, _, _, .nil, h => by simp at h
  | _, _, 0, _, .cons a r, h => by
    simp at h
    subst h
    exact ⟨_, rfl, a⟩
  | _, _, j + 1, v, .cons a r, h => by
    obtain ⟨t, h1, h2⟩ := Ties.at (j := j) (v := v) r (by simpa using h)
    exact ⟨t, by simpa using h1, h2⟩
theorem Ties.dp {K : PySem.W.Frag} {H : Hp} : ∀ {xs : List V} {ts : List Tie}, Ties H xs ts → DpAll K H xs (ts.map tieD)
  | _, _, .nil => .nil
  | _, _, .cons h r => by
    obtain ⟨p, rfl, hp⟩ := h
    exact .cons (.tup (SqT.of hp) (.cons (.int _) (.cons (.int _) .nil))) (Ties.dp r)

/-- taking one out and laying it behind -/
theorem perm_move : ∀ (ts fs : List Tie) (j : Nat) (t : Tie), ts[j]? = some t → (ts.eraseIdx j ++ (fs ++ [t])).Perm (ts ++ fs) := by
  intro ts fs j t h
  have h1 : (t :: ts.eraseIdx j).Perm ts := by
    induction ts generalizing j with
    | nil => simp at h
    | cons a r ih =>
      cases j with
      | zero =>
        simp at h
        subst h
        exact .refl _
      | succ j =>
        have := ih j (by simpa using h)
        simp only [List.eraseIdx_cons_succ]
        exact (List.Perm.swap a t _).trans (this.cons a)
  have h2 : (ts.eraseIdx j ++ (fs ++ [t])).Perm (t :: (ts.eraseIdx j ++ fs)) := by
    rw [← List.append_assoc]
    exact List.perm_append_comm
  exact h2.trans (by simpa using h1.append_right fs)

/-- two lists of ties that grow, new since H0 -/
structure WI (b g l l2 : Addr) (H0 H : Hp) (ts fs : List Tie) : Prop where
  kp : Kp b g H0 H
  bx : Box H b g
  n1 : H0 l = none
  n2 : H0 l2 = none
  d1 : l ≠ b
  d2 : l ≠ g
  d3 : l2 ≠ b
  d4 : l2 ≠ g
  d5 : l ≠ l2
  tl : ∃ xs, H l = some (.lst xs) ∧ Ties H xs ts
  fl : ∃ ys, H l2 = some (.lst ys) ∧ Ties H ys fs
section
variable {b g l l2 p : Addr} {H0 H H' : Hp} {ts fs : List Tie} {v : V} {t : Tie} {xs : List V}
theorem WI.draw (w : WI b g l l2 H0 H ts fs) (k : Kp b g H H') (x : Box H' b g) : WI b g l l2 H0 H' ts fs := by
  obtain ⟨kp, bx, n1, n2, d1, d2, d3, d4, d5, ⟨xs, h1, h2⟩, ⟨ys, h3, h4⟩⟩ := w
  have kt := KT.of_kp k bx
  exact ⟨kp.trans k, x, n1, n2, d1, d2, d3, d4, d5, ⟨xs, k _ _ h1 d1 d2, h2.kt kt⟩, ⟨ys, k _ _ h3 d3 d4, h4.kt kt⟩⟩
theorem WI.same (w : WI b g l l2 H0 H ts fs) (s : Same H H') : WI b g l l2 H0 H' ts fs := w.draw (Kp.same s) (w.bx.same s)
theorem WI.app (w : WI b g l l2 H0 H ts fs) (h : H l = some (.lst xs)) (hv : TieAt H v t) : WI b g l l2 H0 (upd H l (.lst (xs ++ [v]))) (ts ++ [t]) fs := by
  obtain ⟨kp, bx, n1, n2, d1, d2, d3, d4, d5, ⟨zs, h1, h2⟩, ⟨ys, h3, h4⟩⟩ := w
  rw [h] at h1
  cases h1
  have kt : KT H (upd H l (.lst (xs ++ [v]))) := KT.of_upd h
  refine ⟨fun a o q q1 q2 => ?_, ?_, n1, n2, d1, d2, d3, d4, d5, ⟨_, upd_same, (h2.kt kt).app (hv.kt kt)⟩, ⟨ys, ?_, h4.kt kt⟩⟩
  · rw [upd_ne (ne_of_none q n1)]
    exact kp _ _ q q1 q2
  · obtain ⟨⟨st, c, x1⟩, ns, x2, x3⟩ := bx
    exact ⟨⟨st, c, by rw [upd_ne d1.symm]; exact x1⟩, ns, by rw [upd_ne d2.symm]; exact x2, x3⟩
  · rw [upd_ne d5.symm]
    exact h3
theorem WI.swap (w : WI b g l l2 H0 H ts fs) : WI b g l2 l H0 H fs ts := by
  obtain ⟨kp, bx, n1, n2, d1, d2, d3, d4, d5, t1, t2⟩ := w
  exact ⟨kp, bx, n2, n1, d3, d4, d1, d2, d5.symm, t2, t1⟩
theorem WI.pop (w : WI b g l l2 H0 H ts fs) (h : H l = some (.lst xs)) (j : Nat) : WI b g l l2 H0 (upd H l (.lst (xs.eraseIdx j))) (ts.eraseIdx j) fs := by
  obtain ⟨kp, bx, n1, n2, d1, d2, d3, d4, d5, ⟨zs, h1, h2⟩, ⟨ys, h3, h4⟩⟩ := w
  rw [h] at h1
  cases h1
  have kt : KT H (upd H l (.lst (xs.eraseIdx j))) := KT.of_upd h
  refine ⟨fun a o q q1 q2 => ?_, ?_, n1, n2, d1, d2, d3, d4, d5, ⟨_, upd_same, (h2.kt kt).era j⟩, ⟨ys, ?_, h4.kt kt⟩⟩
  · rw [upd_ne (ne_of_none q n1)]
    exact kp _ _ q q1 q2
  · obtain ⟨⟨st, c, x1⟩, ns, x2, x3⟩ := bx
    exact ⟨⟨st, c, by rw [upd_ne d1.symm]; exact x1⟩, ns, by rw [upd_ne d2.symm]; exact x2, x3⟩
  · rw [upd_ne d5.symm]
    exact h3
end

def spWeb (K : PySem.W.Frag) : Sp := fun vs H Q _ => ∃ (b g : Addr) (most more : Nat), vs = [.ref b, .int most, .int more] ∧ 1 ≤ most ∧ most ≤ 1000 ∧ more ≤ 1000 ∧ Box H b g ∧
  ∀ (p : Addr) (n : Nat) (ts : List Tie) (H' : Hp), Kp b g H H' → Box H' b g → Dp K H' (.ref p) (webD n ts) → WebOk n ts → n ≤ most → ts.length + 1 ≤ n + more →
    (n = 1 → ts = []) → Q (.ref p) H'
end BV

namespace BV
open PySem L2

/-! ### data that is read -/
section
variable {K : PySem.W.Frag} {H H' : Hp}
theorem sqT_same {a : Addr} {xs : List V} (s : Same H H') (h : SqT K H a xs) : SqT K H' a xs := by
  rcases h with (h | ⟨o, h⟩) | h
  · exact .inl (.inl (s _ _ h))
  · exact .inl (.inr ⟨o, s _ _ h⟩)
  · exact .inr h
mutual
theorem dp_same (s : Same H H') : ∀ (d : PyData) {v : V}, Dp K H v d → Dp K H' v d
  | .none, _, h => by cases h; exact .non
  | .bool b, _, h => by cases h; exact .bl b
  | .int i, _, h => by cases h; exact .int i
  | .str x, _, h => by cases h; exact .str x
  | .list ds, _, h => by
    cases h with
    | lst h1 h2 => exact .lst (Same.seq s h1) (dpAll_same s ds h2)
  | .tuple ds, _, h => by
    cases h with
    | tup h1 h2 => exact .tup (sqT_same s h1) (dpAll_same s ds h2)
  | .dict _, _, h => by cases h
theorem dpAll_same (s : Same H H') : ∀ (ds : List PyData) {vs : List V}, DpAll K H vs ds → DpAll K H' vs ds
  | [], _, h => by cases h; exact .nil
  | d :: ds, _, h => by
    cases h with
    | cons h1 h2 => exact .cons (dp_same s d h1) (dpAll_same s ds h2)
end

/-- what is locked or a tuple stays -/
def KF (H H' : Hp) : Prop := ∀ a o, H a = some o → (∃ xs, o = .tup xs ∨ ∃ ob, o = .frz ob (.tup xs)) → H' a = some o
theorem KF.of_same (s : Same H H') : KF H H' := fun a o h _ => s a o h
theorem KF.of_kp {b g : Addr} (k : Kp b g H H') (x : Box H b g) : KF H H' := fun a o h q => by
  obtain ⟨⟨_, _, h1⟩, _, h2, _⟩ := x
  obtain ⟨xs, rfl | ⟨ob, rfl⟩⟩ := q
  · exact k _ _ h (ne_of h h1 (by intro z; cases z)) (ne_of h h2 (by intro z; cases z))
  · exact k _ _ h (ne_of h h1 (by intro z; cases z)) (ne_of h h2 (by intro z; cases z))
theorem KF.trans {H'' : Hp} (x : KF H H') (y : KF H' H'') : KF H H'' := fun a o h q => y a o (x a o h q) q
theorem KF.of_upd {l : Addr} {xs ys : List V} (h : H l = some (.lst xs)) : KF H (upd H l (.lst ys)) := fun a o e q => by
  obtain ⟨zs, rfl | ⟨ob, rfl⟩⟩ := q
  · rw [upd_ne (ne_of e h (by intro z; cases z))]
    exact e
  · rw [upd_ne (ne_of e h (by intro z; cases z))]
    exact e
theorem sqT_kf {a : Addr} {xs : List V} (s : KF H H') (h : SqT K H a xs) : SqT K H' a xs := by
  rcases h with (h | ⟨o, h⟩) | h
  · exact .inl (.inl (s _ _ h ⟨xs, .inl rfl⟩))
  · exact .inl (.inr ⟨o, s _ _ h ⟨xs, .inr ⟨o, rfl⟩⟩⟩)
  · exact .inr h
mutual
/-- data without a list in it -/
def still : PyData → Bool
  | .none | .bool _ | .int _ | .str _ => true
  | .list _ | .dict _ => false
  | .tuple ds => stillAll ds
def stillAll : List PyData → Bool
  | [] => true
  | d :: ds => still d && stillAll ds
end
mutual
theorem dp_kf (s : KF H H') : ∀ (d : PyData) {v : V}, still d = true → Dp K H v d → Dp K H' v d
  | .none, _, _, h => by cases h; exact .non
  | .bool b, _, _, h => by cases h; exact .bl b
  | .int i, _, _, h => by cases h; exact .int i
  | .str x, _, _, h => by cases h; exact .str x
  | .list ds, _, q, h => by simp [still] at q
  | .tuple ds, _, q, h => by
    cases h with
    | tup h1 h2 => exact .tup (sqT_kf s h1) (dpAll_kf s ds (by simpa [still] using q) h2)
  | .dict _, _, _, h => by cases h
theorem dpAll_kf (s : KF H H') : ∀ (ds : List PyData) {vs : List V}, stillAll ds = true → DpAll K H vs ds → DpAll K H' vs ds
  | [], _, _, h => by cases h; exact .nil
  | d :: ds, _, q, h => by
    have q' : still d = true ∧ stillAll ds = true := by simpa [stillAll] using q
    cases h with
    | cons h1 h2 => exact .cons (dp_kf s d q'.1 h1) (dpAll_kf s ds q'.2 h2)
end
theorem dpAll_len : ∀ {ds : List PyData} {vs : List V}, DpAll K H vs ds → vs.length = ds.length
  | [], _, h => by cases h; rfl
  | d :: ds, _, h => by
    cases h with
    | cons h1 h2 => exact congrArg Nat.succ (dpAll_len h2)
theorem dpAll_get : ∀ {ds : List PyData} {vs : List V} {i : Nat} {v : V}, DpAll K H vs ds → vs[i]? = some v → ∃ d, ds[i]? = some d ∧ Dp K H v d
  | [], _, _, _, h, e => by cases h; simp at e
  | d :: ds, _, 0, _, h, e => by
    cases h with
    | cons h1 h2 =>
      simp at e
      subst e
      exact ⟨d, rfl, h1⟩
  | d :: ds, _, i + 1, v, h, e => by
    cases h with
    | cons h1 h2 =>
      obtain ⟨d', a, b⟩ := dpAll_get (i := i) (v := v) h2 (by simpa using e)
      exact ⟨d', by simpa using a, b⟩
theorem dpAll_at : ∀ {ds : List PyData} {vs : List V} {i : Nat} {d : PyData}, DpAll K H vs ds → ds[i]? = some d → ∃ v, vs[i]? = some v ∧ Dp K H v d
  | [], _, _, _, h, e => by simp at e
  | d :: ds, _, 0, _, h, e => by
    cases h with
    | cons h1 h2 =>
      simp at e
      subst e
      exact ⟨_, rfl, h1⟩
  | d :: ds, _, i + 1, v, h, e => by
    cases h with
    | cons h1 h2 =>
      obtain ⟨d', a, b⟩ := dpAll_at (i := i) (d := v) h2 (by simpa using e)
      exact ⟨d', by simpa using a, b⟩
theorem dpAll_app : ∀ {ds es : List PyData} {vs us : List V}, DpAll K H vs ds → DpAll K H us es → DpAll K H (vs ++ us) (ds ++ es)
  | [], _, _, _, h, g => by cases h; exact g
  | d :: ds, _, _, _, h, g => by
    cases h with
    | cons h1 h2 => exact .cons h1 (dpAll_app h2 g)
theorem dpAll_ints' : ∀ {ns : List Int} {vs : List V}, DpAll K H vs (ns.map PyData.int) → vs = ns.map V.int
  | [], _, h => by cases h; rfl
  | n :: ns, _, h => by
    cases h with
    | cons h1 h2 =>
      cases h1
      rw [dpAll_ints' h2]
      rfl
theorem dp_tup {v : V} {ds : List PyData} (h : Dp K H v (.tuple ds)) : ∃ a xs, v = .ref a ∧ SqT K H a xs ∧ DpAll K H xs ds := by
  cases h with
  | tup h1 h2 => exact ⟨_, _, rfl, h1, h2⟩
theorem dp_lst {v : V} {ds : List PyData} (h : Dp K H v (.list ds)) : ∃ a xs, v = .ref a ∧ SqL K H a xs ∧ DpAll K H xs ds := by
  cases h with
  | lst h1 h2 => exact ⟨_, _, rfl, h1, h2⟩
theorem dp_tie {v : V} {t : Tie} (h : Dp K H v (tieD t)) : ∃ a, v = .ref a ∧ SqT K H a [.int t.1, .int t.2] := by
  obtain ⟨a, xs, e, h1, h2⟩ := dp_tup h
  have q : xs = [.int t.1, .int t.2] := dpAll_ints' (ns := [t.1, t.2]) h2
  subst q
  exact ⟨a, e, h1⟩
theorem dp_web {v : V} {n : Nat} {ts : List Tie} (h : Dp K H v (webD n ts)) :
    ∃ a c ys, v = .ref a ∧ SqT K H a [.int n, .ref c] ∧ SqT K H c ys ∧ DpAll K H ys (ts.map tieD) := by
  obtain ⟨a, xs, e, h1, h2⟩ := dp_tup h
  cases h2 with
  | cons q1 q2 =>
    cases q1
    cases q2 with
    | cons q3 q4 =>
      cases q4
      obtain ⟨c, ys, e3, h3, h4⟩ := dp_tup q3
      subst e3
      exact ⟨a, c, ys, e, h1, h3, h4⟩
theorem still_ties : ∀ ts : List Tie, stillAll (ts.map tieD) = true
  | [] => by simp [stillAll]
  | t :: ts => by simp [stillAll, tieD, still, still_ties ts]
theorem still_web (n : Nat) (ts : List Tie) : still (webD n ts) = true := by simp [webD, tiesD, still, stillAll, still_ties ts]
end

/-! ### lots -/
def lotD (ks : List Nat) : PyData := .tuple (ks.map fun (k : Nat) => .int k)
def hit (ts : List Tie) (p k : Nat) : Bool := match ts[k]? with
  | some t => t.1 == p || t.2 == p
  | none => false
def tiesAt (ts : List Tie) (p : Nat) : List Nat := (List.range ts.length).filter (hit ts p)
def spTies (K : PySem.W.Frag) : Sp := fun vs H Q _ => ∃ (v : V) (n p : Nat) (ts : List Tie), vs = [v, .int p] ∧ Dp K H v (webD n ts) ∧ ts.length ≤ 3000 ∧
  ∀ (u : V) (H' : Hp), Same H H' → Dp K H' u (lotD (tiesAt ts p)) → Q u H'
end BV

/-! ### rules that name the written part -/
namespace BV
open PySem L2
section
variable {X : Cx} (K : PySem.W.Frag)
theorem opIn (h : X.K = K := by rfl) : OpR X (compareOp .In) (rIn K false) := by
  subst h
  exact op_in_seq
theorem opNotIn (h : X.K = K := by rfl) : OpR X (compareOp .NotIn) (rIn K true) := by
  subst h
  exact op_notIn_seq
theorem opEqD (hu : X.A.units + 64 < cLine) (h : X.K = K := by rfl) : OpR X (compareOp .Eq) (rEqD K) := by
  subst h
  exact op_eqD hu
theorem opNeD (hu : X.A.units + 64 < cLine) (h : X.K = K := by rfl) : OpR X (compareOp .NotEq) (rNeD K) := by
  subst h
  exact op_neD hu
theorem ixL (h : X.K = K := by rfl) : IxR X (rIxL K) := by
  subst h
  exact ix_list
theorem ixT (h : X.K = K := by rfl) : IxR X (rIxT K) := by
  subst h
  exact ix_tup
def rLenK (K : PySem.W.Frag) : List V → Hp → VK → Prop := fun xs H Q => ∃ p ys, xs = [.ref p] ∧ (SqL K H p ys ∨ SqT K H p ys) ∧ Q (.int ys.length) H
theorem lenK (h : X.K = K := by rfl) : CallR X (.builtin "len") (rLenK K) := by
  subst h
  exact call_len_seq
def rTupK (K : PySem.W.Frag) : List V → Hp → VK → Prop := fun xs H Q => ∃ p ys, xs = [.ref p] ∧
  ((SqL K H p ys ∧ ∀ l, H l = none → Q (.ref l) (upd H l (.tup ys))) ∨ (SqT K H p ys ∧ Q (.ref p) H))
theorem tupleK (h : X.K = K := by rfl) : CallR X (.type "tuple") (rTupK K) := by
  subst h
  exact call_tuple_of
def rSumT (K : PySem.W.Frag) : List V → Hp → VK → Prop := fun vs H Q => ∃ (a : Addr) (ns : List Int), vs = [V.ref a] ∧ SqT K H a (ns.map V.int) ∧ Q (.int ns.sum) H
theorem sumTK (hc : X.calm = true := by rfl) (h : X.K = K := by rfl) : CallR X (.builtin "sum") (rSumT K) := by
  subst h
  exact cr_sumT hc
def rReprK (K : PySem.W.Frag) : List V → Hp → VK → Prop := fun xs H Q => ∃ (x : V) (d : PyData), xs = [x] ∧ Dp K H x d ∧ Show d ∧ Q (.str d.shown) H
theorem reprK (hgd : X.A.guards = some []) (hu : X.A.units + 64 < cLine) (h : X.K = K := by rfl) : CallR X (.builtin "repr") (rReprK K) := by
  subst h
  exact call_reprD hgd hu
theorem revT {e : Expr} {te : TE} {k : Nat} {p1 p2 p3 pos : Pos} (he : PE X e te) (h : X.K = K := by rfl) :
    PE X (.Subscript e (.Slice none none (some (.UnaryOp .USub (.Constant (.int 1) k p1) p2)) p3) pos) (tRevT K te) := by
  subst h
  exact pe_revT he
theorem enumT {e : Expr} {ta : TA} {p pos tpos : Pos} {elts : List Expr} {kk : Nat} (hg : Gl X "enumerate") (hm : X.mg "enumerate" = none)
    (ha : PA X [e] ta) (hs : starEach [e] X.env = [(false, eval e X.env)] := by rfl) (h : X.K = K := by rfl) :
    PI X (.Tuple elts kk tpos) (.Call (.Name "enumerate" p) [e] [] pos) (iEnumT K ta) := by
  subst h
  exact pi_enumT hg hm ha hs
theorem piL {l tg : Expr} {tl : TE} (hl : PE X l tl) (h : X.K = K := by rfl) : PI X tg l (iList K tl) := by
  subst h
  exact pi_list hl
theorem piT {l tg : Expr} {tl : TE} (hl : PE X l tl) (h : X.K = K := by rfl) : PI X tg l (iTup K tl) := by
  subst h
  exact pi_tup hl
theorem pgT {es : List Expr} {k : Nat} {t : TGs} {n : Nat} (hc : X.calm = true) (h : PGs X es t)
    (hn : (assignEach es X.env).length = n := by rfl) (hst : (assignEach es X.env).findIdx? (·.1) = none := by rfl) {pos : Pos} (hK : X.K = K := by rfl) :
    PG X (.Tuple es k pos) (gTup K n t) := by
  subst hK
  exact pg_tup hc h hn hst
theorem getL (h : X.K = K := by rfl) : PGet X (rGetL K) := by
  subst h
  exact get_list
theorem slL (h : X.K = K := by rfl) : SlR X (rSlL K) := by
  subst h
  exact sl_list
end
end BV

namespace BV
open PySem L2
theorem inv_tie (p : Nat) (t : Tie) : inV (.int (p : Int)) [.int t.1, .int t.2] = (t.1 == p || t.2 == p) := by
  have e : ∀ a : Nat, (((a : Nat) : Int) == (p : Int)) = (a == p) := fun a => by
    by_cases h : a = p
    · subst h
      simp
    · rw [beq_eq_false_iff_ne.mpr h]
      exact beq_eq_false_iff_ne.mpr fun z => h (by omega)
  show ((((t.1 : Nat) : Int) == (p : Int)) || ((((t.2 : Nat) : Int) == (p : Int)) || false)) = _
  rw [e, e, Bool.or_false]
theorem range_filter_succ {f : Nat → Bool} {i : Nat} : (List.range (i + 1)).filter f = (List.range i).filter f ++ if f i then [i] else [] := by
  rw [List.range_succ, List.filter_append]
  congr 1
  by_cases h : f i = true
  · rw [if_pos h, List.filter_cons_of_pos h, List.filter_nil]
  · rw [if_neg h, List.filter_cons_of_neg h, List.filter_nil]
theorem hit_at {ts : List Tie} {p i : Nat} {t : Tie} (h : ts[i]? = some t) : hit ts p i = (t.1 == p || t.2 == p) := by
  unfold hit
  rw [h]
end BV

namespace BV
open PySem L2

/-! ### the matrix of a web -/
def meets (p : Nat) (t : Tie) : Bool := t.1 == p || t.2 == p
def joins (p q : Nat) (t : Tie) : Bool := (t.1 == p && t.2 == q) || (t.1 == q && t.2 == p)
def entry (ts : List Tie) (p q : Nat) : Int := if p = q then (ts.countP (meets p) : Nat) else -((ts.countP (joins p q) : Nat) : Int)
def rowD (ts : List Tie) (n p : Nat) : PyData := .tuple ((List.range n).map fun q => .int (entry ts p q))
def matD (n : Nat) (ts : List Tie) : PyData := .tuple ((List.range n).map (rowD ts n))
def spMat (K : PySem.W.Frag) : Sp := fun vs H Q _ => ∃ (v : V) (n : Nat) (ts : List Tie), vs = [v] ∧ Dp K H v (webD n ts) ∧ (∀ t ∈ ts, t.1 < t.2 ∧ t.2 < n) ∧
  n ≤ 1000 ∧ ts.length ≤ 3000 ∧ ∀ (u : V) (H' : Hp), Same H H' → Dp K H' u (matD n ts) → Q u H'

/-- n rows of n numbers, lists of their own -/
structure Mat (H : Hp) (r : Addr) (as : List Addr) (n : Nat) (M : Nat → Nat → Int) : Prop where
  rows : H r = some (.lst (as.map V.ref))
  len : as.length = n
  nd : as.Nodup
  row : ∀ p a, as[p]? = some a → H a = some (.lst ((List.range n).map fun q => V.int (M p q)))
def bump (M : Nat → Nat → Int) (p q : Nat) (d : Int) : Nat → Nat → Int := fun i j => if i = p ∧ j = q then M p q + d else M i j
theorem range_set {α : Type} (f : Nat → α) (n q : Nat) (v : α) : ((List.range n).map f).set q v = (List.range n).map fun j => if j = q then v else f j := by
  apply List.ext_getElem?
  intro i
  by_cases hi : i < n
  · rw [List.getElem?_set]
    by_cases e : q = i
    · subst e
      simp [hi]
    · have e' : ¬ i = q := fun z => e z.symm
      simp [hi, e, e']
  · rw [List.getElem?_eq_none (by simp; omega), List.getElem?_eq_none (by simp; omega)]
theorem Mat.set {H : Hp} {r a : Addr} {as : List Addr} {n p q : Nat} {M : Nat → Nat → Int} {d : Int} (m : Mat H r as n M) (ha : as[p]? = some a) (hq : q < n) :
    Mat (upd H a (.lst (((List.range n).map fun q => V.int (M p q)).set q (.int (M p q + d))))) r as n (bump M p q d) := by
  obtain ⟨h1, h2, h3, h4⟩ := m
  have hpa := h4 p a ha
  have hp : p < as.length := (List.getElem?_eq_some_iff.mp ha).1
  have nra : r ≠ a := by
    intro e
    subst e
    rw [h1] at hpa
    have z := Option.some.inj hpa
    injection z with z
    cases as with
    | nil => simp at ha
    | cons x xs =>
      cases n with
      | zero => simp at h2
      | succ n =>
        rw [List.range_succ_eq_map] at z
        cases z
  refine ⟨by rw [upd_ne nra]; exact h1, h2, h3, fun p' a' ha' => ?_⟩
  by_cases e : p' = p
  · subst e
    rw [ha] at ha'
    cases ha'
    rw [upd_same, range_set]
    congr 2
    apply List.map_congr_left
    intro j hj
    unfold bump
    by_cases ej : j = q
    · subst ej
      simp
    · simp [ej]
  · have na : a' ≠ a := by
      rintro rfl
      have hp' : p' < as.length := (List.getElem?_eq_some_iff.mp ha').1
      have e1 : as[p'] = a' := (List.getElem?_eq_some_iff.mp ha').2
      have e2 : as[p] = a' := (List.getElem?_eq_some_iff.mp ha).2
      have pw := List.pairwise_iff_getElem.mp h3
      rcases Nat.lt_or_ge p' p with z | z
      · exact pw p' p hp' hp z (e1.trans e2.symm)
      · exact pw p p' hp hp' (by omega) (e2.trans e1.symm)
    rw [upd_ne na, h4 p' a' ha']
    congr 2
    apply List.map_congr_left
    intro j hj
    unfold bump
    simp [e]
theorem entry_app (ts : List Tie) (a b : Nat) (hab : a < b) (p q : Nat) :
    bump (bump (bump (bump (entry ts) a a 1) b b 1) a b (-1)) b a (-1) p q = entry (ts ++ [(a, b)]) p q := by
  have c1 : ∀ f : Tie → Bool, (ts ++ [(a, b)]).countP f = ts.countP f + (if f (a, b) = true then 1 else 0) := fun f => by
    rw [List.countP_append, List.countP_singleton]
  unfold entry
  rw [c1, c1]
  unfold bump meets joins
  by_cases e : p = q
  · subst e
    by_cases ea : p = a
    · subst ea
      have : ¬ p = b := by omega
      have : ¬ b = p := by omega
      simp_all
    · by_cases eb : p = b
      · subst eb
        have : ¬ a = p := by omega
        simp_all
      · have : ¬ a = p := fun z => ea z.symm
        have : ¬ b = p := fun z => eb z.symm
        simp_all
  · by_cases e1 : p = a ∧ q = b
    · obtain ⟨rfl, rfl⟩ := e1
      have h1 : ¬ q = p := fun z => e z.symm
      simp_all
      omega
    · by_cases e2 : p = b ∧ q = a
      · obtain ⟨rfl, rfl⟩ := e2
        have h1 : ¬ q = p := fun z => e z.symm
        simp_all
        omega
      · have h3 : ¬ (p = a ∧ q = a) := fun z => e (z.1.trans z.2.symm)
        have h4 : ¬ (p = b ∧ q = b) := fun z => e (z.1.trans z.2.symm)
        have h5 : ((a == p && b == q) || (a == q && b == p)) = false := by
          rw [Bool.or_eq_false_iff, Bool.and_eq_false_iff, Bool.and_eq_false_iff]
          simp only [beq_eq_false_iff_ne]
          omega
        simp only [e1, e2, h3, h4, if_false, e, h5, Bool.false_eq_true, Nat.add_zero]
end BV

namespace BV
open PySem L2
theorem Mat.row_get {H : Hp} {r a : Addr} {as : List Addr} {n p q : Nat} {M : Nat → Nat → Int} (m : Mat H r as n M) (ha : as[p]? = some a) (hq : q < n) :
    ((List.range n).map fun q => V.int (M p q))[q]? = some (.int (M p q)) := by
  rw [List.getElem?_map, List.getElem?_range hq]
  rfl
theorem mat_aug {K : PySem.W.Frag} {H : Hp} {r : Addr} {as : List Addr} {n p q ir ip iq : Nat} {M : Nat → Nat → Int} {d : Int} {f : Int → Int → Int} {σ : L2.St} {D : Ends}
    (m : Mat H r as n M) (hp : p < n) (hq : q < n) (h3 : σ[ir]? = some (some (.ref r))) (h4 : σ[ip]? = some (some (.int (p : Int)))) (h5 : σ[iq]? = some (some (.int (q : Int))))
    (hf : f (M p q) 1 = M p q + d)
    (h : ∀ a, as[p]? = some a → ∀ H', (∀ b, b ≠ a → H' b = H b) → Mat H' r as n (bump M p q d) → D.nx σ H') :
    tAugS (tOp (rIxL K) (tVar ir) (tVar ip)) (tVar iq) (tC (.int 1)) (rGetL K) (ipI f) rSetL D σ H := by
  have hpl : p < as.length := by rw [m.len]; exact hp
  have ha : as[p]? = some as[p] := by simp [hpl]
  have hrow := m.row p _ ha
  have hr : (as.map V.ref)[p]? = some (.ref as[p]) := by rw [List.getElem?_map, ha]; rfl
  refine ⟨_, h3, _, h4, r, _, _, _, rfl, rfl, SqL.of m.rows, atI_nat hr, ?_⟩
  refine ⟨_, h5, as[p], _, q, _, rfl, rfl, SqL.of hrow, m.row_get ha hq, ?_⟩
  refine ⟨_, _, rfl, rfl, as[p], _, (q : Int), q, rfl, rfl, hrow, ix_nat (by simpa using hq), ?_⟩
  rw [hf]
  exact h _ ha _ (fun b hb => upd_ne hb) (m.set ha hq)
theorem zeros (n : Nat) : (List.replicate n [V.int 0]).flatten = (List.range n).map fun _ => V.int 0 := by
  induction n with
  | zero => rfl
  | succ n ih =>
    rw [List.replicate_succ', List.flatten_append, ih, List.range_succ, List.map_append]
    rfl
end BV

namespace BV
open PySem L2
mutual
def tiny : PyData → Bool
  | .none | .bool _ => true
  | .int i => decide (i.natAbs.log2 < 300)
  | .str x => decide (x.length ≤ 100) && x.cps.toList.all fun c => decide (c < 16 ^ 8)
  | .list xs | .tuple xs => tinyAll xs
  | .dict _ => false
def tinyAll : List PyData → Bool
  | [] => true
  | x :: xs => tiny x && tinyAll xs
end
mutual
def nodes : PyData → Nat
  | .none | .bool _ | .int _ | .str _ | .dict _ => 1
  | .list xs | .tuple xs => nodesAll xs + 1
def nodesAll : List PyData → Nat
  | [] => 0
  | x :: xs => nodes x + nodesAll xs
end
theorem int_shown {i : Int} (h : i.natAbs.log2 < 300) : (PyData.shown (.int i)).length ≤ 301 := by
  have h1 := int_text_length_le (k := 300) (by decide) h
  have h2 : (PyData.shown (.int i)) = Str.ofString (toString i) := by simp only [PyData.shown]
  rw [h2]
  have h3 : (Str.ofString (toString i)).length = (toString i).length := ofString_length _
  omega
mutual
theorem tiny_facts : ∀ d : PyData, tiny d = true → d.showable = true ∧ d.hasDict = false ∧ d.shown.length + 2 ≤ 1100 * nodes d
  | .none, _ => ⟨by simp [PyData.showable], by simp [PyData.hasDict], by
      have e : (PyData.shown .none).length = 4 := rfl
      simp only [nodes]
      omega⟩
  | .bool b, _ => ⟨by simp [PyData.showable], by simp [PyData.hasDict], by
      have e : (PyData.shown (.bool b)).length ≤ 5 := by cases b <;> decide
      simp only [nodes]
      omega⟩
  | .int i, h => by
    have h' : i.natAbs.log2 < 300 := by simpa [tiny] using h
    refine ⟨?_, by simp [PyData.hasDict], ?_⟩
    · simp only [PyData.showable, decide_eq_true_eq]
      omega
    · have := int_shown h'
      simp only [nodes]
      omega
  | .str x, h => by
    have h' : x.length ≤ 100 ∧ ∀ c ∈ x.cps.toList, c < 16 ^ 8 := by
      simp only [tiny, Bool.and_eq_true, decide_eq_true_eq, List.all_eq_true] at h
      exact h
    refine ⟨by simp [PyData.showable], by simp [PyData.hasDict], ?_⟩
    have e := StrLaws.reprText_len x h'.2
    simp only [PyData.shown, nodes]
    omega
  | .list xs, h => by
    have h1 := tiny_all xs (by simpa [tiny] using h)
    refine ⟨by simpa [PyData.showable] using h1.1, by simpa [PyData.hasDict] using h1.2.1, ?_⟩
    have h2 := listText_len_le (PyData.shownAll xs)
    simp only [PyData.shown, nodes]
    omega
  | .tuple xs, h => by
    have h1 := tiny_all xs (by simpa [tiny] using h)
    refine ⟨by simpa [PyData.showable] using h1.1, by simpa [PyData.hasDict] using h1.2.1, ?_⟩
    have h2 := tupleText_len_le (PyData.shownAll xs)
    simp only [PyData.shown, nodes]
    omega
  | .dict _, h => by simp [tiny] at h
theorem tiny_all : ∀ xs : List PyData, tinyAll xs = true → PyData.showableAll xs = true ∧ PyData.hasDictAll xs = false ∧
    ((PyData.shownAll xs).map (·.length)).sum + 2 * (PyData.shownAll xs).length ≤ 1100 * nodesAll xs
  | [], _ => ⟨by simp [PyData.showableAll], by simp [PyData.hasDictAll], by simp [PyData.shownAll]⟩
  | x :: xs, h => by
    have h' : tiny x = true ∧ tinyAll xs = true := by simpa [tinyAll] using h
    obtain ⟨a1, a2, a3⟩ := tiny_facts x h'.1
    obtain ⟨b1, b2, b3⟩ := tiny_all xs h'.2
    refine ⟨by simp [PyData.showableAll, a1, b1], by simp [PyData.hasDictAll, a2, b2], ?_⟩
    simp only [PyData.shownAll, nodesAll, List.map_cons, List.sum_cons, List.length_cons]
    omega
end
theorem show_of {d : PyData} (h : tiny d = true) (hd : d.depth ≤ 40) (hn : nodes d ≤ 15000) : Show d := by
  obtain ⟨a, b, c⟩ := tiny_facts d h
  refine ⟨a, b, hd, Nat.le_trans (Nat.le_trans (Nat.le_add_right _ 2) c) (Nat.le_trans (Nat.mul_le_mul_left 1100 hn) (by decide))⟩
end BV

namespace BV
open PySem L2
/-! ### sums of a row -/
theorem sum_add (f g : Nat → Int) : ∀ l : List Nat, (l.map fun q => f q + g q).sum = (l.map f).sum + (l.map g).sum
  | [] => rfl
  | a :: l => by
    simp only [List.map_cons, List.sum_cons, sum_add f g l]
    omega
theorem sum_at (n x : Nat) (c : Int) : ((List.range n).map fun q => if q = x then c else (0 : Int)).sum = if x < n then c else 0 := by
  induction n with
  | zero => rfl
  | succ n ih =>
    rw [List.range_succ, List.map_append, List.sum_append, ih]
    simp only [List.map_cons, List.map_nil, List.sum_cons, List.sum_nil]
    by_cases h : n = x
    · subst h
      simp
    · by_cases h2 : x < n
      · have : x < n + 1 := by omega
        simp [h, h2, this]
      · have : ¬ x < n + 1 := by omega
        simp [h, h2, this]
theorem sum_none (n : Nat) : ((List.range n).map fun (_ : Nat) => (0 : Int)).sum = 0 := by
  induction n with
  | zero => rfl
  | succ n ih =>
    rw [List.range_succ, List.map_append, List.sum_append, ih]
    rfl
def delta (t : Tie) (p q : Nat) : Int :=
  (if p = t.1 then ((if q = t.1 then 1 else 0) + (if q = t.2 then -1 else 0)) else 0) + (if p = t.2 then ((if q = t.2 then 1 else 0) + (if q = t.1 then -1 else 0)) else 0)
theorem entry_cons (t : Tie) (ts : List Tie) (h : t.1 < t.2) (p q : Nat) : entry (t :: ts) p q = entry ts p q + delta t p q := by
  obtain ⟨a, b⟩ := t
  have h : a < b := h
  unfold entry delta
  rw [List.countP_cons, List.countP_cons]
  unfold meets joins
  by_cases e : p = q
  · subst e
    by_cases ea : p = a
    · subst ea
      have : ¬ p = b := by omega
      have : ¬ b = p := by omega
      simp_all
    · by_cases eb : p = b
      · subst eb
        have : ¬ a = p := by omega
        simp_all
      · have : ¬ a = p := fun z => ea z.symm
        have : ¬ b = p := fun z => eb z.symm
        simp_all
  · by_cases e1 : p = a ∧ q = b
    · obtain ⟨rfl, rfl⟩ := e1
      have h1 : ¬ q = p := fun z => e z.symm
      simp_all
      omega
    · by_cases e2 : p = b ∧ q = a
      · obtain ⟨rfl, rfl⟩ := e2
        have h1 : ¬ q = p := fun z => e z.symm
        simp_all
        omega
      · have h5 : ((a == p && b == q) || (a == q && b == p)) = false := by
          rw [Bool.or_eq_false_iff, Bool.and_eq_false_iff, Bool.and_eq_false_iff]
          simp only [beq_eq_false_iff_ne]
          omega
        simp only [e, if_false, h5, Bool.false_eq_true, Nat.add_zero]
        by_cases ea : p = a
        · subst ea
          have q1 : ¬ q = p := fun z => e z.symm
          have q2 : ¬ q = b := fun z => e1 ⟨rfl, z⟩
          have q3 : ¬ p = b := by omega
          simp [q1, q2, q3]
        · by_cases eb : p = b
          · subst eb
            have q1 : ¬ q = p := fun z => e z.symm
            have q2 : ¬ q = a := fun z => e2 ⟨rfl, z⟩
            simp [q1, q2, ea]
          · simp [ea, eb]
theorem delta_sum (t : Tie) (n p : Nat) (h : t.1 < t.2) (h2 : t.2 < n) : ((List.range n).map fun q => delta t p q).sum = 0 := by
  unfold delta
  rw [sum_add]
  have h1 : t.1 < n := by omega
  by_cases ea : p = t.1
  · have eb : ¬ p = t.2 := by omega
    simp only [if_pos ea, if_neg eb]
    rw [sum_add, sum_at, sum_at, sum_none, if_pos h1, if_pos h2]
    rfl
  · by_cases eb : p = t.2
    · simp only [if_neg ea, if_pos eb]
      rw [sum_add, sum_at, sum_at, sum_none, if_pos h1, if_pos h2]
      rfl
    · simp only [if_neg ea, if_neg eb]
      rw [sum_none]
      rfl
theorem entry_sum (n p : Nat) : ∀ ts : List Tie, (∀ t ∈ ts, t.1 < t.2 ∧ t.2 < n) → ((List.range n).map fun q => entry ts p q).sum = 0
  | [], _ => by
    have : (fun q => entry [] p q) = fun _ => (0 : Int) := by
      funext q
      unfold entry
      by_cases e : p = q <;> simp [e]
    rw [this]
    exact sum_none n
  | t :: ts, h => by
    have ht := h t (List.mem_cons_self ..)
    have : (fun q => entry (t :: ts) p q) = fun q => entry ts p q + delta t p q := by
      funext q
      exact entry_cons t ts ht.1 p q
    rw [this, sum_add, entry_sum n p ts fun u hu => h u (List.mem_cons_of_mem _ hu), delta_sum t n p ht.1 ht.2]
    rfl
theorem entry_symm (ts : List Tie) (p q : Nat) : entry ts p q = entry ts q p := by
  unfold entry
  by_cases e : p = q
  · subst e
    rfl
  · have e' : ¬ q = p := fun z => e z.symm
    rw [if_neg e, if_neg e']
    congr 2
    have : joins p q = joins q p := by
      funext t
      unfold joins
      rw [Bool.or_comm]
    rw [this]
theorem entry_perm {ts us : List Tie} (h : ts.Perm us) (p q : Nat) : entry ts p q = entry us p q := by
  unfold entry
  rw [h.countP_eq, h.countP_eq]
theorem deg_len : ∀ (ts : List Tie) (p : Nat), (tiesAt ts p).length = ts.countP (meets p) := by
  intro ts p
  have key : ∀ i, i ≤ ts.length → ((List.range i).filter (hit ts p)).length = (ts.take i).countP (meets p) := by
    intro i
    induction i with
    | zero => intro _; rfl
    | succ i ih =>
      intro hi
      have hg : ts[i]? = some ts[i] := by simp [show i < ts.length by omega]
      rw [range_filter_succ, List.length_append, ih (by omega), List.take_add_one, hg, List.countP_append, hit_at hg]
      show _ = _ + List.countP (meets p) [ts[i]]
      rw [List.countP_singleton]
      show _ + (if meets p ts[i] = true then [i] else []).length = _
      by_cases h : meets p ts[i] = true
      · rw [if_pos h, if_pos h]; rfl
      · rw [if_neg h, if_neg h]; rfl
  have := key ts.length (Nat.le_refl _)
  rw [List.take_of_length_le (Nat.le_refl _)] at this
  exact this
theorem joins_pair {p q : Nat} {t : Tie} (h : t.1 < t.2) (e : p ≠ q) : joins p q t = decide (t = (min p q, max p q)) := by
  obtain ⟨a, b⟩ := t
  have h : a < b := h
  unfold joins
  rcases Nat.lt_or_ge p q with z | z
  · have e1 : min p q = p := by omega
    have e2 : max p q = q := by omega
    rw [e1, e2]
    by_cases c : a = p ∧ b = q
    · obtain ⟨rfl, rfl⟩ := c
      simp
    · have c' : ¬ ((a, b) = (p, q)) := fun z => c (Prod.mk.inj z)
      rw [decide_eq_false c', Bool.or_eq_false_iff, Bool.and_eq_false_iff, Bool.and_eq_false_iff]
      simp only [beq_eq_false_iff_ne]
      omega
  · have e1 : min p q = q := by omega
    have e2 : max p q = p := by omega
    rw [e1, e2]
    by_cases c : a = q ∧ b = p
    · obtain ⟨rfl, rfl⟩ := c
      simp
    · have c' : ¬ ((a, b) = (q, p)) := fun z => c (Prod.mk.inj z)
      rw [decide_eq_false c', Bool.or_eq_false_iff, Bool.and_eq_false_iff, Bool.and_eq_false_iff]
      simp only [beq_eq_false_iff_ne]
      omega
/-! ### each tie is at two places -/
def seen (ts : List Tie) (i k : Nat) : Int := match ts[k]? with
  | some t => (if t.1 < i then 1 else 0) + (if t.2 < i then 1 else 0)
  | none => 0
theorem seen_zero (ts : List Tie) (k : Nat) : seen ts 0 k = 0 := by
  unfold seen
  split <;> simp
theorem seen_succ {ts : List Tie} {i k : Nat} (h : ∀ t ∈ ts, t.1 < t.2) : seen ts (i + 1) k = seen ts i k + if hit ts i k = true then 1 else 0 := by
  unfold seen hit
  cases e : ts[k]? with
  | none => simp
  | some t =>
    have ht := h t (List.mem_of_getElem? e)
    obtain ⟨a, b⟩ := t
    have ht : a < b := ht
    simp only [Bool.or_eq_true, beq_iff_eq]
    by_cases h1 : a = i
    · subst h1
      have c1 : ¬ b < a := by omega
      have c2 : ¬ b < a + 1 := by omega
      simp [c1, c2]
    · by_cases h2 : b = i
      · subst h2
        have c1 : a < b := ht
        have c2 : a < b + 1 := by omega
        simp [c1, c2]
      · simp only [h1, h2, or_self, if_false]
        have c1 : (a < i + 1) = (a < i) := by apply propext; omega
        have c2 : (b < i + 1) = (b < i) := by apply propext; omega
        simp only [c1, c2]
        omega
theorem seen_all {ts : List Tie} {n k : Nat} (h : ∀ t ∈ ts, t.1 < t.2 ∧ t.2 < n) (hk : k < ts.length) : seen ts n k = 2 := by
  unfold seen
  have e : ts[k]? = some ts[k] := by simp [hk]
  rw [e]
  have ht := h ts[k] (List.getElem_mem hk)
  have h1 : ts[k].1 < n := by omega
  simp [h1, ht.2]
theorem mem_tiesAt {ts : List Tie} {p k : Nat} : k ∈ tiesAt ts p ↔ k < ts.length ∧ hit ts p k = true := by
  unfold tiesAt
  rw [List.mem_filter, List.mem_range]
theorem tiesAt_nodup (ts : List Tie) (p : Nat) : (tiesAt ts p).Nodup := (List.nodup_range (n := ts.length)).sublist List.filter_sublist
end BV

namespace BV
open PySem L2
theorem tAsg_by {te : TE} {g : TG} {D : Ends} {σ : L2.St} {H : Hp} (P : V → Hp → Prop) (cont : ∀ v H', P v H' → g v σ H' D.nx)
    (h : (∀ v H', P v H' → g v σ H' D.nx) → te σ H (fun x H1 => g x σ H1 D.nx)) : tAsg te g D σ H := h cont
theorem get_map {α β : Type} {f : α → β} {l : List α} {i : Nat} {y : β} (h : (l.map f)[i]? = some y) : ∃ x, l[i]? = some x ∧ y = f x := by
  rw [List.getElem?_map] at h
  cases e : l[i]? with
  | none =>
    rw [e] at h
    cases h
  | some x =>
    rw [e] at h
    exact ⟨x, rfl, (Option.some.inj h).symm⟩
theorem still_ints : ∀ ns : List Int, stillAll (ns.map PyData.int) = true
  | [] => by simp [stillAll]
  | n :: ns => by simp [stillAll, still, still_ints ns]
theorem ints_row (f : Nat → Int) (n : Nat) : ((List.range n).map fun q => PyData.int (f q)) = ((List.range n).map f).map PyData.int := by rw [List.map_map]; rfl
theorem ints_rowV (f : Nat → Int) (n : Nat) : ((List.range n).map fun q => V.int (f q)) = ((List.range n).map f).map V.int := by rw [List.map_map]; rfl
theorem still_row (ts : List Tie) (n p : Nat) : still (rowD ts n p) = true := by
  have h := still_ints ((List.range n).map fun q => entry ts p q)
  rw [← ints_row] at h
  simpa [rowD, still] using h
theorem still_rows (ts : List Tie) (n : Nat) : ∀ l : List Nat, stillAll (l.map (rowD ts n)) = true
  | [] => by simp [stillAll]
  | p :: l => by simp [stillAll, still_row, still_rows ts n l]

/-! ### what may be written as a text -/
theorem tiny_ints : ∀ ns : List Int, (∀ n ∈ ns, n.natAbs < 2 ^ 200) → tinyAll (ns.map PyData.int) = true ∧ nodesAll (ns.map PyData.int) = ns.length ∧ PyData.depthAll (ns.map PyData.int) = 0
  | [], _ => by simp [tinyAll, nodesAll, PyData.depthAll]
  | n :: ns, h => by
    obtain ⟨a, b, c⟩ := tiny_ints ns fun m hm => h m (List.mem_cons_of_mem _ hm)
    have hn := h n (List.mem_cons_self ..)
    have hl : n.natAbs.log2 < 300 := Nat.lt_of_lt_of_le (PySem.Flt.log2_lt_of (by decide) hn) (by decide)
    refine ⟨by simp [tinyAll, tiny, hl, a], ?_, by simp [PyData.depthAll, PyData.depth, c]⟩
    simp only [List.map_cons, nodesAll, nodes, b, List.length_cons]
    omega
theorem tiny_row (f : Nat → Int) (n : Nat) (h : ∀ q, (f q).natAbs < 2 ^ 200) : tiny (.tuple ((List.range n).map fun q => .int (f q))) = true ∧
    nodes (.tuple ((List.range n).map fun q => .int (f q))) = n + 1 ∧ (PyData.tuple ((List.range n).map fun q => .int (f q))).depth = 1 := by
  rw [ints_row]
  obtain ⟨a, b, c⟩ := tiny_ints ((List.range n).map f) fun m hm => by
    obtain ⟨q, _, rfl⟩ := List.mem_map.mp hm
    exact h q
  refine ⟨by simp only [tiny, a], ?_, by simp only [PyData.depth, c]⟩
  simp only [nodes, b, List.length_map, List.length_range]
theorem show_lot (ks : List Nat) (h : ∀ k ∈ ks, k < 100000) (hl : ks.length ≤ 1000) : Show (lotD ks) := by
  have e : lotD ks = .tuple ((ks.map fun (k : Nat) => (k : Int)).map PyData.int) := by unfold lotD; rw [List.map_map]; rfl
  obtain ⟨a, b, c⟩ := tiny_ints (ks.map fun (k : Nat) => (k : Int)) fun m hm => by
    obtain ⟨q, hq, rfl⟩ := List.mem_map.mp hm
    have := h q hq
    have e2 : ((q : Int)).natAbs = q := by omega
    rw [e2]
    exact Nat.lt_of_lt_of_le this (by decide)
  rw [e]
  refine show_of (by simp only [tiny, a]) (by simp only [PyData.depth, c]; decide) ?_
  simp only [nodes, b, List.length_map]
  omega
theorem entry_small (ts : List Tie) (hl : ts.length ≤ 100000) (p q : Nat) : (entry ts p q).natAbs < 2 ^ 200 := by
  have h1 := List.countP_le_length (p := meets p) (l := ts)
  have h2 := List.countP_le_length (p := joins p q) (l := ts)
  have : (entry ts p q).natAbs ≤ 100000 := by
    unfold entry
    split <;> omega
  exact Nat.lt_of_le_of_lt this (by decide)
theorem tiny_rows (ts : List Tie) (n : Nat) (hl : ts.length ≤ 100000) : ∀ l : List Nat, tinyAll (l.map (rowD ts n)) = true ∧ nodesAll (l.map (rowD ts n)) = l.length * (n + 1) ∧ PyData.depthAll (l.map (rowD ts n)) ≤ 1
  | [] => by simp [tinyAll, nodesAll, PyData.depthAll]
  | p :: l => by
    obtain ⟨a, b, c⟩ := tiny_rows ts n hl l
    obtain ⟨a1, b1, c1⟩ := tiny_row (entry ts p) n fun q => entry_small ts hl p q
    refine ⟨?_, ?_, ?_⟩
    · simp only [List.map_cons, tinyAll, a, Bool.and_true]
      exact a1
    · simp only [List.map_cons, nodesAll, b, List.length_cons]
      have : nodes (rowD ts n p) = n + 1 := b1
      rw [this, Nat.succ_mul]
      omega
    · simp only [List.map_cons, PyData.depthAll]
      have : (rowD ts n p).depth = 1 := c1
      omega
theorem show_mat (n : Nat) (ts : List Tie) (hl : ts.length ≤ 100000) (hn : n ≤ 100) : Show (matD n ts) := by
  obtain ⟨a, b, c⟩ := tiny_rows ts n hl (List.range n)
  refine show_of (by simp [matD, tiny, a]) (by simp only [matD, PyData.depth]; omega) ?_
  simp only [matD, nodes, b, List.length_range]
  have := Nat.mul_le_mul hn (Nat.add_le_add_right hn 1)
  omega
theorem tiny_ties : ∀ ts : List Tie, (∀ t ∈ ts, t.1 < 100000 ∧ t.2 < 100000) → tinyAll (ts.map tieD) = true ∧ nodesAll (ts.map tieD) = 3 * ts.length ∧ PyData.depthAll (ts.map tieD) ≤ 1
  | [], _ => by simp [tinyAll, nodesAll, PyData.depthAll]
  | t :: ts, h => by
    obtain ⟨a, b, c⟩ := tiny_ties ts fun m hm => h m (List.mem_cons_of_mem _ hm)
    have ht := h t (List.mem_cons_self ..)
    obtain ⟨a1, b1, c1⟩ := tiny_ints [(t.1 : Int), (t.2 : Int)] fun m hm => by
      have e1 : (2 : Nat) ^ 200 > 100000 := by decide
      rcases List.mem_cons.mp hm with rfl | hm
      · omega
      · obtain rfl := List.mem_singleton.mp hm
        omega
    have e : tieD t = .tuple ([(t.1 : Int), (t.2 : Int)].map PyData.int) := rfl
    refine ⟨?_, ?_, ?_⟩
    · simp only [List.map_cons, tinyAll, a, Bool.and_true]
      rw [e]
      simp only [tiny]
      exact a1
    · have e2 : nodes (tieD t) = 3 := by
        rw [e]
        simp only [nodes, b1]
        rfl
      simp only [List.map_cons, nodesAll, b, e2, List.length_cons]
      omega
    · have e3 : (tieD t).depth = 1 := by
        rw [e]
        simp only [PyData.depth, c1]
      simp only [List.map_cons, PyData.depthAll, e3]
      omega
theorem show_web (n : Nat) (ts : List Tie) (h : ∀ t ∈ ts, t.1 < 100000 ∧ t.2 < 100000) (hn : n < 100000) (hl : ts.length ≤ 4000) : Show (webD n ts) := by
  obtain ⟨a, b, c⟩ := tiny_ties ts h
  have e : ((n : Int)).natAbs.log2 < 300 := by
    have : ((n : Int)).natAbs < 2 ^ 200 := Nat.lt_of_lt_of_le (show ((n : Int)).natAbs < 100000 by omega) (by decide)
    exact Nat.lt_of_lt_of_le (PySem.Flt.log2_lt_of (by decide) this) (by decide)
  refine show_of ?_ ?_ ?_
  · simp only [webD, tiesD, tiny, tinyAll, a, decide_eq_true e, Bool.and_self]
  · simp only [webD, tiesD, PyData.depth, PyData.depthAll]
    omega
  · simp only [webD, tiesD, nodes, nodesAll, b]
    omega

/-! ### the numbers of the ties at a place, by a comprehension -/
theorem lc_hits {K : PySem.W.Frag} {te : TE} {σ : L2.St} {H : Hp} {c : Addr} {ys : List V} {ts : List Tie} {p ik ie ip : Nat} {Q : VK}
    (hc : SqT K H c ys) (hys : DpAll K H ys (ts.map tieD)) (hl : ts.length ≤ 3000) (hte : ∀ Q : VK, Q (.ref c) H → te σ H Q)
    (hw : ∀ v u, wipe (((wipe σ [ik, ie]).set ik v).set ie u) [ik, ie] = wipe σ [ik, ie])
    (hk : ∀ v u, (((wipe σ [ik, ie]).set ik v).set ie u)[ik]? = some v) (he : ∀ v u, (((wipe σ [ik, ie]).set ik v).set ie u)[ie]? = some u)
    (hp : ∀ v u, (((wipe σ [ik, ie]).set ik v).set ie u)[ip]? = some (some (.int (p : Int))))
    (h : ∀ D H', H' D = some (.lst ((tiesAt ts p).map fun (k : Nat) => V.int k)) → Same H H' → H D = none → Q (.ref D) H') :
    tLc (iEnumT K (tCons te tNil)) (gTup K 2 (gCons (gName ik) (gCons (gName ie) gNil))) (tTest (tOp (rIn K false) (tVar ip) (tVar ie))) (tVar ik) [ik, ie] σ H Q := by
  have hyl : ys.length = ts.length := by rw [dpAll_len hys, List.length_map]
  refine hte _ ?_
  refine ⟨c, ys, rfl, hc, fun D hD => ?_⟩
  refine lc_run walk_enumT hD (fun i acc _ => acc = ((List.range i).filter (hit ts p)).map fun (k : Nat) => V.int k) ?_ ?_ ?_ ?_
  · exact fun H' s => sqT_same s hc
  · rfl
  · rintro i x acc H2 H' hi hacc e s r ⟨q, u, y, rfl, hq, rfl, hu, hy⟩
    cases hu
    obtain ⟨d, hd, hv⟩ := dpAll_get hys hy
    obtain ⟨t', ht', rfl⟩ := get_map hd
    have sq : Same H2 (upd H2 q (.tup [.int (i : Nat), y])) := same_new hq
    obtain ⟨pa, rfl, hpa⟩ := dp_tie (dp_same (s.trans sq) _ hv)
    refine ⟨q, _, rfl, SqT.of upd_same, rfl, _, _, rfl, _, _, rfl, rfl, hw _ _, ?_⟩
    refine ⟨_, hp _ _, _, he _ _, pa, _, rfl, .inr hpa, rfl, rfl, _, rfl, ?_⟩
    show (if inV (.int (p : Int)) [.int t'.1, .int t'.2] = true then _ else _)
    have hacc2 : ((List.range i).filter (hit ts p)).length ≤ i := Nat.le_trans (List.length_filter_le _ _) (by rw [List.length_range]; exact Nat.le_refl _)
    have hin : inV (.int (p : Int)) [.int t'.1, .int t'.2] = hit ts p i := by rw [inv_tie, hit_at ht']
    have r' : acc = ((List.range i).filter (hit ts p)).map fun (k : Nat) => V.int k := r
    rw [hin]
    refine ite2 (fun hh => ?_) (fun hh => ?_)
    · refine ⟨_, hk _ _, ?_⟩
      refine lc_add hacc e sq (by rw [r', List.length_map]; omega) ?_
      rw [range_filter_succ, if_pos hh, List.map_append, r']
      rfl
    · refine lc_skip hacc e sq ?_
      rw [range_filter_succ, if_neg hh, List.append_nil]
      exact r'
  · rintro acc H2 h1 s2 r
    have r' : acc = ((List.range ys.length).filter (hit ts p)).map fun (k : Nat) => V.int k := r
    rw [hyl] at r'
    refine h D H2 ?_ s2 hD
    rw [h1, r']
    rfl
theorem dp_lot {K : PySem.W.Frag} {H : Hp} {u : Addr} {ks : List Nat} (h : H u = some (.tup (ks.map fun (k : Nat) => V.int k))) : Dp K H (.ref u) (lotD ks) := by
  refine .tup (SqT.of h) ?_
  have e2 : (ks.map fun (k : Nat) => PyData.int k) = (ks.map fun (k : Nat) => (k : Int)).map PyData.int := by rw [List.map_map]; rfl
  have e3 : (ks.map fun (k : Nat) => V.int k) = (ks.map fun (k : Nat) => (k : Int)).map V.int := by rw [List.map_map]; rfl
  rw [e2, e3]
  exact dpAll_ints _
/-- the equal ones counted by a comprehension of ones -/
theorem lc_pairs {K : PySem.W.Frag} {tp : TE} {σ : L2.St} {H : Hp} {c : Addr} {ys : List V} {ts : List Tie} {x y ic ie : Nat} {Q : VK}
    (hc : SqT K H c ys) (hys : DpAll K H ys (ts.map tieD)) (hl : ts.length ≤ 3000) (hcs : σ[ic]? = some (some (.ref c)))
    (hw : ∀ u, wipe ((wipe σ [ie]).set ie u) [ie] = wipe σ [ie]) (he : ∀ u, ((wipe σ [ie]).set ie u)[ie]? = some u)
    (htp : ∀ u H' (Q : VK), (∀ p, H' p = none → Q (.ref p) (upd H' p (.tup [.int (x : Int), .int (y : Int)]))) → tp ((wipe σ [ie]).set ie u) H' Q)
    (h : ∀ D H', H' D = some (.lst (List.replicate (ts.countP fun t => decide (t = (x, y))) (V.int 1))) → Same H H' → H D = none → Q (.ref D) H') :
    tLc (iTup K (tVar ic)) (gName ie) (tTest (tOp (rEqD K) (tVar ie) tp)) (tC (.int 1)) [ie] σ H Q := by
  have hyl : ys.length = ts.length := by rw [dpAll_len hys, List.length_map]
  refine ⟨_, hcs, c, rfl, ⟨ys, hc⟩, fun D hD => ?_⟩
  refine lc_run (walk_tup (xs := ys)) hD (fun i acc _ => acc = List.replicate ((ts.take i).countP fun t => decide (t = (x, y))) (V.int 1)) ?_ ?_ ?_ ?_
  · exact fun H' s => sqT_same s hc
  · rfl
  · rintro i v acc H2 H' hi hacc e s r ⟨rfl, hv⟩
    obtain ⟨d, hd, hdp⟩ := dpAll_get hys hv
    obtain ⟨t, ht, rfl⟩ := get_map hd
    refine ⟨hw _, ?_⟩
    refine ⟨_, he _, htp _ _ _ fun q hq => ?_⟩
    have sq : Same H' (upd H' q (.tup [.int (x : Int), .int (y : Int)])) := same_new hq
    have s1 : SeqAt.shaped (tieD t) = true := by simp [SeqAt.shaped, tieD, PyData.canLay0, PyData.canLayAll0, PyData.depth, PyData.depthAll]
    have s2 : SeqAt.shaped (tieD (x, y)) = true := by simp [SeqAt.shaped, tieD, PyData.canLay0, PyData.canLayAll0, PyData.depth, PyData.depthAll]
    refine ⟨tieD t, tieD (x, y), dp_same (s.trans sq) _ hdp, .tup (SqT.of upd_same) (.cons (.int _) (.cons (.int _) .nil)), s1, s2, _, rfl, ?_⟩
    have r' : acc = List.replicate ((ts.take i).countP fun t => decide (t = (x, y))) (V.int 1) := r
    have hcl : (ts.take i).countP (fun t => decide (t = (x, y))) ≤ 3000 := Nat.le_trans List.countP_le_length (by rw [List.length_take]; omega)
    have hstep : (ts.take (i + 1)).countP (fun t => decide (t = (x, y))) = (ts.take i).countP (fun t => decide (t = (x, y))) + if t = (x, y) then 1 else 0 := by
      rw [List.take_add_one, ht, List.countP_append]
      show _ + List.countP _ [t] = _
      rw [List.countP_singleton]
      simp
    have heq : PyData.eqv (tieD t) (tieD (x, y)) = decide (t = (x, y)) := by
      obtain ⟨a, b⟩ := t
      have e1 : ∀ m n : Nat, (((m : Int)) == ((n : Int))) = decide (m = n) := fun m n => by
        by_cases z : m = n
        · subst z; simp
        · rw [decide_eq_false z]
          exact beq_eq_false_iff_ne.mpr fun w => z (by omega)
      have e2 : decide ((a, b) = (x, y)) = (decide (a = x) && decide (b = y)) := by
        rw [← Bool.decide_and]
        congr 1
        exact propext ⟨fun z => Prod.mk.inj z, fun z => by rw [z.1, z.2]⟩
      rw [e2]
      show (((a : Int) == (x : Int)) && (((b : Int) == (y : Int)) && true)) = _
      rw [e1, e1, Bool.and_true]
    rw [heq]
    refine ite2 (fun hh => ?_) (fun hh => ?_)
    · have hh' := of_decide_eq_true hh
      refine lc_add hacc e sq (by rw [r', List.length_replicate]; omega) ?_
      rw [hstep, if_pos hh', r', List.replicate_succ']
    · have hh' : ¬ t = (x, y) := fun z => hh (decide_eq_true z)
      refine lc_skip hacc e sq ?_
      rw [hstep, if_neg hh', Nat.add_zero]
      exact r'
  · rintro acc H2 h1 s2 r
    have r' : acc = List.replicate ((ts.take ys.length).countP fun t => decide (t = (x, y))) (V.int 1) := r
    rw [hyl, List.take_of_length_le (Nat.le_refl _)] at r'
    exact h D H2 (by rw [h1, r']) s2 hD
end BV

namespace BV
open PySem L2
theorem tupLc_by {K : PySem.W.Frag} {wi : TI} {g : TG} {tt : TT} {te : TE} {vs : List Nat} {σ : L2.St} {H : Hp} {i : Nat} {D : Ends}
    (h : tLc wi g tt te vs σ H (fun x H1 => rTupK K [x] H1 (fun v H2 => D.nx (σ.set i (some v)) H2))) :
    tAsg (tCB (rTupK K) (tCons (tLc wi g tt te vs) tNil)) (gName i) D σ H := h
theorem lenLc_by {K : PySem.W.Frag} {wi : TI} {g : TG} {tt : TT} {te : TE} {vs : List Nat} {σ : L2.St} {H : Hp} {i : Nat} {D : Ends}
    (h : tLc wi g tt te vs σ H (fun x H1 => rLenK K [x] H1 (fun v H2 => D.nx (σ.set i (some v)) H2))) :
    tAsg (tCB (rLenK K) (tCons (tLc wi g tt te vs) tNil)) (gName i) D σ H := h
end BV

namespace BV
open PySem L2
theorem reps (n : Nat) (v : V) : (List.replicate n [v]).flatten = (List.range n).map fun _ => v := by
  induction n with
  | zero => rfl
  | succ n ih =>
    rw [List.replicate_succ', List.flatten_append, ih, List.range_succ, List.map_append]
    rfl
theorem shaped_row (f : Nat → Int) (n : Nat) : SeqAt.shaped (.tuple ((List.range n).map fun q => .int (f q))) = true := by
  rw [ints_row]
  have h1 := lay_ints ((List.range n).map f)
  have h2 := deep_ints ((List.range n).map f)
  have h3 : PyData.depthAll (((List.range n).map f).map PyData.int) + 1 ≤ 64 := by omega
  simp only [SeqAt.shaped, PyData.canLay0, PyData.depth, h1, Bool.true_and]
  exact decide_eq_true h3
theorem dp_row {K : PySem.W.Frag} {H : Hp} {v : V} {f : Nat → Int} {n : Nat} (h : Dp K H v (.tuple ((List.range n).map fun q => .int (f q)))) :
    ∃ a, v = .ref a ∧ SqT K H a ((List.range n).map fun q => V.int (f q)) := by
  obtain ⟨a, xs, e, h1, h2⟩ := dp_tup h
  rw [ints_row] at h2
  rw [ints_rowV, ← dpAll_ints' h2]
  exact ⟨a, e, h1⟩
theorem eqv_self {d : PyData} (h : SeqAt.shaped d = true) : PyData.eqv d d = true := by
  have h1 : d.canLay0 = true := SeqAt.canLay_of_shaped h
  first | exact PySem.eqv_refl d h1 | exact PySem.P3.eqv_refl d h1 | exact PySem.SeqAt.eqv_refl d h1 | exact PyData.eqv_refl d h1
/-- nothing in it: two empty lists -/
theorem none_found {K : PySem.W.Frag} {H : Hp} {a b : Addr} (ha : H a = some (.lst [])) (hb : H b = some (.lst [])) :
    ∃ d e, Dp K H (.ref a) d ∧ Dp K H (.ref b) e ∧ SeqAt.shaped d = true ∧ SeqAt.shaped e = true ∧ PyData.eqv d e = true :=
  ⟨.list [], .list [], .lst (SqL.of ha) .nil, .lst (SqL.of hb) .nil, shaped_intsL [], shaped_intsL [], by rfl⟩
end BV

namespace BV
open PySem PySem.Spec PyProof.Rows L2

/-! ### t * k for k from 1 on: once is the tuple itself -/
theorem mul_once (l : Addr) (items : Array Value) (n : Nat) (dd : Option Addr) (sl : Array (Option Value)) (u : Tok) :
    Meets (Builtin.«tuple.__mul__» ⟨[.ref l, .int 1 u], []⟩) (fun _ R s => s.heap.get? l = some { cls := .type "tuple", dict := dd, data := .seq items n, slots := sl } ∧
      R (.ok (.ret (Value.ref l))) s) := by
  refine .of_wp fun prog w A R s h => ?_
  obtain ⟨hp, g, d, tk, os⟩ := s
  obtain ⟨hl, h⟩ := h
  have f1 := AutoSeq1.idx_int
  have c0 : (decide ((1 : Int) < -(2 ^ 63)) || decide ((1 : Int) ≥ 2 ^ 63)) = false := by decide
  have c1 : (items.isEmpty || (1 : Int) == 1) = true := by simp
  wp_walk using AutoSeq1.wpAny_loadPart' hl
  repeat (first
    | (refine wpAny_ite_false (decide_eq_false (by rw [c0]; exact Bool.false_ne_true)) ?_; wp_walk using AutoSeq1.wpAny_loadPart' hl)
    | (refine wpAny_ite_true (decide_eq_true c1) ?_; wp_walk using AutoSeq1.wpAny_loadPart' hl))
  exact ⟨_, rfl, h⟩
def rRepT1 (K : PySem.W.Frag) : R2 := fun x y H Q => ∃ l k xs, x = .ref l ∧ y = .int k ∧ SqT K H l xs ∧ xs ≠ [] ∧ 1 ≤ k ∧ k ≤ 1000 ∧ xs.length ≤ 1000 ∧
  (k = 1 → Q (.ref l) H) ∧ (2 ≤ k → ∀ p, H p = none → Q (.ref p) (upd H p (.tup (List.replicate k.toNat xs).flatten)))
theorem op_repT1 {X : Cx} (K : PySem.W.Frag) (hK : X.K = K := by rfl) : OpR X (binaryOp .Mult) (rRepT1 K) := by
  subst hK
  intro pins s σ H x y v u Q I rx ry h
  obtain ⟨l, k, xs, rfl, rfl, hT, hne, h1, h2, hz, q1, q2⟩ := h
  by_cases hk : k = 1
  · subst hk
    cases rx
    obtain ⟨t, rfl⟩ := ry
    obtain ⟨its, r, ⟨⟨cls, dd, data, sl⟩, ho, hc, n, hd⟩, hs⟩ := I.tuple hT
    simp only at hc hd
    subst hc hd
    refine wpAny_binaryOp_repeat_ref (T := "tuple") (U := "int") (by decide) ⟨_, ho, rfl⟩ (fun s' => typeIs_int s' 1 t) noFill_tuple_mul F.fills_int_mul F.slot_int_rmul repeat_tuple F.slot_int_index.lookup ?_
    refine call_meets F.slot_int_rmul (typeIs_int s 1 t) F.entry_int_rmul (F.args_int_rmul_2 _ _) (int_rmul_tuple 1 t l its.toArray n dd sl) ⟨ho, rfl, ⟨_, ho, rfl⟩, ?_⟩
    refine call_meets F.slot_tuple_mul ⟨_, ho, rfl⟩ F.entry_tuple_mul (F.args_tuple_mul_2 _ _) (mul_once l its.toArray n dd sl t) ⟨ho, ?_⟩
    exact ⟨.ref l, H, I, rfl, q1 rfl⟩
  · exact op_repT pins s σ H (.ref l) (.int k) v u Q I rx ry ⟨l, k, xs, rfl, rfl, hT, hne, by omega, h2, hz, q2 (by omega)⟩
end BV

namespace BV
open PySem L2
theorem mat_perm {ts us : List Tie} (h : ts.Perm us) (n : Nat) : matD n ts = matD n us := by
  unfold matD rowD
  congr 2
  funext p
  congr 2
  funext q
  rw [entry_perm h]
theorem dpAll_rev {K : PySem.W.Frag} {H : Hp} : ∀ {ds : List PyData} {vs : List V}, DpAll K H vs ds → DpAll K H vs.reverse ds.reverse
  | [], _, h => by cases h; exact .nil
  | d :: ds, _, h => by
    cases h with
    | cons h1 h2 =>
      rw [List.reverse_cons, List.reverse_cons]
      exact dpAll_app (dpAll_rev h2) (.cons h1 .nil)
theorem flat_one (k : Nat) (v : V) : (List.replicate k [v]).flatten = List.replicate k v := by
  induction k with
  | zero => rfl
  | succ k ih =>
    rw [List.replicate_succ, List.flatten_cons, ih, List.replicate_succ]
    rfl
theorem dp_fat {K : PySem.W.Frag} {H : Hp} {z t1 : Addr} {k : Nat} (hz : SqT K H z (List.replicate k (.ref t1))) (ht : SqT K H t1 [.int 0, .int 1]) :
    Dp K H (.ref z) (tiesD (List.replicate k (0, 1))) := by
  refine .tup hz ?_
  clear hz
  induction k with
  | zero => exact .nil
  | succ k ih =>
    rw [List.replicate_succ, List.replicate_succ, List.map_cons]
    exact .cons (.tup ht (.cons (.int _) (.cons (.int _) .nil))) ih
end BV

namespace BV
open PySem L2 RZ

/-! ### further rules that name the written part -/
section
variable {X : Cx} (K : PySem.W.Frag)
theorem slTA (h : X.K = K := by rfl) : SlR X (rSlA K) := by
  subst h
  exact sl_tupA
def rListK (K : PySem.W.Frag) : List V → Hp → VK → Prop := fun xs H Q => ∃ p ys, xs = [.ref p] ∧ (SqL K H p ys ∨ SqT K H p ys) ∧ ∀ l, H l = none → Q (.ref l) (upd H l (.lst ys))
theorem listK (h : X.K = K := by rfl) : CallR X (.type "list") (rListK K) := by
  subst h
  exact call_list_of
theorem revL {e : Expr} {te : TE} {k : Nat} {p1 p2 p3 pos : Pos} (he : PE X e te) (h : X.K = K := by rfl) :
    PE X (.Subscript e (.Slice none none (some (.UnaryOp .USub (.Constant (.int 1) k p1) p2)) p3) pos) (tRevL K te) := by
  subst h
  exact pe_revL he
theorem zipA {e e2 : Expr} {ta : TA} {p pos tpos : Pos} {elts : List Expr} {kk : Nat} (hg : Gl X "zip") (hm : X.mg "zip" = none) (ha : PA X [e, e2] ta)
    (hs : starEach [e, e2] X.env = (false, eval e X.env) :: starEach [e2] X.env := by rfl) (hpl : (backTo pos (starEach [e2] X.env)).any (·.1) = false := by rfl) (h : X.K = K := by rfl) :
    PI X (.Tuple elts kk tpos) (.Call (.Name "zip" p) [e, e2] [] pos) (iZipA K ta) := by
  subst h
  exact pi_zipA hg hm ha hs hpl
theorem rgc {a b c : Expr} {tg : Expr} {ta : TA} {p pos : Pos} (hg : Gl X "range") (hm : X.mg "range" = none) (ha : PA X [a, b, c] ta)
    (hs : starEach [a, b, c] X.env = (false, eval a X.env) :: starEach [b, c] X.env := by rfl) (hpl : (backTo pos (starEach [b, c] X.env)).any (·.1) = false := by rfl) :
    PI X tg (.Call (.Name "range" p) [a, b, c] [] pos) (iRng3 ta) := pi_range3 hg hm ha hs hpl
end
theorem walk_zipT {K : PySem.W.Frag} {a b : Addr} {xs ys : List V} (hl : xs.length = ys.length) :
    Walk (ItzT K a b) xs.length (fun H => SqT K H a xs ∧ SqT K H b ys) (YPair (fun i => xs[i]?) (fun i => ys[i]?)) := by
  refine ⟨fun i H hi q => ?_, fun H q => ⟨xs, ys, q.1, q.2, .inl (Nat.le_refl _)⟩, fun i H v H' _ q y => ?_⟩
  · have h2 : i < ys.length := by omega
    exact ⟨xs, ys, xs[i], ys[i], q.1, q.2, by simp [hi], by simp [h2]⟩
  · obtain ⟨T, x, z, h1, h2, h3, h4, h5⟩ := y
    exact ⟨T, x, z, h1, h2, h3, h4 xs q.1, h5 ys q.2⟩
theorem tAnd_by {ta : TT} {tb : TT} {σ : L2.St} {H : Hp} {Q : Bool → Hp → Prop} (h : tAnd ta tb σ H Q) : tAnd ta tb σ H Q := h

/-! ### numbers on ties -/
def numsD (L : Nat) (f : Nat → Int) : PyData := .tuple ((List.range L).map fun k => .int (f k))
def numsV (L : Nat) (f : Nat → Int) : List V := (List.range L).map fun k => V.int (f k)
theorem dp_nums {K : PySem.W.Frag} {H : Hp} {v : V} {L : Nat} {f : Nat → Int} (h : Dp K H v (numsD L f)) : ∃ a, v = .ref a ∧ SqT K H a (numsV L f) := dp_row h
theorem nums_dp {K : PySem.W.Frag} {H : Hp} {a : Addr} {L : Nat} {f : Nat → Int} (h : SqT K H a (numsV L f)) : Dp K H (.ref a) (numsD L f) := by
  refine .tup h ?_
  unfold numsV
  rw [ints_row, ints_rowV]
  exact dpAll_ints _
theorem numsV_len (L : Nat) (f : Nat → Int) : (numsV L f).length = L := by simp [numsV]
theorem numsV_get {L : Nat} {f : Nat → Int} {k : Nat} (h : k < L) : (numsV L f)[k]? = some (.int (f k)) := by
  unfold numsV
  rw [List.getElem?_map, List.getElem?_range h]
  rfl
theorem numsV_set (L : Nat) (f : Nat → Int) (k : Nat) (z : Int) : (numsV L f).set k (.int z) = numsV L (fun j => if j = k then z else f j) := by
  unfold numsV
  rw [range_set]
  apply List.map_congr_left
  intro j _
  by_cases h : j = k <;> simp [h]
theorem numsV_congr {L : Nat} {f g : Nat → Int} (h : ∀ k, k < L → f k = g k) : numsV L f = numsV L g :=
  List.map_congr_left fun k hk => by rw [h k (List.mem_range.mp hk)]
theorem numsD_congr {L : Nat} {f g : Nat → Int} (h : ∀ k, k < L → f k = g k) : numsD L f = numsD L g := by
  unfold numsD
  congr 1
  exact List.map_congr_left fun k hk => by rw [h k (List.mem_range.mp hk)]
theorem still_nums (L : Nat) (f : Nat → Int) : still (numsD L f) = true := by
  have h := still_ints ((List.range L).map f)
  rw [← ints_row] at h
  simpa [numsD, still] using h

/-! ### deeds -/
inductive Deed where
  | star (p : Nat) (t : Int) | round (ks : List Nat) (t : Int)
namespace Deed
def times : Deed → Int
  | star _ t => t
  | round _ t => t
def about : Deed → PyData
  | star p _ => .int p
  | round ks _ => lotD ks
def word : Deed → Str
  | star _ _ => "star"
  | round _ _ => "round"
def neg : Deed → Deed
  | star p t => star p (-t)
  | round ks t => round ks (-t)
def D (d : Deed) : PyData := .tuple [.str d.word, d.about, .int d.times]
def touch (ts : List Tie) : Deed → Nat → Bool
  | star p _, k => hit ts p k
  | round ks _, k => decide (k ∈ ks)
def part (ts : List Tie) (d : Deed) (k : Nat) : Int := if d.touch ts k = true then d.times else 0
def Ok (ts : List Tie) : Deed → Prop
  | star _ _ => True
  | round ks _ => (∀ k ∈ ks, k < ts.length) ∧ ks.Nodup
end Deed
/-- the numbers behind some deeds -/
def behind (ts : List Tie) (f : Nat → Int) : List Deed → Nat → Int
  | [] => f
  | d :: ds => behind ts (fun k => f k + d.part ts k) ds
def effect (ts : List Tie) (ds : List Deed) (k : Nat) : Int := (ds.map fun d => d.part ts k).sum
theorem behind_eq (ts : List Tie) : ∀ (ds : List Deed) (f : Nat → Int) (k : Nat), behind ts f ds k = f k + effect ts ds k
  | [], f, k => by simp [behind, effect]
  | d :: ds, f, k => by
    rw [behind, behind_eq ts ds]
    simp only [effect, List.map_cons, List.sum_cons]
    omega
theorem effect_perm {ts : List Tie} {ds es : List Deed} (h : ds.Perm es) (k : Nat) : effect ts ds k = effect ts es k := by
  induction h with
  | nil => rfl
  | cons d _ ih =>
    unfold effect at ih ⊢
    simp only [List.map_cons, List.sum_cons, ih]
  | swap a b l =>
    unfold effect
    simp only [List.map_cons, List.sum_cons]
    omega
  | trans _ _ ih1 ih2 => rw [ih1, ih2]
theorem effect_app (ts : List Tie) (ds es : List Deed) (k : Nat) : effect ts (ds ++ es) k = effect ts ds k + effect ts es k := by
  unfold effect
  rw [List.map_append, List.sum_append]
theorem touch_neg (ts : List Tie) (d : Deed) (k : Nat) : d.neg.touch ts k = d.touch ts k := by cases d <;> rfl
theorem part_neg (ts : List Tie) (d : Deed) (k : Nat) : d.neg.part ts k = -(d.part ts k) := by
  unfold Deed.part
  rw [touch_neg]
  split
  · cases d <;> rfl
  · rfl
theorem effect_neg (ts : List Tie) : ∀ (ds : List Deed) (k : Nat), effect ts (ds.map Deed.neg) k = -(effect ts ds k)
  | [], k => rfl
  | d :: ds, k => by
    have := effect_neg ts ds k
    unfold effect at this ⊢
    simp only [List.map_cons, List.sum_cons, this, part_neg]
    omega
theorem still_deed (d : Deed) : still d.D = true := by
  cases d with
  | star p t => simp [Deed.D, Deed.about, still, stillAll]
  | round ks t =>
    have h : stillAll (ks.map fun (k : Nat) => PyData.int k) = true := by
      have e : (ks.map fun (k : Nat) => PyData.int k) = (ks.map fun (k : Nat) => (k : Int)).map PyData.int := by rw [List.map_map]; rfl
      rw [e]
      exact still_ints _
    simp [Deed.D, Deed.about, still, stillAll, lotD, h]
theorem still_deeds : ∀ ds : List Deed, stillAll (ds.map Deed.D) = true
  | [] => by simp [stillAll]
  | d :: ds => by simp [stillAll, still_deed, still_deeds ds]
theorem still_lot (ks : List Nat) : still (lotD ks) = true := by
  have e : (ks.map fun (k : Nat) => PyData.int k) = (ks.map fun (k : Nat) => (k : Int)).map PyData.int := by rw [List.map_map]; rfl
  simp only [lotD, still, e]
  exact still_ints _
theorem dp_deed {K : PySem.W.Frag} {H : Hp} {v : V} {d : Deed} (h : Dp K H v d.D) :
    ∃ a va, v = .ref a ∧ SqT K H a [.str d.word, va, .int d.times] ∧ Dp K H va d.about := by
  obtain ⟨a, xs, e, h1, h2⟩ := dp_tup h
  cases h2 with
  | cons q1 q2 =>
    cases q1
    cases q2 with
    | cons q3 q4 =>
      cases q4 with
      | cons q5 q6 =>
        cases q5
        cases q6
        exact ⟨a, _, e, h1, q3⟩
theorem dp_lotI {K : PySem.W.Frag} {H : Hp} {v : V} {ks : List Nat} (h : Dp K H v (lotD ks)) : ∃ a, v = .ref a ∧ SqT K H a (ks.map fun (k : Nat) => V.int k) := by
  obtain ⟨a, xs, e, h1, h2⟩ := dp_tup h
  have e2 : (ks.map fun (k : Nat) => PyData.int k) = (ks.map fun (k : Nat) => (k : Int)).map PyData.int := by rw [List.map_map]; rfl
  have e3 : (ks.map fun (k : Nat) => V.int k) = (ks.map fun (k : Nat) => (k : Int)).map V.int := by rw [List.map_map]; rfl
  rw [e2] at h2
  rw [e3, ← dpAll_ints' h2]
  exact ⟨a, e, h1⟩
def spDo (K : PySem.W.Frag) : Sp := fun vs H Q _ => ∃ (v dv : V) (l : Addr) (n : Nat) (ts : List Tie) (d : Deed) (f : Nat → Int), vs = [v, .ref l, dv] ∧
  Dp K H v (webD n ts) ∧ Dp K H dv d.D ∧ d.Ok ts ∧ ts.length ≤ 3000 ∧ H l = some (.lst (numsV ts.length f)) ∧
  ∀ H', Kp l l H H' → H' l = some (.lst (numsV ts.length fun k => f k + d.part ts k)) → Q .non H'
def spDone (K : PySem.W.Frag) : Sp := fun vs H Q _ => ∃ (v sv dv : V) (n : Nat) (ts : List Tie) (f : Nat → Int) (ds : List Deed), vs = [v, sv, dv] ∧
  Dp K H v (webD n ts) ∧ Dp K H sv (numsD ts.length f) ∧ Dp K H dv (.tuple (ds.map Deed.D)) ∧ (∀ d ∈ ds, d.Ok ts) ∧ ts.length ≤ 3000 ∧
  ∀ u H', Same H H' → Dp K H' u (numsD ts.length (behind ts f ds)) → Q u H'
def spUndone (K : PySem.W.Frag) : Sp := fun vs H Q _ => ∃ (dv : V) (ds : List Deed), vs = [dv] ∧ Dp K H dv (.tuple (ds.map Deed.D)) ∧ ds.length ≤ 3000 ∧
  ∀ u H', Same H H' → Dp K H' u (.tuple ((ds.reverse.map Deed.neg).map Deed.D)) → Q u H'
def spDiff (K : PySem.W.Frag) : Sp := fun vs H Q _ => ∃ (v u : V) (L : Nat) (f g : Nat → Int), vs = [v, u] ∧ Dp K H v (numsD L f) ∧ Dp K H u (numsD L g) ∧ L ≤ 3000 ∧
  ∀ z H', Same H H' → Dp K H' z (numsD L fun k => g k - f k) → Q z H'
end BV

namespace BV
open PySem L2
local macro_rules | `(tactic| walk_at "rd") => `(tactic| (repeat (first | refine ⟨_, rfl, ?_⟩ | refine ⟨_, _, rfl, rfl, ?_⟩ | refine Or.inl ⟨_, rfl, ?_⟩ | refine Or.inr ⟨_, rfl, ?_⟩ | refine ⟨_, _, rfl, ?_⟩)))
def top (i : Nat) : Stmt := PySem.Challenge.pw_botheven_k01_what_is_a_web.main.body.getD i (.Pass ⟨0, 0, 0, 0⟩)
abbrev sBox : Stmt := top 15
abbrev nBox : List Str := ["_law_script", "_law_marks", "_law_stirred", "_law_mark", "_law_cell"]
theorem scBox : FnScope nBox ["_law_script"] (defScope sBox) := ⟨rfl, rfl, rfl, by decide +kernel, rfl, by decide +kernel, by decide +kernel⟩
section
variable {P : Program} {w : World} {K : PySem.W.Frag} {mg : Str → Option Value} {base : Heap}
theorem ok_box {f : Addr} {fd : FuncData} (D : Df K mg "_law_box" sBox ["_law_script"] f fd) (T : Bl mg) : FnOk P w K mg base CX0 1 f fd ["_law_script"] (spBox K) := by
  refine D.fn.ok scBox (fun vs H Q E h => ?_) (fun cdv A outer s H vs Q E hr h => ?_)
  · obtain ⟨a, ns, rfl, _⟩ := h
    rfl
  · obtain ⟨a, ns, rfl, hS, hlen, k⟩ := h
    have hu := hu_of hr
    have nd := scBox.nd
    refine ⟨_, (pss_cons (ps_par (i := 1) (j := 2) (by rfl) nd rfl rfl (by decide) rfl rfl (pa_cons (pe_lc (own := [("_law_cell", 4)]) (g := gName 4) (tt := tYes) rfl nd (pi_list (pe_slice sl_list (pv 0) po_none (po_some pe_int))) (blkOk_by (own := [("_law_cell", 4)]) (N := nBox) (sc := defScope sBox) (by decide +kernel)) (fun _ _ _ _ _ => (pg_name (i := 4) nd rfl (by first | exact Or.inl rfl | exact Or.inr rfl))) (fun _ _ _ _ _ => pts_nil) (fun _ _ _ _ _ => (pe_op op_add (pe_op op_mul pe_int (pe_callB call_abs (by rfl) T.abs (by decide +kernel) (pa_cons (pv 4) pa_nil))) (pe_callTy call_int1 (by rfl) T.int (by decide +kernel) (pa_cons (pe_cmpR op_lt (pv 4) pe_int (nomark _)) pa_nil))))) (pa_cons (pe_op op_add pe_int (pe_callB call_len_seq (by rfl) T.len PySem.boot_len (pa_cons (pv 0) pa_nil))) pa_nil)) (by rfl))
      (pss_cons (ps_for PassesOwn.never rfl (pi_list (pv 1)) (pg_name (i := 3) nd rfl (by first | exact Or.inl rfl | exact Or.inr rfl)) (pss_one (ps_set (i := 2) nd rfl (by first | exact Or.inl rfl | exact Or.inr rfl) (pe_op op_mod (pe_callTy call_int1 (by rfl) T.int (by decide +kernel) (pa_cons (pe_op op_add (pe_op op_mul (pv 2) pe_int) (pv 3)) pa_nil)) pe_int))))
      (pss_one (ps_ret (pe_disp (pps_cons pe_str (pe_lc (own := [("_law_mark", 3)]) (g := gName 3) rfl nd (pi_list (pv 1)) (blkOk_by (own := [("_law_mark", 3)]) (N := nBox) (sc := defScope sBox) (by decide +kernel)) (fun _ _ _ _ _ => (pg_name (i := 3) nd rfl (by first | exact Or.inl rfl | exact Or.inr rfl))) (fun _ _ _ _ _ => (pts_one (pt_cmpR op_gt (pv 3) (pe_op op_pow pe_int pe_int) (nomark _)))) (fun _ _ _ _ _ => (pv 3))) (pps_cons pe_str (pv 2) (pps_cons pe_str pe_int pps_nil))) (by rfl) (by rfl) (fun z => by cases z) (by decide)))))), ?_⟩
    -- the comprehension over script[:63]
    refine ⟨_, rfl, 63, rfl, a, _, rfl, hS, fun p hp => ?_⟩
    refine ⟨p, rfl, ⟨_, SqL.of upd_same⟩, fun D hD => ?_⟩
    have s1 : Same H (upd H p (.lst (cutV (ns.map V.int) none (some 63)))) := same_new hp
    refine lc_run (walk_list (xs := cutV (ns.map V.int) none (some 63))) hD (fun i acc _ => acc.length = i ∧ ∃ ms : List Int, acc = ms.map V.int) ?_ ?_ ?_ ?_
    · exact fun H' s => SqL.of (s _ _ upd_same)
    · exact ⟨rfl, [], rfl⟩
    · rintro i x acc H2 H' hi ha e s ⟨hl, ms, rfl⟩ ⟨rfl, hx⟩
      obtain ⟨z, rfl⟩ : ∃ z : Int, x = .int z := by
        have h1 : x ∈ cutV (ns.map V.int) none (some 63) := List.mem_of_getElem? hx
        have h2 : x ∈ ns.map V.int := List.mem_of_mem_drop (List.mem_of_mem_take h1)
        obtain ⟨z, _, e⟩ := List.mem_map.mp h2
        exact ⟨z, e.symm⟩
      refine ⟨rfl, yes_go ?_⟩
      walk_at "rd"
      refine ⟨.inl ⟨by decide, by decide⟩, ?_⟩
      walk_at "rd"
      have hms : ms.length = i := by rw [← hl, List.length_map]
      have hb : cutV (ns.map V.int) none (some 63) = ns.map V.int := by
        rw [show cutV (ns.map V.int) none (some 63) = ((ns.map V.int).drop 0).take (min 63 (ns.map V.int).length - 0) from rfl, List.drop_zero, List.take_of_length_le]
        rw [List.length_map]
        omega
      have hi2 : i < 63 := by
        rw [hb, List.length_map] at hi
        omega
      refine lc_add ha e (Same.refl _) (by rw [hl]; omega) ⟨by rw [List.length_append, hl]; rfl, ms ++ [_], by rw [List.map_append]; rfl⟩
    · rintro acc H2 hD2 s2 ⟨hl, ms, rfl⟩
      have hS2 : SqL K H2 a (ns.map V.int) := Same.seq (Same.trans s1 s2) hS
      have hml : ms.length ≤ 63 := by
        have h0 := cutV_length (ns.map V.int) none (some 63)
        rw [List.length_map] at h0 hl
        omega
      walk_at "rd"
      refine ⟨_, _, rfl, .inl hS2, ?_⟩
      walk_at "rd"
      -- the stirring
      refine ⟨⟨_, SqL.of hD2⟩, for_it (walk_list (xs := ms.map V.int)) (fun i σ H' => ∃ (st : Int) (v : Option V),
        σ = [some (.ref a), some (.ref D), some (.int st), v, none] ∧ H' = H2 ∧ 0 ≤ st ∧ st < 2 ^ 33) ?_ ?_ ?_ ?_⟩
      · refine ⟨40961 + ((ns.map V.int).length : Int), none, rfl, rfl, by omega, ?_⟩
        rw [List.length_map]
        omega
      · rintro i σ H' _ ⟨st, v, rfl, rfl, _⟩
        exact SqL.of hD2
      · rintro i x σ H' H'' hi ⟨st, v, rfl, rfl, h0, h1⟩ ⟨rfl, hx⟩
        obtain ⟨z, hz, rfl⟩ := ints_at hx
        walk_at "rd"
        refine ⟨.inl ⟨by omega, by omega⟩, ?_⟩
        walk_at "rd"
        refine ⟨by show (0 : Int) < 4294967291; decide, ?_⟩
        refine ⟨_, some _, rfl, rfl, Int.emod_nonneg _ (by decide), Int.lt_of_lt_of_le (Int.emod_lt_of_pos _ (by decide)) (by decide)⟩
      · rintro σ H' ⟨st, v, rfl, rfl, h0, h1⟩
        intro b hb
        -- the great ones
        have nDb : D ≠ b := ne_of_none hD2 hb
        have hDb : upd H' b (.dK []) D = some (.lst (ms.map V.int)) := by rw [upd_ne nDb]; exact hD2
        have sb : Same H' (upd H' b (.dK [])) := same_new hb
        refine ⟨_, rfl, D, rfl, ⟨_, SqL.of hDb⟩, fun g hg => ?_⟩
        refine lc_run (walk_list (xs := ms.map V.int)) hg (fun i acc _ => acc.length ≤ i ∧ ∃ ms : List Int, acc = ms.map V.int) ?_ ?_ ?_ ?_
        · exact fun H3 s => SqL.of (s _ _ hDb)
        · exact ⟨Nat.le_refl _, [], rfl⟩
        · rintro i x acc H3 H4 hi ha e s3 ⟨hl, ms2, rfl⟩ ⟨rfl, hx⟩
          obtain ⟨z, hz, rfl⟩ := ints_at hx
          rw [List.length_map] at hi
          refine ⟨rfl, ?_⟩
          walk_at "rd"
          refine ⟨⟨by decide, by decide, by decide⟩, ?_⟩
          walk_at "rd"
          refine ite2 (fun _ => ?_) (fun _ => ?_)
          · walk_at "rd"
            refine lc_add ha e (Same.refl _) (by omega) ⟨?_, ms2 ++ [z], by rw [List.map_append]; rfl⟩
            rw [List.length_append]
            exact Nat.succ_le_succ hl
          · exact lc_skip ha e (Same.refl _) ⟨Nat.le_succ_of_le hl, ms2, rfl⟩
        · rintro acc H3 hg3 s3 ⟨hl, ms2, rfl⟩
          rw [List.length_map, List.length_map] at hl
          have hb3 : H3 b = some (.dK []) := s3 _ _ upd_same
          walk_at "rd"
          refine ⟨hb3, boxD g st 0, rfl, by show 3 ≤ 15; decide, ?_⟩
          have hbg : b ≠ g := ne_of_none upd_same hg
          have hg0 : H' g = none := Same.free sb hg
          have s4 : Same H H' := Same.trans s1 s2
          have s5 : Same H H3 := Same.trans s4 (Same.trans sb s3)
          have hb0 : H b = none := Same.free s4 hb
          refine k b g _ hb0 (Same.free s4 hg0) (fun c o q => ?_) ⟨⟨st, 0, ?_⟩, ms2, ?_, by omega⟩
          · rw [upd_ne (ne_of_none q hb0)]
            exact s5 _ _ q
          · rw [upd_same]
            rfl
          · rw [upd_ne hbg.symm]
            exact hg3
end
end BV

namespace BV
open PySem L2
local macro_rules | `(tactic| walk_at "rd") => `(tactic| (repeat (first | refine ⟨_, rfl, ?_⟩ | refine ⟨_, _, rfl, rfl, ?_⟩ | refine Or.inl ⟨_, rfl, ?_⟩ | refine Or.inr ⟨_, rfl, ?_⟩ | refine ⟨_, _, rfl, ?_⟩)))
abbrev sDraw : Stmt := top 16
abbrev nDraw : List Str := ["_law_box_here", "_law_many", "_law_great_here", "_law_count", "_law_found", "_law_mark"]
theorem scDraw : FnScope nDraw ["_law_box_here", "_law_many"] (defScope sDraw) := ⟨rfl, rfl, rfl, by decide +kernel, rfl, by decide +kernel, by decide +kernel⟩
section
variable {P : Program} {w : World} {K : PySem.W.Frag} {mg : Str → Option Value} {base : Heap}
theorem ok_draw {f : Addr} {fd : FuncData} (D : Df K mg "_law_draw" sDraw ["_law_box_here", "_law_many"] f fd) (T : Bl mg) :
    FnOk P w K mg base CX0 1 f fd ["_law_box_here", "_law_many"] spDraw := by
  refine D.fn.ok scDraw (fun vs H Q E h => ?_) (fun cdv A outer s H vs Q E hr h => ?_)
  · obtain ⟨b, g, m, rfl, _⟩ := h
    rfl
  · obtain ⟨b, g, m, rfl, hm0, hm1, hB, k⟩ := h
    have hu := hu_of hr
    have nd := scDraw.nd
    have hbg := hB.ne
    obtain ⟨⟨st, c, hb⟩, ns, hg, hns⟩ := hB
    refine ⟨_, (pss_cons (ps_set (i := 2) nd rfl (by first | exact Or.inl rfl | exact Or.inr rfl) (pe_dget hu (pv 0) pe_str (fun _ _ => rfl)))
      (pss_cons (ps_if (pt_cmpR (op_neD hr.units) (pv 2) (pe_lst pa_nil) (nomark _)) (pss_cons (ps_set (i := 5) nd rfl (by first | exact Or.inl rfl | exact Or.inr rfl) (pe_ix ix_list (pv 2) pe_int (fun _ _ => rfl)))
      (pss_cons (ps_asg (pe_op op_fdivW (pv 5) (pv 1)) (pg_sub (pv 2) pe_int set_list))
      (pss_cons (ps_if (pt_cmpR op_lt (pv 5) (pv 1) (nomark _)) (pss_one (ps_expr (pe_bm PySem.F.plainAttrs_list PySem.F.slot_list_pop PySem.F.type_list_pop mt_popAt (pv 2) (pa_cons pe_int pa_nil)))) pss_nil)
      (pss_one (ps_ret (pe_op op_mod (pe_callTy call_int1 (by rfl) T.int (by decide +kernel) (pa_cons (pv 5) pa_nil)) (pv 1))))))) pss_nil)
      (pss_cons (ps_set (i := 3) nd rfl (by first | exact Or.inl rfl | exact Or.inr rfl) (pe_op op_add (pe_dget hu (pv 0) pe_str (fun _ _ => rfl)) pe_int))
      (pss_cons (ps_dput hu (pv 0) pe_str (pv 3) rfl)
      (pss_cons (ps_set (i := 4) nd rfl (by first | exact Or.inl rfl | exact Or.inr rfl) (pe_op op_mod (pe_callTy call_int1 (by rfl) T.int (by decide +kernel) (pa_cons (pe_op op_add (pe_dget hu (pv 0) pe_str (fun _ _ => rfl)) (pe_op op_mul pe_int (pv 3))) pa_nil)) pe_int))
      (pss_cons (ps_set (i := 4) nd rfl (by first | exact Or.inl rfl | exact Or.inr rfl) (pe_op op_mod (pe_callTy call_int1 (by rfl) T.int (by decide +kernel) (pa_cons (pe_op op_add (pe_op op_add (pe_op op_mul (pv 4) (pv 4)) (pe_op op_mul pe_int (pv 3))) pe_int) pa_nil)) pe_int))
      (pss_cons (ps_set (i := 4) nd rfl (by first | exact Or.inl rfl | exact Or.inr rfl) (pe_op op_mod (pe_callTy call_int1 (by rfl) T.int (by decide +kernel) (pa_cons (pe_op op_add (pe_op op_mul (pv 4) (pv 4)) (pe_dget hu (pv 0) pe_str (fun _ _ => rfl))) pa_nil)) pe_int))
      (pss_one (ps_ret (pe_op op_mod (pe_callTy call_int1 (by rfl) T.int (by decide +kernel) (pa_cons (pe_op op_fdivW (pv 4) pe_int) pa_nil)) (pv 1))))))))))), ?_⟩
    refine ⟨_, rfl, b, _, rfl, get_great hb, ?_⟩
    refine ⟨_, rfl, Nat.zero_le _, fun p hp => ?_⟩
    have s1 : Same H (upd H p (.lst [])) := same_new hp
    have hb1 := s1 _ _ hb
    have hg1 := s1 _ _ hg
    have nbp : b ≠ p := ne_of_none hb hp
    have ngp : g ≠ p := ne_of_none hg hp
    refine ⟨.list (ns.map .int), .list [], .lst (SqL.of hg1) (dpAll_ints ns), .lst (SqL.of upd_same) .nil, shaped_intsL ns, shaped_intsL [], _, rfl, ?_⟩
    have kk : Kp b g H (upd H p (.lst [])) := Kp.same s1
    cases ns with
    | nil =>
      refine ite2 (fun z => absurd z (by decide)) (fun _ => ?_)
      refine ⟨_, rfl, b, _, rfl, get_count hb1, ?_⟩
      walk_at "rd"
      refine ⟨b, _, rfl, put_count hb1, ?_⟩
      have hb2 : upd (upd H p (.lst [])) b (.dK (boxD g st (c + 1))) b = some (.dK (boxD g st (c + 1))) := upd_same
      have gs : ∀ x : Int, 0 ≤ x % 4294967291 ∧ x % 4294967291 < 4294967291 := fun x => ⟨Int.emod_nonneg _ (by decide), Int.emod_lt_of_pos _ (by decide)⟩
      have gt : ∀ x : Int, 0 ≤ x % 4294967279 ∧ x % 4294967279 < 4294967279 := fun x => ⟨Int.emod_nonneg _ (by decide), Int.emod_lt_of_pos _ (by decide)⟩
      refine ⟨_, rfl, b, _, rfl, get_stirred hb2, ?_⟩
      walk_at "rd"
      refine ⟨.inl ⟨by decide, by decide⟩, ?_⟩
      walk_at "rd"
      refine ⟨by show (0 : Int) < 4294967291; decide, ?_⟩
      have g1 := gs (st + 2654435761 * (c + 1))
      walk_at "rd"
      refine ⟨.inl ⟨by omega, by omega⟩, ?_⟩
      walk_at "rd"
      refine ⟨.inl ⟨by decide, by decide⟩, ?_⟩
      walk_at "rd"
      refine ⟨by show (0 : Int) < 4294967279; decide, ?_⟩
      generalize (st + 2654435761 * (c + 1)) % 4294967291 = x1 at g1
      have g2 := gt (x1 * x1 + 40503 * (c + 1) + 7)
      generalize (x1 * x1 + 40503 * (c + 1) + 7) % 4294967279 = x2 at g2
      walk_at "rd"
      refine ⟨.inl ⟨by omega, by omega⟩, ?_⟩
      refine ⟨_, rfl, b, _, rfl, get_stirred hb2, ?_⟩
      walk_at "rd"
      refine ⟨by show (0 : Int) < 4294967231; decide, ?_⟩
      walk_at "rd"
      refine ⟨⟨by decide, by decide⟩, ?_⟩
      walk_at "rd"
      refine ⟨hm0, ?_⟩
      refine k _ _ (Int.emod_nonneg _ (by omega)) (Int.emod_lt_of_pos _ hm0) (Kp.trans kk Kp.setb) ⟨⟨st, c + 1, hb2⟩, [], ?_, by decide⟩
      rw [upd_ne hbg.symm]
      exact hg1
    | cons z rest =>
      refine ite2 (fun _ => ?_) (fun q => absurd (by rfl) q)
      refine ⟨_, rfl, g, _, 0, _, rfl, rfl, SqL.of hg1, atI_nat (j := 0) rfl, ?_⟩
      walk_at "rd"
      refine ⟨⟨hm0, ?_⟩, ?_⟩
      · have h30 : m.natAbs < 2 ^ 30 := by omega
        exact Nat.lt_of_lt_of_le (PySem.Flt.log2_lt_of (by decide) h30) (by decide)
      refine ⟨_, rfl, g, _, 0, 0, rfl, rfl, hg1, ix_nat (j := 0) (Nat.zero_lt_succ _), ?_⟩
      have hg2 : upd (upd H p (.lst [])) g (.lst (((z :: rest).map V.int).set 0 (.int (z / m)))) g = some (.lst (((z / m) :: rest).map V.int)) := upd_same
      have hb2 : upd (upd H p (.lst [])) g (.lst (((z :: rest).map V.int).set 0 (.int (z / m)))) b = some (.dK (boxD g st c)) := by
        rw [upd_ne hbg]
        exact hb1
      have k2 : Kp b g H (upd (upd H p (.lst [])) g (.lst (((z :: rest).map V.int).set 0 (.int (z / m))))) := Kp.trans kk Kp.setg
      walk_at "rd"
      refine ite2 (fun _ => ?_) (fun _ => ?_)
      · refine ⟨_, rfl, .inl ⟨rfl, _, SqL.of hg2⟩, ?_⟩
        refine ⟨g, _, 0, 0, _, rfl, rfl, hg2, by decide, by decide, seq_nat (j := 0) (Nat.zero_lt_succ _), rfl, ?_⟩
        walk_at "rd"
        refine ⟨hm0, ?_⟩
        refine k _ _ (Int.emod_nonneg _ (by omega)) (Int.emod_lt_of_pos _ hm0) (Kp.trans k2 Kp.setg) ⟨⟨st, c, ?_⟩, rest, ?_, ?_⟩
        · rw [upd_ne hbg]
          exact hb2
        · exact upd_same
        · exact Nat.le_of_succ_le hns
      · walk_at "rd"
        refine ⟨hm0, ?_⟩
        exact k _ _ (Int.emod_nonneg _ (by omega)) (Int.emod_lt_of_pos _ hm0) k2 ⟨⟨st, c, hb2⟩, _, hg2, hns⟩
end
end BV

namespace BV
open PySem L2
local macro_rules | `(tactic| walk_at "rd") => `(tactic| (repeat (first | refine ⟨_, rfl, ?_⟩ | refine ⟨_, _, rfl, rfl, ?_⟩ | refine Or.inl ⟨_, rfl, ?_⟩ | refine Or.inr ⟨_, rfl, ?_⟩ | refine ⟨_, _, rfl, ?_⟩)))
abbrev sPick : Stmt := top 17
abbrev nPick : List Str := ["_law_box_here", "_law_items"]
theorem scPick : FnScope nPick nPick (defScope sPick) := ⟨rfl, rfl, rfl, by decide +kernel, rfl, by decide +kernel, by decide +kernel⟩
section
variable {P : Program} {w : World} {K : PySem.W.Frag} {mg : Str → Option Value} {base : Heap}
theorem ok_pick {f fd1 : Addr} {fd fdd : FuncData} (D : Df K mg "_law_pick" sPick nPick f fd) (T : Bl mg)
    (D_draw : Df K mg "_law_draw" sDraw ["_law_box_here", "_law_many"] fd1 fdd) :
    FnOk P w K mg base CX0 2 f fd nPick (spPick K) := by
  have G_draw : FnOk P w K mg base CX0 1 fd1 fdd ["_law_box_here", "_law_many"] spDraw := ok_draw D_draw T
  refine D.fn.ok scPick (fun vs H Q E h => ?_) (fun cdv A outer s H vs Q E hr h => ?_)
  · obtain ⟨b, g, l, xs, rfl, _⟩ := h
    rfl
  · obtain ⟨b, g, l, xs, rfl, hl, n1, n2, h0, h1, hB, k⟩ := h
    have hr_draw : Room 1 _ := hr
    have nd := scPick.nd
    refine ⟨_, (pss_one (ps_ret (pe_ix ix_list (pv 1) (pe_call G_draw hr_draw (by rfl) D_draw.ad D_draw.fn.kp D_draw.bd .nil pass0 (pa_cons (pv 0) (pa_cons (pe_callB call_len_seq (by rfl) T.len PySem.boot_len (pa_cons (pv 1) pa_nil)) pa_nil))) (fun _ _ => rfl)))), ?_⟩
    walk_at "rd"
    refine ⟨_, _, rfl, .inl hl, ?_⟩
    refine ⟨b, g, (xs.length : Int), rfl, by omega, by omega, hB, fun r H' r0 r1 kp hB' => ?_⟩
    obtain ⟨j, rfl⟩ : ∃ j : Nat, r = (j : Int) := ⟨r.toNat, by omega⟩
    have hj : j < xs.length := by omega
    have hx : xs[j]? = some xs[j] := by simp [hj]
    exact ⟨l, xs, _, _, rfl, rfl, Kp.seq kp n1 n2 hl, atI_nat hx, k j _ H' hx kp hB'⟩
end
end BV

namespace BV
open PySem L2
local macro_rules | `(tactic| walk_at "rd") => `(tactic| (repeat (first | refine ⟨_, rfl, ?_⟩ | refine ⟨_, _, rfl, rfl, ?_⟩ | refine Or.inl ⟨_, rfl, ?_⟩ | refine Or.inr ⟨_, rfl, ?_⟩ | refine ⟨_, _, rfl, ?_⟩)))
abbrev sWeb : Stmt := top 18
abbrev nWeb : List Str := ["_law_box_here", "_law_most", "_law_more", "_law_many", "_law_ties", "_law_found", "_law_place", "_law_turn", "_law_one", "_law_other"]
abbrev pWeb : List Str := ["_law_box_here", "_law_most", "_law_more"]
theorem scWeb : FnScope nWeb pWeb (defScope sWeb) := ⟨rfl, rfl, rfl, by decide +kernel, rfl, by decide +kernel, by decide +kernel⟩
section
variable {P : Program} {w : World} {K : PySem.W.Frag} {mg : Str → Option Value} {base : Heap}
theorem ok_web {f f1 f2 : Addr} {fd fd1 fd2 : FuncData} (D : Df K mg "_law_web" sWeb pWeb f fd) (T : Bl mg)
    (D_draw : Df K mg "_law_draw" sDraw ["_law_box_here", "_law_many"] f1 fd1)
    (D_pick : Df K mg "_law_pick" sPick nPick f2 fd2) :
    FnOk P w K mg base CX0 3 f fd pWeb (spWeb K) := by
  have G_draw : FnOk P w K mg base CX0 1 f1 fd1 ["_law_box_here", "_law_many"] spDraw := ok_draw D_draw T
  have G_pick : FnOk P w K mg base CX0 2 f2 fd2 nPick (spPick K) := ok_pick D_pick T D_draw
  refine D.fn.ok scWeb (fun vs H Q E h => ?_) (fun cdv A outer s H vs Q E hr h => ?_)
  · obtain ⟨b, g, most, more, rfl, _⟩ := h
    rfl
  · obtain ⟨b, g, most, more, rfl, m1, m2, m3, hB, k⟩ := h
    have hr_pick : Room 2 _ := hr
    have hr_draw : Room 1 _ := hr.mono (by decide)
    have nd := scWeb.nd
    refine ⟨_, (pss_cons (ps_par3 (i := 3) (j := 4) (l := 5) (by rfl) nd rfl rfl rfl (by decide) (by decide) (by decide) rfl rfl rfl (pa_cons (pe_op op_add pe_int (pe_call G_draw hr_draw (by rfl) D_draw.ad D_draw.fn.kp D_draw.bd .nil pass0 (pa_cons (pv 0) (pa_cons (pv 1) pa_nil)))) (pa_cons (pe_lst pa_nil) (pa_cons (pe_lst pa_nil) pa_nil))) (by rfl))
      (pss_cons (ps_for PassesOwn.never rfl (pi_range2 rfl T.range (pa_cons pe_int (pa_cons (pv 3) pa_nil))) (pg_name (i := 6) nd rfl (by first | exact Or.inl rfl | exact Or.inr rfl)) (pss_one (ps_expr (pe_bm PySem.F.plainAttrs_list PySem.F.slot_list_append PySem.F.type_list_append mt_append (pv 4) (pa_cons (pe_tup (pa_cons (pe_call G_draw hr_draw (by rfl) D_draw.ad D_draw.fn.kp D_draw.bd .nil pass0 (pa_cons (pv 0) (pa_cons (pv 6) pa_nil))) (pa_cons (pv 6) pa_nil))) pa_nil)))))
      (pss_cons (ps_for PassesOwn.never rfl (pi_range1 rfl T.range (pa_cons (pe_ifExp (pt_cmpR op_gt (pv 3) pe_int (nomark _)) (pe_call G_draw hr_draw (by rfl) D_draw.ad D_draw.fn.kp D_draw.bd .nil pass0 (pa_cons (pv 0) (pa_cons (pe_op op_add (pv 2) pe_int) pa_nil))) pe_int) pa_nil)) (pg_name (i := 7) nd rfl (by first | exact Or.inl rfl | exact Or.inr rfl)) (pss_cons (ps_par (i := 8) (j := 9) (by rfl) nd rfl rfl (by decide) rfl rfl (pa_cons (pe_call G_draw hr_draw (by rfl) D_draw.ad D_draw.fn.kp D_draw.bd .nil pass0 (pa_cons (pv 0) (pa_cons (pv 3) pa_nil))) (pa_cons (pe_call G_draw hr_draw (by rfl) D_draw.ad D_draw.fn.kp D_draw.bd .nil pass0 (pa_cons (pv 0) (pa_cons (pv 3) pa_nil))) pa_nil)) (by rfl))
      (pss_cons (ps_if (PW.pt (pw_or (pt_cmpR op_eq (pv 8) (pv 9) (nomark _)) (pw_or1 (pt_cmpR op_eq (pe_call G_draw hr_draw (by rfl) D_draw.ad D_draw.fn.kp D_draw.bd .nil pass0 (pa_cons (pv 0) (pa_cons pe_int pa_nil))) pe_int (nomark _))))) (pss_one (ps_asg (pe_call G_pick hr_pick (by rfl) D_pick.ad D_pick.fn.kp D_pick.bd .nil pass0 (pa_cons (pv 0) (pa_cons (pv 4) pa_nil))) (pg_tup rfl (pgs_cons (pg_name (i := 8) nd rfl (by first | exact Or.inl rfl | exact Or.inr rfl)) (pgs_cons (pg_name (i := 9) nd rfl (by first | exact Or.inl rfl | exact Or.inr rfl)) pgs_nil))))) pss_nil)
      (pss_one (ps_expr (pe_bm PySem.F.plainAttrs_list PySem.F.slot_list_append PySem.F.type_list_append mt_append (pv 4) (pa_cons (pe_tup (pa_cons (pe_callB (call_min2 rfl) (by rfl) T.min (by decide +kernel) (pa_cons (pv 8) (pa_cons (pv 9) pa_nil))) (pa_cons (pe_callB (call_max2 rfl) (by rfl) T.max (by decide +kernel) (pa_cons (pv 8) (pa_cons (pv 9) pa_nil))) pa_nil))) pa_nil)))))))
      (pss_cons (ps_for PassesOwn.never rfl (pi_range1 rfl T.range (pa_cons (pe_callB call_len_seq (by rfl) T.len PySem.boot_len (pa_cons (pv 4) pa_nil)) pa_nil)) (pg_name (i := 7) nd rfl (by first | exact Or.inl rfl | exact Or.inr rfl)) (pss_one (ps_expr (pe_bm PySem.F.plainAttrs_list PySem.F.slot_list_append PySem.F.type_list_append mt_append (pv 5) (pa_cons (pe_bm PySem.F.plainAttrs_list PySem.F.slot_list_pop PySem.F.type_list_pop mt_popAt (pv 4) (pa_cons (pe_call G_draw hr_draw (by rfl) D_draw.ad D_draw.fn.kp D_draw.bd .nil pass0 (pa_cons (pv 0) (pa_cons (pe_callB call_len_seq (by rfl) T.len PySem.boot_len (pa_cons (pv 4) pa_nil)) pa_nil))) pa_nil)) pa_nil)))))
      (pss_one (ps_ret (pe_tup (pa_cons (pv 3) (pa_cons (pe_callTy call_tuple_of (by rfl) T.tuple (by decide +kernel) (pa_cons (pv 5) pa_nil)) pa_nil))))))))), ?_⟩
    -- _law_many, _law_ties, _law_found
    walk_at "rd"
    refine ⟨b, g, (most : Int), rfl, by omega, by omega, hB, fun r H1 r0 r1 kp1 hB1 => ?_⟩
    obtain ⟨n0, rfl⟩ : ∃ j : Nat, r = (j : Int) := ⟨r.toNat, by omega⟩
    walk_at "rd"
    refine ⟨Nat.zero_le _, fun l hl => ⟨Nat.zero_le _, fun l2 hl2 => ⟨_, _, _, rfl, ?_⟩⟩⟩
    have hll : upd H1 l (.lst []) l = some (.lst []) := upd_same
    have nll : l ≠ l2 := ne_of_none hll hl2
    have s1 : Same H1 (upd H1 l (.lst [])) := same_new hl
    have s2 : Same (upd H1 l (.lst [])) (upd (upd H1 l (.lst [])) l2 (.lst [])) := same_new hl2
    have hB2 := (hB1.same s1).same s2
    have lkeep : ∀ {a : Addr}, H1 a = none → a ≠ b → a ≠ g → H a = none := fun {a} h n1 n2 => by
      cases e : H a with
      | none => rfl
      | some o =>
        rw [kp1 _ _ e n1 n2] at h
        cases h
    have hBx := hB1
    obtain ⟨⟨bst, bc, hb1⟩, bns, hg1, _⟩ := hBx
    have lb : l ≠ b := (ne_of_none hb1 hl).symm
    have lg : l ≠ g := (ne_of_none hg1 hl).symm
    have l2b : l2 ≠ b := (ne_of_none (s1 _ _ hb1) hl2).symm
    have l2g : l2 ≠ g := (ne_of_none (s1 _ _ hg1) hl2).symm
    have W0 : WI b g l l2 H (upd (upd H1 l (.lst [])) l2 (.lst [])) [] [] :=
      ⟨kp1.trans ((Kp.same s1).trans (Kp.same s2)), hB2, lkeep hl lb lg, lkeep (Same.free s1 hl2) l2b l2g, lb, lg, l2b, l2g, nll,
        ⟨[], by rw [upd_ne nll]; exact upd_same, .nil⟩, ⟨[], upd_same, .nil⟩⟩
    generalize upd (upd H1 l (.lst [])) l2 (.lst []) = H2 at W0
    clear s1 s2 hB2 hl hl2 hll hb1 hg1 hB1 kp1
    -- each place behind an earlier one
    walk_at "rd"
    refine ⟨by omega, ?_⟩
    refine for_range (lo := 1) (n := (1 + (n0 : Int) - 1).toNat) (fun i σ Hc => ∃ (ts : List Tie) (v6 : Option V),
      σ = [some (.ref b), some (.int most), some (.int more), some (.int (1 + (n0 : Int))), some (.ref l), some (.ref l2), v6, none, none, none] ∧
      WI b g l l2 H Hc ts [] ∧ ts.length = i ∧ (∀ t ∈ ts, t.1 < t.2 ∧ t.2 ≤ i) ∧ ∀ p, 1 ≤ p → p ≤ i → ∃ q, q < p ∧ (q, p) ∈ ts) ?_ ?_ ?_
    · exact ⟨[], none, rfl, W0, rfl, by simp, fun p h1 h2 => by omega⟩
    · rintro i σ Hc hi ⟨ts, v6, rfl, W, e1, e2, e3⟩
      have hi2 : i < n0 := by omega
      obtain ⟨xs, hx, hxs⟩ := W.tl
      refine ⟨_, rfl, .inl ⟨rfl, _, SqL.of hx⟩, ?_⟩
      walk_at "rd"
      refine ⟨b, g, 1 + (i : Int), rfl, by omega, by omega, W.bx, fun r H3 r0 r1 kp3 hB3 => ?_⟩
      obtain ⟨q, rfl⟩ : ∃ j : Nat, r = (j : Int) := ⟨r.toNat, by omega⟩
      have W3 := W.draw kp3 hB3
      walk_at "rd"
      refine ⟨by show 2 ≤ sizeLine; decide, fun p hp => ?_⟩
      have W4 := W3.same (same_new (o := .tup [.int (q : Int), .int (1 + (i : Int))]) hp)
      obtain ⟨ys, hy, hys⟩ := W4.tl
      have hyl : ys.length = ts.length := hys.length
      refine ⟨l, ys, _, rfl, rfl, hy, Nat.lt_of_le_of_lt (show ys.length ≤ 1000 by omega) (by decide), ?_⟩
      have hv : TieAt (upd H3 p (.tup [.int (q : Int), .int (1 + (i : Int))])) (.ref p) (q, 1 + i) :=
        ⟨p, rfl, by rw [upd_same]; show some (HO.tup [V.int (q : Int), V.int (1 + (i : Int))]) = some (HO.tup [V.int (q : Int), V.int (((1 + i : Nat)) : Int)]); rw [Int.natCast_add]; rfl⟩
      refine ⟨ts ++ [(q, 1 + i)], _, rfl, W4.app hy hv, by rw [List.length_append, e1]; rfl, fun t ht => ?_, fun p' h1 h2 => ?_⟩
      · rcases List.mem_append.mp ht with ht | ht
        · have := e2 t ht
          omega
        · obtain rfl := List.mem_singleton.mp ht
          show q < 1 + i ∧ 1 + i ≤ i + 1
          omega
      · by_cases hp' : p' ≤ i
        · obtain ⟨q', a1, a2⟩ := e3 p' h1 hp'
          exact ⟨q', a1, List.mem_append_left _ a2⟩
        · obtain rfl : p' = 1 + i := by omega
          exact ⟨q, by omega, List.mem_append_right _ (List.mem_singleton.mpr rfl)⟩
    · rintro σ Hc ⟨ts, v6, rfl, W, e1, e2, e3⟩
      have e1' : ts.length = n0 := by omega
      have e2' : ∀ t ∈ ts, t.1 < t.2 ∧ t.2 < 1 + n0 := fun t ht => by
        have := e2 t ht
        omega
      have e3' : ∀ p, 1 ≤ p → p < 1 + n0 → ∃ q, q < p ∧ (q, p) ∈ ts := fun p h1 h2 => e3 p h1 (by omega)
      clear e1 e2 e3
      -- more ties
      dsimp only
      refine tSeq_go ?_
      refine for_rng1_by (fun v H' => ∃ m : Nat, v = .int (m : Int) ∧ m ≤ more ∧ (n0 = 0 → m = 0) ∧ WI b g l l2 H H' ts []) ?_ (fun cont => ?_)
      · rintro v H' ⟨m, rfl, hm, hz, W'⟩
        refine ⟨_, rfl, by omega, by omega, ?_⟩
        refine for_range (lo := 0) (n := (m : Int).toNat) (fun i σ Hc => ∃ (ts : List Tie) (v7 v8 v9 : Option V),
          σ = [some (.ref b), some (.int most), some (.int more), some (.int (1 + (n0 : Int))), some (.ref l), some (.ref l2), v6, v7, v8, v9] ∧
          WI b g l l2 H Hc ts [] ∧ ts.length = n0 + i ∧ (∀ t ∈ ts, t.1 < t.2 ∧ t.2 < 1 + n0) ∧ ∀ p, 1 ≤ p → p < 1 + n0 → ∃ q, q < p ∧ (q, p) ∈ ts) ?_ ?_ ?_
        · exact ⟨ts, none, none, none, rfl, W', e1', e2', e3'⟩
        · clear W W' e1' e2' e3'
          rintro i σ Hc hi ⟨ts, v7, v8, v9, rfl, W, e1, e2, e3⟩
          have hn0 : 0 < n0 := by
            rcases Nat.eq_zero_or_pos n0 with z | z
            · have := hz z
              omega
            · exact z
          walk_at "rd"
          refine ⟨b, g, 1 + (n0 : Int), rfl, by omega, by omega, W.bx, fun r H3 r0 r1 kp3 hB3 => ?_⟩
          obtain ⟨one, rfl⟩ : ∃ j : Nat, r = (j : Int) := ⟨r.toNat, by omega⟩
          have W3 := W.draw kp3 hB3
          walk_at "rd"
          refine ⟨b, g, 1 + (n0 : Int), rfl, by omega, by omega, W3.bx, fun r' H4 r0' r1' kp4 hB4 => ?_⟩
          obtain ⟨oth, rfl⟩ : ∃ j : Nat, r' = (j : Int) := ⟨r'.toNat, by omega⟩
          have W4 := W3.draw kp4 hB4
          refine ⟨_, _, rfl, ?_⟩
          dsimp only
          refine tSeq_go ?_
          refine tIfS_by (fun σ' H' => ∃ x y : Nat, x ≠ y ∧ x < 1 + n0 ∧ y < 1 + n0 ∧
            σ' = [some (.ref b), some (.int most), some (.int more), some (.int (1 + (n0 : Int))), some (.ref l), some (.ref l2), v6, some (.int (0 + (i : Int))), some (.int (x : Int)), some (.int (y : Int))] ∧
            WI b g l l2 H H' ts []) ?_ (fun cont => ?_)
          · rintro σ' H' ⟨x, y, nxy, hx, hy, rfl, W5⟩
            obtain ⟨xs, hl1, hl2⟩ := W5.tl
            refine ⟨_, rfl, .inl ⟨rfl, _, SqL.of hl1⟩, ?_⟩
            walk_at "rd"
            refine ⟨by show 2 ≤ sizeLine; decide, fun p hp => ?_⟩
            obtain ⟨lo, hi', e4, e5, hlt, hhi⟩ : ∃ lo hi' : Nat, (if (y : Int) < (x : Int) then (y : Int) else (x : Int)) = (lo : Int) ∧
                (if (y : Int) > (x : Int) then (y : Int) else (x : Int)) = (hi' : Int) ∧ lo < hi' ∧ hi' < 1 + n0 := by
              rcases Nat.lt_or_ge y x with z | z
              · exact ⟨y, x, if_pos (by omega), if_neg (by omega), z, hx⟩
              · exact ⟨x, y, if_neg (by omega), if_pos (by omega), by omega, hy⟩
            rw [e4, e5] at *
            have W6 := W5.same (same_new (o := .tup [.int (lo : Int), .int (hi' : Int)]) hp)
            obtain ⟨ys, hy1, hys⟩ := W6.tl
            have hyl : ys.length = ts.length := hys.length
            refine ⟨l, ys, _, rfl, rfl, hy1, Nat.lt_of_le_of_lt (show ys.length ≤ 3000 by omega) (by decide), ?_⟩
            refine ⟨ts ++ [(lo, hi')], _, _, _, rfl, W6.app hy1 ⟨p, rfl, upd_same⟩, by rw [List.length_append, e1]; rfl, fun t ht => ?_, fun p' h1 h2 => ?_⟩
            · rcases List.mem_append.mp ht with ht | ht
              · exact e2 t ht
              · obtain rfl := List.mem_singleton.mp ht
                exact ⟨hlt, hhi⟩
            · obtain ⟨q', a1, a2⟩ := e3 p' h1 h2
              exact ⟨q', a1, List.mem_append_left _ a2⟩
          · refine tIfS_t (fun c Hx => WI b g l l2 H Hx ts [] ∧ (c = false → one ≠ oth)) ?_ ?_ (fun both => ?_)
            · rintro Hx ⟨Wx, _⟩
              obtain ⟨xs, hl1, hl2⟩ := Wx.tl
              have hxl : xs.length = ts.length := hl2.length
              walk_at "rd"
              refine ⟨b, g, l, xs, rfl, SqL.of hl1, Wx.d1, Wx.d2, by omega, by omega, Wx.bx, fun j v Hy hj kpy hBy => ?_⟩
              have Wy := Wx.draw kpy hBy
              obtain ⟨t, ht, hv⟩ := hl2.at hj
              obtain ⟨p, rfl, hp⟩ := hv.kt (KT.of_kp kpy Wx.bx)
              refine ⟨p, _, rfl, SqT.of hp, rfl, _, _, rfl, _, _, rfl, rfl, ?_⟩
              have hm := e2 t (List.mem_of_getElem? ht)
              exact cont _ _ ⟨t.1, t.2, by omega, by omega, hm.2, rfl, Wy⟩
            · rintro Hx ⟨Wx, hne⟩
              exact cont _ _ ⟨one, oth, hne rfl, by omega, by omega, rfl, Wx⟩
            · refine ⟨_, rfl, _, rfl, rfl, _, rfl, ?_⟩
              refine ite2 (fun hc => ?_) (fun hc => ?_)
              · exact both _ _ ⟨W4, fun z => by cases z⟩
              · have hne : one ≠ oth := by
                  rintro rfl
                  exact hc (decide_eq_true rfl)
                walk_at "rd"
                refine ⟨b, g, 4, rfl, by decide, by decide, W4.bx, fun r Hx q0 q1 kpx hBx => ?_⟩
                refine ⟨rfl, _, rfl, ?_⟩
                exact both _ _ ⟨W4.draw kpx hBx, fun _ => hne⟩
        · clear W W' e1' e2' e3'
          rintro σ Hc ⟨ts, v7, v8, v9, rfl, W, e1, e2, e3⟩
          have e1 : ts.length = n0 + m := e1
          obtain ⟨xs, hl1, hl2⟩ := W.tl
          have hxl : xs.length = ts.length := hl2.length
          -- in another order
          refine ⟨_, rfl, _, _, rfl, .inl (SqL.of hl1), _, rfl, by omega, by omega, ?_⟩
          refine for_range (lo := 0) (n := (xs.length : Int).toNat) (fun i σ Hc => ∃ (us fs : List Tie) (v7 : Option V),
            σ = [some (.ref b), some (.int most), some (.int more), some (.int (1 + (n0 : Int))), some (.ref l), some (.ref l2), v6, v7, v8, v9] ∧
            WI b g l l2 H Hc us fs ∧ us.length + i = ts.length ∧ (us ++ fs).Perm ts) ?_ ?_ ?_
          · exact ⟨ts, [], v7, rfl, W, rfl, by simp⟩
          · rintro i σ Hd hi ⟨us, fs, v7', rfl, Wd, d1, d2⟩
            obtain ⟨xs', hu1, hu2⟩ := Wd.tl
            obtain ⟨ys', hf1, hf2⟩ := Wd.fl
            have hul : xs'.length = us.length := hu2.length
            have hfl : ys'.length = fs.length := hf2.length
            have hpl : us.length + fs.length = ts.length := by
              rw [← List.length_append]
              exact d2.length_eq
            have hi2 : i < xs.length := by omega
            refine ⟨_, rfl, .inl ⟨rfl, _, SqL.of hf1⟩, ?_⟩
            refine ⟨_, rfl, .inl ⟨rfl, _, SqL.of hu1⟩, ?_⟩
            walk_at "rd"
            refine ⟨_, _, rfl, .inl (SqL.of hu1), ?_⟩
            refine ⟨b, g, (xs'.length : Int), rfl, by omega, by omega, Wd.bx, fun r He r0 r1 kpe hBe => ?_⟩
            obtain ⟨j, rfl⟩ : ∃ j : Nat, r = (j : Int) := ⟨r.toNat, by omega⟩
            have hj : j < xs'.length := by omega
            have We := Wd.draw kpe hBe
            have hu1e := kpe _ _ hu1 Wd.d1 Wd.d2
            have hjx : xs'[j]? = some xs'[j] := by simp [hj]
            obtain ⟨t, ht, hv⟩ := hu2.at hjx
            have hve := hv.kt (KT.of_kp kpe Wd.bx)
            refine ⟨l, xs', _, j, _, rfl, rfl, hu1e, by omega, by omega, seq_nat hj, hjx, ?_⟩
            have Wf := We.pop hu1e j
            have hvf := hve.kt (KT.of_upd (ys := xs'.eraseIdx j) hu1e)
            have hf1f : upd He l (.lst (xs'.eraseIdx j)) l2 = some (.lst ys') := by
              rw [upd_ne Wd.d5.symm]
              exact kpe _ _ hf1 Wd.d3 Wd.d4
            refine ⟨l2, ys', _, rfl, rfl, hf1f, Nat.lt_of_le_of_lt (show ys'.length ≤ 3000 by omega) (by decide), ?_⟩
            have hjt : j < us.length := by omega
            refine ⟨us.eraseIdx j, fs ++ [t], _, rfl, (Wf.swap.app hf1f hvf).swap, ?_, (perm_move us fs j t ht).trans d2⟩
            rw [List.length_eraseIdx_of_lt hjt]
            omega
          · rintro σ Hd ⟨us, fs, v7', rfl, Wd, d1, d2⟩
            have hus : us = [] := List.eq_nil_of_length_eq_zero (by omega)
            subst hus
            have hp : fs.Perm ts := d2
            obtain ⟨ys', hf1, hf2⟩ := Wd.fl
            have hfl : ys'.length = fs.length := hf2.length
            have hpl : fs.length = ts.length := hp.length_eq
            refine ⟨_, rfl, _, rfl, l2, _, rfl, .inl ⟨SqL.of hf1, fun q hq => ?_⟩⟩
            refine ⟨by show 2 ≤ sizeLine; decide, fun p hp2 => ?_⟩
            have sq : Same Hd (upd Hd q (.tup ys')) := same_new hq
            have sp : Same (upd Hd q (.tup ys')) (upd (upd Hd q (.tup ys')) p (.tup [.int (1 + (n0 : Int)), .ref q])) := same_new hp2
            have Wz := (Wd.same sq).same sp
            refine k p (1 + n0) fs _ Wz.kp Wz.bx ?_ ⟨by omega, fun t ht => e2 t (hp.mem_iff.mp ht), fun p' h1 h2 => ?_⟩ (by omega) (by omega) fun z => ?_
            · have e : V.int (1 + (n0 : Int)) = V.int ((1 + n0 : Nat) : Int) := by rw [Int.natCast_add]; rfl
              refine .tup (SqT.of upd_same) (.cons ?_ (.cons (.tup (SqT.of (sp _ _ upd_same)) ((hf2.kt ((KT.of_same sq))).kt (KT.of_same sp)).dp) .nil))
              rw [e]
              exact .int _
            · obtain ⟨q', a1, a2⟩ := e3 p' h1 h2
              exact ⟨q', a1, hp.mem_iff.mpr a2⟩
            · have hm0 : m = 0 := hz (by omega)
              exact List.eq_nil_of_length_eq_zero (by omega)
      · walk_at "rd"
        refine ite2 (fun hc => ?_) (fun hc => ?_)
        · have hc' := of_decide_eq_true hc
          walk_at "rd"
          refine ⟨b, g, (more : Int) + 1, rfl, by omega, by omega, W.bx, fun r H3 r0 r1 kp3 hB3 => ?_⟩
          obtain ⟨m, rfl⟩ : ∃ j : Nat, r = (j : Int) := ⟨r.toNat, by omega⟩
          exact cont _ _ ⟨m, rfl, by omega, by omega, W.draw kp3 hB3⟩
        · have hc' : ¬ (1 : Int) < 1 + (n0 : Int) := fun z => hc (decide_eq_true z)
          exact cont _ _ ⟨0, rfl, Nat.zero_le _, fun _ => rfl, W⟩
end
theorem same_old {H H' : Hp} {l : Addr} {o : HO} (h : H l = none) (s : Same H H') : Same H (upd H' l o) := fun a x e => by
  rw [upd_ne (ne_of_none e h)]
  exact s _ _ e
theorem set_ints (ms : List Int) (i : Nat) (z : Int) : (ms.map V.int).set i (.int z) = (ms.set i z).map V.int := by
  rw [List.map_set]
theorem kp_old {b g l : Addr} {H H' : Hp} {o : HO} (h : H l = none) (k : Kp b g H H') : Kp b g H (upd H' l o) := fun a x e n1 n2 => by
  rw [upd_ne (ne_of_none e h)]
  exact k _ _ e n1 n2
theorem box_old {b g l : Addr} {H : Hp} {o : HO} (x : Box H b g) (h1 : l ≠ b) (h2 : l ≠ g) : Box (upd H l o) b g := by
  obtain ⟨⟨st, c, x1⟩, ns, x2, x3⟩ := x
  exact ⟨⟨st, c, by rw [upd_ne h1.symm]; exact x1⟩, ns, by rw [upd_ne h2.symm]; exact x2, x3⟩
theorem box_ne {b g l : Addr} {H : Hp} (x : Box H b g) (h : H l = none) : l ≠ b ∧ l ≠ g := by
  obtain ⟨⟨st, c, x1⟩, ns, x2, x3⟩ := x
  exact ⟨fun e => (by rw [e, x1] at h; cases h), fun e => (by rw [e, x2] at h; cases h)⟩
theorem nats_ints (ms : List Nat) : (ms.map fun (k : Nat) => V.int k) = (ms.map fun (k : Nat) => (k : Int)).map V.int := by rw [List.map_map]; rfl
theorem shaped_lot (ks : List Nat) : SeqAt.shaped (lotD ks) = true := by
  have e2 : lotD ks = .tuple ((ks.map fun (k : Nat) => (k : Int)).map PyData.int) := by unfold lotD; rw [List.map_map]; rfl
  rw [e2]
  have h1 := lay_ints (ks.map fun (k : Nat) => (k : Int))
  have h2 := deep_ints (ks.map fun (k : Nat) => (k : Int))
  have h3 : PyData.depthAll ((ks.map fun (k : Nat) => (k : Int)).map PyData.int) + 1 ≤ 64 := by omega
  simp only [SeqAt.shaped, PyData.canLay0, PyData.depth, h1, Bool.true_and]
  exact decide_eq_true h3
end BV

namespace BV
open PySem L2
/-! ### small data, that may be written as a text -/
structure Sm (d : PyData) (c k : Nat) : Prop where
  t : tiny d = true
  n : nodes d ≤ c
  p : d.depth ≤ k
theorem Sm.mono {d : PyData} {c k c' k' : Nat} (h : Sm d c k) (h1 : c ≤ c') (h2 : k ≤ k') : Sm d c' k' := ⟨h.t, Nat.le_trans h.n h1, Nat.le_trans h.p h2⟩
theorem sm_all {c k : Nat} : ∀ ds : List PyData, (∀ d ∈ ds, Sm d c k) → tinyAll ds = true ∧ nodesAll ds ≤ ds.length * c ∧ PyData.depthAll ds ≤ k
  | [], _ => by simp [tinyAll, nodesAll, PyData.depthAll]
  | d :: ds, h => by
    obtain ⟨a, b, e⟩ := sm_all ds fun m hm => h m (List.mem_cons_of_mem _ hm)
    obtain ⟨a1, b1, e1⟩ := h d (List.mem_cons_self ..)
    refine ⟨by simp only [tinyAll, a, a1, Bool.and_self], ?_, ?_⟩
    · simp only [nodesAll, List.length_cons]
      rw [Nat.succ_mul]
      omega
    · simp only [PyData.depthAll]
      omega
theorem sm_tup {ds : List PyData} {c k : Nat} (h : ∀ d ∈ ds, Sm d c k) : Sm (.tuple ds) (ds.length * c + 1) (k + 1) := by
  obtain ⟨a, b, e⟩ := sm_all ds h
  refine ⟨by simpa only [tiny] using a, by simp only [nodes]; omega, by simp only [PyData.depth]; omega⟩
theorem sm_lst {ds : List PyData} {c k : Nat} (h : ∀ d ∈ ds, Sm d c k) : Sm (.list ds) (ds.length * c + 1) (k + 1) := by
  obtain ⟨a, b, e⟩ := sm_all ds h
  refine ⟨by simpa only [tiny] using a, by simp only [nodes]; omega, by simp only [PyData.depth]; omega⟩
theorem sm_show {d : PyData} {c k : Nat} (h : Sm d c k) (hc : c ≤ 15000) (hk : k ≤ 40) : Show d := show_of h.t (Nat.le_trans h.p hk) (Nat.le_trans h.n hc)
theorem sm_int {z : Int} (h : z.natAbs < 2 ^ 200) : Sm (.int z) 1 0 := by
  have hl : z.natAbs.log2 < 300 := Nat.lt_of_lt_of_le (PySem.Flt.log2_lt_of (by decide) h) (by decide)
  exact ⟨by simp only [tiny, hl, decide_true], by simp only [nodes]; exact Nat.le_refl _, by simp only [PyData.depth]; exact Nat.le_refl _⟩
theorem sm_nat {k : Nat} (h : k < 100000) : Sm (.int (k : Int)) 1 0 := sm_int (Nat.lt_of_lt_of_le (show ((k : Int)).natAbs < 100000 by omega) (by decide))
theorem sm_lot {ks : List Nat} (h : ∀ k ∈ ks, k < 100000) : Sm (lotD ks) (ks.length + 1) 1 := by
  have := sm_tup (ds := ks.map fun (k : Nat) => PyData.int k) (c := 1) (k := 0) fun d hd => by
    obtain ⟨k, hk, rfl⟩ := List.mem_map.mp hd
    exact sm_nat (h k hk)
  rw [List.length_map, Nat.mul_one] at this
  exact this
theorem sm_nums {L : Nat} {f : Nat → Int} (h : ∀ k, (f k).natAbs < 2 ^ 200) : Sm (numsD L f) (L + 1) 1 := by
  have := sm_tup (ds := (List.range L).map fun k => PyData.int (f k)) (c := 1) (k := 0) fun d hd => by
    obtain ⟨k, hk, rfl⟩ := List.mem_map.mp hd
    exact sm_int (h k)
  rw [List.length_map, List.length_range, Nat.mul_one] at this
  exact this
theorem sm_tie {t : Tie} (h : t.1 < 100000 ∧ t.2 < 100000) : Sm (tieD t) 3 1 :=
  sm_tup (ds := [.int t.1, .int t.2]) (c := 1) (k := 0) fun d hd => by
    rcases List.mem_cons.mp hd with rfl | hd
    · exact sm_nat h.1
    · obtain rfl := List.mem_singleton.mp hd
      exact sm_nat h.2
theorem sm_web {n : Nat} {ts : List Tie} (h : ∀ t ∈ ts, t.1 < 100000 ∧ t.2 < 100000) (hn : n < 100000) : Sm (webD n ts) (6 * ts.length + 3) 3 := by
  have h1 : Sm (tiesD ts) (ts.length * 3 + 1) 2 := by
    have := sm_tup (ds := ts.map tieD) (c := 3) (k := 1) fun d hd => by
      obtain ⟨k, hk, rfl⟩ := List.mem_map.mp hd
      exact sm_tie (h k hk)
    rw [List.length_map] at this
    exact this
  have h2 := sm_tup (ds := [.int n, tiesD ts]) (c := ts.length * 3 + 1) (k := 2) fun d hd => by
    rcases List.mem_cons.mp hd with rfl | hd
    · exact (sm_nat hn).mono (by omega) (by omega)
    · obtain rfl := List.mem_singleton.mp hd
      exact h1
  exact h2.mono (by show 2 * (ts.length * 3 + 1) + 1 ≤ _; omega) (Nat.le_refl _)
theorem sm_deed {d : Deed} {m : Nat} (h1 : d.times.natAbs < 2 ^ 200) (h2 : Sm d.about m 1) (hm : 1 ≤ m) : Sm d.D (3 * m + 1) 2 := by
  refine sm_tup (ds := [.str d.word, d.about, .int d.times]) (c := m) (k := 1) fun e he => ?_
  rcases List.mem_cons.mp he with rfl | he
  · refine ⟨?_, by simp only [nodes]; exact hm, by simp only [PyData.depth]; omega⟩
    cases d with
    | star p t => show tiny (.str "star") = true; decide
    | round ks t => show tiny (.str "round") = true; decide
  · rcases List.mem_cons.mp he with rfl | he
    · exact h2
    · obtain rfl := List.mem_singleton.mp he
      exact (sm_int h1).mono hm (by omega)
theorem sm_deeds {ds : List Deed} {m : Nat} (h : ∀ d ∈ ds, d.times.natAbs < 2 ^ 200 ∧ Sm d.about m 1) (hm : 1 ≤ m) : Sm (.tuple (ds.map Deed.D)) (ds.length * (3 * m + 1) + 1) 3 := by
  have := sm_tup (ds := ds.map Deed.D) (c := 3 * m + 1) (k := 2) fun e he => by
    obtain ⟨d, hd, rfl⟩ := List.mem_map.mp he
    exact sm_deed (h d hd).1 (h d hd).2 hm
  rw [List.length_map] at this
  exact this
/-- how much some deeds can do -/
theorem effect_abs {ts : List Tie} {B : Nat} : ∀ (ds : List Deed) (k : Nat), (∀ d ∈ ds, d.times.natAbs ≤ B) → (effect ts ds k).natAbs ≤ ds.length * B
  | [], k, _ => by simp [effect]
  | d :: ds, k, h => by
    have ih := effect_abs (ts := ts) ds k fun m hm => h m (List.mem_cons_of_mem _ hm)
    have hd := h d (List.mem_cons_self ..)
    have hp : (d.part ts k).natAbs ≤ B := by
      unfold Deed.part
      split
      · exact hd
      · simp
    unfold effect at ih ⊢
    simp only [List.map_cons, List.sum_cons, List.length_cons]
    rw [Nat.succ_mul]
    omega
theorem behind_abs {ts : List Tie} {B M : Nat} {f : Nat → Int} (ds : List Deed) (k : Nat) (h : ∀ d ∈ ds, d.times.natAbs ≤ B) (hf : ∀ k, (f k).natAbs ≤ M) :
    (behind ts f ds k).natAbs ≤ M + ds.length * B := by
  rw [behind_eq]
  have h1 := effect_abs (ts := ts) ds k h
  have h2 := hf k
  omega
theorem neg_neg (d : Deed) : d.neg.neg = d := by
  cases d <;> simp [Deed.neg]
theorem map_neg_neg (ds : List Deed) : (ds.map Deed.neg).map Deed.neg = ds := by
  rw [List.map_map]
  have : Deed.neg ∘ Deed.neg = id := funext neg_neg
  rw [this, List.map_id]
end BV
namespace BV
open PySem L2
theorem atI_last {xs : List V} {v : V} (h0 : 0 < xs.length) (h : xs[xs.length - 1]? = some v) : atI xs (-1) = some v := by
  have e : ixN xs.length (-1) = some (xs.length - 1) := by
    unfold ixN
    rw [if_neg (by omega), if_pos (by omega)]
    congr 1
    omega
  unfold atI
  rw [e]
  exact h
end BV
namespace BV
open PySem L2
theorem dpAll_take {K : PySem.W.Frag} {H : Hp} : ∀ {ds : List PyData} {vs : List V} (j : Nat), DpAll K H vs ds → DpAll K H (vs.take j) (ds.take j)
  | [], _, j, h => by cases h; simpa using DpAll.nil
  | d :: ds, _, 0, h => .nil
  | d :: ds, _, j + 1, h => by
    cases h with
    | cons h1 h2 => exact .cons h1 (dpAll_take j h2)
theorem dpAll_drop {K : PySem.W.Frag} {H : Hp} : ∀ {ds : List PyData} {vs : List V} (j : Nat), DpAll K H vs ds → DpAll K H (vs.drop j) (ds.drop j)
  | [], _, j, h => by cases h; simpa using DpAll.nil
  | d :: ds, _, 0, h => h
  | d :: ds, _, j + 1, h => by
    cases h with
    | cons h1 h2 => exact dpAll_drop j h2
theorem sIx_nat (n d j : Nat) : HT.sIx n d (some (j : Int)) = min j n := by
  unfold HT.sIx
  show (if (j : Int) < 0 then _ else min (j : Int).toNat n) = _
  rw [if_neg (by omega), Int.toNat_natCast]
theorem cut_hi (xs : List V) (j : Nat) : cutV xs none (some (j : Int)) = xs.take j := by
  unfold cutV
  rw [sIx_nat]
  show List.take (min j xs.length - 0) (List.drop 0 xs) = _
  rw [Nat.sub_zero, List.drop_zero]
  by_cases h : j ≤ xs.length
  · rw [Nat.min_eq_left h]
  · rw [Nat.min_eq_right (by omega), List.take_of_length_le (Nat.le_refl _), List.take_of_length_le (by omega)]
theorem cut_lo (xs : List V) (j : Nat) : cutV xs (some (j : Int)) none = xs.drop j := by
  unfold cutV
  rw [sIx_nat]
  show List.take (xs.length - min j xs.length) (List.drop (min j xs.length) xs) = _
  by_cases h : j ≤ xs.length
  · rw [Nat.min_eq_left h]
    exact List.take_of_length_le (by rw [List.length_drop]; exact Nat.le_refl _)
  · rw [Nat.min_eq_right (by omega), List.drop_of_length_le (Nat.le_refl _), List.drop_of_length_le (by omega)]
    simp
theorem at_st {t : TS} {D : Ends} {σ : L2.St} {H : Hp} (σ' : L2.St) (e : σ = σ') (h : t D σ' H) : t D σ H := by
  subst e
  exact h
end BV
namespace BV
open PySem L2
theorem slA_by {K : PySem.W.Frag} {x : V} {lo hi : Option Int} {H : Hp} {Q : VK} {a : Addr} {xs : List V} (hx : x = .ref a) (h : SqT K H a xs)
    (k : ∀ (c : Addr) H', Same H H' → SqT K H' c (cutV xs lo hi) → Q (.ref c) H') : rSlA K x lo hi H Q := by
  refine ⟨a, xs, hx, h, fun z => k _ _ (Same.refl _) ?_, fun _ p hp => k _ _ (same_new hp) (SqT.of upd_same)⟩
  have e : cutV xs lo hi = xs := by
    unfold cutV
    rw [z.1, z.2, List.drop_zero, Nat.sub_zero, List.take_of_length_le (Nat.le_refl _)]
  rw [e]
  exact h
end BV

namespace BV
open PySem PySem.Spec PyProof.Rows L2
theorem cr_minT {X : Cx} (hc : X.calm = true) : CallR X (.builtin "min")
    (fun vs H Q => ∃ (a : Addr) (ns : List Int), vs = [V.ref a] ∧ SqT X.K H a (ns.map V.int) ∧ 0 < ns.length ∧ ∀ m, m ∈ ns → (∀ y ∈ ns, m ≤ y) → Q (.int m) H) := by
  intro pins s σ H vs us Q I r h
  obtain ⟨a, ns, rfl, hs, hpos, q⟩ := h
  obtain ⟨its, rv, hl, _⟩ := I.tuple hs
  rw [Vals.ref1 r]
  have hi := rv.ints
  obtain ⟨xs, e⟩ := hi.allInts.items
  have hn : numsOf (intItems xs).toList = ns := by rw [← e]; exact hi.numsOf
  rw [nums_intItems] at hn
  have hl2 : s.heap.IsTuple a its.toArray := hl
  rw [e] at hl2
  have hd := I.ok.hd hc
  have hsz : ns.length = xs.size := by rw [← hn]; simp
  have alt : a < s.heap.objs.size := by
    obtain ⟨o, h1, _⟩ := hl2
    exact Heap.lt_size h1
  have isz : (intItems xs).size = xs.size := by simp [intItems]
  refine call_min_walk (wpAny_pyIter_tuple hl2 ⟨_, _, _, _, _, _, _, rfl, Walks.tuple ?_ s.heap.objs.size a (Nat.ne_of_lt alt) (intItems xs), ⟨?_, ?_⟩, ?_, ?_, CmpOf.ints_lt (numAt xs) ?_, fun v h' tk hP hk => ?_⟩)
  · exact hd
  · exact ⟨_, Heap.get?_push_size _ rfl, rfl, rfl⟩
  · exact hl2.push _
  · intro b hb
    show b < (s.heap.objs.push _).size
    rw [Array.size_push]
    rcases List.mem_cons.mp hb with rfl | hb
    · exact Nat.lt_succ_self _
    · obtain rfl := List.mem_singleton.mp hb
      exact Nat.lt_succ_of_lt alt
  · rw [isz]
    omega
  · exact fun i v hv => intItems_at hv
  · rw [isz] at hP
    obtain ⟨t, rfl⟩ := intItems_at hP
    obtain ⟨b1, b2⟩ := argBest_lt (numAt xs) (xs.size - 1)
    refine ⟨.int _, H, I.kept fun b o hb => ?_, ⟨_, rfl⟩, ?_⟩
    · exact hk b o (fun z => by
        obtain rfl := List.mem_singleton.mp z
        exact Nat.lt_irrefl _ (Heap.lt_size hb)) (Heap.get?_push_of_some _ hb)
    · have nat : ∀ i, i < xs.size → numAt xs i ∈ ns ∧ True := fun i hi => by
        refine ⟨?_, trivial⟩
        rw [← hn]
        unfold numAt
        rw [Array.getElem?_eq_getElem hi]
        exact List.mem_map.mpr ⟨xs[i], by simp, rfl⟩
      refine q _ (nat _ (by omega)).1 fun y hy => ?_
      rw [← hn] at hy
      obtain ⟨p, hp, rfl⟩ := List.mem_map.mp hy
      obtain ⟨j, hj, rfl⟩ := List.mem_iff_getElem.mp hp
      have hj' : j < xs.size := by simpa using hj
      have := b2 j (by omega)
      have e2 : numAt xs j = (xs.toList[j]).1 := by
        unfold numAt
        rw [Array.getElem?_eq_getElem hj']
        simp
      rw [← e2]
      exact this
end BV
namespace BV
open PySem L2
section
variable {X : Cx} (K : PySem.W.Frag)
def rMinT (K : PySem.W.Frag) : List V → Hp → VK → Prop := fun vs H Q => ∃ (a : Addr) (ns : List Int), vs = [V.ref a] ∧ SqT K H a (ns.map V.int) ∧ 0 < ns.length ∧ ∀ m, m ∈ ns → (∀ y ∈ ns, m ≤ y) → Q (.int m) H
theorem minTK (hc : X.calm = true := by rfl) (h : X.K = K := by rfl) : CallR X (.builtin "min") (rMinT K) := by
  subst h
  exact cr_minT hc
theorem minLK (hc : X.calm = true := by rfl) (h : X.K = K := by rfl) : CallR X (.builtin "min") (rMin K) := by
  subst h
  exact cr_min hc
theorem anyLK (hc : X.calm = true := by rfl) (h : X.K = K := by rfl) : CallR X (.builtin "any") (rAny K) := by
  subst h
  exact cr_any hc
end
end BV

namespace BV
open PySem L2
section
variable {X : Cx} (K : PySem.W.Frag)
theorem catA (h : X.K = K := by rfl) : OpR X (binaryOp .Add) (rCatA K) := by
  subst h
  exact op_catA
end
theorem catA_by {K : PySem.W.Frag} {x y : V} {H : Hp} {Q : VK} {a b : Addr} {xs ys : List V} (hx : x = .ref a) (hy : y = .ref b) (h1 : SqT K H a xs) (h2 : SqT K H b ys) (hl : xs.length + ys.length ≤ 100000)
    (k : ∀ (c : Addr) H', Same H H' → SqT K H' c (xs ++ ys) → Q (.ref c) H') : rCatA K x y H Q := by
  refine ⟨a, b, xs, ys, hx, hy, h1, h2, Nat.le_trans hl (by decide), fun e => ?_, fun _ e => ?_, fun _ _ p hp => ?_⟩
  · subst e
    exact k _ _ (Same.refl _) h2
  · subst e
    exact k _ _ (Same.refl _) (by rw [List.append_nil]; exact h1)
  · exact k _ _ (same_new hp) (SqT.of upd_same)
theorem sqL_same {K : PySem.W.Frag} {H H' : Hp} {a : Addr} {xs : List V} (s : Same H H') (h : SqL K H a xs) : SqL K H' a xs := by
  rcases h with (h | ⟨o, h⟩) | h
  · exact .inl (.inl (s _ _ h))
  · exact .inl (.inr ⟨o, s _ _ h⟩)
  · exact .inr h
/-- [1 for z in zs if z < 0], walked to the place i -/
def Ones (zs : List Int) (i : Nat) (acc : List V) : Prop := ∃ m : Nat, acc = (List.replicate m (1 : Int)).map V.int ∧ m ≤ i ∧ (m = 0 ↔ ∀ z ∈ zs.take i, 0 ≤ z)
theorem Ones.yes {zs : List Int} {i : Nat} {acc : List V} {z : Int} (h : Ones zs i acc) (hz : zs[i]? = some z) (hn : z < 0) : Ones zs (i + 1) (acc ++ [.int 1]) := by
  obtain ⟨m, rfl, h1, _⟩ := h
  refine ⟨m + 1, ?_, by omega, ?_⟩
  · rw [List.replicate_succ', List.map_append]
    rfl
  · constructor
    · intro e
      omega
    · intro e
      have := e z (by rw [List.take_add_one, hz]; simp)
      omega
theorem Ones.no {zs : List Int} {i : Nat} {acc : List V} {z : Int} (h : Ones zs i acc) (hz : zs[i]? = some z) (hn : ¬ z < 0) : Ones zs (i + 1) acc := by
  obtain ⟨m, rfl, h1, h2⟩ := h
  refine ⟨m, rfl, by omega, ?_⟩
  rw [h2, List.take_add_one, hz]
  constructor
  · intro e x hx
    rcases List.mem_append.mp hx with q | q
    · exact e x q
    · have : x = z := by simpa using q
      omega
  · intro e x hx
    exact e x (List.mem_append_left _ hx)
theorem ones_eqv (m : Nat) : (PyData.list ((List.replicate m (1 : Int)).map PyData.int)).eqv (.list []) = decide (m = 0) := by
  cases m with
  | zero => rfl
  | succ m => rfl
end BV

namespace BV
open PySem PySem.Spec PyProof.Rows L2
/-! ### (v,) * k for any k from 0 on -/
theorem mul_none (l : Addr) (items : Array Value) (n : Nat) (dd : Option Addr) (sl : Array (Option Value)) (u : Tok) (hi : items.isEmpty = false) :
    Meets (Builtin.«tuple.__mul__» ⟨[.ref l, .int 0 u], []⟩) (fun _ R s => s.heap.get? l = some { cls := .type "tuple", dict := dd, data := .seq items n, slots := sl } ∧
      R (.ok (.ret (Value.ref s.heap.objs.size))) { s with heap := s.heap.push { cls := Value.type "tuple", data := Data.seq #[] }, toks := s.toks }) := by
  refine .of_wp fun prog w A R s h => ?_
  obtain ⟨hp, g, d, tk, os⟩ := s
  obtain ⟨hl, h⟩ := h
  have f1 := AutoSeq1.idx_int
  have c0 : (decide ((0 : Int) < -(2 ^ 63)) || decide ((0 : Int) ≥ 2 ^ 63)) = false := by decide
  have c1 : (items.isEmpty || (0 : Int) == 1) = false := by rw [hi]; rfl
  have c2 : (decide ((0 : Int) ≤ 0) || items.isEmpty) = true := by simp
  wp_walk using AutoSeq1.wpAny_loadPart' hl
  repeat (first
    | (refine wpAny_ite_false (decide_eq_false (by rw [c0]; exact Bool.false_ne_true)) ?_; wp_walk using AutoSeq1.wpAny_loadPart' hl)
    | (refine wpAny_ite_false (decide_eq_false (by rw [c1]; exact Bool.false_ne_true)) ?_; wp_walk using AutoSeq1.wpAny_loadPart' hl)
    | (refine wpAny_ite_true (decide_eq_true c2) ?_; wp_walk using AutoSeq1.wpAny_loadPart' hl))
  exact ⟨_, rfl, h⟩
def rRepN (K : PySem.W.Frag) : R2 := fun x y H Q => ∃ (l : Addr) (k : Nat) (v : V), x = .ref l ∧ y = .int (k : Int) ∧ SqT K H l [v] ∧ k ≤ 1000 ∧ ∀ (p : Addr) H', Same H H' → SqT K H' p (List.replicate k v) → Q (.ref p) H'
theorem flat_rep (k : Nat) (v : V) : (List.replicate k [v]).flatten = List.replicate k v := by
  induction k with
  | zero => rfl
  | succ k ih => rw [List.replicate_succ, List.flatten_cons, ih, List.replicate_succ]; rfl
theorem op_repN {X : Cx} (K : PySem.W.Frag) (hK : X.K = K := by rfl) : OpR X (binaryOp .Mult) (rRepN K) := by
  subst hK
  intro pins s σ H x y v u Q I rx ry h
  obtain ⟨l, k, w0, rfl, rfl, hT, hk, q⟩ := h
  by_cases h0 : k = 0
  · subst h0
    cases rx
    obtain ⟨t, rfl⟩ := ry
    obtain ⟨its, r, ⟨⟨cls, dd, data, sl⟩, ho, hc, n, hd⟩, hs⟩ := I.tuple hT
    simp only at hc hd
    subst hc hd
    have hi : its.toArray.isEmpty = false := by
      have := r.length
      cases its with
      | nil => simp at this
      | cons a b => rfl
    refine wpAny_binaryOp_repeat_ref (T := "tuple") (U := "int") (by decide) ⟨_, ho, rfl⟩ (fun s' => typeIs_int s' _ t) noFill_tuple_mul F.fills_int_mul F.slot_int_rmul repeat_tuple F.slot_int_index.lookup ?_
    refine call_meets F.slot_int_rmul (typeIs_int s _ t) F.entry_int_rmul (F.args_int_rmul_2 _ _) (int_rmul_tuple _ t l its.toArray n dd sl) ⟨ho, rfl, ⟨_, ho, rfl⟩, ?_⟩
    refine call_meets F.slot_tuple_mul ⟨_, ho, rfl⟩ F.entry_tuple_mul (F.args_tuple_mul_2 _ _) (mul_none l its.toArray n dd sl t hi) ⟨ho, ?_⟩
    have fr := I.hok.fresh (Nat.le_refl s.heap.objs.size)
    refine ⟨.ref s.heap.objs.size, _, I.laid (t' := s.toks) (o := .tup []) (fun b ob z => Heap.get?_push_of_some _ z) (Nat.le_refl _) ⟨Nat.zero_le _, [], .nil, IsTup.new _ _⟩, rfl, q _ _ (same_new fr) (SqT.of upd_same)⟩
  · refine op_repT1 X.K rfl pins s σ H (.ref l) (.int k) v u Q I rx ry ⟨l, k, [w0], rfl, rfl, hT, by simp, by omega, by omega, by simp, fun e => ?_, fun _ p hp => ?_⟩
    · have : k = 1 := by omega
      subst this
      exact q _ _ (Same.refl _) hT
    · refine q _ _ (same_new hp) (SqT.of ?_)
      rw [upd_same, Int.toNat_natCast, flat_rep]
end BV

namespace BV
open PySem L2
/-! ### comprehensions that draw -/
theorem era_kp {b g D : Addr} {H H' : Hp} (s : Kp b g H H') : Kp b g (era H D) (era H' D) := fun a o e n1 n2 => by
  by_cases h : a = D
  · subst h
    rw [era_at] at e
    cases e
  · rw [era_ne h] at e ⊢
    exact s _ _ e n1 n2
theorem box_era {b g D : Addr} {H : Hp} (x : Box H b g) (h1 : D ≠ b) (h2 : D ≠ g) : Box (era H D) b g := by
  obtain ⟨⟨st, c, x1⟩, ns, x2, x3⟩ := x
  exact ⟨⟨st, c, by rw [era_ne h1.symm]; exact x1⟩, ns, by rw [era_ne h2.symm]; exact x2, x3⟩
theorem bx_set {b g l : Addr} {H : Hp} {o : HO} (x : Box H b g) (h1 : l ≠ b) (h2 : l ≠ g) : Box (upd H l o) b g := by
  obtain ⟨⟨st, c, x1⟩, ns, x2, x3⟩ := x
  exact ⟨⟨st, c, by rw [upd_ne h1.symm]; exact x1⟩, ns, by rw [upd_ne h2.symm]; exact x2, x3⟩
theorem bx_ne {b g l : Addr} {H : Hp} (x : Box H b g) (h : H l = none) : l ≠ b ∧ l ≠ g := by
  obtain ⟨⟨st, c, x1⟩, ns, x2, x3⟩ := x
  exact ⟨fun e => (by rw [e, x1] at h; cases h), fun e => (by rw [e, x2] at h; cases h)⟩
/-- as LcI, with the box of draws -/
def LcB (b g : Addr) (H1 : Hp) (D : Addr) (R : Nat → List V → Hp → Prop) (i : Nat) (H : Hp) : Prop :=
  ∃ acc, H D = some (.lst acc) ∧ Kp b g H1 (era H D) ∧ Box H b g ∧ R i acc (era H D)
theorem lc_addB {b g : Addr} {H1 H H4 : Hp} {D : Addr} {R : Nat → List V → Hp → Prop} {i : Nat} {acc : List V} {y : V} (nb : D ≠ b) (ng : D ≠ g) (ha : H D = some (.lst acc))
    (e : Kp b g H1 (era H D)) (s : Kp b g H H4) (x : Box H4 b g) (hl : acc.length < 100000) (r : R i (acc ++ [y]) (era H4 D)) :
    ∃ acc, H4 D = some (.lst acc) ∧ acc.length < sizeLine ∧ LcB b g H1 D R i (upd H4 D (.lst (acc ++ [y]))) := by
  refine ⟨acc, s _ _ ha nb ng, Nat.lt_of_lt_of_le hl (by decide), acc ++ [y], upd_same, ?_, bx_set x nb ng, ?_⟩
  · rw [era_upd]
    exact e.trans (era_kp s)
  · rw [era_upd]
    exact r
theorem lc_skipB {b g : Addr} {H1 H H3 : Hp} {D : Addr} {R : Nat → List V → Hp → Prop} {i : Nat} {acc : List V} (nb : D ≠ b) (ng : D ≠ g) (ha : H D = some (.lst acc))
    (e : Kp b g H1 (era H D)) (s : Kp b g H H3) (x : Box H3 b g) (r : R i acc (era H3 D)) : LcB b g H1 D R i H3 :=
  ⟨acc, s _ _ ha nb ng, e.trans (era_kp s), x, r⟩
theorem lc_runB {b g0 : Addr} {J : It} {n : Nat} {G : Hp → Prop} {Y : Nat → Hp → V → Hp → Prop} (w : Walk J n G Y) {g : TG} {tt : TT} {te : TE} {vs : List Nat}
    {σ : L2.St} {H1 : Hp} {D : Addr} {Qd : Hp → Prop} (hD : H1 D = none) (hB : Box H1 b g0) (R : Nat → List V → Hp → Prop)
    (hG : ∀ H, Kp b g0 H1 H → Box H b g0 → G H) (h0 : R 0 [] H1)
    (hs : ∀ i x acc H H', D ≠ b → D ≠ g0 → i < n → H D = some (.lst acc) → Kp b g0 H1 (era H D) → Kp b g0 H1 H → Box H b g0 → R i acc (era H D) → Y i H x H' →
      g x (wipe σ vs) H' fun σ2 H2 => wipe σ2 vs = wipe σ vs ∧ tt σ2 H2 fun t H3 =>
        if t = true then te σ2 H3 fun y H4 => ∃ acc, H4 D = some (.lst acc) ∧ acc.length < sizeLine ∧ LcB b g0 H1 D R (i + 1) (upd H4 D (.lst (acc ++ [y])))
        else LcB b g0 H1 D R (i + 1) H3)
    (hd : ∀ acc H, H D = some (.lst acc) → Kp b g0 H1 H → Box H b g0 → R n acc (era H D) → Qd H) :
    ∃ W : Nat → Nat → Hp → Prop, (∃ m, W 0 m (upd H1 D (.lst []))) ∧ ∀ i m H, W i m H →
      (J.stop i H ∧ Qd H) ∨ (J.go i H ∧ ∃ Nx : Hp → Prop, (∀ H', Nx H' → ∃ m', m' < m ∧ W (i + 1) m' H') ∧
        ∀ x H', J.yld i H x H' → g x (wipe σ vs) H' fun σ2 H2 => wipe σ2 vs = wipe σ vs ∧ tt σ2 H2 fun b H3 =>
        if b = true then te σ2 H3 fun y H4 => ∃ acc, H4 D = some (.lst acc) ∧ acc.length < sizeLine ∧ Nx (upd H4 D (.lst (acc ++ [y]))) else Nx H3) := by
  obtain ⟨nb, ng⟩ := bx_ne hB hD
  have back : ∀ {H : Hp}, Kp b g0 H1 (era H D) → Kp b g0 H1 H := fun e => e.trans (Kp.same era_back)
  refine lc_it w (LcB b g0 H1 D R) ?_ ?_ ?_ ?_
  · exact ⟨[], upd_same, by rw [era_upd, era_none hD]; exact Kp.refl _, bx_set hB nb ng, by rw [era_upd, era_none hD]; exact h0⟩
  · rintro i H _ ⟨acc, _, e, x, _⟩
    exact hG H (back e) x
  · rintro i x acc' H' hi ⟨acc, ha, e, bx, r⟩ y
    exact hs i x acc _ _ nb ng hi ha e (back e) bx r y
  · rintro H ⟨acc, ha, e, bx, r⟩
    exact hd acc H ha (back e) bx r
end BV

namespace BV
open PySem L2
/-! ### ways, cuts, what is reached -/
inductive Way (ts : List Tie) (a : Nat) : List Nat → Nat → Prop
  | nil : Way ts a [] a
  | snoc {w : List Nat} {p k q : Nat} {t : Tie} : Way ts a w p → ts[k]? = some t → (t.1 = p ∧ t.2 = q ∨ t.2 = p ∧ t.1 = q) → Way ts a (w ++ [k]) q
def oddIn (w lot : List Nat) : Bool := decide ((w.filter fun k => decide (k ∈ lot)).length % 2 = 1)
theorem oddIn_snoc (w : List Nat) (k : Nat) (lot : List Nat) : oddIn (w ++ [k]) lot = Bool.xor (oddIn w lot) (decide (k ∈ lot)) := by
  unfold oddIn
  rw [List.filter_append, List.length_append]
  by_cases h : k ∈ lot
  · have e : ([k].filter fun k => decide (k ∈ lot)).length = 1 := by simp [h]
    rw [e, decide_eq_true h, Bool.xor_true, Bool.eq_iff_iff]
    simp only [decide_eq_true_eq, Bool.not_eq_true', decide_eq_false_iff_not]
    omega
  · have e : ([k].filter fun k => decide (k ∈ lot)).length = 0 := by simp [h]
    rw [e, decide_eq_false h, Bool.xor_false, Nat.add_zero]
def side (S : List Nat) (p : Nat) : Bool := decide (p ∈ S)
/-- the ties of the lot are those between unlike sides -/
def IsCutOf (ts : List Tie) (lot S : List Nat) : Prop := ∀ k t, ts[k]? = some t → decide (k ∈ lot) = Bool.xor (side S t.1) (side S t.2)
theorem way_side {ts : List Tie} {lot S : List Nat} (h : IsCutOf ts lot S) {a p : Nat} {w : List Nat} (hw : Way ts a w p) : oddIn w lot = Bool.xor (side S a) (side S p) := by
  induction hw with
  | nil => simp [oddIn]
  | snoc hw ht hq ih =>
    rw [oddIn_snoc, ih, h _ _ ht]
    rcases hq with ⟨e1, e2⟩ | ⟨e1, e2⟩
    · rw [e1, e2]
      cases side S a <;> cases side S _ <;> cases side S _ <;> rfl
    · rw [e1, e2]
      cases side S a <;> cases side S _ <;> cases side S _ <;> rfl
def crosses (ps : List Nat) (t : Tie) : Bool := !decide (decide (t.1 ∈ ps) = decide (t.2 ∈ ps))
def cutL (ts : List Tie) (ps : List Nat) : List Nat := (List.range ts.length).filter fun k => match ts[k]? with
  | some t => crosses ps t
  | none => false
theorem crosses_xor (ps : List Nat) (t : Tie) : crosses ps t = Bool.xor (side ps t.1) (side ps t.2) := by
  unfold crosses side
  cases decide (t.1 ∈ ps) <;> cases decide (t.2 ∈ ps) <;> rfl
theorem mem_cutL {ts : List Tie} {ps : List Nat} {k : Nat} : k ∈ cutL ts ps ↔ ∃ t, ts[k]? = some t ∧ crosses ps t = true := by
  unfold cutL
  rw [List.mem_filter, List.mem_range]
  constructor
  · rintro ⟨h1, h2⟩
    have ht : ts[k]? = some ts[k] := by simp [h1]
    rw [ht] at h2
    exact ⟨_, ht, h2⟩
  · rintro ⟨t, ht, hc⟩
    refine ⟨(List.getElem?_eq_some_iff.mp ht).1, ?_⟩
    rw [ht]
    exact hc
theorem cut_of_cutL (ts : List Tie) (ps : List Nat) : IsCutOf ts (cutL ts ps) ps := fun k t ht => by
  rw [← crosses_xor, Bool.eq_iff_iff, decide_eq_true_eq, mem_cutL]
  constructor
  · rintro ⟨t2, e, h⟩
    rw [ht] at e
    cases e
    exact h
  · exact fun h => ⟨t, ht, h⟩
theorem cutL_asc (ts : List Tie) (ps : List Nat) : (cutL ts ps).Pairwise (· < ·) := List.pairwise_lt_range.filter _
theorem asc_uniq {l m : List Nat} (hl : l.Pairwise (· < ·)) (hm : m.Pairwise (· < ·)) (h : ∀ k, k ∈ l ↔ k ∈ m) : l = m :=
  ((List.perm_ext_iff_of_nodup (hl.imp fun z => Nat.ne_of_lt z) (hm.imp fun z => Nat.ne_of_lt z)).mpr h).eq_of_pairwise (le := (· < ·)) (fun a b _ _ x y => absurd x (Nat.lt_asymm y)) hl hm
/-- a lot of L ties -/
def LotA (L : Nat) (ks : List Nat) : Prop := ks.Pairwise (· < ·) ∧ ∀ k ∈ ks, k < L
theorem cutL_lot (ts : List Tie) (ps : List Nat) : LotA ts.length (cutL ts ps) := ⟨cutL_asc ts ps, fun k hk => List.mem_range.mp (List.mem_filter.mp hk).1⟩
theorem cutL_of {ts : List Tie} {lot S : List Nat} (hl : LotA ts.length lot) (h : IsCutOf ts lot S) : cutL ts S = lot := by
  refine asc_uniq (cutL_asc ts S) hl.1 fun k => ?_
  rw [mem_cutL]
  constructor
  · rintro ⟨t, ht, hc⟩
    rw [crosses_xor, ← h k t ht] at hc
    exact of_decide_eq_true hc
  · intro hk
    have hlt := hl.2 k hk
    have ht : ts[k]? = some ts[k] := List.getElem?_eq_getElem hlt
    refine ⟨_, ht, ?_⟩
    rw [crosses_xor, ← h k _ ht]
    exact decide_eq_true hk
/-- everything hangs together -/
theorem all_found {n : Nat} {ts : List Tie} (hok : WebOk n ts) {F : Nat → Prop} (h0 : F 0) (hcl : ∀ t ∈ ts, F t.1 → F t.2) : ∀ p, p < n → F p := by
  intro p
  induction p using Nat.strongRecOn with
  | _ p ih =>
    intro hp
    by_cases h : p = 0
    · rw [h]
      exact h0
    · obtain ⟨q, hq, hm⟩ := hok.hang p (by omega) hp
      exact hcl (q, p) hm (ih q hq (by omega))
/-- the places on the other side than 0, by ways -/
def farL (n : Nat) (ws : Nat → List Nat) (lot : List Nat) : List Nat := (List.range n).filter fun p => oddIn (ws p) lot
theorem far_side {n : Nat} {ts : List Tie} {ws : Nat → List Nat} {lot S : List Nat} (hw : ∀ p, p < n → Way ts 0 (ws p) p) (h : IsCutOf ts lot S) {p : Nat} (hp : p < n) :
    side (farL n ws lot) p = Bool.xor (side S 0) (side S p) := by
  rw [← way_side h (hw p hp)]
  unfold side farL
  rw [Bool.eq_iff_iff, decide_eq_true_eq, List.mem_filter, List.mem_range]
  exact ⟨fun z => z.2, fun z => ⟨hp, z⟩⟩
theorem far_cut {n : Nat} {ts : List Tie} (hends : ∀ t ∈ ts, t.1 < t.2 ∧ t.2 < n) {ws : Nat → List Nat} {lot S : List Nat} (hl : LotA ts.length lot) (hw : ∀ p, p < n → Way ts 0 (ws p) p) (h : IsCutOf ts lot S) :
    cutL ts (farL n ws lot) = lot := by
  refine cutL_of hl fun k t ht => ?_
  have hm := hends t (List.mem_of_getElem? ht)
  rw [far_side hw h (show t.1 < n by omega), far_side hw h hm.2, h k t ht]
  cases side S 0 <;> cases side S t.1 <;> cases side S t.2 <;> rfl
theorem far_iff {n : Nat} {ts : List Tie} (hends : ∀ t ∈ ts, t.1 < t.2 ∧ t.2 < n) {ws : Nat → List Nat} {lot : List Nat} (hl : LotA ts.length lot) (hw : ∀ p, p < n → Way ts 0 (ws p) p) :
    cutL ts (farL n ws lot) = lot ↔ ∃ S, IsCutOf ts lot S :=
  ⟨fun e => ⟨_, by have := cut_of_cutL ts (farL n ws lot); rwa [e] at this⟩, fun ⟨S, h⟩ => far_cut hends hl hw h⟩
end BV

namespace BV
open PySem L2
theorem flat_ints : ∀ ms : List Int, (ms.map V.int).all flatV = true
  | [] => rfl
  | m :: ms => by
    rw [List.map_cons, List.all_cons, flat_ints ms]
    rfl
theorem flat_nats (ms : List Nat) : (ms.map fun (k : Nat) => V.int k).all flatV = true := by
  have e3 : (ms.map fun (k : Nat) => V.int k) = (ms.map fun (k : Nat) => (k : Int)).map V.int := by rw [List.map_map]; rfl
  rw [e3]
  exact flat_ints _
theorem inv_nats (k : Nat) : ∀ ks : List Nat, inV (.int (k : Int)) (ks.map fun (k : Nat) => V.int k) = decide (k ∈ ks)
  | [] => by simp [inV]
  | x :: ks => by
    have ih := inv_nats k ks
    have e : (((x : Nat) : Int) == (k : Int)) = decide (k = x) := by
      by_cases h : k = x
      · subst h
        simp
      · rw [decide_eq_false h]
        exact beq_eq_false_iff_ne.mpr fun z => h (by omega)
    show ((((x : Nat) : Int) == (k : Int)) || inV (.int (k : Int)) (ks.map fun (k : Nat) => V.int k)) = _
    rw [e, ih, ← Bool.decide_or]
    congr 1
    simp
theorem lot_dp {K : PySem.W.Frag} {H : Hp} {a : Addr} {ks : List Nat} (h : SqT K H a (ks.map fun (k : Nat) => V.int k)) : Dp K H (.ref a) (lotD ks) := by
  refine .tup h ?_
  have e2 : (ks.map fun (k : Nat) => PyData.int k) = (ks.map fun (k : Nat) => (k : Int)).map PyData.int := by rw [List.map_map]; rfl
  have e3 : (ks.map fun (k : Nat) => V.int k) = (ks.map fun (k : Nat) => (k : Int)).map V.int := by rw [List.map_map]; rfl
  rw [e2, e3]
  exact dpAll_ints _
abbrev sAll : Stmt := top 7
abbrev nAll : List Str := ["web"]
abbrev pAll : List Str := ["web"]
theorem scAll : FnScope nAll pAll (defScope sAll) := ⟨rfl, rfl, rfl, by decide +kernel, rfl, by decide +kernel, by decide +kernel⟩
abbrev sFar : Stmt := top 8
abbrev nFar : List Str := ["web", "tie", "place", "one", "other"]
abbrev pFar : List Str := ["web", "tie", "place"]
theorem scFar : FnScope nFar pFar (defScope sFar) := ⟨rfl, rfl, rfl, by decide +kernel, rfl, by decide +kernel, by decide +kernel⟩
abbrev sWays : Stmt := top 9
abbrev nWays : List Str := ["web", "ties", "start", "found", "queue", "place", "tie", "goal"]
abbrev pWays : List Str := ["web", "ties", "start"]
theorem scWays : FnScope nWays pWays (defScope sWays) := ⟨rfl, rfl, rfl, by decide +kernel, rfl, by decide +kernel, by decide +kernel⟩
def spAll (K : PySem.W.Frag) : Sp := fun vs H Q _ => ∃ (v : V) (n : Nat) (ts : List Tie), vs = [v] ∧ Dp K H v (webD n ts) ∧ ts.length ≤ 3000 ∧ ∀ (u : V) H', Same H H' → Dp K H' u (lotD (List.range ts.length)) → Q u H'
def farEnd (t : Tie) (p : Nat) : Nat := if p = t.1 then t.2 else t.1
def spFar (K : PySem.W.Frag) : Sp := fun vs H Q _ => ∃ (v : V) (n : Nat) (ts : List Tie) (k p : Nat) (t : Tie), vs = [v, .int k, .int p] ∧ Dp K H v (webD n ts) ∧ ts[k]? = some t ∧ Q (.int (farEnd t p : Nat)) H
def natsV (ks : List Nat) : List V := ks.map fun (k : Nat) => V.int k
/-- what is found: the places fnd, each with a way -/
def Found (K : PySem.W.Frag) (ts : List Tie) (es : List Nat) (n start : Nat) (H : Hp) (d : Addr) (fnd : List Nat) : Prop :=
  (∃ kvs : List (Key × V), H d = some (.dK kvs) ∧ kvs.map (·.1) = fnd.map (fun (p : Nat) => (Sum.inl (p : Int) : Key)) ∧
    ∀ p ∈ fnd, ∃ (a : Addr) (w : List Nat), valV kvs (Sum.inl (p : Int)) = some (.ref a) ∧ SqT K H a (natsV w) ∧ Way ts start w p ∧ (∀ k ∈ w, k ∈ es) ∧ w.length + 1 ≤ fnd.length ∧ w.Nodup ∧ ∀ k ∈ w, ∀ t, ts[k]? = some t → t.1 ∈ fnd ∧ t.2 ∈ fnd) ∧
  fnd.Nodup ∧ (∀ p ∈ fnd, p < n) ∧ start ∈ fnd
/-- nothing leads on from p -/
def Shut (ts : List Tie) (es fnd : List Nat) (p : Nat) : Prop := ∀ k ∈ es, ∀ t, ts[k]? = some t → (t.1 = p → t.2 ∈ fnd) ∧ (t.2 = p → t.1 ∈ fnd)
theorem Shut.mono {ts : List Tie} {es fnd fnd2 : List Nat} {p : Nat} (h : Shut ts es fnd p) (m : ∀ x ∈ fnd, x ∈ fnd2) : Shut ts es fnd2 p := fun k hk t ht => ⟨fun e => m _ ((h k hk t ht).1 e), fun e => m _ ((h k hk t ht).2 e)⟩
def spWays (K : PySem.W.Frag) : Sp := fun vs H Q _ => ∃ (v ev : V) (n : Nat) (ts : List Tie) (es : List Nat) (start : Nat), vs = [v, ev, .int start] ∧ Dp K H v (webD n ts) ∧ Dp K H ev (lotD es) ∧
  (∀ t ∈ ts, t.1 < t.2 ∧ t.2 < n) ∧ (∀ k ∈ es, k < ts.length) ∧ start < n ∧ n ≤ 1000 ∧ es.length ≤ 3000 ∧
  ∀ (d : Addr) (fnd : List Nat) H', H d = none → Same H H' → Found K ts es n start H' d fnd → (∀ p ∈ fnd, Shut ts es fnd p) → Q (.ref d) H'
theorem dp_lotN {K : PySem.W.Frag} {H : Hp} {v : V} {ks : List Nat} (h : Dp K H v (lotD ks)) : ∃ a, v = .ref a ∧ SqT K H a (natsV ks) := dp_lotI h
section
variable {P : Program} {w : World} {K : PySem.W.Frag} {mg : Str → Option Value} {base : Heap}
theorem ok_all {f : Addr} {fd : FuncData} (D : Df K mg "all_ties" sAll pAll f fd) (T : Bl mg) : FnOk P w K mg base CX0 1 f fd pAll (spAll K) := by
  refine D.fn.ok scAll (fun vs H Q E h => ?_) (fun cdv A outer s H vs Q E hr h => ?_)
  · obtain ⟨v, n, ts, rfl, _⟩ := h
    rfl
  · obtain ⟨v, n, ts, rfl, hw, hl, k⟩ := h
    have nd := scAll.nd
    obtain ⟨a, c, ys, rfl, ha, hc, hys⟩ := dp_web hw
    have hyl : ys.length = ts.length := by rw [dpAll_len hys, List.length_map]
    refine ⟨_, (pss_one (ps_ret (pe_tupRg rfl (by rfl) T.tuple (prg_1 (by rfl) T.range (pe_callB (lenK K) (by rfl) T.len PySem.boot_len (pa_cons (pe_ix (ixT K) (pv 0) pe_int (fun _ _ => rfl)) pa_nil)))))), ?_⟩
    refine ⟨_, rfl, a, _, _, _, rfl, rfl, ha, atI_nat (j := 1) rfl, c, ys, rfl, .inr hc, _, rfl, .of_le (by omega) (by omega) (by omega) (by omega), fun q hq => ?_⟩
    refine k _ _ (same_new hq) (lot_dp (SqT.of ?_))
    rw [upd_same]
    unfold rgV
    rw [hyl, show ((ts.length : Int) - 0).toNat = ts.length by omega]
    congr 2
    exact List.map_congr_left fun i _ => by rw [Int.zero_add]
theorem ok_far {f : Addr} {fd : FuncData} (D : Df K mg "far_end" sFar pFar f fd) (T : Bl mg) : FnOk P w K mg base CX0 1 f fd pFar (spFar K) := by
  refine D.fn.ok scFar (fun vs H Q E h => ?_) (fun cdv A outer s H vs Q E hr h => ?_)
  · obtain ⟨v, n, ts, kk, p, t, rfl, _⟩ := h
    rfl
  · obtain ⟨v, n, ts, kk, p, t, rfl, hw, ht, k⟩ := h
    have nd := scFar.nd
    obtain ⟨a, c, ys, rfl, ha, hc, hys⟩ := dp_web hw
    obtain ⟨y, hy, hyd⟩ := dpAll_at hys (show (ts.map tieD)[kk]? = some (tieD t) by rw [List.getElem?_map, ht]; rfl)
    obtain ⟨az, rfl, haz⟩ := dp_tie hyd
    refine ⟨_, (pss_cons (ps_asg (pe_ix (ixT K) (pe_ix (ixT K) (pv 0) pe_int (fun _ _ => rfl)) (pv 1) (fun _ _ => rfl)) (pgT K rfl (pgs_cons (pg_name (i := 3) nd rfl (by first | exact Or.inl rfl | exact Or.inr rfl)) (pgs_cons (pg_name (i := 4) nd rfl (by first | exact Or.inl rfl | exact Or.inr rfl)) pgs_nil))))
      (pss_one (ps_ret (pe_ifExp (pt_cmpR op_eq (pv 2) (pv 3) (nomark _)) (pv 4) (pv 3))))), ?_⟩
    refine ⟨_, rfl, a, _, _, _, rfl, rfl, ha, atI_nat (j := 1) rfl, _, rfl, c, _, _, _, rfl, rfl, hc, atI_nat hy, az, _, rfl, haz, rfl, _, _, rfl, _, _, rfl, rfl, ?_⟩
    refine ⟨_, rfl, _, rfl, rfl, _, rfl, ?_⟩
    unfold farEnd at k
    refine ite2 (fun hh => ?_) (fun hh => ?_)
    · have e : p = t.1 := by
        have := V.int.inj (of_decide_eq_true hh)
        omega
      rw [if_pos e] at k
      exact ⟨_, rfl, k⟩
    · have e : ¬ p = t.1 := fun z => hh (by rw [z]; exact decide_eq_true rfl)
      rw [if_neg e] at k
      exact ⟨_, rfl, k⟩
def muW (n : Nat) (d q : Addr) (H : Hp) : Nat := (match H d with | some (.dK kvs) => 2 * (n - kvs.length) | _ => 0) + (match H q with | some (.lst xs) => xs.length | _ => 0)
theorem muW_at {n : Nat} {d q : Addr} {H : Hp} {kvs : List (Key × V)} {xs : List V} (h1 : H d = some (.dK kvs)) (h2 : H q = some (.lst xs)) : muW n d q H = 2 * (n - kvs.length) + xs.length := by
  unfold muW
  rw [h1, h2]
theorem kv_len {kvs : List (Key × V)} {fnd : List Nat} (h : kvs.map (·.1) = fnd.map (fun (p : Nat) => (Sum.inl (p : Int) : Key))) : kvs.length = fnd.length := by
  have := congrArg List.length h
  rwa [List.length_map, List.length_map] at this
theorem val_none {kvs : List (Key × V)} {fnd : List Nat} {p : Nat} (h : kvs.map (·.1) = fnd.map (fun (p : Nat) => (Sum.inl (p : Int) : Key))) : (valV kvs (Sum.inl (p : Int))).isSome = decide (p ∈ fnd) := by
  rw [← valV_any, Bool.eq_iff_iff, decide_eq_true_eq, List.any_eq_true]
  constructor
  · rintro ⟨kv, hm, he⟩
    have hm2 : kv.1 ∈ kvs.map (·.1) := List.mem_map.mpr ⟨kv, hm, rfl⟩
    rw [h] at hm2
    obtain ⟨x, hx, e⟩ := List.mem_map.mp hm2
    have e2 := of_decide_eq_true he
    rw [← e] at e2
    have : x = p := by
      have := Sum.inl.inj e2
      omega
    exact this ▸ hx
  · intro hp
    have hm2 : (Sum.inl (p : Int) : Key) ∈ kvs.map (·.1) := by
      rw [h]
      exact List.mem_map.mpr ⟨p, hp, rfl⟩
    obtain ⟨kv, hm, e⟩ := List.mem_map.mp hm2
    exact ⟨kv, hm, decide_eq_true e⟩
theorem nodup_small : ∀ (L : Nat) (l : List Nat), l.Nodup → (∀ x ∈ l, x < L) → l.length ≤ L
  | 0, l, _, h => by
    cases l with
    | nil => exact Nat.le_refl _
    | cons a r => exact absurd (h a (List.mem_cons_self ..)) (Nat.not_lt_zero _)
  | L + 1, l, hn, h => by
    have h1 := nodup_small L (l.erase L) (hn.erase L) (fun x hx => by
      have h2 := h x (List.mem_of_mem_erase hx)
      have h3 : x ≠ L := fun e => by
        subst e
        exact (List.Nodup.not_mem_erase hn) hx
      omega)
    by_cases e : L ∈ l
    · rw [List.length_erase_of_mem e] at h1
      omega
    · rw [List.erase_of_not_mem e] at h1
      omega
/-- the state of the search -/
structure Bfs (K : PySem.W.Frag) (ts : List Tie) (es : List Nat) (n start : Nat) (H : Hp) (d q : Addr) (fnd que : List Nat) : Prop where
  fd : Found K ts es n start H d fnd
  qu : H q = some (.lst (natsV que))
  qf : ∀ p ∈ que, p ∈ fnd
  ql : que.length ≤ fnd.length
theorem Found.kf {K : PySem.W.Frag} {ts : List Tie} {es : List Nat} {n start : Nat} {H H' : Hp} {d : Addr} {fnd : List Nat} (h : Found K ts es n start H d fnd) (s : KF H H') (hd : H' d = H d) : Found K ts es n start H' d fnd := by
  obtain ⟨⟨kvs, h1, h2, h3⟩, r⟩ := h
  exact ⟨⟨kvs, by rw [hd, h1], h2, fun p hp => by
    obtain ⟨a, w, e1, e2, e3⟩ := h3 p hp
    exact ⟨a, w, e1, sqT_kf s e2, e3⟩⟩, r⟩
theorem Found.same {K : PySem.W.Frag} {ts : List Tie} {es : List Nat} {n start : Nat} {H H' : Hp} {d : Addr} {fnd : List Nat} (h : Found K ts es n start H d fnd) (s : Same H H') : Found K ts es n start H' d fnd := by
  have ⟨⟨kvs, h1, _⟩, _⟩ := h
  exact h.kf (fun a o e _ => s a o e) (by rw [s _ _ h1, h1])
theorem kf_upd {H : Hp} {l : Addr} {o x : HO} (h : H l = some o) (ho : (∀ xs, o ≠ .tup xs) ∧ ∀ od u, o ≠ .frz od u) : KF H (upd H l x) := fun z o2 hz q => by
  have nz : z ≠ l := by
    rintro rfl
    rw [h] at hz
    cases hz
    obtain ⟨xs, e | ⟨od, e⟩⟩ := q
    · exact ho.1 _ e
    · exact ho.2 _ _ e
  rw [upd_ne nz]
  exact hz
theorem farEnd_way {ts : List Tie} {start p k : Nat} {w : List Nat} {t : Tie} (hw : Way ts start w p) (ht : ts[k]? = some t) (hp : p = t.1 ∨ p = t.2) : Way ts start (w ++ [k]) (farEnd t p) := by
  refine .snoc hw ht ?_
  unfold farEnd
  by_cases e : p = t.1
  · rw [if_pos e]
    exact .inl ⟨e.symm, rfl⟩
  · rw [if_neg e]
    rcases hp with z | z
    · exact absurd z e
    · exact .inr ⟨z.symm, rfl⟩
theorem ok_ways {f f1 : Addr} {fd fd1 : FuncData} (D : Df K mg "ways_from" sWays pWays f fd) (T : Bl mg) (D_far : Df K mg "far_end" sFar pFar f1 fd1) : FnOk P w K mg base CX0 2 f fd pWays (spWays K) := by
  have G_far : FnOk P w K mg base CX0 1 f1 fd1 pFar (spFar K) := ok_far D_far T
  refine D.fn.ok scWays (fun vs H Q E h => ?_) (fun cdv A outer s H vs Q E hr h => ?_)
  · obtain ⟨v, ev, n, ts, es, start, rfl, _⟩ := h
    rfl
  · obtain ⟨v, ev, n, ts, es, start, rfl, hw, he, hends, hes, hst, hn, hel, k⟩ := h
    have hr_far : Room 1 _ := hr
    have hu := hu_of hr
    have nd := scWays.nd
    obtain ⟨a, c, ys, rfl, ha, hc, hys⟩ := dp_web hw
    have hyl : ys.length = ts.length := by rw [dpAll_len hys, List.length_map]
    obtain ⟨ae, rfl, hae⟩ := dp_lotN he
    refine ⟨_, (pss_cons (ps_set (i := 3) nd rfl (by first | exact Or.inl rfl | exact Or.inr rfl) (pe_disp (pps_cons (pv 2) (pe_tup pa_nil) pps_nil) (by rfl) (by rfl) (fun z => by cases z) (by decide)))
      (pss_cons (ps_set (i := 4) nd rfl (by first | exact Or.inl rfl | exact Or.inr rfl) (pe_lst (pa_cons (pv 2) pa_nil)))
      (pss_cons (ps_while PassesOwn.never (pt_truth (pv 4) (by intro _; rfl)) (pss_cons (ps_set (i := 5) nd rfl (by first | exact Or.inl rfl | exact Or.inr rfl) (pe_bm PySem.F.plainAttrs_list PySem.F.slot_list_pop PySem.F.type_list_pop mt_popAt (pv 4) (pa_cons pe_int pa_nil)))
      (pss_one (ps_for PassesOwn.never rfl (piT K (pv 1)) (pg_name (i := 6) nd rfl (by first | exact Or.inl rfl | exact Or.inr rfl)) (pss_cons (ps_if (pt_cmpR (opNotIn K) (pv 5) (pe_ix (ixT K) (pe_ix (ixT K) (pv 0) pe_int (fun _ _ => rfl)) (pv 6) (fun _ _ => rfl)) rfl) (pss_one ps_continue) pss_nil)
      (pss_cons (ps_set (i := 7) nd rfl (by first | exact Or.inl rfl | exact Or.inr rfl) (pe_call G_far hr_far (by rfl) D_far.ad D_far.fn.kp D_far.bd .nil pass0 (pa_cons (pv 0) (pa_cons (pv 6) (pa_cons (pv 5) pa_nil)))))
      (pss_one (ps_if (pt_cmp (pc_dnotin hu (pv 7) (pv 3))) (pss_cons (ps_dput hu (pv 3) (pv 7) (pe_op (catA K) (pe_dget hu (pv 3) (pv 5) (fun _ _ => rfl)) (pe_tup (pa_cons (pv 6) pa_nil))) rfl)
      (pss_one (ps_expr (pe_bm PySem.F.plainAttrs_list PySem.F.slot_list_append PySem.F.type_list_append mt_append (pv 4) (pa_cons (pv 7) pa_nil))))) pss_nil))))))))
      (pss_one (ps_ret (pv 3)))))), ?_⟩
    refine fun d hd => ?_
    have s1 := same_new (o := .dK []) hd
    refine ⟨_, rfl, Nat.zero_le _, fun t0 ht0 => ?_⟩
    have s2 := same_new (o := .tup []) ht0
    have hd2 := s2 _ _ (upd_same (H := H) (a := d) (o := .dK []))
    have nd0 : d ≠ t0 := by
      rintro rfl
      rw [upd_same] at ht0
      cases ht0
    refine ⟨hd2, [(Sum.inl (start : Int), .ref t0)], rfl, (by show 1 ≤ 15; decide), ?_⟩
    dsimp only [gName]
    refine at_st [some (.ref a), some (.ref ae), some (.int start), some (.ref d), none, none, none, none] rfl ?_
    refine tSeq_go ?_
    refine ⟨_, rfl, by show 1 ≤ sizeLine; decide, fun q hq => ?_⟩
    have h3d : (upd (upd (upd H d (.dK [])) t0 (.tup [])) d (.dK (mergeK [] [((Sum.inl (start : Int) : Key), V.ref t0)]))) d = some (.dK [((Sum.inl (start : Int) : Key), V.ref t0)]) := upd_same
    have h3t : (upd (upd (upd H d (.dK [])) t0 (.tup [])) d (.dK (mergeK [] [((Sum.inl (start : Int) : Key), V.ref t0)]))) t0 = some (.tup []) := by
      rw [upd_ne nd0.symm]
      exact upd_same
    have h3s : Same H (upd (upd (upd H d (.dK [])) t0 (.tup [])) d (.dK (mergeK [] [((Sum.inl (start : Int) : Key), V.ref t0)]))) := same_old hd (s1.trans s2)
    generalize (upd (upd (upd H d (.dK [])) t0 (.tup [])) d (.dK (mergeK [] [((Sum.inl (start : Int) : Key), V.ref t0)]))) = H3 at *
    have s3 := same_new (o := .lst [.int start]) hq
    have s4 := h3s.trans s3
    have dq : d ≠ q := by
      rintro rfl
      rw [h3d] at hq
      cases hq
    have b4 : Bfs K ts es n start (upd H3 q (.lst [.int start])) d q [start] [start] := by
      refine ⟨⟨⟨_, s3 _ _ h3d, rfl, fun p hp => ?_⟩, by simp, by simpa using hst, by simp⟩, upd_same, by simp, Nat.le_refl _⟩
      obtain rfl := List.mem_singleton.mp hp
      exact ⟨t0, [], by simp [valV], SqT.of (s3 _ _ h3t), .nil, by simp, by simp, .nil, by simp⟩
    have qn : H q = none := Same.free h3s hq
    clear s1 s2 hd2 h3d h3t h3s s3 hq
    generalize upd H3 q (.lst [.int start]) = H4 at *
    dsimp only [gName]
    refine at_st [some (.ref a), some (.ref ae), some (.int start), some (.ref d), some (.ref q), none, none, none] rfl ?_
    refine tSeq_go ?_
    refine while_by (fun σ H' => ∃ (v5 v6 v7 : Option V) (fnd que : List Nat), σ = [some (.ref a), some (.ref ae), some (.int start), some (.ref d), some (.ref q), v5, v6, v7] ∧ Same H H' ∧
      Bfs K ts es n start H' d q fnd que ∧ ∀ p ∈ fnd, p ∈ que ∨ Shut ts es fnd p) (fun _ H' => muW n d q H') ?_ ?_ ?_
    · exact ⟨none, none, none, [start], [start], rfl, s4, b4, fun p hp => .inl hp⟩
    · rintro σ H5 ⟨v5, v6, v7, fnd, que, rfl, s5, b5, hcl⟩
      refine ⟨_, rfl, !(natsV que).isEmpty, .inl ⟨_, SqL.of b5.qu, rfl⟩, ?_⟩
      cases que with
      | nil =>
        refine iteF ?_
        exact ⟨_, rfl, k d fnd H5 hd s5 b5.fd fun p hp => (hcl p hp).resolve_left (by simp)⟩
      | cons p rest =>
        refine iteT ?_
        refine tSeq_go ?_
        have hp5 : p ∈ fnd := b5.qf p (List.mem_cons_self ..)
        refine ⟨_, rfl, .inl ⟨rfl, _, SqL.of b5.qu⟩, q, _, 0, 0, .int p, rfl, rfl, b5.qu, by decide, by decide, by simp [seqIndex?, natsV], rfl, ?_⟩
        have e5 : (natsV (p :: rest)).eraseIdx 0 = natsV rest := rfl
        rw [e5]
        have b6 : Bfs K ts es n start (upd H5 q (.lst (natsV rest))) d q fnd rest :=
          ⟨b5.fd.kf (kf_upd b5.qu ⟨(fun _ e => nomatch e), (fun _ _ e => nomatch e)⟩) (upd_ne dq), upd_same, fun x hx => b5.qf x (List.mem_cons_of_mem _ hx), Nat.le_of_succ_le b5.ql⟩
        have s6 : Same H (upd H5 q (.lst (natsV rest))) := same_old qn s5
        have m6 : muW n d q (upd H5 q (.lst (natsV rest))) + 1 = muW n d q H5 := by
          obtain ⟨⟨⟨kvs, h1, h2, _⟩, _⟩, h4, _⟩ := b5
          rw [muW_at (d := d) (q := q) (by rw [upd_ne dq]; exact h1) upd_same, muW_at h1 h4]
          simp [natsV]
          omega
        clear e5
        generalize upd H5 q (.lst (natsV rest)) = H6 at *
        dsimp only [gName]
        refine at_st [some (.ref a), some (.ref ae), some (.int start), some (.ref d), some (.ref q), some (.int p), v6, v7] rfl ?_
        refine ⟨_, rfl, ae, rfl, ⟨_, sqT_same s6 hae⟩, for_it (walk_tup (xs := natsV es)) (fun i σ H' => ∃ (v6 v7 : Option V) (fnd2 que2 : List Nat), σ = [some (.ref a), some (.ref ae), some (.int start), some (.ref d), some (.ref q), some (.int p), v6, v7] ∧
          Same H H' ∧ Bfs K ts es n start H' d q fnd2 que2 ∧ (∀ x ∈ fnd2, x ∈ que2 ∨ x = p ∨ Shut ts es fnd2 x) ∧ p ∈ fnd2 ∧
          (∀ j, j < i → ∀ kk, es[j]? = some kk → ∀ t, ts[kk]? = some t → (t.1 = p → t.2 ∈ fnd2) ∧ (t.2 = p → t.1 ∈ fnd2)) ∧ muW n d q H' + 1 ≤ muW n d q H5) ?_ ?_ ?_ ?_⟩
        · refine ⟨v6, v7, fnd, rest, rfl, s6, b6, fun x hx => ?_, hp5, fun j hj => absurd hj (Nat.not_lt_zero _), by omega⟩
          rcases hcl x hx with z | z
          · rcases List.mem_cons.mp z with z | z
            · exact .inr (.inl z)
            · exact .inl z
          · exact .inr (.inr z)
        · rintro i σ H' _ ⟨v6, v7, fnd2, que2, rfl, sH, _⟩
          exact sqT_same sH hae
        · rintro i x σ H7 H'' hi ⟨v6, v7, fnd2, que2, rfl, s7, b7, c7, p7, j7, m7⟩ ⟨rfl, hx⟩
          obtain ⟨kk, hkk, rfl⟩ := get_map hx
          have hkl : kk < ts.length := hes kk (List.mem_of_getElem? hkk)
          have ht : ts[kk]? = some ts[kk] := List.getElem?_eq_getElem hkl
          generalize ts[kk] = t at ht
          have hmt := List.mem_of_getElem? ht
          obtain ⟨y, hy, hyd⟩ := dpAll_at hys (show (ts.map tieD)[kk]? = some (tieD t) by rw [List.getElem?_map, ht]; rfl)
          obtain ⟨az, rfl, haz⟩ := dp_tie (dp_same s7 _ hyd)
          have key : inV (V.int (p : Int)) [V.int t.1, V.int t.2] = decide (p ∈ [t.1, t.2]) := inv_nats p [t.1, t.2]
          show tSeq _ _ _ _ _
          refine tSeq_go ?_
          have ha7 := sqT_same s7 ha
          have hc7 := sqT_same s7 hc
          have j8 : ∀ {f3 : List Nat}, (∀ x ∈ fnd2, x ∈ f3) → ((t.1 = p → t.2 ∈ f3) ∧ (t.2 = p → t.1 ∈ f3)) → ∀ j, j < i + 1 → ∀ kk, es[j]? = some kk → ∀ t, ts[kk]? = some t → (t.1 = p → t.2 ∈ f3) ∧ (t.2 = p → t.1 ∈ f3) := fun m new j hj k2 hk2 t2 ht2 => by
            by_cases e : j = i
            · subst e
              rw [hkk] at hk2
              cases hk2
              rw [ht] at ht2
              cases ht2
              exact new
            · have z := j7 j (by omega) k2 hk2 t2 ht2
              exact ⟨fun q => m _ (z.1 q), fun q => m _ (z.2 q)⟩
          refine ⟨_, rfl, _, rfl, a, _, _, _, rfl, rfl, ha7, atI_nat (j := 1) rfl, _, rfl, c, _, _, _, rfl, rfl, hc7, atI_nat hy, az, _, rfl, .inr haz, rfl, rfl, _, rfl, ?_⟩
          refine ite2 (fun hh => ?_) (fun hh => ?_)
          · -- not at this end
            rw [key] at hh
            have hno : p ∉ [t.1, t.2] := by simpa using hh
            simp only [List.mem_cons, List.not_mem_nil, or_false, not_or] at hno
            exact ⟨_, v7, fnd2, que2, rfl, s7, b7, c7, p7, j8 (fun _ z => z) ⟨fun e => absurd e.symm hno.1, fun e => absurd e.symm hno.2⟩, m7⟩
          rw [key] at hh
          have hin : p = t.1 ∨ p = t.2 := by
            have : p ∈ [t.1, t.2] := Classical.byContradiction fun hn => hh (by rw [decide_eq_false hn]; rfl)
            simpa using this
          dsimp only [tNext]
          refine tSeq_go ?_
          refine ⟨_, rfl, _, rfl, _, rfl, .ref a, n, ts, kk, p, t, rfl, dp_same s7 _ hw, ht, ?_⟩
          dsimp only [gName]
          refine at_st [some (.ref a), some (.ref ae), some (.int start), some (.ref d), some (.ref q), some (.int p), some (.int kk), some (.int (farEnd t p : Nat))] rfl ?_
          have b7c := b7
          obtain ⟨⟨⟨kvs, h1, h2, h3⟩, hnd, hlt, hst2⟩, h4, h5, h6⟩ := b7
          have hmem := hends t hmt
          have hg : farEnd t p < n := by
            unfold farEnd
            split <;> omega
          have hnew : ∀ {f3 : List Nat}, farEnd t p ∈ f3 → (t.1 = p → t.2 ∈ f3) ∧ (t.2 = p → t.1 ∈ f3) := fun m => by
            unfold farEnd at m
            constructor
            · intro e
              rwa [if_pos e.symm] at m
            · intro e
              rwa [if_neg (by omega)] at m
          refine ⟨_, rfl, _, rfl, d, _, rfl, DGet.k (k := Sum.inl ((farEnd t p : Nat) : Int)) h1, _, rfl, ?_⟩
          rw [val_none h2]
          refine ite2 (fun hh2 => ?_) (fun hh2 => ?_)
          · have hnf : farEnd t p ∉ fnd2 := by simpa using hh2
            have hvn : valV kvs (Sum.inl ((farEnd t p : Nat) : Int)) = none := by
              have := val_none (p := farEnd t p) h2
              rw [decide_eq_false hnf] at this
              cases e : valV kvs (Sum.inl ((farEnd t p : Nat) : Int)) with
              | none => rfl
              | some x => rw [e] at this; cases this
            obtain ⟨aw, w0, e1, e2, e3, e4, e5, e6, e7⟩ := h3 p p7
            have hlen := kv_len h2
            have hfn : fnd2.length ≤ n := nodup_small n fnd2 hnd hlt
            refine tSeq_go ?_
            refine ⟨_, rfl, _, rfl, d, _, rfl, by rw [← e1]; exact DGet.k (k := Sum.inl (p : Int)) h1, ?_⟩
            refine ⟨_, rfl, by show 1 ≤ sizeLine; decide, fun t1 ht1 => ?_⟩
            have u1 := same_new (o := .tup [.int kk]) ht1
            refine catA_by rfl rfl (sqT_same u1 e2) (SqT.of upd_same) (by unfold natsV; rw [List.length_map]; show _ + 1 ≤ 100000; omega) fun cw H8 u2 hcw => ?_
            have u12 := u1.trans u2
            have h18 := u12 _ _ h1
            have h48 := u12 _ _ h4
            refine ⟨_, rfl, _, rfl, d, _, rfl, DPut.k (k := Sum.inl ((farEnd t p : Nat) : Int)) h18 (Nat.lt_of_lt_of_le (show kvs.length < 100000 by omega) (by decide)), ?_⟩
            have kd : KF H8 (upd H8 d (.dK (putK kvs (Sum.inl ((farEnd t p : Nat) : Int)) (.ref cw)))) := kf_upd h18 ⟨(fun _ e => nomatch e), (fun _ _ e => nomatch e)⟩
            have hq9 : (upd H8 d (.dK (putK kvs (Sum.inl ((farEnd t p : Nat) : Int)) (.ref cw)))) q = some (.lst (natsV que2)) := by
              rw [upd_ne dq.symm]
              exact h48
            refine ⟨_, rfl, .inl ⟨rfl, _, SqL.of hq9⟩, _, rfl, q, _, _, rfl, rfl, hq9, ?_, ?_⟩
            · unfold natsV
              rw [List.length_map]
              exact Nat.lt_of_lt_of_le (show que2.length < 100000 by omega) (by decide)
            have kq : KF (upd H8 d (.dK (putK kvs (Sum.inl ((farEnd t p : Nat) : Int)) (.ref cw)))) (upd (upd H8 d (.dK (putK kvs (Sum.inl ((farEnd t p : Nat) : Int)) (.ref cw)))) q (.lst (natsV que2 ++ [.int (farEnd t p : Nat)]))) := kf_upd hq9 ⟨(fun _ e => nomatch e), (fun _ _ e => nomatch e)⟩
            have hd10 : (upd (upd H8 d (.dK (putK kvs (Sum.inl ((farEnd t p : Nat) : Int)) (.ref cw)))) q (.lst (natsV que2 ++ [.int (farEnd t p : Nat)]))) d = some (.dK (kvs ++ [(Sum.inl ((farEnd t p : Nat) : Int), .ref cw)])) := by
              rw [upd_ne dq, upd_same, putK_new _ hvn]
            have hq10 : (upd (upd H8 d (.dK (putK kvs (Sum.inl ((farEnd t p : Nat) : Int)) (.ref cw)))) q (.lst (natsV que2 ++ [.int (farEnd t p : Nat)]))) q = some (.lst (natsV (que2 ++ [farEnd t p]))) := by
              rw [upd_same]
              unfold natsV
              rw [List.map_append]
              rfl
            refine ⟨some (.int kk), some (.int (farEnd t p : Nat)), fnd2 ++ [farEnd t p], que2 ++ [farEnd t p], rfl, same_old qn (same_old hd (s7.trans u12)), ⟨⟨⟨_, hd10, ?_, fun x hx => ?_⟩, ?_, fun x hx => ?_, List.mem_append_left _ hst2⟩, hq10, fun x hx => ?_, ?_⟩, fun x hx => ?_, List.mem_append_left _ p7, j8 (fun _ z => List.mem_append_left _ z) (hnew (List.mem_append_right _ (List.mem_singleton.mpr rfl))), ?_⟩
            · rw [List.map_append, List.map_append, h2]
              rfl
            · have vput : ∀ y : Nat, valV (kvs ++ [(Sum.inl ((farEnd t p : Nat) : Int), V.ref cw)]) (Sum.inl (y : Int)) = if y = farEnd t p then some (.ref cw) else valV kvs (Sum.inl (y : Int)) := fun y => by
                rw [← putK_new _ hvn, valV_put]
                by_cases e : y = farEnd t p
                · rw [if_pos e, if_pos (by rw [e])]
                · rw [if_neg e, if_neg (fun z => e (by have := Sum.inl.inj z; omega))]
              rw [List.length_append, List.length_singleton]
              rcases List.mem_append.mp hx with z | z
              · obtain ⟨ax, wx, f1, f2, f3, f4, f5, f6, f7⟩ := h3 x z
                refine ⟨ax, wx, ?_, sqT_kf kq (sqT_kf kd (sqT_same u12 f2)), f3, f4, by omega, f6, fun y hy u hu => ⟨List.mem_append_left _ (f7 y hy u hu).1, List.mem_append_left _ (f7 y hy u hu).2⟩⟩
                rw [vput, if_neg (fun e : x = farEnd t p => hnf (e ▸ z)), f1]
              · obtain rfl := List.mem_singleton.mp z
                refine ⟨cw, w0 ++ [kk], ?_, sqT_kf kq (sqT_kf kd ?_), farEnd_way e3 ht hin, fun y hy => ?_, ?_, ?_, fun y hy u hu => ?_⟩
                · rw [vput, if_pos rfl]
                · have : natsV (w0 ++ [kk]) = natsV w0 ++ [.int kk] := by unfold natsV; rw [List.map_append]; rfl
                  rw [this]
                  exact hcw
                · rcases List.mem_append.mp hy with z2 | z2
                  · exact e4 y z2
                  · rw [List.mem_singleton.mp z2]
                    exact List.mem_of_getElem? hkk
                · rw [List.length_append, List.length_singleton]
                  omega
                · rw [List.nodup_append]
                  refine ⟨e6, List.nodup_cons.mpr ⟨by simp, .nil⟩, fun x hxw y hyw exy => ?_⟩
                  have exk : x = kk := exy.trans (List.mem_singleton.mp hyw)
                  rw [exk] at hxw
                  have z3 := e7 _ hxw t ht
                  refine hnf ?_
                  unfold farEnd
                  split
                  · exact z3.2
                  · exact z3.1
                · rcases List.mem_append.mp hy with z2 | z2
                  · exact ⟨List.mem_append_left _ (e7 y z2 u hu).1, List.mem_append_left _ (e7 y z2 u hu).2⟩
                  · obtain rfl := List.mem_singleton.mp z2
                    rw [ht] at hu
                    cases hu
                    have mf : farEnd t p ∈ fnd2 ++ [farEnd t p] := List.mem_append_right _ (List.mem_singleton.mpr rfl)
                    have mp : p ∈ fnd2 ++ [farEnd t p] := List.mem_append_left _ p7
                    unfold farEnd at mf mp ⊢
                    by_cases e : p = t.1
                    · rw [if_pos e] at mf mp ⊢
                      exact ⟨e ▸ mp, mf⟩
                    · rw [if_neg e] at mf mp ⊢
                      exact ⟨mf, (hin.resolve_left e) ▸ mp⟩
            · rw [List.nodup_append]
              refine ⟨hnd, List.nodup_cons.mpr ⟨by simp, .nil⟩, fun x hx y hy => ?_⟩
              rw [List.mem_singleton.mp hy]
              exact fun z => hnf (z ▸ hx)
            · rcases List.mem_append.mp hx with z | z
              · exact hlt x z
              · rw [List.mem_singleton.mp z]
                exact hg
            · rcases List.mem_append.mp hx with z | z
              · exact List.mem_append_left _ (h5 x z)
              · exact List.mem_append_right _ z
            · rw [List.length_append, List.length_append]
              exact Nat.add_le_add_right h6 _
            · rcases List.mem_append.mp hx with z | z
              · rcases c7 x z with z | z | z
                · exact .inl (List.mem_append_left _ z)
                · exact .inr (.inl z)
                · exact .inr (.inr (z.mono fun _ m => List.mem_append_left _ m))
              · exact .inl (List.mem_append_right _ z)
            · rw [muW_at h1 h4] at m7
              rw [muW_at hd10 hq10]
              have hlt2 : kvs.length < n := by
                have hn1 : (fnd2 ++ [farEnd t p]).length ≤ n := nodup_small n _ (by
                  rw [List.nodup_append]
                  refine ⟨hnd, List.nodup_cons.mpr ⟨by simp, .nil⟩, fun x hx y hy => ?_⟩
                  rw [List.mem_singleton.mp hy]
                  exact fun z => hnf (z ▸ hx)) fun x hx => by
                    rcases List.mem_append.mp hx with z | z
                    · exact hlt x z
                    · rw [List.mem_singleton.mp z]
                      exact hg
                rw [List.length_append, List.length_singleton] at hn1
                omega
              unfold natsV at m7 ⊢
              rw [List.length_map] at m7 ⊢
              rw [List.length_append, List.length_append, List.length_singleton, List.length_singleton]
              omega
          · have hyf : farEnd t p ∈ fnd2 := by simpa using hh2
            exact ⟨some (.int kk), some (.int (farEnd t p : Nat)), fnd2, que2, rfl, s7, b7c, c7, p7, j8 (fun _ z => z) (hnew hyf), m7⟩
        · rintro σ H7 ⟨v6, v7, fnd2, que2, rfl, s7, b7, c7, p7, j7, m7⟩
          refine ⟨⟨_, _, _, fnd2, que2, rfl, s7, b7, fun x hx => ?_⟩, by omega⟩
          rcases c7 x hx with z | z | z
          · exact .inl z
          · refine .inr fun kk hk t ht => ?_
            subst z
            obtain ⟨j, hj⟩ := List.getElem?_of_mem hk
            have hjl := (List.getElem?_eq_some_iff.mp hj).1
            exact j7 j (by unfold natsV; rw [List.length_map]; exact hjl) kk hj t ht
          · exact .inr z
    · rintro σ H' Q1 Q2 hQ ⟨v, e, kb, tv, q1⟩
      exact ⟨v, e, kb, tv, hQ _ _ q1⟩

end
end BV

namespace BV
open PySem L2
/-! ### data, the empty dict among it -/
def Od (K : PySem.W.Frag) (H : Hp) (x : V) (d : PyData) : Prop := Dp K H x d ∨ (d = .dict [] ∧ ∃ a, x = .ref a ∧ H a = some (.dK []))
theorem Od.same {K : PySem.W.Frag} {H H' : Hp} {x : V} {d : PyData} (s : Same H H') (h : Od K H x d) : Od K H' x d := by
  rcases h with h | ⟨rfl, a, rfl, h⟩
  · exact .inl (dp_same s _ h)
  · exact .inr ⟨rfl, a, rfl, s _ _ h⟩
def tyN : PyData → String
  | .none => "NoneType"
  | .bool _ => "bool"
  | .int _ => "int"
  | .str _ => "str"
  | .list _ => "list"
  | .tuple _ => "tuple"
  | .dict _ => "dict"
theorem sq_list_ty {K : PySem.W.Frag} {H : Hp} {a : Addr} {xs : List V} (h : SqL K H a xs) : TyX K H (.ref a) (.type "list") := by
  rcases h with (h | ⟨o, h⟩) | h
  · exact .base (.lst h)
  · exact .base (.frz h)
  · obtain ⟨o, its, n, h1, h2, _⟩ := h
    exact .kList h1 h2
theorem sq_tup_ty {K : PySem.W.Frag} {H : Hp} {a : Addr} {xs : List V} (h : SqT K H a xs) : TyX K H (.ref a) (.type "tuple") := by
  rcases h with (h | ⟨o, h⟩) | h
  · exact .base (.tup h)
  · exact .fTuple h
  · obtain ⟨o, its, n, h1, h2, _⟩ := h
    exact .kTuple h1 h2
theorem ty_of {K : PySem.W.Frag} {H : Hp} {x : V} {d : PyData} (h : Od K H x d) : TyX K H x (.type (tyN d)) := by
  rcases h with h | ⟨rfl, a, rfl, h⟩
  · cases h with
    | non => exact .base .non
    | bl b => exact .base (.bl b)
    | int i => exact .base (.int i)
    | str s => exact .base (.str s)
    | lst h1 _ => exact sq_list_ty h1
    | tup h1 _ => exact sq_tup_ty h1
  · exact .base (.dK h)
def rIsiD (K : PySem.W.Frag) : List V → Hp → VK → Prop := fun xs H Q => ∃ (x : V) (d : PyData) (T : String) (b : Bool), xs = [x, .ty T] ∧ Od K H x d ∧ kitB (tyN d) T = some b ∧ Q (.bl b) H
theorem isiD {X : Cx} (K : PySem.W.Frag) (h : X.K = K := by rfl) : CallR X (.builtin "isinstance") (rIsiD K) := by
  subst h
  intro pins s σ H vs us Q I r h
  obtain ⟨x, d, T, b, rfl, hd, hk, q⟩ := h
  exact call_isi pins s σ H _ us Q I r ⟨x, _, _, _, b, rfl, .ty T, ty_of hd, kit_ty hk, q⟩
def isTup : PyData → Bool
  | .tuple _ => true
  | _ => false
def isInt : PyData → Bool
  | .int _ => true
  | _ => false
theorem kit_tup (d : PyData) : kitB (tyN d) "tuple" = some (isTup d) := by
  cases d <;> simp only [tyN, isTup] <;> decide +kernel
def isIntB : PyData → Bool
  | .int _ => true
  | .bool _ => true
  | _ => false
def isBool : PyData → Bool
  | .bool _ => true
  | _ => false
theorem kit_int (d : PyData) : kitB (tyN d) "int" = some (isIntB d) := by
  cases d <;> simp only [tyN, isIntB] <;> decide +kernel
theorem kit_bool (d : PyData) : kitB (tyN d) "bool" = some (isBool d) := by
  cases d <;> simp only [tyN, isBool] <;> decide +kernel
end BV

namespace BV
open PySem L2
/-! ### repr of data, the empty dict among it -/
def ShowO (d : PyData) : Prop := Show d ∨ d = .dict []
section
variable {X : Cx}
theorem call_reprO (hgd : X.A.guards = some []) (hu : X.A.units + 64 < cLine) :
    CallR X (.builtin "repr") (fun xs H Q => ∃ (x : V) (d : PyData), xs = [x] ∧ Od X.K H x d ∧ ShowO d ∧ Q (.str d.shown) H) := by
  intro pins s σ H xs us Q I r h
  obtain ⟨x, d, rfl, hd, hs, q⟩ := h
  rcases hd with hd | ⟨rfl, a, rfl, ha⟩
  · rcases hs with hs | rfl
    · exact call_reprD hgd hu pins s σ H _ us Q I r ⟨x, d, rfl, hd, hs, q⟩
    · cases hd
  · rw [Vals.ref1 r]
    have hk := I.hok a _ ha
    unfold ObjOk at hk
    obtain ⟨_, hsys, vs, kv, o, es, ep, h1, h2, h3, h4, h5, h6⟩ := hk
    cases kv
    have he : es.toList = [] := by
      generalize es.toList = l at h5
      cases h5
      rfl
    have rd : Reads s.heap (.ref a) (.dict []) (a :: [] ++ []) := .dict h1 h2.1 h3 (by rw [he]; exact .nil) (by rw [he]; exact .nil)
    refine repr_of_reads' rd (by decide) (fun _ hm => ?_) hgd (by show X.A.units + (PyData.depth (.dict []) + 1) < cLine; have : PyData.depth (.dict []) = 1 := by decide
                                                                  omega) (fun _ _ e => e) (fun h' u tk hk => ?_) (by decide)
    · have : sysModules = a := by simpa using hm
      rw [this] at hsys
      simp at hsys
    · exact ⟨.str _, H, I.kept (t' := tk) hk, ⟨u, rfl⟩, q⟩
end
def rReprO (K : PySem.W.Frag) : List V → Hp → VK → Prop := fun xs H Q => ∃ (x : V) (d : PyData), xs = [x] ∧ Od K H x d ∧ ShowO d ∧ Q (.str d.shown) H
theorem reprO {X : Cx} (K : PySem.W.Frag) (hgd : X.A.guards = some []) (hu : X.A.units + 64 < cLine) (h : X.K = K := by rfl) : CallR X (.builtin "repr") (rReprO K) := by
  subst h
  exact call_reprO hgd hu
end BV

namespace BV
open PySem L2 Builtin Builtin.Str
/-! ### texts whose signs are low -/
def low (x : Str) : Prop := ∀ c ∈ x.cps.toList, c < 16 ^ 8
theorem low_app {x y : Str} (hx : low x) (hy : low y) : low (x ++ y) := by
  intro c hc
  have : c ∈ (x.cps ++ y.cps).toList := hc
  rw [Array.toList_append] at this
  rcases List.mem_append.mp this with z | z
  · exact hx c z
  · exact hy c z
theorem low_char (c : Char) : c.toNat < 16 ^ 8 := by
  have : c.val.toNat < 4294967296 := c.val.toNat_lt
  have e : (16 : Nat) ^ 8 = 4294967296 := by decide
  rw [e]
  exact this
theorem low_of (s : String) : low (Str.ofString s) := by
  intro c hc
  rw [Str.ofString_eq_toList] at hc
  have hc' : c ∈ s.toList.map Char.toNat := by simpa using hc
  obtain ⟨d, _, rfl⟩ := List.mem_map.mp hc'
  exact low_char d
theorem low_reprChar {q c : Nat} (hq : q < 16 ^ 8) (hc : c < 16 ^ 8) : ∀ d ∈ reprChar q c, d < 16 ^ 8 := by
  have e : (16 : Nat) ^ 8 = 4294967296 := by decide
  have hex : ∀ w d, d ∈ (List.replicate (w - ((Nat.toDigits 16 c).map Char.toNat).length) 48 ++ (Nat.toDigits 16 c).map Char.toNat) → d < 16 ^ 8 := fun w d hd => by
    rcases List.mem_append.mp hd with z | z
    · rw [List.eq_of_mem_replicate z]
      decide
    · obtain ⟨x, _, rfl⟩ := List.mem_map.mp z
      exact low_char x
  intro d hd
  unfold reprChar at hd
  dsimp only at hd
  repeat' split at hd
  all_goals first
    | (rcases List.mem_append.mp hd with z | z
       · simp only [List.mem_cons, List.not_mem_nil, or_false] at z
         rw [e]
         omega
       · exact hex _ _ z)
    | (simp only [List.mem_cons, List.not_mem_nil, or_false] at hd
       rw [e] at hc hq ⊢
       omega)
theorem low_fold (q : Nat) (hq : q < 16 ^ 8) : ∀ (l : List Nat) (acc : Array Nat), (∀ c ∈ l, c < 16 ^ 8) → (∀ c ∈ acc.toList, c < 16 ^ 8) → ∀ c ∈ (l.foldl (fun out c => out ++ (reprChar q c).toArray) acc).toList, c < 16 ^ 8
  | [], acc, _, h => h
  | x :: r, acc, h1, h2 => by
    refine low_fold q hq r _ (fun d hd => h1 d (List.mem_cons_of_mem _ hd)) fun d hd => ?_
    rw [Array.toList_append] at hd
    rcases List.mem_append.mp hd with z | z
    · exact h2 d z
    · exact low_reprChar hq (h1 x (List.mem_cons_self ..)) d z
theorem low_repr {x : Str} (h : low x) : low (reprText x) := by
  have hq : reprQuote x < 16 ^ 8 := by
    unfold reprQuote
    split <;> decide
  intro c hc
  unfold reprText at hc
  rw [Array.toList_push] at hc
  rcases List.mem_append.mp hc with z | z
  · rw [← Array.foldl_toList] at z
    exact low_fold _ hq _ _ h (fun d hd => by
      have : d = reprQuote x := by simpa using hd
      rw [this]
      exact hq) c z
  · rw [List.mem_singleton.mp z]
    exact hq
theorem low_join {s : Str} (hs : low s) : ∀ ts : List Str, (∀ t ∈ ts, low t) → low (Str.join s ts)
  | [], _ => fun c hc => by simp [Str.join, Str.empty] at hc
  | [x], h => h x (List.mem_cons_self ..)
  | x :: y :: r, h => low_app (low_app (h x (List.mem_cons_self ..)) hs) (low_join hs (y :: r) fun t ht => h t (List.mem_cons_of_mem _ ht))
theorem low_from : ∀ (ts : List Str) (k : Nat) (acc : Str), low acc → (∀ t ∈ ts, low t) → low (textFrom k acc ts)
  | [], _, _, h, _ => h
  | t :: ts, k, acc, h, ht => low_from ts (k + 1) _ (low_app (low_app h (low_of _)) (ht t (List.mem_cons_self ..))) fun u hu => ht u (List.mem_cons_of_mem _ hu)
mutual
/-- data whose texts are low -/
def lowD : PyData → Bool
  | .none | .bool _ | .int _ => true
  | .str x => x.cps.toList.all fun c => decide (c < 16 ^ 8)
  | .list xs | .tuple xs => lowAll xs
  | .dict kvs => kvs.isEmpty
def lowAll : List PyData → Bool
  | [] => true
  | x :: xs => lowD x && lowAll xs
end
mutual
theorem low_shown : ∀ d : PyData, lowD d = true → low d.shown
  | .none, _ => by simp only [PyData.shown]; exact low_of _
  | .bool b, _ => by simp only [PyData.shown]; split <;> exact low_of _
  | .int i, _ => by simp only [PyData.shown]; exact low_of _
  | .str x, h => by
    simp only [PyData.shown]
    refine low_repr fun c hc => ?_
    have h' : ∀ c ∈ x.cps.toList, c < 16 ^ 8 := by
      simp only [lowD, List.all_eq_true, decide_eq_true_eq] at h
      exact h
    exact h' c hc
  | .list xs, h => by
    simp only [PyData.shown]
    exact low_app (low_from _ _ _ (low_of _) (low_shownAll xs (by simpa [lowD] using h))) (low_of _)
  | .tuple xs, h => by
    simp only [PyData.shown]
    exact low_app (low_app (low_of _) (low_join (low_of _) _ (low_shownAll xs (by simpa [lowD] using h)))) (low_of _)
  | .dict kvs, h => by
    have e : kvs = [] := by simpa [lowD] using h
    subst e
    simp only [PyData.shown, PyData.shownKv]
    exact low_app (low_app (low_of _) (low_join (low_of _) _ (by simp))) (low_of _)
theorem low_shownAll : ∀ xs : List PyData, lowAll xs = true → ∀ t ∈ PyData.shownAll xs, low t
  | [], _ => by simp [PyData.shownAll]
  | x :: xs, h => by
    have h' : lowD x = true ∧ lowAll xs = true := by simpa [lowAll] using h
    intro t ht
    simp only [PyData.shownAll] at ht
    rcases List.mem_cons.mp ht with e | e
    · rw [e]
      exact low_shown x h'.1
    · exact low_shownAll xs h'.2 t e
end
end BV

namespace BV
open PySem L2
/-! ### data: with lists (b true) or with empty dicts (b false), none of whose lists and dicts lies at N -/
mutual
inductive Dm (K : PySem.W.Frag) (H : Hp) (N : Addr → Prop) (b : Bool) : V → PyData → Prop
  | non : Dm K H N b .non .none
  | bl (z : Bool) : Dm K H N b (.bl z) (.bool z)
  | int (i : Int) : Dm K H N b (.int i) (.int i)
  | str (x : Str) : Dm K H N b (.str x) (.str x)
  | lst {a : Addr} {xs : List V} {ds : List PyData} : b = true → ¬ N a → SqL K H a xs → DmAll K H N b xs ds → Dm K H N b (.ref a) (.list ds)
  | tup {a : Addr} {xs : List V} {ds : List PyData} : SqT K H a xs → DmAll K H N b xs ds → Dm K H N b (.ref a) (.tuple ds)
  | dic {a : Addr} : b = false → ¬ N a → H a = some (.dK []) → Dm K H N b (.ref a) (.dict [])
inductive DmAll (K : PySem.W.Frag) (H : Hp) (N : Addr → Prop) (b : Bool) : List V → List PyData → Prop
  | nil : DmAll K H N b [] []
  | cons {v : V} {vs : List V} {d : PyData} {ds : List PyData} : Dm K H N b v d → DmAll K H N b vs ds → DmAll K H N b (v :: vs) (d :: ds)
end
section
variable {K : PySem.W.Frag} {H H' : Hp} {N : Addr → Prop} {b : Bool}
mutual
theorem dm_keep (s : ∀ a o, H a = some o → ¬ N a → H' a = some o) (f : KF H H') : ∀ (d : PyData) {v : V}, Dm K H N b v d → Dm K H' N b v d
  | .none, _, h => by cases h; exact .non
  | .bool z, _, h => by cases h; exact .bl z
  | .int i, _, h => by cases h; exact .int i
  | .str x, _, h => by cases h; exact .str x
  | .list ds, _, h => by
    cases h with
    | lst e n h1 h2 =>
      refine .lst e n ?_ (dmAll_keep s f ds h2)
      rcases h1 with (h1 | ⟨o, h1⟩) | h1
      · exact .inl (.inl (s _ _ h1 n))
      · exact .inl (.inr ⟨o, s _ _ h1 n⟩)
      · exact .inr h1
  | .tuple ds, _, h => by
    cases h with
    | tup h1 h2 => exact .tup (sqT_kf f h1) (dmAll_keep s f ds h2)
  | .dict _, _, h => by
    cases h with
    | dic e n h1 => exact .dic e n (s _ _ h1 n)
theorem dmAll_keep (s : ∀ a o, H a = some o → ¬ N a → H' a = some o) (f : KF H H') : ∀ (ds : List PyData) {vs : List V}, DmAll K H N b vs ds → DmAll K H' N b vs ds
  | [], _, h => by cases h; exact .nil
  | d :: ds, _, h => by
    cases h with
    | cons h1 h2 => exact .cons (dm_keep s f d h1) (dmAll_keep s f ds h2)
end
theorem dm_same (s : Same H H') {d : PyData} {v : V} (h : Dm K H N b v d) : Dm K H' N b v d := dm_keep (fun a o e _ => s a o e) (KF.of_same s) d h
theorem dmAll_same (s : Same H H') {ds : List PyData} {vs : List V} (h : DmAll K H N b vs ds) : DmAll K H' N b vs ds := dmAll_keep (fun a o e _ => s a o e) (KF.of_same s) ds h
abbrev NB (x g : Addr) : Addr → Prop := fun a => a = x ∨ a = g
theorem dm_kp {x g : Addr} (k : Kp x g H H') (B : Box H x g) {d : PyData} {v : V} (h : Dm K H (NB x g) b v d) : Dm K H' (NB x g) b v d :=
  dm_keep (fun a o e n => k a o e (fun z => n (.inl z)) (fun z => n (.inr z))) (KF.of_kp k B) d h
mutual
theorem dp_dm : ∀ (d : PyData) {v : V}, still d = true → Dp K H v d → Dm K H N b v d
  | .none, _, _, h => by cases h; exact .non
  | .bool z, _, _, h => by cases h; exact .bl z
  | .int i, _, _, h => by cases h; exact .int i
  | .str x, _, _, h => by cases h; exact .str x
  | .list ds, _, q, h => by simp [still] at q
  | .tuple ds, _, q, h => by
    cases h with
    | tup h1 h2 => exact .tup h1 (dpAll_dm ds (by simpa [still] using q) h2)
  | .dict _, _, _, h => by cases h
theorem dpAll_dm : ∀ (ds : List PyData) {vs : List V}, stillAll ds = true → DpAll K H vs ds → DmAll K H N b vs ds
  | [], _, _, h => by cases h; exact .nil
  | d :: ds, _, q, h => by
    have q' : still d = true ∧ stillAll ds = true := by simpa [stillAll] using q
    cases h with
    | cons h1 h2 => exact .cons (dp_dm d q'.1 h1) (dpAll_dm ds q'.2 h2)
end
mutual
theorem dm_dp : ∀ (d : PyData) {v : V}, d.hasDict = false → Dm K H N b v d → Dp K H v d
  | .none, _, _, h => by cases h; exact .non
  | .bool z, _, _, h => by cases h; exact .bl z
  | .int i, _, _, h => by cases h; exact .int i
  | .str x, _, _, h => by cases h; exact .str x
  | .list ds, _, q, h => by
    cases h with
    | lst e n h1 h2 => exact .lst h1 (dmAll_dp ds (by simpa [PyData.hasDict] using q) h2)
  | .tuple ds, _, q, h => by
    cases h with
    | tup h1 h2 => exact .tup h1 (dmAll_dp ds (by simpa [PyData.hasDict] using q) h2)
  | .dict _, _, q, h => by simp [PyData.hasDict] at q
theorem dmAll_dp : ∀ (ds : List PyData) {vs : List V}, PyData.hasDictAll ds = false → DmAll K H N b vs ds → DpAll K H vs ds
  | [], _, _, h => by cases h; exact .nil
  | d :: ds, _, q, h => by
    have q' : d.hasDict = false ∧ PyData.hasDictAll ds = false := by simpa [PyData.hasDictAll] using q
    cases h with
    | cons h1 h2 => exact .cons (dm_dp d q'.1 h1) (dmAll_dp ds q'.2 h2)
end
mutual
theorem dm_nodict : ∀ (d : PyData) {v : V}, Dm K H N true v d → d.hasDict = false
  | .none, _, h => by simp [PyData.hasDict]
  | .bool z, _, h => by simp [PyData.hasDict]
  | .int i, _, h => by simp [PyData.hasDict]
  | .str x, _, h => by simp [PyData.hasDict]
  | .list ds, _, h => by
    cases h with
    | lst e n h1 h2 => simpa [PyData.hasDict] using dmAll_nodict ds h2
  | .tuple ds, _, h => by
    cases h with
    | tup h1 h2 => simpa [PyData.hasDict] using dmAll_nodict ds h2
  | .dict _, _, h => by
    cases h with
    | dic e _ _ => cases e
theorem dmAll_nodict : ∀ (ds : List PyData) {vs : List V}, DmAll K H N true vs ds → PyData.hasDictAll ds = false
  | [], _, h => by simp [PyData.hasDictAll]
  | d :: ds, _, h => by
    cases h with
    | cons h1 h2 => simp [PyData.hasDictAll, dm_nodict d h1, dmAll_nodict ds h2]
end
theorem dmAll_len : ∀ {ds : List PyData} {vs : List V}, DmAll K H N b vs ds → vs.length = ds.length
  | [], _, h => by cases h; rfl
  | d :: ds, _, h => by
    cases h with
    | cons h1 h2 => exact congrArg Nat.succ (dmAll_len h2)
theorem dmAll_get : ∀ {ds : List PyData} {vs : List V} {i : Nat} {v : V}, DmAll K H N b vs ds → vs[i]? = some v → ∃ d, ds[i]? = some d ∧ Dm K H N b v d
  | [], _, _, _, h, e => by cases h; simp at e
  | d :: ds, _, 0, _, h, e => by
    cases h with
    | cons h1 h2 =>
      simp at e
      subst e
      exact ⟨d, rfl, h1⟩
  | d :: ds, _, i + 1, v, h, e => by
    cases h with
    | cons h1 h2 =>
      obtain ⟨d', a, b⟩ := dmAll_get (i := i) (v := v) h2 (by simpa using e)
      exact ⟨d', by simpa using a, b⟩
theorem dmAll_at : ∀ {ds : List PyData} {vs : List V} {i : Nat} {d : PyData}, DmAll K H N b vs ds → ds[i]? = some d → ∃ v, vs[i]? = some v ∧ Dm K H N b v d
  | [], _, _, _, h, e => by simp at e
  | d :: ds, _, 0, _, h, e => by
    cases h with
    | cons h1 h2 =>
      simp at e
      subst e
      exact ⟨_, rfl, h1⟩
  | d :: ds, _, i + 1, v, h, e => by
    cases h with
    | cons h1 h2 =>
      obtain ⟨d', a, b⟩ := dmAll_at (i := i) (d := v) h2 (by simpa using e)
      exact ⟨d', by simpa using a, b⟩
theorem dmAll_app : ∀ {ds es : List PyData} {vs us : List V}, DmAll K H N b vs ds → DmAll K H N b us es → DmAll K H N b (vs ++ us) (ds ++ es)
  | [], _, _, _, h, g => by cases h; exact g
  | d :: ds, _, _, _, h, g => by
    cases h with
    | cons h1 h2 => exact .cons h1 (dmAll_app h2 g)
theorem dmAll_take : ∀ {ds : List PyData} {vs : List V} (j : Nat), DmAll K H N b vs ds → DmAll K H N b (vs.take j) (ds.take j)
  | [], _, j, h => by cases h; simpa using DmAll.nil
  | d :: ds, _, 0, h => .nil
  | d :: ds, _, j + 1, h => by
    cases h with
    | cons h1 h2 => exact .cons h1 (dmAll_take j h2)
theorem dmAll_drop : ∀ {ds : List PyData} {vs : List V} (j : Nat), DmAll K H N b vs ds → DmAll K H N b (vs.drop j) (ds.drop j)
  | [], _, j, h => by cases h; simpa using DmAll.nil
  | d :: ds, _, 0, h => h
  | d :: ds, _, j + 1, h => by
    cases h with
    | cons h1 h2 => exact dmAll_drop j h2
theorem dm_tup {v : V} {ds : List PyData} (h : Dm K H N b v (.tuple ds)) : ∃ a xs, v = .ref a ∧ SqT K H a xs ∧ DmAll K H N b xs ds := by
  cases h with
  | tup h1 h2 => exact ⟨_, _, rfl, h1, h2⟩
theorem tyM {v : V} {d : PyData} (h : Dm K H N b v d) : TyX K H v (.type (tyN d)) := by
  cases h with
  | non => exact .base .non
  | bl b => exact .base (.bl b)
  | int i => exact .base (.int i)
  | str s => exact .base (.str s)
  | lst _ _ h1 _ => exact sq_list_ty h1
  | tup h1 _ => exact sq_tup_ty h1
  | dic _ _ h => exact .base (.dK h)
end
def rIsiM (K : PySem.W.Frag) (N : Addr → Prop) (b : Bool) : List V → Hp → VK → Prop := fun xs H Q => ∃ (x : V) (d : PyData) (T : String) (z : Bool), xs = [x, .ty T] ∧ Dm K H N b x d ∧ kitB (tyN d) T = some z ∧ Q (.bl z) H
theorem isiM {X : Cx} (K : PySem.W.Frag) (N : Addr → Prop) (b : Bool) (h : X.K = K := by rfl) : CallR X (.builtin "isinstance") (rIsiM K N b) := by
  subst h
  intro pins s σ H vs us Q I r h
  obtain ⟨x, d, T, b, rfl, hd, hk, q⟩ := h
  exact call_isi pins s σ H _ us Q I r ⟨x, _, _, _, b, rfl, .ty T, tyM hd, kit_ty hk, q⟩
section
variable {X : Cx} {pins : List (Addr × Obj)} {σ : St} {H : Hp} {s : Shared} {N : Addr → Prop} {b : Bool}
mutual
theorem dm_reads (I : Inv X pins σ H s) : ∀ (d : PyData) (v : V) (u : Value), Dm X.K H N b v d → RelV v u → ∃ as, Reads s.heap u d as ∧ (b = false → sysModules ∉ as)
  | .none, _, _, h, r => by
    cases h
    cases r
    exact ⟨_, Reads.none, fun _ => by simp⟩
  | .bool z, _, _, h, r => by
    cases h
    cases r
    exact ⟨_, Reads.bool z, fun _ => by simp⟩
  | .int i, _, _, h, r => by
    cases h
    obtain ⟨t, rfl⟩ := r
    exact ⟨_, Reads.int i t, fun _ => by simp⟩
  | .str x, _, _, h, r => by
    cases h
    obtain ⟨t, rfl⟩ := r
    exact ⟨_, Reads.str x t, fun _ => by simp⟩
  | .list ds, _, _, h, r => by
    cases h with
    | lst e n hs ha =>
      cases r
      obtain ⟨its, rv, ⟨o, n, ho, hc, _, hd⟩, _⟩ := I.list hs
      obtain ⟨as, hr, _⟩ := dm_readsAll I ds _ its ha rv
      exact ⟨_, Reads.list ho hc hd hr, fun z => by rw [e] at z; cases z⟩
  | .tuple ds, _, _, h, r => by
    cases h with
    | tup hs ha =>
      cases r
      obtain ⟨its, rv, ⟨o, ho, hc, n, hd⟩, _⟩ := I.tuple hs
      obtain ⟨as, hr, hn⟩ := dm_readsAll I ds _ its ha rv
      exact ⟨_, Reads.tuple ho hc hd hr, hn⟩
  | .dict kvs, _, _, h, r => by
    cases h with
    | dic e n hh =>
      cases r
      have hk := I.hok _ _ hh
      unfold ObjOk at hk
      obtain ⟨_, hsys, vs, kv, o, es, ep, h1, h2, h3, h4, h5, h6⟩ := hk
      cases kv
      have he : es.toList = [] := by
        generalize es.toList = l at h5
        cases h5
        rfl
      refine ⟨_, Reads.dict h1 h2.1 h3 (by rw [he]; exact .nil) (by rw [he]; exact .nil), fun _ hm => ?_⟩
      have := List.mem_singleton.mp (by simpa using hm)
      rw [← this] at hsys
      simp at hsys
theorem dm_readsAll (I : Inv X pins σ H s) : ∀ (ds : List PyData) (vs : List V) (us : List Value), DmAll X.K H N b vs ds → Vals vs us → ∃ as, ReadsAll s.heap us ds as ∧ (b = false → sysModules ∉ as)
  | [], _, _, h, r => by
    cases h
    cases r
    exact ⟨_, ReadsAll.nil, fun _ => by simp⟩
  | d :: ds, _, _, h, r => by
    cases h with
    | cons h1 h2 =>
      cases r with
      | cons r1 r2 =>
        obtain ⟨as, q1, n1⟩ := dm_reads I d _ _ h1 r1
        obtain ⟨bs, q2, n2⟩ := dm_readsAll I ds _ _ h2 r2
        exact ⟨_, ReadsAll.cons q1 q2, fun z m => (List.mem_append.mp m).elim (n1 z) (n2 z)⟩
end
end
/-- what may be written as a text -/
def ShowM (d : PyData) : Prop := d.showable = true ∧ d.depth ≤ 40 ∧ d.shown.length ≤ sizeLine
def rReprM (K : PySem.W.Frag) (N : Addr → Prop) (b : Bool) : List V → Hp → VK → Prop := fun xs H Q => ∃ (x : V) (d : PyData), xs = [x] ∧ Dm K H N b x d ∧ ShowM d ∧ Q (.str d.shown) H
theorem reprM {X : Cx} (K : PySem.W.Frag) (N : Addr → Prop) (b : Bool) (hgd : X.A.guards = some []) (hu : X.A.units + 64 < cLine) (h : X.K = K := by rfl) : CallR X (.builtin "repr") (rReprM K N b) := by
  subst h
  intro pins s σ H xs us Q I r h
  obtain ⟨x, d, rfl, hd, ⟨h1, h3, h4⟩, q⟩ := h
  cases r with
  | cons r0 rr =>
    cases rr
    rename_i v
    obtain ⟨as, rd, hn⟩ := dm_reads I d x v hd r0
    have hsm : d.hasDict = true → sysModules ∉ as := by
      cases b with
      | false => exact fun _ => hn rfl
      | true => exact PyData.noDict_hsm (dm_nodict d hd)
    cases rd with
    | list a b c dd =>
      refine repr_of_reads' (.list a b c dd) h1 hsm hgd (by omega) (fun _ _ e => e) (fun h' u tk hk => ?_) h4
      exact ⟨.str _, H, I.kept (t' := tk) hk, ⟨u, rfl⟩, q⟩
    | tuple a b c dd =>
      refine repr_of_reads' (.tuple a b c dd) h1 hsm hgd (by omega) (fun _ _ e => e) (fun h' u tk hk => ?_) h4
      exact ⟨.str _, H, I.kept (t' := tk) hk, ⟨u, rfl⟩, q⟩
    | int i t =>
      refine PySem.P.repr_of_int (by simpa [PyData.showable] using h1) ⟨.str _, H, I.tok _, ⟨_, rfl⟩, ?_⟩
      simpa only [PyData.shown] using q
    | none =>
      refine PySem.P.repr_of_none ⟨.str _, H, I.tok _, ⟨_, rfl⟩, ?_⟩
      simpa only [PyData.shown] using q
    | bool b =>
      refine PySem.P.repr_of_bool ⟨.str _, H, I.tok _, ⟨_, rfl⟩, ?_⟩
      simpa only [PyData.shown] using q
    | str z t =>
      refine PySem.P.repr_of_str ⟨.str _, H, I.tok _, ⟨_, rfl⟩, ?_⟩ (by simpa only [PyData.shown] using h4)
      simpa only [PyData.shown] using q
    | dict a b c dd ee =>
      refine repr_of_reads' (.dict a b c dd ee) h1 hsm hgd (by omega) (fun _ _ e => e) (fun h' u tk hk => ?_) h4
      exact ⟨.str _, H, I.kept (t' := tk) hk, ⟨u, rfl⟩, q⟩
end BV

namespace BV
open PySem L2
/-! ### small data with empty dicts -/
mutual
def tinyM : PyData → Bool
  | .none | .bool _ => true
  | .int i => decide (i.natAbs.log2 < 300)
  | .str x => decide (x.length ≤ 100) && x.cps.toList.all fun c => decide (c < 16 ^ 8)
  | .list xs | .tuple xs => tinyAllM xs
  | .dict kvs => kvs.isEmpty
def tinyAllM : List PyData → Bool
  | [] => true
  | x :: xs => tinyM x && tinyAllM xs
end
mutual
theorem tinyM_facts : ∀ d : PyData, tinyM d = true → d.showable = true ∧ lowD d = true ∧ d.shown.length + 2 ≤ 1100 * nodes d
  | .none, _ => ⟨by simp [PyData.showable], by simp [lowD], by
      have e : (PyData.shown .none).length = 4 := rfl
      simp only [nodes]
      omega⟩
  | .bool b, _ => ⟨by simp [PyData.showable], by simp [lowD], by
      have e : (PyData.shown (.bool b)).length ≤ 5 := by cases b <;> decide
      simp only [nodes]
      omega⟩
  | .int i, h => by
    have h' : i.natAbs.log2 < 300 := by simpa [tinyM] using h
    refine ⟨?_, by simp [lowD], ?_⟩
    · simp only [PyData.showable, decide_eq_true_eq]
      omega
    · have := int_shown h'
      simp only [nodes]
      omega
  | .str x, h => by
    have h' : x.length ≤ 100 ∧ ∀ c ∈ x.cps.toList, c < 16 ^ 8 := by
      simp only [tinyM, Bool.and_eq_true, decide_eq_true_eq, List.all_eq_true] at h
      exact h
    refine ⟨by simp [PyData.showable], ?_, ?_⟩
    · simp only [lowD, List.all_eq_true, decide_eq_true_eq]
      exact h'.2
    · have e := StrLaws.reprText_len x h'.2
      simp only [PyData.shown, nodes]
      omega
  | .list xs, h => by
    have h1 := tinyM_all xs (by simpa [tinyM] using h)
    refine ⟨by simpa [PyData.showable] using h1.1, by simpa [lowD] using h1.2.1, ?_⟩
    have h2 := listText_len_le (PyData.shownAll xs)
    simp only [PyData.shown, nodes]
    omega
  | .tuple xs, h => by
    have h1 := tinyM_all xs (by simpa [tinyM] using h)
    refine ⟨by simpa [PyData.showable] using h1.1, by simpa [lowD] using h1.2.1, ?_⟩
    have h2 := tupleText_len_le (PyData.shownAll xs)
    simp only [PyData.shown, nodes]
    omega
  | .dict kvs, h => by
    have e : kvs = [] := by simpa [tinyM] using h
    subst e
    refine ⟨by simp [PyData.showable, PyData.showableKv], by simp [lowD], ?_⟩
    have e : (PyData.shown (.dict [])).length = 2 := rfl
    simp only [nodes]
    omega
theorem tinyM_all : ∀ xs : List PyData, tinyAllM xs = true → PyData.showableAll xs = true ∧ lowAll xs = true ∧
    ((PyData.shownAll xs).map (·.length)).sum + 2 * (PyData.shownAll xs).length ≤ 1100 * nodesAll xs
  | [], _ => ⟨by simp [PyData.showableAll], by simp [lowAll], by simp [PyData.shownAll]⟩
  | x :: xs, h => by
    have h' : tinyM x = true ∧ tinyAllM xs = true := by simpa [tinyAllM] using h
    obtain ⟨a1, a2, a3⟩ := tinyM_facts x h'.1
    obtain ⟨b1, b2, b3⟩ := tinyM_all xs h'.2
    refine ⟨by simp [PyData.showableAll, a1, b1], by simp [lowAll, a2, b2], ?_⟩
    simp only [PyData.shownAll, nodesAll, List.map_cons, List.sum_cons, List.length_cons]
    omega
end
structure Sw (d : PyData) (c k : Nat) : Prop where
  t : tinyM d = true
  n : nodes d ≤ c
  p : d.depth ≤ k
theorem Sw.mono {d : PyData} {c k c' k' : Nat} (h : Sw d c k) (h1 : c ≤ c') (h2 : k ≤ k') : Sw d c' k' := ⟨h.t, Nat.le_trans h.n h1, Nat.le_trans h.p h2⟩
theorem Sw.show {d : PyData} {c k : Nat} (h : Sw d c k) (hc : c ≤ 15000) (hk : k ≤ 40) : ShowM d := by
  obtain ⟨a, b, e⟩ := tinyM_facts d h.t
  refine ⟨a, Nat.le_trans h.p hk, ?_⟩
  have h1 := h.n
  have h2 : sizeLine = 16777216 := by decide
  rw [h2]
  omega
theorem Sw.low {d : PyData} {c k : Nat} (h : Sw d c k) : low d.shown := low_shown d (tinyM_facts d h.t).2.1
theorem Sw.len {d : PyData} {c k : Nat} (h : Sw d c k) : d.shown.length ≤ 1100 * c := by
  have h1 := (tinyM_facts d h.t).2.2
  have h2 := Nat.mul_le_mul_left 1100 h.n
  omega
/-- all of a list, c nodes together -/
structure SwA (ds : List PyData) (c k : Nat) : Prop where
  t : tinyAllM ds = true
  n : nodesAll ds ≤ c
  p : PyData.depthAll ds ≤ k
theorem swa_nil {c k : Nat} : SwA [] c k := ⟨by simp [tinyAllM], by simp [nodesAll], by simp [PyData.depthAll]⟩
theorem swa_cons {d : PyData} {ds : List PyData} {c1 c2 k : Nat} (h : Sw d c1 k) (g : SwA ds c2 k) : SwA (d :: ds) (c1 + c2) k :=
  ⟨by simp [tinyAllM, h.t, g.t], by have := h.n; have := g.n; simp only [nodesAll]; omega, by have := h.p; have := g.p; simp only [PyData.depthAll]; omega⟩
theorem swa_app {ds es : List PyData} {c1 c2 k : Nat} (h : SwA ds c1 k) (g : SwA es c2 k) : SwA (ds ++ es) (c1 + c2) k := by
  induction ds generalizing c1 with
  | nil => exact ⟨g.t, Nat.le_trans g.n (by omega), g.p⟩
  | cons d ds ih =>
    have h1 := h.t; have h2 := h.n; have h3 := h.p
    simp only [tinyAllM, Bool.and_eq_true] at h1
    simp only [nodesAll] at h2
    simp only [PyData.depthAll] at h3
    have ih' := ih (c1 := c1 - nodes d) ⟨h1.2, by omega, by omega⟩
    refine ⟨by simp [tinyAllM, h1.1, ih'.t], ?_, ?_⟩
    · have := ih'.n
      simp only [List.cons_append, nodesAll]
      omega
    · have := ih'.p
      simp only [List.cons_append, PyData.depthAll]
      omega
theorem swa_mono {ds : List PyData} {c k c' k' : Nat} (h : SwA ds c k) (h1 : c ≤ c') (h2 : k ≤ k') : SwA ds c' k' := ⟨h.t, Nat.le_trans h.n h1, Nat.le_trans h.p h2⟩
theorem sw_tup {ds : List PyData} {c k : Nat} (h : SwA ds c k) : Sw (.tuple ds) (c + 1) (k + 1) :=
  ⟨by simpa only [tinyM] using h.t, by have := h.n; simp only [nodes]; omega, by have := h.p; simp only [PyData.depth]; omega⟩
theorem sw_lst {ds : List PyData} {c k : Nat} (h : SwA ds c k) : Sw (.list ds) (c + 1) (k + 1) :=
  ⟨by simpa only [tinyM] using h.t, by have := h.n; simp only [nodes]; omega, by have := h.p; simp only [PyData.depth]; omega⟩
theorem sw_int {z : Int} {k : Nat} (h : z.natAbs < 2 ^ 200) : Sw (.int z) 1 k := by
  have hl : z.natAbs.log2 < 300 := Nat.lt_of_lt_of_le (PySem.Flt.log2_lt_of (by decide) h) (by decide)
  exact ⟨by simp only [tinyM, hl, decide_true], by simp only [nodes]; exact Nat.le_refl _, by simp only [PyData.depth]; omega⟩
theorem sw_nat {j k : Nat} (h : j < 100000) : Sw (.int (j : Int)) 1 k := sw_int (Nat.lt_of_lt_of_le (show ((j : Int)).natAbs < 100000 by omega) (by decide))
theorem sw_dic {k : Nat} : Sw (.dict []) 1 (k + 1) := ⟨by simp [tinyM], by simp [nodes], Nat.le_trans (show (PyData.dict []).depth ≤ 1 by decide) (by omega)⟩
theorem sw_tie {t : Tie} {k : Nat} (h : t.1 < 100000 ∧ t.2 < 100000) : Sw (tieD t) 3 (k + 1) :=
  sw_tup (c := 2) (swa_cons (c1 := 1) (c2 := 1) (sw_nat h.1) (swa_cons (c1 := 1) (c2 := 0) (sw_nat h.2) swa_nil))
theorem swa_ties {k : Nat} : ∀ ts : List Tie, (∀ t ∈ ts, t.1 < 100000 ∧ t.2 < 100000) → SwA (ts.map tieD) (3 * ts.length) (k + 1)
  | [], _ => swa_nil
  | t :: ts, h => by
    refine swa_mono (swa_cons (sw_tie (h t (List.mem_cons_self ..))) (swa_ties ts fun u hu => h u (List.mem_cons_of_mem _ hu))) ?_ (Nat.le_refl _)
    rw [List.length_cons]
    omega
/-- the answer and a text, in a list -/
theorem show_pair {e : PyData} {s : Str} (he : Sw e 10 3) (hd : e.hasDict = false) (hs : low s) (hl : s.length ≤ 600000) : Show (.list [e, .str s]) := by
  obtain ⟨a1, a2, a3⟩ := tinyM_facts e he.t
  have h1 := he.p
  have h0 := he.n
  refine ⟨by simp [PyData.showable, PyData.showableAll, a1], by simp [PyData.hasDict, PyData.hasDictAll, hd], ?_, ?_⟩
  · simp only [PyData.depth, PyData.depthAll]
    omega
  · have h2 := listText_len_le (PyData.shownAll [e, .str s])
    have h3 := StrLaws.reprText_len s hs
    have h4 : sizeLine = 16777216 := by decide
    rw [h4]
    simp only [PyData.shownAll, List.map_cons, List.map_nil, List.sum_cons, List.sum_nil, List.length_cons, List.length_nil, PyData.shown] at h2 ⊢
    omega

/-! ### what a web is -/
def isTieD (n : Int) : PyData → Bool
  | .tuple [.int a, .int b] => decide (0 ≤ a ∧ a ≤ n - 1) && (decide (0 ≤ b ∧ b ≤ n - 1) && decide (a < b))
  | _ => false
def badAt (n : Int) : List PyData → Nat → Option Nat
  | [], _ => none
  | d :: ds, k => if isTieD n d = true then badAt n ds (k + 1) else some k
def tieOf : PyData → Tie
  | .tuple [.int a, .int b] => (a.toNat, b.toNat)
  | _ => (0, 0)
theorem tieD_of {n : Int} : ∀ {d : PyData}, isTieD n d = true → tieD (tieOf d) = d ∧ (tieOf d).1 < (tieOf d).2 ∧ ((tieOf d).2 : Int) < n := by
  intro d h
  unfold isTieD at h
  split at h
  · rename_i a b
    simp only [Bool.and_eq_true, decide_eq_true_eq] at h
    refine ⟨?_, ?_, ?_⟩
    · show PyData.tuple [.int ((a.toNat : Nat) : Int), .int ((b.toNat : Nat) : Int)] = _
      rw [Int.toNat_of_nonneg h.1.1, Int.toNat_of_nonneg h.2.1.1]
    · show a.toNat < b.toNat
      omega
    · show ((b.toNat : Nat) : Int) < n
      omega
  · cases h
theorem isTie_tieD {n : Int} {t : Tie} (h1 : t.1 < t.2) (h2 : (t.2 : Int) < n) : isTieD n (tieD t) = true := by
  show (decide (0 ≤ (t.1 : Int) ∧ (t.1 : Int) ≤ n - 1) && (decide (0 ≤ (t.2 : Int) ∧ (t.2 : Int) ≤ n - 1) && decide ((t.1 : Int) < t.2))) = true
  simp only [Bool.and_eq_true, decide_eq_true_eq]
  omega
theorem badAt_none {n : Int} : ∀ {ds : List PyData} {k : Nat}, badAt n ds k = none ↔ ∀ d ∈ ds, isTieD n d = true
  | [], k => by simp [badAt]
  | d :: ds, k => by
    unfold badAt
    by_cases h : isTieD n d = true
    · rw [if_pos h, badAt_none]
      simp [h]
    · rw [if_neg h]
      simp [h]
theorem badAt_ge {n : Int} : ∀ {ds : List PyData} {k j : Nat}, badAt n ds k = some j → k ≤ j ∧ j < k + ds.length
  | [], k, j, h => by simp [badAt] at h
  | d :: ds, k, j, h => by
    unfold badAt at h
    rw [List.length_cons]
    split at h
    · have := badAt_ge h
      omega
    · cases h
      omega
theorem badAt_app {n : Int} : ∀ (ds es : List PyData) (k : Nat), (∀ d ∈ ds, isTieD n d = true) → badAt n (ds ++ es) k = badAt n es (k + ds.length)
  | [], es, k, _ => rfl
  | d :: ds, es, k, h => by
    show (if isTieD n d = true then badAt n (ds ++ es) (k + 1) else some k) = _
    rw [if_pos (h d (List.mem_cons_self ..)), badAt_app ds es (k + 1) fun e he => h e (List.mem_cons_of_mem _ he), List.length_cons]
    congr 1
    omega
/-- the first that is none, found from the left -/
theorem badAt_first {n : Int} {ds : List PyData} {i : Nat} {d : PyData} (h : ∀ j e, j < i → ds[j]? = some e → isTieD n e = true) (hd : ds[i]? = some d) (hb : isTieD n d ≠ true) : badAt n ds 0 = some i := by
  have hi : i < ds.length := (List.getElem?_eq_some_iff.mp hd).1
  have e : ds = ds.take i ++ d :: ds.drop (i + 1) := by
    have h1 : ds[i] = d := Option.some.inj ((List.getElem?_eq_getElem hi).symm.trans hd)
    rw [← h1, List.getElem_cons_drop, List.take_append_drop]
  rw [e, badAt_app _ _ _ fun x hx => ?_]
  · unfold badAt
    rw [if_neg hb, List.length_take]
    congr 1
    omega
  · obtain ⟨j, hj⟩ := List.getElem?_of_mem hx
    have hjl := (List.getElem?_eq_some_iff.mp hj).1
    rw [List.length_take] at hjl
    rw [List.getElem?_take_of_lt (by omega)] at hj
    exact h j x (by omega) hj
def Joined (n : Nat) (ts : List Tie) : Prop := ∀ p, p < n → ∃ w, Way ts 0 w p
open Classical in
noncomputable def webE : PyData → PyData
  | .tuple [.int n, .tuple ds] => if 1 ≤ n ∧ n ≤ 12 ∧ ds.length ≤ 40 then
      (match badAt n ds 0 with
        | some k => .tuple [.str "tie", .int (k : Nat)]
        | none => if Joined n.toNat (ds.map tieOf) then .none else .str "apart")
    else .str "form"
  | _ => .str "form"
theorem tie_maps {n : Int} : ∀ {ds : List PyData}, (∀ d ∈ ds, isTieD n d = true) → (ds.map tieOf).map tieD = ds
  | [], _ => rfl
  | d :: ds, h => by
    rw [List.map_cons, List.map_cons, (tieD_of (h d (List.mem_cons_self ..))).1, tie_maps fun e he => h e (List.mem_cons_of_mem _ he)]
theorem tie_of_tieD (t : Tie) : tieOf (tieD t) = t := by
  show (((t.1 : Int)).toNat, ((t.2 : Int)).toNat) = t
  simp
/-- all that passes the look at the ties -/
theorem webE_web {d : PyData} (h : webE d = .none ∨ webE d = .str "apart") : ∃ n ts, d = webD n ts ∧ 1 ≤ n ∧ n ≤ 12 ∧ ts.length ≤ 40 ∧ ∀ t ∈ ts, t.1 < t.2 ∧ t.2 < n := by
  unfold webE at h
  split at h
  · rename_i n ds
    split at h
    · rename_i hc
      split at h
      · rcases h with h | h <;> cases h
      · rename_i hb
        have ha := badAt_none.mp hb
        refine ⟨n.toNat, ds.map tieOf, ?_, by omega, by omega, by rw [List.length_map]; exact hc.2.2, fun t ht => ?_⟩
        · show _ = PyData.tuple [.int ((n.toNat : Nat) : Int), .tuple ((ds.map tieOf).map tieD)]
          rw [tie_maps ha, Int.toNat_of_nonneg (by omega)]
        · obtain ⟨d, hd, rfl⟩ := List.mem_map.mp ht
          have := tieD_of (ha d hd)
          omega
    · rcases h with h | h
      · cases h
      · have : Str.ofString "form" = Str.ofString "apart" := PyData.str.inj h
        exact absurd this (by decide)
  · rcases h with h | h
    · cases h
    · have : Str.ofString "form" = Str.ofString "apart" := PyData.str.inj h
      exact absurd this (by decide)
theorem sw_webE (d : PyData) : Sw (webE d) 10 3 ∧ (webE d).hasDict = false := by
  have hf : ∀ s : String, (Str.ofString s).length ≤ 100 → low (Str.ofString s) → Sw (.str s) 10 3 ∧ (PyData.str s).hasDict = false := fun s h1 h2 =>
    ⟨⟨by simp only [tinyM, Bool.and_eq_true, decide_eq_true_eq, List.all_eq_true]; exact ⟨h1, h2⟩, by simp [nodes], by simp [PyData.depth]⟩, by simp [PyData.hasDict]⟩
  unfold webE
  split
  · rename_i n ds
    split
    · rename_i hc
      split
      · rename_i k hk
        have := badAt_ge hk
        have hk2 : k < 100000 := by omega
        have h1 : Sw (.str "tie") 1 2 := ⟨by decide, by simp [nodes], by simp [PyData.depth]⟩
        exact ⟨(sw_tup (c := 2) (k := 2) (swa_cons (c1 := 1) (c2 := 1) h1 (swa_cons (c1 := 1) (c2 := 0) (sw_nat hk2) swa_nil))).mono (by decide) (by decide), by simp [PyData.hasDict, PyData.hasDictAll]⟩
      · split
        · exact ⟨⟨by simp [tinyM], by simp [nodes], by simp [PyData.depth]⟩, by simp [PyData.hasDict]⟩
        · exact hf "apart" (by decide) (low_of _)
    · exact hf "form" (by decide) (low_of _)
  · exact hf "form" (by decide) (low_of _)
end BV

namespace BV
open PySem L2
/-! Even lots, cuts, and lots without a round. -/
def b2 (b : Bool) : Nat := if b = true then 1 else 0
def atE (ts : List Tie) (p k : Nat) : Bool := match ts[k]? with
  | some t => decide (t.1 = p ∨ t.2 = p)
  | none => false
def degE (ts : List Tie) (lot : List Nat) (p : Nat) : Nat := (lot.filter (atE ts p)).length
def crossK (ts : List Tie) (S : List Nat) (k : Nat) : Bool := match ts[k]? with
  | some t => crosses S t
  | none => false
def crossN (ts : List Tie) (S lot : List Nat) : Nat := (lot.filter (crossK ts S)).length
def sumR (n : Nat) (f : Nat → Nat) : Nat := ((List.range n).map f).sum
theorem sumR_succ (n : Nat) (f : Nat → Nat) : sumR (n + 1) f = sumR n f + f n := by
  unfold sumR
  rw [List.range_succ, List.map_append, List.sum_append]
  simp
theorem sumR_add (f g : Nat → Nat) : ∀ n, sumR n (fun p => f p + g p) = sumR n f + sumR n g
  | 0 => rfl
  | n + 1 => by
    rw [sumR_succ, sumR_succ, sumR_succ, sumR_add f g n]
    omega
theorem sumR_congr {f g : Nat → Nat} : ∀ {n}, (∀ p, p < n → f p = g p) → sumR n f = sumR n g
  | 0, _ => rfl
  | n + 1, h => by
    rw [sumR_succ, sumR_succ, sumR_congr fun p hp => h p (by omega), h n (by omega)]
theorem sumR_zero (n : Nat) : sumR n (fun _ => 0) = 0 := by
  induction n with
  | zero => rfl
  | succ n ih => rw [sumR_succ, ih]
theorem sumR_one (a c : Nat) : ∀ n, sumR n (fun p => if p = a then c else 0) = if a < n then c else 0
  | 0 => by simp [sumR]
  | n + 1 => by
    rw [sumR_succ, sumR_one a c n]
    by_cases h : a < n
    · rw [if_pos h, if_neg (by omega), if_pos (by omega), Nat.add_zero]
    · by_cases e : n = a
      · rw [if_neg h, if_pos e, if_pos (by omega)]
        omega
      · rw [if_neg h, if_neg e, if_neg (by omega)]
theorem sumR_even {f : Nat → Nat} : ∀ {n}, (∀ p, p < n → f p % 2 = 0) → sumR n f % 2 = 0
  | 0, _ => rfl
  | n + 1, h => by
    rw [sumR_succ]
    have h1 := sumR_even fun p (hp : p < n) => h p (by omega)
    have h2 := h n (by omega)
    omega
theorem degE_cons (ts : List Tie) (k : Nat) (lot : List Nat) (p : Nat) : degE ts (k :: lot) p = b2 (atE ts p k) + degE ts lot p := by
  unfold degE b2
  rw [List.filter_cons]
  split
  · rw [List.length_cons]
    omega
  · omega
theorem crossN_cons (ts : List Tie) (S : List Nat) (k : Nat) (lot : List Nat) : crossN ts S (k :: lot) = b2 (crossK ts S k) + crossN ts S lot := by
  unfold crossN b2
  rw [List.filter_cons]
  split
  · rw [List.length_cons]
    omega
  · omega
/-- over the places of a side all ends of a lot are counted: as many as its ties on the cut, modulo 2 -/
theorem parity {n : Nat} {ts : List Tie} (hends : ∀ t ∈ ts, t.1 < t.2 ∧ t.2 < n) (S : List Nat) : ∀ lot : List Nat, (∀ k ∈ lot, k < ts.length) →
    sumR n (fun p => if side S p = true then degE ts lot p else 0) % 2 = crossN ts S lot % 2
  | [], _ => by
    have : sumR n (fun p => if side S p = true then degE ts [] p else 0) = sumR n (fun _ => 0) :=
      sumR_congr fun p _ => by
        show (if side S p = true then 0 else 0) = 0
        split <;> rfl
    rw [this, sumR_zero]
    rfl
  | k :: lot, h => by
    have ih := parity hends S lot fun x hx => h x (List.mem_cons_of_mem _ hx)
    have hk := h k (List.mem_cons_self ..)
    have ht : ts[k]? = some ts[k] := List.getElem?_eq_getElem hk
    generalize ts[k] = t at ht
    have he := hends t (List.mem_of_getElem? ht)
    have e1 : sumR n (fun p => if side S p = true then degE ts (k :: lot) p else 0) = (sumR n (fun p => if p = t.1 then b2 (side S t.1) else 0) + sumR n (fun p => if p = t.2 then b2 (side S t.2) else 0)) +
        sumR n (fun p => if side S p = true then degE ts lot p else 0) := by
      rw [← sumR_add, ← sumR_add]
      refine sumR_congr fun p _ => ?_
      rw [degE_cons]
      have ea : atE ts p k = decide (t.1 = p ∨ t.2 = p) := by
        unfold atE
        rw [ht]
      rw [ea]
      by_cases h1 : p = t.1
      · subst h1
        rw [if_neg (show ¬ t.1 = t.2 by omega), if_pos rfl]
        cases hs : side S t.1 <;> simp [b2]
      · by_cases h2 : p = t.2
        · subst h2
          rw [if_neg h1, if_pos rfl]
          cases hs : side S t.2 <;> simp [b2]
        · rw [if_neg h1, if_neg h2]
          have : decide (t.1 = p ∨ t.2 = p) = false := decide_eq_false (by omega)
          rw [this]
          simp [b2]
    rw [e1, sumR_one, sumR_one, if_pos (show t.1 < n by omega), if_pos he.2, crossN_cons]
    have ec : crossK ts S k = Bool.xor (side S t.1) (side S t.2) := by
      unfold crossK
      rw [ht]
      exact crosses_xor S t
    rw [ec]
    have : (b2 (side S t.1) + b2 (side S t.2)) % 2 = b2 (Bool.xor (side S t.1) (side S t.2)) % 2 := by
      cases side S t.1 <;> cases side S t.2 <;> rfl
    omega
def EvenE (n : Nat) (ts : List Tie) (lot : List Nat) : Prop := ∀ p, p < n → degE ts lot p % 2 = 0
theorem even_cross {n : Nat} {ts : List Tie} (hends : ∀ t ∈ ts, t.1 < t.2 ∧ t.2 < n) {lot : List Nat} (hl : ∀ k ∈ lot, k < ts.length) (h : EvenE n ts lot) (S : List Nat) : crossN ts S lot % 2 = 0 := by
  rw [← parity hends S lot hl]
  refine sumR_even fun p hp => ?_
  split
  · exact h p hp
  · rfl
/-- ties taken one behind another, none of which closes a round -/
inductive Forest (ts : List Tie) : List Nat → Prop
  | nil : Forest ts []
  | snoc {l : List Nat} {k : Nat} {t : Tie} : Forest ts l → ts[k]? = some t → k ∉ l → (∀ w, Way ts t.1 w t.2 → (∀ x ∈ w, x ∈ l) → False) → Forest ts (l ++ [k])
open Classical in
theorem forest_even {n : Nat} {ts : List Tie} (hends : ∀ t ∈ ts, t.1 < t.2 ∧ t.2 < n) {l : List Nat} (hF : Forest ts l) : ∀ lot : List Nat, lot.Nodup → (∀ k ∈ lot, k ∈ l) → (∀ k ∈ l, k < ts.length) → EvenE n ts lot → lot = [] := by
  induction hF with
  | nil =>
    intro lot _ h _ _
    cases lot with
    | nil => rfl
    | cons k lot => exact absurd (h k (List.mem_cons_self ..)) (by simp)
  | @snoc l k t hF ht hk hno ih =>
    intro lot hn h hlt hev
    by_cases hm : k ∈ lot
    · exfalso
      have hends2 := hends t (List.mem_of_getElem? ht)
      let S : List Nat := (List.range n).filter fun p => decide (∃ w, Way ts t.1 w p ∧ ∀ x ∈ w, x ∈ l)
      have inS : ∀ p, p < n → (side S p = true ↔ ∃ w, Way ts t.1 w p ∧ ∀ x ∈ w, x ∈ l) := fun p hp => by
        unfold side
        rw [decide_eq_true_eq, List.mem_filter, List.mem_range, decide_eq_true_eq]
        exact ⟨fun z => z.2, fun z => ⟨hp, z⟩⟩
      have c := even_cross hends (fun x hx => hlt x (h x hx)) hev S
      have e : lot.filter (crossK ts S) = lot.filter (· == k) := by
        refine List.filter_congr fun x hx => ?_
        have hxl := h x hx
        by_cases e : x = k
        · subst e
          unfold crossK
          rw [ht]
          show crosses S t = (x == x)
          rw [crosses_xor]
          have a1 : side S t.1 = true := (inS t.1 (by omega)).mpr ⟨[], .nil, by simp⟩
          have a2 : side S t.2 = false := Bool.eq_false_iff.mpr fun z => by
            obtain ⟨w, h1, h2⟩ := (inS t.2 hends2.2).mp z
            exact hno w h1 h2
          rw [a1, a2]
          simp
        · have hxl2 : x ∈ l := by
            rcases List.mem_append.mp hxl with z | z
            · exact z
            · exact absurd (List.mem_singleton.mp z) e
          have hx2 := hlt x hxl
          have htx : ts[x]? = some ts[x] := List.getElem?_eq_getElem hx2
          generalize ts[x] = u at htx
          have hu := hends u (List.mem_of_getElem? htx)
          unfold crossK
          rw [htx]
          show crosses S u = (x == k)
          rw [crosses_xor]
          have : side S u.1 = side S u.2 := by
            rw [Bool.eq_iff_iff, inS u.1 (by omega), inS u.2 hu.2]
            constructor
            · rintro ⟨w, h1, h2⟩
              exact ⟨w ++ [x], .snoc h1 htx (.inl ⟨rfl, rfl⟩), fun y hy => by
                rcases List.mem_append.mp hy with z | z
                · exact h2 y z
                · rw [List.mem_singleton.mp z]
                  exact hxl2⟩
            · rintro ⟨w, h1, h2⟩
              exact ⟨w ++ [x], .snoc h1 htx (.inr ⟨rfl, rfl⟩), fun y hy => by
                rcases List.mem_append.mp hy with z | z
                · exact h2 y z
                · rw [List.mem_singleton.mp z]
                  exact hxl2⟩
          rw [this]
          have : (x == k) = false := by simpa using e
          rw [this]
          cases side S u.2 <;> rfl
      have e2 : (lot.filter (· == k)).length = 1 := by
        have := hn.count (a := k)
        rw [if_pos hm] at this
        rw [← List.countP_eq_length_filter]
        exact this
      unfold crossN at c
      rw [e, e2] at c
      exact absurd c (by decide)
    · exact ih lot hn (fun x hx => by
        rcases List.mem_append.mp (h x hx) with z | z
        · exact z
        · rw [List.mem_singleton.mp z] at hx
          exact absurd hx hm) (fun x hx => hlt x (List.mem_append_left _ hx)) hev
/-! ### lots and their sums -/
theorem degE_app (ts : List Tie) (l m : List Nat) (p : Nat) : degE ts (l ++ m) p = degE ts l p + degE ts m p := by
  unfold degE
  rw [List.filter_append, List.length_append]
theorem degE_perm {ts : List Tie} {l m : List Nat} (h : l.Perm m) (p : Nat) : degE ts l p = degE ts m p := (h.filter _).length_eq
theorem degE_split (ts : List Tie) (f : Nat → Bool) (l : List Nat) (p : Nat) : degE ts l p = degE ts (l.filter f) p + degE ts (l.filter fun k => !f k) p := by
  induction l with
  | nil => rfl
  | cons k l ih =>
    rw [degE_cons, List.filter_cons, List.filter_cons, ih]
    cases f k
    · rw [if_neg (by decide), if_pos (by decide), degE_cons]
      omega
    · rw [if_pos rfl, if_neg (by decide), degE_cons]
      omega
def symE (l m : List Nat) : List Nat := l.filter (fun k => !decide (k ∈ m)) ++ m.filter fun k => !decide (k ∈ l)
theorem mem_symE {l m : List Nat} {k : Nat} : k ∈ symE l m ↔ (k ∈ l ∧ k ∉ m) ∨ (k ∈ m ∧ k ∉ l) := by
  unfold symE
  rw [List.mem_append, List.mem_filter, List.mem_filter]
  simp
theorem symE_nodup {l m : List Nat} (hl : l.Nodup) (hm : m.Nodup) : (symE l m).Nodup := by
  unfold symE
  rw [List.nodup_append]
  refine ⟨hl.filter _, hm.filter _, fun x hx y hy e => ?_⟩
  subst e
  have z1 := (List.mem_filter.mp hx).1
  have z2 := (List.mem_filter.mp hy).2
  simp [z1] at z2
theorem degE_sym {ts : List Tie} {l m : List Nat} (hl : l.Nodup) (hm : m.Nodup) (p : Nat) : degE ts (symE l m) p % 2 = (degE ts l p + degE ts m p) % 2 := by
  have e1 := degE_split ts (fun k => decide (k ∈ m)) l p
  have e2 := degE_split ts (fun k => decide (k ∈ l)) m p
  have e3 : degE ts (l.filter fun k => decide (k ∈ m)) p = degE ts (m.filter fun k => decide (k ∈ l)) p := by
    refine degE_perm ((List.perm_ext_iff_of_nodup (hl.filter _) (hm.filter _)).mpr fun k => ?_) p
    rw [List.mem_filter, List.mem_filter, decide_eq_true_eq, decide_eq_true_eq]
    exact And.comm
  unfold symE
  rw [degE_app]
  omega
/-- the sum of two lots of L ties -/
def sumL (L : Nat) (l m : List Nat) : List Nat := (List.range L).filter fun k => Bool.xor (decide (k ∈ l)) (decide (k ∈ m))
theorem sumL_lot (L : Nat) (l m : List Nat) : LotA L (sumL L l m) := ⟨List.pairwise_lt_range.filter _, fun k hk => List.mem_range.mp (List.mem_filter.mp hk).1⟩
theorem mem_sumL {L : Nat} {l m : List Nat} {k : Nat} : k ∈ sumL L l m ↔ k < L ∧ ((k ∈ l ∧ k ∉ m) ∨ (k ∈ m ∧ k ∉ l)) := by
  unfold sumL
  rw [List.mem_filter, List.mem_range]
  by_cases h1 : k ∈ l <;> by_cases h2 : k ∈ m <;> simp [h1, h2]
theorem LotA.nd {L : Nat} {l : List Nat} (h : LotA L l) : l.Nodup := h.1.imp fun z => Nat.ne_of_lt z
theorem lot_ext {L : Nat} {l m : List Nat} (hl : LotA L l) (hm : LotA L m) (h : ∀ k, k < L → (k ∈ l ↔ k ∈ m)) : l = m :=
  asc_uniq hl.1 hm.1 fun k => ⟨fun z => (h k (hl.2 k z)).mp z, fun z => (h k (hm.2 k z)).mpr z⟩
theorem sumL_perm {L : Nat} {l m : List Nat} (hl : LotA L l) (hm : LotA L m) : (sumL L l m).Perm (symE l m) := by
  refine (List.perm_ext_iff_of_nodup (sumL_lot L l m).nd (symE_nodup hl.nd hm.nd)).mpr fun k => ?_
  rw [mem_sumL, mem_symE]
  constructor
  · exact fun z => z.2
  · intro z
    refine ⟨?_, z⟩
    rcases z with z | z
    · exact hl.2 k z.1
    · exact hm.2 k z.1
theorem sumL_even {n : Nat} {ts : List Tie} {L : Nat} {l m : List Nat} (hl : LotA L l) (hm : LotA L m) (h1 : EvenE n ts l) (h2 : EvenE n ts m) : EvenE n ts (sumL L l m) := fun p hp => by
  rw [degE_perm (sumL_perm hl hm), degE_sym hl.nd hm.nd]
  have := h1 p hp
  have := h2 p hp
  omega
theorem sumL_back {L : Nat} {l m : List Nat} (hl : LotA L l) : sumL L (sumL L l m) m = l := by
  refine lot_ext (sumL_lot _ _ _) hl fun k hk => ?_
  rw [mem_sumL, mem_sumL]
  by_cases h1 : k ∈ l <;> by_cases h2 : k ∈ m <;> simp [h1, h2, hk]
/-! ### ways as lots -/
theorem way_deg {n : Nat} {ts : List Tie} (hends : ∀ t ∈ ts, t.1 < t.2 ∧ t.2 < n) {a q : Nat} {w : List Nat} (h : Way ts a w q) (p : Nat) : degE ts w p % 2 = (b2 (decide (p = a)) + b2 (decide (p = q))) % 2 := by
  induction h with
  | nil =>
    show 0 % 2 = _
    cases decide (p = a) <;> rfl
  | @snoc w r k q t hw ht he ih =>
    have hte := hends t (List.mem_of_getElem? ht)
    have e : degE ts [k] p = b2 (decide (p = r)) + b2 (decide (p = q)) := by
      rw [degE_cons]
      have ea : atE ts p k = decide (t.1 = p ∨ t.2 = p) := by
        unfold atE
        rw [ht]
      rw [ea]
      show _ + 0 = _
      rcases he with ⟨rfl, rfl⟩ | ⟨rfl, rfl⟩
      · by_cases h1 : p = t.1
        · subst h1
          rw [decide_eq_true (.inl rfl), decide_eq_true rfl, decide_eq_false (by omega)]
          rfl
        · by_cases h2 : p = t.2
          · subst h2
            rw [decide_eq_true (.inr rfl), decide_eq_true rfl, decide_eq_false h1]
            rfl
          · rw [decide_eq_false h1, decide_eq_false h2, decide_eq_false (by omega)]
            rfl
      · by_cases h1 : p = t.1
        · subst h1
          rw [decide_eq_true (.inl rfl), decide_eq_true rfl, decide_eq_false (by omega)]
          rfl
        · by_cases h2 : p = t.2
          · subst h2
            rw [decide_eq_true (.inr rfl), decide_eq_true rfl, decide_eq_false h1]
            rfl
          · rw [decide_eq_false h1, decide_eq_false h2, decide_eq_false (by omega)]
            rfl
    rw [degE_app, e]
    have hx : (b2 (decide (p = r)) + b2 (decide (p = r))) % 2 = 0 := by omega
    omega
theorem round_even {n : Nat} {ts : List Tie} (hends : ∀ t ∈ ts, t.1 < t.2 ∧ t.2 < n) {w : List Nat} {k : Nat} {t : Tie} (ht : ts[k]? = some t) (h : Way ts t.1 w t.2) : EvenE n ts (w ++ [k]) := fun p _ => by
  have h2 : Way ts t.1 (w ++ [k]) t.1 := .snoc h ht (.inr ⟨rfl, rfl⟩)
  rw [way_deg hends h2]
  omega
/-- in a lot without a round there is one way -/
theorem way_one {n : Nat} {ts : List Tie} (hends : ∀ t ∈ ts, t.1 < t.2 ∧ t.2 < n) {l : List Nat} (hF : Forest ts l) (hl : ∀ k ∈ l, k < ts.length) {a q : Nat} {v w : List Nat} (hv : Way ts a v q) (hw : Way ts a w q)
    (nv : v.Nodup) (nw : w.Nodup) (lv : ∀ k ∈ v, k ∈ l) (lw : ∀ k ∈ w, k ∈ l) : v.Perm w := by
  have e := forest_even hends hF (symE v w) (symE_nodup nv nw) (fun k hk => by
    rcases mem_symE.mp hk with z | z
    · exact lv k z.1
    · exact lw k z.1) hl fun p hp => by
      rw [degE_sym nv nw]
      have h1 := way_deg hends hv p
      have h2 := way_deg hends hw p
      omega
  refine (List.perm_ext_iff_of_nodup nv nw).mpr fun k => ?_
  have hn : k ∉ symE v w := by
    rw [e]
    simp
  rw [mem_symE] at hn
  by_cases h1 : k ∈ v <;> by_cases h2 : k ∈ w <;> simp [h1, h2] at hn ⊢
/-! ### all sums of the rounds of a tree -/
/-- a round for each tie c, which has none of the others but ties of l -/
def Founds (n : Nat) (ts : List Tie) (l : List Nat) (cs : List Nat) (R : Nat → List Nat) : Prop :=
  ∀ c ∈ cs, LotA ts.length (R c) ∧ EvenE n ts (R c) ∧ c ∈ R c ∧ c ∉ l ∧ ∀ k ∈ R c, k = c ∨ k ∈ l
def sumsOf (L : Nat) (R : Nat → List Nat) : List Nat → List (List Nat)
  | [] => [[]]
  | c :: cs => sumsOf L R cs ++ (sumsOf L R cs).map fun o => sumL L o (R c)
theorem sums_are {n : Nat} {ts : List Tie} (hends : ∀ t ∈ ts, t.1 < t.2 ∧ t.2 < n) {l : List Nat} (hF : Forest ts l) (hl : ∀ k ∈ l, k < ts.length) {R : Nat → List Nat} :
    ∀ {cs : List Nat}, cs.Nodup → Founds n ts l cs R → (sumsOf ts.length R cs).Nodup ∧ ∀ E : List Nat, E ∈ sumsOf ts.length R cs ↔ LotA ts.length E ∧ EvenE n ts E ∧ ∀ k ∈ E, k ∈ l ∨ k ∈ cs
  | [], _, _ => by
    refine ⟨by simp [sumsOf], fun E => ?_⟩
    simp only [sumsOf, List.mem_singleton, List.not_mem_nil, or_false]
    constructor
    · rintro rfl
      exact ⟨⟨List.Pairwise.nil, fun _ h => nomatch h⟩, fun _ _ => rfl, fun _ h => nomatch h⟩
    · rintro ⟨h1, h2, h3⟩
      exact forest_even hends hF E h1.nd h3 hl h2
  | c :: cs, hn, hR => by
    obtain ⟨hc, hn2⟩ := List.nodup_cons.mp hn
    obtain ⟨ih1, ih2⟩ := sums_are hends hF hl hn2 fun x hx => hR x (List.mem_cons_of_mem _ hx)
    obtain ⟨r1, r2, r3, r4, r5⟩ := hR c (List.mem_cons_self ..)
    have noc : ∀ E ∈ sumsOf ts.length R cs, c ∉ E := fun E hE hcE => by
      rcases ((ih2 E).mp hE).2.2 c hcE with z | z
      · exact r4 z
      · exact hc z
    refine ⟨?_, fun E => ?_⟩
    · show (sumsOf ts.length R cs ++ (sumsOf ts.length R cs).map fun o => sumL ts.length o (R c)).Nodup
      rw [List.nodup_append]
      refine ⟨ih1, ?_, fun x hx y hy e => ?_⟩
      · refine (List.pairwise_map).mpr (ih1.imp_of_mem fun {x y} hx hy hxy e => hxy ?_)
        rw [← sumL_back (m := R c) ((ih2 x).mp hx).1, e, sumL_back ((ih2 y).mp hy).1]
      · subst e
        obtain ⟨o, ho, rfl⟩ := List.mem_map.mp hy
        refine noc _ hx (mem_sumL.mpr ⟨r1.2 c r3, .inr ⟨r3, noc o ho⟩⟩)
    · show E ∈ sumsOf ts.length R cs ++ (sumsOf ts.length R cs).map (fun o => sumL ts.length o (R c)) ↔ _
      rw [List.mem_append]
      constructor
      · rintro (h | h)
        · obtain ⟨h1, h2, h3⟩ := (ih2 E).mp h
          exact ⟨h1, h2, fun k hk => (h3 k hk).imp id (List.mem_cons_of_mem _)⟩
        · obtain ⟨o, ho, rfl⟩ := List.mem_map.mp h
          obtain ⟨h1, h2, h3⟩ := (ih2 o).mp ho
          refine ⟨sumL_lot _ _ _, sumL_even h1 r1 h2 r2, fun k hk => ?_⟩
          rcases (mem_sumL.mp hk).2 with z | z
          · exact (h3 k z.1).imp id (List.mem_cons_of_mem _)
          · rcases r5 k z.1 with e | e
            · exact .inr (by rw [e]; exact List.mem_cons_self ..)
            · exact .inl e
      · rintro ⟨h1, h2, h3⟩
        by_cases hcE : c ∈ E
        · refine .inr (List.mem_map.mpr ⟨sumL ts.length E (R c), (ih2 _).mpr ⟨sumL_lot _ _ _, sumL_even h1 r1 h2 r2, fun k hk => ?_⟩, sumL_back h1⟩)
          rcases (mem_sumL.mp hk).2 with z | z
          · rcases h3 k z.1 with e | e
            · exact .inl e
            · rcases List.mem_cons.mp e with e | e
              · exact absurd r3 (by rw [← e]; exact fun q => z.2 (by rw [e]; exact r3))
              · exact .inr e
          · rcases r5 k z.1 with e | e
            · exact absurd hcE (by rw [← e]; exact z.2)
            · exact .inl e
        · refine .inl ((ih2 E).mpr ⟨h1, h2, fun k hk => ?_⟩)
          rcases h3 k hk with e | e
          · exact .inl e
          · rcases List.mem_cons.mp e with e | e
            · exact absurd hk (by rw [e]; exact hcE)
            · exact .inr e
end BV

namespace BV
open PySem L2
/-! the first tree of a web -/
theorem Way.trans {ts : List Tie} {a p q : Nat} {w v : List Nat} (h1 : Way ts a w p) (h2 : Way ts p v q) : Way ts a (w ++ v) q := by
  induction h2 with
  | nil =>
    rw [List.append_nil]
    exact h1
  | snoc _ ht he ih =>
    rw [← List.append_assoc]
    exact .snoc ih ht he
def Conn (ts : List Tie) (es : List Nat) (p q : Nat) : Prop := ∃ w, Way ts p w q ∧ ∀ x ∈ w, x ∈ es
theorem Conn.refl {ts : List Tie} {es : List Nat} (p : Nat) : Conn ts es p p := ⟨[], .nil, fun _ h => nomatch h⟩
theorem Conn.trans {ts : List Tie} {es : List Nat} {p q r : Nat} (h1 : Conn ts es p q) (h2 : Conn ts es q r) : Conn ts es p r := by
  obtain ⟨w, a1, a2⟩ := h1
  obtain ⟨v, b1, b2⟩ := h2
  exact ⟨w ++ v, a1.trans b1, fun x hx => (List.mem_append.mp hx).elim (a2 x) (b2 x)⟩
theorem Conn.step {ts : List Tie} {es : List Nat} {k : Nat} {t : Tie} {p q : Nat} (hk : k ∈ es) (ht : ts[k]? = some t) (he : t.1 = p ∧ t.2 = q ∨ t.2 = p ∧ t.1 = q) : Conn ts es p q :=
  ⟨[] ++ [k], .snoc .nil ht he, fun x hx => by
    have : x = k := by simpa using hx
    rw [this]
    exact hk⟩
theorem Conn.mono {ts : List Tie} {es fs : List Nat} {p q : Nat} (h : Conn ts es p q) (m : ∀ x ∈ es, x ∈ fs) : Conn ts fs p q := by
  obtain ⟨w, h1, h2⟩ := h
  exact ⟨w, h1, fun x hx => m x (h2 x hx)⟩
theorem way_back {ts : List Tie} {es : List Nat} {p q : Nat} {w : List Nat} (h : Way ts p w q) : (∀ x ∈ w, x ∈ es) → Conn ts es q p := by
  induction h with
  | nil => exact fun _ => .refl _
  | @snoc w r k q t hw ht he ih =>
    intro hx
    have h1 := ih fun x hx2 => hx x (List.mem_append_left _ hx2)
    refine Conn.trans (Conn.step (hx k (List.mem_append_right _ (List.mem_singleton.mpr rfl))) ht ?_) h1
    rcases he with ⟨e1, e2⟩ | ⟨e1, e2⟩
    · exact .inr ⟨e2, e1⟩
    · exact .inl ⟨e2, e1⟩
theorem Conn.symm {ts : List Tie} {es : List Nat} {p q : Nat} (h : Conn ts es p q) : Conn ts es q p := by
  obtain ⟨w, h1, h2⟩ := h
  exact way_back h1 h2
open Classical in
/-- the ties that are taken of the first i ones -/
noncomputable def treeL (ts : List Tie) : Nat → List Nat
  | 0 => []
  | i + 1 => match ts[i]? with
    | some t => if Conn ts (treeL ts i) t.1 t.2 then treeL ts i else treeL ts i ++ [i]
    | none => treeL ts i
theorem tree_yes {ts : List Tie} {i : Nat} {t : Tie} (ht : ts[i]? = some t) (h : Conn ts (treeL ts i) t.1 t.2) : treeL ts (i + 1) = treeL ts i := by
  rw [treeL, ht]
  exact if_pos h
theorem tree_no {ts : List Tie} {i : Nat} {t : Tie} (ht : ts[i]? = some t) (h : ¬ Conn ts (treeL ts i) t.1 t.2) : treeL ts (i + 1) = treeL ts i ++ [i] := by
  rw [treeL, ht]
  exact if_neg h
theorem tree_lot (ts : List Tie) : ∀ i, i ≤ ts.length → LotA i (treeL ts i)
  | 0, _ => ⟨List.Pairwise.nil, fun _ h => nomatch h⟩
  | i + 1, hi => by
    have ih := tree_lot ts i (by omega)
    have ht : ts[i]? = some ts[i] := List.getElem?_eq_getElem (by omega)
    by_cases h : Conn ts (treeL ts i) ts[i].1 ts[i].2
    · rw [tree_yes ht h]
      exact ⟨ih.1, fun k hk => Nat.lt_succ_of_lt (ih.2 k hk)⟩
    · rw [tree_no ht h]
      refine ⟨?_, fun k hk => ?_⟩
      · rw [List.pairwise_append]
        refine ⟨ih.1, List.pairwise_singleton _ _, fun x hx y hy => ?_⟩
        rw [List.mem_singleton.mp hy]
        exact ih.2 x hx
      · rcases List.mem_append.mp hk with z | z
        · exact Nat.lt_succ_of_lt (ih.2 k z)
        · rw [List.mem_singleton.mp z]
          exact Nat.lt_succ_self i
theorem tree_forest (ts : List Tie) : ∀ i, i ≤ ts.length → Forest ts (treeL ts i)
  | 0, _ => .nil
  | i + 1, hi => by
    have ih := tree_forest ts i (by omega)
    have hl := tree_lot ts i (by omega)
    have ht : ts[i]? = some ts[i] := List.getElem?_eq_getElem (by omega)
    by_cases h : Conn ts (treeL ts i) ts[i].1 ts[i].2
    · rw [tree_yes ht h]
      exact ih
    · rw [tree_no ht h]
      exact .snoc ih ht (fun z => Nat.lt_irrefl _ (hl.2 i z)) fun w h1 h2 => h ⟨w, h1, h2⟩
theorem tree_mono {ts : List Tie} {i : Nat} : ∀ {j}, i ≤ j → ∀ x ∈ treeL ts i, x ∈ treeL ts j
  | 0, h, x, hx => by
    obtain rfl : i = 0 := by omega
    exact hx
  | j + 1, h, x, hx => by
    by_cases e : i = j + 1
    · subst e
      exact hx
    · have ih := tree_mono (ts := ts) (i := i) (j := j) (by omega) x hx
      rw [treeL]
      split
      · split
        · exact ih
        · exact List.mem_append_left _ ih
      · exact ih
/-- a tie is taken just if its ends hang not together along those ahead -/
theorem tree_mem {ts : List Tie} {k : Nat} {t : Tie} (ht : ts[k]? = some t) : ∀ {i}, k < i → i ≤ ts.length → (k ∈ treeL ts i ↔ ¬ Conn ts (treeL ts k) t.1 t.2)
  | 0, h, _ => by omega
  | i + 1, h, hi => by
    have hl := tree_lot ts i (by omega)
    have hti : ts[i]? = some ts[i] := List.getElem?_eq_getElem (by omega)
    by_cases e : k = i
    · subst e
      rw [ht] at hti
      have hti2 := Option.some.inj hti
      by_cases hc : Conn ts (treeL ts k) t.1 t.2
      · rw [tree_yes ht hc]
        exact ⟨fun z => absurd (hl.2 k z) (Nat.lt_irrefl _), fun z => absurd hc z⟩
      · rw [tree_no ht hc]
        exact ⟨fun _ => hc, fun _ => List.mem_append_right _ (List.mem_singleton.mpr rfl)⟩
    · rw [← tree_mem ht (i := i) (by omega) (by omega)]
      by_cases hc : Conn ts (treeL ts i) ts[i].1 ts[i].2
      · rw [tree_yes hti hc]
      · rw [tree_no hti hc, List.mem_append, List.mem_singleton]
        exact ⟨fun z => z.resolve_right e, .inl⟩
theorem tree_ends {ts : List Tie} {k : Nat} {t : Tie} (ht : ts[k]? = some t) : Conn ts (treeL ts ts.length) t.1 t.2 := by
  have hk := (List.getElem?_eq_some_iff.mp ht).1
  by_cases hc : Conn ts (treeL ts k) t.1 t.2
  · exact hc.mono (tree_mono (by omega))
  · exact .step ((tree_mem ht hk (Nat.le_refl _)).mpr hc) ht (.inl ⟨rfl, rfl⟩)
theorem tree_all {n : Nat} {ts : List Tie} (hok : WebOk n ts) : ∀ p, p < n → Conn ts (treeL ts ts.length) 0 p :=
  all_found hok (F := fun p => Conn ts (treeL ts ts.length) 0 p) (.refl 0) fun t ht h => by
    obtain ⟨k, hk⟩ := List.mem_iff_getElem?.mp ht
    exact h.trans (tree_ends hk)
/-! names of the parts -/
def numL (n : Nat) (lab : Nat → Nat) : Nat := ((List.range n).filter fun x => decide (x ∈ (List.range n).map lab)).length
structure Lab (n : Nat) (ts : List Tie) (tk : List Nat) (lab : Nat → Nat) : Prop where
  lt : ∀ p, p < n → lab p < n
  conn : ∀ p q, p < n → q < n → (lab p = lab q ↔ Conn ts tk p q)
  num : numL n lab + tk.length = n
theorem mem_lab {n : Nat} {lab : Nat → Nat} {x : Nat} : x ∈ (List.range n).map lab ↔ ∃ p, p < n ∧ lab p = x := by
  rw [List.mem_map]
  exact ⟨fun ⟨p, h1, h2⟩ => ⟨p, List.mem_range.mp h1, h2⟩, fun ⟨p, h1, h2⟩ => ⟨p, List.mem_range.mpr h1, h2⟩⟩
theorem lab_start (n : Nat) (ts : List Tie) : Lab n ts [] id := by
  refine ⟨fun p hp => hp, fun p q _ _ => ⟨fun e => by rw [show p = q from e]; exact .refl q, fun ⟨w, h1, h2⟩ => ?_⟩, ?_⟩
  · cases h1 with
    | nil => rfl
    | @snoc w' r k _ _ _ _ _ => exact absurd (h2 k (List.mem_append_right _ (List.mem_singleton.mpr rfl))) (by simp)
  · unfold numL
    have e : ((List.range n).filter fun x => decide (x ∈ (List.range n).map id)) = List.range n := List.filter_eq_self.mpr fun x hx => decide_eq_true (mem_lab.mpr ⟨x, List.mem_range.mp hx, rfl⟩)
    rw [e, List.length_range]
    rfl
theorem lab_step {n : Nat} {ts : List Tie} {tk : List Nat} {lab : Nat → Nat} (hends : ∀ t ∈ ts, t.1 < t.2 ∧ t.2 < n) (h : Lab n ts tk lab) {i : Nat} {t : Tie} (ht : ts[i]? = some t) (hne : lab t.1 ≠ lab t.2) :
    Lab n ts (tk ++ [i]) (fun p => if lab p = lab t.2 then lab t.1 else lab p) := by
  have hte := hends t (List.mem_of_getElem? ht)
  have h1n : t.1 < n := by omega
  have mem_i : i ∈ tk ++ [i] := List.mem_append_right _ (List.mem_singleton.mpr rfl)
  have mono : ∀ x ∈ tk, x ∈ tk ++ [i] := fun x hx => List.mem_append_left _ hx
  refine ⟨fun p hp => ?_, fun p q hp hq => ⟨fun e => ?_, fun ⟨w, h1, h2⟩ => ?_⟩, ?_⟩
  · show (if lab p = lab t.2 then lab t.1 else lab p) < n
    split
    · exact h.lt _ h1n
    · exact h.lt p hp
  · have e' : (if lab p = lab t.2 then lab t.1 else lab p) = (if lab q = lab t.2 then lab t.1 else lab q) := e
    by_cases a : lab p = lab t.2
    · by_cases b : lab q = lab t.2
      · exact ((h.conn p q hp hq).mp (a.trans b.symm)).mono mono
      · rw [if_pos a, if_neg b] at e'
        exact (((h.conn p t.2 hp hte.2).mp a).mono mono).trans ((Conn.step mem_i ht (.inr ⟨rfl, rfl⟩)).trans (((h.conn t.1 q h1n hq).mp e').mono mono))
    · by_cases b : lab q = lab t.2
      · rw [if_neg a, if_pos b] at e'
        exact (((h.conn p t.1 hp h1n).mp e').mono mono).trans ((Conn.step mem_i ht (.inl ⟨rfl, rfl⟩)).trans (((h.conn t.2 q hte.2 hq).mp b.symm).mono mono))
      · rw [if_neg a, if_neg b] at e'
        exact ((h.conn p q hp hq).mp e').mono mono
  · have key : ∀ {w : List Nat} {q : Nat}, Way ts p w q → (∀ x ∈ w, x ∈ tk ++ [i]) → q < n ∧ (if lab p = lab t.2 then lab t.1 else lab p) = (if lab q = lab t.2 then lab t.1 else lab q) := fun {w q} hw => by
      induction hw with
      | nil => exact fun _ => ⟨hp, rfl⟩
      | @snoc w r k q u hw hu he ih =>
        intro hx
        obtain ⟨hr, e1⟩ := ih fun x hx2 => hx x (List.mem_append_left _ hx2)
        have hue := hends u (List.mem_of_getElem? hu)
        have hq : q < n := by
          rcases he with ⟨_, e2⟩ | ⟨_, e2⟩ <;> omega
        refine ⟨hq, e1.trans ?_⟩
        rcases List.mem_append.mp (hx k (List.mem_append_right _ (List.mem_singleton.mpr rfl))) with z | z
        · rw [(h.conn r q hr hq).mpr (.step z hu he)]
        · obtain rfl : k = i := List.mem_singleton.mp z
          rw [ht] at hu
          cases hu
          rcases he with ⟨rfl, rfl⟩ | ⟨rfl, rfl⟩
          · rw [if_neg hne, if_pos rfl]
          · rw [if_neg hne, if_pos rfl]
    exact (key h1 h2).2
  · have nd : ((List.range n).filter fun x => decide (x ∈ (List.range n).map lab)).Nodup := List.nodup_range.filter _
    have hb : lab t.2 ∈ (List.range n).filter fun x => decide (x ∈ (List.range n).map lab) := List.mem_filter.mpr ⟨List.mem_range.mpr (h.lt _ hte.2), decide_eq_true (mem_lab.mpr ⟨t.2, hte.2, rfl⟩)⟩
    have e : ((List.range n).filter fun x => decide (x ∈ (List.range n).map fun p => if lab p = lab t.2 then lab t.1 else lab p)) = ((List.range n).filter fun x => decide (x ∈ (List.range n).map lab)).erase (lab t.2) := by
      rw [nd.erase_eq_filter, List.filter_filter]
      refine List.filter_congr fun x _ => ?_
      rw [Bool.eq_iff_iff, Bool.and_eq_true, decide_eq_true_eq, decide_eq_true_eq, mem_lab, mem_lab, bne_iff_ne]
      constructor
      · rintro ⟨p, hp, e⟩
        by_cases a : lab p = lab t.2
        · rw [if_pos a] at e
          exact ⟨fun z => hne (e.trans z), t.1, h1n, e⟩
        · rw [if_neg a] at e
          exact ⟨fun z => a (e.trans z), p, hp, e⟩
      · rintro ⟨hx, p, hp, e⟩
        exact ⟨p, hp, by rw [if_neg (fun a => hx (e.symm.trans a)), e]⟩
    have hn := h.num
    unfold numL at hn ⊢
    rw [e, List.length_erase_of_mem hb, List.length_append, List.length_singleton]
    have := List.length_pos_of_mem hb
    omega
theorem lab_tree {n : Nat} {ts : List Tie} (hends : ∀ t ∈ ts, t.1 < t.2 ∧ t.2 < n) : ∀ i, i ≤ ts.length → ∃ lab, Lab n ts (treeL ts i) lab
  | 0, _ => ⟨id, lab_start n ts⟩
  | i + 1, hi => by
    obtain ⟨lab, h⟩ := lab_tree hends i (by omega)
    have ht : ts[i]? = some ts[i] := List.getElem?_eq_getElem (by omega)
    have hte := hends _ (List.mem_of_getElem? ht)
    by_cases hc : Conn ts (treeL ts i) ts[i].1 ts[i].2
    · rw [tree_yes ht hc]
      exact ⟨lab, h⟩
    · rw [tree_no ht hc]
      exact ⟨_, lab_step hends h ht fun e => hc ((h.conn _ _ (by omega) hte.2).mp e)⟩
theorem tree_len {n : Nat} {ts : List Tie} (hok : WebOk n ts) : (treeL ts ts.length).length + 1 = n := by
  obtain ⟨lab, h⟩ := lab_tree hok.ends ts.length (Nat.le_refl _)
  have hpos := hok.pos
  have hn := h.num
  have e : ((List.range n).filter fun x => decide (x ∈ (List.range n).map lab)) = (List.range n).filter (· == lab 0) := by
    refine List.filter_congr fun x _ => ?_
    rw [Bool.eq_iff_iff, decide_eq_true_eq, beq_iff_eq, mem_lab]
    constructor
    · rintro ⟨p, hp, e⟩
      rw [← e]
      exact ((h.conn 0 p hpos hp).mpr (tree_all hok p hp)).symm
    · exact fun e => ⟨0, hpos, e.symm⟩
  have e2 : ((List.range n).filter (· == lab 0)).length = 1 := by
    have := (List.nodup_range (n := n)).count (a := lab 0)
    rw [if_pos (List.mem_range.mpr (h.lt 0 hpos))] at this
    rw [← List.countP_eq_length_filter]
    exact this
  unfold numL at hn
  rw [e, e2] at hn
  omega
end BV

/-! sorted(xs), xs a list of tuples of whole numbers, the first of them () -/
namespace BV
open PySem PySem.W PySem.Calls PySem.SeqAt PyProof.Rows
section
variable {prog : Program} {w : World} {A : Around} {E : Value → Shared → Prop} {s : Shared}
theorem call_tuple_lt {Q : Value → Shared → Prop} {l b : Addr} {items items2 : Array Value} {e r : Nat → Bool} (hl : s.heap.IsTuple l items) (hb : s.heap.IsTuple b items2)
    (he : ∀ j (h1 : j < items.size) (h2 : j < items2.size), EqAt A.in1 s items[j] items2[j] (e j)) (hr : ∀ j (h1 : j < items.size) (h2 : j < items2.size), e j = false → RcLt A.in1 s items[j] items2[j] (r j))
    (h : Q (.bool (firstLt e r (decide (items.size < items2.size)) (List.range (min items.size items2.size)))) s) : wpAny (model prog w) A (call (.builtin "tuple.__lt__") [.ref l, .ref b]) Q E s := by
  obtain ⟨⟨cls, dd, data, sl⟩, ho, hc, n, hd⟩ := id hl
  obtain ⟨⟨cls2, dd2, data2, sl2⟩, ho2, hc2, n2, hd2⟩ := id hb
  simp only at hc hd hc2 hd2
  subst hc hd hc2 hd2
  exact call_meets F.slot_tuple_lt ⟨_, ho, rfl⟩ F.entry_tuple_lt (F.args_tuple_lt_2 _ _) (tuple_ltAt l b items items2 n n2 dd dd2 sl sl2 e r) ⟨ho, ho2, he, hr, h⟩
theorem oneLt_tup {xs ys : List PyData} {a b : Value} {as bs : List Addr} {Q : Bool → Shared → Prop} (ra : Reads s.heap a (.tuple xs) as) (rb : Reads s.heap b (.tuple ys) bs) (h : alike (.tuple xs) (.tuple ys) = true)
    (hu : A.units + min (PyData.tuple xs).depth (PyData.tuple ys).depth < cLine) (hq : Q (dataLt (.tuple xs) (.tuple ys)) s) : wpAny (model prog w) A (oneLt' true a b) Q E s := by
  have hal : alikeAll xs ys = true := by simpa [alike] using h
  cases ra with
  | @tuple l o vs n _ as₁ h1 h2 h3 h4 =>
    cases rb with
    | @tuple l' o' vs' n' _ bs₁ k1 k2 k3 k4 =>
      have n1 : vs.size = xs.length := by simpa using ReadsAll.length _ _ _ h4
      have n2 : vs'.size = ys.length := by simpa using ReadsAll.length _ _ _ k4
      rw [dataLt_tuple, ← firstLt_toks xs ys hal, ← n1, ← n2] at hq
      rw [oneLt'_eq]
      simp only [if_true]
      refine wpAny_bind (wpAny_cRoomFor (room_here hu) ?_)
      refine wpAny_bind (wpAny_callSpecialIfBound?_slot (T := "tuple") ⟨_, h1, h2⟩ F.slot_tuple_lt (call_tuple_lt (e := pairEq xs ys) (r := fun j => dataLt (xs.getD j .none) (ys.getD j .none)) ⟨_, h1, h2, _, h3⟩ ⟨_, k1, k2, _, k3⟩ (fun j j1 j2 => ?_) (fun j j1 j2 hj => ?_) ?_))
      · have := eqAt_alikeAll xs ys A.in1 s vs.toList vs'.toList _ _ h4 k4 hal (room_in hu) j (by simpa using j1) (by simpa using j2)
        simpa using this
      · have := rcLt_alikeAll xs ys A.in1 s vs.toList vs'.toList _ _ h4 k4 hal (room_in hu) j (by simpa using j1) (by simpa using j2) hj
        simpa using this
      · exact wpAny_truthy_bool hq
end
section
variable {M : Model} {A : Around} {E : Value → Shared → Prop} {s : Shared}
/-- the first items of tuples, none of () -/
theorem firsts_some : ∀ (vs : List Value) (ds : List PyData) {Q : List (Option Value) → Shared → Prop}, EachIs (fun v d => ∃ xs as, d = PyData.tuple xs ∧ Reads s.heap v d as) vs ds →
    (∀ fs : List (Option Value), fs.length = vs.length → (ds.head? = some (.tuple []) → fs[0]? = some none) → Q fs s) → wpAny M A (vs.mapM firstOfTuple') Q E s
  | _, _, _, .nil, h => by
    rw [List.mapM_nil]
    exact wpAny_pure (h [] rfl fun z => by cases z)
  | v :: vs, d :: ds, Q, .cons ⟨xs, as, e, r⟩ t, h => by
    subst e
    cases r with
    | @tuple a o ws n _ _ ho hc hd hr =>
      rw [List.mapM_cons]
      refine wpAny_bind ?_
      rw [kas_first_eq]
      refine wpAny_bind (Looks.here (show Looks M s.heap (typeOf (.ref a)) o.cls from (Looks.ld ho).andThen .now) ?_)
      rw [hc, if_neg (by first | decide | simp)]
      refine wpAny_bind (listItems_at ho hd (wpAny_pure ?_))
      refine wpAny_bind (firsts_some vs ds (Q := fun bs s' => wpAny M A (pure (ws[0]? :: bs)) Q E s') t fun fs hl _ => wpAny_pure (h _ (by rw [List.length_cons, List.length_cons, hl]) fun z => ?_))
      have e : xs = [] := by
        have := Option.some.inj z
        injection this
      subst e
      have hz : ws.toList = [] := by
        cases q : ws.toList with
        | nil => rfl
        | cons _ _ =>
          rw [q] at hr
          cases hr
      have : ws[0]? = none := by
        rw [← Array.getElem?_toList, hz]
        rfl
      rw [this]
      rfl
theorem kind_unit {vs : List Value} {ds : List PyData} {Q : SortKind → Shared → Prop} (h2 : 2 ≤ vs.length) (t : EachIs (fun v d => ∃ xs as, d = PyData.tuple xs ∧ Reads s.heap v d as) vs ds) (h0 : ds.head? = some (.tuple [])) (h : Q oneType' s) :
    wpAny M A (keyKind' vs.toArray) Q E s := by
  rw [keyKind'_eq, List.mapM_toArray, map_eq_pure_bind]
  refine wpAny_bind (wpAny_bind (firsts_some vs ds t fun fs hl hf => wpAny_pure ?_))
  have hf0 := hf h0
  obtain ⟨rest, rfl⟩ : ∃ rest, fs = none :: rest := by
    cases fs with
    | nil => cases hf0
    | cons f rest =>
      have : f = none := Option.some.inj hf0
      exact ⟨rest, by rw [this]⟩
  rw [if_neg (by simp), if_neg (by simp)]
  rw [oneTypeOnly'_eq, List.mapM_toArray, map_eq_pure_bind]
  refine wpAny_bind (wpAny_bind (wpAny_bind (kas_mapM (r := Value.type "tuple") _ (fun v hv Q' hq => ?_) (wpAny_pure ?_))))
  · obtain ⟨d, hd, xs, as, rfl, r⟩ := t.left v hv
    exact (looks_reads r).here hq
  · obtain ⟨v₁, rest, rfl⟩ : ∃ v₁ rest, vs = v₁ :: rest := by
      cases vs with
      | nil => simp at h2
      | cons v₁ rest => exact ⟨v₁, rest, rfl⟩
    have hall : ((List.map (fun _ => Value.type "tuple") (v₁ :: rest)).toArray.all fun x => x == Value.type "tuple") = true := by
      simp only [List.all_toArray, List.all_map, List.all_eq_true]
      intro _ _
      rfl
    have h0 : (List.map (fun _ => Value.type "tuple") (v₁ :: rest)).toArray[0]? = some (Value.type "tuple") := by simp
    rw [h0]
    simp only [hall, if_true]
    exact wpAny_pure (wpAny_pure h)
end
section
variable {prog : Program} {w : World} {A : Around} {E : Value → Shared → Prop} {s : Shared}
theorem sortsAt_unit {vs : List Value} {ds : List PyData} (e : EachIs (fun v d => ∃ as, Reads s.heap v d as) vs ds) (hal : AllAlike ds) (ht : ∀ d ∈ ds, ∃ xs, d = PyData.tuple xs) (h0 : ds.head? = some (.tuple [])) (hu : ∀ d, d ∈ ds → A.units + d.depth < cLine) : SortsAt prog w A s (dataKind s.heap ds) vs := by
  refine ⟨fun v hv => ?_, oneType', ?_, fun h2 E Q hq => ?_⟩
  · obtain ⟨d, hd, as, r⟩ := e.left v hv
    exact ⟨_, dataKind_some hal hd r⟩
  · intro E x y a b Q ha hb hq
    obtain ⟨d, as, hd, ra, rfl⟩ := dataKind_inv ha
    obtain ⟨d', as', hd', rb, rfl⟩ := dataKind_inv hb
    obtain ⟨xs, rfl⟩ := ht d hd
    obtain ⟨ys, rfl⟩ := ht d' hd'
    rw [keyLt'_oneType]
    exact oneLt_tup ra rb (hal _ hd _ hd') (Nat.lt_of_le_of_lt (Nat.add_le_add_left (Nat.min_le_left _ _) _) (hu _ hd)) hq
  · exact kind_unit h2 ((each_mem e).mono fun v d ⟨⟨as, r⟩, hd⟩ => by
      obtain ⟨xs, rfl⟩ := ht d hd
      exact ⟨xs, as, rfl, r⟩) h0 hq
theorem sorted_unit {β : Type} {vs : List Value} {bs : List β} {enc : β → PyData} {R : Value → β → Prop} {l : Addr} {Q : Value → Shared → Prop} (hl : s.heap.IsList l vs.toArray) (e : EachIs R vs bs) (er : EachIs (fun v b => ∃ as, Reads s.heap v (enc b) as) vs bs) (hal : AllAlike (bs.map enc))
    (ht : ∀ b : β, ∃ xs, enc b = PyData.tuple xs) (h0 : (bs.map enc).head? = some (.tuple [])) (hL : bs.length ≤ sizeLine)
    (hu : ∀ b, b ∈ bs → A.units + 2 + (enc b).depth < cLine) (h : ∀ out, out.length = bs.length → EachIs R out (bs.mergeSort (dataLe false enc)) → Q (.ref (s.heap.objs.size + 1)) { s with heap := sortedAll s.heap vs (List.toArray out) }) :
    wpAny (model prog w) A (call (.builtin "sorted") [.ref l]) Q E s := by
  have er' : EachIs (fun v b => ∃ as, Reads (sortingHeap (copyHeap s.heap vs) (s.heap.objs.size + 1) vs) v (enc b) as) vs bs := er.mono fun _ _ ⟨as, r⟩ => ⟨as, PyProof.Rows.Reads.keeps (fun _ _ => sorting_copy_old) r⟩
  refine sorted_vals hl (sortsAt_unit (s := { s with heap := sortingHeap (copyHeap s.heap vs) (s.heap.objs.size + 1) vs }) (each_map (R := fun v d => ∃ as, Reads (sortingHeap (copyHeap s.heap vs) (s.heap.objs.size + 1) vs) v d as) enc er') hal (fun d hd => ?_) h0 (bound_map hu)) (by rw [e.length]; exact hL)
    (h _ (by rw [sortVals_length false rfl]; exact e.length) (sortVals_data false e er' hal))
  obtain ⟨b, _, rfl⟩ := List.mem_map.mp hd
  exact ht b
end
end BV

namespace BV
open PySem L2 PySem.W PySem.SeqAt PyProof.Rows
theorem each_dp {K : PySem.W.Frag} {H : Hp} : ∀ {lots : List (List Nat)} {xs : List V} {us : List Value}, Vals xs us → DpAll K H xs (lots.map lotD) → EachIs (fun v b => ∃ x : V, RelV x v ∧ Dp K H x (lotD b)) us lots
  | [], _, _, r, h => by
    have h' : DpAll K H _ [] := h
    cases h'
    cases r
    exact .nil
  | l :: lots, _, _, r, h => by
    have h' : DpAll K H _ (lotD l :: lots.map lotD) := h
    cases h' with
    | cons d ds =>
      cases r with
      | cons r1 rs => exact .cons ⟨_, r1, d⟩ (each_dp rs ds)
theorem dp_each {K : PySem.W.Frag} {H : Hp} : ∀ {lots : List (List Nat)} {us : List Value}, EachIs (fun v b => ∃ x : V, RelV x v ∧ Dp K H x (lotD b)) us lots → ∃ ys, Vals ys us ∧ DpAll K H ys (lots.map lotD)
  | _, _, .nil => ⟨[], .nil, .nil⟩
  | _, _, .cons ⟨x, r, d⟩ t => by
    obtain ⟨ys, h1, h2⟩ := dp_each t
    exact ⟨x :: ys, .cons r h1, .cons d h2⟩
theorem lotD_ints (ks : List Nat) : lotD ks = .tuple ((ks.map fun (k : Nat) => (k : Int)).map PyData.int) := by
  unfold lotD
  rw [List.map_map]
  rfl
theorem lotD_depth (ks : List Nat) : (lotD ks).depth ≤ 1 := by
  rw [lotD_ints]
  have := depth_ints (ks.map fun (k : Nat) => (k : Int))
  simp only [PyData.depth]
  omega
theorem lotD_alike (k m : List Nat) : alike (lotD k) (lotD m) = true := by
  rw [lotD_ints, lotD_ints]
  simp only [alike]
  exact alike_ints _ _
abbrev leL : List Nat → List Nat → Bool := dataLe false lotD
def rSortLots (K : PySem.W.Frag) : List V → Hp → VK → Prop := fun vs H Q => ∃ (a : Addr) (xs : List V) (lots : List (List Nat)), vs = [V.ref a] ∧ SqL K H a xs ∧ DpAll K H xs (lots.map lotD) ∧ lots.head? = some [] ∧
  ∀ (p : Addr) (ys : List V), H p = none → DpAll K H ys ((lots.mergeSort leL).map lotD) → Q (.ref p) (upd H p (.lst ys))
theorem cr_sortLots {X : Cx} (K : PySem.W.Frag) (hu : X.A.units + 64 < cLine) (h : X.K = K := by rfl) : CallR X (.builtin "sorted") (rSortLots K) := by
  subst h
  intro pins s σ H vs us Q I r h
  obtain ⟨a, xs, lots, rfl, hs, hd, h0, q⟩ := h
  obtain ⟨its, rv, hl, hz⟩ := I.list hs
  rw [Vals.ref1 r]
  have e := each_dp rv hd
  have er : EachIs (fun v b => ∃ as, Reads s.heap v (lotD b) as) its lots := e.mono fun v b ⟨x, r, d⟩ => Dp.reads I _ x v d r
  refine sorted_unit hl.isList e er (AllAlike.of lotD_alike) (fun b => ⟨_, rfl⟩) ?_ (by rw [← e.length, ← rv.length]; exact hz) (fun b _ => by have := lotD_depth b; omega) fun out ho eo => ?_
  · rw [List.head?_map, h0]
    rfl
  · obtain ⟨ys, hv, hD⟩ := dp_each eo
    obtain ⟨ep, he'⟩ := PyProof.Rows.sortedAll_at s.heap its (List.toArray out)
    have hlen : ys.length ≤ sizeLine := by
      rw [hv.length, ho, ← e.length, ← rv.length]
      exact hz
    exact ⟨.ref _, upd H (s.heap.objs.size + 1) (.lst ys), I.laid (t' := s.toks) (fun _ _ => PyProof.Rows.sortedAll_old) (Nat.le_succ _) ⟨hlen, out, ep, hv, he'⟩, rfl, q _ ys (I.hok.fresh (Nat.le_succ _)) hD⟩
theorem leL_eq (p q : List Nat) : leL p q = decide ((p.map fun (k : Nat) => (k : Int)) ≤ q.map fun (k : Nat) => (k : Int)) := by
  show (!dataLt (lotD q) (lotD p)) = _
  rw [lotD_ints, lotD_ints, dataLt_tuple]
  show (!rowLt ((q.map fun (k : Nat) => (k : Int)).map .int) ((p.map fun (k : Nat) => (k : Int)).map .int)) = _
  rw [dataLt_ints]
  by_cases h : (q.map fun (k : Nat) => (k : Int)) < p.map fun (k : Nat) => (k : Int)
  · have h' : ¬ (p.map fun (k : Nat) => (k : Int)) ≤ q.map fun (k : Nat) => (k : Int) := fun r => List.not_lt.mpr r h
    simp [h, h']
  · have h' : (p.map fun (k : Nat) => (k : Int)) ≤ q.map fun (k : Nat) => (k : Int) := List.not_lt.mp h
    simp [h, h']
theorem cast_inj : ∀ {p q : List Nat}, (p.map fun (k : Nat) => (k : Int)) = (q.map fun (k : Nat) => (k : Int)) → p = q
  | [], [], _ => rfl
  | [], _ :: _, h => by cases h
  | _ :: _, [], h => by cases h
  | a :: p, b :: q, h => by
    have h1 := List.cons.inj h
    rw [cast_inj h1.2, Int.ofNat.inj h1.1]
theorem sort_lots {l m : List (List Nat)} (h : l.Perm m) : l.mergeSort leL = m.mergeSort leL := by
  have tr : ∀ a b c : List Nat, leL a b = true → leL b c = true → leL a c = true := fun a b c h1 h2 => by
    rw [leL_eq, decide_eq_true_eq] at h1 h2 ⊢
    exact List.le_trans h1 h2
  have to : ∀ a b : List Nat, (leL a b || leL b a) = true := fun a b => by
    rw [leL_eq, leL_eq, Bool.or_eq_true, decide_eq_true_eq, decide_eq_true_eq]
    exact List.le_total _ _
  refine ((List.mergeSort_perm l leL).trans (h.trans (List.mergeSort_perm m leL).symm)).eq_of_pairwise (le := fun a b => leL a b = true) (fun a b _ _ h1 h2 => ?_) (List.pairwise_mergeSort tr to l) (List.pairwise_mergeSort tr to m)
  rw [leL_eq, decide_eq_true_eq] at h1 h2
  exact cast_inj (List.le_antisymm h1 h2)
end BV

namespace BV
open PySem L2
/-! lots by numbers -/
def lotN (L z : Nat) : List Nat := (List.range L).filter fun k => decide (z / 2 ^ (L - 1 - k) % 2 = 1)
theorem lotN_lot (L z : Nat) : LotA L (lotN L z) := ⟨List.pairwise_lt_range.filter _, fun k hk => List.mem_range.mp (List.mem_filter.mp hk).1⟩
theorem mem_lotN {L z k : Nat} : k ∈ lotN L z ↔ k < L ∧ z / 2 ^ (L - 1 - k) % 2 = 1 := by
  unfold lotN
  rw [List.mem_filter, List.mem_range, decide_eq_true_eq]
theorem bits_inj : ∀ (L : Nat) {y z : Nat}, y < 2 ^ L → z < 2 ^ L → (∀ i, i < L → (y / 2 ^ i % 2 = 1 ↔ z / 2 ^ i % 2 = 1)) → y = z
  | 0, y, z, hy, hz, _ => by
    rw [Nat.pow_zero] at hy hz
    omega
  | L + 1, y, z, hy, hz, h => by
    have e := bits_inj L (y := y / 2) (z := z / 2) (by rw [Nat.pow_succ] at hy; omega) (by rw [Nat.pow_succ] at hz; omega) fun i hi => by
      have := h (i + 1) (by omega)
      rw [Nat.pow_succ, Nat.mul_comm, ← Nat.div_div_eq_div_mul, ← Nat.div_div_eq_div_mul] at this
      exact this
    have h0 := h 0 (by omega)
    rw [Nat.pow_zero, Nat.div_one, Nat.div_one] at h0
    omega
theorem bits_ex (f : Nat → Bool) : ∀ L : Nat, ∃ z, z < 2 ^ L ∧ ∀ i, i < L → (z / 2 ^ i % 2 = 1 ↔ f i = true)
  | 0 => ⟨0, by rw [Nat.pow_zero]; omega, fun i hi => absurd hi (Nat.not_lt_zero i)⟩
  | L + 1 => by
    obtain ⟨z, h1, h2⟩ := bits_ex f L
    by_cases hf : f L = true
    · refine ⟨z + 2 ^ L, by rw [Nat.pow_succ]; omega, fun i hi => ?_⟩
      by_cases e : i = L
      · rw [e, hf, Nat.add_div_right _ (Nat.pow_pos (by decide)), Nat.div_eq_of_lt h1]
        exact ⟨fun _ => rfl, fun _ => rfl⟩
      · rw [← h2 i (by omega)]
        have e2 : 2 ^ L = 2 ^ i * (2 * 2 ^ (L - i - 1)) := by
          rw [← Nat.pow_succ', ← Nat.pow_add]
          congr 1
          omega
        rw [e2, Nat.add_mul_div_left _ _ (Nat.pow_pos (by decide))]
        generalize z / 2 ^ i = a
        generalize 2 ^ (L - i - 1) = b
        constructor <;> intro h <;> omega
    · refine ⟨z, by rw [Nat.pow_succ]; omega, fun i hi => ?_⟩
      by_cases e : i = L
      · rw [e, Nat.div_eq_of_lt h1]
        exact ⟨fun q => (by cases q), fun q => absurd q hf⟩
      · exact h2 i (by omega)
theorem lotN_inj {L y z : Nat} (hy : y < 2 ^ L) (hz : z < 2 ^ L) (h : lotN L y = lotN L z) : y = z := by
  refine bits_inj L hy hz fun i hi => ?_
  have h1 : L - 1 - i ∈ lotN L y ↔ L - 1 - i ∈ lotN L z := by rw [h]
  rw [mem_lotN, mem_lotN, show L - 1 - (L - 1 - i) = i by omega] at h1
  have h2 : L - 1 - i < L := by omega
  exact ⟨fun q => (h1.mp ⟨h2, q⟩).2, fun q => (h1.mpr ⟨h2, q⟩).2⟩
theorem lotN_all {L : Nat} {E : List Nat} (hE : LotA L E) : ∃ z, z < 2 ^ L ∧ lotN L z = E := by
  obtain ⟨z, h1, h2⟩ := bits_ex (fun i => decide (L - 1 - i ∈ E)) L
  refine ⟨z, h1, lot_ext (lotN_lot L z) hE fun k hk => ?_⟩
  rw [mem_lotN, h2 (L - 1 - k) (by omega), decide_eq_true_eq, show L - 1 - (L - 1 - k) = k by omega]
  exact ⟨fun q => q.2, fun q => ⟨hk, q⟩⟩
open Classical in
noncomputable def evensL (n : Nat) (ts : List Tie) (i : Nat) : List (List Nat) := ((List.range i).map (lotN ts.length)).filter fun E => decide (EvenE n ts E)
open Classical in
theorem evens_nd (n : Nat) (ts : List Tie) : (evensL n ts (2 ^ ts.length)).Nodup := by
  unfold evensL
  refine List.Pairwise.filter _ ?_
  refine List.pairwise_map.mpr (List.nodup_range.imp_of_mem fun {x y} hx hy hxy e => hxy (lotN_inj (List.mem_range.mp hx) (List.mem_range.mp hy) e))
open Classical in
theorem mem_evens {n : Nat} {ts : List Tie} {E : List Nat} : E ∈ evensL n ts (2 ^ ts.length) ↔ LotA ts.length E ∧ EvenE n ts E := by
  unfold evensL
  rw [List.mem_filter, decide_eq_true_eq, List.mem_map]
  constructor
  · rintro ⟨⟨z, _, rfl⟩, h⟩
    exact ⟨lotN_lot _ _, h⟩
  · rintro ⟨h1, h2⟩
    obtain ⟨z, hz, rfl⟩ := lotN_all h1
    exact ⟨⟨z, List.mem_range.mpr hz, rfl⟩, h2⟩
theorem sums_len (L : Nat) (R : Nat → List Nat) : ∀ cs : List Nat, (sumsOf L R cs).length = 2 ^ cs.length
  | [] => rfl
  | c :: cs => by
    show (sumsOf L R cs ++ (sumsOf L R cs).map _).length = _
    rw [List.length_append, List.length_map, sums_len L R cs, List.length_cons, Nat.pow_succ]
    omega
theorem sums_head (L : Nat) (R : Nat → List Nat) : ∀ cs : List Nat, (sumsOf L R cs).head? = some []
  | [] => rfl
  | c :: cs => by
    show (sumsOf L R cs ++ (sumsOf L R cs).map _).head? = _
    rw [List.head?_append, sums_head L R cs]
    rfl
open Classical in
theorem evens_head (n : Nat) (ts : List Tie) : ∀ i, (evensL n ts (i + 1)).head? = some [] := fun i => by
  have e : lotN ts.length 0 = [] := List.filter_eq_nil_iff.mpr fun k _ => by simp
  have ev : EvenE n ts [] := fun _ _ => rfl
  unfold evensL
  rw [List.range_succ_eq_map, List.map_cons, e, List.filter_cons, if_pos (decide_eq_true ev)]
  rfl
/-! lists of lots as data -/
theorem alike_lots : ∀ ls : List (List Nat), PySem.W.alikeAll (ls.map lotD) (ls.map lotD) = true
  | [] => by simp [PySem.W.alikeAll]
  | l :: ls => by
    have h := alike_lots ls
    have h2 := lotD_alike l l
    show PySem.W.alikeAll (lotD l :: ls.map lotD) (lotD l :: ls.map lotD) = true
    rw [PySem.W.alikeAll, h, h2]
    rfl
theorem eqv_lotsL (ls : List (List Nat)) : PyData.eqv (.list (ls.map lotD)) (.list (ls.map lotD)) = true :=
  PySem.W.eqv_refl_alike _ (by
    simp only [PySem.W.alike]
    exact alike_lots ls)
theorem lay_lots : ∀ ls : List (List Nat), PyData.canLayAll0 (ls.map lotD) = true
  | [] => by simp [PyData.canLayAll0]
  | l :: ls => by
    have h := lay_lots ls
    have h1 := lay_ints (l.map fun (k : Nat) => (k : Int))
    show PyData.canLayAll0 (lotD l :: ls.map lotD) = true
    rw [lotD_ints]
    rw [List.map_map] at h1
    simp [PyData.canLayAll0, PyData.canLay0, h, h1]
theorem deep_lots : ∀ ls : List (List Nat), PyData.depthAll (ls.map lotD) ≤ 1
  | [] => by simp [PyData.depthAll]
  | l :: ls => by
    have h := deep_lots ls
    have h1 := lotD_depth l
    show PyData.depthAll (lotD l :: ls.map lotD) ≤ 1
    rw [PyData.depthAll]
    omega
theorem shaped_lotsL (ls : List (List Nat)) : SeqAt.shaped (.list (ls.map lotD)) = true := by
  have h1 := lay_lots ls
  have h2 := deep_lots ls
  have h3 : PyData.depthAll (ls.map lotD) + 1 ≤ 64 := by omega
  simp [SeqAt.shaped, PyData.canLay0, PyData.depth, h1, h3]
end BV

namespace BV
open PySem L2
/-! deeds told together -/
def Deed.starAt (p : Nat) : Deed → Int
  | .star q t => if q = p then t else 0
  | .round _ _ => 0
def Deed.roundAt (E : List Nat) : Deed → Int
  | .star _ _ => 0
  | .round ks t => if ks = E then t else 0
def sT (ds : List Deed) (p : Nat) : Int := (ds.map (Deed.starAt p)).sum
def rT (ds : List Deed) (E : List Nat) : Int := (ds.map (Deed.roundAt E)).sum
def nz (z : Int) : Bool := decide (z ≠ 0)
def togS (n : Nat) (ds : List Deed) : List Deed := ((List.range n).filter fun p => nz (sT ds p)).map fun p => .star p (sT ds p)
def togR (ev : List (List Nat)) (ds : List Deed) : List Deed := (ev.filter fun E => nz (rT ds E)).map fun E => .round E (rT ds E)
def tog (n : Nat) (ev : List (List Nat)) (ds : List Deed) : List Deed := togS n ds ++ togR ev ds
theorem sum_app (a b : List Int) : (a ++ b).sum = a.sum + b.sum := List.sum_append
theorem sum_perm {a b : List Int} (h : a.Perm b) : a.sum = b.sum := by
  induction h with
  | nil => rfl
  | cons x _ ih => simp only [List.sum_cons, ih]
  | swap x y l => simp only [List.sum_cons]; omega
  | trans _ _ ih1 ih2 => rw [ih1, ih2]
theorem sT_app (a b : List Deed) (p : Nat) : sT (a ++ b) p = sT a p + sT b p := by
  unfold sT
  rw [List.map_append, sum_app]
theorem rT_app (a b : List Deed) (E : List Nat) : rT (a ++ b) E = rT a E + rT b E := by
  unfold rT
  rw [List.map_append, sum_app]
theorem sT_perm {a b : List Deed} (h : a.Perm b) (p : Nat) : sT a p = sT b p := sum_perm (h.map _)
theorem rT_perm {a b : List Deed} (h : a.Perm b) (E : List Nat) : rT a E = rT b E := sum_perm (h.map _)
theorem tog_congr {n : Nat} {ev : List (List Nat)} {a b : List Deed} (h1 : ∀ p, sT a p = sT b p) (h2 : ∀ E, rT a E = rT b E) : tog n ev a = tog n ev b := by
  unfold tog togS togR
  rw [funext h1, funext h2]
theorem tog_perm {n : Nat} {ev : List (List Nat)} {a b : List Deed} (h : a.Perm b) : tog n ev a = tog n ev b := tog_congr (sT_perm h) (rT_perm h)
theorem sT_neg : ∀ (ds : List Deed) (p : Nat), sT (ds.map Deed.neg) p = -(sT ds p)
  | [], _ => rfl
  | d :: ds, p => by
    have h := sT_neg ds p
    unfold sT at h ⊢
    simp only [List.map_cons, List.sum_cons, h]
    cases d with
    | star q t =>
      show (if q = p then -t else 0) + _ = -((if q = p then t else 0) + _)
      split <;> omega
    | round ks t =>
      show (0 : Int) + _ = -(0 + _)
      omega
theorem rT_neg : ∀ (ds : List Deed) (E : List Nat), rT (ds.map Deed.neg) E = -(rT ds E)
  | [], _ => rfl
  | d :: ds, E => by
    have h := rT_neg ds E
    unfold rT at h ⊢
    simp only [List.map_cons, List.sum_cons, h]
    cases d with
    | star q t =>
      show (0 : Int) + _ = -(0 + _)
      omega
    | round ks t =>
      show (if ks = E then -t else 0) + _ = -((if ks = E then t else 0) + _)
      split <;> omega
theorem sT_undo (ds : List Deed) (p : Nat) : sT (ds ++ ds.reverse.map Deed.neg) p = 0 := by
  rw [sT_app, sT_neg, sT_perm ds.reverse_perm]
  omega
theorem rT_undo (ds : List Deed) (E : List Nat) : rT (ds ++ ds.reverse.map Deed.neg) E = 0 := by
  rw [rT_app, rT_neg, rT_perm ds.reverse_perm]
  omega
theorem tog_undo (n : Nat) (ev : List (List Nat)) (ds : List Deed) : tog n ev (ds ++ ds.reverse.map Deed.neg) = [] := by
  unfold tog togS togR
  have h1 : (List.range n).filter (fun p => nz (sT (ds ++ ds.reverse.map Deed.neg) p)) = [] := List.filter_eq_nil_iff.mpr fun p _ => by rw [sT_undo]; decide
  have h2 : ev.filter (fun E => nz (rT (ds ++ ds.reverse.map Deed.neg) E)) = [] := List.filter_eq_nil_iff.mpr fun p _ => by rw [rT_undo]; decide
  rw [h1, h2]
  rfl
def Deed.dbl : Deed → Deed
  | .star p t => .star p (2 * t)
  | .round ks t => .round ks (2 * t)
theorem tog_twice (n : Nat) (ev : List (List Nat)) (ds : List Deed) : tog n ev (ds ++ ds) = (tog n ev ds).map Deed.dbl := by
  have e1 : ∀ p, sT (ds ++ ds) p = 2 * sT ds p := fun p => by rw [sT_app]; omega
  have e2 : ∀ E, rT (ds ++ ds) E = 2 * rT ds E := fun E => by rw [rT_app]; omega
  have n2 : ∀ z : Int, nz (2 * z) = nz z := fun z => by
    unfold nz
    by_cases h : z = 0
    · subst h
      rfl
    · rw [decide_eq_true h, decide_eq_true (show 2 * z ≠ 0 by omega)]
  unfold tog togS togR
  rw [List.map_append, List.map_map, List.map_map, funext e1, funext e2]
  simp only [n2]
  rfl
/-- the numbers of some, each by itself -/
theorem sum_one {α : Type} [DecidableEq α] (c : α → Bool) (p : α) (t : Int) : ∀ l : List α, l.Nodup → (l.map fun q => if c q = true then (if q = p then t else 0) else 0).sum = if p ∈ l ∧ c p = true then t else 0
  | [], _ => by simp
  | q :: l, h => by
    have hn := List.nodup_cons.mp h
    have ih := sum_one c p t l hn.2
    rw [List.map_cons, List.sum_cons, ih]
    by_cases e : q = p
    · subst e
      have z : ¬ (q ∈ l ∧ c q = true) := fun y => hn.1 y.1
      rw [if_neg z, if_pos rfl]
      by_cases hc : c q = true
      · rw [if_pos hc, if_pos ⟨List.mem_cons_self .., hc⟩]
        omega
      · rw [if_neg hc, if_neg fun y => hc y.2]
        omega
    · have e2 : p ∈ q :: l ↔ p ∈ l := by
        rw [List.mem_cons]
        exact ⟨fun y => y.elim (fun z => absurd z.symm e) id, .inr⟩
      rw [if_neg e]
      simp only [e2, ite_self]
      omega
theorem sum_nz {α : Type} (f : α → Int) (g : α → Int) (h : ∀ x, f x = 0 → g x = 0) : ∀ l : List α, ((l.filter fun x => nz (f x)).map g).sum = (l.map g).sum
  | [] => rfl
  | x :: l => by
    have ih := sum_nz f g h l
    rw [List.filter_cons]
    by_cases e : f x = 0
    · rw [if_neg (by unfold nz; simp [e]), ih, List.map_cons, List.sum_cons, h x e]
      omega
    · rw [if_pos (by unfold nz; simp [e]), List.map_cons, List.map_cons, List.sum_cons, List.sum_cons, ih]
theorem sum_pt {α : Type} [DecidableEq α] (f : α → Int) (p : α) : ∀ l : List α, l.Nodup → (l.map fun q => if q = p then f q else 0).sum = if p ∈ l then f p else 0
  | [], _ => by simp
  | q :: l, h => by
    have hn := List.nodup_cons.mp h
    have ih := sum_pt f p l hn.2
    rw [List.map_cons, List.sum_cons, ih]
    by_cases e : q = p
    · subst e
      rw [if_neg hn.1, if_pos rfl, if_pos (List.mem_cons_self ..)]
      omega
    · have e2 : p ∈ q :: l ↔ p ∈ l := by
        rw [List.mem_cons]
        exact ⟨fun y => y.elim (fun z => absurd z.symm e) id, .inr⟩
      rw [if_neg e]
      simp only [e2]
      omega
theorem sum_zero {α : Type} {f : α → Int} (l : List α) (h : ∀ x ∈ l, f x = 0) : (l.map f).sum = 0 := by
  induction l with
  | nil => rfl
  | cons x l ih => rw [List.map_cons, List.sum_cons, h x (List.mem_cons_self ..), ih fun y hy => h y (List.mem_cons_of_mem _ hy)]; rfl
theorem sT_tog {n : Nat} {ev : List (List Nat)} {ds : List Deed} {p : Nat} (hp : p < n) : sT (tog n ev ds) p = sT ds p := by
  unfold tog
  rw [sT_app]
  have h1 : sT (togS n ds) p = sT ds p := by
    have e1 : sT (togS n ds) p = (((List.range n).filter fun q => nz (sT ds q)).map fun q => if q = p then sT ds q else 0).sum := by
      conv => lhs; unfold sT
      unfold togS
      rw [List.map_map]
      rfl
    rw [e1, sum_nz (sT ds) _ (fun x hx => by rw [hx, ite_self]), sum_pt (sT ds) p _ List.nodup_range, if_pos (List.mem_range.mpr hp)]
  have h2 : sT (togR ev ds) p = 0 := by
    unfold sT togR
    rw [List.map_map]
    exact sum_zero _ fun _ _ => rfl
  rw [h1, h2]
  omega
theorem rT_tog {n : Nat} {ev : List (List Nat)} {ds : List Deed} {E : List Nat} (hv : ev.Nodup) (hE : E ∈ ev) : rT (tog n ev ds) E = rT ds E := by
  unfold tog
  rw [rT_app]
  have h1 : rT (togR ev ds) E = rT ds E := by
    have e1 : rT (togR ev ds) E = ((ev.filter fun q => nz (rT ds q)).map fun q => if q = E then rT ds q else 0).sum := by
      conv => lhs; unfold rT
      unfold togR
      rw [List.map_map]
      rfl
    rw [e1, sum_nz (rT ds) _ (fun x hx => by rw [hx, ite_self]), sum_pt (rT ds) E _ hv, if_pos hE]
  have h2 : rT (togS n ds) E = 0 := by
    unfold rT togS
    rw [List.map_map]
    exact sum_zero _ fun _ _ => rfl
  rw [h1, h2]
  omega
theorem tog_tog {n : Nat} {ev : List (List Nat)} {ds : List Deed} (hv : ev.Nodup) : tog n ev (tog n ev ds) = tog n ev ds := by
  have h1 : togS n (tog n ev ds) = togS n ds := by
    unfold togS
    rw [List.filter_congr (q := fun p => nz (sT ds p)) fun p hp => by rw [sT_tog (List.mem_range.mp hp)]]
    exact List.map_congr_left fun p hp => by rw [sT_tog (List.mem_range.mp (List.mem_filter.mp hp).1)]
  have h2 : togR ev (tog n ev ds) = togR ev ds := by
    unfold togR
    rw [List.filter_congr (q := fun p => nz (rT ds p)) fun p hp => by rw [rT_tog hv hp]]
    exact List.map_congr_left fun p hp => by rw [rT_tog hv (List.mem_filter.mp hp).1]
  show togS n (tog n ev ds) ++ togR ev (tog n ev ds) = _
  rw [h1, h2]
  rfl
/-- all its places and rounds are known -/
def Deed.In (n : Nat) (ev : List (List Nat)) : Deed → Prop
  | .star p _ => p < n
  | .round ks _ => ks ∈ ev
theorem tog_in {n : Nat} {ev : List (List Nat)} {ds : List Deed} {d : Deed} (h : d ∈ tog n ev ds) : d.In n ev := by
  rcases List.mem_append.mp h with q | q
  · obtain ⟨p, hp, rfl⟩ := List.mem_map.mp q
    exact List.mem_range.mp (List.mem_filter.mp hp).1
  · obtain ⟨E, hE, rfl⟩ := List.mem_map.mp q
    exact (List.mem_filter.mp hE).1
theorem sum_split {α : Type} (f g : α → Int) : ∀ l : List α, (l.map fun x => f x + g x).sum = (l.map f).sum + (l.map g).sum
  | [] => rfl
  | x :: l => by
    rw [List.map_cons, List.map_cons, List.map_cons, List.sum_cons, List.sum_cons, List.sum_cons, sum_split f g l]
    omega
def allE (ts : List Tie) (n : Nat) (ev : List (List Nat)) (ds : List Deed) (k : Nat) : Int :=
  ((List.range n).map fun p => if hit ts p k = true then sT ds p else 0).sum + (ev.map fun E => if decide (k ∈ E) = true then rT ds E else 0).sum
theorem allE_eq {ts : List Tie} {n : Nat} {ev : List (List Nat)} (hv : ev.Nodup) (k : Nat) : ∀ ds : List Deed, (∀ d ∈ ds, d.In n ev) → allE ts n ev ds k = effect ts ds k
  | [], _ => by
    unfold allE
    rw [sum_zero _ (fun p _ => by show (if _ then (0 : Int) else 0) = 0; rw [ite_self]), sum_zero _ (fun p _ => by show (if _ then (0 : Int) else 0) = 0; rw [ite_self])]
    rfl
  | d :: ds, h => by
    have ih := allE_eq (ts := ts) hv k ds fun x hx => h x (List.mem_cons_of_mem _ hx)
    have hd := h d (List.mem_cons_self ..)
    have e1 : ∀ p, sT (d :: ds) p = d.starAt p + sT ds p := fun p => by unfold sT; rw [List.map_cons, List.sum_cons]
    have e2 : ∀ E, rT (d :: ds) E = d.roundAt E + rT ds E := fun E => by unfold rT; rw [List.map_cons, List.sum_cons]
    have s1 : ((List.range n).map fun p => if hit ts p k = true then sT (d :: ds) p else 0).sum =
        ((List.range n).map fun p => if hit ts p k = true then d.starAt p else 0).sum + ((List.range n).map fun p => if hit ts p k = true then sT ds p else 0).sum := by
      rw [← sum_split]
      congr 1
      exact List.map_congr_left fun p _ => by rw [e1]; split <;> omega
    have s2 : (ev.map fun E => if decide (k ∈ E) = true then rT (d :: ds) E else 0).sum =
        (ev.map fun E => if decide (k ∈ E) = true then d.roundAt E else 0).sum + (ev.map fun E => if decide (k ∈ E) = true then rT ds E else 0).sum := by
      rw [← sum_split]
      congr 1
      exact List.map_congr_left fun p _ => by rw [e2]; split <;> omega
    have e3 : effect ts (d :: ds) k = d.part ts k + effect ts ds k := by simp only [effect, List.map_cons, List.sum_cons]
    have e4 : ((List.range n).map fun p => if hit ts p k = true then d.starAt p else 0).sum + (ev.map fun E => if decide (k ∈ E) = true then d.roundAt E else 0).sum = d.part ts k := by
      cases d with
      | star q t =>
        have g1 := sum_one (fun p => hit ts p k) q t (List.range n) List.nodup_range
        have g2 : (ev.map fun E => if decide (k ∈ E) = true then (Deed.star q t).roundAt E else 0).sum = 0 := sum_zero _ fun E _ => by show (if _ then (0 : Int) else 0) = 0; rw [ite_self]
        rw [g2]
        have g3 : ((List.range n).map fun p => if hit ts p k = true then (Deed.star q t).starAt p else 0) = (List.range n).map fun p => if hit ts p k = true then (if p = q then t else 0) else 0 :=
          List.map_congr_left fun p _ => by
            show (if hit ts p k = true then (if q = p then t else 0) else 0) = _
            by_cases e : q = p
            · subst e
              simp
            · have e' : ¬ p = q := fun z => e z.symm
              simp [e, e']
        rw [g3, g1]
        show _ = (if hit ts q k = true then t else 0)
        have hq : q < n := hd
        by_cases c : hit ts q k = true
        · rw [if_pos ⟨List.mem_range.mpr hq, c⟩, if_pos c]
          omega
        · rw [if_neg fun z => c z.2, if_neg c]
          omega
      | round ks t =>
        have g1 := sum_one (fun E => decide (k ∈ E)) ks t ev hv
        have g2 : ((List.range n).map fun p => if hit ts p k = true then (Deed.round ks t).starAt p else 0).sum = 0 := sum_zero _ fun E _ => by show (if _ then (0 : Int) else 0) = 0; rw [ite_self]
        rw [g2]
        have g3 : (ev.map fun E => if decide (k ∈ E) = true then (Deed.round ks t).roundAt E else 0) = ev.map fun E => if decide (k ∈ E) = true then (if E = ks then t else 0) else 0 :=
          List.map_congr_left fun E _ => by
            show (if decide (k ∈ E) = true then (if ks = E then t else 0) else 0) = _
            by_cases e : ks = E
            · subst e
              simp
            · have e' : ¬ E = ks := fun z => e z.symm
              simp [e, e']
        rw [g3, g1]
        show _ = (if decide (k ∈ ks) = true then t else 0)
        have hq : ks ∈ ev := hd
        by_cases c : decide (k ∈ ks) = true
        · rw [if_pos ⟨hq, c⟩, if_pos c]
          omega
        · rw [if_neg fun z => c z.2, if_neg c]
          omega
    unfold allE at ih ⊢
    rw [s1, s2, e3]
    omega
theorem effect_tog {ts : List Tie} {n : Nat} {ev : List (List Nat)} {ds : List Deed} (hv : ev.Nodup) (h : ∀ d ∈ ds, d.In n ev) (k : Nat) : effect ts (tog n ev ds) k = effect ts ds k := by
  rw [← allE_eq hv k _ fun d hd => tog_in hd, ← allE_eq hv k _ h]
  unfold allE
  congr 2
  · exact List.map_congr_left fun p hp => by rw [sT_tog (List.mem_range.mp hp)]
  · exact List.map_congr_left fun E hE => by rw [rT_tog hv hE]
theorem behind_tog {ts : List Tie} {n : Nat} {ev : List (List Nat)} {ds : List Deed} (f : Nat → Int) (hv : ev.Nodup) (h : ∀ d ∈ ds, d.In n ev) : behind ts f (tog n ev ds) = behind ts f ds := funext fun k => by
  rw [behind_eq, behind_eq, effect_tog hv h]
/-! how many, how great -/
theorem nodup_sub {α : Type} [DecidableEq α] : ∀ (m l : List α), l.Nodup → (∀ x ∈ l, x ∈ m) → l.length ≤ m.length
  | [], l, _, h => by
    cases l with
    | nil => exact Nat.le_refl _
    | cons a r => exact absurd (h a (List.mem_cons_self ..)) (List.not_mem_nil)
  | a :: m, l, hn, h => by
    have h1 := nodup_sub m (l.erase a) (hn.erase a) fun x hx => by
      have h2 := h x (List.mem_of_mem_erase hx)
      rcases List.mem_cons.mp h2 with e | e
      · subst e
        exact absurd hx (List.Nodup.not_mem_erase hn)
      · exact e
    rw [List.length_cons]
    by_cases e : a ∈ l
    · rw [List.length_erase_of_mem e] at h1
      omega
    · rw [List.erase_of_not_mem e] at h1
      omega
theorem sT_some {ds : List Deed} {p : Nat} (h : nz (sT ds p) = true) : ∃ t, Deed.star p t ∈ ds := by
  induction ds with
  | nil => exact absurd h (by show ¬ nz 0 = true; decide)
  | cons d ds ih =>
    have e1 : sT (d :: ds) p = d.starAt p + sT ds p := by unfold sT; rw [List.map_cons, List.sum_cons]
    by_cases e : sT ds p = 0
    · cases d with
      | star q t =>
        by_cases eq : q = p
        · subst eq
          exact ⟨t, List.mem_cons_self ..⟩
        · have : (Deed.star q t).starAt p = 0 := if_neg eq
          rw [e1, this, e] at h
          exact absurd h (by decide)
      | round ks t =>
        rw [e1, e] at h
        exact absurd h (by show ¬ nz (0 + 0) = true; decide)
    · obtain ⟨t, ht⟩ := ih (by unfold nz; simp [e])
      exact ⟨t, List.mem_cons_of_mem _ ht⟩
theorem rT_some {ds : List Deed} {E : List Nat} (h : nz (rT ds E) = true) : ∃ t, Deed.round E t ∈ ds := by
  induction ds with
  | nil => exact absurd h (by show ¬ nz 0 = true; decide)
  | cons d ds ih =>
    have e1 : rT (d :: ds) E = d.roundAt E + rT ds E := by unfold rT; rw [List.map_cons, List.sum_cons]
    by_cases e : rT ds E = 0
    · cases d with
      | star q t =>
        rw [e1, e] at h
        exact absurd h (by show ¬ nz (0 + 0) = true; decide)
      | round ks t =>
        by_cases eq : ks = E
        · subst eq
          exact ⟨t, List.mem_cons_self ..⟩
        · have : (Deed.round ks t).roundAt E = 0 := if_neg eq
          rw [e1, this, e] at h
          exact absurd h (by decide)
    · obtain ⟨t, ht⟩ := ih (by unfold nz; simp [e])
      exact ⟨t, List.mem_cons_of_mem _ ht⟩
def Deed.key : Deed → List Nat
  | .star p _ => [p]
  | .round ks _ => ks
theorem tog_len {n : Nat} {ev : List (List Nat)} {ds : List Deed} (hv : ev.Nodup) : (tog n ev ds).length ≤ 2 * ds.length := by
  unfold tog togS togR
  rw [List.length_append, List.length_map, List.length_map]
  have h1 : ((List.range n).filter fun p => nz (sT ds p)).length ≤ ds.length := by
    have := nodup_sub (ds.map fun d => d.key.headD 0) ((List.range n).filter fun p => nz (sT ds p)) (List.nodup_range.filter _) fun p hp => by
      obtain ⟨t, ht⟩ := sT_some (List.mem_filter.mp hp).2
      exact List.mem_map.mpr ⟨_, ht, rfl⟩
    rw [List.length_map] at this
    exact this
  have h2 : (ev.filter fun E => nz (rT ds E)).length ≤ ds.length := by
    have := nodup_sub (ds.map Deed.key) (ev.filter fun E => nz (rT ds E)) (hv.filter _) fun p hp => by
      obtain ⟨t, ht⟩ := rT_some (List.mem_filter.mp hp).2
      exact List.mem_map.mpr ⟨_, ht, rfl⟩
    rw [List.length_map] at this
    exact this
  omega
theorem sT_abs {B : Nat} : ∀ (ds : List Deed) (p : Nat), (∀ d ∈ ds, d.times.natAbs ≤ B) → (sT ds p).natAbs ≤ ds.length * B
  | [], _, _ => by simp [sT]
  | d :: ds, p, h => by
    have ih := sT_abs ds p fun x hx => h x (List.mem_cons_of_mem _ hx)
    have hd := h d (List.mem_cons_self ..)
    have e1 : sT (d :: ds) p = d.starAt p + sT ds p := by unfold sT; rw [List.map_cons, List.sum_cons]
    have e2 : (d.starAt p).natAbs ≤ B := by
      cases d with
      | star q t =>
        show (if q = p then t else 0).natAbs ≤ B
        split
        · exact hd
        · exact Nat.zero_le _
      | round ks t => exact Nat.zero_le _
    rw [e1, List.length_cons, Nat.succ_mul]
    omega
theorem rT_abs {B : Nat} : ∀ (ds : List Deed) (E : List Nat), (∀ d ∈ ds, d.times.natAbs ≤ B) → (rT ds E).natAbs ≤ ds.length * B
  | [], _, _ => by simp [rT]
  | d :: ds, E, h => by
    have ih := rT_abs ds E fun x hx => h x (List.mem_cons_of_mem _ hx)
    have hd := h d (List.mem_cons_self ..)
    have e1 : rT (d :: ds) E = d.roundAt E + rT ds E := by unfold rT; rw [List.map_cons, List.sum_cons]
    have e2 : (d.roundAt E).natAbs ≤ B := by
      cases d with
      | star q t => exact Nat.zero_le _
      | round ks t =>
        show (if ks = E then t else 0).natAbs ≤ B
        split
        · exact hd
        · exact Nat.zero_le _
    rw [e1, List.length_cons, Nat.succ_mul]
    omega
theorem tog_abs {n : Nat} {ev : List (List Nat)} {ds : List Deed} {B : Nat} (h : ∀ d ∈ ds, d.times.natAbs ≤ B) {d : Deed} (hd : d ∈ tog n ev ds) : d.times.natAbs ≤ ds.length * B := by
  rcases List.mem_append.mp hd with q | q
  · obtain ⟨p, hp, rfl⟩ := List.mem_map.mp q
    exact sT_abs ds p h
  · obtain ⟨E, hE, rfl⟩ := List.mem_map.mp q
    exact rT_abs ds E h
theorem tog_nz {n : Nat} {ev : List (List Nat)} {ds : List Deed} {d : Deed} (hd : d ∈ tog n ev ds) : d.times ≠ 0 := by
  rcases List.mem_append.mp hd with q | q
  · obtain ⟨p, hp, rfl⟩ := List.mem_map.mp q
    exact of_decide_eq_true (List.mem_filter.mp hp).2
  · obtain ⟨E, hE, rfl⟩ := List.mem_map.mp q
    exact of_decide_eq_true (List.mem_filter.mp hE).2
/-! lists that ascend -/
theorem asc_ext {l m : List Nat} (hl : l.Pairwise (· < ·)) (hm : m.Pairwise (· < ·)) (h : ∀ k, k ∈ l ↔ k ∈ m) : l = m := by
  have nl : l.Nodup := hl.imp fun {a b} z => Nat.ne_of_lt z
  have nm : m.Nodup := hm.imp fun {a b} z => Nat.ne_of_lt z
  exact ((List.perm_ext_iff_of_nodup nl nm).mpr h).eq_of_pairwise (le := fun a b => a < b) (fun a b _ _ z y => by omega) hl hm
/-- masks -/
def maskN (L : Nat) (ks : List Nat) : Nat := (ks.map fun k => 2 ^ (L - 1 - k)).sum
end BV

namespace BV
open PySem L2
/-! ### what is met from 0, turn by turn -/
def mUp (ts : List Tie) (met : List Nat) : List Nat := met ++ (ts.filter fun t => decide (t.1 ∈ met) && decide (t.2 ∉ met)).map (·.2)
def mDown (ts : List Tie) (met : List Nat) : List Nat := met ++ (ts.filter fun t => decide (t.2 ∈ met) && decide (t.1 ∉ met)).map (·.1)
def mTurn (ts : List Tie) (met : List Nat) : List Nat := mDown ts (mUp ts met)
def mets (ts : List Tie) : Nat → List Nat
  | 0 => [0]
  | i + 1 => mTurn ts (mets ts i)
theorem mem_mUp {ts : List Tie} {met : List Nat} {x : Nat} : x ∈ mUp ts met ↔ x ∈ met ∨ ∃ t ∈ ts, t.1 ∈ met ∧ t.2 ∉ met ∧ t.2 = x := by
  unfold mUp
  rw [List.mem_append, List.mem_map]
  simp only [List.mem_filter, Bool.and_eq_true, decide_eq_true_eq]
  constructor
  · rintro (h | ⟨t, ⟨a, b, c⟩, e⟩)
    · exact .inl h
    · exact .inr ⟨t, a, b, c, e⟩
  · rintro (h | ⟨t, a, b, c, e⟩)
    · exact .inl h
    · exact .inr ⟨t, ⟨a, b, c⟩, e⟩
theorem mem_mDown {ts : List Tie} {met : List Nat} {x : Nat} : x ∈ mDown ts met ↔ x ∈ met ∨ ∃ t ∈ ts, t.2 ∈ met ∧ t.1 ∉ met ∧ t.1 = x := by
  unfold mDown
  rw [List.mem_append, List.mem_map]
  simp only [List.mem_filter, Bool.and_eq_true, decide_eq_true_eq]
  constructor
  · rintro (h | ⟨t, ⟨a, b, c⟩, e⟩)
    · exact .inl h
    · exact .inr ⟨t, a, b, c, e⟩
  · rintro (h | ⟨t, a, b, c, e⟩)
    · exact .inl h
    · exact .inr ⟨t, ⟨a, b, c⟩, e⟩
theorem mUp_sub {ts : List Tie} {met : List Nat} {x : Nat} (h : x ∈ met) : x ∈ mUp ts met := mem_mUp.mpr (.inl h)
theorem mDown_sub {ts : List Tie} {met : List Nat} {x : Nat} (h : x ∈ met) : x ∈ mDown ts met := mem_mDown.mpr (.inl h)
theorem mTurn_sub {ts : List Tie} {met : List Nat} {x : Nat} (h : x ∈ met) : x ∈ mTurn ts met := mDown_sub (mUp_sub h)
theorem len_mTurn (ts : List Tie) (met : List Nat) : (mTurn ts met).length ≤ met.length + 2 * ts.length := by
  unfold mTurn mDown mUp
  rw [List.length_append, List.length_append, List.length_map, List.length_map]
  have h1 := List.length_filter_le (fun t => decide (t.1 ∈ met) && decide (t.2 ∉ met)) ts
  have h2 := List.length_filter_le (fun t => decide (t.2 ∈ met ++ (ts.filter fun t => decide (t.1 ∈ met) && decide (t.2 ∉ met)).map (·.2)) && decide (t.1 ∉ met ++ (ts.filter fun t => decide (t.1 ∈ met) && decide (t.2 ∉ met)).map (·.2))) ts
  omega
theorem len_mets (ts : List Tie) : ∀ i, (mets ts i).length ≤ 1 + i * (2 * ts.length)
  | 0 => by simp [mets]
  | i + 1 => by
    have h1 := len_mets ts i
    have h2 := len_mTurn ts (mets ts i)
    rw [Nat.succ_mul]
    show (mTurn ts (mets ts i)).length ≤ _
    omega
theorem met0 (ts : List Tie) : ∀ i, 0 ∈ mets ts i
  | 0 => by simp [mets]
  | i + 1 => mTurn_sub (met0 ts i)
/-- what is met hangs on 0 -/
theorem met_way (ts : List Tie) : ∀ i, ∀ x ∈ mets ts i, ∃ w, Way ts 0 w x
  | 0, x, h => by
    have : x = 0 := by simpa [mets] using h
    rw [this]
    exact ⟨[], .nil⟩
  | i + 1, x, h => by
    have h1 : ∀ y ∈ mUp ts (mets ts i), ∃ w, Way ts 0 w y := fun y hy => by
      rcases mem_mUp.mp hy with z | ⟨t, ht, a, b, e⟩
      · exact met_way ts i y z
      · obtain ⟨w, hw⟩ := met_way ts i _ a
        obtain ⟨k, hk⟩ := List.getElem?_of_mem ht
        exact ⟨w ++ [k], .snoc hw hk (.inl ⟨rfl, e⟩)⟩
    rcases mem_mDown.mp h with z | ⟨t, ht, a, b, e⟩
    · exact h1 x z
    · obtain ⟨w, hw⟩ := h1 _ a
      obtain ⟨k, hk⟩ := List.getElem?_of_mem ht
      exact ⟨w ++ [k], .snoc hw hk (.inr ⟨rfl, e⟩)⟩
def Closed (ts : List Tie) (met : List Nat) : Prop := ∀ t ∈ ts, t.1 ∈ met ↔ t.2 ∈ met
theorem closed_way {ts : List Tie} {met : List Nat} (h0 : 0 ∈ met) (h : Closed ts met) {w : List Nat} {x : Nat} (hw : Way ts 0 w x) : x ∈ met := by
  induction hw with
  | nil => exact h0
  | snoc _ ht e ih =>
    have hm := List.mem_of_getElem? ht
    rcases e with ⟨e1, e2⟩ | ⟨e1, e2⟩
    · rw [← e2]
      exact (h _ hm).mp (by rw [e1]; exact ih)
    · rw [← e2]
      exact (h _ hm).mpr (by rw [e1]; exact ih)
theorem closed_turn {ts : List Tie} {met : List Nat} (h : Closed ts met) : Closed ts (mTurn ts met) := by
  have h1 : ∀ x, x ∈ mUp ts met ↔ x ∈ met := fun x => ⟨fun z => by
    rcases mem_mUp.mp z with z | ⟨t, ht, a, b, e⟩
    · exact z
    · exact absurd ((h t ht).mp a) b, mUp_sub⟩
  have h2 : ∀ x, x ∈ mTurn ts met ↔ x ∈ met := fun x => ⟨fun z => by
    rcases mem_mDown.mp z with z | ⟨t, ht, a, b, e⟩
    · exact (h1 x).mp z
    · exact absurd ((h1 _).mpr ((h t ht).mpr ((h1 _).mp a))) b, mTurn_sub⟩
  exact fun t ht => by rw [h2, h2]; exact h t ht
def many (n : Nat) (met : List Nat) : Nat := ((List.range n).filter fun x => decide (x ∈ met)).length
theorem many_le (n : Nat) (met : List Nat) : many n met ≤ n := Nat.le_trans (List.length_filter_le _ _) (by rw [List.length_range]; exact Nat.le_refl _)
theorem many_lt {n : Nat} {m1 m2 : List Nat} (hs : ∀ x ∈ m1, x ∈ m2) {y : Nat} (hy : y < n) (h1 : y ∉ m1) (h2 : y ∈ m2) : many n m1 + 1 ≤ many n m2 := by
  have hn := nodup_sub ((List.range n).filter fun x => decide (x ∈ m2)) (y :: (List.range n).filter fun x => decide (x ∈ m1)) ?_ ?_
  · rw [List.length_cons] at hn
    exact hn
  · refine List.nodup_cons.mpr ⟨fun z => h1 ?_, List.nodup_range.filter _⟩
    have := (List.mem_filter.mp z).2
    simpa using this
  · intro x hx
    rw [List.mem_filter, List.mem_range, decide_eq_true_eq]
    rcases List.mem_cons.mp hx with e | e
    · rw [e]
      exact ⟨hy, h2⟩
    · obtain ⟨a, b⟩ := List.mem_filter.mp e
      exact ⟨List.mem_range.mp a, hs x (of_decide_eq_true b)⟩
theorem turn_grows {n : Nat} {ts : List Tie} (hts : ∀ t ∈ ts, t.1 < t.2 ∧ t.2 < n) {met : List Nat} (h : ¬ Closed ts met) : many n met + 1 ≤ many n (mTurn ts met) := by
  obtain ⟨t, ht⟩ := Classical.not_forall.mp h
  obtain ⟨hm, hb⟩ := Classical.not_imp.mp ht
  have hl := hts t hm
  by_cases a : t.1 ∈ met
  · have b : t.2 ∉ met := fun z => hb ⟨fun _ => z, fun _ => a⟩
    exact many_lt (fun x hx => mTurn_sub hx) hl.2 b (mDown_sub (mem_mUp.mpr (.inr ⟨t, hm, a, b, rfl⟩)))
  · have b : t.2 ∈ met := Classical.byContradiction fun z => hb ⟨fun q => absurd q a, fun q => absurd q z⟩
    refine many_lt (fun x hx => mTurn_sub hx) (show t.1 < n by omega) a ?_
    by_cases c : t.1 ∈ mUp ts met
    · exact mDown_sub c
    · exact mem_mDown.mpr (.inr ⟨t, hm, mUp_sub b, c, rfl⟩)
theorem met_closed {n : Nat} {ts : List Tie} (hn : 1 ≤ n) (hts : ∀ t ∈ ts, t.1 < t.2 ∧ t.2 < n) : ∀ i, Closed ts (mets ts i) ∨ i + 1 ≤ many n (mets ts i)
  | 0 => by
    refine .inr ?_
    have := many_lt (n := n) (m1 := []) (m2 := mets ts 0) (by simp) (y := 0) (by omega) (by simp) (met0 ts 0)
    omega
  | i + 1 => by
    rcases met_closed hn hts i with h | h
    · exact .inl (closed_turn h)
    · by_cases c : Closed ts (mets ts i)
      · exact .inl (closed_turn c)
      · have := turn_grows hts c
        exact .inr (by show i + 1 + 1 ≤ many n (mTurn ts (mets ts i)); omega)
theorem met_joined {n : Nat} {ts : List Tie} (hn : 1 ≤ n) (hts : ∀ t ∈ ts, t.1 < t.2 ∧ t.2 < n) : (∀ p, p < n → p ∈ mets ts n) ↔ Joined n ts := by
  constructor
  · exact fun h p hp => met_way ts n p (h p hp)
  · intro h p hp
    have hc : Closed ts (mets ts n) := by
      rcases met_closed hn hts n with z | z
      · exact z
      · have := many_le n (mets ts n)
        omega
    obtain ⟨w, hw⟩ := h p hp
    exact closed_way (met0 ts n) hc hw
/-- what a search finds -/
theorem found_joined {n : Nat} {ts : List Tie} {fnd : List Nat} (hn : 1 ≤ n) (hnd : fnd.Nodup) (hl : ∀ p ∈ fnd, p < n) (h0 : 0 ∈ fnd) (hw : ∀ p ∈ fnd, ∃ w, Way ts 0 w p)
    (hs : Closed ts fnd) : fnd.length < n ↔ ¬ Joined n ts := by
  constructor
  · intro h hj
    have := nodup_sub fnd (List.range n) List.nodup_range fun x hx => by
      obtain ⟨w, hw⟩ := hj x (List.mem_range.mp hx)
      exact closed_way h0 hs hw
    rw [List.length_range] at this
    omega
  · intro h
    refine Classical.byContradiction fun z => h fun p hp => ?_
    by_cases hf : p ∈ fnd
    · exact hw p hf
    · exfalso
      have := nodup_sub (List.range n) (p :: fnd) (List.nodup_cons.mpr ⟨hf, hnd⟩) fun x hx => by
        rw [List.mem_range]
        rcases List.mem_cons.mp hx with e | e
        · rw [e]
          exact hp
        · exact hl x e
      rw [List.length_range, List.length_cons] at this
      omega
end BV

namespace BV
open PySem L2
/-! the truth of any value, the written part named -/
def tTruK (K : PySem.W.Frag) (ta : TE) : TT := fun σ H Q => ta σ H fun x H' => ∃ k, TruV K x H' k ∧ Q k H'
theorem ptK {X : Cx} (K : PySem.W.Frag) {a : Expr} {ta : TE} (ha : PE X a ta) (he : ∀ whole, isTrue a X.env whole = (do let v ← whole; standAt a.pos; holding [v] (truthy v)) := by intro _; rfl) (h : X.K = K := by rfl) :
    PT X a (tTruK K ta) := by
  subst h
  exact pt_truth ha he
end BV
namespace BV
open PySem L2
theorem sumLK {X : Cx} (K : PySem.W.Frag) (hc : X.calm = true := by rfl) (h : X.K = K := by rfl) : CallR X (.builtin "sum") (rSum K) := by
  subst h
  exact cr_sum hc
end BV

namespace BV
open PySem L2
abbrev sWhole : Stmt := top 3
abbrev nWhole : List Str := ["value"]
abbrev pWhole : List Str := ["value"]
theorem scWhole : FnScope nWhole pWhole (defScope sWhole) := ⟨rfl, rfl, rfl, by decide +kernel, rfl, by decide +kernel, by decide +kernel⟩
abbrev sWithin : Stmt := top 4
abbrev nWithin : List Str := ["value", "low", "high"]
abbrev pWithin : List Str := ["value", "low", "high"]
theorem scWithin : FnScope nWithin pWithin (defScope sWithin) := ⟨rfl, rfl, rfl, by decide +kernel, rfl, by decide +kernel, by decide +kernel⟩
abbrev sRow : Stmt := top 5
abbrev nRow : List Str := ["value", "many"]
abbrev pRow : List Str := ["value", "many"]
theorem scRow : FnScope nRow pRow (defScope sRow) := ⟨rfl, rfl, rfl, by decide +kernel, rfl, by decide +kernel, by decide +kernel⟩
abbrev sMet : Stmt := top 10
abbrev nMet : List Str := ["web", "ties", "start"]
abbrev pMet : List Str := ["web", "ties", "start"]
theorem scMet : FnScope nMet pMet (defScope sMet) := ⟨rfl, rfl, rfl, by decide +kernel, rfl, by decide +kernel, by decide +kernel⟩
abbrev sWerr : Stmt := top 12
abbrev nWerr : List Str := ["value", "many", "ties", "k", "item"]
abbrev pWerr : List Str := ["value"]
theorem scWerr : FnScope nWerr pWerr (defScope sWerr) := ⟨rfl, rfl, rfl, by decide +kernel, rfl, by decide +kernel, by decide +kernel⟩
abbrev sIstie : Stmt := top 13
abbrev nIstie : List Str := ["many", "item", "one", "other"]
abbrev pIstie : List Str := ["many", "item"]
theorem scIstie : FnScope nIstie pIstie (defScope sIstie) := ⟨rfl, rfl, rfl, by decide +kernel, rfl, by decide +kernel, by decide +kernel⟩
def intIn : PyData → Int → Int → Bool
  | .int i, lo, hi => decide (lo ≤ i ∧ i ≤ hi)
  | _, _, _ => false
def isRow : PyData → Int → Bool
  | .tuple ds, m => decide ((ds.length : Int) = m)
  | _, _ => false
def ltD : PyData → PyData → Bool
  | .int a, .int b => decide (a < b)
  | _, _ => false
theorem isTie_two (n : Int) (a b : PyData) : isTieD n (.tuple [a, b]) = (intIn a 0 (n - 1) && (intIn b 0 (n - 1) && ltD a b)) := by
  cases a <;> cases b <;> simp [isTieD, intIn, ltD]
theorem int_of {d : PyData} {lo hi : Int} (h : intIn d lo hi = true) : ∃ i, d = .int i := by
  cases d with
  | int i => exact ⟨i, rfl⟩
  | _ => cases h
theorem row_two {d : PyData} (h : isRow d 2 = true) : ∃ a b, d = .tuple [a, b] := by
  cases d with
  | tuple ds =>
    have e : (ds.length : Int) = 2 := of_decide_eq_true h
    match ds, e with
    | [a, b], _ => exact ⟨a, b, rfl⟩
    | [], e => simp at e
    | [_], e => simp at e
    | _ :: _ :: _ :: _, e => simp only [List.length_cons] at e; omega
  | _ => cases h
theorem webE_row {d : PyData} (h : isRow d 2 = false) : webE d = .str "form" := by
  unfold webE
  split
  · simp [isRow] at h
  · rfl
theorem webE_many {a b : PyData} (h : intIn a 1 12 = false) : webE (.tuple [a, b]) = .str "form" := by
  unfold webE
  split
  · rename_i n ds e
    obtain ⟨rfl, rfl⟩ : a = .int n ∧ b = .tuple ds := by simpa using e
    rw [if_neg]
    intro z
    have h' : intIn (.int n) 1 12 = true := decide_eq_true ⟨z.1, z.2.1⟩
    rw [h] at h'
    cases h'
  · rfl
theorem webE_ties {a b : PyData} (h : isTup b = false) : webE (.tuple [a, b]) = .str "form" := by
  unfold webE
  split
  · rename_i n ds e
    obtain ⟨rfl, rfl⟩ : a = .int n ∧ b = .tuple ds := by simpa using e
    cases h
  · rfl
theorem webE_long {n : Int} {ds : List PyData} (h : ¬ ds.length ≤ 40) : webE (.tuple [.int n, .tuple ds]) = .str "form" := by
  unfold webE
  dsimp only
  rw [if_neg fun z => h z.2.2]
theorem webE_tie {n : Int} {ds : List PyData} {k : Nat} (h1 : 1 ≤ n ∧ n ≤ 12) (h2 : ds.length ≤ 40) (h : badAt n ds 0 = some k) : webE (.tuple [.int n, .tuple ds]) = .tuple [.str "tie", .int (k : Nat)] := by
  unfold webE
  dsimp only
  rw [if_pos ⟨h1.1, h1.2, h2⟩, h]
open Classical in
theorem webE_all {n : Nat} {ts : List Tie} (h1 : 1 ≤ n ∧ n ≤ 12) (h2 : ts.length ≤ 40) (h : ∀ t ∈ ts, t.1 < t.2 ∧ t.2 < n) : (Joined n ts → webE (webD n ts) = .none) ∧ (¬ Joined n ts → webE (webD n ts) = .str "apart") := by
  have hb : badAt (n : Int) (ts.map tieD) 0 = none := badAt_none.mpr fun d hd => by
    obtain ⟨t, ht, rfl⟩ := List.mem_map.mp hd
    have := h t ht
    exact isTie_tieD this.1 (by omega)
  have e2 : (ts.map tieD).map tieOf = ts := by
    rw [List.map_map]
    exact (List.map_congr_left fun t _ => tie_of_tieD t).trans (List.map_id ts)
  have e : ∀ z, webE (webD n ts) = z ↔ (if Joined n ts then PyData.none else .str "apart") = z := fun z => by
    unfold webE webD tiesD
    dsimp only
    rw [if_pos ⟨by omega, by omega, by rw [List.length_map]; exact h2⟩, hb]
    dsimp only
    rw [e2, Int.toNat_natCast]
  exact ⟨fun z => (e _).mpr (if_pos z), fun z => (e _).mpr (if_neg z)⟩
theorem web_nodict (n : Nat) : ∀ ts : List Tie, (webD n ts).hasDict = false ∧ PyData.hasDictAll (ts.map tieD) = false
  | [] => by simp [webD, tiesD, PyData.hasDict, PyData.hasDictAll]
  | t :: ts => by
    have ih := (web_nodict n ts).2
    simp [webD, tiesD, PyData.hasDict, PyData.hasDictAll, tieD, ih]
def spWhole (K : PySem.W.Frag) : Sp := fun vs H Q _ => ∃ (N : Addr → Prop) (md : Bool) (x : V) (d : PyData), vs = [x] ∧ Dm K H N md x d ∧ Q (.bl (isInt d)) H
def spWithin (K : PySem.W.Frag) : Sp := fun vs H Q _ => ∃ (N : Addr → Prop) (md : Bool) (x : V) (d : PyData) (lo hi : Int), vs = [x, .int lo, .int hi] ∧ Dm K H N md x d ∧ Q (.bl (intIn d lo hi)) H
def spRow (K : PySem.W.Frag) : Sp := fun vs H Q _ => ∃ (N : Addr → Prop) (md : Bool) (x : V) (d : PyData) (m : Int), vs = [x, .int m] ∧ Dm K H N md x d ∧ Q (.bl (isRow d m)) H
def spIstie (K : PySem.W.Frag) : Sp := fun vs H Q _ => ∃ (N : Addr → Prop) (md : Bool) (x : V) (d : PyData) (n : Int), vs = [.int n, x] ∧ Dm K H N md x d ∧ Q (.bl (isTieD n d)) H
def spMet (K : PySem.W.Frag) : Sp := fun vs H Q _ => ∃ (v ev : V) (n : Nat) (ts : List Tie) (es : List Nat) (start : Nat), vs = [v, ev, .int start] ∧ Dp K H v (webD n ts) ∧ Dp K H ev (lotD es) ∧
  (∀ t ∈ ts, t.1 < t.2 ∧ t.2 < n) ∧ (∀ k ∈ es, k < ts.length) ∧ start < n ∧ n < 64 ∧ es.length ≤ 3000 ∧
  ∀ (u : V) (ps : List Nat) H', Same H H' → Dp K H' u (lotD ps) → ps.Pairwise (· < ·) → (∀ p ∈ ps, p < n ∧ ∃ w, Way ts start w p) → start ∈ ps → (∀ p ∈ ps, Shut ts es ps p) → Q u H'
def spWerr (K : PySem.W.Frag) : Sp := fun vs H Q _ => ∃ (N : Addr → Prop) (md : Bool) (x : V) (d : PyData), vs = [x] ∧ Dm K H N md x d ∧
  ∀ (u : V) H', Same H H' → Dp K H' u (webE d) → Q u H'
theorem sort_keys {kl : List Nat} (h3 : kl.Nodup) {ys : List Int} (hperm : ys.Perm (kl.map fun (k : Nat) => (k : Int))) (hsort : ys.Pairwise (· ≤ ·)) :
    ∃ ns : List Nat, ys.map V.int = ns.map (fun (k : Nat) => V.int (k : Int)) ∧ ns.Pairwise (· < ·) ∧ (∀ j, j ∈ ns ↔ j ∈ kl) ∧ ns.length = kl.length := by
  obtain ⟨ns, rfl⟩ : ∃ ns : List Nat, ys = ns.map fun (k : Nat) => (k : Int) := ⟨ys.map Int.toNat, by
    rw [List.map_map]
    refine (List.map_id ys).symm.trans (List.map_congr_left fun y hy => ?_)
    obtain ⟨j, _, rfl⟩ := List.mem_map.mp (hperm.mem_iff.mp hy)
    show ((j : Int)) = (((j : Int)).toNat : Int)
    omega⟩
  have hnp : ns.Perm kl := by
    have h := hperm.map Int.toNat
    rw [List.map_map, List.map_map] at h
    have e : ∀ l : List Nat, l.map (Int.toNat ∘ fun (k : Nat) => (k : Int)) = l := fun l => by
      refine (List.map_congr_left fun x _ => ?_).trans (List.map_id l)
      show ((x : Int)).toNat = x
      omega
    rw [e, e] at h
    exact h
  have hnn : ns.Nodup := hnp.nodup_iff.mpr h3
  have hlt : ns.Pairwise (· < ·) := by
    have h6 : ns.Pairwise (· ≤ ·) := (List.pairwise_map.mp hsort).imp fun {x y} z => by omega
    refine (h6.and hnn).imp fun {x y} z => ?_
    obtain ⟨z1, z2⟩ := z
    omega
  exact ⟨ns, by rw [List.map_map]; rfl, hlt, fun j => hnp.mem_iff, hnp.length_eq⟩
section
variable {P : Program} {w : World} {K : PySem.W.Frag} {mg : Str → Option Value} {base : Heap}
theorem ok_whole {f : Addr} {fd : FuncData} (D : Df K mg "whole" sWhole pWhole f fd) (T : Bl mg) (hisinstance : mg "isinstance" = none) (hbool : mg "bool" = none) : FnOk P w K mg base CX0 1 f fd pWhole (spWhole K) := by
  refine D.fn.ok scWhole (fun vs H Q E h => ?_) (fun cdv A outer s H vs Q E hr h => ?_)
  · obtain ⟨N, md, x, d, rfl, _⟩ := h
    rfl
  · obtain ⟨N, md, x, d, rfl, hx, k⟩ := h
    have nd := scWhole.nd
    refine ⟨_, (pss_one (ps_ret (pe_and (pe_callB (isiM K N md) (by rfl) hisinstance (by decide +kernel) (pa_cons (pv 0) (pa_cons (pe_bltn (v := .ty "int") (by rfl) T.int (by decide +kernel) rfl) pa_nil))) (pe_one (pe_not (pe_callB (isiM K N md) (by rfl) hisinstance (by decide +kernel) (pa_cons (pv 0) (pa_cons (pe_bltn (v := .ty "bool") (by rfl) hbool (by decide +kernel) rfl) pa_nil)))))))), ?_⟩
    refine ⟨_, rfl, x, d, "int", _, rfl, hx, kit_int d, ?_⟩
    refine ⟨_, rfl, ite2 (fun hh => ?_) (fun hh => ?_)⟩
    · refine ⟨_, rfl, x, d, "bool", _, rfl, hx, kit_bool d, _, rfl, ?_⟩
      have e : (!isBool d) = isInt d := by cases d <;> simp_all [isBool, isIntB, isInt]
      show Q _ _
      rw [e]
      exact k
    · have e : isInt d = false := by cases d <;> simp_all [isIntB, isInt]
      rw [e] at k
      exact k
theorem ok_within {f f1 : Addr} {fd fd1 : FuncData} (D : Df K mg "whole_within" sWithin pWithin f fd) (T : Bl mg) (hisinstance : mg "isinstance" = none) (hbool : mg "bool" = none) (D_whole : Df K mg "whole" sWhole pWhole f1 fd1) : FnOk P w K mg base CX0 2 f fd pWithin (spWithin K) := by
  have G_whole : FnOk P w K mg base CX0 1 f1 fd1 pWhole (spWhole K) := ok_whole D_whole T hisinstance hbool
  refine D.fn.ok scWithin (fun vs H Q E h => ?_) (fun cdv A outer s H vs Q E hr h => ?_)
  · obtain ⟨N, md, x, d, lo, hi, rfl, _⟩ := h
    rfl
  · obtain ⟨N, md, x, d, lo, hi, rfl, hx, k⟩ := h
    have nd := scWithin.nd
    have hr_whole : Room 1 _ := hr
    refine ⟨_, (pss_one (ps_ret (pe_and (pe_call G_whole hr_whole (by rfl) D_whole.ad D_whole.fn.kp D_whole.bd .nil pass0 (pa_cons (pv 0) pa_nil)) (pe_one (pe_chain op_le op_le (pv 1) (pv 0) (pv 2)))))), ?_⟩
    refine ⟨_, rfl, N, md, x, d, rfl, hx, ?_⟩
    refine ⟨_, rfl, ite2 (fun hh => ?_) (fun hh => ?_)⟩
    · cases d with
      | int i =>
        cases hx
        refine ⟨_, rfl, _, rfl, lo, i, rfl, rfl, _, rfl, ite2 (fun h1 => ?_) (fun h1 => ?_)⟩
        · have h1 := of_decide_eq_true h1
          refine ⟨_, rfl, i, hi, rfl, rfl, ?_⟩
          have e : intIn (.int i) lo hi = decide (i ≤ hi) := decide_eq_decide.mpr ⟨fun z => z.2, fun z => ⟨h1, z⟩⟩
          rw [e] at k
          exact k
        · have e : intIn (.int i) lo hi = false := decide_eq_false fun z => h1 (decide_eq_true z.1)
          rw [e] at k
          exact k
      | _ => cases hh
    · have e : intIn d lo hi = false := by cases d <;> simp_all [intIn, isInt]
      rw [e] at k
      exact k
theorem ok_row {f : Addr} {fd : FuncData} (D : Df K mg "row_of" sRow pRow f fd) (T : Bl mg) (hisinstance : mg "isinstance" = none) : FnOk P w K mg base CX0 1 f fd pRow (spRow K) := by
  refine D.fn.ok scRow (fun vs H Q E h => ?_) (fun cdv A outer s H vs Q E hr h => ?_)
  · obtain ⟨N, md, x, d, m, rfl, _⟩ := h
    rfl
  · obtain ⟨N, md, x, d, m, rfl, hx, k⟩ := h
    have nd := scRow.nd
    refine ⟨_, (pss_one (ps_ret (pe_and (pe_callB (isiM K N md) (by rfl) hisinstance (by decide +kernel) (pa_cons (pv 0) (pa_cons (pe_bltn (v := .ty "tuple") (by rfl) T.tuple (by decide +kernel) rfl) pa_nil))) (pe_one (pe_cmpR op_eq (pe_callB (lenK K) (by rfl) T.len PySem.boot_len (pa_cons (pv 0) pa_nil)) (pv 1) (nomark _)))))), ?_⟩
    refine ⟨_, rfl, x, d, "tuple", _, rfl, hx, kit_tup d, ?_⟩
    refine ⟨_, rfl, ite2 (fun hh => ?_) (fun hh => ?_)⟩
    · cases d with
      | tuple ds =>
        obtain ⟨a, xs, rfl, hxs, hds⟩ := dm_tup hx
        refine ⟨_, rfl, a, xs, rfl, .inr hxs, _, rfl, rfl, ?_⟩
        have e : isRow (.tuple ds) m = decide (V.int (xs.length : Nat) = V.int m) := by
          rw [dmAll_len hds]
          exact decide_eq_decide.mpr ⟨fun z => by rw [z], fun z => V.int.inj z⟩
        rw [e] at k
        exact k
      | _ => cases hh
    · have e : isRow d m = false := by cases d <;> simp_all [isRow, isTup]
      rw [e] at k
      exact k
theorem ok_istie {f f1 f2 f3 : Addr} {fd fd1 fd2 fd3 : FuncData} (D : Df K mg "_is_tie" sIstie pIstie f fd) (T : Bl mg) (hisinstance : mg "isinstance" = none) (hbool : mg "bool" = none) (D_whole : Df K mg "whole" sWhole pWhole f1 fd1)
    (D_within : Df K mg "whole_within" sWithin pWithin f2 fd2) (D_row : Df K mg "row_of" sRow pRow f3 fd3) : FnOk P w K mg base CX0 3 f fd pIstie (spIstie K) := by
  have G_within : FnOk P w K mg base CX0 2 f2 fd2 pWithin (spWithin K) := ok_within D_within T hisinstance hbool D_whole
  have G_row : FnOk P w K mg base CX0 1 f3 fd3 pRow (spRow K) := ok_row D_row T hisinstance
  refine D.fn.ok scIstie (fun vs H Q E h => ?_) (fun cdv A outer s H vs Q E hr h => ?_)
  · obtain ⟨N, md, x, d, n, rfl, _⟩ := h
    rfl
  · obtain ⟨N, md, x, d, n, rfl, hx, k⟩ := h
    have nd := scIstie.nd
    have hr_within : Room 2 _ := hr
    have hr_row : Room 1 _ := hr.mono (by decide)
    refine ⟨_, (pss_cons (ps_if (pt_not (pt_val (pe_call G_row hr_row (by rfl) D_row.ad D_row.fn.kp D_row.bd .nil pass0 (pa_cons (pv 1) (pa_cons pe_int pa_nil))))) (pss_one (ps_ret pe_bl)) pss_nil)
      (pss_cons (ps_asg (pv 1) (pgT K rfl (pgs_cons (pg_name (i := 2) nd rfl (by first | exact Or.inl rfl | exact Or.inr rfl)) (pgs_cons (pg_name (i := 3) nd rfl (by first | exact Or.inl rfl | exact Or.inr rfl)) pgs_nil))))
      (pss_one (ps_ret (pe_and (pe_call G_within hr_within (by rfl) D_within.ad D_within.fn.kp D_within.bd .nil pass0 (pa_cons (pv 2) (pa_cons pe_int (pa_cons (pe_op op_sub (pv 0) pe_int) pa_nil)))) (pe_and (pe_call G_within hr_within (by rfl) D_within.ad D_within.fn.kp D_within.bd .nil pass0 (pa_cons (pv 3) (pa_cons pe_int (pa_cons (pe_op op_sub (pv 0) pe_int) pa_nil)))) (pe_one (pe_cmpR op_lt (pv 2) (pv 3) (nomark _))))))))), ?_⟩
    refine tSeq_go ?_
    refine ⟨_, rfl, N, md, x, d, 2, rfl, hx, ?_⟩
    refine ⟨_, rfl, ite2 (fun hh => ?_) (fun hh => ?_)⟩
    · have e : isTieD n d = false := by
        unfold isTieD
        split
        · simp [isRow] at hh
        · rfl
      rw [e] at k
      exact k
    · obtain ⟨a, b, rfl⟩ := row_two (d := d) (by simpa using hh)
      obtain ⟨ax, xs, rfl, hxs, hds⟩ := dm_tup hx
      cases hds with
      | cons q1 q2 =>
        cases q2 with
        | cons q3 q4 =>
          cases q4
          dsimp only [tNext]
          refine tSeq_go ?_
          refine ⟨_, rfl, ax, _, rfl, hxs, rfl, _, _, rfl, _, _, rfl, rfl, ?_⟩
          rw [isTie_two] at k
          refine ⟨_, rfl, _, rfl, n, 1, rfl, rfl, N, md, _, a, 0, n - 1, rfl, q1, ?_⟩
          refine ⟨_, rfl, ite2 (fun h1 => ?_) (fun h1 => ?_)⟩
          · refine ⟨_, rfl, _, rfl, n, 1, rfl, rfl, N, md, _, b, 0, n - 1, rfl, q3, ?_⟩
            refine ⟨_, rfl, ite2 (fun h2 => ?_) (fun h2 => ?_)⟩
            · obtain ⟨i, rfl⟩ := int_of h1
              obtain ⟨j, rfl⟩ := int_of h2
              cases q1
              cases q3
              refine ⟨_, rfl, _, rfl, i, j, rfl, rfl, ?_⟩
              rw [h1, h2, Bool.true_and, Bool.true_and] at k
              exact k
            · have e : intIn b 0 (n - 1) = false := by simpa using h2
              rw [e, Bool.false_and, Bool.and_false] at k
              exact k
          · have e : intIn a 0 (n - 1) = false := by simpa using h1
            rw [e, Bool.false_and] at k
            exact k
theorem ok_met {f f1 f2 : Addr} {fd fd1 fd2 : FuncData} (D : Df K mg "places_met" sMet pMet f fd) (T : Bl mg) (hsorted : mg "sorted" = none) (D_far : Df K mg "far_end" sFar pFar f1 fd1) (D_ways : Df K mg "ways_from" sWays pWays f2 fd2) :
    FnOk P w K mg base CX0 3 f fd pMet (spMet K) := by
  have G_ways : FnOk P w K mg base CX0 2 f2 fd2 pWays (spWays K) := ok_ways D_ways T D_far
  refine D.fn.ok scMet (fun vs H Q E h => ?_) (fun cdv A outer s H vs Q E hr h => ?_)
  · obtain ⟨v, ev, n, ts, es, start, rfl, _⟩ := h
    rfl
  · obtain ⟨v, ev, n, ts, es, start, rfl, hw, he, hends, hes, hst, hn, hel, k⟩ := h
    have nd := scMet.nd
    have hr_ways : Room 2 _ := hr
    refine ⟨_, (pss_one (ps_ret (pe_callTy (tupleK K) (by rfl) T.tuple (by decide +kernel) (pa_cons (pe_callB (call_sortedDI (by rfl)) (by rfl) hsorted (by decide +kernel) (pa_cons (pe_call G_ways hr_ways (by rfl) D_ways.ad D_ways.fn.kp D_ways.bd .nil pass0 (pa_cons (pv 0) (pa_cons (pv 1) (pa_cons (pv 2) pa_nil)))) pa_nil)) pa_nil)))), ?_⟩
    refine ⟨_, rfl, _, rfl, _, rfl, v, ev, n, ts, es, start, rfl, hw, he, hends, hes, hst, by omega, hel, fun d fnd H1 hd s1 hF hcl => ?_⟩
    obtain ⟨⟨kvs, h1, h2, h3⟩, hnd, hlt, hst2⟩ := hF
    have hfn : fnd.length ≤ n := nodup_small n fnd hnd hlt
    refine ⟨d, kvs, fnd.map fun (k : Nat) => (k : Int), rfl, .inl h1, by rw [h2, List.map_map]; rfl, by rw [List.length_map]; omega, fun ys p hperm hsort hp => ?_⟩
    obtain ⟨ps, e1, e2, e3, e4⟩ := sort_keys hnd hperm hsort
    have s2 : Same H1 (upd H1 p (.lst (ys.map V.int))) := same_new hp
    refine ⟨p, _, rfl, .inl ⟨SqL.of upd_same, fun q hq => ?_⟩⟩
    refine k _ ps _ ((s1.trans s2).trans (same_new hq)) (lot_dp (SqT.of ?_)) e2 (fun x hx => ?_) ((e3 _).mpr hst2) fun x hx => ?_
    · rw [upd_same, e1]
    · have hx' := (e3 x).mp hx
      obtain ⟨_, w, _, _, hw, _⟩ := h3 x hx'
      exact ⟨hlt x hx', w, hw⟩
    · exact (hcl x ((e3 x).mp hx)).mono fun y hy => (e3 y).mpr hy
theorem ok_werr {f f1 f2 f3 f4 f5 f6 f7 f8 : Addr} {fd fd1 fd2 fd3 fd4 fd5 fd6 fd7 fd8 : FuncData} {tP tT : Tok} (D : Df K mg "web_error" sWerr pWerr f fd) (T : Bl mg) (hisinstance : mg "isinstance" = none) (hbool : mg "bool" = none) (hsorted : mg "sorted" = none)
    (hMP : mg "MAX_PLACES" = some (.int 12 tP)) (hMT : mg "MAX_TIES" = some (.int 40 tT)) (D_whole : Df K mg "whole" sWhole pWhole f1 fd1)
    (D_within : Df K mg "whole_within" sWithin pWithin f2 fd2) (D_row : Df K mg "row_of" sRow pRow f3 fd3) (D_far : Df K mg "far_end" sFar pFar f4 fd4) (D_ways : Df K mg "ways_from" sWays pWays f5 fd5)
    (D_met : Df K mg "places_met" sMet pMet f6 fd6) (D_istie : Df K mg "_is_tie" sIstie pIstie f7 fd7) (D_all : Df K mg "all_ties" sAll pAll f8 fd8) : FnOk P w K mg base CX0 4 f fd pWerr (spWerr K) := by
  have G_within : FnOk P w K mg base CX0 2 f2 fd2 pWithin (spWithin K) := ok_within D_within T hisinstance hbool D_whole
  have G_row : FnOk P w K mg base CX0 1 f3 fd3 pRow (spRow K) := ok_row D_row T hisinstance
  have G_met : FnOk P w K mg base CX0 3 f6 fd6 pMet (spMet K) := ok_met D_met T hsorted D_far D_ways
  have G_istie : FnOk P w K mg base CX0 3 f7 fd7 pIstie (spIstie K) := ok_istie D_istie T hisinstance hbool D_whole D_within D_row
  have G_all : FnOk P w K mg base CX0 1 f8 fd8 pAll (spAll K) := ok_all D_all T
  refine D.fn.ok scWerr (fun vs H Q E h => ?_) (fun cdv A outer s H vs Q E hr h => ?_)
  · obtain ⟨N, md, x, d, rfl, _⟩ := h
    rfl
  · obtain ⟨N, md, x, d, rfl, hx, k⟩ := h
    have nd := scWerr.nd
    have hr_within : Room 2 _ := hr.mono (by decide)
    have hr_row : Room 1 _ := hr.mono (by decide)
    have hr_met : Room 3 _ := hr
    have hr_istie : Room 3 _ := hr
    have hr_all : Room 1 _ := hr.mono (by decide)
    refine ⟨_, (pss_cons (ps_if (PW.pt (pw_or (pt_not (pt_val (pe_call G_row hr_row (by rfl) D_row.ad D_row.fn.kp D_row.bd .nil pass0 (pa_cons (pv 0) (pa_cons pe_int pa_nil))))) (pw_or1 (pt_not (pt_val (pe_call G_within hr_within (by rfl) D_within.ad D_within.fn.kp D_within.bd .nil pass0 (pa_cons (pe_ix (ixT K) (pv 0) pe_int (fun _ _ => rfl)) (pa_cons pe_int (pa_cons (pe_glob (by rfl) hMP (show RelV (.int 12) (.int 12 _) from ⟨_, rfl⟩)) pa_nil))))))))) (pss_one (ps_ret pe_str)) pss_nil)
      (pss_cons (ps_asg (pv 0) (pgT K rfl (pgs_cons (pg_name (i := 1) nd rfl (by first | exact Or.inl rfl | exact Or.inr rfl)) (pgs_cons (pg_name (i := 2) nd rfl (by first | exact Or.inl rfl | exact Or.inr rfl)) pgs_nil))))
      (pss_cons (ps_if (PW.pt (pw_or (pt_not (pt_val (pe_callB (isiM K N md) (by rfl) hisinstance (by decide +kernel) (pa_cons (pv 2) (pa_cons (pe_bltn (v := .ty "tuple") (by rfl) T.tuple (by decide +kernel) rfl) pa_nil))))) (pw_or1 (pt_cmpR op_gt (pe_callB (lenK K) (by rfl) T.len PySem.boot_len (pa_cons (pv 2) pa_nil)) (pe_glob (by rfl) hMT (show RelV (.int 40) (.int 40 _) from ⟨_, rfl⟩)) (nomark _))))) (pss_one (ps_ret pe_str)) pss_nil)
      (pss_cons (ps_for PassesOwn.never rfl (enumT K (by rfl) T.enumerate (pa_cons (pv 2) pa_nil)) (pgT K rfl (pgs_cons (pg_name (i := 3) nd rfl (by first | exact Or.inl rfl | exact Or.inr rfl)) (pgs_cons (pg_name (i := 4) nd rfl (by first | exact Or.inl rfl | exact Or.inr rfl)) pgs_nil))) (pss_one (ps_if (pt_not (pt_val (pe_call G_istie hr_istie (by rfl) D_istie.ad D_istie.fn.kp D_istie.bd .nil pass0 (pa_cons (pv 1) (pa_cons (pv 4) pa_nil))))) (pss_one (ps_ret (pe_tup (pa_cons pe_str (pa_cons (pv 3) pa_nil))))) pss_nil)))
      (pss_cons (ps_if (pt_cmpR op_lt (pe_callB (lenK K) (by rfl) T.len PySem.boot_len (pa_cons (pe_call G_met hr_met (by rfl) D_met.ad D_met.fn.kp D_met.bd .nil pass0 (pa_cons (pv 0) (pa_cons (pe_call G_all hr_all (by rfl) D_all.ad D_all.fn.kp D_all.bd .nil pass0 (pa_cons (pv 0) pa_nil)) (pa_cons pe_int pa_nil)))) pa_nil)) (pv 1) (nomark _)) (pss_one (ps_ret pe_str)) pss_nil)
      (pss_one (ps_ret pe_non))))))), ?_⟩
    refine tSeq_go ?_
    refine ⟨_, rfl, N, md, x, d, 2, rfl, hx, _, rfl, ite2 (fun hh => ?_) (fun hh => ?_)⟩
    · refine iteT ?_
      exact k _ _ (Same.refl _) (by rw [webE_row (by simpa using hh)]; exact .str _)
    obtain ⟨a, b, rfl⟩ := row_two (d := d) (by simpa using hh)
    obtain ⟨ax, xs, rfl, hxs, hds⟩ := dm_tup hx
    cases hds with
    | cons q1 q2 =>
    cases q2 with
    | cons q3 q4 =>
    cases q4
    rename_i va vb
    refine ⟨_, rfl, ax, _, _, _, rfl, rfl, hxs, atI_nat (j := 0) rfl, N, md, _, a, 1, 12, rfl, q1, _, rfl, ite2 (fun h1 => ?_) (fun h1 => ?_)⟩
    · exact k _ _ (Same.refl _) (by rw [webE_many (by simpa using h1)]; exact .str _)
    have h1 : intIn a 1 12 = true := by simpa using h1
    obtain ⟨n, rfl⟩ := int_of h1
    have hn : 1 ≤ n ∧ n ≤ 12 := of_decide_eq_true h1
    cases q1
    dsimp only [tNext]
    refine tSeq_go ?_
    refine ⟨_, rfl, ax, _, rfl, hxs, rfl, _, _, rfl, _, _, rfl, rfl, ?_⟩
    refine at_st [some (.ref ax), some (.int n), some vb, none, none] rfl ?_
    refine tSeq_go ?_
    refine ⟨_, rfl, vb, b, "tuple", _, rfl, q3, kit_tup b, _, rfl, ite2 (fun h2 => ?_) (fun h2 => ?_)⟩
    · refine iteT ?_
      exact k _ _ (Same.refl _) (by rw [webE_ties (by simpa using h2)]; exact .str _)
    obtain ⟨ds, rfl⟩ : ∃ ds, b = .tuple ds := by
      cases b with
      | tuple ds => exact ⟨ds, rfl⟩
      | _ => simp [isTup] at h2
    obtain ⟨c, ys, rfl, hys, hds⟩ := dm_tup q3
    have hyl := dmAll_len hds
    refine ⟨_, rfl, c, ys, rfl, .inr hys, _, _, rfl, rfl, _, rfl, ite2 (fun h3 => ?_) (fun h3 => ?_)⟩
    · have h3 := of_decide_eq_true h3
      exact k _ _ (Same.refl _) (by rw [webE_long (by omega)]; exact .str _)
    have h3 : ds.length ≤ 40 := Classical.byContradiction fun z => h3 (decide_eq_true (by omega))
    dsimp only [tNext]
    refine tSeq_go ?_
    refine ⟨_, rfl, c, ys, rfl, hys, for_it (walk_enumT (xs := ys)) (fun i σ H' => ∃ (v3 v4 : Option V), σ = [some (.ref ax), some (.int n), some (.ref c), v3, v4] ∧ Same H H' ∧
      ∀ j e, j < i → ds[j]? = some e → isTieD n e = true) ?_ ?_ ?_ ?_⟩
    · exact ⟨none, none, rfl, Same.refl _, fun j e hj => absurd hj (Nat.not_lt_zero _)⟩
    · rintro i σ H' _ ⟨v3, v4, rfl, sH, _⟩
      exact sqT_same sH hys
    · rintro i y0 σ H2 H' hi ⟨v3, v4, rfl, s2, hall⟩ ⟨q, y, z, rfl, hq, rfl, hy, hz⟩
      have hy' : some (V.int i) = some y := hy
      cases hy'
      have hz' : ys[i]? = some z := hz
      obtain ⟨e, he, hze⟩ := dmAll_get hds hz'
      have sq := same_new (o := .tup [.int i, z]) hq
      refine ⟨q, _, rfl, SqT.of upd_same, rfl, _, _, rfl, _, _, rfl, rfl, ?_⟩
      refine ⟨_, rfl, _, rfl, N, md, z, e, n, rfl, dm_same (s2.trans sq) hze, _, rfl, ite2 (fun h4 => ?_) (fun h4 => ?_)⟩
      · refine ⟨_, rfl, by show 2 ≤ sizeLine; decide, fun p hp => ?_⟩
        exact k _ _ ((s2.trans sq).trans (same_new hp)) (by rw [webE_tie hn h3 (badAt_first hall he (by simpa using h4))]; exact .tup (SqT.of upd_same) (.cons (.str _) (.cons (.int _) .nil)))
      · refine ⟨_, _, rfl, s2.trans sq, fun j e2 hj hj2 => ?_⟩
        by_cases ej : j = i
        · subst ej
          rw [he] at hj2
          cases hj2
          simpa using h4
        · exact hall j e2 (by omega) hj2
    · rintro σ H2 ⟨v3, v4, rfl, s2, hall⟩
      have hall' : ∀ d ∈ ds, isTieD n d = true := fun d hd => by
        obtain ⟨j, hj⟩ := List.getElem?_of_mem hd
        exact hall j d (by rw [hyl]; exact (List.getElem?_eq_some_iff.mp hj).1) hj
      obtain ⟨m, rfl⟩ : ∃ m : Nat, n = (m : Int) := ⟨n.toNat, by omega⟩
      have ed := tie_maps hall'
      generalize ets : ds.map tieOf = ts at ed
      have htl : ts.length = ds.length := by rw [← ets, List.length_map]
      subst ed
      have hts : ∀ t ∈ ts, t.1 < t.2 ∧ t.2 < m := fun t ht => by
        have h := tieD_of (hall' (tieD t) (List.mem_map_of_mem ht))
        rw [tie_of_tieD] at h
        omega
      have hw : Dp K H2 (.ref ax) (webD m ts) := dm_dp _ (web_nodict m ts).1 (dm_same s2 hx)
      have hm12 : 1 ≤ m ∧ m ≤ 12 := by omega
      have k' : ∀ (u : V) (H' : Hp), Same H H' → Dp K H' u (webE (webD m ts)) → Q u H' := k
      refine tSeq_go ?_
      refine ⟨_, rfl, _, rfl, _, m, ts, rfl, hw, by omega, fun ue H3 s3 hue => ?_⟩
      refine ⟨_, ue, m, ts, _, 0, rfl, dp_same s3 _ hw, hue, hts, fun j hj => List.mem_range.mp hj, by omega, by omega, by rw [List.length_range]; omega, fun up ps H4 s4 hup hps hway h0 hshut => ?_⟩
      obtain ⟨ap, rfl, hap⟩ := dp_lotN hup
      refine ⟨ap, _, rfl, .inr hap, _, rfl, _, _, rfl, rfl, _, rfl, ite2 (fun h5 => ?_) (fun h5 => ?_)⟩
      all_goals
        have hj := found_joined (n := m) (ts := ts) (fnd := ps) (by omega) (hps.imp fun {x y} z => Nat.ne_of_lt z) (fun p hp => (hway p hp).1) h0 (fun p hp => (hway p hp).2) (fun t ht => by
          obtain ⟨j, hj⟩ := List.getElem?_of_mem ht
          have hjm : j ∈ List.range ts.length := List.mem_range.mpr (List.getElem?_eq_some_iff.mp hj).1
          exact ⟨fun q => (hshut _ q j hjm t hj).1 rfl, fun q => (hshut _ q j hjm t hj).2 rfl⟩)
        have hl : (natsV ps).length = ps.length := by unfold natsV; rw [List.length_map]
      · have h5 := of_decide_eq_true h5
        exact k' _ _ ((s2.trans s3).trans s4) (by rw [(webE_all hm12 (by omega) hts).2 (hj.mp (by omega))]; exact .str _)
      · have h5 : ¬ ps.length < m := fun z => h5 (decide_eq_true (by omega))
        exact k' _ _ ((s2.trans s3).trans s4) (by rw [(webE_all hm12 (by omega) hts).1 (Classical.byContradiction fun z => h5 (hj.mpr z))]; exact .non)
end
end BV

namespace BV
open PySem L2
abbrev sFrom : Stmt := top 19
abbrev nFrom : List Str := ["_law_thing", "_law_low", "_law_high"]
abbrev pFrom : List Str := ["_law_thing", "_law_low", "_law_high"]
theorem scFrom : FnScope nFrom pFrom (defScope sFrom) := ⟨rfl, rfl, rfl, by decide +kernel, rfl, by decide +kernel, by decide +kernel⟩
abbrev sLerr : Stmt := top 20
abbrev nLerr : List Str := ["_law_thing", "_law_many", "_law_ties", "_law_k", "_law_item", "_law_met", "_law_turn", "_law_one", "_law_other", "_law_place"]
abbrev pLerr : List Str := ["_law_thing"]
theorem scLerr : FnScope nLerr pLerr (defScope sLerr) := ⟨rfl, rfl, rfl, by decide +kernel, rfl, by decide +kernel, by decide +kernel⟩
theorem isTie_row {n : Int} {d : PyData} (h : isRow d 2 = false) : isTieD n d = false := by
  unfold isTieD
  split
  · simp [isRow] at h
  · rfl
section
variable {P : Program} {w : World} {K : PySem.W.Frag} {mg : Str → Option Value} {base : Heap}
theorem ok_from {f : Addr} {fd : FuncData} (D : Df K mg "_law_is_from" sFrom pFrom f fd) (T : Bl mg) (hisinstance : mg "isinstance" = none) (hbool : mg "bool" = none) : FnOk P w K mg base CX0 1 f fd pFrom (spWithin K) := by
  refine D.fn.ok scFrom (fun vs H Q E h => ?_) (fun cdv A outer s H vs Q E hr h => ?_)
  · obtain ⟨N, md, x, d, lo, hi, rfl, _⟩ := h
    rfl
  · obtain ⟨N, md, x, d, lo, hi, rfl, hx, k⟩ := h
    have nd := scFrom.nd
    refine ⟨_, (pss_one (ps_ret (pe_and (pe_callB (isiM K N md) (by rfl) hisinstance (by decide +kernel) (pa_cons (pv 0) (pa_cons (pe_bltn (v := .ty "int") (by rfl) T.int (by decide +kernel) rfl) pa_nil))) (pe_and (pe_not (pe_callB (isiM K N md) (by rfl) hisinstance (by decide +kernel) (pa_cons (pv 0) (pa_cons (pe_bltn (v := .ty "bool") (by rfl) hbool (by decide +kernel) rfl) pa_nil)))) (pe_and (pe_cmpR op_le (pv 1) (pv 0) (nomark _)) (pe_one (pe_cmpR op_le (pv 0) (pv 2) (nomark _)))))))), ?_⟩
    refine ⟨_, rfl, x, d, "int", _, rfl, hx, kit_int d, ?_⟩
    refine ⟨_, rfl, ite2 (fun hh => ?_) (fun hh => ?_)⟩
    · refine ⟨_, rfl, x, d, "bool", _, rfl, hx, kit_bool d, _, rfl, ?_⟩
      refine ⟨_, rfl, ite2 (fun h1 => ?_) (fun h1 => ?_)⟩
      · cases d with
        | int i =>
          cases hx
          refine ⟨_, rfl, _, rfl, lo, i, rfl, rfl, ?_⟩
          refine ⟨_, rfl, ite2 (fun h1 => ?_) (fun h1 => ?_)⟩
          · have h1 := of_decide_eq_true h1
            refine ⟨_, rfl, _, rfl, i, hi, rfl, rfl, ?_⟩
            have e : intIn (.int i) lo hi = decide (i ≤ hi) := decide_eq_decide.mpr ⟨fun z => z.2, fun z => ⟨h1, z⟩⟩
            rw [e] at k
            exact k
          · have e : intIn (.int i) lo hi = false := decide_eq_false fun z => h1 (decide_eq_true z.1)
            rw [e] at k
            exact k
        | bool z => cases h1
        | _ => cases hh
      · have e : intIn d lo hi = false := by cases d <;> simp_all [intIn, isBool]
        rw [e] at k
        exact k
    · have e : intIn d lo hi = false := by cases d <;> simp_all [intIn, isIntB]
      rw [e] at k
      exact k
theorem ok_lerr {f f1 : Addr} {fd fd1 : FuncData} (D : Df K mg "_law_error" sLerr pLerr f fd) (T : Bl mg) (hisinstance : mg "isinstance" = none) (hbool : mg "bool" = none)
    (D_from : Df K mg "_law_is_from" sFrom pFrom f1 fd1) : FnOk P w K mg base CX0 2 f fd pLerr (spWerr K) := by
  have G_from : FnOk P w K mg base CX0 1 f1 fd1 pFrom (spWithin K) := ok_from D_from T hisinstance hbool
  refine D.fn.ok scLerr (fun vs H Q E h => ?_) (fun cdv A outer s H vs Q E hr h => ?_)
  · obtain ⟨N, md, x, d, rfl, _⟩ := h
    rfl
  · obtain ⟨N, md, x, d, rfl, hx, k⟩ := h
    have nd := scLerr.nd
    have hr_from : Room 1 _ := hr
    refine ⟨_, (pss_cons (ps_if (PW.pt (pw_or (pt_not (pt_val (pe_callB (isiM K N md) (by rfl) hisinstance (by decide +kernel) (pa_cons (pv 0) (pa_cons (pe_bltn (v := .ty "tuple") (by rfl) T.tuple (by decide +kernel) rfl) pa_nil))))) (pw_or (pt_cmpR op_ne (pe_callB (lenK K) (by rfl) T.len PySem.boot_len (pa_cons (pv 0) pa_nil)) pe_int (nomark _)) (pw_or1 (pt_not (pt_val (pe_call G_from hr_from (by rfl) D_from.ad D_from.fn.kp D_from.bd .nil pass0 (pa_cons (pe_ix (ixT K) (pv 0) pe_int (fun _ _ => rfl)) (pa_cons pe_int (pa_cons pe_int pa_nil)))))))))) (pss_one (ps_ret pe_str)) pss_nil)
      (pss_cons (ps_asg (pv 0) (pgT K rfl (pgs_cons (pg_name (i := 1) nd rfl (by first | exact Or.inl rfl | exact Or.inr rfl)) (pgs_cons (pg_name (i := 2) nd rfl (by first | exact Or.inl rfl | exact Or.inr rfl)) pgs_nil))))
      (pss_cons (ps_if (PW.pt (pw_or (pt_not (pt_val (pe_callB (isiM K N md) (by rfl) hisinstance (by decide +kernel) (pa_cons (pv 2) (pa_cons (pe_bltn (v := .ty "tuple") (by rfl) T.tuple (by decide +kernel) rfl) pa_nil))))) (pw_or1 (pt_cmpR op_gt (pe_callB (lenK K) (by rfl) T.len PySem.boot_len (pa_cons (pv 2) pa_nil)) pe_int (nomark _))))) (pss_one (ps_ret pe_str)) pss_nil)
      (pss_cons (ps_for PassesOwn.never rfl (enumT K (by rfl) T.enumerate (pa_cons (pv 2) pa_nil)) (pgT K rfl (pgs_cons (pg_name (i := 3) nd rfl (by first | exact Or.inl rfl | exact Or.inr rfl)) (pgs_cons (pg_name (i := 4) nd rfl (by first | exact Or.inl rfl | exact Or.inr rfl)) pgs_nil))) (pss_cons (ps_if (PW.pt (pw_or (pt_not (pt_val (pe_callB (isiM K N md) (by rfl) hisinstance (by decide +kernel) (pa_cons (pv 4) (pa_cons (pe_bltn (v := .ty "tuple") (by rfl) T.tuple (by decide +kernel) rfl) pa_nil))))) (pw_or1 (pt_cmpR op_ne (pe_callB (lenK K) (by rfl) T.len PySem.boot_len (pa_cons (pv 4) pa_nil)) pe_int (nomark _))))) (pss_one (ps_ret (pe_tup (pa_cons pe_str (pa_cons (pv 3) pa_nil))))) pss_nil)
      (pss_one (ps_if (PW.pt (pw_or (pt_not (pt_val (pe_call G_from hr_from (by rfl) D_from.ad D_from.fn.kp D_from.bd .nil pass0 (pa_cons (pe_ix (ixT K) (pv 4) pe_int (fun _ _ => rfl)) (pa_cons pe_int (pa_cons (pe_op op_sub (pv 1) pe_int) pa_nil)))))) (pw_or (pt_not (pt_val (pe_call G_from hr_from (by rfl) D_from.ad D_from.fn.kp D_from.bd .nil pass0 (pa_cons (pe_ix (ixT K) (pv 4) pe_int (fun _ _ => rfl)) (pa_cons pe_int (pa_cons (pe_op op_sub (pv 1) pe_int) pa_nil)))))) (pw_or1 (pt_cmpR op_ge (pe_ix (ixT K) (pv 4) pe_int (fun _ _ => rfl)) (pe_ix (ixT K) (pv 4) pe_int (fun _ _ => rfl)) (nomark _)))))) (pss_one (ps_ret (pe_tup (pa_cons pe_str (pa_cons (pv 3) pa_nil))))) pss_nil))))
      (pss_cons (ps_set (i := 5) nd rfl (by first | exact Or.inl rfl | exact Or.inr rfl) (pe_lst (pa_cons pe_int pa_nil)))
      (pss_cons (ps_for PassesOwn.never rfl (pi_range1 rfl T.range (pa_cons (pv 1) pa_nil)) (pg_name (i := 6) nd rfl (by first | exact Or.inl rfl | exact Or.inr rfl)) (pss_cons (ps_set (i := 5) nd rfl (by first | exact Or.inl rfl | exact Or.inr rfl) (pe_op op_cat (pv 5) (pe_lc (own := [("_law_one", 7), ("_law_other", 8)]) (g := (gTup K 2 (gCons (gName 7) (gCons (gName 8) gNil)))) rfl nd (piT K (pv 2)) (blkOk_by (own := [("_law_one", 7), ("_law_other", 8)]) (N := nLerr) (sc := defScope sLerr) (by decide +kernel)) (fun _ _ _ _ _ => (pgT K rfl (pgs_cons (pg_name (i := 7) nd rfl (by first | exact Or.inl rfl | exact Or.inr rfl)) (pgs_cons (pg_name (i := 8) nd rfl (by first | exact Or.inl rfl | exact Or.inr rfl)) pgs_nil)))) (fun _ _ _ _ _ => (pts_one (PW.pt (pw_and (pt_cmpR (opIn K) (pv 7) (pv 5) rfl) (pw_and1 (pt_cmpR (opNotIn K) (pv 8) (pv 5) rfl)))))) (fun _ _ _ _ _ => (pv 8)))))
      (pss_one (ps_set (i := 5) nd rfl (by first | exact Or.inl rfl | exact Or.inr rfl) (pe_op op_cat (pv 5) (pe_lc (own := [("_law_one", 7), ("_law_other", 8)]) (g := (gTup K 2 (gCons (gName 7) (gCons (gName 8) gNil)))) rfl nd (piT K (pv 2)) (blkOk_by (own := [("_law_one", 7), ("_law_other", 8)]) (N := nLerr) (sc := defScope sLerr) (by decide +kernel)) (fun _ _ _ _ _ => (pgT K rfl (pgs_cons (pg_name (i := 7) nd rfl (by first | exact Or.inl rfl | exact Or.inr rfl)) (pgs_cons (pg_name (i := 8) nd rfl (by first | exact Or.inl rfl | exact Or.inr rfl)) pgs_nil)))) (fun _ _ _ _ _ => (pts_one (PW.pt (pw_and (pt_cmpR (opIn K) (pv 8) (pv 5) rfl) (pw_and1 (pt_cmpR (opNotIn K) (pv 7) (pv 5) rfl)))))) (fun _ _ _ _ _ => (pv 7))))))))
      (pss_one (ps_ret (pe_ifExp (pt_cmpR (opNeD K hr.units) (pe_lc (own := [("_law_place", 9)]) (g := (gName 9)) rfl nd (pi_range1 rfl T.range (pa_cons (pv 1) pa_nil)) (blkOk_by (own := [("_law_place", 9)]) (N := nLerr) (sc := defScope sLerr) (by decide +kernel)) (fun _ _ _ _ _ => (pg_name (i := 9) nd rfl (by first | exact Or.inl rfl | exact Or.inr rfl))) (fun _ _ _ _ _ => (pts_one (pt_cmpR (opNotIn K) (pv 9) (pv 5) rfl))) (fun _ _ _ _ _ => pe_int)) (pe_lst pa_nil) (nomark _)) pe_str pe_non))))))))), ?_⟩
    refine tSeq_go ?_
    refine ⟨_, rfl, x, d, "tuple", _, rfl, hx, kit_tup d, _, rfl, ite2 (fun hh => ?_) (fun hh => ?_)⟩
    · refine iteT ?_
      have e : isRow d 2 = false := by cases d <;> simp_all [isTup, isRow]
      exact k _ _ (Same.refl _) (by rw [webE_row e]; exact .str _)
    obtain ⟨d2, rfl⟩ : ∃ ds, d = .tuple ds := by
      cases d with
      | tuple ds => exact ⟨ds, rfl⟩
      | _ => simp [isTup] at hh
    obtain ⟨ax, xs, rfl, hxs, hds⟩ := dm_tup hx
    have hxl := dmAll_len hds
    refine ⟨_, rfl, ax, xs, rfl, .inr hxs, rfl, _, rfl, ite2 (fun h0 => ?_) (fun h0 => ?_)⟩
    · refine iteT ?_
      have e : isRow (.tuple d2) 2 = false := by
        rw [hxl] at h0
        have h0 : ¬ (V.int ((d2.length : Nat) : Int) = V.int 2) := by simpa using h0
        exact decide_eq_false fun z => h0 (by rw [z])
      exact k _ _ (Same.refl _) (by rw [webE_row e]; exact .str _)
    obtain ⟨a, b, ee⟩ := row_two (d := .tuple d2) (decide_eq_true (by
      have h0 : V.int ((xs.length : Nat) : Int) = V.int 2 := by simpa using h0
      have := V.int.inj h0
      omega))
    cases ee
    cases hds with
    | cons q1 q2 =>
    cases q2 with
    | cons q3 q4 =>
    cases q4
    rename_i va vb
    refine ⟨_, rfl, ax, _, _, _, rfl, rfl, hxs, atI_nat (j := 0) rfl, N, md, _, a, 1, 12, rfl, q1, _, rfl, ite2 (fun h1 => ?_) (fun h1 => ?_)⟩
    · exact k _ _ (Same.refl _) (by rw [webE_many (by simpa using h1)]; exact .str _)
    have h1 : intIn a 1 12 = true := by simpa using h1
    obtain ⟨n, rfl⟩ := int_of h1
    have hn : 1 ≤ n ∧ n ≤ 12 := of_decide_eq_true h1
    cases q1
    dsimp only [tNext]
    refine tSeq_go ?_
    refine ⟨_, rfl, ax, _, rfl, hxs, rfl, _, _, rfl, _, _, rfl, rfl, ?_⟩
    refine at_st [some (.ref ax), some (.int n), some vb, none, none, none, none, none, none, none] rfl ?_
    refine tSeq_go ?_
    refine ⟨_, rfl, vb, b, "tuple", _, rfl, q3, kit_tup b, _, rfl, ite2 (fun h2 => ?_) (fun h2 => ?_)⟩
    · refine iteT ?_
      exact k _ _ (Same.refl _) (by rw [webE_ties (by simpa using h2)]; exact .str _)
    obtain ⟨ds, rfl⟩ : ∃ ds, b = .tuple ds := by
      cases b with
      | tuple ds => exact ⟨ds, rfl⟩
      | _ => simp [isTup] at h2
    obtain ⟨c, ys, rfl, hys, hds⟩ := dm_tup q3
    have hyl := dmAll_len hds
    refine ⟨_, rfl, c, ys, rfl, .inr hys, _, _, rfl, rfl, _, rfl, ite2 (fun h3 => ?_) (fun h3 => ?_)⟩
    · have h3 := of_decide_eq_true h3
      exact k _ _ (Same.refl _) (by rw [webE_long (by omega)]; exact .str _)
    have h3 : ds.length ≤ 40 := Classical.byContradiction fun z => h3 (decide_eq_true (by omega))
    dsimp only [tNext]
    refine tSeq_go ?_
    refine ⟨_, rfl, c, ys, rfl, hys, for_it (walk_enumT (xs := ys)) (fun i σ H' => ∃ (v3 v4 : Option V), σ = [some (.ref ax), some (.int n), some (.ref c), v3, v4, none, none, none, none, none] ∧ Same H H' ∧
      ∀ j e, j < i → ds[j]? = some e → isTieD n e = true) ?_ ?_ ?_ ?_⟩
    · exact ⟨none, none, rfl, Same.refl _, fun j e hj => absurd hj (Nat.not_lt_zero _)⟩
    · rintro i σ H' _ ⟨v3, v4, rfl, sH, _⟩
      exact sqT_same sH hys
    · rintro i y0 σ H2 H' hi ⟨v3, v4, rfl, s2, hall⟩ ⟨q, y, z, rfl, hq, rfl, hy, hz⟩
      have hy' : some (V.int i) = some y := hy
      cases hy'
      have hz' : ys[i]? = some z := hz
      obtain ⟨e, he, hze⟩ := dmAll_get hds hz'
      have sq := same_new (o := .tup [.int i, z]) hq
      have hze := dm_same (s2.trans sq) hze
      have hback : isTieD n e = false → ∀ (p : Addr) H8, Same H H8 → H8 p = some (.tup [.str "tie", .int (i : Nat)]) → Q (.ref p) H8 := fun hf p H8 s8 hp => by
        refine k _ _ s8 ?_
        rw [webE_tie hn h3 (badAt_first hall he (by rw [hf]; decide))]
        exact .tup (SqT.of hp) (.cons (.str _) (.cons (.int _) .nil))
      refine ⟨q, _, rfl, SqT.of upd_same, rfl, _, _, rfl, _, _, rfl, rfl, ?_⟩
      refine tSeq_go ?_
      refine ⟨_, rfl, z, e, "tuple", _, rfl, hze, kit_tup e, _, rfl, ite2 (fun g1 => ?_) (fun g1 => ?_)⟩
      · refine iteT ?_
        refine ⟨_, rfl, by show 2 ≤ sizeLine; decide, fun p hp => ?_⟩
        refine hback (isTie_row ?_) _ _ ((s2.trans sq).trans (same_new hp)) upd_same
        cases e <;> simp_all [isTup, isRow]
      obtain ⟨e2, rfl⟩ : ∃ ds, e = .tuple ds := by
        cases e with
        | tuple ds => exact ⟨ds, rfl⟩
        | _ => simp [isTup] at g1
      obtain ⟨ae, zs, rfl, hzs, hes⟩ := dm_tup hze
      have hzl := dmAll_len hes
      refine ⟨_, rfl, ae, zs, rfl, .inr hzs, rfl, _, rfl, ite2 (fun g2 => ?_) (fun g2 => ?_)⟩
      · refine ⟨_, rfl, by show 2 ≤ sizeLine; decide, fun p hp => ?_⟩
        refine hback (isTie_row ?_) _ _ ((s2.trans sq).trans (same_new hp)) upd_same
        rw [hzl] at g2
        have g2 : ¬ (V.int ((e2.length : Nat) : Int) = V.int 2) := by simpa using g2
        exact decide_eq_false fun z => g2 (by rw [z])
      obtain ⟨a, b, ee⟩ := row_two (d := .tuple e2) (decide_eq_true (by
        have g2 : V.int ((zs.length : Nat) : Int) = V.int 2 := by simpa using g2
        have := V.int.inj g2
        omega))
      cases ee
      cases hes with
      | cons w1 w2 =>
      cases w2 with
      | cons w3 w4 =>
      cases w4
      rename_i za zb
      rw [isTie_two] at hback
      dsimp only [tNext]
      refine ⟨_, rfl, ae, _, _, _, rfl, rfl, hzs, atI_nat (j := 0) rfl, _, rfl, n, 1, rfl, rfl, N, md, _, a, 0, n - 1, rfl, w1, _, rfl, ite2 (fun g3 => ?_) (fun g3 => ?_)⟩
      · refine iteT ?_
        refine ⟨_, rfl, by show 2 ≤ sizeLine; decide, fun p hp => ?_⟩
        have g3 : intIn a 0 (n - 1) = false := by simpa using g3
        exact hback (by rw [g3, Bool.false_and]) _ _ ((s2.trans sq).trans (same_new hp)) upd_same
      have g3 : intIn a 0 (n - 1) = true := by simpa using g3
      refine ⟨_, rfl, ae, _, _, _, rfl, rfl, hzs, atI_nat (j := 1) rfl, _, rfl, n, 1, rfl, rfl, N, md, _, b, 0, n - 1, rfl, w3, _, rfl, ite2 (fun g4 => ?_) (fun g4 => ?_)⟩
      · refine iteT ?_
        refine ⟨_, rfl, by show 2 ≤ sizeLine; decide, fun p hp => ?_⟩
        have g4 : intIn b 0 (n - 1) = false := by simpa using g4
        exact hback (by rw [g4, Bool.false_and, Bool.and_false]) _ _ ((s2.trans sq).trans (same_new hp)) upd_same
      have g4 : intIn b 0 (n - 1) = true := by simpa using g4
      obtain ⟨ia, rfl⟩ := int_of g3
      obtain ⟨ib, rfl⟩ := int_of g4
      cases w1
      cases w3
      refine ⟨_, rfl, ae, _, _, _, rfl, rfl, hzs, atI_nat (j := 0) rfl, _, rfl, ae, _, _, _, rfl, rfl, hzs, atI_nat (j := 1) rfl, ia, ib, rfl, rfl, _, rfl, ite2 (fun g5 => ?_) (fun g5 => ?_)⟩
      · have g5 := of_decide_eq_true g5
        refine ⟨_, rfl, by show 2 ≤ sizeLine; decide, fun p hp => ?_⟩
        refine hback ?_ _ _ ((s2.trans sq).trans (same_new hp)) upd_same
        have : ltD (.int ia) (.int ib) = false := decide_eq_false (by omega)
        rw [this, Bool.and_false, Bool.and_false]
      · have g5 : ¬ ib ≤ ia := fun z => g5 (decide_eq_true z)
        refine ⟨_, _, rfl, s2.trans sq, fun j e2 hj hj2 => ?_⟩
        by_cases ej : j = i
        · subst ej
          rw [he] at hj2
          cases hj2
          have : ltD (.int ia) (.int ib) = true := decide_eq_true (by omega)
          rw [isTie_two, g3, g4, this]
          rfl
        · exact hall j e2 (by omega) hj2
    · rintro σ H2 ⟨v3, v4, rfl, s2, hall⟩
      have hall' : ∀ d ∈ ds, isTieD n d = true := fun d hd => by
        obtain ⟨j, hj⟩ := List.getElem?_of_mem hd
        exact hall j d (by rw [hyl]; exact (List.getElem?_eq_some_iff.mp hj).1) hj
      obtain ⟨m, rfl⟩ : ∃ m : Nat, n = (m : Int) := ⟨n.toNat, by omega⟩
      have ed := tie_maps hall'
      generalize ets : ds.map tieOf = ts at ed
      have htl : ts.length = ds.length := by rw [← ets, List.length_map]
      subst ed
      have hts : ∀ t ∈ ts, t.1 < t.2 ∧ t.2 < m := fun t ht => by
        have h := tieD_of (hall' (tieD t) (List.mem_map_of_mem ht))
        rw [tie_of_tieD] at h
        omega
      have hm12 : 1 ≤ m ∧ m ≤ 12 := by omega
      have k' : ∀ (u : V) (H' : Hp), Same H H' → Dp K H' u (webE (webD m ts)) → Q u H' := k
      have tie_nodict : ∀ t : Tie, (tieD t).hasDict = false := fun t => by simp [tieD, PyData.hasDict, PyData.hasDictAll]
      refine tSeq_go ?_
      refine ⟨by decide, fun l0 hl0 => ?_⟩
      have s5 := same_new (o := .lst [.int 0]) hl0
      dsimp only [gName]
      refine at_st [some (.ref ax), some (.int (m : Nat)), some (.ref c), v3, v4, some (.ref l0), none, none, none, none] rfl ?_
      refine tSeq_go ?_
      refine ⟨_, rfl, _, rfl, by omega, by omega, for_range (lo := 0) (n := (m : Int).toNat) (fun i σ H' => ∃ (v6 : Option V) (l : Addr), σ = [some (.ref ax), some (.int (m : Nat)), some (.ref c), v3, v4, some (.ref l), v6, none, none, none] ∧ Same H H' ∧
        H' l = some (.lst (natsV (mets ts i)))) ?_ ?_ ?_⟩
      · exact ⟨none, l0, rfl, s2.trans s5, upd_same⟩
      · rintro i σ H4 hi ⟨v6, l, rfl, s4, hL⟩
        have hi2 : i < m := by omega
        have hml := len_mets ts i
        have hml2 : (mets ts i).length ≤ 1 + 12 * 80 := Nat.le_trans hml (Nat.add_le_add_left (Nat.mul_le_mul (by omega) (by omega)) 1)
        generalize hMM : mets ts i = MM at *
        show tSeq _ _ _ _ _
        refine tSeq_go ?_
        refine ⟨_, rfl, _, rfl, c, rfl, ⟨_, sqT_same s4 hys⟩, fun E1 hE1 => ?_⟩
        refine lc_run (walk_tup (xs := ys)) hE1 (fun i acc _ => acc = natsV (((ts.take i).filter fun t => decide (t.1 ∈ MM) && decide (t.2 ∉ MM)).map (·.2))) ?_ ?_ ?_ ?_
        · exact fun H' s => sqT_same (s4.trans s) hys
        · rfl
        · rintro j x acc H3 H' hj hacc e s r ⟨rfl, hx⟩
          obtain ⟨dd, hdd, hdp⟩ := dmAll_get hds hx
          obtain ⟨t, ht, rfl⟩ := get_map hdd
          obtain ⟨az, rfl, haz⟩ := dp_tie (dm_dp _ (tie_nodict t) (dm_same (s4.trans s) hdp))
          have hL3 : H' l = some (.lst (natsV MM)) := s _ _ hL
          have r' : acc = natsV (((ts.take j).filter fun t => decide (t.1 ∈ MM) && decide (t.2 ∉ MM)).map (·.2)) := r
          have hal : acc.length ≤ 1000 := by
            rw [r']
            unfold natsV
            rw [List.length_map, List.length_map]
            exact Nat.le_trans (List.length_filter_le _ _) (by rw [List.length_take]; omega)
          have htk : ts.take (j + 1) = ts.take j ++ [t] := by
            rw [List.take_add_one, ht]
            rfl
          refine ⟨az, _, rfl, haz, rfl, _, _, rfl, _, _, rfl, rfl, rfl, ?_⟩
          refine ⟨_, rfl, _, rfl, l, _, rfl, .inl (SqL.of hL3), rfl, flat_nats MM, _, rfl, ?_⟩
          have key1 : inV (V.int (t.1 : Int)) (natsV MM) = decide (t.1 ∈ MM) := inv_nats _ _
          have key2 : inV (V.int (t.2 : Int)) (natsV MM) = decide (t.2 ∈ MM) := inv_nats _ _
          refine ite2 (fun hh => ?_) (fun hh => ?_)
          · have hh : decide (t.1 ∈ MM) = true := by rw [← key1]; exact hh
            refine ⟨_, rfl, _, rfl, l, _, rfl, .inl (SqL.of hL3), rfl, flat_nats MM, _, rfl, ?_⟩
            refine ite2 (fun h2 => ?_) (fun h2 => ?_)
            · have h2 : decide (t.2 ∈ MM) = false := by rw [← key2]; simpa using h2
              refine ⟨_, rfl, ?_⟩
              refine lc_add hacc e (Same.refl _) (by omega) ?_
              show _ = _
              have h2' : decide (t.2 ∉ MM) = true := decide_eq_true (of_decide_eq_false h2)
              rw [htk, List.filter_append, List.filter_cons, if_pos (by rw [hh, h2']; rfl), r', List.map_append]
              unfold natsV
              rw [List.map_append]
              rfl
            · have h2 : decide (t.2 ∈ MM) = true := by rw [← key2]; simpa using h2
              refine lc_skip hacc e (Same.refl _) ?_
              show _ = _
              have h2' : decide (t.2 ∉ MM) = false := decide_eq_false (fun z => z (of_decide_eq_true h2))
              rw [htk, List.filter_append, List.filter_cons, if_neg (by rw [h2', Bool.and_false]; decide), r']
              simp
          · have hh : decide (t.1 ∈ MM) = false := by rw [← key1]; simpa using hh
            refine iteF ?_
            refine lc_skip hacc e (Same.refl _) ?_
            show _ = _
            rw [htk, List.filter_append, List.filter_cons, if_neg (by rw [hh, Bool.false_and]; decide), r']
            simp
        rintro acc H3 h1 s3 r
        have r' : acc = natsV (((ts.take ys.length).filter fun t => decide (t.1 ∈ MM) && decide (t.2 ∉ MM)).map (·.2)) := r
        rw [List.take_of_length_le (by omega)] at r'
        have eM : natsV MM ++ acc = natsV (mUp ts MM) := by
          rw [r']
          unfold natsV mUp
          rw [List.map_append]
        have eMl : (mUp ts MM).length ≤ 1041 := by
          unfold mUp
          rw [List.length_append, List.length_map]
          have := List.length_filter_le (fun t => decide (t.1 ∈ MM) && decide (t.2 ∉ MM)) ts
          omega
        refine ⟨l, E1, natsV MM, acc, rfl, rfl, s3 _ _ hL, h1, ?_, fun p1 hp1 => ?_⟩
        · rw [← List.length_append, eM]
          unfold natsV
          rw [List.length_map]
          exact Nat.le_trans eMl (by decide)
        rw [eM]
        have s6 := (s4.trans s3).trans (same_new (o := .lst (natsV (mUp ts MM))) hp1)
        have hL6 : (upd H3 p1 (.lst (natsV (mUp ts MM)))) p1 = some (.lst (natsV (mUp ts MM))) := upd_same
        generalize upd H3 p1 (.lst (natsV (mUp ts MM))) = H6 at *
        clear s3 h1 hL r r' eM hp1 hE1
        dsimp only [gName]
        refine at_st [some (.ref ax), some (.int (m : Nat)), some (.ref c), v3, v4, some (.ref p1), some (.int (0 + (i : Int))), none, none, none] rfl ?_
        generalize hNN : mUp ts MM = NN at *
        refine ⟨_, rfl, _, rfl, c, rfl, ⟨_, sqT_same s6 hys⟩, fun E1 hE1 => ?_⟩
        refine lc_run (walk_tup (xs := ys)) hE1 (fun i acc _ => acc = natsV (((ts.take i).filter fun t => decide (t.2 ∈ NN) && decide (t.1 ∉ NN)).map (·.1))) ?_ ?_ ?_ ?_
        · exact fun H' s => sqT_same (s6.trans s) hys
        · rfl
        · rintro j x acc H3 H' hj hacc e s r ⟨rfl, hx⟩
          obtain ⟨dd, hdd, hdp⟩ := dmAll_get hds hx
          obtain ⟨t, ht, rfl⟩ := get_map hdd
          obtain ⟨az, rfl, haz⟩ := dp_tie (dm_dp _ (tie_nodict t) (dm_same (s6.trans s) hdp))
          have hL3 : H' p1 = some (.lst (natsV NN)) := s _ _ hL6
          have r' : acc = natsV (((ts.take j).filter fun t => decide (t.2 ∈ NN) && decide (t.1 ∉ NN)).map (·.1)) := r
          have hal : acc.length ≤ 1000 := by
            rw [r']
            unfold natsV
            rw [List.length_map, List.length_map]
            exact Nat.le_trans (List.length_filter_le _ _) (by rw [List.length_take]; omega)
          have htk : ts.take (j + 1) = ts.take j ++ [t] := by
            rw [List.take_add_one, ht]
            rfl
          refine ⟨az, _, rfl, haz, rfl, _, _, rfl, _, _, rfl, rfl, rfl, ?_⟩
          refine ⟨_, rfl, _, rfl, p1, _, rfl, .inl (SqL.of hL3), rfl, flat_nats NN, _, rfl, ?_⟩
          have key1 : inV (V.int (t.2 : Int)) (natsV NN) = decide (t.2 ∈ NN) := inv_nats _ _
          have key2 : inV (V.int (t.1 : Int)) (natsV NN) = decide (t.1 ∈ NN) := inv_nats _ _
          refine ite2 (fun hh => ?_) (fun hh => ?_)
          · have hh : decide (t.2 ∈ NN) = true := by rw [← key1]; exact hh
            refine ⟨_, rfl, _, rfl, p1, _, rfl, .inl (SqL.of hL3), rfl, flat_nats NN, _, rfl, ?_⟩
            refine ite2 (fun h2 => ?_) (fun h2 => ?_)
            · have h2 : decide (t.1 ∈ NN) = false := by rw [← key2]; simpa using h2
              refine ⟨_, rfl, ?_⟩
              refine lc_add hacc e (Same.refl _) (by omega) ?_
              show _ = _
              have h2' : decide (t.1 ∉ NN) = true := decide_eq_true (of_decide_eq_false h2)
              rw [htk, List.filter_append, List.filter_cons, if_pos (by rw [hh, h2']; rfl), r', List.map_append]
              unfold natsV
              rw [List.map_append]
              rfl
            · have h2 : decide (t.1 ∈ NN) = true := by rw [← key2]; simpa using h2
              refine lc_skip hacc e (Same.refl _) ?_
              show _ = _
              have h2' : decide (t.1 ∉ NN) = false := decide_eq_false (fun z => z (of_decide_eq_true h2))
              rw [htk, List.filter_append, List.filter_cons, if_neg (by rw [h2', Bool.and_false]; decide), r']
              simp
          · have hh : decide (t.2 ∈ NN) = false := by rw [← key1]; simpa using hh
            refine iteF ?_
            refine lc_skip hacc e (Same.refl _) ?_
            show _ = _
            rw [htk, List.filter_append, List.filter_cons, if_neg (by rw [hh, Bool.false_and]; decide), r']
            simp
        rintro acc H3 h1 s3 r
        have r' : acc = natsV (((ts.take ys.length).filter fun t => decide (t.2 ∈ NN) && decide (t.1 ∉ NN)).map (·.1)) := r
        rw [List.take_of_length_le (by omega)] at r'
        have eM : natsV NN ++ acc = natsV (mDown ts NN) := by
          rw [r']
          unfold natsV mDown
          rw [List.map_append]
        have eMl2 : (mDown ts NN).length ≤ 1100 := by
          unfold mDown
          rw [List.length_append, List.length_map]
          have := List.length_filter_le (fun t => decide (t.2 ∈ NN) && decide (t.1 ∉ NN)) ts
          omega
        refine ⟨p1, E1, natsV NN, acc, rfl, rfl, s3 _ _ hL6, h1, ?_, fun p2 hp2 => ?_⟩
        · rw [← List.length_append, eM]
          unfold natsV
          rw [List.length_map]
          exact Nat.le_trans eMl2 (by decide)
        rw [eM]
        refine ⟨_, p2, rfl, (s6.trans s3).trans (same_new hp2), ?_⟩
        rw [upd_same]
        show _ = some (HO.lst (natsV (mDown ts (mUp ts (mets ts i)))))
        rw [hMM, hNN]
      · rintro σ H4 ⟨v6, l, rfl, s4, hL⟩
        have hL : H4 l = some (.lst (natsV (mets ts m))) := hL
        refine ⟨_, rfl, _, rfl, by omega, by omega, fun E1 hE1 => ?_⟩
        refine lc_run (walk_range (lo := 0) (n := (m : Int).toNat)) hE1 (fun i acc _ => ∃ j : Nat, acc = (List.replicate j (1 : Int)).map V.int ∧ j ≤ i ∧ (j = 0 ↔ ∀ p, p < i → p ∈ mets ts m)) ?_ ?_ ?_ ?_
        · exact fun H' s => trivial
        · exact ⟨0, rfl, Nat.le_refl _, ⟨fun _ p hp => absurd hp (Nat.not_lt_zero _), fun _ => rfl⟩⟩
        · rintro i x acc H5 H' hi hacc e s ⟨j, rfl, hj, hj0⟩ ⟨rfl, hx⟩
          have hx : x = .int (0 + (i : Int)) := hx
          subst hx
          rw [Int.zero_add]
          refine ⟨rfl, _, rfl, _, rfl, l, _, rfl, .inl (SqL.of (s _ _ hL)), rfl, flat_nats _, _, rfl, ?_⟩
          have key : inV (V.int (i : Int)) (natsV (mets ts m)) = decide (i ∈ mets ts m) := inv_nats _ _
          refine ite2 (fun hh => ?_) (fun hh => ?_)
          · have hh : decide (i ∈ mets ts m) = false := by rw [← key]; simpa using hh
            refine lc_add hacc e (Same.refl _) (by rw [List.length_map, List.length_replicate]; omega) ⟨j + 1, ?_, by omega, ?_⟩
            · rw [List.replicate_succ', List.map_append]
              rfl
            · exact ⟨fun z => by omega, fun z => absurd (z i (by omega)) (of_decide_eq_false hh)⟩
          · have hh : decide (i ∈ mets ts m) = true := by rw [← key]; simpa using hh
            refine lc_skip hacc e (Same.refl _) ⟨j, rfl, by omega, ?_⟩
            rw [hj0]
            exact ⟨fun z p hp => by
              by_cases ep : p = i
              · rw [ep]
                exact of_decide_eq_true hh
              · exact z p (by omega), fun z p hp => z p (by omega)⟩
        · rintro acc H6 h1 s6 ⟨j, rfl, hj, hj0⟩
          have hj0 : j = 0 ↔ ∀ p, p < m → p ∈ mets ts m := hj0
          refine ⟨Nat.zero_le _, fun p hp => ?_⟩
          have sp := same_new (o := .lst []) hp
          refine ⟨.list ((List.replicate j (1 : Int)).map PyData.int), .list [], .lst (SqL.of (sp _ _ h1)) (dpAll_ints _), .lst (SqL.of upd_same) .nil, shaped_intsL _, shaped_intsL [], _, rfl, ?_⟩
          rw [ones_eqv]
          have hjj := hj0.trans (met_joined hm12.1 hts)
          refine ite2 (fun h5 => ?_) (fun h5 => ?_)
          · have h5 : ¬ j = 0 := by simpa using h5
            exact k' _ _ ((s4.trans s6).trans sp) (by rw [(webE_all hm12 (by omega) hts).2 fun z => h5 (hjj.mpr z)]; exact .str _)
          · have h5 : j = 0 := by simpa using h5
            exact k' _ _ ((s4.trans s6).trans sp) (by rw [(webE_all hm12 (by omega) hts).1 (hjj.mp h5)]; exact .non)
end
end BV

namespace BV
open PySem PySem.Spec PyProof.Rows L2
/-! ### an own error without arguments: raised, caught, looked at -/
section
variable {X : Cx} {C : Addr} {mr : List Value} {B n1 n2 : String}
theorem pmk_bare {x : Str} {p pos : Pos} (F : ExcBaseFacts B n1 n2 mr) (hq : PySem.W.excIn X.K C mr n1 = true) (hm : X.mg x = some (.ref C)) (hk : PySem.W.keepIn X.K (.ref C) = true) (hr : Raises X (.ref C)) (hg : Gl X x)
    (hdb : (x == ("__debug__" : Str)) = false := by decide) : PMk X (.Call (.Name x p) [] [] pos) (fun _ H Q => Q (.ref C) none H) := by
  intro pins ⟨hp, gn, dr, tk, os⟩ σ H Q J q0
  refine wpAny_Call_Name_kw (ld_glob J hg hm (PySem.W.callWith_K0 J.kIn hk ?_) hdb)
  have ⟨c1, c2, c3, c4, c5, c6, c7, c8, c9, d1, d2, d3, d4, d5, d6, d7, e1, e2, e3, e4, e5⟩ := exc_obj J.kIn hq
  exact wpAny_call_exc_subT F e5 e2 e3 e4 (fun _ _ made => mk_of J made hr q0 (J.hok.gone made.new)) (Nat.zero_le _)
end
/-- what is known of the class Unfit, under BothError -/
structure ErrU (K : PySem.W.Frag) (mg : Str → Option Value) (U B : Addr) : Prop where
  gU : mg "Unfit" = some (.ref U)
  gB : mg "BothError" = some (.ref B)
  gv : mg "ValueError" = none
  xU : PySem.W.excIn K U [.type "ValueError", .type "Exception", .type "BaseException", .type "object"] "ValueError.__new__" = true
  kU : PySem.W.keepIn K (.ref U) = true
  bU : PySem.W.subIn K (.ref U) (.type "BaseException") = some true
  tU : PySem.W.typeIn K (.ref U) = some (.type "type")
  te : PySem.W.exmOne K (.ref U) (.ref U) = some true
  ex : ExcC K U
  iv : PySem.W.kitOne K (.ref U) (.type "ValueError") = some true
  ib : PySem.W.kitOne K (.ref U) (.ref B) = some true
theorem ErrU.raises {X : Cx} {U B : Addr} (T : ErrU X.K X.mg U B) : Raises X (.ref U) := raises_own T.bU T.tU
theorem ps_unfit {X : Cx} {U B : Addr} {W : WX} {p pos pos2 : Pos} (hc : X.calm = true) (T : ErrU X.K X.mg U B) (tk : Takes X W) (hg : Gl X "Unfit" := by rfl) :
    PS X (.Raise (some (.Call (.Name "Unfit" p) [] [] pos)) none pos2) (fun _ σ H => W (.ref U) none σ H) :=
  ps_raise hc tk (pmk_bare PySem.F.excBase_ValueError T.xU T.gU T.kU T.raises hg)
/-- isinstance(e, c), e the error that the suite holds -/
def rIsX (K : PySem.W.Frag) (a : Addr) (cls : Value) (d : Option Addr) : List V → Hp → VK → Prop := fun xs H Q => ∃ U, ExcC K U ∧ cls = .ref U ∧ d = none ∧ rIsE K U a xs H Q
theorem isX {X : Cx} {a : Addr} {oe : Obj} {cls : Value} {d : Option Addr} {pn : List (Addr × Obj)} (hz : Zc cls d oe) (hf : ∃ vs, oe.data = .fields vs) : CallR (X.suite a ((a, oe) :: pn)) (.builtin "isinstance") (rIsX X.K a cls d) := by
  intro pins s σ H xs us Q J r h
  obtain ⟨U, hC, e1, e2, h⟩ := h
  subst e1 e2
  exact call_isE hC hz hf pins s σ H xs us Q J r h
section
variable {X : Cx} {CX : CXT} {k n : Nat} {f : Addr} {fd : FuncData} {ps ks : List Str} {sp : Sp} {dvs : List V} {ds : List Value}
  {E : L2.St → XK} {x : Str} {p pos : Pos} {tk : TA} {kws : List Keyword} {g : List Value → List Value → List Value} {gV : List V → List V → List V}
def tCallKS (m : Nat) (sp : Sp) (gV : List V → List V → List V) (E : L2.St → XK) (tk : TA) : TE := fun σ H Q => tk σ H fun zs H2 => zs.length = m ∧ sp (gV [] zs) H2 Q (E σ)
/-- f(k = v, ..), where what f raises is wished for at the slots -/
theorem pe_callKS (F : FnOk X.prog X.w X.K X.mg X.base CX k f fd ps sp) (hr : Room k X.A) (hg : Gl X x) (hm : X.mg x = some (.ref f)) (hk : PySem.W.keepIn X.K (.ref f) = true)
    (hb : KBn X.K fd ps 0 ks g gV) (hx : ∀ σ, PassesAt CX X σ (E σ)) (hkw : PK X kws tk)
    (hall : (backToKw pos (keywordEach kws X.env)).all (·.1.isSome) = true := by rfl) (hks : (backToKw pos (keywordEach kws X.env)).filterMap (·.1) = ks := by rfl)
    (hdb : (x == ("__debug__" : Str)) = false := by decide)
    (hpl : ((backTo pos (starEach [] X.env)).any (·.1) || (backToKw pos (keywordEach kws X.env)).any (·.1.isNone)) = false := by rfl) :
    PE X (.Call (.Name x p) [] kws pos) (tCallKS ks.length sp gV E tk) := by
  constructor
  intro pins s σ H Q J h
  refine wpAny_Call_Name_kw (ld_glob J hg hm ?_ hdb)
  refine PySem.W.callWith_KW0 (h₀ := X.base) J.ok.mod.kin hk hall (thn (hkw.run pos pins s σ H _ J h) fun ws s2 hh => ?_) hpl
  obtain ⟨zs, H2, J2, rz, l2, q2⟩ := hh
  refine ⟨J2.kIn, ?_⟩
  rw [hks]
  refine wpAny_call (codeAny_mono (F.run X.A X.stack s2 H2 ⟨[], ks.zip ws⟩ _ _ Q (E σ) hr J2.env0 (hb.to s2 [] ws J2.kIn rfl (by rw [← rz.length]; exact l2)) (hb.rel .nil rz) q2) fun r s' hq => ?_)
  cases r with
  | error e => exact hx σ pins H2 s2 e s' J2 hq
  | ok fl =>
    cases fl with
    | ret u => exact J2.after hq
    | next => exact hq.elim
    | brk => exact hq.elim
    | cont => exact hq.elim
end
end BV

namespace BV
open PySem L2
abbrev sOdd : Stmt := top 21
abbrev nOdd : List Str := ["_law_box_here", "_law_own", "_law_one", "_law_other", "_law_menu"]
abbrev pOdd : List Str := ["_law_box_here", "_law_own"]
theorem scOdd : FnScope nOdd pOdd (defScope sOdd) := ⟨rfl, rfl, rfl, by decide +kernel, rfl, by decide +kernel, by decide +kernel⟩
/-- what may stand in a menu -/
def It (K : PySem.W.Frag) (H : Hp) (b g : Addr) (c k : Nat) (v : V) : Prop := ∃ (md : Bool) (d : PyData), Dm K H (NB b g) md v d ∧ Sw d c k
theorem It.same {K : PySem.W.Frag} {H H' : Hp} {b g : Addr} {c k : Nat} {v : V} (h : It K H b g c k v) (s : Same H H') : It K H' b g c k v := by
  obtain ⟨md, d, h1, h2⟩ := h
  exact ⟨md, d, dm_same s h1, h2⟩
theorem it_tup {K : PySem.W.Frag} {H : Hp} {b g p : Addr} {xs : List V} {ds : List PyData} {c k : Nat} (h : SqT K H p xs) (hd : DmAll K H (NB b g) true xs ds) (hs : SwA ds c k) : It K H b g (c + 1) (k + 1) (.ref p) := ⟨true, _, .tup h hd, sw_tup hs⟩
theorem it_lst {K : PySem.W.Frag} {H : Hp} {b g p : Addr} {xs : List V} {ds : List PyData} {c k : Nat} (h : SqL K H p xs) (hn : p ≠ b ∧ p ≠ g) (hd : DmAll K H (NB b g) true xs ds) (hs : SwA ds c k) : It K H b g (c + 1) (k + 1) (.ref p) :=
  ⟨true, _, .lst rfl (fun z => z.elim hn.1 hn.2) h hd, sw_lst hs⟩
theorem it_dic {K : PySem.W.Frag} {H : Hp} {b g p : Addr} {c k : Nat} (h : H p = some (.dK [])) (hn : p ≠ b ∧ p ≠ g) : It K H b g (c + 1) (k + 1) (.ref p) := ⟨false, _, .dic rfl (fun z => z.elim hn.1 hn.2) h, sw_dic.mono (by omega) (Nat.le_refl _)⟩
theorem it_non {K : PySem.W.Frag} {H : Hp} {b g : Addr} {c k : Nat} : It K H b g (c + 1) k .non := ⟨true, _, .non, ⟨by simp [tinyM], by simp [nodes], by simp [PyData.depth]⟩⟩
theorem it_int {K : PySem.W.Frag} {H : Hp} {b g : Addr} {c k : Nat} {z : Int} (h : Sw (.int z) 1 k) : It K H b g (c + 1) k (.int z) := ⟨true, _, .int _, h.mono (by omega) (Nat.le_refl _)⟩
theorem sw_bool {b : Bool} {k : Nat} : Sw (.bool b) 1 k := ⟨by simp [tinyM], by simp [nodes], by simp [PyData.depth]⟩
theorem sw_txt {z : Int} {k : Nat} (h : z.natAbs < 2 ^ 50) : Sw (.str (toString z)) 1 k := by
  have h0 : z.natAbs.log2 < 50 := PySem.Flt.log2_lt_of (by decide) h
  have h1 := int_text_length_le (k := 50) (by decide) h0
  have h3 : (Str.ofString (toString z)).length = (toString z).length := ofString_length _
  refine ⟨?_, by simp [nodes], by simp [PyData.depth]⟩
  simp only [tinyM, Bool.and_eq_true, decide_eq_true_eq, List.all_eq_true]
  exact ⟨by omega, low_of _⟩
theorem sw1 {a : PyData} {k : Nat} (ha : Sw a 1 k) : SwA [a] 9 k := swa_mono (swa_cons (c1 := 1) (c2 := 0) ha swa_nil) (by decide) (Nat.le_refl _)
theorem sw2 {a b : PyData} {k : Nat} (ha : Sw a 1 k) (hb : Sw b 1 k) : SwA [a, b] 9 k := swa_mono (swa_cons (c1 := 1) (c2 := 1) ha (swa_cons (c1 := 1) (c2 := 0) hb swa_nil)) (by decide) (Nat.le_refl _)
theorem sw3 {a b c : PyData} {k : Nat} (ha : Sw a 1 k) (hb : Sw b 1 k) (hc : Sw c 1 k) : SwA [a, b, c] 9 k :=
  swa_mono (swa_cons (c1 := 1) (c2 := 2) ha (swa_cons (c1 := 1) (c2 := 1) hb (swa_cons (c1 := 1) (c2 := 0) hc swa_nil))) (by decide) (Nat.le_refl _)
/-- a menu that is being made -/
structure Mn (K : PySem.W.Frag) (b g : Addr) (c k : Nat) (H0 H : Hp) (xs : List V) : Prop where
  s : Same H0 H
  bx : Box H b g
  it : ∀ v ∈ xs, It K H b g c k v
theorem Mn.zero {K : PySem.W.Frag} {b g : Addr} {c k : Nat} {H : Hp} (B : Box H b g) : Mn K b g c k H H [] := ⟨Same.refl _, B, by simp⟩
theorem Mn.ne {K : PySem.W.Frag} {b g : Addr} {c k : Nat} {H0 H : Hp} {xs : List V} (M : Mn K b g c k H0 H xs) {p : Addr} (h : H p = none) : p ≠ b ∧ p ≠ g := box_ne M.bx h
theorem Mn.new {K : PySem.W.Frag} {b g : Addr} {c k : Nat} {H0 H : Hp} {xs : List V} (M : Mn K b g c k H0 H xs) {p : Addr} {o : HO} (h : H p = none) (hi : It K (upd H p o) b g c k (.ref p)) : Mn K b g c k H0 (upd H p o) (xs ++ [.ref p]) :=
  ⟨M.s.trans (same_new h), M.bx.same (same_new h), fun v hv => by
    rcases List.mem_append.mp hv with z | z
    · exact (M.it v z).same (same_new h)
    · rw [List.mem_singleton.mp z]
      exact hi⟩
theorem Mn.put {K : PySem.W.Frag} {b g : Addr} {c k : Nat} {H0 H : Hp} {xs : List V} (M : Mn K b g c k H0 H xs) {p : Addr} {o : HO} (h : H p = none) : Mn K b g c k H0 (upd H p o) xs :=
  ⟨M.s.trans (same_new h), M.bx.same (same_new h), fun v hv => (M.it v hv).same (same_new h)⟩
theorem Mn.atom {K : PySem.W.Frag} {b g : Addr} {c k : Nat} {H0 H : Hp} {xs : List V} {v : V} (M : Mn K b g c k H0 H xs) (hi : It K H b g c k v) : Mn K b g c k H0 H (xs ++ [v]) :=
  ⟨M.s, M.bx, fun u hu => by
    rcases List.mem_append.mp hu with z | z
    · exact M.it u z
    · rw [List.mem_singleton.mp z]
      exact hi⟩
theorem still_tie (t : Tie) : still (tieD t) = true := by simp [tieD, still, stillAll]
/-- what comes of a spoilt thing -/
def spOdd (K : PySem.W.Frag) : Sp := fun vs H Q _ => ∃ (b g : Addr) (tv : V) (t : Tie), vs = [.ref b, tv] ∧ Box H b g ∧ Dp K H tv (tieD t) ∧ t.1 < 1000 ∧ t.2 < 1000 ∧
  ∀ (u : V) H', Kp b g H H' → Box H' b g → It K H' b g 12 3 u → Q u H'
section
variable {P : Program} {w : World} {K : PySem.W.Frag} {mg : Str → Option Value} {base : Heap}
theorem ok_odd {f f1 f2 : Addr} {fd fd1 fd2 : FuncData} (D : Df K mg "_law_odd" sOdd pOdd f fd) (T : Bl mg) (hstr : mg "str" = none) (D_draw : Df K mg "_law_draw" sDraw ["_law_box_here", "_law_many"] f1 fd1) (D_pick : Df K mg "_law_pick" sPick nPick f2 fd2) :
    FnOk P w K mg base CX0 3 f fd pOdd (spOdd K) := by
  have G_pick : FnOk P w K mg base CX0 2 f2 fd2 nPick (spPick K) := ok_pick D_pick T D_draw
  refine D.fn.ok scOdd (fun vs H Q E h => ?_) (fun cdv A outer s H vs Q E hr h => ?_)
  · obtain ⟨b, g, tv, t, rfl, _⟩ := h
    rfl
  · obtain ⟨b, g, tv, t, rfl, hB, ht, hb1, hb2, k⟩ := h
    have nd := scOdd.nd
    have hr_pick : Room 2 _ := hr
    obtain ⟨at0, rfl, hat⟩ := dp_tie ht
    refine ⟨_, (pss_cons (ps_asg (pv 1) (pgT K rfl (pgs_cons (pg_name (i := 2) nd rfl (by first | exact Or.inl rfl | exact Or.inr rfl)) (pgs_cons (pg_name (i := 3) nd rfl (by first | exact Or.inl rfl | exact Or.inr rfl)) pgs_nil))))
      (pss_cons (ps_set (i := 4) nd rfl (by first | exact Or.inl rfl | exact Or.inr rfl) (pe_lst (pa_cons (pe_tup (pa_cons (pv 3) (pa_cons (pv 2) pa_nil))) (pa_cons (pe_tup (pa_cons (pv 2) (pa_cons (pv 2) pa_nil))) (pa_cons (pe_tup (pa_cons (pv 2) (pa_cons pe_int pa_nil))) (pa_cons (pe_tup (pa_cons (pe_un un_neg pe_int) (pa_cons (pv 3) pa_nil))) (pa_cons (pe_lst (pa_cons (pv 2) (pa_cons (pv 3) pa_nil))) (pa_cons (pe_tup (pa_cons (pv 2) pa_nil)) (pa_cons (pe_tup (pa_cons (pv 2) (pa_cons (pv 3) (pa_cons pe_int pa_nil)))) (pa_cons pe_non (pa_cons (pv 2) (pa_cons (pe_tup pa_nil) (pa_cons pe_dnewK pa_nil)))))))))))))
      (pss_one (ps_ret (pe_call G_pick hr_pick (by rfl) D_pick.ad D_pick.fn.kp D_pick.bd .nil pass0 (pa_cons (pv 0) (pa_cons (pe_op op_cat (pv 4) (pe_lst (pa_cons (pe_tup (pa_cons pe_bl (pa_cons (pv 3) pa_nil))) (pa_cons (pe_tup (pa_cons (pv 2) (pa_cons pe_bl pa_nil))) (pa_cons (pe_tup (pa_cons (pv 2) (pa_cons (pe_callTy call_str_int (by rfl) hstr (by decide +kernel) (pa_cons (pv 3) pa_nil)) pa_nil))) (pa_cons (pe_tup (pa_cons (pe_tup (pa_cons (pv 2) (pa_cons (pv 3) pa_nil))) pa_nil)) (pa_cons (pe_tup (pa_cons (pv 2) (pa_cons (pe_op op_pow pe_int pe_int) pa_nil))) (pa_cons (pv 1) pa_nil)))))))) pa_nil))))))), ?_⟩
    refine tSeq_go ?_
    refine ⟨_, rfl, at0, _, rfl, hat, rfl, _, _, rfl, _, _, rfl, rfl, ?_⟩
    refine at_st [some (.ref b), some (.ref at0), some (.int (t.1 : Nat)), some (.int (t.2 : Nat)), none] rfl ?_
    refine tSeq_go ?_
    have h1 : t.1 < 100000 := by omega
    have h2 : t.2 < 100000 := by omega
    have hz : (((t.2 : Nat)) : Int).natAbs < 2 ^ 50 := by
      have : (((t.2 : Nat)) : Int).natAbs < 1000 := by omega
      exact Nat.lt_of_lt_of_le this (by decide)
    have hlog : (((t.2 : Nat)) : Int).natAbs.log2 < 1920 := Nat.lt_of_lt_of_le (PySem.Flt.log2_lt_of (by decide) hz) (by decide)
    have M : Mn K b g 10 2 H H [] := Mn.zero hB
    refine ⟨_, rfl, _, rfl, by show 2 ≤ sizeLine; decide, fun p1 hp1 => ?_⟩
    have M := M.new (o := .tup [.int (t.2 : Nat), .int (t.1 : Nat)]) hp1 (it_tup (SqT.of upd_same) (.cons (.int _) (.cons (.int _) .nil)) (sw2 (sw_nat h2) (sw_nat h1)))
    generalize upd H p1 (.tup [.int (t.2 : Nat), .int (t.1 : Nat)]) = H1 at *
    refine ⟨_, rfl, _, rfl, by show 2 ≤ sizeLine; decide, fun p2 hp2 => ?_⟩
    have M := M.new (o := .tup [.int (t.1 : Nat), .int (t.1 : Nat)]) hp2 (it_tup (SqT.of upd_same) (.cons (.int _) (.cons (.int _) .nil)) (sw2 (sw_nat h1) (sw_nat h1)))
    generalize upd H1 p2 (.tup [.int (t.1 : Nat), .int (t.1 : Nat)]) = H2 at *
    refine ⟨_, rfl, by show 2 ≤ sizeLine; decide, fun p3 hp3 => ?_⟩
    have M := M.new (o := .tup [.int (t.1 : Nat), .int 12]) hp3 (it_tup (SqT.of upd_same) (.cons (.int _) (.cons (.int _) .nil)) (sw2 (sw_nat h1) (sw_int (by decide))))
    generalize upd H2 p3 (.tup [.int (t.1 : Nat), .int 12]) = H3 at *
    refine ⟨1, rfl, _, rfl, by show 2 ≤ sizeLine; decide, fun p4 hp4 => ?_⟩
    have M := M.new (o := .tup [.int (-1), .int (t.2 : Nat)]) hp4 (it_tup (SqT.of upd_same) (.cons (.int _) (.cons (.int _) .nil)) (sw2 (sw_int (by decide)) (sw_nat h2)))
    generalize upd H3 p4 (.tup [.int (-1), .int (t.2 : Nat)]) = H4 at *
    refine ⟨_, rfl, _, rfl, by show 2 ≤ sizeLine; decide, fun p5 hp5 => ?_⟩
    have M := M.new (o := .lst [.int (t.1 : Nat), .int (t.2 : Nat)]) hp5 (it_lst (SqL.of upd_same) (M.ne hp5) (.cons (.int _) (.cons (.int _) .nil)) (sw2 (sw_nat h1) (sw_nat h2)))
    generalize upd H4 p5 (.lst [.int (t.1 : Nat), .int (t.2 : Nat)]) = H5 at *
    refine ⟨_, rfl, by show 1 ≤ sizeLine; decide, fun p6 hp6 => ?_⟩
    have M := M.new (o := .tup [.int (t.1 : Nat)]) hp6 (it_tup (SqT.of upd_same) (.cons (.int _) .nil) (sw1 (sw_nat h1)))
    generalize upd H5 p6 (.tup [.int (t.1 : Nat)]) = H6 at *
    refine ⟨_, rfl, _, rfl, by show 3 ≤ sizeLine; decide, fun p7 hp7 => ?_⟩
    have M := M.new (o := .tup [.int (t.1 : Nat), .int (t.2 : Nat), .int 0]) hp7 (it_tup (SqT.of upd_same) (.cons (.int _) (.cons (.int _) (.cons (.int _) .nil))) (sw3 (sw_nat h1) (sw_nat h2) (sw_int (by decide))))
    generalize upd H6 p7 (.tup [.int (t.1 : Nat), .int (t.2 : Nat), .int 0]) = H7 at *
    have M := M.atom it_non
    have M := M.atom (v := .int (t.1 : Nat)) (it_int (sw_nat h1))
    refine ⟨_, rfl, Nat.zero_le _, fun p8 hp8 => ?_⟩
    have M := M.new (o := .tup []) hp8 (it_tup (SqT.of upd_same) .nil (swa_mono swa_nil (Nat.le_refl _) (Nat.le_refl _)))
    generalize upd H7 p8 (.tup []) = H8 at *
    refine fun p9 hp9 => ?_
    have M := M.new (o := .dK []) hp9 (it_dic upd_same (M.ne hp9))
    generalize upd H8 p9 (.dK []) = H9 at *
    refine ⟨by show 11 ≤ sizeLine; decide, fun l hl => ?_⟩
    have hln := M.ne hl
    have M := M.put (o := .lst [.ref p1, .ref p2, .ref p3, .ref p4, .ref p5, .ref p6, .ref p7, .non, .int (t.1 : Nat), .ref p8, .ref p9]) hl
    have hL : (upd H9 l (.lst [.ref p1, .ref p2, .ref p3, .ref p4, .ref p5, .ref p6, .ref p7, .non, .int (t.1 : Nat), .ref p8, .ref p9])) l = some (.lst [.ref p1, .ref p2, .ref p3, .ref p4, .ref p5, .ref p6, .ref p7, .non, .int (t.1 : Nat), .ref p8, .ref p9]) := upd_same
    generalize upd H9 l (.lst [.ref p1, .ref p2, .ref p3, .ref p4, .ref p5, .ref p6, .ref p7, .non, .int (t.1 : Nat), .ref p8, .ref p9]) = H10 at *
    dsimp only [gName]
    refine at_st [some (.ref b), some (.ref at0), some (.int (t.1 : Nat)), some (.int (t.2 : Nat)), some (.ref l)] rfl ?_
    have M1 := M
    clear M
    have M : Mn K b g 10 2 H10 H10 [] := Mn.zero M1.bx
    refine ⟨_, rfl, _, rfl, _, rfl, by show 2 ≤ sizeLine; decide, fun p11 hp11 => ?_⟩
    have M := M.new (o := .tup [.bl true, .int (t.2 : Nat)]) hp11 (it_tup (SqT.of upd_same) (.cons (.bl _) (.cons (.int _) .nil)) (sw2 (sw_bool) (sw_nat h2)))
    generalize upd H10 p11 (.tup [.bl true, .int (t.2 : Nat)]) = H11 at *
    refine ⟨_, rfl, by show 2 ≤ sizeLine; decide, fun p12 hp12 => ?_⟩
    have M := M.new (o := .tup [.int (t.1 : Nat), .bl true]) hp12 (it_tup (SqT.of upd_same) (.cons (.int _) (.cons (.bl _) .nil)) (sw2 (sw_nat h1) (sw_bool)))
    generalize upd H11 p12 (.tup [.int (t.1 : Nat), .bl true]) = H12 at *
    refine ⟨_, rfl, _, rfl, _, rfl, hlog, by show 2 ≤ sizeLine; decide, fun p13 hp13 => ?_⟩
    have M := M.new (o := .tup [.int (t.1 : Nat), .str (toString (((t.2 : Nat)) : Int))]) hp13 (it_tup (SqT.of upd_same) (.cons (.int _) (.cons (.str _) .nil)) (sw2 (sw_nat h1) (sw_txt hz)))
    generalize upd H12 p13 (.tup [.int (t.1 : Nat), .str (toString (((t.2 : Nat)) : Int))]) = H13 at *
    refine ⟨_, rfl, _, rfl, by show 2 ≤ sizeLine; decide, fun p14 hp14 => ?_⟩
    have hin := upd_same (H := H13) (a := p14) (o := .tup [.int (t.1 : Nat), .int (t.2 : Nat)])
    have M := M.put (o := .tup [.int (t.1 : Nat), .int (t.2 : Nat)]) hp14
    generalize upd H13 p14 (.tup [.int (t.1 : Nat), .int (t.2 : Nat)]) = H14 at *
    refine ⟨by show 1 ≤ sizeLine; decide, fun p15 hp15 => ?_⟩
    have sI := same_new (o := .tup [.ref p14]) hp15
    have M := M.new (o := .tup [.ref p14]) hp15 (it_tup (SqT.of upd_same) (.cons (.tup (SqT.of (sI _ _ hin)) (.cons (.int _) (.cons (.int _) .nil))) .nil) (swa_mono (swa_cons (c1 := 3) (c2 := 0) (sw_tie (t := t) ⟨h1, h2⟩) swa_nil) (by decide) (Nat.le_refl _)))
    generalize upd H14 p15 (.tup [.ref p14]) = H15 at *
    clear sI hin
    refine ⟨_, rfl, _, _, rfl, rfl, ⟨by decide, by decide, by decide⟩, by show 2 ≤ sizeLine; decide, fun p16 hp16 => ?_⟩
    have M := M.new (o := .tup [.int (t.1 : Nat), .int (10 ^ (30 : Int).toNat)]) hp16 (it_tup (SqT.of upd_same) (.cons (.int _) (.cons (.int _) .nil)) (sw2 (sw_nat h1) (sw_int (by decide))))
    generalize upd H15 p16 (.tup [.int (t.1 : Nat), .int (10 ^ (30 : Int).toNat)]) = H16 at *
    have M := M.atom (v := .ref at0) ⟨true, _, dp_dm _ (still_tie t) (dp_same (M1.s.trans M.s) _ ht), (sw_tie (t := t) (k := 1) ⟨h1, h2⟩).mono (by decide) (Nat.le_refl _)⟩
    refine ⟨_, rfl, by show 6 ≤ sizeLine; decide, fun l2 hl2 => ?_⟩
    have M := M.put (o := .lst [.ref p11, .ref p12, .ref p13, .ref p15, .ref p16, .ref at0]) hl2
    have hL2 : (upd H16 l2 (.lst [.ref p11, .ref p12, .ref p13, .ref p15, .ref p16, .ref at0])) l2 = some (.lst [.ref p11, .ref p12, .ref p13, .ref p15, .ref p16, .ref at0]) := upd_same
    generalize upd H16 l2 (.lst [.ref p11, .ref p12, .ref p13, .ref p15, .ref p16, .ref at0]) = H20 at *
    refine ⟨l, l2, _, _, rfl, rfl, M.s _ _ hL, hL2, by show 17 ≤ sizeLine; decide, fun l3 hl3 => ?_⟩
    have hl3n := M.ne hl3
    have M := M.put (o := .lst ([.ref p1, .ref p2, .ref p3, .ref p4, .ref p5, .ref p6, .ref p7, .non, .int (t.1 : Nat), .ref p8, .ref p9] ++ [.ref p11, .ref p12, .ref p13, .ref p15, .ref p16, .ref at0])) hl3
    refine ⟨b, g, l3, _, rfl, SqL.of upd_same, hl3n.1, hl3n.2, by show 0 < 17; decide, by show 17 < 1000000; decide, M.bx, fun j v H' hj kp B => ?_⟩
    have hv := List.mem_of_getElem? hj
    refine k _ _ (((Kp.same (M1.s.trans M.s)).trans kp)) B ?_
    have hit : It K (upd H20 l3 (.lst ([.ref p1, .ref p2, .ref p3, .ref p4, .ref p5, .ref p6, .ref p7, .non, .int (t.1 : Nat), .ref p8, .ref p9] ++ [.ref p11, .ref p12, .ref p13, .ref p15, .ref p16, .ref at0]))) b g 10 2 v := by
      rcases List.mem_append.mp hv with z | z
      · exact (M1.it v z).same M.s
      · exact M.it v z
    obtain ⟨md, d, q1, q2⟩ := hit
    exact ⟨md, d, dm_kp kp M.bx q1, q2.mono (by decide) (by decide)⟩
end
end BV

namespace BV
open PySem L2
abbrev sGreat : Stmt := top 22
abbrev nGreat : List Str := ["_law_box_here", "_law_many", "_law_size", "_law_ties", "_law_place"]
abbrev pGreat : List Str := ["_law_box_here"]
theorem scGreat : FnScope nGreat pGreat (defScope sGreat) := ⟨rfl, rfl, rfl, by decide +kernel, rfl, by decide +kernel, by decide +kernel⟩
theorem kp_none {b g l : Addr} {H H1 : Hp} (k : Kp b g H H1) (B1 : Box H1 b g) (h : H1 l = none) : H l = none := by
  obtain ⟨nb, ng⟩ := box_ne B1 h
  cases e : H l with
  | none => rfl
  | some o =>
    rw [k _ _ e nb ng] at h
    cases h
def muL (m : Nat) (l : Addr) (H : Hp) : Nat := match H l with
  | some (.lst xs) => m - xs.length
  | _ => 0
theorem muL_at {m : Nat} {l : Addr} {H : Hp} {xs : List V} (h : H l = some (.lst xs)) : muL m l H = m - xs.length := by
  unfold muL
  rw [h]
def spGreat (K : PySem.W.Frag) : Sp := fun vs H Q _ => ∃ (b g : Addr), vs = [.ref b] ∧ Box H b g ∧
  ∀ (p : Addr) (n : Nat) (ts : List Tie) H', Kp b g H H' → Box H' b g → Dp K H' (.ref p) (webD n ts) → 1 ≤ n → n ≤ 13 → ts.length ≤ 41 → (∀ t ∈ ts, t.1 < t.2 ∧ t.2 < n) → Q (.ref p) H'
section
variable {P : Program} {w : World} {K : PySem.W.Frag} {mg : Str → Option Value} {base : Heap}
theorem ok_great {f f1 f2 : Addr} {fd fd1 fd2 : FuncData} (D : Df K mg "_law_great" sGreat pGreat f fd) (T : Bl mg) (D_draw : Df K mg "_law_draw" sDraw ["_law_box_here", "_law_many"] f1 fd1) (D_pick : Df K mg "_law_pick" sPick nPick f2 fd2) :
    FnOk P w K mg base CX0 3 f fd pGreat (spGreat K) := by
  have G_pick : FnOk P w K mg base CX0 2 f2 fd2 nPick (spPick K) := ok_pick D_pick T D_draw
  have G_draw : FnOk P w K mg base CX0 1 f1 fd1 ["_law_box_here", "_law_many"] spDraw := ok_draw D_draw T
  refine D.fn.ok scGreat (fun vs H Q E h => ?_) (fun cdv A outer s H vs Q E hr h => ?_)
  · obtain ⟨b, g, rfl, _⟩ := h
    rfl
  · obtain ⟨b, g, rfl, hB, k⟩ := h
    have nd := scGreat.nd
    have hr_pick : Room 2 _ := hr
    have hr_draw : Room 1 _ := hr.mono (by decide)
    refine ⟨_, (pss_cons (ps_par (i := 1) (j := 2) (by rfl) nd rfl rfl (by decide) rfl rfl (pa_cons (pe_op op_add pe_int (pe_call G_draw hr_draw (by rfl) D_draw.ad D_draw.fn.kp D_draw.bd .nil pass0 (pa_cons (pv 0) (pa_cons pe_int pa_nil)))) (pa_cons (pe_op op_add pe_int (pe_call G_draw hr_draw (by rfl) D_draw.ad D_draw.fn.kp D_draw.bd .nil pass0 (pa_cons (pv 0) (pa_cons pe_int pa_nil)))) pa_nil)) (by rfl))
      (pss_cons (ps_setLc (i := 3) (own := [("_law_place", 4)]) (g := (gName 4)) (tt := tYes) rfl nd rfl rfl (sw_true rfl rfl rfl (by decide +kernel)) (pi_range2 rfl T.range (pa_cons pe_int (pa_cons (pv 1) pa_nil))) (blkOk_by (own := [("_law_place", 4)]) (N := nGreat) (sc := defScope sGreat) (by decide +kernel)) (fun _ _ _ _ _ => (pg_name (i := 4) nd rfl (by first | exact Or.inl rfl | exact Or.inr rfl))) (fun _ _ _ _ _ => pts_nil) (fun _ _ _ _ _ => (pe_tup (pa_cons (pe_call G_draw hr_draw (by rfl) D_draw.ad D_draw.fn.kp D_draw.bd .nil pass0 (pa_cons (pv 0) (pa_cons (pv 4) pa_nil))) (pa_cons (pv 4) pa_nil)))))
      (pss_cons (ps_while PassesOwn.never (pt_cmpR op_lt (pe_callB (lenK K) (by rfl) T.len PySem.boot_len (pa_cons (pv 3) pa_nil)) (pv 2) (nomark _)) (pss_one (ps_expr (pe_bm PySem.F.plainAttrs_list PySem.F.slot_list_append PySem.F.type_list_append mt_append (pv 3) (pa_cons (pe_call G_pick hr_pick (by rfl) D_pick.ad D_pick.fn.kp D_pick.bd .nil pass0 (pa_cons (pv 0) (pa_cons (pv 3) pa_nil))) pa_nil)))))
      (pss_one (ps_ret (pe_tup (pa_cons (pv 1) (pa_cons (pe_callTy (tupleK K) (by rfl) T.tuple (by decide +kernel) (pa_cons (pe_ifExp (pt_cmpR op_eq (pe_call G_draw hr_draw (by rfl) D_draw.ad D_draw.fn.kp D_draw.bd .nil pass0 (pa_cons (pv 0) (pa_cons pe_int pa_nil))) pe_int (nomark _)) (pv 3) (pe_slice (slL K) (pv 3) po_none (po_some (pe_op op_add (pv 1) pe_int)))) pa_nil)) pa_nil)))))))), ?_⟩
    refine tSeq_go ?_
    refine ⟨_, rfl, b, g, 3, rfl, by decide, by decide, hB, fun r H2 r0 r1 kp2 B2 => ?_⟩
    refine ⟨11, r, rfl, rfl, ?_⟩
    refine ⟨_, rfl, b, g, 3, rfl, by decide, by decide, B2, fun r2 H3 q0 q1 kp3 B3 => ?_⟩
    refine ⟨39, r2, rfl, rfl, _, _, rfl, ?_⟩
    obtain ⟨n, hn⟩ : ∃ n : Nat, 11 + r = (n : Int) := ⟨(11 + r).toNat, by omega⟩
    obtain ⟨m, hm⟩ : ∃ m : Nat, 39 + r2 = (m : Int) := ⟨(39 + r2).toNat, by omega⟩
    refine at_st [some (.ref b), some (.int (11 + r)), some (.int (39 + r2)), none, none] rfl ?_
    rw [hn, hm]
    have hn11 : 11 ≤ n ∧ n ≤ 13 := by omega
    have hm39 : 39 ≤ m ∧ m ≤ 41 := by omega
    have kp := kp2.trans kp3
    clear hn hm r0 r1 q0 q1 kp2 kp3 B2
    dsimp only
    refine tSeq_go ?_
    refine tAsg_by (fun u H' => ∃ (l : Addr) (xs : List V) (ts : List Tie), u = .ref l ∧ Kp b g H H' ∧ Box H' b g ∧ l ≠ b ∧ l ≠ g ∧ H l = none ∧ H' l = some (.lst xs) ∧ DpAll K H' xs (ts.map tieD) ∧ 10 ≤ ts.length ∧ ts.length ≤ 12 ∧
      ∀ t ∈ ts, t.1 < t.2 ∧ t.2 < n) ?_ (fun cont => ?_)
    rotate_left
    · refine ⟨_, rfl, 1, (n : Int), rfl, ⟨by decide, by decide, by omega, by omega⟩, fun E1 hE1 => ?_⟩
      refine lc_runB (walk_range (lo := 1) (n := ((n : Int) - 1).toNat)) hE1 B3 (fun i acc Hq => ∃ ts : List Tie, ts.length = i ∧ DpAll K Hq acc (ts.map tieD) ∧ ∀ t ∈ ts, t.1 < t.2 ∧ t.2 < n) ?_ ?_ ?_ ?_
      · exact fun H' _ _ => trivial
      · exact ⟨[], rfl, .nil, by simp⟩
      · rintro i x acc H4 H' nb ng hi hacc e kp4 B4 ⟨ts, h1, h2, h3⟩ ⟨rfl, hx⟩
        have hx : x = .int (1 + (i : Int)) := hx
        subst hx
        have hin : i < n - 1 := by omega
        refine ⟨rfl, yes_go ?_⟩
        refine ⟨_, rfl, _, rfl, b, g, 1 + (i : Int), rfl, by omega, by omega, B4, fun r4 H5 r0 r1 kp5 B5 => ?_⟩
        obtain ⟨j, rfl⟩ : ∃ j : Nat, r4 = (j : Int) := ⟨r4.toNat, by omega⟩
        refine ⟨_, rfl, by show 2 ≤ sizeLine; decide, fun q hq => ?_⟩
        have sq := same_new (o := .tup [.int (j : Nat), .int (1 + (i : Int))]) hq
        have kp6 := kp5.trans (Kp.same (b := b) (g := g) sq)
        have hal : acc.length = ts.length := by rw [dpAll_len h2, List.length_map]
        refine lc_addB nb ng hacc e kp6 (B5.same sq) (by omega) ?_
        have ei : (1 + (i : Int)) = ((1 + i : Nat) : Int) := by omega
        have qne : q ≠ E1 := fun z => by
          have h6 := kp5 _ _ hacc nb ng
          rw [← z, hq] at h6
          cases h6
        refine ⟨ts ++ [(j, 1 + i)], by rw [List.length_append, List.length_singleton, h1], ?_, fun t ht => ?_⟩
        · rw [List.map_append]
          refine dpAll_app (dpAll_kf (KF.of_kp (era_kp kp6) (box_era B4 nb ng)) _ (still_ties ts) h2) (.cons (.tup (xs := [V.int (j : Nat), V.int (1 + (i : Int))]) (SqT.of ?_) (.cons (.int _) (.cons ?_ .nil))) .nil)
          · rw [era_ne qne]
            exact upd_same
          · rw [ei]
            exact .int _
        · rcases List.mem_append.mp ht with z | z
          · exact h3 t z
          · rw [List.mem_singleton.mp z]
            exact ⟨by show j < 1 + i; omega, by show 1 + i < n; omega⟩
      · rintro acc H4 h1 kp4 B4 ⟨ts, q1, q2, q3⟩
        obtain ⟨nb, ng⟩ := box_ne B3 hE1
        exact cont _ _ ⟨E1, acc, ts, rfl, kp.trans kp4, B4, nb, ng, kp_none kp B3 hE1, h1, dpAll_same era_back _ q2, by omega, by omega, q3⟩
    rintro _ H4 ⟨l, xs, ts, rfl, kp4, B4, lb, lg, hln, hL, hLd, hl10, hl12, hts⟩
    clear kp B3
    dsimp only [gName]
    refine at_st [some (.ref b), some (.int (n : Nat)), some (.int (m : Nat)), some (.ref l), none] rfl ?_
    refine tSeq_go ?_
    refine while_by (fun σ H' => σ = [some (.ref b), some (.int (n : Nat)), some (.int (m : Nat)), some (.ref l), none] ∧ ∃ (xs : List V) (ts : List Tie), Kp b g H H' ∧ Box H' b g ∧ H' l = some (.lst xs) ∧ DpAll K H' xs (ts.map tieD) ∧ 10 ≤ ts.length ∧ ts.length ≤ m ∧
      ∀ t ∈ ts, t.1 < t.2 ∧ t.2 < n) (fun _ H' => muL m l H') ?_ ?_ ?_
    · exact ⟨rfl, xs, ts, kp4, B4, hL, hLd, hl10, by omega, hts⟩
    · clear hL hLd hl10 hl12 hts kp4 B4 xs ts
      rintro σ H5 ⟨rfl, xs, ts, kp5, B5, hL, hLd, hl10, hlm, hts⟩
      have hxl : xs.length = ts.length := by rw [dpAll_len hLd, List.length_map]
      refine ⟨_, rfl, l, xs, rfl, .inl (SqL.of hL), _, rfl, _, _, rfl, rfl, _, rfl, ite2 (fun hh => ?_) (fun hh => ?_)⟩
      · have hh : (xs.length : Int) < m := of_decide_eq_true hh
        refine ⟨_, rfl, .inl ⟨rfl, _, SqL.of hL⟩, ?_⟩
        refine ⟨_, rfl, _, rfl, b, g, l, xs, rfl, SqL.of hL, lb, lg, by omega, by omega, B5, fun j v H6 hj kp6 B6 => ?_⟩
        have hL6 := kp6 _ _ hL lb lg
        refine ⟨l, xs, v, rfl, rfl, hL6, Nat.lt_of_lt_of_le (show xs.length < 1000 by omega) (by decide), ?_⟩
        obtain ⟨dd, hdd, hdp⟩ := dpAll_get hLd hj
        obtain ⟨t, ht, rfl⟩ := get_map hdd
        have kf := (KF.of_kp kp6 B5).trans (KF.of_upd (ys := xs ++ [v]) hL6)
        refine ⟨⟨rfl, xs ++ [v], ts ++ [t], kp_old hln (kp5.trans kp6), box_old B6 lb lg, upd_same, ?_, ?_, ?_, fun u hu => ?_⟩, ?_⟩
        · rw [List.map_append]
          exact dpAll_app (dpAll_kf kf _ (still_ties ts) hLd) (.cons (dp_kf kf _ (still_tie t) hdp) .nil)
        · rw [List.length_append]
          omega
        · rw [List.length_append, List.length_singleton]
          omega
        · rcases List.mem_append.mp hu with z | z
          · exact hts u z
          · rw [List.mem_singleton.mp z]
            exact hts t (List.mem_of_getElem? ht)
        · rw [muL_at upd_same, muL_at hL, List.length_append, List.length_singleton]
          omega
      · have hh : ¬ ((xs.length : Int) < m) := fun z => hh (decide_eq_true z)
        refine ⟨_, rfl, ?_⟩
        refine ⟨_, rfl, b, g, 2, rfl, by decide, by decide, B5, fun r H6 r0 r1 kp6 B6 => ⟨rfl, _, rfl, ite2 (fun h1 => ?_) (fun h1 => ?_)⟩⟩
        · have hL6 := kp6 _ _ hL lb lg
          refine ⟨_, rfl, l, xs, rfl, .inl ⟨SqL.of hL6, fun q hq => ?_⟩⟩
          refine ⟨by show 2 ≤ sizeLine; decide, fun p hp => ?_⟩
          have sq := same_new (o := .tup xs) hq
          have sp := same_new (o := .tup [.int (n : Nat), .ref q]) hp
          refine k p n ts _ ((kp5.trans kp6).trans (Kp.same (sq.trans sp))) ((B6.same sq).same sp) (.tup (SqT.of upd_same) (.cons (.int _) (.cons (.tup (SqT.of (sp _ _ upd_same)) ?_) .nil))) (by omega) (by omega) (by omega) hts
          exact dpAll_same (sq.trans sp) _ (dpAll_kf (KF.of_kp kp6 B5) _ (still_ties ts) hLd)
        · have hL6 := kp6 _ _ hL lb lg
          refine ⟨_, rfl, _, rfl, n, 3, rfl, rfl, _, rfl, l, xs, rfl, SqL.of hL6, fun q0 hq0 => ?_⟩
          have e3 : (n : Int) + 3 = ((n + 3 : Nat) : Int) := by omega
          rw [e3, cut_hi]
          have s0 := same_new (o := .lst (xs.take (n + 3))) hq0
          refine ⟨q0, _, rfl, .inl ⟨SqL.of upd_same, fun q hq => ?_⟩⟩
          refine ⟨by show 2 ≤ sizeLine; decide, fun p hp => ?_⟩
          have sq := same_new (o := .tup (xs.take (n + 3))) hq
          have sp := same_new (o := .tup [.int (n : Nat), .ref q]) hp
          refine k p n (ts.take (n + 3)) _ ((kp5.trans kp6).trans (Kp.same ((s0.trans sq).trans sp))) (((B6.same s0).same sq).same sp) (.tup (SqT.of upd_same) (.cons (.int _) (.cons (.tup (SqT.of (sp _ _ upd_same)) ?_) .nil))) (by omega) (by omega) (by rw [List.length_take]; omega) fun t ht => hts t (List.mem_of_mem_take ht)
          rw [List.map_take]
          exact dpAll_take _ (dpAll_same ((s0.trans sq).trans sp) _ (dpAll_kf (KF.of_kp kp6 B5) _ (still_ties ts) hLd))
    · rintro σ H' Q1 Q2 hQ ⟨v, e, p, ys, e1, e2, v2, e3, i, j, e4, e5, z, e6, q1⟩
      exact ⟨v, e, p, ys, e1, e2, v2, e3, i, j, e4, e5, z, e6, hQ _ _ q1⟩
end
end BV

namespace BV
open PySem L2
abbrev sSpoilt : Stmt := top 23
abbrev nSpoilt : List Str := ["_law_box_here", "_law_thing", "_law_many", "_law_ties", "_law_way", "_law_spot", "_law_menu", "_law_place", "_law_tie"]
abbrev pSpoilt : List Str := ["_law_box_here", "_law_thing"]
theorem scSpoilt : FnScope nSpoilt pSpoilt (defScope sSpoilt) := ⟨rfl, rfl, rfl, by decide +kernel, rfl, by decide +kernel, by decide +kernel⟩
theorem still_tiesD (ts : List Tie) : still (tiesD ts) = true := by simp [tiesD, still, still_ties ts]
theorem lay_ties3 : ∀ ts : List Tie, PyData.canLayAll0 (ts.map tieD) = true ∧ PyData.depthAll (ts.map tieD) ≤ 1
  | [] => by simp [PyData.canLayAll0, PyData.depthAll]
  | t :: ts => by
    obtain ⟨a, b⟩ := lay_ties3 ts
    have e : (tieD t).depth = 1 := by simp [tieD, PyData.depth, PyData.depthAll]
    have e2 : (tieD t).canLay0 = true := by simp [tieD, PyData.canLay0, PyData.canLayAll0]
    refine ⟨by simp [PyData.canLayAll0, a, e2], ?_⟩
    simp only [List.map_cons, PyData.depthAll, e]
    omega
theorem shaped_tiesD (ts : List Tie) : SeqAt.shaped (tiesD ts) = true := by
  obtain ⟨a, b⟩ := lay_ties3 ts
  have h3 : PyData.depthAll (ts.map tieD) + 1 ≤ 64 := by omega
  simp only [SeqAt.shaped, tiesD, PyData.canLay0, PyData.depth, a, Bool.true_and]
  exact decide_eq_true h3
theorem ties_nil (ts : List Tie) : PyData.eqv (tiesD ts) (.tuple []) = decide (ts = []) := by
  cases ts with
  | nil => rfl
  | cons t ts => rfl
theorem sqT_era {K : PySem.W.Frag} {H : Hp} {D a : Addr} {acc xs : List V} (h : H D = some (.lst acc)) (hs : SqT K H a xs) : SqT K (era H D) a xs :=
  sqT_kf (fun z o hz qq => by
    have nz : z ≠ D := by
      rintro rfl
      rw [h] at hz
      obtain ⟨_, rfl | ⟨_, rfl⟩⟩ := qq <;> cases hz
    rw [era_ne nz]
    exact hz) hs
theorem it_two {K : PySem.W.Frag} {H : Hp} {b g p : Addr} {x y : V} {d e : PyData} {md : Bool} {c1 c2 c k : Nat} (h : SqT K H p [x, y]) (h1 : Dm K H (NB b g) md x d) (h2 : Dm K H (NB b g) md y e) (s1 : Sw d c1 k) (s2 : Sw e c2 k) (hc : c1 + (c2 + 0) + 1 ≤ c) :
    It K H b g c (k + 1) (.ref p) := ⟨md, _, .tup h (.cons h1 (.cons h2 .nil)), (sw_tup (swa_cons s1 (swa_cons s2 swa_nil))).mono hc (Nat.le_refl _)⟩
theorem sw_ties {ts : List Tie} {n k : Nat} (h : ∀ t ∈ ts, t.1 < t.2 ∧ t.2 < n) (hn : n ≤ 1000) (hl : ts.length ≤ 50) : Sw (tiesD ts) 151 (k + 2) :=
  (sw_tup (swa_ties ts fun t ht => by have := h t ht; omega)).mono (by omega) (Nat.le_refl _)
def spSpoilt (K : PySem.W.Frag) : Sp := fun vs H Q _ => ∃ (b g : Addr) (v : V) (n : Nat) (ts : List Tie), vs = [.ref b, v] ∧ Box H b g ∧ Dp K H v (webD n ts) ∧ 1 ≤ n ∧ n ≤ 13 ∧ ts.length ≤ 41 ∧ (∀ t ∈ ts, t.1 < t.2 ∧ t.2 < n) ∧
  ∀ (u : V) H', Kp b g H H' → Box H' b g → It K H' b g 400 6 u → Q u H'
section
variable {P : Program} {w : World} {K : PySem.W.Frag} {mg : Str → Option Value} {base : Heap}
theorem ok_spoilt {f f1 f2 f3 : Addr} {fd fd1 fd2 fd3 : FuncData} (D : Df K mg "_law_spoilt" sSpoilt pSpoilt f fd) (T : Bl mg) (hstr : mg "str" = none) (hlist : mg "list" = none) (D_draw : Df K mg "_law_draw" sDraw ["_law_box_here", "_law_many"] f1 fd1) (D_pick : Df K mg "_law_pick" sPick nPick f2 fd2)
    (D_odd : Df K mg "_law_odd" sOdd pOdd f3 fd3) :
    FnOk P w K mg base CX0 4 f fd pSpoilt (spSpoilt K) := by
  have G_pick : FnOk P w K mg base CX0 2 f2 fd2 nPick (spPick K) := ok_pick D_pick T D_draw
  have G_draw : FnOk P w K mg base CX0 1 f1 fd1 ["_law_box_here", "_law_many"] spDraw := ok_draw D_draw T
  have G_odd : FnOk P w K mg base CX0 3 f3 fd3 pOdd (spOdd K) := ok_odd D_odd T hstr D_draw D_pick
  refine D.fn.ok scSpoilt (fun vs H Q E h => ?_) (fun cdv A outer s H vs Q E hr h => ?_)
  · obtain ⟨b, g, v, n, ts, rfl, _⟩ := h
    rfl
  · obtain ⟨b, g, v, n, ts, rfl, hB, hw, hn1, hn13, hl, hts, k⟩ := h
    have nd := scSpoilt.nd
    have hr_pick : Room 2 _ := hr.mono (by decide)
    have hr_draw : Room 1 _ := hr.mono (by decide)
    have hr_odd : Room 3 _ := hr
    obtain ⟨a, c, ys, rfl, ha, hc, hys⟩ := dp_web hw
    have hyl : ys.length = ts.length := by rw [dpAll_len hys, List.length_map]
    refine ⟨_, (pss_cons (ps_asg (pv 1) (pgT K rfl (pgs_cons (pg_name (i := 2) nd rfl (by first | exact Or.inl rfl | exact Or.inr rfl)) (pgs_cons (pg_name (i := 3) nd rfl (by first | exact Or.inl rfl | exact Or.inr rfl)) pgs_nil))))
      (pss_cons (ps_par (i := 4) (j := 5) (by rfl) nd rfl rfl (by decide) rfl rfl (pa_cons (pe_call G_draw hr_draw (by rfl) D_draw.ad D_draw.fn.kp D_draw.bd .nil pass0 (pa_cons (pv 0) (pa_cons pe_int pa_nil))) (pa_cons (pe_call G_draw hr_draw (by rfl) D_draw.ad D_draw.fn.kp D_draw.bd .nil pass0 (pa_cons (pv 0) (pa_cons (pe_op op_add (pe_callB (lenK K) (by rfl) T.len PySem.boot_len (pa_cons (pv 3) pa_nil)) pe_int) pa_nil))) pa_nil)) (by rfl))
      (pss_cons (ps_if (pt_cmpR op_eq (pv 4) pe_int (nomark _)) (pss_one (ps_ret (pe_tup (pa_cons (pe_call G_pick hr_pick (by rfl) D_pick.ad D_pick.fn.kp D_pick.bd .nil pass0 (pa_cons (pv 0) (pa_cons (pe_lst (pa_cons (pe_op op_add (pv 2) pe_int) (pa_cons (pe_op op_sub (pv 2) pe_int) (pa_cons pe_int (pa_cons pe_int (pa_cons (pe_un un_neg pe_int) (pa_cons pe_bl (pa_cons pe_non (pa_cons (pe_callTy call_str_int (by rfl) hstr (by decide +kernel) (pa_cons (pv 2) pa_nil)) (pa_cons (pe_tup (pa_cons (pv 2) pa_nil)) pa_nil)))))))))) pa_nil))) (pa_cons (pv 3) pa_nil))))) pss_nil)
      (pss_cons (ps_if (pt_cmpR op_eq (pv 4) pe_int (nomark _)) (pss_cons (ps_set (i := 6) nd rfl (by first | exact Or.inl rfl | exact Or.inr rfl) (pe_lst (pa_cons (pe_callTy (listK K) (by rfl) hlist (by decide +kernel) (pa_cons (pv 1) pa_nil)) (pa_cons (pe_tup (pa_cons (pv 2) pa_nil)) (pa_cons (pe_tup (pa_cons (pv 2) (pa_cons (pv 3) (pa_cons (pe_tup pa_nil) pa_nil)))) (pa_cons (pe_tup (pa_cons (pv 3) (pa_cons (pv 2) pa_nil))) (pa_cons pe_non (pa_cons pe_dnewK (pa_cons (pe_tup (pa_cons (pv 2) (pa_cons (pe_callTy (listK K) (by rfl) hlist (by decide +kernel) (pa_cons (pv 3) pa_nil)) pa_nil))) (pa_cons (pv 2) pa_nil))))))))))
      (pss_one (ps_ret (pe_call G_pick hr_pick (by rfl) D_pick.ad D_pick.fn.kp D_pick.bd .nil pass0 (pa_cons (pv 0) (pa_cons (pv 6) pa_nil)))))) pss_nil)
      (pss_cons (ps_if (pt_cmpR op_lt (pv 4) pe_int (nomark _)) (pss_one (ps_ret (pe_tup (pa_cons (pv 2) (pa_cons (pe_op (catA K) (pe_slice (slTA K) (pv 3) po_none (po_some (pv 5))) (pe_slice (slTA K) (pv 3) (po_some (pe_op op_add (pv 5) pe_int)) po_none)) pa_nil))))) pss_nil)
      (pss_cons (ps_if (PW.pt (pw_or (pt_cmpR (opEqD K hr.units) (pv 3) (pe_tup pa_nil) (nomark _)) (pw_or1 (pt_cmpR op_eq (pv 4) pe_int (nomark _))))) (pss_one (ps_ret (pe_tup (pa_cons (pe_op op_add (pv 2) pe_int) (pa_cons (pv 3) pa_nil))))) pss_nil)
      (pss_cons (ps_set (i := 5) nd rfl (by first | exact Or.inl rfl | exact Or.inr rfl) (pe_callB (call_min2 rfl) (by rfl) T.min (by decide +kernel) (pa_cons (pv 5) (pa_cons (pe_op op_sub (pe_callB (lenK K) (by rfl) T.len PySem.boot_len (pa_cons (pv 3) pa_nil)) pe_int) pa_nil))))
      (pss_cons (ps_if (pt_cmpR op_eq (pv 4) pe_int (nomark _)) (pss_cons (ps_set (i := 7) nd rfl (by first | exact Or.inl rfl | exact Or.inr rfl) (pe_ix (ixT K) (pe_ix (ixT K) (pv 3) (pv 5) (fun _ _ => rfl)) pe_int (fun _ _ => rfl)))
      (pss_one (ps_ret (pe_tup (pa_cons (pv 2) (pa_cons (pe_callTy (tupleK K) (by rfl) T.tuple (by decide +kernel) (pa_cons (pe_lc (own := [("_law_tie", 8)]) (g := (gName 8)) rfl nd (piT K (pv 3)) (blkOk_by (own := [("_law_tie", 8)]) (N := nSpoilt) (sc := defScope sSpoilt) (by decide +kernel)) (fun _ _ _ _ _ => (pg_name (i := 8) nd rfl (by first | exact Or.inl rfl | exact Or.inr rfl))) (fun _ _ _ _ _ => (pts_one (pt_cmpR (opNotIn K) (pv 7) (pv 8) rfl))) (fun _ _ _ _ _ => (pv 8))) pa_nil)) pa_nil)))))) pss_nil)
      (pss_cons (ps_if (pt_cmpR op_eq (pv 4) pe_int (nomark _)) (pss_one (ps_ret (pe_tup (pa_cons (pv 2) (pa_cons (pe_op (catA K) (pv 3) (pe_tup (pa_cons (pe_tup (pa_cons (pe_op op_sub (pv 2) pe_int) (pa_cons (pv 2) pa_nil))) pa_nil))) pa_nil))))) pss_nil)
      (pss_one (ps_ret (pe_tup (pa_cons (pv 2) (pa_cons (pe_op (catA K) (pe_op (catA K) (pe_slice (slTA K) (pv 3) po_none (po_some (pv 5))) (pe_tup (pa_cons (pe_call G_odd hr_odd (by rfl) D_odd.ad D_odd.fn.kp D_odd.bd .nil pass0 (pa_cons (pv 0) (pa_cons (pe_ix (ixT K) (pv 3) (pv 5) (fun _ _ => rfl)) pa_nil))) pa_nil))) (pe_slice (slTA K) (pv 3) (po_some (pe_op op_add (pv 5) pe_int)) po_none)) pa_nil)))))))))))))), ?_⟩
    refine tSeq_go ?_
    refine ⟨_, rfl, a, _, rfl, ha, rfl, _, _, rfl, _, _, rfl, rfl, ?_⟩
    refine at_st [some (.ref b), some (.ref a), some (.int (n : Nat)), some (.ref c), none, none, none, none, none] rfl ?_
    refine tSeq_go ?_
    refine ⟨_, rfl, b, g, 9, rfl, by decide, by decide, hB, fun r H2 r0 r1 kp2 B2 => ?_⟩
    have hc2 := sqT_kf (KF.of_kp kp2 hB) hc
    refine ⟨_, rfl, _, rfl, c, ys, rfl, .inr hc2, _, _, rfl, rfl, b, g, (ys.length : Int) + 1, rfl, by omega, by omega, B2, fun r2 H3 q0 q1 kp3 B3 => ?_⟩
    refine ⟨_, _, rfl, ?_⟩
    obtain ⟨sp, rfl⟩ : ∃ n : Nat, r2 = (n : Int) := ⟨r2.toNat, by omega⟩
    have hsp : sp ≤ ts.length := by omega
    have kp := kp2.trans kp3
    have kf := KF.of_kp kp hB
    have ha := sqT_kf kf ha
    have hc := sqT_kf kf hc
    have hw := dp_kf kf _ (still_web n ts) hw
    have hys := dpAll_kf kf _ (still_ties ts) hys
    have k : ∀ (u : V) H', Kp b g H3 H' → Box H' b g → It K H' b g 400 6 u → Q u H' := fun u H' z => k u H' (kp.trans z)
    clear kp kf hc2 B2 kp2 kp3 q0 q1 hB
    refine at_st [some (.ref b), some (.ref a), some (.int (n : Nat)), some (.ref c), some (.int r), some (.int (sp : Nat)), none, none, none] rfl ?_
    have htD : Dp K H3 (.ref c) (tiesD ts) := .tup hc hys
    have hnS : n < 100000 := by omega
    have hz : ((n : Nat) : Int).natAbs < 2 ^ 50 := Nat.lt_of_lt_of_le (show ((n : Nat) : Int).natAbs < 1000 by omega) (by decide)
    have hlog : ((n : Nat) : Int).natAbs.log2 < 1920 := Nat.lt_of_lt_of_le (PySem.Flt.log2_lt_of (by decide) hz) (by decide)
    dsimp only
    refine tSeq_go ?_
    -- way 0
    refine ⟨_, rfl, rfl, _, rfl, ite2 (fun h0 => ?_) (fun h0 => ?_)⟩
    · clear h0
      have M : Mn K b g 10 2 H3 H3 [] := Mn.zero B3
      have M := M.atom (v := .int ((n : Int) + 1)) (it_int (sw_int (Nat.lt_of_lt_of_le (show ((n : Int) + 1).natAbs < 1000 by omega) (by decide))))
      have M := M.atom (v := .int ((n : Int) - 1)) (it_int (sw_int (Nat.lt_of_lt_of_le (show ((n : Int) - 1).natAbs < 1000 by omega) (by decide))))
      have M := M.atom (v := .int 0) (it_int (sw_int (by decide)))
      have M := M.atom (v := .int 13) (it_int (sw_int (by decide)))
      have M := M.atom (v := .int (-1)) (it_int (sw_int (by decide)))
      have M := M.atom (v := .bl true) ⟨true, _, .bl _, sw_bool.mono (by decide) (Nat.le_refl _)⟩
      have M := M.atom it_non
      have M := M.atom (v := .str (toString ((n : Nat) : Int))) ⟨true, _, .str _, (sw_txt hz).mono (by decide) (Nat.le_refl _)⟩
      refine ⟨_, rfl, _, rfl, n, 1, rfl, rfl, _, rfl, n, 1, rfl, rfl, 1, rfl, _, rfl, _, rfl, hlog, _, rfl, by show 1 ≤ sizeLine; decide, fun p1 hp1 => ?_⟩
      have M := M.new (o := .tup [.int (n : Nat)]) hp1 (it_tup (SqT.of upd_same) (.cons (.int _) .nil) (sw1 (sw_nat hnS)))
      generalize upd H3 p1 (.tup [.int (n : Nat)]) = H4 at *
      refine ⟨by show 9 ≤ sizeLine; decide, fun l hl => ?_⟩
      have hln := M.ne hl
      have M := M.put (o := .lst [.int ((n : Int) + 1), .int ((n : Int) - 1), .int 0, .int 13, .int (-1), .bl true, .non, .str (toString ((n : Nat) : Int)), .ref p1]) hl
      refine ⟨b, g, l, _, rfl, SqL.of upd_same, hln.1, hln.2, by show 0 < 9; decide, by show 9 < 1000000; decide, M.bx, fun j u H5 hj kp5 B5 => ?_⟩
      obtain ⟨md, d, q1, q2⟩ := M.it u (List.mem_of_getElem? hj)
      have q1 := dm_kp kp5 M.bx q1
      have htD := dp_kf (KF.of_kp kp5 M.bx) _ (still_tiesD ts) (dp_same M.s _ htD)
      refine ⟨_, rfl, by show 2 ≤ sizeLine; decide, fun p hp => ?_⟩
      have sp := same_new (o := .tup [u, .ref c]) hp
      exact k _ _ (((Kp.same M.s).trans kp5).trans (Kp.same sp)) (B5.same sp) (it_two (SqT.of upd_same) (dm_same sp q1) (dp_dm _ (still_tiesD ts) (dp_same sp _ htD)) (q2.mono (Nat.le_refl _) (by decide)) (sw_ties hts (by omega) (by omega)) (by decide))
    dsimp only [tNext]
    refine tSeq_go ?_
    -- way 1
    refine ⟨_, rfl, rfl, _, rfl, ite2 (fun h1 => ?_) (fun h1 => ?_)⟩
    · clear h1
      refine tSeq_go ?_
      have M : Mn K b g 400 6 H3 H3 [] := Mn.zero B3
      have dT : ∀ {H' : Hp} (md : Bool), Same H3 H' → Dm K H' (NB b g) md (.ref c) (tiesD ts) := fun md s => dp_dm _ (still_tiesD ts) (dp_same s _ htD)
      have sT : ∀ k, Sw (tiesD ts) 151 (k + 2) := fun k => sw_ties hts (by omega) (by omega)
      refine ⟨_, rfl, a, _, rfl, .inr ha, fun p1 hp1 => ?_⟩
      have s1 := same_new (o := .lst [.int (n : Nat), .ref c]) hp1
      have M := M.new (o := .lst [.int (n : Nat), .ref c]) hp1 (it_lst (SqL.of upd_same) (M.ne hp1) (.cons (.int _) (.cons (dT true (M.s.trans s1)) .nil)) (swa_mono (swa_cons (c1 := 1) (sw_nat hnS) (swa_cons (sT 3) (swa_nil (c := 0)))) (by decide) (Nat.le_refl _)))
      generalize upd H3 p1 (.lst [.int (n : Nat), .ref c]) = H4 at *
      clear s1
      refine ⟨_, rfl, by show 1 ≤ sizeLine; decide, fun p2 hp2 => ?_⟩
      have M := M.new (o := .tup [.int (n : Nat)]) hp2 (it_tup (SqT.of upd_same) (.cons (.int _) .nil) (swa_mono (sw1 (sw_nat hnS)) (by decide) (Nat.le_refl _)))
      generalize upd H4 p2 (.tup [.int (n : Nat)]) = H5 at *
      refine ⟨_, rfl, _, rfl, Nat.zero_le _, fun p3 hp3 => ?_⟩
      have e3 : (upd H5 p3 (.tup [])) p3 = some (.tup []) := upd_same
      have M := M.put (o := .tup []) hp3
      generalize upd H5 p3 (.tup []) = H6 at *
      refine ⟨by show 3 ≤ sizeLine; decide, fun p4 hp4 => ?_⟩
      have s4 := same_new (o := .tup [.int (n : Nat), .ref c, .ref p3]) hp4
      have M := M.new (o := .tup [.int (n : Nat), .ref c, .ref p3]) hp4 (it_tup (SqT.of upd_same) (.cons (.int _) (.cons (dT true (M.s.trans s4)) (.cons (.tup (SqT.of (s4 _ _ e3)) .nil) .nil)))
        (swa_mono (swa_cons (c1 := 1) (sw_nat hnS) (swa_cons (sT 3) (swa_cons (sw_tup (swa_nil (c := 0) (k := 4))) (swa_nil (c := 0))))) (by decide) (Nat.le_refl _)))
      generalize upd H6 p4 (.tup [.int (n : Nat), .ref c, .ref p3]) = H7 at *
      clear s4 e3
      refine ⟨_, rfl, _, rfl, by show 2 ≤ sizeLine; decide, fun p5 hp5 => ?_⟩
      have s5 := same_new (o := .tup [.ref c, .int (n : Nat)]) hp5
      have M := M.new (o := .tup [.ref c, .int (n : Nat)]) hp5 (it_tup (SqT.of upd_same) (.cons (dT true (M.s.trans s5)) (.cons (.int _) .nil)) (swa_mono (swa_cons (sT 3) (swa_cons (c1 := 1) (sw_nat hnS) (swa_nil (c := 0)))) (by decide) (Nat.le_refl _)))
      generalize upd H7 p5 (.tup [.ref c, .int (n : Nat)]) = H8 at *
      clear s5
      have M := M.atom it_non
      refine fun p6 hp6 => ?_
      have M := M.new (o := .dK []) hp6 (it_dic upd_same (M.ne hp6))
      generalize upd H8 p6 (.dK []) = H9 at *
      refine ⟨_, rfl, _, rfl, c, _, rfl, .inr (sqT_same M.s hc), fun p7 hp7 => ?_⟩
      have n7 := M.ne hp7
      have e7 : (upd H9 p7 (.lst ys)) p7 = some (.lst ys) := upd_same
      have M := M.put (o := .lst ys) hp7
      generalize upd H9 p7 (.lst ys) = H10 at *
      refine ⟨by show 2 ≤ sizeLine; decide, fun p8 hp8 => ?_⟩
      have s8 := same_new (o := .tup [.int (n : Nat), .ref p7]) hp8
      have M := M.new (o := .tup [.int (n : Nat), .ref p7]) hp8 (it_tup (SqT.of upd_same) (.cons (.int _) (.cons (.lst rfl (fun z => z.elim n7.1 n7.2) (SqL.of (s8 _ _ e7)) (dpAll_dm _ (still_ties ts) (dpAll_same (M.s.trans s8) _ hys))) .nil))
        (swa_mono (swa_cons (c1 := 1) (sw_nat hnS) (swa_cons (sw_lst (swa_ties (k := 3) ts fun t ht => by have := hts t ht; omega)) (swa_nil (c := 0)))) (by omega) (Nat.le_refl _)))
      generalize upd H10 p8 (.tup [.int (n : Nat), .ref p7]) = H11 at *
      clear s8 e7 n7
      have M := M.atom (v := .int (n : Nat)) (it_int (sw_nat hnS))
      refine ⟨_, rfl, by show 8 ≤ sizeLine; decide, fun l hl => ?_⟩
      have hln := M.ne hl
      have M := M.put (o := .lst [.ref p1, .ref p2, .ref p4, .ref p5, .non, .ref p6, .ref p8, .int (n : Nat)]) hl
      have hL : (upd H11 l (.lst [.ref p1, .ref p2, .ref p4, .ref p5, .non, .ref p6, .ref p8, .int (n : Nat)])) l = some (.lst [.ref p1, .ref p2, .ref p4, .ref p5, .non, .ref p6, .ref p8, .int (n : Nat)]) := upd_same
      generalize upd H11 l (.lst [.ref p1, .ref p2, .ref p4, .ref p5, .non, .ref p6, .ref p8, .int (n : Nat)]) = H12 at *
      dsimp only [gName]
      refine at_st [some (.ref b), some (.ref a), some (.int (n : Nat)), some (.ref c), some (.int r), some (.int (sp : Nat)), some (.ref l), none, none] rfl ?_
      refine ⟨_, rfl, _, rfl, b, g, l, _, rfl, SqL.of hL, hln.1, hln.2, by show 0 < 8; decide, by show 8 < 1000000; decide, M.bx, fun j u H5 hj kp5 B5 => ?_⟩
      obtain ⟨md, d, q1, q2⟩ := M.it u (List.mem_of_getElem? hj)
      exact k _ _ ((Kp.same M.s).trans kp5) B5 ⟨md, d, dm_kp kp5 M.bx q1, q2⟩
    dsimp only [tNext]
    refine tSeq_go ?_
    -- left out
    refine ⟨_, rfl, _, _, rfl, rfl, _, rfl, ite2 (fun h2 => ?_) (fun h2 => ?_)⟩
    · clear h2
      refine ⟨_, rfl, _, rfl, _, rfl, _, rfl, slA_by rfl hc fun c1 H4 s4 hc1 => ?_⟩
      refine ⟨_, rfl, _, rfl, sp, 1, rfl, rfl, _, rfl, ?_⟩
      dsimp only [tNoPart]
      refine slA_by rfl (sqT_same s4 hc) fun c2 H5 s5 hc2 => ?_
      have e1 : (sp : Int) + 1 = ((sp + 1 : Nat) : Int) := by omega
      rw [cut_hi] at hc1
      rw [e1, cut_lo] at hc2
      refine catA_by rfl rfl (sqT_same s5 hc1) hc2 (by rw [List.length_take, List.length_drop]; omega) fun c3 H6 s6 hc3 => ?_
      refine ⟨by show 2 ≤ sizeLine; decide, fun p hp => ?_⟩
      have s7 := same_new (o := .tup [.int (n : Nat), .ref c3]) hp
      have s37 := ((s4.trans s5).trans s6).trans s7
      have hys := dpAll_same s37 _ hys
      have hd : DpAll K (upd H6 p (.tup [.int (n : Nat), .ref c3])) (ys.take sp ++ ys.drop (sp + 1)) ((ts.take sp ++ ts.drop (sp + 1)).map tieD) := by
        rw [List.map_append, List.map_take, List.map_drop]
        exact dpAll_app (dpAll_take _ hys) (dpAll_drop _ hys)
      exact k _ _ (Kp.same s37) (B3.same s37) (it_two (md := true) (SqT.of upd_same) (.int _) (dp_dm (tiesD (ts.take sp ++ ts.drop (sp + 1))) (still_tiesD _) (.tup (sqT_same s7 hc3) hd)) (sw_nat hnS) (sw_ties (n := n) (fun t ht => by
        rcases List.mem_append.mp ht with z | z
        · exact hts t (List.mem_of_mem_take z)
        · exact hts t (List.mem_of_mem_drop z)) (by omega) (by rw [List.length_append, List.length_take, List.length_drop]; omega)) (by decide))
    dsimp only [tNext]
    refine tSeq_go ?_
    -- one place more
    have hret : ∀ (p : Addr) H4, Same H3 H4 → H4 p = some (.tup [.int ((n : Int) + 1), .ref c]) → Q (.ref p) H4 := fun p H4 s4 hp =>
      k _ _ (Kp.same s4) (B3.same s4) (it_two (md := true) (SqT.of hp) (.int _) (dp_dm _ (still_tiesD ts) (dp_same s4 _ htD)) (sw_int (Nat.lt_of_lt_of_le (show ((n : Int) + 1).natAbs < 1000 by omega) (by decide))) (sw_ties hts (by omega) (by omega)) (by decide))
    refine ⟨_, rfl, Nat.zero_le _, fun p0 hp0 => ?_⟩
    have s0 := same_new (o := .tup []) hp0
    refine ⟨tiesD ts, .tuple [], dp_same s0 _ htD, .tup (SqT.of upd_same) .nil, shaped_tiesD ts, by decide, _, rfl, ?_⟩
    rw [ties_nil]
    refine ite2 (fun h3 => ?_) (fun h3 => ?_)
    · refine iteT ?_
      refine ⟨_, rfl, n, 1, rfl, rfl, _, rfl, by show 2 ≤ sizeLine; decide, fun p hp => ?_⟩
      exact hret _ _ (s0.trans (same_new hp)) upd_same
    have h3 : ts ≠ [] := fun z => h3 (decide_eq_true z)
    have hpos : 0 < ts.length := List.length_pos_iff.mpr h3
    generalize upd H3 p0 (.tup []) = H4 at *
    refine ⟨_, rfl, rfl, _, rfl, ite2 (fun h4 => ?_) (fun h4 => ?_)⟩
    · refine ⟨_, rfl, n, 1, rfl, rfl, _, rfl, by show 2 ≤ sizeLine; decide, fun p hp => ?_⟩
      exact hret _ _ (s0.trans (same_new hp)) upd_same
    clear hret
    have hc := sqT_same s0 hc
    have hys := dpAll_same s0 _ hys
    have htD := dp_same s0 _ htD
    have B4 := B3.same s0
    have k : ∀ (u : V) H', Kp b g H4 H' → Box H' b g → It K H' b g 400 6 u → Q u H' := fun u H' z => k u H' ((Kp.same s0).trans z)
    clear s0 ha hw
    dsimp only [tNext]
    refine tSeq_go ?_
    refine ⟨_, rfl, _, rfl, c, ys, rfl, .inr hc, _, _, rfl, rfl, _, _, rfl, ?_⟩
    obtain ⟨sq, hsq, hsl⟩ : ∃ sq : Nat, (if (ys.length : Int) - 1 < sp then (ys.length : Int) - 1 else sp) = (sq : Int) ∧ sq < ts.length := by
      by_cases hh : (ys.length : Int) - 1 < sp
      · exact ⟨ts.length - 1, by rw [if_pos hh]; omega, by omega⟩
      · exact ⟨sp, by rw [if_neg hh], by omega⟩
    dsimp only [gName]
    refine at_st [some (.ref b), some (.ref a), some (.int (n : Nat)), some (.ref c), some (.int r), some (.int (if (ys.length : Int) - 1 < sp then (ys.length : Int) - 1 else sp)), none, none, none] rfl ?_
    rw [hsq]
    clear hsq
    have hsy : sq < ys.length := by omega
    have hyq : ys[sq]? = some ys[sq] := List.getElem?_eq_getElem hsy
    generalize ys[sq] = yq at hyq
    obtain ⟨dd, hdd, hdp⟩ := dpAll_get hys hyq
    obtain ⟨t, ht, rfl⟩ := get_map hdd
    obtain ⟨az, rfl, haz⟩ := dp_tie hdp
    refine tSeq_go ?_
    refine ⟨_, rfl, rfl, _, rfl, ite2 (fun h5 => ?_) (fun h5 => ?_)⟩
    · refine tSeq_go ?_
      refine ⟨_, rfl, _, rfl, c, ys, _, _, rfl, rfl, hc, atI_nat hyq, az, _, _, _, rfl, rfl, haz, atI_nat (j := 1) rfl, ?_⟩
      dsimp only [gName]
      refine at_st [some (.ref b), some (.ref a), some (.int (n : Nat)), some (.ref c), some (.int r), some (.int (sq : Nat)), none, some (.int (t.2 : Nat)), none] rfl ?_
      refine ⟨_, rfl, _, rfl, c, rfl, ⟨_, hc⟩, fun E1 hE1 => ?_⟩
      refine lc_run (walk_tup (xs := ys)) hE1 (fun i acc Hq => ∃ es : List Tie, DpAll K Hq acc (es.map tieD) ∧ es.length ≤ i ∧ ∀ t ∈ es, t ∈ ts) ?_ ?_ ?_ ?_
      · exact fun H' s => sqT_same s hc
      · exact ⟨[], .nil, Nat.le_refl _, by simp⟩
      · rintro i x acc H5 H' hi hacc e s ⟨es, r1, r2, r3⟩ ⟨rfl, hx⟩
        obtain ⟨dd2, hdd2, hdp2⟩ := dpAll_get hys hx
        obtain ⟨t2, ht2, rfl⟩ := get_map hdd2
        obtain ⟨ay, rfl, hay⟩ := dp_tie (dp_same s _ hdp2)
        have hal : acc.length = es.length := by rw [dpAll_len r1, List.length_map]
        refine ⟨rfl, _, rfl, _, rfl, ay, _, rfl, .inr hay, rfl, rfl, _, rfl, ?_⟩
        refine ite2 (fun hh => ?_) (fun hh => ?_)
        · refine ⟨_, rfl, ?_⟩
          refine lc_add hacc e (Same.refl _) (by omega) ⟨es ++ [t2], ?_, by rw [List.length_append, List.length_singleton]; omega, fun u hu => ?_⟩
          · rw [List.map_append]
            exact dpAll_app r1 (.cons (.tup (sqT_era hacc hay) (.cons (.int _) (.cons (.int _) .nil))) .nil)
          · rcases List.mem_append.mp hu with z | z
            · exact r3 u z
            · rw [List.mem_singleton.mp z]
              exact List.mem_of_getElem? ht2
        · exact lc_skip hacc e (Same.refl _) ⟨es, r1, by omega, r3⟩
      · rintro acc H5 h1 s5 ⟨es, r1, r2, r3⟩
        have r1 := dpAll_same era_back _ r1
        refine ⟨E1, acc, rfl, .inl ⟨SqL.of h1, fun q hq => ?_⟩⟩
        refine ⟨by show 2 ≤ sizeLine; decide, fun p hp => ?_⟩
        have s6 := same_new (o := .tup acc) hq
        have s7 := same_new (o := .tup [.int (n : Nat), .ref q]) hp
        have s57 := (s5.trans s6).trans s7
        exact k _ _ (Kp.same s57) (B4.same s57) (it_two (md := true) (SqT.of upd_same) (.int _) (dp_dm (tiesD es) (still_tiesD es) (.tup (SqT.of (s7 _ _ upd_same)) (dpAll_same (s6.trans s7) _ r1))) (sw_nat hnS) (sw_ties (n := n) (fun t ht => hts t (r3 t ht)) (by omega) (by omega)) (by decide))
    dsimp only [tNext]
    refine tSeq_go ?_
    refine ⟨_, rfl, rfl, _, rfl, ite2 (fun h6 => ?_) (fun h6 => ?_)⟩
    · refine ⟨_, rfl, _, rfl, _, rfl, n, 1, rfl, rfl, _, rfl, by show 2 ≤ sizeLine; decide, fun p1 hp1 => ⟨by show 1 ≤ sizeLine; decide, fun p2 hp2 => ?_⟩⟩
      have s1 := same_new (o := .tup [.int ((n : Int) - 1), .int (n : Nat)]) hp1
      have s2 := same_new (o := .tup [.ref p1]) hp2
      refine catA_by rfl rfl (sqT_same (s1.trans s2) hc) (SqT.of upd_same) (by rw [List.length_singleton]; omega) fun c3 H6 s6 hc3 => ?_
      refine ⟨by show 2 ≤ sizeLine; decide, fun p hp => ?_⟩
      have s7 := same_new (o := .tup [.int (n : Nat), .ref c3]) hp
      have s17 := ((s1.trans s2).trans s6).trans s7
      have hd : DmAll K (upd H6 p (.tup [.int (n : Nat), .ref c3])) (NB b g) true (ys ++ [.ref p1]) (ts.map tieD ++ [.tuple [.int ((n : Int) - 1), .int (n : Nat)]]) :=
        dmAll_app (dpAll_dm _ (still_ties ts) (dpAll_same s17 _ hys)) (.cons (.tup (SqT.of (s7 _ _ (s6 _ _ (s2 _ _ upd_same)))) (.cons (.int _) (.cons (.int _) .nil))) .nil)
      refine k _ _ (Kp.same s17) (B4.same s17) (it_two (md := true) (SqT.of upd_same) (.int _) (.tup (sqT_same s7 hc3) hd) (sw_nat hnS) (sw_tup (k := 4) (swa_app (swa_ties (k := 3) ts fun t ht => by have := hts t ht; omega)
        (swa_cons (sw_tup (swa_cons (c1 := 1) (sw_int (Nat.lt_of_lt_of_le (show ((n : Int) - 1).natAbs < 1000 by omega) (by decide))) (swa_cons (c1 := 1) (sw_nat hnS) (swa_nil (c := 0))))) (swa_nil (c := 0))))) (by omega))
    dsimp only [tNext]
    have hmt := hts t (List.mem_of_getElem? ht)
    refine ⟨_, rfl, _, rfl, _, rfl, _, rfl, slA_by rfl hc fun c1 H5 s5 hc1 => ?_⟩
    refine ⟨_, rfl, _, rfl, _, rfl, c, ys, _, _, rfl, rfl, sqT_same s5 hc, atI_nat hyq, b, g, .ref az, t, rfl, B4.same s5, dp_same s5 _ hdp, by omega, by omega, fun u H6 kp6 B6 hit => ?_⟩
    obtain ⟨md, d, q1, q2⟩ := hit
    have kf6 := KF.of_kp kp6 (B4.same s5)
    refine ⟨by show 1 ≤ sizeLine; decide, fun p1 hp1 => ?_⟩
    have s7 := same_new (o := .tup [u]) hp1
    rw [cut_hi] at hc1
    refine catA_by rfl rfl (sqT_same s7 (sqT_kf kf6 hc1)) (SqT.of upd_same) (by rw [List.length_take, List.length_singleton]; omega) fun c2 H8 s8 hc2 => ?_
    refine ⟨_, rfl, _, rfl, sq, 1, rfl, rfl, _, rfl, ?_⟩
    dsimp only [tNoPart]
    have kf8 := (KF.of_same s5).trans (kf6.trans (KF.of_same (s7.trans s8)))
    refine slA_by rfl (sqT_kf kf8 hc) fun c3 H9 s9 hc3 => ?_
    have e1 : (sq : Int) + 1 = ((sq + 1 : Nat) : Int) := by omega
    rw [e1, cut_lo] at hc3
    refine catA_by rfl rfl (sqT_same s9 hc2) hc3 (by rw [List.length_append, List.length_take, List.length_drop, List.length_singleton]; omega) fun c4 H10 s10 hc4 => ?_
    refine ⟨by show 2 ≤ sizeLine; decide, fun p hp => ?_⟩
    have s11 := same_new (o := .tup [.int (n : Nat), .ref c4]) hp
    have s711 := (((s7.trans s8).trans s9).trans s10).trans s11
    have kf11 := kf8.trans (KF.of_same ((s9.trans s10).trans s11))
    have hysm : DmAll K (upd H10 p (.tup [.int (n : Nat), .ref c4])) (NB b g) md ys (ts.map tieD) := dpAll_dm _ (still_ties ts) (dpAll_kf kf11 _ (still_ties ts) hys)
    have hd := dmAll_app (dmAll_app (dmAll_take sq hysm) (.cons (dm_same s711 q1) .nil)) (dmAll_drop (sq + 1) hysm)
    refine k _ _ (((Kp.same s5).trans kp6).trans (Kp.same s711)) (B6.same s711) (it_two (md := md) (SqT.of upd_same) (.int _) (.tup (sqT_same s11 hc4) hd) (sw_nat hnS) (sw_tup (c := 151 + 12 + 151) (k := 4) (swa_app (swa_app ?_ (swa_cons (q2.mono (Nat.le_refl _) (by decide)) (swa_nil (c := 0)))) ?_)) (by decide))
    · rw [← List.map_take]
      exact swa_mono (swa_ties (k := 3) _ fun t ht => by have := hts t (List.mem_of_mem_take ht); omega) (by rw [List.length_take]; omega) (Nat.le_refl _)
    · rw [← List.map_drop]
      exact swa_mono (swa_ties (k := 3) _ fun t ht => by have := hts t (List.mem_of_mem_drop ht); omega) (by rw [List.length_drop]; omega) (Nat.le_refl _)
end
end BV

namespace BV
open PySem L2
abbrev sTold : Stmt := top 24
abbrev nTold : List Str := ["_law_thing", "_law_is_named", "_law_kept", "_law_due", "_law_told"]
abbrev pTold : List Str := ["_law_thing", "_law_is_named"]
theorem scTold : FnScope nTold pTold (defScope sTold) := ⟨rfl, rfl, rfl, by decide +kernel, rfl, by decide +kernel, by decide +kernel⟩
abbrev sLaw : Stmt := top 25
abbrev nLaw : List Str := ["_law_script", "_law_box_here", "_law_turn", "_law_thing", "_law_step", "_law_once", "_law_again"]
abbrev pLaw : List Str := ["_law_script"]
theorem scLaw : FnScope nLaw pLaw (defScope sLaw) := ⟨rfl, rfl, rfl, by decide +kernel, rfl, by decide +kernel, by decide +kernel⟩
theorem sw_show {d : PyData} {c k : Nat} (h : Sw d c k) (hc : c ≤ 500) (hk : k ≤ 30) : ShowM d := h.show (by omega) (by omega)
theorem webE_cases (d : PyData) : webE d = .none ∨ webE d = .str "form" ∨ webE d = .str "apart" ∨ ∃ k : Nat, webE d = .tuple [.str "tie", .int (k : Nat)] := by
  unfold webE
  split
  · split
    · split
      · exact .inr (.inr (.inr ⟨_, rfl⟩))
      · split
        · exact .inl rfl
        · exact .inr (.inr (.inl rfl))
    · exact .inr (.inl rfl)
  · exact .inr (.inl rfl)
theorem shaped_webE (d : PyData) : SeqAt.shaped (webE d) = true := by
  rcases webE_cases d with h | h | h | ⟨k, h⟩ <;> rw [h]
  · decide +kernel
  · decide +kernel
  · decide +kernel
  · simp [SeqAt.shaped, PyData.canLay0, PyData.canLayAll0, PyData.depth, PyData.depthAll]
    decide +kernel
theorem eqv_apart {d : PyData} (h : PyData.eqv (webE d) (.str "apart") = true) : webE d = .str "apart" := by
  rcases webE_cases d with e | e | e | ⟨k, e⟩
  · rw [e] at h
    cases h
  · rw [e] at h
    exact absurd h (by decide +kernel)
  · exact e
  · rw [e] at h
    cases h
theorem sw_web {n : Nat} {ts : List Tie} (hts : ∀ t ∈ ts, t.1 < t.2 ∧ t.2 < n) (hn : n ≤ 1000) (hl : ts.length ≤ 50) : Sw (webD n ts) 500 20 :=
  (sw_tup (swa_cons (c1 := 1) (sw_nat (k := 5) (show n < 100000 by omega)) (swa_cons (sw_ties (k := 3) hts hn hl) (swa_nil (c := 0))))).mono (by decide) (by decide)
theorem most5 : ∀ i, i < 5 → ∃ m : Nat, [V.int 3, V.int 5, V.int 7, V.int 9, V.int 9][i]? = some (V.int (m : Int)) ∧ 1 ≤ m ∧ m ≤ 9
  | 0, _ => ⟨3, rfl, by decide, by decide⟩
  | 1, _ => ⟨5, rfl, by decide, by decide⟩
  | 2, _ => ⟨7, rfl, by decide, by decide⟩
  | 3, _ => ⟨9, rfl, by decide, by decide⟩
  | 4, _ => ⟨9, rfl, by decide, by decide⟩
  | n + 5, h => absurd h (by omega)
def spTold (K : PySem.W.Frag) : Sp := fun vs H Q _ => ∃ (N : Addr → Prop) (md : Bool) (v : V) (d : PyData) (z : Bool), vs = [v, .bl z] ∧ Dm K H N md v d ∧ Sw d 500 20 ∧ ∀ H', Same H H' → Q (.bl true) H'
def spLaw (K : PySem.W.Frag) : Sp := fun vs H Q _ => ∃ (a : Addr) (ns : List Int), vs = [.ref a] ∧ SqL K H a (ns.map V.int) ∧ ns.length ≤ 63 ∧ ∀ H', Q (.bl true) H'
section
variable {P : Program} {w : World} {K : PySem.W.Frag} {mg : Str → Option Value} {base : Heap}
theorem ok_told {f f1 f2 f3 f4 f5 f6 f7 f8 f9 g1 g2 : Addr} {fd fd1 fd2 fd3 fd4 fd5 fd6 fd7 fd8 fd9 e1 e2 : FuncData} {tP tT : Tok} (D : Df K mg "_law_is_told" sTold pTold f fd) (T : Bl mg) (hisinstance : mg "isinstance" = none) (hbool : mg "bool" = none) (hsorted : mg "sorted" = none)
    (hMP : mg "MAX_PLACES" = some (.int 12 tP)) (hMT : mg "MAX_TIES" = some (.int 40 tT)) (D_whole : Df K mg "whole" sWhole pWhole f1 fd1)
    (D_within : Df K mg "whole_within" sWithin pWithin f2 fd2) (D_row : Df K mg "row_of" sRow pRow f3 fd3) (D_far : Df K mg "far_end" sFar pFar f4 fd4) (D_ways : Df K mg "ways_from" sWays pWays f5 fd5)
    (D_met : Df K mg "places_met" sMet pMet f6 fd6) (D_istie : Df K mg "_is_tie" sIstie pIstie f7 fd7) (D_all : Df K mg "all_ties" sAll pAll f8 fd8) (D_werr : Df K mg "web_error" sWerr pWerr f9 fd9) (K_werr : KBn K fd9 pWerr 0 ["value"] (fun _ ws => ws) (fun _ zs => zs))
    (D_from : Df K mg "_law_is_from" sFrom pFrom g1 e1) (D_lerr : Df K mg "_law_error" sLerr pLerr g2 e2) :
    FnG P w K mg base CX0 5 f fd pTold (spTold K) := by
  have G_werr : FnOk P w K mg base CX0 4 f9 fd9 pWerr (spWerr K) := ok_werr D_werr T hisinstance hbool hsorted hMP hMT D_whole D_within D_row D_far D_ways D_met D_istie D_all
  have G_lerr : FnOk P w K mg base CX0 2 g2 e2 pLerr (spWerr K) := ok_lerr D_lerr T hisinstance hbool D_from
  refine okG D.fn scTold (fun vs H Q E h => ?_) (fun cdv A outer s H vs Q E hgd hr h => ?_)
  · obtain ⟨N, md, v, d, z, rfl, _⟩ := h
    rfl
  · obtain ⟨N, md, v, d, z, rfl, hx, hsw, k⟩ := h
    have nd := scTold.nd
    have hu64 := hr.units
    have hr_werr : Room 4 _ := hr
    have hr_lerr : Room 2 _ := hr.mono (by decide)
    have hsh := sw_show hsw (by decide) (by decide)
    refine ⟨_, (pss_cons (ps_par (i := 2) (j := 3) (by rfl) nd rfl rfl (by decide) rfl rfl (pa_cons (pe_callB (reprM K N md hgd hu64) (by rfl) T.repr (by decide +kernel) (pa_cons (pv 0) pa_nil)) (pa_cons (pe_call G_lerr hr_lerr (by rfl) D_lerr.ad D_lerr.fn.kp D_lerr.bd .nil pass0 (pa_cons (pv 0) pa_nil)) pa_nil)) (by rfl))
      (pss_cons (ps_set (i := 4) nd rfl (by first | exact Or.inl rfl | exact Or.inr rfl) (pe_ifExp (pt_val (pv 1)) (pe_callK0 G_werr hr_werr (by rfl) D_werr.ad D_werr.fn.kp K_werr pass0 (pk_cons (pv 0) pk_nil)) (pe_call G_werr hr_werr (by rfl) D_werr.ad D_werr.fn.kp D_werr.bd .nil pass0 (pa_cons (pv 0) pa_nil))))
      (pss_one (ps_ret (pe_cmpR op_eq (pe_callB (reprK K hgd hu64) (by rfl) T.repr (by decide +kernel) (pa_cons (pe_lst (pa_cons (pv 4) (pa_cons (pe_callB (reprM K N md hgd hu64) (by rfl) T.repr (by decide +kernel) (pa_cons (pv 0) pa_nil)) pa_nil))) pa_nil)) (pe_callB (reprK K hgd hu64) (by rfl) T.repr (by decide +kernel) (pa_cons (pe_lst (pa_cons (pv 3) (pa_cons (pv 2) pa_nil))) pa_nil)) (nomark _)))))), ?_⟩
    refine tSeq_go ?_
    refine ⟨_, rfl, v, d, rfl, hx, hsh, _, rfl, N, md, v, d, rfl, hx, fun u1 H1 s1 hu1 => ?_⟩
    refine ⟨_, _, rfl, ?_⟩
    have s2 := s1
    clear s1
    refine at_st [some v, some (.bl z), some (.str d.shown), some u1, none] rfl ?_
    dsimp only
    refine tSeq_go ?_
    refine tAsg_by (fun u H' => Same H1 H' ∧ Dp K H' u (webE d)) ?_ (fun cont => ?_)
    rotate_left
    · refine ⟨_, rfl, z, rfl, ite2 (fun h1 => ?_) (fun h1 => ?_)⟩
      · exact ⟨_, rfl, rfl, N, md, v, d, rfl, dm_same s2 hx, fun u H' s h => cont _ _ ⟨s, h⟩⟩
      · exact ⟨_, rfl, N, md, v, d, rfl, dm_same s2 hx, fun u H' s h => cont _ _ ⟨s, h⟩⟩
    rintro u2 H3 ⟨s3, hu2⟩
    have hu1 := dp_same s3 _ hu1
    have s3 := s2.trans s3
    clear s2
    dsimp only [gName]
    refine at_st [some v, some (.bl z), some (.str d.shown), some u1, some u2] rfl ?_
    obtain ⟨w1, w2⟩ := sw_webE d
    have hsp : Show (.list [webE d, .str d.shown]) := show_pair w1 w2 hsw.low (Nat.le_trans hsw.len (by decide))
    refine ⟨_, rfl, _, rfl, v, d, rfl, dm_same s3 hx, hsh, by show 2 ≤ sizeLine; decide, fun l hl => ?_⟩
    have s4 := same_new (o := .lst [u2, .str d.shown]) hl
    refine ⟨.ref l, .list [webE d, .str d.shown], rfl, .lst (SqL.of upd_same) (.cons (dp_same s4 _ hu2) (.cons (.str _) .nil)), hsp, _, rfl, _, rfl, by show 2 ≤ sizeLine; decide, fun l2 hl2 => ?_⟩
    have s5 := same_new (o := .lst [u1, .str d.shown]) hl2
    refine ⟨.ref l2, .list [webE d, .str d.shown], rfl, .lst (SqL.of upd_same) (.cons (dp_same (s4.trans s5) _ hu1) (.cons (.str _) .nil)), hsp, rfl, ?_⟩
    rw [decide_eq_true rfl]
    exact k _ ((s3.trans s4).trans s5)
theorem ok_law {f a0 f1 f2 f3 f4 f5 f6 f7 f8 f9 g1 g2 a1 a2 a3 a4 a5 a6 a7 : Addr} {fd d0 fd1 fd2 fd3 fd4 fd5 fd6 fd7 fd8 fd9 e1 e2 d1 d2 d3 d4 d5 d6 d7 : FuncData} {tP tT : Tok} (D : Df K mg "law" sLaw pLaw f fd) (T : Bl mg) (hlist : mg "list" = none) (hstr : mg "str" = none) (hisinstance : mg "isinstance" = none) (hbool : mg "bool" = none) (hsorted : mg "sorted" = none)
    (hMP : mg "MAX_PLACES" = some (.int 12 tP)) (hMT : mg "MAX_TIES" = some (.int 40 tT)) (D_whole : Df K mg "whole" sWhole pWhole f1 fd1)
    (D_within : Df K mg "whole_within" sWithin pWithin f2 fd2) (D_row : Df K mg "row_of" sRow pRow f3 fd3) (D_far : Df K mg "far_end" sFar pFar f4 fd4) (D_ways : Df K mg "ways_from" sWays pWays f5 fd5)
    (D_met : Df K mg "places_met" sMet pMet f6 fd6) (D_istie : Df K mg "_is_tie" sIstie pIstie f7 fd7) (D_all : Df K mg "all_ties" sAll pAll f8 fd8) (D_werr : Df K mg "web_error" sWerr pWerr f9 fd9) (K_werr : KBn K fd9 pWerr 0 ["value"] (fun _ ws => ws) (fun _ zs => zs))
    (D_from : Df K mg "_law_is_from" sFrom pFrom g1 e1) (D_lerr : Df K mg "_law_error" sLerr pLerr g2 e2)
    (D_box : Df K mg "_law_box" sBox ["_law_script"] a0 d0) (D_draw : Df K mg "_law_draw" sDraw ["_law_box_here", "_law_many"] a1 d1) (D_pick : Df K mg "_law_pick" sPick nPick a2 d2) (D_web : Df K mg "_law_web" sWeb pWeb a3 d3)
    (D_odd : Df K mg "_law_odd" sOdd pOdd a4 d4) (D_great : Df K mg "_law_great" sGreat pGreat a5 d5) (D_spoilt : Df K mg "_law_spoilt" sSpoilt pSpoilt a6 d6) (D_told_g : Df K mg "_law_is_told" sTold pTold a7 d7) :
    FnG P w K mg base CX0 6 f fd pLaw (spLaw K) := by
  have G_box : FnOk P w K mg base CX0 1 a0 d0 ["_law_script"] (spBox K) := ok_box D_box T
  have G_draw : FnOk P w K mg base CX0 1 a1 d1 ["_law_box_here", "_law_many"] spDraw := ok_draw D_draw T
  have G_web : FnOk P w K mg base CX0 3 a3 d3 pWeb (spWeb K) := ok_web D_web T D_draw D_pick
  have G_great : FnOk P w K mg base CX0 3 a5 d5 pGreat (spGreat K) := ok_great D_great T D_draw D_pick
  have G_spoilt : FnOk P w K mg base CX0 4 a6 d6 pSpoilt (spSpoilt K) := ok_spoilt D_spoilt T hstr hlist D_draw D_pick D_odd
  have G_lerr : FnOk P w K mg base CX0 2 g2 e2 pLerr (spWerr K) := ok_lerr D_lerr T hisinstance hbool D_from
  have G_told_g : FnG P w K mg base CX0 5 a7 d7 pTold (spTold K) := ok_told D_told_g T hisinstance hbool hsorted hMP hMT D_whole D_within D_row D_far D_ways D_met D_istie D_all D_werr K_werr D_from D_lerr
  refine okG D.fn scLaw (fun vs H Q E h => ?_) (fun cdv A outer s H vs Q E hgd hr h => ?_)
  · obtain ⟨a, ns, rfl, _⟩ := h
    rfl
  · obtain ⟨a, ns, rfl, hS, hlen, k⟩ := h
    have hr_box : Room 1 _ := hr.mono (by decide)
    have hr_draw : Room 1 _ := hr.mono (by decide)
    have hr_web : Room 3 _ := hr.mono (by decide)
    have hr_great : Room 3 _ := hr.mono (by decide)
    have hr_spoilt : Room 4 _ := hr.mono (by decide)
    have hr_lerr : Room 2 _ := hr.mono (by decide)
    have hr_told_g : Room 5 _ := hr
    have hu64 := hr.units
    have nd := scLaw.nd
    refine ⟨_, (pss_cons (ps_set (i := 1) nd rfl (by first | exact Or.inl rfl | exact Or.inr rfl) (pe_call G_box hr_box (by rfl) D_box.ad D_box.fn.kp D_box.bd .nil pass0 (pa_cons (pv 0) pa_nil)))
      (pss_cons (ps_for PassesOwn.never rfl (pi_range1 rfl T.range (pa_cons pe_int pa_nil)) (pg_name (i := 2) nd rfl (by first | exact Or.inl rfl | exact Or.inr rfl)) (pss_cons (ps_set (i := 3) nd rfl (by first | exact Or.inl rfl | exact Or.inr rfl) (pe_call G_web hr_web (by rfl) D_web.ad D_web.fn.kp D_web.bd .nil pass0 (pa_cons (pv 1) (pa_cons (pe_ix (ixL K) (pe_lst (pa_cons pe_int (pa_cons pe_int (pa_cons pe_int (pa_cons pe_int (pa_cons pe_int pa_nil)))))) (pv 2) (fun _ _ => rfl)) (pa_cons pe_int pa_nil)))))
      (pss_cons (ps_if (PW.pt (pw_and (pt_cmpR op_eq (pv 2) pe_int (nomark _)) (pw_and1 (pt_cmpR op_eq (pe_call G_draw hr_draw (by rfl) D_draw.ad D_draw.fn.kp D_draw.bd .nil pass0 (pa_cons (pv 1) (pa_cons pe_int pa_nil))) pe_int (nomark _))))) (pss_one (ps_set (i := 3) nd rfl (by first | exact Or.inl rfl | exact Or.inr rfl) (pe_call G_great hr_great (by rfl) D_great.ad D_great.fn.kp D_great.bd .nil pass0 (pa_cons (pv 1) pa_nil)))) pss_nil)
      (pss_cons (ps_if (PW.pt (pw_or (pt_not (pt_val (pe_callG G_told_g hgd hr_told_g (by rfl) D_told_g.ad D_told_g.fn.kp D_told_g.bd .nil pass0 (pa_cons (pv 3) (pa_cons (pe_cmpR op_eq (pv 2) pe_int (nomark _)) pa_nil))))) (pw_or1 (pt_not (pt_val (pe_callG G_told_g hgd hr_told_g (by rfl) D_told_g.ad D_told_g.fn.kp D_told_g.bd .nil pass0 (pa_cons (pv 3) (pa_cons pe_bl pa_nil)))))))) (pss_one (ps_ret pe_bl)) pss_nil)
      (pss_one (ps_for PassesOwn.never rfl (pi_range1 rfl T.range (pa_cons pe_int pa_nil)) (pg_name (i := 4) nd rfl (by first | exact Or.inl rfl | exact Or.inr rfl)) (pss_cons (ps_set (i := 5) nd rfl (by first | exact Or.inl rfl | exact Or.inr rfl) (pe_call G_spoilt hr_spoilt (by rfl) D_spoilt.ad D_spoilt.fn.kp D_spoilt.bd .nil pass0 (pa_cons (pv 1) (pa_cons (pv 3) pa_nil))))
      (pss_cons (ps_set (i := 6) nd rfl (by first | exact Or.inl rfl | exact Or.inr rfl) (pe_ifExp (PW.pt (pw_or (pt_cmpR op_isN (pe_call G_lerr hr_lerr (by rfl) D_lerr.ad D_lerr.fn.kp D_lerr.bd .nil pass0 (pa_cons (pv 5) pa_nil)) pe_non (nomark _)) (pw_or1 (pt_cmpR (opEqD K hr.units) (pe_call G_lerr hr_lerr (by rfl) D_lerr.ad D_lerr.fn.kp D_lerr.bd .nil pass0 (pa_cons (pv 5) pa_nil)) pe_str (nomark _))))) (pe_call G_spoilt hr_spoilt (by rfl) D_spoilt.ad D_spoilt.fn.kp D_spoilt.bd .nil pass0 (pa_cons (pv 1) (pa_cons (pv 5) pa_nil))) (pv 5)))
      (pss_one (ps_if (PW.pt (pw_or (pt_not (pt_val (pe_callG G_told_g hgd hr_told_g (by rfl) D_told_g.ad D_told_g.fn.kp D_told_g.bd .nil pass0 (pa_cons (pv 5) (pa_cons (pe_cmpR op_eq (pv 4) pe_int (nomark _)) pa_nil))))) (pw_or1 (pt_not (pt_val (pe_callG G_told_g hgd hr_told_g (by rfl) D_told_g.ad D_told_g.fn.kp D_told_g.bd .nil pass0 (pa_cons (pv 6) (pa_cons (pe_cmpR op_eq (pv 4) pe_int (nomark _)) pa_nil)))))))) (pss_one (ps_ret pe_bl)) pss_nil))))))))))
      (pss_one (ps_ret pe_bl)))), ?_⟩
    refine tSeq_go ?_
    refine ⟨_, rfl, a, ns, rfl, hS, hlen, fun b g H1 _ _ _ hB => ?_⟩
    dsimp only [gName]
    refine tSeq_go ?_
    refine ⟨5, rfl, by decide, by decide, ?_⟩
    refine for_range (lo := 0) (n := (5 : Int).toNat) (fun i σ Hc => ∃ (v2 v3 v4 v5 v6 : Option V),
      σ = [some (.ref a), some (.ref b), v2, v3, v4, v5, v6] ∧ Box Hc b g) ?_ ?_ ?_
    · exact ⟨none, none, none, none, none, rfl, hB⟩
    rotate_left
    · rintro σ Hc ⟨v2, v3, v4, v5, v6, rfl, hBc⟩
      exact k _
    rintro i σ Hc hi ⟨v2, v3, v4, v5, v6, rfl, hBc⟩
    have hi5 : i < 5 := hi
    rw [Int.zero_add]
    obtain ⟨m1, e1, q1, q2⟩ := most5 i hi5
    show tSeq _ _ _ _ _
    refine tSeq_go ?_
    refine ⟨_, rfl, by decide, fun l1 hl1 => ?_⟩
    have s1 := same_new (o := .lst [.int 3, .int 5, .int 7, .int 9, .int 9]) hl1
    refine ⟨_, rfl, l1, _, _, _, rfl, rfl, SqL.of upd_same, atI_nat e1, b, g, m1, 5, rfl, q1, by omega, by omega, hBc.same s1, fun p n ts H3 _ hB3 hdp hok hn hl _ => ?_⟩
    dsimp only [gName]
    refine at_st [some (.ref a), some (.ref b), some (.int (i : Nat)), some (.ref p), v4, v5, v6] rfl ?_
    refine tSeq_go ?_
    have hends := hok.ends
    have hpos := hok.pos
    refine tIfS_by (fun σ' H' => ∃ (v : V) (n : Nat) (ts : List Tie), σ' = [some (.ref a), some (.ref b), some (.int (i : Nat)), some v, v4, v5, v6] ∧ Box H' b g ∧ Dp K H' v (webD n ts) ∧ 1 ≤ n ∧ n ≤ 13 ∧ ts.length ≤ 41 ∧ ∀ t ∈ ts, t.1 < t.2 ∧ t.2 < n) ?_ (fun cont => ?_)
    rotate_left
    · refine ⟨_, rfl, rfl, _, rfl, ite2 (fun h1 => ?_) (fun h1 => ?_)⟩
      · refine ⟨_, rfl, b, g, 2, rfl, by decide, by decide, hB3, fun r H4 r0 r1 kp4 B4 => ⟨rfl, _, rfl, ite2 (fun h2 => ?_) (fun h2 => ?_)⟩⟩
        · refine ⟨_, rfl, b, g, rfl, B4, fun p2 n2 ts2 H5 _ B5 hd5 w1 w2 w3 w4 => ?_⟩
          exact cont _ _ ⟨.ref p2, n2, ts2, rfl, B5, hd5, w1, w2, w3, w4⟩
        · exact cont _ _ ⟨.ref p, n, ts, rfl, B4, dp_kf (KF.of_kp kp4 hB3) _ (still_web n ts) hdp, hpos, by omega, by omega, hends⟩
      · refine iteF ?_
        exact cont _ _ ⟨.ref p, n, ts, rfl, hB3, hdp, hpos, by omega, by omega, hends⟩
    clear hdp hok hn hl hends hpos hB3 s1 hBc hB e1 q1 q2
    rintro σ H4 ⟨v, n, ts, rfl, B4, hw, hn1, hn13, hl, hts⟩
    refine tSeq_go ?_
    have dW : ∀ {H' : Hp} (md : Bool), Dp K H' v (webD n ts) → Dm K H' (NB b g) md v (webD n ts) := fun md h => dp_dm _ (still_web n ts) h
    have sW : Sw (webD n ts) 500 20 := sw_web hts (by omega) (by omega)
    refine ⟨_, rfl, _, rfl, rfl, NB b g, true, v, webD n ts, _, rfl, dW true hw, sW, fun H5 s5 => ⟨true, rfl, ?_⟩⟩
    refine iteF ?_
    refine ⟨_, rfl, NB b g, true, v, webD n ts, _, rfl, dW true (dp_same s5 _ hw), sW, fun H6 s6 => ⟨true, rfl, ?_⟩⟩
    refine iteF ?_
    have hw := dp_same (s5.trans s6) _ hw
    have B6 := (B4.same s5).same s6
    clear s5 s6 B4
    dsimp only [tNext]
    refine ⟨7, rfl, by decide, by decide, ?_⟩
    refine for_range (lo := 0) (n := (7 : Int).toNat) (fun j σ Hc => ∃ (v4 v5 v6 : Option V),
      σ = [some (.ref a), some (.ref b), some (.int (i : Nat)), some v, v4, v5, v6] ∧ Box Hc b g ∧ Dp K Hc v (webD n ts)) ?_ ?_ ?_
    · exact ⟨v4, v5, v6, rfl, B6, hw⟩
    rotate_left
    · rintro σ Hc ⟨v4, v5, v6, rfl, hBc, _⟩
      exact ⟨_, _, _, _, _, rfl, hBc⟩
    clear hw B6
    rintro j σ Hc hj ⟨v4, v5, v6, rfl, Bc, hw⟩
    rw [Int.zero_add]
    show tSeq _ _ _ _ _
    refine tSeq_go ?_
    refine ⟨_, rfl, _, rfl, b, g, v, n, ts, rfl, Bc, hw, hn1, hn13, hl, hts, fun u H5 kp5 B5 hit => ?_⟩
    obtain ⟨md, d, q1, q2⟩ := hit
    have hw := dp_kf (KF.of_kp kp5 Bc) _ (still_web n ts) hw
    clear kp5 Bc
    dsimp only [gName]
    refine at_st [some (.ref a), some (.ref b), some (.int (i : Nat)), some v, some (.int (j : Nat)), some u, v6] rfl ?_
    refine tSeq_go ?_
    refine tAsg_by (fun u2 H' => ∃ (md2 : Bool) (d2 : PyData), Dm K H' (NB b g) md2 u2 d2 ∧ Sw d2 400 6 ∧ Dm K H' (NB b g) md u d ∧ Box H' b g ∧ Dp K H' v (webD n ts)) ?_ (fun cont => ?_)
    rotate_left
    · have again : ∀ H6, Same H5 H6 → (webE d = .none ∨ webE d = .str "apart") → ∃ n2 ts2, Dp K H6 u (webD n2 ts2) ∧ 1 ≤ n2 ∧ n2 ≤ 13 ∧ ts2.length ≤ 41 ∧ (∀ t ∈ ts2, t.1 < t.2 ∧ t.2 < n2) := fun H6 s6 hh => by
        obtain ⟨n2, ts2, rfl, w1, w2, w3, w4⟩ := webE_web hh
        exact ⟨n2, ts2, dm_dp _ (web_nodict n2 ts2).1 (dm_same s6 q1), w1, by omega, by omega, w4⟩
      refine ⟨_, rfl, NB b g, md, u, d, rfl, q1, fun e1 H6 s6 he1 => ⟨rfl, _, rfl, ite2 (fun h1 => ?_) (fun h1 => ?_)⟩⟩
      · refine iteT ?_
        have h1 : e1 = .non := of_decide_eq_true h1
        subst h1
        have hnone : webE d = .none := by
          generalize webE d = z at he1
          cases he1
          rfl
        obtain ⟨n2, ts2, w0, w1, w2, w3, w4⟩ := again H6 s6 (.inl hnone)
        have B6 := B5.same s6
        refine ⟨_, rfl, _, rfl, b, g, u, n2, ts2, rfl, B6, w0, w1, w2, w3, w4, fun u2 H7 kp7 B7 hit2 => ?_⟩
        obtain ⟨md2, d2, t1, t2⟩ := hit2
        exact cont _ _ ⟨md2, d2, t1, t2, dm_kp kp7 B6 (dm_same s6 q1), B7, dp_kf (KF.of_kp kp7 B6) _ (still_web n ts) (dp_same s6 _ hw)⟩
      · refine ⟨_, rfl, NB b g, md, u, d, rfl, dm_same s6 q1, fun e2 H7 s7 he2 => ⟨webE d, .str "apart", he2, .str _, shaped_webE d, by decide +kernel, _, rfl, ite2 (fun h2 => ?_) (fun h2 => ?_)⟩⟩
        · have s67 := s6.trans s7
          obtain ⟨n2, ts2, w0, w1, w2, w3, w4⟩ := again H7 s67 (.inr (eqv_apart h2))
          have B7 := B5.same s67
          refine ⟨_, rfl, _, rfl, b, g, u, n2, ts2, rfl, B7, w0, w1, w2, w3, w4, fun u2 H8 kp8 B8 hit2 => ?_⟩
          obtain ⟨md2, d2, t1, t2⟩ := hit2
          exact cont _ _ ⟨md2, d2, t1, t2, dm_kp kp8 B7 (dm_same s67 q1), B8, dp_kf (KF.of_kp kp8 B7) _ (still_web n ts) (dp_same s67 _ hw)⟩
        · have s67 := s6.trans s7
          exact ⟨_, rfl, cont _ _ ⟨md, d, dm_same s67 q1, q2, dm_same s67 q1, B5.same s67, dp_same s67 _ hw⟩⟩
    clear q1 hw B5
    rintro u2 H6 ⟨md2, d2, t1, t2, q1, B6, hw⟩
    dsimp only [gName]
    refine at_st [some (.ref a), some (.ref b), some (.int (i : Nat)), some v, some (.int (j : Nat)), some u, some u2] rfl ?_
    refine ⟨_, rfl, _, rfl, rfl, NB b g, md, u, d, _, rfl, q1, q2.mono (by decide) (by decide), fun H7 s7 => ⟨true, rfl, ?_⟩⟩
    refine iteF ?_
    refine ⟨_, rfl, _, rfl, rfl, NB b g, md2, u2, d2, _, rfl, dm_same s7 t1, t2.mono (by decide) (by decide), fun H8 s8 => ⟨true, rfl, ?_⟩⟩
    refine iteF ?_
    exact ⟨_, _, _, rfl, (B6.same s7).same s8, dp_same (s7.trans s8) _ hw⟩
end
end BV

namespace BV
open PySem L2
section
variable {K : PySem.W.Frag} {mg : Str → Option Value}
theorem df_mk {x : String} {st : Stmt} {ps : List Str} {f : Addr} {oc : Value} {od an : Option Addr} {osl : Array (Option Value)} {kV doc pm cdv ct : Value} {h : Heap}
    (X : K.In h) (G : h.Ns mainGlobals mg)
    (a : PySem.W.nsIn K mainGlobals (Str.ofString x) = some (some (.ref f)))
    (l : K.lookup f = some ⟨oc, od, .func (PySem.W.fnOf (Str.ofString x) (Str.ofString x) (defArgs st) (defBody st) (defScope st) .none kV doc pm an cdv ct), osl⟩)
    (c : PySem.W.codeIn K cdv (Str.ofString x) = true) (k : PySem.W.keepIn K (.ref f) = true)
    (hb : ∀ (kV doc pm : Value) (an : Option Addr) (cdv ct : Value) (us : List Value), us.length = ps.length →
      bindArgs (PySem.W.fnOf (Str.ofString x) (Str.ofString x) (defArgs st) (defBody st) (defScope st) .none kV doc pm an cdv ct) ⟨us, []⟩ = pure (ps.zip us)) :
    Df K mg x st ps f (PySem.W.fnOf (Str.ofString x) (Str.ofString x) (defArgs st) (defBody st) (defScope st) .none kV doc pm an cdv ct) :=
  ⟨fun_mk (st := st) l c k, PySem.W.mg_of X G a, (fun_mk (st := st) l c k).binds hb⟩
theorem kbn_mk {x : Str} {params : Arguments} {body : List Stmt} {scope : Scope} {f : Addr} {ps ks : List Str} {g : List Value → List Value → List Value} {gV : List V → List V → List V}
    {oc : Value} {od an : Option Addr} {osl : Array (Option Value)} {kV doc pm cdv ct : Value}
    (_l : K.lookup f = some ⟨oc, od, .func (PySem.W.fnOf x x params body scope .none kV doc pm an cdv ct), osl⟩)
    (hb : ∀ us ws : List Value, us.length = 0 → ws.length = ks.length →
      bindArgs (PySem.W.fnOf x x params body scope .none kV doc pm an cdv ct) ⟨us, ks.zip ws⟩ = pure (ps.zip (g us ws)))
    (hr : ∀ {vs : List V} {us : List Value} {zs : List V} {ws : List Value}, Vals vs us → Vals zs ws → Vals (gV vs zs) (g us ws)) :
    KBn K (PySem.W.fnOf x x params body scope .none kV doc pm an cdv ct) ps 0 ks g gV :=
  ⟨fun _ us ws _ h1 h2 => .of_eq (hb us ws h1 h2), hr⟩
end
theorem all_mk {l : PySem.W.OpenLaw} {w : World} {K : PySem.W.Frag} {h : Heap} {mg : Str → Option Value} {fa : Addr} (X : K.In h) (G : h.Ns mainGlobals mg) (hfa : mg "law" = some (.ref fa))
    {f0 f1 f2 f3 f4 f5 f6 f7 f8 f9 f10 f11 f12 f13 f14 f15 f16 f17 f18 f19 : Addr} {od0 an0 od1 an1 od2 an2 od3 an3 od4 an4 od5 an5 od6 an6 od7 an7 od8 an8 od9 an9 od10 an10 od11 an11 od12 an12 od13 an13 od14 an14 od15 an15 od16 an16 od17 an17 od18 an18 od19 an19 : Option Addr} {sl0 sl1 sl2 sl3 sl4 sl5 sl6 sl7 sl8 sl9 sl10 sl11 sl12 sl13 sl14 sl15 sl16 sl17 sl18 sl19 : Array (Option Value)}
    {oc0 kV0 dc0 pm0 cd0 ct0 oc1 kV1 dc1 pm1 cd1 ct1 oc2 kV2 dc2 pm2 cd2 ct2 oc3 kV3 dc3 pm3 cd3 ct3 oc4 kV4 dc4 pm4 cd4 ct4 oc5 kV5 dc5 pm5 cd5 ct5 oc6 kV6 dc6 pm6 cd6 ct6 oc7 kV7 dc7 pm7 cd7 ct7 oc8 kV8 dc8 pm8 cd8 ct8 oc9 kV9 dc9 pm9 cd9 ct9 oc10 kV10 dc10 pm10 cd10 ct10 oc11 kV11 dc11 pm11 cd11 ct11 oc12 kV12 dc12 pm12 cd12 ct12 oc13 kV13 dc13 pm13 cd13 ct13 oc14 kV14 dc14 pm14 cd14 ct14 oc15 kV15 dc15 pm15 cd15 ct15 oc16 kV16 dc16 pm16 cd16 ct16 oc17 kV17 dc17 pm17 cd17 ct17 oc18 kV18 dc18 pm18 cd18 ct18 oc19 kV19 dc19 pm19 cd19 ct19 : Value}
    (a0 : PySem.W.nsIn K mainGlobals "whole" = some (some (.ref f0)))
    (l0 : K.lookup f0 = some ⟨oc0, od0, .func (PySem.W.fnOf "whole" "whole" (defArgs sWhole) (defBody sWhole) (defScope sWhole) .none kV0 dc0 pm0 an0 cd0 ct0), sl0⟩)
    (c0 : PySem.W.codeIn K cd0 "whole" = true) (k0 : PySem.W.keepIn K (.ref f0) = true)
    (a1 : PySem.W.nsIn K mainGlobals "whole_within" = some (some (.ref f1)))
    (l1 : K.lookup f1 = some ⟨oc1, od1, .func (PySem.W.fnOf "whole_within" "whole_within" (defArgs sWithin) (defBody sWithin) (defScope sWithin) .none kV1 dc1 pm1 an1 cd1 ct1), sl1⟩)
    (c1 : PySem.W.codeIn K cd1 "whole_within" = true) (k1 : PySem.W.keepIn K (.ref f1) = true)
    (a2 : PySem.W.nsIn K mainGlobals "row_of" = some (some (.ref f2)))
    (l2 : K.lookup f2 = some ⟨oc2, od2, .func (PySem.W.fnOf "row_of" "row_of" (defArgs sRow) (defBody sRow) (defScope sRow) .none kV2 dc2 pm2 an2 cd2 ct2), sl2⟩)
    (c2 : PySem.W.codeIn K cd2 "row_of" = true) (k2 : PySem.W.keepIn K (.ref f2) = true)
    (a3 : PySem.W.nsIn K mainGlobals "all_ties" = some (some (.ref f3)))
    (l3 : K.lookup f3 = some ⟨oc3, od3, .func (PySem.W.fnOf "all_ties" "all_ties" (defArgs sAll) (defBody sAll) (defScope sAll) .none kV3 dc3 pm3 an3 cd3 ct3), sl3⟩)
    (c3 : PySem.W.codeIn K cd3 "all_ties" = true) (k3 : PySem.W.keepIn K (.ref f3) = true)
    (a4 : PySem.W.nsIn K mainGlobals "far_end" = some (some (.ref f4)))
    (l4 : K.lookup f4 = some ⟨oc4, od4, .func (PySem.W.fnOf "far_end" "far_end" (defArgs sFar) (defBody sFar) (defScope sFar) .none kV4 dc4 pm4 an4 cd4 ct4), sl4⟩)
    (c4 : PySem.W.codeIn K cd4 "far_end" = true) (k4 : PySem.W.keepIn K (.ref f4) = true)
    (a5 : PySem.W.nsIn K mainGlobals "ways_from" = some (some (.ref f5)))
    (l5 : K.lookup f5 = some ⟨oc5, od5, .func (PySem.W.fnOf "ways_from" "ways_from" (defArgs sWays) (defBody sWays) (defScope sWays) .none kV5 dc5 pm5 an5 cd5 ct5), sl5⟩)
    (c5 : PySem.W.codeIn K cd5 "ways_from" = true) (k5 : PySem.W.keepIn K (.ref f5) = true)
    (a6 : PySem.W.nsIn K mainGlobals "places_met" = some (some (.ref f6)))
    (l6 : K.lookup f6 = some ⟨oc6, od6, .func (PySem.W.fnOf "places_met" "places_met" (defArgs sMet) (defBody sMet) (defScope sMet) .none kV6 dc6 pm6 an6 cd6 ct6), sl6⟩)
    (c6 : PySem.W.codeIn K cd6 "places_met" = true) (k6 : PySem.W.keepIn K (.ref f6) = true)
    (a7 : PySem.W.nsIn K mainGlobals "web_error" = some (some (.ref f7)))
    (l7 : K.lookup f7 = some ⟨oc7, od7, .func (PySem.W.fnOf "web_error" "web_error" (defArgs sWerr) (defBody sWerr) (defScope sWerr) .none kV7 dc7 pm7 an7 cd7 ct7), sl7⟩)
    (c7 : PySem.W.codeIn K cd7 "web_error" = true) (k7 : PySem.W.keepIn K (.ref f7) = true)
    (a8 : PySem.W.nsIn K mainGlobals "_is_tie" = some (some (.ref f8)))
    (l8 : K.lookup f8 = some ⟨oc8, od8, .func (PySem.W.fnOf "_is_tie" "_is_tie" (defArgs sIstie) (defBody sIstie) (defScope sIstie) .none kV8 dc8 pm8 an8 cd8 ct8), sl8⟩)
    (c8 : PySem.W.codeIn K cd8 "_is_tie" = true) (k8 : PySem.W.keepIn K (.ref f8) = true)
    (a9 : PySem.W.nsIn K mainGlobals "_law_box" = some (some (.ref f9)))
    (l9 : K.lookup f9 = some ⟨oc9, od9, .func (PySem.W.fnOf "_law_box" "_law_box" (defArgs sBox) (defBody sBox) (defScope sBox) .none kV9 dc9 pm9 an9 cd9 ct9), sl9⟩)
    (c9 : PySem.W.codeIn K cd9 "_law_box" = true) (k9 : PySem.W.keepIn K (.ref f9) = true)
    (a10 : PySem.W.nsIn K mainGlobals "_law_draw" = some (some (.ref f10)))
    (l10 : K.lookup f10 = some ⟨oc10, od10, .func (PySem.W.fnOf "_law_draw" "_law_draw" (defArgs sDraw) (defBody sDraw) (defScope sDraw) .none kV10 dc10 pm10 an10 cd10 ct10), sl10⟩)
    (c10 : PySem.W.codeIn K cd10 "_law_draw" = true) (k10 : PySem.W.keepIn K (.ref f10) = true)
    (a11 : PySem.W.nsIn K mainGlobals "_law_pick" = some (some (.ref f11)))
    (l11 : K.lookup f11 = some ⟨oc11, od11, .func (PySem.W.fnOf "_law_pick" "_law_pick" (defArgs sPick) (defBody sPick) (defScope sPick) .none kV11 dc11 pm11 an11 cd11 ct11), sl11⟩)
    (c11 : PySem.W.codeIn K cd11 "_law_pick" = true) (k11 : PySem.W.keepIn K (.ref f11) = true)
    (a12 : PySem.W.nsIn K mainGlobals "_law_web" = some (some (.ref f12)))
    (l12 : K.lookup f12 = some ⟨oc12, od12, .func (PySem.W.fnOf "_law_web" "_law_web" (defArgs sWeb) (defBody sWeb) (defScope sWeb) .none kV12 dc12 pm12 an12 cd12 ct12), sl12⟩)
    (c12 : PySem.W.codeIn K cd12 "_law_web" = true) (k12 : PySem.W.keepIn K (.ref f12) = true)
    (a13 : PySem.W.nsIn K mainGlobals "_law_is_from" = some (some (.ref f13)))
    (l13 : K.lookup f13 = some ⟨oc13, od13, .func (PySem.W.fnOf "_law_is_from" "_law_is_from" (defArgs sFrom) (defBody sFrom) (defScope sFrom) .none kV13 dc13 pm13 an13 cd13 ct13), sl13⟩)
    (c13 : PySem.W.codeIn K cd13 "_law_is_from" = true) (k13 : PySem.W.keepIn K (.ref f13) = true)
    (a14 : PySem.W.nsIn K mainGlobals "_law_error" = some (some (.ref f14)))
    (l14 : K.lookup f14 = some ⟨oc14, od14, .func (PySem.W.fnOf "_law_error" "_law_error" (defArgs sLerr) (defBody sLerr) (defScope sLerr) .none kV14 dc14 pm14 an14 cd14 ct14), sl14⟩)
    (c14 : PySem.W.codeIn K cd14 "_law_error" = true) (k14 : PySem.W.keepIn K (.ref f14) = true)
    (a15 : PySem.W.nsIn K mainGlobals "_law_odd" = some (some (.ref f15)))
    (l15 : K.lookup f15 = some ⟨oc15, od15, .func (PySem.W.fnOf "_law_odd" "_law_odd" (defArgs sOdd) (defBody sOdd) (defScope sOdd) .none kV15 dc15 pm15 an15 cd15 ct15), sl15⟩)
    (c15 : PySem.W.codeIn K cd15 "_law_odd" = true) (k15 : PySem.W.keepIn K (.ref f15) = true)
    (a16 : PySem.W.nsIn K mainGlobals "_law_great" = some (some (.ref f16)))
    (l16 : K.lookup f16 = some ⟨oc16, od16, .func (PySem.W.fnOf "_law_great" "_law_great" (defArgs sGreat) (defBody sGreat) (defScope sGreat) .none kV16 dc16 pm16 an16 cd16 ct16), sl16⟩)
    (c16 : PySem.W.codeIn K cd16 "_law_great" = true) (k16 : PySem.W.keepIn K (.ref f16) = true)
    (a17 : PySem.W.nsIn K mainGlobals "_law_spoilt" = some (some (.ref f17)))
    (l17 : K.lookup f17 = some ⟨oc17, od17, .func (PySem.W.fnOf "_law_spoilt" "_law_spoilt" (defArgs sSpoilt) (defBody sSpoilt) (defScope sSpoilt) .none kV17 dc17 pm17 an17 cd17 ct17), sl17⟩)
    (c17 : PySem.W.codeIn K cd17 "_law_spoilt" = true) (k17 : PySem.W.keepIn K (.ref f17) = true)
    (a18 : PySem.W.nsIn K mainGlobals "_law_is_told" = some (some (.ref f18)))
    (l18 : K.lookup f18 = some ⟨oc18, od18, .func (PySem.W.fnOf "_law_is_told" "_law_is_told" (defArgs sTold) (defBody sTold) (defScope sTold) .none kV18 dc18 pm18 an18 cd18 ct18), sl18⟩)
    (c18 : PySem.W.codeIn K cd18 "_law_is_told" = true) (k18 : PySem.W.keepIn K (.ref f18) = true)
    (a19 : PySem.W.nsIn K mainGlobals "law" = some (some (.ref f19)))
    (l19 : K.lookup f19 = some ⟨oc19, od19, .func (PySem.W.fnOf "law" "law" (defArgs sLaw) (defBody sLaw) (defScope sLaw) .none kV19 dc19 pm19 an19 cd19 ct19), sl19⟩)
    (c19 : PySem.W.codeIn K cd19 "law" = true) (k19 : PySem.W.keepIn K (.ref f19) = true)
    (z_int : PySem.W.nsIn K mainGlobals "int" = some none)
    (z_abs : PySem.W.nsIn K mainGlobals "abs" = some none)
    (z_len : PySem.W.nsIn K mainGlobals "len" = some none)
    (z_range : PySem.W.nsIn K mainGlobals "range" = some none)
    (z_enumerate : PySem.W.nsIn K mainGlobals "enumerate" = some none)
    (z_tuple : PySem.W.nsIn K mainGlobals "tuple" = some none)
    (z_min : PySem.W.nsIn K mainGlobals "min" = some none)
    (z_max : PySem.W.nsIn K mainGlobals "max" = some none)
    (z_sum : PySem.W.nsIn K mainGlobals "sum" = some none)
    (z_repr : PySem.W.nsIn K mainGlobals "repr" = some none)
    (z_list : PySem.W.nsIn K mainGlobals "list" = some none)
    (z_str : PySem.W.nsIn K mainGlobals "str" = some none)
    (z_isinstance : PySem.W.nsIn K mainGlobals "isinstance" = some none)
    (z_bool : PySem.W.nsIn K mainGlobals "bool" = some none)
    (z_sorted : PySem.W.nsIn K mainGlobals "sorted" = some none)
    {tP tT : Tok} (mp : PySem.W.nsIn K mainGlobals "MAX_PLACES" = some (some (.int 12 tP))) (mt : PySem.W.nsIn K mainGlobals "MAX_TIES" = some (some (.int 40 tT))) :
    ∃ fd : FuncData, (∀ (s : Shared) (v : Value), BindsTo s fd ⟨[v], []⟩ [("_law_script", v)]) ∧
      ∀ base : Heap, K.In base → base.Ns mainGlobals mg → FnG l.prog w K mg base CX0 6 fa fd ["_law_script"] (spLaw K) := by
  have e := hfa.symm.trans (PySem.W.mg_of X G a19)
  cases e
  have T : Bl mg := ⟨PySem.W.mg_none_of X G z_int, PySem.W.mg_none_of X G z_abs, PySem.W.mg_none_of X G z_len, PySem.W.mg_none_of X G z_range, PySem.W.mg_none_of X G z_enumerate, PySem.W.mg_none_of X G z_tuple, PySem.W.mg_none_of X G z_min, PySem.W.mg_none_of X G z_max, PySem.W.mg_none_of X G z_sum, PySem.W.mg_none_of X G z_repr⟩
  have Zlist : mg "list" = none := PySem.W.mg_none_of X G z_list
  have Zstr : mg "str" = none := PySem.W.mg_none_of X G z_str
  have Zisinstance : mg "isinstance" = none := PySem.W.mg_none_of X G z_isinstance
  have Zbool : mg "bool" = none := PySem.W.mg_none_of X G z_bool
  have Zsorted : mg "sorted" = none := PySem.W.mg_none_of X G z_sorted
  have MP : mg "MAX_PLACES" = some (.int 12 tP) := PySem.W.mg_of X G mp
  have MT : mg "MAX_TIES" = some (.int 40 tT) := PySem.W.mg_of X G mt
  have D0 : Df K mg "whole" sWhole ["value"] f0 _ := df_mk X G a0 l0 c0 k0 fun _ _ _ _ _ _ us hl => match us, hl with | [_], _ => rfl
  have D1 : Df K mg "whole_within" sWithin ["value", "low", "high"] f1 _ := df_mk X G a1 l1 c1 k1 fun _ _ _ _ _ _ us hl => match us, hl with | [_, _, _], _ => rfl
  have D2 : Df K mg "row_of" sRow ["value", "many"] f2 _ := df_mk X G a2 l2 c2 k2 fun _ _ _ _ _ _ us hl => match us, hl with | [_, _], _ => rfl
  have D3 : Df K mg "all_ties" sAll ["web"] f3 _ := df_mk X G a3 l3 c3 k3 fun _ _ _ _ _ _ us hl => match us, hl with | [_], _ => rfl
  have D4 : Df K mg "far_end" sFar ["web", "tie", "place"] f4 _ := df_mk X G a4 l4 c4 k4 fun _ _ _ _ _ _ us hl => match us, hl with | [_, _, _], _ => rfl
  have D5 : Df K mg "ways_from" sWays ["web", "ties", "start"] f5 _ := df_mk X G a5 l5 c5 k5 fun _ _ _ _ _ _ us hl => match us, hl with | [_, _, _], _ => rfl
  have D6 : Df K mg "places_met" sMet ["web", "ties", "start"] f6 _ := df_mk X G a6 l6 c6 k6 fun _ _ _ _ _ _ us hl => match us, hl with | [_, _, _], _ => rfl
  have D7 : Df K mg "web_error" sWerr ["value"] f7 _ := df_mk X G a7 l7 c7 k7 fun _ _ _ _ _ _ us hl => match us, hl with | [_], _ => rfl
  have D8 : Df K mg "_is_tie" sIstie ["many", "item"] f8 _ := df_mk X G a8 l8 c8 k8 fun _ _ _ _ _ _ us hl => match us, hl with | [_, _], _ => rfl
  have D9 : Df K mg "_law_box" sBox ["_law_script"] f9 _ := df_mk X G a9 l9 c9 k9 fun _ _ _ _ _ _ us hl => match us, hl with | [_], _ => rfl
  have D10 : Df K mg "_law_draw" sDraw ["_law_box_here", "_law_many"] f10 _ := df_mk X G a10 l10 c10 k10 fun _ _ _ _ _ _ us hl => match us, hl with | [_, _], _ => rfl
  have D11 : Df K mg "_law_pick" sPick ["_law_box_here", "_law_items"] f11 _ := df_mk X G a11 l11 c11 k11 fun _ _ _ _ _ _ us hl => match us, hl with | [_, _], _ => rfl
  have D12 : Df K mg "_law_web" sWeb ["_law_box_here", "_law_most", "_law_more"] f12 _ := df_mk X G a12 l12 c12 k12 fun _ _ _ _ _ _ us hl => match us, hl with | [_, _, _], _ => rfl
  have D13 : Df K mg "_law_is_from" sFrom ["_law_thing", "_law_low", "_law_high"] f13 _ := df_mk X G a13 l13 c13 k13 fun _ _ _ _ _ _ us hl => match us, hl with | [_, _, _], _ => rfl
  have D14 : Df K mg "_law_error" sLerr ["_law_thing"] f14 _ := df_mk X G a14 l14 c14 k14 fun _ _ _ _ _ _ us hl => match us, hl with | [_], _ => rfl
  have D15 : Df K mg "_law_odd" sOdd ["_law_box_here", "_law_own"] f15 _ := df_mk X G a15 l15 c15 k15 fun _ _ _ _ _ _ us hl => match us, hl with | [_, _], _ => rfl
  have D16 : Df K mg "_law_great" sGreat ["_law_box_here"] f16 _ := df_mk X G a16 l16 c16 k16 fun _ _ _ _ _ _ us hl => match us, hl with | [_], _ => rfl
  have D17 : Df K mg "_law_spoilt" sSpoilt ["_law_box_here", "_law_thing"] f17 _ := df_mk X G a17 l17 c17 k17 fun _ _ _ _ _ _ us hl => match us, hl with | [_, _], _ => rfl
  have D18 : Df K mg "_law_is_told" sTold ["_law_thing", "_law_is_named"] f18 _ := df_mk X G a18 l18 c18 k18 fun _ _ _ _ _ _ us hl => match us, hl with | [_, _], _ => rfl
  have D19 : Df K mg "law" sLaw ["_law_script"] fa _ := df_mk X G a19 l19 c19 k19 fun _ _ _ _ _ _ us hl => match us, hl with | [_], _ => rfl
  have Kw : KBn K _ ["value"] 0 ["value"] (fun _ ws => ws) (fun _ zs => zs) := kbn_mk l7 (fun us ws h1 h2 => match us, ws, h1, h2 with | [], [_], _, _ => rfl) (fun r1 r2 => r2)
  exact ⟨_, fun s v => .of_eq rfl, fun base _ _ => ok_law D19 T Zlist Zstr Zisinstance Zbool Zsorted MP MT D0 D1 D2 D4 D5 D6 D8 D3 D7 Kw D13 D14 D9 D10 D11 D12 D15 D16 D17 D18⟩
end BV

open PySem PySem.W PyProof.Rows in
set_option maxRecDepth 100000 in
set_option maxHeartbeats 0 in
theorem PySem.Challenge.cw_botheven_k01_what_is_a_web_holds : PySem.Challenge.rw_botheven_k01_what_is_a_web.Holds := by
  w_on; o_law; k_head; (case hw => w_witness2)
  k_fill
  refine BV.walk_ofG (n := 63) (k := 6) (x := "_law_script") (CX := L2.CX0) (sp := BV.spLaw) (l := PySem.Challenge.rw_botheven_k01_what_is_a_web) rfl (by decide) rfl ⟨rfl, by decide, by decide⟩ (fun w h Y => PySem.W.kIn_of Y) ?F (fun _ _ a ns hl _ _ hS => ⟨a, ns, rfl, hS, hl, fun _ => rfl⟩) fun _ _ _ _ z => z
  case F =>
    intro w mg fa h KX G hmg
    refine' BV.all_mk KX G hmg ?a0 ?l0 ?c0 ?k0 ?a1 ?l1 ?c1 ?k1 ?a2 ?l2 ?c2 ?k2 ?a3 ?l3 ?c3 ?k3 ?a4 ?l4 ?c4 ?k4 ?a5 ?l5 ?c5 ?k5 ?a6 ?l6 ?c6 ?k6 ?a7 ?l7 ?c7 ?k7 ?a8 ?l8 ?c8 ?k8 ?a9 ?l9 ?c9 ?k9 ?a10 ?l10 ?c10 ?k10 ?a11 ?l11 ?c11 ?k11 ?a12 ?l12 ?c12 ?k12 ?a13 ?l13 ?c13 ?k13 ?a14 ?l14 ?c14 ?k14 ?a15 ?l15 ?c15 ?k15 ?a16 ?l16 ?c16 ?k16 ?a17 ?l17 ?c17 ?k17 ?a18 ?l18 ?c18 ?k18 ?a19 ?l19 ?c19 ?k19 ?z_int ?z_abs ?z_len ?z_range ?z_enumerate ?z_tuple ?z_min ?z_max ?z_sum ?z_repr ?z_list ?z_str ?z_isinstance ?z_bool ?z_sorted ?mp ?mt
    (case a0 => k_is)
    (case l0 => k_is)
    (case c0 => k_is)
    (case k0 => k_is)
    (case a1 => k_is)
    (case l1 => k_is)
    (case c1 => k_is)
    (case k1 => k_is)
    (case a2 => k_is)
    (case l2 => k_is)
    (case c2 => k_is)
    (case k2 => k_is)
    (case a3 => k_is)
    (case l3 => k_is)
    (case c3 => k_is)
    (case k3 => k_is)
    (case a4 => k_is)
    (case l4 => k_is)
    (case c4 => k_is)
    (case k4 => k_is)
    (case a5 => k_is)
    (case l5 => k_is)
    (case c5 => k_is)
    (case k5 => k_is)
    (case a6 => k_is)
    (case l6 => k_is)
    (case c6 => k_is)
    (case k6 => k_is)
    (case a7 => k_is)
    (case l7 => k_is)
    (case c7 => k_is)
    (case k7 => k_is)
    (case a8 => k_is)
    (case l8 => k_is)
    (case c8 => k_is)
    (case k8 => k_is)
    (case a9 => k_is)
    (case l9 => k_is)
    (case c9 => k_is)
    (case k9 => k_is)
    (case a10 => k_is)
    (case l10 => k_is)
    (case c10 => k_is)
    (case k10 => k_is)
    (case a11 => k_is)
    (case l11 => k_is)
    (case c11 => k_is)
    (case k11 => k_is)
    (case a12 => k_is)
    (case l12 => k_is)
    (case c12 => k_is)
    (case k12 => k_is)
    (case a13 => k_is)
    (case l13 => k_is)
    (case c13 => k_is)
    (case k13 => k_is)
    (case a14 => k_is)
    (case l14 => k_is)
    (case c14 => k_is)
    (case k14 => k_is)
    (case a15 => k_is)
    (case l15 => k_is)
    (case c15 => k_is)
    (case k15 => k_is)
    (case a16 => k_is)
    (case l16 => k_is)
    (case c16 => k_is)
    (case k16 => k_is)
    (case a17 => k_is)
    (case l17 => k_is)
    (case c17 => k_is)
    (case k17 => k_is)
    (case a18 => k_is)
    (case l18 => k_is)
    (case c18 => k_is)
    (case k18 => k_is)
    (case a19 => k_is)
    (case l19 => k_is)
    (case c19 => k_is)
    (case k19 => k_is)
    (case z_int => k_is)
    (case z_abs => k_is)
    (case z_len => k_is)
    (case z_range => k_is)
    (case z_enumerate => k_is)
    (case z_tuple => k_is)
    (case z_min => k_is)
    (case z_max => k_is)
    (case z_sum => k_is)
    (case z_repr => k_is)
    (case z_list => k_is)
    (case z_str => k_is)
    (case z_isinstance => k_is)
    (case z_bool => k_is)
    (case z_sorted => k_is)
    (case mp => k_is)
    (case mt => k_is)

