import PyProof.Rows.All
import Wide.All
import OpenK.AllK
import Wide.FinOn
import HandS.Words
import HandS.WordsList
import HandS.Defaults
import HandS.List
import PyProof.ReprRoads
import HandS.Ends
import HandS.EndBits
import HandS.ForMost
import HandS.TupMul
import HandS.Walk
import HandS.Wide
import KE.GoesEnum
import KE.KTupSum
import KE.KRevSl
import HandS.Style
import PyProof.ReprLen
import HandS.TupAny
import HandS.Zip
import HandS.TupLe
import HandS.IsInst
import HandS.SetFor
import HandS.Strs
import HandS.ForDict
import HandS.More
import PySem.Challenge.RW_botheven_k04_lots_sums_and_cuts
set_option Elab.async false
set_option maxRecDepth 100000
set_option maxHeartbeats 4000000
set_option linter.all false
namespace BV
open PySem PySem.Spec PyProof.Rows L2

/-! ### defs that may write texts of data: the same promise, asked only where nothing is being written -/
def CanRun (P : Program) (w : World) (K : PySem.W.Frag) (mg : Str → Option Value) (base : Heap)
    (CX : CXT) (k : Nat) (f : Addr) (fd : FuncData) (ps : List Str) (sp : Sp) : Prop :=
  ∀ (A : Around) (outer : List Env) (s : Shared) (H : Hp) (args : Args) (us : List Value) (vs : List V) (Q : VK) (E : XK),
    A.guards = some [] → Room k A → Env0 P w K mg base A outer s H → BindsTo s fd args (ps.zip us) →
    Vals vs us → sp vs H Q E →
      codeAny (model P w) A (.call (.ref f) args) (CR CX outer P w H s Q E) s

structure FnG (P : Program) (w : World) (K : PySem.W.Frag) (mg : Str → Option Value) (base : Heap)
    (CX : CXT) (k : Nat) (f : Addr) (fd : FuncData) (ps : List Str) (sp : Sp) : Prop where
  len : ∀ vs H Q E, sp vs H Q E → vs.length = ps.length
  run : CanRun P w K mg base CX k f fd ps sp

section
variable {P : Program} {w : World} {K : PySem.W.Frag} {mg : Str → Option Value} {base : Heap} {CX : CXT}

/-- a def's body keeps its promise, the guards told -/
theorem fn_ofG {k : Nat} {f : Addr} {name qual : Str} {params : Arguments} {body : List Stmt} {scope : Scope}
    {dV kV doc pm cdv ct oc : Value} {an od : Option Addr} {osl : Array (Option Value)} {N ps : List Str} {sp : Sp}
    (lk : K.lookup f = some ⟨oc, od, .func (PySem.W.fnOf name qual params body scope dV kV doc pm an cdv ct), osl⟩)
    (hcd : PySem.W.codeIn K cdv qual = true) (S : FnScope N ps scope)
    (len : ∀ vs H Q E, sp vs H Q E → vs.length = ps.length)
    (hbody : ∀ (A : Around) (outer : List Env) (s : Shared) (H : Hp) (vs : List V) (Q : VK) (E : XK), A.guards = some [] →
      Room k (A.deeper (envOfC qual scope s.heap.objs.size f cdv)) → sp vs H Q E →
      ∃ t, PSs (cxOf CX P w K mg base N qual scope f cdv A outer s H E) body t ∧
        t { nx := fun _ H' => Q .non H', rt := Q } (start N vs) H) :
    FnG P w K mg base CX (k + 1) f (PySem.W.fnOf name qual params body scope dV kV doc pm an cdv ct) ps sp := by
  constructor
  · exact len
  · intro A outer s H args us vs Q E hgd hr e0 hb r hsp
    have hl := len _ _ _ _ hsp
    have bk : ∀ b o, base.get? b = some o → s.heap.get? b = some o := fun b o e => (e0.bs b o e).1
    have KX : K.In s.heap := e0.mod.kin.keeps bk
    have hkind : ∀ y ∈ ps.zip us, scope.names.lookup y.1 = some .local ∨
        (scope.names.lookup y.1 = some .cell ∧
          ((cellsFrom (s.heap.objs.size + 1) scope.names []).lookup y.1).isSome = true) := by
      intro y hy
      obtain ⟨n, v⟩ := y
      cases S.par n (List.of_mem_zip hy).1 with
      | inl q => exact Or.inl q
      | inr q => exact Or.inr ⟨q, PySem.W.cellsFrom_some _ _ _ (.inl q)⟩
    refine codeAny_call_function hr.depth (KX _ _ lk) rfl S.co S.gen rfl
      (PySem.W.codeRec_of KX hcd) (hb _ _ _ _ ?_)
    refine wpAny_newFunctionEnv_cells S.kind hkind fun env he s1 x => ?_
    subst he
    refine ⟨(e0.mod.nolimit.keeps bk).keeps x.toInCall.keep, codeAny_func ?_⟩
    obtain ⟨t, ht, hq⟩ := hbody A outer s H vs Q E hgd (hr.deeper _) hsp
    have I := inv_start (CX := CX) (P := P) (w := w) (K := K) (mg := mg) (base := base) (E := E) S hr.hd e0 hl r x
    refine wpAny_mono (ht.run [] s1 (start N vs) H _ I hq) (fun fl s' hs => ?_) fun e s' hs => hs
    cases fl with
    | ret u =>
      obtain ⟨v, σ', H', J, rv, q⟩ := hs
      exact ⟨v, H', J.os, J.bare, J.base, J.hok, rv, q⟩
    | next =>
      obtain ⟨σ', H', J, q⟩ := hs
      exact ⟨V.non, H', J.os, J.bare, J.base, J.hok, rfl, q⟩
    | brk => exact hs.choose_spec.choose_spec.2.elim
    | cont => exact hs.choose_spec.choose_spec.2.elim

theorem okG {x qual : Str} {st : Stmt} {f : Addr} {fd : FuncData} {N ps : List Str} {k : Nat} {sp : Sp}
    (F : Fun K x qual st f fd) (S : FnScope N ps (defScope st)) (len : ∀ vs H Q E, sp vs H Q E → vs.length = ps.length)
    (hbody : ∀ (cdv : Value) (A : Around) (outer : List Env) (s : Shared) (H : Hp) (vs : List V) (Q : VK) (E : XK),
      A.guards = some [] → Room k (A.deeper (envOfC qual (defScope st) s.heap.objs.size f cdv)) → sp vs H Q E →
      ∃ t, PSs (cxOf CX0 P w K mg base N qual (defScope st) f cdv A outer s H E).nox (defBody st) t ∧
        t { nx := fun _ H' => Q .non H', rt := Q } (start N vs) H) :
    FnG P w K mg base CX0 (k + 1) f fd ps sp := by
  obtain ⟨oc, od, kV, doc, pm, an, cdv, ct, osl, e, lk, hcd⟩ := F.ex
  subst e
  refine fn_ofG lk hcd S len fun A outer s H vs Q E hg hr hsp => ?_
  obtain ⟨t, h, q⟩ := hbody cdv A outer s H vs Q E hg hr hsp
  exact ⟨t, h.nox, q⟩

theorem FnG.of {k : Nat} {f : Addr} {fd : FuncData} {ps : List Str} {sp : Sp} (F : FnOk P w K mg base CX k f fd ps sp) :
    FnG P w K mg base CX k f fd ps sp :=
  ⟨F.len, fun A outer s H args us vs Q E _ hr => F.run A outer s H args us vs Q E hr⟩
end

section
variable {X : Cx} {CX : CXT} {k n : Nat} {f : Addr} {fd : FuncData} {ps ks : List Str} {sp : Sp} {dvs : List V} {ds : List Value}
  {E : XK} {x : Str} {p pos : Pos} {e : Expr} {es : List Expr} {t tk : TA} {kws : List Keyword}
  {g : List Value → List Value → List Value} {gV : List V → List V → List V}

/-- the way out of a callee's run -/
theorem back_of {pins : List (Addr × Obj)} {σ : L2.St} {H : Hp} {s s' : Shared} {Q : VK} {r : Result}
    (hx : Passes CX X E) (I : Inv X pins σ H s) (hq : CR CX X.stack X.prog X.w H s Q E r s') :
    match r with
    | .ok (.ret u) => EP X pins σ Q u s'
    | .ok _ => False
    | .error e => X.xe e s' := by
  cases r with
  | error e => exact hx pins σ H s e s' I hq
  | ok fl =>
    cases fl with
    | ret u => exact I.after hq
    | next => exact hq
    | brk => exact hq
    | cont => exact hq

theorem run_fnG {pins : List (Addr × Obj)} {σ : L2.St} {H : Hp} {s : Shared} {Q : VK} {us : List Value} {vs : List V}
    (F : FnG X.prog X.w X.K X.mg X.base CX k f fd ps sp) (hgd : X.A.guards = some []) (hr : Room k X.A)
    (hb : Binds X.K fd ps ds) (hd : Vals dvs ds) (hx : Passes CX X E)
    (I : Inv X pins σ H s) (r : Vals vs us) (h : sp (vs ++ dvs) H Q E) :
    wpAny (model X.prog X.w) X.A (call (.ref f) us) (EP X pins σ Q) X.xe s := by
  have r2 : Vals (vs ++ dvs) (us ++ ds) := r.append hd
  have hl : (us ++ ds).length = ps.length := by
    rw [← r2.length]
    exact F.len _ _ _ _ h
  have c := F.run X.A X.stack s H ⟨us, []⟩ (us ++ ds) (vs ++ dvs) Q E hgd hr I.env0 (hb s us I.kIn hl) r2 h
  refine wpAny_call (codeAny_mono c fun r s' hq => ?_)
  have b := back_of hx I hq
  cases r with
  | error e => exact b
  | ok fl =>
    cases fl with
    | ret u => exact b
    | next => exact b.elim
    | brk => exact b.elim
    | cont => exact b.elim

theorem pe_callG (F : FnG X.prog X.w X.K X.mg X.base CX k f fd ps sp) (hgd : X.A.guards = some []) (hr : Room k X.A)
    (hg : Gl X x) (hm : X.mg x = some (.ref f)) (hk : PySem.W.keepIn X.K (.ref f) = true)
    (hb : Binds X.K fd ps ds) (hd : Vals dvs ds) (hx : Passes CX X E) (ha : PA X (e :: es) t)
    (hdb : (x == ("__debug__" : Str)) = false := by decide)
    (he : starEach (e :: es) X.env = (false, eval e X.env) :: starEach es X.env := by rfl)
    (hpl : (backTo pos (starEach es X.env)).any (·.1) = false := by rfl) :
    PE X (.Call (.Name x p) (e :: es) [] pos) (tCall sp dvs E t) := by
  constructor
  intro pins s σ H Q I h
  refine wpAny_Call_Name_kw (ld_glob I hg hm ?_ hdb)
  refine PySem.W.callWith_K (h₀ := X.base) I.ok.mod.kin hk ?_ he hpl
  refine thn (ha.run pos pins s σ H _ I h) fun us s1 hh => ?_
  obtain ⟨vs, H1, I1, r, q⟩ := hh
  exact ⟨I1.kIn, run_fnG F hgd hr hb hd hx I1 r q⟩

/-- f(k = v, ..), keywords alone -/
def tCallK0 (m : Nat) (sp : Sp) (gV : List V → List V → List V) (E : XK) (tk : TA) : TE :=
  fun σ H Q => tk σ H fun zs H2 => zs.length = m ∧ sp (gV [] zs) H2 Q E

theorem pe_callK0 (F : FnOk X.prog X.w X.K X.mg X.base CX k f fd ps sp) (hr : Room k X.A)
    (hg : Gl X x) (hm : X.mg x = some (.ref f)) (hk : PySem.W.keepIn X.K (.ref f) = true)
    (hb : KBn X.K fd ps 0 ks g gV) (hx : Passes CX X E) (hkw : PK X kws tk)
    (hall : (backToKw pos (keywordEach kws X.env)).all (·.1.isSome) = true := by rfl)
    (hks : (backToKw pos (keywordEach kws X.env)).filterMap (·.1) = ks := by rfl)
    (hdb : (x == ("__debug__" : Str)) = false := by decide)
    (hpl : ((backTo pos (starEach [] X.env)).any (·.1) || (backToKw pos (keywordEach kws X.env)).any (·.1.isNone)) = false := by rfl) :
    PE X (.Call (.Name x p) [] kws pos) (tCallK0 ks.length sp gV E tk) := by
  constructor
  intro pins s σ H Q I h
  refine wpAny_Call_Name_kw (ld_glob I hg hm ?_ hdb)
  refine PySem.W.callWith_KW0 (h₀ := X.base) I.ok.mod.kin hk hall ?_ hpl
  refine thn (hkw.run pos pins s σ H _ I h) fun ws s2 hh => ?_
  obtain ⟨zs, H2, I2, rz, l2, q2⟩ := hh
  refine ⟨I2.kIn, ?_⟩
  rw [hks]
  exact run_fnN (us := []) (vs := []) F hr hb hx I2 .nil rz rfl l2 q2

/-! ### repr of data -/
def Show (d : PyData) : Prop := d.showable = true ∧ d.hasDict = false ∧ d.depth ≤ 40 ∧ d.shown.length ≤ sizeLine

theorem call_reprD (hgd : X.A.guards = some []) (hu : X.A.units + 64 < cLine) :
    CallR X (.builtin "repr") (fun xs H Q => ∃ (x : V) (d : PyData), xs = [x] ∧ Dp X.K H x d ∧ Show d ∧ Q (.str d.shown) H) := by
  intro pins s σ H xs us Q I r h
  obtain ⟨x, d, rfl, hd, ⟨h1, h2, h3, h4⟩, q⟩ := h
  cases r with
  | cons r0 rr =>
    cases rr
    rename_i v
    obtain ⟨as, rd⟩ := Dp.reads I d x v hd r0
    cases rd with
    | list a b c dd =>
      refine repr_of_reads' (.list a b c dd) h1 (PyData.noDict_hsm h2) hgd (by omega) (fun _ _ e => e) (fun h' u tk hk => ?_) h4
      exact ⟨.str _, H, I.kept (t' := tk) hk, ⟨u, rfl⟩, q⟩
    | tuple a b c dd =>
      refine repr_of_reads' (.tuple a b c dd) h1 (PyData.noDict_hsm h2) hgd (by omega) (fun _ _ e => e) (fun h' u tk hk => ?_) h4
      exact ⟨.str _, H, I.kept (t' := tk) hk, ⟨u, rfl⟩, q⟩
    | int i t =>
      refine PySem.P.repr_of_int (by simpa [PyData.showable] using h1) ⟨.str _, H, I.tok _, ⟨_, rfl⟩, ?_⟩
      simpa only [PyData.shown] using q
    | none =>
      refine PySem.P.repr_of_none ⟨.str _, H, I.tok _, ⟨_, rfl⟩, ?_⟩
      simpa only [PyData.shown] using q
    | bool b =>
      refine PySem.P.repr_of_bool ⟨.str _, H, I.tok _, ⟨_, rfl⟩, ?_⟩
      simpa only [PyData.shown] using q
    | str z t =>
      refine PySem.P.repr_of_str ⟨.str _, H, I.tok _, ⟨_, rfl⟩, ?_⟩ (by simpa only [PyData.shown] using h4)
      simpa only [PyData.shown] using q
    | dict a b c dd ee => simp [PyData.hasDict] at h2
end
end BV

namespace BV
open PySem PySem.Spec PyProof.Rows L2

/-- the heap at the law's entry: the script alone is tracked, unless the module wrote it -/
def entryHp (K : PySem.W.Frag) (a : Addr) (vs : List Value) (ns : List Int) : Hp := fun b =>
  if b = a ∧ K.lookup a = none then some (.frz { cls := .type "list", data := .seq vs.toArray } (.lst (ns.map V.int))) else none

section
variable {P : Program} {w : World} {K : PySem.W.Frag} {mg mb : Str → Option Value} {CX : CXT} {k : Nat} {fa a : Addr} {fd : FuncData}
  {x : Str} {sp : Sp} {s₁ : Shared} {vs : List Value} {ns : List Int}

theorem entry_none {b : Addr} (h : ¬ (b = a ∧ K.lookup a = none)) : entryHp K a vs ns b = none := if_neg h
theorem entry_some (h : K.lookup a = none) : entryHp K a vs ns a =
    some (.frz { cls := .type "list", data := .seq vs.toArray } (.lst (ns.map V.int))) := if_pos ⟨rfl, h⟩
theorem entry_only : Only (entryHp K a vs ns) := fun b => by
  by_cases h : b = a ∧ K.lookup a = none
  · exact .inr ⟨_, _, if_pos h⟩
  · exact .inl (if_neg h)

theorem law_callG (KX : K.In s₁.heap) (hns : s₁.heap.Ns mainGlobals mg) (hb : s₁.heap.Ns builtinsNs mb)
    (hbb : ∀ x : Str, x ≠ "__name__" → mb x = bootBuiltins x) (hlim : s₁.heap.NoLimit) (hg : s₁.gens = #[])
    (ha : s₁.heap.get? a = some { cls := .type "list", data := .seq vs.toArray })
    (hi : IntsAre vs ns) (hl : ns.length ≤ sizeLine) (hr : Room k callerA)
    (F : ∀ base : Heap, K.In base → base.Ns mainGlobals mg → FnG P w K mg base CX k fa fd [x] sp)
    (hbind : ∀ (s : Shared) (u : Value), BindsTo s fd ⟨[u], []⟩ [(x, u)])
    (hsp : ∀ H : Hp, Only H → SqL K H a (ns.map V.int) → sp [.ref a] H (fun v _ => v = .bl true) fun _ _ _ => False)
    (hCX : ∀ H e s', CX [] H s₁ (fun _ _ _ => False) e s' → False) :
    codeAny (model P w) callerA (.call (.ref fa) ⟨[.ref a], []⟩)
      (fun r s' => r = .ok (.ret (.bool true)) ∧ OldK s₁.heap s'.heap ∧ s'.os = s₁.os ∧ AllBare s'.gens) s₁ := by
  have rv := vals_ints hi
  let H := entryHp K a vs ns
  have hO : Only H := entry_only
  have hS : SqL K H a (ns.map V.int) := by
    cases hk : K.lookup a with
    | none => exact .inl (.inr ⟨_, entry_some hk⟩)
    | some o =>
      have e := KX a o hk
      rw [ha] at e
      cases e
      refine .inr ⟨_, vs.toArray, _, hk, rfl, rfl, rfl, ?_, by simpa using rv⟩
      rw [List.size_toArray, hi.length]
      exact hl
  have hok : HOk P w H s₁.heap := by
    intro b u e
    by_cases h : b = a ∧ K.lookup a = none
    · have e2 := (if_pos h).symm.trans e
      cases e2
      obtain ⟨rfl, _⟩ := h
      exact ⟨ha, by rw [List.length_map]; exact hl, vs, _, rv, ha⟩
    · cases (entry_none h).symm.trans e
  have at_a : ∀ b, H b ≠ none → b = a ∧ K.lookup a = none := fun b h => by
    by_cases h2 : b = a ∧ K.lookup a = none
    · exact h2
    · exact absurd (entry_none h2) h
  have away : ∀ {b : Addr} {o : Obj}, s₁.heap.get? b = some o → (b = a → K.lookup a = none → False) → (hidT s₁.heap H).get? b = some o :=
    fun {b o} e n => hidT_get e (entry_none fun z => n z.1 z.2)
  have nsK : ∀ {b : Addr} {m : Str → Option Value}, s₁.heap.Ns b m → (hidT s₁.heap H).Ns b m := by
    intro b m h
    obtain ⟨o, es, ep, e, d, r⟩ := h
    refine ⟨o, es, ep, away e fun z _ => ?_, d, r⟩
    subst z
    rw [ha] at e
    cases e
    cases d
  have hKb : K.In (hidT s₁.heap H) := fun b o e => away (KX b o e) fun z n => by
    subst z
    rw [n] at e
    cases e
  obtain ⟨mc, l1, l2⟩ := hlim
  have hM : Mod K mg (hidT s₁.heap H) := ⟨hKb, nsK hns, ⟨mb, nsK hb, hbb⟩, ⟨mc, nsK l1, l2⟩⟩
  have e0 : Env0 P w K mg (hidT s₁.heap H) callerA [] s₁ H :=
    { frames := rfl, mod := hM, bs := fun b o e => of_hidT e, bsz := Nat.le_of_eq (hidT_size _ _), funs := trivial,
      frf := fun b hb => absurd (show b ∈ ([] : List Addr) from hb) (by simp), hok := hok, bare := .of_eq hg }
  have go := (F _ hKb (nsK hns)).run callerA [] s₁ H ⟨[.ref a], []⟩ [.ref a] [.ref a] _ _ rfl hr e0
    (hbind s₁ (.ref a)) (.cons rfl .nil) (hsp H hO hS)
  refine codeAny_mono go fun r s' h => ?_
  cases r with
  | error e => exact (hCX H e s' h).elim
  | ok fl =>
    cases fl with
    | next => exact h.elim
    | brk => exact h.elim
    | cont => exact h.elim
    | ret u =>
      obtain ⟨v, H', os, bare, un, hok', r', q⟩ := h
      have q' : v = .bl true := q
      subst q'
      obtain rfl : u = Value.bool true := r'
      refine ⟨rfl, OldK.of_keep fun b o e => ?_, os, bare⟩
      cases hq : H b with
      | none => exact un.keep b o e hq (fun z => absurd (show b ∈ ([] : List Addr) from z) (by simp)) (by simp)
      | some u =>
        rcases hO b with z | ⟨ob, xs, z⟩
        · rw [hq] at z
          cases z
        · obtain ⟨e1, _⟩ := hok b _ z
          obtain ⟨e2, _⟩ := hok' b _ (un.frzs b ob _ z)
          rw [e] at e1
          cases e1
          exact e2
end

theorem walk_ofG {l : PySem.W.OpenLaw} {n k : Nat} {q : Program} {loose : List Str} {XP : (Str → Option Value) → Heap → Prop}
    {YP : World → Heap → Prop} {d : DefRec} {K : Params → PySem.W.Frag} {CX : CXT} {sp : PySem.W.Frag → Sp} {x : Str}
    (hn : l.most = some n) (hn2 : n ≤ sizeLine) (hdf : d.params.defaults = []) (hr : Room k callerA)
    (hY : ∀ (w : World) (h : Heap), YP w h → (K w.params).In h)
    (F : ∀ (w : World) (mg : Str → Option Value) (fa : Addr) (h : Heap), (K w.params).In h → h.Ns mainGlobals mg → mg d.name = some (.ref fa) →
      ∃ fd : FuncData, (∀ (s : Shared) (u : Value), BindsTo s fd ⟨[u], []⟩ [(x, u)]) ∧
        ∀ base : Heap, (K w.params).In base → base.Ns mainGlobals mg →
          FnG l.prog w (K w.params) mg base CX k fa fd [x] (sp (K w.params)))
    (hsp : ∀ (K : PySem.W.Frag) (H : Hp) (a : Addr) (ns : List Int), ns.length ≤ n → (∀ z ∈ ns, Builtin.Int.intBits z ≤ 1048576) →
      Only H → SqL K H a (ns.map V.int) → sp K [.ref a] H (fun v _ => v = .bl true) fun _ _ _ => False)
    (hCX : ∀ (H : Hp) (s : Shared) (e : Value) (s' : Shared), CX [] H s (fun _ _ _ => False) e s' → False) :
    PySem.W.WalkO q loose XP YP l.row.toRowW d [] (fun f vs => PySem.call f vs) := by
  refine Att.attach_callB hn hdf fun w s₀ s₁ mg mb fa o pm cd doc a vs ns G Y ho hd hcd hmg hobj hints hlen hbits hg => ?_
  have KX := hY w _ Y
  obtain ⟨fd, hb, hF⟩ := F w mg fa _ KX G.T.g hmg
  refine law_callG KX G.T.g G.T.b G.T.builtins G.T.nolimit hg hobj hints (Nat.le_trans hlen hn2) hr hF hb ?_ ?_
  · exact fun H hO hS => hsp (K w.params) H a ns hlen hbits hO hS
  · exact fun H e s' => hCX H s₁ e s'
end BV

namespace BV
open PySem PySem.Spec PyProof.Rows L2
open AutoSeq1 (wpAny_loadPart')

/-! ### enumerate(tuple) -/
theorem meets_enumT (l : Addr) (items : Array Value) (n : Nat) (dct : Option Addr) (sl : Array (Option Value)) :
    Meets (Builtin.«enumerate.__new__» ⟨[.type "enumerate", .ref l], []⟩)
      (fun _ R s => s.heap.get? l = some { cls := .type "tuple", dict := dct, data := .seq items n, slots := sl } ∧
        R (.ok (.ret (.ref (s.heap.push { cls := .type "tuple_iterator", data := .fields #[.ref l, .int 0 0] }).objs.size)))
          { s with heap := ((s.heap.push { cls := .type "tuple_iterator", data := .fields #[.ref l, .int 0 0] }).push
              ({ cls := .type "enumerate", data := .fields #[.none, .bool false, .ref s.heap.objs.size, rawInt 0, .none, .none] } : Obj)) }) := by
  refine .of_wp fun prog w A R s h => ?_
  obtain ⟨hp, g, d, tk, os⟩ := s
  obtain ⟨hl, h⟩ := h
  have hsub := sub_enumerate
  have hL : Heap.IsTuple (Shared.heap ⟨hp, g, d, tk, os⟩) l items := ⟨_, hl, rfl, n, rfl⟩
  wp_walk using wpAny_loadPart' hl
  refine wpAny_stack_any fun st => wpAny_pure ?_
  split
  · rename_i c _ _ _ _ _
    cases (c == Value.type "enumerate") <;>
    · wp_walk using wpAny_loadPart' hl, wpAny_pyIter_tuple hL
      exact ⟨_, rfl, h⟩
  · wp_walk using wpAny_loadPart' hl, wpAny_pyIter_tuple hL
    exact ⟨_, rfl, h⟩

theorem call_enumT {prog : Program} {w : World} {A : Around} {E : Value → Shared → Prop} {s : Shared} {l : Addr} {items : Array Value}
    {Q : Value → Shared → Prop} (hL : s.heap.IsTuple l items)
    (h : ∀ h', IsEnum h' (s.heap.objs.size + 1) s.heap.objs.size 0 .none → h'.IsTupleIter s.heap.objs.size l 0 →
      (∀ b o, s.heap.get? b = some o → h'.get? b = some o) → Q (.ref (s.heap.objs.size + 1)) { s with heap := h' }) :
    wpAny (model prog w) A (call (.type "enumerate") [.ref l]) Q E s := by
  obtain ⟨⟨c, dct, dt, sl⟩, hl, hc, n, hd⟩ := hL
  obtain rfl : c = .type "tuple" := hc
  obtain rfl : dt = .seq items n := hd
  refine callType_new F.called_enumerate (by decide) (F.typeCall_enumerate_1 _) (F.newCall_enumerate_1 _)
    (fun obj => F.args_object_init_2 obj _) F.entry_enumerate_new (meets_enumT l items n dct sl) ⟨hl, ?_⟩
  have hz : (s.heap.push { cls := .type "tuple_iterator", data := .fields #[.ref l, .int 0 0] }).objs.size = s.heap.objs.size + 1 := Heap.size_push ..
  show _ ∧ _
  rw [hz]
  have he : IsEnum ((s.heap.push { cls := .type "tuple_iterator", data := .fields #[.ref l, .int 0 0] }).push
      { cls := .type "enumerate", data := .fields #[.none, .bool false, .ref s.heap.objs.size, rawInt 0, .none, .none] })
      (s.heap.objs.size + 1) s.heap.objs.size 0 .none := by
    have q := Heap.get?_push_size (s.heap.push { cls := .type "tuple_iterator", data := .fields #[.ref l, .int 0 0] })
      (o := { cls := .type "enumerate", data := .fields #[.none, .bool false, .ref s.heap.objs.size, rawInt 0, .none, .none] }) rfl
    rw [hz] at q
    exact q
  refine ⟨⟨_, he, rfl⟩, h _ he ⟨_, Heap.get?_push_of_some _ (Heap.get?_push_size _ rfl), rfl, rfl⟩ ?_⟩
  exact fun b o x => Heap.get?_push_of_some _ (Heap.get?_push_of_some _ x)

/-- the tuple at a, each item in a new pair -/
def ItE (K : PySem.W.Frag) (a : Addr) (xs : List V) : It :=
  ⟨fun i H => SqT K H a xs ∧ i < xs.length,
   fun i H v H' => ∃ T x, v = .ref T ∧ H T = none ∧ H' = upd H T (.tup [.int (i : Nat), x]) ∧ xs[i]? = some x,
   fun i H => SqT K H a xs ∧ i = xs.length⟩

theorem turn_enumT {P : Program} {w : World} {K : PySem.W.Frag} {elts : List Expr} {kk : Nat} {tpos : Pos} (a e it : Addr) (xs : List V)
    (hae : a ≠ it) :
    Turn P w K (.Tuple elts kk tpos) (ItE K a xs) [e, it] e
      (fun i h => (∃ old, IsEnum h e it ((i : Nat) : Int) old) ∧ h.IsTupleIter it a i ∧ e ≠ it ∧ e ≠ a) where
  mem := by simp
  obj := by
    intro i h st b hb
    obtain ⟨⟨old, he⟩, ⟨o, ho, hc, hd⟩, _⟩ := st
    rcases (show b = e ∨ b = it by simpa using hb) with rfl | rfl
    · exact ⟨_, he, fun v q => nomatch q⟩
    · exact ⟨o, ho, fun v q => by rw [hd] at q; cases q⟩
  keep := by
    intro i h h' st k
    obtain ⟨⟨old, he⟩, hi, h1, h2⟩ := st
    exact ⟨⟨old, k e (by simp) _ he⟩, hi.at fun o q => k it (by simp) o q, h1, h2⟩
  item := by
    intro X hP hw hK hc i pins s σ H E I hf st hg
    subst hP hw hK
    obtain ⟨⟨old, he⟩, hit, hne, hea⟩ := st
    obtain ⟨hq, hlt⟩ := hg
    obtain ⟨its, rv, p, hz⟩ := I.tuple hq
    have htu : s.heap.IsTuple a its.toArray := p
    have hlen := rv.length
    have hel : e < s.heap.objs.size := Heap.lt_size he
    have hil : it < s.heap.objs.size := by
      obtain ⟨_, q, _⟩ := hit
      exact Heap.lt_size q
    have D := Draws.tuple (prog := X.prog) (w := X.w) (A := X.A.in1) (I.ok.hd hc) it a hae its.toArray
    have hlt2 : i < its.toArray.size := by rw [List.size_toArray]; omega
    refine wpAny_pyNext_enum_itemD D he ⟨hit, htu⟩ hlt2 hne (by simp [hne, hea]) ?_
    intro u h' tk hu ho hit' hT hsz hk
    refine ⟨_, rfl, wpAny_letOwnedTupleGo_enum (s := { s with heap := h', toks := tk + 1 }) ho fun h'' he' sb => ?_⟩
    have hx : xs[i]? = some xs[i] := by simp [hlt]
    obtain ⟨u', hu', ru⟩ := rv.get hx
    have eu : u' = u := by
      have := hu
      simp only [List.getElem?_toArray] at this
      rw [hu'] at this
      exact Option.some.inj this
    subst eu
    have hT2 : h''.get? s.heap.objs.size = some { cls := .type "tuple", data := .seq #[.int i tk, u'] } := (sb.2 _ (Nat.ne_of_gt hel)).trans hT
    have new : ObjOk X.prog X.w (upd H s.heap.objs.size (.tup [.int (i : Nat), xs[i]])) h'' s.heap.objs.size (.tup [.int (i : Nat), xs[i]]) :=
      ⟨by show 2 ≤ sizeLine; decide, [.int i tk, u'], .cons ⟨_, rfl⟩ (.cons ru .nil), ⟨_, hT2, rfl, _, rfl⟩⟩
    have kk : ∀ b o, b ∉ [e, it] → s.heap.get? b = some o → h''.get? b = some o := by
      intro b ob hb q
      have b1 : b ≠ e := fun z => hb (by simp [z])
      have b2 : b ≠ it := fun z => hb (by simp [z])
      exact (sb.2 b b1).trans (hk b ob b1 b2 q)
    have I1 : Inv X pins σ (upd H s.heap.objs.size (.tup [.int (i : Nat), xs[i]])) { s with heap := h'', toks := tk + 1 } :=
      I.turnedNew (ch := [e, it]) kk hf (Nat.le_refl _) new
    refine ⟨.ref s.heap.objs.size, _, I1, rfl, ⟨_, xs[i], rfl, I.hok.fresh (Nat.le_refl _), rfl, hx⟩,
      ⟨⟨u', ?_⟩, hit'.1.at fun o q => (sb.2 it (Ne.symm hne)).trans q, hne, hea⟩, fun b hb => ?_⟩
    · have e1 : ((i + 1 : Nat) : Int) = (i : Int) + 1 := by omega
      rw [e1]
      exact he'
    · have hb' : b < s.heap.objs.size := by
        rcases (show b = e ∨ b = it by simpa using hb) with rfl | rfl
        · exact hel
        · exact hil
      rw [upd_ne (Nat.ne_of_lt hb')]
      exact (hf b hb).1
  done := by
    intro X hP hw hK hc i pins s σ H E I hf st hg
    subst hP hw hK
    obtain ⟨⟨old, he⟩, hit, hne, hea⟩ := st
    obtain ⟨hq, hlt⟩ := hg
    obtain ⟨its, rv, p, hz⟩ := I.tuple hq
    have htu : s.heap.IsTuple a its.toArray := p
    have hlen := rv.length
    obtain ⟨f0, f1, f2, f3, f4, f5⟩ := hf it (by simp)
    have D := Draws.tuple (prog := X.prog) (w := X.w) (A := X.A.in1) (I.ok.hd hc) it a hae its.toArray
    have e3 : its.toArray.size = i := by rw [List.size_toArray]; omega
    rw [e3] at D
    refine wpAny_pyNext_enum_endD D he ⟨hit, htu⟩ fun h' eb => ⟨rfl, ?_⟩
    exact I.turned (t' := s.toks) (fun b o hb q => eb b o hb q) f0 f1 f3 f4 f5
  self := fun A i s Q E st h => let ⟨⟨_, he⟩, _⟩ := st; wpAny_pyIter_enum he h

def iEnumT (K : PySem.W.Frag) (ta : TA) : TI := fun σ H R => ta σ H fun vs H1 => ∃ a xs, vs = [.ref a] ∧ SqT K H1 a xs ∧ R (ItE K a xs) H1
theorem pi_enumT {X : Cx} {e : Expr} {ta : TA} {p pos tpos : Pos} {elts : List Expr} {kk : Nat} (hg : Gl X "enumerate") (hm : X.mg "enumerate" = none)
    (ha : PA X [e] ta) (hs : starEach [e] X.env = [(false, eval e X.env)] := by rfl) :
    PI X (.Tuple elts kk tpos) (.Call (.Name "enumerate" p) [e] [] pos) (iEnumT X.K ta) := by
  constructor
  intro pins s σ H R I h
  refine Call_ (ld_blt I hg hm boot_enumerate (PyProof.Rows.callWith_type1 (thn (ha.run pos pins s σ H _ I h) fun us s1 hh => ?_) hs rfl))
  obtain ⟨vs, H1, I1, r1, a, xs, ex, hq, q⟩ := hh
  subst ex
  cases r1 with
  | cons r rr =>
    cases rr
    cases r
    obtain ⟨its, rv, p', hz⟩ := I1.tuple hq
    have htu : s1.heap.IsTuple a its.toArray := p'
    have hlt : a < s1.heap.objs.size := by
      obtain ⟨o, ho, _⟩ := htu
      exact Heap.lt_size ho
    refine call_enumT htu fun h' he hit hk => wpAny_pyIter_enum he ?_
    have I2 : Inv X pins σ H1 { s1 with heap := h' } := I1.kept (t' := s1.toks) hk
    refine ⟨s1.heap.objs.size + 1, [s1.heap.objs.size + 1, s1.heap.objs.size], _, _, H1, rfl, I2,
      turn_enumT a (s1.heap.objs.size + 1) s1.heap.objs.size xs (Nat.ne_of_lt hlt),
      ⟨⟨.none, he⟩, hit, Nat.succ_ne_self _, Nat.ne_of_gt (Nat.lt_succ_of_lt hlt)⟩, fun b hb => ?_, q⟩
    have hle : s1.heap.objs.size ≤ b := by
      rcases (show b = s1.heap.objs.size + 1 ∨ b = s1.heap.objs.size by simpa using hb) with z | z
      · rw [z]; exact Nat.le_add_right _ _
      · rw [z]; exact Nat.le_refl _
    exact I1.fpOk hle (I1.hok.fresh hle)
theorem walk_enumT {K : PySem.W.Frag} {a : Addr} {xs : List V} :
    Walk (ItE K a xs) xs.length (fun H => SqT K H a xs) (YPair (fun i => some (.int (i : Nat))) (fun i => xs[i]?)) := by
  refine ⟨fun i H hi q => ⟨q, hi⟩, fun H q => ⟨q, rfl⟩, fun i H v H' _ q y => ?_⟩
  obtain ⟨T, x, h1, h2, h3, h4⟩ := y
  exact ⟨T, .int (i : Nat), x, h1, h2, h3, rfl, h4⟩

/-! ### sum of a tuple of ints -/
theorem cr_sumT {X : Cx} (hc : X.calm = true) : CallR X (.builtin "sum")
    (fun vs H Q => ∃ (a : Addr) (ns : List Int), vs = [V.ref a] ∧ SqT X.K H a (ns.map V.int) ∧ Q (.int ns.sum) H) := by
  intro pins s σ H vs us Q I r h
  obtain ⟨a, ns, rfl, hs, q⟩ := h
  obtain ⟨its, rv, hl, _⟩ := I.tuple hs
  rw [Vals.ref1 r]
  have hi := rv.ints
  obtain ⟨xs, e⟩ := hi.allInts.items
  have hn : numsOf (intItems xs).toList = ns := by rw [← e]; exact hi.numsOf
  rw [nums_intItems] at hn
  have hl2 : s.heap.IsTuple a its.toArray := hl
  rw [e] at hl2
  refine PySem.W.ktm_sumG (I.ok.hd hc) hl2 fun h' tk t' hk => ?_
  rw [preSum_eq, List.take_of_length_le (by simp), hn]
  exact ⟨.int _, H, I.kept hk, ⟨_, rfl⟩, q⟩
end BV

namespace BV
open PySem PySem.Spec PyProof.Rows L2

/-! ### xs[i] of a list, by values, for xs[i] op= e -/
def rGetL (K : PySem.W.Frag) : V → V → Hp → VK → Prop := fun x y H Q => ∃ p xs j z,
  x = .ref p ∧ y = .int ((j : Nat) : Int) ∧ SqL K H p xs ∧ xs[j]? = some z ∧ Q z H
theorem get_list {X : Cx} : PGet X (rGetL X.K) := by
  intro pins s σ H x y v u Q I rx ry h
  obtain ⟨p, xs, j, z, rfl, rfl, hq, he, q⟩ := h
  cases rx
  obtain ⟨t, rfl⟩ := ry
  obtain ⟨its, r, pl, hz⟩ := I.list hq
  obtain ⟨w, ew, rw'⟩ := r.get he
  have hl := r.length
  have hn := line63
  have hj : j < xs.length := (List.getElem?_eq_some_iff.mp he).1
  refine wpAny_getItem_list pl.isList (by omega) (by omega) (by simpa using ew) ?_
  exact ⟨z, H, I, rw', q⟩

/-! ### t[::-1] of a tuple -/
theorem applied_rev {prog : Program} {w : World} {A : Around} {E : Value → Shared → Prop} {s : Shared} {sl : Addr} {vs : Value} {n : Nat}
    {Q : Int × Int × Nat → Shared → Prop} (hs : s.heap.IsSliceOf sl .none .none vs) (ps : IsPart vs (some (-1)))
    (h : Q ((n : Int) - 1, -1, n) s) : wpAny (model prog w) A (Builtin.Slice.sliceApplied (.ref sl) (pure (n : Int))) Q E s := by
  obtain ⟨os, hos, hcs, hds⟩ := id hs
  unfold Builtin.Slice.sliceApplied Builtin.Slice.sliceFields
  refine wpAny_bind (wpAny_bind (wpAny_field hos hds (x := .none) rfl ?_))
  refine wpAny_bind (wpAny_field hos hds (x := .none) rfl ?_)
  refine wpAny_bind (wpAny_field hos hds (x := vs) rfl (wpAny_pure ?_))
  refine wpAny_bind (HT.slicePart_ ps ?_)
  show wpAny _ _ (if ((-1 : Int) == 0) = true then _ else _) _ _ s
  rw [if_neg (by decide)]
  refine wpAny_bind (HT.slicePart_ .none (wpAny_bind (HT.slicePart_ .none (wpAny_bind (wpAny_pure ?_)))))
  have e1 : Builtin.Slice.sliceAdjust none none (-1) (n : Int) = ((n : Int) - 1, -1) := by
    unfold Builtin.Slice.sliceAdjust
    simp
  have e2 : Builtin.Slice.slicePlaces ((n : Int) - 1) (-1) (-1) = n := by
    unfold Builtin.Slice.slicePlaces
    simp
    try omega
  show wpAny _ _ (match Builtin.Slice.sliceAdjust none none (-1) (n : Int) with
    | (lo, hi) => pure (lo, (-1 : Int), Builtin.Slice.slicePlaces lo hi (-1))) _ _ s
  rw [e1]
  show wpAny _ _ (pure ((n : Int) - 1, (-1 : Int), Builtin.Slice.slicePlaces ((n : Int) - 1) (-1) (-1))) _ _ s
  rw [e2]
  exact wpAny_pure h

theorem getItem_rev {prog : Program} {w : World} {A : Around} {E : Value → Shared → Prop} {s : Shared} {t sl : Addr} {items : Array Value} {vs : Value}
    {Q : Value → Shared → Prop} (ht : IsTup s.heap t items) (hs : s.heap.IsSliceOf sl .none .none vs) (ps : IsPart vs (some (-1)))
    (h : Q (.ref s.heap.objs.size) { s with heap := s.heap.push { cls := .type "tuple", data := .seq items.toList.reverse.toArray } })
    (hsz : items.size ≤ sizeLine) : wpAny (model prog w) A (getItem (.ref t) (.ref sl)) Q E s := by
  have hsize : sizeOk (.seq items.toList.reverse.toArray) := by
    show items.toList.reverse.toArray.size ≤ sizeLine
    rw [List.size_toArray, List.length_reverse, Array.length_toList]
    exact hsz
  obtain ⟨os, hos, hcs, hds⟩ := id hs
  have hTs : s.TypeIs (.ref sl) "slice" := ⟨os, hos, hcs⟩
  unfold getItem
  try with_reducible refine wpAny_holding ?_
  first | refine wpAny_bind (wpAny_pure ?_) | skip
  refine wpAny_bind (wpAny_sequenceKey ht.typeIs (by decide) ?_)
  refine wpAny_bind (wpAny_callSpecial?_slot (name := Str.ofString "__getitem__") ht.typeIs PyProof.Rows.slot_tuple_getitem ?_)
  refine wpAny_call_entry PyProof.Rows.slot_tuple_getitem ht.typeIs entry_tuple_getitem ?_ (args_tuple_getitem _ _)
  show wpAny _ _ (Builtin.Tuple.tupleItemsOf (.ref t) >>= _) _ _ s
  refine wpAny_bind (tupleItemsOf_ ht ?_)
  refine wpAny_bind (wpAny_typeOf hTs ?_)
  rw [if_pos (by decide)]
  refine wpAny_bind (applied_rev hs ps ?_)
  have hno : ¬ ((((items.size : Int) - 1) == 0 && (-1 : Int) == 1 && items.size == items.size) = true) := by
    intro q
    rw [Bool.and_eq_true, Bool.and_eq_true] at q
    exact absurd (eq_of_beq q.1.2) (by decide)
  have pick : ((List.range items.size).filterMap fun (k : Nat) => items[(((items.size : Int) - 1) + (k : Int) * (-1)).toNat]?) = items.toList.reverse := by
    have e1 : (fun (k : Nat) => items[(((items.size : Int) - 1) + (k : Int) * (-1)).toNat]?) = fun k => (fun j => items[j]?) ((items.size - 1) - k) := by
      funext k
      have : (((items.size : Int) - 1) + (k : Int) * (-1)).toNat = (items.size - 1) - k := by omega
      rw [this]
    rw [e1]
    have e2 := PySem.W.krv_all items
    have e3 := PySem.W.krv_range items.size
    have e4 : (List.range items.size).filterMap (fun k => (fun j => items[j]?) ((items.size - 1) - k)) =
        ((List.range items.size).map fun k => items.size - 1 - k).filterMap (fun j => items[j]?) := by
      rw [List.filterMap_map]
      rfl
    rw [e4, e3, List.filterMap_reverse, e2]
  show wpAny _ _ (if (((items.size : Int) - 1) == 0 && (-1 : Int) == 1 && items.size == items.size) = true then _ else _) _ _ s
  rw [if_neg hno, pick]
  first
    | exact wpAny_bind (m := Builtin.Tuple.tupleExact _) (wpAny_newObj_type (wpAny_pure ⟨_, rfl, wpAny_pure h⟩) hsize)
    | exact wpAny_bind (m := Builtin.Tuple.tupleExact _) (wpAny_newObj_type (wpAny_bind (wpAny_pure (wpAny_pure ⟨_, rfl, wpAny_pure h⟩))) hsize)
    | exact wpAny_bind (wpAny_bind (m := Builtin.Tuple.tupleExact _) (wpAny_newObj_type (wpAny_pure (wpAny_pure ⟨_, rfl, wpAny_pure h⟩)) hsize))
    | exact wpAny_bind (wpAny_bind (m := Builtin.Tuple.tupleExact _) (wpAny_newObj_type (wpAny_pure ⟨_, rfl, wpAny_pure h⟩) hsize))

/-- t[::-1] -/
def tRevT (K : PySem.W.Frag) (te : TE) : TE := fun σ H Q => te σ H fun x H1 => ∃ a xs, x = .ref a ∧ SqT K H1 a xs ∧
  ∀ p, H1 p = none → Q (.ref p) (upd H1 p (.tup xs.reverse))
theorem pe_revT {X : Cx} {e : Expr} {te : TE} {k : Nat} {p1 p2 p3 pos : Pos} (he : PE X e te) :
    PE X (.Subscript e (.Slice none none (some (.UnaryOp .USub (.Constant (.int 1) k p1) p2)) p3) pos) (tRevT X.K te) := by
  constructor
  intro pins s σ H Q I h
  refine Subscript_ (thn (he.run pins s σ H _ I h) fun v s1 hh => ?_)
  obtain ⟨x, H1, I1, r1, a, xs, ex, hx, q⟩ := hh
  subst ex
  cases r1
  have hst : PO X (some (.UnaryOp .USub (.Constant (.int 1) k p1) p2)) (tPart (tUn (rU fun i => .int (-i)) (tC (.int 1)))) :=
    po_some (pe_un un_neg pe_int)
  refine wpAny_Slice ?_
  rw [evalPart_none]
  refine wpAny_pure (wpAny_pure ?_)
  refine thn (hst.run pins s1 σ H1 (fun o H4 => o = some (-1) ∧ H4 = H1) I1 ⟨1, rfl, -1, rfl, rfl, rfl⟩) fun vs s4 h4 => ?_
  obtain ⟨o, H4, I4, ps, eo, e4⟩ := h4
  subst eo e4
  have I5 : Inv X pins σ H4 { s4 with heap := s4.heap.push { cls := .type "slice", data := .fields #[.none, .none, vs] } } :=
    I4.kept (t' := s4.toks) fun b ob q => Heap.get?_push_of_some _ q
  obtain ⟨its, r, ht, hz⟩ := I5.tuple hx
  have hlen := r.length
  refine tail_any (T := "tuple") (ops := [.ref a, .ref s4.heap.objs.size]) ht.typeIs (PyProof.Rows.slot_tuple_getitem.lookup) ?_ (by with_unfolding_all rfl)
  refine getItem_rev ht (Heap.IsSliceOf.new _ .none .none vs) ps ?_ (by rw [List.size_toArray]; omega)
  refine ⟨.ref _, _, I5.laid (t' := s4.toks) (o := .tup xs.reverse) (fun b ob q => Heap.get?_push_of_some _ q) (Nat.le_refl _) ?_, rfl, q _ (I5.hok.fresh (Nat.le_refl _))⟩
  exact ⟨by rw [List.length_reverse]; exact hz, _, r.reverse, IsTup.new _ _⟩
end BV

namespace BV
open PySem L2

/-! ### a def of the text, by its name -/
structure Df (K : PySem.W.Frag) (mg : Str → Option Value) (x : String) (st : Stmt) (ps : List Str) (f : Addr) (fd : FuncData) : Prop where
  fn : Fun K (Str.ofString x) (Str.ofString x) st f fd
  ad : mg (Str.ofString x) = some (.ref f)
  bd : L2.Binds K fd ps []

/-- the built-in names that the text uses are not its own -/
structure Bl (mg : Str → Option Value) : Prop where
  int : mg "int" = none
  abs : mg "abs" = none
  len : mg "len" = none
  range : mg "range" = none
  enumerate : mg "enumerate" = none
  tuple : mg "tuple" = none
  min : mg "min" = none
  max : mg "max" = none
  sum : mg "sum" = none
  repr : mg "repr" = none

/-! ### heaps -/
theorem same_new {H : Hp} {p : Addr} {o : HO} (h : H p = none) : Same H (upd H p o) := fun b x e => by
  rw [upd_ne (ne_of_none e h)]
  exact e
/-- all but b and g as it was -/
def Kp (b g : Addr) (H H' : Hp) : Prop := ∀ a o, H a = some o → a ≠ b → a ≠ g → H' a = some o
theorem Kp.refl {b g : Addr} (H : Hp) : Kp b g H H := fun _ _ h _ _ => h
theorem Kp.trans {b g : Addr} {H H1 H2 : Hp} (x : Kp b g H H1) (y : Kp b g H1 H2) : Kp b g H H2 :=
  fun a o h n1 n2 => y a o (x a o h n1 n2) n1 n2
theorem Kp.same {b g : Addr} {H H' : Hp} (x : Same H H') : Kp b g H H' := fun a o h _ _ => x a o h
theorem Kp.setb {b g : Addr} {H : Hp} {o : HO} : Kp b g H (upd H b o) := fun a x h n _ => by
  rw [upd_ne n]
  exact h
theorem Kp.setg {b g : Addr} {H : Hp} {o : HO} : Kp b g H (upd H g o) := fun a x h _ n => by
  rw [upd_ne n]
  exact h
theorem Kp.new {b g p : Addr} {H : Hp} {o : HO} (h : H p = none) : Kp b g H (upd H p o) := Kp.same (same_new h)

/-! ### comprehensions that change nothing -/
def era (H : Hp) (D : Addr) : Hp := fun a => if a = D then none else H a
theorem era_at {H : Hp} {D : Addr} : era H D D = none := if_pos rfl
theorem era_ne {H : Hp} {D a : Addr} (h : a ≠ D) : era H D a = H a := if_neg h
theorem era_back {H : Hp} {D : Addr} : Same (era H D) H := fun a o e => by
  by_cases h : a = D
  · subst h
    rw [era_at] at e
    cases e
  · rw [era_ne h] at e
    exact e
theorem era_upd {H : Hp} {D : Addr} {o : HO} : era (upd H D o) D = era H D := by
  funext a
  by_cases h : a = D
  · subst h
    rw [era_at, era_at]
  · rw [era_ne h, era_ne h, upd_ne h]
theorem era_same {H H' : Hp} {D : Addr} (s : Same H H') : Same (era H D) (era H' D) := fun a o e => by
  by_cases h : a = D
  · subst h
    rw [era_at] at e
    cases e
  · rw [era_ne h] at e ⊢
    exact s _ _ e
theorem era_none {H : Hp} {D : Addr} (h : H D = none) : era H D = H := by
  funext a
  by_cases q : a = D
  · subst q
    rw [era_at, h]
  · exact era_ne q

/-- what stands between two turns: the list at D, all else an extension of H1, and R of the list over the heap without D -/
def LcI (H1 : Hp) (D : Addr) (R : Nat → List V → Hp → Prop) (i : Nat) (H : Hp) : Prop :=
  ∃ acc, H D = some (.lst acc) ∧ Same H1 (era H D) ∧ R i acc (era H D)
theorem lc_add {H1 H H4 : Hp} {D : Addr} {R : Nat → List V → Hp → Prop} {i : Nat} {acc : List V} {y : V} (ha : H D = some (.lst acc))
    (e : Same H1 (era H D)) (s : Same H H4) (hl : acc.length < 100000) (r : R i (acc ++ [y]) (era H4 D)) :
    ∃ acc, H4 D = some (.lst acc) ∧ acc.length < sizeLine ∧ LcI H1 D R i (upd H4 D (.lst (acc ++ [y]))) := by
  refine ⟨acc, s _ _ ha, Nat.lt_of_lt_of_le hl (by decide), acc ++ [y], upd_same, ?_, ?_⟩
  · rw [era_upd]
    exact Same.trans e (era_same s)
  · rw [era_upd]
    exact r
theorem lc_skip {H1 H H3 : Hp} {D : Addr} {R : Nat → List V → Hp → Prop} {i : Nat} {acc : List V} (ha : H D = some (.lst acc))
    (e : Same H1 (era H D)) (s : Same H H3) (r : R i acc (era H3 D)) : LcI H1 D R i H3 :=
  ⟨acc, s _ _ ha, Same.trans e (era_same s), r⟩
theorem lc_run {J : It} {n : Nat} {G : Hp → Prop} {Y : Nat → Hp → V → Hp → Prop} (w : Walk J n G Y) {g : TG} {tt : TT} {te : TE} {vs : List Nat}
    {σ : L2.St} {H1 : Hp} {D : Addr} {Qd : Hp → Prop} (hD : H1 D = none) (R : Nat → List V → Hp → Prop)
    (hG : ∀ H, Same H1 H → G H) (h0 : R 0 [] H1)
    (hs : ∀ i x acc H H', i < n → H D = some (.lst acc) → Same H1 (era H D) → Same H1 H → R i acc (era H D) → Y i H x H' →
      g x (wipe σ vs) H' fun σ2 H2 => wipe σ2 vs = wipe σ vs ∧ tt σ2 H2 fun b H3 =>
        if b = true then te σ2 H3 fun y H4 => ∃ acc, H4 D = some (.lst acc) ∧ acc.length < sizeLine ∧ LcI H1 D R (i + 1) (upd H4 D (.lst (acc ++ [y])))
        else LcI H1 D R (i + 1) H3)
    (hd : ∀ acc H, H D = some (.lst acc) → Same H1 H → R n acc (era H D) → Qd H) :
    ∃ W : Nat → Nat → Hp → Prop, (∃ m, W 0 m (upd H1 D (.lst []))) ∧ ∀ i m H, W i m H →
      (J.stop i H ∧ Qd H) ∨ (J.go i H ∧ ∃ Nx : Hp → Prop, (∀ H', Nx H' → ∃ m', m' < m ∧ W (i + 1) m' H') ∧
        ∀ x H', J.yld i H x H' → g x (wipe σ vs) H' fun σ2 H2 => wipe σ2 vs = wipe σ vs ∧ tt σ2 H2 fun b H3 =>
        if b = true then te σ2 H3 fun y H4 => ∃ acc, H4 D = some (.lst acc) ∧ acc.length < sizeLine ∧ Nx (upd H4 D (.lst (acc ++ [y]))) else Nx H3) := by
  refine lc_it w (LcI H1 D R) ?_ ?_ ?_ ?_
  · exact ⟨[], upd_same, by rw [era_upd, era_none hD]; exact Same.refl _, by rw [era_upd, era_none hD]; exact h0⟩
  · rintro i H _ ⟨acc, _, e, _⟩
    exact hG H (Same.trans e era_back)
  · rintro i x H H' hi ⟨acc, ha, e, r⟩ y
    exact hs i x acc H H' hi ha e (Same.trans e era_back) r y
  · rintro H ⟨acc, ha, e, r⟩
    exact hd acc H ha (Same.trans e era_back) r

theorem yes_go {σ : L2.St} {H : Hp} {A B : Hp → Prop} (h : A H) : tYes σ H (fun b H3 => if b = true then A H3 else B H3) := by
  show (if true = true then A H else B H)
  rw [if_pos rfl]
  exact h
/-! ### for loops: what is carried over a turn -/
theorem ints_at {ns : List Int} {i : Nat} {x : V} (h : (ns.map V.int)[i]? = some x) : ∃ z, ns[i]? = some z ∧ x = .int z := by
  rw [List.getElem?_map] at h
  cases e : ns[i]? with
  | none =>
    rw [e] at h
    cases h
  | some z =>
    rw [e] at h
    exact ⟨z, rfl, (Option.some.inj h).symm⟩

/-! ### the box of draws -/
def boxD (g : Addr) (st c : Int) : List (Key × V) :=
  [(Sum.inr "great", .ref g), (Sum.inr "stirred", .int st), (Sum.inr "count", .int c)]
structure Box (H : Hp) (b g : Addr) : Prop where
  bx : ∃ st c : Int, H b = some (.dK (boxD g st c))
  gr : ∃ ns : List Int, H g = some (.lst (ns.map V.int)) ∧ ns.length ≤ 63
theorem Box.ne {H : Hp} {b g : Addr} (x : Box H b g) : b ≠ g := by
  obtain ⟨⟨_, _, h1⟩, _, h2, _⟩ := x
  exact ne_of h1 h2 (by intro z; cases z)
theorem Box.same {H H' : Hp} {b g : Addr} (x : Box H b g) (s : Same H H') : Box H' b g := by
  obtain ⟨⟨st, c, h1⟩, ns, h2, h3⟩ := x
  exact ⟨⟨st, c, s _ _ h1⟩, ns, s _ _ h2, h3⟩

def spBox (K : PySem.W.Frag) : Sp := fun vs H Q _ => ∃ (a : Addr) (ns : List Int), vs = [.ref a] ∧ SqL K H a (ns.map V.int) ∧ ns.length ≤ 63 ∧
  ∀ (b g : Addr) (H' : Hp), H b = none → H g = none → Same H H' → Box H' b g → Q (.ref b) H'
def spDraw : Sp := fun vs H Q _ => ∃ (b g : Addr) (m : Int), vs = [.ref b, .int m] ∧ 0 < m ∧ m < 2 ^ 30 ∧ Box H b g ∧
  ∀ (r : Int) (H' : Hp), 0 ≤ r → r < m → Kp b g H H' → Box H' b g → Q (.int r) H'
end BV

namespace BV
open PySem L2
theorem get_great {H : Hp} {b g : Addr} {st c : Int} (h : H b = some (.dK (boxD g st c))) : DGet H b (.str "great") (some (.ref g)) :=
  DGet.k (k := Sum.inr "great") h
theorem get_stirred {H : Hp} {b g : Addr} {st c : Int} (h : H b = some (.dK (boxD g st c))) : DGet H b (.str "stirred") (some (.int st)) :=
  DGet.k (k := Sum.inr "stirred") h
theorem get_count {H : Hp} {b g : Addr} {st c : Int} (h : H b = some (.dK (boxD g st c))) : DGet H b (.str "count") (some (.int c)) :=
  DGet.k (k := Sum.inr "count") h
theorem put_count {H : Hp} {b g : Addr} {st c d : Int} (h : H b = some (.dK (boxD g st c))) :
    DPut H b (.str "count") (.int d) (upd H b (.dK (boxD g st d))) :=
  DPut.k (k := Sum.inr "count") h (by show 3 < sizeLine; decide)
theorem dpAll_ints {K : PySem.W.Frag} {H : Hp} : ∀ ns : List Int, DpAll K H (ns.map V.int) (ns.map PyData.int)
  | [] => .nil
  | n :: ns => .cons (.int n) (dpAll_ints ns)
theorem lay_ints : ∀ ns : List Int, PyData.canLayAll0 (ns.map PyData.int) = true
  | [] => by simp [PyData.canLayAll0]
  | n :: ns => by simp [PyData.canLayAll0, PyData.canLay0, lay_ints ns]
theorem deep_ints : ∀ ns : List Int, PyData.depthAll (ns.map PyData.int) ≤ 1
  | [] => by simp [PyData.depthAll]
  | n :: ns => by
    have := deep_ints ns
    simp only [List.map_cons, PyData.depthAll, PyData.depth]
    omega
theorem shaped_intsL (ns : List Int) : SeqAt.shaped (.list (ns.map PyData.int)) = true := by
  have h1 := lay_ints ns
  have h2 := deep_ints ns
  have h3 : PyData.depthAll (ns.map PyData.int) + 1 ≤ 64 := by omega
  simp [SeqAt.shaped, PyData.canLay0, PyData.depth, h1, h3]
end BV

namespace BV
open PySem L2
theorem ix_nat {n j : Nat} (h : j < n) : ixN n (j : Int) = some j := by
  unfold ixN
  rw [if_pos (by omega), if_pos (by omega), Int.toNat_natCast]
theorem seq_nat {n j : Nat} (h : j < n) : seqIndex? (j : Int) n = some j := (ixN_seq (ix_nat h)).1
end BV

namespace BV
open PySem L2
theorem Kp.seq {K : PySem.W.Frag} {b g l : Addr} {H H' : Hp} {xs : List V} (k : Kp b g H H') (h1 : l ≠ b) (h2 : l ≠ g) (h : SqL K H l xs) : SqL K H' l xs := by
  rcases h with (h | ⟨o, h⟩) | h
  · exact .inl (.inl (k _ _ h h1 h2))
  · exact .inl (.inr ⟨o, k _ _ h h1 h2⟩)
  · exact .inr h
def spPick (K : PySem.W.Frag) : Sp := fun vs H Q _ => ∃ (b g l : Addr) (xs : List V), vs = [.ref b, .ref l] ∧ SqL K H l xs ∧ l ≠ b ∧ l ≠ g ∧
  0 < xs.length ∧ xs.length < 1000000 ∧ Box H b g ∧ ∀ (j : Nat) (v : V) (H' : Hp), xs[j]? = some v → Kp b g H H' → Box H' b g → Q v H'
end BV

namespace BV
open PySem L2
/-- what follows is shown once, for all ways through -/
theorem tIf_by {t : TT} {ta tb : TE} {σ : L2.St} {H : Hp} {Q : VK} (P : V → Hp → Prop) (cont : ∀ v H', P v H' → Q v H')
    (h : (∀ v H', P v H' → Q v H') → tIf t ta tb σ H Q) : tIf t ta tb σ H Q := h cont
theorem tIfS_by {c : TT} {t u : TS} {D : Ends} {σ : L2.St} {H : Hp} (P : L2.St → Hp → Prop) (cont : ∀ σ' H', P σ' H' → D.nx σ' H')
    (h : (∀ σ' H', P σ' H' → D.nx σ' H') → tIfS c t u D σ H) : tIfS c t u D σ H := h cont
end BV

namespace BV
open PySem L2
theorem tSeq_go {t u : TS} {D : Ends} {σ : L2.St} {H : Hp} (h : t { D with nx := u D } σ H) : tSeq t u D σ H := h
/-- for .. in range(e): what follows e, once for all ways through e -/
def rngK (g : TG) (tb : TS) (D : Ends) (σ : L2.St) (v : V) (H1 : Hp) : Prop := ∃ j : Int, [v] = [V.int j] ∧ -(2 ^ 62) ≤ j ∧ j < 2 ^ 62 ∧
  ∃ W : Nat → Nat → L2.St → Hp → Prop, (∃ m, W 0 m σ H1) ∧ ∀ i m σ H, W i m σ H →
    ((Itr 0 j.toNat).stop i H ∧ D.nx σ H) ∨ ((Itr 0 j.toNat).go i H ∧ ∃ N : L2.St → Hp → Prop, (∀ σ' H', N σ' H' → ∃ m', m' < m ∧ W (i + 1) m' σ' H') ∧
      ∀ x H', (Itr 0 j.toNat).yld i H x H' → g x σ H' fun σ2 H2 => tb { D with nx := N, ct := N, bk := D.nx } σ2 H2)
theorem for_rng1_by {te : TE} {g : TG} {tb : TS} {D : Ends} {σ : L2.St} {H : Hp} (P : V → Hp → Prop)
    (loop : ∀ v H', P v H' → rngK g tb D σ v H') (h : (∀ v H', P v H' → rngK g tb D σ v H') → te σ H (rngK g tb D σ)) :
    tFor (iRng1 (tCons te tNil)) g tb D σ H := h loop
end BV

namespace BV
open PySem L2
theorem tIfS_t {c : TT} {t u : TS} {D : Ends} {σ : L2.St} {H : Hp} (R : Bool → Hp → Prop) (ht : ∀ H', R true H' → t D σ H') (hu : ∀ H', R false H' → u D σ H')
    (h : (∀ b H', R b H' → if b = true then t D σ H' else u D σ H') → c σ H fun b H' => if b = true then t D σ H' else u D σ H') : tIfS c t u D σ H := by
  refine h fun b H' r => ?_
  cases b with
  | true => exact iteT (ht H' r)
  | false => exact iteF (hu H' r)
end BV

namespace BV
open PySem L2

/-! ### webs as data -/
abbrev Tie := Nat × Nat
def tieD (t : Tie) : PyData := .tuple [.int t.1, .int t.2]
def tiesD (ts : List Tie) : PyData := .tuple (ts.map tieD)
def webD (n : Nat) (ts : List Tie) : PyData := .tuple [.int n, tiesD ts]
structure WebOk (n : Nat) (ts : List Tie) : Prop where
  pos : 1 ≤ n
  ends : ∀ t ∈ ts, t.1 < t.2 ∧ t.2 < n
  hang : ∀ p, 1 ≤ p → p < n → ∃ q, q < p ∧ (q, p) ∈ ts

/-- the ends of a tie stand at v -/
def TieAt (H : Hp) (v : V) (t : Tie) : Prop := ∃ p, v = .ref p ∧ H p = some (.tup [.int t.1, .int t.2])
/-- tuples stay -/
def KT (H H' : Hp) : Prop := ∀ a xs, H a = some (.tup xs) → H' a = some (.tup xs)
theorem KT.of_same {H H' : Hp} (s : Same H H') : KT H H' := fun a xs h => s _ _ h
theorem KT.of_kp {b g : Addr} {H H' : Hp} (k : Kp b g H H') (x : Box H b g) : KT H H' := fun a xs h => by
  obtain ⟨⟨_, _, h1⟩, _, h2, _⟩ := x
  exact k _ _ h (ne_of h h1 (by intro z; cases z)) (ne_of h h2 (by intro z; cases z))
theorem KT.of_upd {H : Hp} {l : Addr} {xs ys : List V} (h : H l = some (.lst xs)) : KT H (upd H l (.lst ys)) := fun a zs e => by
  rw [upd_ne (ne_of e h (by intro z; cases z))]
  exact e
theorem TieAt.kt {H H' : Hp} {v : V} {t : Tie} (h : TieAt H v t) (k : KT H H') : TieAt H' v t := by
  obtain ⟨p, e, hp⟩ := h
  exact ⟨p, e, k _ _ hp⟩

abbrev Ties (H : Hp) : List V → List Tie → Prop := Paired (TieAt H)
theorem Ties.kt {H H' : Hp} (k : KT H H') : ∀ {xs : List V} {ts : List Tie}, Ties H xs ts → Ties H' xs ts
  | _, _, .nil => .nil
  | _, _, .cons a r => .cons (a.kt k) (Ties.kt k r)
theorem Ties.app {H : Hp} : ∀ {xs : List V} {ts : List Tie} {v : V} {t : Tie}, Ties H xs ts → TieAt H v t → Ties H (xs ++ [v]) (ts ++ [t])
  | _, _, _, _, .nil, h => .cons h .nil
  | _, _, _, _, .cons a r, h => .cons a (Ties.app r h)
theorem Ties.era {H : Hp} : ∀ {xs : List V} {ts : List Tie} (j : Nat), Ties H xs ts → Ties H (xs.eraseIdx j) (ts.eraseIdx j)
  | _, _, _, .nil => .nil
  | _, _, 0, .cons a r => r
  | _, _, j + 1, .cons a r => .cons a (Ties.era j r)
theorem Ties.get {H : Hp} : ∀ {xs : List V} {ts : List Tie} {j : Nat} {t : Tie}, Ties H xs ts → ts[j]? = some t → ∃ v, xs[j]? = some v ∧ TieAt H v t
  | _, _, _, _, .nil, h => by simp at h
  | _, _, 0, _, .cons a r, h => by
    simp at h
    subst h
    exact ⟨_, rfl, a⟩
  | _, _, j + 1, t, .cons a r, h => by
    obtain ⟨v, h1, h2⟩ := Ties.get (j := j) (t := t) r (by simpa using h)
    exact ⟨v, by simpa using h1, h2⟩
theorem Ties.at {H : Hp} : ∀ {xs : List V} {ts : List Tie} {j : Nat} {v : V}, Ties H xs ts → xs[j]? = some v → ∃ t, ts[j]? = some t ∧ TieAt H v t
  | _, _, _, _, .nil, h => by simp at h
  | _, _, 0, _, .cons a r, h => by
    simp at h
    subst h
    exact ⟨_, rfl, a⟩
  | _, _, j + 1, v, .cons a r, h => by
    obtain ⟨t, h1, h2⟩ := Ties.at (j := j) (v := v) r (by simpa using h)
    exact ⟨t, by simpa using h1, h2⟩
theorem Ties.dp {K : PySem.W.Frag} {H : Hp} : ∀ {xs : List V} {ts : List Tie}, Ties H xs ts → DpAll K H xs (ts.map tieD)
  | _, _, .nil => .nil
  | _, _, .cons h r => by
    obtain ⟨p, rfl, hp⟩ := h
    exact .cons (.tup (SqT.of hp) (.cons (.int _) (.cons (.int _) .nil))) (Ties.dp r)

/-- taking one out and laying it behind -/
theorem perm_move : ∀ (ts fs : List Tie) (j : Nat) (t : Tie), ts[j]? = some t → (ts.eraseIdx j ++ (fs ++ [t])).Perm (ts ++ fs) := by
  intro ts fs j t h
  have h1 : (t :: ts.eraseIdx j).Perm ts := by
    induction ts generalizing j with
    | nil => simp at h
    | cons a r ih =>
      cases j with
      | zero =>
        simp at h
        subst h
        exact .refl _
      | succ j =>
        have := ih j (by simpa using h)
        simp only [List.eraseIdx_cons_succ]
        exact (List.Perm.swap a t _).trans (this.cons a)
  have h2 : (ts.eraseIdx j ++ (fs ++ [t])).Perm (t :: (ts.eraseIdx j ++ fs)) := by
    rw [← List.append_assoc]
    exact List.perm_append_comm
  exact h2.trans (by simpa using h1.append_right fs)

/-- two lists of ties that grow, new since H0 -/
structure WI (b g l l2 : Addr) (H0 H : Hp) (ts fs : List Tie) : Prop where
  kp : Kp b g H0 H
  bx : Box H b g
  n1 : H0 l = none
  n2 : H0 l2 = none
  d1 : l ≠ b
  d2 : l ≠ g
  d3 : l2 ≠ b
  d4 : l2 ≠ g
  d5 : l ≠ l2
  tl : ∃ xs, H l = some (.lst xs) ∧ Ties H xs ts
  fl : ∃ ys, H l2 = some (.lst ys) ∧ Ties H ys fs
section
variable {b g l l2 p : Addr} {H0 H H' : Hp} {ts fs : List Tie} {v : V} {t : Tie} {xs : List V}
theorem WI.draw (w : WI b g l l2 H0 H ts fs) (k : Kp b g H H') (x : Box H' b g) : WI b g l l2 H0 H' ts fs := by
  obtain ⟨kp, bx, n1, n2, d1, d2, d3, d4, d5, ⟨xs, h1, h2⟩, ⟨ys, h3, h4⟩⟩ := w
  have kt := KT.of_kp k bx
  exact ⟨kp.trans k, x, n1, n2, d1, d2, d3, d4, d5, ⟨xs, k _ _ h1 d1 d2, h2.kt kt⟩, ⟨ys, k _ _ h3 d3 d4, h4.kt kt⟩⟩
theorem WI.same (w : WI b g l l2 H0 H ts fs) (s : Same H H') : WI b g l l2 H0 H' ts fs := w.draw (Kp.same s) (w.bx.same s)
theorem WI.app (w : WI b g l l2 H0 H ts fs) (h : H l = some (.lst xs)) (hv : TieAt H v t) : WI b g l l2 H0 (upd H l (.lst (xs ++ [v]))) (ts ++ [t]) fs := by
  obtain ⟨kp, bx, n1, n2, d1, d2, d3, d4, d5, ⟨zs, h1, h2⟩, ⟨ys, h3, h4⟩⟩ := w
  rw [h] at h1
  cases h1
  have kt : KT H (upd H l (.lst (xs ++ [v]))) := KT.of_upd h
  refine ⟨fun a o q q1 q2 => ?_, ?_, n1, n2, d1, d2, d3, d4, d5, ⟨_, upd_same, (h2.kt kt).app (hv.kt kt)⟩, ⟨ys, ?_, h4.kt kt⟩⟩
  · rw [upd_ne (ne_of_none q n1)]
    exact kp _ _ q q1 q2
  · obtain ⟨⟨st, c, x1⟩, ns, x2, x3⟩ := bx
    exact ⟨⟨st, c, by rw [upd_ne d1.symm]; exact x1⟩, ns, by rw [upd_ne d2.symm]; exact x2, x3⟩
  · rw [upd_ne d5.symm]
    exact h3
theorem WI.swap (w : WI b g l l2 H0 H ts fs) : WI b g l2 l H0 H fs ts := by
  obtain ⟨kp, bx, n1, n2, d1, d2, d3, d4, d5, t1, t2⟩ := w
  exact ⟨kp, bx, n2, n1, d3, d4, d1, d2, d5.symm, t2, t1⟩
theorem WI.pop (w : WI b g l l2 H0 H ts fs) (h : H l = some (.lst xs)) (j : Nat) : WI b g l l2 H0 (upd H l (.lst (xs.eraseIdx j))) (ts.eraseIdx j) fs := by
  obtain ⟨kp, bx, n1, n2, d1, d2, d3, d4, d5, ⟨zs, h1, h2⟩, ⟨ys, h3, h4⟩⟩ := w
  rw [h] at h1
  cases h1
  have kt : KT H (upd H l (.lst (xs.eraseIdx j))) := KT.of_upd h
  refine ⟨fun a o q q1 q2 => ?_, ?_, n1, n2, d1, d2, d3, d4, d5, ⟨_, upd_same, (h2.kt kt).era j⟩, ⟨ys, ?_, h4.kt kt⟩⟩
  · rw [upd_ne (ne_of_none q n1)]
    exact kp _ _ q q1 q2
  · obtain ⟨⟨st, c, x1⟩, ns, x2, x3⟩ := bx
    exact ⟨⟨st, c, by rw [upd_ne d1.symm]; exact x1⟩, ns, by rw [upd_ne d2.symm]; exact x2, x3⟩
  · rw [upd_ne d5.symm]
    exact h3
end

def spWeb (K : PySem.W.Frag) : Sp := fun vs H Q _ => ∃ (b g : Addr) (most more : Nat), vs = [.ref b, .int most, .int more] ∧ 1 ≤ most ∧ most ≤ 1000 ∧ more ≤ 1000 ∧ Box H b g ∧
  ∀ (p : Addr) (n : Nat) (ts : List Tie) (H' : Hp), Kp b g H H' → Box H' b g → Dp K H' (.ref p) (webD n ts) → WebOk n ts → n ≤ most → ts.length + 1 ≤ n + more →
    (n = 1 → ts = []) → Q (.ref p) H'
end BV

namespace BV
open PySem L2

/-! ### data that is read -/
section
variable {K : PySem.W.Frag} {H H' : Hp}
theorem sqT_same {a : Addr} {xs : List V} (s : Same H H') (h : SqT K H a xs) : SqT K H' a xs := by
  rcases h with (h | ⟨o, h⟩) | h
  · exact .inl (.inl (s _ _ h))
  · exact .inl (.inr ⟨o, s _ _ h⟩)
  · exact .inr h
mutual
theorem dp_same (s : Same H H') : ∀ (d : PyData) {v : V}, Dp K H v d → Dp K H' v d
  | .none, _, h => by cases h; exact .non
  | .bool b, _, h => by cases h; exact .bl b
  | .int i, _, h => by cases h; exact .int i
  | .str x, _, h => by cases h; exact .str x
  | .list ds, _, h => by
    cases h with
    | lst h1 h2 => exact .lst (Same.seq s h1) (dpAll_same s ds h2)
  | .tuple ds, _, h => by
    cases h with
    | tup h1 h2 => exact .tup (sqT_same s h1) (dpAll_same s ds h2)
  | .dict _, _, h => by cases h
theorem dpAll_same (s : Same H H') : ∀ (ds : List PyData) {vs : List V}, DpAll K H vs ds → DpAll K H' vs ds
  | [], _, h => by cases h; exact .nil
  | d :: ds, _, h => by
    cases h with
    | cons h1 h2 => exact .cons (dp_same s d h1) (dpAll_same s ds h2)
end

/-- what is locked or a tuple stays -/
def KF (H H' : Hp) : Prop := ∀ a o, H a = some o → (∃ xs, o = .tup xs ∨ ∃ ob, o = .frz ob (.tup xs)) → H' a = some o
theorem KF.of_same (s : Same H H') : KF H H' := fun a o h _ => s a o h
theorem KF.of_kp {b g : Addr} (k : Kp b g H H') (x : Box H b g) : KF H H' := fun a o h q => by
  obtain ⟨⟨_, _, h1⟩, _, h2, _⟩ := x
  obtain ⟨xs, rfl | ⟨ob, rfl⟩⟩ := q
  · exact k _ _ h (ne_of h h1 (by intro z; cases z)) (ne_of h h2 (by intro z; cases z))
  · exact k _ _ h (ne_of h h1 (by intro z; cases z)) (ne_of h h2 (by intro z; cases z))
theorem KF.trans {H'' : Hp} (x : KF H H') (y : KF H' H'') : KF H H'' := fun a o h q => y a o (x a o h q) q
theorem KF.of_upd {l : Addr} {xs ys : List V} (h : H l = some (.lst xs)) : KF H (upd H l (.lst ys)) := fun a o e q => by
  obtain ⟨zs, rfl | ⟨ob, rfl⟩⟩ := q
  · rw [upd_ne (ne_of e h (by intro z; cases z))]
    exact e
  · rw [upd_ne (ne_of e h (by intro z; cases z))]
    exact e
theorem sqT_kf {a : Addr} {xs : List V} (s : KF H H') (h : SqT K H a xs) : SqT K H' a xs := by
  rcases h with (h | ⟨o, h⟩) | h
  · exact .inl (.inl (s _ _ h ⟨xs, .inl rfl⟩))
  · exact .inl (.inr ⟨o, s _ _ h ⟨xs, .inr ⟨o, rfl⟩⟩⟩)
  · exact .inr h
mutual
/-- data without a list in it -/
def still : PyData → Bool
  | .none | .bool _ | .int _ | .str _ => true
  | .list _ | .dict _ => false
  | .tuple ds => stillAll ds
def stillAll : List PyData → Bool
  | [] => true
  | d :: ds => still d && stillAll ds
end
mutual
theorem dp_kf (s : KF H H') : ∀ (d : PyData) {v : V}, still d = true → Dp K H v d → Dp K H' v d
  | .none, _, _, h => by cases h; exact .non
  | .bool b, _, _, h => by cases h; exact .bl b
  | .int i, _, _, h => by cases h; exact .int i
  | .str x, _, _, h => by cases h; exact .str x
  | .list ds, _, q, h => by simp [still] at q
  | .tuple ds, _, q, h => by
    cases h with
    | tup h1 h2 => exact .tup (sqT_kf s h1) (dpAll_kf s ds (by simpa [still] using q) h2)
  | .dict _, _, _, h => by cases h
theorem dpAll_kf (s : KF H H') : ∀ (ds : List PyData) {vs : List V}, stillAll ds = true → DpAll K H vs ds → DpAll K H' vs ds
  | [], _, _, h => by cases h; exact .nil
  | d :: ds, _, q, h => by
    have q' : still d = true ∧ stillAll ds = true := by simpa [stillAll] using q
    cases h with
    | cons h1 h2 => exact .cons (dp_kf s d q'.1 h1) (dpAll_kf s ds q'.2 h2)
end
theorem dpAll_len : ∀ {ds : List PyData} {vs : List V}, DpAll K H vs ds → vs.length = ds.length
  | [], _, h => by cases h; rfl
  | d :: ds, _, h => by
    cases h with
    | cons h1 h2 => exact congrArg Nat.succ (dpAll_len h2)
theorem dpAll_get : ∀ {ds : List PyData} {vs : List V} {i : Nat} {v : V}, DpAll K H vs ds → vs[i]? = some v → ∃ d, ds[i]? = some d ∧ Dp K H v d
  | [], _, _, _, h, e => by cases h; simp at e
  | d :: ds, _, 0, _, h, e => by
    cases h with
    | cons h1 h2 =>
      simp at e
      subst e
      exact ⟨d, rfl, h1⟩
  | d :: ds, _, i + 1, v, h, e => by
    cases h with
    | cons h1 h2 =>
      obtain ⟨d', a, b⟩ := dpAll_get (i := i) (v := v) h2 (by simpa using e)
      exact ⟨d', by simpa using a, b⟩
theorem dpAll_at : ∀ {ds : List PyData} {vs : List V} {i : Nat} {d : PyData}, DpAll K H vs ds → ds[i]? = some d → ∃ v, vs[i]? = some v ∧ Dp K H v d
  | [], _, _, _, h, e => by simp at e
  | d :: ds, _, 0, _, h, e => by
    cases h with
    | cons h1 h2 =>
      simp at e
      subst e
      exact ⟨_, rfl, h1⟩
  | d :: ds, _, i + 1, v, h, e => by
    cases h with
    | cons h1 h2 =>
      obtain ⟨d', a, b⟩ := dpAll_at (i := i) (d := v) h2 (by simpa using e)
      exact ⟨d', by simpa using a, b⟩
theorem dpAll_app : ∀ {ds es : List PyData} {vs us : List V}, DpAll K H vs ds → DpAll K H us es → DpAll K H (vs ++ us) (ds ++ es)
  | [], _, _, _, h, g => by cases h; exact g
  | d :: ds, _, _, _, h, g => by
    cases h with
    | cons h1 h2 => exact .cons h1 (dpAll_app h2 g)
theorem dpAll_ints' : ∀ {ns : List Int} {vs : List V}, DpAll K H vs (ns.map PyData.int) → vs = ns.map V.int
  | [], _, h => by cases h; rfl
  | n :: ns, _, h => by
    cases h with
    | cons h1 h2 =>
      cases h1
      rw [dpAll_ints' h2]
      rfl
theorem dp_tup {v : V} {ds : List PyData} (h : Dp K H v (.tuple ds)) : ∃ a xs, v = .ref a ∧ SqT K H a xs ∧ DpAll K H xs ds := by
  cases h with
  | tup h1 h2 => exact ⟨_, _, rfl, h1, h2⟩
theorem dp_lst {v : V} {ds : List PyData} (h : Dp K H v (.list ds)) : ∃ a xs, v = .ref a ∧ SqL K H a xs ∧ DpAll K H xs ds := by
  cases h with
  | lst h1 h2 => exact ⟨_, _, rfl, h1, h2⟩
theorem dp_tie {v : V} {t : Tie} (h : Dp K H v (tieD t)) : ∃ a, v = .ref a ∧ SqT K H a [.int t.1, .int t.2] := by
  obtain ⟨a, xs, e, h1, h2⟩ := dp_tup h
  have q : xs = [.int t.1, .int t.2] := dpAll_ints' (ns := [t.1, t.2]) h2
  subst q
  exact ⟨a, e, h1⟩
theorem dp_web {v : V} {n : Nat} {ts : List Tie} (h : Dp K H v (webD n ts)) :
    ∃ a c ys, v = .ref a ∧ SqT K H a [.int n, .ref c] ∧ SqT K H c ys ∧ DpAll K H ys (ts.map tieD) := by
  obtain ⟨a, xs, e, h1, h2⟩ := dp_tup h
  cases h2 with
  | cons q1 q2 =>
    cases q1
    cases q2 with
    | cons q3 q4 =>
      cases q4
      obtain ⟨c, ys, e3, h3, h4⟩ := dp_tup q3
      subst e3
      exact ⟨a, c, ys, e, h1, h3, h4⟩
theorem still_ties : ∀ ts : List Tie, stillAll (ts.map tieD) = true
  | [] => by simp [stillAll]
  | t :: ts => by simp [stillAll, tieD, still, still_ties ts]
theorem still_web (n : Nat) (ts : List Tie) : still (webD n ts) = true := by simp [webD, tiesD, still, stillAll, still_ties ts]
end

/-! ### lots -/
def lotD (ks : List Nat) : PyData := .tuple (ks.map fun (k : Nat) => .int k)
def hit (ts : List Tie) (p k : Nat) : Bool := match ts[k]? with
  | some t => t.1 == p || t.2 == p
  | none => false
def tiesAt (ts : List Tie) (p : Nat) : List Nat := (List.range ts.length).filter (hit ts p)
def spTies (K : PySem.W.Frag) : Sp := fun vs H Q _ => ∃ (v : V) (n p : Nat) (ts : List Tie), vs = [v, .int p] ∧ Dp K H v (webD n ts) ∧ ts.length ≤ 3000 ∧
  ∀ (u : V) (H' : Hp), Same H H' → Dp K H' u (lotD (tiesAt ts p)) → Q u H'
end BV

/-! ### rules that name the written part -/
namespace BV
open PySem L2
section
variable {X : Cx} (K : PySem.W.Frag)
theorem opIn (h : X.K = K := by rfl) : OpR X (compareOp .In) (rIn K false) := by
  subst h
  exact op_in_seq
theorem opNotIn (h : X.K = K := by rfl) : OpR X (compareOp .NotIn) (rIn K true) := by
  subst h
  exact op_notIn_seq
theorem opEqD (hu : X.A.units + 64 < cLine) (h : X.K = K := by rfl) : OpR X (compareOp .Eq) (rEqD K) := by
  subst h
  exact op_eqD hu
theorem opNeD (hu : X.A.units + 64 < cLine) (h : X.K = K := by rfl) : OpR X (compareOp .NotEq) (rNeD K) := by
  subst h
  exact op_neD hu
theorem ixL (h : X.K = K := by rfl) : IxR X (rIxL K) := by
  subst h
  exact ix_list
theorem ixT (h : X.K = K := by rfl) : IxR X (rIxT K) := by
  subst h
  exact ix_tup
def rLenK (K : PySem.W.Frag) : List V → Hp → VK → Prop := fun xs H Q => ∃ p ys, xs = [.ref p] ∧ (SqL K H p ys ∨ SqT K H p ys) ∧ Q (.int ys.length) H
theorem lenK (h : X.K = K := by rfl) : CallR X (.builtin "len") (rLenK K) := by
  subst h
  exact call_len_seq
def rTupK (K : PySem.W.Frag) : List V → Hp → VK → Prop := fun xs H Q => ∃ p ys, xs = [.ref p] ∧
  ((SqL K H p ys ∧ ∀ l, H l = none → Q (.ref l) (upd H l (.tup ys))) ∨ (SqT K H p ys ∧ Q (.ref p) H))
theorem tupleK (h : X.K = K := by rfl) : CallR X (.type "tuple") (rTupK K) := by
  subst h
  exact call_tuple_of
def rSumT (K : PySem.W.Frag) : List V → Hp → VK → Prop := fun vs H Q => ∃ (a : Addr) (ns : List Int), vs = [V.ref a] ∧ SqT K H a (ns.map V.int) ∧ Q (.int ns.sum) H
theorem sumTK (hc : X.calm = true := by rfl) (h : X.K = K := by rfl) : CallR X (.builtin "sum") (rSumT K) := by
  subst h
  exact cr_sumT hc
def rReprK (K : PySem.W.Frag) : List V → Hp → VK → Prop := fun xs H Q => ∃ (x : V) (d : PyData), xs = [x] ∧ Dp K H x d ∧ Show d ∧ Q (.str d.shown) H
theorem reprK (hgd : X.A.guards = some []) (hu : X.A.units + 64 < cLine) (h : X.K = K := by rfl) : CallR X (.builtin "repr") (rReprK K) := by
  subst h
  exact call_reprD hgd hu
theorem revT {e : Expr} {te : TE} {k : Nat} {p1 p2 p3 pos : Pos} (he : PE X e te) (h : X.K = K := by rfl) :
    PE X (.Subscript e (.Slice none none (some (.UnaryOp .USub (.Constant (.int 1) k p1) p2)) p3) pos) (tRevT K te) := by
  subst h
  exact pe_revT he
theorem enumT {e : Expr} {ta : TA} {p pos tpos : Pos} {elts : List Expr} {kk : Nat} (hg : Gl X "enumerate") (hm : X.mg "enumerate" = none)
    (ha : PA X [e] ta) (hs : starEach [e] X.env = [(false, eval e X.env)] := by rfl) (h : X.K = K := by rfl) :
    PI X (.Tuple elts kk tpos) (.Call (.Name "enumerate" p) [e] [] pos) (iEnumT K ta) := by
  subst h
  exact pi_enumT hg hm ha hs
theorem piL {l tg : Expr} {tl : TE} (hl : PE X l tl) (h : X.K = K := by rfl) : PI X tg l (iList K tl) := by
  subst h
  exact pi_list hl
theorem piT {l tg : Expr} {tl : TE} (hl : PE X l tl) (h : X.K = K := by rfl) : PI X tg l (iTup K tl) := by
  subst h
  exact pi_tup hl
theorem pgT {es : List Expr} {k : Nat} {t : TGs} {n : Nat} (hc : X.calm = true) (h : PGs X es t)
    (hn : (assignEach es X.env).length = n := by rfl) (hst : (assignEach es X.env).findIdx? (·.1) = none := by rfl) {pos : Pos} (hK : X.K = K := by rfl) :
    PG X (.Tuple es k pos) (gTup K n t) := by
  subst hK
  exact pg_tup hc h hn hst
theorem getL (h : X.K = K := by rfl) : PGet X (rGetL K) := by
  subst h
  exact get_list
theorem slL (h : X.K = K := by rfl) : SlR X (rSlL K) := by
  subst h
  exact sl_list
end
end BV

namespace BV
open PySem L2
theorem inv_tie (p : Nat) (t : Tie) : inV (.int (p : Int)) [.int t.1, .int t.2] = (t.1 == p || t.2 == p) := by
  have e : ∀ a : Nat, (((a : Nat) : Int) == (p : Int)) = (a == p) := fun a => by
    by_cases h : a = p
    · subst h
      simp
    · rw [beq_eq_false_iff_ne.mpr h]
      exact beq_eq_false_iff_ne.mpr fun z => h (by omega)
  show ((((t.1 : Nat) : Int) == (p : Int)) || ((((t.2 : Nat) : Int) == (p : Int)) || false)) = _
  rw [e, e, Bool.or_false]
theorem range_filter_succ {f : Nat → Bool} {i : Nat} : (List.range (i + 1)).filter f = (List.range i).filter f ++ if f i then [i] else [] := by
  rw [List.range_succ, List.filter_append]
  congr 1
  by_cases h : f i = true
  · rw [if_pos h, List.filter_cons_of_pos h, List.filter_nil]
  · rw [if_neg h, List.filter_cons_of_neg h, List.filter_nil]
theorem hit_at {ts : List Tie} {p i : Nat} {t : Tie} (h : ts[i]? = some t) : hit ts p i = (t.1 == p || t.2 == p) := by
  unfold hit
  rw [h]
end BV

namespace BV
open PySem L2

/-! ### the matrix of a web -/
def meets (p : Nat) (t : Tie) : Bool := t.1 == p || t.2 == p
def joins (p q : Nat) (t : Tie) : Bool := (t.1 == p && t.2 == q) || (t.1 == q && t.2 == p)
def entry (ts : List Tie) (p q : Nat) : Int := if p = q then (ts.countP (meets p) : Nat) else -((ts.countP (joins p q) : Nat) : Int)
def rowD (ts : List Tie) (n p : Nat) : PyData := .tuple ((List.range n).map fun q => .int (entry ts p q))
def matD (n : Nat) (ts : List Tie) : PyData := .tuple ((List.range n).map (rowD ts n))
def spMat (K : PySem.W.Frag) : Sp := fun vs H Q _ => ∃ (v : V) (n : Nat) (ts : List Tie), vs = [v] ∧ Dp K H v (webD n ts) ∧ (∀ t ∈ ts, t.1 < t.2 ∧ t.2 < n) ∧
  n ≤ 1000 ∧ ts.length ≤ 3000 ∧ ∀ (u : V) (H' : Hp), Same H H' → Dp K H' u (matD n ts) → Q u H'

/-- n rows of n numbers, lists of their own -/
structure Mat (H : Hp) (r : Addr) (as : List Addr) (n : Nat) (M : Nat → Nat → Int) : Prop where
  rows : H r = some (.lst (as.map V.ref))
  len : as.length = n
  nd : as.Nodup
  row : ∀ p a, as[p]? = some a → H a = some (.lst ((List.range n).map fun q => V.int (M p q)))
def bump (M : Nat → Nat → Int) (p q : Nat) (d : Int) : Nat → Nat → Int := fun i j => if i = p ∧ j = q then M p q + d else M i j
theorem range_set {α : Type} (f : Nat → α) (n q : Nat) (v : α) : ((List.range n).map f).set q v = (List.range n).map fun j => if j = q then v else f j := by
  apply List.ext_getElem?
  intro i
  by_cases hi : i < n
  · rw [List.getElem?_set]
    by_cases e : q = i
    · subst e
      simp [hi]
    · have e' : ¬ i = q := fun z => e z.symm
      simp [hi, e, e']
  · rw [List.getElem?_eq_none (by simp; omega), List.getElem?_eq_none (by simp; omega)]
theorem Mat.set {H : Hp} {r a : Addr} {as : List Addr} {n p q : Nat} {M : Nat → Nat → Int} {d : Int} (m : Mat H r as n M) (ha : as[p]? = some a) (hq : q < n) :
    Mat (upd H a (.lst (((List.range n).map fun q => V.int (M p q)).set q (.int (M p q + d))))) r as n (bump M p q d) := by
  obtain ⟨h1, h2, h3, h4⟩ := m
  have hpa := h4 p a ha
  have hp : p < as.length := (List.getElem?_eq_some_iff.mp ha).1
  have nra : r ≠ a := by
    intro e
    subst e
    rw [h1] at hpa
    have z := Option.some.inj hpa
    injection z with z
    cases as with
    | nil => simp at ha
    | cons x xs =>
      cases n with
      | zero => simp at h2
      | succ n =>
        rw [List.range_succ_eq_map] at z
        cases z
  refine ⟨by rw [upd_ne nra]; exact h1, h2, h3, fun p' a' ha' => ?_⟩
  by_cases e : p' = p
  · subst e
    rw [ha] at ha'
    cases ha'
    rw [upd_same, range_set]
    congr 2
    apply List.map_congr_left
    intro j hj
    unfold bump
    by_cases ej : j = q
    · subst ej
      simp
    · simp [ej]
  · have na : a' ≠ a := by
      rintro rfl
      have hp' : p' < as.length := (List.getElem?_eq_some_iff.mp ha').1
      have e1 : as[p'] = a' := (List.getElem?_eq_some_iff.mp ha').2
      have e2 : as[p] = a' := (List.getElem?_eq_some_iff.mp ha).2
      have pw := List.pairwise_iff_getElem.mp h3
      rcases Nat.lt_or_ge p' p with z | z
      · exact pw p' p hp' hp z (e1.trans e2.symm)
      · exact pw p p' hp hp' (by omega) (e2.trans e1.symm)
    rw [upd_ne na, h4 p' a' ha']
    congr 2
    apply List.map_congr_left
    intro j hj
    unfold bump
    simp [e]
theorem entry_app (ts : List Tie) (a b : Nat) (hab : a < b) (p q : Nat) :
    bump (bump (bump (bump (entry ts) a a 1) b b 1) a b (-1)) b a (-1) p q = entry (ts ++ [(a, b)]) p q := by
  have c1 : ∀ f : Tie → Bool, (ts ++ [(a, b)]).countP f = ts.countP f + (if f (a, b) = true then 1 else 0) := fun f => by
    rw [List.countP_append, List.countP_singleton]
  unfold entry
  rw [c1, c1]
  unfold bump meets joins
  by_cases e : p = q
  · subst e
    by_cases ea : p = a
    · subst ea
      have : ¬ p = b := by omega
      have : ¬ b = p := by omega
      simp_all
    · by_cases eb : p = b
      · subst eb
        have : ¬ a = p := by omega
        simp_all
      · have : ¬ a = p := fun z => ea z.symm
        have : ¬ b = p := fun z => eb z.symm
        simp_all
  · by_cases e1 : p = a ∧ q = b
    · obtain ⟨rfl, rfl⟩ := e1
      have h1 : ¬ q = p := fun z => e z.symm
      simp_all
      omega
    · by_cases e2 : p = b ∧ q = a
      · obtain ⟨rfl, rfl⟩ := e2
        have h1 : ¬ q = p := fun z => e z.symm
        simp_all
        omega
      · have h3 : ¬ (p = a ∧ q = a) := fun z => e (z.1.trans z.2.symm)
        have h4 : ¬ (p = b ∧ q = b) := fun z => e (z.1.trans z.2.symm)
        have h5 : ((a == p && b == q) || (a == q && b == p)) = false := by
          rw [Bool.or_eq_false_iff, Bool.and_eq_false_iff, Bool.and_eq_false_iff]
          simp only [beq_eq_false_iff_ne]
          omega
        simp only [e1, e2, h3, h4, if_false, e, h5, Bool.false_eq_true, Nat.add_zero]
end BV

namespace BV
open PySem L2
theorem Mat.row_get {H : Hp} {r a : Addr} {as : List Addr} {n p q : Nat} {M : Nat → Nat → Int} (m : Mat H r as n M) (ha : as[p]? = some a) (hq : q < n) :
    ((List.range n).map fun q => V.int (M p q))[q]? = some (.int (M p q)) := by
  rw [List.getElem?_map, List.getElem?_range hq]
  rfl
theorem mat_aug {K : PySem.W.Frag} {H : Hp} {r : Addr} {as : List Addr} {n p q ir ip iq : Nat} {M : Nat → Nat → Int} {d : Int} {f : Int → Int → Int} {σ : L2.St} {D : Ends}
    (m : Mat H r as n M) (hp : p < n) (hq : q < n) (h3 : σ[ir]? = some (some (.ref r))) (h4 : σ[ip]? = some (some (.int (p : Int)))) (h5 : σ[iq]? = some (some (.int (q : Int))))
    (hf : f (M p q) 1 = M p q + d)
    (h : ∀ a, as[p]? = some a → ∀ H', (∀ b, b ≠ a → H' b = H b) → Mat H' r as n (bump M p q d) → D.nx σ H') :
    tAugS (tOp (rIxL K) (tVar ir) (tVar ip)) (tVar iq) (tC (.int 1)) (rGetL K) (ipI f) rSetL D σ H := by
  have hpl : p < as.length := by rw [m.len]; exact hp
  have ha : as[p]? = some as[p] := by simp [hpl]
  have hrow := m.row p _ ha
  have hr : (as.map V.ref)[p]? = some (.ref as[p]) := by rw [List.getElem?_map, ha]; rfl
  refine ⟨_, h3, _, h4, r, _, _, _, rfl, rfl, SqL.of m.rows, atI_nat hr, ?_⟩
  refine ⟨_, h5, as[p], _, q, _, rfl, rfl, SqL.of hrow, m.row_get ha hq, ?_⟩
  refine ⟨_, _, rfl, rfl, as[p], _, (q : Int), q, rfl, rfl, hrow, ix_nat (by simpa using hq), ?_⟩
  rw [hf]
  exact h _ ha _ (fun b hb => upd_ne hb) (m.set ha hq)
theorem zeros (n : Nat) : (List.replicate n [V.int 0]).flatten = (List.range n).map fun _ => V.int 0 := by
  induction n with
  | zero => rfl
  | succ n ih =>
    rw [List.replicate_succ', List.flatten_append, ih, List.range_succ, List.map_append]
    rfl
end BV

namespace BV
open PySem L2
mutual
def tiny : PyData → Bool
  | .none | .bool _ => true
  | .int i => decide (i.natAbs.log2 < 300)
  | .str x => decide (x.length ≤ 100) && x.cps.toList.all fun c => decide (c < 16 ^ 8)
  | .list xs | .tuple xs => tinyAll xs
  | .dict _ => false
def tinyAll : List PyData → Bool
  | [] => true
  | x :: xs => tiny x && tinyAll xs
end
mutual
def nodes : PyData → Nat
  | .none | .bool _ | .int _ | .str _ | .dict _ => 1
  | .list xs | .tuple xs => nodesAll xs + 1
def nodesAll : List PyData → Nat
  | [] => 0
  | x :: xs => nodes x + nodesAll xs
end
theorem int_shown {i : Int} (h : i.natAbs.log2 < 300) : (PyData.shown (.int i)).length ≤ 301 := by
  have h1 := int_text_length_le (k := 300) (by decide) h
  have h2 : (PyData.shown (.int i)) = Str.ofString (toString i) := by simp only [PyData.shown]
  rw [h2]
  have h3 : (Str.ofString (toString i)).length = (toString i).length := ofString_length _
  omega
mutual
theorem tiny_facts : ∀ d : PyData, tiny d = true → d.showable = true ∧ d.hasDict = false ∧ d.shown.length + 2 ≤ 1100 * nodes d
  | .none, _ => ⟨by simp [PyData.showable], by simp [PyData.hasDict], by
      have e : (PyData.shown .none).length = 4 := rfl
      simp only [nodes]
      omega⟩
  | .bool b, _ => ⟨by simp [PyData.showable], by simp [PyData.hasDict], by
      have e : (PyData.shown (.bool b)).length ≤ 5 := by cases b <;> decide
      simp only [nodes]
      omega⟩
  | .int i, h => by
    have h' : i.natAbs.log2 < 300 := by simpa [tiny] using h
    refine ⟨?_, by simp [PyData.hasDict], ?_⟩
    · simp only [PyData.showable, decide_eq_true_eq]
      omega
    · have := int_shown h'
      simp only [nodes]
      omega
  | .str x, h => by
    have h' : x.length ≤ 100 ∧ ∀ c ∈ x.cps.toList, c < 16 ^ 8 := by
      simp only [tiny, Bool.and_eq_true, decide_eq_true_eq, List.all_eq_true] at h
      exact h
    refine ⟨by simp [PyData.showable], by simp [PyData.hasDict], ?_⟩
    have e := StrLaws.reprText_len x h'.2
    simp only [PyData.shown, nodes]
    omega
  | .list xs, h => by
    have h1 := tiny_all xs (by simpa [tiny] using h)
    refine ⟨by simpa [PyData.showable] using h1.1, by simpa [PyData.hasDict] using h1.2.1, ?_⟩
    have h2 := listText_len_le (PyData.shownAll xs)
    simp only [PyData.shown, nodes]
    omega
  | .tuple xs, h => by
    have h1 := tiny_all xs (by simpa [tiny] using h)
    refine ⟨by simpa [PyData.showable] using h1.1, by simpa [PyData.hasDict] using h1.2.1, ?_⟩
    have h2 := tupleText_len_le (PyData.shownAll xs)
    simp only [PyData.shown, nodes]
    omega
  | .dict _, h => by simp [tiny] at h
theorem tiny_all : ∀ xs : List PyData, tinyAll xs = true → PyData.showableAll xs = true ∧ PyData.hasDictAll xs = false ∧
    ((PyData.shownAll xs).map (·.length)).sum + 2 * (PyData.shownAll xs).length ≤ 1100 * nodesAll xs
  | [], _ => ⟨by simp [PyData.showableAll], by simp [PyData.hasDictAll], by simp [PyData.shownAll]⟩
  | x :: xs, h => by
    have h' : tiny x = true ∧ tinyAll xs = true := by simpa [tinyAll] using h
    obtain ⟨a1, a2, a3⟩ := tiny_facts x h'.1
    obtain ⟨b1, b2, b3⟩ := tiny_all xs h'.2
    refine ⟨by simp [PyData.showableAll, a1, b1], by simp [PyData.hasDictAll, a2, b2], ?_⟩
    simp only [PyData.shownAll, nodesAll, List.map_cons, List.sum_cons, List.length_cons]
    omega
end
theorem show_of {d : PyData} (h : tiny d = true) (hd : d.depth ≤ 40) (hn : nodes d ≤ 15000) : Show d := by
  obtain ⟨a, b, c⟩ := tiny_facts d h
  refine ⟨a, b, hd, Nat.le_trans (Nat.le_trans (Nat.le_add_right _ 2) c) (Nat.le_trans (Nat.mul_le_mul_left 1100 hn) (by decide))⟩
end BV

namespace BV
open PySem L2
/-! ### sums of a row -/
theorem sum_add (f g : Nat → Int) : ∀ l : List Nat, (l.map fun q => f q + g q).sum = (l.map f).sum + (l.map g).sum
  | [] => rfl
  | a :: l => by
    simp only [List.map_cons, List.sum_cons, sum_add f g l]
    omega
theorem sum_at (n x : Nat) (c : Int) : ((List.range n).map fun q => if q = x then c else (0 : Int)).sum = if x < n then c else 0 := by
  induction n with
  | zero => rfl
  | succ n ih =>
    rw [List.range_succ, List.map_append, List.sum_append, ih]
    simp only [List.map_cons, List.map_nil, List.sum_cons, List.sum_nil]
    by_cases h : n = x
    · subst h
      simp
    · by_cases h2 : x < n
      · have : x < n + 1 := by omega
        simp [h, h2, this]
      · have : ¬ x < n + 1 := by omega
        simp [h, h2, this]
theorem sum_none (n : Nat) : ((List.range n).map fun (_ : Nat) => (0 : Int)).sum = 0 := by
  induction n with
  | zero => rfl
  | succ n ih =>
    rw [List.range_succ, List.map_append, List.sum_append, ih]
    rfl
def delta (t : Tie) (p q : Nat) : Int :=
  (if p = t.1 then ((if q = t.1 then 1 else 0) + (if q = t.2 then -1 else 0)) else 0) + (if p = t.2 then ((if q = t.2 then 1 else 0) + (if q = t.1 then -1 else 0)) else 0)
theorem entry_cons (t : Tie) (ts : List Tie) (h : t.1 < t.2) (p q : Nat) : entry (t :: ts) p q = entry ts p q + delta t p q := by
  obtain ⟨a, b⟩ := t
  have h : a < b := h
  unfold entry delta
  rw [List.countP_cons, List.countP_cons]
  unfold meets joins
  by_cases e : p = q
  · subst e
    by_cases ea : p = a
    · subst ea
      have : ¬ p = b := by omega
      have : ¬ b = p := by omega
      simp_all
    · by_cases eb : p = b
      · subst eb
        have : ¬ a = p := by omega
        simp_all
      · have : ¬ a = p := fun z => ea z.symm
        have : ¬ b = p := fun z => eb z.symm
        simp_all
  · by_cases e1 : p = a ∧ q = b
    · obtain ⟨rfl, rfl⟩ := e1
      have h1 : ¬ q = p := fun z => e z.symm
      simp_all
      omega
    · by_cases e2 : p = b ∧ q = a
      · obtain ⟨rfl, rfl⟩ := e2
        have h1 : ¬ q = p := fun z => e z.symm
        simp_all
        omega
      · have h5 : ((a == p && b == q) || (a == q && b == p)) = false := by
          rw [Bool.or_eq_false_iff, Bool.and_eq_false_iff, Bool.and_eq_false_iff]
          simp only [beq_eq_false_iff_ne]
          omega
        simp only [e, if_false, h5, Bool.false_eq_true, Nat.add_zero]
        by_cases ea : p = a
        · subst ea
          have q1 : ¬ q = p := fun z => e z.symm
          have q2 : ¬ q = b := fun z => e1 ⟨rfl, z⟩
          have q3 : ¬ p = b := by omega
          simp [q1, q2, q3]
        · by_cases eb : p = b
          · subst eb
            have q1 : ¬ q = p := fun z => e z.symm
            have q2 : ¬ q = a := fun z => e2 ⟨rfl, z⟩
            simp [q1, q2, ea]
          · simp [ea, eb]
theorem delta_sum (t : Tie) (n p : Nat) (h : t.1 < t.2) (h2 : t.2 < n) : ((List.range n).map fun q => delta t p q).sum = 0 := by
  unfold delta
  rw [sum_add]
  have h1 : t.1 < n := by omega
  by_cases ea : p = t.1
  · have eb : ¬ p = t.2 := by omega
    simp only [if_pos ea, if_neg eb]
    rw [sum_add, sum_at, sum_at, sum_none, if_pos h1, if_pos h2]
    rfl
  · by_cases eb : p = t.2
    · simp only [if_neg ea, if_pos eb]
      rw [sum_add, sum_at, sum_at, sum_none, if_pos h1, if_pos h2]
      rfl
    · simp only [if_neg ea, if_neg eb]
      rw [sum_none]
      rfl
theorem entry_sum (n p : Nat) : ∀ ts : List Tie, (∀ t ∈ ts, t.1 < t.2 ∧ t.2 < n) → ((List.range n).map fun q => entry ts p q).sum = 0
  | [], _ => by
    have : (fun q => entry [] p q) = fun _ => (0 : Int) := by
      funext q
      unfold entry
      by_cases e : p = q <;> simp [e]
    rw [this]
    exact sum_none n
  | t :: ts, h => by
    have ht := h t (List.mem_cons_self ..)
    have : (fun q => entry (t :: ts) p q) = fun q => entry ts p q + delta t p q := by
      funext q
      exact entry_cons t ts ht.1 p q
    rw [this, sum_add, entry_sum n p ts fun u hu => h u (List.mem_cons_of_mem _ hu), delta_sum t n p ht.1 ht.2]
    rfl
theorem entry_symm (ts : List Tie) (p q : Nat) : entry ts p q = entry ts q p := by
  unfold entry
  by_cases e : p = q
  · subst e
    rfl
  · have e' : ¬ q = p := fun z => e z.symm
    rw [if_neg e, if_neg e']
    congr 2
    have : joins p q = joins q p := by
      funext t
      unfold joins
      rw [Bool.or_comm]
    rw [this]
theorem entry_perm {ts us : List Tie} (h : ts.Perm us) (p q : Nat) : entry ts p q = entry us p q := by
  unfold entry
  rw [h.countP_eq, h.countP_eq]
theorem deg_len : ∀ (ts : List Tie) (p : Nat), (tiesAt ts p).length = ts.countP (meets p) := by
  intro ts p
  have key : ∀ i, i ≤ ts.length → ((List.range i).filter (hit ts p)).length = (ts.take i).countP (meets p) := by
    intro i
    induction i with
    | zero => intro _; rfl
    | succ i ih =>
      intro hi
      have hg : ts[i]? = some ts[i] := by simp [show i < ts.length by omega]
      rw [range_filter_succ, List.length_append, ih (by omega), List.take_add_one, hg, List.countP_append, hit_at hg]
      show _ = _ + List.countP (meets p) [ts[i]]
      rw [List.countP_singleton]
      show _ + (if meets p ts[i] = true then [i] else []).length = _
      by_cases h : meets p ts[i] = true
      · rw [if_pos h, if_pos h]; rfl
      · rw [if_neg h, if_neg h]; rfl
  have := key ts.length (Nat.le_refl _)
  rw [List.take_of_length_le (Nat.le_refl _)] at this
  exact this
theorem joins_pair {p q : Nat} {t : Tie} (h : t.1 < t.2) (e : p ≠ q) : joins p q t = decide (t = (min p q, max p q)) := by
  obtain ⟨a, b⟩ := t
  have h : a < b := h
  unfold joins
  rcases Nat.lt_or_ge p q with z | z
  · have e1 : min p q = p := by omega
    have e2 : max p q = q := by omega
    rw [e1, e2]
    by_cases c : a = p ∧ b = q
    · obtain ⟨rfl, rfl⟩ := c
      simp
    · have c' : ¬ ((a, b) = (p, q)) := fun z => c (Prod.mk.inj z)
      rw [decide_eq_false c', Bool.or_eq_false_iff, Bool.and_eq_false_iff, Bool.and_eq_false_iff]
      simp only [beq_eq_false_iff_ne]
      omega
  · have e1 : min p q = q := by omega
    have e2 : max p q = p := by omega
    rw [e1, e2]
    by_cases c : a = q ∧ b = p
    · obtain ⟨rfl, rfl⟩ := c
      simp
    · have c' : ¬ ((a, b) = (q, p)) := fun z => c (Prod.mk.inj z)
      rw [decide_eq_false c', Bool.or_eq_false_iff, Bool.and_eq_false_iff, Bool.and_eq_false_iff]
      simp only [beq_eq_false_iff_ne]
      omega
/-! ### each tie is at two places -/
def seen (ts : List Tie) (i k : Nat) : Int := match ts[k]? with
  | some t => (if t.1 < i then 1 else 0) + (if t.2 < i then 1 else 0)
  | none => 0
theorem seen_zero (ts : List Tie) (k : Nat) : seen ts 0 k = 0 := by
  unfold seen
  split <;> simp
theorem seen_succ {ts : List Tie} {i k : Nat} (h : ∀ t ∈ ts, t.1 < t.2) : seen ts (i + 1) k = seen ts i k + if hit ts i k = true then 1 else 0 := by
  unfold seen hit
  cases e : ts[k]? with
  | none => simp
  | some t =>
    have ht := h t (List.mem_of_getElem? e)
    obtain ⟨a, b⟩ := t
    have ht : a < b := ht
    simp only [Bool.or_eq_true, beq_iff_eq]
    by_cases h1 : a = i
    · subst h1
      have c1 : ¬ b < a := by omega
      have c2 : ¬ b < a + 1 := by omega
      simp [c1, c2]
    · by_cases h2 : b = i
      · subst h2
        have c1 : a < b := ht
        have c2 : a < b + 1 := by omega
        simp [c1, c2]
      · simp only [h1, h2, or_self, if_false]
        have c1 : (a < i + 1) = (a < i) := by apply propext; omega
        have c2 : (b < i + 1) = (b < i) := by apply propext; omega
        simp only [c1, c2]
        omega
theorem seen_all {ts : List Tie} {n k : Nat} (h : ∀ t ∈ ts, t.1 < t.2 ∧ t.2 < n) (hk : k < ts.length) : seen ts n k = 2 := by
  unfold seen
  have e : ts[k]? = some ts[k] := by simp [hk]
  rw [e]
  have ht := h ts[k] (List.getElem_mem hk)
  have h1 : ts[k].1 < n := by omega
  simp [h1, ht.2]
theorem mem_tiesAt {ts : List Tie} {p k : Nat} : k ∈ tiesAt ts p ↔ k < ts.length ∧ hit ts p k = true := by
  unfold tiesAt
  rw [List.mem_filter, List.mem_range]
theorem tiesAt_nodup (ts : List Tie) (p : Nat) : (tiesAt ts p).Nodup := (List.nodup_range (n := ts.length)).sublist List.filter_sublist
end BV

namespace BV
open PySem L2
theorem tAsg_by {te : TE} {g : TG} {D : Ends} {σ : L2.St} {H : Hp} (P : V → Hp → Prop) (cont : ∀ v H', P v H' → g v σ H' D.nx)
    (h : (∀ v H', P v H' → g v σ H' D.nx) → te σ H (fun x H1 => g x σ H1 D.nx)) : tAsg te g D σ H := h cont
theorem get_map {α β : Type} {f : α → β} {l : List α} {i : Nat} {y : β} (h : (l.map f)[i]? = some y) : ∃ x, l[i]? = some x ∧ y = f x := by
  rw [List.getElem?_map] at h
  cases e : l[i]? with
  | none =>
    rw [e] at h
    cases h
  | some x =>
    rw [e] at h
    exact ⟨x, rfl, (Option.some.inj h).symm⟩
theorem still_ints : ∀ ns : List Int, stillAll (ns.map PyData.int) = true
  | [] => by simp [stillAll]
  | n :: ns => by simp [stillAll, still, still_ints ns]
theorem ints_row (f : Nat → Int) (n : Nat) : ((List.range n).map fun q => PyData.int (f q)) = ((List.range n).map f).map PyData.int := by rw [List.map_map]; rfl
theorem ints_rowV (f : Nat → Int) (n : Nat) : ((List.range n).map fun q => V.int (f q)) = ((List.range n).map f).map V.int := by rw [List.map_map]; rfl
theorem still_row (ts : List Tie) (n p : Nat) : still (rowD ts n p) = true := by
  have h := still_ints ((List.range n).map fun q => entry ts p q)
  rw [← ints_row] at h
  simpa [rowD, still] using h
theorem still_rows (ts : List Tie) (n : Nat) : ∀ l : List Nat, stillAll (l.map (rowD ts n)) = true
  | [] => by simp [stillAll]
  | p :: l => by simp [stillAll, still_row, still_rows ts n l]

/-! ### what may be written as a text -/
theorem tiny_ints : ∀ ns : List Int, (∀ n ∈ ns, n.natAbs < 2 ^ 200) → tinyAll (ns.map PyData.int) = true ∧ nodesAll (ns.map PyData.int) = ns.length ∧ PyData.depthAll (ns.map PyData.int) = 0
  | [], _ => by simp [tinyAll, nodesAll, PyData.depthAll]
  | n :: ns, h => by
    obtain ⟨a, b, c⟩ := tiny_ints ns fun m hm => h m (List.mem_cons_of_mem _ hm)
    have hn := h n (List.mem_cons_self ..)
    have hl : n.natAbs.log2 < 300 := Nat.lt_of_lt_of_le (PySem.Flt.log2_lt_of (by decide) hn) (by decide)
    refine ⟨by simp [tinyAll, tiny, hl, a], ?_, by simp [PyData.depthAll, PyData.depth, c]⟩
    simp only [List.map_cons, nodesAll, nodes, b, List.length_cons]
    omega
theorem tiny_row (f : Nat → Int) (n : Nat) (h : ∀ q, (f q).natAbs < 2 ^ 200) : tiny (.tuple ((List.range n).map fun q => .int (f q))) = true ∧
    nodes (.tuple ((List.range n).map fun q => .int (f q))) = n + 1 ∧ (PyData.tuple ((List.range n).map fun q => .int (f q))).depth = 1 := by
  rw [ints_row]
  obtain ⟨a, b, c⟩ := tiny_ints ((List.range n).map f) fun m hm => by
    obtain ⟨q, _, rfl⟩ := List.mem_map.mp hm
    exact h q
  refine ⟨by simp only [tiny, a], ?_, by simp only [PyData.depth, c]⟩
  simp only [nodes, b, List.length_map, List.length_range]
theorem show_lot (ks : List Nat) (h : ∀ k ∈ ks, k < 100000) (hl : ks.length ≤ 1000) : Show (lotD ks) := by
  have e : lotD ks = .tuple ((ks.map fun (k : Nat) => (k : Int)).map PyData.int) := by unfold lotD; rw [List.map_map]; rfl
  obtain ⟨a, b, c⟩ := tiny_ints (ks.map fun (k : Nat) => (k : Int)) fun m hm => by
    obtain ⟨q, hq, rfl⟩ := List.mem_map.mp hm
    have := h q hq
    have e2 : ((q : Int)).natAbs = q := by omega
    rw [e2]
    exact Nat.lt_of_lt_of_le this (by decide)
  rw [e]
  refine show_of (by simp only [tiny, a]) (by simp only [PyData.depth, c]; decide) ?_
  simp only [nodes, b, List.length_map]
  omega
theorem entry_small (ts : List Tie) (hl : ts.length ≤ 100000) (p q : Nat) : (entry ts p q).natAbs < 2 ^ 200 := by
  have h1 := List.countP_le_length (p := meets p) (l := ts)
  have h2 := List.countP_le_length (p := joins p q) (l := ts)
  have : (entry ts p q).natAbs ≤ 100000 := by
    unfold entry
    split <;> omega
  exact Nat.lt_of_le_of_lt this (by decide)
theorem tiny_rows (ts : List Tie) (n : Nat) (hl : ts.length ≤ 100000) : ∀ l : List Nat, tinyAll (l.map (rowD ts n)) = true ∧ nodesAll (l.map (rowD ts n)) = l.length * (n + 1) ∧ PyData.depthAll (l.map (rowD ts n)) ≤ 1
  | [] => by simp [tinyAll, nodesAll, PyData.depthAll]
  | p :: l => by
    obtain ⟨a, b, c⟩ := tiny_rows ts n hl l
    obtain ⟨a1, b1, c1⟩ := tiny_row (entry ts p) n fun q => entry_small ts hl p q
    refine ⟨?_, ?_, ?_⟩
    · simp only [List.map_cons, tinyAll, a, Bool.and_true]
      exact a1
    · simp only [List.map_cons, nodesAll, b, List.length_cons]
      have : nodes (rowD ts n p) = n + 1 := b1
      rw [this, Nat.succ_mul]
      omega
    · simp only [List.map_cons, PyData.depthAll]
      have : (rowD ts n p).depth = 1 := c1
      omega
theorem show_mat (n : Nat) (ts : List Tie) (hl : ts.length ≤ 100000) (hn : n ≤ 100) : Show (matD n ts) := by
  obtain ⟨a, b, c⟩ := tiny_rows ts n hl (List.range n)
  refine show_of (by simp [matD, tiny, a]) (by simp only [matD, PyData.depth]; omega) ?_
  simp only [matD, nodes, b, List.length_range]
  have := Nat.mul_le_mul hn (Nat.add_le_add_right hn 1)
  omega
theorem tiny_ties : ∀ ts : List Tie, (∀ t ∈ ts, t.1 < 100000 ∧ t.2 < 100000) → tinyAll (ts.map tieD) = true ∧ nodesAll (ts.map tieD) = 3 * ts.length ∧ PyData.depthAll (ts.map tieD) ≤ 1
  | [], _ => by simp [tinyAll, nodesAll, PyData.depthAll]
  | t :: ts, h => by
    obtain ⟨a, b, c⟩ := tiny_ties ts fun m hm => h m (List.mem_cons_of_mem _ hm)
    have ht := h t (List.mem_cons_self ..)
    obtain ⟨a1, b1, c1⟩ := tiny_ints [(t.1 : Int), (t.2 : Int)] fun m hm => by
      have e1 : (2 : Nat) ^ 200 > 100000 := by decide
      rcases List.mem_cons.mp hm with rfl | hm
      · omega
      · obtain rfl := List.mem_singleton.mp hm
        omega
    have e : tieD t = .tuple ([(t.1 : Int), (t.2 : Int)].map PyData.int) := rfl
    refine ⟨?_, ?_, ?_⟩
    · simp only [List.map_cons, tinyAll, a, Bool.and_true]
      rw [e]
      simp only [tiny]
      exact a1
    · have e2 : nodes (tieD t) = 3 := by
        rw [e]
        simp only [nodes, b1]
        rfl
      simp only [List.map_cons, nodesAll, b, e2, List.length_cons]
      omega
    · have e3 : (tieD t).depth = 1 := by
        rw [e]
        simp only [PyData.depth, c1]
      simp only [List.map_cons, PyData.depthAll, e3]
      omega
theorem show_web (n : Nat) (ts : List Tie) (h : ∀ t ∈ ts, t.1 < 100000 ∧ t.2 < 100000) (hn : n < 100000) (hl : ts.length ≤ 4000) : Show (webD n ts) := by
  obtain ⟨a, b, c⟩ := tiny_ties ts h
  have e : ((n : Int)).natAbs.log2 < 300 := by
    have : ((n : Int)).natAbs < 2 ^ 200 := Nat.lt_of_lt_of_le (show ((n : Int)).natAbs < 100000 by omega) (by decide)
    exact Nat.lt_of_lt_of_le (PySem.Flt.log2_lt_of (by decide) this) (by decide)
  refine show_of ?_ ?_ ?_
  · simp only [webD, tiesD, tiny, tinyAll, a, decide_eq_true e, Bool.and_self]
  · simp only [webD, tiesD, PyData.depth, PyData.depthAll]
    omega
  · simp only [webD, tiesD, nodes, nodesAll, b]
    omega

/-! ### the numbers of the ties at a place, by a comprehension -/
theorem lc_hits {K : PySem.W.Frag} {te : TE} {σ : L2.St} {H : Hp} {c : Addr} {ys : List V} {ts : List Tie} {p ik ie ip : Nat} {Q : VK}
    (hc : SqT K H c ys) (hys : DpAll K H ys (ts.map tieD)) (hl : ts.length ≤ 3000) (hte : ∀ Q : VK, Q (.ref c) H → te σ H Q)
    (hw : ∀ v u, wipe (((wipe σ [ik, ie]).set ik v).set ie u) [ik, ie] = wipe σ [ik, ie])
    (hk : ∀ v u, (((wipe σ [ik, ie]).set ik v).set ie u)[ik]? = some v) (he : ∀ v u, (((wipe σ [ik, ie]).set ik v).set ie u)[ie]? = some u)
    (hp : ∀ v u, (((wipe σ [ik, ie]).set ik v).set ie u)[ip]? = some (some (.int (p : Int))))
    (h : ∀ D H', H' D = some (.lst ((tiesAt ts p).map fun (k : Nat) => V.int k)) → Same H H' → H D = none → Q (.ref D) H') :
    tLc (iEnumT K (tCons te tNil)) (gTup K 2 (gCons (gName ik) (gCons (gName ie) gNil))) (tTest (tOp (rIn K false) (tVar ip) (tVar ie))) (tVar ik) [ik, ie] σ H Q := by
  have hyl : ys.length = ts.length := by rw [dpAll_len hys, List.length_map]
  refine hte _ ?_
  refine ⟨c, ys, rfl, hc, fun D hD => ?_⟩
  refine lc_run walk_enumT hD (fun i acc _ => acc = ((List.range i).filter (hit ts p)).map fun (k : Nat) => V.int k) ?_ ?_ ?_ ?_
  · exact fun H' s => sqT_same s hc
  · rfl
  · rintro i x acc H2 H' hi hacc e s r ⟨q, u, y, rfl, hq, rfl, hu, hy⟩
    cases hu
    obtain ⟨d, hd, hv⟩ := dpAll_get hys hy
    obtain ⟨t', ht', rfl⟩ := get_map hd
    have sq : Same H2 (upd H2 q (.tup [.int (i : Nat), y])) := same_new hq
    obtain ⟨pa, rfl, hpa⟩ := dp_tie (dp_same (s.trans sq) _ hv)
    refine ⟨q, _, rfl, SqT.of upd_same, rfl, _, _, rfl, _, _, rfl, rfl, hw _ _, ?_⟩
    refine ⟨_, hp _ _, _, he _ _, pa, _, rfl, .inr hpa, rfl, rfl, _, rfl, ?_⟩
    show (if inV (.int (p : Int)) [.int t'.1, .int t'.2] = true then _ else _)
    have hacc2 : ((List.range i).filter (hit ts p)).length ≤ i := Nat.le_trans (List.length_filter_le _ _) (by rw [List.length_range]; exact Nat.le_refl _)
    have hin : inV (.int (p : Int)) [.int t'.1, .int t'.2] = hit ts p i := by rw [inv_tie, hit_at ht']
    have r' : acc = ((List.range i).filter (hit ts p)).map fun (k : Nat) => V.int k := r
    rw [hin]
    refine ite2 (fun hh => ?_) (fun hh => ?_)
    · refine ⟨_, hk _ _, ?_⟩
      refine lc_add hacc e sq (by rw [r', List.length_map]; omega) ?_
      rw [range_filter_succ, if_pos hh, List.map_append, r']
      rfl
    · refine lc_skip hacc e sq ?_
      rw [range_filter_succ, if_neg hh, List.append_nil]
      exact r'
  · rintro acc H2 h1 s2 r
    have r' : acc = ((List.range ys.length).filter (hit ts p)).map fun (k : Nat) => V.int k := r
    rw [hyl] at r'
    refine h D H2 ?_ s2 hD
    rw [h1, r']
    rfl
theorem dp_lot {K : PySem.W.Frag} {H : Hp} {u : Addr} {ks : List Nat} (h : H u = some (.tup (ks.map fun (k : Nat) => V.int k))) : Dp K H (.ref u) (lotD ks) := by
  refine .tup (SqT.of h) ?_
  have e2 : (ks.map fun (k : Nat) => PyData.int k) = (ks.map fun (k : Nat) => (k : Int)).map PyData.int := by rw [List.map_map]; rfl
  have e3 : (ks.map fun (k : Nat) => V.int k) = (ks.map fun (k : Nat) => (k : Int)).map V.int := by rw [List.map_map]; rfl
  rw [e2, e3]
  exact dpAll_ints _
/-- the equal ones counted by a comprehension of ones -/
theorem lc_pairs {K : PySem.W.Frag} {tp : TE} {σ : L2.St} {H : Hp} {c : Addr} {ys : List V} {ts : List Tie} {x y ic ie : Nat} {Q : VK}
    (hc : SqT K H c ys) (hys : DpAll K H ys (ts.map tieD)) (hl : ts.length ≤ 3000) (hcs : σ[ic]? = some (some (.ref c)))
    (hw : ∀ u, wipe ((wipe σ [ie]).set ie u) [ie] = wipe σ [ie]) (he : ∀ u, ((wipe σ [ie]).set ie u)[ie]? = some u)
    (htp : ∀ u H' (Q : VK), (∀ p, H' p = none → Q (.ref p) (upd H' p (.tup [.int (x : Int), .int (y : Int)]))) → tp ((wipe σ [ie]).set ie u) H' Q)
    (h : ∀ D H', H' D = some (.lst (List.replicate (ts.countP fun t => decide (t = (x, y))) (V.int 1))) → Same H H' → H D = none → Q (.ref D) H') :
    tLc (iTup K (tVar ic)) (gName ie) (tTest (tOp (rEqD K) (tVar ie) tp)) (tC (.int 1)) [ie] σ H Q := by
  have hyl : ys.length = ts.length := by rw [dpAll_len hys, List.length_map]
  refine ⟨_, hcs, c, rfl, ⟨ys, hc⟩, fun D hD => ?_⟩
  refine lc_run (walk_tup (xs := ys)) hD (fun i acc _ => acc = List.replicate ((ts.take i).countP fun t => decide (t = (x, y))) (V.int 1)) ?_ ?_ ?_ ?_
  · exact fun H' s => sqT_same s hc
  · rfl
  · rintro i v acc H2 H' hi hacc e s r ⟨rfl, hv⟩
    obtain ⟨d, hd, hdp⟩ := dpAll_get hys hv
    obtain ⟨t, ht, rfl⟩ := get_map hd
    refine ⟨hw _, ?_⟩
    refine ⟨_, he _, htp _ _ _ fun q hq => ?_⟩
    have sq : Same H' (upd H' q (.tup [.int (x : Int), .int (y : Int)])) := same_new hq
    have s1 : SeqAt.shaped (tieD t) = true := by simp [SeqAt.shaped, tieD, PyData.canLay0, PyData.canLayAll0, PyData.depth, PyData.depthAll]
    have s2 : SeqAt.shaped (tieD (x, y)) = true := by simp [SeqAt.shaped, tieD, PyData.canLay0, PyData.canLayAll0, PyData.depth, PyData.depthAll]
    refine ⟨tieD t, tieD (x, y), dp_same (s.trans sq) _ hdp, .tup (SqT.of upd_same) (.cons (.int _) (.cons (.int _) .nil)), s1, s2, _, rfl, ?_⟩
    have r' : acc = List.replicate ((ts.take i).countP fun t => decide (t = (x, y))) (V.int 1) := r
    have hcl : (ts.take i).countP (fun t => decide (t = (x, y))) ≤ 3000 := Nat.le_trans List.countP_le_length (by rw [List.length_take]; omega)
    have hstep : (ts.take (i + 1)).countP (fun t => decide (t = (x, y))) = (ts.take i).countP (fun t => decide (t = (x, y))) + if t = (x, y) then 1 else 0 := by
      rw [List.take_add_one, ht, List.countP_append]
      show _ + List.countP _ [t] = _
      rw [List.countP_singleton]
      simp
    have heq : PyData.eqv (tieD t) (tieD (x, y)) = decide (t = (x, y)) := by
      obtain ⟨a, b⟩ := t
      have e1 : ∀ m n : Nat, (((m : Int)) == ((n : Int))) = decide (m = n) := fun m n => by
        by_cases z : m = n
        · subst z; simp
        · rw [decide_eq_false z]
          exact beq_eq_false_iff_ne.mpr fun w => z (by omega)
      have e2 : decide ((a, b) = (x, y)) = (decide (a = x) && decide (b = y)) := by
        rw [← Bool.decide_and]
        congr 1
        exact propext ⟨fun z => Prod.mk.inj z, fun z => by rw [z.1, z.2]⟩
      rw [e2]
      show (((a : Int) == (x : Int)) && (((b : Int) == (y : Int)) && true)) = _
      rw [e1, e1, Bool.and_true]
    rw [heq]
    refine ite2 (fun hh => ?_) (fun hh => ?_)
    · have hh' := of_decide_eq_true hh
      refine lc_add hacc e sq (by rw [r', List.length_replicate]; omega) ?_
      rw [hstep, if_pos hh', r', List.replicate_succ']
    · have hh' : ¬ t = (x, y) := fun z => hh (decide_eq_true z)
      refine lc_skip hacc e sq ?_
      rw [hstep, if_neg hh', Nat.add_zero]
      exact r'
  · rintro acc H2 h1 s2 r
    have r' : acc = List.replicate ((ts.take ys.length).countP fun t => decide (t = (x, y))) (V.int 1) := r
    rw [hyl, List.take_of_length_le (Nat.le_refl _)] at r'
    exact h D H2 (by rw [h1, r']) s2 hD
end BV

namespace BV
open PySem L2
theorem tupLc_by {K : PySem.W.Frag} {wi : TI} {g : TG} {tt : TT} {te : TE} {vs : List Nat} {σ : L2.St} {H : Hp} {i : Nat} {D : Ends}
    (h : tLc wi g tt te vs σ H (fun x H1 => rTupK K [x] H1 (fun v H2 => D.nx (σ.set i (some v)) H2))) :
    tAsg (tCB (rTupK K) (tCons (tLc wi g tt te vs) tNil)) (gName i) D σ H := h
theorem lenLc_by {K : PySem.W.Frag} {wi : TI} {g : TG} {tt : TT} {te : TE} {vs : List Nat} {σ : L2.St} {H : Hp} {i : Nat} {D : Ends}
    (h : tLc wi g tt te vs σ H (fun x H1 => rLenK K [x] H1 (fun v H2 => D.nx (σ.set i (some v)) H2))) :
    tAsg (tCB (rLenK K) (tCons (tLc wi g tt te vs) tNil)) (gName i) D σ H := h
end BV

namespace BV
open PySem L2
theorem reps (n : Nat) (v : V) : (List.replicate n [v]).flatten = (List.range n).map fun _ => v := by
  induction n with
  | zero => rfl
  | succ n ih =>
    rw [List.replicate_succ', List.flatten_append, ih, List.range_succ, List.map_append]
    rfl
theorem shaped_row (f : Nat → Int) (n : Nat) : SeqAt.shaped (.tuple ((List.range n).map fun q => .int (f q))) = true := by
  rw [ints_row]
  have h1 := lay_ints ((List.range n).map f)
  have h2 := deep_ints ((List.range n).map f)
  have h3 : PyData.depthAll (((List.range n).map f).map PyData.int) + 1 ≤ 64 := by omega
  simp only [SeqAt.shaped, PyData.canLay0, PyData.depth, h1, Bool.true_and]
  exact decide_eq_true h3
theorem dp_row {K : PySem.W.Frag} {H : Hp} {v : V} {f : Nat → Int} {n : Nat} (h : Dp K H v (.tuple ((List.range n).map fun q => .int (f q)))) :
    ∃ a, v = .ref a ∧ SqT K H a ((List.range n).map fun q => V.int (f q)) := by
  obtain ⟨a, xs, e, h1, h2⟩ := dp_tup h
  rw [ints_row] at h2
  rw [ints_rowV, ← dpAll_ints' h2]
  exact ⟨a, e, h1⟩
theorem eqv_self {d : PyData} (h : SeqAt.shaped d = true) : PyData.eqv d d = true := by
  have h1 : d.canLay0 = true := SeqAt.canLay_of_shaped h
  first | exact PySem.eqv_refl d h1 | exact PySem.P3.eqv_refl d h1 | exact PySem.SeqAt.eqv_refl d h1 | exact PyData.eqv_refl d h1
/-- nothing in it: two empty lists -/
theorem none_found {K : PySem.W.Frag} {H : Hp} {a b : Addr} (ha : H a = some (.lst [])) (hb : H b = some (.lst [])) :
    ∃ d e, Dp K H (.ref a) d ∧ Dp K H (.ref b) e ∧ SeqAt.shaped d = true ∧ SeqAt.shaped e = true ∧ PyData.eqv d e = true :=
  ⟨.list [], .list [], .lst (SqL.of ha) .nil, .lst (SqL.of hb) .nil, shaped_intsL [], shaped_intsL [], by rfl⟩
end BV

namespace BV
open PySem PySem.Spec PyProof.Rows L2

/-! ### t * k for k from 1 on: once is the tuple itself -/
theorem mul_once (l : Addr) (items : Array Value) (n : Nat) (dd : Option Addr) (sl : Array (Option Value)) (u : Tok) :
    Meets (Builtin.«tuple.__mul__» ⟨[.ref l, .int 1 u], []⟩) (fun _ R s => s.heap.get? l = some { cls := .type "tuple", dict := dd, data := .seq items n, slots := sl } ∧
      R (.ok (.ret (Value.ref l))) s) := by
  refine .of_wp fun prog w A R s h => ?_
  obtain ⟨hp, g, d, tk, os⟩ := s
  obtain ⟨hl, h⟩ := h
  have f1 := AutoSeq1.idx_int
  have c0 : (decide ((1 : Int) < -(2 ^ 63)) || decide ((1 : Int) ≥ 2 ^ 63)) = false := by decide
  have c1 : (items.isEmpty || (1 : Int) == 1) = true := by simp
  wp_walk using AutoSeq1.wpAny_loadPart' hl
  repeat (first
    | (refine wpAny_ite_false (decide_eq_false (by rw [c0]; exact Bool.false_ne_true)) ?_; wp_walk using AutoSeq1.wpAny_loadPart' hl)
    | (refine wpAny_ite_true (decide_eq_true c1) ?_; wp_walk using AutoSeq1.wpAny_loadPart' hl))
  exact ⟨_, rfl, h⟩
def rRepT1 (K : PySem.W.Frag) : R2 := fun x y H Q => ∃ l k xs, x = .ref l ∧ y = .int k ∧ SqT K H l xs ∧ xs ≠ [] ∧ 1 ≤ k ∧ k ≤ 1000 ∧ xs.length ≤ 1000 ∧
  (k = 1 → Q (.ref l) H) ∧ (2 ≤ k → ∀ p, H p = none → Q (.ref p) (upd H p (.tup (List.replicate k.toNat xs).flatten)))
theorem op_repT1 {X : Cx} (K : PySem.W.Frag) (hK : X.K = K := by rfl) : OpR X (binaryOp .Mult) (rRepT1 K) := by
  subst hK
  intro pins s σ H x y v u Q I rx ry h
  obtain ⟨l, k, xs, rfl, rfl, hT, hne, h1, h2, hz, q1, q2⟩ := h
  by_cases hk : k = 1
  · subst hk
    cases rx
    obtain ⟨t, rfl⟩ := ry
    obtain ⟨its, r, ⟨⟨cls, dd, data, sl⟩, ho, hc, n, hd⟩, hs⟩ := I.tuple hT
    simp only at hc hd
    subst hc hd
    refine wpAny_binaryOp_repeat_ref (T := "tuple") (U := "int") (by decide) ⟨_, ho, rfl⟩ (fun s' => typeIs_int s' 1 t) noFill_tuple_mul F.fills_int_mul F.slot_int_rmul repeat_tuple F.slot_int_index.lookup ?_
    refine call_meets F.slot_int_rmul (typeIs_int s 1 t) F.entry_int_rmul (F.args_int_rmul_2 _ _) (int_rmul_tuple 1 t l its.toArray n dd sl) ⟨ho, rfl, ⟨_, ho, rfl⟩, ?_⟩
    refine call_meets F.slot_tuple_mul ⟨_, ho, rfl⟩ F.entry_tuple_mul (F.args_tuple_mul_2 _ _) (mul_once l its.toArray n dd sl t) ⟨ho, ?_⟩
    exact ⟨.ref l, H, I, rfl, q1 rfl⟩
  · exact op_repT pins s σ H (.ref l) (.int k) v u Q I rx ry ⟨l, k, xs, rfl, rfl, hT, hne, by omega, h2, hz, q2 (by omega)⟩
end BV

namespace BV
open PySem L2
theorem mat_perm {ts us : List Tie} (h : ts.Perm us) (n : Nat) : matD n ts = matD n us := by
  unfold matD rowD
  congr 2
  funext p
  congr 2
  funext q
  rw [entry_perm h]
theorem dpAll_rev {K : PySem.W.Frag} {H : Hp} : ∀ {ds : List PyData} {vs : List V}, DpAll K H vs ds → DpAll K H vs.reverse ds.reverse
  | [], _, h => by cases h; exact .nil
  | d :: ds, _, h => by
    cases h with
    | cons h1 h2 =>
      rw [List.reverse_cons, List.reverse_cons]
      exact dpAll_app (dpAll_rev h2) (.cons h1 .nil)
theorem flat_one (k : Nat) (v : V) : (List.replicate k [v]).flatten = List.replicate k v := by
  induction k with
  | zero => rfl
  | succ k ih =>
    rw [List.replicate_succ, List.flatten_cons, ih, List.replicate_succ]
    rfl
theorem dp_fat {K : PySem.W.Frag} {H : Hp} {z t1 : Addr} {k : Nat} (hz : SqT K H z (List.replicate k (.ref t1))) (ht : SqT K H t1 [.int 0, .int 1]) :
    Dp K H (.ref z) (tiesD (List.replicate k (0, 1))) := by
  refine .tup hz ?_
  clear hz
  induction k with
  | zero => exact .nil
  | succ k ih =>
    rw [List.replicate_succ, List.replicate_succ, List.map_cons]
    exact .cons (.tup ht (.cons (.int _) (.cons (.int _) .nil))) ih
end BV

namespace BV
open PySem L2 RZ

/-! ### further rules that name the written part -/
section
variable {X : Cx} (K : PySem.W.Frag)
theorem slTA (h : X.K = K := by rfl) : SlR X (rSlA K) := by
  subst h
  exact sl_tupA
def rListK (K : PySem.W.Frag) : List V → Hp → VK → Prop := fun xs H Q => ∃ p ys, xs = [.ref p] ∧ (SqL K H p ys ∨ SqT K H p ys) ∧ ∀ l, H l = none → Q (.ref l) (upd H l (.lst ys))
theorem listK (h : X.K = K := by rfl) : CallR X (.type "list") (rListK K) := by
  subst h
  exact call_list_of
theorem revL {e : Expr} {te : TE} {k : Nat} {p1 p2 p3 pos : Pos} (he : PE X e te) (h : X.K = K := by rfl) :
    PE X (.Subscript e (.Slice none none (some (.UnaryOp .USub (.Constant (.int 1) k p1) p2)) p3) pos) (tRevL K te) := by
  subst h
  exact pe_revL he
theorem zipA {e e2 : Expr} {ta : TA} {p pos tpos : Pos} {elts : List Expr} {kk : Nat} (hg : Gl X "zip") (hm : X.mg "zip" = none) (ha : PA X [e, e2] ta)
    (hs : starEach [e, e2] X.env = (false, eval e X.env) :: starEach [e2] X.env := by rfl) (hpl : (backTo pos (starEach [e2] X.env)).any (·.1) = false := by rfl) (h : X.K = K := by rfl) :
    PI X (.Tuple elts kk tpos) (.Call (.Name "zip" p) [e, e2] [] pos) (iZipA K ta) := by
  subst h
  exact pi_zipA hg hm ha hs hpl
theorem rgc {a b c : Expr} {tg : Expr} {ta : TA} {p pos : Pos} (hg : Gl X "range") (hm : X.mg "range" = none) (ha : PA X [a, b, c] ta)
    (hs : starEach [a, b, c] X.env = (false, eval a X.env) :: starEach [b, c] X.env := by rfl) (hpl : (backTo pos (starEach [b, c] X.env)).any (·.1) = false := by rfl) :
    PI X tg (.Call (.Name "range" p) [a, b, c] [] pos) (iRng3 ta) := pi_range3 hg hm ha hs hpl
end
theorem walk_zipT {K : PySem.W.Frag} {a b : Addr} {xs ys : List V} (hl : xs.length = ys.length) :
    Walk (ItzT K a b) xs.length (fun H => SqT K H a xs ∧ SqT K H b ys) (YPair (fun i => xs[i]?) (fun i => ys[i]?)) := by
  refine ⟨fun i H hi q => ?_, fun H q => ⟨xs, ys, q.1, q.2, .inl (Nat.le_refl _)⟩, fun i H v H' _ q y => ?_⟩
  · have h2 : i < ys.length := by omega
    exact ⟨xs, ys, xs[i], ys[i], q.1, q.2, by simp [hi], by simp [h2]⟩
  · obtain ⟨T, x, z, h1, h2, h3, h4, h5⟩ := y
    exact ⟨T, x, z, h1, h2, h3, h4 xs q.1, h5 ys q.2⟩
theorem tAnd_by {ta : TT} {tb : TT} {σ : L2.St} {H : Hp} {Q : Bool → Hp → Prop} (h : tAnd ta tb σ H Q) : tAnd ta tb σ H Q := h

/-! ### numbers on ties -/
def numsD (L : Nat) (f : Nat → Int) : PyData := .tuple ((List.range L).map fun k => .int (f k))
def numsV (L : Nat) (f : Nat → Int) : List V := (List.range L).map fun k => V.int (f k)
theorem dp_nums {K : PySem.W.Frag} {H : Hp} {v : V} {L : Nat} {f : Nat → Int} (h : Dp K H v (numsD L f)) : ∃ a, v = .ref a ∧ SqT K H a (numsV L f) := dp_row h
theorem nums_dp {K : PySem.W.Frag} {H : Hp} {a : Addr} {L : Nat} {f : Nat → Int} (h : SqT K H a (numsV L f)) : Dp K H (.ref a) (numsD L f) := by
  refine .tup h ?_
  unfold numsV
  rw [ints_row, ints_rowV]
  exact dpAll_ints _
theorem numsV_len (L : Nat) (f : Nat → Int) : (numsV L f).length = L := by simp [numsV]
theorem numsV_get {L : Nat} {f : Nat → Int} {k : Nat} (h : k < L) : (numsV L f)[k]? = some (.int (f k)) := by
  unfold numsV
  rw [List.getElem?_map, List.getElem?_range h]
  rfl
theorem numsV_set (L : Nat) (f : Nat → Int) (k : Nat) (z : Int) : (numsV L f).set k (.int z) = numsV L (fun j => if j = k then z else f j) := by
  unfold numsV
  rw [range_set]
  apply List.map_congr_left
  intro j _
  by_cases h : j = k <;> simp [h]
theorem numsV_congr {L : Nat} {f g : Nat → Int} (h : ∀ k, k < L → f k = g k) : numsV L f = numsV L g :=
  List.map_congr_left fun k hk => by rw [h k (List.mem_range.mp hk)]
theorem numsD_congr {L : Nat} {f g : Nat → Int} (h : ∀ k, k < L → f k = g k) : numsD L f = numsD L g := by
  unfold numsD
  congr 1
  exact List.map_congr_left fun k hk => by rw [h k (List.mem_range.mp hk)]
theorem still_nums (L : Nat) (f : Nat → Int) : still (numsD L f) = true := by
  have h := still_ints ((List.range L).map f)
  rw [← ints_row] at h
  simpa [numsD, still] using h

/-! ### deeds -/
inductive Deed where
  | star (p : Nat) (t : Int) | round (ks : List Nat) (t : Int)
namespace Deed
def times : Deed → Int
  | star _ t => t
  | round _ t => t
def about : Deed → PyData
  | star p _ => .int p
  | round ks _ => lotD ks
def word : Deed → Str
  | star _ _ => "star"
  | round _ _ => "round"
def neg : Deed → Deed
  | star p t => star p (-t)
  | round ks t => round ks (-t)
def D (d : Deed) : PyData := .tuple [.str d.word, d.about, .int d.times]
def touch (ts : List Tie) : Deed → Nat → Bool
  | star p _, k => hit ts p k
  | round ks _, k => decide (k ∈ ks)
def part (ts : List Tie) (d : Deed) (k : Nat) : Int := if d.touch ts k = true then d.times else 0
def Ok (ts : List Tie) : Deed → Prop
  | star _ _ => True
  | round ks _ => (∀ k ∈ ks, k < ts.length) ∧ ks.Nodup
end Deed
/-- the numbers behind some deeds -/
def behind (ts : List Tie) (f : Nat → Int) : List Deed → Nat → Int
  | [] => f
  | d :: ds => behind ts (fun k => f k + d.part ts k) ds
def effect (ts : List Tie) (ds : List Deed) (k : Nat) : Int := (ds.map fun d => d.part ts k).sum
theorem behind_eq (ts : List Tie) : ∀ (ds : List Deed) (f : Nat → Int) (k : Nat), behind ts f ds k = f k + effect ts ds k
  | [], f, k => by simp [behind, effect]
  | d :: ds, f, k => by
    rw [behind, behind_eq ts ds]
    simp only [effect, List.map_cons, List.sum_cons]
    omega
theorem effect_perm {ts : List Tie} {ds es : List Deed} (h : ds.Perm es) (k : Nat) : effect ts ds k = effect ts es k := by
  induction h with
  | nil => rfl
  | cons d _ ih =>
    unfold effect at ih ⊢
    simp only [List.map_cons, List.sum_cons, ih]
  | swap a b l =>
    unfold effect
    simp only [List.map_cons, List.sum_cons]
    omega
  | trans _ _ ih1 ih2 => rw [ih1, ih2]
theorem effect_app (ts : List Tie) (ds es : List Deed) (k : Nat) : effect ts (ds ++ es) k = effect ts ds k + effect ts es k := by
  unfold effect
  rw [List.map_append, List.sum_append]
theorem touch_neg (ts : List Tie) (d : Deed) (k : Nat) : d.neg.touch ts k = d.touch ts k := by cases d <;> rfl
theorem part_neg (ts : List Tie) (d : Deed) (k : Nat) : d.neg.part ts k = -(d.part ts k) := by
  unfold Deed.part
  rw [touch_neg]
  split
  · cases d <;> rfl
  · rfl
theorem effect_neg (ts : List Tie) : ∀ (ds : List Deed) (k : Nat), effect ts (ds.map Deed.neg) k = -(effect ts ds k)
  | [], k => rfl
  | d :: ds, k => by
    have := effect_neg ts ds k
    unfold effect at this ⊢
    simp only [List.map_cons, List.sum_cons, this, part_neg]
    omega
theorem still_deed (d : Deed) : still d.D = true := by
  cases d with
  | star p t => simp [Deed.D, Deed.about, still, stillAll]
  | round ks t =>
    have h : stillAll (ks.map fun (k : Nat) => PyData.int k) = true := by
      have e : (ks.map fun (k : Nat) => PyData.int k) = (ks.map fun (k : Nat) => (k : Int)).map PyData.int := by rw [List.map_map]; rfl
      rw [e]
      exact still_ints _
    simp [Deed.D, Deed.about, still, stillAll, lotD, h]
theorem still_deeds : ∀ ds : List Deed, stillAll (ds.map Deed.D) = true
  | [] => by simp [stillAll]
  | d :: ds => by simp [stillAll, still_deed, still_deeds ds]
theorem still_lot (ks : List Nat) : still (lotD ks) = true := by
  have e : (ks.map fun (k : Nat) => PyData.int k) = (ks.map fun (k : Nat) => (k : Int)).map PyData.int := by rw [List.map_map]; rfl
  simp only [lotD, still, e]
  exact still_ints _
theorem dp_deed {K : PySem.W.Frag} {H : Hp} {v : V} {d : Deed} (h : Dp K H v d.D) :
    ∃ a va, v = .ref a ∧ SqT K H a [.str d.word, va, .int d.times] ∧ Dp K H va d.about := by
  obtain ⟨a, xs, e, h1, h2⟩ := dp_tup h
  cases h2 with
  | cons q1 q2 =>
    cases q1
    cases q2 with
    | cons q3 q4 =>
      cases q4 with
      | cons q5 q6 =>
        cases q5
        cases q6
        exact ⟨a, _, e, h1, q3⟩
theorem dp_lotI {K : PySem.W.Frag} {H : Hp} {v : V} {ks : List Nat} (h : Dp K H v (lotD ks)) : ∃ a, v = .ref a ∧ SqT K H a (ks.map fun (k : Nat) => V.int k) := by
  obtain ⟨a, xs, e, h1, h2⟩ := dp_tup h
  have e2 : (ks.map fun (k : Nat) => PyData.int k) = (ks.map fun (k : Nat) => (k : Int)).map PyData.int := by rw [List.map_map]; rfl
  have e3 : (ks.map fun (k : Nat) => V.int k) = (ks.map fun (k : Nat) => (k : Int)).map V.int := by rw [List.map_map]; rfl
  rw [e2] at h2
  rw [e3, ← dpAll_ints' h2]
  exact ⟨a, e, h1⟩
def spDo (K : PySem.W.Frag) : Sp := fun vs H Q _ => ∃ (v dv : V) (l : Addr) (n : Nat) (ts : List Tie) (d : Deed) (f : Nat → Int), vs = [v, .ref l, dv] ∧
  Dp K H v (webD n ts) ∧ Dp K H dv d.D ∧ d.Ok ts ∧ ts.length ≤ 3000 ∧ H l = some (.lst (numsV ts.length f)) ∧
  ∀ H', Kp l l H H' → H' l = some (.lst (numsV ts.length fun k => f k + d.part ts k)) → Q .non H'
def spDone (K : PySem.W.Frag) : Sp := fun vs H Q _ => ∃ (v sv dv : V) (n : Nat) (ts : List Tie) (f : Nat → Int) (ds : List Deed), vs = [v, sv, dv] ∧
  Dp K H v (webD n ts) ∧ Dp K H sv (numsD ts.length f) ∧ Dp K H dv (.tuple (ds.map Deed.D)) ∧ (∀ d ∈ ds, d.Ok ts) ∧ ts.length ≤ 3000 ∧
  ∀ u H', Same H H' → Dp K H' u (numsD ts.length (behind ts f ds)) → Q u H'
def spUndone (K : PySem.W.Frag) : Sp := fun vs H Q _ => ∃ (dv : V) (ds : List Deed), vs = [dv] ∧ Dp K H dv (.tuple (ds.map Deed.D)) ∧ ds.length ≤ 3000 ∧
  ∀ u H', Same H H' → Dp K H' u (.tuple ((ds.reverse.map Deed.neg).map Deed.D)) → Q u H'
def spDiff (K : PySem.W.Frag) : Sp := fun vs H Q _ => ∃ (v u : V) (L : Nat) (f g : Nat → Int), vs = [v, u] ∧ Dp K H v (numsD L f) ∧ Dp K H u (numsD L g) ∧ L ≤ 3000 ∧
  ∀ z H', Same H H' → Dp K H' z (numsD L fun k => g k - f k) → Q z H'
end BV

namespace BV
open PySem L2
/-! ### small data, that may be written as a text -/
structure Sm (d : PyData) (c k : Nat) : Prop where
  t : tiny d = true
  n : nodes d ≤ c
  p : d.depth ≤ k
theorem Sm.mono {d : PyData} {c k c' k' : Nat} (h : Sm d c k) (h1 : c ≤ c') (h2 : k ≤ k') : Sm d c' k' := ⟨h.t, Nat.le_trans h.n h1, Nat.le_trans h.p h2⟩
theorem sm_all {c k : Nat} : ∀ ds : List PyData, (∀ d ∈ ds, Sm d c k) → tinyAll ds = true ∧ nodesAll ds ≤ ds.length * c ∧ PyData.depthAll ds ≤ k
  | [], _ => by simp [tinyAll, nodesAll, PyData.depthAll]
  | d :: ds, h => by
    obtain ⟨a, b, e⟩ := sm_all ds fun m hm => h m (List.mem_cons_of_mem _ hm)
    obtain ⟨a1, b1, e1⟩ := h d (List.mem_cons_self ..)
    refine ⟨by simp only [tinyAll, a, a1, Bool.and_self], ?_, ?_⟩
    · simp only [nodesAll, List.length_cons]
      rw [Nat.succ_mul]
      omega
    · simp only [PyData.depthAll]
      omega
theorem sm_tup {ds : List PyData} {c k : Nat} (h : ∀ d ∈ ds, Sm d c k) : Sm (.tuple ds) (ds.length * c + 1) (k + 1) := by
  obtain ⟨a, b, e⟩ := sm_all ds h
  refine ⟨by simpa only [tiny] using a, by simp only [nodes]; omega, by simp only [PyData.depth]; omega⟩
theorem sm_lst {ds : List PyData} {c k : Nat} (h : ∀ d ∈ ds, Sm d c k) : Sm (.list ds) (ds.length * c + 1) (k + 1) := by
  obtain ⟨a, b, e⟩ := sm_all ds h
  refine ⟨by simpa only [tiny] using a, by simp only [nodes]; omega, by simp only [PyData.depth]; omega⟩
theorem sm_show {d : PyData} {c k : Nat} (h : Sm d c k) (hc : c ≤ 15000) (hk : k ≤ 40) : Show d := show_of h.t (Nat.le_trans h.p hk) (Nat.le_trans h.n hc)
theorem sm_int {z : Int} (h : z.natAbs < 2 ^ 200) : Sm (.int z) 1 0 := by
  have hl : z.natAbs.log2 < 300 := Nat.lt_of_lt_of_le (PySem.Flt.log2_lt_of (by decide) h) (by decide)
  exact ⟨by simp only [tiny, hl, decide_true], by simp only [nodes]; exact Nat.le_refl _, by simp only [PyData.depth]; exact Nat.le_refl _⟩
theorem sm_nat {k : Nat} (h : k < 100000) : Sm (.int (k : Int)) 1 0 := sm_int (Nat.lt_of_lt_of_le (show ((k : Int)).natAbs < 100000 by omega) (by decide))
theorem sm_lot {ks : List Nat} (h : ∀ k ∈ ks, k < 100000) : Sm (lotD ks) (ks.length + 1) 1 := by
  have := sm_tup (ds := ks.map fun (k : Nat) => PyData.int k) (c := 1) (k := 0) fun d hd => by
    obtain ⟨k, hk, rfl⟩ := List.mem_map.mp hd
    exact sm_nat (h k hk)
  rw [List.length_map, Nat.mul_one] at this
  exact this
theorem sm_nums {L : Nat} {f : Nat → Int} (h : ∀ k, (f k).natAbs < 2 ^ 200) : Sm (numsD L f) (L + 1) 1 := by
  have := sm_tup (ds := (List.range L).map fun k => PyData.int (f k)) (c := 1) (k := 0) fun d hd => by
    obtain ⟨k, hk, rfl⟩ := List.mem_map.mp hd
    exact sm_int (h k)
  rw [List.length_map, List.length_range, Nat.mul_one] at this
  exact this
theorem sm_tie {t : Tie} (h : t.1 < 100000 ∧ t.2 < 100000) : Sm (tieD t) 3 1 :=
  sm_tup (ds := [.int t.1, .int t.2]) (c := 1) (k := 0) fun d hd => by
    rcases List.mem_cons.mp hd with rfl | hd
    · exact sm_nat h.1
    · obtain rfl := List.mem_singleton.mp hd
      exact sm_nat h.2
theorem sm_web {n : Nat} {ts : List Tie} (h : ∀ t ∈ ts, t.1 < 100000 ∧ t.2 < 100000) (hn : n < 100000) : Sm (webD n ts) (6 * ts.length + 3) 3 := by
  have h1 : Sm (tiesD ts) (ts.length * 3 + 1) 2 := by
    have := sm_tup (ds := ts.map tieD) (c := 3) (k := 1) fun d hd => by
      obtain ⟨k, hk, rfl⟩ := List.mem_map.mp hd
      exact sm_tie (h k hk)
    rw [List.length_map] at this
    exact this
  have h2 := sm_tup (ds := [.int n, tiesD ts]) (c := ts.length * 3 + 1) (k := 2) fun d hd => by
    rcases List.mem_cons.mp hd with rfl | hd
    · exact (sm_nat hn).mono (by omega) (by omega)
    · obtain rfl := List.mem_singleton.mp hd
      exact h1
  exact h2.mono (by show 2 * (ts.length * 3 + 1) + 1 ≤ _; omega) (Nat.le_refl _)
theorem sm_deed {d : Deed} {m : Nat} (h1 : d.times.natAbs < 2 ^ 200) (h2 : Sm d.about m 1) (hm : 1 ≤ m) : Sm d.D (3 * m + 1) 2 := by
  refine sm_tup (ds := [.str d.word, d.about, .int d.times]) (c := m) (k := 1) fun e he => ?_
  rcases List.mem_cons.mp he with rfl | he
  · refine ⟨?_, by simp only [nodes]; exact hm, by simp only [PyData.depth]; omega⟩
    cases d with
    | star p t => show tiny (.str "star") = true; decide
    | round ks t => show tiny (.str "round") = true; decide
  · rcases List.mem_cons.mp he with rfl | he
    · exact h2
    · obtain rfl := List.mem_singleton.mp he
      exact (sm_int h1).mono hm (by omega)
theorem sm_deeds {ds : List Deed} {m : Nat} (h : ∀ d ∈ ds, d.times.natAbs < 2 ^ 200 ∧ Sm d.about m 1) (hm : 1 ≤ m) : Sm (.tuple (ds.map Deed.D)) (ds.length * (3 * m + 1) + 1) 3 := by
  have := sm_tup (ds := ds.map Deed.D) (c := 3 * m + 1) (k := 2) fun e he => by
    obtain ⟨d, hd, rfl⟩ := List.mem_map.mp he
    exact sm_deed (h d hd).1 (h d hd).2 hm
  rw [List.length_map] at this
  exact this
/-- how much some deeds can do -/
theorem effect_abs {ts : List Tie} {B : Nat} : ∀ (ds : List Deed) (k : Nat), (∀ d ∈ ds, d.times.natAbs ≤ B) → (effect ts ds k).natAbs ≤ ds.length * B
  | [], k, _ => by simp [effect]
  | d :: ds, k, h => by
    have ih := effect_abs (ts := ts) ds k fun m hm => h m (List.mem_cons_of_mem _ hm)
    have hd := h d (List.mem_cons_self ..)
    have hp : (d.part ts k).natAbs ≤ B := by
      unfold Deed.part
      split
      · exact hd
      · simp
    unfold effect at ih ⊢
    simp only [List.map_cons, List.sum_cons, List.length_cons]
    rw [Nat.succ_mul]
    omega
theorem behind_abs {ts : List Tie} {B M : Nat} {f : Nat → Int} (ds : List Deed) (k : Nat) (h : ∀ d ∈ ds, d.times.natAbs ≤ B) (hf : ∀ k, (f k).natAbs ≤ M) :
    (behind ts f ds k).natAbs ≤ M + ds.length * B := by
  rw [behind_eq]
  have h1 := effect_abs (ts := ts) ds k h
  have h2 := hf k
  omega
theorem neg_neg (d : Deed) : d.neg.neg = d := by
  cases d <;> simp [Deed.neg]
theorem map_neg_neg (ds : List Deed) : (ds.map Deed.neg).map Deed.neg = ds := by
  rw [List.map_map]
  have : Deed.neg ∘ Deed.neg = id := funext neg_neg
  rw [this, List.map_id]
end BV
namespace BV
open PySem L2
theorem atI_last {xs : List V} {v : V} (h0 : 0 < xs.length) (h : xs[xs.length - 1]? = some v) : atI xs (-1) = some v := by
  have e : ixN xs.length (-1) = some (xs.length - 1) := by
    unfold ixN
    rw [if_neg (by omega), if_pos (by omega)]
    congr 1
    omega
  unfold atI
  rw [e]
  exact h
end BV
namespace BV
open PySem L2
theorem dpAll_take {K : PySem.W.Frag} {H : Hp} : ∀ {ds : List PyData} {vs : List V} (j : Nat), DpAll K H vs ds → DpAll K H (vs.take j) (ds.take j)
  | [], _, j, h => by cases h; simpa using DpAll.nil
  | d :: ds, _, 0, h => .nil
  | d :: ds, _, j + 1, h => by
    cases h with
    | cons h1 h2 => exact .cons h1 (dpAll_take j h2)
theorem dpAll_drop {K : PySem.W.Frag} {H : Hp} : ∀ {ds : List PyData} {vs : List V} (j : Nat), DpAll K H vs ds → DpAll K H (vs.drop j) (ds.drop j)
  | [], _, j, h => by cases h; simpa using DpAll.nil
  | d :: ds, _, 0, h => h
  | d :: ds, _, j + 1, h => by
    cases h with
    | cons h1 h2 => exact dpAll_drop j h2
theorem sIx_nat (n d j : Nat) : HT.sIx n d (some (j : Int)) = min j n := by
  unfold HT.sIx
  show (if (j : Int) < 0 then _ else min (j : Int).toNat n) = _
  rw [if_neg (by omega), Int.toNat_natCast]
theorem cut_hi (xs : List V) (j : Nat) : cutV xs none (some (j : Int)) = xs.take j := by
  unfold cutV
  rw [sIx_nat]
  show List.take (min j xs.length - 0) (List.drop 0 xs) = _
  rw [Nat.sub_zero, List.drop_zero]
  by_cases h : j ≤ xs.length
  · rw [Nat.min_eq_left h]
  · rw [Nat.min_eq_right (by omega), List.take_of_length_le (Nat.le_refl _), List.take_of_length_le (by omega)]
theorem cut_lo (xs : List V) (j : Nat) : cutV xs (some (j : Int)) none = xs.drop j := by
  unfold cutV
  rw [sIx_nat]
  show List.take (xs.length - min j xs.length) (List.drop (min j xs.length) xs) = _
  by_cases h : j ≤ xs.length
  · rw [Nat.min_eq_left h]
    exact List.take_of_length_le (by rw [List.length_drop]; exact Nat.le_refl _)
  · rw [Nat.min_eq_right (by omega), List.drop_of_length_le (Nat.le_refl _), List.drop_of_length_le (by omega)]
    simp
theorem at_st {t : TS} {D : Ends} {σ : L2.St} {H : Hp} (σ' : L2.St) (e : σ = σ') (h : t D σ' H) : t D σ H := by
  subst e
  exact h
end BV
namespace BV
open PySem L2
theorem slA_by {K : PySem.W.Frag} {x : V} {lo hi : Option Int} {H : Hp} {Q : VK} {a : Addr} {xs : List V} (hx : x = .ref a) (h : SqT K H a xs)
    (k : ∀ (c : Addr) H', Same H H' → SqT K H' c (cutV xs lo hi) → Q (.ref c) H') : rSlA K x lo hi H Q := by
  refine ⟨a, xs, hx, h, fun z => k _ _ (Same.refl _) ?_, fun _ p hp => k _ _ (same_new hp) (SqT.of upd_same)⟩
  have e : cutV xs lo hi = xs := by
    unfold cutV
    rw [z.1, z.2, List.drop_zero, Nat.sub_zero, List.take_of_length_le (Nat.le_refl _)]
  rw [e]
  exact h
end BV

namespace BV
open PySem PySem.Spec PyProof.Rows L2
theorem cr_minT {X : Cx} (hc : X.calm = true) : CallR X (.builtin "min")
    (fun vs H Q => ∃ (a : Addr) (ns : List Int), vs = [V.ref a] ∧ SqT X.K H a (ns.map V.int) ∧ 0 < ns.length ∧ ∀ m, m ∈ ns → (∀ y ∈ ns, m ≤ y) → Q (.int m) H) := by
  intro pins s σ H vs us Q I r h
  obtain ⟨a, ns, rfl, hs, hpos, q⟩ := h
  obtain ⟨its, rv, hl, _⟩ := I.tuple hs
  rw [Vals.ref1 r]
  have hi := rv.ints
  obtain ⟨xs, e⟩ := hi.allInts.items
  have hn : numsOf (intItems xs).toList = ns := by rw [← e]; exact hi.numsOf
  rw [nums_intItems] at hn
  have hl2 : s.heap.IsTuple a its.toArray := hl
  rw [e] at hl2
  have hd := I.ok.hd hc
  have hsz : ns.length = xs.size := by rw [← hn]; simp
  have alt : a < s.heap.objs.size := by
    obtain ⟨o, h1, _⟩ := hl2
    exact Heap.lt_size h1
  have isz : (intItems xs).size = xs.size := by simp [intItems]
  refine call_min_walk (wpAny_pyIter_tuple hl2 ⟨_, _, _, _, _, _, _, rfl, Walks.tuple ?_ s.heap.objs.size a (Nat.ne_of_lt alt) (intItems xs), ⟨?_, ?_⟩, ?_, ?_, CmpOf.ints_lt (numAt xs) ?_, fun v h' tk hP hk => ?_⟩)
  · exact hd
  · exact ⟨_, Heap.get?_push_size _ rfl, rfl, rfl⟩
  · exact hl2.push _
  · intro b hb
    show b < (s.heap.objs.push _).size
    rw [Array.size_push]
    rcases List.mem_cons.mp hb with rfl | hb
    · exact Nat.lt_succ_self _
    · obtain rfl := List.mem_singleton.mp hb
      exact Nat.lt_succ_of_lt alt
  · rw [isz]
    omega
  · exact fun i v hv => intItems_at hv
  · rw [isz] at hP
    obtain ⟨t, rfl⟩ := intItems_at hP
    obtain ⟨b1, b2⟩ := argBest_lt (numAt xs) (xs.size - 1)
    refine ⟨.int _, H, I.kept fun b o hb => ?_, ⟨_, rfl⟩, ?_⟩
    · exact hk b o (fun z => by
        obtain rfl := List.mem_singleton.mp z
        exact Nat.lt_irrefl _ (Heap.lt_size hb)) (Heap.get?_push_of_some _ hb)
    · have nat : ∀ i, i < xs.size → numAt xs i ∈ ns ∧ True := fun i hi => by
        refine ⟨?_, trivial⟩
        rw [← hn]
        unfold numAt
        rw [Array.getElem?_eq_getElem hi]
        exact List.mem_map.mpr ⟨xs[i], by simp, rfl⟩
      refine q _ (nat _ (by omega)).1 fun y hy => ?_
      rw [← hn] at hy
      obtain ⟨p, hp, rfl⟩ := List.mem_map.mp hy
      obtain ⟨j, hj, rfl⟩ := List.mem_iff_getElem.mp hp
      have hj' : j < xs.size := by simpa using hj
      have := b2 j (by omega)
      have e2 : numAt xs j = (xs.toList[j]).1 := by
        unfold numAt
        rw [Array.getElem?_eq_getElem hj']
        simp
      rw [← e2]
      exact this
end BV
namespace BV
open PySem L2
section
variable {X : Cx} (K : PySem.W.Frag)
def rMinT (K : PySem.W.Frag) : List V → Hp → VK → Prop := fun vs H Q => ∃ (a : Addr) (ns : List Int), vs = [V.ref a] ∧ SqT K H a (ns.map V.int) ∧ 0 < ns.length ∧ ∀ m, m ∈ ns → (∀ y ∈ ns, m ≤ y) → Q (.int m) H
theorem minTK (hc : X.calm = true := by rfl) (h : X.K = K := by rfl) : CallR X (.builtin "min") (rMinT K) := by
  subst h
  exact cr_minT hc
theorem minLK (hc : X.calm = true := by rfl) (h : X.K = K := by rfl) : CallR X (.builtin "min") (rMin K) := by
  subst h
  exact cr_min hc
theorem anyLK (hc : X.calm = true := by rfl) (h : X.K = K := by rfl) : CallR X (.builtin "any") (rAny K) := by
  subst h
  exact cr_any hc
end
end BV

namespace BV
open PySem L2
/-! ### comprehensions that draw -/
theorem era_kp {b g D : Addr} {H H' : Hp} (s : Kp b g H H') : Kp b g (era H D) (era H' D) := fun a o e n1 n2 => by
  by_cases h : a = D
  · subst h
    rw [era_at] at e
    cases e
  · rw [era_ne h] at e ⊢
    exact s _ _ e n1 n2
theorem box_era {b g D : Addr} {H : Hp} (x : Box H b g) (h1 : D ≠ b) (h2 : D ≠ g) : Box (era H D) b g := by
  obtain ⟨⟨st, c, x1⟩, ns, x2, x3⟩ := x
  exact ⟨⟨st, c, by rw [era_ne h1.symm]; exact x1⟩, ns, by rw [era_ne h2.symm]; exact x2, x3⟩
theorem bx_set {b g l : Addr} {H : Hp} {o : HO} (x : Box H b g) (h1 : l ≠ b) (h2 : l ≠ g) : Box (upd H l o) b g := by
  obtain ⟨⟨st, c, x1⟩, ns, x2, x3⟩ := x
  exact ⟨⟨st, c, by rw [upd_ne h1.symm]; exact x1⟩, ns, by rw [upd_ne h2.symm]; exact x2, x3⟩
theorem bx_ne {b g l : Addr} {H : Hp} (x : Box H b g) (h : H l = none) : l ≠ b ∧ l ≠ g := by
  obtain ⟨⟨st, c, x1⟩, ns, x2, x3⟩ := x
  exact ⟨fun e => (by rw [e, x1] at h; cases h), fun e => (by rw [e, x2] at h; cases h)⟩
/-- as LcI, with the box of draws -/
def LcB (b g : Addr) (H1 : Hp) (D : Addr) (R : Nat → List V → Hp → Prop) (i : Nat) (H : Hp) : Prop :=
  ∃ acc, H D = some (.lst acc) ∧ Kp b g H1 (era H D) ∧ Box H b g ∧ R i acc (era H D)
theorem lc_addB {b g : Addr} {H1 H H4 : Hp} {D : Addr} {R : Nat → List V → Hp → Prop} {i : Nat} {acc : List V} {y : V} (nb : D ≠ b) (ng : D ≠ g) (ha : H D = some (.lst acc))
    (e : Kp b g H1 (era H D)) (s : Kp b g H H4) (x : Box H4 b g) (hl : acc.length < 100000) (r : R i (acc ++ [y]) (era H4 D)) :
    ∃ acc, H4 D = some (.lst acc) ∧ acc.length < sizeLine ∧ LcB b g H1 D R i (upd H4 D (.lst (acc ++ [y]))) := by
  refine ⟨acc, s _ _ ha nb ng, Nat.lt_of_lt_of_le hl (by decide), acc ++ [y], upd_same, ?_, bx_set x nb ng, ?_⟩
  · rw [era_upd]
    exact e.trans (era_kp s)
  · rw [era_upd]
    exact r
theorem lc_skipB {b g : Addr} {H1 H H3 : Hp} {D : Addr} {R : Nat → List V → Hp → Prop} {i : Nat} {acc : List V} (nb : D ≠ b) (ng : D ≠ g) (ha : H D = some (.lst acc))
    (e : Kp b g H1 (era H D)) (s : Kp b g H H3) (x : Box H3 b g) (r : R i acc (era H3 D)) : LcB b g H1 D R i H3 :=
  ⟨acc, s _ _ ha nb ng, e.trans (era_kp s), x, r⟩
theorem lc_runB {b g0 : Addr} {J : It} {n : Nat} {G : Hp → Prop} {Y : Nat → Hp → V → Hp → Prop} (w : Walk J n G Y) {g : TG} {tt : TT} {te : TE} {vs : List Nat}
    {σ : L2.St} {H1 : Hp} {D : Addr} {Qd : Hp → Prop} (hD : H1 D = none) (hB : Box H1 b g0) (R : Nat → List V → Hp → Prop)
    (hG : ∀ H, Kp b g0 H1 H → Box H b g0 → G H) (h0 : R 0 [] H1)
    (hs : ∀ i x acc H H', D ≠ b → D ≠ g0 → i < n → H D = some (.lst acc) → Kp b g0 H1 (era H D) → Kp b g0 H1 H → Box H b g0 → R i acc (era H D) → Y i H x H' →
      g x (wipe σ vs) H' fun σ2 H2 => wipe σ2 vs = wipe σ vs ∧ tt σ2 H2 fun t H3 =>
        if t = true then te σ2 H3 fun y H4 => ∃ acc, H4 D = some (.lst acc) ∧ acc.length < sizeLine ∧ LcB b g0 H1 D R (i + 1) (upd H4 D (.lst (acc ++ [y])))
        else LcB b g0 H1 D R (i + 1) H3)
    (hd : ∀ acc H, H D = some (.lst acc) → Kp b g0 H1 H → Box H b g0 → R n acc (era H D) → Qd H) :
    ∃ W : Nat → Nat → Hp → Prop, (∃ m, W 0 m (upd H1 D (.lst []))) ∧ ∀ i m H, W i m H →
      (J.stop i H ∧ Qd H) ∨ (J.go i H ∧ ∃ Nx : Hp → Prop, (∀ H', Nx H' → ∃ m', m' < m ∧ W (i + 1) m' H') ∧
        ∀ x H', J.yld i H x H' → g x (wipe σ vs) H' fun σ2 H2 => wipe σ2 vs = wipe σ vs ∧ tt σ2 H2 fun b H3 =>
        if b = true then te σ2 H3 fun y H4 => ∃ acc, H4 D = some (.lst acc) ∧ acc.length < sizeLine ∧ Nx (upd H4 D (.lst (acc ++ [y]))) else Nx H3) := by
  obtain ⟨nb, ng⟩ := bx_ne hB hD
  have back : ∀ {H : Hp}, Kp b g0 H1 (era H D) → Kp b g0 H1 H := fun e => e.trans (Kp.same era_back)
  refine lc_it w (LcB b g0 H1 D R) ?_ ?_ ?_ ?_
  · exact ⟨[], upd_same, by rw [era_upd, era_none hD]; exact Kp.refl _, bx_set hB nb ng, by rw [era_upd, era_none hD]; exact h0⟩
  · rintro i H _ ⟨acc, _, e, x, _⟩
    exact hG H (back e) x
  · rintro i x acc' H' hi ⟨acc, ha, e, bx, r⟩ y
    exact hs i x acc _ _ nb ng hi ha e (back e) bx r y
  · rintro H ⟨acc, ha, e, bx, r⟩
    exact hd acc H ha (back e) bx r
end BV

namespace BV
open PySem L2
/-! ### data, the empty dict among it -/
def Od (K : PySem.W.Frag) (H : Hp) (x : V) (d : PyData) : Prop := Dp K H x d ∨ (d = .dict [] ∧ ∃ a, x = .ref a ∧ H a = some (.dK []))
theorem Od.same {K : PySem.W.Frag} {H H' : Hp} {x : V} {d : PyData} (s : Same H H') (h : Od K H x d) : Od K H' x d := by
  rcases h with h | ⟨rfl, a, rfl, h⟩
  · exact .inl (dp_same s _ h)
  · exact .inr ⟨rfl, a, rfl, s _ _ h⟩
def tyN : PyData → String
  | .none => "NoneType"
  | .bool _ => "bool"
  | .int _ => "int"
  | .str _ => "str"
  | .list _ => "list"
  | .tuple _ => "tuple"
  | .dict _ => "dict"
theorem sq_list_ty {K : PySem.W.Frag} {H : Hp} {a : Addr} {xs : List V} (h : SqL K H a xs) : TyX K H (.ref a) (.type "list") := by
  rcases h with (h | ⟨o, h⟩) | h
  · exact .base (.lst h)
  · exact .base (.frz h)
  · obtain ⟨o, its, n, h1, h2, _⟩ := h
    exact .kList h1 h2
theorem sq_tup_ty {K : PySem.W.Frag} {H : Hp} {a : Addr} {xs : List V} (h : SqT K H a xs) : TyX K H (.ref a) (.type "tuple") := by
  rcases h with (h | ⟨o, h⟩) | h
  · exact .base (.tup h)
  · exact .fTuple h
  · obtain ⟨o, its, n, h1, h2, _⟩ := h
    exact .kTuple h1 h2
theorem ty_of {K : PySem.W.Frag} {H : Hp} {x : V} {d : PyData} (h : Od K H x d) : TyX K H x (.type (tyN d)) := by
  rcases h with h | ⟨rfl, a, rfl, h⟩
  · cases h with
    | non => exact .base .non
    | bl b => exact .base (.bl b)
    | int i => exact .base (.int i)
    | str s => exact .base (.str s)
    | lst h1 _ => exact sq_list_ty h1
    | tup h1 _ => exact sq_tup_ty h1
  · exact .base (.dK h)
def rIsiD (K : PySem.W.Frag) : List V → Hp → VK → Prop := fun xs H Q => ∃ (x : V) (d : PyData) (T : String) (b : Bool), xs = [x, .ty T] ∧ Od K H x d ∧ kitB (tyN d) T = some b ∧ Q (.bl b) H
theorem isiD {X : Cx} (K : PySem.W.Frag) (h : X.K = K := by rfl) : CallR X (.builtin "isinstance") (rIsiD K) := by
  subst h
  intro pins s σ H vs us Q I r h
  obtain ⟨x, d, T, b, rfl, hd, hk, q⟩ := h
  exact call_isi pins s σ H _ us Q I r ⟨x, _, _, _, b, rfl, .ty T, ty_of hd, kit_ty hk, q⟩
def isTup : PyData → Bool
  | .tuple _ => true
  | _ => false
def isInt : PyData → Bool
  | .int _ => true
  | _ => false
theorem kit_tup (d : PyData) : kitB (tyN d) "tuple" = some (isTup d) := by
  cases d <;> simp only [tyN, isTup] <;> decide +kernel
def isIntB : PyData → Bool
  | .int _ => true
  | .bool _ => true
  | _ => false
def isBool : PyData → Bool
  | .bool _ => true
  | _ => false
theorem kit_int (d : PyData) : kitB (tyN d) "int" = some (isIntB d) := by
  cases d <;> simp only [tyN, isIntB] <;> decide +kernel
theorem kit_bool (d : PyData) : kitB (tyN d) "bool" = some (isBool d) := by
  cases d <;> simp only [tyN, isBool] <;> decide +kernel
end BV

namespace BV
open PySem L2
/-! ### repr of data, the empty dict among it -/
def ShowO (d : PyData) : Prop := Show d ∨ d = .dict []
section
variable {X : Cx}
theorem call_reprO (hgd : X.A.guards = some []) (hu : X.A.units + 64 < cLine) :
    CallR X (.builtin "repr") (fun xs H Q => ∃ (x : V) (d : PyData), xs = [x] ∧ Od X.K H x d ∧ ShowO d ∧ Q (.str d.shown) H) := by
  intro pins s σ H xs us Q I r h
  obtain ⟨x, d, rfl, hd, hs, q⟩ := h
  rcases hd with hd | ⟨rfl, a, rfl, ha⟩
  · rcases hs with hs | rfl
    · exact call_reprD hgd hu pins s σ H _ us Q I r ⟨x, d, rfl, hd, hs, q⟩
    · cases hd
  · rw [Vals.ref1 r]
    have hk := I.hok a _ ha
    unfold ObjOk at hk
    obtain ⟨_, hsys, vs, kv, o, es, ep, h1, h2, h3, h4, h5, h6⟩ := hk
    cases kv
    have he : es.toList = [] := by
      generalize es.toList = l at h5
      cases h5
      rfl
    have rd : Reads s.heap (.ref a) (.dict []) (a :: [] ++ []) := .dict h1 h2.1 h3 (by rw [he]; exact .nil) (by rw [he]; exact .nil)
    refine repr_of_reads' rd (by decide) (fun _ hm => ?_) hgd (by show X.A.units + (PyData.depth (.dict []) + 1) < cLine; have : PyData.depth (.dict []) = 1 := by decide
                                                                  omega) (fun _ _ e => e) (fun h' u tk hk => ?_) (by decide)
    · have : sysModules = a := by simpa using hm
      rw [this] at hsys
      simp at hsys
    · exact ⟨.str _, H, I.kept (t' := tk) hk, ⟨u, rfl⟩, q⟩
end
def rReprO (K : PySem.W.Frag) : List V → Hp → VK → Prop := fun xs H Q => ∃ (x : V) (d : PyData), xs = [x] ∧ Od K H x d ∧ ShowO d ∧ Q (.str d.shown) H
theorem reprO {X : Cx} (K : PySem.W.Frag) (hgd : X.A.guards = some []) (hu : X.A.units + 64 < cLine) (h : X.K = K := by rfl) : CallR X (.builtin "repr") (rReprO K) := by
  subst h
  exact call_reprO hgd hu
end BV

namespace BV
open PySem PyProof.Rows L2
open AutoSeq1 (wpAny_loadPart')
theorem ints_get {items : Array Value} {ns : List Int} (hi : IntsAre items.toList ns) : items.size = ns.length ∧ ∀ (i : Nat) (v : Value), items[i]? = some v → ∃ k t, ns[i]? = some k ∧ v = .int k t := by
  obtain ⟨xs, e⟩ := hi.allInts.items
  have e' : items = intItems xs := by simpa using e
  have hn : numsOf (intItems xs).toList = ns := by
    have := hi.numsOf
    rw [e'] at this
    exact this
  rw [nums_intItems] at hn
  subst e'
  refine ⟨by rw [← hn]; simp [intItems], fun i v hv => ?_⟩
  obtain ⟨t, rfl⟩ := intItems_at hv
  refine ⟨_, t, ?_, rfl⟩
  have hi2 : i < xs.size := by
    obtain ⟨h, _⟩ := Array.getElem?_eq_some_iff.mp hv
    simpa [intItems] using h
  rw [← hn, List.getElem?_map]
  unfold numAt
  rw [Array.getElem?_eq_getElem hi2]
  simp [hi2]
theorem sub_setset : isSubtype (.type "set") (.type "set") = pure true := by first | rfl | decide +kernel
theorem meets_setNew (prog : Program) (w : World) (x : Value) : MeetsIn prog w (Builtin.«set.__new__» ⟨[.type "set", x], []⟩)
    (fun _ R s => R (.ok (.ret (.ref s.heap.objs.size))) { s with heap := s.heap.push { cls := .type "set", data := .set #[] 0 (SetTable.fresh 0 0 !w.params.followText "set-order") } }) := by
  refine .of_wp fun A R s h => ?_
  have hsub := sub_setset
  wp_walk using wpAny_askSetting
  exact ⟨_, rfl, h⟩
theorem init_set {prog : Program} {w : World} {A : Around} {s : Shared} {S l : Addr} {items : Array Value} {led : Bool} (ns : List Int) {R : Fin → Shared → Prop} {E : Value → Shared → Prop}
    (hA : A.handled = none) (hl : s.heap.IsList l items) (hi : IntsAre items.toList ns) (hn : ns.length + 1 < scanBound) (hS : SetR w s.heap S (fun _ => false) 0)
    (h1 : s.heap.get? S = some { cls := .type "set", data := .set #[] 0 (SetTable.fresh 0 0 led) })
    (k : ∀ (s' : Shared) (c : Nat), Moved [S, s.heap.objs.size] (fun a b => b = a) { s with heap := s.heap.push { cls := .type "list_iterator", data := .fields #[.ref l, .int 0 0] } } s' → c ≤ ns.length →
      SetR w s'.heap S (fun j => decide (j ∈ ns)) c → R (.done (.ret .none)) s') :
    wpAny (model prog w) A (Builtin.«set.__init__» ⟨[.ref S, .ref l], []⟩) R E s := by
  obtain ⟨⟨c2, dct2, dt2, sl2⟩, hl1, hl2, n2, hl3⟩ := id hl
  obtain rfl : c2 = .type "list" := hl2
  obtain rfl : dt2 = .seq items n2 := hl3
  obtain ⟨hp, g, d, tk, os⟩ := s
  have hf : (SetTable.fresh 0 0 led).fill = 0 := by rfl
  have h8 : (SetTable.fresh 0 0 led).fits (#[] : Array (Int × Value)).size = true := by cases led <;> decide +kernel
  have hs1 : isSubtype (.type "list") (.type "set") = pure false := by first | rfl | decide +kernel
  have hs2 : isSubtype (.type "list") (.type "frozenset") = pure false := by first | rfl | decide +kernel
  wp_walk using wpAny_setState_of h1 rfl h8, wpAny_loadPart' h1, wpAny_loadPart' hl1, wpAny_pyIter_list hl
  try dsimp only
  wp_walk using wpAny_loadPart' hl1, wpAny_pyIter_list hl, wpAny_runValue
  try dsimp only
  wp_walk using wpAny_loadPart' hl1, wpAny_pyIter_list hl, wpAny_runValue
  obtain ⟨hsz, hget⟩ := ints_get hi
  have hlt : l < hp.objs.size := Heap.lt_size hl1
  have hSt : S < hp.objs.size := Heap.lt_size h1
  have hne : S ≠ l := by
    rintro rfl
    have e := congrArg (Option.map Obj.cls) (h1.symm.trans hl1)
    have e2 : Value.type "set" = Value.type "list" := Option.some.inj e
    exact absurd (Value.type.inj e2) (by decide)
  refine set_update_ints ((Walks.list (A := A.in1) hA hp.objs.size l (Nat.ne_of_lt hlt) items).toS) S ?_ ns hsz hn hget items.size 0 _ (by omega) (Nat.zero_le _) ⟨?_, ?_⟩ ⟨0, Nat.le_refl _, ?_⟩ (fun s' c mv hc hR => ?_)
  · simp only [List.mem_cons, List.not_mem_nil, or_false, not_or]
    exact ⟨Nat.ne_of_lt hSt, hne⟩
  · exact ⟨_, Heap.get?_push_size _ rfl, rfl, rfl⟩
  · exact hl.push _
  · refine (hS.at fun o ho => Heap.get?_push_of_some _ ho).congr fun k => ?_
    simp
  · dsimp only
    wp_walk
    exact k s' c mv (by omega) hR
end BV

namespace BV
open PySem PyProof.Rows L2
section
variable {prog : Program} {w : World} {A : Around} {E : Value → Shared → Prop} {s : Shared}
theorem set_of_list {l : Addr} {items : Array Value} (ns : List Int) {Q : Value → Shared → Prop} (hA : A.handled = none) (hl : s.heap.IsList l items) (hi : IntsAre items.toList ns) (hn : ns.length + 1 < scanBound)
    (k : ∀ (h2 : Heap) (tk c : Nat), SetR w h2 s.heap.objs.size (fun j => decide (j ∈ ns)) c → (∀ b o, s.heap.get? b = some o → h2.get? b = some o) → Q (.ref s.heap.objs.size) { s with heap := h2, toks := tk }) :
    wpAny (model prog w) A (call (.type "set") [.ref l]) Q E s := by
  have m1 := F.called_set.made
  have m2 := F.called_set.sub
  have m3 := F.called_set.notType
  have m4 := F.called_set.canCreate
  have m5 := F.typeCall_set_1 (.ref l)
  have ⟨c0, tl, m6⟩ := F.called_set.mro
  refine wpAny_call (codeAny_of_tree (show wpAny _ _ (callAny (.type "set") _) _ _ _ from ?_))
  refine wpAny_pure (And.intro (Code.quiet_builtin _ (by decide +kernel)) (codeAny_builtin F.entry_type_call ?_))
  rw [Around.under_plain (weight_type_call_type "set" [Value.ref l] []) rfl]
  repeat (any_goals (first | assumption | wp_step))
  -- the new table
  let s1 : Shared := { s with heap := s.heap.push { cls := .type "set", dict := none, data := .set #[] 0 (.fresh 0 0 (!w.params.followText "set-order")) } }
  refine codeAny_mono (L2.code_set_led1 (.ref l) (E := E) (Q₁ := fun x t => x = .ref s.heap.objs.size ∧ t = s1) (And.intro rfl rfl)) fun r t hr => ?_
  match r, hr with
  | .error _, hr => exact hr
  | .ok .next, hr => exact hr.elim
  | .ok .brk, hr => exact hr.elim
  | .ok .cont, hr => exact hr.elim
  | .ok (.ret x), hr =>
    obtain ⟨rfl, rfl⟩ := hr
    have g1 : s1.heap.get? s.heap.objs.size = some { cls := .type "set", dict := none, data := .set #[] 0 (.fresh 0 0 (!w.params.followText "set-order")) } := Heap.get?_push_size _ rfl
    have ty : s1.TypeIs (.ref s.heap.objs.size) "set" := ⟨_, g1, rfl⟩
    have i1 := F.called_set.init.lookup
    have i2 := F.called_set.init.bind (Value.ref s.heap.objs.size)
    repeat (any_goals (first | assumption | wp_step))
    -- what is put in
    refine codeAny_mono (codeAny_call_builtin (R := wants (fun r t => r = .none ∧ ∃ h2 tk c, t = { s with heap := h2, toks := tk } ∧ SetR w h2 s.heap.objs.size (fun j => decide (j ∈ ns)) c ∧
      (∀ b o, s.heap.get? b = some o → h2.get? b = some o)) E) F.called_set.init.plain F.entry_set_init (check_set_init_1 ty ?_)) fun r2 t2 hr2 => ?_
    · refine init_set ns (by simp [hA]) (hl.push _) hi hn ((setR_new_at (ns := ([] : List Int)) g1).congr fun j => by simp) g1 fun t3 c mv hc hS => ?_
      obtain ⟨h3, g3, d3, tk3, os3⟩ := t3
      have e1 : g3 = s.gens := mv.gens
      have e2 : d3 = s.drawn := mv.drawn
      have e3 : os3 = s.os := mv.os
      subst e1 e2 e3
      refine ⟨rfl, h3, tk3, c, rfl, hS, fun b o hb => ?_⟩
      have lt : b < s.heap.objs.size := Heap.lt_size hb
      refine mv.heap b o (fun hm => ?_) (Heap.get?_push_of_some _ (Heap.get?_push_of_some _ hb))
      have z : s1.heap.objs.size = s.heap.objs.size + 1 := Heap.size_push ..
      simp only [List.mem_cons, List.not_mem_nil, or_false] at hm
      rcases hm with q | q
      · exact absurd q (Nat.ne_of_lt lt)
      · exact absurd (q.trans z) (Nat.ne_of_lt (Nat.lt_succ_of_lt lt))
    · match r2, hr2 with
      | .error _, hr2 => exact hr2
      | .ok .next, hr2 => exact hr2.elim
      | .ok .brk, hr2 => exact hr2.elim
      | .ok .cont, hr2 => exact hr2.elim
      | .ok (.ret y), hr2 =>
        obtain ⟨rfl, h2, tk, c, rfl, hS, hk⟩ := hr2
        repeat (any_goals (first | assumption | wp_step))
        exact k _ _ _ hS hk
end
theorem nodup_small : ∀ (L : Nat) (l : List Nat), l.Nodup → (∀ x ∈ l, x < L) → l.length ≤ L
  | 0, l, _, h => by
    cases l with
    | nil => exact Nat.le_refl _
    | cons a r => exact absurd (h a (List.mem_cons_self ..)) (Nat.not_lt_zero _)
  | L + 1, l, hn, h => by
    have h1 := nodup_small L (l.erase L) (hn.erase L) (fun x hx => by
      have h2 := h x (List.mem_of_mem_erase hx)
      have h3 : x ≠ L := fun e => by
        subst e
        exact (List.Nodup.not_mem_erase hn) hx
      omega)
    by_cases e : L ∈ l
    · rw [List.length_erase_of_mem e] at h1
      omega
    · rw [List.erase_of_not_mem e] at h1
      omega
/-- set(l) of whole numbers from 0 to 59 -/
theorem setR_few {w : World} {h : Heap} {a : Addr} {S : Int → Bool} {n : Nat} (R : SetR w h a S n) (hS : ∀ j, S j = true → 0 ≤ j ∧ j < 60) : n < 64 := by
  obtain ⟨o, es, ep, t, ho, hex, hdt, g, nd, hm, hb, hf, hn, hr, hl⟩ := R
  have hk : ∀ x ∈ es.toList.map keyOf, 0 ≤ x ∧ x < 60 := fun x hx => hS x ((hm x).mpr hx)
  have nd2 : ((es.toList.map keyOf).map Int.toNat).Nodup := List.pairwise_map.mpr (nd.imp_of_mem fun {x y} hx hy z e => z (by have a := hk x hx; have b := hk y hy; omega))
  have lt := nodup_small 60 _ nd2 fun x hx => by
    obtain ⟨y, hy, rfl⟩ := List.mem_map.mp hx
    have := hk y hy
    omega
  rw [List.length_map, List.length_map, Array.length_toList] at lt
  omega
def rSetL (w : World) (K : PySem.W.Frag) : List V → Hp → VK → Prop := fun xs H Q => ∃ (l : Addr) (ns : List Int), xs = [V.ref l] ∧ SqL K H l (ns.map V.int) ∧ ns.length ≤ 3000 ∧ (∀ j ∈ ns, 0 ≤ j ∧ j < 60) ∧
  ∀ p n, H p = none → n < 64 → Q (.ref p) (upd H p (SetO w p (fun j => decide (j ∈ ns)) n))
theorem sortedSetK {X : Cx} (w : World) (hc : X.calm = true) (hw : X.w = w := by rfl) : CallR X (.builtin "sorted") (rSortedSet w) := by
  subst hw
  exact cr_sortedSet hc
theorem setLK {X : Cx} (K : PySem.W.Frag) (w : World) (hc : X.calm = true) (h : X.K = K := by rfl) (hw : X.w = w := by rfl) : CallR X (.type "set") (rSetL w K) := by
  subst h hw
  intro pins s σ H xs us Q I r h
  obtain ⟨l, ns, rfl, hl, hn, hj, q⟩ := h
  rw [Vals.ref1 r]
  obtain ⟨its, rv, pl, hz⟩ := I.list hl
  refine set_of_list ns (I.ok.hd hc) pl.isList (by simpa using ints_of_vals rv) (by unfold scanBound; omega) fun h2 tk c hS hk => ?_
  have hf : H s.heap.objs.size = none := I.hok.fresh (Nat.le_refl _)
  exact ⟨.ref _, upd H s.heap.objs.size (SetO X.w s.heap.objs.size (fun j => decide (j ∈ ns)) c), I.turnedNew (t' := tk) (ch := []) (fun b o _ e => hk b o e) (fun _ z => nomatch z) (Nat.le_refl _) (setO_new hS), rfl,
    q _ _ hf (setR_few hS fun j z => hj j (by simpa using z))⟩
end BV

namespace BV
open PySem L2
local macro_rules | `(tactic| walk_at "rd") => `(tactic| (repeat (first | refine ⟨_, rfl, ?_⟩ | refine ⟨_, _, rfl, rfl, ?_⟩ | refine Or.inl ⟨_, rfl, ?_⟩ | refine Or.inr ⟨_, rfl, ?_⟩ | refine ⟨_, _, rfl, ?_⟩)))
def top (i : Nat) : Stmt := PySem.Challenge.pw_botheven_k04_lots_sums_and_cuts.main.body.getD i (.Pass ⟨0, 0, 0, 0⟩)
abbrev sBox : Stmt := top 8
abbrev nBox : List Str := ["_law_script", "_law_marks", "_law_stirred", "_law_mark", "_law_cell"]
theorem scBox : FnScope nBox ["_law_script"] (defScope sBox) := ⟨rfl, rfl, rfl, by decide +kernel, rfl, by decide +kernel, by decide +kernel⟩
section
variable {P : Program} {w : World} {K : PySem.W.Frag} {mg : Str → Option Value} {base : Heap}
theorem ok_box {f : Addr} {fd : FuncData} (D : Df K mg "_law_box" sBox ["_law_script"] f fd) (T : Bl mg) : FnOk P w K mg base CX0 1 f fd ["_law_script"] (spBox K) := by
  refine D.fn.ok scBox (fun vs H Q E h => ?_) (fun cdv A outer s H vs Q E hr h => ?_)
  · obtain ⟨a, ns, rfl, _⟩ := h
    rfl
  · obtain ⟨a, ns, rfl, hS, hlen, k⟩ := h
    have hu := hu_of hr
    have nd := scBox.nd
    refine ⟨_, (pss_cons (ps_par (i := 1) (j := 2) (by rfl) nd rfl rfl (by decide) rfl rfl (pa_cons (pe_lc (own := [("_law_cell", 4)]) (g := gName 4) (tt := tYes) rfl nd (pi_list (pe_slice sl_list (pv 0) po_none (po_some pe_int))) (blkOk_by (own := [("_law_cell", 4)]) (N := nBox) (sc := defScope sBox) (by decide +kernel)) (fun _ _ _ _ _ => (pg_name (i := 4) nd rfl (by first | exact Or.inl rfl | exact Or.inr rfl))) (fun _ _ _ _ _ => pts_nil) (fun _ _ _ _ _ => (pe_op op_add (pe_op op_mul pe_int (pe_callB call_abs (by rfl) T.abs (by decide +kernel) (pa_cons (pv 4) pa_nil))) (pe_callTy call_int1 (by rfl) T.int (by decide +kernel) (pa_cons (pe_cmpR op_lt (pv 4) pe_int (nomark _)) pa_nil))))) (pa_cons (pe_op op_add pe_int (pe_callB call_len_seq (by rfl) T.len PySem.boot_len (pa_cons (pv 0) pa_nil))) pa_nil)) (by rfl))
      (pss_cons (ps_for PassesOwn.never rfl (pi_list (pv 1)) (pg_name (i := 3) nd rfl (by first | exact Or.inl rfl | exact Or.inr rfl)) (pss_one (ps_set (i := 2) nd rfl (by first | exact Or.inl rfl | exact Or.inr rfl) (pe_op op_mod (pe_callTy call_int1 (by rfl) T.int (by decide +kernel) (pa_cons (pe_op op_add (pe_op op_mul (pv 2) pe_int) (pv 3)) pa_nil)) pe_int))))
      (pss_one (ps_ret (pe_disp (pps_cons pe_str (pe_lc (own := [("_law_mark", 3)]) (g := gName 3) rfl nd (pi_list (pv 1)) (blkOk_by (own := [("_law_mark", 3)]) (N := nBox) (sc := defScope sBox) (by decide +kernel)) (fun _ _ _ _ _ => (pg_name (i := 3) nd rfl (by first | exact Or.inl rfl | exact Or.inr rfl))) (fun _ _ _ _ _ => (pts_one (pt_cmpR op_gt (pv 3) (pe_op op_pow pe_int pe_int) (nomark _)))) (fun _ _ _ _ _ => (pv 3))) (pps_cons pe_str (pv 2) (pps_cons pe_str pe_int pps_nil))) (by rfl) (by rfl) (fun z => by cases z) (by decide)))))), ?_⟩
    -- the comprehension over script[:63]
    refine ⟨_, rfl, 63, rfl, a, _, rfl, hS, fun p hp => ?_⟩
    refine ⟨p, rfl, ⟨_, SqL.of upd_same⟩, fun D hD => ?_⟩
    have s1 : Same H (upd H p (.lst (cutV (ns.map V.int) none (some 63)))) := same_new hp
    refine lc_run (walk_list (xs := cutV (ns.map V.int) none (some 63))) hD (fun i acc _ => acc.length = i ∧ ∃ ms : List Int, acc = ms.map V.int) ?_ ?_ ?_ ?_
    · exact fun H' s => SqL.of (s _ _ upd_same)
    · exact ⟨rfl, [], rfl⟩
    · rintro i x acc H2 H' hi ha e s ⟨hl, ms, rfl⟩ ⟨rfl, hx⟩
      obtain ⟨z, rfl⟩ : ∃ z : Int, x = .int z := by
        have h1 : x ∈ cutV (ns.map V.int) none (some 63) := List.mem_of_getElem? hx
        have h2 : x ∈ ns.map V.int := List.mem_of_mem_drop (List.mem_of_mem_take h1)
        obtain ⟨z, _, e⟩ := List.mem_map.mp h2
        exact ⟨z, e.symm⟩
      refine ⟨rfl, yes_go ?_⟩
      walk_at "rd"
      refine ⟨.inl ⟨by decide, by decide⟩, ?_⟩
      walk_at "rd"
      have hms : ms.length = i := by rw [← hl, List.length_map]
      have hb : cutV (ns.map V.int) none (some 63) = ns.map V.int := by
        rw [show cutV (ns.map V.int) none (some 63) = ((ns.map V.int).drop 0).take (min 63 (ns.map V.int).length - 0) from rfl, List.drop_zero, List.take_of_length_le]
        rw [List.length_map]
        omega
      have hi2 : i < 63 := by
        rw [hb, List.length_map] at hi
        omega
      refine lc_add ha e (Same.refl _) (by rw [hl]; omega) ⟨by rw [List.length_append, hl]; rfl, ms ++ [_], by rw [List.map_append]; rfl⟩
    · rintro acc H2 hD2 s2 ⟨hl, ms, rfl⟩
      have hS2 : SqL K H2 a (ns.map V.int) := Same.seq (Same.trans s1 s2) hS
      have hml : ms.length ≤ 63 := by
        have h0 := cutV_length (ns.map V.int) none (some 63)
        rw [List.length_map] at h0 hl
        omega
      walk_at "rd"
      refine ⟨_, _, rfl, .inl hS2, ?_⟩
      walk_at "rd"
      -- the stirring
      refine ⟨⟨_, SqL.of hD2⟩, for_it (walk_list (xs := ms.map V.int)) (fun i σ H' => ∃ (st : Int) (v : Option V),
        σ = [some (.ref a), some (.ref D), some (.int st), v, none] ∧ H' = H2 ∧ 0 ≤ st ∧ st < 2 ^ 33) ?_ ?_ ?_ ?_⟩
      · refine ⟨40961 + ((ns.map V.int).length : Int), none, rfl, rfl, by omega, ?_⟩
        rw [List.length_map]
        omega
      · rintro i σ H' _ ⟨st, v, rfl, rfl, _⟩
        exact SqL.of hD2
      · rintro i x σ H' H'' hi ⟨st, v, rfl, rfl, h0, h1⟩ ⟨rfl, hx⟩
        obtain ⟨z, hz, rfl⟩ := ints_at hx
        walk_at "rd"
        refine ⟨.inl ⟨by omega, by omega⟩, ?_⟩
        walk_at "rd"
        refine ⟨by show (0 : Int) < 4294967291; decide, ?_⟩
        refine ⟨_, some _, rfl, rfl, Int.emod_nonneg _ (by decide), Int.lt_of_lt_of_le (Int.emod_lt_of_pos _ (by decide)) (by decide)⟩
      · rintro σ H' ⟨st, v, rfl, rfl, h0, h1⟩
        intro b hb
        -- the great ones
        have nDb : D ≠ b := ne_of_none hD2 hb
        have hDb : upd H' b (.dK []) D = some (.lst (ms.map V.int)) := by rw [upd_ne nDb]; exact hD2
        have sb : Same H' (upd H' b (.dK [])) := same_new hb
        refine ⟨_, rfl, D, rfl, ⟨_, SqL.of hDb⟩, fun g hg => ?_⟩
        refine lc_run (walk_list (xs := ms.map V.int)) hg (fun i acc _ => acc.length ≤ i ∧ ∃ ms : List Int, acc = ms.map V.int) ?_ ?_ ?_ ?_
        · exact fun H3 s => SqL.of (s _ _ hDb)
        · exact ⟨Nat.le_refl _, [], rfl⟩
        · rintro i x acc H3 H4 hi ha e s3 ⟨hl, ms2, rfl⟩ ⟨rfl, hx⟩
          obtain ⟨z, hz, rfl⟩ := ints_at hx
          rw [List.length_map] at hi
          refine ⟨rfl, ?_⟩
          walk_at "rd"
          refine ⟨⟨by decide, by decide, by decide⟩, ?_⟩
          walk_at "rd"
          refine ite2 (fun _ => ?_) (fun _ => ?_)
          · walk_at "rd"
            refine lc_add ha e (Same.refl _) (by omega) ⟨?_, ms2 ++ [z], by rw [List.map_append]; rfl⟩
            rw [List.length_append]
            exact Nat.succ_le_succ hl
          · exact lc_skip ha e (Same.refl _) ⟨Nat.le_succ_of_le hl, ms2, rfl⟩
        · rintro acc H3 hg3 s3 ⟨hl, ms2, rfl⟩
          rw [List.length_map, List.length_map] at hl
          have hb3 : H3 b = some (.dK []) := s3 _ _ upd_same
          walk_at "rd"
          refine ⟨hb3, boxD g st 0, rfl, by show 3 ≤ 15; decide, ?_⟩
          have hbg : b ≠ g := ne_of_none upd_same hg
          have hg0 : H' g = none := Same.free sb hg
          have s4 : Same H H' := Same.trans s1 s2
          have s5 : Same H H3 := Same.trans s4 (Same.trans sb s3)
          have hb0 : H b = none := Same.free s4 hb
          refine k b g _ hb0 (Same.free s4 hg0) (fun c o q => ?_) ⟨⟨st, 0, ?_⟩, ms2, ?_, by omega⟩
          · rw [upd_ne (ne_of_none q hb0)]
            exact s5 _ _ q
          · rw [upd_same]
            rfl
          · rw [upd_ne hbg.symm]
            exact hg3
end
end BV

namespace BV
open PySem L2
local macro_rules | `(tactic| walk_at "rd") => `(tactic| (repeat (first | refine ⟨_, rfl, ?_⟩ | refine ⟨_, _, rfl, rfl, ?_⟩ | refine Or.inl ⟨_, rfl, ?_⟩ | refine Or.inr ⟨_, rfl, ?_⟩ | refine ⟨_, _, rfl, ?_⟩)))
abbrev sDraw : Stmt := top 9
abbrev nDraw : List Str := ["_law_box_here", "_law_many", "_law_great", "_law_count", "_law_found", "_law_mark"]
theorem scDraw : FnScope nDraw ["_law_box_here", "_law_many"] (defScope sDraw) := ⟨rfl, rfl, rfl, by decide +kernel, rfl, by decide +kernel, by decide +kernel⟩
section
variable {P : Program} {w : World} {K : PySem.W.Frag} {mg : Str → Option Value} {base : Heap}
theorem ok_draw {f : Addr} {fd : FuncData} (D : Df K mg "_law_draw" sDraw ["_law_box_here", "_law_many"] f fd) (T : Bl mg) :
    FnOk P w K mg base CX0 1 f fd ["_law_box_here", "_law_many"] spDraw := by
  refine D.fn.ok scDraw (fun vs H Q E h => ?_) (fun cdv A outer s H vs Q E hr h => ?_)
  · obtain ⟨b, g, m, rfl, _⟩ := h
    rfl
  · obtain ⟨b, g, m, rfl, hm0, hm1, hB, k⟩ := h
    have hu := hu_of hr
    have nd := scDraw.nd
    have hbg := hB.ne
    obtain ⟨⟨st, c, hb⟩, ns, hg, hns⟩ := hB
    refine ⟨_, (pss_cons (ps_set (i := 2) nd rfl (by first | exact Or.inl rfl | exact Or.inr rfl) (pe_dget hu (pv 0) pe_str (fun _ _ => rfl)))
      (pss_cons (ps_if (pt_cmpR (op_neD hr.units) (pv 2) (pe_lst pa_nil) (nomark _)) (pss_cons (ps_set (i := 5) nd rfl (by first | exact Or.inl rfl | exact Or.inr rfl) (pe_ix ix_list (pv 2) pe_int (fun _ _ => rfl)))
      (pss_cons (ps_asg (pe_op op_fdivW (pv 5) (pv 1)) (pg_sub (pv 2) pe_int set_list))
      (pss_cons (ps_if (pt_cmpR op_lt (pv 5) (pv 1) (nomark _)) (pss_one (ps_expr (pe_bm PySem.F.plainAttrs_list PySem.F.slot_list_pop PySem.F.type_list_pop mt_popAt (pv 2) (pa_cons pe_int pa_nil)))) pss_nil)
      (pss_one (ps_ret (pe_op op_mod (pe_callTy call_int1 (by rfl) T.int (by decide +kernel) (pa_cons (pv 5) pa_nil)) (pv 1))))))) pss_nil)
      (pss_cons (ps_set (i := 3) nd rfl (by first | exact Or.inl rfl | exact Or.inr rfl) (pe_op op_add (pe_dget hu (pv 0) pe_str (fun _ _ => rfl)) pe_int))
      (pss_cons (ps_dput hu (pv 0) pe_str (pv 3) rfl)
      (pss_cons (ps_set (i := 4) nd rfl (by first | exact Or.inl rfl | exact Or.inr rfl) (pe_op op_mod (pe_callTy call_int1 (by rfl) T.int (by decide +kernel) (pa_cons (pe_op op_add (pe_dget hu (pv 0) pe_str (fun _ _ => rfl)) (pe_op op_mul pe_int (pv 3))) pa_nil)) pe_int))
      (pss_cons (ps_set (i := 4) nd rfl (by first | exact Or.inl rfl | exact Or.inr rfl) (pe_op op_mod (pe_callTy call_int1 (by rfl) T.int (by decide +kernel) (pa_cons (pe_op op_add (pe_op op_add (pe_op op_mul (pv 4) (pv 4)) (pe_op op_mul pe_int (pv 3))) pe_int) pa_nil)) pe_int))
      (pss_cons (ps_set (i := 4) nd rfl (by first | exact Or.inl rfl | exact Or.inr rfl) (pe_op op_mod (pe_callTy call_int1 (by rfl) T.int (by decide +kernel) (pa_cons (pe_op op_add (pe_op op_mul (pv 4) (pv 4)) (pe_dget hu (pv 0) pe_str (fun _ _ => rfl))) pa_nil)) pe_int))
      (pss_one (ps_ret (pe_op op_mod (pe_callTy call_int1 (by rfl) T.int (by decide +kernel) (pa_cons (pe_op op_fdivW (pv 4) pe_int) pa_nil)) (pv 1))))))))))), ?_⟩
    refine ⟨_, rfl, b, _, rfl, get_great hb, ?_⟩
    refine ⟨_, rfl, Nat.zero_le _, fun p hp => ?_⟩
    have s1 : Same H (upd H p (.lst [])) := same_new hp
    have hb1 := s1 _ _ hb
    have hg1 := s1 _ _ hg
    have nbp : b ≠ p := ne_of_none hb hp
    have ngp : g ≠ p := ne_of_none hg hp
    refine ⟨.list (ns.map .int), .list [], .lst (SqL.of hg1) (dpAll_ints ns), .lst (SqL.of upd_same) .nil, shaped_intsL ns, shaped_intsL [], _, rfl, ?_⟩
    have kk : Kp b g H (upd H p (.lst [])) := Kp.same s1
    cases ns with
    | nil =>
      refine ite2 (fun z => absurd z (by decide)) (fun _ => ?_)
      refine ⟨_, rfl, b, _, rfl, get_count hb1, ?_⟩
      walk_at "rd"
      refine ⟨b, _, rfl, put_count hb1, ?_⟩
      have hb2 : upd (upd H p (.lst [])) b (.dK (boxD g st (c + 1))) b = some (.dK (boxD g st (c + 1))) := upd_same
      have gs : ∀ x : Int, 0 ≤ x % 4294967291 ∧ x % 4294967291 < 4294967291 := fun x => ⟨Int.emod_nonneg _ (by decide), Int.emod_lt_of_pos _ (by decide)⟩
      have gt : ∀ x : Int, 0 ≤ x % 4294967279 ∧ x % 4294967279 < 4294967279 := fun x => ⟨Int.emod_nonneg _ (by decide), Int.emod_lt_of_pos _ (by decide)⟩
      refine ⟨_, rfl, b, _, rfl, get_stirred hb2, ?_⟩
      walk_at "rd"
      refine ⟨.inl ⟨by decide, by decide⟩, ?_⟩
      walk_at "rd"
      refine ⟨by show (0 : Int) < 4294967291; decide, ?_⟩
      have g1 := gs (st + 2654435761 * (c + 1))
      walk_at "rd"
      refine ⟨.inl ⟨by omega, by omega⟩, ?_⟩
      walk_at "rd"
      refine ⟨.inl ⟨by decide, by decide⟩, ?_⟩
      walk_at "rd"
      refine ⟨by show (0 : Int) < 4294967279; decide, ?_⟩
      generalize (st + 2654435761 * (c + 1)) % 4294967291 = x1 at g1
      have g2 := gt (x1 * x1 + 40503 * (c + 1) + 7)
      generalize (x1 * x1 + 40503 * (c + 1) + 7) % 4294967279 = x2 at g2
      walk_at "rd"
      refine ⟨.inl ⟨by omega, by omega⟩, ?_⟩
      refine ⟨_, rfl, b, _, rfl, get_stirred hb2, ?_⟩
      walk_at "rd"
      refine ⟨by show (0 : Int) < 4294967231; decide, ?_⟩
      walk_at "rd"
      refine ⟨⟨by decide, by decide⟩, ?_⟩
      walk_at "rd"
      refine ⟨hm0, ?_⟩
      refine k _ _ (Int.emod_nonneg _ (by omega)) (Int.emod_lt_of_pos _ hm0) (Kp.trans kk Kp.setb) ⟨⟨st, c + 1, hb2⟩, [], ?_, by decide⟩
      rw [upd_ne hbg.symm]
      exact hg1
    | cons z rest =>
      refine ite2 (fun _ => ?_) (fun q => absurd (by rfl) q)
      refine ⟨_, rfl, g, _, 0, _, rfl, rfl, SqL.of hg1, atI_nat (j := 0) rfl, ?_⟩
      walk_at "rd"
      refine ⟨⟨hm0, ?_⟩, ?_⟩
      · have h30 : m.natAbs < 2 ^ 30 := by omega
        exact Nat.lt_of_lt_of_le (PySem.Flt.log2_lt_of (by decide) h30) (by decide)
      refine ⟨_, rfl, g, _, 0, 0, rfl, rfl, hg1, ix_nat (j := 0) (Nat.zero_lt_succ _), ?_⟩
      have hg2 : upd (upd H p (.lst [])) g (.lst (((z :: rest).map V.int).set 0 (.int (z / m)))) g = some (.lst (((z / m) :: rest).map V.int)) := upd_same
      have hb2 : upd (upd H p (.lst [])) g (.lst (((z :: rest).map V.int).set 0 (.int (z / m)))) b = some (.dK (boxD g st c)) := by
        rw [upd_ne hbg]
        exact hb1
      have k2 : Kp b g H (upd (upd H p (.lst [])) g (.lst (((z :: rest).map V.int).set 0 (.int (z / m))))) := Kp.trans kk Kp.setg
      walk_at "rd"
      refine ite2 (fun _ => ?_) (fun _ => ?_)
      · refine ⟨_, rfl, .inl ⟨rfl, _, SqL.of hg2⟩, ?_⟩
        refine ⟨g, _, 0, 0, _, rfl, rfl, hg2, by decide, by decide, seq_nat (j := 0) (Nat.zero_lt_succ _), rfl, ?_⟩
        walk_at "rd"
        refine ⟨hm0, ?_⟩
        refine k _ _ (Int.emod_nonneg _ (by omega)) (Int.emod_lt_of_pos _ hm0) (Kp.trans k2 Kp.setg) ⟨⟨st, c, ?_⟩, rest, ?_, ?_⟩
        · rw [upd_ne hbg]
          exact hb2
        · exact upd_same
        · exact Nat.le_of_succ_le hns
      · walk_at "rd"
        refine ⟨hm0, ?_⟩
        exact k _ _ (Int.emod_nonneg _ (by omega)) (Int.emod_lt_of_pos _ hm0) k2 ⟨⟨st, c, hb2⟩, _, hg2, hns⟩
end
end BV

namespace BV
open PySem L2
local macro_rules | `(tactic| walk_at "rd") => `(tactic| (repeat (first | refine ⟨_, rfl, ?_⟩ | refine ⟨_, _, rfl, rfl, ?_⟩ | refine Or.inl ⟨_, rfl, ?_⟩ | refine Or.inr ⟨_, rfl, ?_⟩ | refine ⟨_, _, rfl, ?_⟩)))
abbrev sPick : Stmt := top 10
abbrev nPick : List Str := ["_law_box_here", "_law_items"]
theorem scPick : FnScope nPick nPick (defScope sPick) := ⟨rfl, rfl, rfl, by decide +kernel, rfl, by decide +kernel, by decide +kernel⟩
section
variable {P : Program} {w : World} {K : PySem.W.Frag} {mg : Str → Option Value} {base : Heap}
theorem ok_pick {f fd1 : Addr} {fd fdd : FuncData} (D : Df K mg "_law_pick" sPick nPick f fd) (T : Bl mg)
    (D_draw : Df K mg "_law_draw" sDraw ["_law_box_here", "_law_many"] fd1 fdd) :
    FnOk P w K mg base CX0 2 f fd nPick (spPick K) := by
  have G_draw : FnOk P w K mg base CX0 1 fd1 fdd ["_law_box_here", "_law_many"] spDraw := ok_draw D_draw T
  refine D.fn.ok scPick (fun vs H Q E h => ?_) (fun cdv A outer s H vs Q E hr h => ?_)
  · obtain ⟨b, g, l, xs, rfl, _⟩ := h
    rfl
  · obtain ⟨b, g, l, xs, rfl, hl, n1, n2, h0, h1, hB, k⟩ := h
    have hr_draw : Room 1 _ := hr
    have nd := scPick.nd
    refine ⟨_, (pss_one (ps_ret (pe_ix ix_list (pv 1) (pe_call G_draw hr_draw (by rfl) D_draw.ad D_draw.fn.kp D_draw.bd .nil pass0 (pa_cons (pv 0) (pa_cons (pe_callB call_len_seq (by rfl) T.len PySem.boot_len (pa_cons (pv 1) pa_nil)) pa_nil))) (fun _ _ => rfl)))), ?_⟩
    walk_at "rd"
    refine ⟨_, _, rfl, .inl hl, ?_⟩
    refine ⟨b, g, (xs.length : Int), rfl, by omega, by omega, hB, fun r H' r0 r1 kp hB' => ?_⟩
    obtain ⟨j, rfl⟩ : ∃ j : Nat, r = (j : Int) := ⟨r.toNat, by omega⟩
    have hj : j < xs.length := by omega
    have hx : xs[j]? = some xs[j] := by simp [hj]
    exact ⟨l, xs, _, _, rfl, rfl, Kp.seq kp n1 n2 hl, atI_nat hx, k j _ H' hx kp hB'⟩
end
end BV

namespace BV
open PySem L2
local macro_rules | `(tactic| walk_at "rd") => `(tactic| (repeat (first | refine ⟨_, rfl, ?_⟩ | refine ⟨_, _, rfl, rfl, ?_⟩ | refine Or.inl ⟨_, rfl, ?_⟩ | refine Or.inr ⟨_, rfl, ?_⟩ | refine ⟨_, _, rfl, ?_⟩)))
abbrev sWeb : Stmt := top 11
abbrev nWeb : List Str := ["_law_box_here", "_law_most", "_law_more", "_law_many", "_law_ties", "_law_found", "_law_place", "_law_turn", "_law_one", "_law_other"]
abbrev pWeb : List Str := ["_law_box_here", "_law_most", "_law_more"]
theorem scWeb : FnScope nWeb pWeb (defScope sWeb) := ⟨rfl, rfl, rfl, by decide +kernel, rfl, by decide +kernel, by decide +kernel⟩
section
variable {P : Program} {w : World} {K : PySem.W.Frag} {mg : Str → Option Value} {base : Heap}
theorem ok_web {f f1 f2 : Addr} {fd fd1 fd2 : FuncData} (D : Df K mg "_law_web" sWeb pWeb f fd) (T : Bl mg)
    (D_draw : Df K mg "_law_draw" sDraw ["_law_box_here", "_law_many"] f1 fd1)
    (D_pick : Df K mg "_law_pick" sPick nPick f2 fd2) :
    FnOk P w K mg base CX0 3 f fd pWeb (spWeb K) := by
  have G_draw : FnOk P w K mg base CX0 1 f1 fd1 ["_law_box_here", "_law_many"] spDraw := ok_draw D_draw T
  have G_pick : FnOk P w K mg base CX0 2 f2 fd2 nPick (spPick K) := ok_pick D_pick T D_draw
  refine D.fn.ok scWeb (fun vs H Q E h => ?_) (fun cdv A outer s H vs Q E hr h => ?_)
  · obtain ⟨b, g, most, more, rfl, _⟩ := h
    rfl
  · obtain ⟨b, g, most, more, rfl, m1, m2, m3, hB, k⟩ := h
    have hr_pick : Room 2 _ := hr
    have hr_draw : Room 1 _ := hr.mono (by decide)
    have nd := scWeb.nd
    refine ⟨_, (pss_cons (ps_par3 (i := 3) (j := 4) (l := 5) (by rfl) nd rfl rfl rfl (by decide) (by decide) (by decide) rfl rfl rfl (pa_cons (pe_op op_add pe_int (pe_call G_draw hr_draw (by rfl) D_draw.ad D_draw.fn.kp D_draw.bd .nil pass0 (pa_cons (pv 0) (pa_cons (pv 1) pa_nil)))) (pa_cons (pe_lst pa_nil) (pa_cons (pe_lst pa_nil) pa_nil))) (by rfl))
      (pss_cons (ps_for PassesOwn.never rfl (pi_range2 rfl T.range (pa_cons pe_int (pa_cons (pv 3) pa_nil))) (pg_name (i := 6) nd rfl (by first | exact Or.inl rfl | exact Or.inr rfl)) (pss_one (ps_expr (pe_bm PySem.F.plainAttrs_list PySem.F.slot_list_append PySem.F.type_list_append mt_append (pv 4) (pa_cons (pe_tup (pa_cons (pe_call G_draw hr_draw (by rfl) D_draw.ad D_draw.fn.kp D_draw.bd .nil pass0 (pa_cons (pv 0) (pa_cons (pv 6) pa_nil))) (pa_cons (pv 6) pa_nil))) pa_nil)))))
      (pss_cons (ps_for PassesOwn.never rfl (pi_range1 rfl T.range (pa_cons (pe_ifExp (pt_cmpR op_gt (pv 3) pe_int (nomark _)) (pe_call G_draw hr_draw (by rfl) D_draw.ad D_draw.fn.kp D_draw.bd .nil pass0 (pa_cons (pv 0) (pa_cons (pe_op op_add (pv 2) pe_int) pa_nil))) pe_int) pa_nil)) (pg_name (i := 7) nd rfl (by first | exact Or.inl rfl | exact Or.inr rfl)) (pss_cons (ps_par (i := 8) (j := 9) (by rfl) nd rfl rfl (by decide) rfl rfl (pa_cons (pe_call G_draw hr_draw (by rfl) D_draw.ad D_draw.fn.kp D_draw.bd .nil pass0 (pa_cons (pv 0) (pa_cons (pv 3) pa_nil))) (pa_cons (pe_call G_draw hr_draw (by rfl) D_draw.ad D_draw.fn.kp D_draw.bd .nil pass0 (pa_cons (pv 0) (pa_cons (pv 3) pa_nil))) pa_nil)) (by rfl))
      (pss_cons (ps_if (PW.pt (pw_or (pt_cmpR op_eq (pv 8) (pv 9) (nomark _)) (pw_or1 (pt_cmpR op_eq (pe_call G_draw hr_draw (by rfl) D_draw.ad D_draw.fn.kp D_draw.bd .nil pass0 (pa_cons (pv 0) (pa_cons pe_int pa_nil))) pe_int (nomark _))))) (pss_one (ps_asg (pe_call G_pick hr_pick (by rfl) D_pick.ad D_pick.fn.kp D_pick.bd .nil pass0 (pa_cons (pv 0) (pa_cons (pv 4) pa_nil))) (pg_tup rfl (pgs_cons (pg_name (i := 8) nd rfl (by first | exact Or.inl rfl | exact Or.inr rfl)) (pgs_cons (pg_name (i := 9) nd rfl (by first | exact Or.inl rfl | exact Or.inr rfl)) pgs_nil))))) pss_nil)
      (pss_one (ps_expr (pe_bm PySem.F.plainAttrs_list PySem.F.slot_list_append PySem.F.type_list_append mt_append (pv 4) (pa_cons (pe_tup (pa_cons (pe_callB (call_min2 rfl) (by rfl) T.min (by decide +kernel) (pa_cons (pv 8) (pa_cons (pv 9) pa_nil))) (pa_cons (pe_callB (call_max2 rfl) (by rfl) T.max (by decide +kernel) (pa_cons (pv 8) (pa_cons (pv 9) pa_nil))) pa_nil))) pa_nil)))))))
      (pss_cons (ps_for PassesOwn.never rfl (pi_range1 rfl T.range (pa_cons (pe_callB call_len_seq (by rfl) T.len PySem.boot_len (pa_cons (pv 4) pa_nil)) pa_nil)) (pg_name (i := 7) nd rfl (by first | exact Or.inl rfl | exact Or.inr rfl)) (pss_one (ps_expr (pe_bm PySem.F.plainAttrs_list PySem.F.slot_list_append PySem.F.type_list_append mt_append (pv 5) (pa_cons (pe_bm PySem.F.plainAttrs_list PySem.F.slot_list_pop PySem.F.type_list_pop mt_popAt (pv 4) (pa_cons (pe_call G_draw hr_draw (by rfl) D_draw.ad D_draw.fn.kp D_draw.bd .nil pass0 (pa_cons (pv 0) (pa_cons (pe_callB call_len_seq (by rfl) T.len PySem.boot_len (pa_cons (pv 4) pa_nil)) pa_nil))) pa_nil)) pa_nil)))))
      (pss_one (ps_ret (pe_tup (pa_cons (pv 3) (pa_cons (pe_callTy call_tuple_of (by rfl) T.tuple (by decide +kernel) (pa_cons (pv 5) pa_nil)) pa_nil))))))))), ?_⟩
    -- _law_many, _law_ties, _law_found
    walk_at "rd"
    refine ⟨b, g, (most : Int), rfl, by omega, by omega, hB, fun r H1 r0 r1 kp1 hB1 => ?_⟩
    obtain ⟨n0, rfl⟩ : ∃ j : Nat, r = (j : Int) := ⟨r.toNat, by omega⟩
    walk_at "rd"
    refine ⟨Nat.zero_le _, fun l hl => ⟨Nat.zero_le _, fun l2 hl2 => ⟨_, _, _, rfl, ?_⟩⟩⟩
    have hll : upd H1 l (.lst []) l = some (.lst []) := upd_same
    have nll : l ≠ l2 := ne_of_none hll hl2
    have s1 : Same H1 (upd H1 l (.lst [])) := same_new hl
    have s2 : Same (upd H1 l (.lst [])) (upd (upd H1 l (.lst [])) l2 (.lst [])) := same_new hl2
    have hB2 := (hB1.same s1).same s2
    have lkeep : ∀ {a : Addr}, H1 a = none → a ≠ b → a ≠ g → H a = none := fun {a} h n1 n2 => by
      cases e : H a with
      | none => rfl
      | some o =>
        rw [kp1 _ _ e n1 n2] at h
        cases h
    have hBx := hB1
    obtain ⟨⟨bst, bc, hb1⟩, bns, hg1, _⟩ := hBx
    have lb : l ≠ b := (ne_of_none hb1 hl).symm
    have lg : l ≠ g := (ne_of_none hg1 hl).symm
    have l2b : l2 ≠ b := (ne_of_none (s1 _ _ hb1) hl2).symm
    have l2g : l2 ≠ g := (ne_of_none (s1 _ _ hg1) hl2).symm
    have W0 : WI b g l l2 H (upd (upd H1 l (.lst [])) l2 (.lst [])) [] [] :=
      ⟨kp1.trans ((Kp.same s1).trans (Kp.same s2)), hB2, lkeep hl lb lg, lkeep (Same.free s1 hl2) l2b l2g, lb, lg, l2b, l2g, nll,
        ⟨[], by rw [upd_ne nll]; exact upd_same, .nil⟩, ⟨[], upd_same, .nil⟩⟩
    generalize upd (upd H1 l (.lst [])) l2 (.lst []) = H2 at W0
    clear s1 s2 hB2 hl hl2 hll hb1 hg1 hB1 kp1
    -- each place behind an earlier one
    walk_at "rd"
    refine ⟨by omega, ?_⟩
    refine for_range (lo := 1) (n := (1 + (n0 : Int) - 1).toNat) (fun i σ Hc => ∃ (ts : List Tie) (v6 : Option V),
      σ = [some (.ref b), some (.int most), some (.int more), some (.int (1 + (n0 : Int))), some (.ref l), some (.ref l2), v6, none, none, none] ∧
      WI b g l l2 H Hc ts [] ∧ ts.length = i ∧ (∀ t ∈ ts, t.1 < t.2 ∧ t.2 ≤ i) ∧ ∀ p, 1 ≤ p → p ≤ i → ∃ q, q < p ∧ (q, p) ∈ ts) ?_ ?_ ?_
    · exact ⟨[], none, rfl, W0, rfl, by simp, fun p h1 h2 => by omega⟩
    · rintro i σ Hc hi ⟨ts, v6, rfl, W, e1, e2, e3⟩
      have hi2 : i < n0 := by omega
      obtain ⟨xs, hx, hxs⟩ := W.tl
      refine ⟨_, rfl, .inl ⟨rfl, _, SqL.of hx⟩, ?_⟩
      walk_at "rd"
      refine ⟨b, g, 1 + (i : Int), rfl, by omega, by omega, W.bx, fun r H3 r0 r1 kp3 hB3 => ?_⟩
      obtain ⟨q, rfl⟩ : ∃ j : Nat, r = (j : Int) := ⟨r.toNat, by omega⟩
      have W3 := W.draw kp3 hB3
      walk_at "rd"
      refine ⟨by show 2 ≤ sizeLine; decide, fun p hp => ?_⟩
      have W4 := W3.same (same_new (o := .tup [.int (q : Int), .int (1 + (i : Int))]) hp)
      obtain ⟨ys, hy, hys⟩ := W4.tl
      have hyl : ys.length = ts.length := hys.length
      refine ⟨l, ys, _, rfl, rfl, hy, Nat.lt_of_le_of_lt (show ys.length ≤ 1000 by omega) (by decide), ?_⟩
      have hv : TieAt (upd H3 p (.tup [.int (q : Int), .int (1 + (i : Int))])) (.ref p) (q, 1 + i) :=
        ⟨p, rfl, by rw [upd_same]; show some (HO.tup [V.int (q : Int), V.int (1 + (i : Int))]) = some (HO.tup [V.int (q : Int), V.int (((1 + i : Nat)) : Int)]); rw [Int.natCast_add]; rfl⟩
      refine ⟨ts ++ [(q, 1 + i)], _, rfl, W4.app hy hv, by rw [List.length_append, e1]; rfl, fun t ht => ?_, fun p' h1 h2 => ?_⟩
      · rcases List.mem_append.mp ht with ht | ht
        · have := e2 t ht
          omega
        · obtain rfl := List.mem_singleton.mp ht
          show q < 1 + i ∧ 1 + i ≤ i + 1
          omega
      · by_cases hp' : p' ≤ i
        · obtain ⟨q', a1, a2⟩ := e3 p' h1 hp'
          exact ⟨q', a1, List.mem_append_left _ a2⟩
        · obtain rfl : p' = 1 + i := by omega
          exact ⟨q, by omega, List.mem_append_right _ (List.mem_singleton.mpr rfl)⟩
    · rintro σ Hc ⟨ts, v6, rfl, W, e1, e2, e3⟩
      have e1' : ts.length = n0 := by omega
      have e2' : ∀ t ∈ ts, t.1 < t.2 ∧ t.2 < 1 + n0 := fun t ht => by
        have := e2 t ht
        omega
      have e3' : ∀ p, 1 ≤ p → p < 1 + n0 → ∃ q, q < p ∧ (q, p) ∈ ts := fun p h1 h2 => e3 p h1 (by omega)
      clear e1 e2 e3
      -- more ties
      dsimp only
      refine tSeq_go ?_
      refine for_rng1_by (fun v H' => ∃ m : Nat, v = .int (m : Int) ∧ m ≤ more ∧ (n0 = 0 → m = 0) ∧ WI b g l l2 H H' ts []) ?_ (fun cont => ?_)
      · rintro v H' ⟨m, rfl, hm, hz, W'⟩
        refine ⟨_, rfl, by omega, by omega, ?_⟩
        refine for_range (lo := 0) (n := (m : Int).toNat) (fun i σ Hc => ∃ (ts : List Tie) (v7 v8 v9 : Option V),
          σ = [some (.ref b), some (.int most), some (.int more), some (.int (1 + (n0 : Int))), some (.ref l), some (.ref l2), v6, v7, v8, v9] ∧
          WI b g l l2 H Hc ts [] ∧ ts.length = n0 + i ∧ (∀ t ∈ ts, t.1 < t.2 ∧ t.2 < 1 + n0) ∧ ∀ p, 1 ≤ p → p < 1 + n0 → ∃ q, q < p ∧ (q, p) ∈ ts) ?_ ?_ ?_
        · exact ⟨ts, none, none, none, rfl, W', e1', e2', e3'⟩
        · clear W W' e1' e2' e3'
          rintro i σ Hc hi ⟨ts, v7, v8, v9, rfl, W, e1, e2, e3⟩
          have hn0 : 0 < n0 := by
            rcases Nat.eq_zero_or_pos n0 with z | z
            · have := hz z
              omega
            · exact z
          walk_at "rd"
          refine ⟨b, g, 1 + (n0 : Int), rfl, by omega, by omega, W.bx, fun r H3 r0 r1 kp3 hB3 => ?_⟩
          obtain ⟨one, rfl⟩ : ∃ j : Nat, r = (j : Int) := ⟨r.toNat, by omega⟩
          have W3 := W.draw kp3 hB3
          walk_at "rd"
          refine ⟨b, g, 1 + (n0 : Int), rfl, by omega, by omega, W3.bx, fun r' H4 r0' r1' kp4 hB4 => ?_⟩
          obtain ⟨oth, rfl⟩ : ∃ j : Nat, r' = (j : Int) := ⟨r'.toNat, by omega⟩
          have W4 := W3.draw kp4 hB4
          refine ⟨_, _, rfl, ?_⟩
          dsimp only
          refine tSeq_go ?_
          refine tIfS_by (fun σ' H' => ∃ x y : Nat, x ≠ y ∧ x < 1 + n0 ∧ y < 1 + n0 ∧
            σ' = [some (.ref b), some (.int most), some (.int more), some (.int (1 + (n0 : Int))), some (.ref l), some (.ref l2), v6, some (.int (0 + (i : Int))), some (.int (x : Int)), some (.int (y : Int))] ∧
            WI b g l l2 H H' ts []) ?_ (fun cont => ?_)
          · rintro σ' H' ⟨x, y, nxy, hx, hy, rfl, W5⟩
            obtain ⟨xs, hl1, hl2⟩ := W5.tl
            refine ⟨_, rfl, .inl ⟨rfl, _, SqL.of hl1⟩, ?_⟩
            walk_at "rd"
            refine ⟨by show 2 ≤ sizeLine; decide, fun p hp => ?_⟩
            obtain ⟨lo, hi', e4, e5, hlt, hhi⟩ : ∃ lo hi' : Nat, (if (y : Int) < (x : Int) then (y : Int) else (x : Int)) = (lo : Int) ∧
                (if (y : Int) > (x : Int) then (y : Int) else (x : Int)) = (hi' : Int) ∧ lo < hi' ∧ hi' < 1 + n0 := by
              rcases Nat.lt_or_ge y x with z | z
              · exact ⟨y, x, if_pos (by omega), if_neg (by omega), z, hx⟩
              · exact ⟨x, y, if_neg (by omega), if_pos (by omega), by omega, hy⟩
            rw [e4, e5] at *
            have W6 := W5.same (same_new (o := .tup [.int (lo : Int), .int (hi' : Int)]) hp)
            obtain ⟨ys, hy1, hys⟩ := W6.tl
            have hyl : ys.length = ts.length := hys.length
            refine ⟨l, ys, _, rfl, rfl, hy1, Nat.lt_of_le_of_lt (show ys.length ≤ 3000 by omega) (by decide), ?_⟩
            refine ⟨ts ++ [(lo, hi')], _, _, _, rfl, W6.app hy1 ⟨p, rfl, upd_same⟩, by rw [List.length_append, e1]; rfl, fun t ht => ?_, fun p' h1 h2 => ?_⟩
            · rcases List.mem_append.mp ht with ht | ht
              · exact e2 t ht
              · obtain rfl := List.mem_singleton.mp ht
                exact ⟨hlt, hhi⟩
            · obtain ⟨q', a1, a2⟩ := e3 p' h1 h2
              exact ⟨q', a1, List.mem_append_left _ a2⟩
          · refine tIfS_t (fun c Hx => WI b g l l2 H Hx ts [] ∧ (c = false → one ≠ oth)) ?_ ?_ (fun both => ?_)
            · rintro Hx ⟨Wx, _⟩
              obtain ⟨xs, hl1, hl2⟩ := Wx.tl
              have hxl : xs.length = ts.length := hl2.length
              walk_at "rd"
              refine ⟨b, g, l, xs, rfl, SqL.of hl1, Wx.d1, Wx.d2, by omega, by omega, Wx.bx, fun j v Hy hj kpy hBy => ?_⟩
              have Wy := Wx.draw kpy hBy
              obtain ⟨t, ht, hv⟩ := hl2.at hj
              obtain ⟨p, rfl, hp⟩ := hv.kt (KT.of_kp kpy Wx.bx)
              refine ⟨p, _, rfl, SqT.of hp, rfl, _, _, rfl, _, _, rfl, rfl, ?_⟩
              have hm := e2 t (List.mem_of_getElem? ht)
              exact cont _ _ ⟨t.1, t.2, by omega, by omega, hm.2, rfl, Wy⟩
            · rintro Hx ⟨Wx, hne⟩
              exact cont _ _ ⟨one, oth, hne rfl, by omega, by omega, rfl, Wx⟩
            · refine ⟨_, rfl, _, rfl, rfl, _, rfl, ?_⟩
              refine ite2 (fun hc => ?_) (fun hc => ?_)
              · exact both _ _ ⟨W4, fun z => by cases z⟩
              · have hne : one ≠ oth := by
                  rintro rfl
                  exact hc (decide_eq_true rfl)
                walk_at "rd"
                refine ⟨b, g, 4, rfl, by decide, by decide, W4.bx, fun r Hx q0 q1 kpx hBx => ?_⟩
                refine ⟨rfl, _, rfl, ?_⟩
                exact both _ _ ⟨W4.draw kpx hBx, fun _ => hne⟩
        · clear W W' e1' e2' e3'
          rintro σ Hc ⟨ts, v7, v8, v9, rfl, W, e1, e2, e3⟩
          have e1 : ts.length = n0 + m := e1
          obtain ⟨xs, hl1, hl2⟩ := W.tl
          have hxl : xs.length = ts.length := hl2.length
          -- in another order
          refine ⟨_, rfl, _, _, rfl, .inl (SqL.of hl1), _, rfl, by omega, by omega, ?_⟩
          refine for_range (lo := 0) (n := (xs.length : Int).toNat) (fun i σ Hc => ∃ (us fs : List Tie) (v7 : Option V),
            σ = [some (.ref b), some (.int most), some (.int more), some (.int (1 + (n0 : Int))), some (.ref l), some (.ref l2), v6, v7, v8, v9] ∧
            WI b g l l2 H Hc us fs ∧ us.length + i = ts.length ∧ (us ++ fs).Perm ts) ?_ ?_ ?_
          · exact ⟨ts, [], v7, rfl, W, rfl, by simp⟩
          · rintro i σ Hd hi ⟨us, fs, v7', rfl, Wd, d1, d2⟩
            obtain ⟨xs', hu1, hu2⟩ := Wd.tl
            obtain ⟨ys', hf1, hf2⟩ := Wd.fl
            have hul : xs'.length = us.length := hu2.length
            have hfl : ys'.length = fs.length := hf2.length
            have hpl : us.length + fs.length = ts.length := by
              rw [← List.length_append]
              exact d2.length_eq
            have hi2 : i < xs.length := by omega
            refine ⟨_, rfl, .inl ⟨rfl, _, SqL.of hf1⟩, ?_⟩
            refine ⟨_, rfl, .inl ⟨rfl, _, SqL.of hu1⟩, ?_⟩
            walk_at "rd"
            refine ⟨_, _, rfl, .inl (SqL.of hu1), ?_⟩
            refine ⟨b, g, (xs'.length : Int), rfl, by omega, by omega, Wd.bx, fun r He r0 r1 kpe hBe => ?_⟩
            obtain ⟨j, rfl⟩ : ∃ j : Nat, r = (j : Int) := ⟨r.toNat, by omega⟩
            have hj : j < xs'.length := by omega
            have We := Wd.draw kpe hBe
            have hu1e := kpe _ _ hu1 Wd.d1 Wd.d2
            have hjx : xs'[j]? = some xs'[j] := by simp [hj]
            obtain ⟨t, ht, hv⟩ := hu2.at hjx
            have hve := hv.kt (KT.of_kp kpe Wd.bx)
            refine ⟨l, xs', _, j, _, rfl, rfl, hu1e, by omega, by omega, seq_nat hj, hjx, ?_⟩
            have Wf := We.pop hu1e j
            have hvf := hve.kt (KT.of_upd (ys := xs'.eraseIdx j) hu1e)
            have hf1f : upd He l (.lst (xs'.eraseIdx j)) l2 = some (.lst ys') := by
              rw [upd_ne Wd.d5.symm]
              exact kpe _ _ hf1 Wd.d3 Wd.d4
            refine ⟨l2, ys', _, rfl, rfl, hf1f, Nat.lt_of_le_of_lt (show ys'.length ≤ 3000 by omega) (by decide), ?_⟩
            have hjt : j < us.length := by omega
            refine ⟨us.eraseIdx j, fs ++ [t], _, rfl, (Wf.swap.app hf1f hvf).swap, ?_, (perm_move us fs j t ht).trans d2⟩
            rw [List.length_eraseIdx_of_lt hjt]
            omega
          · rintro σ Hd ⟨us, fs, v7', rfl, Wd, d1, d2⟩
            have hus : us = [] := List.eq_nil_of_length_eq_zero (by omega)
            subst hus
            have hp : fs.Perm ts := d2
            obtain ⟨ys', hf1, hf2⟩ := Wd.fl
            have hfl : ys'.length = fs.length := hf2.length
            have hpl : fs.length = ts.length := hp.length_eq
            refine ⟨_, rfl, _, rfl, l2, _, rfl, .inl ⟨SqL.of hf1, fun q hq => ?_⟩⟩
            refine ⟨by show 2 ≤ sizeLine; decide, fun p hp2 => ?_⟩
            have sq : Same Hd (upd Hd q (.tup ys')) := same_new hq
            have sp : Same (upd Hd q (.tup ys')) (upd (upd Hd q (.tup ys')) p (.tup [.int (1 + (n0 : Int)), .ref q])) := same_new hp2
            have Wz := (Wd.same sq).same sp
            refine k p (1 + n0) fs _ Wz.kp Wz.bx ?_ ⟨by omega, fun t ht => e2 t (hp.mem_iff.mp ht), fun p' h1 h2 => ?_⟩ (by omega) (by omega) fun z => ?_
            · have e : V.int (1 + (n0 : Int)) = V.int ((1 + n0 : Nat) : Int) := by rw [Int.natCast_add]; rfl
              refine .tup (SqT.of upd_same) (.cons ?_ (.cons (.tup (SqT.of (sp _ _ upd_same)) ((hf2.kt ((KT.of_same sq))).kt (KT.of_same sp)).dp) .nil))
              rw [e]
              exact .int _
            · obtain ⟨q', a1, a2⟩ := e3 p' h1 h2
              exact ⟨q', a1, hp.mem_iff.mpr a2⟩
            · have hm0 : m = 0 := hz (by omega)
              exact List.eq_nil_of_length_eq_zero (by omega)
      · walk_at "rd"
        refine ite2 (fun hc => ?_) (fun hc => ?_)
        · have hc' := of_decide_eq_true hc
          walk_at "rd"
          refine ⟨b, g, (more : Int) + 1, rfl, by omega, by omega, W.bx, fun r H3 r0 r1 kp3 hB3 => ?_⟩
          obtain ⟨m, rfl⟩ : ∃ j : Nat, r = (j : Int) := ⟨r.toNat, by omega⟩
          exact cont _ _ ⟨m, rfl, by omega, by omega, W.draw kp3 hB3⟩
        · have hc' : ¬ (1 : Int) < 1 + (n0 : Int) := fun z => hc (decide_eq_true z)
          exact cont _ _ ⟨0, rfl, Nat.zero_le _, fun _ => rfl, W⟩
end
end BV

namespace BV
open PySem L2
local macro_rules | `(tactic| walk_at "rd") => `(tactic| (repeat (first | refine ⟨_, rfl, ?_⟩ | refine ⟨_, _, rfl, rfl, ?_⟩ | refine Or.inl ⟨_, rfl, ?_⟩ | refine Or.inr ⟨_, rfl, ?_⟩ | refine ⟨_, _, rfl, ?_⟩)))
section
variable {P : Program} {w : World} {K : PySem.W.Frag} {mg : Str → Option Value} {base : Heap}
end
end BV


namespace BV
open PySem L2
structure Bl4 (mg : Str → Option Value) : Prop where
  isinstance : mg "isinstance" = none
  bool : mg "bool" = none
  list : mg "list" = none
  sorted : mg "sorted" = none
  set : mg "set" = none
abbrev sWhole : Stmt := top 1
abbrev nWhole : List Str := ["value"]
theorem scWhole : FnScope nWhole ["value"] (defScope sWhole) := ⟨rfl, rfl, rfl, by decide +kernel, rfl, by decide +kernel, by decide +kernel⟩
abbrev sWithin : Stmt := top 2
abbrev nWithin : List Str := ["value", "low", "high"]
theorem scWithin : FnScope nWithin nWithin (defScope sWithin) := ⟨rfl, rfl, rfl, by decide +kernel, rfl, by decide +kernel, by decide +kernel⟩
abbrev sErr : Stmt := top 4
abbrev nErr : List Str := ["web", "value", "least", "place", "item"]
theorem scErr : FnScope nErr ["web", "value"] (defScope sErr) := ⟨rfl, rfl, rfl, by decide +kernel, rfl, by decide +kernel, by decide +kernel⟩
abbrev sLerr : Stmt := top 12
abbrev nLerr : List Str := ["_law_web_here", "_law_thing", "_law_place", "_law_item"]
abbrev pLerr : List Str := ["_law_web_here", "_law_thing"]
theorem scLerr : FnScope nLerr pLerr (defScope sLerr) := ⟨rfl, rfl, rfl, by decide +kernel, rfl, by decide +kernel, by decide +kernel⟩
def inB : PyData → Int → Int → Bool
  | .int z, lo, hi => decide (lo ≤ z) && decide (z ≤ hi)
  | _, _, _ => false
def itemD (p : Nat) : PyData := .tuple [.str "item", .int p]
def errG (L : Nat) : List PyData → Nat → Int → PyData
  | [], _, _ => .none
  | d :: ds, p, l => if inB d l (L - 1) = true then (match d with
    | .int z => errG L ds (p + 1) (z + 1)
    | _ => .none) else itemD p
theorem errG_bad {L : Nat} {d : PyData} {ds : List PyData} {p : Nat} {l : Int} (h : inB d l (L - 1) = false) : errG L (d :: ds) p l = itemD p := by
  unfold errG
  rw [if_neg (by rw [h]; decide)]
theorem errG_int {L : Nat} {z : Int} {ds : List PyData} {p : Nat} {l : Int} (h : inB (.int z) l (L - 1) = true) : errG L (.int z :: ds) p l = errG L ds (p + 1) (z + 1) := by
  rw [errG, if_pos h]
def errD (L : Nat) : PyData → PyData
  | .tuple ds => errG L ds 0 0
  | _ => .str "form"
def spWhole (K : PySem.W.Frag) : Sp := fun vs H Q _ => ∃ (x : V) (d : PyData), vs = [x] ∧ Od K H x d ∧ Q (.bl (isInt d)) H
def spWithin (K : PySem.W.Frag) : Sp := fun vs H Q _ => ∃ (x : V) (d : PyData) (lo hi : Int), vs = [x, .int lo, .int hi] ∧ Od K H x d ∧ Q (.bl (inB d lo hi)) H
def spErr (K : PySem.W.Frag) : Sp := fun vs H Q _ => ∃ (v x : V) (n : Nat) (ts : List Tie) (d : PyData), vs = [v, x] ∧ Dp K H v (webD n ts) ∧ Od K H x d ∧
  ∀ (u : V) H', Same H H' → Dp K H' u (errD ts.length d) → Q u H'
section
variable {P : Program} {w : World} {K : PySem.W.Frag} {mg : Str → Option Value} {base : Heap}
theorem ok_whole {f : Addr} {fd : FuncData} (D : Df K mg "whole" sWhole ["value"] f fd) (T : Bl mg) (U : Bl4 mg) : FnOk P w K mg base CX0 1 f fd ["value"] (spWhole K) := by
  refine D.fn.ok scWhole (fun vs H Q E h => ?_) (fun cdv A outer s H vs Q E hr h => ?_)
  · obtain ⟨x, d, rfl, _⟩ := h
    rfl
  · obtain ⟨x, d, rfl, hd, k⟩ := h
    have nd := scWhole.nd
    refine ⟨_, (pss_one (ps_ret (pe_and (pe_callB (isiD K) (by rfl) U.isinstance (by decide +kernel) (pa_cons (pv 0) (pa_cons (pe_bltn (v := .ty "int") (by rfl) T.int (by decide +kernel) rfl) pa_nil))) (pe_one (pe_not (pe_callB (isiD K) (by rfl) U.isinstance (by decide +kernel) (pa_cons (pv 0) (pa_cons (pe_bltn (v := .ty "bool") (by rfl) U.bool (by decide +kernel) rfl) pa_nil)))))))), ?_⟩
    refine ⟨_, rfl, _, d, _, _, rfl, hd, kit_int d, ?_⟩
    cases d with
    | int z => exact ⟨true, rfl, iteT ⟨_, rfl, _, _, _, _, rfl, hd, kit_bool (.int z), _, rfl, k⟩⟩
    | bool z => exact ⟨true, rfl, iteT ⟨_, rfl, _, _, _, _, rfl, hd, kit_bool (.bool z), _, rfl, k⟩⟩
    | none => exact ⟨false, rfl, iteF k⟩
    | str z => exact ⟨false, rfl, iteF k⟩
    | list z => exact ⟨false, rfl, iteF k⟩
    | tuple z => exact ⟨false, rfl, iteF k⟩
    | dict z => exact ⟨false, rfl, iteF k⟩
theorem ok_within {f f1 : Addr} {fd fd1 : FuncData} (D : Df K mg "whole_within" sWithin nWithin f fd) (T : Bl mg) (U : Bl4 mg) (D_whole : Df K mg "whole" sWhole ["value"] f1 fd1) :
    FnOk P w K mg base CX0 2 f fd nWithin (spWithin K) := by
  have G_whole : FnOk P w K mg base CX0 1 f1 fd1 ["value"] (spWhole K) := ok_whole D_whole T U
  refine D.fn.ok scWithin (fun vs H Q E h => ?_) (fun cdv A outer s H vs Q E hr h => ?_)
  · obtain ⟨x, d, lo, hi, rfl, _⟩ := h
    rfl
  · obtain ⟨x, d, lo, hi, rfl, hd, k⟩ := h
    have hr_whole : Room 1 _ := hr
    have nd := scWithin.nd
    refine ⟨_, (pss_one (ps_ret (pe_and (pe_call G_whole hr_whole (by rfl) D_whole.ad D_whole.fn.kp D_whole.bd .nil pass0 (pa_cons (pv 0) pa_nil)) (pe_one (pe_chain op_le op_le (pv 1) (pv 0) (pv 2)))))), ?_⟩
    refine ⟨_, rfl, x, d, rfl, hd, ?_⟩
    cases d with
    | int z =>
      have hx : x = .int z := by
        rcases hd with h | ⟨e, _⟩
        · cases h
          rfl
        · cases e
      subst hx
      refine ⟨true, rfl, iteT ?_⟩
      refine ⟨_, rfl, _, rfl, _, _, rfl, rfl, _, rfl, ?_⟩
      have k' : Q (.bl (decide (lo ≤ z) && decide (z ≤ hi))) H := k
      refine ite2 (fun hh => ?_) (fun hh => ?_)
      · rw [hh, Bool.true_and] at k'
        exact ⟨_, rfl, _, _, rfl, rfl, k'⟩
      · rw [Bool.eq_false_iff.mpr hh, Bool.false_and] at k'
        exact k'
    | bool z => exact ⟨false, rfl, iteF k⟩
    | none => exact ⟨false, rfl, iteF k⟩
    | str z => exact ⟨false, rfl, iteF k⟩
    | list z => exact ⟨false, rfl, iteF k⟩
    | tuple z => exact ⟨false, rfl, iteF k⟩
    | dict z => exact ⟨false, rfl, iteF k⟩
theorem od_tup {H : Hp} {x : V} {ds : List PyData} (h : Od K H x (.tuple ds)) : ∃ a xs, x = .ref a ∧ SqT K H a xs ∧ DpAll K H xs ds := by
  rcases h with h | ⟨e, _⟩
  · exact dp_tup h
  · cases e
theorem dp_item {H : Hp} {p : Addr} {i : Nat} (h : H p = some (.tup [.str "item", .int i])) : Dp K H (.ref p) (itemD i) :=
  .tup (SqT.of h) (.cons (.str _) (.cons (.int _) .nil))
theorem ok_err {f f1 f2 : Addr} {fd fd1 fd2 : FuncData} (D : Df K mg "lot_error" sErr ["web", "value"] f fd) (T : Bl mg) (U : Bl4 mg) (D_whole : Df K mg "whole" sWhole ["value"] f1 fd1)
    (D_within : Df K mg "whole_within" sWithin nWithin f2 fd2) : FnOk P w K mg base CX0 3 f fd ["web", "value"] (spErr K) := by
  have G_within : FnOk P w K mg base CX0 2 f2 fd2 nWithin (spWithin K) := ok_within D_within T U D_whole
  refine D.fn.ok scErr (fun vs H Q E h => ?_) (fun cdv A outer s H vs Q E hr h => ?_)
  · obtain ⟨v, x, n, ts, d, rfl, _⟩ := h
    rfl
  · obtain ⟨v, x, n, ts, d, rfl, hw, hd, k⟩ := h
    have hr_within : Room 2 _ := hr
    have nd := scErr.nd
    obtain ⟨a, c, ys, rfl, ha, hc, hys⟩ := dp_web hw
    have hyl : ys.length = ts.length := by rw [dpAll_len hys, List.length_map]
    refine ⟨_, (pss_cons (ps_if (pt_not (pt_val (pe_callB (isiD K) (by rfl) U.isinstance (by decide +kernel) (pa_cons (pv 1) (pa_cons (pe_bltn (v := .ty "tuple") (by rfl) T.tuple (by decide +kernel) rfl) pa_nil))))) (pss_one (ps_ret pe_str)) pss_nil)
      (pss_cons (ps_set (i := 2) nd rfl (by first | exact Or.inl rfl | exact Or.inr rfl) pe_int)
      (pss_cons (ps_for PassesOwn.never rfl (enumT K (by rfl) T.enumerate (pa_cons (pv 1) pa_nil)) (pgT K rfl (pgs_cons (pg_name (i := 3) nd rfl (by first | exact Or.inl rfl | exact Or.inr rfl)) (pgs_cons (pg_name (i := 4) nd rfl (by first | exact Or.inl rfl | exact Or.inr rfl)) pgs_nil))) (pss_cons (ps_if (pt_not (pt_val (pe_call G_within hr_within (by rfl) D_within.ad D_within.fn.kp D_within.bd .nil pass0 (pa_cons (pv 4) (pa_cons (pv 2) (pa_cons (pe_op op_sub (pe_callB (lenK K) (by rfl) T.len PySem.boot_len (pa_cons (pe_ix (ixT K) (pv 0) pe_int (fun _ _ => rfl)) pa_nil)) pe_int) pa_nil)))))) (pss_one (ps_ret (pe_tup (pa_cons pe_str (pa_cons (pv 3) pa_nil))))) pss_nil)
      (pss_one (ps_set (i := 2) nd rfl (by first | exact Or.inl rfl | exact Or.inr rfl) (pe_op op_add (pv 4) pe_int)))))
      (pss_one (ps_ret pe_non))))), ?_⟩
    refine tSeq_go ?_
    refine ⟨_, rfl, _, _, _, _, rfl, hd, kit_tup d, _, rfl, ?_⟩
    have other : isTup d = false → errD ts.length d = .str "form" := fun h => by
      cases d <;> first | rfl | cases h
    refine ite2 (fun hh => ?_) (fun hh => ?_)
    · have hf : isTup d = false := by simpa using hh
      have e := other hf
      refine k (.str "form") H (Same.refl _) ?_
      rw [e]
      exact .str _
    obtain ⟨ds, rfl⟩ : ∃ ds, d = .tuple ds := by
      cases d with
      | tuple ds => exact ⟨ds, rfl⟩
      | _ => exact absurd (by rfl) hh
    obtain ⟨ax, xs, rfl, hax, hxs⟩ := od_tup hd
    have hxl : xs.length = ds.length := dpAll_len hxs
    dsimp only [tNext]
    refine tSeq_go ?_
    dsimp only [tAsg, tC, gName]
    refine tSeq_go ?_
    refine ⟨_, rfl, ax, xs, rfl, hax, ?_⟩
    refine for_it (walk_enumT (xs := xs)) (fun i σ H' => ∃ (l : Int) (v3 v4 : Option V), σ = [some (.ref a), some (.ref ax), some (.int l), v3, v4] ∧ Same H H' ∧
      errG ts.length ds 0 0 = errG ts.length (ds.drop i) i l) ?_ ?_ ?_ ?_
    · exact ⟨0, none, none, rfl, Same.refl _, by rw [List.drop_zero]⟩
    · rintro i σ H' _ ⟨l, v3, v4, rfl, sH, _⟩
      exact sqT_same sH hax
    · rintro i x σ H' H3 hi ⟨l, v3, v4, rfl, sH, he⟩ ⟨q, y, z, rfl, hq, rfl, hy, hz⟩
      have hy' : some (V.int i) = some y := hy
      cases hy'
      have hz' : xs[i]? = some z := hz
      obtain ⟨dd, hdd, hzd⟩ := dpAll_get hxs hz'
      have hdrop : ds.drop i = dd :: ds.drop (i + 1) := by
        obtain ⟨h1, h2⟩ := List.getElem?_eq_some_iff.mp hdd
        rw [← h2]
        exact List.drop_eq_getElem_cons h1
      have sq := same_new (o := .tup [.int i, z]) hq
      have s3 := sH.trans sq
      refine ⟨q, _, rfl, SqT.of upd_same, rfl, _, _, rfl, _, _, rfl, rfl, ?_⟩
      dsimp only
      refine tSeq_go ?_
      refine ⟨_, rfl, _, rfl, _, rfl, a, _, _, _, rfl, rfl, sqT_same s3 ha, atI_nat (j := 1) rfl, c, ys, rfl, .inr (sqT_same s3 hc), _, _, rfl, rfl, ?_⟩
      refine ⟨z, dd, l, (ys.length : Int) - 1, rfl, .inl (dp_same s3 _ hzd), _, rfl, ?_⟩
      rw [hdrop] at he
      rw [hyl]
      refine ite2 (fun hh2 => ?_) (fun hh2 => ?_)
      · have hb : inB dd l ((ts.length : Int) - 1) = false := by simpa using hh2
        refine ⟨_, rfl, by show 2 ≤ sizeLine; decide, fun p hp => ?_⟩
        have sp := same_new (o := .tup [.str "item", .int i]) hp
        refine k (.ref p) _ (s3.trans sp) ?_
        show Dp K _ _ (errG ts.length ds 0 0)
        rw [he, errG_bad hb]
        exact dp_item upd_same
      · have hb : inB dd l ((ts.length : Int) - 1) = true := by simpa using hh2
        cases dd with
        | int zz =>
          cases hzd
          refine ⟨_, rfl, _, _, rfl, rfl, ?_⟩
          refine ⟨_, _, _, rfl, s3, ?_⟩
          rw [he, errG_int hb]
        | bool z => cases hb
        | none => cases hb
        | str z => cases hb
        | list z => cases hb
        | tuple z => cases hb
        | dict z => cases hb
    · rintro σ H' ⟨l, v3, v4, rfl, sH, he⟩
      refine k .non H' sH ?_
      show Dp K _ _ (errG ts.length ds 0 0)
      rw [he, hxl, List.drop_of_length_le (Nat.le_refl _)]
      exact .non
end
end BV

namespace BV
open PySem L2
section
variable {P : Program} {w : World} {K : PySem.W.Frag} {mg : Str → Option Value} {base : Heap}
theorem ok_lerr {f : Addr} {fd : FuncData} (D : Df K mg "_law_error" sLerr pLerr f fd) (T : Bl mg) (U : Bl4 mg) : FnOk P w K mg base CX0 1 f fd pLerr (spErr K) := by
  refine D.fn.ok scLerr (fun vs H Q E h => ?_) (fun cdv A outer s H vs Q E hr h => ?_)
  · obtain ⟨v, x, n, ts, d, rfl, _⟩ := h
    rfl
  · obtain ⟨v, x, n, ts, d, rfl, hw, hd, k⟩ := h
    have nd := scLerr.nd
    obtain ⟨a, c, ys, rfl, ha, hc, hys⟩ := dp_web hw
    have hyl : ys.length = ts.length := by rw [dpAll_len hys, List.length_map]
    refine ⟨_, (pss_cons (ps_if (pt_not (pt_val (pe_callB (isiD K) (by rfl) U.isinstance (by decide +kernel) (pa_cons (pv 1) (pa_cons (pe_bltn (v := .ty "tuple") (by rfl) T.tuple (by decide +kernel) rfl) pa_nil))))) (pss_one (ps_ret pe_str)) pss_nil)
      (pss_cons (ps_for PassesOwn.never rfl (enumT K (by rfl) T.enumerate (pa_cons (pv 1) pa_nil)) (pgT K rfl (pgs_cons (pg_name (i := 2) nd rfl (by first | exact Or.inl rfl | exact Or.inr rfl)) (pgs_cons (pg_name (i := 3) nd rfl (by first | exact Or.inl rfl | exact Or.inr rfl)) pgs_nil))) (pss_cons (ps_if (PW.pt (pw_or (pt_val (pe_callB (isiD K) (by rfl) U.isinstance (by decide +kernel) (pa_cons (pv 3) (pa_cons (pe_bltn (v := .ty "bool") (by rfl) U.bool (by decide +kernel) rfl) pa_nil)))) (pw_or (pt_not (pt_val (pe_callB (isiD K) (by rfl) U.isinstance (by decide +kernel) (pa_cons (pv 3) (pa_cons (pe_bltn (v := .ty "int") (by rfl) T.int (by decide +kernel) rfl) pa_nil))))) (pw_or (pt_cmpR op_lt (pv 3) pe_int (nomark _)) (pw_or1 (pt_cmpR op_ge (pv 3) (pe_callB (lenK K) (by rfl) T.len PySem.boot_len (pa_cons (pe_ix (ixT K) (pv 0) pe_int (fun _ _ => rfl)) pa_nil)) (nomark _))))))) (pss_one (ps_ret (pe_tup (pa_cons pe_str (pa_cons (pv 2) pa_nil))))) pss_nil)
      (pss_one (ps_if (PW.pt (pw_and (pt_cmpR op_gt (pv 2) pe_int (nomark _)) (pw_and1 (pt_cmpR op_le (pv 3) (pe_ix (ixT K) (pv 1) (pe_op op_sub (pv 2) pe_int) (fun _ _ => rfl)) (nomark _))))) (pss_one (ps_ret (pe_tup (pa_cons pe_str (pa_cons (pv 2) pa_nil))))) pss_nil))))
      (pss_one (ps_ret pe_non)))), ?_⟩
    refine tSeq_go ?_
    refine ⟨_, rfl, _, _, _, _, rfl, hd, kit_tup d, _, rfl, ?_⟩
    have other : isTup d = false → errD ts.length d = .str "form" := fun h => by
      cases d <;> first | rfl | cases h
    refine ite2 (fun hh => ?_) (fun hh => ?_)
    · have hf : isTup d = false := by simpa using hh
      have e := other hf
      refine k (.str "form") H (Same.refl _) ?_
      rw [e]
      exact .str _
    obtain ⟨ds, rfl⟩ : ∃ ds, d = .tuple ds := by
      cases d with
      | tuple ds => exact ⟨ds, rfl⟩
      | _ => exact absurd (by rfl) hh
    obtain ⟨ax, xs, rfl, hax, hxs⟩ := od_tup hd
    have hxl : xs.length = ds.length := dpAll_len hxs
    dsimp only [tNext]
    refine tSeq_go ?_
    refine ⟨_, rfl, ax, xs, rfl, hax, ?_⟩
    refine for_it (walk_enumT (xs := xs)) (fun i σ H' => ∃ (l : Int) (v3 v4 : Option V), σ = [some (.ref a), some (.ref ax), v3, v4] ∧ Same H H' ∧
      errG ts.length ds 0 0 = errG ts.length (ds.drop i) i l ∧ (i = 0 → l = 0) ∧ (∀ j, i = j + 1 → ∃ zp, xs[j]? = some (.int zp) ∧ l = zp + 1) ∧ 0 ≤ l) ?_ ?_ ?_ ?_
    · exact ⟨0, none, none, rfl, Same.refl _, by rw [List.drop_zero], fun _ => rfl, fun j hj => by omega, Int.le_refl _⟩
    · rintro i σ H' _ ⟨l, v3, v4, rfl, sH, _⟩
      exact sqT_same sH hax
    · rintro i x σ H' H3 hi ⟨l, v3, v4, rfl, sH, he, hl0, hlp, hl⟩ ⟨q, y, z, rfl, hq, rfl, hy, hz⟩
      have hy' : some (V.int i) = some y := hy
      cases hy'
      have hz' : xs[i]? = some z := hz
      obtain ⟨dd, hdd, hzd⟩ := dpAll_get hxs hz'
      have hdrop : ds.drop i = dd :: ds.drop (i + 1) := by
        obtain ⟨h1, h2⟩ := List.getElem?_eq_some_iff.mp hdd
        rw [← h2]
        exact List.drop_eq_getElem_cons h1
      have sq := same_new (o := .tup [.int i, z]) hq
      have s3 := sH.trans sq
      rw [hdrop] at he
      refine ⟨q, _, rfl, SqT.of upd_same, rfl, _, _, rfl, _, _, rfl, rfl, ?_⟩
      have hod : Od K (upd H' q (.tup [.int i, z])) z dd := Od.same s3 (.inl hzd)
      dsimp only
      refine tSeq_go ?_
      refine tIfS_t (fun t H4 => H4 = upd H' q (.tup [.int i, z]) ∧ (t = true → inB dd l ((ts.length : Int) - 1) = false) ∧ (t = false → ∃ zz, dd = .int zz ∧ 0 ≤ zz ∧ zz < ts.length)) ?_ ?_ (fun cont => ?_)
      · rintro H4 ⟨rfl, hb, _⟩
        have hb := hb rfl
        refine ⟨_, rfl, by show 2 ≤ sizeLine; decide, fun p hp => ?_⟩
        have sp := same_new (o := .tup [.str "item", .int i]) hp
        refine k (.ref p) _ (s3.trans sp) ?_
        show Dp K _ _ (errG ts.length ds 0 0)
        rw [he, errG_bad hb]
        exact dp_item upd_same
      · rintro H4 ⟨rfl, _, hg⟩
        obtain ⟨zz, rfl, hz0, hz1⟩ := hg rfl
        cases hzd
        dsimp only [tNext]
        refine tIfS_t (fun t H4 => H4 = upd H' q (.tup [.int i, .int zz]) ∧ inB (.int zz) l ((ts.length : Int) - 1) = !t) ?_ ?_ (fun cont => ?_)
        · rintro H4 ⟨rfl, hb⟩
          refine ⟨_, rfl, by show 2 ≤ sizeLine; decide, fun p hp => ?_⟩
          have sp := same_new (o := .tup [.str "item", .int i]) hp
          refine k (.ref p) _ (s3.trans sp) ?_
          show Dp K _ _ (errG ts.length ds 0 0)
          rw [he, errG_bad hb]
          exact dp_item upd_same
        · rintro H4 ⟨rfl, hb⟩
          have hb : inB (.int zz) l ((ts.length : Int) - 1) = true := hb
          refine ⟨zz + 1, _, _, rfl, s3, ?_, by omega, fun j hj => ?_, by omega⟩
          · rw [he, errG_int hb]
          · obtain rfl : i = j := by omega
            exact ⟨zz, hz', rfl⟩
        · refine ⟨_, rfl, _, _, rfl, rfl, _, rfl, ?_⟩
          cases i with
          | zero =>
            refine iteF ?_
            refine cont _ _ ⟨rfl, ?_⟩
            rw [hl0 rfl]
            show (decide ((0 : Int) ≤ zz) && decide (zz ≤ (ts.length : Int) - 1)) = true
            rw [decide_eq_true hz0, decide_eq_true (by omega)]
            rfl
          | succ j =>
            obtain ⟨zp, hzp, rfl⟩ := hlp j rfl
            refine ite2 (fun hh2 => ?_) (fun hh2 => ?_)
            · refine ⟨_, rfl, _, rfl, _, rfl, _, _, rfl, rfl, ax, xs, _, .int zp, rfl, rfl, sqT_same s3 hax, ?_, _, _, rfl, rfl, _, rfl, ?_⟩
              · rw [show ((j + 1 : Nat) : Int) - 1 = (j : Int) by omega]
                exact atI_nat hzp
              · refine cont _ _ ⟨rfl, ?_⟩
                show (decide (zp + 1 ≤ zz) && decide (zz ≤ (ts.length : Int) - 1)) = !decide (zz ≤ zp)
                rw [decide_eq_true (show zz ≤ (ts.length : Int) - 1 by omega), Bool.and_true]
                by_cases e : zz ≤ zp
                · rw [decide_eq_true e, decide_eq_false (by omega)]
                  rfl
                · rw [decide_eq_false e, decide_eq_true (by omega)]
                  rfl
            · exact absurd (decide_eq_true (show (0 : Int) < ((j + 1 : Nat) : Int) by omega)) hh2
      · refine ⟨_, rfl, _, _, _, _, rfl, hod, kit_bool dd, _, rfl, ?_⟩
        have notInt : ∀ (e : isBool dd = false) (e2 : isIntB dd = false), inB dd l ((ts.length : Int) - 1) = false := fun e e2 => by
          cases dd <;> first | rfl | cases e2
        refine ite2 (fun hh2 => ?_) (fun hh2 => ?_)
        · refine cont _ _ ⟨rfl, fun _ => ?_, fun z => by cases z⟩
          cases dd <;> first | rfl | cases hh2
        refine ⟨_, rfl, _, _, _, _, rfl, hod, kit_int dd, _, rfl, ?_⟩
        refine ite2 (fun hh3 => ?_) (fun hh3 => ?_)
        · refine cont _ _ ⟨rfl, fun _ => notInt (Bool.eq_false_iff.mpr hh2) (by simpa using hh3), fun z => by cases z⟩
        obtain ⟨zz, rfl⟩ : ∃ zz, dd = .int zz := by
          cases dd with
          | int zz => exact ⟨zz, rfl⟩
          | bool zz => exact absurd rfl hh2
          | _ => exact absurd rfl hh3
        cases hzd
        refine ⟨_, rfl, _, _, rfl, rfl, _, rfl, ?_⟩
        refine ite2 (fun hh4 => ?_) (fun hh4 => ?_)
        · have h5 : zz < 0 := of_decide_eq_true hh4
          refine cont _ _ ⟨rfl, fun _ => ?_, fun z => by cases z⟩
          show (decide (l ≤ zz) && decide (zz ≤ (ts.length : Int) - 1)) = false
          rw [decide_eq_false (by omega)]
          rfl
        · have h5 : 0 ≤ zz := by
            have : ¬ zz < 0 := fun z => hh4 (decide_eq_true z)
            omega
          refine ⟨_, rfl, _, rfl, a, _, _, _, rfl, rfl, sqT_same s3 ha, atI_nat (j := 1) rfl, c, ys, rfl, .inr (sqT_same s3 hc), _, _, rfl, rfl, _, rfl, ?_⟩
          refine cont _ _ ⟨rfl, fun z => ?_, fun z => ⟨zz, rfl, h5, ?_⟩⟩
          · have h6 := of_decide_eq_true z
            show (decide (l ≤ zz) && decide (zz ≤ (ts.length : Int) - 1)) = false
            rw [decide_eq_false (show ¬ zz ≤ (ts.length : Int) - 1 by omega), Bool.and_false]
          · have h6 := of_decide_eq_false z
            omega
    · rintro σ H' ⟨l, v3, v4, rfl, sH, he, _⟩
      refine k .non H' sH ?_
      show Dp K _ _ (errG ts.length ds 0 0)
      rw [he, hxl, List.drop_of_length_le (Nat.le_refl _)]
      exact .non
end
end BV

namespace BV
open PySem L2
abbrev sCut : Stmt := top 6
abbrev nCut : List Str := ["web", "places", "tie", "one", "other"]
theorem scCut : FnScope nCut ["web", "places"] (defScope sCut) := ⟨rfl, rfl, rfl, by decide +kernel, rfl, by decide +kernel, by decide +kernel⟩
abbrev sSome : Stmt := top 13
abbrev nSome : List Str := ["_law_box_here", "_law_many", "_law_often", "_law_own"]
abbrev pSome : List Str := ["_law_box_here", "_law_many"]
theorem scSome : FnScope nSome pSome (defScope sSome) := ⟨rfl, rfl, rfl, by decide +kernel, rfl, by decide +kernel, by decide +kernel⟩
theorem flat_ints : ∀ ms : List Int, (ms.map V.int).all flatV = true
  | [] => rfl
  | m :: ms => by
    rw [List.map_cons, List.all_cons, flat_ints ms]
    rfl
theorem flat_nats (ms : List Nat) : (ms.map fun (k : Nat) => V.int k).all flatV = true := by
  have e3 : (ms.map fun (k : Nat) => V.int k) = (ms.map fun (k : Nat) => (k : Int)).map V.int := by rw [List.map_map]; rfl
  rw [e3]
  exact flat_ints _
theorem inv_nats (k : Nat) : ∀ ks : List Nat, inV (.int (k : Int)) (ks.map fun (k : Nat) => V.int k) = decide (k ∈ ks)
  | [] => by simp [inV]
  | x :: ks => by
    have ih := inv_nats k ks
    have e : (((x : Nat) : Int) == (k : Int)) = decide (k = x) := by
      by_cases h : k = x
      · subst h
        simp
      · rw [decide_eq_false h]
        exact beq_eq_false_iff_ne.mpr fun z => h (by omega)
    show ((((x : Nat) : Int) == (k : Int)) || inV (.int (k : Int)) (ks.map fun (k : Nat) => V.int k)) = _
    rw [e, ih, ← Bool.decide_or]
    congr 1
    simp
def crosses (ps : List Nat) (t : Tie) : Bool := !decide (decide (t.1 ∈ ps) = decide (t.2 ∈ ps))
def cutL (ts : List Tie) (ps : List Nat) : List Nat := (List.range ts.length).filter fun k => match ts[k]? with
  | some t => crosses ps t
  | none => false
theorem lot_dp {K : PySem.W.Frag} {H : Hp} {a : Addr} {ks : List Nat} (h : SqT K H a (ks.map fun (k : Nat) => V.int k)) : Dp K H (.ref a) (lotD ks) := by
  refine .tup h ?_
  have e2 : (ks.map fun (k : Nat) => PyData.int k) = (ks.map fun (k : Nat) => (k : Int)).map PyData.int := by rw [List.map_map]; rfl
  have e3 : (ks.map fun (k : Nat) => V.int k) = (ks.map fun (k : Nat) => (k : Int)).map V.int := by rw [List.map_map]; rfl
  rw [e2, e3]
  exact dpAll_ints _
def spCut (K : PySem.W.Frag) : Sp := fun vs H Q _ => ∃ (v pv : V) (n : Nat) (ts : List Tie) (ps : List Nat), vs = [v, pv] ∧ Dp K H v (webD n ts) ∧ Dp K H pv (lotD ps) ∧ ts.length ≤ 3000 ∧
  ∀ (u : V) H', Same H H' → Dp K H' u (lotD (cutL ts ps)) → Q u H'
def spSome (K : PySem.W.Frag) : Sp := fun vs H Q _ => ∃ (b g : Addr) (many : Nat), vs = [.ref b, .int many] ∧ Box H b g ∧ many ≤ 1000 ∧
  ∀ (u : V) (ks : List Nat) H', Kp b g H H' → Box H' b g → Dp K H' u (lotD ks) → (∀ k ∈ ks, k < many) → ks.Pairwise (· < ·) → Q u H'
section
variable {P : Program} {w : World} {K : PySem.W.Frag} {mg : Str → Option Value} {base : Heap}
theorem ok_cut {f : Addr} {fd : FuncData} (D : Df K mg "cut_of" sCut ["web", "places"] f fd) (T : Bl mg) : FnOk P w K mg base CX0 1 f fd ["web", "places"] (spCut K) := by
  refine D.fn.ok scCut (fun vs H Q E h => ?_) (fun cdv A outer s H vs Q E hr h => ?_)
  · obtain ⟨v, pv, n, ts, ps, rfl, _⟩ := h
    rfl
  · obtain ⟨v, pv, n, ts, ps, rfl, hw, hp, hl, k⟩ := h
    have nd := scCut.nd
    obtain ⟨a, c, ys, rfl, ha, hc, hys⟩ := dp_web hw
    have hyl : ys.length = ts.length := by rw [dpAll_len hys, List.length_map]
    obtain ⟨ap, rfl, hap⟩ := dp_lotI hp
    refine ⟨_, (pss_one (ps_ret (pe_callTy (tupleK K) (by rfl) T.tuple (by decide +kernel) (pa_cons (pe_lc (own := [("tie", 2), ("one", 3), ("other", 4)]) (g := (gTup K 2 (gCons (gName 2) (gCons (gTup K 2 (gCons (gName 3) (gCons (gName 4) gNil))) gNil)))) rfl nd (enumT K (by rfl) T.enumerate (pa_cons (pe_ix (ixT K) (pv 0) pe_int (fun _ _ => rfl)) pa_nil)) (blkOk_by (own := [("tie", 2), ("one", 3), ("other", 4)]) (N := nCut) (sc := defScope sCut) (by decide +kernel)) (fun _ _ _ _ _ => (pgT K rfl (pgs_cons (pg_name (i := 2) nd rfl (by first | exact Or.inl rfl | exact Or.inr rfl)) (pgs_cons (pgT K rfl (pgs_cons (pg_name (i := 3) nd rfl (by first | exact Or.inl rfl | exact Or.inr rfl)) (pgs_cons (pg_name (i := 4) nd rfl (by first | exact Or.inl rfl | exact Or.inr rfl)) pgs_nil))) pgs_nil)))) (fun _ _ _ _ _ => (pts_one (pt_cmpR op_ne (pe_cmpR (opIn K) (pv 3) (pv 1) rfl) (pe_cmpR (opIn K) (pv 4) (pv 1) rfl) (nomark _)))) (fun _ _ _ _ _ => (pv 2))) pa_nil)))), ?_⟩
    refine ⟨_, rfl, a, _, _, _, rfl, rfl, ha, atI_nat (j := 1) rfl, c, ys, rfl, hc, fun E1 hE1 => ?_⟩
    refine lc_run (walk_enumT (xs := ys)) hE1 (fun i acc _ => acc = ((List.range i).filter fun k => match ts[k]? with | some t => crosses ps t | none => false).map fun (k : Nat) => V.int k) ?_ ?_ ?_ ?_
    · exact fun H' s => sqT_same s hc
    · rfl
    · rintro i x acc H2 H' hi hacc e s r ⟨q, y, z, rfl, hq, rfl, hy, hz⟩
      have hit : i < ts.length := by omega
      have ht : ts[i]? = some ts[i] := by simp [hit]
      have hy' : some (V.int i) = some y := hy
      cases hy'
      have hz' : ys[i]? = some z := hz
      obtain ⟨dd, hdd, hzd⟩ := dpAll_get hys hz'
      rw [List.getElem?_map, ht] at hdd
      cases hdd
      obtain ⟨az, rfl, haz⟩ := dp_tie hzd
      have sq := same_new (o := .tup [.int i, .ref az]) hq
      refine ⟨q, _, rfl, SqT.of upd_same, rfl, _, _, rfl, _, _, rfl, az, _, rfl, sqT_same (s.trans sq) haz, rfl, _, _, rfl, _, _, rfl, rfl, rfl, rfl, ?_⟩
      refine ⟨_, rfl, _, rfl, ap, _, rfl, .inr (sqT_same (s.trans sq) hap), rfl, flat_nats ps, ?_⟩
      refine ⟨_, rfl, _, rfl, ap, _, rfl, .inr (sqT_same (s.trans sq) hap), rfl, flat_nats ps, rfl, _, rfl, ?_⟩
      have r' : acc = ((List.range i).filter fun k => match ts[k]? with | some t => crosses ps t | none => false).map fun (k : Nat) => V.int k := r
      have hal : acc.length ≤ i := by
        rw [r', List.length_map]
        exact Nat.le_trans (List.length_filter_le _ _) (by rw [List.length_range]; exact Nat.le_refl _)
      have hc2 : (match ts[i]? with | some t => crosses ps t | none => false) = crosses ps ts[i] := by rw [ht]
      have key : (!decide (V.bl (inV (V.int ((ts[i]).1 : Int)) (ps.map fun (k : Nat) => V.int k)) = V.bl (inV (V.int ((ts[i]).2 : Int)) (ps.map fun (k : Nat) => V.int k)))) = crosses ps ts[i] := by
        rw [inv_nats, inv_nats]
        unfold crosses
        congr 1
        exact decide_eq_decide.mpr ⟨fun z => V.bl.inj z, fun z => by rw [z]⟩
      refine ite2 (fun hh => ?_) (fun hh => ?_)
      · refine ⟨_, rfl, ?_⟩
        refine lc_add hacc e sq (by omega) ?_
        rw [range_filter_succ, if_pos (by rw [hc2, ← key]; exact hh), List.map_append, r']
        rfl
      · refine lc_skip hacc e sq ?_
        rw [range_filter_succ, if_neg (by rw [hc2, ← key]; exact hh), List.append_nil]
        exact r'
    · rintro acc H2 h1 s2 r
      have r' : acc = ((List.range ys.length).filter fun k => match ts[k]? with | some t => crosses ps t | none => false).map fun (k : Nat) => V.int k := r
      rw [hyl] at r'
      refine ⟨E1, _, rfl, .inl ⟨SqL.of h1, fun u hu => ?_⟩⟩
      refine k _ _ (s2.trans (same_new hu)) (lot_dp (SqT.of ?_))
      rw [upd_same, r']
      rfl
theorem ok_some {f f1 f2 : Addr} {fd fd1 fd2 : FuncData} (D : Df K mg "_law_some" sSome pSome f fd) (T : Bl mg)
    (D_draw : Df K mg "_law_draw" sDraw ["_law_box_here", "_law_many"] f1 fd1) (D_pick : Df K mg "_law_pick" sPick nPick f2 fd2) : FnOk P w K mg base CX0 3 f fd pSome (spSome K) := by
  have G_draw : FnOk P w K mg base CX0 1 f1 fd1 ["_law_box_here", "_law_many"] spDraw := ok_draw D_draw T
  have G_pick : FnOk P w K mg base CX0 2 f2 fd2 nPick (spPick K) := ok_pick D_pick T D_draw
  refine D.fn.ok scSome (fun vs H Q E h => ?_) (fun cdv A outer s H vs Q E hr h => ?_)
  · obtain ⟨b, g, many, rfl, _⟩ := h
    rfl
  · obtain ⟨b, g, many, rfl, hB, hm, k⟩ := h
    have hr_pick : Room 2 _ := hr
    have hr_draw : Room 1 _ := hr.mono (by decide)
    have nd := scSome.nd
    refine ⟨_, (pss_cons (ps_set (i := 2) nd rfl (by first | exact Or.inl rfl | exact Or.inr rfl) (pe_call G_pick hr_pick (by rfl) D_pick.ad D_pick.fn.kp D_pick.bd .nil pass0 (pa_cons (pv 0) (pa_cons (pe_lst (pa_cons pe_int (pa_cons pe_int (pa_cons pe_int (pa_cons pe_int pa_nil))))) pa_nil))))
      (pss_one (ps_ret (pe_callTy (tupleK K) (by rfl) T.tuple (by decide +kernel) (pa_cons (pe_lc (own := [("_law_own", 3)]) (g := (gName 3)) rfl nd (pi_range1 rfl T.range (pa_cons (pv 1) pa_nil)) (blkOk_by (own := [("_law_own", 3)]) (N := nSome) (sc := defScope sSome) (by decide +kernel)) (fun _ _ _ _ _ => (pg_name (i := 3) nd rfl (by first | exact Or.inl rfl | exact Or.inr rfl))) (fun _ _ _ _ _ => (pts_one (pt_cmpR op_eq (pe_call G_draw hr_draw (by rfl) D_draw.ad D_draw.fn.kp D_draw.bd .nil pass0 (pa_cons (pv 0) (pa_cons (pv 2) pa_nil))) pe_int (nomark _)))) (fun _ _ _ _ _ => (pv 3))) pa_nil))))), ?_⟩
    refine ⟨_, rfl, by show 4 ≤ sizeLine; decide, fun q hq => ?_⟩
    obtain ⟨qb, qg⟩ := bx_ne hB hq
    have s1 := same_new (o := .lst [.int 2, .int 2, .int 3, .int 5]) hq
    refine ⟨b, g, q, _, rfl, SqL.of upd_same, qb, qg, (by show 0 < 4; decide), (by show 4 < 1000000; decide), hB.same s1, fun j u H3 hj kp3 B3 => ?_⟩
    obtain ⟨often, rfl, ho1, ho2⟩ : ∃ z : Int, u = .int z ∧ 0 < z ∧ z < 10 := by
      have hm := List.mem_of_getElem? hj
      simp only [List.mem_cons, List.not_mem_nil, or_false] at hm
      rcases hm with rfl | rfl | rfl | rfl <;> exact ⟨_, rfl, by decide, by decide⟩
    have k3 := (Kp.same s1).trans kp3
    refine ⟨_, rfl, _, rfl, by omega, by omega, fun E1 hE1 => ?_⟩
    refine lc_runB (walk_range (lo := 0) (n := (many : Int).toNat)) hE1 B3 (fun i acc _ => ∃ ks : List Nat, acc = (ks.map fun (k : Nat) => V.int k) ∧ (∀ k ∈ ks, k < i) ∧ ks.Pairwise (· < ·) ∧ ks.length ≤ i) ?_ ?_ ?_ ?_
    · exact fun _ _ _ => trivial
    · exact ⟨[], rfl, by simp, .nil, Nat.le_refl _⟩
    · rintro i x acc H2 H' nb ng hi hacc e kk hBx ⟨ks, rfl, h1, h2, h3⟩ ⟨rfl, rfl⟩
      dsimp only
      rw [Int.zero_add]
      have hi2 : i < 1000 := by omega
      refine ⟨rfl, ?_⟩
      refine ⟨_, rfl, _, rfl, b, g, often, rfl, ho1, by omega, hBx, fun r H4 r0 r1 kp4 hB4 => ?_⟩
      refine ⟨rfl, _, rfl, ?_⟩
      refine ite2 (fun hh => ?_) (fun hh => ?_)
      · refine ⟨_, rfl, ?_⟩
        refine lc_addB nb ng hacc e kp4 hB4 (by rw [List.length_map]; omega) ⟨ks ++ [i], by rw [List.map_append]; rfl, fun k hk => ?_, ?_, by rw [List.length_append, List.length_singleton]; omega⟩
        · rcases List.mem_append.mp hk with z | z
          · have := h1 k z
            omega
          · have := List.mem_singleton.mp z
            omega
        · rw [List.pairwise_append]
          refine ⟨h2, List.pairwise_singleton _ _, fun k1 hk1 k2 hk2 => ?_⟩
          have e := List.mem_singleton.mp hk2
          have := h1 k1 hk1
          show k1 < k2
          omega
      · exact lc_skipB nb ng hacc e kp4 hB4 ⟨ks, rfl, fun k hk => by have := h1 k hk; omega, h2, by omega⟩
    · rintro acc H2 h1 kk hBx ⟨ks, rfl, h2, h3, h4⟩
      refine ⟨E1, _, rfl, .inl ⟨SqL.of h1, fun u hu => ?_⟩⟩
      have su := same_new (o := .tup (ks.map fun (k : Nat) => V.int k)) hu
      exact k _ ks _ (k3.trans (kk.trans (Kp.same su))) (hBx.same su) (lot_dp (SqT.of upd_same)) (fun k hk => by have := h2 k hk; omega) h3
end
end BV

namespace BV
open PySem L2
abbrev sIscut : Stmt := top 16
abbrev nIscut : List Str := ["_law_box_here", "_law_web_here", "_law_is_named", "_law_places", "_law_rest", "_law_due", "_law_told", "_law_place", "_law_k", "_law_tie"]
abbrev pIscut : List Str := ["_law_box_here", "_law_web_here", "_law_is_named"]
theorem scIscut : FnScope nIscut pIscut (defScope sIscut) := ⟨rfl, rfl, rfl, by decide +kernel, rfl, by decide +kernel, by decide +kernel⟩
def restL (n : Nat) (ps : List Nat) : List Nat := (List.range n).filter fun k => !decide (k ∈ ps)
theorem mem_rest {n k : Nat} {ps : List Nat} (h : k < n) : decide (k ∈ restL n ps) = !decide (k ∈ ps) := by
  unfold restL
  rw [Bool.eq_iff_iff]
  simp [h]
theorem cut_rest {n : Nat} {ts : List Tie} {ps : List Nat} (h : ∀ t ∈ ts, t.1 < t.2 ∧ t.2 < n) : cutL ts (restL n ps) = cutL ts ps := by
  unfold cutL
  refine List.filter_congr fun k hk => ?_
  have hk' := List.mem_range.mp hk
  have ht : ts[k]? = some ts[k] := by simp [hk']
  rw [ht]
  have h2 := h ts[k] (List.getElem_mem hk')
  show crosses _ _ = crosses _ _
  unfold crosses
  rw [mem_rest (show (ts[k]).1 < n by omega), mem_rest h2.2]
  congr 1
  cases decide ((ts[k]).1 ∈ ps) <;> cases decide ((ts[k]).2 ∈ ps) <;> rfl
def spIscut (K : PySem.W.Frag) : Sp := fun vs H Q _ => ∃ (b g : Addr) (v : V) (n : Nat) (ts : List Tie) (nm : Bool), vs = [.ref b, v, .bl nm] ∧ Box H b g ∧ Dp K H v (webD n ts) ∧
  (∀ t ∈ ts, t.1 < t.2 ∧ t.2 < n) ∧ n ≤ 100 ∧ ts.length ≤ 400 ∧ ∀ H', Kp b g H H' → Box H' b g → Q (.bl true) H'
section
variable {P : Program} {w : World} {K : PySem.W.Frag} {mg : Str → Option Value} {base : Heap}
theorem ok_iscut {f f1 f2 f3 f4 : Addr} {fd fd1 fd2 fd3 fd4 : FuncData} (D : Df K mg "_law_is_cut" sIscut pIscut f fd) (T : Bl mg)
    (D_draw : Df K mg "_law_draw" sDraw ["_law_box_here", "_law_many"] f1 fd1) (D_pick : Df K mg "_law_pick" sPick nPick f2 fd2) (D_some : Df K mg "_law_some" sSome pSome f3 fd3)
    (D_cut : Df K mg "cut_of" sCut ["web", "places"] f4 fd4) (K_cut : KBn K fd4 ["web", "places"] 0 ["places", "web"] (fun _ ws => ws.reverse) (fun _ zs => zs.reverse)) :
    FnG P w K mg base CX0 4 f fd pIscut (spIscut K) := by
  have G_some : FnOk P w K mg base CX0 3 f3 fd3 pSome (spSome K) := ok_some D_some T D_draw D_pick
  have G_cut : FnOk P w K mg base CX0 1 f4 fd4 ["web", "places"] (spCut K) := ok_cut D_cut T
  refine okG D.fn scIscut (fun vs H Q E h => ?_) (fun cdv A outer s H vs Q E hgd hr h => ?_)
  · obtain ⟨b, g, v, n, ts, nm, rfl, _⟩ := h
    rfl
  · obtain ⟨b, g, v, n, ts, nm, rfl, hB, hw, hends, hn, hl, k⟩ := h
    have hr_some : Room 3 _ := hr
    have hr_cut : Room 1 _ := hr.mono (by decide)
    have hu64 := hr.units
    have nd := scIscut.nd
    obtain ⟨a, c, ys, rfl, ha, hc, hys⟩ := dp_web hw
    have hyl : ys.length = ts.length := by rw [dpAll_len hys, List.length_map]
    refine ⟨_, (pss_cons (ps_set (i := 3) nd rfl (by first | exact Or.inl rfl | exact Or.inr rfl) (pe_call G_some hr_some (by rfl) D_some.ad D_some.fn.kp D_some.bd .nil pass0 (pa_cons (pv 0) (pa_cons (pe_ix (ixT K) (pv 1) pe_int (fun _ _ => rfl)) pa_nil))))
      (pss_cons (ps_set (i := 4) nd rfl (by first | exact Or.inl rfl | exact Or.inr rfl) (pe_callTy (tupleK K) (by rfl) T.tuple (by decide +kernel) (pa_cons (pe_lc (own := [("_law_place", 7)]) (g := (gName 7)) rfl nd (pi_range1 rfl T.range (pa_cons (pe_ix (ixT K) (pv 1) pe_int (fun _ _ => rfl)) pa_nil)) (blkOk_by (own := [("_law_place", 7)]) (N := nIscut) (sc := defScope sIscut) (by decide +kernel)) (fun _ _ _ _ _ => (pg_name (i := 7) nd rfl (by first | exact Or.inl rfl | exact Or.inr rfl))) (fun _ _ _ _ _ => (pts_one (pt_cmpR (opNotIn K) (pv 7) (pv 3) rfl))) (fun _ _ _ _ _ => (pv 7))) pa_nil)))
      (pss_cons (ps_set (i := 5) nd rfl (by first | exact Or.inl rfl | exact Or.inr rfl) (pe_callTy (tupleK K) (by rfl) T.tuple (by decide +kernel) (pa_cons (pe_lc (own := [("_law_k", 8), ("_law_tie", 9)]) (g := (gTup K 2 (gCons (gName 8) (gCons (gName 9) gNil)))) rfl nd (enumT K (by rfl) T.enumerate (pa_cons (pe_ix (ixT K) (pv 1) pe_int (fun _ _ => rfl)) pa_nil)) (blkOk_by (own := [("_law_k", 8), ("_law_tie", 9)]) (N := nIscut) (sc := defScope sIscut) (by decide +kernel)) (fun _ _ _ _ _ => (pgT K rfl (pgs_cons (pg_name (i := 8) nd rfl (by first | exact Or.inl rfl | exact Or.inr rfl)) (pgs_cons (pg_name (i := 9) nd rfl (by first | exact Or.inl rfl | exact Or.inr rfl)) pgs_nil)))) (fun _ _ _ _ _ => (pts_one (pt_cmpR op_ne (pe_cmpR (opIn K) (pe_ix (ixT K) (pv 9) pe_int (fun _ _ => rfl)) (pv 3) rfl) (pe_cmpR (opIn K) (pe_ix (ixT K) (pv 9) pe_int (fun _ _ => rfl)) (pv 3) rfl) (nomark _)))) (fun _ _ _ _ _ => (pv 8))) pa_nil)))
      (pss_cons (ps_set (i := 6) nd rfl (by first | exact Or.inl rfl | exact Or.inr rfl) (pe_lst (pa_cons (pe_ifExp (pt_val (pv 2)) (pe_callK0 G_cut hr_cut (by rfl) D_cut.ad D_cut.fn.kp K_cut pass0 (pk_cons (pv 3) (pk_cons (pv 1) pk_nil))) (pe_call G_cut hr_cut (by rfl) D_cut.ad D_cut.fn.kp D_cut.bd .nil pass0 (pa_cons (pv 1) (pa_cons (pv 3) pa_nil)))) (pa_cons (pe_call G_cut hr_cut (by rfl) D_cut.ad D_cut.fn.kp D_cut.bd .nil pass0 (pa_cons (pv 1) (pa_cons (pv 4) pa_nil))) pa_nil))))
      (pss_one (ps_ret (pe_cmpR op_eq (pe_callB (reprK K hgd hu64) (by rfl) T.repr (by decide +kernel) (pa_cons (pv 6) pa_nil)) (pe_callB (reprK K hgd hu64) (by rfl) T.repr (by decide +kernel) (pa_cons (pe_lst (pa_cons (pv 5) (pa_cons (pv 5) pa_nil))) pa_nil)) (nomark _)))))))), ?_⟩
    refine ⟨_, rfl, _, rfl, a, _, _, _, rfl, rfl, ha, atI_nat (j := 0) rfl, b, g, n, rfl, hB, by omega, fun pv ps H1 kp1 B1 hp hpl _ => ?_⟩
    have kf1 := KF.of_kp kp1 hB
    have ha1 := sqT_kf kf1 ha
    have hc1 := sqT_kf kf1 hc
    have hys1 := dpAll_kf kf1 _ (still_ties ts) hys
    have hw1 := dp_kf kf1 _ (still_web n ts) hw
    clear ha hc hys hw kf1
    obtain ⟨ap, rfl, hap⟩ := dp_lotI hp
    dsimp only [gName]
    refine at_st [some (.ref b), some (.ref a), some (.bl nm), some (.ref ap), none, none, none, none, none, none] rfl ?_
    refine tSeq_go ?_
    -- the other places
    refine tAsg_by (fun u H' => Same H1 H' ∧ Dp K H' u (lotD (restL n ps))) ?_ (fun cont => ?_)
    · rintro ur H2 ⟨s2, hur⟩
      have ha2 := sqT_same s2 ha1
      have hc2 := sqT_same s2 hc1
      have hys2 := dpAll_same s2 _ hys1
      have hap2 := sqT_same s2 hap
      dsimp only [gName]
      refine at_st [some (.ref b), some (.ref a), some (.bl nm), some (.ref ap), some ur, none, none, none, none, none] rfl ?_
      refine tSeq_go ?_
      -- due
      refine tAsg_by (fun u H' => Same H2 H' ∧ Dp K H' u (lotD (cutL ts ps))) ?_ (fun cont2 => ?_)
      · rintro ud H3 ⟨s3, hud⟩
        dsimp only [gName]
        refine at_st [some (.ref b), some (.ref a), some (.bl nm), some (.ref ap), some ur, some ud, none, none, none, none] rfl ?_
        refine tSeq_go ?_
        have s23 := s2.trans s3
        have shC : Show (.list [lotD (cutL ts ps), lotD (cutL ts ps)]) := by
          have hs : Sm (lotD (cutL ts ps)) 500 1 := (sm_lot fun k hk => by
            have := List.mem_range.mp (List.mem_filter.mp hk).1
            omega).mono (by
              have : (cutL ts ps).length ≤ ts.length := Nat.le_trans (List.length_filter_le _ _) (by rw [List.length_range]; exact Nat.le_refl _)
              omega) (Nat.le_refl _)
          exact sm_show (sm_lst (c := 500) (k := 1) (by
            intro d hd
            simp only [List.mem_cons, List.not_mem_nil, or_false] at hd
            rcases hd with rfl | rfl <;> exact hs)) (by show 2 * 500 + 1 ≤ 15000; decide) (by decide)
        -- told
        refine tAsg_by (fun u H' => Same H3 H' ∧ Dp K H' u (.list [lotD (cutL ts ps), lotD (cutL ts ps)])) ?_ (fun cont3 => ?_)
        · rintro ut H4 ⟨s4, hut⟩
          refine ⟨_, rfl, ut, _, rfl, hut, shC, ?_⟩
          refine ⟨_, rfl, _, rfl, by show 2 ≤ sizeLine; decide, fun q hq => ?_⟩
          have s5 := same_new (o := .lst [ud, ud]) hq
          have hud5 := dp_same (s4.trans s5) _ hud
          refine ⟨.ref q, .list [lotD (cutL ts ps), lotD (cutL ts ps)], rfl, .lst (SqL.of upd_same) (.cons hud5 (.cons hud5 .nil)), shC, rfl, ?_⟩
          have s15 := s23.trans (s4.trans s5)
          rw [decide_eq_true rfl]
          exact k _ (kp1.trans (Kp.same s15)) (B1.same s15)
        · refine tIf_by (fun u H' => Same H3 H' ∧ Dp K H' u (lotD (cutL ts ps))) ?_ (fun cont4 => ?_)
          · rintro u H4 ⟨s4, hu⟩
            have s14 := s23.trans s4
            refine ⟨_, rfl, _, rfl, .ref a, ur, n, ts, restL n ps, rfl, dp_same s14 _ hw1, dp_same (s3.trans s4) _ hur, by omega, fun u2 H5 s5 hu2 => ?_⟩
            rw [cut_rest hends] at hu2
            refine ⟨by show 2 ≤ sizeLine; decide, fun q hq => ?_⟩
            have s6 := same_new (o := .lst [u, u2]) hq
            exact cont3 _ _ ⟨s4.trans (s5.trans s6), .lst (SqL.of upd_same) (.cons (dp_same (s5.trans s6) _ hu) (.cons (dp_same s6 _ hu2) .nil))⟩
          · refine ⟨_, rfl, nm, rfl, ?_⟩
            refine ite2 (fun hh => ?_) (fun hh => ?_)
            · exact ⟨_, rfl, _, rfl, rfl, .ref a, .ref ap, n, ts, ps, rfl, dp_same s23 _ hw1, dp_same s23 _ hp, by omega, fun u2 H5 s5 hu2 => cont4 _ _ ⟨s5, hu2⟩⟩
            · exact ⟨_, rfl, _, rfl, .ref a, .ref ap, n, ts, ps, rfl, dp_same s23 _ hw1, dp_same s23 _ hp, by omega, fun u2 H5 s5 hu2 => cont4 _ _ ⟨s5, hu2⟩⟩
      · refine ⟨_, rfl, a, _, _, _, rfl, rfl, ha2, atI_nat (j := 1) rfl, c, ys, rfl, hc2, fun E1 hE1 => ?_⟩
        refine lc_run (walk_enumT (xs := ys)) hE1 (fun i acc _ => acc = ((List.range i).filter fun k => match ts[k]? with | some t => crosses ps t | none => false).map fun (k : Nat) => V.int k) ?_ ?_ ?_ ?_
        · exact fun H' s => sqT_same s hc2
        · rfl
        · rintro i x acc H3 H' hi hacc e s r ⟨q, y, z, rfl, hq, rfl, hy, hz⟩
          have hit : i < ts.length := by omega
          have ht : ts[i]? = some ts[i] := by simp [hit]
          have hy' : some (V.int i) = some y := hy
          cases hy'
          have hz' : ys[i]? = some z := hz
          obtain ⟨dd, hdd, hzd⟩ := dpAll_get hys2 hz'
          rw [List.getElem?_map, ht] at hdd
          cases hdd
          obtain ⟨az, rfl, haz⟩ := dp_tie hzd
          have sq := same_new (o := .tup [.int i, .ref az]) hq
          have haz2 := sqT_same (s.trans sq) haz
          have hap3 := sqT_same (s.trans sq) hap2
          refine ⟨q, _, rfl, SqT.of upd_same, rfl, _, _, rfl, _, _, rfl, rfl, rfl, ?_⟩
          refine ⟨_, rfl, az, _, _, _, rfl, rfl, haz2, atI_nat (j := 0) rfl, _, rfl, ap, _, rfl, .inr hap3, rfl, flat_nats ps, ?_⟩
          refine ⟨_, rfl, az, _, _, _, rfl, rfl, haz2, atI_nat (j := 1) rfl, _, rfl, ap, _, rfl, .inr hap3, rfl, flat_nats ps, rfl, _, rfl, ?_⟩
          have r' : acc = ((List.range i).filter fun k => match ts[k]? with | some t => crosses ps t | none => false).map fun (k : Nat) => V.int k := r
          have hal : acc.length ≤ i := by
            rw [r', List.length_map]
            exact Nat.le_trans (List.length_filter_le _ _) (by rw [List.length_range]; exact Nat.le_refl _)
          have hc2 : (match ts[i]? with | some t => crosses ps t | none => false) = crosses ps ts[i] := by rw [ht]
          have key : (!decide (V.bl (inV (V.int ((ts[i]).1 : Int)) (ps.map fun (k : Nat) => V.int k)) = V.bl (inV (V.int ((ts[i]).2 : Int)) (ps.map fun (k : Nat) => V.int k)))) = crosses ps ts[i] := by
            rw [inv_nats, inv_nats]
            unfold crosses
            congr 1
            exact decide_eq_decide.mpr ⟨fun z => V.bl.inj z, fun z => by rw [z]⟩
          refine ite2 (fun hh => ?_) (fun hh => ?_)
          · refine ⟨_, rfl, ?_⟩
            refine lc_add hacc e sq (by omega) ?_
            rw [range_filter_succ, if_pos (by rw [hc2, ← key]; exact hh), List.map_append, r']
            rfl
          · refine lc_skip hacc e sq ?_
            rw [range_filter_succ, if_neg (by rw [hc2, ← key]; exact hh), List.append_nil]
            exact r'
        · rintro acc H3 h1 s2 r
          have r' : acc = ((List.range ys.length).filter fun k => match ts[k]? with | some t => crosses ps t | none => false).map fun (k : Nat) => V.int k := r
          rw [hyl] at r'
          refine ⟨E1, _, rfl, .inl ⟨SqL.of h1, fun u hu => ?_⟩⟩
          refine cont2 _ _ ⟨s2.trans (same_new hu), lot_dp (SqT.of ?_)⟩
          rw [upd_same, r']
          rfl
    · refine ⟨_, rfl, a, _, _, _, rfl, rfl, ha1, atI_nat (j := 0) rfl, _, rfl, by omega, by omega, fun E1 hE1 => ?_⟩
      refine lc_run (walk_range (lo := 0) (n := (n : Int).toNat)) hE1 (fun i acc _ => acc = ((List.range i).filter fun k => !decide (k ∈ ps)).map fun (k : Nat) => V.int k) ?_ ?_ ?_ ?_
      · exact fun _ _ => trivial
      · rfl
      · rintro i x acc H2 H' hi hacc e s r ⟨rfl, rfl⟩
        dsimp only
        rw [Int.zero_add]
        refine ⟨rfl, ?_⟩
        refine ⟨_, rfl, _, rfl, ap, _, rfl, .inr (sqT_same s hap), rfl, flat_nats ps, _, rfl, ?_⟩
        have r' : acc = ((List.range i).filter fun k => !decide (k ∈ ps)).map fun (k : Nat) => V.int k := r
        have hal : acc.length ≤ i := by
          rw [r', List.length_map]
          exact Nat.le_trans (List.length_filter_le _ _) (by rw [List.length_range]; exact Nat.le_refl _)
        have key : (!inV (V.int (i : Int)) (ps.map fun (k : Nat) => V.int k)) = !decide (i ∈ ps) := by rw [inv_nats]
        refine ite2 (fun hh => ?_) (fun hh => ?_)
        · refine ⟨_, rfl, ?_⟩
          refine lc_add hacc e (Same.refl _) (by omega) ?_
          rw [range_filter_succ, if_pos (by rw [← key]; exact hh), List.map_append, r']
          rfl
        · refine lc_skip hacc e (Same.refl _) ?_
          rw [range_filter_succ, if_neg (by rw [← key]; exact hh), List.append_nil]
          exact r'
      · rintro acc H2 h1 s2 r
        have r' : acc = ((List.range (n : Int).toNat).filter fun k => !decide (k ∈ ps)).map fun (k : Nat) => V.int k := r
        rw [Int.toNat_natCast] at r'
        refine ⟨E1, _, rfl, .inl ⟨SqL.of h1, fun u hu => ?_⟩⟩
        refine cont _ _ ⟨s2.trans (same_new hu), lot_dp (SqT.of ?_)⟩
        rw [upd_same, r']
        rfl
end
end BV

namespace BV
open PySem L2
abbrev sSum : Stmt := top 5
abbrev nSum : List Str := ["lots", "odd", "lot", "tie"]
theorem scSum : FnScope nSum ["lots"] (defScope sSum) := ⟨rfl, rfl, rfl, by decide +kernel, rfl, by decide +kernel, by decide +kernel⟩
theorem nodup_bound : ∀ (L : Nat) (l : List Nat), l.Nodup → (∀ x ∈ l, x < L) → l.length ≤ L
  | 0, l, _, h => by
    cases l with
    | nil => exact Nat.le_refl _
    | cons a r => exact absurd (h a (List.mem_cons_self ..)) (Nat.not_lt_zero _)
  | L + 1, l, hn, h => by
    have h1 := nodup_bound L (l.erase L) (hn.erase L) (fun x hx => by
      have h2 := h x (List.mem_of_mem_erase hx)
      have h3 : x ≠ L := fun e => by
        subst e
        exact (List.Nodup.not_mem_erase hn) hx
      omega)
    by_cases e : L ∈ l
    · rw [List.length_erase_of_mem e] at h1
      omega
    · rw [List.erase_of_not_mem e] at h1
      omega
theorem same_old {H H' : Hp} {l : Addr} {o : HO} (h : H l = none) (s : Same H H') : Same H (upd H' l o) := fun a x e => by
  rw [upd_ne (ne_of_none e h)]
  exact s _ _ e
/-- the odd ones: a dict of the ties met so far -/
def OddS (H : Hp) (d : Addr) (pr : List Nat) : Prop := ∃ (kvs : List (Key × V)) (kl : List Nat), H d = some (.dK kvs) ∧ kvs.map (·.1) = kl.map (fun (k : Nat) => (Sum.inl (k : Int) : Key)) ∧ kl.Nodup ∧
  (∀ j, j ∈ kl ↔ j ∈ pr) ∧ ∀ j : Nat, valV kvs (Sum.inl (j : Int)) = if j ∈ pr then some (.bl (decide (pr.count j % 2 = 1))) else none
theorem OddS.put {H : Hp} {d : Addr} {pr : List Nat} {kvs : List (Key × V)} {kl : List Nat} (t : Nat) (h2 : kvs.map (·.1) = kl.map (fun (k : Nat) => (Sum.inl (k : Int) : Key))) (h3 : kl.Nodup)
    (h4 : ∀ j, j ∈ kl ↔ j ∈ pr) (h5 : ∀ j : Nat, valV kvs (Sum.inl (j : Int)) = if j ∈ pr then some (.bl (decide (pr.count j % 2 = 1))) else none) :
    OddS (upd H d (.dK (putK kvs (Sum.inl (t : Int)) (.bl (!decide (pr.count t % 2 = 1)))))) d (pr ++ [t]) := by
  have hcnt : ∀ j, (pr ++ [t]).count j = pr.count j + if j = t then 1 else 0 := fun j => by
    rw [List.count_append, List.count_singleton]
    by_cases e : j = t
    · subst e
      simp
    · have : ¬ t = j := fun z => e z.symm
      simp [e, this]
  have hval : ∀ j : Nat, valV (putK kvs (Sum.inl (t : Int)) (.bl (!decide (pr.count t % 2 = 1)))) (Sum.inl (j : Int)) = if j ∈ pr ++ [t] then some (.bl (decide ((pr ++ [t]).count j % 2 = 1))) else none := fun j => by
    rw [valV_put, hcnt]
    by_cases e : j = t
    · subst e
      rw [if_pos rfl, if_pos (by simp), if_pos rfl]
      congr 2
      rw [Bool.eq_iff_iff]
      simp only [Bool.not_eq_true', decide_eq_false_iff_not, decide_eq_true_eq]
      omega
    · rw [if_neg (fun z => e (by have := Sum.inl.inj z; omega)), if_neg e, Nat.add_zero, h5]
      have : (j ∈ pr ++ [t]) = (j ∈ pr) := by
        apply propext
        simp [e]
      simp only [this]
  by_cases e : t ∈ pr
  · have hany : (kvs.any fun kv => decide (kv.fst = (Sum.inl (t : Int) : Key))) = true := by
      rw [valV_any, h5, if_pos e]
      rfl
    refine ⟨_, kl, upd_same, ?_, h3, fun j => ?_, hval⟩
    · unfold putK
      rw [if_pos hany, List.map_map, ← h2]
      refine List.map_congr_left fun kv _ => ?_
      show (if kv.fst = Sum.inl (t : Int) then (kv.fst, _) else kv).1 = kv.1
      split <;> rfl
    · rw [h4]
      constructor
      · intro z
        exact List.mem_append_left _ z
      · intro z
        rcases List.mem_append.mp z with z | z
        · exact z
        · rw [List.mem_singleton.mp z]
          exact e
  · refine ⟨_, kl ++ [t], upd_same, ?_, ?_, fun j => ?_, hval⟩
    · rw [putK_new _ (by rw [h5, if_neg e]), List.map_append, List.map_append, h2]
      rfl
    · rw [List.nodup_append]
      refine ⟨h3, List.nodup_cons.mpr ⟨by simp, .nil⟩, fun x hx y hy => ?_⟩
      rw [List.mem_singleton.mp hy]
      exact fun z => e ((h4 t).mp (z ▸ hx))
    · rw [List.mem_append, List.mem_append, h4]
def spSum (K : PySem.W.Frag) : Sp := fun vs H Q _ => ∃ (v : V) (ls : List (List Nat)) (L : Nat), vs = [v] ∧ Dp K H v (.tuple (ls.map lotD)) ∧ (∀ l ∈ ls, ∀ k ∈ l, k < L) ∧ L ≤ 60 ∧ ls.length ≤ 100 ∧
  ∀ (u : V) (ks : List Nat) H', Same H H' → Dp K H' u (lotD ks) → ks.Pairwise (· < ·) → (∀ k, k ∈ ks ↔ ls.flatten.count k % 2 = 1) → Q u H'
section
variable {P : Program} {w : World} {K : PySem.W.Frag} {mg : Str → Option Value} {base : Heap}
theorem ok_sum {f : Addr} {fd : FuncData} (D : Df K mg "sum_of" sSum ["lots"] f fd) (T : Bl mg) (U : Bl4 mg) : FnOk P w K mg base CX0 1 f fd ["lots"] (spSum K) := by
  refine D.fn.ok scSum (fun vs H Q E h => ?_) (fun cdv A outer s H vs Q E hr h => ?_)
  · obtain ⟨v, ls, L, rfl, _⟩ := h
    rfl
  · obtain ⟨v, ls, L, rfl, hv, hls, hL, hll, k⟩ := h
    have hu := hu_of hr
    have nd := scSum.nd
    obtain ⟨al, xs, rfl, hal, hxs⟩ := dp_tup hv
    have hxl : xs.length = ls.length := by rw [dpAll_len hxs, List.length_map]
    refine ⟨_, (pss_cons (ps_set (i := 1) nd rfl (by first | exact Or.inl rfl | exact Or.inr rfl) pe_dnewK)
      (pss_cons (ps_for PassesOwn.never rfl (piT K (pv 0)) (pg_name (i := 2) nd rfl (by first | exact Or.inl rfl | exact Or.inr rfl)) (pss_one (ps_for PassesOwn.never rfl (piT K (pv 2)) (pg_name (i := 3) nd rfl (by first | exact Or.inl rfl | exact Or.inr rfl)) (pss_one (ps_dput hu (pv 1) (pv 3) (pe_not (pe_dget2 hu (pv 1) (pv 3) pe_bl ⟨rfl, rfl, rfl, rfl⟩)) rfl)))))
      (pss_one (ps_ret (pe_callTy (tupleK K) (by rfl) T.tuple (by decide +kernel) (pa_cons (pe_lc (own := [("tie", 3)]) (g := (gName 3)) rfl nd (piL K (pe_callB (call_sortedDI rfl) (by rfl) U.sorted (by decide +kernel) (pa_cons (pv 1) pa_nil))) (blkOk_by (own := [("tie", 3)]) (N := nSum) (sc := defScope sSum) (by decide +kernel)) (fun _ _ _ _ _ => (pg_name (i := 3) nd rfl (by first | exact Or.inl rfl | exact Or.inr rfl))) (fun _ _ _ _ _ => (pts_one (pt_val (pe_dget hu (pv 1) (pv 3) (fun _ _ => rfl))))) (fun _ _ _ _ _ => (pv 3))) pa_nil)))))), ?_⟩
    refine fun d hd => ?_
    have s0 := same_new (o := .dK []) hd
    refine ⟨_, rfl, al, rfl, ⟨_, sqT_same s0 hal⟩, for_it (walk_tup (xs := xs)) (fun i σ H' => ∃ v2 v3 : Option V, σ = [some (.ref al), some (.ref d), v2, v3] ∧ Same H H' ∧ OddS H' d (ls.take i).flatten) ?_ ?_ ?_ ?_⟩
    · exact ⟨none, none, rfl, s0, [], [], upd_same, rfl, .nil, by simp, fun j => by simp [valV_nil]⟩
    · rintro i σ H' _ ⟨v2, v3, rfl, sH, _⟩
      exact sqT_same sH hal
    · rintro i x σ H1 H'' hi ⟨v2, v3, rfl, sH, hO⟩ ⟨rfl, hx⟩
      obtain ⟨dd, hdd, hdp⟩ := dpAll_get hxs hx
      obtain ⟨l, hl, rfl⟩ := get_map hdd
      obtain ⟨ax, rfl, hax⟩ := dp_lotI (dp_same sH _ hdp)
      have htk : (ls.take (i + 1)).flatten = (ls.take i).flatten ++ l := by
        rw [List.take_add_one, hl, List.flatten_append]
        simp
      refine ⟨_, rfl, ax, rfl, ⟨_, hax⟩, for_it (walk_tup (xs := l.map fun (k : Nat) => V.int k)) (fun j σ H' => ∃ v3 : Option V, σ = [some (.ref al), some (.ref d), some (.ref ax), v3] ∧ Same H H' ∧
        SqT K H' ax (l.map fun (k : Nat) => V.int k) ∧ OddS H' d ((ls.take i).flatten ++ l.take j)) ?_ ?_ ?_ ?_⟩
      · exact ⟨v3, rfl, sH, hax, by rw [List.take_zero, List.append_nil]; exact hO⟩
      · rintro j σ H' _ ⟨v3, rfl, _, h2, _⟩
        exact h2
      · rintro j x σ H' H3 hj ⟨v3, rfl, sH', hax', kvs, kl, h1, h2, h3, h4, h5⟩ ⟨rfl, hx2⟩
        obtain ⟨tt, htt, rfl⟩ := get_map hx2
        have htk2 : l.take (j + 1) = l.take j ++ [tt] := by
          rw [List.take_add_one, htt]
          rfl
        have hget : (valV kvs (Sum.inl (tt : Int) : Key)).getD (.bl false) = .bl (decide (((ls.take i).flatten ++ l.take j).count tt % 2 = 1)) := by
          rw [h5]
          by_cases e : tt ∈ (ls.take i).flatten ++ l.take j
          · rw [if_pos e]
            rfl
          · rw [if_neg e, List.count_eq_zero_of_not_mem e]
            rfl
        refine ⟨_, rfl, d, rfl, .inl ⟨kvs, .inl h1⟩, _, rfl, _, DGet.k (k := Sum.inl (tt : Int)) h1, ?_⟩
        rw [hget]
        have hkl : kvs.length = kl.length := by
          have := congrArg List.length h2
          simpa using this
        have hb : kl.length ≤ L := nodup_bound L kl h3 fun y hy => by
          have hm := (h4 y).mp hy
          rcases List.mem_append.mp hm with z | z
          · obtain ⟨l2, hl2, hy2⟩ := List.mem_flatten.mp z
            exact hls l2 (List.mem_of_mem_take hl2) y hy2
          · exact hls l (List.mem_of_getElem? hl) y (List.mem_of_mem_take z)
        refine ⟨_, rfl, _, rfl, _, rfl, d, _, rfl, DPut.k (k := Sum.inl (tt : Int)) h1 (Nat.lt_of_lt_of_le (show kvs.length < 100000 by omega) (by decide)), ?_⟩
        refine ⟨_, rfl, same_old hd sH', ?_, ?_⟩
        · refine sqT_kf (fun z o hz q => ?_) hax'
          have nz : z ≠ d := by
            rintro rfl
            rw [h1] at hz
            obtain ⟨_, rfl | ⟨_, rfl⟩⟩ := q <;> cases hz
          rw [upd_ne nz]
          exact hz
        · rw [htk2, ← List.append_assoc]
          exact OddS.put tt h2 h3 h4 h5
      · rintro σ H3 ⟨v3, rfl, sH', _, hO'⟩
        rw [List.length_map, List.take_of_length_le (Nat.le_refl _), ← htk] at hO'
        exact ⟨_, _, rfl, sH', hO'⟩
    · rintro σ H1 ⟨v2, v3, rfl, sH, hO⟩
      rw [hxl, List.take_of_length_le (Nat.le_refl _)] at hO
      obtain ⟨kvs, kl, h1, h2, h3, h4, h5⟩ := hO
      have hb : kl.length ≤ L := nodup_bound L kl h3 fun y hy => by
        obtain ⟨l2, hl2, hy2⟩ := List.mem_flatten.mp ((h4 y).mp hy)
        exact hls l2 hl2 y hy2
      refine ⟨_, rfl, d, kvs, kl.map fun (k : Nat) => (k : Int), rfl, .inl h1, by rw [h2, List.map_map]; rfl, by rw [List.length_map]; omega, fun ys p hperm hsort hp => ?_⟩
      have sp := same_new (o := .lst (ys.map V.int)) hp
      obtain ⟨ns, rfl⟩ : ∃ ns : List Nat, ys = ns.map fun (k : Nat) => (k : Int) := ⟨ys.map Int.toNat, by
        rw [List.map_map]
        refine (List.map_id ys).symm.trans (List.map_congr_left fun y hy => ?_)
        obtain ⟨j, _, rfl⟩ := List.mem_map.mp (hperm.mem_iff.mp hy)
        show ((j : Int)) = (((j : Int)).toNat : Int)
        omega⟩
      have hnp : ns.Perm kl := by
        have h := hperm.map Int.toNat
        rw [List.map_map, List.map_map] at h
        have e : ∀ l : List Nat, l.map (Int.toNat ∘ fun (k : Nat) => (k : Int)) = l := fun l => by
          refine (List.map_congr_left fun x _ => ?_).trans (List.map_id l)
          show ((x : Int)).toNat = x
          omega
        rw [e, e] at h
        exact h
      have hnn : ns.Nodup := hnp.nodup_iff.mpr h3
      have hlt : ns.Pairwise (· < ·) := by
        have h6 : ns.Pairwise (· ≤ ·) := (List.pairwise_map.mp hsort).imp fun {x y} z => by omega
        refine (h6.and hnn).imp fun {x y} z => ?_
        obtain ⟨z1, z2⟩ := z
        omega
      have hmem : ∀ j, j ∈ ns → j ∈ ls.flatten := fun j hj => (h4 j).mp (hnp.mem_iff.mp hj)
      have hdp := sp _ _ h1
      refine ⟨p, rfl, ⟨_, SqL.of upd_same⟩, fun E1 hE1 => ?_⟩
      refine lc_run (walk_list (xs := (ns.map fun (k : Nat) => (k : Int)).map V.int)) hE1 (fun i acc _ => acc = ((ns.take i).filter fun j => decide (ls.flatten.count j % 2 = 1)).map fun (k : Nat) => V.int k) ?_ ?_ ?_ ?_
      · exact fun H' s => SqL.of (s _ _ upd_same)
      · rfl
      · rintro i x acc H2 H' hi hacc e s r ⟨rfl, hx⟩
        obtain ⟨z, hz, rfl⟩ := get_map hx
        obtain ⟨m, hm, rfl⟩ := get_map hz
        have hmp := hmem m (List.mem_of_getElem? hm)
        have hget : DGet H' d (.int (m : Int)) (some (.bl (decide (ls.flatten.count m % 2 = 1)))) := by
          have h6 := DGet.k (k := Sum.inl (m : Int)) (s _ _ hdp)
          rw [h5, if_pos hmp] at h6
          exact h6
        have htk : ns.take (i + 1) = ns.take i ++ [m] := by
          rw [List.take_add_one, hm]
          rfl
        have r' : acc = ((ns.take i).filter fun j => decide (ls.flatten.count j % 2 = 1)).map fun (k : Nat) => V.int k := r
        have hnl : ns.length ≤ 60 := by rw [hnp.length_eq]; omega
        have hal : acc.length ≤ 60 := by
          rw [r', List.length_map]
          exact Nat.le_trans (List.length_filter_le _ _) (by rw [List.length_take]; omega)
        refine ⟨rfl, ?_⟩
        refine ⟨_, rfl, _, rfl, d, _, rfl, hget, _, rfl, ?_⟩
        refine ite2 (fun hh => ?_) (fun hh => ?_)
        · refine ⟨_, rfl, ?_⟩
          refine lc_add hacc e (Same.refl _) (by omega) ?_
          rw [htk, List.filter_append, List.filter_cons_of_pos (p := fun (j : Nat) => decide (ls.flatten.count j % 2 = 1)) hh, List.filter_nil, List.map_append, r']
          rfl
        · refine lc_skip hacc e (Same.refl _) ?_
          rw [htk, List.filter_append, List.filter_cons_of_neg (p := fun (j : Nat) => decide (ls.flatten.count j % 2 = 1)) hh, List.filter_nil, List.append_nil]
          exact r'
      · rintro acc H2 g1 s2 r
        have r' : acc = ((ns.take ((ns.map fun (k : Nat) => (k : Int)).map V.int).length).filter fun j => decide (ls.flatten.count j % 2 = 1)).map fun (k : Nat) => V.int k := r
        rw [List.length_map, List.length_map, List.take_of_length_le (Nat.le_refl _)] at r'
        refine ⟨E1, _, rfl, .inl ⟨SqL.of g1, fun u hu2 => ?_⟩⟩
        refine k _ (ns.filter fun j => decide (ls.flatten.count j % 2 = 1)) _ (sH.trans (sp.trans (s2.trans (same_new hu2)))) (lot_dp (SqT.of ?_)) (hlt.filter _) (fun j => ?_)
        · rw [upd_same, r']
        · rw [List.mem_filter, decide_eq_true_eq]
          constructor
          · exact fun z => z.2
          · intro z
            refine ⟨hnp.mem_iff.mpr ((h4 j).mpr ?_), z⟩
            refine List.count_pos_iff.mp ?_
            omega
end
end BV

namespace BV
open PySem L2
section
variable {X : Cx} (K : PySem.W.Frag)
theorem catA (h : X.K = K := by rfl) : OpR X (binaryOp .Add) (rCatA K) := by
  subst h
  exact op_catA
end
theorem catA_by {K : PySem.W.Frag} {x y : V} {H : Hp} {Q : VK} {a b : Addr} {xs ys : List V} (hx : x = .ref a) (hy : y = .ref b) (h1 : SqT K H a xs) (h2 : SqT K H b ys) (hl : xs.length + ys.length ≤ 100000)
    (k : ∀ (c : Addr) H', Same H H' → SqT K H' c (xs ++ ys) → Q (.ref c) H') : rCatA K x y H Q := by
  refine ⟨a, b, xs, ys, hx, hy, h1, h2, Nat.le_trans hl (by decide), fun e => ?_, fun _ e => ?_, fun _ _ p hp => ?_⟩
  · subst e
    exact k _ _ (Same.refl _) h2
  · subst e
    exact k _ _ (Same.refl _) (by rw [List.append_nil]; exact h1)
  · exact k _ _ (same_new hp) (SqT.of upd_same)
/-- data that draws leave alone -/
def Dn (K : PySem.W.Frag) (b g : Addr) (H : Hp) (v : V) (d : PyData) : Prop := ∀ H', Kp b g H H' → Dp K H' v d
theorem Dn.kp {K : PySem.W.Frag} {b g : Addr} {H H' : Hp} {v : V} {d : PyData} (h : Dn K b g H v d) (k : Kp b g H H') : Dn K b g H' v d := fun _ k2 => h _ (k.trans k2)
theorem Dn.of {K : PySem.W.Frag} {b g : Addr} {H : Hp} {v : V} {d : PyData} (x : Box H b g) (h : Dp K H v d) (s : still d = true) : Dn K b g H v d := fun _ k => dp_kf (KF.of_kp k x) _ s h
def G1 (K : PySem.W.Frag) (b g : Addr) (H : Hp) (v : V) : Prop := ∃ d, Dn K b g H v d ∧ Sm d 5 2
def Gd (K : PySem.W.Frag) (b g : Addr) (H : Hp) (v : V) : Prop := ∃ d, (∀ H', Kp b g H H' → Od K H' v d) ∧ ShowO d ∧ ∀ ds, d = .tuple ds → ds.length ≤ 1000
theorem G1.kp {K : PySem.W.Frag} {b g : Addr} {H H' : Hp} {v : V} (h : G1 K b g H v) (k : Kp b g H H') : G1 K b g H' v := by
  obtain ⟨d, h1, h2⟩ := h
  exact ⟨d, h1.kp k, h2⟩
theorem Gd.kp {K : PySem.W.Frag} {b g : Addr} {H H' : Hp} {v : V} (h : Gd K b g H v) (k : Kp b g H H') : Gd K b g H' v := by
  obtain ⟨d, h1, h2, h3⟩ := h
  exact ⟨d, fun _ k2 => h1 _ (k.trans k2), h2, h3⟩
theorem Gd.dn {K : PySem.W.Frag} {b g : Addr} {H : Hp} {v : V} {d : PyData} (h : Dn K b g H v d) (s : Show d) (l : ∀ ds, d = .tuple ds → ds.length ≤ 1000) : Gd K b g H v := ⟨d, fun _ k => .inl (h _ k), .inl s, l⟩
theorem sm_bool (b : Bool) : Sm (.bool b) 5 2 := ⟨by simp only [tiny], by simp only [nodes]; decide, by simp only [PyData.depth]; decide⟩
theorem sm_none : Sm .none 5 2 := ⟨by decide, by decide, by decide⟩
theorem sm_txt : Sm (.str "0") 5 2 := ⟨by decide, by decide, by decide⟩
theorem g1_int {K : PySem.W.Frag} {b g : Addr} {H : Hp} {z : Int} (h : z.natAbs < 2 ^ 200) : G1 K b g H (.int z) := ⟨.int z, fun _ _ => .int z, (sm_int h).mono (by decide) (by decide)⟩
theorem nats_dp {K : PySem.W.Frag} {H : Hp} (ks : List Nat) : DpAll K H (ks.map fun (k : Nat) => V.int k) (ks.map fun (k : Nat) => PyData.int k) := by
  have e2 : (ks.map fun (k : Nat) => PyData.int k) = (ks.map fun (k : Nat) => (k : Int)).map PyData.int := by rw [List.map_map]; rfl
  have e3 : (ks.map fun (k : Nat) => V.int k) = (ks.map fun (k : Nat) => (k : Int)).map V.int := by rw [List.map_map]; rfl
  rw [e2, e3]
  exact dpAll_ints _
theorem gd_lot {K : PySem.W.Frag} {b g : Addr} {H : Hp} {q : Addr} {ms : List Nat} (x : Box H b g) (h : SqT K H q (ms.map fun (k : Nat) => V.int k)) (h1 : ∀ k ∈ ms, k < 100000) (h2 : ms.length ≤ 300) : Gd K b g H (.ref q) :=
  Gd.dn (Dn.of x (lot_dp h) (still_lot ms)) (show_lot ms h1 (by omega)) fun ds e => by
    cases e
    rw [List.length_map]
    omega
theorem cut_map (ks : List Nat) (lo hi : Option Int) : ∃ ms : List Nat, cutV (ks.map fun (k : Nat) => V.int k) lo hi = (ms.map fun (k : Nat) => V.int k) ∧ ms.length ≤ ks.length ∧ ∀ k ∈ ms, k ∈ ks := by
  refine ⟨(ks.drop (HT.sIx (ks.map fun (k : Nat) => V.int k).length 0 lo)).take (HT.sIx (ks.map fun (k : Nat) => V.int k).length (ks.map fun (k : Nat) => V.int k).length hi - HT.sIx (ks.map fun (k : Nat) => V.int k).length 0 lo), ?_, ?_, fun k hk => ?_⟩
  · unfold cutV
    rw [List.map_take, List.map_drop]
  · rw [List.length_take, List.length_drop]
    omega
  · exact List.mem_of_mem_drop (List.mem_of_mem_take hk)
abbrev sOdd : Stmt := top 14
abbrev nOdd : List Str := ["_law_box_here", "_law_web_here", "_law_lot", "_law_spot", "_law_size", "_law_menu", "_law_near"]
abbrev pOdd : List Str := ["_law_box_here", "_law_web_here", "_law_lot"]
theorem scOdd : FnScope nOdd pOdd (defScope sOdd) := ⟨rfl, rfl, rfl, by decide +kernel, rfl, by decide +kernel, by decide +kernel⟩
def spOdd (K : PySem.W.Frag) : Sp := fun vs H Q _ => ∃ (b g : Addr) (v lv : V) (n : Nat) (ts : List Tie) (ks : List Nat), vs = [.ref b, v, lv] ∧ Box H b g ∧ Dp K H v (webD n ts) ∧ Dp K H lv (lotD ks) ∧
  (∀ k ∈ ks, k < 100000) ∧ ks.length ≤ 100 ∧ ts.length ≤ 1000 ∧ ∀ (u : V) H', Kp b g H H' → Box H' b g → Gd K b g H' u → Q u H'
section
variable {P : Program} {w : World} {K : PySem.W.Frag} {mg : Str → Option Value} {base : Heap}
theorem ok_odd {f f1 f2 : Addr} {fd fd1 fd2 : FuncData} (D : Df K mg "_law_odd" sOdd pOdd f fd) (T : Bl mg) (U : Bl4 mg)
    (D_draw : Df K mg "_law_draw" sDraw ["_law_box_here", "_law_many"] f1 fd1) (D_pick : Df K mg "_law_pick" sPick nPick f2 fd2) : FnOk P w K mg base CX0 3 f fd pOdd (spOdd K) := by
  have G_draw : FnOk P w K mg base CX0 1 f1 fd1 ["_law_box_here", "_law_many"] spDraw := ok_draw D_draw T
  have G_pick : FnOk P w K mg base CX0 2 f2 fd2 nPick (spPick K) := ok_pick D_pick T D_draw
  refine D.fn.ok scOdd (fun vs H Q E h => ?_) (fun cdv A outer s H vs Q E hr h => ?_)
  · obtain ⟨b, g, v, lv, n, ts, ks, rfl, _⟩ := h
    rfl
  · obtain ⟨b, g, v, lv, n, ts, ks, rfl, hB, hw, hk, hks, hkl, hl, k⟩ := h
    have hr_pick : Room 2 _ := hr
    have hr_draw : Room 1 _ := hr.mono (by decide)
    have nd := scOdd.nd
    obtain ⟨a, c, ys, rfl, ha, hc, hys⟩ := dp_web hw
    have hyl : ys.length = ts.length := by rw [dpAll_len hys, List.length_map]
    obtain ⟨al, rfl, hal⟩ := dp_lotI hk
    generalize hG : (ks.map fun (k : Nat) => V.int k) = lotV at hal
    have hlv : lotV.length = ks.length := by rw [← hG, List.length_map]
    refine ⟨_, (pss_cons (ps_par (i := 3) (j := 4) (by rfl) nd rfl rfl (by decide) rfl rfl (pa_cons (pe_call G_draw hr_draw (by rfl) D_draw.ad D_draw.fn.kp D_draw.bd .nil pass0 (pa_cons (pv 0) (pa_cons (pe_op op_add (pe_callB (lenK K) (by rfl) T.len PySem.boot_len (pa_cons (pv 2) pa_nil)) pe_int) pa_nil))) (pa_cons (pe_callB (lenK K) (by rfl) T.len PySem.boot_len (pa_cons (pe_ix (ixT K) (pv 1) pe_int (fun _ _ => rfl)) pa_nil)) pa_nil)) (by rfl))
      (pss_cons (ps_set (i := 5) nd rfl (by first | exact Or.inl rfl | exact Or.inr rfl) (pe_lst (pa_cons (pv 4) (pa_cons (pe_op op_sub (pv 4) pe_int) (pa_cons (pe_un un_neg pe_int) (pa_cons pe_bl (pa_cons pe_bl (pa_cons pe_non (pa_cons pe_str (pa_cons (pe_tup (pa_cons pe_int pa_nil)) (pa_cons (pe_op op_pow pe_int pe_int) (pa_cons pe_int (pa_cons (pe_lst (pa_cons pe_int pa_nil)) pa_nil)))))))))))))
      (pss_cons (ps_set (i := 6) nd rfl (by first | exact Or.inl rfl | exact Or.inr rfl) (pe_op (catA K) (pe_op (catA K) (pe_slice (slTA K) (pv 2) po_none (po_some (pv 3))) (pe_tup (pa_cons (pe_call G_pick hr_pick (by rfl) D_pick.ad D_pick.fn.kp D_pick.bd .nil pass0 (pa_cons (pv 0) (pa_cons (pv 5) pa_nil))) pa_nil))) (pe_slice (slTA K) (pv 2) (po_some (pe_op op_add (pv 3) (pe_call G_draw hr_draw (by rfl) D_draw.ad D_draw.fn.kp D_draw.bd .nil pass0 (pa_cons (pv 0) (pa_cons pe_int pa_nil))))) po_none)))
      (pss_cons (ps_set (i := 5) nd rfl (by first | exact Or.inl rfl | exact Or.inr rfl) (pe_lst (pa_cons (pv 6) (pa_cons (pv 6) (pa_cons (pv 6) (pa_cons (revT K (pv 2)) (pa_cons (pe_op (catA K) (pv 2) (pe_slice (slTA K) (pv 2) (po_some (pe_un un_neg pe_int)) po_none)) (pa_cons (pe_callTy (listK K) (by rfl) U.list (by decide +kernel) (pa_cons (pv 2) pa_nil)) (pa_cons pe_non (pa_cons pe_dnewK (pa_cons (pe_tup pa_nil) (pa_cons (pe_op (catA K) (pe_slice (slTA K) (pv 2) (po_some (pv 3)) po_none) (pe_slice (slTA K) (pv 2) po_none (po_some (pv 3)))) (pa_cons pe_str pa_nil)))))))))))))
      (pss_one (ps_ret (pe_call G_pick hr_pick (by rfl) D_pick.ad D_pick.fn.kp D_pick.bd .nil pass0 (pa_cons (pv 0) (pa_cons (pv 5) pa_nil))))))))), ?_⟩
    refine ⟨_, rfl, _, rfl, al, lotV, rfl, .inr hal, _, _, rfl, rfl, b, g, (lotV.length : Int) + 1, rfl, by omega, by omega, hB, fun r H1 r0 r1 kp1 B1 => ?_⟩
    obtain ⟨j, rfl⟩ : ∃ j : Nat, r = (j : Int) := ⟨r.toNat, by omega⟩
    have kf1 := KF.of_kp kp1 hB
    refine ⟨_, rfl, a, _, _, _, rfl, rfl, sqT_kf kf1 ha, atI_nat (j := 1) rfl, c, ys, rfl, .inr (sqT_kf kf1 hc), ⟨_, _, rfl, ?_⟩⟩
    have hal1 := sqT_kf kf1 hal
    dsimp only
    refine at_st [some (.ref b), some (.ref a), some (.ref al), some (.int j), some (.int ys.length), none, none] rfl ?_
    refine tSeq_go ?_
    -- the first menu
    refine ⟨_, rfl, _, rfl, _, _, rfl, rfl, _, rfl, by show 1 ≤ sizeLine; decide, fun p1 hp1 => ?_⟩
    have s1 := same_new (o := .tup [.int 0]) hp1
    refine ⟨_, _, rfl, rfl, ⟨by decide, by decide, by decide⟩, by show 1 ≤ sizeLine; decide, fun p2 hp2 => ?_⟩
    have s2 := same_new (o := .lst [.int 0]) hp2
    refine ⟨by show 11 ≤ sizeLine; decide, fun p3 hp3 => ?_⟩
    have s3 := same_new (o := .lst [.int ys.length, .int ((ys.length : Int) - 1), .int (-1), .bl true, .bl false, .non, .str "0", .ref p1, .int (10 ^ (30 : Int).toNat), .int 0, .ref p2]) hp3
    obtain ⟨n2b, n2g⟩ := bx_ne (B1.same s1) hp2
    obtain ⟨n3b, n3g⟩ := bx_ne ((B1.same s1).same s2) hp3
    have B4 := ((B1.same s1).same s2).same s3
    have x1 := s3 _ _ (s2 _ _ (upd_same (H := H1) (a := p1) (o := .tup [.int 0])))
    have x2 := s3 _ _ (upd_same (a := p2) (o := .lst [.int 0]))
    have x3 := upd_same (H := upd (upd H1 p1 (.tup [.int 0])) p2 (.lst [.int 0])) (a := p3) (o := .lst [.int ys.length, .int ((ys.length : Int) - 1), .int (-1), .bl true, .bl false, .non, .str "0", .ref p1, .int (10 ^ (30 : Int).toNat), .int 0, .ref p2])
    have k4 := kp1.trans (Kp.same (s1.trans (s2.trans s3)))
    have hal4 := sqT_same (s1.trans (s2.trans s3)) hal1
    generalize upd (upd (upd H1 p1 (.tup [.int 0])) p2 (.lst [.int 0])) p3 (.lst [.int ys.length, .int ((ys.length : Int) - 1), .int (-1), .bl true, .bl false, .non, .str "0", .ref p1, .int (10 ^ (30 : Int).toNat), .int 0, .ref p2]) = H4 at *
    have small : ∀ z : Int, z.natAbs ≤ 100000 → z.natAbs < 2 ^ 200 := fun z h => Nat.lt_of_le_of_lt h (by decide)
    have hmenu : ∀ x ∈ [V.int ys.length, .int ((ys.length : Int) - 1), .int (-1), .bl true, .bl false, .non, .str "0", .ref p1, .int (10 ^ (30 : Int).toNat), .int 0, .ref p2], G1 K b g H4 x := by
      intro x hx
      simp only [List.mem_cons, List.not_mem_nil, or_false] at hx
      rcases hx with rfl | rfl | rfl | rfl | rfl | rfl | rfl | rfl | rfl | rfl | rfl
      · exact g1_int (small _ (by omega))
      · exact g1_int (small _ (by omega))
      · exact g1_int (by decide)
      · exact ⟨.bool true, fun _ _ => .bl _, sm_bool _⟩
      · exact ⟨.bool false, fun _ _ => .bl _, sm_bool _⟩
      · exact ⟨.none, fun _ _ => .non, sm_none⟩
      · exact ⟨.str "0", fun _ _ => .str _, sm_txt⟩
      · exact ⟨.tuple [.int 0], Dn.of B4 (.tup (SqT.of x1) (.cons (.int _) .nil)) (by decide), ⟨by decide, by decide, by decide⟩⟩
      · exact g1_int (by decide)
      · exact g1_int (by decide)
      · exact ⟨.list [.int 0], fun H' k => .lst (SqL.of (k _ _ x2 n2b n2g)) (.cons (.int _) .nil), ⟨by decide, by decide, by decide⟩⟩
    clear s1 s2 s3 x1 x2 hp1 hp2 hp3 hal1 B1 kp1 kf1
    dsimp only [gName]
    refine at_st [some (.ref b), some (.ref a), some (.ref al), some (.int j), some (.int ys.length), some (.ref p3), none] rfl ?_
    refine tSeq_go ?_
    -- near
    refine tAsg_by (fun u H' => Kp b g H4 H' ∧ Box H' b g ∧ Gd K b g H' u) ?_ (fun cont => ?_)
    · rintro un H5 ⟨k5, B5, hun⟩
      have hal5 := sqT_kf (KF.of_kp k5 B4) hal4
      have k05 := k4.trans k5
      dsimp only [gName]
      refine at_st [some (.ref b), some (.ref a), some (.ref al), some (.int j), some (.int ys.length), some (.ref p3), some un] rfl ?_
      refine tSeq_go ?_
      clear hal4 hmenu x3
      subst hG
      refine ⟨_, rfl, _, rfl, _, rfl, _, rfl, al, _, rfl, hal5, fun q1 hq1 => ?_⟩
      have s6 := same_new (o := .tup (ks.map fun (k : Nat) => V.int k).reverse) hq1
      have y1 := upd_same (H := H5) (a := q1) (o := .tup (ks.map fun (k : Nat) => V.int k).reverse)
      have hal6 := sqT_same s6 hal5
      have B6 := B5.same s6
      generalize upd H5 q1 (.tup (ks.map fun (k : Nat) => V.int k).reverse) = H6 at *
      refine ⟨_, rfl, _, rfl, _, rfl, _, rfl, ?_⟩
      dsimp only [tNoPart]
      refine slA_by rfl hal6 fun q2 H7 s7 hq2 => ?_
      obtain ⟨m2, e2, l2, i2⟩ := cut_map ks (some (-1)) none
      rw [e2] at hq2
      have hal7 := sqT_same s7 hal6
      refine catA_by rfl rfl hal7 hq2 (by rw [List.length_map, List.length_map]; omega) fun q3 H8 s8 hq3 => ?_
      rw [← List.map_append] at hq3
      have hal8 := sqT_same s8 hal7
      refine ⟨_, rfl, al, _, rfl, .inr hal8, fun q4 hq4 => ?_⟩
      obtain ⟨n4b, n4g⟩ := bx_ne ((B6.same s7).same s8) hq4
      have s9 := same_new (o := .lst (ks.map fun (k : Nat) => V.int k)) hq4
      have y4 := upd_same (H := H8) (a := q4) (o := .lst (ks.map fun (k : Nat) => V.int k))
      have hal9 := sqT_same s9 hal8
      have B9 := ((B6.same s7).same s8).same s9
      generalize upd H8 q4 (.lst (ks.map fun (k : Nat) => V.int k)) = H9 at *
      refine fun q5 hq5 => ?_
      obtain ⟨n5b, n5g⟩ := bx_ne B9 hq5
      have s10 := same_new (o := .dK []) hq5
      have y5 := upd_same (H := H9) (a := q5) (o := .dK [])
      have hal10 := sqT_same s10 hal9
      have B10 := B9.same s10
      generalize upd H9 q5 (.dK []) = H10 at *
      refine ⟨Nat.zero_le _, fun q6 hq6 => ?_⟩
      have s11 := same_new (o := .tup []) hq6
      have y6 := upd_same (H := H10) (a := q6) (o := .tup [])
      have hal11 := sqT_same s11 hal10
      have B11 := B10.same s11
      generalize upd H10 q6 (.tup []) = H11 at *
      refine ⟨_, rfl, _, rfl, j, rfl, ?_⟩
      dsimp only [tNoPart]
      refine slA_by rfl hal11 fun q7 H12 s12 hq7 => ?_
      obtain ⟨m7, e7, l7, i7⟩ := cut_map ks (some (j : Int)) none
      rw [e7] at hq7
      refine ⟨_, rfl, _, rfl, j, rfl, ?_⟩
      refine slA_by rfl (sqT_same s12 hal11) fun q8 H13 s13 hq8 => ?_
      obtain ⟨m8, e8, l8, i8⟩ := cut_map ks none (some (j : Int))
      rw [e8] at hq8
      refine catA_by rfl rfl (sqT_same s13 hq7) hq8 (by rw [List.length_map, List.length_map]; omega) fun q9 H14 s14 hq9 => ?_
      rw [← List.map_append] at hq9
      refine ⟨by show 11 ≤ sizeLine; decide, fun qm hqm => ?_⟩
      have B14 := ((B11.same s12).same s13).same s14
      obtain ⟨nmb, nmg⟩ := bx_ne B14 hqm
      have s15 := same_new (o := .lst [un, un, un, .ref q1, .ref q3, .ref q4, .non, .ref q5, .ref q6, .ref q9, .str "0"]) hqm
      have B15 := B14.same s15
      have s614 := s12.trans (s13.trans (s14.trans s15))
      have s915 := s10.trans (s11.trans s614)
      have s615 := s7.trans (s8.trans (s9.trans s915))
      have hmenu2 : ∀ x ∈ [un, un, un, .ref q1, .ref q3, .ref q4, .non, .ref q5, .ref q6, .ref q9, .str "0"], Gd K b g (upd H14 qm (.lst [un, un, un, .ref q1, .ref q3, .ref q4, .non, .ref q5, .ref q6, .ref q9, .str "0"])) x := by
        intro x hx
        simp only [List.mem_cons, List.not_mem_nil, or_false] at hx
        have gun := hun.kp (Kp.same (s6.trans s615))
        rcases hx with rfl | rfl | rfl | rfl | rfl | rfl | rfl | rfl | rfl | rfl | rfl
        · exact gun
        · exact gun
        · exact gun
        · refine gd_lot (ms := ks.reverse) B15 (SqT.of ?_) (fun k hk => hks k (List.mem_reverse.mp hk)) (by rw [List.length_reverse]; omega)
          rw [List.map_reverse]
          exact s615 _ _ y1
        · exact gd_lot B15 (sqT_same (s9.trans s915) hq3) (fun k hk => (List.mem_append.mp hk).elim (hks k) (fun z => hks k (i2 k z))) (by rw [List.length_append]; omega)
        · exact ⟨.list (ks.map fun (k : Nat) => PyData.int k), fun H' kk => .inl (.lst (SqL.of (kk _ _ (s915 _ _ y4) n4b n4g)) (nats_dp ks)), .inl (sm_show (sm_lst (c := 1) (k := 0) fun d hd => by
            obtain ⟨y, hy, rfl⟩ := List.mem_map.mp hd
            exact sm_nat (hks y hy)) (by rw [List.length_map]; omega) (by decide)), fun _ e => nomatch e⟩
        · exact ⟨.none, fun _ _ => .inl .non, .inl (sm_show sm_none (by decide) (by decide)), fun _ e => nomatch e⟩
        · exact ⟨.dict [], fun H' kk => .inr ⟨rfl, q5, rfl, kk _ _ ((s11.trans s614) _ _ y5) n5b n5g⟩, .inr rfl, fun _ e => nomatch e⟩
        · exact gd_lot (ms := []) B15 (SqT.of (s614 _ _ y6)) (by simp) (by simp)
        · exact gd_lot B15 (sqT_same s15 hq9) (fun k hk => (List.mem_append.mp hk).elim (fun z => hks k (i7 k z)) (fun z => hks k (i8 k z))) (by rw [List.length_append]; omega)
        · exact ⟨.str "0", fun _ _ => .inl (.str _), .inl (sm_show sm_txt (by decide) (by decide)), fun _ e => nomatch e⟩
      dsimp only [gName]
      refine ⟨_, rfl, _, rfl, b, g, qm, _, rfl, SqL.of upd_same, nmb, nmg, (by show 0 < 11; decide), (by show 11 < 1000000; decide), B15, fun jj u H' hj kp B' => ?_⟩
      exact k u H' (k05.trans ((Kp.same (s6.trans s615)).trans kp)) B' ((hmenu2 u (List.mem_of_getElem? hj)).kp kp)
    · refine ⟨_, rfl, _, rfl, j, rfl, ?_⟩
      refine slA_by rfl hal4 fun c1 H5 s5 hc1 => ?_
      rw [cut_hi] at hc1
      refine ⟨_, rfl, _, rfl, b, g, p3, _, rfl, SqL.of (s5 _ _ x3), n3b, n3g, (by show 0 < 11; decide), (by show 11 < 1000000; decide), B4.same s5, fun jj u H6 hj kp6 B6 => ?_⟩
      obtain ⟨d1, hd1, sm1⟩ := (hmenu u (List.mem_of_getElem? hj)).kp ((Kp.same s5).trans kp6)
      refine ⟨by show 1 ≤ sizeLine; decide, fun p4 hp4 => ?_⟩
      have s7 := same_new (o := .tup [u]) hp4
      have B7 := B6.same s7
      have hc7 := sqT_same s7 (sqT_kf (KF.of_kp kp6 (B4.same s5)) hc1)
      have hlt : (lotV.take j).length ≤ 100 := by rw [List.length_take]; omega
      refine catA_by rfl rfl hc7 (SqT.of upd_same) (by show _ + 1 ≤ 100000; omega) fun c2 H8 s8 hc2 => ?_
      have B8 := B7.same s8
      refine ⟨_, rfl, _, rfl, _, rfl, b, g, 2, rfl, by decide, by decide, B8, fun r2 H9 q0 q1 kp9 B9 => ?_⟩
      obtain ⟨j2, rfl⟩ : ∃ j2 : Nat, r2 = (j2 : Int) := ⟨r2.toNat, by omega⟩
      refine ⟨_, _, rfl, rfl, ((j + j2 : Nat) : Int), rfl, ?_⟩
      have kA := (Kp.same s5).trans (kp6.trans ((Kp.same (s7.trans s8)).trans kp9))
      dsimp only [tNoPart]
      refine slA_by rfl (sqT_kf (KF.of_kp kA B4) hal4) fun c3 H10 s10 hc3 => ?_
      rw [cut_lo] at hc3
      have hld : (lotV.drop (j + j2)).length ≤ 100 := by rw [List.length_drop]; omega
      refine catA_by rfl rfl (sqT_same s10 (sqT_kf (KF.of_kp kp9 B8) hc2)) hc3 (by rw [List.length_append]; show _ + 1 + _ ≤ 100000; omega) fun c4 H11 s11 hc4 => ?_
      have B11 := (B9.same s10).same s11
      have kB := kA.trans (Kp.same (s10.trans s11))
      have hd11 : Dn K b g H11 u d1 := hd1.kp ((Kp.same (s7.trans s8)).trans (kp9.trans (Kp.same (s10.trans s11))))
      refine cont _ _ ⟨kB, B11, .tuple (((ks.take j).map fun (k : Nat) => PyData.int k) ++ [d1] ++ ((ks.drop (j + j2)).map fun (k : Nat) => PyData.int k)), fun H' kk => .inl (.tup (sqT_kf (KF.of_kp kk B11) hc4) ?_), .inl ?_, fun ds e => by
        cases e
        rw [List.length_append, List.length_append, List.length_map, List.length_map, List.length_take, List.length_drop]
        show _ + 1 + _ ≤ 1000
        omega⟩
      · rw [← hG, ← List.map_take, ← List.map_drop]
        exact dpAll_app (dpAll_app (nats_dp _) (.cons (hd11 _ kk) .nil)) (nats_dp _)
      · refine sm_show (sm_tup (c := 5) (k := 2) fun d hd => ?_) ?_ (by decide)
        · rcases List.mem_append.mp hd with z | z
          · rcases List.mem_append.mp z with z | z
            · obtain ⟨y, hy, rfl⟩ := List.mem_map.mp z
              exact (sm_nat (hks y (List.mem_of_mem_take hy))).mono (by decide) (by decide)
            · rw [List.mem_singleton.mp z]
              exact sm1
          · obtain ⟨y, hy, rfl⟩ := List.mem_map.mp z
            exact (sm_nat (hks y (List.mem_of_mem_drop hy))).mono (by decide) (by decide)
        · rw [List.length_append, List.length_append, List.length_map, List.length_map, List.length_take, List.length_drop]
          show (_ + 1 + _) * 5 + 1 ≤ 15000
          omega
end
end BV

namespace BV
open PySem L2
abbrev sSummed : Stmt := top 15
abbrev nSummed : List Str := ["_law_lots", "_law_is_named", "_law_ties", "_law_found", "_law_lot", "_law_tie", "_law_told"]
abbrev pSummed : List Str := ["_law_lots", "_law_is_named"]
theorem scSummed : FnScope nSummed pSummed (defScope sSummed) := ⟨rfl, rfl, rfl, by decide +kernel, rfl, by decide +kernel, by decide +kernel⟩
theorem asc_uniq {l m : List Nat} (hl : l.Pairwise (· < ·)) (hm : m.Pairwise (· < ·)) (h : ∀ k, k ∈ l ↔ k ∈ m) : l = m :=
  ((List.perm_ext_iff_of_nodup (hl.imp fun z => Nat.ne_of_lt z) (hm.imp fun z => Nat.ne_of_lt z)).mpr h).eq_of_pairwise (le := (· < ·)) (fun a b _ _ x y => absurd x (Nat.lt_asymm y)) hl hm
theorem count_cast (l : List Nat) (k : Nat) : (l.map fun (j : Nat) => (j : Int)).count (k : Int) = l.count k := by
  induction l with
  | nil => rfl
  | cons a r ih =>
    rw [List.map_cons, List.count_cons, List.count_cons, ih]
    congr 1
    by_cases e : a = k
    · subst e
      simp
    · have : ¬ ((a : Int) = (k : Int)) := fun z => e (by omega)
      simp [e, this]
theorem count_flat_rev (ls : List (List Nat)) (k : Nat) : ls.reverse.flatten.count k = ls.flatten.count k := by
  induction ls with
  | nil => rfl
  | cons a r ih => rw [List.reverse_cons, List.flatten_append, List.count_append, ih, List.flatten_cons, List.flatten_cons, List.flatten_nil, List.append_nil, List.count_append, Nat.add_comm]
theorem count_flat_two (ls : List (List Nat)) (k : Nat) : (ls ++ ls).flatten.count k % 2 = 0 := by
  rw [List.flatten_append, List.count_append]
  omega
theorem odd_list {ns : List Int} {m : List Nat} (h1 : ns.Pairwise (· < ·)) (h2 : ∀ k : Int, k ∈ ns ↔ decide (k ∈ m.map fun (j : Nat) => (j : Int)) = true) :
    ∃ fs : List Nat, (ns.filter fun j => decide ((m.map fun (j : Nat) => (j : Int)).count j % 2 = 1)).map V.int = fs.map (fun (k : Nat) => V.int k) ∧ fs.Pairwise (· < ·) ∧ (∀ k, k ∈ fs ↔ m.count k % 2 = 1) ∧ ∀ k ∈ fs, k ∈ m := by
  have h3 : ∀ k ∈ ns, ∃ j : Nat, j ∈ m ∧ k = (j : Int) := fun k hk => by
    have := (h2 k).mp hk
    rw [decide_eq_true_eq] at this
    obtain ⟨j, hj, rfl⟩ := List.mem_map.mp this
    exact ⟨j, hj, rfl⟩
  have h4 : ∀ k : Nat, k ∈ (ns.filter fun j => decide ((m.map fun (j : Nat) => (j : Int)).count j % 2 = 1)).map Int.toNat ↔ m.count k % 2 = 1 := fun k => by
    constructor
    · intro h
      obtain ⟨z, hz, rfl⟩ := List.mem_map.mp h
      obtain ⟨hz1, hz2⟩ := List.mem_filter.mp hz
      obtain ⟨j, hj, rfl⟩ := h3 z hz1
      rw [decide_eq_true_eq, count_cast] at hz2
      exact hz2
    · intro h
      have hm : k ∈ m := by
        refine Classical.byContradiction fun hn => ?_
        rw [List.count_eq_zero_of_not_mem hn] at h
        omega
      refine List.mem_map.mpr ⟨(k : Int), List.mem_filter.mpr ⟨(h2 k).mpr (decide_eq_true (List.mem_map.mpr ⟨k, hm, rfl⟩)), ?_⟩, rfl⟩
      rw [decide_eq_true_eq, count_cast]
      exact h
  refine ⟨(ns.filter fun j => decide ((m.map fun (j : Nat) => (j : Int)).count j % 2 = 1)).map Int.toNat, ?_, ?_, h4, fun k hk => ?_⟩
  · rw [List.map_map]
    refine List.map_congr_left fun z hz => ?_
    obtain ⟨j, hj, rfl⟩ := h3 z (List.mem_filter.mp hz).1
    rfl
  · refine List.pairwise_map.mpr ((h1.filter _).imp_of_mem fun {x y} hx hy z => ?_)
    obtain ⟨a, _, rfl⟩ := h3 x (List.mem_filter.mp hx).1
    obtain ⟨b, _, rfl⟩ := h3 y (List.mem_filter.mp hy).1
    show ((a : Int)).toNat < ((b : Int)).toNat
    omega
  · refine Classical.byContradiction fun hn => ?_
    have h := (h4 k).mp hk
    rw [List.count_eq_zero_of_not_mem hn] at h
    omega
theorem nums_len {ns : List Int} {m : List Nat} {b : Nat} (h1 : ns.Pairwise (· < ·)) (h2 : ∀ k : Int, k ∈ ns ↔ decide (k ∈ m.map fun (j : Nat) => (j : Int)) = true) (h3 : ∀ k ∈ m, k < b) : ns.length ≤ b := by
  have h4 : ∀ k ∈ ns, 0 ≤ k ∧ k < (b : Int) := fun k hk => by
    have := (h2 k).mp hk
    rw [decide_eq_true_eq] at this
    obtain ⟨j, hj, rfl⟩ := List.mem_map.mp this
    have := h3 j hj
    omega
  have := nodup_small b (ns.map Int.toNat) (List.pairwise_map.mpr (h1.imp_of_mem fun {x y} hx hy z e => by
    have a := h4 x hx
    have c := h4 y hy
    omega)) fun x hx => by
      obtain ⟨z, hz, rfl⟩ := List.mem_map.mp hx
      have := h4 z hz
      omega
  rwa [List.length_map] at this
def spSummed (K : PySem.W.Frag) : Sp := fun vs H Q _ => ∃ (v : V) (ls : List (List Nat)) (L : Nat) (nm : Bool), vs = [v, .bl nm] ∧ Dp K H v (.tuple (ls.map lotD)) ∧ (∀ l ∈ ls, (∀ k ∈ l, k < L) ∧ l.length ≤ 50) ∧ L ≤ 50 ∧ ls.length ≤ 20 ∧
  ∀ H', Same H H' → Q (.bl true) H'
theorem flat_len : ∀ {ls : List (List Nat)} {c : Nat}, (∀ l ∈ ls, l.length ≤ c) → ls.flatten.length ≤ ls.length * c
  | [], c, _ => by simp
  | l :: ls, c, h => by
    have h1 := flat_len (ls := ls) fun l2 h2 => h l2 (List.mem_cons_of_mem _ h2)
    have h2 := h l (List.mem_cons_self ..)
    rw [List.flatten_cons, List.length_append, List.length_cons, Nat.succ_mul]
    omega
section
variable {P : Program} {w : World} {K : PySem.W.Frag} {mg : Str → Option Value} {base : Heap}
theorem ok_summed {f f1 : Addr} {fd fd1 : FuncData} (D : Df K mg "_law_is_summed" sSummed pSummed f fd) (T : Bl mg) (U : Bl4 mg)
    (D_sum : Df K mg "sum_of" sSum ["lots"] f1 fd1) (K_sum : KBn K fd1 ["lots"] 0 ["lots"] (fun _ ws => ws) (fun _ zs => zs)) :
    FnG P w K mg base CX0 4 f fd pSummed (spSummed K) := by
  have G_sum : FnOk P w K mg base CX0 1 f1 fd1 ["lots"] (spSum K) := ok_sum D_sum T U
  refine okG D.fn scSummed (fun vs H Q E h => ?_) (fun cdv A outer s H vs Q E hgd hr h => ?_)
  · obtain ⟨v, ls, L, nm, rfl, _⟩ := h
    rfl
  · obtain ⟨v, ls, L, nm, rfl, hv, hls, hL, hll, k⟩ := h
    have hr_sum : Room 1 _ := hr.mono (by decide)
    have hu64 := hr.units
    have nd := scSummed.nd
    obtain ⟨al, xs, rfl, hal, hxs⟩ := dp_tup hv
    have hxl : xs.length = ls.length := by rw [dpAll_len hxs, List.length_map]
    have hfl : ls.flatten.length ≤ 1000 := Nat.le_trans (flat_len (c := 50) fun l hl => (hls l hl).2) (by omega)
    have hmf : ∀ j ∈ ls.flatten, j < 50 := fun j hj => by
      obtain ⟨l, hl, hj⟩ := List.mem_flatten.mp hj
      have := (hls l hl).1 j hj
      omega
    refine ⟨_, (pss_cons (ps_par (i := 2) (j := 3) (by rfl) nd rfl rfl (by decide) rfl rfl (pa_cons (pe_lst pa_nil) (pa_cons (pe_lst pa_nil) pa_nil)) (by rfl))
      (pss_cons (ps_for PassesOwn.never rfl (piT K (pv 0)) (pg_name (i := 4) nd rfl (by first | exact Or.inl rfl | exact Or.inr rfl)) (pss_one (ps_set (i := 2) nd rfl (by first | exact Or.inl rfl | exact Or.inr rfl) (pe_op op_cat (pv 2) (pe_callTy (listK K) (by rfl) U.list (by decide +kernel) (pa_cons (pv 4) pa_nil))))))
      (pss_cons (ps_for PassesOwn.never rfl (piL K (pe_callB (sortedSetK w rfl) (by rfl) U.sorted (by decide +kernel) (pa_cons (pe_callTy (setLK K w rfl) (by rfl) U.set (by decide +kernel) (pa_cons (pv 2) pa_nil)) pa_nil))) (pg_name (i := 5) nd rfl (by first | exact Or.inl rfl | exact Or.inr rfl)) (pss_one (ps_if (pt_cmpR op_eq (pe_op op_mod (pe_callTy call_int1 (by rfl) T.int (by decide +kernel) (pa_cons (pe_bm PySem.F.plainAttrs_list PySem.F.slot_list_count PySem.F.type_list_count mt_lcount (pv 2) (pa_cons (pv 5) pa_nil)) pa_nil)) pe_int) pe_int (nomark _)) (pss_one (ps_expr (pe_bm PySem.F.plainAttrs_list PySem.F.slot_list_append PySem.F.type_list_append mt_append (pv 3) (pa_cons (pv 5) pa_nil)))) pss_nil)))
      (pss_cons (ps_set (i := 6) nd rfl (by first | exact Or.inl rfl | exact Or.inr rfl) (pe_lst (pa_cons (pe_ifExp (pt_val (pv 1)) (pe_callK0 G_sum hr_sum (by rfl) D_sum.ad D_sum.fn.kp K_sum pass0 (pk_cons (pv 0) pk_nil)) (pe_call G_sum hr_sum (by rfl) D_sum.ad D_sum.fn.kp D_sum.bd .nil pass0 (pa_cons (pv 0) pa_nil))) (pa_cons (pe_call G_sum hr_sum (by rfl) D_sum.ad D_sum.fn.kp D_sum.bd .nil pass0 (pa_cons (revT K (pv 0)) pa_nil)) (pa_cons (pe_call G_sum hr_sum (by rfl) D_sum.ad D_sum.fn.kp D_sum.bd .nil pass0 (pa_cons (pe_op (catA K) (pv 0) (pv 0)) pa_nil)) pa_nil)))))
      (pss_one (ps_ret (pe_cmpR op_eq (pe_callB (reprK K hgd hu64) (by rfl) T.repr (by decide +kernel) (pa_cons (pv 6) pa_nil)) (pe_callB (reprK K hgd hu64) (by rfl) T.repr (by decide +kernel) (pa_cons (pe_lst (pa_cons (pe_callTy (tupleK K) (by rfl) T.tuple (by decide +kernel) (pa_cons (pv 3) pa_nil)) (pa_cons (pe_callTy (tupleK K) (by rfl) T.tuple (by decide +kernel) (pa_cons (pv 3) pa_nil)) (pa_cons (pe_tup pa_nil) pa_nil)))) pa_nil)) (nomark _)))))))), ?_⟩
    refine ⟨Nat.zero_le _, fun p0 hp0 => ⟨Nat.zero_le _, fun pf hpf => ⟨_, _, rfl, ?_⟩⟩⟩
    have s1 := same_new (o := .lst []) hp0
    have s2 := same_new (o := .lst []) hpf
    have x1 := s2 _ _ (upd_same (H := H) (a := p0) (o := .lst []))
    have x2 := upd_same (H := upd H p0 (.lst [])) (a := pf) (o := .lst [])
    have s12 := s1.trans s2
    have nfH : H pf = none := Same.free s1 hpf
    generalize upd (upd H p0 (.lst [])) pf (.lst []) = H2 at *
    dsimp only
    refine tSeq_go ?_
    -- all ties
    refine ⟨_, rfl, al, rfl, ⟨_, sqT_same s12 hal⟩, for_it (walk_tup (xs := xs)) (fun i σ H' => ∃ (p : Addr) (v4 : Option V), σ = [some (.ref al), some (.bl nm), some (.ref p), some (.ref pf), v4, none, none] ∧
      Same H H' ∧ H' pf = some (.lst []) ∧ H' p = some (.lst (((ls.take i).flatten.map fun (j : Nat) => (j : Int)).map V.int)) ∧ H p = none ∧ p ≠ pf) ?_ ?_ ?_ ?_⟩
    · refine ⟨p0, none, rfl, s12, x2, x1, hp0, ?_⟩
      rintro rfl
      rw [upd_same] at hpf
      cases hpf
    · rintro i σ H' _ ⟨p, v4, rfl, sH, _⟩
      exact sqT_same sH hal
    · rintro i x σ H1 H'' hi ⟨p, v4, rfl, sH, hf, hp, hpn, hpne⟩ ⟨rfl, hx⟩
      obtain ⟨dd, hdd, hdp⟩ := dpAll_get hxs hx
      obtain ⟨l, hl, rfl⟩ := get_map hdd
      obtain ⟨ax, rfl, hax⟩ := dp_lotI (dp_same sH _ hdp)
      have htk : (ls.take (i + 1)).flatten = (ls.take i).flatten ++ l := by
        rw [List.take_add_one, hl, List.flatten_append]
        simp
      have hlen : (ls.take (i + 1)).flatten.length ≤ 1000 := Nat.le_trans (flat_len (c := 50) fun l2 h2 => (hls l2 (List.mem_of_mem_take h2)).2) (by rw [List.length_take]; omega)
      refine ⟨_, rfl, _, rfl, ax, _, rfl, .inr hax, fun q hq => ?_⟩
      have s3 := same_new (o := .lst (l.map fun (k : Nat) => V.int k)) hq
      refine ⟨p, q, _, _, rfl, rfl, s3 _ _ hp, upd_same, ?_, fun q2 hq2 => ?_⟩
      · rw [List.length_map, List.length_map, List.length_map, ← List.length_append, ← htk]
        exact Nat.le_trans hlen (by decide)
      · have s4 := same_new (o := .lst (((ls.take i).flatten.map fun (j : Nat) => (j : Int)).map V.int ++ l.map fun (k : Nat) => V.int k)) hq2
        refine ⟨q2, _, rfl, sH.trans (s3.trans s4), s4 _ _ (s3 _ _ hf), ?_, ?_, ?_⟩
        · rw [upd_same, htk, List.map_append, List.map_append]
          congr 3
          rw [List.map_map]
          rfl
        · exact Same.free (sH.trans s3) hq2
        · rintro rfl
          rw [s3 _ _ hf] at hq2
          cases hq2
    · rintro σ H3 ⟨p, v4, rfl, sH, hf, hp, hpn, hpne⟩
      rw [hxl, List.take_of_length_le (Nat.le_refl _)] at hp
      dsimp only
      refine tSeq_go ?_
      -- the odd ones
      refine ⟨_, rfl, p, ls.flatten.map fun (j : Nat) => (j : Int), rfl, SqL.of hp, by rw [List.length_map]; omega, fun j hj => ?_, fun ps n hps hn64 => ?_⟩
      · obtain ⟨z, hz, rfl⟩ := List.mem_map.mp hj
        have := hmf z hz
        omega
      have s4 := same_new (o := SetO w ps (fun j => decide (j ∈ ls.flatten.map fun (j : Nat) => (j : Int))) n) hps
      refine ⟨ps, _, n, rfl, upd_same, hn64, fun ns pp hsort hmem _ hpp => ?_⟩
      have s5 := same_new (o := .lst (ns.map V.int)) hpp
      have s35 := s4.trans s5
      have hf5 := s35 _ _ hf
      have hp5 := s35 _ _ hp
      have sH5 := sH.trans s35
      have hns5 := upd_same (H := upd H3 ps (SetO w ps (fun j => decide (j ∈ ls.flatten.map fun (j : Nat) => (j : Int))) n)) (a := pp) (o := .lst (ns.map V.int))
      have npp : pp ≠ pf := by
        rintro rfl
        rw [s4 _ _ hf] at hpp
        cases hpp
      have hnsl : ns.length ≤ 50 := nums_len hsort hmem hmf
      generalize upd (upd H3 ps (SetO w ps (fun j => decide (j ∈ ls.flatten.map fun (j : Nat) => (j : Int))) n)) pp (.lst (ns.map V.int)) = H5 at *
      clear s4 s5 s35 hps hpp hp hf sH
      refine ⟨pp, rfl, ⟨_, SqL.of hns5⟩, for_it (walk_list (xs := ns.map V.int)) (fun i σ H' => ∃ (v5 : Option V), σ = [some (.ref al), some (.bl nm), some (.ref p), some (.ref pf), v4, v5, none] ∧
        Same H H' ∧ H' p = some (.lst ((ls.flatten.map fun (j : Nat) => (j : Int)).map V.int)) ∧ H' pp = some (.lst (ns.map V.int)) ∧
        H' pf = some (.lst (((ns.take i).filter fun j => decide ((ls.flatten.map fun (j : Nat) => (j : Int)).count j % 2 = 1)).map V.int))) ?_ ?_ ?_ ?_⟩
      · exact ⟨none, rfl, sH5, hp5, hns5, hf5⟩
      · rintro i σ H' _ ⟨v5, rfl, _, _, h3, _⟩
        exact SqL.of h3
      · rintro i x σ H1 H'' hi ⟨v5, rfl, sH, h2, h3, h4⟩ ⟨rfl, hx⟩
        obtain ⟨z, hz, rfl⟩ := get_map hx
        have htk : ns.take (i + 1) = ns.take i ++ [z] := by
          rw [List.take_add_one, hz]
          rfl
        have hcnt : (((ls.flatten.map fun (j : Nat) => (j : Int)).count z : Nat) : Int) % 2 = 1 ↔ (ls.flatten.map fun (j : Nat) => (j : Int)).count z % 2 = 1 := by omega
        refine ⟨_, rfl, .inl ⟨rfl, _, SqL.of h2⟩, _, rfl, p, _, _, rfl, rfl, SqL.of h2, .inl ⟨_, rfl, ?_⟩⟩
        refine ⟨_, _, rfl, rfl, (by show (0 : Int) < 2; decide), ?_⟩
        refine ⟨rfl, _, rfl, ?_⟩
        refine ite2 (fun hh => ?_) (fun hh => ?_)
        · refine ⟨_, rfl, .inl ⟨rfl, _, SqL.of h4⟩, _, rfl, pf, _, _, rfl, rfl, h4, ?_, ?_⟩
          · rw [List.length_map]
            have := List.length_filter_le (fun j => decide ((ls.flatten.map fun (j : Nat) => (j : Int)).count j % 2 = 1)) (ns.take i)
            rw [List.length_take] at this
            exact Nat.lt_of_lt_of_le (show _ < 100000 by omega) (by decide)
          · refine ⟨_, rfl, same_old (Same.free (Same.refl _) nfH) sH, ?_, ?_, ?_⟩
            · rw [upd_ne hpne]
              exact h2
            · rw [upd_ne npp]
              exact h3
            · rw [upd_same, htk, List.filter_append, List.map_append]
              have : ([z].filter fun j => decide ((ls.flatten.map fun (j : Nat) => (j : Int)).count j % 2 = 1)) = [z] := by
                rw [List.filter_cons, if_pos (decide_eq_true (hcnt.mp (by simpa using hh)))]
                rfl
              rw [this]
              rfl
        · refine ⟨_, rfl, sH, h2, h3, ?_⟩
          rw [htk, List.filter_append, List.map_append]
          have : ([z].filter fun j => decide ((ls.flatten.map fun (j : Nat) => (j : Int)).count j % 2 = 1)) = [] := by
            rw [List.filter_cons, if_neg (fun e => hh (by simpa using hcnt.mpr (of_decide_eq_true e)))]
            rfl
          rw [this, List.map_nil, List.append_nil]
          exact h4
      · rintro σ H6 ⟨v5, rfl, sH6, h2, h3, h4⟩
        rw [List.length_map, List.take_of_length_le (Nat.le_refl _)] at h4
        obtain ⟨fs, efs, hfa, hfm, hfin⟩ := odd_list hsort hmem
        rw [efs] at h4
        have hal6 := sqT_same sH6 hal
        have hv6 := dp_same sH6 _ hv
        have hls1 : ∀ l ∈ ls, ∀ k ∈ l, k < L := fun l hl => (hls l hl).1
        have hfl50 : fs.length ≤ 50 := nodup_small 50 fs (hfa.imp fun z => Nat.ne_of_lt z) fun j hj => hmf j (hfin j hj)
        have sh : Show (.list [lotD fs, lotD fs, lotD []]) := sm_show (sm_lst (c := 60) (k := 1) (by
          intro d hd
          have hs : Sm (lotD fs) 60 1 := (sm_lot fun j hj => by have := hmf j (hfin j hj); omega).mono (by omega) (Nat.le_refl _)
          simp only [List.mem_cons, List.not_mem_nil, or_false] at hd
          rcases hd with rfl | rfl | rfl
          · exact hs
          · exact hs
          · exact (sm_lot (ks := []) (by simp)).mono (by decide) (Nat.le_refl _))) (by show 3 * 60 + 1 ≤ 15000; decide) (by decide)
        dsimp only
        refine tSeq_go ?_
        -- told
        refine tAsg_by (fun u H' => Same H6 H' ∧ Dp K H' u (.list [lotD fs, lotD fs, lotD []])) ?_ (fun cont => ?_)
        · rintro ut H7 ⟨s7, hut⟩
          refine ⟨_, rfl, ut, _, rfl, hut, sh, ?_⟩
          have h47 := s7 _ _ h4
          refine ⟨_, rfl, pf, _, rfl, .inl ⟨SqL.of h47, fun q1 hq1 => ?_⟩⟩
          have t1 := same_new (o := .tup (fs.map fun (k : Nat) => V.int k)) hq1
          refine ⟨_, rfl, pf, _, rfl, .inl ⟨SqL.of (t1 _ _ h47), fun q2 hq2 => ?_⟩⟩
          have t2 := same_new (o := .tup (fs.map fun (k : Nat) => V.int k)) hq2
          refine ⟨Nat.zero_le _, fun q3 hq3 => ?_⟩
          have t3 := same_new (o := .tup []) hq3
          refine ⟨by show 3 ≤ sizeLine; decide, fun q hq => ?_⟩
          have t4 := same_new (o := .lst [.ref q1, .ref q2, .ref q3]) hq
          refine ⟨.ref q, .list [lotD fs, lotD fs, lotD []], rfl, .lst (SqL.of upd_same) (.cons (lot_dp (SqT.of ((t2.trans (t3.trans t4)) _ _ upd_same))) (.cons (lot_dp (SqT.of ((t3.trans t4) _ _ upd_same))) (.cons (lot_dp (ks := []) (SqT.of (t4 _ _ upd_same))) .nil))), sh, rfl, ?_⟩
          rw [decide_eq_true rfl]
          exact k _ (sH6.trans (s7.trans (t1.trans (t2.trans (t3.trans t4)))))
        · refine tIf_by (fun u H' => Same H6 H' ∧ Dp K H' u (lotD fs)) ?_ (fun cont2 => ?_)
          · rintro u1 H7 ⟨s7, hu1⟩
            refine ⟨_, rfl, al, _, rfl, sqT_same s7 hal6, fun q hq => ?_⟩
            have t1 := same_new (o := .tup xs.reverse) hq
            have sA := s7.trans t1
            refine ⟨.ref q, ls.reverse, L, rfl, .tup (SqT.of upd_same) (by rw [List.map_reverse]; exact dpAll_rev (dpAll_same (sH6.trans sA) _ hxs)), fun l hl => hls1 l (List.mem_reverse.mp hl), by omega, by rw [List.length_reverse]; omega, fun u2 ks2 H8 s8 hu2 hp2 hm2 => ?_⟩
            obtain rfl : ks2 = fs := asc_uniq hp2 hfa fun j => by rw [hm2, hfm, count_flat_rev]
            have sB := sA.trans s8
            refine ⟨_, rfl, _, rfl, ?_⟩
            refine catA_by rfl rfl (sqT_same sB hal6) (sqT_same sB hal6) (by omega) fun c H9 s9 hc => ?_
            have sC := sB.trans s9
            refine ⟨.ref c, ls ++ ls, L, rfl, .tup hc (by rw [List.map_append]; exact dpAll_app (dpAll_same (sH6.trans sC) _ hxs) (dpAll_same (sH6.trans sC) _ hxs)), fun l hl => (List.mem_append.mp hl).elim (hls1 l) (hls1 l), by omega, by rw [List.length_append]; omega, fun u3 ks3 H10 s10 hu3 hp3 hm3 => ?_⟩
            obtain rfl : ks3 = [] := asc_uniq hp3 .nil fun j => by
              rw [hm3, count_flat_two]
              simp
            refine ⟨by show 3 ≤ sizeLine; decide, fun q2 hq2 => ?_⟩
            have t5 := same_new (o := .lst [u1, u2, u3]) hq2
            have sD := s9.trans (s10.trans t5)
            exact cont _ _ ⟨sB.trans sD, .lst (SqL.of upd_same) (.cons (dp_same (t1.trans (s8.trans sD)) _ hu1) (.cons (dp_same sD _ hu2) (.cons (dp_same t5 _ hu3) .nil)))⟩
          · have fin : ∀ (u2 : V) (ks : List Nat) H5', Same H6 H5' → Dp K H5' u2 (lotD ks) → ks.Pairwise (· < ·) → (∀ j, j ∈ ks ↔ ls.flatten.count j % 2 = 1) → Same H6 H5' ∧ Dp K H5' u2 (lotD fs) := fun u2 ks H5' s5 hu hp hm => by
              obtain rfl : ks = fs := asc_uniq hp hfa fun j => by rw [hm, hfm]
              exact ⟨s5, hu⟩
            refine ⟨_, rfl, nm, rfl, ?_⟩
            refine ite2 (fun hh => ?_) (fun hh => ?_)
            · exact ⟨_, rfl, rfl, .ref al, ls, L, rfl, hv6, hls1, by omega, by omega, fun u2 ks H5' s5 hu hp hm => cont2 _ _ (fin u2 ks _ s5 hu hp hm)⟩
            · exact ⟨_, rfl, .ref al, ls, L, rfl, hv6, hls1, by omega, by omega, fun u2 ks H5' s5 hu hp hm => cont2 _ _ (fin u2 ks _ s5 hu hp hm)⟩
end
end BV

namespace BV
open PySem L2
abbrev sLaw : Stmt := top 17
abbrev nLaw : List Str := ["_law_script", "_law_box_here", "_law_turn", "_law_web_here", "_law_kept", "_law_step", "_law_lots", "_law_lot", "_law_odd_here", "_law_stayed", "_law_told"]
theorem scLaw : FnScope nLaw ["_law_script"] (defScope sLaw) := ⟨rfl, rfl, rfl, by decide +kernel, rfl, by decide +kernel, by decide +kernel⟩
def spLaw (K : PySem.W.Frag) : Sp := fun vs H Q _ => ∃ (a : Addr) (ns : List Int), vs = [.ref a] ∧ SqL K H a (ns.map V.int) ∧ ns.length ≤ 63 ∧ ∀ H', Q (.bl true) H'
theorem most5 : ∀ i, i < 5 → ∃ m : Nat, [V.int 1, V.int 3, V.int 5, V.int 8, V.int 8][i]? = some (V.int (m : Int)) ∧ 1 ≤ m ∧ m ≤ 8
  | 0, _ => ⟨1, rfl, by decide, by decide⟩
  | 1, _ => ⟨3, rfl, by decide, by decide⟩
  | 2, _ => ⟨5, rfl, by decide, by decide⟩
  | 3, _ => ⟨8, rfl, by decide, by decide⟩
  | 4, _ => ⟨8, rfl, by decide, by decide⟩
theorem more5 : ∀ i, i < 5 → ∃ m : Nat, [V.int 0, V.int 4, V.int 6, V.int 7, V.int 7][i]? = some (V.int (m : Int)) ∧ m ≤ 7
  | 0, _ => ⟨0, rfl, by decide⟩
  | 1, _ => ⟨4, rfl, by decide⟩
  | 2, _ => ⟨6, rfl, by decide⟩
  | 3, _ => ⟨7, rfl, by decide⟩
  | 4, _ => ⟨7, rfl, by decide⟩
theorem errG_lot {L : Nat} : ∀ (ks : List Nat) (p : Nat) (l : Int), (∀ k ∈ ks, k < L) → ks.Pairwise (· < ·) → (∀ k ∈ ks, l ≤ (k : Int)) → errG L (ks.map fun (k : Nat) => PyData.int k) p l = .none
  | [], _, _, _, _, _ => rfl
  | k :: ks, p, l, h1, h2, h3 => by
    have h4 := h1 k (List.mem_cons_self ..)
    have h5 := h3 k (List.mem_cons_self ..)
    rw [List.map_cons, errG_int (by simp only [inB, Bool.and_eq_true, decide_eq_true_eq]; omega)]
    refine errG_lot ks (p + 1) _ (fun j hj => h1 j (List.mem_cons_of_mem _ hj)) (List.pairwise_cons.mp h2).2 fun j hj => ?_
    have := (List.pairwise_cons.mp h2).1 j hj
    omega
theorem errD_lot {L : Nat} {ks : List Nat} (h1 : ∀ k ∈ ks, k < L) (h2 : ks.Pairwise (· < ·)) : errD L (lotD ks) = .none := errG_lot ks 0 0 h1 h2 fun _ _ => Int.natCast_nonneg _
theorem sm_item {p : Nat} (h : p < 100000) : Sm (itemD p) 8 3 := (sm_tup (ds := [.str "item", .int p]) (c := 1) (k := 0) fun d hd => by
  simp only [List.mem_cons, List.not_mem_nil, or_false] at hd
  rcases hd with rfl | rfl
  · exact ⟨by decide, by decide, by decide⟩
  · exact sm_nat h).mono (by show 2 * 1 + 1 ≤ 8; decide) (by decide)
theorem errG_sm {L : Nat} : ∀ (ds : List PyData) (p : Nat) (l : Int), p + ds.length < 100000 → Sm (errG L ds p l) 8 3
  | [], _, _, _ => (show Sm PyData.none 8 3 from sm_none.mono (by decide) (by decide))
  | d :: ds, p, l, h => by
    rw [List.length_cons] at h
    by_cases hb : inB d l (L - 1) = true
    · cases d with
      | int z =>
        rw [errG_int hb]
        exact errG_sm ds (p + 1) (z + 1) (by omega)
      | _ => simp [inB] at hb
    · rw [errG_bad (by simpa using hb)]
      exact sm_item (by omega)
theorem errD_sm {L : Nat} {d : PyData} (h : ∀ ds, d = .tuple ds → ds.length ≤ 1000) : Sm (errD L d) 8 3 := by
  cases d with
  | tuple ds =>
    have := h ds rfl
    exact errG_sm ds 0 0 (by omega)
  | _ => exact (show Sm (.str "form") 8 3 from ⟨by decide, by decide, by decide⟩)
theorem still_lots4 (ls : List (List Nat)) : stillAll (ls.map lotD) = true := by
  induction ls with
  | nil => rfl
  | cons l ls ih =>
    simp only [List.map_cons, stillAll, Bool.and_eq_true]
    exact ⟨still_lot l, ih⟩
def lotsD (ls : List (List Nat)) : PyData := .tuple (ls.map lotD)
section
variable {P : Program} {w : World} {K : PySem.W.Frag} {mg : Str → Option Value} {base : Heap}
theorem ok_law {f a0 a1 a2 a3 a4 a5 a6 a7 a8 a9 b1 b2 b3 b4 : Addr} {fd d0 d1 d2 d3 d4 d5 d6 d7 d8 d9 e1 e2 e3 e4 : FuncData}
    (D : Df K mg "law" sLaw ["_law_script"] f fd) (T : Bl mg) (U : Bl4 mg)
    (D_whole : Df K mg "whole" sWhole ["value"] a0 d0) (D_within : Df K mg "whole_within" sWithin nWithin a1 d1) (D_err : Df K mg "lot_error" sErr ["web", "value"] a2 d2)
    (K_err : KBn K d2 ["web", "value"] 0 ["value", "web"] (fun _ ws => ws.reverse) (fun _ zs => zs.reverse))
    (D_sum : Df K mg "sum_of" sSum ["lots"] a3 d3) (K_sum : KBn K d3 ["lots"] 0 ["lots"] (fun _ ws => ws) (fun _ zs => zs))
    (D_cut : Df K mg "cut_of" sCut ["web", "places"] a4 d4) (K_cut : KBn K d4 ["web", "places"] 0 ["places", "web"] (fun _ ws => ws.reverse) (fun _ zs => zs.reverse))
    (D_box : Df K mg "_law_box" sBox ["_law_script"] a5 d5) (D_draw : Df K mg "_law_draw" sDraw ["_law_box_here", "_law_many"] a6 d6) (D_pick : Df K mg "_law_pick" sPick nPick a7 d7)
    (D_web : Df K mg "_law_web" sWeb pWeb a8 d8) (D_lerr : Df K mg "_law_error" sLerr pLerr a9 d9) (D_some : Df K mg "_law_some" sSome pSome b1 e1)
    (D_odd : Df K mg "_law_odd" sOdd pOdd b2 e2) (D_summed_g : Df K mg "_law_is_summed" sSummed pSummed b3 e3) (D_iscut_g : Df K mg "_law_is_cut" sIscut pIscut b4 e4) :
    FnG P w K mg base CX0 5 f fd ["_law_script"] (spLaw K) := by
  have G_box : FnOk P w K mg base CX0 1 a5 d5 ["_law_script"] (spBox K) := ok_box D_box T
  have G_draw : FnOk P w K mg base CX0 1 a6 d6 ["_law_box_here", "_law_many"] spDraw := ok_draw D_draw T
  have G_web : FnOk P w K mg base CX0 3 a8 d8 pWeb (spWeb K) := ok_web D_web T D_draw D_pick
  have G_some : FnOk P w K mg base CX0 3 b1 e1 pSome (spSome K) := ok_some D_some T D_draw D_pick
  have G_odd : FnOk P w K mg base CX0 3 b2 e2 pOdd (spOdd K) := ok_odd D_odd T U D_draw D_pick
  have G_err : FnOk P w K mg base CX0 3 a2 d2 ["web", "value"] (spErr K) := ok_err D_err T U D_whole D_within
  have G_lerr : FnOk P w K mg base CX0 1 a9 d9 pLerr (spErr K) := ok_lerr D_lerr T U
  have G_iscut_g : FnG P w K mg base CX0 4 b4 e4 pIscut (spIscut K) := ok_iscut D_iscut_g T D_draw D_pick D_some D_cut K_cut
  have G_summed_g : FnG P w K mg base CX0 4 b3 e3 pSummed (spSummed K) := ok_summed D_summed_g T U D_sum K_sum
  have G_sum : FnOk P w K mg base CX0 1 a3 d3 ["lots"] (spSum K) := ok_sum D_sum T U
  refine okG D.fn scLaw (fun vs H Q E h => ?_) (fun cdv A outer s H vs Q E hgd hr h => ?_)
  · obtain ⟨a, ns, rfl, _⟩ := h
    rfl
  · obtain ⟨a, ns, rfl, hS, hlen, k⟩ := h
    have hr_box : Room 1 _ := hr.mono (by decide)
    have hr_draw : Room 1 _ := hr.mono (by decide)
    have hr_sum : Room 1 _ := hr.mono (by decide)
    have hr_lerr : Room 1 _ := hr.mono (by decide)
    have hr_web : Room 3 _ := hr.mono (by decide)
    have hr_some : Room 3 _ := hr.mono (by decide)
    have hr_odd : Room 3 _ := hr.mono (by decide)
    have hr_err : Room 3 _ := hr.mono (by decide)
    have hr_iscut_g : Room 4 _ := hr
    have hr_summed_g : Room 4 _ := hr
    have hu64 := hr.units
    have nd := scLaw.nd
    refine ⟨_, (pss_cons (ps_set (i := 1) nd rfl (by first | exact Or.inl rfl | exact Or.inr rfl) (pe_call G_box hr_box (by rfl) D_box.ad D_box.fn.kp D_box.bd .nil pass0 (pa_cons (pv 0) pa_nil)))
      (pss_cons (ps_for PassesOwn.never rfl (pi_range1 rfl T.range (pa_cons pe_int pa_nil)) (pg_name (i := 2) nd rfl (by first | exact Or.inl rfl | exact Or.inr rfl)) (pss_cons (ps_set (i := 3) nd rfl (by first | exact Or.inl rfl | exact Or.inr rfl) (pe_call G_web hr_web (by rfl) D_web.ad D_web.fn.kp D_web.bd .nil pass0 (pa_cons (pv 1) (pa_cons (pe_ix (ixL K) (pe_lst (pa_cons pe_int (pa_cons pe_int (pa_cons pe_int (pa_cons pe_int (pa_cons pe_int pa_nil)))))) (pv 2) (fun _ _ => rfl)) (pa_cons (pe_ix (ixL K) (pe_lst (pa_cons pe_int (pa_cons pe_int (pa_cons pe_int (pa_cons pe_int (pa_cons pe_int pa_nil)))))) (pv 2) (fun _ _ => rfl)) pa_nil)))))
      (pss_cons (ps_set (i := 4) nd rfl (by first | exact Or.inl rfl | exact Or.inr rfl) (pe_callB (reprK K hgd hu64) (by rfl) T.repr (by decide +kernel) (pa_cons (pv 3) pa_nil)))
      (pss_cons (ps_for PassesOwn.never rfl (pi_range1 rfl T.range (pa_cons pe_int pa_nil)) (pg_name (i := 5) nd rfl (by first | exact Or.inl rfl | exact Or.inr rfl)) (pss_cons (ps_set (i := 7) nd rfl (by first | exact Or.inl rfl | exact Or.inr rfl) (pe_call G_some hr_some (by rfl) D_some.ad D_some.fn.kp D_some.bd .nil pass0 (pa_cons (pv 1) (pa_cons (pe_callB (lenK K) (by rfl) T.len PySem.boot_len (pa_cons (pe_ix (ixT K) (pv 3) pe_int (fun _ _ => rfl)) pa_nil)) pa_nil))))
      (pss_cons (ps_set (i := 8) nd rfl (by first | exact Or.inl rfl | exact Or.inr rfl) (pe_call G_odd hr_odd (by rfl) D_odd.ad D_odd.fn.kp D_odd.bd .nil pass0 (pa_cons (pv 1) (pa_cons (pv 3) (pa_cons (pv 7) pa_nil)))))
      (pss_cons (ps_set (i := 9) nd rfl (by first | exact Or.inl rfl | exact Or.inr rfl) (pe_callB (reprO K hgd hu64) (by rfl) T.repr (by decide +kernel) (pa_cons (pv 8) pa_nil)))
      (pss_cons (ps_set (i := 10) nd rfl (by first | exact Or.inl rfl | exact Or.inr rfl) (pe_lst (pa_cons (pe_call G_err hr_err (by rfl) D_err.ad D_err.fn.kp D_err.bd .nil pass0 (pa_cons (pv 3) (pa_cons (pv 7) pa_nil))) (pa_cons (pe_ifExp (pt_cmpR op_eq (pv 5) pe_int (nomark _)) (pe_callK0 G_err hr_err (by rfl) D_err.ad D_err.fn.kp K_err pass0 (pk_cons (pv 8) (pk_cons (pv 3) pk_nil))) (pe_call G_err hr_err (by rfl) D_err.ad D_err.fn.kp D_err.bd .nil pass0 (pa_cons (pv 3) (pa_cons (pv 8) pa_nil)))) pa_nil))))
      (pss_cons (ps_if (PW.pt (pw_or (pt_cmpR op_ne (pe_callB (reprK K hgd hu64) (by rfl) T.repr (by decide +kernel) (pa_cons (pv 10) pa_nil)) (pe_callB (reprK K hgd hu64) (by rfl) T.repr (by decide +kernel) (pa_cons (pe_lst (pa_cons pe_non (pa_cons (pe_call G_lerr hr_lerr (by rfl) D_lerr.ad D_lerr.fn.kp D_lerr.bd .nil pass0 (pa_cons (pv 3) (pa_cons (pv 8) pa_nil))) pa_nil))) pa_nil)) (nomark _)) (pw_or1 (pt_cmpR op_ne (pe_callB (reprO K hgd hu64) (by rfl) T.repr (by decide +kernel) (pa_cons (pv 8) pa_nil)) (pv 9) (nomark _))))) (pss_one (ps_ret pe_bl)) pss_nil)
      (pss_one (ps_if (pt_not (pt_val (pe_callG G_iscut_g hgd hr_iscut_g (by rfl) D_iscut_g.ad D_iscut_g.fn.kp D_iscut_g.bd .nil pass0 (pa_cons (pv 1) (pa_cons (pv 3) (pa_cons (pe_cmpR op_eq (pv 5) pe_int (nomark _)) pa_nil)))))) (pss_one (ps_ret pe_bl)) pss_nil))))))))
      (pss_cons (ps_set (i := 6) nd rfl (by first | exact Or.inl rfl | exact Or.inr rfl) (pe_callTy (tupleK K) (by rfl) T.tuple (by decide +kernel) (pa_cons (pe_lc (own := [("_law_step", 5)]) (g := (gName 5)) (tt := tYes) rfl nd (pi_range1 rfl T.range (pa_cons (pe_call G_draw hr_draw (by rfl) D_draw.ad D_draw.fn.kp D_draw.bd .nil pass0 (pa_cons (pv 1) (pa_cons pe_int pa_nil))) pa_nil)) (blkOk_by (own := [("_law_step", 5)]) (N := nLaw) (sc := defScope sLaw) (by decide +kernel)) (fun _ _ _ _ _ => (pg_name (i := 5) nd rfl (by first | exact Or.inl rfl | exact Or.inr rfl))) (fun _ _ _ _ _ => pts_nil) (fun _ _ _ _ _ => (pe_call G_some hr_some (by rfl) D_some.ad D_some.fn.kp D_some.bd .nil pass0 (pa_cons (pv 1) (pa_cons (pe_callB (lenK K) (by rfl) T.len PySem.boot_len (pa_cons (pe_ix (ixT K) (pv 3) pe_int (fun _ _ => rfl)) pa_nil)) pa_nil))))) pa_nil)))
      (pss_one (ps_if (PW.pt (pw_or (pt_not (pt_val (pe_callG G_summed_g hgd hr_summed_g (by rfl) D_summed_g.ad D_summed_g.fn.kp D_summed_g.bd .nil pass0 (pa_cons (pv 6) (pa_cons (pe_cmpR op_eq (pv 2) pe_int (nomark _)) pa_nil))))) (pw_or (pt_not (pt_val (pe_callG G_summed_g hgd hr_summed_g (by rfl) D_summed_g.ad D_summed_g.fn.kp D_summed_g.bd .nil pass0 (pa_cons (pe_slice (slTA K) (pv 6) po_none (po_some pe_int)) (pa_cons pe_bl pa_nil))))) (pw_or1 (pt_cmpR op_ne (pe_callB (reprK K hgd hu64) (by rfl) T.repr (by decide +kernel) (pa_cons (pv 3) pa_nil)) (pv 4) (nomark _)))))) (pss_one (ps_ret pe_bl)) pss_nil)))))))
      (pss_one (ps_ret (pe_cmpR op_eq (pe_callB (reprK K hgd hu64) (by rfl) T.repr (by decide +kernel) (pa_cons (pe_call G_sum hr_sum (by rfl) D_sum.ad D_sum.fn.kp D_sum.bd .nil pass0 (pa_cons (pe_tup pa_nil) pa_nil)) pa_nil)) (pe_callB (reprK K hgd hu64) (by rfl) T.repr (by decide +kernel) (pa_cons (pe_tup pa_nil) pa_nil)) (nomark _)))))), ?_⟩
    refine ⟨_, rfl, a, ns, rfl, hS, hlen, fun b g H1 _ _ _ hB => ?_⟩
    show tSeq _ _ _ _ _
    refine tSeq_go ?_
    refine ⟨5, rfl, by decide, by decide, ?_⟩
    refine for_range (lo := 0) (n := (5 : Int).toNat) (fun i σ Hc => ∃ (v2 v3 v4 v5 v6 v7 v8 v9 v10 : Option V),
      σ = [some (.ref a), some (.ref b), v2, v3, v4, v5, v6, v7, v8, v9, v10] ∧ Box Hc b g) ?_ ?_ ?_
    · exact ⟨none, none, none, none, none, none, none, none, none, rfl, hB⟩
    · rintro i σ Hc hi ⟨v2, v3, v4, v5, v6, v7, v8, v9, v10, rfl, hBc⟩
      have hi4 : i < 5 := hi
      rw [Int.zero_add]
      obtain ⟨m1, e1, q1, q2⟩ := most5 i hi4
      obtain ⟨m2, e2, q3⟩ := more5 i hi4
      show tSeq _ _ _ _ _
      refine tSeq_go ?_
      refine ⟨_, rfl, by decide, fun l1 hl1 => ?_⟩
      have s1 := same_new (o := .lst [.int 1, .int 3, .int 5, .int 8, .int 8]) hl1
      refine ⟨_, rfl, l1, _, _, _, rfl, rfl, SqL.of upd_same, atI_nat e1, by decide, fun l2 hl2 => ?_⟩
      have s2 := same_new (o := .lst [.int 0, .int 4, .int 6, .int 7, .int 7]) hl2
      refine ⟨_, rfl, l2, _, _, _, rfl, rfl, SqL.of upd_same, atI_nat e2, ?_⟩
      refine ⟨b, g, m1, m2, rfl, q1, by omega, by omega, (hBc.same s1).same s2, fun p n ts H3 _ hB3 hdp hok hn hl _ => ?_⟩
      clear s1 s2 hl1 hl2 hBc
      have hends := hok.ends
      have hpos := hok.pos
      have hn8 : n ≤ 8 := by omega
      have hl14 : ts.length ≤ 14 := by omega
      have smW : Sm (webD n ts) 100 3 := (sm_web (fun t ht => by have := hends t ht; omega) (by omega)).mono (by omega) (by omega)
      have shW : Show (webD n ts) := sm_show smW (by decide) (by decide)
      have web_at : ∀ {H4 : Hp}, Kp b g H3 H4 → Dp K H4 (.ref p) (webD n ts) := fun kp => dp_kf (KF.of_kp kp hB3) _ (still_web n ts) hdp
      have ties_at_ : ∀ {H4 : Hp}, Kp b g H3 H4 → ∃ (c : Addr) (ys : List V), SqT K H4 p [.int n, .ref c] ∧ SqT K H4 c ys ∧ ys.length = ts.length := fun kp => by
        obtain ⟨a2, c, ys, e, ha, hc, hys⟩ := dp_web (web_at kp)
        cases e
        exact ⟨c, ys, ha, hc, by rw [dpAll_len hys, List.length_map]⟩
      dsimp only [gName]
      refine at_st [some (.ref a), some (.ref b), some (.int i), some (.ref p), v4, v5, v6, v7, v8, v9, v10] rfl ?_
      refine tSeq_go ?_
      -- kept
      refine ⟨_, rfl, .ref p, webD n ts, rfl, hdp, shW, ?_⟩
      dsimp only [gName]
      refine at_st [some (.ref a), some (.ref b), some (.int i), some (.ref p), some (.str (webD n ts).shown), v5, v6, v7, v8, v9, v10] rfl ?_
      refine tSeq_go ?_
      -- lots and things near lots
      refine ⟨5, rfl, by decide, by decide, ?_⟩
      refine for_range (lo := 0) (n := (5 : Int).toNat) (fun j σ Hd => ∃ (v5 v7 v8 v9 v10 : Option V),
        σ = [some (.ref a), some (.ref b), some (.int i), some (.ref p), some (.str (webD n ts).shown), v5, v6, v7, v8, v9, v10] ∧ Kp b g H3 Hd ∧ Box Hd b g) ?_ ?_ ?_
      · exact ⟨v5, v7, v8, v9, v10, rfl, Kp.refl _, hB3⟩
      · rintro j σ H4 hj ⟨v5, v7, v8, v9, v10, rfl, k4, B4⟩
        rw [Int.zero_add]
        obtain ⟨c, ys, hp4, hc4, hyl⟩ := ties_at_ k4
        show tSeq _ _ _ _ _
        refine tSeq_go ?_
        refine ⟨_, rfl, _, rfl, p, _, _, _, rfl, rfl, hp4, atI_nat (j := 1) rfl, c, ys, rfl, .inr hc4, ?_⟩
        rw [hyl]
        refine ⟨b, g, ts.length, rfl, B4, by omega, fun lv ks H5 kp5 B5 hlv hks hkp => ?_⟩
        have k5 := k4.trans kp5
        dsimp only [gName]
        refine at_st [some (.ref a), some (.ref b), some (.int i), some (.ref p), some (.str (webD n ts).shown), some (.int j), v6, some lv, v8, v9, v10] rfl ?_
        refine tSeq_go ?_
        have hkl : ks.length ≤ 14 := Nat.le_trans (nodup_bound ts.length ks (hkp.imp fun z => Nat.ne_of_lt z) hks) hl14
        refine ⟨_, rfl, _, rfl, _, rfl, b, g, .ref p, lv, n, ts, ks, rfl, B5, web_at k5, hlv, fun k hk => by have := hks k hk; omega, by omega, by omega, fun ov H6 kp6 B6 hov => ?_⟩
        have k6 := k5.trans kp6
        have hlv6 := dp_kf (KF.of_kp kp6 B5) _ (still_lot ks) hlv
        obtain ⟨d, hod, hso, hdl⟩ := hov
        dsimp only [gName]
        refine at_st [some (.ref a), some (.ref b), some (.int i), some (.ref p), some (.str (webD n ts).shown), some (.int j), v6, some lv, some ov, v9, v10] rfl ?_
        refine tSeq_go ?_
        -- stayed
        refine ⟨_, rfl, ov, d, rfl, hod _ (Kp.refl _), hso, ?_⟩
        dsimp only [gName]
        refine at_st [some (.ref a), some (.ref b), some (.int i), some (.ref p), some (.str (webD n ts).shown), some (.int j), v6, some lv, some ov, some (.str d.shown), v10] rfl ?_
        refine tSeq_go ?_
        -- told
        have smE : Sm (errD ts.length d) 8 3 := errD_sm hdl
        have shE : Show (.list [.none, errD ts.length d]) := sm_show (sm_lst (c := 8) (k := 3) (by
          intro d' hd'
          simp only [List.mem_cons, List.not_mem_nil, or_false] at hd'
          rcases hd' with rfl | rfl
          · exact sm_none.mono (by decide) (by decide)
          · exact smE)) (by show 2 * 8 + 1 ≤ 15000; decide) (by decide)
        refine tAsg_by (fun u H' => Same H6 H' ∧ Dp K H' u (.list [.none, errD ts.length d])) ?_ (fun cont => ?_)
        · rintro ut H7 ⟨s7, hut⟩
          dsimp only [gName]
          refine at_st [some (.ref a), some (.ref b), some (.int i), some (.ref p), some (.str (webD n ts).shown), some (.int j), v6, some lv, some ov, some (.str d.shown), some ut] rfl ?_
          refine tSeq_go ?_
          refine tIfS_t (fun t H' => Same H6 H' ∧ t = false) ?_ ?_ (fun cont4 => ?_)
          · rintro H' ⟨_, z⟩
            cases z
          · rintro H8 ⟨s8, _⟩
            have k8 := k6.trans (Kp.same s8)
            have B8 := B6.same s8
            dsimp only [tNext]
            refine ⟨_, rfl, _, rfl, _, rfl, rfl, b, g, .ref p, n, ts, _, rfl, B8, web_at k8, hends, by omega, by omega, fun H9 kp9 B9 => ⟨true, rfl, ?_⟩⟩
            refine iteF ?_
            exact ⟨_, _, _, _, _, rfl, k8.trans kp9, B9⟩
          · refine ⟨_, rfl, ut, _, rfl, hut, shE, ?_⟩
            have k7 := k6.trans (Kp.same s7)
            refine ⟨_, rfl, _, rfl, .ref p, ov, n, ts, d, rfl, web_at k7, hod _ (Kp.same s7), fun u3 H8 s8 hu3 => ?_⟩
            refine ⟨by show 2 ≤ sizeLine; decide, fun q hq => ?_⟩
            have s9 := same_new (o := .lst [.non, u3]) hq
            have s79 := s7.trans (s8.trans s9)
            refine ⟨.ref q, .list [.none, errD ts.length d], rfl, .lst (SqL.of upd_same) (.cons .non (.cons (dp_same s9 _ hu3) .nil)), shE, ?_⟩
            refine ⟨rfl, _, rfl, ?_⟩
            refine iteNS rfl ?_
            refine ⟨_, rfl, ov, d, rfl, hod _ (Kp.same s79), hso, _, rfl, rfl, _, rfl, ?_⟩
            exact cont4 _ _ ⟨s79, by simp⟩
        · refine ⟨_, rfl, _, rfl, .ref p, lv, n, ts, lotD ks, rfl, web_at k6, .inl hlv6, fun u1 H7 s7 hu1 => ?_⟩
          rw [errD_lot hks hkp] at hu1
          refine tIf_by (fun u H' => Same H7 H' ∧ Dp K H' u (errD ts.length d)) ?_ (fun cont2 => ?_)
          · rintro u2 H8 ⟨s8, hu2⟩
            refine ⟨by show 2 ≤ sizeLine; decide, fun q hq => ?_⟩
            have s9 := same_new (o := .lst [u1, u2]) hq
            exact cont _ _ ⟨s7.trans (s8.trans s9), .lst (SqL.of upd_same) (.cons (dp_same (s8.trans s9) _ hu1) (.cons (dp_same s9 _ hu2) .nil))⟩
          · have k7 := k6.trans (Kp.same s7)
            have hod7 := hod _ (Kp.same s7)
            refine ⟨_, rfl, rfl, _, rfl, ?_⟩
            refine ite2 (fun hh => ?_) (fun hh => ?_)
            · exact ⟨_, rfl, _, rfl, rfl, .ref p, ov, n, ts, d, rfl, web_at k7, hod7, fun u2 H8 s8 hu2 => cont2 _ _ ⟨s8, hu2⟩⟩
            · exact ⟨_, rfl, _, rfl, .ref p, ov, n, ts, d, rfl, web_at k7, hod7, fun u2 H8 s8 hu2 => cont2 _ _ ⟨s8, hu2⟩⟩
      · rintro σ H4 ⟨v5, v7, v8, v9, v10, rfl, k4, B4⟩
        dsimp only
        refine tSeq_go ?_
        -- some lots
        refine tAsg_by (fun u H' => Kp b g H4 H' ∧ Box H' b g ∧ ∃ ls : List (List Nat), Dp K H' u (.tuple (ls.map lotD)) ∧ (∀ l ∈ ls, (∀ k ∈ l, k < 14) ∧ l.length ≤ 50) ∧ ls.length ≤ 6) ?_ (fun cont => ?_)
        · rintro ul H5 ⟨kp5, B5, ls, hul, hls, hll⟩
          have k5 := k4.trans kp5
          dsimp only [gName]
          refine at_st [some (.ref a), some (.ref b), some (.int i), some (.ref p), some (.str (webD n ts).shown), v5, some ul, v7, v8, v9, v10] rfl ?_
          refine tIfS_t (fun t H' => Same H5 H' ∧ t = false) ?_ ?_ (fun cont4 => ?_)
          · rintro H' ⟨_, z⟩
            cases z
          · rintro H8 ⟨s8, _⟩
            exact ⟨_, _, _, _, _, _, _, _, _, rfl, B5.same s8⟩
          · obtain ⟨aul, xs, rfl, haul, hxs⟩ := dp_tup hul
            refine ⟨_, rfl, _, rfl, rfl, .ref aul, ls, 14, _, rfl, hul, hls, by omega, by omega, fun H6 s6 => ⟨true, rfl, ?_⟩⟩
            refine iteF ?_
            refine ⟨_, rfl, ((2 : Nat) : Int), rfl, ?_⟩
            refine slA_by rfl (sqT_same s6 haul) fun c1 H7 s7 hc1 => ?_
            rw [cut_hi] at hc1
            have s67 := s6.trans s7
            refine ⟨.ref c1, ls.take 2, 14, false, rfl, .tup hc1 ?_, fun l hl => hls l (List.mem_of_mem_take hl), by omega, by rw [List.length_take]; omega, fun H8 s8 => ⟨true, rfl, ?_⟩⟩
            · rw [List.map_take]
              exact dpAll_take 2 (dpAll_same s67 _ hxs)
            have s68 := s67.trans s8
            refine iteF ?_
            refine ⟨_, rfl, .ref p, webD n ts, rfl, web_at (k5.trans (Kp.same s68)), shW, _, rfl, rfl, _, rfl, ?_⟩
            exact cont4 _ _ ⟨s68, by simp⟩
        · refine ⟨_, rfl, b, g, 6, rfl, by decide, by decide, B4, fun r H5 r0 r1 kp5 B5 => ?_⟩
          have k5 := k4.trans kp5
          refine ⟨r, rfl, by omega, by omega, fun E1 hE1 => ?_⟩
          refine lc_runB (walk_range (lo := 0) (n := r.toNat)) hE1 B5 (fun i acc Hq => ∃ ls : List (List Nat), DpAll K Hq acc (ls.map lotD) ∧ (∀ l ∈ ls, (∀ k ∈ l, k < 14) ∧ l.length ≤ 50) ∧ ls.length ≤ i) ?_ ?_ ?_ ?_
          · exact fun _ _ _ => trivial
          · exact ⟨[], .nil, by simp, Nat.le_refl _⟩
          · rintro i2 x acc H6 H' nb ng hi2 hacc e kk hBx ⟨ls, h1, h2, h3⟩ ⟨rfl, rfl⟩
            dsimp only
            rw [Int.zero_add]
            have k6 := k5.trans kk
            obtain ⟨c, ys, hp6, hc6, hyl⟩ := ties_at_ k6
            refine ⟨rfl, yes_go ?_⟩
            refine ⟨_, rfl, _, rfl, p, _, _, _, rfl, rfl, hp6, atI_nat (j := 1) rfl, c, ys, rfl, .inr hc6, ?_⟩
            rw [hyl]
            refine ⟨b, g, ts.length, rfl, hBx, by omega, fun lv ks H7 kp7 B7 hlv hks hkp => ?_⟩
            have h7 := kp7 _ _ hacc nb ng
            have kfE : KF H7 (era H7 E1) := fun z o hz q => by
              have nz : z ≠ E1 := by
                rintro rfl
                rw [h7] at hz
                obtain ⟨_, rfl | ⟨_, rfl⟩⟩ := q <;> cases hz
              rw [era_ne nz]
              exact hz
            have hal : acc.length ≤ 6 := by
              have e1 := dpAll_len h1
              rw [List.length_map] at e1
              omega
            have hkl : ks.length ≤ 14 := Nat.le_trans (nodup_bound ts.length ks (hkp.imp fun z => Nat.ne_of_lt z) hks) hl14
            refine lc_addB nb ng hacc e kp7 B7 (by omega) ⟨ls ++ [ks], ?_, fun l hl => ?_, by rw [List.length_append, List.length_singleton]; omega⟩
            · rw [List.map_append]
              exact dpAll_app (dpAll_kf (KF.of_kp (era_kp kp7) (box_era hBx nb ng)) _ (still_lots4 ls) h1) (.cons (dp_kf kfE _ (still_lot ks) hlv) .nil)
            · rcases List.mem_append.mp hl with z | z
              · exact h2 l z
              · rw [List.mem_singleton.mp z]
                exact ⟨fun k hk => by have := hks k hk; omega, by omega⟩
          · rintro acc H6 h1 kk hBx ⟨ls, h2, h3, h4⟩
            refine ⟨E1, _, rfl, .inl ⟨SqL.of h1, fun u hu => ?_⟩⟩
            have su := same_new (o := .tup acc) hu
            refine cont _ _ ⟨kp5.trans (kk.trans (Kp.same su)), hBx.same su, ls, .tup (SqT.of upd_same) (dpAll_same (era_back.trans su) _ h2), h3, by omega⟩
    · rintro σ Hc ⟨v2, v3, v4, v5, v6, v7, v8, v9, v10, rfl, hBc⟩
      -- the sum of none
      refine ⟨Nat.zero_le _, fun q hq => ?_⟩
      have s1 := same_new (o := .tup []) hq
      refine ⟨.ref q, [], 0, rfl, .tup (SqT.of upd_same) .nil, by simp, by decide, by decide, fun u ks H2 s2 hu hp hm => ?_⟩
      obtain rfl : ks = [] := asc_uniq hp .nil fun j => by
        rw [hm]
        simp
      have sh : Show (lotD []) := sm_show (sm_lot (ks := []) (by simp)) (by decide) (by decide)
      refine ⟨u, lotD [], rfl, hu, sh, ?_⟩
      refine ⟨Nat.zero_le _, fun q2 hq2 => ?_⟩
      refine ⟨.ref q2, lotD [], rfl, lot_dp (ks := []) (SqT.of upd_same), sh, rfl, ?_⟩
      rw [decide_eq_true rfl]
      exact k _
end
end BV

namespace BV
open PySem L2
section
variable {K : PySem.W.Frag} {mg : Str → Option Value}
theorem df_mk {x : String} {st : Stmt} {ps : List Str} {f : Addr} {oc : Value} {od an : Option Addr} {osl : Array (Option Value)} {kV doc pm cdv ct : Value} {h : Heap}
    (X : K.In h) (G : h.Ns mainGlobals mg)
    (a : PySem.W.nsIn K mainGlobals (Str.ofString x) = some (some (.ref f)))
    (l : K.lookup f = some ⟨oc, od, .func (PySem.W.fnOf (Str.ofString x) (Str.ofString x) (defArgs st) (defBody st) (defScope st) .none kV doc pm an cdv ct), osl⟩)
    (c : PySem.W.codeIn K cdv (Str.ofString x) = true) (k : PySem.W.keepIn K (.ref f) = true)
    (hb : ∀ (kV doc pm : Value) (an : Option Addr) (cdv ct : Value) (us : List Value), us.length = ps.length →
      bindArgs (PySem.W.fnOf (Str.ofString x) (Str.ofString x) (defArgs st) (defBody st) (defScope st) .none kV doc pm an cdv ct) ⟨us, []⟩ = pure (ps.zip us)) :
    Df K mg x st ps f (PySem.W.fnOf (Str.ofString x) (Str.ofString x) (defArgs st) (defBody st) (defScope st) .none kV doc pm an cdv ct) :=
  ⟨fun_mk (st := st) l c k, PySem.W.mg_of X G a, (fun_mk (st := st) l c k).binds hb⟩
theorem kbn_mk {x : Str} {params : Arguments} {body : List Stmt} {scope : Scope} {f : Addr} {ps ks : List Str} {g : List Value → List Value → List Value} {gV : List V → List V → List V}
    {oc : Value} {od an : Option Addr} {osl : Array (Option Value)} {kV doc pm cdv ct : Value}
    (_l : K.lookup f = some ⟨oc, od, .func (PySem.W.fnOf x x params body scope .none kV doc pm an cdv ct), osl⟩)
    (hb : ∀ us ws : List Value, us.length = 0 → ws.length = ks.length →
      bindArgs (PySem.W.fnOf x x params body scope .none kV doc pm an cdv ct) ⟨us, ks.zip ws⟩ = pure (ps.zip (g us ws)))
    (hr : ∀ {vs : List V} {us : List Value} {zs : List V} {ws : List Value}, Vals vs us → Vals zs ws → Vals (gV vs zs) (g us ws)) :
    KBn K (PySem.W.fnOf x x params body scope .none kV doc pm an cdv ct) ps 0 ks g gV :=
  ⟨fun _ us ws _ h1 h2 => .of_eq (hb us ws h1 h2), hr⟩
end
theorem all_mk {l : PySem.W.OpenLaw} {w : World} {K : PySem.W.Frag} {h : Heap} {mg : Str → Option Value} {fa : Addr} (X : K.In h) (G : h.Ns mainGlobals mg) (hfa : mg "law" = some (.ref fa))
    {f0 f1 f2 f3 f4 f5 f6 f7 f8 f9 f10 f11 f12 f13 f14 : Addr} {od0 an0 od1 an1 od2 an2 od3 an3 od4 an4 od5 an5 od6 an6 od7 an7 od8 an8 od9 an9 od10 an10 od11 an11 od12 an12 od13 an13 od14 an14 : Option Addr} {sl0 sl1 sl2 sl3 sl4 sl5 sl6 sl7 sl8 sl9 sl10 sl11 sl12 sl13 sl14 : Array (Option Value)}
    {oc0 kV0 dc0 pm0 cd0 ct0 oc1 kV1 dc1 pm1 cd1 ct1 oc2 kV2 dc2 pm2 cd2 ct2 oc3 kV3 dc3 pm3 cd3 ct3 oc4 kV4 dc4 pm4 cd4 ct4 oc5 kV5 dc5 pm5 cd5 ct5 oc6 kV6 dc6 pm6 cd6 ct6 oc7 kV7 dc7 pm7 cd7 ct7 oc8 kV8 dc8 pm8 cd8 ct8 oc9 kV9 dc9 pm9 cd9 ct9 oc10 kV10 dc10 pm10 cd10 ct10 oc11 kV11 dc11 pm11 cd11 ct11 oc12 kV12 dc12 pm12 cd12 ct12 oc13 kV13 dc13 pm13 cd13 ct13 oc14 kV14 dc14 pm14 cd14 ct14 : Value}
    (a0 : PySem.W.nsIn K mainGlobals "whole" = some (some (.ref f0)))
    (l0 : K.lookup f0 = some ⟨oc0, od0, .func (PySem.W.fnOf "whole" "whole" (defArgs sWhole) (defBody sWhole) (defScope sWhole) .none kV0 dc0 pm0 an0 cd0 ct0), sl0⟩)
    (c0 : PySem.W.codeIn K cd0 "whole" = true) (k0 : PySem.W.keepIn K (.ref f0) = true)
    (a1 : PySem.W.nsIn K mainGlobals "whole_within" = some (some (.ref f1)))
    (l1 : K.lookup f1 = some ⟨oc1, od1, .func (PySem.W.fnOf "whole_within" "whole_within" (defArgs sWithin) (defBody sWithin) (defScope sWithin) .none kV1 dc1 pm1 an1 cd1 ct1), sl1⟩)
    (c1 : PySem.W.codeIn K cd1 "whole_within" = true) (k1 : PySem.W.keepIn K (.ref f1) = true)
    (a2 : PySem.W.nsIn K mainGlobals "lot_error" = some (some (.ref f2)))
    (l2 : K.lookup f2 = some ⟨oc2, od2, .func (PySem.W.fnOf "lot_error" "lot_error" (defArgs sErr) (defBody sErr) (defScope sErr) .none kV2 dc2 pm2 an2 cd2 ct2), sl2⟩)
    (c2 : PySem.W.codeIn K cd2 "lot_error" = true) (k2 : PySem.W.keepIn K (.ref f2) = true)
    (a3 : PySem.W.nsIn K mainGlobals "sum_of" = some (some (.ref f3)))
    (l3 : K.lookup f3 = some ⟨oc3, od3, .func (PySem.W.fnOf "sum_of" "sum_of" (defArgs sSum) (defBody sSum) (defScope sSum) .none kV3 dc3 pm3 an3 cd3 ct3), sl3⟩)
    (c3 : PySem.W.codeIn K cd3 "sum_of" = true) (k3 : PySem.W.keepIn K (.ref f3) = true)
    (a4 : PySem.W.nsIn K mainGlobals "cut_of" = some (some (.ref f4)))
    (l4 : K.lookup f4 = some ⟨oc4, od4, .func (PySem.W.fnOf "cut_of" "cut_of" (defArgs sCut) (defBody sCut) (defScope sCut) .none kV4 dc4 pm4 an4 cd4 ct4), sl4⟩)
    (c4 : PySem.W.codeIn K cd4 "cut_of" = true) (k4 : PySem.W.keepIn K (.ref f4) = true)
    (a5 : PySem.W.nsIn K mainGlobals "_law_box" = some (some (.ref f5)))
    (l5 : K.lookup f5 = some ⟨oc5, od5, .func (PySem.W.fnOf "_law_box" "_law_box" (defArgs sBox) (defBody sBox) (defScope sBox) .none kV5 dc5 pm5 an5 cd5 ct5), sl5⟩)
    (c5 : PySem.W.codeIn K cd5 "_law_box" = true) (k5 : PySem.W.keepIn K (.ref f5) = true)
    (a6 : PySem.W.nsIn K mainGlobals "_law_draw" = some (some (.ref f6)))
    (l6 : K.lookup f6 = some ⟨oc6, od6, .func (PySem.W.fnOf "_law_draw" "_law_draw" (defArgs sDraw) (defBody sDraw) (defScope sDraw) .none kV6 dc6 pm6 an6 cd6 ct6), sl6⟩)
    (c6 : PySem.W.codeIn K cd6 "_law_draw" = true) (k6 : PySem.W.keepIn K (.ref f6) = true)
    (a7 : PySem.W.nsIn K mainGlobals "_law_pick" = some (some (.ref f7)))
    (l7 : K.lookup f7 = some ⟨oc7, od7, .func (PySem.W.fnOf "_law_pick" "_law_pick" (defArgs sPick) (defBody sPick) (defScope sPick) .none kV7 dc7 pm7 an7 cd7 ct7), sl7⟩)
    (c7 : PySem.W.codeIn K cd7 "_law_pick" = true) (k7 : PySem.W.keepIn K (.ref f7) = true)
    (a8 : PySem.W.nsIn K mainGlobals "_law_web" = some (some (.ref f8)))
    (l8 : K.lookup f8 = some ⟨oc8, od8, .func (PySem.W.fnOf "_law_web" "_law_web" (defArgs sWeb) (defBody sWeb) (defScope sWeb) .none kV8 dc8 pm8 an8 cd8 ct8), sl8⟩)
    (c8 : PySem.W.codeIn K cd8 "_law_web" = true) (k8 : PySem.W.keepIn K (.ref f8) = true)
    (a9 : PySem.W.nsIn K mainGlobals "_law_error" = some (some (.ref f9)))
    (l9 : K.lookup f9 = some ⟨oc9, od9, .func (PySem.W.fnOf "_law_error" "_law_error" (defArgs sLerr) (defBody sLerr) (defScope sLerr) .none kV9 dc9 pm9 an9 cd9 ct9), sl9⟩)
    (c9 : PySem.W.codeIn K cd9 "_law_error" = true) (k9 : PySem.W.keepIn K (.ref f9) = true)
    (a10 : PySem.W.nsIn K mainGlobals "_law_some" = some (some (.ref f10)))
    (l10 : K.lookup f10 = some ⟨oc10, od10, .func (PySem.W.fnOf "_law_some" "_law_some" (defArgs sSome) (defBody sSome) (defScope sSome) .none kV10 dc10 pm10 an10 cd10 ct10), sl10⟩)
    (c10 : PySem.W.codeIn K cd10 "_law_some" = true) (k10 : PySem.W.keepIn K (.ref f10) = true)
    (a11 : PySem.W.nsIn K mainGlobals "_law_odd" = some (some (.ref f11)))
    (l11 : K.lookup f11 = some ⟨oc11, od11, .func (PySem.W.fnOf "_law_odd" "_law_odd" (defArgs sOdd) (defBody sOdd) (defScope sOdd) .none kV11 dc11 pm11 an11 cd11 ct11), sl11⟩)
    (c11 : PySem.W.codeIn K cd11 "_law_odd" = true) (k11 : PySem.W.keepIn K (.ref f11) = true)
    (a12 : PySem.W.nsIn K mainGlobals "_law_is_summed" = some (some (.ref f12)))
    (l12 : K.lookup f12 = some ⟨oc12, od12, .func (PySem.W.fnOf "_law_is_summed" "_law_is_summed" (defArgs sSummed) (defBody sSummed) (defScope sSummed) .none kV12 dc12 pm12 an12 cd12 ct12), sl12⟩)
    (c12 : PySem.W.codeIn K cd12 "_law_is_summed" = true) (k12 : PySem.W.keepIn K (.ref f12) = true)
    (a13 : PySem.W.nsIn K mainGlobals "_law_is_cut" = some (some (.ref f13)))
    (l13 : K.lookup f13 = some ⟨oc13, od13, .func (PySem.W.fnOf "_law_is_cut" "_law_is_cut" (defArgs sIscut) (defBody sIscut) (defScope sIscut) .none kV13 dc13 pm13 an13 cd13 ct13), sl13⟩)
    (c13 : PySem.W.codeIn K cd13 "_law_is_cut" = true) (k13 : PySem.W.keepIn K (.ref f13) = true)
    (a14 : PySem.W.nsIn K mainGlobals "law" = some (some (.ref f14)))
    (l14 : K.lookup f14 = some ⟨oc14, od14, .func (PySem.W.fnOf "law" "law" (defArgs sLaw) (defBody sLaw) (defScope sLaw) .none kV14 dc14 pm14 an14 cd14 ct14), sl14⟩)
    (c14 : PySem.W.codeIn K cd14 "law" = true) (k14 : PySem.W.keepIn K (.ref f14) = true)
    (z_int : PySem.W.nsIn K mainGlobals "int" = some none)
    (z_abs : PySem.W.nsIn K mainGlobals "abs" = some none)
    (z_len : PySem.W.nsIn K mainGlobals "len" = some none)
    (z_range : PySem.W.nsIn K mainGlobals "range" = some none)
    (z_enumerate : PySem.W.nsIn K mainGlobals "enumerate" = some none)
    (z_tuple : PySem.W.nsIn K mainGlobals "tuple" = some none)
    (z_min : PySem.W.nsIn K mainGlobals "min" = some none)
    (z_max : PySem.W.nsIn K mainGlobals "max" = some none)
    (z_sum : PySem.W.nsIn K mainGlobals "sum" = some none)
    (z_repr : PySem.W.nsIn K mainGlobals "repr" = some none)
    (z_isinstance : PySem.W.nsIn K mainGlobals "isinstance" = some none)
    (z_bool : PySem.W.nsIn K mainGlobals "bool" = some none)
    (z_list : PySem.W.nsIn K mainGlobals "list" = some none)
    (z_sorted : PySem.W.nsIn K mainGlobals "sorted" = some none)
    (z_set : PySem.W.nsIn K mainGlobals "set" = some none) :
    ∃ fd : FuncData, (∀ (s : Shared) (v : Value), BindsTo s fd ⟨[v], []⟩ [("_law_script", v)]) ∧
      ∀ base : Heap, K.In base → base.Ns mainGlobals mg → FnG l.prog w K mg base CX0 5 fa fd ["_law_script"] (spLaw K) := by
  have e := hfa.symm.trans (PySem.W.mg_of X G a14)
  cases e
  have T : Bl mg := ⟨PySem.W.mg_none_of X G z_int, PySem.W.mg_none_of X G z_abs, PySem.W.mg_none_of X G z_len, PySem.W.mg_none_of X G z_range, PySem.W.mg_none_of X G z_enumerate, PySem.W.mg_none_of X G z_tuple, PySem.W.mg_none_of X G z_min, PySem.W.mg_none_of X G z_max, PySem.W.mg_none_of X G z_sum, PySem.W.mg_none_of X G z_repr⟩
  have U : Bl4 mg := ⟨PySem.W.mg_none_of X G z_isinstance, PySem.W.mg_none_of X G z_bool, PySem.W.mg_none_of X G z_list, PySem.W.mg_none_of X G z_sorted, PySem.W.mg_none_of X G z_set⟩
  have D0 : Df K mg "whole" sWhole ["value"] f0 _ := df_mk X G a0 l0 c0 k0 fun _ _ _ _ _ _ us hl => match us, hl with | [_], _ => rfl
  have D1 : Df K mg "whole_within" sWithin ["value", "low", "high"] f1 _ := df_mk X G a1 l1 c1 k1 fun _ _ _ _ _ _ us hl => match us, hl with | [_, _, _], _ => rfl
  have D2 : Df K mg "lot_error" sErr ["web", "value"] f2 _ := df_mk X G a2 l2 c2 k2 fun _ _ _ _ _ _ us hl => match us, hl with | [_, _], _ => rfl
  have D3 : Df K mg "sum_of" sSum ["lots"] f3 _ := df_mk X G a3 l3 c3 k3 fun _ _ _ _ _ _ us hl => match us, hl with | [_], _ => rfl
  have D4 : Df K mg "cut_of" sCut ["web", "places"] f4 _ := df_mk X G a4 l4 c4 k4 fun _ _ _ _ _ _ us hl => match us, hl with | [_, _], _ => rfl
  have D5 : Df K mg "_law_box" sBox ["_law_script"] f5 _ := df_mk X G a5 l5 c5 k5 fun _ _ _ _ _ _ us hl => match us, hl with | [_], _ => rfl
  have D6 : Df K mg "_law_draw" sDraw ["_law_box_here", "_law_many"] f6 _ := df_mk X G a6 l6 c6 k6 fun _ _ _ _ _ _ us hl => match us, hl with | [_, _], _ => rfl
  have D7 : Df K mg "_law_pick" sPick ["_law_box_here", "_law_items"] f7 _ := df_mk X G a7 l7 c7 k7 fun _ _ _ _ _ _ us hl => match us, hl with | [_, _], _ => rfl
  have D8 : Df K mg "_law_web" sWeb ["_law_box_here", "_law_most", "_law_more"] f8 _ := df_mk X G a8 l8 c8 k8 fun _ _ _ _ _ _ us hl => match us, hl with | [_, _, _], _ => rfl
  have D9 : Df K mg "_law_error" sLerr ["_law_web_here", "_law_thing"] f9 _ := df_mk X G a9 l9 c9 k9 fun _ _ _ _ _ _ us hl => match us, hl with | [_, _], _ => rfl
  have D10 : Df K mg "_law_some" sSome ["_law_box_here", "_law_many"] f10 _ := df_mk X G a10 l10 c10 k10 fun _ _ _ _ _ _ us hl => match us, hl with | [_, _], _ => rfl
  have D11 : Df K mg "_law_odd" sOdd ["_law_box_here", "_law_web_here", "_law_lot"] f11 _ := df_mk X G a11 l11 c11 k11 fun _ _ _ _ _ _ us hl => match us, hl with | [_, _, _], _ => rfl
  have D12 : Df K mg "_law_is_summed" sSummed ["_law_lots", "_law_is_named"] f12 _ := df_mk X G a12 l12 c12 k12 fun _ _ _ _ _ _ us hl => match us, hl with | [_, _], _ => rfl
  have D13 : Df K mg "_law_is_cut" sIscut ["_law_box_here", "_law_web_here", "_law_is_named"] f13 _ := df_mk X G a13 l13 c13 k13 fun _ _ _ _ _ _ us hl => match us, hl with | [_, _, _], _ => rfl
  have D14 : Df K mg "law" sLaw ["_law_script"] fa _ := df_mk X G a14 l14 c14 k14 fun _ _ _ _ _ _ us hl => match us, hl with | [_], _ => rfl
  have Kerr : KBn K _ ["web", "value"] 0 ["value", "web"] (fun _ ws => ws.reverse) (fun _ zs => zs.reverse) := kbn_mk l2 (fun us ws h1 h2 => match us, ws, h1, h2 with | [], [_, _], _, _ => rfl) (fun r1 r2 => r2.reverse)
  have Ksum : KBn K _ ["lots"] 0 ["lots"] (fun _ ws => ws) (fun _ zs => zs) := kbn_mk l3 (fun us ws h1 h2 => match us, ws, h1, h2 with | [], [_], _, _ => rfl) (fun r1 r2 => r2)
  have Kcut : KBn K _ ["web", "places"] 0 ["places", "web"] (fun _ ws => ws.reverse) (fun _ zs => zs.reverse) := kbn_mk l4 (fun us ws h1 h2 => match us, ws, h1, h2 with | [], [_, _], _, _ => rfl) (fun r1 r2 => r2.reverse)
  exact ⟨_, fun s v => .of_eq rfl, fun base _ _ => ok_law D14 T U D0 D1 D2 Kerr D3 Ksum D4 Kcut D5 D6 D7 D8 D9 D10 D11 D12 D13⟩
end BV

open PySem PySem.W PyProof.Rows in
set_option maxRecDepth 100000 in
set_option maxHeartbeats 0 in
theorem PySem.Challenge.cw_botheven_k04_lots_sums_and_cuts_holds : PySem.Challenge.rw_botheven_k04_lots_sums_and_cuts.Holds := by
  w_on; o_law; k_head; (case hw => w_witness2)
  k_fill
  refine BV.walk_ofG (n := 63) (k := 5) (x := "_law_script") (CX := L2.CX0) (sp := BV.spLaw) (l := PySem.Challenge.rw_botheven_k04_lots_sums_and_cuts) rfl (by decide) rfl ⟨rfl, by decide, by decide⟩ (fun w h Y => PySem.W.kIn_of Y) ?F (fun _ _ a ns hl _ _ hS => ⟨a, ns, rfl, hS, hl, fun _ => rfl⟩) fun _ _ _ _ z => z
  case F =>
    intro w mg fa h KX G hmg
    refine' BV.all_mk KX G hmg ?a0 ?l0 ?c0 ?k0 ?a1 ?l1 ?c1 ?k1 ?a2 ?l2 ?c2 ?k2 ?a3 ?l3 ?c3 ?k3 ?a4 ?l4 ?c4 ?k4 ?a5 ?l5 ?c5 ?k5 ?a6 ?l6 ?c6 ?k6 ?a7 ?l7 ?c7 ?k7 ?a8 ?l8 ?c8 ?k8 ?a9 ?l9 ?c9 ?k9 ?a10 ?l10 ?c10 ?k10 ?a11 ?l11 ?c11 ?k11 ?a12 ?l12 ?c12 ?k12 ?a13 ?l13 ?c13 ?k13 ?a14 ?l14 ?c14 ?k14 ?z_int ?z_abs ?z_len ?z_range ?z_enumerate ?z_tuple ?z_min ?z_max ?z_sum ?z_repr ?z_isinstance ?z_bool ?z_list ?z_sorted ?z_set
    (case a0 => k_is)
    (case l0 => k_is)
    (case c0 => k_is)
    (case k0 => k_is)
    (case a1 => k_is)
    (case l1 => k_is)
    (case c1 => k_is)
    (case k1 => k_is)
    (case a2 => k_is)
    (case l2 => k_is)
    (case c2 => k_is)
    (case k2 => k_is)
    (case a3 => k_is)
    (case l3 => k_is)
    (case c3 => k_is)
    (case k3 => k_is)
    (case a4 => k_is)
    (case l4 => k_is)
    (case c4 => k_is)
    (case k4 => k_is)
    (case a5 => k_is)
    (case l5 => k_is)
    (case c5 => k_is)
    (case k5 => k_is)
    (case a6 => k_is)
    (case l6 => k_is)
    (case c6 => k_is)
    (case k6 => k_is)
    (case a7 => k_is)
    (case l7 => k_is)
    (case c7 => k_is)
    (case k7 => k_is)
    (case a8 => k_is)
    (case l8 => k_is)
    (case c8 => k_is)
    (case k8 => k_is)
    (case a9 => k_is)
    (case l9 => k_is)
    (case c9 => k_is)
    (case k9 => k_is)
    (case a10 => k_is)
    (case l10 => k_is)
    (case c10 => k_is)
    (case k10 => k_is)
    (case a11 => k_is)
    (case l11 => k_is)
    (case c11 => k_is)
    (case k11 => k_is)
    (case a12 => k_is)
    (case l12 => k_is)
    (case c12 => k_is)
    (case k12 => k_is)
    (case a13 => k_is)
    (case l13 => k_is)
    (case c13 => k_is)
    (case k13 => k_is)
    (case a14 => k_is)
    (case l14 => k_is)
    (case c14 => k_is)
    (case k14 => k_is)
    (case z_int => k_is)
    (case z_abs => k_is)
    (case z_len => k_is)
    (case z_range => k_is)
    (case z_enumerate => k_is)
    (case z_tuple => k_is)
    (case z_min => k_is)
    (case z_max => k_is)
    (case z_sum => k_is)
    (case z_repr => k_is)
    (case z_isinstance => k_is)
    (case z_bool => k_is)
    (case z_list => k_is)
    (case z_sorted => k_is)
    (case z_set => k_is)

