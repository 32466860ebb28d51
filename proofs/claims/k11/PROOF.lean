import PyProof.Rows.All
import Wide.All
import OpenK.AllK
import Wide.FinOn
import HandS.Words
import HandS.WordsList
import HandS.Defaults
import HandS.List
import PyProof.ReprRoads
import HandS.Ends
import HandS.EndBits
import HandS.ForMost
import HandS.TupMul
import HandS.Walk
import HandS.Wide
import KE.GoesEnum
import KE.KTupSum
import KE.KRevSl
import HandS.Style
import PyProof.ReprLen
import HandS.TupAny
import HandS.Zip
import HandS.TupLe
import HandS.Conv
import HandS.ForDict
import KE.SortData
import HandS.IsInst
import HandS.WordsExc
import HandS.ExcIs
import HandS.TryOnly
import HandS.More
import HandS.Text
import HandS.Deep
import PySem.Challenge.RW_botheven_k11_whole_deeds_told_together
set_option Elab.async false
set_option maxRecDepth 100000
set_option maxHeartbeats 4000000
set_option linter.all false
namespace BV
open PySem PySem.Spec PyProof.Rows L2

/-! ### defs that may write texts of data: the same promise, asked only where nothing is being written -/
def CanRun (P : Program) (w : World) (K : PySem.W.Frag) (mg : Str → Option Value) (base : Heap)
    (CX : CXT) (k : Nat) (f : Addr) (fd : FuncData) (ps : List Str) (sp : Sp) : Prop :=
  ∀ (A : Around) (outer : List Env) (s : Shared) (H : Hp) (args : Args) (us : List Value) (vs : List V) (Q : VK) (E : XK),
    A.guards = some [] → Room k A → Env0 P w K mg base A outer s H → BindsTo s fd args (ps.zip us) →
    Vals vs us → sp vs H Q E →
      codeAny (model P w) A (.call (.ref f) args) (CR CX outer P w H s Q E) s

structure FnG (P : Program) (w : World) (K : PySem.W.Frag) (mg : Str → Option Value) (base : Heap)
    (CX : CXT) (k : Nat) (f : Addr) (fd : FuncData) (ps : List Str) (sp : Sp) : Prop where
  len : ∀ vs H Q E, sp vs H Q E → vs.length = ps.length
  run : CanRun P w K mg base CX k f fd ps sp

section
variable {P : Program} {w : World} {K : PySem.W.Frag} {mg : Str → Option Value} {base : Heap} {CX : CXT}

/-- a def's body keeps its promise, the guards told -/
theorem fn_ofG {k : Nat} {f : Addr} {name qual : Str} {params : Arguments} {body : List Stmt} {scope : Scope}
    {dV kV doc pm cdv ct oc : Value} {an od : Option Addr} {osl : Array (Option Value)} {N ps : List Str} {sp : Sp}
    (lk : K.lookup f = some ⟨oc, od, .func (PySem.W.fnOf name qual params body scope dV kV doc pm an cdv ct), osl⟩)
    (hcd : PySem.W.codeIn K cdv qual = true) (S : FnScope N ps scope)
    (len : ∀ vs H Q E, sp vs H Q E → vs.length = ps.length)
    (hbody : ∀ (A : Around) (outer : List Env) (s : Shared) (H : Hp) (vs : List V) (Q : VK) (E : XK), A.guards = some [] →
      Room k (A.deeper (envOfC qual scope s.heap.objs.size f cdv)) → sp vs H Q E →
      ∃ t, PSs (cxOf CX P w K mg base N qual scope f cdv A outer s H E) body t ∧
        t { nx := fun _ H' => Q .non H', rt := Q } (start N vs) H) :
    FnG P w K mg base CX (k + 1) f (PySem.W.fnOf name qual params body scope dV kV doc pm an cdv ct) ps sp := by
  constructor
  · exact len
  · intro A outer s H args us vs Q E hgd hr e0 hb r hsp
    have hl := len _ _ _ _ hsp
    have bk : ∀ b o, base.get? b = some o → s.heap.get? b = some o := fun b o e => (e0.bs b o e).1
    have KX : K.In s.heap := e0.mod.kin.keeps bk
    have hkind : ∀ y ∈ ps.zip us, scope.names.lookup y.1 = some .local ∨
        (scope.names.lookup y.1 = some .cell ∧
          ((cellsFrom (s.heap.objs.size + 1) scope.names []).lookup y.1).isSome = true) := by
      intro y hy
      obtain ⟨n, v⟩ := y
      cases S.par n (List.of_mem_zip hy).1 with
      | inl q => exact Or.inl q
      | inr q => exact Or.inr ⟨q, PySem.W.cellsFrom_some _ _ _ (.inl q)⟩
    refine codeAny_call_function hr.depth (KX _ _ lk) rfl S.co S.gen rfl
      (PySem.W.codeRec_of KX hcd) (hb _ _ _ _ ?_)
    refine wpAny_newFunctionEnv_cells S.kind hkind fun env he s1 x => ?_
    subst he
    refine ⟨(e0.mod.nolimit.keeps bk).keeps x.toInCall.keep, codeAny_func ?_⟩
    obtain ⟨t, ht, hq⟩ := hbody A outer s H vs Q E hgd (hr.deeper _) hsp
    have I := inv_start (CX := CX) (P := P) (w := w) (K := K) (mg := mg) (base := base) (E := E) S hr.hd e0 hl r x
    refine wpAny_mono (ht.run [] s1 (start N vs) H _ I hq) (fun fl s' hs => ?_) fun e s' hs => hs
    cases fl with
    | ret u =>
      obtain ⟨v, σ', H', J, rv, q⟩ := hs
      exact ⟨v, H', J.os, J.bare, J.base, J.hok, rv, q⟩
    | next =>
      obtain ⟨σ', H', J, q⟩ := hs
      exact ⟨V.non, H', J.os, J.bare, J.base, J.hok, rfl, q⟩
    | brk => exact hs.choose_spec.choose_spec.2.elim
    | cont => exact hs.choose_spec.choose_spec.2.elim

theorem okG {x qual : Str} {st : Stmt} {f : Addr} {fd : FuncData} {N ps : List Str} {k : Nat} {sp : Sp}
    (F : Fun K x qual st f fd) (S : FnScope N ps (defScope st)) (len : ∀ vs H Q E, sp vs H Q E → vs.length = ps.length)
    (hbody : ∀ (cdv : Value) (A : Around) (outer : List Env) (s : Shared) (H : Hp) (vs : List V) (Q : VK) (E : XK),
      A.guards = some [] → Room k (A.deeper (envOfC qual (defScope st) s.heap.objs.size f cdv)) → sp vs H Q E →
      ∃ t, PSs (cxOf CX0 P w K mg base N qual (defScope st) f cdv A outer s H E).nox (defBody st) t ∧
        t { nx := fun _ H' => Q .non H', rt := Q } (start N vs) H) :
    FnG P w K mg base CX0 (k + 1) f fd ps sp := by
  obtain ⟨oc, od, kV, doc, pm, an, cdv, ct, osl, e, lk, hcd⟩ := F.ex
  subst e
  refine fn_ofG lk hcd S len fun A outer s H vs Q E hg hr hsp => ?_
  obtain ⟨t, h, q⟩ := hbody cdv A outer s H vs Q E hg hr hsp
  exact ⟨t, h.nox, q⟩

theorem FnG.of {k : Nat} {f : Addr} {fd : FuncData} {ps : List Str} {sp : Sp} (F : FnOk P w K mg base CX k f fd ps sp) :
    FnG P w K mg base CX k f fd ps sp :=
  ⟨F.len, fun A outer s H args us vs Q E _ hr => F.run A outer s H args us vs Q E hr⟩
end

section
variable {X : Cx} {CX : CXT} {k n : Nat} {f : Addr} {fd : FuncData} {ps ks : List Str} {sp : Sp} {dvs : List V} {ds : List Value}
  {E : XK} {x : Str} {p pos : Pos} {e : Expr} {es : List Expr} {t tk : TA} {kws : List Keyword}
  {g : List Value → List Value → List Value} {gV : List V → List V → List V}

/-- the way out of a callee's run -/
theorem back_of {pins : List (Addr × Obj)} {σ : L2.St} {H : Hp} {s s' : Shared} {Q : VK} {r : Result}
    (hx : Passes CX X E) (I : Inv X pins σ H s) (hq : CR CX X.stack X.prog X.w H s Q E r s') :
    match r with
    | .ok (.ret u) => EP X pins σ Q u s'
    | .ok _ => False
    | .error e => X.xe e s' := by
  cases r with
  | error e => exact hx pins σ H s e s' I hq
  | ok fl =>
    cases fl with
    | ret u => exact I.after hq
    | next => exact hq
    | brk => exact hq
    | cont => exact hq

theorem run_fnG {pins : List (Addr × Obj)} {σ : L2.St} {H : Hp} {s : Shared} {Q : VK} {us : List Value} {vs : List V}
    (F : FnG X.prog X.w X.K X.mg X.base CX k f fd ps sp) (hgd : X.A.guards = some []) (hr : Room k X.A)
    (hb : Binds X.K fd ps ds) (hd : Vals dvs ds) (hx : Passes CX X E)
    (I : Inv X pins σ H s) (r : Vals vs us) (h : sp (vs ++ dvs) H Q E) :
    wpAny (model X.prog X.w) X.A (call (.ref f) us) (EP X pins σ Q) X.xe s := by
  have r2 : Vals (vs ++ dvs) (us ++ ds) := r.append hd
  have hl : (us ++ ds).length = ps.length := by
    rw [← r2.length]
    exact F.len _ _ _ _ h
  have c := F.run X.A X.stack s H ⟨us, []⟩ (us ++ ds) (vs ++ dvs) Q E hgd hr I.env0 (hb s us I.kIn hl) r2 h
  refine wpAny_call (codeAny_mono c fun r s' hq => ?_)
  have b := back_of hx I hq
  cases r with
  | error e => exact b
  | ok fl =>
    cases fl with
    | ret u => exact b
    | next => exact b.elim
    | brk => exact b.elim
    | cont => exact b.elim

theorem pe_callG (F : FnG X.prog X.w X.K X.mg X.base CX k f fd ps sp) (hgd : X.A.guards = some []) (hr : Room k X.A)
    (hg : Gl X x) (hm : X.mg x = some (.ref f)) (hk : PySem.W.keepIn X.K (.ref f) = true)
    (hb : Binds X.K fd ps ds) (hd : Vals dvs ds) (hx : Passes CX X E) (ha : PA X (e :: es) t)
    (hdb : (x == ("__debug__" : Str)) = false := by decide)
    (he : starEach (e :: es) X.env = (false, eval e X.env) :: starEach es X.env := by rfl)
    (hpl : (backTo pos (starEach es X.env)).any (·.1) = false := by rfl) :
    PE X (.Call (.Name x p) (e :: es) [] pos) (tCall sp dvs E t) := by
  constructor
  intro pins s σ H Q I h
  refine wpAny_Call_Name_kw (ld_glob I hg hm ?_ hdb)
  refine PySem.W.callWith_K (h₀ := X.base) I.ok.mod.kin hk ?_ he hpl
  refine thn (ha.run pos pins s σ H _ I h) fun us s1 hh => ?_
  obtain ⟨vs, H1, I1, r, q⟩ := hh
  exact ⟨I1.kIn, run_fnG F hgd hr hb hd hx I1 r q⟩

/-- f(k = v, ..), keywords alone -/
def tCallK0 (m : Nat) (sp : Sp) (gV : List V → List V → List V) (E : XK) (tk : TA) : TE :=
  fun σ H Q => tk σ H fun zs H2 => zs.length = m ∧ sp (gV [] zs) H2 Q E

theorem pe_callK0 (F : FnOk X.prog X.w X.K X.mg X.base CX k f fd ps sp) (hr : Room k X.A)
    (hg : Gl X x) (hm : X.mg x = some (.ref f)) (hk : PySem.W.keepIn X.K (.ref f) = true)
    (hb : KBn X.K fd ps 0 ks g gV) (hx : Passes CX X E) (hkw : PK X kws tk)
    (hall : (backToKw pos (keywordEach kws X.env)).all (·.1.isSome) = true := by rfl)
    (hks : (backToKw pos (keywordEach kws X.env)).filterMap (·.1) = ks := by rfl)
    (hdb : (x == ("__debug__" : Str)) = false := by decide)
    (hpl : ((backTo pos (starEach [] X.env)).any (·.1) || (backToKw pos (keywordEach kws X.env)).any (·.1.isNone)) = false := by rfl) :
    PE X (.Call (.Name x p) [] kws pos) (tCallK0 ks.length sp gV E tk) := by
  constructor
  intro pins s σ H Q I h
  refine wpAny_Call_Name_kw (ld_glob I hg hm ?_ hdb)
  refine PySem.W.callWith_KW0 (h₀ := X.base) I.ok.mod.kin hk hall ?_ hpl
  refine thn (hkw.run pos pins s σ H _ I h) fun ws s2 hh => ?_
  obtain ⟨zs, H2, I2, rz, l2, q2⟩ := hh
  refine ⟨I2.kIn, ?_⟩
  rw [hks]
  exact run_fnN (us := []) (vs := []) F hr hb hx I2 .nil rz rfl l2 q2

/-! ### repr of data -/
def Show (d : PyData) : Prop := d.showable = true ∧ d.hasDict = false ∧ d.depth ≤ 40 ∧ d.shown.length ≤ sizeLine

theorem call_reprD (hgd : X.A.guards = some []) (hu : X.A.units + 64 < cLine) :
    CallR X (.builtin "repr") (fun xs H Q => ∃ (x : V) (d : PyData), xs = [x] ∧ Dp X.K H x d ∧ Show d ∧ Q (.str d.shown) H) := by
  intro pins s σ H xs us Q I r h
  obtain ⟨x, d, rfl, hd, ⟨h1, h2, h3, h4⟩, q⟩ := h
  cases r with
  | cons r0 rr =>
    cases rr
    rename_i v
    obtain ⟨as, rd⟩ := Dp.reads I d x v hd r0
    cases rd with
    | list a b c dd =>
      refine repr_of_reads' (.list a b c dd) h1 (PyData.noDict_hsm h2) hgd (by omega) (fun _ _ e => e) (fun h' u tk hk => ?_) h4
      exact ⟨.str _, H, I.kept (t' := tk) hk, ⟨u, rfl⟩, q⟩
    | tuple a b c dd =>
      refine repr_of_reads' (.tuple a b c dd) h1 (PyData.noDict_hsm h2) hgd (by omega) (fun _ _ e => e) (fun h' u tk hk => ?_) h4
      exact ⟨.str _, H, I.kept (t' := tk) hk, ⟨u, rfl⟩, q⟩
    | int i t =>
      refine PySem.P.repr_of_int (by simpa [PyData.showable] using h1) ⟨.str _, H, I.tok _, ⟨_, rfl⟩, ?_⟩
      simpa only [PyData.shown] using q
    | none =>
      refine PySem.P.repr_of_none ⟨.str _, H, I.tok _, ⟨_, rfl⟩, ?_⟩
      simpa only [PyData.shown] using q
    | bool b =>
      refine PySem.P.repr_of_bool ⟨.str _, H, I.tok _, ⟨_, rfl⟩, ?_⟩
      simpa only [PyData.shown] using q
    | str z t =>
      refine PySem.P.repr_of_str ⟨.str _, H, I.tok _, ⟨_, rfl⟩, ?_⟩ (by simpa only [PyData.shown] using h4)
      simpa only [PyData.shown] using q
    | dict a b c dd ee => simp [PyData.hasDict] at h2
end
end BV

namespace BV
open PySem PySem.Spec PyProof.Rows L2

/-- the heap at the law's entry: the script alone is tracked, unless the module wrote it -/
def entryHp (K : PySem.W.Frag) (a : Addr) (vs : List Value) (ns : List Int) : Hp := fun b =>
  if b = a ∧ K.lookup a = none then some (.frz { cls := .type "list", data := .seq vs.toArray } (.lst (ns.map V.int))) else none

section
variable {P : Program} {w : World} {K : PySem.W.Frag} {mg mb : Str → Option Value} {CX : CXT} {k : Nat} {fa a : Addr} {fd : FuncData}
  {x : Str} {sp : Sp} {s₁ : Shared} {vs : List Value} {ns : List Int}

theorem entry_none {b : Addr} (h : ¬ (b = a ∧ K.lookup a = none)) : entryHp K a vs ns b = none := if_neg h
theorem entry_some (h : K.lookup a = none) : entryHp K a vs ns a =
    some (.frz { cls := .type "list", data := .seq vs.toArray } (.lst (ns.map V.int))) := if_pos ⟨rfl, h⟩
theorem entry_only : Only (entryHp K a vs ns) := fun b => by
  by_cases h : b = a ∧ K.lookup a = none
  · exact .inr ⟨_, _, if_pos h⟩
  · exact .inl (if_neg h)

theorem law_callG (KX : K.In s₁.heap) (hns : s₁.heap.Ns mainGlobals mg) (hb : s₁.heap.Ns builtinsNs mb)
    (hbb : ∀ x : Str, x ≠ "__name__" → mb x = bootBuiltins x) (hlim : s₁.heap.NoLimit) (hg : s₁.gens = #[])
    (ha : s₁.heap.get? a = some { cls := .type "list", data := .seq vs.toArray })
    (hi : IntsAre vs ns) (hl : ns.length ≤ sizeLine) (hr : Room k callerA)
    (F : ∀ base : Heap, K.In base → base.Ns mainGlobals mg → FnG P w K mg base CX k fa fd [x] sp)
    (hbind : ∀ (s : Shared) (u : Value), BindsTo s fd ⟨[u], []⟩ [(x, u)])
    (hsp : ∀ H : Hp, Only H → SqL K H a (ns.map V.int) → sp [.ref a] H (fun v _ => v = .bl true) fun _ _ _ => False)
    (hCX : ∀ H e s', CX [] H s₁ (fun _ _ _ => False) e s' → False) :
    codeAny (model P w) callerA (.call (.ref fa) ⟨[.ref a], []⟩)
      (fun r s' => r = .ok (.ret (.bool true)) ∧ OldK s₁.heap s'.heap ∧ s'.os = s₁.os ∧ AllBare s'.gens) s₁ := by
  have rv := vals_ints hi
  let H := entryHp K a vs ns
  have hO : Only H := entry_only
  have hS : SqL K H a (ns.map V.int) := by
    cases hk : K.lookup a with
    | none => exact .inl (.inr ⟨_, entry_some hk⟩)
    | some o =>
      have e := KX a o hk
      rw [ha] at e
      cases e
      refine .inr ⟨_, vs.toArray, _, hk, rfl, rfl, rfl, ?_, by simpa using rv⟩
      rw [List.size_toArray, hi.length]
      exact hl
  have hok : HOk P w H s₁.heap := by
    intro b u e
    by_cases h : b = a ∧ K.lookup a = none
    · have e2 := (if_pos h).symm.trans e
      cases e2
      obtain ⟨rfl, _⟩ := h
      exact ⟨ha, by rw [List.length_map]; exact hl, vs, _, rv, ha⟩
    · cases (entry_none h).symm.trans e
  have at_a : ∀ b, H b ≠ none → b = a ∧ K.lookup a = none := fun b h => by
    by_cases h2 : b = a ∧ K.lookup a = none
    · exact h2
    · exact absurd (entry_none h2) h
  have away : ∀ {b : Addr} {o : Obj}, s₁.heap.get? b = some o → (b = a → K.lookup a = none → False) → (hidT s₁.heap H).get? b = some o :=
    fun {b o} e n => hidT_get e (entry_none fun z => n z.1 z.2)
  have nsK : ∀ {b : Addr} {m : Str → Option Value}, s₁.heap.Ns b m → (hidT s₁.heap H).Ns b m := by
    intro b m h
    obtain ⟨o, es, ep, e, d, r⟩ := h
    refine ⟨o, es, ep, away e fun z _ => ?_, d, r⟩
    subst z
    rw [ha] at e
    cases e
    cases d
  have hKb : K.In (hidT s₁.heap H) := fun b o e => away (KX b o e) fun z n => by
    subst z
    rw [n] at e
    cases e
  obtain ⟨mc, l1, l2⟩ := hlim
  have hM : Mod K mg (hidT s₁.heap H) := ⟨hKb, nsK hns, ⟨mb, nsK hb, hbb⟩, ⟨mc, nsK l1, l2⟩⟩
  have e0 : Env0 P w K mg (hidT s₁.heap H) callerA [] s₁ H :=
    { frames := rfl, mod := hM, bs := fun b o e => of_hidT e, bsz := Nat.le_of_eq (hidT_size _ _), funs := trivial,
      frf := fun b hb => absurd (show b ∈ ([] : List Addr) from hb) (by simp), hok := hok, bare := .of_eq hg }
  have go := (F _ hKb (nsK hns)).run callerA [] s₁ H ⟨[.ref a], []⟩ [.ref a] [.ref a] _ _ rfl hr e0
    (hbind s₁ (.ref a)) (.cons rfl .nil) (hsp H hO hS)
  refine codeAny_mono go fun r s' h => ?_
  cases r with
  | error e => exact (hCX H e s' h).elim
  | ok fl =>
    cases fl with
    | next => exact h.elim
    | brk => exact h.elim
    | cont => exact h.elim
    | ret u =>
      obtain ⟨v, H', os, bare, un, hok', r', q⟩ := h
      have q' : v = .bl true := q
      subst q'
      obtain rfl : u = Value.bool true := r'
      refine ⟨rfl, OldK.of_keep fun b o e => ?_, os, bare⟩
      cases hq : H b with
      | none => exact un.keep b o e hq (fun z => absurd (show b ∈ ([] : List Addr) from z) (by simp)) (by simp)
      | some u =>
        rcases hO b with z | ⟨ob, xs, z⟩
        · rw [hq] at z
          cases z
        · obtain ⟨e1, _⟩ := hok b _ z
          obtain ⟨e2, _⟩ := hok' b _ (un.frzs b ob _ z)
          rw [e] at e1
          cases e1
          exact e2
end

theorem walk_ofG {l : PySem.W.OpenLaw} {n k : Nat} {q : Program} {loose : List Str} {XP : (Str → Option Value) → Heap → Prop}
    {YP : World → Heap → Prop} {d : DefRec} {K : Params → PySem.W.Frag} {CX : CXT} {sp : PySem.W.Frag → Sp} {x : Str}
    (hn : l.most = some n) (hn2 : n ≤ sizeLine) (hdf : d.params.defaults = []) (hr : Room k callerA)
    (hY : ∀ (w : World) (h : Heap), YP w h → (K w.params).In h)
    (F : ∀ (w : World) (mg : Str → Option Value) (fa : Addr) (h : Heap), (K w.params).In h → h.Ns mainGlobals mg → mg d.name = some (.ref fa) →
      ∃ fd : FuncData, (∀ (s : Shared) (u : Value), BindsTo s fd ⟨[u], []⟩ [(x, u)]) ∧
        ∀ base : Heap, (K w.params).In base → base.Ns mainGlobals mg →
          FnG l.prog w (K w.params) mg base CX k fa fd [x] (sp (K w.params)))
    (hsp : ∀ (K : PySem.W.Frag) (H : Hp) (a : Addr) (ns : List Int), ns.length ≤ n → (∀ z ∈ ns, Builtin.Int.intBits z ≤ 1048576) →
      Only H → SqL K H a (ns.map V.int) → sp K [.ref a] H (fun v _ => v = .bl true) fun _ _ _ => False)
    (hCX : ∀ (H : Hp) (s : Shared) (e : Value) (s' : Shared), CX [] H s (fun _ _ _ => False) e s' → False) :
    PySem.W.WalkO q loose XP YP l.row.toRowW d [] (fun f vs => PySem.call f vs) := by
  refine Att.attach_callB hn hdf fun w s₀ s₁ mg mb fa o pm cd doc a vs ns G Y ho hd hcd hmg hobj hints hlen hbits hg => ?_
  have KX := hY w _ Y
  obtain ⟨fd, hb, hF⟩ := F w mg fa _ KX G.T.g hmg
  refine law_callG KX G.T.g G.T.b G.T.builtins G.T.nolimit hg hobj hints (Nat.le_trans hlen hn2) hr hF hb ?_ ?_
  · exact fun H hO hS => hsp (K w.params) H a ns hlen hbits hO hS
  · exact fun H e s' => hCX H s₁ e s'
end BV

namespace BV
open PySem PySem.Spec PyProof.Rows L2
open AutoSeq1 (wpAny_loadPart')

/-! ### enumerate(tuple) -/
theorem meets_enumT (l : Addr) (items : Array Value) (n : Nat) (dct : Option Addr) (sl : Array (Option Value)) :
    Meets (Builtin.«enumerate.__new__» ⟨[.type "enumerate", .ref l], []⟩)
      (fun _ R s => s.heap.get? l = some { cls := .type "tuple", dict := dct, data := .seq items n, slots := sl } ∧
        R (.ok (.ret (.ref (s.heap.push { cls := .type "tuple_iterator", data := .fields #[.ref l, .int 0 0] }).objs.size)))
          { s with heap := ((s.heap.push { cls := .type "tuple_iterator", data := .fields #[.ref l, .int 0 0] }).push
              ({ cls := .type "enumerate", data := .fields #[.none, .bool false, .ref s.heap.objs.size, rawInt 0, .none, .none] } : Obj)) }) := by
  refine .of_wp fun prog w A R s h => ?_
  obtain ⟨hp, g, d, tk, os⟩ := s
  obtain ⟨hl, h⟩ := h
  have hsub := sub_enumerate
  have hL : Heap.IsTuple (Shared.heap ⟨hp, g, d, tk, os⟩) l items := ⟨_, hl, rfl, n, rfl⟩
  wp_walk using wpAny_loadPart' hl
  refine wpAny_stack_any fun st => wpAny_pure ?_
  split
  · rename_i c _ _ _ _ _
    cases (c == Value.type "enumerate") <;>
    · wp_walk using wpAny_loadPart' hl, wpAny_pyIter_tuple hL
      exact ⟨_, rfl, h⟩
  · wp_walk using wpAny_loadPart' hl, wpAny_pyIter_tuple hL
    exact ⟨_, rfl, h⟩

theorem call_enumT {prog : Program} {w : World} {A : Around} {E : Value → Shared → Prop} {s : Shared} {l : Addr} {items : Array Value}
    {Q : Value → Shared → Prop} (hL : s.heap.IsTuple l items)
    (h : ∀ h', IsEnum h' (s.heap.objs.size + 1) s.heap.objs.size 0 .none → h'.IsTupleIter s.heap.objs.size l 0 →
      (∀ b o, s.heap.get? b = some o → h'.get? b = some o) → Q (.ref (s.heap.objs.size + 1)) { s with heap := h' }) :
    wpAny (model prog w) A (call (.type "enumerate") [.ref l]) Q E s := by
  obtain ⟨⟨c, dct, dt, sl⟩, hl, hc, n, hd⟩ := hL
  obtain rfl : c = .type "tuple" := hc
  obtain rfl : dt = .seq items n := hd
  refine callType_new F.called_enumerate (by decide) (F.typeCall_enumerate_1 _) (F.newCall_enumerate_1 _)
    (fun obj => F.args_object_init_2 obj _) F.entry_enumerate_new (meets_enumT l items n dct sl) ⟨hl, ?_⟩
  have hz : (s.heap.push { cls := .type "tuple_iterator", data := .fields #[.ref l, .int 0 0] }).objs.size = s.heap.objs.size + 1 := Heap.size_push ..
  show _ ∧ _
  rw [hz]
  have he : IsEnum ((s.heap.push { cls := .type "tuple_iterator", data := .fields #[.ref l, .int 0 0] }).push
      { cls := .type "enumerate", data := .fields #[.none, .bool false, .ref s.heap.objs.size, rawInt 0, .none, .none] })
      (s.heap.objs.size + 1) s.heap.objs.size 0 .none := by
    have q := Heap.get?_push_size (s.heap.push { cls := .type "tuple_iterator", data := .fields #[.ref l, .int 0 0] })
      (o := { cls := .type "enumerate", data := .fields #[.none, .bool false, .ref s.heap.objs.size, rawInt 0, .none, .none] }) rfl
    rw [hz] at q
    exact q
  refine ⟨⟨_, he, rfl⟩, h _ he ⟨_, Heap.get?_push_of_some _ (Heap.get?_push_size _ rfl), rfl, rfl⟩ ?_⟩
  exact fun b o x => Heap.get?_push_of_some _ (Heap.get?_push_of_some _ x)

/-- the tuple at a, each item in a new pair -/
def ItE (K : PySem.W.Frag) (a : Addr) (xs : List V) : It :=
  ⟨fun i H => SqT K H a xs ∧ i < xs.length,
   fun i H v H' => ∃ T x, v = .ref T ∧ H T = none ∧ H' = upd H T (.tup [.int (i : Nat), x]) ∧ xs[i]? = some x,
   fun i H => SqT K H a xs ∧ i = xs.length⟩

theorem turn_enumT {P : Program} {w : World} {K : PySem.W.Frag} {elts : List Expr} {kk : Nat} {tpos : Pos} (a e it : Addr) (xs : List V)
    (hae : a ≠ it) :
    Turn P w K (.Tuple elts kk tpos) (ItE K a xs) [e, it] e
      (fun i h => (∃ old, IsEnum h e it ((i : Nat) : Int) old) ∧ h.IsTupleIter it a i ∧ e ≠ it ∧ e ≠ a) where
  mem := by simp
  obj := by
    intro i h st b hb
    obtain ⟨⟨old, he⟩, ⟨o, ho, hc, hd⟩, _⟩ := st
    rcases (show b = e ∨ b = it by simpa using hb) with rfl | rfl
    · exact ⟨_, he, fun v q => nomatch q⟩
    · exact ⟨o, ho, fun v q => by rw [hd] at q; cases q⟩
  keep := by
    intro i h h' st k
    obtain ⟨⟨old, he⟩, hi, h1, h2⟩ := st
    exact ⟨⟨old, k e (by simp) _ he⟩, hi.at fun o q => k it (by simp) o q, h1, h2⟩
  item := by
    intro X hP hw hK hc i pins s σ H E I hf st hg
    subst hP hw hK
    obtain ⟨⟨old, he⟩, hit, hne, hea⟩ := st
    obtain ⟨hq, hlt⟩ := hg
    obtain ⟨its, rv, p, hz⟩ := I.tuple hq
    have htu : s.heap.IsTuple a its.toArray := p
    have hlen := rv.length
    have hel : e < s.heap.objs.size := Heap.lt_size he
    have hil : it < s.heap.objs.size := by
      obtain ⟨_, q, _⟩ := hit
      exact Heap.lt_size q
    have D := Draws.tuple (prog := X.prog) (w := X.w) (A := X.A.in1) (I.ok.hd hc) it a hae its.toArray
    have hlt2 : i < its.toArray.size := by rw [List.size_toArray]; omega
    refine wpAny_pyNext_enum_itemD D he ⟨hit, htu⟩ hlt2 hne (by simp [hne, hea]) ?_
    intro u h' tk hu ho hit' hT hsz hk
    refine ⟨_, rfl, wpAny_letOwnedTupleGo_enum (s := { s with heap := h', toks := tk + 1 }) ho fun h'' he' sb => ?_⟩
    have hx : xs[i]? = some xs[i] := by simp [hlt]
    obtain ⟨u', hu', ru⟩ := rv.get hx
    have eu : u' = u := by
      have := hu
      simp only [List.getElem?_toArray] at this
      rw [hu'] at this
      exact Option.some.inj this
    subst eu
    have hT2 : h''.get? s.heap.objs.size = some { cls := .type "tuple", data := .seq #[.int i tk, u'] } := (sb.2 _ (Nat.ne_of_gt hel)).trans hT
    have new : ObjOk X.prog X.w (upd H s.heap.objs.size (.tup [.int (i : Nat), xs[i]])) h'' s.heap.objs.size (.tup [.int (i : Nat), xs[i]]) :=
      ⟨by show 2 ≤ sizeLine; decide, [.int i tk, u'], .cons ⟨_, rfl⟩ (.cons ru .nil), ⟨_, hT2, rfl, _, rfl⟩⟩
    have kk : ∀ b o, b ∉ [e, it] → s.heap.get? b = some o → h''.get? b = some o := by
      intro b ob hb q
      have b1 : b ≠ e := fun z => hb (by simp [z])
      have b2 : b ≠ it := fun z => hb (by simp [z])
      exact (sb.2 b b1).trans (hk b ob b1 b2 q)
    have I1 : Inv X pins σ (upd H s.heap.objs.size (.tup [.int (i : Nat), xs[i]])) { s with heap := h'', toks := tk + 1 } :=
      I.turnedNew (ch := [e, it]) kk hf (Nat.le_refl _) new
    refine ⟨.ref s.heap.objs.size, _, I1, rfl, ⟨_, xs[i], rfl, I.hok.fresh (Nat.le_refl _), rfl, hx⟩,
      ⟨⟨u', ?_⟩, hit'.1.at fun o q => (sb.2 it (Ne.symm hne)).trans q, hne, hea⟩, fun b hb => ?_⟩
    · have e1 : ((i + 1 : Nat) : Int) = (i : Int) + 1 := by omega
      rw [e1]
      exact he'
    · have hb' : b < s.heap.objs.size := by
        rcases (show b = e ∨ b = it by simpa using hb) with rfl | rfl
        · exact hel
        · exact hil
      rw [upd_ne (Nat.ne_of_lt hb')]
      exact (hf b hb).1
  done := by
    intro X hP hw hK hc i pins s σ H E I hf st hg
    subst hP hw hK
    obtain ⟨⟨old, he⟩, hit, hne, hea⟩ := st
    obtain ⟨hq, hlt⟩ := hg
    obtain ⟨its, rv, p, hz⟩ := I.tuple hq
    have htu : s.heap.IsTuple a its.toArray := p
    have hlen := rv.length
    obtain ⟨f0, f1, f2, f3, f4, f5⟩ := hf it (by simp)
    have D := Draws.tuple (prog := X.prog) (w := X.w) (A := X.A.in1) (I.ok.hd hc) it a hae its.toArray
    have e3 : its.toArray.size = i := by rw [List.size_toArray]; omega
    rw [e3] at D
    refine wpAny_pyNext_enum_endD D he ⟨hit, htu⟩ fun h' eb => ⟨rfl, ?_⟩
    exact I.turned (t' := s.toks) (fun b o hb q => eb b o hb q) f0 f1 f3 f4 f5
  self := fun A i s Q E st h => let ⟨⟨_, he⟩, _⟩ := st; wpAny_pyIter_enum he h

def iEnumT (K : PySem.W.Frag) (ta : TA) : TI := fun σ H R => ta σ H fun vs H1 => ∃ a xs, vs = [.ref a] ∧ SqT K H1 a xs ∧ R (ItE K a xs) H1
theorem pi_enumT {X : Cx} {e : Expr} {ta : TA} {p pos tpos : Pos} {elts : List Expr} {kk : Nat} (hg : Gl X "enumerate") (hm : X.mg "enumerate" = none)
    (ha : PA X [e] ta) (hs : starEach [e] X.env = [(false, eval e X.env)] := by rfl) :
    PI X (.Tuple elts kk tpos) (.Call (.Name "enumerate" p) [e] [] pos) (iEnumT X.K ta) := by
  constructor
  intro pins s σ H R I h
  refine Call_ (ld_blt I hg hm boot_enumerate (PyProof.Rows.callWith_type1 (thn (ha.run pos pins s σ H _ I h) fun us s1 hh => ?_) hs rfl))
  obtain ⟨vs, H1, I1, r1, a, xs, ex, hq, q⟩ := hh
  subst ex
  cases r1 with
  | cons r rr =>
    cases rr
    cases r
    obtain ⟨its, rv, p', hz⟩ := I1.tuple hq
    have htu : s1.heap.IsTuple a its.toArray := p'
    have hlt : a < s1.heap.objs.size := by
      obtain ⟨o, ho, _⟩ := htu
      exact Heap.lt_size ho
    refine call_enumT htu fun h' he hit hk => wpAny_pyIter_enum he ?_
    have I2 : Inv X pins σ H1 { s1 with heap := h' } := I1.kept (t' := s1.toks) hk
    refine ⟨s1.heap.objs.size + 1, [s1.heap.objs.size + 1, s1.heap.objs.size], _, _, H1, rfl, I2,
      turn_enumT a (s1.heap.objs.size + 1) s1.heap.objs.size xs (Nat.ne_of_lt hlt),
      ⟨⟨.none, he⟩, hit, Nat.succ_ne_self _, Nat.ne_of_gt (Nat.lt_succ_of_lt hlt)⟩, fun b hb => ?_, q⟩
    have hle : s1.heap.objs.size ≤ b := by
      rcases (show b = s1.heap.objs.size + 1 ∨ b = s1.heap.objs.size by simpa using hb) with z | z
      · rw [z]; exact Nat.le_add_right _ _
      · rw [z]; exact Nat.le_refl _
    exact I1.fpOk hle (I1.hok.fresh hle)
theorem walk_enumT {K : PySem.W.Frag} {a : Addr} {xs : List V} :
    Walk (ItE K a xs) xs.length (fun H => SqT K H a xs) (YPair (fun i => some (.int (i : Nat))) (fun i => xs[i]?)) := by
  refine ⟨fun i H hi q => ⟨q, hi⟩, fun H q => ⟨q, rfl⟩, fun i H v H' _ q y => ?_⟩
  obtain ⟨T, x, h1, h2, h3, h4⟩ := y
  exact ⟨T, .int (i : Nat), x, h1, h2, h3, rfl, h4⟩

/-! ### sum of a tuple of ints -/
theorem cr_sumT {X : Cx} (hc : X.calm = true) : CallR X (.builtin "sum")
    (fun vs H Q => ∃ (a : Addr) (ns : List Int), vs = [V.ref a] ∧ SqT X.K H a (ns.map V.int) ∧ Q (.int ns.sum) H) := by
  intro pins s σ H vs us Q I r h
  obtain ⟨a, ns, rfl, hs, q⟩ := h
  obtain ⟨its, rv, hl, _⟩ := I.tuple hs
  rw [Vals.ref1 r]
  have hi := rv.ints
  obtain ⟨xs, e⟩ := hi.allInts.items
  have hn : numsOf (intItems xs).toList = ns := by rw [← e]; exact hi.numsOf
  rw [nums_intItems] at hn
  have hl2 : s.heap.IsTuple a its.toArray := hl
  rw [e] at hl2
  refine PySem.W.ktm_sumG (I.ok.hd hc) hl2 fun h' tk t' hk => ?_
  rw [preSum_eq, List.take_of_length_le (by simp), hn]
  exact ⟨.int _, H, I.kept hk, ⟨_, rfl⟩, q⟩
end BV

namespace BV
open PySem PySem.Spec PyProof.Rows L2

/-! ### xs[i] of a list, by values, for xs[i] op= e -/
def rGetL (K : PySem.W.Frag) : V → V → Hp → VK → Prop := fun x y H Q => ∃ p xs j z,
  x = .ref p ∧ y = .int ((j : Nat) : Int) ∧ SqL K H p xs ∧ xs[j]? = some z ∧ Q z H
theorem get_list {X : Cx} : PGet X (rGetL X.K) := by
  intro pins s σ H x y v u Q I rx ry h
  obtain ⟨p, xs, j, z, rfl, rfl, hq, he, q⟩ := h
  cases rx
  obtain ⟨t, rfl⟩ := ry
  obtain ⟨its, r, pl, hz⟩ := I.list hq
  obtain ⟨w, ew, rw'⟩ := r.get he
  have hl := r.length
  have hn := line63
  have hj : j < xs.length := (List.getElem?_eq_some_iff.mp he).1
  refine wpAny_getItem_list pl.isList (by omega) (by omega) (by simpa using ew) ?_
  exact ⟨z, H, I, rw', q⟩

/-! ### t[::-1] of a tuple -/
theorem applied_rev {prog : Program} {w : World} {A : Around} {E : Value → Shared → Prop} {s : Shared} {sl : Addr} {vs : Value} {n : Nat}
    {Q : Int × Int × Nat → Shared → Prop} (hs : s.heap.IsSliceOf sl .none .none vs) (ps : IsPart vs (some (-1)))
    (h : Q ((n : Int) - 1, -1, n) s) : wpAny (model prog w) A (Builtin.Slice.sliceApplied (.ref sl) (pure (n : Int))) Q E s := by
  obtain ⟨os, hos, hcs, hds⟩ := id hs
  unfold Builtin.Slice.sliceApplied Builtin.Slice.sliceFields
  refine wpAny_bind (wpAny_bind (wpAny_field hos hds (x := .none) rfl ?_))
  refine wpAny_bind (wpAny_field hos hds (x := .none) rfl ?_)
  refine wpAny_bind (wpAny_field hos hds (x := vs) rfl (wpAny_pure ?_))
  refine wpAny_bind (HT.slicePart_ ps ?_)
  show wpAny _ _ (if ((-1 : Int) == 0) = true then _ else _) _ _ s
  rw [if_neg (by decide)]
  refine wpAny_bind (HT.slicePart_ .none (wpAny_bind (HT.slicePart_ .none (wpAny_bind (wpAny_pure ?_)))))
  have e1 : Builtin.Slice.sliceAdjust none none (-1) (n : Int) = ((n : Int) - 1, -1) := by
    unfold Builtin.Slice.sliceAdjust
    simp
  have e2 : Builtin.Slice.slicePlaces ((n : Int) - 1) (-1) (-1) = n := by
    unfold Builtin.Slice.slicePlaces
    simp
    try omega
  show wpAny _ _ (match Builtin.Slice.sliceAdjust none none (-1) (n : Int) with
    | (lo, hi) => pure (lo, (-1 : Int), Builtin.Slice.slicePlaces lo hi (-1))) _ _ s
  rw [e1]
  show wpAny _ _ (pure ((n : Int) - 1, (-1 : Int), Builtin.Slice.slicePlaces ((n : Int) - 1) (-1) (-1))) _ _ s
  rw [e2]
  exact wpAny_pure h

theorem getItem_rev {prog : Program} {w : World} {A : Around} {E : Value → Shared → Prop} {s : Shared} {t sl : Addr} {items : Array Value} {vs : Value}
    {Q : Value → Shared → Prop} (ht : IsTup s.heap t items) (hs : s.heap.IsSliceOf sl .none .none vs) (ps : IsPart vs (some (-1)))
    (h : Q (.ref s.heap.objs.size) { s with heap := s.heap.push { cls := .type "tuple", data := .seq items.toList.reverse.toArray } })
    (hsz : items.size ≤ sizeLine) : wpAny (model prog w) A (getItem (.ref t) (.ref sl)) Q E s := by
  have hsize : sizeOk (.seq items.toList.reverse.toArray) := by
    show items.toList.reverse.toArray.size ≤ sizeLine
    rw [List.size_toArray, List.length_reverse, Array.length_toList]
    exact hsz
  obtain ⟨os, hos, hcs, hds⟩ := id hs
  have hTs : s.TypeIs (.ref sl) "slice" := ⟨os, hos, hcs⟩
  unfold getItem
  try with_reducible refine wpAny_holding ?_
  first | refine wpAny_bind (wpAny_pure ?_) | skip
  refine wpAny_bind (wpAny_sequenceKey ht.typeIs (by decide) ?_)
  refine wpAny_bind (wpAny_callSpecial?_slot (name := Str.ofString "__getitem__") ht.typeIs PyProof.Rows.slot_tuple_getitem ?_)
  refine wpAny_call_entry PyProof.Rows.slot_tuple_getitem ht.typeIs entry_tuple_getitem ?_ (args_tuple_getitem _ _)
  show wpAny _ _ (Builtin.Tuple.tupleItemsOf (.ref t) >>= _) _ _ s
  refine wpAny_bind (tupleItemsOf_ ht ?_)
  refine wpAny_bind (wpAny_typeOf hTs ?_)
  rw [if_pos (by decide)]
  refine wpAny_bind (applied_rev hs ps ?_)
  have hno : ¬ ((((items.size : Int) - 1) == 0 && (-1 : Int) == 1 && items.size == items.size) = true) := by
    intro q
    rw [Bool.and_eq_true, Bool.and_eq_true] at q
    exact absurd (eq_of_beq q.1.2) (by decide)
  have pick : ((List.range items.size).filterMap fun (k : Nat) => items[(((items.size : Int) - 1) + (k : Int) * (-1)).toNat]?) = items.toList.reverse := by
    have e1 : (fun (k : Nat) => items[(((items.size : Int) - 1) + (k : Int) * (-1)).toNat]?) = fun k => (fun j => items[j]?) ((items.size - 1) - k) := by
      funext k
      have : (((items.size : Int) - 1) + (k : Int) * (-1)).toNat = (items.size - 1) - k := by omega
      rw [this]
    rw [e1]
    have e2 := PySem.W.krv_all items
    have e3 := PySem.W.krv_range items.size
    have e4 : (List.range items.size).filterMap (fun k => (fun j => items[j]?) ((items.size - 1) - k)) =
        ((List.range items.size).map fun k => items.size - 1 - k).filterMap (fun j => items[j]?) := by
      rw [List.filterMap_map]
      rfl
    rw [e4, e3, List.filterMap_reverse, e2]
  show wpAny _ _ (if (((items.size : Int) - 1) == 0 && (-1 : Int) == 1 && items.size == items.size) = true then _ else _) _ _ s
  rw [if_neg hno, pick]
  first
    | exact wpAny_bind (m := Builtin.Tuple.tupleExact _) (wpAny_newObj_type (wpAny_pure ⟨_, rfl, wpAny_pure h⟩) hsize)
    | exact wpAny_bind (m := Builtin.Tuple.tupleExact _) (wpAny_newObj_type (wpAny_bind (wpAny_pure (wpAny_pure ⟨_, rfl, wpAny_pure h⟩))) hsize)
    | exact wpAny_bind (wpAny_bind (m := Builtin.Tuple.tupleExact _) (wpAny_newObj_type (wpAny_pure (wpAny_pure ⟨_, rfl, wpAny_pure h⟩)) hsize))
    | exact wpAny_bind (wpAny_bind (m := Builtin.Tuple.tupleExact _) (wpAny_newObj_type (wpAny_pure ⟨_, rfl, wpAny_pure h⟩) hsize))

/-- t[::-1] -/
def tRevT (K : PySem.W.Frag) (te : TE) : TE := fun σ H Q => te σ H fun x H1 => ∃ a xs, x = .ref a ∧ SqT K H1 a xs ∧
  ∀ p, H1 p = none → Q (.ref p) (upd H1 p (.tup xs.reverse))
theorem pe_revT {X : Cx} {e : Expr} {te : TE} {k : Nat} {p1 p2 p3 pos : Pos} (he : PE X e te) :
    PE X (.Subscript e (.Slice none none (some (.UnaryOp .USub (.Constant (.int 1) k p1) p2)) p3) pos) (tRevT X.K te) := by
  constructor
  intro pins s σ H Q I h
  refine Subscript_ (thn (he.run pins s σ H _ I h) fun v s1 hh => ?_)
  obtain ⟨x, H1, I1, r1, a, xs, ex, hx, q⟩ := hh
  subst ex
  cases r1
  have hst : PO X (some (.UnaryOp .USub (.Constant (.int 1) k p1) p2)) (tPart (tUn (rU fun i => .int (-i)) (tC (.int 1)))) :=
    po_some (pe_un un_neg pe_int)
  refine wpAny_Slice ?_
  rw [evalPart_none]
  refine wpAny_pure (wpAny_pure ?_)
  refine thn (hst.run pins s1 σ H1 (fun o H4 => o = some (-1) ∧ H4 = H1) I1 ⟨1, rfl, -1, rfl, rfl, rfl⟩) fun vs s4 h4 => ?_
  obtain ⟨o, H4, I4, ps, eo, e4⟩ := h4
  subst eo e4
  have I5 : Inv X pins σ H4 { s4 with heap := s4.heap.push { cls := .type "slice", data := .fields #[.none, .none, vs] } } :=
    I4.kept (t' := s4.toks) fun b ob q => Heap.get?_push_of_some _ q
  obtain ⟨its, r, ht, hz⟩ := I5.tuple hx
  have hlen := r.length
  refine tail_any (T := "tuple") (ops := [.ref a, .ref s4.heap.objs.size]) ht.typeIs (PyProof.Rows.slot_tuple_getitem.lookup) ?_ (by with_unfolding_all rfl)
  refine getItem_rev ht (Heap.IsSliceOf.new _ .none .none vs) ps ?_ (by rw [List.size_toArray]; omega)
  refine ⟨.ref _, _, I5.laid (t' := s4.toks) (o := .tup xs.reverse) (fun b ob q => Heap.get?_push_of_some _ q) (Nat.le_refl _) ?_, rfl, q _ (I5.hok.fresh (Nat.le_refl _))⟩
  exact ⟨by rw [List.length_reverse]; exact hz, _, r.reverse, IsTup.new _ _⟩
end BV

namespace BV
open PySem L2

/-! ### a def of the text, by its name -/
structure Df (K : PySem.W.Frag) (mg : Str → Option Value) (x : String) (st : Stmt) (ps : List Str) (f : Addr) (fd : FuncData) : Prop where
  fn : Fun K (Str.ofString x) (Str.ofString x) st f fd
  ad : mg (Str.ofString x) = some (.ref f)
  bd : L2.Binds K fd ps []

/-- the built-in names that the text uses are not its own -/
structure Bl (mg : Str → Option Value) : Prop where
  int : mg "int" = none
  abs : mg "abs" = none
  len : mg "len" = none
  range : mg "range" = none
  enumerate : mg "enumerate" = none
  tuple : mg "tuple" = none
  min : mg "min" = none
  max : mg "max" = none
  sum : mg "sum" = none
  repr : mg "repr" = none

/-! ### heaps -/
theorem same_new {H : Hp} {p : Addr} {o : HO} (h : H p = none) : Same H (upd H p o) := fun b x e => by
  rw [upd_ne (ne_of_none e h)]
  exact e
/-- all but b and g as it was -/
def Kp (b g : Addr) (H H' : Hp) : Prop := ∀ a o, H a = some o → a ≠ b → a ≠ g → H' a = some o
theorem Kp.refl {b g : Addr} (H : Hp) : Kp b g H H := fun _ _ h _ _ => h
theorem Kp.trans {b g : Addr} {H H1 H2 : Hp} (x : Kp b g H H1) (y : Kp b g H1 H2) : Kp b g H H2 :=
  fun a o h n1 n2 => y a o (x a o h n1 n2) n1 n2
theorem Kp.same {b g : Addr} {H H' : Hp} (x : Same H H') : Kp b g H H' := fun a o h _ _ => x a o h
theorem Kp.setb {b g : Addr} {H : Hp} {o : HO} : Kp b g H (upd H b o) := fun a x h n _ => by
  rw [upd_ne n]
  exact h
theorem Kp.setg {b g : Addr} {H : Hp} {o : HO} : Kp b g H (upd H g o) := fun a x h _ n => by
  rw [upd_ne n]
  exact h
theorem Kp.new {b g p : Addr} {H : Hp} {o : HO} (h : H p = none) : Kp b g H (upd H p o) := Kp.same (same_new h)

/-! ### comprehensions that change nothing -/
def era (H : Hp) (D : Addr) : Hp := fun a => if a = D then none else H a
theorem era_at {H : Hp} {D : Addr} : era H D D = none := if_pos rfl
theorem era_ne {H : Hp} {D a : Addr} (h : a ≠ D) : era H D a = H a := if_neg h
theorem era_back {H : Hp} {D : Addr} : Same (era H D) H := fun a o e => by
  by_cases h : a = D
  · subst h
    rw [era_at] at e
    cases e
  · rw [era_ne h] at e
    exact e
theorem era_upd {H : Hp} {D : Addr} {o : HO} : era (upd H D o) D = era H D := by
  funext a
  by_cases h : a = D
  · subst h
    rw [era_at, era_at]
  · rw [era_ne h, era_ne h, upd_ne h]
theorem era_same {H H' : Hp} {D : Addr} (s : Same H H') : Same (era H D) (era H' D) := fun a o e => by
  by_cases h : a = D
  · subst h
    rw [era_at] at e
    cases e
  · rw [era_ne h] at e ⊢
    exact s _ _ e
theorem era_none {H : Hp} {D : Addr} (h : H D = none) : era H D = H := by
  funext a
  by_cases q : a = D
  · subst q
    rw [era_at, h]
  · exact era_ne q

/-- what stands between two turns: the list at D, all else an extension of H1, and R of the list over the heap without D -/
def LcI (H1 : Hp) (D : Addr) (R : Nat → List V → Hp → Prop) (i : Nat) (H : Hp) : Prop :=
  ∃ acc, H D = some (.lst acc) ∧ Same H1 (era H D) ∧ R i acc (era H D)
theorem lc_add {H1 H H4 : Hp} {D : Addr} {R : Nat → List V → Hp → Prop} {i : Nat} {acc : List V} {y : V} (ha : H D = some (.lst acc))
    (e : Same H1 (era H D)) (s : Same H H4) (hl : acc.length < 100000) (r : R i (acc ++ [y]) (era H4 D)) :
    ∃ acc, H4 D = some (.lst acc) ∧ acc.length < sizeLine ∧ LcI H1 D R i (upd H4 D (.lst (acc ++ [y]))) := by
  refine ⟨acc, s _ _ ha, Nat.lt_of_lt_of_le hl (by decide), acc ++ [y], upd_same, ?_, ?_⟩
  · rw [era_upd]
    exact Same.trans e (era_same s)
  · rw [era_upd]
    exact r
theorem lc_skip {H1 H H3 : Hp} {D : Addr} {R : Nat → List V → Hp → Prop} {i : Nat} {acc : List V} (ha : H D = some (.lst acc))
    (e : Same H1 (era H D)) (s : Same H H3) (r : R i acc (era H3 D)) : LcI H1 D R i H3 :=
  ⟨acc, s _ _ ha, Same.trans e (era_same s), r⟩
theorem lc_run {J : It} {n : Nat} {G : Hp → Prop} {Y : Nat → Hp → V → Hp → Prop} (w : Walk J n G Y) {g : TG} {tt : TT} {te : TE} {vs : List Nat}
    {σ : L2.St} {H1 : Hp} {D : Addr} {Qd : Hp → Prop} (hD : H1 D = none) (R : Nat → List V → Hp → Prop)
    (hG : ∀ H, Same H1 H → G H) (h0 : R 0 [] H1)
    (hs : ∀ i x acc H H', i < n → H D = some (.lst acc) → Same H1 (era H D) → Same H1 H → R i acc (era H D) → Y i H x H' →
      g x (wipe σ vs) H' fun σ2 H2 => wipe σ2 vs = wipe σ vs ∧ tt σ2 H2 fun b H3 =>
        if b = true then te σ2 H3 fun y H4 => ∃ acc, H4 D = some (.lst acc) ∧ acc.length < sizeLine ∧ LcI H1 D R (i + 1) (upd H4 D (.lst (acc ++ [y])))
        else LcI H1 D R (i + 1) H3)
    (hd : ∀ acc H, H D = some (.lst acc) → Same H1 H → R n acc (era H D) → Qd H) :
    ∃ W : Nat → Nat → Hp → Prop, (∃ m, W 0 m (upd H1 D (.lst []))) ∧ ∀ i m H, W i m H →
      (J.stop i H ∧ Qd H) ∨ (J.go i H ∧ ∃ Nx : Hp → Prop, (∀ H', Nx H' → ∃ m', m' < m ∧ W (i + 1) m' H') ∧
        ∀ x H', J.yld i H x H' → g x (wipe σ vs) H' fun σ2 H2 => wipe σ2 vs = wipe σ vs ∧ tt σ2 H2 fun b H3 =>
        if b = true then te σ2 H3 fun y H4 => ∃ acc, H4 D = some (.lst acc) ∧ acc.length < sizeLine ∧ Nx (upd H4 D (.lst (acc ++ [y]))) else Nx H3) := by
  refine lc_it w (LcI H1 D R) ?_ ?_ ?_ ?_
  · exact ⟨[], upd_same, by rw [era_upd, era_none hD]; exact Same.refl _, by rw [era_upd, era_none hD]; exact h0⟩
  · rintro i H _ ⟨acc, _, e, _⟩
    exact hG H (Same.trans e era_back)
  · rintro i x H H' hi ⟨acc, ha, e, r⟩ y
    exact hs i x acc H H' hi ha e (Same.trans e era_back) r y
  · rintro H ⟨acc, ha, e, r⟩
    exact hd acc H ha (Same.trans e era_back) r

theorem yes_go {σ : L2.St} {H : Hp} {A B : Hp → Prop} (h : A H) : tYes σ H (fun b H3 => if b = true then A H3 else B H3) := by
  show (if true = true then A H else B H)
  rw [if_pos rfl]
  exact h
/-! ### for loops: what is carried over a turn -/
theorem ints_at {ns : List Int} {i : Nat} {x : V} (h : (ns.map V.int)[i]? = some x) : ∃ z, ns[i]? = some z ∧ x = .int z := by
  rw [List.getElem?_map] at h
  cases e : ns[i]? with
  | none =>
    rw [e] at h
    cases h
  | some z =>
    rw [e] at h
    exact ⟨z, rfl, (Option.some.inj h).symm⟩

/-! ### the box of draws -/
def boxD (g : Addr) (st c : Int) : List (Key × V) :=
  [(Sum.inr "great", .ref g), (Sum.inr "stirred", .int st), (Sum.inr "count", .int c)]
structure Box (H : Hp) (b g : Addr) : Prop where
  bx : ∃ st c : Int, H b = some (.dK (boxD g st c))
  gr : ∃ ns : List Int, H g = some (.lst (ns.map V.int)) ∧ ns.length ≤ 63
theorem Box.ne {H : Hp} {b g : Addr} (x : Box H b g) : b ≠ g := by
  obtain ⟨⟨_, _, h1⟩, _, h2, _⟩ := x
  exact ne_of h1 h2 (by intro z; cases z)
theorem Box.same {H H' : Hp} {b g : Addr} (x : Box H b g) (s : Same H H') : Box H' b g := by
  obtain ⟨⟨st, c, h1⟩, ns, h2, h3⟩ := x
  exact ⟨⟨st, c, s _ _ h1⟩, ns, s _ _ h2, h3⟩

def spBox (K : PySem.W.Frag) : Sp := fun vs H Q _ => ∃ (a : Addr) (ns : List Int), vs = [.ref a] ∧ SqL K H a (ns.map V.int) ∧ ns.length ≤ 63 ∧
  ∀ (b g : Addr) (H' : Hp), H b = none → H g = none → Same H H' → Box H' b g → Q (.ref b) H'
def spDraw : Sp := fun vs H Q _ => ∃ (b g : Addr) (m : Int), vs = [.ref b, .int m] ∧ 0 < m ∧ m < 2 ^ 30 ∧ Box H b g ∧
  ∀ (r : Int) (H' : Hp), 0 ≤ r → r < m → Kp b g H H' → Box H' b g → Q (.int r) H'
end BV

namespace BV
open PySem L2
theorem get_great {H : Hp} {b g : Addr} {st c : Int} (h : H b = some (.dK (boxD g st c))) : DGet H b (.str "great") (some (.ref g)) :=
  DGet.k (k := Sum.inr "great") h
theorem get_stirred {H : Hp} {b g : Addr} {st c : Int} (h : H b = some (.dK (boxD g st c))) : DGet H b (.str "stirred") (some (.int st)) :=
  DGet.k (k := Sum.inr "stirred") h
theorem get_count {H : Hp} {b g : Addr} {st c : Int} (h : H b = some (.dK (boxD g st c))) : DGet H b (.str "count") (some (.int c)) :=
  DGet.k (k := Sum.inr "count") h
theorem put_count {H : Hp} {b g : Addr} {st c d : Int} (h : H b = some (.dK (boxD g st c))) :
    DPut H b (.str "count") (.int d) (upd H b (.dK (boxD g st d))) :=
  DPut.k (k := Sum.inr "count") h (by show 3 < sizeLine; decide)
theorem dpAll_ints {K : PySem.W.Frag} {H : Hp} : ∀ ns : List Int, DpAll K H (ns.map V.int) (ns.map PyData.int)
  | [] => .nil
  | n :: ns => .cons (.int n) (dpAll_ints ns)
theorem lay_ints : ∀ ns : List Int, PyData.canLayAll0 (ns.map PyData.int) = true
  | [] => by simp [PyData.canLayAll0]
  | n :: ns => by simp [PyData.canLayAll0, PyData.canLay0, lay_ints ns]
theorem deep_ints : ∀ ns : List Int, PyData.depthAll (ns.map PyData.int) ≤ 1
  | [] => by simp [PyData.depthAll]
  | n :: ns => by
    have := deep_ints ns
    simp only [List.map_cons, PyData.depthAll, PyData.depth]
    omega
theorem shaped_intsL (ns : List Int) : SeqAt.shaped (.list (ns.map PyData.int)) = true := by
  have h1 := lay_ints ns
  have h2 := deep_ints ns
  have h3 : PyData.depthAll (ns.map PyData.int) + 1 ≤ 64 := by omega
  simp [SeqAt.shaped, PyData.canLay0, PyData.depth, h1, h3]
end BV

namespace BV
open PySem L2
theorem ix_nat {n j : Nat} (h : j < n) : ixN n (j : Int) = some j := by
  unfold ixN
  rw [if_pos (by omega), if_pos (by omega), Int.toNat_natCast]
theorem seq_nat {n j : Nat} (h : j < n) : seqIndex? (j : Int) n = some j := (ixN_seq (ix_nat h)).1
end BV

namespace BV
open PySem L2
theorem Kp.seq {K : PySem.W.Frag} {b g l : Addr} {H H' : Hp} {xs : List V} (k : Kp b g H H') (h1 : l ≠ b) (h2 : l ≠ g) (h : SqL K H l xs) : SqL K H' l xs := by
  rcases h with (h | ⟨o, h⟩) | h
  · exact .inl (.inl (k _ _ h h1 h2))
  · exact .inl (.inr ⟨o, k _ _ h h1 h2⟩)
  · exact .inr h
def spPick (K : PySem.W.Frag) : Sp := fun vs H Q _ => ∃ (b g l : Addr) (xs : List V), vs = [.ref b, .ref l] ∧ SqL K H l xs ∧ l ≠ b ∧ l ≠ g ∧
  0 < xs.length ∧ xs.length < 1000000 ∧ Box H b g ∧ ∀ (j : Nat) (v : V) (H' : Hp), xs[j]? = some v → Kp b g H H' → Box H' b g → Q v H'
end BV

namespace BV
open PySem L2
/-- what follows is shown once, for all ways through -/
theorem tIf_by {t : TT} {ta tb : TE} {σ : L2.St} {H : Hp} {Q : VK} (P : V → Hp → Prop) (cont : ∀ v H', P v H' → Q v H')
    (h : (∀ v H', P v H' → Q v H') → tIf t ta tb σ H Q) : tIf t ta tb σ H Q := h cont
theorem tIfS_by {c : TT} {t u : TS} {D : Ends} {σ : L2.St} {H : Hp} (P : L2.St → Hp → Prop) (cont : ∀ σ' H', P σ' H' → D.nx σ' H')
    (h : (∀ σ' H', P σ' H' → D.nx σ' H') → tIfS c t u D σ H) : tIfS c t u D σ H := h cont
end BV

namespace BV
open PySem L2
theorem tSeq_go {t u : TS} {D : Ends} {σ : L2.St} {H : Hp} (h : t { D with nx := u D } σ H) : tSeq t u D σ H := h
/-- for .. in range(e): what follows e, once for all ways through e -/
def rngK (g : TG) (tb : TS) (D : Ends) (σ : L2.St) (v : V) (H1 : Hp) : Prop := ∃ j : Int, [v] = [V.int j] ∧ -(2 ^ 62) ≤ j ∧ j < 2 ^ 62 ∧
  ∃ W : Nat → Nat → L2.St → Hp → Prop, (∃ m, W 0 m σ H1) ∧ ∀ i m σ H, W i m σ H →
    ((Itr 0 j.toNat).stop i H ∧ D.nx σ H) ∨ ((Itr 0 j.toNat).go i H ∧ ∃ N : L2.St → Hp → Prop, (∀ σ' H', N σ' H' → ∃ m', m' < m ∧ W (i + 1) m' σ' H') ∧
      ∀ x H', (Itr 0 j.toNat).yld i H x H' → g x σ H' fun σ2 H2 => tb { D with nx := N, ct := N, bk := D.nx } σ2 H2)
theorem for_rng1_by {te : TE} {g : TG} {tb : TS} {D : Ends} {σ : L2.St} {H : Hp} (P : V → Hp → Prop)
    (loop : ∀ v H', P v H' → rngK g tb D σ v H') (h : (∀ v H', P v H' → rngK g tb D σ v H') → te σ H (rngK g tb D σ)) :
    tFor (iRng1 (tCons te tNil)) g tb D σ H := h loop
end BV

namespace BV
open PySem L2
theorem tIfS_t {c : TT} {t u : TS} {D : Ends} {σ : L2.St} {H : Hp} (R : Bool → Hp → Prop) (ht : ∀ H', R true H' → t D σ H') (hu : ∀ H', R false H' → u D σ H')
    (h : (∀ b H', R b H' → if b = true then t D σ H' else u D σ H') → c σ H fun b H' => if b = true then t D σ H' else u D σ H') : tIfS c t u D σ H := by
  refine h fun b H' r => ?_
  cases b with
  | true => exact iteT (ht H' r)
  | false => exact iteF (hu H' r)
end BV

namespace BV
open PySem L2

/-! ### webs as data -/
abbrev Tie := Nat × Nat
def tieD (t : Tie) : PyData := .tuple [.int t.1, .int t.2]
def tiesD (ts : List Tie) : PyData := .tuple (ts.map tieD)
def webD (n : Nat) (ts : List Tie) : PyData := .tuple [.int n, tiesD ts]
structure WebOk (n : Nat) (ts : List Tie) : Prop where
  pos : 1 ≤ n
  ends : ∀ t ∈ ts, t.1 < t.2 ∧ t.2 < n
  hang : ∀ p, 1 ≤ p → p < n → ∃ q, q < p ∧ (q, p) ∈ ts

/-- the ends of a tie stand at v -/
def TieAt (H : Hp) (v : V) (t : Tie) : Prop := ∃ p, v = .ref p ∧ H p = some (.tup [.int t.1, .int t.2])
/-- tuples stay -/
def KT (H H' : Hp) : Prop := ∀ a xs, H a = some (.tup xs) → H' a = some (.tup xs)
theorem KT.of_same {H H' : Hp} (s : Same H H') : KT H H' := fun a xs h => s _ _ h
theorem KT.of_kp {b g : Addr} {H H' : Hp} (k : Kp b g H H') (x : Box H b g) : KT H H' := fun a xs h => by
  obtain ⟨⟨_, _, h1⟩, _, h2, _⟩ := x
  exact k _ _ h (ne_of h h1 (by intro z; cases z)) (ne_of h h2 (by intro z; cases z))
theorem KT.of_upd {H : Hp} {l : Addr} {xs ys : List V} (h : H l = some (.lst xs)) : KT H (upd H l (.lst ys)) := fun a zs e => by
  rw [upd_ne (ne_of e h (by intro z; cases z))]
  exact e
theorem TieAt.kt {H H' : Hp} {v : V} {t : Tie} (h : TieAt H v t) (k : KT H H') : TieAt H' v t := by
  obtain ⟨p, e, hp⟩ := h
  exact ⟨p, e, k _ _ hp⟩

abbrev Ties (H : Hp) : List V → List Tie → Prop := Paired (TieAt H)
theorem Ties.kt {H H' : Hp} (k : KT H H') : ∀ {xs : List V} {ts : List Tie}, Ties H xs ts → Ties H' xs ts
  | _, _, .nil => .nil
  | _, _, .cons a r => .cons (a.kt k) (Ties.kt k r)
theorem Ties.app {H : Hp} : ∀ {xs : List V} {ts : List Tie} {v : V} {t : Tie}, Ties H xs ts → TieAt H v t → Ties H (xs ++ [v]) (ts ++ [t])
  | _, _, _, _, .nil, h => .cons h .nil
  | _, _, _, _, .cons a r, h => .cons a (Ties.app r h)
theorem Ties.era {H : Hp} : ∀ {xs : List V} {ts : List Tie} (j : Nat), Ties H xs ts → Ties H (xs.eraseIdx j) (ts.eraseIdx j)
  | _, _, _, .nil => .nil
  | _, _, 0, .cons a r => r
  | _, _, j + 1, .cons a r => .cons a (Ties.era j r)
theorem Ties.get {H : Hp} : ∀ {xs : List V} {ts : List Tie} {j : Nat} {t : Tie}, Ties H xs ts → ts[j]? = some t → ∃ v, xs[j]? = some v ∧ TieAt H v t
  | _, _, _, _, .nil, h => by simp at h
  | _, _, 0, _, .cons a r, h => by
    simp at h
    subst h
    exact ⟨_, rfl, a⟩
  | _, _, j + 1, t, .cons a r, h => by
    obtain ⟨v, h1, h2⟩ := Ties.get (j := j) (t := t) r (by simpa using h)
    exact ⟨v, by simpa using h1, h2⟩
theorem Ties.at {H : Hp} : ∀ {xs : List V} {ts : List Tie} {j : Nat} {v : V}, Ties H xs ts → xs[j]? = some v → ∃ t, ts[j]? = some t ∧ TieAt H v t
  | _, _, _, _, .nil, h => by simp at h
  | _, _, 0, _, .cons a r, h => by
    simp at h
    subst h
    exact ⟨_, rfl, a⟩
  | _, _, j + 1, v, .cons a r, h => by
    obtain ⟨t, h1, h2⟩ := Ties.at (j := j) (v := v) r (by simpa using h)
    exact ⟨t, by simpa using h1, h2⟩
theorem Ties.dp {K : PySem.W.Frag} {H : Hp} : ∀ {xs : List V} {ts : List Tie}, Ties H xs ts → DpAll K H xs (ts.map tieD)
  | _, _, .nil => .nil
  | _, _, .cons h r => by
    obtain ⟨p, rfl, hp⟩ := h
    exact .cons (.tup (SqT.of hp) (.cons (.int _) (.cons (.int _) .nil))) (Ties.dp r)

/-- taking one out and laying it behind -/
theorem perm_move : ∀ (ts fs : List Tie) (j : Nat) (t : Tie), ts[j]? = some t → (ts.eraseIdx j ++ (fs ++ [t])).Perm (ts ++ fs) := by
  intro ts fs j t h
  have h1 : (t :: ts.eraseIdx j).Perm ts := by
    induction ts generalizing j with
    | nil => simp at h
    | cons a r ih =>
      cases j with
      | zero =>
        simp at h
        subst h
        exact .refl _
      | succ j =>
        have := ih j (by simpa using h)
        simp only [List.eraseIdx_cons_succ]
        exact (List.Perm.swap a t _).trans (this.cons a)
  have h2 : (ts.eraseIdx j ++ (fs ++ [t])).Perm (t :: (ts.eraseIdx j ++ fs)) := by
    rw [← List.append_assoc]
    exact List.perm_append_comm
  exact h2.trans (by simpa using h1.append_right fs)

/-- two lists of ties that grow, new since H0 -/
structure WI (b g l l2 : Addr) (H0 H : Hp) (ts fs : List Tie) : Prop where
  kp : Kp b g H0 H
  bx : Box H b g
  n1 : H0 l = none
  n2 : H0 l2 = none
  d1 : l ≠ b
  d2 : l ≠ g
  d3 : l2 ≠ b
  d4 : l2 ≠ g
  d5 : l ≠ l2
  tl : ∃ xs, H l = some (.lst xs) ∧ Ties H xs ts
  fl : ∃ ys, H l2 = some (.lst ys) ∧ Ties H ys fs
section
variable {b g l l2 p : Addr} {H0 H H' : Hp} {ts fs : List Tie} {v : V} {t : Tie} {xs : List V}
theorem WI.draw (w : WI b g l l2 H0 H ts fs) (k : Kp b g H H') (x : Box H' b g) : WI b g l l2 H0 H' ts fs := by
  obtain ⟨kp, bx, n1, n2, d1, d2, d3, d4, d5, ⟨xs, h1, h2⟩, ⟨ys, h3, h4⟩⟩ := w
  have kt := KT.of_kp k bx
  exact ⟨kp.trans k, x, n1, n2, d1, d2, d3, d4, d5, ⟨xs, k _ _ h1 d1 d2, h2.kt kt⟩, ⟨ys, k _ _ h3 d3 d4, h4.kt kt⟩⟩
theorem WI.same (w : WI b g l l2 H0 H ts fs) (s : Same H H') : WI b g l l2 H0 H' ts fs := w.draw (Kp.same s) (w.bx.same s)
theorem WI.app (w : WI b g l l2 H0 H ts fs) (h : H l = some (.lst xs)) (hv : TieAt H v t) : WI b g l l2 H0 (upd H l (.lst (xs ++ [v]))) (ts ++ [t]) fs := by
  obtain ⟨kp, bx, n1, n2, d1, d2, d3, d4, d5, ⟨zs, h1, h2⟩, ⟨ys, h3, h4⟩⟩ := w
  rw [h] at h1
  cases h1
  have kt : KT H (upd H l (.lst (xs ++ [v]))) := KT.of_upd h
  refine ⟨fun a o q q1 q2 => ?_, ?_, n1, n2, d1, d2, d3, d4, d5, ⟨_, upd_same, (h2.kt kt).app (hv.kt kt)⟩, ⟨ys, ?_, h4.kt kt⟩⟩
  · rw [upd_ne (ne_of_none q n1)]
    exact kp _ _ q q1 q2
  · obtain ⟨⟨st, c, x1⟩, ns, x2, x3⟩ := bx
    exact ⟨⟨st, c, by rw [upd_ne d1.symm]; exact x1⟩, ns, by rw [upd_ne d2.symm]; exact x2, x3⟩
  · rw [upd_ne d5.symm]
    exact h3
theorem WI.swap (w : WI b g l l2 H0 H ts fs) : WI b g l2 l H0 H fs ts := by
  obtain ⟨kp, bx, n1, n2, d1, d2, d3, d4, d5, t1, t2⟩ := w
  exact ⟨kp, bx, n2, n1, d3, d4, d1, d2, d5.symm, t2, t1⟩
theorem WI.pop (w : WI b g l l2 H0 H ts fs) (h : H l = some (.lst xs)) (j : Nat) : WI b g l l2 H0 (upd H l (.lst (xs.eraseIdx j))) (ts.eraseIdx j) fs := by
  obtain ⟨kp, bx, n1, n2, d1, d2, d3, d4, d5, ⟨zs, h1, h2⟩, ⟨ys, h3, h4⟩⟩ := w
  rw [h] at h1
  cases h1
  have kt : KT H (upd H l (.lst (xs.eraseIdx j))) := KT.of_upd h
  refine ⟨fun a o q q1 q2 => ?_, ?_, n1, n2, d1, d2, d3, d4, d5, ⟨_, upd_same, (h2.kt kt).era j⟩, ⟨ys, ?_, h4.kt kt⟩⟩
  · rw [upd_ne (ne_of_none q n1)]
    exact kp _ _ q q1 q2
  · obtain ⟨⟨st, c, x1⟩, ns, x2, x3⟩ := bx
    exact ⟨⟨st, c, by rw [upd_ne d1.symm]; exact x1⟩, ns, by rw [upd_ne d2.symm]; exact x2, x3⟩
  · rw [upd_ne d5.symm]
    exact h3
end

def spWeb (K : PySem.W.Frag) : Sp := fun vs H Q _ => ∃ (b g : Addr) (most more : Nat), vs = [.ref b, .int most, .int more] ∧ 1 ≤ most ∧ most ≤ 1000 ∧ more ≤ 1000 ∧ Box H b g ∧
  ∀ (p : Addr) (n : Nat) (ts : List Tie) (H' : Hp), Kp b g H H' → Box H' b g → Dp K H' (.ref p) (webD n ts) → WebOk n ts → n ≤ most → ts.length + 1 ≤ n + more →
    (n = 1 → ts = []) → Q (.ref p) H'
end BV

namespace BV
open PySem L2

/-! ### data that is read -/
section
variable {K : PySem.W.Frag} {H H' : Hp}
theorem sqT_same {a : Addr} {xs : List V} (s : Same H H') (h : SqT K H a xs) : SqT K H' a xs := by
  rcases h with (h | ⟨o, h⟩) | h
  · exact .inl (.inl (s _ _ h))
  · exact .inl (.inr ⟨o, s _ _ h⟩)
  · exact .inr h
mutual
theorem dp_same (s : Same H H') : ∀ (d : PyData) {v : V}, Dp K H v d → Dp K H' v d
  | .none, _, h => by cases h; exact .non
  | .bool b, _, h => by cases h; exact .bl b
  | .int i, _, h => by cases h; exact .int i
  | .str x, _, h => by cases h; exact .str x
  | .list ds, _, h => by
    cases h with
    | lst h1 h2 => exact .lst (Same.seq s h1) (dpAll_same s ds h2)
  | .tuple ds, _, h => by
    cases h with
    | tup h1 h2 => exact .tup (sqT_same s h1) (dpAll_same s ds h2)
  | .dict _, _, h => by cases h
theorem dpAll_same (s : Same H H') : ∀ (ds : List PyData) {vs : List V}, DpAll K H vs ds → DpAll K H' vs ds
  | [], _, h => by cases h; exact .nil
  | d :: ds, _, h => by
    cases h with
    | cons h1 h2 => exact .cons (dp_same s d h1) (dpAll_same s ds h2)
end

/-- what is locked or a tuple stays -/
def KF (H H' : Hp) : Prop := ∀ a o, H a = some o → (∃ xs, o = .tup xs ∨ ∃ ob, o = .frz ob (.tup xs)) → H' a = some o
theorem KF.of_same (s : Same H H') : KF H H' := fun a o h _ => s a o h
theorem KF.of_kp {b g : Addr} (k : Kp b g H H') (x : Box H b g) : KF H H' := fun a o h q => by
  obtain ⟨⟨_, _, h1⟩, _, h2, _⟩ := x
  obtain ⟨xs, rfl | ⟨ob, rfl⟩⟩ := q
  · exact k _ _ h (ne_of h h1 (by intro z; cases z)) (ne_of h h2 (by intro z; cases z))
  · exact k _ _ h (ne_of h h1 (by intro z; cases z)) (ne_of h h2 (by intro z; cases z))
theorem KF.trans {H'' : Hp} (x : KF H H') (y : KF H' H'') : KF H H'' := fun a o h q => y a o (x a o h q) q
theorem KF.of_upd {l : Addr} {xs ys : List V} (h : H l = some (.lst xs)) : KF H (upd H l (.lst ys)) := fun a o e q => by
  obtain ⟨zs, rfl | ⟨ob, rfl⟩⟩ := q
  · rw [upd_ne (ne_of e h (by intro z; cases z))]
    exact e
  · rw [upd_ne (ne_of e h (by intro z; cases z))]
    exact e
theorem sqT_kf {a : Addr} {xs : List V} (s : KF H H') (h : SqT K H a xs) : SqT K H' a xs := by
  rcases h with (h | ⟨o, h⟩) | h
  · exact .inl (.inl (s _ _ h ⟨xs, .inl rfl⟩))
  · exact .inl (.inr ⟨o, s _ _ h ⟨xs, .inr ⟨o, rfl⟩⟩⟩)
  · exact .inr h
mutual
/-- data without a list in it -/
def still : PyData → Bool
  | .none | .bool _ | .int _ | .str _ => true
  | .list _ | .dict _ => false
  | .tuple ds => stillAll ds
def stillAll : List PyData → Bool
  | [] => true
  | d :: ds => still d && stillAll ds
end
mutual
theorem dp_kf (s : KF H H') : ∀ (d : PyData) {v : V}, still d = true → Dp K H v d → Dp K H' v d
  | .none, _, _, h => by cases h; exact .non
  | .bool b, _, _, h => by cases h; exact .bl b
  | .int i, _, _, h => by cases h; exact .int i
  | .str x, _, _, h => by cases h; exact .str x
  | .list ds, _, q, h => by simp [still] at q
  | .tuple ds, _, q, h => by
    cases h with
    | tup h1 h2 => exact .tup (sqT_kf s h1) (dpAll_kf s ds (by simpa [still] using q) h2)
  | .dict _, _, _, h => by cases h
theorem dpAll_kf (s : KF H H') : ∀ (ds : List PyData) {vs : List V}, stillAll ds = true → DpAll K H vs ds → DpAll K H' vs ds
  | [], _, _, h => by cases h; exact .nil
  | d :: ds, _, q, h => by
    have q' : still d = true ∧ stillAll ds = true := by simpa [stillAll] using q
    cases h with
    | cons h1 h2 => exact .cons (dp_kf s d q'.1 h1) (dpAll_kf s ds q'.2 h2)
end
theorem dpAll_len : ∀ {ds : List PyData} {vs : List V}, DpAll K H vs ds → vs.length = ds.length
  | [], _, h => by cases h; rfl
  | d :: ds, _, h => by
    cases h with
    | cons h1 h2 => exact congrArg Nat.succ (dpAll_len h2)
theorem dpAll_get : ∀ {ds : List PyData} {vs : List V} {i : Nat} {v : V}, DpAll K H vs ds → vs[i]? = some v → ∃ d, ds[i]? = some d ∧ Dp K H v d
  | [], _, _, _, h, e => by cases h; simp at e
  | d :: ds, _, 0, _, h, e => by
    cases h with
    | cons h1 h2 =>
      simp at e
      subst e
      exact ⟨d, rfl, h1⟩
  | d :: ds, _, i + 1, v, h, e => by
    cases h with
    | cons h1 h2 =>
      obtain ⟨d', a, b⟩ := dpAll_get (i := i) (v := v) h2 (by simpa using e)
      exact ⟨d', by simpa using a, b⟩
theorem dpAll_at : ∀ {ds : List PyData} {vs : List V} {i : Nat} {d : PyData}, DpAll K H vs ds → ds[i]? = some d → ∃ v, vs[i]? = some v ∧ Dp K H v d
  | [], _, _, _, h, e => by simp at e
  | d :: ds, _, 0, _, h, e => by
    cases h with
    | cons h1 h2 =>
      simp at e
      subst e
      exact ⟨_, rfl, h1⟩
  | d :: ds, _, i + 1, v, h, e => by
    cases h with
    | cons h1 h2 =>
      obtain ⟨d', a, b⟩ := dpAll_at (i := i) (d := v) h2 (by simpa using e)
      exact ⟨d', by simpa using a, b⟩
theorem dpAll_app : ∀ {ds es : List PyData} {vs us : List V}, DpAll K H vs ds → DpAll K H us es → DpAll K H (vs ++ us) (ds ++ es)
  | [], _, _, _, h, g => by cases h; exact g
  | d :: ds, _, _, _, h, g => by
    cases h with
    | cons h1 h2 => exact .cons h1 (dpAll_app h2 g)
theorem dpAll_ints' : ∀ {ns : List Int} {vs : List V}, DpAll K H vs (ns.map PyData.int) → vs = ns.map V.int
  | [], _, h => by cases h; rfl
  | n :: ns, _, h => by
    cases h with
    | cons h1 h2 =>
      cases h1
      rw [dpAll_ints' h2]
      rfl
theorem dp_tup {v : V} {ds : List PyData} (h : Dp K H v (.tuple ds)) : ∃ a xs, v = .ref a ∧ SqT K H a xs ∧ DpAll K H xs ds := by
  cases h with
  | tup h1 h2 => exact ⟨_, _, rfl, h1, h2⟩
theorem dp_lst {v : V} {ds : List PyData} (h : Dp K H v (.list ds)) : ∃ a xs, v = .ref a ∧ SqL K H a xs ∧ DpAll K H xs ds := by
  cases h with
  | lst h1 h2 => exact ⟨_, _, rfl, h1, h2⟩
theorem dp_tie {v : V} {t : Tie} (h : Dp K H v (tieD t)) : ∃ a, v = .ref a ∧ SqT K H a [.int t.1, .int t.2] := by
  obtain ⟨a, xs, e, h1, h2⟩ := dp_tup h
  have q : xs = [.int t.1, .int t.2] := dpAll_ints' (ns := [t.1, t.2]) h2
  subst q
  exact ⟨a, e, h1⟩
theorem dp_web {v : V} {n : Nat} {ts : List Tie} (h : Dp K H v (webD n ts)) :
    ∃ a c ys, v = .ref a ∧ SqT K H a [.int n, .ref c] ∧ SqT K H c ys ∧ DpAll K H ys (ts.map tieD) := by
  obtain ⟨a, xs, e, h1, h2⟩ := dp_tup h
  cases h2 with
  | cons q1 q2 =>
    cases q1
    cases q2 with
    | cons q3 q4 =>
      cases q4
      obtain ⟨c, ys, e3, h3, h4⟩ := dp_tup q3
      subst e3
      exact ⟨a, c, ys, e, h1, h3, h4⟩
theorem still_ties : ∀ ts : List Tie, stillAll (ts.map tieD) = true
  | [] => by simp [stillAll]
  | t :: ts => by simp [stillAll, tieD, still, still_ties ts]
theorem still_web (n : Nat) (ts : List Tie) : still (webD n ts) = true := by simp [webD, tiesD, still, stillAll, still_ties ts]
end

/-! ### lots -/
def lotD (ks : List Nat) : PyData := .tuple (ks.map fun (k : Nat) => .int k)
def hit (ts : List Tie) (p k : Nat) : Bool := match ts[k]? with
  | some t => t.1 == p || t.2 == p
  | none => false
def tiesAt (ts : List Tie) (p : Nat) : List Nat := (List.range ts.length).filter (hit ts p)
def spTies (K : PySem.W.Frag) : Sp := fun vs H Q _ => ∃ (v : V) (n p : Nat) (ts : List Tie), vs = [v, .int p] ∧ Dp K H v (webD n ts) ∧ ts.length ≤ 3000 ∧
  ∀ (u : V) (H' : Hp), Same H H' → Dp K H' u (lotD (tiesAt ts p)) → Q u H'
end BV

/-! ### rules that name the written part -/
namespace BV
open PySem L2
section
variable {X : Cx} (K : PySem.W.Frag)
theorem opIn (h : X.K = K := by rfl) : OpR X (compareOp .In) (rIn K false) := by
  subst h
  exact op_in_seq
theorem opNotIn (h : X.K = K := by rfl) : OpR X (compareOp .NotIn) (rIn K true) := by
  subst h
  exact op_notIn_seq
theorem opEqD (hu : X.A.units + 64 < cLine) (h : X.K = K := by rfl) : OpR X (compareOp .Eq) (rEqD K) := by
  subst h
  exact op_eqD hu
theorem opNeD (hu : X.A.units + 64 < cLine) (h : X.K = K := by rfl) : OpR X (compareOp .NotEq) (rNeD K) := by
  subst h
  exact op_neD hu
theorem ixL (h : X.K = K := by rfl) : IxR X (rIxL K) := by
  subst h
  exact ix_list
theorem ixT (h : X.K = K := by rfl) : IxR X (rIxT K) := by
  subst h
  exact ix_tup
def rLenK (K : PySem.W.Frag) : List V → Hp → VK → Prop := fun xs H Q => ∃ p ys, xs = [.ref p] ∧ (SqL K H p ys ∨ SqT K H p ys) ∧ Q (.int ys.length) H
theorem lenK (h : X.K = K := by rfl) : CallR X (.builtin "len") (rLenK K) := by
  subst h
  exact call_len_seq
def rTupK (K : PySem.W.Frag) : List V → Hp → VK → Prop := fun xs H Q => ∃ p ys, xs = [.ref p] ∧
  ((SqL K H p ys ∧ ∀ l, H l = none → Q (.ref l) (upd H l (.tup ys))) ∨ (SqT K H p ys ∧ Q (.ref p) H))
theorem tupleK (h : X.K = K := by rfl) : CallR X (.type "tuple") (rTupK K) := by
  subst h
  exact call_tuple_of
def rSumT (K : PySem.W.Frag) : List V → Hp → VK → Prop := fun vs H Q => ∃ (a : Addr) (ns : List Int), vs = [V.ref a] ∧ SqT K H a (ns.map V.int) ∧ Q (.int ns.sum) H
theorem sumTK (hc : X.calm = true := by rfl) (h : X.K = K := by rfl) : CallR X (.builtin "sum") (rSumT K) := by
  subst h
  exact cr_sumT hc
def rReprK (K : PySem.W.Frag) : List V → Hp → VK → Prop := fun xs H Q => ∃ (x : V) (d : PyData), xs = [x] ∧ Dp K H x d ∧ Show d ∧ Q (.str d.shown) H
theorem reprK (hgd : X.A.guards = some []) (hu : X.A.units + 64 < cLine) (h : X.K = K := by rfl) : CallR X (.builtin "repr") (rReprK K) := by
  subst h
  exact call_reprD hgd hu
theorem revT {e : Expr} {te : TE} {k : Nat} {p1 p2 p3 pos : Pos} (he : PE X e te) (h : X.K = K := by rfl) :
    PE X (.Subscript e (.Slice none none (some (.UnaryOp .USub (.Constant (.int 1) k p1) p2)) p3) pos) (tRevT K te) := by
  subst h
  exact pe_revT he
theorem enumT {e : Expr} {ta : TA} {p pos tpos : Pos} {elts : List Expr} {kk : Nat} (hg : Gl X "enumerate") (hm : X.mg "enumerate" = none)
    (ha : PA X [e] ta) (hs : starEach [e] X.env = [(false, eval e X.env)] := by rfl) (h : X.K = K := by rfl) :
    PI X (.Tuple elts kk tpos) (.Call (.Name "enumerate" p) [e] [] pos) (iEnumT K ta) := by
  subst h
  exact pi_enumT hg hm ha hs
theorem piL {l tg : Expr} {tl : TE} (hl : PE X l tl) (h : X.K = K := by rfl) : PI X tg l (iList K tl) := by
  subst h
  exact pi_list hl
theorem piT {l tg : Expr} {tl : TE} (hl : PE X l tl) (h : X.K = K := by rfl) : PI X tg l (iTup K tl) := by
  subst h
  exact pi_tup hl
theorem pgT {es : List Expr} {k : Nat} {t : TGs} {n : Nat} (hc : X.calm = true) (h : PGs X es t)
    (hn : (assignEach es X.env).length = n := by rfl) (hst : (assignEach es X.env).findIdx? (·.1) = none := by rfl) {pos : Pos} (hK : X.K = K := by rfl) :
    PG X (.Tuple es k pos) (gTup K n t) := by
  subst hK
  exact pg_tup hc h hn hst
theorem getL (h : X.K = K := by rfl) : PGet X (rGetL K) := by
  subst h
  exact get_list
theorem slL (h : X.K = K := by rfl) : SlR X (rSlL K) := by
  subst h
  exact sl_list
end
end BV

namespace BV
open PySem L2
theorem inv_tie (p : Nat) (t : Tie) : inV (.int (p : Int)) [.int t.1, .int t.2] = (t.1 == p || t.2 == p) := by
  have e : ∀ a : Nat, (((a : Nat) : Int) == (p : Int)) = (a == p) := fun a => by
    by_cases h : a = p
    · subst h
      simp
    · rw [beq_eq_false_iff_ne.mpr h]
      exact beq_eq_false_iff_ne.mpr fun z => h (by omega)
  show ((((t.1 : Nat) : Int) == (p : Int)) || ((((t.2 : Nat) : Int) == (p : Int)) || false)) = _
  rw [e, e, Bool.or_false]
theorem range_filter_succ {f : Nat → Bool} {i : Nat} : (List.range (i + 1)).filter f = (List.range i).filter f ++ if f i then [i] else [] := by
  rw [List.range_succ, List.filter_append]
  congr 1
  by_cases h : f i = true
  · rw [if_pos h, List.filter_cons_of_pos h, List.filter_nil]
  · rw [if_neg h, List.filter_cons_of_neg h, List.filter_nil]
theorem hit_at {ts : List Tie} {p i : Nat} {t : Tie} (h : ts[i]? = some t) : hit ts p i = (t.1 == p || t.2 == p) := by
  unfold hit
  rw [h]
end BV

namespace BV
open PySem L2

/-! ### the matrix of a web -/
def meets (p : Nat) (t : Tie) : Bool := t.1 == p || t.2 == p
def joins (p q : Nat) (t : Tie) : Bool := (t.1 == p && t.2 == q) || (t.1 == q && t.2 == p)
def entry (ts : List Tie) (p q : Nat) : Int := if p = q then (ts.countP (meets p) : Nat) else -((ts.countP (joins p q) : Nat) : Int)
def rowD (ts : List Tie) (n p : Nat) : PyData := .tuple ((List.range n).map fun q => .int (entry ts p q))
def matD (n : Nat) (ts : List Tie) : PyData := .tuple ((List.range n).map (rowD ts n))
def spMat (K : PySem.W.Frag) : Sp := fun vs H Q _ => ∃ (v : V) (n : Nat) (ts : List Tie), vs = [v] ∧ Dp K H v (webD n ts) ∧ (∀ t ∈ ts, t.1 < t.2 ∧ t.2 < n) ∧
  n ≤ 1000 ∧ ts.length ≤ 3000 ∧ ∀ (u : V) (H' : Hp), Same H H' → Dp K H' u (matD n ts) → Q u H'

/-- n rows of n numbers, lists of their own -/
structure Mat (H : Hp) (r : Addr) (as : List Addr) (n : Nat) (M : Nat → Nat → Int) : Prop where
  rows : H r = some (.lst (as.map V.ref))
  len : as.length = n
  nd : as.Nodup
  row : ∀ p a, as[p]? = some a → H a = some (.lst ((List.range n).map fun q => V.int (M p q)))
def bump (M : Nat → Nat → Int) (p q : Nat) (d : Int) : Nat → Nat → Int := fun i j => if i = p ∧ j = q then M p q + d else M i j
theorem range_set {α : Type} (f : Nat → α) (n q : Nat) (v : α) : ((List.range n).map f).set q v = (List.range n).map fun j => if j = q then v else f j := by
  apply List.ext_getElem?
  intro i
  by_cases hi : i < n
  · rw [List.getElem?_set]
    by_cases e : q = i
    · subst e
      simp [hi]
    · have e' : ¬ i = q := fun z => e z.symm
      simp [hi, e, e']
  · rw [List.getElem?_eq_none (by simp; omega), List.getElem?_eq_none (by simp; omega)]
theorem Mat.set {H : Hp} {r a : Addr} {as : List Addr} {n p q : Nat} {M : Nat → Nat → Int} {d : Int} (m : Mat H r as n M) (ha : as[p]? = some a) (hq : q < n) :
    Mat (upd H a (.lst (((List.range n).map fun q => V.int (M p q)).set q (.int (M p q + d))))) r as n (bump M p q d) := by
  obtain ⟨h1, h2, h3, h4⟩ := m
  have hpa := h4 p a ha
  have hp : p < as.length := (List.getElem?_eq_some_iff.mp ha).1
  have nra : r ≠ a := by
    intro e
    subst e
    rw [h1] at hpa
    have z := Option.some.inj hpa
    injection z with z
    cases as with
    | nil => simp at ha
    | cons x xs =>
      cases n with
      | zero => simp at h2
      | succ n =>
        rw [List.range_succ_eq_map] at z
        cases z
  refine ⟨by rw [upd_ne nra]; exact h1, h2, h3, fun p' a' ha' => ?_⟩
  by_cases e : p' = p
  · subst e
    rw [ha] at ha'
    cases ha'
    rw [upd_same, range_set]
    congr 2
    apply List.map_congr_left
    intro j hj
    unfold bump
    by_cases ej : j = q
    · subst ej
      simp
    · simp [ej]
  · have na : a' ≠ a := by
      rintro rfl
      have hp' : p' < as.length := (List.getElem?_eq_some_iff.mp ha').1
      have e1 : as[p'] = a' := (List.getElem?_eq_some_iff.mp ha').2
      have e2 : as[p] = a' := (List.getElem?_eq_some_iff.mp ha).2
      have pw := List.pairwise_iff_getElem.mp h3
      rcases Nat.lt_or_ge p' p with z | z
      · exact pw p' p hp' hp z (e1.trans e2.symm)
      · exact pw p p' hp hp' (by omega) (e2.trans e1.symm)
    rw [upd_ne na, h4 p' a' ha']
    congr 2
    apply List.map_congr_left
    intro j hj
    unfold bump
    simp [e]
theorem entry_app (ts : List Tie) (a b : Nat) (hab : a < b) (p q : Nat) :
    bump (bump (bump (bump (entry ts) a a 1) b b 1) a b (-1)) b a (-1) p q = entry (ts ++ [(a, b)]) p q := by
  have c1 : ∀ f : Tie → Bool, (ts ++ [(a, b)]).countP f = ts.countP f + (if f (a, b) = true then 1 else 0) := fun f => by
    rw [List.countP_append, List.countP_singleton]
  unfold entry
  rw [c1, c1]
  unfold bump meets joins
  by_cases e : p = q
  · subst e
    by_cases ea : p = a
    · subst ea
      have : ¬ p = b := by omega
      have : ¬ b = p := by omega
      simp_all
    · by_cases eb : p = b
      · subst eb
        have : ¬ a = p := by omega
        simp_all
      · have : ¬ a = p := fun z => ea z.symm
        have : ¬ b = p := fun z => eb z.symm
        simp_all
  · by_cases e1 : p = a ∧ q = b
    · obtain ⟨rfl, rfl⟩ := e1
      have h1 : ¬ q = p := fun z => e z.symm
      simp_all
      omega
    · by_cases e2 : p = b ∧ q = a
      · obtain ⟨rfl, rfl⟩ := e2
        have h1 : ¬ q = p := fun z => e z.symm
        simp_all
        omega
      · have h3 : ¬ (p = a ∧ q = a) := fun z => e (z.1.trans z.2.symm)
        have h4 : ¬ (p = b ∧ q = b) := fun z => e (z.1.trans z.2.symm)
        have h5 : ((a == p && b == q) || (a == q && b == p)) = false := by
          rw [Bool.or_eq_false_iff, Bool.and_eq_false_iff, Bool.and_eq_false_iff]
          simp only [beq_eq_false_iff_ne]
          omega
        simp only [e1, e2, h3, h4, if_false, e, h5, Bool.false_eq_true, Nat.add_zero]
end BV

namespace BV
open PySem L2
theorem Mat.row_get {H : Hp} {r a : Addr} {as : List Addr} {n p q : Nat} {M : Nat → Nat → Int} (m : Mat H r as n M) (ha : as[p]? = some a) (hq : q < n) :
    ((List.range n).map fun q => V.int (M p q))[q]? = some (.int (M p q)) := by
  rw [List.getElem?_map, List.getElem?_range hq]
  rfl
theorem mat_aug {K : PySem.W.Frag} {H : Hp} {r : Addr} {as : List Addr} {n p q ir ip iq : Nat} {M : Nat → Nat → Int} {d : Int} {f : Int → Int → Int} {σ : L2.St} {D : Ends}
    (m : Mat H r as n M) (hp : p < n) (hq : q < n) (h3 : σ[ir]? = some (some (.ref r))) (h4 : σ[ip]? = some (some (.int (p : Int)))) (h5 : σ[iq]? = some (some (.int (q : Int))))
    (hf : f (M p q) 1 = M p q + d)
    (h : ∀ a, as[p]? = some a → ∀ H', (∀ b, b ≠ a → H' b = H b) → Mat H' r as n (bump M p q d) → D.nx σ H') :
    tAugS (tOp (rIxL K) (tVar ir) (tVar ip)) (tVar iq) (tC (.int 1)) (rGetL K) (ipI f) rSetL D σ H := by
  have hpl : p < as.length := by rw [m.len]; exact hp
  have ha : as[p]? = some as[p] := by simp [hpl]
  have hrow := m.row p _ ha
  have hr : (as.map V.ref)[p]? = some (.ref as[p]) := by rw [List.getElem?_map, ha]; rfl
  refine ⟨_, h3, _, h4, r, _, _, _, rfl, rfl, SqL.of m.rows, atI_nat hr, ?_⟩
  refine ⟨_, h5, as[p], _, q, _, rfl, rfl, SqL.of hrow, m.row_get ha hq, ?_⟩
  refine ⟨_, _, rfl, rfl, as[p], _, (q : Int), q, rfl, rfl, hrow, ix_nat (by simpa using hq), ?_⟩
  rw [hf]
  exact h _ ha _ (fun b hb => upd_ne hb) (m.set ha hq)
theorem zeros (n : Nat) : (List.replicate n [V.int 0]).flatten = (List.range n).map fun _ => V.int 0 := by
  induction n with
  | zero => rfl
  | succ n ih =>
    rw [List.replicate_succ', List.flatten_append, ih, List.range_succ, List.map_append]
    rfl
end BV

namespace BV
open PySem L2
mutual
def tiny : PyData → Bool
  | .none | .bool _ => true
  | .int i => decide (i.natAbs.log2 < 300)
  | .str x => decide (x.length ≤ 100) && x.cps.toList.all fun c => decide (c < 16 ^ 8)
  | .list xs | .tuple xs => tinyAll xs
  | .dict _ => false
def tinyAll : List PyData → Bool
  | [] => true
  | x :: xs => tiny x && tinyAll xs
end
mutual
def nodes : PyData → Nat
  | .none | .bool _ | .int _ | .str _ | .dict _ => 1
  | .list xs | .tuple xs => nodesAll xs + 1
def nodesAll : List PyData → Nat
  | [] => 0
  | x :: xs => nodes x + nodesAll xs
end
theorem int_shown {i : Int} (h : i.natAbs.log2 < 300) : (PyData.shown (.int i)).length ≤ 301 := by
  have h1 := int_text_length_le (k := 300) (by decide) h
  have h2 : (PyData.shown (.int i)) = Str.ofString (toString i) := by simp only [PyData.shown]
  rw [h2]
  have h3 : (Str.ofString (toString i)).length = (toString i).length := ofString_length _
  omega
mutual
theorem tiny_facts : ∀ d : PyData, tiny d = true → d.showable = true ∧ d.hasDict = false ∧ d.shown.length + 2 ≤ 1100 * nodes d
  | .none, _ => ⟨by simp [PyData.showable], by simp [PyData.hasDict], by
      have e : (PyData.shown .none).length = 4 := rfl
      simp only [nodes]
      omega⟩
  | .bool b, _ => ⟨by simp [PyData.showable], by simp [PyData.hasDict], by
      have e : (PyData.shown (.bool b)).length ≤ 5 := by cases b <;> decide
      simp only [nodes]
      omega⟩
  | .int i, h => by
    have h' : i.natAbs.log2 < 300 := by simpa [tiny] using h
    refine ⟨?_, by simp [PyData.hasDict], ?_⟩
    · simp only [PyData.showable, decide_eq_true_eq]
      omega
    · have := int_shown h'
      simp only [nodes]
      omega
  | .str x, h => by
    have h' : x.length ≤ 100 ∧ ∀ c ∈ x.cps.toList, c < 16 ^ 8 := by
      simp only [tiny, Bool.and_eq_true, decide_eq_true_eq, List.all_eq_true] at h
      exact h
    refine ⟨by simp [PyData.showable], by simp [PyData.hasDict], ?_⟩
    have e := StrLaws.reprText_len x h'.2
    simp only [PyData.shown, nodes]
    omega
  | .list xs, h => by
    have h1 := tiny_all xs (by simpa [tiny] using h)
    refine ⟨by simpa [PyData.showable] using h1.1, by simpa [PyData.hasDict] using h1.2.1, ?_⟩
    have h2 := listText_len_le (PyData.shownAll xs)
    simp only [PyData.shown, nodes]
    omega
  | .tuple xs, h => by
    have h1 := tiny_all xs (by simpa [tiny] using h)
    refine ⟨by simpa [PyData.showable] using h1.1, by simpa [PyData.hasDict] using h1.2.1, ?_⟩
    have h2 := tupleText_len_le (PyData.shownAll xs)
    simp only [PyData.shown, nodes]
    omega
  | .dict _, h => by simp [tiny] at h
theorem tiny_all : ∀ xs : List PyData, tinyAll xs = true → PyData.showableAll xs = true ∧ PyData.hasDictAll xs = false ∧
    ((PyData.shownAll xs).map (·.length)).sum + 2 * (PyData.shownAll xs).length ≤ 1100 * nodesAll xs
  | [], _ => ⟨by simp [PyData.showableAll], by simp [PyData.hasDictAll], by simp [PyData.shownAll]⟩
  | x :: xs, h => by
    have h' : tiny x = true ∧ tinyAll xs = true := by simpa [tinyAll] using h
    obtain ⟨a1, a2, a3⟩ := tiny_facts x h'.1
    obtain ⟨b1, b2, b3⟩ := tiny_all xs h'.2
    refine ⟨by simp [PyData.showableAll, a1, b1], by simp [PyData.hasDictAll, a2, b2], ?_⟩
    simp only [PyData.shownAll, nodesAll, List.map_cons, List.sum_cons, List.length_cons]
    omega
end
theorem show_of {d : PyData} (h : tiny d = true) (hd : d.depth ≤ 40) (hn : nodes d ≤ 15000) : Show d := by
  obtain ⟨a, b, c⟩ := tiny_facts d h
  refine ⟨a, b, hd, Nat.le_trans (Nat.le_trans (Nat.le_add_right _ 2) c) (Nat.le_trans (Nat.mul_le_mul_left 1100 hn) (by decide))⟩
end BV

namespace BV
open PySem L2
/-! ### sums of a row -/
theorem sum_add (f g : Nat → Int) : ∀ l : List Nat, (l.map fun q => f q + g q).sum = (l.map f).sum + (l.map g).sum
  | [] => rfl
  | a :: l => by
    simp only [List.map_cons, List.sum_cons, sum_add f g l]
    omega
theorem sum_at (n x : Nat) (c : Int) : ((List.range n).map fun q => if q = x then c else (0 : Int)).sum = if x < n then c else 0 := by
  induction n with
  | zero => rfl
  | succ n ih =>
    rw [List.range_succ, List.map_append, List.sum_append, ih]
    simp only [List.map_cons, List.map_nil, List.sum_cons, List.sum_nil]
    by_cases h : n = x
    · subst h
      simp
    · by_cases h2 : x < n
      · have : x < n + 1 := by omega
        simp [h, h2, this]
      · have : ¬ x < n + 1 := by omega
        simp [h, h2, this]
theorem sum_none (n : Nat) : ((List.range n).map fun (_ : Nat) => (0 : Int)).sum = 0 := by
  induction n with
  | zero => rfl
  | succ n ih =>
    rw [List.range_succ, List.map_append, List.sum_append, ih]
    rfl
def delta (t : Tie) (p q : Nat) : Int :=
  (if p = t.1 then ((if q = t.1 then 1 else 0) + (if q = t.2 then -1 else 0)) else 0) + (if p = t.2 then ((if q = t.2 then 1 else 0) + (if q = t.1 then -1 else 0)) else 0)
theorem entry_cons (t : Tie) (ts : List Tie) (h : t.1 < t.2) (p q : Nat) : entry (t :: ts) p q = entry ts p q + delta t p q := by
  obtain ⟨a, b⟩ := t
  have h : a < b := h
  unfold entry delta
  rw [List.countP_cons, List.countP_cons]
  unfold meets joins
  by_cases e : p = q
  · subst e
    by_cases ea : p = a
    · subst ea
      have : ¬ p = b := by omega
      have : ¬ b = p := by omega
      simp_all
    · by_cases eb : p = b
      · subst eb
        have : ¬ a = p := by omega
        simp_all
      · have : ¬ a = p := fun z => ea z.symm
        have : ¬ b = p := fun z => eb z.symm
        simp_all
  · by_cases e1 : p = a ∧ q = b
    · obtain ⟨rfl, rfl⟩ := e1
      have h1 : ¬ q = p := fun z => e z.symm
      simp_all
      omega
    · by_cases e2 : p = b ∧ q = a
      · obtain ⟨rfl, rfl⟩ := e2
        have h1 : ¬ q = p := fun z => e z.symm
        simp_all
        omega
      · have h5 : ((a == p && b == q) || (a == q && b == p)) = false := by
          rw [Bool.or_eq_false_iff, Bool.and_eq_false_iff, Bool.and_eq_false_iff]
          simp only [beq_eq_false_iff_ne]
          omega
        simp only [e, if_false, h5, Bool.false_eq_true, Nat.add_zero]
        by_cases ea : p = a
        · subst ea
          have q1 : ¬ q = p := fun z => e z.symm
          have q2 : ¬ q = b := fun z => e1 ⟨rfl, z⟩
          have q3 : ¬ p = b := by omega
          simp [q1, q2, q3]
        · by_cases eb : p = b
          · subst eb
            have q1 : ¬ q = p := fun z => e z.symm
            have q2 : ¬ q = a := fun z => e2 ⟨rfl, z⟩
            simp [q1, q2, ea]
          · simp [ea, eb]
theorem delta_sum (t : Tie) (n p : Nat) (h : t.1 < t.2) (h2 : t.2 < n) : ((List.range n).map fun q => delta t p q).sum = 0 := by
  unfold delta
  rw [sum_add]
  have h1 : t.1 < n := by omega
  by_cases ea : p = t.1
  · have eb : ¬ p = t.2 := by omega
    simp only [if_pos ea, if_neg eb]
    rw [sum_add, sum_at, sum_at, sum_none, if_pos h1, if_pos h2]
    rfl
  · by_cases eb : p = t.2
    · simp only [if_neg ea, if_pos eb]
      rw [sum_add, sum_at, sum_at, sum_none, if_pos h1, if_pos h2]
      rfl
    · simp only [if_neg ea, if_neg eb]
      rw [sum_none]
      rfl
theorem entry_sum (n p : Nat) : ∀ ts : List Tie, (∀ t ∈ ts, t.1 < t.2 ∧ t.2 < n) → ((List.range n).map fun q => entry ts p q).sum = 0
  | [], _ => by
    have : (fun q => entry [] p q) = fun _ => (0 : Int) := by
      funext q
      unfold entry
      by_cases e : p = q <;> simp [e]
    rw [this]
    exact sum_none n
  | t :: ts, h => by
    have ht := h t (List.mem_cons_self ..)
    have : (fun q => entry (t :: ts) p q) = fun q => entry ts p q + delta t p q := by
      funext q
      exact entry_cons t ts ht.1 p q
    rw [this, sum_add, entry_sum n p ts fun u hu => h u (List.mem_cons_of_mem _ hu), delta_sum t n p ht.1 ht.2]
    rfl
theorem entry_symm (ts : List Tie) (p q : Nat) : entry ts p q = entry ts q p := by
  unfold entry
  by_cases e : p = q
  · subst e
    rfl
  · have e' : ¬ q = p := fun z => e z.symm
    rw [if_neg e, if_neg e']
    congr 2
    have : joins p q = joins q p := by
      funext t
      unfold joins
      rw [Bool.or_comm]
    rw [this]
theorem entry_perm {ts us : List Tie} (h : ts.Perm us) (p q : Nat) : entry ts p q = entry us p q := by
  unfold entry
  rw [h.countP_eq, h.countP_eq]
theorem deg_len : ∀ (ts : List Tie) (p : Nat), (tiesAt ts p).length = ts.countP (meets p) := by
  intro ts p
  have key : ∀ i, i ≤ ts.length → ((List.range i).filter (hit ts p)).length = (ts.take i).countP (meets p) := by
    intro i
    induction i with
    | zero => intro _; rfl
    | succ i ih =>
      intro hi
      have hg : ts[i]? = some ts[i] := by simp [show i < ts.length by omega]
      rw [range_filter_succ, List.length_append, ih (by omega), List.take_add_one, hg, List.countP_append, hit_at hg]
      show _ = _ + List.countP (meets p) [ts[i]]
      rw [List.countP_singleton]
      show _ + (if meets p ts[i] = true then [i] else []).length = _
      by_cases h : meets p ts[i] = true
      · rw [if_pos h, if_pos h]; rfl
      · rw [if_neg h, if_neg h]; rfl
  have := key ts.length (Nat.le_refl _)
  rw [List.take_of_length_le (Nat.le_refl _)] at this
  exact this
theorem joins_pair {p q : Nat} {t : Tie} (h : t.1 < t.2) (e : p ≠ q) : joins p q t = decide (t = (min p q, max p q)) := by
  obtain ⟨a, b⟩ := t
  have h : a < b := h
  unfold joins
  rcases Nat.lt_or_ge p q with z | z
  · have e1 : min p q = p := by omega
    have e2 : max p q = q := by omega
    rw [e1, e2]
    by_cases c : a = p ∧ b = q
    · obtain ⟨rfl, rfl⟩ := c
      simp
    · have c' : ¬ ((a, b) = (p, q)) := fun z => c (Prod.mk.inj z)
      rw [decide_eq_false c', Bool.or_eq_false_iff, Bool.and_eq_false_iff, Bool.and_eq_false_iff]
      simp only [beq_eq_false_iff_ne]
      omega
  · have e1 : min p q = q := by omega
    have e2 : max p q = p := by omega
    rw [e1, e2]
    by_cases c : a = q ∧ b = p
    · obtain ⟨rfl, rfl⟩ := c
      simp
    · have c' : ¬ ((a, b) = (q, p)) := fun z => c (Prod.mk.inj z)
      rw [decide_eq_false c', Bool.or_eq_false_iff, Bool.and_eq_false_iff, Bool.and_eq_false_iff]
      simp only [beq_eq_false_iff_ne]
      omega
/-! ### each tie is at two places -/
def seen (ts : List Tie) (i k : Nat) : Int := match ts[k]? with
  | some t => (if t.1 < i then 1 else 0) + (if t.2 < i then 1 else 0)
  | none => 0
theorem seen_zero (ts : List Tie) (k : Nat) : seen ts 0 k = 0 := by
  unfold seen
  split <;> simp
theorem seen_succ {ts : List Tie} {i k : Nat} (h : ∀ t ∈ ts, t.1 < t.2) : seen ts (i + 1) k = seen ts i k + if hit ts i k = true then 1 else 0 := by
  unfold seen hit
  cases e : ts[k]? with
  | none => simp
  | some t =>
    have ht := h t (List.mem_of_getElem? e)
    obtain ⟨a, b⟩ := t
    have ht : a < b := ht
    simp only [Bool.or_eq_true, beq_iff_eq]
    by_cases h1 : a = i
    · subst h1
      have c1 : ¬ b < a := by omega
      have c2 : ¬ b < a + 1 := by omega
      simp [c1, c2]
    · by_cases h2 : b = i
      · subst h2
        have c1 : a < b := ht
        have c2 : a < b + 1 := by omega
        simp [c1, c2]
      · simp only [h1, h2, or_self, if_false]
        have c1 : (a < i + 1) = (a < i) := by apply propext; omega
        have c2 : (b < i + 1) = (b < i) := by apply propext; omega
        simp only [c1, c2]
        omega
theorem seen_all {ts : List Tie} {n k : Nat} (h : ∀ t ∈ ts, t.1 < t.2 ∧ t.2 < n) (hk : k < ts.length) : seen ts n k = 2 := by
  unfold seen
  have e : ts[k]? = some ts[k] := by simp [hk]
  rw [e]
  have ht := h ts[k] (List.getElem_mem hk)
  have h1 : ts[k].1 < n := by omega
  simp [h1, ht.2]
theorem mem_tiesAt {ts : List Tie} {p k : Nat} : k ∈ tiesAt ts p ↔ k < ts.length ∧ hit ts p k = true := by
  unfold tiesAt
  rw [List.mem_filter, List.mem_range]
theorem tiesAt_nodup (ts : List Tie) (p : Nat) : (tiesAt ts p).Nodup := (List.nodup_range (n := ts.length)).sublist List.filter_sublist
end BV

namespace BV
open PySem L2
theorem tAsg_by {te : TE} {g : TG} {D : Ends} {σ : L2.St} {H : Hp} (P : V → Hp → Prop) (cont : ∀ v H', P v H' → g v σ H' D.nx)
    (h : (∀ v H', P v H' → g v σ H' D.nx) → te σ H (fun x H1 => g x σ H1 D.nx)) : tAsg te g D σ H := h cont
theorem get_map {α β : Type} {f : α → β} {l : List α} {i : Nat} {y : β} (h : (l.map f)[i]? = some y) : ∃ x, l[i]? = some x ∧ y = f x := by
  rw [List.getElem?_map] at h
  cases e : l[i]? with
  | none =>
    rw [e] at h
    cases h
  | some x =>
    rw [e] at h
    exact ⟨x, rfl, (Option.some.inj h).symm⟩
theorem still_ints : ∀ ns : List Int, stillAll (ns.map PyData.int) = true
  | [] => by simp [stillAll]
  | n :: ns => by simp [stillAll, still, still_ints ns]
theorem ints_row (f : Nat → Int) (n : Nat) : ((List.range n).map fun q => PyData.int (f q)) = ((List.range n).map f).map PyData.int := by rw [List.map_map]; rfl
theorem ints_rowV (f : Nat → Int) (n : Nat) : ((List.range n).map fun q => V.int (f q)) = ((List.range n).map f).map V.int := by rw [List.map_map]; rfl
theorem still_row (ts : List Tie) (n p : Nat) : still (rowD ts n p) = true := by
  have h := still_ints ((List.range n).map fun q => entry ts p q)
  rw [← ints_row] at h
  simpa [rowD, still] using h
theorem still_rows (ts : List Tie) (n : Nat) : ∀ l : List Nat, stillAll (l.map (rowD ts n)) = true
  | [] => by simp [stillAll]
  | p :: l => by simp [stillAll, still_row, still_rows ts n l]

/-! ### what may be written as a text -/
theorem tiny_ints : ∀ ns : List Int, (∀ n ∈ ns, n.natAbs < 2 ^ 200) → tinyAll (ns.map PyData.int) = true ∧ nodesAll (ns.map PyData.int) = ns.length ∧ PyData.depthAll (ns.map PyData.int) = 0
  | [], _ => by simp [tinyAll, nodesAll, PyData.depthAll]
  | n :: ns, h => by
    obtain ⟨a, b, c⟩ := tiny_ints ns fun m hm => h m (List.mem_cons_of_mem _ hm)
    have hn := h n (List.mem_cons_self ..)
    have hl : n.natAbs.log2 < 300 := Nat.lt_of_lt_of_le (PySem.Flt.log2_lt_of (by decide) hn) (by decide)
    refine ⟨by simp [tinyAll, tiny, hl, a], ?_, by simp [PyData.depthAll, PyData.depth, c]⟩
    simp only [List.map_cons, nodesAll, nodes, b, List.length_cons]
    omega
theorem tiny_row (f : Nat → Int) (n : Nat) (h : ∀ q, (f q).natAbs < 2 ^ 200) : tiny (.tuple ((List.range n).map fun q => .int (f q))) = true ∧
    nodes (.tuple ((List.range n).map fun q => .int (f q))) = n + 1 ∧ (PyData.tuple ((List.range n).map fun q => .int (f q))).depth = 1 := by
  rw [ints_row]
  obtain ⟨a, b, c⟩ := tiny_ints ((List.range n).map f) fun m hm => by
    obtain ⟨q, _, rfl⟩ := List.mem_map.mp hm
    exact h q
  refine ⟨by simp only [tiny, a], ?_, by simp only [PyData.depth, c]⟩
  simp only [nodes, b, List.length_map, List.length_range]
theorem show_lot (ks : List Nat) (h : ∀ k ∈ ks, k < 100000) (hl : ks.length ≤ 1000) : Show (lotD ks) := by
  have e : lotD ks = .tuple ((ks.map fun (k : Nat) => (k : Int)).map PyData.int) := by unfold lotD; rw [List.map_map]; rfl
  obtain ⟨a, b, c⟩ := tiny_ints (ks.map fun (k : Nat) => (k : Int)) fun m hm => by
    obtain ⟨q, hq, rfl⟩ := List.mem_map.mp hm
    have := h q hq
    have e2 : ((q : Int)).natAbs = q := by omega
    rw [e2]
    exact Nat.lt_of_lt_of_le this (by decide)
  rw [e]
  refine show_of (by simp only [tiny, a]) (by simp only [PyData.depth, c]; decide) ?_
  simp only [nodes, b, List.length_map]
  omega
theorem entry_small (ts : List Tie) (hl : ts.length ≤ 100000) (p q : Nat) : (entry ts p q).natAbs < 2 ^ 200 := by
  have h1 := List.countP_le_length (p := meets p) (l := ts)
  have h2 := List.countP_le_length (p := joins p q) (l := ts)
  have : (entry ts p q).natAbs ≤ 100000 := by
    unfold entry
    split <;> omega
  exact Nat.lt_of_le_of_lt this (by decide)
theorem tiny_rows (ts : List Tie) (n : Nat) (hl : ts.length ≤ 100000) : ∀ l : List Nat, tinyAll (l.map (rowD ts n)) = true ∧ nodesAll (l.map (rowD ts n)) = l.length * (n + 1) ∧ PyData.depthAll (l.map (rowD ts n)) ≤ 1
  | [] => by simp [tinyAll, nodesAll, PyData.depthAll]
  | p :: l => by
    obtain ⟨a, b, c⟩ := tiny_rows ts n hl l
    obtain ⟨a1, b1, c1⟩ := tiny_row (entry ts p) n fun q => entry_small ts hl p q
    refine ⟨?_, ?_, ?_⟩
    · simp only [List.map_cons, tinyAll, a, Bool.and_true]
      exact a1
    · simp only [List.map_cons, nodesAll, b, List.length_cons]
      have : nodes (rowD ts n p) = n + 1 := b1
      rw [this, Nat.succ_mul]
      omega
    · simp only [List.map_cons, PyData.depthAll]
      have : (rowD ts n p).depth = 1 := c1
      omega
theorem show_mat (n : Nat) (ts : List Tie) (hl : ts.length ≤ 100000) (hn : n ≤ 100) : Show (matD n ts) := by
  obtain ⟨a, b, c⟩ := tiny_rows ts n hl (List.range n)
  refine show_of (by simp [matD, tiny, a]) (by simp only [matD, PyData.depth]; omega) ?_
  simp only [matD, nodes, b, List.length_range]
  have := Nat.mul_le_mul hn (Nat.add_le_add_right hn 1)
  omega
theorem tiny_ties : ∀ ts : List Tie, (∀ t ∈ ts, t.1 < 100000 ∧ t.2 < 100000) → tinyAll (ts.map tieD) = true ∧ nodesAll (ts.map tieD) = 3 * ts.length ∧ PyData.depthAll (ts.map tieD) ≤ 1
  | [], _ => by simp [tinyAll, nodesAll, PyData.depthAll]
  | t :: ts, h => by
    obtain ⟨a, b, c⟩ := tiny_ties ts fun m hm => h m (List.mem_cons_of_mem _ hm)
    have ht := h t (List.mem_cons_self ..)
    obtain ⟨a1, b1, c1⟩ := tiny_ints [(t.1 : Int), (t.2 : Int)] fun m hm => by
      have e1 : (2 : Nat) ^ 200 > 100000 := by decide
      rcases List.mem_cons.mp hm with rfl | hm
      · omega
      · obtain rfl := List.mem_singleton.mp hm
        omega
    have e : tieD t = .tuple ([(t.1 : Int), (t.2 : Int)].map PyData.int) := rfl
    refine ⟨?_, ?_, ?_⟩
    · simp only [List.map_cons, tinyAll, a, Bool.and_true]
      rw [e]
      simp only [tiny]
      exact a1
    · have e2 : nodes (tieD t) = 3 := by
        rw [e]
        simp only [nodes, b1]
        rfl
      simp only [List.map_cons, nodesAll, b, e2, List.length_cons]
      omega
    · have e3 : (tieD t).depth = 1 := by
        rw [e]
        simp only [PyData.depth, c1]
      simp only [List.map_cons, PyData.depthAll, e3]
      omega
theorem show_web (n : Nat) (ts : List Tie) (h : ∀ t ∈ ts, t.1 < 100000 ∧ t.2 < 100000) (hn : n < 100000) (hl : ts.length ≤ 4000) : Show (webD n ts) := by
  obtain ⟨a, b, c⟩ := tiny_ties ts h
  have e : ((n : Int)).natAbs.log2 < 300 := by
    have : ((n : Int)).natAbs < 2 ^ 200 := Nat.lt_of_lt_of_le (show ((n : Int)).natAbs < 100000 by omega) (by decide)
    exact Nat.lt_of_lt_of_le (PySem.Flt.log2_lt_of (by decide) this) (by decide)
  refine show_of ?_ ?_ ?_
  · simp only [webD, tiesD, tiny, tinyAll, a, decide_eq_true e, Bool.and_self]
  · simp only [webD, tiesD, PyData.depth, PyData.depthAll]
    omega
  · simp only [webD, tiesD, nodes, nodesAll, b]
    omega

/-! ### the numbers of the ties at a place, by a comprehension -/
theorem lc_hits {K : PySem.W.Frag} {te : TE} {σ : L2.St} {H : Hp} {c : Addr} {ys : List V} {ts : List Tie} {p ik ie ip : Nat} {Q : VK}
    (hc : SqT K H c ys) (hys : DpAll K H ys (ts.map tieD)) (hl : ts.length ≤ 3000) (hte : ∀ Q : VK, Q (.ref c) H → te σ H Q)
    (hw : ∀ v u, wipe (((wipe σ [ik, ie]).set ik v).set ie u) [ik, ie] = wipe σ [ik, ie])
    (hk : ∀ v u, (((wipe σ [ik, ie]).set ik v).set ie u)[ik]? = some v) (he : ∀ v u, (((wipe σ [ik, ie]).set ik v).set ie u)[ie]? = some u)
    (hp : ∀ v u, (((wipe σ [ik, ie]).set ik v).set ie u)[ip]? = some (some (.int (p : Int))))
    (h : ∀ D H', H' D = some (.lst ((tiesAt ts p).map fun (k : Nat) => V.int k)) → Same H H' → H D = none → Q (.ref D) H') :
    tLc (iEnumT K (tCons te tNil)) (gTup K 2 (gCons (gName ik) (gCons (gName ie) gNil))) (tTest (tOp (rIn K false) (tVar ip) (tVar ie))) (tVar ik) [ik, ie] σ H Q := by
  have hyl : ys.length = ts.length := by rw [dpAll_len hys, List.length_map]
  refine hte _ ?_
  refine ⟨c, ys, rfl, hc, fun D hD => ?_⟩
  refine lc_run walk_enumT hD (fun i acc _ => acc = ((List.range i).filter (hit ts p)).map fun (k : Nat) => V.int k) ?_ ?_ ?_ ?_
  · exact fun H' s => sqT_same s hc
  · rfl
  · rintro i x acc H2 H' hi hacc e s r ⟨q, u, y, rfl, hq, rfl, hu, hy⟩
    cases hu
    obtain ⟨d, hd, hv⟩ := dpAll_get hys hy
    obtain ⟨t', ht', rfl⟩ := get_map hd
    have sq : Same H2 (upd H2 q (.tup [.int (i : Nat), y])) := same_new hq
    obtain ⟨pa, rfl, hpa⟩ := dp_tie (dp_same (s.trans sq) _ hv)
    refine ⟨q, _, rfl, SqT.of upd_same, rfl, _, _, rfl, _, _, rfl, rfl, hw _ _, ?_⟩
    refine ⟨_, hp _ _, _, he _ _, pa, _, rfl, .inr hpa, rfl, rfl, _, rfl, ?_⟩
    show (if inV (.int (p : Int)) [.int t'.1, .int t'.2] = true then _ else _)
    have hacc2 : ((List.range i).filter (hit ts p)).length ≤ i := Nat.le_trans (List.length_filter_le _ _) (by rw [List.length_range]; exact Nat.le_refl _)
    have hin : inV (.int (p : Int)) [.int t'.1, .int t'.2] = hit ts p i := by rw [inv_tie, hit_at ht']
    have r' : acc = ((List.range i).filter (hit ts p)).map fun (k : Nat) => V.int k := r
    rw [hin]
    refine ite2 (fun hh => ?_) (fun hh => ?_)
    · refine ⟨_, hk _ _, ?_⟩
      refine lc_add hacc e sq (by rw [r', List.length_map]; omega) ?_
      rw [range_filter_succ, if_pos hh, List.map_append, r']
      rfl
    · refine lc_skip hacc e sq ?_
      rw [range_filter_succ, if_neg hh, List.append_nil]
      exact r'
  · rintro acc H2 h1 s2 r
    have r' : acc = ((List.range ys.length).filter (hit ts p)).map fun (k : Nat) => V.int k := r
    rw [hyl] at r'
    refine h D H2 ?_ s2 hD
    rw [h1, r']
    rfl
theorem dp_lot {K : PySem.W.Frag} {H : Hp} {u : Addr} {ks : List Nat} (h : H u = some (.tup (ks.map fun (k : Nat) => V.int k))) : Dp K H (.ref u) (lotD ks) := by
  refine .tup (SqT.of h) ?_
  have e2 : (ks.map fun (k : Nat) => PyData.int k) = (ks.map fun (k : Nat) => (k : Int)).map PyData.int := by rw [List.map_map]; rfl
  have e3 : (ks.map fun (k : Nat) => V.int k) = (ks.map fun (k : Nat) => (k : Int)).map V.int := by rw [List.map_map]; rfl
  rw [e2, e3]
  exact dpAll_ints _
/-- the equal ones counted by a comprehension of ones -/
theorem lc_pairs {K : PySem.W.Frag} {tp : TE} {σ : L2.St} {H : Hp} {c : Addr} {ys : List V} {ts : List Tie} {x y ic ie : Nat} {Q : VK}
    (hc : SqT K H c ys) (hys : DpAll K H ys (ts.map tieD)) (hl : ts.length ≤ 3000) (hcs : σ[ic]? = some (some (.ref c)))
    (hw : ∀ u, wipe ((wipe σ [ie]).set ie u) [ie] = wipe σ [ie]) (he : ∀ u, ((wipe σ [ie]).set ie u)[ie]? = some u)
    (htp : ∀ u H' (Q : VK), (∀ p, H' p = none → Q (.ref p) (upd H' p (.tup [.int (x : Int), .int (y : Int)]))) → tp ((wipe σ [ie]).set ie u) H' Q)
    (h : ∀ D H', H' D = some (.lst (List.replicate (ts.countP fun t => decide (t = (x, y))) (V.int 1))) → Same H H' → H D = none → Q (.ref D) H') :
    tLc (iTup K (tVar ic)) (gName ie) (tTest (tOp (rEqD K) (tVar ie) tp)) (tC (.int 1)) [ie] σ H Q := by
  have hyl : ys.length = ts.length := by rw [dpAll_len hys, List.length_map]
  refine ⟨_, hcs, c, rfl, ⟨ys, hc⟩, fun D hD => ?_⟩
  refine lc_run (walk_tup (xs := ys)) hD (fun i acc _ => acc = List.replicate ((ts.take i).countP fun t => decide (t = (x, y))) (V.int 1)) ?_ ?_ ?_ ?_
  · exact fun H' s => sqT_same s hc
  · rfl
  · rintro i v acc H2 H' hi hacc e s r ⟨rfl, hv⟩
    obtain ⟨d, hd, hdp⟩ := dpAll_get hys hv
    obtain ⟨t, ht, rfl⟩ := get_map hd
    refine ⟨hw _, ?_⟩
    refine ⟨_, he _, htp _ _ _ fun q hq => ?_⟩
    have sq : Same H' (upd H' q (.tup [.int (x : Int), .int (y : Int)])) := same_new hq
    have s1 : SeqAt.shaped (tieD t) = true := by simp [SeqAt.shaped, tieD, PyData.canLay0, PyData.canLayAll0, PyData.depth, PyData.depthAll]
    have s2 : SeqAt.shaped (tieD (x, y)) = true := by simp [SeqAt.shaped, tieD, PyData.canLay0, PyData.canLayAll0, PyData.depth, PyData.depthAll]
    refine ⟨tieD t, tieD (x, y), dp_same (s.trans sq) _ hdp, .tup (SqT.of upd_same) (.cons (.int _) (.cons (.int _) .nil)), s1, s2, _, rfl, ?_⟩
    have r' : acc = List.replicate ((ts.take i).countP fun t => decide (t = (x, y))) (V.int 1) := r
    have hcl : (ts.take i).countP (fun t => decide (t = (x, y))) ≤ 3000 := Nat.le_trans List.countP_le_length (by rw [List.length_take]; omega)
    have hstep : (ts.take (i + 1)).countP (fun t => decide (t = (x, y))) = (ts.take i).countP (fun t => decide (t = (x, y))) + if t = (x, y) then 1 else 0 := by
      rw [List.take_add_one, ht, List.countP_append]
      show _ + List.countP _ [t] = _
      rw [List.countP_singleton]
      simp
    have heq : PyData.eqv (tieD t) (tieD (x, y)) = decide (t = (x, y)) := by
      obtain ⟨a, b⟩ := t
      have e1 : ∀ m n : Nat, (((m : Int)) == ((n : Int))) = decide (m = n) := fun m n => by
        by_cases z : m = n
        · subst z; simp
        · rw [decide_eq_false z]
          exact beq_eq_false_iff_ne.mpr fun w => z (by omega)
      have e2 : decide ((a, b) = (x, y)) = (decide (a = x) && decide (b = y)) := by
        rw [← Bool.decide_and]
        congr 1
        exact propext ⟨fun z => Prod.mk.inj z, fun z => by rw [z.1, z.2]⟩
      rw [e2]
      show (((a : Int) == (x : Int)) && (((b : Int) == (y : Int)) && true)) = _
      rw [e1, e1, Bool.and_true]
    rw [heq]
    refine ite2 (fun hh => ?_) (fun hh => ?_)
    · have hh' := of_decide_eq_true hh
      refine lc_add hacc e sq (by rw [r', List.length_replicate]; omega) ?_
      rw [hstep, if_pos hh', r', List.replicate_succ']
    · have hh' : ¬ t = (x, y) := fun z => hh (decide_eq_true z)
      refine lc_skip hacc e sq ?_
      rw [hstep, if_neg hh', Nat.add_zero]
      exact r'
  · rintro acc H2 h1 s2 r
    have r' : acc = List.replicate ((ts.take ys.length).countP fun t => decide (t = (x, y))) (V.int 1) := r
    rw [hyl, List.take_of_length_le (Nat.le_refl _)] at r'
    exact h D H2 (by rw [h1, r']) s2 hD
end BV

namespace BV
open PySem L2
theorem tupLc_by {K : PySem.W.Frag} {wi : TI} {g : TG} {tt : TT} {te : TE} {vs : List Nat} {σ : L2.St} {H : Hp} {i : Nat} {D : Ends}
    (h : tLc wi g tt te vs σ H (fun x H1 => rTupK K [x] H1 (fun v H2 => D.nx (σ.set i (some v)) H2))) :
    tAsg (tCB (rTupK K) (tCons (tLc wi g tt te vs) tNil)) (gName i) D σ H := h
theorem lenLc_by {K : PySem.W.Frag} {wi : TI} {g : TG} {tt : TT} {te : TE} {vs : List Nat} {σ : L2.St} {H : Hp} {i : Nat} {D : Ends}
    (h : tLc wi g tt te vs σ H (fun x H1 => rLenK K [x] H1 (fun v H2 => D.nx (σ.set i (some v)) H2))) :
    tAsg (tCB (rLenK K) (tCons (tLc wi g tt te vs) tNil)) (gName i) D σ H := h
end BV

namespace BV
open PySem L2
theorem reps (n : Nat) (v : V) : (List.replicate n [v]).flatten = (List.range n).map fun _ => v := by
  induction n with
  | zero => rfl
  | succ n ih =>
    rw [List.replicate_succ', List.flatten_append, ih, List.range_succ, List.map_append]
    rfl
theorem shaped_row (f : Nat → Int) (n : Nat) : SeqAt.shaped (.tuple ((List.range n).map fun q => .int (f q))) = true := by
  rw [ints_row]
  have h1 := lay_ints ((List.range n).map f)
  have h2 := deep_ints ((List.range n).map f)
  have h3 : PyData.depthAll (((List.range n).map f).map PyData.int) + 1 ≤ 64 := by omega
  simp only [SeqAt.shaped, PyData.canLay0, PyData.depth, h1, Bool.true_and]
  exact decide_eq_true h3
theorem dp_row {K : PySem.W.Frag} {H : Hp} {v : V} {f : Nat → Int} {n : Nat} (h : Dp K H v (.tuple ((List.range n).map fun q => .int (f q)))) :
    ∃ a, v = .ref a ∧ SqT K H a ((List.range n).map fun q => V.int (f q)) := by
  obtain ⟨a, xs, e, h1, h2⟩ := dp_tup h
  rw [ints_row] at h2
  rw [ints_rowV, ← dpAll_ints' h2]
  exact ⟨a, e, h1⟩
theorem eqv_self {d : PyData} (h : SeqAt.shaped d = true) : PyData.eqv d d = true := by
  have h1 : d.canLay0 = true := SeqAt.canLay_of_shaped h
  first | exact PySem.eqv_refl d h1 | exact PySem.P3.eqv_refl d h1 | exact PySem.SeqAt.eqv_refl d h1 | exact PyData.eqv_refl d h1
/-- nothing in it: two empty lists -/
theorem none_found {K : PySem.W.Frag} {H : Hp} {a b : Addr} (ha : H a = some (.lst [])) (hb : H b = some (.lst [])) :
    ∃ d e, Dp K H (.ref a) d ∧ Dp K H (.ref b) e ∧ SeqAt.shaped d = true ∧ SeqAt.shaped e = true ∧ PyData.eqv d e = true :=
  ⟨.list [], .list [], .lst (SqL.of ha) .nil, .lst (SqL.of hb) .nil, shaped_intsL [], shaped_intsL [], by rfl⟩
end BV

namespace BV
open PySem PySem.Spec PyProof.Rows L2

/-! ### t * k for k from 1 on: once is the tuple itself -/
theorem mul_once (l : Addr) (items : Array Value) (n : Nat) (dd : Option Addr) (sl : Array (Option Value)) (u : Tok) :
    Meets (Builtin.«tuple.__mul__» ⟨[.ref l, .int 1 u], []⟩) (fun _ R s => s.heap.get? l = some { cls := .type "tuple", dict := dd, data := .seq items n, slots := sl } ∧
      R (.ok (.ret (Value.ref l))) s) := by
  refine .of_wp fun prog w A R s h => ?_
  obtain ⟨hp, g, d, tk, os⟩ := s
  obtain ⟨hl, h⟩ := h
  have f1 := AutoSeq1.idx_int
  have c0 : (decide ((1 : Int) < -(2 ^ 63)) || decide ((1 : Int) ≥ 2 ^ 63)) = false := by decide
  have c1 : (items.isEmpty || (1 : Int) == 1) = true := by simp
  wp_walk using AutoSeq1.wpAny_loadPart' hl
  repeat (first
    | (refine wpAny_ite_false (decide_eq_false (by rw [c0]; exact Bool.false_ne_true)) ?_; wp_walk using AutoSeq1.wpAny_loadPart' hl)
    | (refine wpAny_ite_true (decide_eq_true c1) ?_; wp_walk using AutoSeq1.wpAny_loadPart' hl))
  exact ⟨_, rfl, h⟩
def rRepT1 (K : PySem.W.Frag) : R2 := fun x y H Q => ∃ l k xs, x = .ref l ∧ y = .int k ∧ SqT K H l xs ∧ xs ≠ [] ∧ 1 ≤ k ∧ k ≤ 1000 ∧ xs.length ≤ 1000 ∧
  (k = 1 → Q (.ref l) H) ∧ (2 ≤ k → ∀ p, H p = none → Q (.ref p) (upd H p (.tup (List.replicate k.toNat xs).flatten)))
theorem op_repT1 {X : Cx} (K : PySem.W.Frag) (hK : X.K = K := by rfl) : OpR X (binaryOp .Mult) (rRepT1 K) := by
  subst hK
  intro pins s σ H x y v u Q I rx ry h
  obtain ⟨l, k, xs, rfl, rfl, hT, hne, h1, h2, hz, q1, q2⟩ := h
  by_cases hk : k = 1
  · subst hk
    cases rx
    obtain ⟨t, rfl⟩ := ry
    obtain ⟨its, r, ⟨⟨cls, dd, data, sl⟩, ho, hc, n, hd⟩, hs⟩ := I.tuple hT
    simp only at hc hd
    subst hc hd
    refine wpAny_binaryOp_repeat_ref (T := "tuple") (U := "int") (by decide) ⟨_, ho, rfl⟩ (fun s' => typeIs_int s' 1 t) noFill_tuple_mul F.fills_int_mul F.slot_int_rmul repeat_tuple F.slot_int_index.lookup ?_
    refine call_meets F.slot_int_rmul (typeIs_int s 1 t) F.entry_int_rmul (F.args_int_rmul_2 _ _) (int_rmul_tuple 1 t l its.toArray n dd sl) ⟨ho, rfl, ⟨_, ho, rfl⟩, ?_⟩
    refine call_meets F.slot_tuple_mul ⟨_, ho, rfl⟩ F.entry_tuple_mul (F.args_tuple_mul_2 _ _) (mul_once l its.toArray n dd sl t) ⟨ho, ?_⟩
    exact ⟨.ref l, H, I, rfl, q1 rfl⟩
  · exact op_repT pins s σ H (.ref l) (.int k) v u Q I rx ry ⟨l, k, xs, rfl, rfl, hT, hne, by omega, h2, hz, q2 (by omega)⟩
end BV

namespace BV
open PySem L2
theorem mat_perm {ts us : List Tie} (h : ts.Perm us) (n : Nat) : matD n ts = matD n us := by
  unfold matD rowD
  congr 2
  funext p
  congr 2
  funext q
  rw [entry_perm h]
theorem dpAll_rev {K : PySem.W.Frag} {H : Hp} : ∀ {ds : List PyData} {vs : List V}, DpAll K H vs ds → DpAll K H vs.reverse ds.reverse
  | [], _, h => by cases h; exact .nil
  | d :: ds, _, h => by
    cases h with
    | cons h1 h2 =>
      rw [List.reverse_cons, List.reverse_cons]
      exact dpAll_app (dpAll_rev h2) (.cons h1 .nil)
theorem flat_one (k : Nat) (v : V) : (List.replicate k [v]).flatten = List.replicate k v := by
  induction k with
  | zero => rfl
  | succ k ih =>
    rw [List.replicate_succ, List.flatten_cons, ih, List.replicate_succ]
    rfl
theorem dp_fat {K : PySem.W.Frag} {H : Hp} {z t1 : Addr} {k : Nat} (hz : SqT K H z (List.replicate k (.ref t1))) (ht : SqT K H t1 [.int 0, .int 1]) :
    Dp K H (.ref z) (tiesD (List.replicate k (0, 1))) := by
  refine .tup hz ?_
  clear hz
  induction k with
  | zero => exact .nil
  | succ k ih =>
    rw [List.replicate_succ, List.replicate_succ, List.map_cons]
    exact .cons (.tup ht (.cons (.int _) (.cons (.int _) .nil))) ih
end BV

namespace BV
open PySem L2 RZ

/-! ### further rules that name the written part -/
section
variable {X : Cx} (K : PySem.W.Frag)
theorem slTA (h : X.K = K := by rfl) : SlR X (rSlA K) := by
  subst h
  exact sl_tupA
def rListK (K : PySem.W.Frag) : List V → Hp → VK → Prop := fun xs H Q => ∃ p ys, xs = [.ref p] ∧ (SqL K H p ys ∨ SqT K H p ys) ∧ ∀ l, H l = none → Q (.ref l) (upd H l (.lst ys))
theorem listK (h : X.K = K := by rfl) : CallR X (.type "list") (rListK K) := by
  subst h
  exact call_list_of
theorem revL {e : Expr} {te : TE} {k : Nat} {p1 p2 p3 pos : Pos} (he : PE X e te) (h : X.K = K := by rfl) :
    PE X (.Subscript e (.Slice none none (some (.UnaryOp .USub (.Constant (.int 1) k p1) p2)) p3) pos) (tRevL K te) := by
  subst h
  exact pe_revL he
theorem zipA {e e2 : Expr} {ta : TA} {p pos tpos : Pos} {elts : List Expr} {kk : Nat} (hg : Gl X "zip") (hm : X.mg "zip" = none) (ha : PA X [e, e2] ta)
    (hs : starEach [e, e2] X.env = (false, eval e X.env) :: starEach [e2] X.env := by rfl) (hpl : (backTo pos (starEach [e2] X.env)).any (·.1) = false := by rfl) (h : X.K = K := by rfl) :
    PI X (.Tuple elts kk tpos) (.Call (.Name "zip" p) [e, e2] [] pos) (iZipA K ta) := by
  subst h
  exact pi_zipA hg hm ha hs hpl
theorem rgc {a b c : Expr} {tg : Expr} {ta : TA} {p pos : Pos} (hg : Gl X "range") (hm : X.mg "range" = none) (ha : PA X [a, b, c] ta)
    (hs : starEach [a, b, c] X.env = (false, eval a X.env) :: starEach [b, c] X.env := by rfl) (hpl : (backTo pos (starEach [b, c] X.env)).any (·.1) = false := by rfl) :
    PI X tg (.Call (.Name "range" p) [a, b, c] [] pos) (iRng3 ta) := pi_range3 hg hm ha hs hpl
end
theorem walk_zipT {K : PySem.W.Frag} {a b : Addr} {xs ys : List V} (hl : xs.length = ys.length) :
    Walk (ItzT K a b) xs.length (fun H => SqT K H a xs ∧ SqT K H b ys) (YPair (fun i => xs[i]?) (fun i => ys[i]?)) := by
  refine ⟨fun i H hi q => ?_, fun H q => ⟨xs, ys, q.1, q.2, .inl (Nat.le_refl _)⟩, fun i H v H' _ q y => ?_⟩
  · have h2 : i < ys.length := by omega
    exact ⟨xs, ys, xs[i], ys[i], q.1, q.2, by simp [hi], by simp [h2]⟩
  · obtain ⟨T, x, z, h1, h2, h3, h4, h5⟩ := y
    exact ⟨T, x, z, h1, h2, h3, h4 xs q.1, h5 ys q.2⟩
theorem tAnd_by {ta : TT} {tb : TT} {σ : L2.St} {H : Hp} {Q : Bool → Hp → Prop} (h : tAnd ta tb σ H Q) : tAnd ta tb σ H Q := h

/-! ### numbers on ties -/
def numsD (L : Nat) (f : Nat → Int) : PyData := .tuple ((List.range L).map fun k => .int (f k))
def numsV (L : Nat) (f : Nat → Int) : List V := (List.range L).map fun k => V.int (f k)
theorem dp_nums {K : PySem.W.Frag} {H : Hp} {v : V} {L : Nat} {f : Nat → Int} (h : Dp K H v (numsD L f)) : ∃ a, v = .ref a ∧ SqT K H a (numsV L f) := dp_row h
theorem nums_dp {K : PySem.W.Frag} {H : Hp} {a : Addr} {L : Nat} {f : Nat → Int} (h : SqT K H a (numsV L f)) : Dp K H (.ref a) (numsD L f) := by
  refine .tup h ?_
  unfold numsV
  rw [ints_row, ints_rowV]
  exact dpAll_ints _
theorem numsV_len (L : Nat) (f : Nat → Int) : (numsV L f).length = L := by simp [numsV]
theorem numsV_get {L : Nat} {f : Nat → Int} {k : Nat} (h : k < L) : (numsV L f)[k]? = some (.int (f k)) := by
  unfold numsV
  rw [List.getElem?_map, List.getElem?_range h]
  rfl
theorem numsV_set (L : Nat) (f : Nat → Int) (k : Nat) (z : Int) : (numsV L f).set k (.int z) = numsV L (fun j => if j = k then z else f j) := by
  unfold numsV
  rw [range_set]
  apply List.map_congr_left
  intro j _
  by_cases h : j = k <;> simp [h]
theorem numsV_congr {L : Nat} {f g : Nat → Int} (h : ∀ k, k < L → f k = g k) : numsV L f = numsV L g :=
  List.map_congr_left fun k hk => by rw [h k (List.mem_range.mp hk)]
theorem numsD_congr {L : Nat} {f g : Nat → Int} (h : ∀ k, k < L → f k = g k) : numsD L f = numsD L g := by
  unfold numsD
  congr 1
  exact List.map_congr_left fun k hk => by rw [h k (List.mem_range.mp hk)]
theorem still_nums (L : Nat) (f : Nat → Int) : still (numsD L f) = true := by
  have h := still_ints ((List.range L).map f)
  rw [← ints_row] at h
  simpa [numsD, still] using h

/-! ### deeds -/
inductive Deed where
  | star (p : Nat) (t : Int) | round (ks : List Nat) (t : Int)
namespace Deed
def times : Deed → Int
  | star _ t => t
  | round _ t => t
def about : Deed → PyData
  | star p _ => .int p
  | round ks _ => lotD ks
def word : Deed → Str
  | star _ _ => "star"
  | round _ _ => "round"
def neg : Deed → Deed
  | star p t => star p (-t)
  | round ks t => round ks (-t)
def D (d : Deed) : PyData := .tuple [.str d.word, d.about, .int d.times]
def touch (ts : List Tie) : Deed → Nat → Bool
  | star p _, k => hit ts p k
  | round ks _, k => decide (k ∈ ks)
def part (ts : List Tie) (d : Deed) (k : Nat) : Int := if d.touch ts k = true then d.times else 0
def Ok (ts : List Tie) : Deed → Prop
  | star _ _ => True
  | round ks _ => (∀ k ∈ ks, k < ts.length) ∧ ks.Nodup
end Deed
/-- the numbers behind some deeds -/
def behind (ts : List Tie) (f : Nat → Int) : List Deed → Nat → Int
  | [] => f
  | d :: ds => behind ts (fun k => f k + d.part ts k) ds
def effect (ts : List Tie) (ds : List Deed) (k : Nat) : Int := (ds.map fun d => d.part ts k).sum
theorem behind_eq (ts : List Tie) : ∀ (ds : List Deed) (f : Nat → Int) (k : Nat), behind ts f ds k = f k + effect ts ds k
  | [], f, k => by simp [behind, effect]
  | d :: ds, f, k => by
    rw [behind, behind_eq ts ds]
    simp only [effect, List.map_cons, List.sum_cons]
    omega
theorem effect_perm {ts : List Tie} {ds es : List Deed} (h : ds.Perm es) (k : Nat) : effect ts ds k = effect ts es k := by
  induction h with
  | nil => rfl
  | cons d _ ih =>
    unfold effect at ih ⊢
    simp only [List.map_cons, List.sum_cons, ih]
  | swap a b l =>
    unfold effect
    simp only [List.map_cons, List.sum_cons]
    omega
  | trans _ _ ih1 ih2 => rw [ih1, ih2]
theorem effect_app (ts : List Tie) (ds es : List Deed) (k : Nat) : effect ts (ds ++ es) k = effect ts ds k + effect ts es k := by
  unfold effect
  rw [List.map_append, List.sum_append]
theorem touch_neg (ts : List Tie) (d : Deed) (k : Nat) : d.neg.touch ts k = d.touch ts k := by cases d <;> rfl
theorem part_neg (ts : List Tie) (d : Deed) (k : Nat) : d.neg.part ts k = -(d.part ts k) := by
  unfold Deed.part
  rw [touch_neg]
  split
  · cases d <;> rfl
  · rfl
theorem effect_neg (ts : List Tie) : ∀ (ds : List Deed) (k : Nat), effect ts (ds.map Deed.neg) k = -(effect ts ds k)
  | [], k => rfl
  | d :: ds, k => by
    have := effect_neg ts ds k
    unfold effect at this ⊢
    simp only [List.map_cons, List.sum_cons, this, part_neg]
    omega
theorem still_deed (d : Deed) : still d.D = true := by
  cases d with
  | star p t => simp [Deed.D, Deed.about, still, stillAll]
  | round ks t =>
    have h : stillAll (ks.map fun (k : Nat) => PyData.int k) = true := by
      have e : (ks.map fun (k : Nat) => PyData.int k) = (ks.map fun (k : Nat) => (k : Int)).map PyData.int := by rw [List.map_map]; rfl
      rw [e]
      exact still_ints _
    simp [Deed.D, Deed.about, still, stillAll, lotD, h]
theorem still_deeds : ∀ ds : List Deed, stillAll (ds.map Deed.D) = true
  | [] => by simp [stillAll]
  | d :: ds => by simp [stillAll, still_deed, still_deeds ds]
theorem still_lot (ks : List Nat) : still (lotD ks) = true := by
  have e : (ks.map fun (k : Nat) => PyData.int k) = (ks.map fun (k : Nat) => (k : Int)).map PyData.int := by rw [List.map_map]; rfl
  simp only [lotD, still, e]
  exact still_ints _
theorem dp_deed {K : PySem.W.Frag} {H : Hp} {v : V} {d : Deed} (h : Dp K H v d.D) :
    ∃ a va, v = .ref a ∧ SqT K H a [.str d.word, va, .int d.times] ∧ Dp K H va d.about := by
  obtain ⟨a, xs, e, h1, h2⟩ := dp_tup h
  cases h2 with
  | cons q1 q2 =>
    cases q1
    cases q2 with
    | cons q3 q4 =>
      cases q4 with
      | cons q5 q6 =>
        cases q5
        cases q6
        exact ⟨a, _, e, h1, q3⟩
theorem dp_lotI {K : PySem.W.Frag} {H : Hp} {v : V} {ks : List Nat} (h : Dp K H v (lotD ks)) : ∃ a, v = .ref a ∧ SqT K H a (ks.map fun (k : Nat) => V.int k) := by
  obtain ⟨a, xs, e, h1, h2⟩ := dp_tup h
  have e2 : (ks.map fun (k : Nat) => PyData.int k) = (ks.map fun (k : Nat) => (k : Int)).map PyData.int := by rw [List.map_map]; rfl
  have e3 : (ks.map fun (k : Nat) => V.int k) = (ks.map fun (k : Nat) => (k : Int)).map V.int := by rw [List.map_map]; rfl
  rw [e2] at h2
  rw [e3, ← dpAll_ints' h2]
  exact ⟨a, e, h1⟩
def spDo (K : PySem.W.Frag) : Sp := fun vs H Q _ => ∃ (v dv : V) (l : Addr) (n : Nat) (ts : List Tie) (d : Deed) (f : Nat → Int), vs = [v, .ref l, dv] ∧
  Dp K H v (webD n ts) ∧ Dp K H dv d.D ∧ d.Ok ts ∧ ts.length ≤ 3000 ∧ H l = some (.lst (numsV ts.length f)) ∧
  ∀ H', Kp l l H H' → H' l = some (.lst (numsV ts.length fun k => f k + d.part ts k)) → Q .non H'
def spDone (K : PySem.W.Frag) : Sp := fun vs H Q _ => ∃ (v sv dv : V) (n : Nat) (ts : List Tie) (f : Nat → Int) (ds : List Deed), vs = [v, sv, dv] ∧
  Dp K H v (webD n ts) ∧ Dp K H sv (numsD ts.length f) ∧ Dp K H dv (.tuple (ds.map Deed.D)) ∧ (∀ d ∈ ds, d.Ok ts) ∧ ts.length ≤ 3000 ∧
  ∀ u H', Same H H' → Dp K H' u (numsD ts.length (behind ts f ds)) → Q u H'
def spUndone (K : PySem.W.Frag) : Sp := fun vs H Q _ => ∃ (dv : V) (ds : List Deed), vs = [dv] ∧ Dp K H dv (.tuple (ds.map Deed.D)) ∧ ds.length ≤ 3000 ∧
  ∀ u H', Same H H' → Dp K H' u (.tuple ((ds.reverse.map Deed.neg).map Deed.D)) → Q u H'
def spDiff (K : PySem.W.Frag) : Sp := fun vs H Q _ => ∃ (v u : V) (L : Nat) (f g : Nat → Int), vs = [v, u] ∧ Dp K H v (numsD L f) ∧ Dp K H u (numsD L g) ∧ L ≤ 3000 ∧
  ∀ z H', Same H H' → Dp K H' z (numsD L fun k => g k - f k) → Q z H'
end BV

namespace BV
open PySem L2
/-! ### small data, that may be written as a text -/
structure Sm (d : PyData) (c k : Nat) : Prop where
  t : tiny d = true
  n : nodes d ≤ c
  p : d.depth ≤ k
theorem Sm.mono {d : PyData} {c k c' k' : Nat} (h : Sm d c k) (h1 : c ≤ c') (h2 : k ≤ k') : Sm d c' k' := ⟨h.t, Nat.le_trans h.n h1, Nat.le_trans h.p h2⟩
theorem sm_all {c k : Nat} : ∀ ds : List PyData, (∀ d ∈ ds, Sm d c k) → tinyAll ds = true ∧ nodesAll ds ≤ ds.length * c ∧ PyData.depthAll ds ≤ k
  | [], _ => by simp [tinyAll, nodesAll, PyData.depthAll]
  | d :: ds, h => by
    obtain ⟨a, b, e⟩ := sm_all ds fun m hm => h m (List.mem_cons_of_mem _ hm)
    obtain ⟨a1, b1, e1⟩ := h d (List.mem_cons_self ..)
    refine ⟨by simp only [tinyAll, a, a1, Bool.and_self], ?_, ?_⟩
    · simp only [nodesAll, List.length_cons]
      rw [Nat.succ_mul]
      omega
    · simp only [PyData.depthAll]
      omega
theorem sm_tup {ds : List PyData} {c k : Nat} (h : ∀ d ∈ ds, Sm d c k) : Sm (.tuple ds) (ds.length * c + 1) (k + 1) := by
  obtain ⟨a, b, e⟩ := sm_all ds h
  refine ⟨by simpa only [tiny] using a, by simp only [nodes]; omega, by simp only [PyData.depth]; omega⟩
theorem sm_lst {ds : List PyData} {c k : Nat} (h : ∀ d ∈ ds, Sm d c k) : Sm (.list ds) (ds.length * c + 1) (k + 1) := by
  obtain ⟨a, b, e⟩ := sm_all ds h
  refine ⟨by simpa only [tiny] using a, by simp only [nodes]; omega, by simp only [PyData.depth]; omega⟩
theorem sm_show {d : PyData} {c k : Nat} (h : Sm d c k) (hc : c ≤ 15000) (hk : k ≤ 40) : Show d := show_of h.t (Nat.le_trans h.p hk) (Nat.le_trans h.n hc)
theorem sm_int {z : Int} (h : z.natAbs < 2 ^ 200) : Sm (.int z) 1 0 := by
  have hl : z.natAbs.log2 < 300 := Nat.lt_of_lt_of_le (PySem.Flt.log2_lt_of (by decide) h) (by decide)
  exact ⟨by simp only [tiny, hl, decide_true], by simp only [nodes]; exact Nat.le_refl _, by simp only [PyData.depth]; exact Nat.le_refl _⟩
theorem sm_nat {k : Nat} (h : k < 100000) : Sm (.int (k : Int)) 1 0 := sm_int (Nat.lt_of_lt_of_le (show ((k : Int)).natAbs < 100000 by omega) (by decide))
theorem sm_lot {ks : List Nat} (h : ∀ k ∈ ks, k < 100000) : Sm (lotD ks) (ks.length + 1) 1 := by
  have := sm_tup (ds := ks.map fun (k : Nat) => PyData.int k) (c := 1) (k := 0) fun d hd => by
    obtain ⟨k, hk, rfl⟩ := List.mem_map.mp hd
    exact sm_nat (h k hk)
  rw [List.length_map, Nat.mul_one] at this
  exact this
theorem sm_nums {L : Nat} {f : Nat → Int} (h : ∀ k, (f k).natAbs < 2 ^ 200) : Sm (numsD L f) (L + 1) 1 := by
  have := sm_tup (ds := (List.range L).map fun k => PyData.int (f k)) (c := 1) (k := 0) fun d hd => by
    obtain ⟨k, hk, rfl⟩ := List.mem_map.mp hd
    exact sm_int (h k)
  rw [List.length_map, List.length_range, Nat.mul_one] at this
  exact this
theorem sm_tie {t : Tie} (h : t.1 < 100000 ∧ t.2 < 100000) : Sm (tieD t) 3 1 :=
  sm_tup (ds := [.int t.1, .int t.2]) (c := 1) (k := 0) fun d hd => by
    rcases List.mem_cons.mp hd with rfl | hd
    · exact sm_nat h.1
    · obtain rfl := List.mem_singleton.mp hd
      exact sm_nat h.2
theorem sm_web {n : Nat} {ts : List Tie} (h : ∀ t ∈ ts, t.1 < 100000 ∧ t.2 < 100000) (hn : n < 100000) : Sm (webD n ts) (6 * ts.length + 3) 3 := by
  have h1 : Sm (tiesD ts) (ts.length * 3 + 1) 2 := by
    have := sm_tup (ds := ts.map tieD) (c := 3) (k := 1) fun d hd => by
      obtain ⟨k, hk, rfl⟩ := List.mem_map.mp hd
      exact sm_tie (h k hk)
    rw [List.length_map] at this
    exact this
  have h2 := sm_tup (ds := [.int n, tiesD ts]) (c := ts.length * 3 + 1) (k := 2) fun d hd => by
    rcases List.mem_cons.mp hd with rfl | hd
    · exact (sm_nat hn).mono (by omega) (by omega)
    · obtain rfl := List.mem_singleton.mp hd
      exact h1
  exact h2.mono (by show 2 * (ts.length * 3 + 1) + 1 ≤ _; omega) (Nat.le_refl _)
theorem sm_deed {d : Deed} {m : Nat} (h1 : d.times.natAbs < 2 ^ 200) (h2 : Sm d.about m 1) (hm : 1 ≤ m) : Sm d.D (3 * m + 1) 2 := by
  refine sm_tup (ds := [.str d.word, d.about, .int d.times]) (c := m) (k := 1) fun e he => ?_
  rcases List.mem_cons.mp he with rfl | he
  · refine ⟨?_, by simp only [nodes]; exact hm, by simp only [PyData.depth]; omega⟩
    cases d with
    | star p t => show tiny (.str "star") = true; decide
    | round ks t => show tiny (.str "round") = true; decide
  · rcases List.mem_cons.mp he with rfl | he
    · exact h2
    · obtain rfl := List.mem_singleton.mp he
      exact (sm_int h1).mono hm (by omega)
theorem sm_deeds {ds : List Deed} {m : Nat} (h : ∀ d ∈ ds, d.times.natAbs < 2 ^ 200 ∧ Sm d.about m 1) (hm : 1 ≤ m) : Sm (.tuple (ds.map Deed.D)) (ds.length * (3 * m + 1) + 1) 3 := by
  have := sm_tup (ds := ds.map Deed.D) (c := 3 * m + 1) (k := 2) fun e he => by
    obtain ⟨d, hd, rfl⟩ := List.mem_map.mp he
    exact sm_deed (h d hd).1 (h d hd).2 hm
  rw [List.length_map] at this
  exact this
/-- how much some deeds can do -/
theorem effect_abs {ts : List Tie} {B : Nat} : ∀ (ds : List Deed) (k : Nat), (∀ d ∈ ds, d.times.natAbs ≤ B) → (effect ts ds k).natAbs ≤ ds.length * B
  | [], k, _ => by simp [effect]
  | d :: ds, k, h => by
    have ih := effect_abs (ts := ts) ds k fun m hm => h m (List.mem_cons_of_mem _ hm)
    have hd := h d (List.mem_cons_self ..)
    have hp : (d.part ts k).natAbs ≤ B := by
      unfold Deed.part
      split
      · exact hd
      · simp
    unfold effect at ih ⊢
    simp only [List.map_cons, List.sum_cons, List.length_cons]
    rw [Nat.succ_mul]
    omega
theorem behind_abs {ts : List Tie} {B M : Nat} {f : Nat → Int} (ds : List Deed) (k : Nat) (h : ∀ d ∈ ds, d.times.natAbs ≤ B) (hf : ∀ k, (f k).natAbs ≤ M) :
    (behind ts f ds k).natAbs ≤ M + ds.length * B := by
  rw [behind_eq]
  have h1 := effect_abs (ts := ts) ds k h
  have h2 := hf k
  omega
theorem neg_neg (d : Deed) : d.neg.neg = d := by
  cases d <;> simp [Deed.neg]
theorem map_neg_neg (ds : List Deed) : (ds.map Deed.neg).map Deed.neg = ds := by
  rw [List.map_map]
  have : Deed.neg ∘ Deed.neg = id := funext neg_neg
  rw [this, List.map_id]
end BV
namespace BV
open PySem L2
theorem atI_last {xs : List V} {v : V} (h0 : 0 < xs.length) (h : xs[xs.length - 1]? = some v) : atI xs (-1) = some v := by
  have e : ixN xs.length (-1) = some (xs.length - 1) := by
    unfold ixN
    rw [if_neg (by omega), if_pos (by omega)]
    congr 1
    omega
  unfold atI
  rw [e]
  exact h
end BV
namespace BV
open PySem L2
theorem dpAll_take {K : PySem.W.Frag} {H : Hp} : ∀ {ds : List PyData} {vs : List V} (j : Nat), DpAll K H vs ds → DpAll K H (vs.take j) (ds.take j)
  | [], _, j, h => by cases h; simpa using DpAll.nil
  | d :: ds, _, 0, h => .nil
  | d :: ds, _, j + 1, h => by
    cases h with
    | cons h1 h2 => exact .cons h1 (dpAll_take j h2)
theorem dpAll_drop {K : PySem.W.Frag} {H : Hp} : ∀ {ds : List PyData} {vs : List V} (j : Nat), DpAll K H vs ds → DpAll K H (vs.drop j) (ds.drop j)
  | [], _, j, h => by cases h; simpa using DpAll.nil
  | d :: ds, _, 0, h => h
  | d :: ds, _, j + 1, h => by
    cases h with
    | cons h1 h2 => exact dpAll_drop j h2
theorem sIx_nat (n d j : Nat) : HT.sIx n d (some (j : Int)) = min j n := by
  unfold HT.sIx
  show (if (j : Int) < 0 then _ else min (j : Int).toNat n) = _
  rw [if_neg (by omega), Int.toNat_natCast]
theorem cut_hi (xs : List V) (j : Nat) : cutV xs none (some (j : Int)) = xs.take j := by
  unfold cutV
  rw [sIx_nat]
  show List.take (min j xs.length - 0) (List.drop 0 xs) = _
  rw [Nat.sub_zero, List.drop_zero]
  by_cases h : j ≤ xs.length
  · rw [Nat.min_eq_left h]
  · rw [Nat.min_eq_right (by omega), List.take_of_length_le (Nat.le_refl _), List.take_of_length_le (by omega)]
theorem cut_lo (xs : List V) (j : Nat) : cutV xs (some (j : Int)) none = xs.drop j := by
  unfold cutV
  rw [sIx_nat]
  show List.take (xs.length - min j xs.length) (List.drop (min j xs.length) xs) = _
  by_cases h : j ≤ xs.length
  · rw [Nat.min_eq_left h]
    exact List.take_of_length_le (by rw [List.length_drop]; exact Nat.le_refl _)
  · rw [Nat.min_eq_right (by omega), List.drop_of_length_le (Nat.le_refl _), List.drop_of_length_le (by omega)]
    simp
theorem at_st {t : TS} {D : Ends} {σ : L2.St} {H : Hp} (σ' : L2.St) (e : σ = σ') (h : t D σ' H) : t D σ H := by
  subst e
  exact h
end BV
namespace BV
open PySem L2
theorem slA_by {K : PySem.W.Frag} {x : V} {lo hi : Option Int} {H : Hp} {Q : VK} {a : Addr} {xs : List V} (hx : x = .ref a) (h : SqT K H a xs)
    (k : ∀ (c : Addr) H', Same H H' → SqT K H' c (cutV xs lo hi) → Q (.ref c) H') : rSlA K x lo hi H Q := by
  refine ⟨a, xs, hx, h, fun z => k _ _ (Same.refl _) ?_, fun _ p hp => k _ _ (same_new hp) (SqT.of upd_same)⟩
  have e : cutV xs lo hi = xs := by
    unfold cutV
    rw [z.1, z.2, List.drop_zero, Nat.sub_zero, List.take_of_length_le (Nat.le_refl _)]
  rw [e]
  exact h
end BV

namespace BV
open PySem PySem.Spec PyProof.Rows L2
theorem cr_minT {X : Cx} (hc : X.calm = true) : CallR X (.builtin "min")
    (fun vs H Q => ∃ (a : Addr) (ns : List Int), vs = [V.ref a] ∧ SqT X.K H a (ns.map V.int) ∧ 0 < ns.length ∧ ∀ m, m ∈ ns → (∀ y ∈ ns, m ≤ y) → Q (.int m) H) := by
  intro pins s σ H vs us Q I r h
  obtain ⟨a, ns, rfl, hs, hpos, q⟩ := h
  obtain ⟨its, rv, hl, _⟩ := I.tuple hs
  rw [Vals.ref1 r]
  have hi := rv.ints
  obtain ⟨xs, e⟩ := hi.allInts.items
  have hn : numsOf (intItems xs).toList = ns := by rw [← e]; exact hi.numsOf
  rw [nums_intItems] at hn
  have hl2 : s.heap.IsTuple a its.toArray := hl
  rw [e] at hl2
  have hd := I.ok.hd hc
  have hsz : ns.length = xs.size := by rw [← hn]; simp
  have alt : a < s.heap.objs.size := by
    obtain ⟨o, h1, _⟩ := hl2
    exact Heap.lt_size h1
  have isz : (intItems xs).size = xs.size := by simp [intItems]
  refine call_min_walk (wpAny_pyIter_tuple hl2 ⟨_, _, _, _, _, _, _, rfl, Walks.tuple ?_ s.heap.objs.size a (Nat.ne_of_lt alt) (intItems xs), ⟨?_, ?_⟩, ?_, ?_, CmpOf.ints_lt (numAt xs) ?_, fun v h' tk hP hk => ?_⟩)
  · exact hd
  · exact ⟨_, Heap.get?_push_size _ rfl, rfl, rfl⟩
  · exact hl2.push _
  · intro b hb
    show b < (s.heap.objs.push _).size
    rw [Array.size_push]
    rcases List.mem_cons.mp hb with rfl | hb
    · exact Nat.lt_succ_self _
    · obtain rfl := List.mem_singleton.mp hb
      exact Nat.lt_succ_of_lt alt
  · rw [isz]
    omega
  · exact fun i v hv => intItems_at hv
  · rw [isz] at hP
    obtain ⟨t, rfl⟩ := intItems_at hP
    obtain ⟨b1, b2⟩ := argBest_lt (numAt xs) (xs.size - 1)
    refine ⟨.int _, H, I.kept fun b o hb => ?_, ⟨_, rfl⟩, ?_⟩
    · exact hk b o (fun z => by
        obtain rfl := List.mem_singleton.mp z
        exact Nat.lt_irrefl _ (Heap.lt_size hb)) (Heap.get?_push_of_some _ hb)
    · have nat : ∀ i, i < xs.size → numAt xs i ∈ ns ∧ True := fun i hi => by
        refine ⟨?_, trivial⟩
        rw [← hn]
        unfold numAt
        rw [Array.getElem?_eq_getElem hi]
        exact List.mem_map.mpr ⟨xs[i], by simp, rfl⟩
      refine q _ (nat _ (by omega)).1 fun y hy => ?_
      rw [← hn] at hy
      obtain ⟨p, hp, rfl⟩ := List.mem_map.mp hy
      obtain ⟨j, hj, rfl⟩ := List.mem_iff_getElem.mp hp
      have hj' : j < xs.size := by simpa using hj
      have := b2 j (by omega)
      have e2 : numAt xs j = (xs.toList[j]).1 := by
        unfold numAt
        rw [Array.getElem?_eq_getElem hj']
        simp
      rw [← e2]
      exact this
end BV
namespace BV
open PySem L2
section
variable {X : Cx} (K : PySem.W.Frag)
def rMinT (K : PySem.W.Frag) : List V → Hp → VK → Prop := fun vs H Q => ∃ (a : Addr) (ns : List Int), vs = [V.ref a] ∧ SqT K H a (ns.map V.int) ∧ 0 < ns.length ∧ ∀ m, m ∈ ns → (∀ y ∈ ns, m ≤ y) → Q (.int m) H
theorem minTK (hc : X.calm = true := by rfl) (h : X.K = K := by rfl) : CallR X (.builtin "min") (rMinT K) := by
  subst h
  exact cr_minT hc
theorem minLK (hc : X.calm = true := by rfl) (h : X.K = K := by rfl) : CallR X (.builtin "min") (rMin K) := by
  subst h
  exact cr_min hc
theorem anyLK (hc : X.calm = true := by rfl) (h : X.K = K := by rfl) : CallR X (.builtin "any") (rAny K) := by
  subst h
  exact cr_any hc
end
end BV

namespace BV
open PySem L2
section
variable {X : Cx} (K : PySem.W.Frag)
theorem catA (h : X.K = K := by rfl) : OpR X (binaryOp .Add) (rCatA K) := by
  subst h
  exact op_catA
end
theorem catA_by {K : PySem.W.Frag} {x y : V} {H : Hp} {Q : VK} {a b : Addr} {xs ys : List V} (hx : x = .ref a) (hy : y = .ref b) (h1 : SqT K H a xs) (h2 : SqT K H b ys) (hl : xs.length + ys.length ≤ 100000)
    (k : ∀ (c : Addr) H', Same H H' → SqT K H' c (xs ++ ys) → Q (.ref c) H') : rCatA K x y H Q := by
  refine ⟨a, b, xs, ys, hx, hy, h1, h2, Nat.le_trans hl (by decide), fun e => ?_, fun _ e => ?_, fun _ _ p hp => ?_⟩
  · subst e
    exact k _ _ (Same.refl _) h2
  · subst e
    exact k _ _ (Same.refl _) (by rw [List.append_nil]; exact h1)
  · exact k _ _ (same_new hp) (SqT.of upd_same)
theorem sqL_same {K : PySem.W.Frag} {H H' : Hp} {a : Addr} {xs : List V} (s : Same H H') (h : SqL K H a xs) : SqL K H' a xs := by
  rcases h with (h | ⟨o, h⟩) | h
  · exact .inl (.inl (s _ _ h))
  · exact .inl (.inr ⟨o, s _ _ h⟩)
  · exact .inr h
/-- [1 for z in zs if z < 0], walked to the place i -/
def Ones (zs : List Int) (i : Nat) (acc : List V) : Prop := ∃ m : Nat, acc = (List.replicate m (1 : Int)).map V.int ∧ m ≤ i ∧ (m = 0 ↔ ∀ z ∈ zs.take i, 0 ≤ z)
theorem Ones.yes {zs : List Int} {i : Nat} {acc : List V} {z : Int} (h : Ones zs i acc) (hz : zs[i]? = some z) (hn : z < 0) : Ones zs (i + 1) (acc ++ [.int 1]) := by
  obtain ⟨m, rfl, h1, _⟩ := h
  refine ⟨m + 1, ?_, by omega, ?_⟩
  · rw [List.replicate_succ', List.map_append]
    rfl
  · constructor
    · intro e
      omega
    · intro e
      have := e z (by rw [List.take_add_one, hz]; simp)
      omega
theorem Ones.no {zs : List Int} {i : Nat} {acc : List V} {z : Int} (h : Ones zs i acc) (hz : zs[i]? = some z) (hn : ¬ z < 0) : Ones zs (i + 1) acc := by
  obtain ⟨m, rfl, h1, h2⟩ := h
  refine ⟨m, rfl, by omega, ?_⟩
  rw [h2, List.take_add_one, hz]
  constructor
  · intro e x hx
    rcases List.mem_append.mp hx with q | q
    · exact e x q
    · have : x = z := by simpa using q
      omega
  · intro e x hx
    exact e x (List.mem_append_left _ hx)
theorem ones_eqv (m : Nat) : (PyData.list ((List.replicate m (1 : Int)).map PyData.int)).eqv (.list []) = decide (m = 0) := by
  cases m with
  | zero => rfl
  | succ m => rfl
end BV

namespace BV
open PySem PySem.Spec PyProof.Rows L2
/-! ### (v,) * k for any k from 0 on -/
theorem mul_none (l : Addr) (items : Array Value) (n : Nat) (dd : Option Addr) (sl : Array (Option Value)) (u : Tok) (hi : items.isEmpty = false) :
    Meets (Builtin.«tuple.__mul__» ⟨[.ref l, .int 0 u], []⟩) (fun _ R s => s.heap.get? l = some { cls := .type "tuple", dict := dd, data := .seq items n, slots := sl } ∧
      R (.ok (.ret (Value.ref s.heap.objs.size))) { s with heap := s.heap.push { cls := Value.type "tuple", data := Data.seq #[] }, toks := s.toks }) := by
  refine .of_wp fun prog w A R s h => ?_
  obtain ⟨hp, g, d, tk, os⟩ := s
  obtain ⟨hl, h⟩ := h
  have f1 := AutoSeq1.idx_int
  have c0 : (decide ((0 : Int) < -(2 ^ 63)) || decide ((0 : Int) ≥ 2 ^ 63)) = false := by decide
  have c1 : (items.isEmpty || (0 : Int) == 1) = false := by rw [hi]; rfl
  have c2 : (decide ((0 : Int) ≤ 0) || items.isEmpty) = true := by simp
  wp_walk using AutoSeq1.wpAny_loadPart' hl
  repeat (first
    | (refine wpAny_ite_false (decide_eq_false (by rw [c0]; exact Bool.false_ne_true)) ?_; wp_walk using AutoSeq1.wpAny_loadPart' hl)
    | (refine wpAny_ite_false (decide_eq_false (by rw [c1]; exact Bool.false_ne_true)) ?_; wp_walk using AutoSeq1.wpAny_loadPart' hl)
    | (refine wpAny_ite_true (decide_eq_true c2) ?_; wp_walk using AutoSeq1.wpAny_loadPart' hl))
  exact ⟨_, rfl, h⟩
def rRepN (K : PySem.W.Frag) : R2 := fun x y H Q => ∃ (l : Addr) (k : Nat) (v : V), x = .ref l ∧ y = .int (k : Int) ∧ SqT K H l [v] ∧ k ≤ 1000 ∧ ∀ (p : Addr) H', Same H H' → SqT K H' p (List.replicate k v) → Q (.ref p) H'
theorem flat_rep (k : Nat) (v : V) : (List.replicate k [v]).flatten = List.replicate k v := by
  induction k with
  | zero => rfl
  | succ k ih => rw [List.replicate_succ, List.flatten_cons, ih, List.replicate_succ]; rfl
theorem op_repN {X : Cx} (K : PySem.W.Frag) (hK : X.K = K := by rfl) : OpR X (binaryOp .Mult) (rRepN K) := by
  subst hK
  intro pins s σ H x y v u Q I rx ry h
  obtain ⟨l, k, w0, rfl, rfl, hT, hk, q⟩ := h
  by_cases h0 : k = 0
  · subst h0
    cases rx
    obtain ⟨t, rfl⟩ := ry
    obtain ⟨its, r, ⟨⟨cls, dd, data, sl⟩, ho, hc, n, hd⟩, hs⟩ := I.tuple hT
    simp only at hc hd
    subst hc hd
    have hi : its.toArray.isEmpty = false := by
      have := r.length
      cases its with
      | nil => simp at this
      | cons a b => rfl
    refine wpAny_binaryOp_repeat_ref (T := "tuple") (U := "int") (by decide) ⟨_, ho, rfl⟩ (fun s' => typeIs_int s' _ t) noFill_tuple_mul F.fills_int_mul F.slot_int_rmul repeat_tuple F.slot_int_index.lookup ?_
    refine call_meets F.slot_int_rmul (typeIs_int s _ t) F.entry_int_rmul (F.args_int_rmul_2 _ _) (int_rmul_tuple _ t l its.toArray n dd sl) ⟨ho, rfl, ⟨_, ho, rfl⟩, ?_⟩
    refine call_meets F.slot_tuple_mul ⟨_, ho, rfl⟩ F.entry_tuple_mul (F.args_tuple_mul_2 _ _) (mul_none l its.toArray n dd sl t hi) ⟨ho, ?_⟩
    have fr := I.hok.fresh (Nat.le_refl s.heap.objs.size)
    refine ⟨.ref s.heap.objs.size, _, I.laid (t' := s.toks) (o := .tup []) (fun b ob z => Heap.get?_push_of_some _ z) (Nat.le_refl _) ⟨Nat.zero_le _, [], .nil, IsTup.new _ _⟩, rfl, q _ _ (same_new fr) (SqT.of upd_same)⟩
  · refine op_repT1 X.K rfl pins s σ H (.ref l) (.int k) v u Q I rx ry ⟨l, k, [w0], rfl, rfl, hT, by simp, by omega, by omega, by simp, fun e => ?_, fun _ p hp => ?_⟩
    · have : k = 1 := by omega
      subst this
      exact q _ _ (Same.refl _) hT
    · refine q _ _ (same_new hp) (SqT.of ?_)
      rw [upd_same, Int.toNat_natCast, flat_rep]
end BV

namespace BV
open PySem L2
/-! ### comprehensions that draw -/
theorem era_kp {b g D : Addr} {H H' : Hp} (s : Kp b g H H') : Kp b g (era H D) (era H' D) := fun a o e n1 n2 => by
  by_cases h : a = D
  · subst h
    rw [era_at] at e
    cases e
  · rw [era_ne h] at e ⊢
    exact s _ _ e n1 n2
theorem box_era {b g D : Addr} {H : Hp} (x : Box H b g) (h1 : D ≠ b) (h2 : D ≠ g) : Box (era H D) b g := by
  obtain ⟨⟨st, c, x1⟩, ns, x2, x3⟩ := x
  exact ⟨⟨st, c, by rw [era_ne h1.symm]; exact x1⟩, ns, by rw [era_ne h2.symm]; exact x2, x3⟩
theorem bx_set {b g l : Addr} {H : Hp} {o : HO} (x : Box H b g) (h1 : l ≠ b) (h2 : l ≠ g) : Box (upd H l o) b g := by
  obtain ⟨⟨st, c, x1⟩, ns, x2, x3⟩ := x
  exact ⟨⟨st, c, by rw [upd_ne h1.symm]; exact x1⟩, ns, by rw [upd_ne h2.symm]; exact x2, x3⟩
theorem bx_ne {b g l : Addr} {H : Hp} (x : Box H b g) (h : H l = none) : l ≠ b ∧ l ≠ g := by
  obtain ⟨⟨st, c, x1⟩, ns, x2, x3⟩ := x
  exact ⟨fun e => (by rw [e, x1] at h; cases h), fun e => (by rw [e, x2] at h; cases h)⟩
/-- as LcI, with the box of draws -/
def LcB (b g : Addr) (H1 : Hp) (D : Addr) (R : Nat → List V → Hp → Prop) (i : Nat) (H : Hp) : Prop :=
  ∃ acc, H D = some (.lst acc) ∧ Kp b g H1 (era H D) ∧ Box H b g ∧ R i acc (era H D)
theorem lc_addB {b g : Addr} {H1 H H4 : Hp} {D : Addr} {R : Nat → List V → Hp → Prop} {i : Nat} {acc : List V} {y : V} (nb : D ≠ b) (ng : D ≠ g) (ha : H D = some (.lst acc))
    (e : Kp b g H1 (era H D)) (s : Kp b g H H4) (x : Box H4 b g) (hl : acc.length < 100000) (r : R i (acc ++ [y]) (era H4 D)) :
    ∃ acc, H4 D = some (.lst acc) ∧ acc.length < sizeLine ∧ LcB b g H1 D R i (upd H4 D (.lst (acc ++ [y]))) := by
  refine ⟨acc, s _ _ ha nb ng, Nat.lt_of_lt_of_le hl (by decide), acc ++ [y], upd_same, ?_, bx_set x nb ng, ?_⟩
  · rw [era_upd]
    exact e.trans (era_kp s)
  · rw [era_upd]
    exact r
theorem lc_skipB {b g : Addr} {H1 H H3 : Hp} {D : Addr} {R : Nat → List V → Hp → Prop} {i : Nat} {acc : List V} (nb : D ≠ b) (ng : D ≠ g) (ha : H D = some (.lst acc))
    (e : Kp b g H1 (era H D)) (s : Kp b g H H3) (x : Box H3 b g) (r : R i acc (era H3 D)) : LcB b g H1 D R i H3 :=
  ⟨acc, s _ _ ha nb ng, e.trans (era_kp s), x, r⟩
theorem lc_runB {b g0 : Addr} {J : It} {n : Nat} {G : Hp → Prop} {Y : Nat → Hp → V → Hp → Prop} (w : Walk J n G Y) {g : TG} {tt : TT} {te : TE} {vs : List Nat}
    {σ : L2.St} {H1 : Hp} {D : Addr} {Qd : Hp → Prop} (hD : H1 D = none) (hB : Box H1 b g0) (R : Nat → List V → Hp → Prop)
    (hG : ∀ H, Kp b g0 H1 H → Box H b g0 → G H) (h0 : R 0 [] H1)
    (hs : ∀ i x acc H H', D ≠ b → D ≠ g0 → i < n → H D = some (.lst acc) → Kp b g0 H1 (era H D) → Kp b g0 H1 H → Box H b g0 → R i acc (era H D) → Y i H x H' →
      g x (wipe σ vs) H' fun σ2 H2 => wipe σ2 vs = wipe σ vs ∧ tt σ2 H2 fun t H3 =>
        if t = true then te σ2 H3 fun y H4 => ∃ acc, H4 D = some (.lst acc) ∧ acc.length < sizeLine ∧ LcB b g0 H1 D R (i + 1) (upd H4 D (.lst (acc ++ [y])))
        else LcB b g0 H1 D R (i + 1) H3)
    (hd : ∀ acc H, H D = some (.lst acc) → Kp b g0 H1 H → Box H b g0 → R n acc (era H D) → Qd H) :
    ∃ W : Nat → Nat → Hp → Prop, (∃ m, W 0 m (upd H1 D (.lst []))) ∧ ∀ i m H, W i m H →
      (J.stop i H ∧ Qd H) ∨ (J.go i H ∧ ∃ Nx : Hp → Prop, (∀ H', Nx H' → ∃ m', m' < m ∧ W (i + 1) m' H') ∧
        ∀ x H', J.yld i H x H' → g x (wipe σ vs) H' fun σ2 H2 => wipe σ2 vs = wipe σ vs ∧ tt σ2 H2 fun b H3 =>
        if b = true then te σ2 H3 fun y H4 => ∃ acc, H4 D = some (.lst acc) ∧ acc.length < sizeLine ∧ Nx (upd H4 D (.lst (acc ++ [y]))) else Nx H3) := by
  obtain ⟨nb, ng⟩ := bx_ne hB hD
  have back : ∀ {H : Hp}, Kp b g0 H1 (era H D) → Kp b g0 H1 H := fun e => e.trans (Kp.same era_back)
  refine lc_it w (LcB b g0 H1 D R) ?_ ?_ ?_ ?_
  · exact ⟨[], upd_same, by rw [era_upd, era_none hD]; exact Kp.refl _, bx_set hB nb ng, by rw [era_upd, era_none hD]; exact h0⟩
  · rintro i H _ ⟨acc, _, e, x, _⟩
    exact hG H (back e) x
  · rintro i x acc' H' hi ⟨acc, ha, e, bx, r⟩ y
    exact hs i x acc _ _ nb ng hi ha e (back e) bx r y
  · rintro H ⟨acc, ha, e, bx, r⟩
    exact hd acc H ha (back e) bx r
end BV

namespace BV
open PySem L2
/-! ### ways, cuts, what is reached -/
inductive Way (ts : List Tie) (a : Nat) : List Nat → Nat → Prop
  | nil : Way ts a [] a
  | snoc {w : List Nat} {p k q : Nat} {t : Tie} : Way ts a w p → ts[k]? = some t → (t.1 = p ∧ t.2 = q ∨ t.2 = p ∧ t.1 = q) → Way ts a (w ++ [k]) q
def oddIn (w lot : List Nat) : Bool := decide ((w.filter fun k => decide (k ∈ lot)).length % 2 = 1)
theorem oddIn_snoc (w : List Nat) (k : Nat) (lot : List Nat) : oddIn (w ++ [k]) lot = Bool.xor (oddIn w lot) (decide (k ∈ lot)) := by
  unfold oddIn
  rw [List.filter_append, List.length_append]
  by_cases h : k ∈ lot
  · have e : ([k].filter fun k => decide (k ∈ lot)).length = 1 := by simp [h]
    rw [e, decide_eq_true h, Bool.xor_true, Bool.eq_iff_iff]
    simp only [decide_eq_true_eq, Bool.not_eq_true', decide_eq_false_iff_not]
    omega
  · have e : ([k].filter fun k => decide (k ∈ lot)).length = 0 := by simp [h]
    rw [e, decide_eq_false h, Bool.xor_false, Nat.add_zero]
def side (S : List Nat) (p : Nat) : Bool := decide (p ∈ S)
/-- the ties of the lot are those between unlike sides -/
def IsCutOf (ts : List Tie) (lot S : List Nat) : Prop := ∀ k t, ts[k]? = some t → decide (k ∈ lot) = Bool.xor (side S t.1) (side S t.2)
theorem way_side {ts : List Tie} {lot S : List Nat} (h : IsCutOf ts lot S) {a p : Nat} {w : List Nat} (hw : Way ts a w p) : oddIn w lot = Bool.xor (side S a) (side S p) := by
  induction hw with
  | nil => simp [oddIn]
  | snoc hw ht hq ih =>
    rw [oddIn_snoc, ih, h _ _ ht]
    rcases hq with ⟨e1, e2⟩ | ⟨e1, e2⟩
    · rw [e1, e2]
      cases side S a <;> cases side S _ <;> cases side S _ <;> rfl
    · rw [e1, e2]
      cases side S a <;> cases side S _ <;> cases side S _ <;> rfl
def crosses (ps : List Nat) (t : Tie) : Bool := !decide (decide (t.1 ∈ ps) = decide (t.2 ∈ ps))
def cutL (ts : List Tie) (ps : List Nat) : List Nat := (List.range ts.length).filter fun k => match ts[k]? with
  | some t => crosses ps t
  | none => false
theorem crosses_xor (ps : List Nat) (t : Tie) : crosses ps t = Bool.xor (side ps t.1) (side ps t.2) := by
  unfold crosses side
  cases decide (t.1 ∈ ps) <;> cases decide (t.2 ∈ ps) <;> rfl
theorem mem_cutL {ts : List Tie} {ps : List Nat} {k : Nat} : k ∈ cutL ts ps ↔ ∃ t, ts[k]? = some t ∧ crosses ps t = true := by
  unfold cutL
  rw [List.mem_filter, List.mem_range]
  constructor
  · rintro ⟨h1, h2⟩
    have ht : ts[k]? = some ts[k] := by simp [h1]
    rw [ht] at h2
    exact ⟨_, ht, h2⟩
  · rintro ⟨t, ht, hc⟩
    refine ⟨(List.getElem?_eq_some_iff.mp ht).1, ?_⟩
    rw [ht]
    exact hc
theorem cut_of_cutL (ts : List Tie) (ps : List Nat) : IsCutOf ts (cutL ts ps) ps := fun k t ht => by
  rw [← crosses_xor, Bool.eq_iff_iff, decide_eq_true_eq, mem_cutL]
  constructor
  · rintro ⟨t2, e, h⟩
    rw [ht] at e
    cases e
    exact h
  · exact fun h => ⟨t, ht, h⟩
theorem cutL_asc (ts : List Tie) (ps : List Nat) : (cutL ts ps).Pairwise (· < ·) := List.pairwise_lt_range.filter _
theorem asc_uniq {l m : List Nat} (hl : l.Pairwise (· < ·)) (hm : m.Pairwise (· < ·)) (h : ∀ k, k ∈ l ↔ k ∈ m) : l = m :=
  ((List.perm_ext_iff_of_nodup (hl.imp fun z => Nat.ne_of_lt z) (hm.imp fun z => Nat.ne_of_lt z)).mpr h).eq_of_pairwise (le := (· < ·)) (fun a b _ _ x y => absurd x (Nat.lt_asymm y)) hl hm
/-- a lot of L ties -/
def LotA (L : Nat) (ks : List Nat) : Prop := ks.Pairwise (· < ·) ∧ ∀ k ∈ ks, k < L
theorem cutL_lot (ts : List Tie) (ps : List Nat) : LotA ts.length (cutL ts ps) := ⟨cutL_asc ts ps, fun k hk => List.mem_range.mp (List.mem_filter.mp hk).1⟩
theorem cutL_of {ts : List Tie} {lot S : List Nat} (hl : LotA ts.length lot) (h : IsCutOf ts lot S) : cutL ts S = lot := by
  refine asc_uniq (cutL_asc ts S) hl.1 fun k => ?_
  rw [mem_cutL]
  constructor
  · rintro ⟨t, ht, hc⟩
    rw [crosses_xor, ← h k t ht] at hc
    exact of_decide_eq_true hc
  · intro hk
    have hlt := hl.2 k hk
    have ht : ts[k]? = some ts[k] := List.getElem?_eq_getElem hlt
    refine ⟨_, ht, ?_⟩
    rw [crosses_xor, ← h k _ ht]
    exact decide_eq_true hk
/-- everything hangs together -/
theorem all_found {n : Nat} {ts : List Tie} (hok : WebOk n ts) {F : Nat → Prop} (h0 : F 0) (hcl : ∀ t ∈ ts, F t.1 → F t.2) : ∀ p, p < n → F p := by
  intro p
  induction p using Nat.strongRecOn with
  | _ p ih =>
    intro hp
    by_cases h : p = 0
    · rw [h]
      exact h0
    · obtain ⟨q, hq, hm⟩ := hok.hang p (by omega) hp
      exact hcl (q, p) hm (ih q hq (by omega))
/-- the places on the other side than 0, by ways -/
def farL (n : Nat) (ws : Nat → List Nat) (lot : List Nat) : List Nat := (List.range n).filter fun p => oddIn (ws p) lot
theorem far_side {n : Nat} {ts : List Tie} {ws : Nat → List Nat} {lot S : List Nat} (hw : ∀ p, p < n → Way ts 0 (ws p) p) (h : IsCutOf ts lot S) {p : Nat} (hp : p < n) :
    side (farL n ws lot) p = Bool.xor (side S 0) (side S p) := by
  rw [← way_side h (hw p hp)]
  unfold side farL
  rw [Bool.eq_iff_iff, decide_eq_true_eq, List.mem_filter, List.mem_range]
  exact ⟨fun z => z.2, fun z => ⟨hp, z⟩⟩
theorem far_cut {n : Nat} {ts : List Tie} (hends : ∀ t ∈ ts, t.1 < t.2 ∧ t.2 < n) {ws : Nat → List Nat} {lot S : List Nat} (hl : LotA ts.length lot) (hw : ∀ p, p < n → Way ts 0 (ws p) p) (h : IsCutOf ts lot S) :
    cutL ts (farL n ws lot) = lot := by
  refine cutL_of hl fun k t ht => ?_
  have hm := hends t (List.mem_of_getElem? ht)
  rw [far_side hw h (show t.1 < n by omega), far_side hw h hm.2, h k t ht]
  cases side S 0 <;> cases side S t.1 <;> cases side S t.2 <;> rfl
theorem far_iff {n : Nat} {ts : List Tie} (hends : ∀ t ∈ ts, t.1 < t.2 ∧ t.2 < n) {ws : Nat → List Nat} {lot : List Nat} (hl : LotA ts.length lot) (hw : ∀ p, p < n → Way ts 0 (ws p) p) :
    cutL ts (farL n ws lot) = lot ↔ ∃ S, IsCutOf ts lot S :=
  ⟨fun e => ⟨_, by have := cut_of_cutL ts (farL n ws lot); rwa [e] at this⟩, fun ⟨S, h⟩ => far_cut hends hl hw h⟩
end BV

namespace BV
open PySem L2
/-! Even lots, cuts, and lots without a round. -/
def b2 (b : Bool) : Nat := if b = true then 1 else 0
def atE (ts : List Tie) (p k : Nat) : Bool := match ts[k]? with
  | some t => decide (t.1 = p ∨ t.2 = p)
  | none => false
def degE (ts : List Tie) (lot : List Nat) (p : Nat) : Nat := (lot.filter (atE ts p)).length
def crossK (ts : List Tie) (S : List Nat) (k : Nat) : Bool := match ts[k]? with
  | some t => crosses S t
  | none => false
def crossN (ts : List Tie) (S lot : List Nat) : Nat := (lot.filter (crossK ts S)).length
def sumR (n : Nat) (f : Nat → Nat) : Nat := ((List.range n).map f).sum
theorem sumR_succ (n : Nat) (f : Nat → Nat) : sumR (n + 1) f = sumR n f + f n := by
  unfold sumR
  rw [List.range_succ, List.map_append, List.sum_append]
  simp
theorem sumR_add (f g : Nat → Nat) : ∀ n, sumR n (fun p => f p + g p) = sumR n f + sumR n g
  | 0 => rfl
  | n + 1 => by
    rw [sumR_succ, sumR_succ, sumR_succ, sumR_add f g n]
    omega
theorem sumR_congr {f g : Nat → Nat} : ∀ {n}, (∀ p, p < n → f p = g p) → sumR n f = sumR n g
  | 0, _ => rfl
  | n + 1, h => by
    rw [sumR_succ, sumR_succ, sumR_congr fun p hp => h p (by omega), h n (by omega)]
theorem sumR_zero (n : Nat) : sumR n (fun _ => 0) = 0 := by
  induction n with
  | zero => rfl
  | succ n ih => rw [sumR_succ, ih]
theorem sumR_one (a c : Nat) : ∀ n, sumR n (fun p => if p = a then c else 0) = if a < n then c else 0
  | 0 => by simp [sumR]
  | n + 1 => by
    rw [sumR_succ, sumR_one a c n]
    by_cases h : a < n
    · rw [if_pos h, if_neg (by omega), if_pos (by omega), Nat.add_zero]
    · by_cases e : n = a
      · rw [if_neg h, if_pos e, if_pos (by omega)]
        omega
      · rw [if_neg h, if_neg e, if_neg (by omega)]
theorem sumR_even {f : Nat → Nat} : ∀ {n}, (∀ p, p < n → f p % 2 = 0) → sumR n f % 2 = 0
  | 0, _ => rfl
  | n + 1, h => by
    rw [sumR_succ]
    have h1 := sumR_even fun p (hp : p < n) => h p (by omega)
    have h2 := h n (by omega)
    omega
theorem degE_cons (ts : List Tie) (k : Nat) (lot : List Nat) (p : Nat) : degE ts (k :: lot) p = b2 (atE ts p k) + degE ts lot p := by
  unfold degE b2
  rw [List.filter_cons]
  split
  · rw [List.length_cons]
    omega
  · omega
theorem crossN_cons (ts : List Tie) (S : List Nat) (k : Nat) (lot : List Nat) : crossN ts S (k :: lot) = b2 (crossK ts S k) + crossN ts S lot := by
  unfold crossN b2
  rw [List.filter_cons]
  split
  · rw [List.length_cons]
    omega
  · omega
/-- over the places of a side all ends of a lot are counted: as many as its ties on the cut, modulo 2 -/
theorem parity {n : Nat} {ts : List Tie} (hends : ∀ t ∈ ts, t.1 < t.2 ∧ t.2 < n) (S : List Nat) : ∀ lot : List Nat, (∀ k ∈ lot, k < ts.length) →
    sumR n (fun p => if side S p = true then degE ts lot p else 0) % 2 = crossN ts S lot % 2
  | [], _ => by
    have : sumR n (fun p => if side S p = true then degE ts [] p else 0) = sumR n (fun _ => 0) :=
      sumR_congr fun p _ => by
        show (if side S p = true then 0 else 0) = 0
        split <;> rfl
    rw [this, sumR_zero]
    rfl
  | k :: lot, h => by
    have ih := parity hends S lot fun x hx => h x (List.mem_cons_of_mem _ hx)
    have hk := h k (List.mem_cons_self ..)
    have ht : ts[k]? = some ts[k] := List.getElem?_eq_getElem hk
    generalize ts[k] = t at ht
    have he := hends t (List.mem_of_getElem? ht)
    have e1 : sumR n (fun p => if side S p = true then degE ts (k :: lot) p else 0) = (sumR n (fun p => if p = t.1 then b2 (side S t.1) else 0) + sumR n (fun p => if p = t.2 then b2 (side S t.2) else 0)) +
        sumR n (fun p => if side S p = true then degE ts lot p else 0) := by
      rw [← sumR_add, ← sumR_add]
      refine sumR_congr fun p _ => ?_
      rw [degE_cons]
      have ea : atE ts p k = decide (t.1 = p ∨ t.2 = p) := by
        unfold atE
        rw [ht]
      rw [ea]
      by_cases h1 : p = t.1
      · subst h1
        rw [if_neg (show ¬ t.1 = t.2 by omega), if_pos rfl]
        cases hs : side S t.1 <;> simp [b2]
      · by_cases h2 : p = t.2
        · subst h2
          rw [if_neg h1, if_pos rfl]
          cases hs : side S t.2 <;> simp [b2]
        · rw [if_neg h1, if_neg h2]
          have : decide (t.1 = p ∨ t.2 = p) = false := decide_eq_false (by omega)
          rw [this]
          simp [b2]
    rw [e1, sumR_one, sumR_one, if_pos (show t.1 < n by omega), if_pos he.2, crossN_cons]
    have ec : crossK ts S k = Bool.xor (side S t.1) (side S t.2) := by
      unfold crossK
      rw [ht]
      exact crosses_xor S t
    rw [ec]
    have : (b2 (side S t.1) + b2 (side S t.2)) % 2 = b2 (Bool.xor (side S t.1) (side S t.2)) % 2 := by
      cases side S t.1 <;> cases side S t.2 <;> rfl
    omega
def EvenE (n : Nat) (ts : List Tie) (lot : List Nat) : Prop := ∀ p, p < n → degE ts lot p % 2 = 0
theorem even_cross {n : Nat} {ts : List Tie} (hends : ∀ t ∈ ts, t.1 < t.2 ∧ t.2 < n) {lot : List Nat} (hl : ∀ k ∈ lot, k < ts.length) (h : EvenE n ts lot) (S : List Nat) : crossN ts S lot % 2 = 0 := by
  rw [← parity hends S lot hl]
  refine sumR_even fun p hp => ?_
  split
  · exact h p hp
  · rfl
/-- ties taken one behind another, none of which closes a round -/
inductive Forest (ts : List Tie) : List Nat → Prop
  | nil : Forest ts []
  | snoc {l : List Nat} {k : Nat} {t : Tie} : Forest ts l → ts[k]? = some t → k ∉ l → (∀ w, Way ts t.1 w t.2 → (∀ x ∈ w, x ∈ l) → False) → Forest ts (l ++ [k])
open Classical in
theorem forest_even {n : Nat} {ts : List Tie} (hends : ∀ t ∈ ts, t.1 < t.2 ∧ t.2 < n) {l : List Nat} (hF : Forest ts l) : ∀ lot : List Nat, lot.Nodup → (∀ k ∈ lot, k ∈ l) → (∀ k ∈ l, k < ts.length) → EvenE n ts lot → lot = [] := by
  induction hF with
  | nil =>
    intro lot _ h _ _
    cases lot with
    | nil => rfl
    | cons k lot => exact absurd (h k (List.mem_cons_self ..)) (by simp)
  | @snoc l k t hF ht hk hno ih =>
    intro lot hn h hlt hev
    by_cases hm : k ∈ lot
    · exfalso
      have hends2 := hends t (List.mem_of_getElem? ht)
      let S : List Nat := (List.range n).filter fun p => decide (∃ w, Way ts t.1 w p ∧ ∀ x ∈ w, x ∈ l)
      have inS : ∀ p, p < n → (side S p = true ↔ ∃ w, Way ts t.1 w p ∧ ∀ x ∈ w, x ∈ l) := fun p hp => by
        unfold side
        rw [decide_eq_true_eq, List.mem_filter, List.mem_range, decide_eq_true_eq]
        exact ⟨fun z => z.2, fun z => ⟨hp, z⟩⟩
      have c := even_cross hends (fun x hx => hlt x (h x hx)) hev S
      have e : lot.filter (crossK ts S) = lot.filter (· == k) := by
        refine List.filter_congr fun x hx => ?_
        have hxl := h x hx
        by_cases e : x = k
        · subst e
          unfold crossK
          rw [ht]
          show crosses S t = (x == x)
          rw [crosses_xor]
          have a1 : side S t.1 = true := (inS t.1 (by omega)).mpr ⟨[], .nil, by simp⟩
          have a2 : side S t.2 = false := Bool.eq_false_iff.mpr fun z => by
            obtain ⟨w, h1, h2⟩ := (inS t.2 hends2.2).mp z
            exact hno w h1 h2
          rw [a1, a2]
          simp
        · have hxl2 : x ∈ l := by
            rcases List.mem_append.mp hxl with z | z
            · exact z
            · exact absurd (List.mem_singleton.mp z) e
          have hx2 := hlt x hxl
          have htx : ts[x]? = some ts[x] := List.getElem?_eq_getElem hx2
          generalize ts[x] = u at htx
          have hu := hends u (List.mem_of_getElem? htx)
          unfold crossK
          rw [htx]
          show crosses S u = (x == k)
          rw [crosses_xor]
          have : side S u.1 = side S u.2 := by
            rw [Bool.eq_iff_iff, inS u.1 (by omega), inS u.2 hu.2]
            constructor
            · rintro ⟨w, h1, h2⟩
              exact ⟨w ++ [x], .snoc h1 htx (.inl ⟨rfl, rfl⟩), fun y hy => by
                rcases List.mem_append.mp hy with z | z
                · exact h2 y z
                · rw [List.mem_singleton.mp z]
                  exact hxl2⟩
            · rintro ⟨w, h1, h2⟩
              exact ⟨w ++ [x], .snoc h1 htx (.inr ⟨rfl, rfl⟩), fun y hy => by
                rcases List.mem_append.mp hy with z | z
                · exact h2 y z
                · rw [List.mem_singleton.mp z]
                  exact hxl2⟩
          rw [this]
          have : (x == k) = false := by simpa using e
          rw [this]
          cases side S u.2 <;> rfl
      have e2 : (lot.filter (· == k)).length = 1 := by
        have := hn.count (a := k)
        rw [if_pos hm] at this
        rw [← List.countP_eq_length_filter]
        exact this
      unfold crossN at c
      rw [e, e2] at c
      exact absurd c (by decide)
    · exact ih lot hn (fun x hx => by
        rcases List.mem_append.mp (h x hx) with z | z
        · exact z
        · rw [List.mem_singleton.mp z] at hx
          exact absurd hx hm) (fun x hx => hlt x (List.mem_append_left _ hx)) hev
/-! ### lots and their sums -/
theorem degE_app (ts : List Tie) (l m : List Nat) (p : Nat) : degE ts (l ++ m) p = degE ts l p + degE ts m p := by
  unfold degE
  rw [List.filter_append, List.length_append]
theorem degE_perm {ts : List Tie} {l m : List Nat} (h : l.Perm m) (p : Nat) : degE ts l p = degE ts m p := (h.filter _).length_eq
theorem degE_split (ts : List Tie) (f : Nat → Bool) (l : List Nat) (p : Nat) : degE ts l p = degE ts (l.filter f) p + degE ts (l.filter fun k => !f k) p := by
  induction l with
  | nil => rfl
  | cons k l ih =>
    rw [degE_cons, List.filter_cons, List.filter_cons, ih]
    cases f k
    · rw [if_neg (by decide), if_pos (by decide), degE_cons]
      omega
    · rw [if_pos rfl, if_neg (by decide), degE_cons]
      omega
def symE (l m : List Nat) : List Nat := l.filter (fun k => !decide (k ∈ m)) ++ m.filter fun k => !decide (k ∈ l)
theorem mem_symE {l m : List Nat} {k : Nat} : k ∈ symE l m ↔ (k ∈ l ∧ k ∉ m) ∨ (k ∈ m ∧ k ∉ l) := by
  unfold symE
  rw [List.mem_append, List.mem_filter, List.mem_filter]
  simp
theorem symE_nodup {l m : List Nat} (hl : l.Nodup) (hm : m.Nodup) : (symE l m).Nodup := by
  unfold symE
  rw [List.nodup_append]
  refine ⟨hl.filter _, hm.filter _, fun x hx y hy e => ?_⟩
  subst e
  have z1 := (List.mem_filter.mp hx).1
  have z2 := (List.mem_filter.mp hy).2
  simp [z1] at z2
theorem degE_sym {ts : List Tie} {l m : List Nat} (hl : l.Nodup) (hm : m.Nodup) (p : Nat) : degE ts (symE l m) p % 2 = (degE ts l p + degE ts m p) % 2 := by
  have e1 := degE_split ts (fun k => decide (k ∈ m)) l p
  have e2 := degE_split ts (fun k => decide (k ∈ l)) m p
  have e3 : degE ts (l.filter fun k => decide (k ∈ m)) p = degE ts (m.filter fun k => decide (k ∈ l)) p := by
    refine degE_perm ((List.perm_ext_iff_of_nodup (hl.filter _) (hm.filter _)).mpr fun k => ?_) p
    rw [List.mem_filter, List.mem_filter, decide_eq_true_eq, decide_eq_true_eq]
    exact And.comm
  unfold symE
  rw [degE_app]
  omega
/-- the sum of two lots of L ties -/
def sumL (L : Nat) (l m : List Nat) : List Nat := (List.range L).filter fun k => Bool.xor (decide (k ∈ l)) (decide (k ∈ m))
theorem sumL_lot (L : Nat) (l m : List Nat) : LotA L (sumL L l m) := ⟨List.pairwise_lt_range.filter _, fun k hk => List.mem_range.mp (List.mem_filter.mp hk).1⟩
theorem mem_sumL {L : Nat} {l m : List Nat} {k : Nat} : k ∈ sumL L l m ↔ k < L ∧ ((k ∈ l ∧ k ∉ m) ∨ (k ∈ m ∧ k ∉ l)) := by
  unfold sumL
  rw [List.mem_filter, List.mem_range]
  by_cases h1 : k ∈ l <;> by_cases h2 : k ∈ m <;> simp [h1, h2]
theorem LotA.nd {L : Nat} {l : List Nat} (h : LotA L l) : l.Nodup := h.1.imp fun z => Nat.ne_of_lt z
theorem lot_ext {L : Nat} {l m : List Nat} (hl : LotA L l) (hm : LotA L m) (h : ∀ k, k < L → (k ∈ l ↔ k ∈ m)) : l = m :=
  asc_uniq hl.1 hm.1 fun k => ⟨fun z => (h k (hl.2 k z)).mp z, fun z => (h k (hm.2 k z)).mpr z⟩
theorem sumL_perm {L : Nat} {l m : List Nat} (hl : LotA L l) (hm : LotA L m) : (sumL L l m).Perm (symE l m) := by
  refine (List.perm_ext_iff_of_nodup (sumL_lot L l m).nd (symE_nodup hl.nd hm.nd)).mpr fun k => ?_
  rw [mem_sumL, mem_symE]
  constructor
  · exact fun z => z.2
  · intro z
    refine ⟨?_, z⟩
    rcases z with z | z
    · exact hl.2 k z.1
    · exact hm.2 k z.1
theorem sumL_even {n : Nat} {ts : List Tie} {L : Nat} {l m : List Nat} (hl : LotA L l) (hm : LotA L m) (h1 : EvenE n ts l) (h2 : EvenE n ts m) : EvenE n ts (sumL L l m) := fun p hp => by
  rw [degE_perm (sumL_perm hl hm), degE_sym hl.nd hm.nd]
  have := h1 p hp
  have := h2 p hp
  omega
theorem sumL_back {L : Nat} {l m : List Nat} (hl : LotA L l) : sumL L (sumL L l m) m = l := by
  refine lot_ext (sumL_lot _ _ _) hl fun k hk => ?_
  rw [mem_sumL, mem_sumL]
  by_cases h1 : k ∈ l <;> by_cases h2 : k ∈ m <;> simp [h1, h2, hk]
/-! ### ways as lots -/
theorem way_deg {n : Nat} {ts : List Tie} (hends : ∀ t ∈ ts, t.1 < t.2 ∧ t.2 < n) {a q : Nat} {w : List Nat} (h : Way ts a w q) (p : Nat) : degE ts w p % 2 = (b2 (decide (p = a)) + b2 (decide (p = q))) % 2 := by
  induction h with
  | nil =>
    show 0 % 2 = _
    cases decide (p = a) <;> rfl
  | @snoc w r k q t hw ht he ih =>
    have hte := hends t (List.mem_of_getElem? ht)
    have e : degE ts [k] p = b2 (decide (p = r)) + b2 (decide (p = q)) := by
      rw [degE_cons]
      have ea : atE ts p k = decide (t.1 = p ∨ t.2 = p) := by
        unfold atE
        rw [ht]
      rw [ea]
      show _ + 0 = _
      rcases he with ⟨rfl, rfl⟩ | ⟨rfl, rfl⟩
      · by_cases h1 : p = t.1
        · subst h1
          rw [decide_eq_true (.inl rfl), decide_eq_true rfl, decide_eq_false (by omega)]
          rfl
        · by_cases h2 : p = t.2
          · subst h2
            rw [decide_eq_true (.inr rfl), decide_eq_true rfl, decide_eq_false h1]
            rfl
          · rw [decide_eq_false h1, decide_eq_false h2, decide_eq_false (by omega)]
            rfl
      · by_cases h1 : p = t.1
        · subst h1
          rw [decide_eq_true (.inl rfl), decide_eq_true rfl, decide_eq_false (by omega)]
          rfl
        · by_cases h2 : p = t.2
          · subst h2
            rw [decide_eq_true (.inr rfl), decide_eq_true rfl, decide_eq_false h1]
            rfl
          · rw [decide_eq_false h1, decide_eq_false h2, decide_eq_false (by omega)]
            rfl
    rw [degE_app, e]
    have hx : (b2 (decide (p = r)) + b2 (decide (p = r))) % 2 = 0 := by omega
    omega
theorem round_even {n : Nat} {ts : List Tie} (hends : ∀ t ∈ ts, t.1 < t.2 ∧ t.2 < n) {w : List Nat} {k : Nat} {t : Tie} (ht : ts[k]? = some t) (h : Way ts t.1 w t.2) : EvenE n ts (w ++ [k]) := fun p _ => by
  have h2 : Way ts t.1 (w ++ [k]) t.1 := .snoc h ht (.inr ⟨rfl, rfl⟩)
  rw [way_deg hends h2]
  omega
/-- in a lot without a round there is one way -/
theorem way_one {n : Nat} {ts : List Tie} (hends : ∀ t ∈ ts, t.1 < t.2 ∧ t.2 < n) {l : List Nat} (hF : Forest ts l) (hl : ∀ k ∈ l, k < ts.length) {a q : Nat} {v w : List Nat} (hv : Way ts a v q) (hw : Way ts a w q)
    (nv : v.Nodup) (nw : w.Nodup) (lv : ∀ k ∈ v, k ∈ l) (lw : ∀ k ∈ w, k ∈ l) : v.Perm w := by
  have e := forest_even hends hF (symE v w) (symE_nodup nv nw) (fun k hk => by
    rcases mem_symE.mp hk with z | z
    · exact lv k z.1
    · exact lw k z.1) hl fun p hp => by
      rw [degE_sym nv nw]
      have h1 := way_deg hends hv p
      have h2 := way_deg hends hw p
      omega
  refine (List.perm_ext_iff_of_nodup nv nw).mpr fun k => ?_
  have hn : k ∉ symE v w := by
    rw [e]
    simp
  rw [mem_symE] at hn
  by_cases h1 : k ∈ v <;> by_cases h2 : k ∈ w <;> simp [h1, h2] at hn ⊢
/-! ### all sums of the rounds of a tree -/
/-- a round for each tie c, which has none of the others but ties of l -/
def Founds (n : Nat) (ts : List Tie) (l : List Nat) (cs : List Nat) (R : Nat → List Nat) : Prop :=
  ∀ c ∈ cs, LotA ts.length (R c) ∧ EvenE n ts (R c) ∧ c ∈ R c ∧ c ∉ l ∧ ∀ k ∈ R c, k = c ∨ k ∈ l
def sumsOf (L : Nat) (R : Nat → List Nat) : List Nat → List (List Nat)
  | [] => [[]]
  | c :: cs => sumsOf L R cs ++ (sumsOf L R cs).map fun o => sumL L o (R c)
theorem sums_are {n : Nat} {ts : List Tie} (hends : ∀ t ∈ ts, t.1 < t.2 ∧ t.2 < n) {l : List Nat} (hF : Forest ts l) (hl : ∀ k ∈ l, k < ts.length) {R : Nat → List Nat} :
    ∀ {cs : List Nat}, cs.Nodup → Founds n ts l cs R → (sumsOf ts.length R cs).Nodup ∧ ∀ E : List Nat, E ∈ sumsOf ts.length R cs ↔ LotA ts.length E ∧ EvenE n ts E ∧ ∀ k ∈ E, k ∈ l ∨ k ∈ cs
  | [], _, _ => by
    refine ⟨by simp [sumsOf], fun E => ?_⟩
    simp only [sumsOf, List.mem_singleton, List.not_mem_nil, or_false]
    constructor
    · rintro rfl
      exact ⟨⟨List.Pairwise.nil, fun _ h => nomatch h⟩, fun _ _ => rfl, fun _ h => nomatch h⟩
    · rintro ⟨h1, h2, h3⟩
      exact forest_even hends hF E h1.nd h3 hl h2
  | c :: cs, hn, hR => by
    obtain ⟨hc, hn2⟩ := List.nodup_cons.mp hn
    obtain ⟨ih1, ih2⟩ := sums_are hends hF hl hn2 fun x hx => hR x (List.mem_cons_of_mem _ hx)
    obtain ⟨r1, r2, r3, r4, r5⟩ := hR c (List.mem_cons_self ..)
    have noc : ∀ E ∈ sumsOf ts.length R cs, c ∉ E := fun E hE hcE => by
      rcases ((ih2 E).mp hE).2.2 c hcE with z | z
      · exact r4 z
      · exact hc z
    refine ⟨?_, fun E => ?_⟩
    · show (sumsOf ts.length R cs ++ (sumsOf ts.length R cs).map fun o => sumL ts.length o (R c)).Nodup
      rw [List.nodup_append]
      refine ⟨ih1, ?_, fun x hx y hy e => ?_⟩
      · refine (List.pairwise_map).mpr (ih1.imp_of_mem fun {x y} hx hy hxy e => hxy ?_)
        rw [← sumL_back (m := R c) ((ih2 x).mp hx).1, e, sumL_back ((ih2 y).mp hy).1]
      · subst e
        obtain ⟨o, ho, rfl⟩ := List.mem_map.mp hy
        refine noc _ hx (mem_sumL.mpr ⟨r1.2 c r3, .inr ⟨r3, noc o ho⟩⟩)
    · show E ∈ sumsOf ts.length R cs ++ (sumsOf ts.length R cs).map (fun o => sumL ts.length o (R c)) ↔ _
      rw [List.mem_append]
      constructor
      · rintro (h | h)
        · obtain ⟨h1, h2, h3⟩ := (ih2 E).mp h
          exact ⟨h1, h2, fun k hk => (h3 k hk).imp id (List.mem_cons_of_mem _)⟩
        · obtain ⟨o, ho, rfl⟩ := List.mem_map.mp h
          obtain ⟨h1, h2, h3⟩ := (ih2 o).mp ho
          refine ⟨sumL_lot _ _ _, sumL_even h1 r1 h2 r2, fun k hk => ?_⟩
          rcases (mem_sumL.mp hk).2 with z | z
          · exact (h3 k z.1).imp id (List.mem_cons_of_mem _)
          · rcases r5 k z.1 with e | e
            · exact .inr (by rw [e]; exact List.mem_cons_self ..)
            · exact .inl e
      · rintro ⟨h1, h2, h3⟩
        by_cases hcE : c ∈ E
        · refine .inr (List.mem_map.mpr ⟨sumL ts.length E (R c), (ih2 _).mpr ⟨sumL_lot _ _ _, sumL_even h1 r1 h2 r2, fun k hk => ?_⟩, sumL_back h1⟩)
          rcases (mem_sumL.mp hk).2 with z | z
          · rcases h3 k z.1 with e | e
            · exact .inl e
            · rcases List.mem_cons.mp e with e | e
              · exact absurd r3 (by rw [← e]; exact fun q => z.2 (by rw [e]; exact r3))
              · exact .inr e
          · rcases r5 k z.1 with e | e
            · exact absurd hcE (by rw [← e]; exact z.2)
            · exact .inl e
        · refine .inl ((ih2 E).mpr ⟨h1, h2, fun k hk => ?_⟩)
          rcases h3 k hk with e | e
          · exact .inl e
          · rcases List.mem_cons.mp e with e | e
            · exact absurd hk (by rw [e]; exact hcE)
            · exact .inr e
end BV

namespace BV
open PySem L2
/-! the first tree of a web -/
theorem Way.trans {ts : List Tie} {a p q : Nat} {w v : List Nat} (h1 : Way ts a w p) (h2 : Way ts p v q) : Way ts a (w ++ v) q := by
  induction h2 with
  | nil =>
    rw [List.append_nil]
    exact h1
  | snoc _ ht he ih =>
    rw [← List.append_assoc]
    exact .snoc ih ht he
def Conn (ts : List Tie) (es : List Nat) (p q : Nat) : Prop := ∃ w, Way ts p w q ∧ ∀ x ∈ w, x ∈ es
theorem Conn.refl {ts : List Tie} {es : List Nat} (p : Nat) : Conn ts es p p := ⟨[], .nil, fun _ h => nomatch h⟩
theorem Conn.trans {ts : List Tie} {es : List Nat} {p q r : Nat} (h1 : Conn ts es p q) (h2 : Conn ts es q r) : Conn ts es p r := by
  obtain ⟨w, a1, a2⟩ := h1
  obtain ⟨v, b1, b2⟩ := h2
  exact ⟨w ++ v, a1.trans b1, fun x hx => (List.mem_append.mp hx).elim (a2 x) (b2 x)⟩
theorem Conn.step {ts : List Tie} {es : List Nat} {k : Nat} {t : Tie} {p q : Nat} (hk : k ∈ es) (ht : ts[k]? = some t) (he : t.1 = p ∧ t.2 = q ∨ t.2 = p ∧ t.1 = q) : Conn ts es p q :=
  ⟨[] ++ [k], .snoc .nil ht he, fun x hx => by
    have : x = k := by simpa using hx
    rw [this]
    exact hk⟩
theorem Conn.mono {ts : List Tie} {es fs : List Nat} {p q : Nat} (h : Conn ts es p q) (m : ∀ x ∈ es, x ∈ fs) : Conn ts fs p q := by
  obtain ⟨w, h1, h2⟩ := h
  exact ⟨w, h1, fun x hx => m x (h2 x hx)⟩
theorem way_back {ts : List Tie} {es : List Nat} {p q : Nat} {w : List Nat} (h : Way ts p w q) : (∀ x ∈ w, x ∈ es) → Conn ts es q p := by
  induction h with
  | nil => exact fun _ => .refl _
  | @snoc w r k q t hw ht he ih =>
    intro hx
    have h1 := ih fun x hx2 => hx x (List.mem_append_left _ hx2)
    refine Conn.trans (Conn.step (hx k (List.mem_append_right _ (List.mem_singleton.mpr rfl))) ht ?_) h1
    rcases he with ⟨e1, e2⟩ | ⟨e1, e2⟩
    · exact .inr ⟨e2, e1⟩
    · exact .inl ⟨e2, e1⟩
theorem Conn.symm {ts : List Tie} {es : List Nat} {p q : Nat} (h : Conn ts es p q) : Conn ts es q p := by
  obtain ⟨w, h1, h2⟩ := h
  exact way_back h1 h2
open Classical in
/-- the ties that are taken of the first i ones -/
noncomputable def treeL (ts : List Tie) : Nat → List Nat
  | 0 => []
  | i + 1 => match ts[i]? with
    | some t => if Conn ts (treeL ts i) t.1 t.2 then treeL ts i else treeL ts i ++ [i]
    | none => treeL ts i
theorem tree_yes {ts : List Tie} {i : Nat} {t : Tie} (ht : ts[i]? = some t) (h : Conn ts (treeL ts i) t.1 t.2) : treeL ts (i + 1) = treeL ts i := by
  rw [treeL, ht]
  exact if_pos h
theorem tree_no {ts : List Tie} {i : Nat} {t : Tie} (ht : ts[i]? = some t) (h : ¬ Conn ts (treeL ts i) t.1 t.2) : treeL ts (i + 1) = treeL ts i ++ [i] := by
  rw [treeL, ht]
  exact if_neg h
theorem tree_lot (ts : List Tie) : ∀ i, i ≤ ts.length → LotA i (treeL ts i)
  | 0, _ => ⟨List.Pairwise.nil, fun _ h => nomatch h⟩
  | i + 1, hi => by
    have ih := tree_lot ts i (by omega)
    have ht : ts[i]? = some ts[i] := List.getElem?_eq_getElem (by omega)
    by_cases h : Conn ts (treeL ts i) ts[i].1 ts[i].2
    · rw [tree_yes ht h]
      exact ⟨ih.1, fun k hk => Nat.lt_succ_of_lt (ih.2 k hk)⟩
    · rw [tree_no ht h]
      refine ⟨?_, fun k hk => ?_⟩
      · rw [List.pairwise_append]
        refine ⟨ih.1, List.pairwise_singleton _ _, fun x hx y hy => ?_⟩
        rw [List.mem_singleton.mp hy]
        exact ih.2 x hx
      · rcases List.mem_append.mp hk with z | z
        · exact Nat.lt_succ_of_lt (ih.2 k z)
        · rw [List.mem_singleton.mp z]
          exact Nat.lt_succ_self i
theorem tree_forest (ts : List Tie) : ∀ i, i ≤ ts.length → Forest ts (treeL ts i)
  | 0, _ => .nil
  | i + 1, hi => by
    have ih := tree_forest ts i (by omega)
    have hl := tree_lot ts i (by omega)
    have ht : ts[i]? = some ts[i] := List.getElem?_eq_getElem (by omega)
    by_cases h : Conn ts (treeL ts i) ts[i].1 ts[i].2
    · rw [tree_yes ht h]
      exact ih
    · rw [tree_no ht h]
      exact .snoc ih ht (fun z => Nat.lt_irrefl _ (hl.2 i z)) fun w h1 h2 => h ⟨w, h1, h2⟩
theorem tree_mono {ts : List Tie} {i : Nat} : ∀ {j}, i ≤ j → ∀ x ∈ treeL ts i, x ∈ treeL ts j
  | 0, h, x, hx => by
    obtain rfl : i = 0 := by omega
    exact hx
  | j + 1, h, x, hx => by
    by_cases e : i = j + 1
    · subst e
      exact hx
    · have ih := tree_mono (ts := ts) (i := i) (j := j) (by omega) x hx
      rw [treeL]
      split
      · split
        · exact ih
        · exact List.mem_append_left _ ih
      · exact ih
/-- a tie is taken just if its ends hang not together along those ahead -/
theorem tree_mem {ts : List Tie} {k : Nat} {t : Tie} (ht : ts[k]? = some t) : ∀ {i}, k < i → i ≤ ts.length → (k ∈ treeL ts i ↔ ¬ Conn ts (treeL ts k) t.1 t.2)
  | 0, h, _ => by omega
  | i + 1, h, hi => by
    have hl := tree_lot ts i (by omega)
    have hti : ts[i]? = some ts[i] := List.getElem?_eq_getElem (by omega)
    by_cases e : k = i
    · subst e
      rw [ht] at hti
      have hti2 := Option.some.inj hti
      by_cases hc : Conn ts (treeL ts k) t.1 t.2
      · rw [tree_yes ht hc]
        exact ⟨fun z => absurd (hl.2 k z) (Nat.lt_irrefl _), fun z => absurd hc z⟩
      · rw [tree_no ht hc]
        exact ⟨fun _ => hc, fun _ => List.mem_append_right _ (List.mem_singleton.mpr rfl)⟩
    · rw [← tree_mem ht (i := i) (by omega) (by omega)]
      by_cases hc : Conn ts (treeL ts i) ts[i].1 ts[i].2
      · rw [tree_yes hti hc]
      · rw [tree_no hti hc, List.mem_append, List.mem_singleton]
        exact ⟨fun z => z.resolve_right e, .inl⟩
theorem tree_ends {ts : List Tie} {k : Nat} {t : Tie} (ht : ts[k]? = some t) : Conn ts (treeL ts ts.length) t.1 t.2 := by
  have hk := (List.getElem?_eq_some_iff.mp ht).1
  by_cases hc : Conn ts (treeL ts k) t.1 t.2
  · exact hc.mono (tree_mono (by omega))
  · exact .step ((tree_mem ht hk (Nat.le_refl _)).mpr hc) ht (.inl ⟨rfl, rfl⟩)
theorem tree_all {n : Nat} {ts : List Tie} (hok : WebOk n ts) : ∀ p, p < n → Conn ts (treeL ts ts.length) 0 p :=
  all_found hok (F := fun p => Conn ts (treeL ts ts.length) 0 p) (.refl 0) fun t ht h => by
    obtain ⟨k, hk⟩ := List.mem_iff_getElem?.mp ht
    exact h.trans (tree_ends hk)
/-! names of the parts -/
def numL (n : Nat) (lab : Nat → Nat) : Nat := ((List.range n).filter fun x => decide (x ∈ (List.range n).map lab)).length
structure Lab (n : Nat) (ts : List Tie) (tk : List Nat) (lab : Nat → Nat) : Prop where
  lt : ∀ p, p < n → lab p < n
  conn : ∀ p q, p < n → q < n → (lab p = lab q ↔ Conn ts tk p q)
  num : numL n lab + tk.length = n
theorem mem_lab {n : Nat} {lab : Nat → Nat} {x : Nat} : x ∈ (List.range n).map lab ↔ ∃ p, p < n ∧ lab p = x := by
  rw [List.mem_map]
  exact ⟨fun ⟨p, h1, h2⟩ => ⟨p, List.mem_range.mp h1, h2⟩, fun ⟨p, h1, h2⟩ => ⟨p, List.mem_range.mpr h1, h2⟩⟩
theorem lab_start (n : Nat) (ts : List Tie) : Lab n ts [] id := by
  refine ⟨fun p hp => hp, fun p q _ _ => ⟨fun e => by rw [show p = q from e]; exact .refl q, fun ⟨w, h1, h2⟩ => ?_⟩, ?_⟩
  · cases h1 with
    | nil => rfl
    | @snoc w' r k _ _ _ _ _ => exact absurd (h2 k (List.mem_append_right _ (List.mem_singleton.mpr rfl))) (by simp)
  · unfold numL
    have e : ((List.range n).filter fun x => decide (x ∈ (List.range n).map id)) = List.range n := List.filter_eq_self.mpr fun x hx => decide_eq_true (mem_lab.mpr ⟨x, List.mem_range.mp hx, rfl⟩)
    rw [e, List.length_range]
    rfl
theorem lab_step {n : Nat} {ts : List Tie} {tk : List Nat} {lab : Nat → Nat} (hends : ∀ t ∈ ts, t.1 < t.2 ∧ t.2 < n) (h : Lab n ts tk lab) {i : Nat} {t : Tie} (ht : ts[i]? = some t) (hne : lab t.1 ≠ lab t.2) :
    Lab n ts (tk ++ [i]) (fun p => if lab p = lab t.2 then lab t.1 else lab p) := by
  have hte := hends t (List.mem_of_getElem? ht)
  have h1n : t.1 < n := by omega
  have mem_i : i ∈ tk ++ [i] := List.mem_append_right _ (List.mem_singleton.mpr rfl)
  have mono : ∀ x ∈ tk, x ∈ tk ++ [i] := fun x hx => List.mem_append_left _ hx
  refine ⟨fun p hp => ?_, fun p q hp hq => ⟨fun e => ?_, fun ⟨w, h1, h2⟩ => ?_⟩, ?_⟩
  · show (if lab p = lab t.2 then lab t.1 else lab p) < n
    split
    · exact h.lt _ h1n
    · exact h.lt p hp
  · have e' : (if lab p = lab t.2 then lab t.1 else lab p) = (if lab q = lab t.2 then lab t.1 else lab q) := e
    by_cases a : lab p = lab t.2
    · by_cases b : lab q = lab t.2
      · exact ((h.conn p q hp hq).mp (a.trans b.symm)).mono mono
      · rw [if_pos a, if_neg b] at e'
        exact (((h.conn p t.2 hp hte.2).mp a).mono mono).trans ((Conn.step mem_i ht (.inr ⟨rfl, rfl⟩)).trans (((h.conn t.1 q h1n hq).mp e').mono mono))
    · by_cases b : lab q = lab t.2
      · rw [if_neg a, if_pos b] at e'
        exact (((h.conn p t.1 hp h1n).mp e').mono mono).trans ((Conn.step mem_i ht (.inl ⟨rfl, rfl⟩)).trans (((h.conn t.2 q hte.2 hq).mp b.symm).mono mono))
      · rw [if_neg a, if_neg b] at e'
        exact ((h.conn p q hp hq).mp e').mono mono
  · have key : ∀ {w : List Nat} {q : Nat}, Way ts p w q → (∀ x ∈ w, x ∈ tk ++ [i]) → q < n ∧ (if lab p = lab t.2 then lab t.1 else lab p) = (if lab q = lab t.2 then lab t.1 else lab q) := fun {w q} hw => by
      induction hw with
      | nil => exact fun _ => ⟨hp, rfl⟩
      | @snoc w r k q u hw hu he ih =>
        intro hx
        obtain ⟨hr, e1⟩ := ih fun x hx2 => hx x (List.mem_append_left _ hx2)
        have hue := hends u (List.mem_of_getElem? hu)
        have hq : q < n := by
          rcases he with ⟨_, e2⟩ | ⟨_, e2⟩ <;> omega
        refine ⟨hq, e1.trans ?_⟩
        rcases List.mem_append.mp (hx k (List.mem_append_right _ (List.mem_singleton.mpr rfl))) with z | z
        · rw [(h.conn r q hr hq).mpr (.step z hu he)]
        · obtain rfl : k = i := List.mem_singleton.mp z
          rw [ht] at hu
          cases hu
          rcases he with ⟨rfl, rfl⟩ | ⟨rfl, rfl⟩
          · rw [if_neg hne, if_pos rfl]
          · rw [if_neg hne, if_pos rfl]
    exact (key h1 h2).2
  · have nd : ((List.range n).filter fun x => decide (x ∈ (List.range n).map lab)).Nodup := List.nodup_range.filter _
    have hb : lab t.2 ∈ (List.range n).filter fun x => decide (x ∈ (List.range n).map lab) := List.mem_filter.mpr ⟨List.mem_range.mpr (h.lt _ hte.2), decide_eq_true (mem_lab.mpr ⟨t.2, hte.2, rfl⟩)⟩
    have e : ((List.range n).filter fun x => decide (x ∈ (List.range n).map fun p => if lab p = lab t.2 then lab t.1 else lab p)) = ((List.range n).filter fun x => decide (x ∈ (List.range n).map lab)).erase (lab t.2) := by
      rw [nd.erase_eq_filter, List.filter_filter]
      refine List.filter_congr fun x _ => ?_
      rw [Bool.eq_iff_iff, Bool.and_eq_true, decide_eq_true_eq, decide_eq_true_eq, mem_lab, mem_lab, bne_iff_ne]
      constructor
      · rintro ⟨p, hp, e⟩
        by_cases a : lab p = lab t.2
        · rw [if_pos a] at e
          exact ⟨fun z => hne (e.trans z), t.1, h1n, e⟩
        · rw [if_neg a] at e
          exact ⟨fun z => a (e.trans z), p, hp, e⟩
      · rintro ⟨hx, p, hp, e⟩
        exact ⟨p, hp, by rw [if_neg (fun a => hx (e.symm.trans a)), e]⟩
    have hn := h.num
    unfold numL at hn ⊢
    rw [e, List.length_erase_of_mem hb, List.length_append, List.length_singleton]
    have := List.length_pos_of_mem hb
    omega
theorem lab_tree {n : Nat} {ts : List Tie} (hends : ∀ t ∈ ts, t.1 < t.2 ∧ t.2 < n) : ∀ i, i ≤ ts.length → ∃ lab, Lab n ts (treeL ts i) lab
  | 0, _ => ⟨id, lab_start n ts⟩
  | i + 1, hi => by
    obtain ⟨lab, h⟩ := lab_tree hends i (by omega)
    have ht : ts[i]? = some ts[i] := List.getElem?_eq_getElem (by omega)
    have hte := hends _ (List.mem_of_getElem? ht)
    by_cases hc : Conn ts (treeL ts i) ts[i].1 ts[i].2
    · rw [tree_yes ht hc]
      exact ⟨lab, h⟩
    · rw [tree_no ht hc]
      exact ⟨_, lab_step hends h ht fun e => hc ((h.conn _ _ (by omega) hte.2).mp e)⟩
theorem tree_len {n : Nat} {ts : List Tie} (hok : WebOk n ts) : (treeL ts ts.length).length + 1 = n := by
  obtain ⟨lab, h⟩ := lab_tree hok.ends ts.length (Nat.le_refl _)
  have hpos := hok.pos
  have hn := h.num
  have e : ((List.range n).filter fun x => decide (x ∈ (List.range n).map lab)) = (List.range n).filter (· == lab 0) := by
    refine List.filter_congr fun x _ => ?_
    rw [Bool.eq_iff_iff, decide_eq_true_eq, beq_iff_eq, mem_lab]
    constructor
    · rintro ⟨p, hp, e⟩
      rw [← e]
      exact ((h.conn 0 p hpos hp).mpr (tree_all hok p hp)).symm
    · exact fun e => ⟨0, hpos, e.symm⟩
  have e2 : ((List.range n).filter (· == lab 0)).length = 1 := by
    have := (List.nodup_range (n := n)).count (a := lab 0)
    rw [if_pos (List.mem_range.mpr (h.lt 0 hpos))] at this
    rw [← List.countP_eq_length_filter]
    exact this
  unfold numL at hn
  rw [e, e2] at hn
  omega
end BV

/-! sorted(xs), xs a list of tuples of whole numbers, the first of them () -/
namespace BV
open PySem PySem.W PySem.Calls PySem.SeqAt PyProof.Rows
section
variable {prog : Program} {w : World} {A : Around} {E : Value → Shared → Prop} {s : Shared}
theorem call_tuple_lt {Q : Value → Shared → Prop} {l b : Addr} {items items2 : Array Value} {e r : Nat → Bool} (hl : s.heap.IsTuple l items) (hb : s.heap.IsTuple b items2)
    (he : ∀ j (h1 : j < items.size) (h2 : j < items2.size), EqAt A.in1 s items[j] items2[j] (e j)) (hr : ∀ j (h1 : j < items.size) (h2 : j < items2.size), e j = false → RcLt A.in1 s items[j] items2[j] (r j))
    (h : Q (.bool (firstLt e r (decide (items.size < items2.size)) (List.range (min items.size items2.size)))) s) : wpAny (model prog w) A (call (.builtin "tuple.__lt__") [.ref l, .ref b]) Q E s := by
  obtain ⟨⟨cls, dd, data, sl⟩, ho, hc, n, hd⟩ := id hl
  obtain ⟨⟨cls2, dd2, data2, sl2⟩, ho2, hc2, n2, hd2⟩ := id hb
  simp only at hc hd hc2 hd2
  subst hc hd hc2 hd2
  exact call_meets F.slot_tuple_lt ⟨_, ho, rfl⟩ F.entry_tuple_lt (F.args_tuple_lt_2 _ _) (tuple_ltAt l b items items2 n n2 dd dd2 sl sl2 e r) ⟨ho, ho2, he, hr, h⟩
theorem oneLt_tup {xs ys : List PyData} {a b : Value} {as bs : List Addr} {Q : Bool → Shared → Prop} (ra : Reads s.heap a (.tuple xs) as) (rb : Reads s.heap b (.tuple ys) bs) (h : alike (.tuple xs) (.tuple ys) = true)
    (hu : A.units + min (PyData.tuple xs).depth (PyData.tuple ys).depth < cLine) (hq : Q (dataLt (.tuple xs) (.tuple ys)) s) : wpAny (model prog w) A (oneLt' true a b) Q E s := by
  have hal : alikeAll xs ys = true := by simpa [alike] using h
  cases ra with
  | @tuple l o vs n _ as₁ h1 h2 h3 h4 =>
    cases rb with
    | @tuple l' o' vs' n' _ bs₁ k1 k2 k3 k4 =>
      have n1 : vs.size = xs.length := by simpa using ReadsAll.length _ _ _ h4
      have n2 : vs'.size = ys.length := by simpa using ReadsAll.length _ _ _ k4
      rw [dataLt_tuple, ← firstLt_toks xs ys hal, ← n1, ← n2] at hq
      rw [oneLt'_eq]
      simp only [if_true]
      refine wpAny_bind (wpAny_cRoomFor (room_here hu) ?_)
      refine wpAny_bind (wpAny_callSpecialIfBound?_slot (T := "tuple") ⟨_, h1, h2⟩ F.slot_tuple_lt (call_tuple_lt (e := pairEq xs ys) (r := fun j => dataLt (xs.getD j .none) (ys.getD j .none)) ⟨_, h1, h2, _, h3⟩ ⟨_, k1, k2, _, k3⟩ (fun j j1 j2 => ?_) (fun j j1 j2 hj => ?_) ?_))
      · have := eqAt_alikeAll xs ys A.in1 s vs.toList vs'.toList _ _ h4 k4 hal (room_in hu) j (by simpa using j1) (by simpa using j2)
        simpa using this
      · have := rcLt_alikeAll xs ys A.in1 s vs.toList vs'.toList _ _ h4 k4 hal (room_in hu) j (by simpa using j1) (by simpa using j2) hj
        simpa using this
      · exact wpAny_truthy_bool hq
end
section
variable {M : Model} {A : Around} {E : Value → Shared → Prop} {s : Shared}
/-- the first items of tuples, none of () -/
theorem firsts_some : ∀ (vs : List Value) (ds : List PyData) {Q : List (Option Value) → Shared → Prop}, EachIs (fun v d => ∃ xs as, d = PyData.tuple xs ∧ Reads s.heap v d as) vs ds →
    (∀ fs : List (Option Value), fs.length = vs.length → (ds.head? = some (.tuple []) → fs[0]? = some none) → Q fs s) → wpAny M A (vs.mapM firstOfTuple') Q E s
  | _, _, _, .nil, h => by
    rw [List.mapM_nil]
    exact wpAny_pure (h [] rfl fun z => by cases z)
  | v :: vs, d :: ds, Q, .cons ⟨xs, as, e, r⟩ t, h => by
    subst e
    cases r with
    | @tuple a o ws n _ _ ho hc hd hr =>
      rw [List.mapM_cons]
      refine wpAny_bind ?_
      rw [kas_first_eq]
      refine wpAny_bind (Looks.here (show Looks M s.heap (typeOf (.ref a)) o.cls from (Looks.ld ho).andThen .now) ?_)
      rw [hc, if_neg (by first | decide | simp)]
      refine wpAny_bind (listItems_at ho hd (wpAny_pure ?_))
      refine wpAny_bind (firsts_some vs ds (Q := fun bs s' => wpAny M A (pure (ws[0]? :: bs)) Q E s') t fun fs hl _ => wpAny_pure (h _ (by rw [List.length_cons, List.length_cons, hl]) fun z => ?_))
      have e : xs = [] := by
        have := Option.some.inj z
        injection this
      subst e
      have hz : ws.toList = [] := by
        cases q : ws.toList with
        | nil => rfl
        | cons _ _ =>
          rw [q] at hr
          cases hr
      have : ws[0]? = none := by
        rw [← Array.getElem?_toList, hz]
        rfl
      rw [this]
      rfl
theorem kind_unit {vs : List Value} {ds : List PyData} {Q : SortKind → Shared → Prop} (h2 : 2 ≤ vs.length) (t : EachIs (fun v d => ∃ xs as, d = PyData.tuple xs ∧ Reads s.heap v d as) vs ds) (h0 : ds.head? = some (.tuple [])) (h : Q oneType' s) :
    wpAny M A (keyKind' vs.toArray) Q E s := by
  rw [keyKind'_eq, List.mapM_toArray, map_eq_pure_bind]
  refine wpAny_bind (wpAny_bind (firsts_some vs ds t fun fs hl hf => wpAny_pure ?_))
  have hf0 := hf h0
  obtain ⟨rest, rfl⟩ : ∃ rest, fs = none :: rest := by
    cases fs with
    | nil => cases hf0
    | cons f rest =>
      have : f = none := Option.some.inj hf0
      exact ⟨rest, by rw [this]⟩
  rw [if_neg (by simp), if_neg (by simp)]
  rw [oneTypeOnly'_eq, List.mapM_toArray, map_eq_pure_bind]
  refine wpAny_bind (wpAny_bind (wpAny_bind (kas_mapM (r := Value.type "tuple") _ (fun v hv Q' hq => ?_) (wpAny_pure ?_))))
  · obtain ⟨d, hd, xs, as, rfl, r⟩ := t.left v hv
    exact (looks_reads r).here hq
  · obtain ⟨v₁, rest, rfl⟩ : ∃ v₁ rest, vs = v₁ :: rest := by
      cases vs with
      | nil => simp at h2
      | cons v₁ rest => exact ⟨v₁, rest, rfl⟩
    have hall : ((List.map (fun _ => Value.type "tuple") (v₁ :: rest)).toArray.all fun x => x == Value.type "tuple") = true := by
      simp only [List.all_toArray, List.all_map, List.all_eq_true]
      intro _ _
      rfl
    have h0 : (List.map (fun _ => Value.type "tuple") (v₁ :: rest)).toArray[0]? = some (Value.type "tuple") := by simp
    rw [h0]
    simp only [hall, if_true]
    exact wpAny_pure (wpAny_pure h)
end
section
variable {prog : Program} {w : World} {A : Around} {E : Value → Shared → Prop} {s : Shared}
theorem sortsAt_unit {vs : List Value} {ds : List PyData} (e : EachIs (fun v d => ∃ as, Reads s.heap v d as) vs ds) (hal : AllAlike ds) (ht : ∀ d ∈ ds, ∃ xs, d = PyData.tuple xs) (h0 : ds.head? = some (.tuple [])) (hu : ∀ d, d ∈ ds → A.units + d.depth < cLine) : SortsAt prog w A s (dataKind s.heap ds) vs := by
  refine ⟨fun v hv => ?_, oneType', ?_, fun h2 E Q hq => ?_⟩
  · obtain ⟨d, hd, as, r⟩ := e.left v hv
    exact ⟨_, dataKind_some hal hd r⟩
  · intro E x y a b Q ha hb hq
    obtain ⟨d, as, hd, ra, rfl⟩ := dataKind_inv ha
    obtain ⟨d', as', hd', rb, rfl⟩ := dataKind_inv hb
    obtain ⟨xs, rfl⟩ := ht d hd
    obtain ⟨ys, rfl⟩ := ht d' hd'
    rw [keyLt'_oneType]
    exact oneLt_tup ra rb (hal _ hd _ hd') (Nat.lt_of_le_of_lt (Nat.add_le_add_left (Nat.min_le_left _ _) _) (hu _ hd)) hq
  · exact kind_unit h2 ((each_mem e).mono fun v d ⟨⟨as, r⟩, hd⟩ => by
      obtain ⟨xs, rfl⟩ := ht d hd
      exact ⟨xs, as, rfl, r⟩) h0 hq
theorem sorted_unit {β : Type} {vs : List Value} {bs : List β} {enc : β → PyData} {R : Value → β → Prop} {l : Addr} {Q : Value → Shared → Prop} (hl : s.heap.IsList l vs.toArray) (e : EachIs R vs bs) (er : EachIs (fun v b => ∃ as, Reads s.heap v (enc b) as) vs bs) (hal : AllAlike (bs.map enc))
    (ht : ∀ b : β, ∃ xs, enc b = PyData.tuple xs) (h0 : (bs.map enc).head? = some (.tuple [])) (hL : bs.length ≤ sizeLine)
    (hu : ∀ b, b ∈ bs → A.units + 2 + (enc b).depth < cLine) (h : ∀ out, out.length = bs.length → EachIs R out (bs.mergeSort (dataLe false enc)) → Q (.ref (s.heap.objs.size + 1)) { s with heap := sortedAll s.heap vs (List.toArray out) }) :
    wpAny (model prog w) A (call (.builtin "sorted") [.ref l]) Q E s := by
  have er' : EachIs (fun v b => ∃ as, Reads (sortingHeap (copyHeap s.heap vs) (s.heap.objs.size + 1) vs) v (enc b) as) vs bs := er.mono fun _ _ ⟨as, r⟩ => ⟨as, PyProof.Rows.Reads.keeps (fun _ _ => sorting_copy_old) r⟩
  refine sorted_vals hl (sortsAt_unit (s := { s with heap := sortingHeap (copyHeap s.heap vs) (s.heap.objs.size + 1) vs }) (each_map (R := fun v d => ∃ as, Reads (sortingHeap (copyHeap s.heap vs) (s.heap.objs.size + 1) vs) v d as) enc er') hal (fun d hd => ?_) h0 (bound_map hu)) (by rw [e.length]; exact hL)
    (h _ (by rw [sortVals_length false rfl]; exact e.length) (sortVals_data false e er' hal))
  obtain ⟨b, _, rfl⟩ := List.mem_map.mp hd
  exact ht b
end
end BV

namespace BV
open PySem L2 PySem.W PySem.SeqAt PyProof.Rows
theorem each_dp {K : PySem.W.Frag} {H : Hp} : ∀ {lots : List (List Nat)} {xs : List V} {us : List Value}, Vals xs us → DpAll K H xs (lots.map lotD) → EachIs (fun v b => ∃ x : V, RelV x v ∧ Dp K H x (lotD b)) us lots
  | [], _, _, r, h => by
    have h' : DpAll K H _ [] := h
    cases h'
    cases r
    exact .nil
  | l :: lots, _, _, r, h => by
    have h' : DpAll K H _ (lotD l :: lots.map lotD) := h
    cases h' with
    | cons d ds =>
      cases r with
      | cons r1 rs => exact .cons ⟨_, r1, d⟩ (each_dp rs ds)
theorem dp_each {K : PySem.W.Frag} {H : Hp} : ∀ {lots : List (List Nat)} {us : List Value}, EachIs (fun v b => ∃ x : V, RelV x v ∧ Dp K H x (lotD b)) us lots → ∃ ys, Vals ys us ∧ DpAll K H ys (lots.map lotD)
  | _, _, .nil => ⟨[], .nil, .nil⟩
  | _, _, .cons ⟨x, r, d⟩ t => by
    obtain ⟨ys, h1, h2⟩ := dp_each t
    exact ⟨x :: ys, .cons r h1, .cons d h2⟩
theorem lotD_ints (ks : List Nat) : lotD ks = .tuple ((ks.map fun (k : Nat) => (k : Int)).map PyData.int) := by
  unfold lotD
  rw [List.map_map]
  rfl
theorem lotD_depth (ks : List Nat) : (lotD ks).depth ≤ 1 := by
  rw [lotD_ints]
  have := depth_ints (ks.map fun (k : Nat) => (k : Int))
  simp only [PyData.depth]
  omega
theorem lotD_alike (k m : List Nat) : alike (lotD k) (lotD m) = true := by
  rw [lotD_ints, lotD_ints]
  simp only [alike]
  exact alike_ints _ _
abbrev leL : List Nat → List Nat → Bool := dataLe false lotD
def rSortLots (K : PySem.W.Frag) : List V → Hp → VK → Prop := fun vs H Q => ∃ (a : Addr) (xs : List V) (lots : List (List Nat)), vs = [V.ref a] ∧ SqL K H a xs ∧ DpAll K H xs (lots.map lotD) ∧ lots.head? = some [] ∧
  ∀ (p : Addr) (ys : List V), H p = none → DpAll K H ys ((lots.mergeSort leL).map lotD) → Q (.ref p) (upd H p (.lst ys))
theorem cr_sortLots {X : Cx} (K : PySem.W.Frag) (hu : X.A.units + 64 < cLine) (h : X.K = K := by rfl) : CallR X (.builtin "sorted") (rSortLots K) := by
  subst h
  intro pins s σ H vs us Q I r h
  obtain ⟨a, xs, lots, rfl, hs, hd, h0, q⟩ := h
  obtain ⟨its, rv, hl, hz⟩ := I.list hs
  rw [Vals.ref1 r]
  have e := each_dp rv hd
  have er : EachIs (fun v b => ∃ as, Reads s.heap v (lotD b) as) its lots := e.mono fun v b ⟨x, r, d⟩ => Dp.reads I _ x v d r
  refine sorted_unit hl.isList e er (AllAlike.of lotD_alike) (fun b => ⟨_, rfl⟩) ?_ (by rw [← e.length, ← rv.length]; exact hz) (fun b _ => by have := lotD_depth b; omega) fun out ho eo => ?_
  · rw [List.head?_map, h0]
    rfl
  · obtain ⟨ys, hv, hD⟩ := dp_each eo
    obtain ⟨ep, he'⟩ := PyProof.Rows.sortedAll_at s.heap its (List.toArray out)
    have hlen : ys.length ≤ sizeLine := by
      rw [hv.length, ho, ← e.length, ← rv.length]
      exact hz
    exact ⟨.ref _, upd H (s.heap.objs.size + 1) (.lst ys), I.laid (t' := s.toks) (fun _ _ => PyProof.Rows.sortedAll_old) (Nat.le_succ _) ⟨hlen, out, ep, hv, he'⟩, rfl, q _ ys (I.hok.fresh (Nat.le_succ _)) hD⟩
theorem leL_eq (p q : List Nat) : leL p q = decide ((p.map fun (k : Nat) => (k : Int)) ≤ q.map fun (k : Nat) => (k : Int)) := by
  show (!dataLt (lotD q) (lotD p)) = _
  rw [lotD_ints, lotD_ints, dataLt_tuple]
  show (!rowLt ((q.map fun (k : Nat) => (k : Int)).map .int) ((p.map fun (k : Nat) => (k : Int)).map .int)) = _
  rw [dataLt_ints]
  by_cases h : (q.map fun (k : Nat) => (k : Int)) < p.map fun (k : Nat) => (k : Int)
  · have h' : ¬ (p.map fun (k : Nat) => (k : Int)) ≤ q.map fun (k : Nat) => (k : Int) := fun r => List.not_lt.mpr r h
    simp [h, h']
  · have h' : (p.map fun (k : Nat) => (k : Int)) ≤ q.map fun (k : Nat) => (k : Int) := List.not_lt.mp h
    simp [h, h']
theorem cast_inj : ∀ {p q : List Nat}, (p.map fun (k : Nat) => (k : Int)) = (q.map fun (k : Nat) => (k : Int)) → p = q
  | [], [], _ => rfl
  | [], _ :: _, h => by cases h
  | _ :: _, [], h => by cases h
  | a :: p, b :: q, h => by
    have h1 := List.cons.inj h
    rw [cast_inj h1.2, Int.ofNat.inj h1.1]
theorem sort_lots {l m : List (List Nat)} (h : l.Perm m) : l.mergeSort leL = m.mergeSort leL := by
  have tr : ∀ a b c : List Nat, leL a b = true → leL b c = true → leL a c = true := fun a b c h1 h2 => by
    rw [leL_eq, decide_eq_true_eq] at h1 h2 ⊢
    exact List.le_trans h1 h2
  have to : ∀ a b : List Nat, (leL a b || leL b a) = true := fun a b => by
    rw [leL_eq, leL_eq, Bool.or_eq_true, decide_eq_true_eq, decide_eq_true_eq]
    exact List.le_total _ _
  refine ((List.mergeSort_perm l leL).trans (h.trans (List.mergeSort_perm m leL).symm)).eq_of_pairwise (le := fun a b => leL a b = true) (fun a b _ _ h1 h2 => ?_) (List.pairwise_mergeSort tr to l) (List.pairwise_mergeSort tr to m)
  rw [leL_eq, decide_eq_true_eq] at h1 h2
  exact cast_inj (List.le_antisymm h1 h2)
end BV

namespace BV
open PySem L2
/-! lots by numbers -/
def lotN (L z : Nat) : List Nat := (List.range L).filter fun k => decide (z / 2 ^ (L - 1 - k) % 2 = 1)
theorem lotN_lot (L z : Nat) : LotA L (lotN L z) := ⟨List.pairwise_lt_range.filter _, fun k hk => List.mem_range.mp (List.mem_filter.mp hk).1⟩
theorem mem_lotN {L z k : Nat} : k ∈ lotN L z ↔ k < L ∧ z / 2 ^ (L - 1 - k) % 2 = 1 := by
  unfold lotN
  rw [List.mem_filter, List.mem_range, decide_eq_true_eq]
theorem bits_inj : ∀ (L : Nat) {y z : Nat}, y < 2 ^ L → z < 2 ^ L → (∀ i, i < L → (y / 2 ^ i % 2 = 1 ↔ z / 2 ^ i % 2 = 1)) → y = z
  | 0, y, z, hy, hz, _ => by
    rw [Nat.pow_zero] at hy hz
    omega
  | L + 1, y, z, hy, hz, h => by
    have e := bits_inj L (y := y / 2) (z := z / 2) (by rw [Nat.pow_succ] at hy; omega) (by rw [Nat.pow_succ] at hz; omega) fun i hi => by
      have := h (i + 1) (by omega)
      rw [Nat.pow_succ, Nat.mul_comm, ← Nat.div_div_eq_div_mul, ← Nat.div_div_eq_div_mul] at this
      exact this
    have h0 := h 0 (by omega)
    rw [Nat.pow_zero, Nat.div_one, Nat.div_one] at h0
    omega
theorem bits_ex (f : Nat → Bool) : ∀ L : Nat, ∃ z, z < 2 ^ L ∧ ∀ i, i < L → (z / 2 ^ i % 2 = 1 ↔ f i = true)
  | 0 => ⟨0, by rw [Nat.pow_zero]; omega, fun i hi => absurd hi (Nat.not_lt_zero i)⟩
  | L + 1 => by
    obtain ⟨z, h1, h2⟩ := bits_ex f L
    by_cases hf : f L = true
    · refine ⟨z + 2 ^ L, by rw [Nat.pow_succ]; omega, fun i hi => ?_⟩
      by_cases e : i = L
      · rw [e, hf, Nat.add_div_right _ (Nat.pow_pos (by decide)), Nat.div_eq_of_lt h1]
        exact ⟨fun _ => rfl, fun _ => rfl⟩
      · rw [← h2 i (by omega)]
        have e2 : 2 ^ L = 2 ^ i * (2 * 2 ^ (L - i - 1)) := by
          rw [← Nat.pow_succ', ← Nat.pow_add]
          congr 1
          omega
        rw [e2, Nat.add_mul_div_left _ _ (Nat.pow_pos (by decide))]
        generalize z / 2 ^ i = a
        generalize 2 ^ (L - i - 1) = b
        constructor <;> intro h <;> omega
    · refine ⟨z, by rw [Nat.pow_succ]; omega, fun i hi => ?_⟩
      by_cases e : i = L
      · rw [e, Nat.div_eq_of_lt h1]
        exact ⟨fun q => (by cases q), fun q => absurd q hf⟩
      · exact h2 i (by omega)
theorem lotN_inj {L y z : Nat} (hy : y < 2 ^ L) (hz : z < 2 ^ L) (h : lotN L y = lotN L z) : y = z := by
  refine bits_inj L hy hz fun i hi => ?_
  have h1 : L - 1 - i ∈ lotN L y ↔ L - 1 - i ∈ lotN L z := by rw [h]
  rw [mem_lotN, mem_lotN, show L - 1 - (L - 1 - i) = i by omega] at h1
  have h2 : L - 1 - i < L := by omega
  exact ⟨fun q => (h1.mp ⟨h2, q⟩).2, fun q => (h1.mpr ⟨h2, q⟩).2⟩
theorem lotN_all {L : Nat} {E : List Nat} (hE : LotA L E) : ∃ z, z < 2 ^ L ∧ lotN L z = E := by
  obtain ⟨z, h1, h2⟩ := bits_ex (fun i => decide (L - 1 - i ∈ E)) L
  refine ⟨z, h1, lot_ext (lotN_lot L z) hE fun k hk => ?_⟩
  rw [mem_lotN, h2 (L - 1 - k) (by omega), decide_eq_true_eq, show L - 1 - (L - 1 - k) = k by omega]
  exact ⟨fun q => q.2, fun q => ⟨hk, q⟩⟩
open Classical in
noncomputable def evensL (n : Nat) (ts : List Tie) (i : Nat) : List (List Nat) := ((List.range i).map (lotN ts.length)).filter fun E => decide (EvenE n ts E)
open Classical in
theorem evens_nd (n : Nat) (ts : List Tie) : (evensL n ts (2 ^ ts.length)).Nodup := by
  unfold evensL
  refine List.Pairwise.filter _ ?_
  refine List.pairwise_map.mpr (List.nodup_range.imp_of_mem fun {x y} hx hy hxy e => hxy (lotN_inj (List.mem_range.mp hx) (List.mem_range.mp hy) e))
open Classical in
theorem mem_evens {n : Nat} {ts : List Tie} {E : List Nat} : E ∈ evensL n ts (2 ^ ts.length) ↔ LotA ts.length E ∧ EvenE n ts E := by
  unfold evensL
  rw [List.mem_filter, decide_eq_true_eq, List.mem_map]
  constructor
  · rintro ⟨⟨z, _, rfl⟩, h⟩
    exact ⟨lotN_lot _ _, h⟩
  · rintro ⟨h1, h2⟩
    obtain ⟨z, hz, rfl⟩ := lotN_all h1
    exact ⟨⟨z, List.mem_range.mpr hz, rfl⟩, h2⟩
theorem sums_len (L : Nat) (R : Nat → List Nat) : ∀ cs : List Nat, (sumsOf L R cs).length = 2 ^ cs.length
  | [] => rfl
  | c :: cs => by
    show (sumsOf L R cs ++ (sumsOf L R cs).map _).length = _
    rw [List.length_append, List.length_map, sums_len L R cs, List.length_cons, Nat.pow_succ]
    omega
theorem sums_head (L : Nat) (R : Nat → List Nat) : ∀ cs : List Nat, (sumsOf L R cs).head? = some []
  | [] => rfl
  | c :: cs => by
    show (sumsOf L R cs ++ (sumsOf L R cs).map _).head? = _
    rw [List.head?_append, sums_head L R cs]
    rfl
open Classical in
theorem evens_head (n : Nat) (ts : List Tie) : ∀ i, (evensL n ts (i + 1)).head? = some [] := fun i => by
  have e : lotN ts.length 0 = [] := List.filter_eq_nil_iff.mpr fun k _ => by simp
  have ev : EvenE n ts [] := fun _ _ => rfl
  unfold evensL
  rw [List.range_succ_eq_map, List.map_cons, e, List.filter_cons, if_pos (decide_eq_true ev)]
  rfl
/-! lists of lots as data -/
theorem alike_lots : ∀ ls : List (List Nat), PySem.W.alikeAll (ls.map lotD) (ls.map lotD) = true
  | [] => by simp [PySem.W.alikeAll]
  | l :: ls => by
    have h := alike_lots ls
    have h2 := lotD_alike l l
    show PySem.W.alikeAll (lotD l :: ls.map lotD) (lotD l :: ls.map lotD) = true
    rw [PySem.W.alikeAll, h, h2]
    rfl
theorem eqv_lotsL (ls : List (List Nat)) : PyData.eqv (.list (ls.map lotD)) (.list (ls.map lotD)) = true :=
  PySem.W.eqv_refl_alike _ (by
    simp only [PySem.W.alike]
    exact alike_lots ls)
theorem lay_lots : ∀ ls : List (List Nat), PyData.canLayAll0 (ls.map lotD) = true
  | [] => by simp [PyData.canLayAll0]
  | l :: ls => by
    have h := lay_lots ls
    have h1 := lay_ints (l.map fun (k : Nat) => (k : Int))
    show PyData.canLayAll0 (lotD l :: ls.map lotD) = true
    rw [lotD_ints]
    rw [List.map_map] at h1
    simp [PyData.canLayAll0, PyData.canLay0, h, h1]
theorem deep_lots : ∀ ls : List (List Nat), PyData.depthAll (ls.map lotD) ≤ 1
  | [] => by simp [PyData.depthAll]
  | l :: ls => by
    have h := deep_lots ls
    have h1 := lotD_depth l
    show PyData.depthAll (lotD l :: ls.map lotD) ≤ 1
    rw [PyData.depthAll]
    omega
theorem shaped_lotsL (ls : List (List Nat)) : SeqAt.shaped (.list (ls.map lotD)) = true := by
  have h1 := lay_lots ls
  have h2 := deep_lots ls
  have h3 : PyData.depthAll (ls.map lotD) + 1 ≤ 64 := by omega
  simp [SeqAt.shaped, PyData.canLay0, PyData.depth, h1, h3]
end BV

namespace BV
open PySem L2
/-! deeds told together -/
def Deed.starAt (p : Nat) : Deed → Int
  | .star q t => if q = p then t else 0
  | .round _ _ => 0
def Deed.roundAt (E : List Nat) : Deed → Int
  | .star _ _ => 0
  | .round ks t => if ks = E then t else 0
def sT (ds : List Deed) (p : Nat) : Int := (ds.map (Deed.starAt p)).sum
def rT (ds : List Deed) (E : List Nat) : Int := (ds.map (Deed.roundAt E)).sum
def nz (z : Int) : Bool := decide (z ≠ 0)
def togS (n : Nat) (ds : List Deed) : List Deed := ((List.range n).filter fun p => nz (sT ds p)).map fun p => .star p (sT ds p)
def togR (ev : List (List Nat)) (ds : List Deed) : List Deed := (ev.filter fun E => nz (rT ds E)).map fun E => .round E (rT ds E)
def tog (n : Nat) (ev : List (List Nat)) (ds : List Deed) : List Deed := togS n ds ++ togR ev ds
theorem sum_app (a b : List Int) : (a ++ b).sum = a.sum + b.sum := List.sum_append
theorem sum_perm {a b : List Int} (h : a.Perm b) : a.sum = b.sum := by
  induction h with
  | nil => rfl
  | cons x _ ih => simp only [List.sum_cons, ih]
  | swap x y l => simp only [List.sum_cons]; omega
  | trans _ _ ih1 ih2 => rw [ih1, ih2]
theorem sT_app (a b : List Deed) (p : Nat) : sT (a ++ b) p = sT a p + sT b p := by
  unfold sT
  rw [List.map_append, sum_app]
theorem rT_app (a b : List Deed) (E : List Nat) : rT (a ++ b) E = rT a E + rT b E := by
  unfold rT
  rw [List.map_append, sum_app]
theorem sT_perm {a b : List Deed} (h : a.Perm b) (p : Nat) : sT a p = sT b p := sum_perm (h.map _)
theorem rT_perm {a b : List Deed} (h : a.Perm b) (E : List Nat) : rT a E = rT b E := sum_perm (h.map _)
theorem tog_congr {n : Nat} {ev : List (List Nat)} {a b : List Deed} (h1 : ∀ p, sT a p = sT b p) (h2 : ∀ E, rT a E = rT b E) : tog n ev a = tog n ev b := by
  unfold tog togS togR
  rw [funext h1, funext h2]
theorem tog_perm {n : Nat} {ev : List (List Nat)} {a b : List Deed} (h : a.Perm b) : tog n ev a = tog n ev b := tog_congr (sT_perm h) (rT_perm h)
theorem sT_neg : ∀ (ds : List Deed) (p : Nat), sT (ds.map Deed.neg) p = -(sT ds p)
  | [], _ => rfl
  | d :: ds, p => by
    have h := sT_neg ds p
    unfold sT at h ⊢
    simp only [List.map_cons, List.sum_cons, h]
    cases d with
    | star q t =>
      show (if q = p then -t else 0) + _ = -((if q = p then t else 0) + _)
      split <;> omega
    | round ks t =>
      show (0 : Int) + _ = -(0 + _)
      omega
theorem rT_neg : ∀ (ds : List Deed) (E : List Nat), rT (ds.map Deed.neg) E = -(rT ds E)
  | [], _ => rfl
  | d :: ds, E => by
    have h := rT_neg ds E
    unfold rT at h ⊢
    simp only [List.map_cons, List.sum_cons, h]
    cases d with
    | star q t =>
      show (0 : Int) + _ = -(0 + _)
      omega
    | round ks t =>
      show (if ks = E then -t else 0) + _ = -((if ks = E then t else 0) + _)
      split <;> omega
theorem sT_undo (ds : List Deed) (p : Nat) : sT (ds ++ ds.reverse.map Deed.neg) p = 0 := by
  rw [sT_app, sT_neg, sT_perm ds.reverse_perm]
  omega
theorem rT_undo (ds : List Deed) (E : List Nat) : rT (ds ++ ds.reverse.map Deed.neg) E = 0 := by
  rw [rT_app, rT_neg, rT_perm ds.reverse_perm]
  omega
theorem tog_undo (n : Nat) (ev : List (List Nat)) (ds : List Deed) : tog n ev (ds ++ ds.reverse.map Deed.neg) = [] := by
  unfold tog togS togR
  have h1 : (List.range n).filter (fun p => nz (sT (ds ++ ds.reverse.map Deed.neg) p)) = [] := List.filter_eq_nil_iff.mpr fun p _ => by rw [sT_undo]; decide
  have h2 : ev.filter (fun E => nz (rT (ds ++ ds.reverse.map Deed.neg) E)) = [] := List.filter_eq_nil_iff.mpr fun p _ => by rw [rT_undo]; decide
  rw [h1, h2]
  rfl
def Deed.dbl : Deed → Deed
  | .star p t => .star p (2 * t)
  | .round ks t => .round ks (2 * t)
theorem tog_twice (n : Nat) (ev : List (List Nat)) (ds : List Deed) : tog n ev (ds ++ ds) = (tog n ev ds).map Deed.dbl := by
  have e1 : ∀ p, sT (ds ++ ds) p = 2 * sT ds p := fun p => by rw [sT_app]; omega
  have e2 : ∀ E, rT (ds ++ ds) E = 2 * rT ds E := fun E => by rw [rT_app]; omega
  have n2 : ∀ z : Int, nz (2 * z) = nz z := fun z => by
    unfold nz
    by_cases h : z = 0
    · subst h
      rfl
    · rw [decide_eq_true h, decide_eq_true (show 2 * z ≠ 0 by omega)]
  unfold tog togS togR
  rw [List.map_append, List.map_map, List.map_map, funext e1, funext e2]
  simp only [n2]
  rfl
/-- the numbers of some, each by itself -/
theorem sum_one {α : Type} [DecidableEq α] (c : α → Bool) (p : α) (t : Int) : ∀ l : List α, l.Nodup → (l.map fun q => if c q = true then (if q = p then t else 0) else 0).sum = if p ∈ l ∧ c p = true then t else 0
  | [], _ => by simp
  | q :: l, h => by
    have hn := List.nodup_cons.mp h
    have ih := sum_one c p t l hn.2
    rw [List.map_cons, List.sum_cons, ih]
    by_cases e : q = p
    · subst e
      have z : ¬ (q ∈ l ∧ c q = true) := fun y => hn.1 y.1
      rw [if_neg z, if_pos rfl]
      by_cases hc : c q = true
      · rw [if_pos hc, if_pos ⟨List.mem_cons_self .., hc⟩]
        omega
      · rw [if_neg hc, if_neg fun y => hc y.2]
        omega
    · have e2 : p ∈ q :: l ↔ p ∈ l := by
        rw [List.mem_cons]
        exact ⟨fun y => y.elim (fun z => absurd z.symm e) id, .inr⟩
      rw [if_neg e]
      simp only [e2, ite_self]
      omega
theorem sum_nz {α : Type} (f : α → Int) (g : α → Int) (h : ∀ x, f x = 0 → g x = 0) : ∀ l : List α, ((l.filter fun x => nz (f x)).map g).sum = (l.map g).sum
  | [] => rfl
  | x :: l => by
    have ih := sum_nz f g h l
    rw [List.filter_cons]
    by_cases e : f x = 0
    · rw [if_neg (by unfold nz; simp [e]), ih, List.map_cons, List.sum_cons, h x e]
      omega
    · rw [if_pos (by unfold nz; simp [e]), List.map_cons, List.map_cons, List.sum_cons, List.sum_cons, ih]
theorem sum_pt {α : Type} [DecidableEq α] (f : α → Int) (p : α) : ∀ l : List α, l.Nodup → (l.map fun q => if q = p then f q else 0).sum = if p ∈ l then f p else 0
  | [], _ => by simp
  | q :: l, h => by
    have hn := List.nodup_cons.mp h
    have ih := sum_pt f p l hn.2
    rw [List.map_cons, List.sum_cons, ih]
    by_cases e : q = p
    · subst e
      rw [if_neg hn.1, if_pos rfl, if_pos (List.mem_cons_self ..)]
      omega
    · have e2 : p ∈ q :: l ↔ p ∈ l := by
        rw [List.mem_cons]
        exact ⟨fun y => y.elim (fun z => absurd z.symm e) id, .inr⟩
      rw [if_neg e]
      simp only [e2]
      omega
theorem sum_zero {α : Type} {f : α → Int} (l : List α) (h : ∀ x ∈ l, f x = 0) : (l.map f).sum = 0 := by
  induction l with
  | nil => rfl
  | cons x l ih => rw [List.map_cons, List.sum_cons, h x (List.mem_cons_self ..), ih fun y hy => h y (List.mem_cons_of_mem _ hy)]; rfl
theorem sT_tog {n : Nat} {ev : List (List Nat)} {ds : List Deed} {p : Nat} (hp : p < n) : sT (tog n ev ds) p = sT ds p := by
  unfold tog
  rw [sT_app]
  have h1 : sT (togS n ds) p = sT ds p := by
    have e1 : sT (togS n ds) p = (((List.range n).filter fun q => nz (sT ds q)).map fun q => if q = p then sT ds q else 0).sum := by
      conv => lhs; unfold sT
      unfold togS
      rw [List.map_map]
      rfl
    rw [e1, sum_nz (sT ds) _ (fun x hx => by rw [hx, ite_self]), sum_pt (sT ds) p _ List.nodup_range, if_pos (List.mem_range.mpr hp)]
  have h2 : sT (togR ev ds) p = 0 := by
    unfold sT togR
    rw [List.map_map]
    exact sum_zero _ fun _ _ => rfl
  rw [h1, h2]
  omega
theorem rT_tog {n : Nat} {ev : List (List Nat)} {ds : List Deed} {E : List Nat} (hv : ev.Nodup) (hE : E ∈ ev) : rT (tog n ev ds) E = rT ds E := by
  unfold tog
  rw [rT_app]
  have h1 : rT (togR ev ds) E = rT ds E := by
    have e1 : rT (togR ev ds) E = ((ev.filter fun q => nz (rT ds q)).map fun q => if q = E then rT ds q else 0).sum := by
      conv => lhs; unfold rT
      unfold togR
      rw [List.map_map]
      rfl
    rw [e1, sum_nz (rT ds) _ (fun x hx => by rw [hx, ite_self]), sum_pt (rT ds) E _ hv, if_pos hE]
  have h2 : rT (togS n ds) E = 0 := by
    unfold rT togS
    rw [List.map_map]
    exact sum_zero _ fun _ _ => rfl
  rw [h1, h2]
  omega
theorem tog_tog {n : Nat} {ev : List (List Nat)} {ds : List Deed} (hv : ev.Nodup) : tog n ev (tog n ev ds) = tog n ev ds := by
  have h1 : togS n (tog n ev ds) = togS n ds := by
    unfold togS
    rw [List.filter_congr (q := fun p => nz (sT ds p)) fun p hp => by rw [sT_tog (List.mem_range.mp hp)]]
    exact List.map_congr_left fun p hp => by rw [sT_tog (List.mem_range.mp (List.mem_filter.mp hp).1)]
  have h2 : togR ev (tog n ev ds) = togR ev ds := by
    unfold togR
    rw [List.filter_congr (q := fun p => nz (rT ds p)) fun p hp => by rw [rT_tog hv hp]]
    exact List.map_congr_left fun p hp => by rw [rT_tog hv (List.mem_filter.mp hp).1]
  show togS n (tog n ev ds) ++ togR ev (tog n ev ds) = _
  rw [h1, h2]
  rfl
/-- all its places and rounds are known -/
def Deed.In (n : Nat) (ev : List (List Nat)) : Deed → Prop
  | .star p _ => p < n
  | .round ks _ => ks ∈ ev
theorem tog_in {n : Nat} {ev : List (List Nat)} {ds : List Deed} {d : Deed} (h : d ∈ tog n ev ds) : d.In n ev := by
  rcases List.mem_append.mp h with q | q
  · obtain ⟨p, hp, rfl⟩ := List.mem_map.mp q
    exact List.mem_range.mp (List.mem_filter.mp hp).1
  · obtain ⟨E, hE, rfl⟩ := List.mem_map.mp q
    exact (List.mem_filter.mp hE).1
theorem sum_split {α : Type} (f g : α → Int) : ∀ l : List α, (l.map fun x => f x + g x).sum = (l.map f).sum + (l.map g).sum
  | [] => rfl
  | x :: l => by
    rw [List.map_cons, List.map_cons, List.map_cons, List.sum_cons, List.sum_cons, List.sum_cons, sum_split f g l]
    omega
def allE (ts : List Tie) (n : Nat) (ev : List (List Nat)) (ds : List Deed) (k : Nat) : Int :=
  ((List.range n).map fun p => if hit ts p k = true then sT ds p else 0).sum + (ev.map fun E => if decide (k ∈ E) = true then rT ds E else 0).sum
theorem allE_eq {ts : List Tie} {n : Nat} {ev : List (List Nat)} (hv : ev.Nodup) (k : Nat) : ∀ ds : List Deed, (∀ d ∈ ds, d.In n ev) → allE ts n ev ds k = effect ts ds k
  | [], _ => by
    unfold allE
    rw [sum_zero _ (fun p _ => by show (if _ then (0 : Int) else 0) = 0; rw [ite_self]), sum_zero _ (fun p _ => by show (if _ then (0 : Int) else 0) = 0; rw [ite_self])]
    rfl
  | d :: ds, h => by
    have ih := allE_eq (ts := ts) hv k ds fun x hx => h x (List.mem_cons_of_mem _ hx)
    have hd := h d (List.mem_cons_self ..)
    have e1 : ∀ p, sT (d :: ds) p = d.starAt p + sT ds p := fun p => by unfold sT; rw [List.map_cons, List.sum_cons]
    have e2 : ∀ E, rT (d :: ds) E = d.roundAt E + rT ds E := fun E => by unfold rT; rw [List.map_cons, List.sum_cons]
    have s1 : ((List.range n).map fun p => if hit ts p k = true then sT (d :: ds) p else 0).sum =
        ((List.range n).map fun p => if hit ts p k = true then d.starAt p else 0).sum + ((List.range n).map fun p => if hit ts p k = true then sT ds p else 0).sum := by
      rw [← sum_split]
      congr 1
      exact List.map_congr_left fun p _ => by rw [e1]; split <;> omega
    have s2 : (ev.map fun E => if decide (k ∈ E) = true then rT (d :: ds) E else 0).sum =
        (ev.map fun E => if decide (k ∈ E) = true then d.roundAt E else 0).sum + (ev.map fun E => if decide (k ∈ E) = true then rT ds E else 0).sum := by
      rw [← sum_split]
      congr 1
      exact List.map_congr_left fun p _ => by rw [e2]; split <;> omega
    have e3 : effect ts (d :: ds) k = d.part ts k + effect ts ds k := by simp only [effect, List.map_cons, List.sum_cons]
    have e4 : ((List.range n).map fun p => if hit ts p k = true then d.starAt p else 0).sum + (ev.map fun E => if decide (k ∈ E) = true then d.roundAt E else 0).sum = d.part ts k := by
      cases d with
      | star q t =>
        have g1 := sum_one (fun p => hit ts p k) q t (List.range n) List.nodup_range
        have g2 : (ev.map fun E => if decide (k ∈ E) = true then (Deed.star q t).roundAt E else 0).sum = 0 := sum_zero _ fun E _ => by show (if _ then (0 : Int) else 0) = 0; rw [ite_self]
        rw [g2]
        have g3 : ((List.range n).map fun p => if hit ts p k = true then (Deed.star q t).starAt p else 0) = (List.range n).map fun p => if hit ts p k = true then (if p = q then t else 0) else 0 :=
          List.map_congr_left fun p _ => by
            show (if hit ts p k = true then (if q = p then t else 0) else 0) = _
            by_cases e : q = p
            · subst e
              simp
            · have e' : ¬ p = q := fun z => e z.symm
              simp [e, e']
        rw [g3, g1]
        show _ = (if hit ts q k = true then t else 0)
        have hq : q < n := hd
        by_cases c : hit ts q k = true
        · rw [if_pos ⟨List.mem_range.mpr hq, c⟩, if_pos c]
          omega
        · rw [if_neg fun z => c z.2, if_neg c]
          omega
      | round ks t =>
        have g1 := sum_one (fun E => decide (k ∈ E)) ks t ev hv
        have g2 : ((List.range n).map fun p => if hit ts p k = true then (Deed.round ks t).starAt p else 0).sum = 0 := sum_zero _ fun E _ => by show (if _ then (0 : Int) else 0) = 0; rw [ite_self]
        rw [g2]
        have g3 : (ev.map fun E => if decide (k ∈ E) = true then (Deed.round ks t).roundAt E else 0) = ev.map fun E => if decide (k ∈ E) = true then (if E = ks then t else 0) else 0 :=
          List.map_congr_left fun E _ => by
            show (if decide (k ∈ E) = true then (if ks = E then t else 0) else 0) = _
            by_cases e : ks = E
            · subst e
              simp
            · have e' : ¬ E = ks := fun z => e z.symm
              simp [e, e']
        rw [g3, g1]
        show _ = (if decide (k ∈ ks) = true then t else 0)
        have hq : ks ∈ ev := hd
        by_cases c : decide (k ∈ ks) = true
        · rw [if_pos ⟨hq, c⟩, if_pos c]
          omega
        · rw [if_neg fun z => c z.2, if_neg c]
          omega
    unfold allE at ih ⊢
    rw [s1, s2, e3]
    omega
theorem effect_tog {ts : List Tie} {n : Nat} {ev : List (List Nat)} {ds : List Deed} (hv : ev.Nodup) (h : ∀ d ∈ ds, d.In n ev) (k : Nat) : effect ts (tog n ev ds) k = effect ts ds k := by
  rw [← allE_eq hv k _ fun d hd => tog_in hd, ← allE_eq hv k _ h]
  unfold allE
  congr 2
  · exact List.map_congr_left fun p hp => by rw [sT_tog (List.mem_range.mp hp)]
  · exact List.map_congr_left fun E hE => by rw [rT_tog hv hE]
theorem behind_tog {ts : List Tie} {n : Nat} {ev : List (List Nat)} {ds : List Deed} (f : Nat → Int) (hv : ev.Nodup) (h : ∀ d ∈ ds, d.In n ev) : behind ts f (tog n ev ds) = behind ts f ds := funext fun k => by
  rw [behind_eq, behind_eq, effect_tog hv h]
/-! how many, how great -/
theorem nodup_sub {α : Type} [DecidableEq α] : ∀ (m l : List α), l.Nodup → (∀ x ∈ l, x ∈ m) → l.length ≤ m.length
  | [], l, _, h => by
    cases l with
    | nil => exact Nat.le_refl _
    | cons a r => exact absurd (h a (List.mem_cons_self ..)) (List.not_mem_nil)
  | a :: m, l, hn, h => by
    have h1 := nodup_sub m (l.erase a) (hn.erase a) fun x hx => by
      have h2 := h x (List.mem_of_mem_erase hx)
      rcases List.mem_cons.mp h2 with e | e
      · subst e
        exact absurd hx (List.Nodup.not_mem_erase hn)
      · exact e
    rw [List.length_cons]
    by_cases e : a ∈ l
    · rw [List.length_erase_of_mem e] at h1
      omega
    · rw [List.erase_of_not_mem e] at h1
      omega
theorem sT_some {ds : List Deed} {p : Nat} (h : nz (sT ds p) = true) : ∃ t, Deed.star p t ∈ ds := by
  induction ds with
  | nil => exact absurd h (by show ¬ nz 0 = true; decide)
  | cons d ds ih =>
    have e1 : sT (d :: ds) p = d.starAt p + sT ds p := by unfold sT; rw [List.map_cons, List.sum_cons]
    by_cases e : sT ds p = 0
    · cases d with
      | star q t =>
        by_cases eq : q = p
        · subst eq
          exact ⟨t, List.mem_cons_self ..⟩
        · have : (Deed.star q t).starAt p = 0 := if_neg eq
          rw [e1, this, e] at h
          exact absurd h (by decide)
      | round ks t =>
        rw [e1, e] at h
        exact absurd h (by show ¬ nz (0 + 0) = true; decide)
    · obtain ⟨t, ht⟩ := ih (by unfold nz; simp [e])
      exact ⟨t, List.mem_cons_of_mem _ ht⟩
theorem rT_some {ds : List Deed} {E : List Nat} (h : nz (rT ds E) = true) : ∃ t, Deed.round E t ∈ ds := by
  induction ds with
  | nil => exact absurd h (by show ¬ nz 0 = true; decide)
  | cons d ds ih =>
    have e1 : rT (d :: ds) E = d.roundAt E + rT ds E := by unfold rT; rw [List.map_cons, List.sum_cons]
    by_cases e : rT ds E = 0
    · cases d with
      | star q t =>
        rw [e1, e] at h
        exact absurd h (by show ¬ nz (0 + 0) = true; decide)
      | round ks t =>
        by_cases eq : ks = E
        · subst eq
          exact ⟨t, List.mem_cons_self ..⟩
        · have : (Deed.round ks t).roundAt E = 0 := if_neg eq
          rw [e1, this, e] at h
          exact absurd h (by decide)
    · obtain ⟨t, ht⟩ := ih (by unfold nz; simp [e])
      exact ⟨t, List.mem_cons_of_mem _ ht⟩
def Deed.key : Deed → List Nat
  | .star p _ => [p]
  | .round ks _ => ks
theorem tog_len {n : Nat} {ev : List (List Nat)} {ds : List Deed} (hv : ev.Nodup) : (tog n ev ds).length ≤ 2 * ds.length := by
  unfold tog togS togR
  rw [List.length_append, List.length_map, List.length_map]
  have h1 : ((List.range n).filter fun p => nz (sT ds p)).length ≤ ds.length := by
    have := nodup_sub (ds.map fun d => d.key.headD 0) ((List.range n).filter fun p => nz (sT ds p)) (List.nodup_range.filter _) fun p hp => by
      obtain ⟨t, ht⟩ := sT_some (List.mem_filter.mp hp).2
      exact List.mem_map.mpr ⟨_, ht, rfl⟩
    rw [List.length_map] at this
    exact this
  have h2 : (ev.filter fun E => nz (rT ds E)).length ≤ ds.length := by
    have := nodup_sub (ds.map Deed.key) (ev.filter fun E => nz (rT ds E)) (hv.filter _) fun p hp => by
      obtain ⟨t, ht⟩ := rT_some (List.mem_filter.mp hp).2
      exact List.mem_map.mpr ⟨_, ht, rfl⟩
    rw [List.length_map] at this
    exact this
  omega
theorem sT_abs {B : Nat} : ∀ (ds : List Deed) (p : Nat), (∀ d ∈ ds, d.times.natAbs ≤ B) → (sT ds p).natAbs ≤ ds.length * B
  | [], _, _ => by simp [sT]
  | d :: ds, p, h => by
    have ih := sT_abs ds p fun x hx => h x (List.mem_cons_of_mem _ hx)
    have hd := h d (List.mem_cons_self ..)
    have e1 : sT (d :: ds) p = d.starAt p + sT ds p := by unfold sT; rw [List.map_cons, List.sum_cons]
    have e2 : (d.starAt p).natAbs ≤ B := by
      cases d with
      | star q t =>
        show (if q = p then t else 0).natAbs ≤ B
        split
        · exact hd
        · exact Nat.zero_le _
      | round ks t => exact Nat.zero_le _
    rw [e1, List.length_cons, Nat.succ_mul]
    omega
theorem rT_abs {B : Nat} : ∀ (ds : List Deed) (E : List Nat), (∀ d ∈ ds, d.times.natAbs ≤ B) → (rT ds E).natAbs ≤ ds.length * B
  | [], _, _ => by simp [rT]
  | d :: ds, E, h => by
    have ih := rT_abs ds E fun x hx => h x (List.mem_cons_of_mem _ hx)
    have hd := h d (List.mem_cons_self ..)
    have e1 : rT (d :: ds) E = d.roundAt E + rT ds E := by unfold rT; rw [List.map_cons, List.sum_cons]
    have e2 : (d.roundAt E).natAbs ≤ B := by
      cases d with
      | star q t => exact Nat.zero_le _
      | round ks t =>
        show (if ks = E then t else 0).natAbs ≤ B
        split
        · exact hd
        · exact Nat.zero_le _
    rw [e1, List.length_cons, Nat.succ_mul]
    omega
theorem tog_abs {n : Nat} {ev : List (List Nat)} {ds : List Deed} {B : Nat} (h : ∀ d ∈ ds, d.times.natAbs ≤ B) {d : Deed} (hd : d ∈ tog n ev ds) : d.times.natAbs ≤ ds.length * B := by
  rcases List.mem_append.mp hd with q | q
  · obtain ⟨p, hp, rfl⟩ := List.mem_map.mp q
    exact sT_abs ds p h
  · obtain ⟨E, hE, rfl⟩ := List.mem_map.mp q
    exact rT_abs ds E h
theorem tog_nz {n : Nat} {ev : List (List Nat)} {ds : List Deed} {d : Deed} (hd : d ∈ tog n ev ds) : d.times ≠ 0 := by
  rcases List.mem_append.mp hd with q | q
  · obtain ⟨p, hp, rfl⟩ := List.mem_map.mp q
    exact of_decide_eq_true (List.mem_filter.mp hp).2
  · obtain ⟨E, hE, rfl⟩ := List.mem_map.mp q
    exact of_decide_eq_true (List.mem_filter.mp hE).2
/-! lists that ascend -/
theorem asc_ext {l m : List Nat} (hl : l.Pairwise (· < ·)) (hm : m.Pairwise (· < ·)) (h : ∀ k, k ∈ l ↔ k ∈ m) : l = m := by
  have nl : l.Nodup := hl.imp fun {a b} z => Nat.ne_of_lt z
  have nm : m.Nodup := hm.imp fun {a b} z => Nat.ne_of_lt z
  exact ((List.perm_ext_iff_of_nodup nl nm).mpr h).eq_of_pairwise (le := fun a b => a < b) (fun a b _ _ z y => by omega) hl hm
/-- masks -/
def maskN (L : Nat) (ks : List Nat) : Nat := (ks.map fun k => 2 ^ (L - 1 - k)).sum
end BV

namespace BV
open PySem L2
local macro_rules | `(tactic| walk_at "rd") => `(tactic| (repeat (first | refine ⟨_, rfl, ?_⟩ | refine ⟨_, _, rfl, rfl, ?_⟩ | refine Or.inl ⟨_, rfl, ?_⟩ | refine Or.inr ⟨_, rfl, ?_⟩ | refine ⟨_, _, rfl, ?_⟩)))
def top (i : Nat) : Stmt := PySem.Challenge.pw_botheven_k11_whole_deeds_told_together.main.body.getD i (.Pass ⟨0, 0, 0, 0⟩)
abbrev sBox : Stmt := top 17
abbrev nBox : List Str := ["_law_script", "_law_marks", "_law_stirred", "_law_mark", "_law_cell"]
theorem scBox : FnScope nBox ["_law_script"] (defScope sBox) := ⟨rfl, rfl, rfl, by decide +kernel, rfl, by decide +kernel, by decide +kernel⟩
section
variable {P : Program} {w : World} {K : PySem.W.Frag} {mg : Str → Option Value} {base : Heap}
theorem ok_box {f : Addr} {fd : FuncData} (D : Df K mg "_law_box" sBox ["_law_script"] f fd) (T : Bl mg) : FnOk P w K mg base CX0 1 f fd ["_law_script"] (spBox K) := by
  refine D.fn.ok scBox (fun vs H Q E h => ?_) (fun cdv A outer s H vs Q E hr h => ?_)
  · obtain ⟨a, ns, rfl, _⟩ := h
    rfl
  · obtain ⟨a, ns, rfl, hS, hlen, k⟩ := h
    have hu := hu_of hr
    have nd := scBox.nd
    refine ⟨_, (pss_cons (ps_par (i := 1) (j := 2) (by rfl) nd rfl rfl (by decide) rfl rfl (pa_cons (pe_lc (own := [("_law_cell", 4)]) (g := gName 4) (tt := tYes) rfl nd (pi_list (pe_slice sl_list (pv 0) po_none (po_some pe_int))) (blkOk_by (own := [("_law_cell", 4)]) (N := nBox) (sc := defScope sBox) (by decide +kernel)) (fun _ _ _ _ _ => (pg_name (i := 4) nd rfl (by first | exact Or.inl rfl | exact Or.inr rfl))) (fun _ _ _ _ _ => pts_nil) (fun _ _ _ _ _ => (pe_op op_add (pe_op op_mul pe_int (pe_callB call_abs (by rfl) T.abs (by decide +kernel) (pa_cons (pv 4) pa_nil))) (pe_callTy call_int1 (by rfl) T.int (by decide +kernel) (pa_cons (pe_cmpR op_lt (pv 4) pe_int (nomark _)) pa_nil))))) (pa_cons (pe_op op_add pe_int (pe_callB call_len_seq (by rfl) T.len PySem.boot_len (pa_cons (pv 0) pa_nil))) pa_nil)) (by rfl))
      (pss_cons (ps_for PassesOwn.never rfl (pi_list (pv 1)) (pg_name (i := 3) nd rfl (by first | exact Or.inl rfl | exact Or.inr rfl)) (pss_one (ps_set (i := 2) nd rfl (by first | exact Or.inl rfl | exact Or.inr rfl) (pe_op op_mod (pe_callTy call_int1 (by rfl) T.int (by decide +kernel) (pa_cons (pe_op op_add (pe_op op_mul (pv 2) pe_int) (pv 3)) pa_nil)) pe_int))))
      (pss_one (ps_ret (pe_disp (pps_cons pe_str (pe_lc (own := [("_law_mark", 3)]) (g := gName 3) rfl nd (pi_list (pv 1)) (blkOk_by (own := [("_law_mark", 3)]) (N := nBox) (sc := defScope sBox) (by decide +kernel)) (fun _ _ _ _ _ => (pg_name (i := 3) nd rfl (by first | exact Or.inl rfl | exact Or.inr rfl))) (fun _ _ _ _ _ => (pts_one (pt_cmpR op_gt (pv 3) (pe_op op_pow pe_int pe_int) (nomark _)))) (fun _ _ _ _ _ => (pv 3))) (pps_cons pe_str (pv 2) (pps_cons pe_str pe_int pps_nil))) (by rfl) (by rfl) (fun z => by cases z) (by decide)))))), ?_⟩
    -- the comprehension over script[:63]
    refine ⟨_, rfl, 63, rfl, a, _, rfl, hS, fun p hp => ?_⟩
    refine ⟨p, rfl, ⟨_, SqL.of upd_same⟩, fun D hD => ?_⟩
    have s1 : Same H (upd H p (.lst (cutV (ns.map V.int) none (some 63)))) := same_new hp
    refine lc_run (walk_list (xs := cutV (ns.map V.int) none (some 63))) hD (fun i acc _ => acc.length = i ∧ ∃ ms : List Int, acc = ms.map V.int) ?_ ?_ ?_ ?_
    · exact fun H' s => SqL.of (s _ _ upd_same)
    · exact ⟨rfl, [], rfl⟩
    · rintro i x acc H2 H' hi ha e s ⟨hl, ms, rfl⟩ ⟨rfl, hx⟩
      obtain ⟨z, rfl⟩ : ∃ z : Int, x = .int z := by
        have h1 : x ∈ cutV (ns.map V.int) none (some 63) := List.mem_of_getElem? hx
        have h2 : x ∈ ns.map V.int := List.mem_of_mem_drop (List.mem_of_mem_take h1)
        obtain ⟨z, _, e⟩ := List.mem_map.mp h2
        exact ⟨z, e.symm⟩
      refine ⟨rfl, yes_go ?_⟩
      walk_at "rd"
      refine ⟨.inl ⟨by decide, by decide⟩, ?_⟩
      walk_at "rd"
      have hms : ms.length = i := by rw [← hl, List.length_map]
      have hb : cutV (ns.map V.int) none (some 63) = ns.map V.int := by
        rw [show cutV (ns.map V.int) none (some 63) = ((ns.map V.int).drop 0).take (min 63 (ns.map V.int).length - 0) from rfl, List.drop_zero, List.take_of_length_le]
        rw [List.length_map]
        omega
      have hi2 : i < 63 := by
        rw [hb, List.length_map] at hi
        omega
      refine lc_add ha e (Same.refl _) (by rw [hl]; omega) ⟨by rw [List.length_append, hl]; rfl, ms ++ [_], by rw [List.map_append]; rfl⟩
    · rintro acc H2 hD2 s2 ⟨hl, ms, rfl⟩
      have hS2 : SqL K H2 a (ns.map V.int) := Same.seq (Same.trans s1 s2) hS
      have hml : ms.length ≤ 63 := by
        have h0 := cutV_length (ns.map V.int) none (some 63)
        rw [List.length_map] at h0 hl
        omega
      walk_at "rd"
      refine ⟨_, _, rfl, .inl hS2, ?_⟩
      walk_at "rd"
      -- the stirring
      refine ⟨⟨_, SqL.of hD2⟩, for_it (walk_list (xs := ms.map V.int)) (fun i σ H' => ∃ (st : Int) (v : Option V),
        σ = [some (.ref a), some (.ref D), some (.int st), v, none] ∧ H' = H2 ∧ 0 ≤ st ∧ st < 2 ^ 33) ?_ ?_ ?_ ?_⟩
      · refine ⟨40961 + ((ns.map V.int).length : Int), none, rfl, rfl, by omega, ?_⟩
        rw [List.length_map]
        omega
      · rintro i σ H' _ ⟨st, v, rfl, rfl, _⟩
        exact SqL.of hD2
      · rintro i x σ H' H'' hi ⟨st, v, rfl, rfl, h0, h1⟩ ⟨rfl, hx⟩
        obtain ⟨z, hz, rfl⟩ := ints_at hx
        walk_at "rd"
        refine ⟨.inl ⟨by omega, by omega⟩, ?_⟩
        walk_at "rd"
        refine ⟨by show (0 : Int) < 4294967291; decide, ?_⟩
        refine ⟨_, some _, rfl, rfl, Int.emod_nonneg _ (by decide), Int.lt_of_lt_of_le (Int.emod_lt_of_pos _ (by decide)) (by decide)⟩
      · rintro σ H' ⟨st, v, rfl, rfl, h0, h1⟩
        intro b hb
        -- the great ones
        have nDb : D ≠ b := ne_of_none hD2 hb
        have hDb : upd H' b (.dK []) D = some (.lst (ms.map V.int)) := by rw [upd_ne nDb]; exact hD2
        have sb : Same H' (upd H' b (.dK [])) := same_new hb
        refine ⟨_, rfl, D, rfl, ⟨_, SqL.of hDb⟩, fun g hg => ?_⟩
        refine lc_run (walk_list (xs := ms.map V.int)) hg (fun i acc _ => acc.length ≤ i ∧ ∃ ms : List Int, acc = ms.map V.int) ?_ ?_ ?_ ?_
        · exact fun H3 s => SqL.of (s _ _ hDb)
        · exact ⟨Nat.le_refl _, [], rfl⟩
        · rintro i x acc H3 H4 hi ha e s3 ⟨hl, ms2, rfl⟩ ⟨rfl, hx⟩
          obtain ⟨z, hz, rfl⟩ := ints_at hx
          rw [List.length_map] at hi
          refine ⟨rfl, ?_⟩
          walk_at "rd"
          refine ⟨⟨by decide, by decide, by decide⟩, ?_⟩
          walk_at "rd"
          refine ite2 (fun _ => ?_) (fun _ => ?_)
          · walk_at "rd"
            refine lc_add ha e (Same.refl _) (by omega) ⟨?_, ms2 ++ [z], by rw [List.map_append]; rfl⟩
            rw [List.length_append]
            exact Nat.succ_le_succ hl
          · exact lc_skip ha e (Same.refl _) ⟨Nat.le_succ_of_le hl, ms2, rfl⟩
        · rintro acc H3 hg3 s3 ⟨hl, ms2, rfl⟩
          rw [List.length_map, List.length_map] at hl
          have hb3 : H3 b = some (.dK []) := s3 _ _ upd_same
          walk_at "rd"
          refine ⟨hb3, boxD g st 0, rfl, by show 3 ≤ 15; decide, ?_⟩
          have hbg : b ≠ g := ne_of_none upd_same hg
          have hg0 : H' g = none := Same.free sb hg
          have s4 : Same H H' := Same.trans s1 s2
          have s5 : Same H H3 := Same.trans s4 (Same.trans sb s3)
          have hb0 : H b = none := Same.free s4 hb
          refine k b g _ hb0 (Same.free s4 hg0) (fun c o q => ?_) ⟨⟨st, 0, ?_⟩, ms2, ?_, by omega⟩
          · rw [upd_ne (ne_of_none q hb0)]
            exact s5 _ _ q
          · rw [upd_same]
            rfl
          · rw [upd_ne hbg.symm]
            exact hg3
end
end BV

namespace BV
open PySem L2
local macro_rules | `(tactic| walk_at "rd") => `(tactic| (repeat (first | refine ⟨_, rfl, ?_⟩ | refine ⟨_, _, rfl, rfl, ?_⟩ | refine Or.inl ⟨_, rfl, ?_⟩ | refine Or.inr ⟨_, rfl, ?_⟩ | refine ⟨_, _, rfl, ?_⟩)))
abbrev sDraw : Stmt := top 18
abbrev nDraw : List Str := ["_law_box_here", "_law_many", "_law_great_here", "_law_count", "_law_found", "_law_mark"]
theorem scDraw : FnScope nDraw ["_law_box_here", "_law_many"] (defScope sDraw) := ⟨rfl, rfl, rfl, by decide +kernel, rfl, by decide +kernel, by decide +kernel⟩
section
variable {P : Program} {w : World} {K : PySem.W.Frag} {mg : Str → Option Value} {base : Heap}
theorem ok_draw {f : Addr} {fd : FuncData} (D : Df K mg "_law_draw" sDraw ["_law_box_here", "_law_many"] f fd) (T : Bl mg) :
    FnOk P w K mg base CX0 1 f fd ["_law_box_here", "_law_many"] spDraw := by
  refine D.fn.ok scDraw (fun vs H Q E h => ?_) (fun cdv A outer s H vs Q E hr h => ?_)
  · obtain ⟨b, g, m, rfl, _⟩ := h
    rfl
  · obtain ⟨b, g, m, rfl, hm0, hm1, hB, k⟩ := h
    have hu := hu_of hr
    have nd := scDraw.nd
    have hbg := hB.ne
    obtain ⟨⟨st, c, hb⟩, ns, hg, hns⟩ := hB
    refine ⟨_, (pss_cons (ps_set (i := 2) nd rfl (by first | exact Or.inl rfl | exact Or.inr rfl) (pe_dget hu (pv 0) pe_str (fun _ _ => rfl)))
      (pss_cons (ps_if (pt_cmpR (op_neD hr.units) (pv 2) (pe_lst pa_nil) (nomark _)) (pss_cons (ps_set (i := 5) nd rfl (by first | exact Or.inl rfl | exact Or.inr rfl) (pe_ix ix_list (pv 2) pe_int (fun _ _ => rfl)))
      (pss_cons (ps_asg (pe_op op_fdivW (pv 5) (pv 1)) (pg_sub (pv 2) pe_int set_list))
      (pss_cons (ps_if (pt_cmpR op_lt (pv 5) (pv 1) (nomark _)) (pss_one (ps_expr (pe_bm PySem.F.plainAttrs_list PySem.F.slot_list_pop PySem.F.type_list_pop mt_popAt (pv 2) (pa_cons pe_int pa_nil)))) pss_nil)
      (pss_one (ps_ret (pe_op op_mod (pe_callTy call_int1 (by rfl) T.int (by decide +kernel) (pa_cons (pv 5) pa_nil)) (pv 1))))))) pss_nil)
      (pss_cons (ps_set (i := 3) nd rfl (by first | exact Or.inl rfl | exact Or.inr rfl) (pe_op op_add (pe_dget hu (pv 0) pe_str (fun _ _ => rfl)) pe_int))
      (pss_cons (ps_dput hu (pv 0) pe_str (pv 3) rfl)
      (pss_cons (ps_set (i := 4) nd rfl (by first | exact Or.inl rfl | exact Or.inr rfl) (pe_op op_mod (pe_callTy call_int1 (by rfl) T.int (by decide +kernel) (pa_cons (pe_op op_add (pe_dget hu (pv 0) pe_str (fun _ _ => rfl)) (pe_op op_mul pe_int (pv 3))) pa_nil)) pe_int))
      (pss_cons (ps_set (i := 4) nd rfl (by first | exact Or.inl rfl | exact Or.inr rfl) (pe_op op_mod (pe_callTy call_int1 (by rfl) T.int (by decide +kernel) (pa_cons (pe_op op_add (pe_op op_add (pe_op op_mul (pv 4) (pv 4)) (pe_op op_mul pe_int (pv 3))) pe_int) pa_nil)) pe_int))
      (pss_cons (ps_set (i := 4) nd rfl (by first | exact Or.inl rfl | exact Or.inr rfl) (pe_op op_mod (pe_callTy call_int1 (by rfl) T.int (by decide +kernel) (pa_cons (pe_op op_add (pe_op op_mul (pv 4) (pv 4)) (pe_dget hu (pv 0) pe_str (fun _ _ => rfl))) pa_nil)) pe_int))
      (pss_one (ps_ret (pe_op op_mod (pe_callTy call_int1 (by rfl) T.int (by decide +kernel) (pa_cons (pe_op op_fdivW (pv 4) pe_int) pa_nil)) (pv 1))))))))))), ?_⟩
    refine ⟨_, rfl, b, _, rfl, get_great hb, ?_⟩
    refine ⟨_, rfl, Nat.zero_le _, fun p hp => ?_⟩
    have s1 : Same H (upd H p (.lst [])) := same_new hp
    have hb1 := s1 _ _ hb
    have hg1 := s1 _ _ hg
    have nbp : b ≠ p := ne_of_none hb hp
    have ngp : g ≠ p := ne_of_none hg hp
    refine ⟨.list (ns.map .int), .list [], .lst (SqL.of hg1) (dpAll_ints ns), .lst (SqL.of upd_same) .nil, shaped_intsL ns, shaped_intsL [], _, rfl, ?_⟩
    have kk : Kp b g H (upd H p (.lst [])) := Kp.same s1
    cases ns with
    | nil =>
      refine ite2 (fun z => absurd z (by decide)) (fun _ => ?_)
      refine ⟨_, rfl, b, _, rfl, get_count hb1, ?_⟩
      walk_at "rd"
      refine ⟨b, _, rfl, put_count hb1, ?_⟩
      have hb2 : upd (upd H p (.lst [])) b (.dK (boxD g st (c + 1))) b = some (.dK (boxD g st (c + 1))) := upd_same
      have gs : ∀ x : Int, 0 ≤ x % 4294967291 ∧ x % 4294967291 < 4294967291 := fun x => ⟨Int.emod_nonneg _ (by decide), Int.emod_lt_of_pos _ (by decide)⟩
      have gt : ∀ x : Int, 0 ≤ x % 4294967279 ∧ x % 4294967279 < 4294967279 := fun x => ⟨Int.emod_nonneg _ (by decide), Int.emod_lt_of_pos _ (by decide)⟩
      refine ⟨_, rfl, b, _, rfl, get_stirred hb2, ?_⟩
      walk_at "rd"
      refine ⟨.inl ⟨by decide, by decide⟩, ?_⟩
      walk_at "rd"
      refine ⟨by show (0 : Int) < 4294967291; decide, ?_⟩
      have g1 := gs (st + 2654435761 * (c + 1))
      walk_at "rd"
      refine ⟨.inl ⟨by omega, by omega⟩, ?_⟩
      walk_at "rd"
      refine ⟨.inl ⟨by decide, by decide⟩, ?_⟩
      walk_at "rd"
      refine ⟨by show (0 : Int) < 4294967279; decide, ?_⟩
      generalize (st + 2654435761 * (c + 1)) % 4294967291 = x1 at g1
      have g2 := gt (x1 * x1 + 40503 * (c + 1) + 7)
      generalize (x1 * x1 + 40503 * (c + 1) + 7) % 4294967279 = x2 at g2
      walk_at "rd"
      refine ⟨.inl ⟨by omega, by omega⟩, ?_⟩
      refine ⟨_, rfl, b, _, rfl, get_stirred hb2, ?_⟩
      walk_at "rd"
      refine ⟨by show (0 : Int) < 4294967231; decide, ?_⟩
      walk_at "rd"
      refine ⟨⟨by decide, by decide⟩, ?_⟩
      walk_at "rd"
      refine ⟨hm0, ?_⟩
      refine k _ _ (Int.emod_nonneg _ (by omega)) (Int.emod_lt_of_pos _ hm0) (Kp.trans kk Kp.setb) ⟨⟨st, c + 1, hb2⟩, [], ?_, by decide⟩
      rw [upd_ne hbg.symm]
      exact hg1
    | cons z rest =>
      refine ite2 (fun _ => ?_) (fun q => absurd (by rfl) q)
      refine ⟨_, rfl, g, _, 0, _, rfl, rfl, SqL.of hg1, atI_nat (j := 0) rfl, ?_⟩
      walk_at "rd"
      refine ⟨⟨hm0, ?_⟩, ?_⟩
      · have h30 : m.natAbs < 2 ^ 30 := by omega
        exact Nat.lt_of_lt_of_le (PySem.Flt.log2_lt_of (by decide) h30) (by decide)
      refine ⟨_, rfl, g, _, 0, 0, rfl, rfl, hg1, ix_nat (j := 0) (Nat.zero_lt_succ _), ?_⟩
      have hg2 : upd (upd H p (.lst [])) g (.lst (((z :: rest).map V.int).set 0 (.int (z / m)))) g = some (.lst (((z / m) :: rest).map V.int)) := upd_same
      have hb2 : upd (upd H p (.lst [])) g (.lst (((z :: rest).map V.int).set 0 (.int (z / m)))) b = some (.dK (boxD g st c)) := by
        rw [upd_ne hbg]
        exact hb1
      have k2 : Kp b g H (upd (upd H p (.lst [])) g (.lst (((z :: rest).map V.int).set 0 (.int (z / m))))) := Kp.trans kk Kp.setg
      walk_at "rd"
      refine ite2 (fun _ => ?_) (fun _ => ?_)
      · refine ⟨_, rfl, .inl ⟨rfl, _, SqL.of hg2⟩, ?_⟩
        refine ⟨g, _, 0, 0, _, rfl, rfl, hg2, by decide, by decide, seq_nat (j := 0) (Nat.zero_lt_succ _), rfl, ?_⟩
        walk_at "rd"
        refine ⟨hm0, ?_⟩
        refine k _ _ (Int.emod_nonneg _ (by omega)) (Int.emod_lt_of_pos _ hm0) (Kp.trans k2 Kp.setg) ⟨⟨st, c, ?_⟩, rest, ?_, ?_⟩
        · rw [upd_ne hbg]
          exact hb2
        · exact upd_same
        · exact Nat.le_of_succ_le hns
      · walk_at "rd"
        refine ⟨hm0, ?_⟩
        exact k _ _ (Int.emod_nonneg _ (by omega)) (Int.emod_lt_of_pos _ hm0) k2 ⟨⟨st, c, hb2⟩, _, hg2, hns⟩
end
end BV

namespace BV
open PySem L2
local macro_rules | `(tactic| walk_at "rd") => `(tactic| (repeat (first | refine ⟨_, rfl, ?_⟩ | refine ⟨_, _, rfl, rfl, ?_⟩ | refine Or.inl ⟨_, rfl, ?_⟩ | refine Or.inr ⟨_, rfl, ?_⟩ | refine ⟨_, _, rfl, ?_⟩)))
abbrev sPick : Stmt := top 19
abbrev nPick : List Str := ["_law_box_here", "_law_items"]
theorem scPick : FnScope nPick nPick (defScope sPick) := ⟨rfl, rfl, rfl, by decide +kernel, rfl, by decide +kernel, by decide +kernel⟩
section
variable {P : Program} {w : World} {K : PySem.W.Frag} {mg : Str → Option Value} {base : Heap}
theorem ok_pick {f fd1 : Addr} {fd fdd : FuncData} (D : Df K mg "_law_pick" sPick nPick f fd) (T : Bl mg)
    (D_draw : Df K mg "_law_draw" sDraw ["_law_box_here", "_law_many"] fd1 fdd) :
    FnOk P w K mg base CX0 2 f fd nPick (spPick K) := by
  have G_draw : FnOk P w K mg base CX0 1 fd1 fdd ["_law_box_here", "_law_many"] spDraw := ok_draw D_draw T
  refine D.fn.ok scPick (fun vs H Q E h => ?_) (fun cdv A outer s H vs Q E hr h => ?_)
  · obtain ⟨b, g, l, xs, rfl, _⟩ := h
    rfl
  · obtain ⟨b, g, l, xs, rfl, hl, n1, n2, h0, h1, hB, k⟩ := h
    have hr_draw : Room 1 _ := hr
    have nd := scPick.nd
    refine ⟨_, (pss_one (ps_ret (pe_ix ix_list (pv 1) (pe_call G_draw hr_draw (by rfl) D_draw.ad D_draw.fn.kp D_draw.bd .nil pass0 (pa_cons (pv 0) (pa_cons (pe_callB call_len_seq (by rfl) T.len PySem.boot_len (pa_cons (pv 1) pa_nil)) pa_nil))) (fun _ _ => rfl)))), ?_⟩
    walk_at "rd"
    refine ⟨_, _, rfl, .inl hl, ?_⟩
    refine ⟨b, g, (xs.length : Int), rfl, by omega, by omega, hB, fun r H' r0 r1 kp hB' => ?_⟩
    obtain ⟨j, rfl⟩ : ∃ j : Nat, r = (j : Int) := ⟨r.toNat, by omega⟩
    have hj : j < xs.length := by omega
    have hx : xs[j]? = some xs[j] := by simp [hj]
    exact ⟨l, xs, _, _, rfl, rfl, Kp.seq kp n1 n2 hl, atI_nat hx, k j _ H' hx kp hB'⟩
end
end BV

namespace BV
open PySem L2
local macro_rules | `(tactic| walk_at "rd") => `(tactic| (repeat (first | refine ⟨_, rfl, ?_⟩ | refine ⟨_, _, rfl, rfl, ?_⟩ | refine Or.inl ⟨_, rfl, ?_⟩ | refine Or.inr ⟨_, rfl, ?_⟩ | refine ⟨_, _, rfl, ?_⟩)))
abbrev sWeb : Stmt := top 20
abbrev nWeb : List Str := ["_law_box_here", "_law_most", "_law_more", "_law_many", "_law_ties", "_law_found", "_law_place", "_law_turn", "_law_one", "_law_other"]
abbrev pWeb : List Str := ["_law_box_here", "_law_most", "_law_more"]
theorem scWeb : FnScope nWeb pWeb (defScope sWeb) := ⟨rfl, rfl, rfl, by decide +kernel, rfl, by decide +kernel, by decide +kernel⟩
section
variable {P : Program} {w : World} {K : PySem.W.Frag} {mg : Str → Option Value} {base : Heap}
theorem ok_web {f f1 f2 : Addr} {fd fd1 fd2 : FuncData} (D : Df K mg "_law_web" sWeb pWeb f fd) (T : Bl mg)
    (D_draw : Df K mg "_law_draw" sDraw ["_law_box_here", "_law_many"] f1 fd1)
    (D_pick : Df K mg "_law_pick" sPick nPick f2 fd2) :
    FnOk P w K mg base CX0 3 f fd pWeb (spWeb K) := by
  have G_draw : FnOk P w K mg base CX0 1 f1 fd1 ["_law_box_here", "_law_many"] spDraw := ok_draw D_draw T
  have G_pick : FnOk P w K mg base CX0 2 f2 fd2 nPick (spPick K) := ok_pick D_pick T D_draw
  refine D.fn.ok scWeb (fun vs H Q E h => ?_) (fun cdv A outer s H vs Q E hr h => ?_)
  · obtain ⟨b, g, most, more, rfl, _⟩ := h
    rfl
  · obtain ⟨b, g, most, more, rfl, m1, m2, m3, hB, k⟩ := h
    have hr_pick : Room 2 _ := hr
    have hr_draw : Room 1 _ := hr.mono (by decide)
    have nd := scWeb.nd
    refine ⟨_, (pss_cons (ps_par3 (i := 3) (j := 4) (l := 5) (by rfl) nd rfl rfl rfl (by decide) (by decide) (by decide) rfl rfl rfl (pa_cons (pe_op op_add pe_int (pe_call G_draw hr_draw (by rfl) D_draw.ad D_draw.fn.kp D_draw.bd .nil pass0 (pa_cons (pv 0) (pa_cons (pv 1) pa_nil)))) (pa_cons (pe_lst pa_nil) (pa_cons (pe_lst pa_nil) pa_nil))) (by rfl))
      (pss_cons (ps_for PassesOwn.never rfl (pi_range2 rfl T.range (pa_cons pe_int (pa_cons (pv 3) pa_nil))) (pg_name (i := 6) nd rfl (by first | exact Or.inl rfl | exact Or.inr rfl)) (pss_one (ps_expr (pe_bm PySem.F.plainAttrs_list PySem.F.slot_list_append PySem.F.type_list_append mt_append (pv 4) (pa_cons (pe_tup (pa_cons (pe_call G_draw hr_draw (by rfl) D_draw.ad D_draw.fn.kp D_draw.bd .nil pass0 (pa_cons (pv 0) (pa_cons (pv 6) pa_nil))) (pa_cons (pv 6) pa_nil))) pa_nil)))))
      (pss_cons (ps_for PassesOwn.never rfl (pi_range1 rfl T.range (pa_cons (pe_ifExp (pt_cmpR op_gt (pv 3) pe_int (nomark _)) (pe_call G_draw hr_draw (by rfl) D_draw.ad D_draw.fn.kp D_draw.bd .nil pass0 (pa_cons (pv 0) (pa_cons (pe_op op_add (pv 2) pe_int) pa_nil))) pe_int) pa_nil)) (pg_name (i := 7) nd rfl (by first | exact Or.inl rfl | exact Or.inr rfl)) (pss_cons (ps_par (i := 8) (j := 9) (by rfl) nd rfl rfl (by decide) rfl rfl (pa_cons (pe_call G_draw hr_draw (by rfl) D_draw.ad D_draw.fn.kp D_draw.bd .nil pass0 (pa_cons (pv 0) (pa_cons (pv 3) pa_nil))) (pa_cons (pe_call G_draw hr_draw (by rfl) D_draw.ad D_draw.fn.kp D_draw.bd .nil pass0 (pa_cons (pv 0) (pa_cons (pv 3) pa_nil))) pa_nil)) (by rfl))
      (pss_cons (ps_if (PW.pt (pw_or (pt_cmpR op_eq (pv 8) (pv 9) (nomark _)) (pw_or1 (pt_cmpR op_eq (pe_call G_draw hr_draw (by rfl) D_draw.ad D_draw.fn.kp D_draw.bd .nil pass0 (pa_cons (pv 0) (pa_cons pe_int pa_nil))) pe_int (nomark _))))) (pss_one (ps_asg (pe_call G_pick hr_pick (by rfl) D_pick.ad D_pick.fn.kp D_pick.bd .nil pass0 (pa_cons (pv 0) (pa_cons (pv 4) pa_nil))) (pg_tup rfl (pgs_cons (pg_name (i := 8) nd rfl (by first | exact Or.inl rfl | exact Or.inr rfl)) (pgs_cons (pg_name (i := 9) nd rfl (by first | exact Or.inl rfl | exact Or.inr rfl)) pgs_nil))))) pss_nil)
      (pss_one (ps_expr (pe_bm PySem.F.plainAttrs_list PySem.F.slot_list_append PySem.F.type_list_append mt_append (pv 4) (pa_cons (pe_tup (pa_cons (pe_callB (call_min2 rfl) (by rfl) T.min (by decide +kernel) (pa_cons (pv 8) (pa_cons (pv 9) pa_nil))) (pa_cons (pe_callB (call_max2 rfl) (by rfl) T.max (by decide +kernel) (pa_cons (pv 8) (pa_cons (pv 9) pa_nil))) pa_nil))) pa_nil)))))))
      (pss_cons (ps_for PassesOwn.never rfl (pi_range1 rfl T.range (pa_cons (pe_callB call_len_seq (by rfl) T.len PySem.boot_len (pa_cons (pv 4) pa_nil)) pa_nil)) (pg_name (i := 7) nd rfl (by first | exact Or.inl rfl | exact Or.inr rfl)) (pss_one (ps_expr (pe_bm PySem.F.plainAttrs_list PySem.F.slot_list_append PySem.F.type_list_append mt_append (pv 5) (pa_cons (pe_bm PySem.F.plainAttrs_list PySem.F.slot_list_pop PySem.F.type_list_pop mt_popAt (pv 4) (pa_cons (pe_call G_draw hr_draw (by rfl) D_draw.ad D_draw.fn.kp D_draw.bd .nil pass0 (pa_cons (pv 0) (pa_cons (pe_callB call_len_seq (by rfl) T.len PySem.boot_len (pa_cons (pv 4) pa_nil)) pa_nil))) pa_nil)) pa_nil)))))
      (pss_one (ps_ret (pe_tup (pa_cons (pv 3) (pa_cons (pe_callTy call_tuple_of (by rfl) T.tuple (by decide +kernel) (pa_cons (pv 5) pa_nil)) pa_nil))))))))), ?_⟩
    -- _law_many, _law_ties, _law_found
    walk_at "rd"
    refine ⟨b, g, (most : Int), rfl, by omega, by omega, hB, fun r H1 r0 r1 kp1 hB1 => ?_⟩
    obtain ⟨n0, rfl⟩ : ∃ j : Nat, r = (j : Int) := ⟨r.toNat, by omega⟩
    walk_at "rd"
    refine ⟨Nat.zero_le _, fun l hl => ⟨Nat.zero_le _, fun l2 hl2 => ⟨_, _, _, rfl, ?_⟩⟩⟩
    have hll : upd H1 l (.lst []) l = some (.lst []) := upd_same
    have nll : l ≠ l2 := ne_of_none hll hl2
    have s1 : Same H1 (upd H1 l (.lst [])) := same_new hl
    have s2 : Same (upd H1 l (.lst [])) (upd (upd H1 l (.lst [])) l2 (.lst [])) := same_new hl2
    have hB2 := (hB1.same s1).same s2
    have lkeep : ∀ {a : Addr}, H1 a = none → a ≠ b → a ≠ g → H a = none := fun {a} h n1 n2 => by
      cases e : H a with
      | none => rfl
      | some o =>
        rw [kp1 _ _ e n1 n2] at h
        cases h
    have hBx := hB1
    obtain ⟨⟨bst, bc, hb1⟩, bns, hg1, _⟩ := hBx
    have lb : l ≠ b := (ne_of_none hb1 hl).symm
    have lg : l ≠ g := (ne_of_none hg1 hl).symm
    have l2b : l2 ≠ b := (ne_of_none (s1 _ _ hb1) hl2).symm
    have l2g : l2 ≠ g := (ne_of_none (s1 _ _ hg1) hl2).symm
    have W0 : WI b g l l2 H (upd (upd H1 l (.lst [])) l2 (.lst [])) [] [] :=
      ⟨kp1.trans ((Kp.same s1).trans (Kp.same s2)), hB2, lkeep hl lb lg, lkeep (Same.free s1 hl2) l2b l2g, lb, lg, l2b, l2g, nll,
        ⟨[], by rw [upd_ne nll]; exact upd_same, .nil⟩, ⟨[], upd_same, .nil⟩⟩
    generalize upd (upd H1 l (.lst [])) l2 (.lst []) = H2 at W0
    clear s1 s2 hB2 hl hl2 hll hb1 hg1 hB1 kp1
    -- each place behind an earlier one
    walk_at "rd"
    refine ⟨by omega, ?_⟩
    refine for_range (lo := 1) (n := (1 + (n0 : Int) - 1).toNat) (fun i σ Hc => ∃ (ts : List Tie) (v6 : Option V),
      σ = [some (.ref b), some (.int most), some (.int more), some (.int (1 + (n0 : Int))), some (.ref l), some (.ref l2), v6, none, none, none] ∧
      WI b g l l2 H Hc ts [] ∧ ts.length = i ∧ (∀ t ∈ ts, t.1 < t.2 ∧ t.2 ≤ i) ∧ ∀ p, 1 ≤ p → p ≤ i → ∃ q, q < p ∧ (q, p) ∈ ts) ?_ ?_ ?_
    · exact ⟨[], none, rfl, W0, rfl, by simp, fun p h1 h2 => by omega⟩
    · rintro i σ Hc hi ⟨ts, v6, rfl, W, e1, e2, e3⟩
      have hi2 : i < n0 := by omega
      obtain ⟨xs, hx, hxs⟩ := W.tl
      refine ⟨_, rfl, .inl ⟨rfl, _, SqL.of hx⟩, ?_⟩
      walk_at "rd"
      refine ⟨b, g, 1 + (i : Int), rfl, by omega, by omega, W.bx, fun r H3 r0 r1 kp3 hB3 => ?_⟩
      obtain ⟨q, rfl⟩ : ∃ j : Nat, r = (j : Int) := ⟨r.toNat, by omega⟩
      have W3 := W.draw kp3 hB3
      walk_at "rd"
      refine ⟨by show 2 ≤ sizeLine; decide, fun p hp => ?_⟩
      have W4 := W3.same (same_new (o := .tup [.int (q : Int), .int (1 + (i : Int))]) hp)
      obtain ⟨ys, hy, hys⟩ := W4.tl
      have hyl : ys.length = ts.length := hys.length
      refine ⟨l, ys, _, rfl, rfl, hy, Nat.lt_of_le_of_lt (show ys.length ≤ 1000 by omega) (by decide), ?_⟩
      have hv : TieAt (upd H3 p (.tup [.int (q : Int), .int (1 + (i : Int))])) (.ref p) (q, 1 + i) :=
        ⟨p, rfl, by rw [upd_same]; show some (HO.tup [V.int (q : Int), V.int (1 + (i : Int))]) = some (HO.tup [V.int (q : Int), V.int (((1 + i : Nat)) : Int)]); rw [Int.natCast_add]; rfl⟩
      refine ⟨ts ++ [(q, 1 + i)], _, rfl, W4.app hy hv, by rw [List.length_append, e1]; rfl, fun t ht => ?_, fun p' h1 h2 => ?_⟩
      · rcases List.mem_append.mp ht with ht | ht
        · have := e2 t ht
          omega
        · obtain rfl := List.mem_singleton.mp ht
          show q < 1 + i ∧ 1 + i ≤ i + 1
          omega
      · by_cases hp' : p' ≤ i
        · obtain ⟨q', a1, a2⟩ := e3 p' h1 hp'
          exact ⟨q', a1, List.mem_append_left _ a2⟩
        · obtain rfl : p' = 1 + i := by omega
          exact ⟨q, by omega, List.mem_append_right _ (List.mem_singleton.mpr rfl)⟩
    · rintro σ Hc ⟨ts, v6, rfl, W, e1, e2, e3⟩
      have e1' : ts.length = n0 := by omega
      have e2' : ∀ t ∈ ts, t.1 < t.2 ∧ t.2 < 1 + n0 := fun t ht => by
        have := e2 t ht
        omega
      have e3' : ∀ p, 1 ≤ p → p < 1 + n0 → ∃ q, q < p ∧ (q, p) ∈ ts := fun p h1 h2 => e3 p h1 (by omega)
      clear e1 e2 e3
      -- more ties
      dsimp only
      refine tSeq_go ?_
      refine for_rng1_by (fun v H' => ∃ m : Nat, v = .int (m : Int) ∧ m ≤ more ∧ (n0 = 0 → m = 0) ∧ WI b g l l2 H H' ts []) ?_ (fun cont => ?_)
      · rintro v H' ⟨m, rfl, hm, hz, W'⟩
        refine ⟨_, rfl, by omega, by omega, ?_⟩
        refine for_range (lo := 0) (n := (m : Int).toNat) (fun i σ Hc => ∃ (ts : List Tie) (v7 v8 v9 : Option V),
          σ = [some (.ref b), some (.int most), some (.int more), some (.int (1 + (n0 : Int))), some (.ref l), some (.ref l2), v6, v7, v8, v9] ∧
          WI b g l l2 H Hc ts [] ∧ ts.length = n0 + i ∧ (∀ t ∈ ts, t.1 < t.2 ∧ t.2 < 1 + n0) ∧ ∀ p, 1 ≤ p → p < 1 + n0 → ∃ q, q < p ∧ (q, p) ∈ ts) ?_ ?_ ?_
        · exact ⟨ts, none, none, none, rfl, W', e1', e2', e3'⟩
        · clear W W' e1' e2' e3'
          rintro i σ Hc hi ⟨ts, v7, v8, v9, rfl, W, e1, e2, e3⟩
          have hn0 : 0 < n0 := by
            rcases Nat.eq_zero_or_pos n0 with z | z
            · have := hz z
              omega
            · exact z
          walk_at "rd"
          refine ⟨b, g, 1 + (n0 : Int), rfl, by omega, by omega, W.bx, fun r H3 r0 r1 kp3 hB3 => ?_⟩
          obtain ⟨one, rfl⟩ : ∃ j : Nat, r = (j : Int) := ⟨r.toNat, by omega⟩
          have W3 := W.draw kp3 hB3
          walk_at "rd"
          refine ⟨b, g, 1 + (n0 : Int), rfl, by omega, by omega, W3.bx, fun r' H4 r0' r1' kp4 hB4 => ?_⟩
          obtain ⟨oth, rfl⟩ : ∃ j : Nat, r' = (j : Int) := ⟨r'.toNat, by omega⟩
          have W4 := W3.draw kp4 hB4
          refine ⟨_, _, rfl, ?_⟩
          dsimp only
          refine tSeq_go ?_
          refine tIfS_by (fun σ' H' => ∃ x y : Nat, x ≠ y ∧ x < 1 + n0 ∧ y < 1 + n0 ∧
            σ' = [some (.ref b), some (.int most), some (.int more), some (.int (1 + (n0 : Int))), some (.ref l), some (.ref l2), v6, some (.int (0 + (i : Int))), some (.int (x : Int)), some (.int (y : Int))] ∧
            WI b g l l2 H H' ts []) ?_ (fun cont => ?_)
          · rintro σ' H' ⟨x, y, nxy, hx, hy, rfl, W5⟩
            obtain ⟨xs, hl1, hl2⟩ := W5.tl
            refine ⟨_, rfl, .inl ⟨rfl, _, SqL.of hl1⟩, ?_⟩
            walk_at "rd"
            refine ⟨by show 2 ≤ sizeLine; decide, fun p hp => ?_⟩
            obtain ⟨lo, hi', e4, e5, hlt, hhi⟩ : ∃ lo hi' : Nat, (if (y : Int) < (x : Int) then (y : Int) else (x : Int)) = (lo : Int) ∧
                (if (y : Int) > (x : Int) then (y : Int) else (x : Int)) = (hi' : Int) ∧ lo < hi' ∧ hi' < 1 + n0 := by
              rcases Nat.lt_or_ge y x with z | z
              · exact ⟨y, x, if_pos (by omega), if_neg (by omega), z, hx⟩
              · exact ⟨x, y, if_neg (by omega), if_pos (by omega), by omega, hy⟩
            rw [e4, e5] at *
            have W6 := W5.same (same_new (o := .tup [.int (lo : Int), .int (hi' : Int)]) hp)
            obtain ⟨ys, hy1, hys⟩ := W6.tl
            have hyl : ys.length = ts.length := hys.length
            refine ⟨l, ys, _, rfl, rfl, hy1, Nat.lt_of_le_of_lt (show ys.length ≤ 3000 by omega) (by decide), ?_⟩
            refine ⟨ts ++ [(lo, hi')], _, _, _, rfl, W6.app hy1 ⟨p, rfl, upd_same⟩, by rw [List.length_append, e1]; rfl, fun t ht => ?_, fun p' h1 h2 => ?_⟩
            · rcases List.mem_append.mp ht with ht | ht
              · exact e2 t ht
              · obtain rfl := List.mem_singleton.mp ht
                exact ⟨hlt, hhi⟩
            · obtain ⟨q', a1, a2⟩ := e3 p' h1 h2
              exact ⟨q', a1, List.mem_append_left _ a2⟩
          · refine tIfS_t (fun c Hx => WI b g l l2 H Hx ts [] ∧ (c = false → one ≠ oth)) ?_ ?_ (fun both => ?_)
            · rintro Hx ⟨Wx, _⟩
              obtain ⟨xs, hl1, hl2⟩ := Wx.tl
              have hxl : xs.length = ts.length := hl2.length
              walk_at "rd"
              refine ⟨b, g, l, xs, rfl, SqL.of hl1, Wx.d1, Wx.d2, by omega, by omega, Wx.bx, fun j v Hy hj kpy hBy => ?_⟩
              have Wy := Wx.draw kpy hBy
              obtain ⟨t, ht, hv⟩ := hl2.at hj
              obtain ⟨p, rfl, hp⟩ := hv.kt (KT.of_kp kpy Wx.bx)
              refine ⟨p, _, rfl, SqT.of hp, rfl, _, _, rfl, _, _, rfl, rfl, ?_⟩
              have hm := e2 t (List.mem_of_getElem? ht)
              exact cont _ _ ⟨t.1, t.2, by omega, by omega, hm.2, rfl, Wy⟩
            · rintro Hx ⟨Wx, hne⟩
              exact cont _ _ ⟨one, oth, hne rfl, by omega, by omega, rfl, Wx⟩
            · refine ⟨_, rfl, _, rfl, rfl, _, rfl, ?_⟩
              refine ite2 (fun hc => ?_) (fun hc => ?_)
              · exact both _ _ ⟨W4, fun z => by cases z⟩
              · have hne : one ≠ oth := by
                  rintro rfl
                  exact hc (decide_eq_true rfl)
                walk_at "rd"
                refine ⟨b, g, 4, rfl, by decide, by decide, W4.bx, fun r Hx q0 q1 kpx hBx => ?_⟩
                refine ⟨rfl, _, rfl, ?_⟩
                exact both _ _ ⟨W4.draw kpx hBx, fun _ => hne⟩
        · clear W W' e1' e2' e3'
          rintro σ Hc ⟨ts, v7, v8, v9, rfl, W, e1, e2, e3⟩
          have e1 : ts.length = n0 + m := e1
          obtain ⟨xs, hl1, hl2⟩ := W.tl
          have hxl : xs.length = ts.length := hl2.length
          -- in another order
          refine ⟨_, rfl, _, _, rfl, .inl (SqL.of hl1), _, rfl, by omega, by omega, ?_⟩
          refine for_range (lo := 0) (n := (xs.length : Int).toNat) (fun i σ Hc => ∃ (us fs : List Tie) (v7 : Option V),
            σ = [some (.ref b), some (.int most), some (.int more), some (.int (1 + (n0 : Int))), some (.ref l), some (.ref l2), v6, v7, v8, v9] ∧
            WI b g l l2 H Hc us fs ∧ us.length + i = ts.length ∧ (us ++ fs).Perm ts) ?_ ?_ ?_
          · exact ⟨ts, [], v7, rfl, W, rfl, by simp⟩
          · rintro i σ Hd hi ⟨us, fs, v7', rfl, Wd, d1, d2⟩
            obtain ⟨xs', hu1, hu2⟩ := Wd.tl
            obtain ⟨ys', hf1, hf2⟩ := Wd.fl
            have hul : xs'.length = us.length := hu2.length
            have hfl : ys'.length = fs.length := hf2.length
            have hpl : us.length + fs.length = ts.length := by
              rw [← List.length_append]
              exact d2.length_eq
            have hi2 : i < xs.length := by omega
            refine ⟨_, rfl, .inl ⟨rfl, _, SqL.of hf1⟩, ?_⟩
            refine ⟨_, rfl, .inl ⟨rfl, _, SqL.of hu1⟩, ?_⟩
            walk_at "rd"
            refine ⟨_, _, rfl, .inl (SqL.of hu1), ?_⟩
            refine ⟨b, g, (xs'.length : Int), rfl, by omega, by omega, Wd.bx, fun r He r0 r1 kpe hBe => ?_⟩
            obtain ⟨j, rfl⟩ : ∃ j : Nat, r = (j : Int) := ⟨r.toNat, by omega⟩
            have hj : j < xs'.length := by omega
            have We := Wd.draw kpe hBe
            have hu1e := kpe _ _ hu1 Wd.d1 Wd.d2
            have hjx : xs'[j]? = some xs'[j] := by simp [hj]
            obtain ⟨t, ht, hv⟩ := hu2.at hjx
            have hve := hv.kt (KT.of_kp kpe Wd.bx)
            refine ⟨l, xs', _, j, _, rfl, rfl, hu1e, by omega, by omega, seq_nat hj, hjx, ?_⟩
            have Wf := We.pop hu1e j
            have hvf := hve.kt (KT.of_upd (ys := xs'.eraseIdx j) hu1e)
            have hf1f : upd He l (.lst (xs'.eraseIdx j)) l2 = some (.lst ys') := by
              rw [upd_ne Wd.d5.symm]
              exact kpe _ _ hf1 Wd.d3 Wd.d4
            refine ⟨l2, ys', _, rfl, rfl, hf1f, Nat.lt_of_le_of_lt (show ys'.length ≤ 3000 by omega) (by decide), ?_⟩
            have hjt : j < us.length := by omega
            refine ⟨us.eraseIdx j, fs ++ [t], _, rfl, (Wf.swap.app hf1f hvf).swap, ?_, (perm_move us fs j t ht).trans d2⟩
            rw [List.length_eraseIdx_of_lt hjt]
            omega
          · rintro σ Hd ⟨us, fs, v7', rfl, Wd, d1, d2⟩
            have hus : us = [] := List.eq_nil_of_length_eq_zero (by omega)
            subst hus
            have hp : fs.Perm ts := d2
            obtain ⟨ys', hf1, hf2⟩ := Wd.fl
            have hfl : ys'.length = fs.length := hf2.length
            have hpl : fs.length = ts.length := hp.length_eq
            refine ⟨_, rfl, _, rfl, l2, _, rfl, .inl ⟨SqL.of hf1, fun q hq => ?_⟩⟩
            refine ⟨by show 2 ≤ sizeLine; decide, fun p hp2 => ?_⟩
            have sq : Same Hd (upd Hd q (.tup ys')) := same_new hq
            have sp : Same (upd Hd q (.tup ys')) (upd (upd Hd q (.tup ys')) p (.tup [.int (1 + (n0 : Int)), .ref q])) := same_new hp2
            have Wz := (Wd.same sq).same sp
            refine k p (1 + n0) fs _ Wz.kp Wz.bx ?_ ⟨by omega, fun t ht => e2 t (hp.mem_iff.mp ht), fun p' h1 h2 => ?_⟩ (by omega) (by omega) fun z => ?_
            · have e : V.int (1 + (n0 : Int)) = V.int ((1 + n0 : Nat) : Int) := by rw [Int.natCast_add]; rfl
              refine .tup (SqT.of upd_same) (.cons ?_ (.cons (.tup (SqT.of (sp _ _ upd_same)) ((hf2.kt ((KT.of_same sq))).kt (KT.of_same sp)).dp) .nil))
              rw [e]
              exact .int _
            · obtain ⟨q', a1, a2⟩ := e3 p' h1 h2
              exact ⟨q', a1, hp.mem_iff.mpr a2⟩
            · have hm0 : m = 0 := hz (by omega)
              exact List.eq_nil_of_length_eq_zero (by omega)
      · walk_at "rd"
        refine ite2 (fun hc => ?_) (fun hc => ?_)
        · have hc' := of_decide_eq_true hc
          walk_at "rd"
          refine ⟨b, g, (more : Int) + 1, rfl, by omega, by omega, W.bx, fun r H3 r0 r1 kp3 hB3 => ?_⟩
          obtain ⟨m, rfl⟩ : ∃ j : Nat, r = (j : Int) := ⟨r.toNat, by omega⟩
          exact cont _ _ ⟨m, rfl, by omega, by omega, W.draw kp3 hB3⟩
        · have hc' : ¬ (1 : Int) < 1 + (n0 : Int) := fun z => hc (decide_eq_true z)
          exact cont _ _ ⟨0, rfl, Nat.zero_le _, fun _ => rfl, W⟩
end
end BV

namespace BV
open PySem L2
local macro_rules | `(tactic| walk_at "rd") => `(tactic| (repeat (first | refine ⟨_, rfl, ?_⟩ | refine ⟨_, _, rfl, rfl, ?_⟩ | refine Or.inl ⟨_, rfl, ?_⟩ | refine Or.inr ⟨_, rfl, ?_⟩ | refine ⟨_, _, rfl, ?_⟩)))
abbrev sTies : Stmt := top 7
abbrev nTies : List Str := ["web", "place", "tie", "ends"]
theorem scTies : FnScope nTies ["web", "place"] (defScope sTies) := ⟨rfl, rfl, rfl, by decide +kernel, rfl, by decide +kernel, by decide +kernel⟩
section
variable {P : Program} {w : World} {K : PySem.W.Frag} {mg : Str → Option Value} {base : Heap}
theorem ok_ties {f : Addr} {fd : FuncData} (D : Df K mg "ties_at" sTies ["web", "place"] f fd) (T : Bl mg) :
    FnOk P w K mg base CX0 1 f fd ["web", "place"] (spTies K) := by
  refine D.fn.ok scTies (fun vs H Q E h => ?_) (fun cdv A outer s H vs Q E hr h => ?_)
  · obtain ⟨v, n, p, ts, rfl, _⟩ := h
    rfl
  · obtain ⟨v, n, p, ts, rfl, hw, hl, k⟩ := h
    have nd := scTies.nd
    obtain ⟨a, c, ys, rfl, ha, hc, hys⟩ := dp_web hw
    have hyl : ys.length = ts.length := by rw [dpAll_len hys, List.length_map]
    refine ⟨_, (pss_one (ps_ret (pe_callTy (tupleK K) (by rfl) T.tuple (by decide +kernel) (pa_cons (pe_lc (own := [("tie", 2), ("ends", 3)]) (g := (gTup K 2 (gCons (gName 2) (gCons (gName 3) gNil)))) rfl nd (enumT K (by rfl) T.enumerate (pa_cons (pe_ix (ixT K) (pv 0) pe_int (fun _ _ => rfl)) pa_nil)) (blkOk_by (own := [("tie", 2), ("ends", 3)]) (N := nTies) (sc := defScope sTies) (by decide +kernel)) (fun _ _ _ _ _ => (pgT K rfl (pgs_cons (pg_name (i := 2) nd rfl (by first | exact Or.inl rfl | exact Or.inr rfl)) (pgs_cons (pg_name (i := 3) nd rfl (by first | exact Or.inl rfl | exact Or.inr rfl)) pgs_nil)))) (fun _ _ _ _ _ => (pts_one (pt_cmpR (opIn K) (pv 1) (pv 3) rfl))) (fun _ _ _ _ _ => (pv 2))) pa_nil)))), ?_⟩
    refine ⟨_, rfl, a, _, 1, _, rfl, rfl, ha, atI_nat (j := 1) rfl, ?_⟩
    refine ⟨c, ys, rfl, hc, fun D hD => ?_⟩
    refine lc_run walk_enumT hD (fun i acc _ => acc = ((List.range i).filter (hit ts p)).map fun (k : Nat) => V.int k) ?_ ?_ ?_ ?_
    · exact fun H' s => sqT_same s hc
    · rfl
    · rintro i x acc H2 H' hi hacc e s r ⟨q, u, y, rfl, hq, rfl, hu, hy⟩
      cases hu
      obtain ⟨t, ht, hv⟩ := dpAll_get hys hy
      obtain ⟨t', ht', rfl⟩ : ∃ t', ts[i]? = some t' ∧ t = tieD t' := by
        rw [List.getElem?_map] at ht
        cases e : ts[i]? with
        | none => rw [e] at ht; cases ht
        | some t' => rw [e] at ht; exact ⟨t', rfl, (Option.some.inj ht).symm⟩
      have sq : Same H2 (upd H2 q (.tup [.int (i : Nat), y])) := same_new hq
      obtain ⟨pa, rfl, hpa⟩ := dp_tie (dp_same (s.trans sq) _ hv)
      refine ⟨q, _, rfl, SqT.of upd_same, rfl, _, _, rfl, _, _, rfl, rfl, rfl, ?_⟩
      walk_at "rd"
      refine ⟨pa, _, rfl, .inr hpa, rfl, rfl, _, rfl, ?_⟩
      show (if inV (.int (p : Int)) [.int t'.1, .int t'.2] = true then _ else _)
      have hacc2 : ((List.range i).filter (hit ts p)).length ≤ i := Nat.le_trans (List.length_filter_le _ _) (by rw [List.length_range]; exact Nat.le_refl _)
      have hin : inV (.int (p : Int)) [.int t'.1, .int t'.2] = hit ts p i := by rw [inv_tie, hit_at ht']
      have r' : acc = ((List.range i).filter (hit ts p)).map fun (k : Nat) => V.int k := r
      rw [hin]
      refine ite2 (fun hh => ?_) (fun hh => ?_)
      · walk_at "rd"
        refine lc_add hacc e sq (by rw [r', List.length_map]; omega) ?_
        rw [range_filter_succ, if_pos hh, List.map_append, r']
        rfl
      · refine lc_skip hacc e sq ?_
        rw [range_filter_succ, if_neg hh, List.append_nil]
        exact r'
    · rintro acc H2 h1 s2 r
      refine ⟨D, _, rfl, .inl ⟨SqL.of h1, fun u hu => ?_⟩⟩
      have su : Same H2 (upd H2 u (.tup acc)) := same_new hu
      refine k _ _ (s2.trans su) ?_
      have r' : acc = ((List.range ys.length).filter (hit ts p)).map fun (k : Nat) => V.int k := r
      rw [hyl] at r'
      refine .tup (SqT.of upd_same) ?_
      have e2 : ((tiesAt ts p).map fun (k : Nat) => PyData.int k) = ((tiesAt ts p).map fun (k : Nat) => (k : Int)).map PyData.int := by rw [List.map_map]; rfl
      have e3 : acc = ((tiesAt ts p).map fun (k : Nat) => (k : Int)).map V.int := by rw [r', List.map_map]; rfl
      rw [e2, e3]
      exact dpAll_ints _
end
end BV

namespace BV
open PySem L2
abbrev sDo : Stmt := top 9
abbrev nDo : List Str := ["web", "numbers", "deed", "word", "target", "times", "touched", "tie"]
theorem scDo : FnScope nDo ["web", "numbers", "deed"] (defScope sDo) := ⟨rfl, rfl, rfl, by decide +kernel, rfl, by decide +kernel, by decide +kernel⟩
abbrev sDone : Stmt := top 10
abbrev nDone : List Str := ["web", "standing", "deeds", "numbers", "deed"]
theorem scDone : FnScope nDone ["web", "standing", "deeds"] (defScope sDone) := ⟨rfl, rfl, rfl, by decide +kernel, rfl, by decide +kernel, by decide +kernel⟩
abbrev sUndone : Stmt := top 11
abbrev nUndone : List Str := ["deeds", "word", "target", "times"]
theorem scUndone : FnScope nUndone ["deeds"] (defScope sUndone) := ⟨rfl, rfl, rfl, by decide +kernel, rfl, by decide +kernel, by decide +kernel⟩
section
variable {P : Program} {w : World} {K : PySem.W.Frag} {mg : Str → Option Value} {base : Heap}
theorem ok_do {f f1 : Addr} {fd fd1 : FuncData} (D : Df K mg "_do" sDo ["web", "numbers", "deed"] f fd) (T : Bl mg)
    (D_ties : Df K mg "ties_at" sTies ["web", "place"] f1 fd1) : FnOk P w K mg base CX0 2 f fd ["web", "numbers", "deed"] (spDo K) := by
  have G_ties : FnOk P w K mg base CX0 1 f1 fd1 ["web", "place"] (spTies K) := ok_ties D_ties T
  refine D.fn.ok scDo (fun vs H Q E h => ?_) (fun cdv A outer s H vs Q E hr h => ?_)
  · obtain ⟨v, dv, l, n, ts, d, g, rfl, _⟩ := h
    rfl
  · obtain ⟨v, dv, l, n, ts, d, g, rfl, hw, hd, hok, hl, hn, k⟩ := h
    have hr_ties : Room 1 _ := hr
    have nd := scDo.nd
    obtain ⟨a, va, rfl, ha, hva⟩ := dp_deed hd
    refine ⟨_, (pss_cons (ps_asg (pv 2) (pgT K rfl (pgs_cons (pg_name (i := 3) nd rfl (by first | exact Or.inl rfl | exact Or.inr rfl)) (pgs_cons (pg_name (i := 4) nd rfl (by first | exact Or.inl rfl | exact Or.inr rfl)) (pgs_cons (pg_name (i := 5) nd rfl (by first | exact Or.inl rfl | exact Or.inr rfl)) pgs_nil)))))
      (pss_cons (ps_set (i := 6) nd rfl (by first | exact Or.inl rfl | exact Or.inr rfl) (pe_ifExp (pt_cmpR op_eq (pv 3) pe_str (nomark _)) (pe_call G_ties hr_ties (by rfl) D_ties.ad D_ties.fn.kp D_ties.bd .nil pass0 (pa_cons (pv 0) (pa_cons (pv 4) pa_nil))) (pv 4)))
      (pss_one (ps_for PassesOwn.never rfl (piT K (pv 6)) (pg_name (i := 7) nd rfl (by first | exact Or.inl rfl | exact Or.inr rfl)) (pss_one (ps_augS (pv 1) (pv 7) (getL K) (pv 5) ip_add set_list)))))), ?_⟩
    refine ⟨_, rfl, a, _, rfl, ha, rfl, _, _, rfl, _, _, rfl, _, _, rfl, rfl, ?_⟩
    -- the ties that are touched
    dsimp only
    refine tSeq_go ?_
    refine tAsg_by (fun u H' => Same H H' ∧ ∃ ks : List Nat, Dp K H' u (lotD ks) ∧ (∀ k ∈ ks, k < ts.length) ∧ ks.Nodup ∧ ∀ k, k < ts.length → (d.touch ts k = true ↔ k ∈ ks)) ?_ (fun cont => ?_)
    · rintro u H1 ⟨s1, ks, hu, hk1, hk2, hk3⟩
      obtain ⟨au, rfl, hau⟩ := dp_lotI hu
      have hn1 := s1 _ _ hn
      refine ⟨_, rfl, au, rfl, ⟨_, hau⟩, for_it (walk_tup (xs := ks.map fun (k : Nat) => V.int k)) (fun j σ H' => ∃ v7 : Option V,
        σ = [some v, some (.ref l), some (.ref a), some (.str d.word), some va, some (.int d.times), some (.ref au), v7] ∧
        Kp l l H1 H' ∧ H' l = some (.lst (numsV ts.length fun k => g k + if k ∈ ks.take j then d.times else 0))) ?_ ?_ ?_ ?_⟩
      · refine ⟨none, rfl, Kp.refl _, ?_⟩
        rw [hn1]
        congr 2
        exact numsV_congr fun k _ => by simp
      · rintro j σ H' _ ⟨v7, rfl, h1, h2⟩
        refine sqT_kf (H := H1) (fun z o hz q => ?_) hau
        have nz : z ≠ l := by
          rintro rfl
          rw [hn1] at hz
          obtain ⟨_, rfl | ⟨_, rfl⟩⟩ := q <;> cases hz
        exact h1 _ _ hz nz nz
      · rintro j x σ H' H'' hj ⟨v7, rfl, h1, h2⟩ ⟨rfl, hx⟩
        obtain ⟨kk, hkk, rfl⟩ := get_map hx
        have hkm : kk ∈ ks := List.mem_of_getElem? hkk
        have hkt := hk1 kk hkm
        refine ⟨_, rfl, _, rfl, l, _, kk, _, rfl, rfl, SqL.of h2, numsV_get hkt, ?_⟩
        refine ⟨_, rfl, _, _, rfl, rfl, l, _, (kk : Int), kk, rfl, rfl, h2, ix_nat (by rw [numsV_len]; exact hkt), ?_⟩
        refine ⟨some (.int kk), rfl, h1.trans Kp.setb, ?_⟩
        rw [upd_same, numsV_set]
        congr 2
        refine numsV_congr fun k _ => ?_
        have htk : ks.take (j + 1) = ks.take j ++ [kk] := by
          rw [List.take_add_one, hkk]
          rfl
        have hnot : kk ∉ ks.take j := by
          have hnd := hk2
          rw [← List.take_append_drop (j + 1) ks, htk, List.nodup_append, List.nodup_append] at hnd
          intro hmem
          exact hnd.1.2.2 kk hmem kk (by simp) rfl
        rw [htk]
        by_cases e : k = kk
        · subst e
          simp [hnot]
        · simp [e]
      · rintro σ H' ⟨v7, rfl, h1, h2⟩
        refine k H' (fun z o hz n1 n2 => h1 _ _ (s1 _ _ hz) n1 n2) ?_
        rw [h2]
        congr 2
        refine numsV_congr fun k hk => ?_
        rw [List.take_of_length_le (by rw [List.length_map]; exact Nat.le_refl _)]
        unfold Deed.part
        by_cases e : d.touch ts k = true
        · rw [if_pos e, if_pos ((hk3 k hk).mp e)]
        · rw [if_neg e, if_neg (fun z => e ((hk3 k hk).mpr z))]
    · cases d with
      | star p t =>
        refine ⟨_, rfl, rfl, _, rfl, ?_⟩
        refine iteT ?_
        refine ⟨_, rfl, _, rfl, ?_⟩
        cases hva
        refine ⟨v, n, p, ts, rfl, hw, hl, fun u H' su hu => cont _ _ ⟨su, tiesAt ts p, hu, fun k hk => (mem_tiesAt.mp hk).1, tiesAt_nodup ts p, fun k hk => ?_⟩⟩
        exact ⟨fun z => mem_tiesAt.mpr ⟨hk, z⟩, fun z => (mem_tiesAt.mp z).2⟩
      | round ks t =>
        refine ⟨_, rfl, rfl, _, rfl, ?_⟩
        refine iteF ?_
        refine ⟨_, rfl, ?_⟩
        exact cont _ _ ⟨Same.refl _, ks, hva, hok.1, hok.2, fun k _ => ⟨fun z => of_decide_eq_true z, fun z => decide_eq_true z⟩⟩
theorem ok_done {f f1 f2 : Addr} {fd fd1 fd2 : FuncData} (D : Df K mg "done" sDone ["web", "standing", "deeds"] f fd) (T : Bl mg) (hlist : mg "list" = none)
    (D_ties : Df K mg "ties_at" sTies ["web", "place"] f1 fd1) (D_do : Df K mg "_do" sDo ["web", "numbers", "deed"] f2 fd2) :
    FnOk P w K mg base CX0 3 f fd ["web", "standing", "deeds"] (spDone K) := by
  have G_do : FnOk P w K mg base CX0 2 f2 fd2 ["web", "numbers", "deed"] (spDo K) := ok_do D_do T D_ties
  refine D.fn.ok scDone (fun vs H Q E h => ?_) (fun cdv A outer s H vs Q E hr h => ?_)
  · obtain ⟨v, sv, dv, n, ts, g, ds, rfl, _⟩ := h
    rfl
  · obtain ⟨v, sv, dv, n, ts, g, ds, rfl, hw, hs, hd, hok, hl, k⟩ := h
    have hr_do : Room 2 _ := hr
    have nd := scDone.nd
    obtain ⟨as, rfl, has⟩ := dp_nums hs
    obtain ⟨ad, xs, rfl, had, hxs⟩ := dp_tup hd
    have hxl : xs.length = ds.length := by rw [dpAll_len hxs, List.length_map]
    refine ⟨_, (pss_cons (ps_set (i := 3) nd rfl (by first | exact Or.inl rfl | exact Or.inr rfl) (pe_callTy call_list_of (by rfl) hlist (by decide +kernel) (pa_cons (pv 1) pa_nil)))
      (pss_cons (ps_for PassesOwn.never rfl (piT K (pv 2)) (pg_name (i := 4) nd rfl (by first | exact Or.inl rfl | exact Or.inr rfl)) (pss_one (ps_expr (pe_call G_do hr_do (by rfl) D_do.ad D_do.fn.kp D_do.bd .nil pass0 (pa_cons (pv 0) (pa_cons (pv 3) (pa_cons (pv 4) pa_nil)))))))
      (pss_one (ps_ret (pe_callTy (tupleK K) (by rfl) T.tuple (by decide +kernel) (pa_cons (pv 3) pa_nil)))))), ?_⟩
    refine ⟨_, rfl, as, _, rfl, .inr has, fun l hln => ?_⟩
    have s0 : Same H (upd H l (.lst (numsV ts.length g))) := same_new hln
    refine ⟨_, rfl, ad, rfl, ⟨_, sqT_same s0 had⟩, for_it (walk_tup (xs := xs)) (fun j σ H' => ∃ v4 : Option V,
      σ = [some v, some (.ref as), some (.ref ad), some (.ref l), v4] ∧ Same H H' ∧ H' l = some (.lst (numsV ts.length (behind ts g (ds.take j))))) ?_ ?_ ?_ ?_⟩
    · exact ⟨none, rfl, s0, upd_same⟩
    · rintro j σ H' _ ⟨v4, rfl, h1, h2⟩
      exact sqT_same h1 had
    · rintro j x σ H' H'' hj ⟨v4, rfl, h1, h2⟩ ⟨rfl, hx⟩
      obtain ⟨dd, hdd, hdp⟩ := dpAll_get hxs hx
      obtain ⟨d, hdj, rfl⟩ := get_map hdd
      refine ⟨_, rfl, _, rfl, _, rfl, ?_⟩
      refine ⟨v, x, l, n, ts, d, _, rfl, dp_same h1 _ hw, dp_same h1 _ hdp, hok d (List.mem_of_getElem? hdj), hl, h2, fun H3 k3 h3 => ?_⟩
      refine ⟨some x, rfl, fun z o hz => ?_, ?_⟩
      · have nz := ne_of_none hz hln
        exact k3 _ _ (h1 _ _ hz) nz nz
      · rw [h3]
        congr 2
        refine numsV_congr fun kk _ => ?_
        have htk : ds.take (j + 1) = ds.take j ++ [d] := by
          rw [List.take_add_one, hdj]
          rfl
        rw [htk, behind_eq, behind_eq, effect_app]
        simp only [effect, List.map_cons, List.map_nil, List.sum_cons, List.sum_nil]
        omega
    · rintro σ H' ⟨v4, rfl, h1, h2⟩
      rw [hxl, List.take_of_length_le (Nat.le_refl _)] at h2
      refine ⟨_, rfl, l, _, rfl, .inl ⟨SqL.of h2, fun u hu => ?_⟩⟩
      exact k _ _ (h1.trans (same_new hu)) (nums_dp (SqT.of upd_same))
theorem ok_undone {f : Addr} {fd : FuncData} (D : Df K mg "undone" sUndone ["deeds"] f fd) (T : Bl mg) :
    FnOk P w K mg base CX0 1 f fd ["deeds"] (spUndone K) := by
  refine D.fn.ok scUndone (fun vs H Q E h => ?_) (fun cdv A outer s H vs Q E hr h => ?_)
  · obtain ⟨dv, ds, rfl, _⟩ := h
    rfl
  · obtain ⟨dv, ds, rfl, hd, hl, k⟩ := h
    have nd := scUndone.nd
    obtain ⟨ad, xs, rfl, had, hxs⟩ := dp_tup hd
    refine ⟨_, (pss_one (ps_ret (pe_callTy (tupleK K) (by rfl) T.tuple (by decide +kernel) (pa_cons (pe_lc (own := [("word", 1), ("target", 2), ("times", 3)]) (g := (gTup K 3 (gCons (gName 1) (gCons (gName 2) (gCons (gName 3) gNil))))) (tt := tYes) rfl nd (piT K (revT K (pv 0))) (blkOk_by (own := [("word", 1), ("target", 2), ("times", 3)]) (N := nUndone) (sc := defScope sUndone) (by decide +kernel)) (fun _ _ _ _ _ => (pgT K rfl (pgs_cons (pg_name (i := 1) nd rfl (by first | exact Or.inl rfl | exact Or.inr rfl)) (pgs_cons (pg_name (i := 2) nd rfl (by first | exact Or.inl rfl | exact Or.inr rfl)) (pgs_cons (pg_name (i := 3) nd rfl (by first | exact Or.inl rfl | exact Or.inr rfl)) pgs_nil))))) (fun _ _ _ _ _ => pts_nil) (fun _ _ _ _ _ => (pe_tup (pa_cons (pv 1) (pa_cons (pv 2) (pa_cons (pe_un un_neg (pv 3)) pa_nil)))))) pa_nil)))), ?_⟩
    refine ⟨_, rfl, ad, xs, rfl, had, fun r hr' => ?_⟩
    have s0 : Same H (upd H r (.tup xs.reverse)) := same_new hr'
    have hrx := dpAll_rev (dpAll_same s0 _ hxs)
    rw [← List.map_reverse] at hrx
    have hxl : xs.reverse.length = ds.length := by rw [List.length_reverse, dpAll_len hxs, List.length_map]
    have hrT : SqT K (upd H r (.tup xs.reverse)) r xs.reverse := SqT.of upd_same
    refine ⟨r, rfl, ⟨_, hrT⟩, fun E1 hE1 => ?_⟩
    refine lc_run (walk_tup (xs := xs.reverse)) hE1 (fun i acc H0 => DpAll K H0 acc (((ds.reverse.take i).map Deed.neg).map Deed.D)) ?_ ?_ ?_ ?_
    · exact fun H' s => sqT_same s hrT
    · exact .nil
    · rintro i x acc H2 H' hi hacc e s r' ⟨rfl, hx⟩
      obtain ⟨dd, hdd, hdp⟩ := dpAll_get (dpAll_same s _ hrx) hx
      obtain ⟨d, hdj, rfl⟩ := get_map hdd
      obtain ⟨a, va, rfl, ha, hva⟩ := dp_deed hdp
      refine ⟨a, _, rfl, ha, rfl, _, _, rfl, _, _, rfl, _, _, rfl, rfl, rfl, yes_go ?_⟩
      refine ⟨_, rfl, _, rfl, _, rfl, _, rfl, by show 3 ≤ sizeLine; decide, fun p hp => ?_⟩
      have sp : Same H' (upd H' p (.tup [.str d.word, va, .int (-d.times)])) := same_new hp
      have np : p ≠ E1 := by
        rintro rfl
        rw [hacc] at hp
        cases hp
      have hal : acc.length ≤ i := by
        rw [dpAll_len r', List.length_map, List.length_map, List.length_take]
        omega
      refine lc_add hacc e sp (by omega) ?_
      have htk : ds.reverse.take (i + 1) = ds.reverse.take i ++ [d] := by
        rw [List.take_add_one, hdj]
        rfl
      rw [htk, List.map_append, List.map_append]
      refine dpAll_app (dpAll_same (era_same sp) _ r') (.cons ?_ .nil)
      have hva' : Dp K (era (upd H' p (.tup [.str d.word, va, .int (-d.times)])) E1) va d.about := by
        have kf : KF H' (era (upd H' p (.tup [.str d.word, va, .int (-d.times)])) E1) := fun z o hz q => by
          have nz : z ≠ E1 := by
            rintro rfl
            rw [hacc] at hz
            obtain ⟨_, rfl | ⟨_, rfl⟩⟩ := q <;> cases hz
          rw [era_ne nz]
          exact sp _ _ hz
        refine dp_kf kf _ ?_ hva
        cases d with
        | star p t => simp [Deed.about, still]
        | round ks t => exact still_lot ks
      have hpn : SqT K (era (upd H' p (.tup [.str d.word, va, .int (-d.times)])) E1) p [.str d.word, va, .int (-d.times)] := SqT.of (by rw [era_ne np, upd_same])
      cases d with
      | star p' t => exact .tup hpn (.cons (.str _) (.cons hva' (.cons (.int _) .nil)))
      | round ks t => exact .tup hpn (.cons (.str _) (.cons hva' (.cons (.int _) .nil)))
    · rintro acc H2 h1 s2 r'
      have r'' : DpAll K (era H2 E1) acc (((ds.reverse.take xs.reverse.length).map Deed.neg).map Deed.D) := r'
      rw [hxl, List.take_of_length_le (by rw [List.length_reverse]; exact Nat.le_refl _)] at r''
      refine ⟨E1, _, rfl, .inl ⟨SqL.of h1, fun u hu => ?_⟩⟩
      have su : Same H2 (upd H2 u (.tup acc)) := same_new hu
      exact k _ _ (s0.trans (s2.trans su)) (.tup (SqT.of upd_same) (dpAll_same (era_back.trans su) _ r''))
end
end BV

namespace BV
open PySem L2
abbrev sCounts : Stmt := top 21
abbrev nCounts : List Str := ["_law_web_here", "_law_lot_here", "_law_found", "_law_tie", "_law_one", "_law_other"]
abbrev pCounts : List Str := ["_law_web_here", "_law_lot_here"]
theorem scCounts : FnScope nCounts pCounts (defScope sCounts) := ⟨rfl, rfl, rfl, by decide +kernel, rfl, by decide +kernel, by decide +kernel⟩
abbrev sLot : Stmt := top 22
abbrev nLot : List Str := ["_law_web_here", "_law_number", "_law_found", "_law_left", "_law_tie"]
abbrev pLot : List Str := ["_law_web_here", "_law_number"]
theorem scLot : FnScope nLot pLot (defScope sLot) := ⟨rfl, rfl, rfl, by decide +kernel, rfl, by decide +kernel, by decide +kernel⟩
abbrev sTwos : Stmt := top 23
abbrev nTwos : List Str := ["_law_many", "_law_found", "_law_turn"]
theorem scTwos : FnScope nTwos ["_law_many"] (defScope sTwos) := ⟨rfl, rfl, rfl, by decide +kernel, rfl, by decide +kernel, by decide +kernel⟩
def spCounts (K : PySem.W.Frag) : Sp := fun vs H Q _ => ∃ (v lv : V) (n : Nat) (ts : List Tie) (ks : List Nat), vs = [v, lv] ∧ Dp K H v (webD n ts) ∧ Dp K H lv (lotD ks) ∧
  (∀ t ∈ ts, t.1 < t.2 ∧ t.2 < n) ∧ (∀ k ∈ ks, k < ts.length) ∧ n ≤ 1000 ∧
  ∀ (l : Addr) (ms : List Int) H', Same H H' → H' l = some (.lst (ms.map V.int)) → ms.length = n → Q (.ref l) H'
def spLotN (K : PySem.W.Frag) : Sp := fun vs H Q _ => ∃ (v : V) (n : Nat) (ts : List Tie) (z : Nat), vs = [v, .int (z : Nat)] ∧ Dp K H v (webD n ts) ∧ ts.length ≤ 1000 ∧
  ∀ (u : V) (ks : List Nat) H', Same H H' → Dp K H' u (lotD ks) → LotA ts.length ks → (∀ k, k < ts.length → (k ∈ ks ↔ z / 2 ^ (ts.length - 1 - k) % 2 = 1)) → Q u H'
def spTwos : Sp := fun vs H Q _ => ∃ m : Nat, vs = [.int m] ∧ m ≤ 40 ∧ Q (.int (2 ^ m)) H
theorem same_old {H H' : Hp} {l : Addr} {o : HO} (h : H l = none) (s : Same H H') : Same H (upd H' l o) := fun a x e => by
  rw [upd_ne (ne_of_none e h)]
  exact s _ _ e
theorem set_ints (ms : List Int) (i : Nat) (z : Int) : (ms.map V.int).set i (.int z) = (ms.set i z).map V.int := by
  rw [List.map_set]
section
variable {P : Program} {w : World} {K : PySem.W.Frag} {mg : Str → Option Value} {base : Heap}
theorem ok_twos {f : Addr} {fd : FuncData} (D : Df K mg "_law_twos" sTwos ["_law_many"] f fd) (T : Bl mg) : FnOk P w K mg base CX0 1 f fd ["_law_many"] spTwos := by
  refine D.fn.ok scTwos (fun vs H Q E h => ?_) (fun cdv A outer s H vs Q E hr h => ?_)
  · obtain ⟨m, rfl, _⟩ := h
    rfl
  · obtain ⟨m, rfl, hm, k⟩ := h
    have nd := scTwos.nd
    refine ⟨_, (pss_cons (ps_set (i := 1) nd rfl (by first | exact Or.inl rfl | exact Or.inr rfl) pe_int)
      (pss_cons (ps_for PassesOwn.never rfl (pi_range1 rfl T.range (pa_cons (pv 0) pa_nil)) (pg_name (i := 2) nd rfl (by first | exact Or.inl rfl | exact Or.inr rfl)) (pss_one (ps_set (i := 1) nd rfl (by first | exact Or.inl rfl | exact Or.inr rfl) (pe_op op_mul pe_int (pv 1)))))
      (pss_one (ps_ret (pv 1))))), ?_⟩
    refine ⟨_, rfl, _, rfl, by omega, by omega, ?_⟩
    refine for_range (lo := 0) (n := (m : Int).toNat) (fun i σ Hc => ∃ v2 : Option V, σ = [some (.int m), some (.int (2 ^ i)), v2] ∧ Hc = H) ?_ ?_ ?_
    · exact ⟨none, rfl, rfl⟩
    · rintro i σ Hc hi ⟨v2, rfl, rfl⟩
      have hi2 : i < m := by omega
      have h1 : (2 : Int) ^ i ≤ 2 ^ 40 := by
        have : (2 : Nat) ^ i ≤ 2 ^ 40 := Nat.pow_le_pow_right (by decide) (by omega)
        exact_mod_cast this
      have h0 : (0 : Int) < 2 ^ i := Int.pow_pos (by decide)
      refine ⟨_, rfl, _, _, rfl, rfl, .inl ⟨by omega, by omega⟩, some (.int (0 + i)), ?_, rfl⟩
      have e : (2 : Int) ^ (i + 1) = 2 * 2 ^ i := by rw [Int.pow_succ, Int.mul_comm]
      rw [e]
      rfl
    · rintro σ Hc ⟨v2, rfl, rfl⟩
      exact ⟨_, rfl, k⟩
theorem ok_counts {f : Addr} {fd : FuncData} (D : Df K mg "_law_counts" sCounts pCounts f fd) (T : Bl mg) : FnOk P w K mg base CX0 1 f fd pCounts (spCounts K) := by
  refine D.fn.ok scCounts (fun vs H Q E h => ?_) (fun cdv A outer s H vs Q E hr h => ?_)
  · obtain ⟨v, lv, n, ts, ks, rfl, _⟩ := h
    rfl
  · obtain ⟨v, lv, n, ts, ks, rfl, hw, hk, hends, hks, hn, k⟩ := h
    have nd := scCounts.nd
    obtain ⟨a, c, ys, rfl, ha, hc, hys⟩ := dp_web hw
    obtain ⟨al, rfl, hal⟩ := dp_lotI hk
    refine ⟨_, (pss_cons (ps_set (i := 2) nd rfl (by first | exact Or.inl rfl | exact Or.inr rfl) (pe_op op_rep (pe_lst (pa_cons pe_int pa_nil)) (pe_ix (ixT K) (pv 0) pe_int (fun _ _ => rfl))))
      (pss_cons (ps_for PassesOwn.never rfl (piT K (pv 1)) (pg_name (i := 3) nd rfl (by first | exact Or.inl rfl | exact Or.inr rfl)) (pss_cons (ps_asg (pe_ix (ixT K) (pe_ix (ixT K) (pv 0) pe_int (fun _ _ => rfl)) (pv 3) (fun _ _ => rfl)) (pgT K rfl (pgs_cons (pg_name (i := 4) nd rfl (by first | exact Or.inl rfl | exact Or.inr rfl)) (pgs_cons (pg_name (i := 5) nd rfl (by first | exact Or.inl rfl | exact Or.inr rfl)) pgs_nil))))
      (pss_cons (ps_asg (pe_op op_add (pe_ix (ixL K) (pv 2) (pv 4) (fun _ _ => rfl)) pe_int) (pg_sub (pv 2) (pv 4) set_list))
      (pss_one (ps_asg (pe_op op_add (pe_ix (ixL K) (pv 2) (pv 5) (fun _ _ => rfl)) pe_int) (pg_sub (pv 2) (pv 5) set_list))))))
      (pss_one (ps_ret (pv 2))))), ?_⟩
    refine ⟨by decide, fun p0 hp0 => ?_⟩
    have s0 : Same H (upd H p0 (.lst [.int 0])) := same_new hp0
    refine ⟨_, rfl, a, _, _, _, rfl, rfl, sqT_same s0 ha, atI_nat (j := 0) rfl, ?_⟩
    refine ⟨p0, _, [.int 0], rfl, rfl, upd_same, by omega, by omega, ?_, fun m0 hm0 => ?_⟩
    · exact Nat.le_trans (show 1 * (n : Int).toNat ≤ 1000 by omega) (by decide)
    have s1 : Same (upd H p0 (.lst [.int 0])) (upd (upd H p0 (.lst [.int 0])) m0 (.lst (List.replicate (n : Int).toNat [V.int 0]).flatten)) := same_new hm0
    have hHm : H m0 = none := Same.free s0 hm0
    refine ⟨_, rfl, al, rfl, ⟨_, sqT_same (s0.trans s1) hal⟩, for_it (walk_tup (xs := ks.map fun (k : Nat) => V.int k)) (fun j σ H' => ∃ (v3 v4 v5 : Option V) (ms : List Int),
        σ = [some (.ref a), some (.ref al), some (.ref m0), v3, v4, v5] ∧ Same H H' ∧ ms.length = n ∧ H' m0 = some (.lst (ms.map V.int))) ?_ ?_ ?_ ?_⟩
    · refine ⟨none, none, none, List.replicate n 0, rfl, s0.trans s1, by rw [List.length_replicate], ?_⟩
      rw [upd_same, reps, Int.toNat_natCast]
      congr 2
      rw [List.map_replicate, List.map_const', List.length_range]
    · rintro j σ H' _ ⟨v3, v4, v5, ms, rfl, h1, _, _⟩
      exact sqT_same h1 hal
    · rintro j x σ H' H'' hj ⟨v3, v4, v5, ms, rfl, h1, h2, h3⟩ ⟨rfl, hx⟩
      obtain ⟨kk, hkk, rfl⟩ := get_map hx
      have hkm : kk < ts.length := hks kk (List.mem_of_getElem? hkk)
      have ht : ts[kk]? = some ts[kk] := by simp [hkm]
      have hte := hends ts[kk] (List.getElem_mem hkm)
      obtain ⟨y, hy, hyd⟩ := dpAll_at hys (show (ts.map tieD)[kk]? = some (tieD ts[kk]) by rw [List.getElem?_map, ht]; rfl)
      obtain ⟨ay, rfl, hay⟩ := dp_tie hyd
      refine ⟨_, rfl, a, _, _, _, rfl, rfl, sqT_same h1 ha, atI_nat (j := 1) rfl, ?_⟩
      refine ⟨_, rfl, c, _, _, _, rfl, rfl, sqT_same h1 hc, atI_nat hy, ?_⟩
      refine ⟨ay, _, rfl, sqT_same h1 hay, rfl, _, _, rfl, _, _, rfl, rfl, ?_⟩
      generalize ts[kk] = t at *
      have g1 : ms[t.1]? = some (ms[t.1]'(by omega)) := by simp [show t.1 < ms.length by omega]
      refine ⟨_, rfl, _, rfl, m0, _, t.1, _, rfl, rfl, SqL.of h3, atI_nat (by rw [List.getElem?_map, g1]; rfl), ?_⟩
      refine ⟨_, _, rfl, rfl, ?_⟩
      refine ⟨_, rfl, _, rfl, m0, _, (t.1 : Int), t.1, rfl, rfl, h3, ix_nat (by rw [List.length_map]; omega), ?_⟩
      rw [set_ints]
      generalize he : ms.set t.1 (ms[t.1]'(by omega) + 1) = ms1
      have hl1 : ms1.length = n := by rw [← he, List.length_set, h2]
      have g2 : ms1[t.2]? = some (ms1[t.2]'(by omega)) := by simp [show t.2 < ms1.length by omega]
      refine ⟨_, rfl, _, rfl, m0, _, t.2, _, rfl, rfl, SqL.of upd_same, atI_nat (by rw [List.getElem?_map, g2]; rfl), ?_⟩
      refine ⟨_, _, rfl, rfl, ?_⟩
      refine ⟨_, rfl, _, rfl, m0, _, (t.2 : Int), t.2, rfl, rfl, upd_same, ix_nat (by rw [List.length_map]; omega), ?_⟩
      rw [set_ints]
      exact ⟨_, _, _, _, rfl, same_old hHm (same_old hHm h1), by rw [List.length_set, hl1], upd_same⟩
    · rintro σ H' ⟨v3, v4, v5, ms, rfl, h1, h2, h3⟩
      exact ⟨_, rfl, k _ _ _ h1 h3 h2⟩
end
end BV

namespace BV
open PySem L2
local macro_rules | `(tactic| walk_at "rd") => `(tactic| (repeat (first | refine ⟨_, rfl, ?_⟩ | refine ⟨_, _, rfl, rfl, ?_⟩ | refine Or.inl ⟨_, rfl, ?_⟩ | refine Or.inr ⟨_, rfl, ?_⟩ | refine ⟨_, _, rfl, ?_⟩)))
theorem nodup_rev_gt {ks : List Nat} (h : ks.Pairwise (· > ·)) : ks.reverse.Nodup := by
  unfold List.Nodup
  rw [List.pairwise_reverse]
  exact h.imp fun {a b} z e => by
    subst e
    exact Nat.lt_irrefl _ z
theorem lot_dp {K : PySem.W.Frag} {H : Hp} {a : Addr} {ks : List Nat} (h : SqT K H a (ks.map fun (k : Nat) => V.int k)) : Dp K H (.ref a) (lotD ks) := by
  refine .tup h ?_
  have e2 : (ks.map fun (k : Nat) => PyData.int k) = (ks.map fun (k : Nat) => (k : Int)).map PyData.int := by rw [List.map_map]; rfl
  have e3 : (ks.map fun (k : Nat) => V.int k) = (ks.map fun (k : Nat) => (k : Int)).map V.int := by rw [List.map_map]; rfl
  rw [e2, e3]
  exact dpAll_ints _
section
variable {P : Program} {w : World} {K : PySem.W.Frag} {mg : Str → Option Value} {base : Heap}
theorem ok_lot {f : Addr} {fd : FuncData} (D : Df K mg "_law_lot" sLot pLot f fd) (T : Bl mg) : FnOk P w K mg base CX0 1 f fd pLot (spLotN K) := by
  refine D.fn.ok scLot (fun vs H Q E h => ?_) (fun cdv A outer s H vs Q E hr h => ?_)
  · obtain ⟨v, n, ts, z, rfl, _⟩ := h
    rfl
  · obtain ⟨v, n, ts, z, rfl, hw, hl, k⟩ := h
    have nd := scLot.nd
    obtain ⟨a, c, ys, rfl, ha, hc, hys⟩ := dp_web hw
    have hyl : ys.length = ts.length := by rw [dpAll_len hys, List.length_map]
    refine ⟨_, (pss_cons (ps_par (i := 2) (j := 3) (by rfl) nd rfl rfl (by decide) rfl rfl (pa_cons (pe_lst pa_nil) (pa_cons (pv 1) pa_nil)) (by rfl))
      (pss_cons (ps_for PassesOwn.never rfl (pi_range3 rfl T.range (pa_cons (pe_op op_sub (pe_callB (lenK K) (by rfl) T.len PySem.boot_len (pa_cons (pe_ix (ixT K) (pv 0) pe_int (fun _ _ => rfl)) pa_nil)) pe_int) (pa_cons (pe_un un_neg pe_int) (pa_cons (pe_un un_neg pe_int) pa_nil)))) (pg_name (i := 4) nd rfl (by first | exact Or.inl rfl | exact Or.inr rfl)) (pss_cons (ps_if (pt_cmpR op_eq (pe_op op_mod (pe_callTy call_int1 (by rfl) T.int (by decide +kernel) (pa_cons (pv 3) pa_nil)) pe_int) pe_int (nomark _)) (pss_one (ps_expr (pe_bm PySem.F.plainAttrs_list PySem.F.slot_list_append PySem.F.type_list_append mt_append (pv 2) (pa_cons (pv 4) pa_nil)))) pss_nil)
      (pss_one (ps_set (i := 3) nd rfl (by first | exact Or.inl rfl | exact Or.inr rfl) (pe_op op_fdivW (pv 3) pe_int)))))
      (pss_one (ps_ret (pe_callTy (tupleK K) (by rfl) T.tuple (by decide +kernel) (pa_cons (revL K (pv 2)) pa_nil)))))), ?_⟩
    refine ⟨Nat.zero_le _, fun m0 hm0 => ⟨_, rfl, _, _, rfl, ?_⟩⟩
    have s0 : Same H (upd H m0 (.lst [])) := same_new hm0
    refine ⟨_, rfl, a, _, _, _, rfl, rfl, sqT_same s0 ha, atI_nat (j := 1) rfl, ?_⟩
    refine ⟨c, ys, rfl, .inr (sqT_same s0 hc), ?_⟩
    refine ⟨_, _, rfl, rfl, ?_⟩
    refine ⟨_, rfl, _, rfl, _, _, _, _, rfl, RgC.neg (by omega) (by omega) (by decide) (by decide), ?_⟩
    refine for_rangeC (fun i σ H' => ∃ (v4 : Option V) (ks : List Nat), σ = [some (.ref a), some (.int (z : Nat)), some (.ref m0), some (.int ((z / 2 ^ i : Nat) : Int)), v4] ∧
      Same H H' ∧ H' m0 = some (.lst (ks.map fun (k : Nat) => V.int k)) ∧ ks.Pairwise (· > ·) ∧ (∀ k ∈ ks, ts.length - i ≤ k ∧ k < ts.length) ∧ ks.length ≤ i ∧ ∀ k, ts.length - i ≤ k → k < ts.length → (k ∈ ks ↔ z / 2 ^ (ts.length - 1 - k) % 2 = 1)) ?_ ?_ ?_
    · exact ⟨none, [], by rw [Nat.pow_zero, Nat.div_one]; rfl, s0, upd_same, .nil, by simp, by simp, fun k h1 h2 => by omega⟩
    · rintro i σ H' hi ⟨v4, ks, rfl, h1, h2, h3, h4, h5, h6⟩
      have hi2 : i < ts.length := by omega
      have hx : ((ys.length : Int) - 1 + (i : Int) * (-1)) = ((ts.length - 1 - i : Nat) : Int) := by omega
      rw [hx]
      show tSeq _ _ _ _ _
      refine tSeq_go ?_
      refine tIfS_by (fun σ' H'' => ∃ ks : List Nat, σ' = [some (.ref a), some (.int (z : Nat)), some (.ref m0), some (.int ((z / 2 ^ i : Nat) : Int)), some (.int ((ts.length - 1 - i : Nat) : Int))] ∧
        Same H H'' ∧ H'' m0 = some (.lst (ks.map fun (k : Nat) => V.int k)) ∧ ks.Pairwise (· > ·) ∧ (∀ k ∈ ks, ts.length - (i + 1) ≤ k ∧ k < ts.length) ∧ ks.length ≤ i + 1 ∧ ∀ k, ts.length - (i + 1) ≤ k → k < ts.length → (k ∈ ks ↔ z / 2 ^ (ts.length - 1 - k) % 2 = 1)) ?_ (fun cont => ?_)
      · rintro σ' H'' ⟨ks', rfl, g1, g2, g3, g4, g5, g6⟩
        have hq : ((z / 2 ^ i : Nat) : Int) / 2 = ((z / 2 ^ (i + 1) : Nat) : Int) := by
          rw [Nat.pow_succ, ← Nat.div_div_eq_div_mul]
          omega
        refine ⟨_, rfl, _, _, rfl, rfl, ⟨by decide, by decide⟩, some (.int ((ts.length - 1 - i : Nat) : Int)), ks', ?_, g1, g2, g3, g4, g5, g6⟩
        show [some (V.ref a), some (V.int (z : Nat)), some (V.ref m0), some (V.int (((z / 2 ^ i : Nat) : Int) / 2)), some (V.int ((ts.length - 1 - i : Nat) : Int))] = _
        rw [hq]
      · refine ⟨_, rfl, .inl ⟨_, rfl, _, _, rfl, rfl, (by decide : (0 : Int) < 2), ?_⟩⟩
        refine ⟨rfl, _, rfl, ?_⟩
        have hbit : ts.length - 1 - (ts.length - 1 - i) = i := by omega
        refine ite2 (fun hh => ?_) (fun hh => ?_)
        · refine ⟨_, rfl, .inl ⟨rfl, _, SqL.of h2⟩, _, rfl, m0, _, _, rfl, rfl, h2, ?_, ?_⟩
          · rw [List.length_map]
            exact Nat.lt_of_lt_of_le (show ks.length < 100000 by omega) (by decide)
          have hb : z / 2 ^ i % 2 = 1 := by
            have := V.int.inj (of_decide_eq_true hh)
            omega
          refine cont _ _ ⟨ks ++ [ts.length - 1 - i], rfl, same_old hm0 h1, ?_, ?_, ?_, ?_, fun k q1 q2 => ?_⟩
          · rw [upd_same, List.map_append]
            rfl
          · rw [List.pairwise_append]
            refine ⟨h3, List.pairwise_singleton _ _, fun k1 hk1 k2 hk2 => ?_⟩
            have e := List.mem_singleton.mp hk2
            have := h4 k1 hk1
            show k1 > k2
            omega
          · intro k1 hk1
            rcases List.mem_append.mp hk1 with q | q
            · have := h4 k1 q
              omega
            · have e := List.mem_singleton.mp q
              omega
          · rw [List.length_append, List.length_singleton]
            omega
          · rw [List.mem_append, List.mem_singleton]
            by_cases e : k = ts.length - 1 - i
            · rw [e, hbit]
              exact ⟨fun _ => hb, fun _ => .inr rfl⟩
            · rw [← h6 k (by omega) q2]
              exact ⟨fun q => q.resolve_right e, .inl⟩
        · have hb : ¬ z / 2 ^ i % 2 = 1 := fun q => hh (decide_eq_true (by
            have : ((z / 2 ^ i : Nat) : Int) % 2 = 1 := by omega
            exact congrArg V.int this))
          refine cont _ _ ⟨ks, rfl, h1, h2, h3, fun k hk => ?_, by omega, fun k q1 q2 => ?_⟩
          · have := h4 k hk
            omega
          · by_cases e : k = ts.length - 1 - i
            · rw [e, hbit]
              refine ⟨fun q => ?_, fun q => absurd q hb⟩
              have := (h4 _ q).1
              omega
            · exact h6 k (by omega) q2
    · rintro σ H' ⟨v4, ks, rfl, h1, h2, h3, h4, h5, h6⟩
      refine ⟨_, rfl, m0, _, rfl, SqL.of h2, fun p hp => ?_⟩
      have s2 : Same H' (upd H' p (.lst (ks.map fun (k : Nat) => V.int k).reverse)) := same_new hp
      refine ⟨p, _, rfl, .inl ⟨SqL.of upd_same, fun u hu => ?_⟩⟩
      have e0 : ((ys.length : Int) - 1 - -1).toNat = ts.length := by omega
      rw [e0] at h6
      refine k _ ks.reverse _ (h1.trans (s2.trans (same_new hu))) (lot_dp (SqT.of ?_)) ⟨List.pairwise_reverse.mpr h3, fun k hk => (h4 k (List.mem_reverse.mp hk)).2⟩ (fun k hk => ?_)
      · rw [upd_same, List.map_reverse]
      · rw [List.mem_reverse]
        exact h6 k (by omega) hk
end
end BV

namespace BV
open PySem L2
abbrev sIsr : Stmt := top 24
abbrev nIsr : List Str := ["_law_web_here", "_law_lot_here", "_law_met", "_law_rest", "_law_turn", "_law_further", "_law_tie", "_law_many"]
abbrev pIsr : List Str := ["_law_web_here", "_law_lot_here"]
theorem scIsr : FnScope nIsr pIsr (defScope sIsr) := ⟨rfl, rfl, rfl, by decide +kernel, rfl, by decide +kernel, by decide +kernel⟩
def spIsr (K : PySem.W.Frag) : Sp := fun vs H Q _ => ∃ (v lv : V) (n : Nat) (ts : List Tie) (ks : List Nat), vs = [v, lv] ∧ Dp K H v (webD n ts) ∧ Dp K H lv (lotD ks) ∧
  (∀ t ∈ ts, t.1 < t.2 ∧ t.2 < n) ∧ (∀ k ∈ ks, k < ts.length) ∧ n ≤ 1000 ∧ ks.length ≤ 80 ∧ ∀ (b : Bool) H', Same H H' → Q (.bl b) H'
theorem flat_ints : ∀ ms : List Int, (ms.map V.int).all flatV = true
  | [] => rfl
  | m :: ms => by
    rw [List.map_cons, List.all_cons, flat_ints ms]
    rfl
theorem flat_nats (ms : List Nat) : (ms.map fun (k : Nat) => V.int k).all flatV = true := by
  have e3 : (ms.map fun (k : Nat) => V.int k) = (ms.map fun (k : Nat) => (k : Int)).map V.int := by rw [List.map_map]; rfl
  rw [e3]
  exact flat_ints _
theorem nats_ints (ms : List Nat) : (ms.map fun (k : Nat) => V.int k) = (ms.map fun (k : Nat) => (k : Int)).map V.int := by rw [List.map_map]; rfl
theorem shaped_lot (ks : List Nat) : SeqAt.shaped (lotD ks) = true := by
  have e2 : lotD ks = .tuple ((ks.map fun (k : Nat) => (k : Int)).map PyData.int) := by unfold lotD; rw [List.map_map]; rfl
  rw [e2]
  have h1 := lay_ints (ks.map fun (k : Nat) => (k : Int))
  have h2 := deep_ints (ks.map fun (k : Nat) => (k : Int))
  have h3 : PyData.depthAll ((ks.map fun (k : Nat) => (k : Int)).map PyData.int) + 1 ≤ 64 := by omega
  simp only [SeqAt.shaped, PyData.canLay0, PyData.depth, h1, Bool.true_and]
  exact decide_eq_true h3
theorem eqv_lot0 (k : Nat) (ks : List Nat) : PyData.eqv (lotD (k :: ks)) (.tuple []) = false := by rfl
section
variable {P : Program} {w : World} {K : PySem.W.Frag} {mg : Str → Option Value} {base : Heap}
theorem ok_isr {f f1 : Addr} {fd fd1 : FuncData} (D : Df K mg "_law_is_round" sIsr pIsr f fd) (T : Bl mg) (hlist : mg "list" = none)
    (D_counts : Df K mg "_law_counts" sCounts pCounts f1 fd1) : FnOk P w K mg base CX0 2 f fd pIsr (spIsr K) := by
  have G_counts : FnOk P w K mg base CX0 1 f1 fd1 pCounts (spCounts K) := ok_counts D_counts T
  refine D.fn.ok scIsr (fun vs H Q E h => ?_) (fun cdv A outer s H vs Q E hr h => ?_)
  · obtain ⟨v, lv, n, ts, ks, rfl, _⟩ := h
    rfl
  · obtain ⟨v, lv, n, ts, ks, rfl, hw, hk, hends, hks, hn, hkl, k⟩ := h
    have hr_counts : Room 1 _ := hr
    have nd := scIsr.nd
    obtain ⟨a, c, ys, rfl, ha, hc, hys⟩ := dp_web hw
    obtain ⟨al, rfl, hal⟩ := dp_lotI hk
    have tieAt : ∀ kk, kk < ts.length → ∃ ay, ys[kk]? = some (.ref ay) ∧ SqT K H ay [.int (ts.getD kk (0, 0)).1, .int (ts.getD kk (0, 0)).2] := fun kk hkm => by
      have ht : ts[kk]? = some ts[kk] := by simp [hkm]
      obtain ⟨y, hy, hyd⟩ := dpAll_at hys (show (ts.map tieD)[kk]? = some (tieD ts[kk]) by rw [List.getElem?_map, ht]; rfl)
      obtain ⟨ay, rfl, hay⟩ := dp_tie hyd
      exact ⟨ay, hy, by rw [List.getD_eq_getElem?_getD, ht]; exact hay⟩
    refine ⟨_, (pss_cons (ps_if (PW.pt (pw_or (pt_cmpR (opEqD K hr.units) (pv 1) (pe_tup pa_nil) (nomark _)) (pw_or1 (pt_cmpR (opNeD K hr.units) (pe_lc (own := [("_law_many", 7)]) (g := (gName 7)) rfl nd (piL K (pe_call G_counts hr_counts (by rfl) D_counts.ad D_counts.fn.kp D_counts.bd .nil pass0 (pa_cons (pv 0) (pa_cons (pv 1) pa_nil)))) (blkOk_by (own := [("_law_many", 7)]) (N := nIsr) (sc := defScope sIsr) (by decide +kernel)) (fun _ _ _ _ _ => (pg_name (i := 7) nd rfl (by first | exact Or.inl rfl | exact Or.inr rfl))) (fun _ _ _ _ _ => (pts_one (pt_cmpR (opNotIn K) (pv 7) (pe_tup (pa_cons pe_int (pa_cons pe_int pa_nil))) rfl))) (fun _ _ _ _ _ => pe_int)) (pe_lst pa_nil) (nomark _))))) (pss_one (ps_ret pe_bl)) pss_nil)
      (pss_cons (ps_asg (pe_tup (pa_cons (pe_callTy (listK K) (by rfl) hlist (by decide +kernel) (pa_cons (pe_ix (ixT K) (pe_ix (ixT K) (pv 0) pe_int (fun _ _ => rfl)) (pe_ix (ixT K) (pv 1) pe_int (fun _ _ => rfl)) (fun _ _ => rfl)) pa_nil)) (pa_cons (pe_callTy (listK K) (by rfl) hlist (by decide +kernel) (pa_cons (pe_slice (slTA K) (pv 1) (po_some pe_int) po_none) pa_nil)) pa_nil))) (pgT K rfl (pgs_cons (pg_name (i := 2) nd rfl (by first | exact Or.inl rfl | exact Or.inr rfl)) (pgs_cons (pg_name (i := 3) nd rfl (by first | exact Or.inl rfl | exact Or.inr rfl)) pgs_nil))))
      (pss_cons (ps_for PassesOwn.never rfl (pi_range1 rfl T.range (pa_cons (pe_callB (lenK K) (by rfl) T.len PySem.boot_len (pa_cons (pv 1) pa_nil)) pa_nil)) (pg_name (i := 4) nd rfl (by first | exact Or.inl rfl | exact Or.inr rfl)) (pss_cons (ps_set (i := 5) nd rfl (by first | exact Or.inl rfl | exact Or.inr rfl) (pe_lc (own := [("_law_tie", 6)]) (g := (gName 6)) rfl nd (piL K (pv 3)) (blkOk_by (own := [("_law_tie", 6)]) (N := nIsr) (sc := defScope sIsr) (by decide +kernel)) (fun _ _ _ _ _ => (pg_name (i := 6) nd rfl (by first | exact Or.inl rfl | exact Or.inr rfl))) (fun _ _ _ _ _ => (pts_one (PW.pt (pw_or (pt_cmpR (opIn K) (pe_ix (ixT K) (pe_ix (ixT K) (pe_ix (ixT K) (pv 0) pe_int (fun _ _ => rfl)) (pv 6) (fun _ _ => rfl)) pe_int (fun _ _ => rfl)) (pv 2) rfl) (pw_or1 (pt_cmpR (opIn K) (pe_ix (ixT K) (pe_ix (ixT K) (pe_ix (ixT K) (pv 0) pe_int (fun _ _ => rfl)) (pv 6) (fun _ _ => rfl)) pe_int (fun _ _ => rfl)) (pv 2) rfl)))))) (fun _ _ _ _ _ => (pv 6))))
      (pss_cons (ps_for PassesOwn.never rfl (piL K (pv 5)) (pg_name (i := 6) nd rfl (by first | exact Or.inl rfl | exact Or.inr rfl)) (pss_one (ps_set (i := 2) nd rfl (by first | exact Or.inl rfl | exact Or.inr rfl) (pe_op op_cat (pv 2) (pe_callTy (listK K) (by rfl) hlist (by decide +kernel) (pa_cons (pe_ix (ixT K) (pe_ix (ixT K) (pv 0) pe_int (fun _ _ => rfl)) (pv 6) (fun _ _ => rfl)) pa_nil))))))
      (pss_one (ps_setLc (i := 3) (own := [("_law_tie", 6)]) (g := (gName 6)) rfl nd rfl rfl (sw_true rfl rfl rfl (by decide +kernel)) (piL K (pv 3)) (blkOk_by (own := [("_law_tie", 6)]) (N := nIsr) (sc := defScope sIsr) (by decide +kernel)) (fun _ _ _ _ _ => (pg_name (i := 6) nd rfl (by first | exact Or.inl rfl | exact Or.inr rfl))) (fun _ _ _ _ _ => (pts_one (pt_cmpR (opNotIn K) (pv 6) (pv 5) rfl))) (fun _ _ _ _ _ => (pv 6)))))))
      (pss_one (ps_ret (pe_cmpR (opEqD K hr.units) (pv 3) (pe_lst pa_nil) (nomark _))))))), ?_⟩
    show tSeq _ _ _ _ _
    refine tSeq_go ?_
    refine tIfS_t (fun b H' => Same H H' ∧ (b = false → ks ≠ [])) ?_ ?_ (fun cont => ?_)
    · rintro H' ⟨sH, _⟩
      exact k _ _ sH
    · rintro H1 ⟨sH, hne⟩
      have hne := hne rfl
      obtain ⟨k0, kr, rfl⟩ : ∃ k0 kr, ks = k0 :: kr := List.exists_cons_of_ne_nil hne
      clear hne
      have hk0 := hks k0 (List.mem_cons_self ..)
      obtain ⟨ay0, hy0, hay0⟩ := tieAt k0 hk0
      generalize hG : List.map (fun (k : Nat) => V.int k) (k0 :: kr) = lotV at *
      show tSeq _ _ _ _ _
      refine tSeq_go ?_
      refine ⟨_, rfl, a, _, _, _, rfl, rfl, sqT_same sH ha, atI_nat (j := 1) rfl, ?_⟩
      refine ⟨_, rfl, al, _, _, _, rfl, rfl, sqT_same sH hal, atI_nat (j := 0) (by rw [← hG]; rfl), c, _, _, _, rfl, rfl, sqT_same sH hc, atI_nat hy0, ?_⟩
      refine ⟨ay0, _, rfl, .inr (sqT_same sH hay0), fun m hm => ?_⟩
      have s1 : Same H1 (upd H1 m (.lst [.int (ts.getD k0 (0, 0)).1, .int (ts.getD k0 (0, 0)).2])) := same_new hm
      have hcut : cutV lotV (some 1) none = kr.map fun (k : Nat) => V.int k := by
        rw [← hG]
        show List.take _ (List.drop (min 1 (kr.map fun (k : Nat) => V.int k).length.succ) _) = _
        rw [Nat.min_eq_left (by omega)]
        exact List.take_of_length_le (by
          show _ ≤ (kr.map fun (k : Nat) => V.int k).length.succ - min 1 (kr.map fun (k : Nat) => V.int k).length.succ
          rw [Nat.min_eq_left (by omega)]
          exact Nat.le_refl _)
      refine ⟨_, rfl, 1, rfl, al, lotV, rfl, sqT_same (sH.trans s1) hal, fun z => ?_, fun _ p hp => ?_⟩
      · exfalso
        have h0 : min 1 lotV.length = 0 := z.1
        rw [← hG] at h0
        have : (List.map (fun (k : Nat) => V.int k) (k0 :: kr)).length = kr.length + 1 := by rw [List.length_map]; rfl
        omega
      rw [hcut]
      have s2 := same_new (o := .tup (kr.map fun (k : Nat) => V.int k)) hp
      refine ⟨p, _, rfl, .inr (SqT.of upd_same), fun r hr => ?_⟩
      have s3 := same_new (o := .lst (kr.map fun (k : Nat) => V.int k)) hr
      refine ⟨by show 2 ≤ sizeLine; decide, fun p2 hp2 => ?_⟩
      have s4 := same_new (o := .tup [.ref m, .ref r]) hp2
      have hmH : H m = none := Same.free sH hm
      have hM := s4 _ _ (s3 _ _ (s2 _ _ (upd_same (H := H1) (a := m) (o := .lst [.int (ts.getD k0 (0, 0)).1, .int (ts.getD k0 (0, 0)).2]))))
      have hlv : lotV.length = kr.length + 1 := by rw [← hG, List.length_map]; rfl
      have hkr : kr.length + 1 ≤ 80 := hkl
      have hRr := s4 _ _ (upd_same (a := r) (o := .lst (kr.map fun (k : Nat) => V.int k)))
      refine ⟨p2, _, rfl, SqT.of upd_same, rfl, _, _, rfl, _, _, rfl, rfl, ?_⟩
      have S4 := sH.trans (s1.trans (s2.trans (s3.trans s4)))
      generalize upd (upd (upd (upd H1 m (HO.lst [V.int ↑(ts.getD k0 (0, 0)).fst, V.int ↑(ts.getD k0 (0, 0)).snd])) p (HO.tup (List.map (fun (k : Nat) => V.int ↑k) kr))) r (HO.lst (List.map (fun (k : Nat) => V.int ↑k) kr))) p2 (HO.tup [V.ref m, V.ref r]) = H4 at hM hRr S4
      clear s1 s2 s3 s4 hp2 hr hp hm
      refine ⟨_, rfl, al, lotV, rfl, .inr (sqT_same S4 hal), _, rfl, by omega, by omega, ?_⟩
      refine for_range (lo := 0) (n := (lotV.length : Int).toNat) (fun i σ Hc => ∃ (v4 v5 v6 : Option V) (m r : Addr) (met : List Int) (rest : List Nat),
        σ = [some (.ref a), some (.ref al), some (.ref m), some (.ref r), v4, v5, v6, none] ∧ Same H Hc ∧ Hc m = some (.lst (met.map V.int)) ∧
        Hc r = some (.lst (rest.map fun (k : Nat) => V.int k)) ∧ met.length ≤ 2 + 160 * i ∧ (∀ k ∈ rest, k < ts.length) ∧ rest.length ≤ 80) ?_ ?_ ?_
      · exact ⟨none, none, none, m, r, [((ts.getD k0 (0, 0)).1 : Int), ((ts.getD k0 (0, 0)).2 : Int)], kr, rfl, S4, hM, hRr, by simp, fun k hk => hks k (List.mem_cons_of_mem _ hk), by omega⟩
      · clear hM hRr S4 m r hmH
        rintro i σ Hc hi ⟨v4, v5, v6, m, r, met, rest, rfl, sC, hM, hR, hml, hrest, hrl⟩
        have hi2 : i < 80 := by omega
        rw [Int.zero_add]
        show tSeq _ _ _ _ _
        refine tSeq_go ?_
        -- further
        refine tAsg_by (fun v H' => ∃ (fa : Addr) (fs : List Nat), v = .ref fa ∧ Same Hc H' ∧ H' fa = some (.lst (fs.map fun (k : Nat) => V.int k)) ∧ (∀ k ∈ fs, k < ts.length) ∧ fs.length ≤ 80) ?_ (fun cont => ?_)
        · rintro _ H5 ⟨fa, fs, rfl, s5, hF, hfs, hfl⟩
          have hM5 := s5 _ _ hM
          have hR5 := s5 _ _ hR
          have sC5 := sC.trans s5
          show tSeq _ _ _ _ _
          refine tSeq_go ?_
          -- the places met
          refine ⟨_, rfl, fa, rfl, ⟨_, SqL.of hF⟩, for_it (walk_list (xs := fs.map fun (k : Nat) => V.int k)) (fun j σ H' => ∃ (v6 : Option V) (m : Addr) (met' : List Int),
            σ = [some (.ref a), some (.ref al), some (.ref m), some (.ref r), some (.int i), some (.ref fa), v6, none] ∧ Same H5 H' ∧
            H' m = some (.lst (met'.map V.int)) ∧ met'.length ≤ 2 + 160 * i + 2 * j) ?_ ?_ ?_ ?_⟩
          · exact ⟨v6, m, met, rfl, Same.refl _, hM5, by omega⟩
          · rintro j σ H' _ ⟨v6, m, met', rfl, h1, _⟩
            exact SqL.of (h1 _ _ hF)
          · rintro j x σ H' H'' hj ⟨v6, m, met', rfl, h1, h2, h3⟩ ⟨rfl, hx⟩
            obtain ⟨kk, hkk, rfl⟩ := get_map hx
            obtain ⟨ay, hy, hay⟩ := tieAt kk (hfs kk (List.mem_of_getElem? hkk))
            rw [List.length_map] at hj
            have sA := sC5.trans h1
            refine ⟨_, rfl, _, rfl, a, _, _, _, rfl, rfl, sqT_same sA ha, atI_nat (j := 1) rfl, ?_⟩
            refine ⟨_, rfl, c, _, _, _, rfl, rfl, sqT_same sA hc, atI_nat hy, ?_⟩
            refine ⟨ay, _, rfl, .inr (sqT_same sA hay), fun q hq => ?_⟩
            have sq := same_new (o := .lst [.int (ts.getD kk (0, 0)).1, .int (ts.getD kk (0, 0)).2]) hq
            refine ⟨m, q, _, [.int (ts.getD kk (0, 0)).1, .int (ts.getD kk (0, 0)).2], rfl, rfl, sq _ _ h2, upd_same, ?_, fun m2 hm2 => ?_⟩
            · rw [List.length_map]
              exact Nat.le_trans (show met'.length + 2 ≤ 100000 by omega) (by decide)
            · refine ⟨_, m2, met' ++ [((ts.getD kk (0, 0)).1 : Int), ((ts.getD kk (0, 0)).2 : Int)], rfl, h1.trans (sq.trans (same_new hm2)), ?_, ?_⟩
              · rw [upd_same, List.map_append]
                rfl
              · rw [List.length_append]
                show met'.length + 2 ≤ _
                omega
          · rintro σ H6 ⟨v6, m, met', rfl, h1, h2, h3⟩
            rw [List.length_map] at h3
            have sA := sC5.trans h1
            -- the rest
            refine ⟨_, rfl, r, rfl, ⟨_, SqL.of (h1 _ _ hR5)⟩, fun E1 hE1 => ?_⟩
            refine lc_run (walk_list (xs := rest.map fun (k : Nat) => V.int k)) hE1 (fun i acc _ => ∃ zs : List Nat, acc = (zs.map fun (k : Nat) => V.int k) ∧ zs.length ≤ i ∧ ∀ k ∈ zs, k < ts.length) ?_ ?_ ?_ ?_
            · exact fun H' s => SqL.of (s _ _ (h1 _ _ hR5))
            · exact ⟨[], rfl, Nat.le_refl _, by simp⟩
            · rintro i x acc H2 H' hi hacc e s ⟨zs, rfl, hz, hzk⟩ ⟨rfl, hx⟩
              obtain ⟨kk, hkk, rfl⟩ := get_map hx
              rw [List.length_map] at hi
              refine ⟨rfl, ?_⟩
              refine ⟨_, rfl, _, rfl, fa, _, rfl, .inl (SqL.of (s _ _ (h1 _ _ hF))), rfl, flat_nats fs, _, rfl, ?_⟩
              refine ite2 (fun hh => ?_) (fun hh => ?_)
              · refine ⟨_, rfl, ?_⟩
                refine lc_add hacc e (Same.refl _) (by rw [List.length_map]; omega) ⟨zs ++ [kk], by rw [List.map_append]; rfl, by rw [List.length_append, List.length_singleton]; omega, fun k hk => ?_⟩
                rcases List.mem_append.mp hk with q | q
                · exact hzk k q
                · rw [List.mem_singleton.mp q]
                  exact hrest kk (List.mem_of_getElem? hkk)
              · exact lc_skip hacc e (Same.refl _) ⟨zs, rfl, by omega, hzk⟩
            · rintro acc H2 g1 s2 ⟨zs, rfl, hz, hzk⟩
              rw [List.length_map] at hz
              exact ⟨_, _, _, m, E1, met', zs, rfl, sA.trans s2, s2 _ _ h2, g1, by omega, hzk, by omega⟩
        · refine ⟨_, rfl, r, rfl, ⟨_, SqL.of hR⟩, fun E1 hE1 => ?_⟩
          refine lc_run (walk_list (xs := rest.map fun (k : Nat) => V.int k)) hE1 (fun i acc _ => ∃ zs : List Nat, acc = (zs.map fun (k : Nat) => V.int k) ∧ zs.length ≤ i ∧ ∀ k ∈ zs, k < ts.length) ?_ ?_ ?_ ?_
          · exact fun H' s => SqL.of (s _ _ hR)
          · exact ⟨[], rfl, Nat.le_refl _, by simp⟩
          · rintro i x acc H2 H' hi hacc e s ⟨zs, rfl, hz, hzk⟩ ⟨rfl, hx⟩
            obtain ⟨kk, hkk, rfl⟩ := get_map hx
            rw [List.length_map] at hi
            have hkt := hrest kk (List.mem_of_getElem? hkk)
            obtain ⟨ay, hy, hay⟩ := tieAt kk hkt
            have sA := sC.trans s
            refine ⟨rfl, ?_⟩
            refine ⟨_, rfl, a, _, _, _, rfl, rfl, sqT_same sA ha, atI_nat (j := 1) rfl, ?_⟩
            refine ⟨_, rfl, c, _, _, _, rfl, rfl, sqT_same sA hc, atI_nat hy, ?_⟩
            refine ⟨ay, _, _, _, rfl, rfl, sqT_same sA hay, atI_nat (j := 0) rfl, ?_⟩
            refine ⟨_, rfl, m, _, rfl, .inl (SqL.of (s _ _ hM)), rfl, flat_ints met, _, rfl, ?_⟩
            have go : ∃ acc, H' E1 = some (.lst acc) ∧ acc.length < sizeLine ∧ LcI Hc E1 (fun i acc _ => ∃ zs : List Nat, acc = (zs.map fun (k : Nat) => V.int k) ∧ zs.length ≤ i ∧ ∀ k ∈ zs, k < ts.length) (i + 1) (upd H' E1 (.lst (acc ++ [.int kk]))) := by
              refine lc_add hacc e (Same.refl _) (by rw [List.length_map]; omega) ⟨zs ++ [kk], by rw [List.map_append]; rfl, by rw [List.length_append, List.length_singleton]; omega, fun k hk => ?_⟩
              rcases List.mem_append.mp hk with q | q
              · exact hzk k q
              · rw [List.mem_singleton.mp q]
                exact hkt
            refine ite2 (fun hh => ?_) (fun hh => ?_)
            · exact ⟨_, rfl, go⟩
            · refine ⟨_, rfl, a, _, _, _, rfl, rfl, sqT_same sA ha, atI_nat (j := 1) rfl, ?_⟩
              refine ⟨_, rfl, c, _, _, _, rfl, rfl, sqT_same sA hc, atI_nat hy, ?_⟩
              refine ⟨ay, _, _, _, rfl, rfl, sqT_same sA hay, atI_nat (j := 1) rfl, ?_⟩
              refine ⟨_, rfl, m, _, rfl, .inl (SqL.of (s _ _ hM)), rfl, flat_ints met, _, rfl, ?_⟩
              refine ite2 (fun hh => ?_) (fun hh => ?_)
              · exact ⟨_, rfl, go⟩
              · exact lc_skip hacc e (Same.refl _) ⟨zs, rfl, by omega, hzk⟩
          · rintro acc H2 g1 s2 ⟨zs, rfl, hz, hzk⟩
            rw [List.length_map] at hz
            exact cont _ _ ⟨E1, zs, rfl, s2, g1, hzk, by omega⟩
      · rintro σ Hc ⟨v4, v5, v6, m, r, met, rest, rfl, sC, hM, hR, hml, hrest, hrl⟩
        refine ⟨_, rfl, Nat.zero_le _, fun p hp => ?_⟩
        have sp := same_new (o := .lst []) hp
        rw [nats_ints] at hR
        refine ⟨.list ((rest.map fun (k : Nat) => (k : Int)).map PyData.int), .list [], .lst (SqL.of (sp _ _ hR)) (dpAll_ints _), .lst (SqL.of upd_same) .nil, shaped_intsL _, shaped_intsL [], ?_⟩
        exact k _ _ (sC.trans sp)
    · refine ⟨_, rfl, Nat.zero_le _, fun p0 hp0 => ?_⟩
      have s0 : Same H (upd H p0 (.tup [])) := same_new hp0
      refine ⟨lotD ks, .tuple [], dp_same s0 _ hk, .tup (SqT.of upd_same) .nil, shaped_lot ks, by rfl, _, rfl, ?_⟩
      cases ks with
      | nil =>
        refine iteT ?_
        exact cont true _ ⟨s0, fun z => by cases z⟩
      | cons k0 kr =>
        rw [eqv_lot0]
        refine iteF ?_
        refine ⟨_, rfl, _, rfl, _, _, n, ts, k0 :: kr, rfl, dp_same s0 _ hw, dp_same s0 _ hk, hends, hks, hn, fun l ms H1 s1 hl hml => ?_⟩
        refine ⟨l, rfl, ⟨_, SqL.of hl⟩, fun E1 hE1 => ?_⟩
        refine lc_run (walk_list (xs := ms.map V.int)) hE1 (fun i acc _ => ∃ zs : List Int, acc = zs.map V.int ∧ zs.length ≤ i) ?_ ?_ ?_ ?_
        · exact fun H' s => SqL.of (s _ _ hl)
        · exact ⟨[], rfl, Nat.le_refl _⟩
        · rintro i x acc H2 H' hi hacc e s ⟨zs, rfl, hz⟩ ⟨rfl, hx⟩
          obtain ⟨z, hz', rfl⟩ := ints_at hx
          refine ⟨rfl, ?_⟩
          refine ⟨_, rfl, by show 2 ≤ sizeLine; decide, fun p hp => ?_⟩
          have sp : Same H' (upd H' p (.tup [.int 0, .int 2])) := same_new hp
          refine ⟨p, _, rfl, .inr (SqT.of upd_same), rfl, rfl, _, rfl, ?_⟩
          have hil : i < 1000 := by rw [List.length_map] at hi; omega
          refine ite2 (fun hh => ?_) (fun hh => ?_)
          · refine lc_add hacc e sp (by rw [List.length_map]; omega) ⟨zs ++ [1], by rw [List.map_append]; rfl, by rw [List.length_append, List.length_singleton]; omega⟩
          · exact lc_skip hacc e sp ⟨zs, rfl, by omega⟩
        · rintro acc H2 h1 s2 ⟨zs, rfl, _⟩
          refine ⟨Nat.zero_le _, fun p hp => ?_⟩
          have sp : Same H2 (upd H2 p (.lst [])) := same_new hp
          refine ⟨.list (zs.map PyData.int), .list [], .lst (SqL.of (sp _ _ h1)) (dpAll_ints zs), .lst (SqL.of upd_same) .nil, shaped_intsL zs, shaped_intsL [], _, rfl, ?_⟩
          exact cont _ _ ⟨s0.trans (s1.trans (s2.trans sp)), fun _ => by simp⟩
end
end BV

namespace BV
open PySem L2
local macro_rules | `(tactic| walk_at "rd") => `(tactic| (repeat (first | refine ⟨_, rfl, ?_⟩ | refine ⟨_, _, rfl, rfl, ?_⟩ | refine Or.inl ⟨_, rfl, ?_⟩ | refine Or.inr ⟨_, rfl, ?_⟩ | refine ⟨_, _, rfl, ?_⟩)))
abbrev sRounds : Stmt := top 25
abbrev nRounds : List Str := ["_law_web_here", "_law_found", "_law_number", "_law_lot_here"]
theorem scRounds : FnScope nRounds ["_law_web_here"] (defScope sRounds) := ⟨rfl, rfl, rfl, by decide +kernel, rfl, by decide +kernel, by decide +kernel⟩
def LotOk (L : Nat) (ks : List Nat) : Prop := (∀ k ∈ ks, k < L) ∧ ks.Nodup ∧ ks.length ≤ 12
def spRounds (K : PySem.W.Frag) : Sp := fun vs H Q _ => ∃ (v : V) (n : Nat) (ts : List Tie), vs = [v] ∧ Dp K H v (webD n ts) ∧
  (∀ t ∈ ts, t.1 < t.2 ∧ t.2 < n) ∧ n ≤ 1000 ∧ ts.length ≤ 12 ∧
  ∀ (l : Addr) (xs : List V) (zs : List Nat) H', H l = none → Same H H' → H' l = some (.lst xs) → DpAll K H' xs ((zs.map (lotN ts.length)).map lotD) → zs.Pairwise (· < ·) → (∀ z ∈ zs, z < 2 ^ ts.length) →
    (∀ ks ∈ zs.map (lotN ts.length), LotOk ts.length ks) → zs.length ≤ 5000 → Q (.ref l) H'
theorem kp_old {b g l : Addr} {H H' : Hp} {o : HO} (h : H l = none) (k : Kp b g H H') : Kp b g H (upd H' l o) := fun a x e n1 n2 => by
  rw [upd_ne (ne_of_none e h)]
  exact k _ _ e n1 n2
theorem box_old {b g l : Addr} {H : Hp} {o : HO} (x : Box H b g) (h1 : l ≠ b) (h2 : l ≠ g) : Box (upd H l o) b g := by
  obtain ⟨⟨st, c, x1⟩, ns, x2, x3⟩ := x
  exact ⟨⟨st, c, by rw [upd_ne h1.symm]; exact x1⟩, ns, by rw [upd_ne h2.symm]; exact x2, x3⟩
theorem box_ne {b g l : Addr} {H : Hp} (x : Box H b g) (h : H l = none) : l ≠ b ∧ l ≠ g := by
  obtain ⟨⟨st, c, x1⟩, ns, x2, x3⟩ := x
  exact ⟨fun e => (by rw [e, x1] at h; cases h), fun e => (by rw [e, x2] at h; cases h)⟩
theorem still_lots : ∀ ls : List (List Nat), stillAll (ls.map lotD) = true
  | [] => by simp [stillAll]
  | l :: ls => by
    have h := still_lot l
    simp only [List.map_cons, stillAll, still_lots ls, h, Bool.and_self]
theorem numsV_succ (L : Nat) (f : Nat → Int) : numsV (L + 1) f = numsV L f ++ [.int (f L)] := by
  unfold numsV
  rw [List.range_succ, List.map_append]
  rfl
section
variable {P : Program} {w : World} {K : PySem.W.Frag} {mg : Str → Option Value} {base : Heap}
theorem ok_rounds {f f1 f2 f3 f4 : Addr} {fd fd1 fd2 fd3 fd4 : FuncData} (D : Df K mg "_law_rounds" sRounds ["_law_web_here"] f fd) (T : Bl mg) (hlist : mg "list" = none)
    (D_counts : Df K mg "_law_counts" sCounts pCounts f1 fd1) (D_lot : Df K mg "_law_lot" sLot pLot f2 fd2) (D_twos : Df K mg "_law_twos" sTwos ["_law_many"] f3 fd3)
    (D_isr : Df K mg "_law_is_round" sIsr pIsr f4 fd4) : FnOk P w K mg base CX0 3 f fd ["_law_web_here"] (spRounds K) := by
  have G_lot : FnOk P w K mg base CX0 1 f2 fd2 pLot (spLotN K) := ok_lot D_lot T
  have G_twos : FnOk P w K mg base CX0 1 f3 fd3 ["_law_many"] spTwos := ok_twos D_twos T
  have G_isr : FnOk P w K mg base CX0 2 f4 fd4 pIsr (spIsr K) := ok_isr D_isr T hlist D_counts
  refine D.fn.ok scRounds (fun vs H Q E h => ?_) (fun cdv A outer s H vs Q E hr h => ?_)
  · obtain ⟨v, n, ts, rfl, _⟩ := h
    rfl
  · obtain ⟨v, n, ts, rfl, hw, hends, hn, hl, k⟩ := h
    have hr_isr : Room 2 _ := hr
    have hr_lot : Room 1 _ := hr.mono (by decide)
    have hr_twos : Room 1 _ := hr.mono (by decide)
    have nd := scRounds.nd
    obtain ⟨a, c, ys, rfl, ha, hc, hys⟩ := dp_web hw
    have hyl : ys.length = ts.length := by rw [dpAll_len hys, List.length_map]
    refine ⟨_, (pss_cons (ps_set (i := 1) nd rfl (by first | exact Or.inl rfl | exact Or.inr rfl) (pe_lst pa_nil))
      (pss_cons (ps_for PassesOwn.never rfl (pi_range2 rfl T.range (pa_cons pe_int (pa_cons (pe_call G_twos hr_twos (by rfl) D_twos.ad D_twos.fn.kp D_twos.bd .nil pass0 (pa_cons (pe_callB (lenK K) (by rfl) T.len PySem.boot_len (pa_cons (pe_ix (ixT K) (pv 0) pe_int (fun _ _ => rfl)) pa_nil)) pa_nil)) pa_nil))) (pg_name (i := 2) nd rfl (by first | exact Or.inl rfl | exact Or.inr rfl)) (pss_cons (ps_set (i := 3) nd rfl (by first | exact Or.inl rfl | exact Or.inr rfl) (pe_call G_lot hr_lot (by rfl) D_lot.ad D_lot.fn.kp D_lot.bd .nil pass0 (pa_cons (pv 0) (pa_cons (pv 2) pa_nil))))
      (pss_one (ps_if (pt_val (pe_call G_isr hr_isr (by rfl) D_isr.ad D_isr.fn.kp D_isr.bd .nil pass0 (pa_cons (pv 0) (pa_cons (pv 3) pa_nil)))) (pss_one (ps_expr (pe_bm PySem.F.plainAttrs_list PySem.F.slot_list_append PySem.F.type_list_append mt_append (pv 1) (pa_cons (pv 3) pa_nil)))) pss_nil))))
      (pss_one (ps_ret (pv 1))))), ?_⟩
    refine ⟨Nat.zero_le _, fun l hln => ?_⟩
    have s0 : Same H (upd H l (.lst [])) := same_new hln
    refine ⟨_, rfl, a, _, _, _, rfl, rfl, sqT_same s0 ha, atI_nat (j := 1) rfl, ?_⟩
    refine ⟨c, ys, rfl, .inr (sqT_same s0 hc), ?_⟩
    refine ⟨ys.length, rfl, by omega, ?_⟩
    have h1 : (2 : Int) ^ ys.length ≤ 2 ^ 12 := by
      have : (2 : Nat) ^ ys.length ≤ 2 ^ 12 := Nat.pow_le_pow_right (by decide) (by omega)
      exact_mod_cast this
    have h0 : (0 : Int) < 2 ^ ys.length := Int.pow_pos (by decide)
    refine ⟨_, _, rfl, ⟨by decide, by decide, by omega, by omega⟩, ?_⟩
    refine for_range (fun i σ H' => ∃ (v2 v3 : Option V) (xs : List V) (zs : List Nat), σ = [some (.ref a), some (.ref l), v2, v3] ∧ Same H H' ∧
      H' l = some (.lst xs) ∧ DpAll K H' xs ((zs.map (lotN ts.length)).map lotD) ∧ zs.Pairwise (· < ·) ∧ (∀ z ∈ zs, z < 1 + i) ∧ (∀ ks ∈ zs.map (lotN ts.length), LotOk ts.length ks) ∧ zs.length ≤ i) ?_ ?_ ?_
    · exact ⟨none, none, [], [], rfl, s0, upd_same, .nil, .nil, by simp, by simp, Nat.le_refl _⟩
    · rintro i σ H' hi ⟨v2, v3, xs, zs, rfl, sH, hL, hdp, hasc, hzi, hls, hlen⟩
      have hxl : xs.length = zs.length := by rw [dpAll_len hdp, List.length_map, List.length_map]
      show tSeq _ _ _ _ _
      refine tSeq_go ?_
      refine ⟨_, rfl, _, rfl, _, n, ts, 1 + i, rfl, dp_same sH _ hw, by omega, fun u ks H2 s2 hu hkA hkm => ?_⟩
      obtain rfl : ks = lotN ts.length (1 + i) := lot_ext hkA (lotN_lot _ _) fun k hk => by
        rw [hkm k hk, mem_lotN]
        exact ⟨fun z => ⟨hk, z⟩, fun z => z.2⟩
      have hk1 := hkA.2
      have hk2 : (lotN ts.length (1 + i)).Nodup := hkA.1.imp fun {a b} z => Nat.ne_of_lt z
      have hk3 : (lotN ts.length (1 + i)).length ≤ ts.length := by
        have := List.length_filter_le (fun k => decide ((1 + i) / 2 ^ (ts.length - 1 - k) % 2 = 1)) (List.range ts.length)
        rw [List.length_range] at this
        exact this
      refine ⟨_, rfl, _, rfl, _, _, n, ts, lotN ts.length (1 + i), rfl, dp_same (sH.trans s2) _ hw, hu, hends, hk1, hn, by omega, fun b H3 s3 => ?_⟩
      refine ⟨_, rfl, ?_⟩
      have sH3 := sH.trans (s2.trans s3)
      have hL3 := s3 _ _ (s2 _ _ hL)
      have hdp3 := dpAll_same (s2.trans s3) _ hdp
      refine ite2 (fun hh => ?_) (fun hh => ?_)
      · refine ⟨_, rfl, .inl ⟨rfl, _, SqL.of hL3⟩, _, rfl, l, _, _, rfl, rfl, hL3, ?_, ?_⟩
        · exact Nat.lt_of_lt_of_le (show xs.length < 100000 by omega) (by decide)
        refine ⟨_, _, xs ++ [u], zs ++ [1 + i], rfl, same_old hln sH3, upd_same, ?_, ?_, ?_, ?_, ?_⟩
        · rw [List.map_append, List.map_append]
          have kf : KF H3 (upd H3 l (.lst (xs ++ [u]))) := KF.of_upd hL3
          exact dpAll_app (dpAll_kf kf _ (still_lots _) hdp3) (.cons (dp_kf kf _ (still_lot _) (dp_same s3 _ hu)) .nil)
        · rw [List.pairwise_append]
          refine ⟨hasc, List.pairwise_singleton _ _, fun a ha b hb => ?_⟩
          rw [List.mem_singleton.mp hb]
          exact hzi a ha
        · intro q hq
          rcases List.mem_append.mp hq with z | z
          · have := hzi q z
            omega
          · rw [List.mem_singleton.mp z]
            omega
        · intro q hq
          rw [List.map_append] at hq
          rcases List.mem_append.mp hq with z | z
          · exact hls q z
          · rw [List.mem_singleton.mp z]
            exact ⟨hk1, hk2, by omega⟩
        · rw [List.length_append, List.length_singleton]
          omega
      · exact ⟨_, _, xs, zs, rfl, sH3, hL3, hdp3, hasc, fun z hz => by have := hzi z hz; omega, hls, by omega⟩
    · rintro σ H' ⟨v2, v3, xs, zs, rfl, sH, hL, hdp, hasc, hzi, hls, hlen⟩
      refine ⟨_, rfl, k l xs zs H' hln sH hL hdp hasc (fun z hz => ?_) hls (by omega)⟩
      have h3 := hzi z hz
      have h4 : (2 : Int) ^ ys.length = ((2 ^ ts.length : Nat) : Int) := by rw [hyl]; norm_cast
      have h5 : 0 < 2 ^ ts.length := Nat.pow_pos (by decide)
      omega
end
end BV

namespace BV
open PySem L2
abbrev sDeeds : Stmt := top 26
abbrev nDeeds : List Str := ["_law_box_here", "_law_web_here", "_law_every", "_law_many", "_law_most", "_law_found", "_law_turn", "_law_small", "_law_times"]
abbrev pDeeds : List Str := ["_law_box_here", "_law_web_here", "_law_every", "_law_many", "_law_most"]
theorem scDeeds : FnScope nDeeds pDeeds (defScope sDeeds) := ⟨rfl, rfl, rfl, by decide +kernel, rfl, by decide +kernel, by decide +kernel⟩
abbrev sLdone : Stmt := top 27
abbrev nLdone : List Str := ["_law_web_here", "_law_standing", "_law_deeds_here", "_law_rows", "_law_found", "_law_word", "_law_about", "_law_times", "_law_tie", "_law_ends"]
abbrev pLdone : List Str := ["_law_web_here", "_law_standing", "_law_deeds_here"]
theorem scLdone : FnScope nLdone pLdone (defScope sLdone) := ⟨rfl, rfl, rfl, by decide +kernel, rfl, by decide +kernel, by decide +kernel⟩
/-- a deed that was drawn -/
def Fit (n L : Nat) (B : Nat) (d : Deed) : Prop := d.times.natAbs ≤ B ∧ match d with
  | .star p _ => p < n
  | .round ks _ => LotOk L ks
theorem Fit.ok {n : Nat} {ts : List Tie} {B : Nat} {d : Deed} (h : Fit n ts.length B d) : d.Ok ts := by
  cases d with
  | star p t => exact trivial
  | round ks t => exact ⟨h.2.1, h.2.2.1⟩
def spDeeds (K : PySem.W.Frag) : Sp := fun vs H Q _ => ∃ (b g l : Addr) (v : V) (n : Nat) (ts : List Tie) (xs : List V) (ls : List (List Nat)) (many : Nat) (most : Int),
  vs = [.ref b, v, .ref l, .int many, .int most] ∧ Box H b g ∧ Dp K H v (webD n ts) ∧ 1 ≤ n ∧ n ≤ 1000 ∧ H l = some (.lst xs) ∧ DpAll K H xs (ls.map lotD) ∧ l ≠ b ∧ l ≠ g ∧
  (∀ ks ∈ ls, LotOk ts.length ks) ∧ ls.length ≤ 5000 ∧ many ≤ 100 ∧
  ∀ (u : V) (ds : List Deed) H', Kp b g H H' → Box H' b g → Dp K H' u (.tuple (ds.map Deed.D)) → ds.length = many → (∀ d ∈ ds, Fit n ts.length (most.natAbs + 6) d ∧ d.In n ls) → Q u H'
def rowsD (ts : List Tie) (f : Nat → Int) (ds : List Deed) (i : Nat) : PyData := numsD ts.length (behind ts f (ds.take i))
def spLdone (K : PySem.W.Frag) : Sp := fun vs H Q _ => ∃ (v sv dv : V) (n : Nat) (ts : List Tie) (f : Nat → Int) (ds : List Deed), vs = [v, sv, dv] ∧
  Dp K H v (webD n ts) ∧ Dp K H sv (numsD ts.length f) ∧ Dp K H dv (.tuple (ds.map Deed.D)) ∧ ts.length ≤ 3000 ∧ ds.length ≤ 3000 ∧
  ∀ (l : Addr) (xs : List V) H', Same H H' → H' l = some (.lst xs) → DpAll K H' xs ((List.range (ds.length + 1)).map (rowsD ts f ds)) → Q (.ref l) H'
theorem inv_nats (k : Nat) : ∀ ks : List Nat, inV (.int (k : Int)) (ks.map fun (k : Nat) => V.int k) = decide (k ∈ ks)
  | [] => by simp [inV]
  | x :: ks => by
    have ih := inv_nats k ks
    have e : (((x : Nat) : Int) == (k : Int)) = decide (k = x) := by
      by_cases h : k = x
      · subst h
        simp
      · rw [decide_eq_false h]
        exact beq_eq_false_iff_ne.mpr fun z => h (by omega)
    show ((((x : Nat) : Int) == (k : Int)) || inV (.int (k : Int)) (ks.map fun (k : Nat) => V.int k)) = _
    rw [e, ih, ← Bool.decide_or]
    congr 1
    simp
theorem lay_lots3 : ∀ ls : List (List Nat), PyData.canLayAll0 (ls.map lotD) = true ∧ PyData.depthAll (ls.map lotD) ≤ 3
  | [] => by simp [PyData.canLayAll0, PyData.depthAll]
  | l :: ls => by
    obtain ⟨h1, h2⟩ := lay_lots3 ls
    have e2 : lotD l = .tuple ((l.map fun (k : Nat) => (k : Int)).map PyData.int) := by unfold lotD; rw [List.map_map]; rfl
    have g1 := lay_ints (l.map fun (k : Nat) => (k : Int))
    have g2 := deep_ints (l.map fun (k : Nat) => (k : Int))
    rw [List.map_cons, e2]
    simp only [PyData.canLayAll0, PyData.canLay0, PyData.depthAll, PyData.depth, g1, h1, Bool.and_self, true_and]
    omega
theorem shaped_lots (ls : List (List Nat)) : SeqAt.shaped (.list (ls.map lotD)) = true := by
  obtain ⟨h1, h2⟩ := lay_lots3 ls
  have h3 : PyData.depthAll (ls.map lotD) + 1 ≤ 64 := by omega
  simp only [SeqAt.shaped, PyData.canLay0, PyData.depth, h1, Bool.true_and]
  exact decide_eq_true h3
section
variable {P : Program} {w : World} {K : PySem.W.Frag} {mg : Str → Option Value} {base : Heap}
theorem ok_deeds {f f1 f2 : Addr} {fd fd1 fd2 : FuncData} (D : Df K mg "_law_deeds" sDeeds pDeeds f fd) (T : Bl mg)
    (D_draw : Df K mg "_law_draw" sDraw ["_law_box_here", "_law_many"] f1 fd1) (D_pick : Df K mg "_law_pick" sPick nPick f2 fd2) : FnOk P w K mg base CX0 3 f fd pDeeds (spDeeds K) := by
  have G_draw : FnOk P w K mg base CX0 1 f1 fd1 ["_law_box_here", "_law_many"] spDraw := ok_draw D_draw T
  have G_pick : FnOk P w K mg base CX0 2 f2 fd2 nPick (spPick K) := ok_pick D_pick T D_draw
  refine D.fn.ok scDeeds (fun vs H Q E h => ?_) (fun cdv A outer s H vs Q E hr h => ?_)
  · obtain ⟨b, g, l, v, n, ts, xs, ls, many, most, rfl, _⟩ := h
    rfl
  · obtain ⟨b, g, l, v, n, ts, xs, ls, many, most, rfl, hB, hw, hn0, hn, hL, hLd, lb, lg, hls, hll, hm, k⟩ := h
    have hr_pick : Room 2 _ := hr
    have hr_draw : Room 1 _ := hr.mono (by decide)
    have nd := scDeeds.nd
    obtain ⟨a, c, ys, rfl, ha, hc, hys⟩ := dp_web hw
    have hxl : xs.length = ls.length := by rw [dpAll_len hLd, List.length_map]
    refine ⟨_, (pss_cons (ps_set (i := 5) nd rfl (by first | exact Or.inl rfl | exact Or.inr rfl) (pe_lst pa_nil))
      (pss_cons (ps_for PassesOwn.never rfl (pi_range1 rfl T.range (pa_cons (pv 3) pa_nil)) (pg_name (i := 6) nd rfl (by first | exact Or.inl rfl | exact Or.inr rfl)) (pss_cons (ps_set (i := 7) nd rfl (by first | exact Or.inl rfl | exact Or.inr rfl) (pe_op op_add pe_int (pe_call G_draw hr_draw (by rfl) D_draw.ad D_draw.fn.kp D_draw.bd .nil pass0 (pa_cons (pv 0) (pa_cons pe_int pa_nil)))))
      (pss_cons (ps_set (i := 8) nd rfl (by first | exact Or.inl rfl | exact Or.inr rfl) (pe_call G_pick hr_pick (by rfl) D_pick.ad D_pick.fn.kp D_pick.bd .nil pass0 (pa_cons (pv 0) (pa_cons (pe_lst (pa_cons (pv 7) (pa_cons (pv 7) (pa_cons (pe_un un_neg (pv 7)) (pa_cons (pe_un un_neg (pv 7)) (pa_cons (pv 7) (pa_cons (pe_un un_neg (pv 7)) (pa_cons (pv 4) (pa_cons (pe_un un_neg (pv 4)) pa_nil))))))))) pa_nil))))
      (pss_one (ps_if (PW.pt (pw_and (pt_cmpR (opNeD K hr.units) (pv 2) (pe_lst pa_nil) (nomark _)) (pw_and1 (pt_cmpR op_eq (pe_call G_draw hr_draw (by rfl) D_draw.ad D_draw.fn.kp D_draw.bd .nil pass0 (pa_cons (pv 0) (pa_cons pe_int pa_nil))) pe_int (nomark _))))) (pss_one (ps_expr (pe_bm PySem.F.plainAttrs_list PySem.F.slot_list_append PySem.F.type_list_append mt_append (pv 5) (pa_cons (pe_tup (pa_cons pe_str (pa_cons (pe_call G_pick hr_pick (by rfl) D_pick.ad D_pick.fn.kp D_pick.bd .nil pass0 (pa_cons (pv 0) (pa_cons (pv 2) pa_nil))) (pa_cons (pv 8) pa_nil)))) pa_nil)))) (pss_one (ps_expr (pe_bm PySem.F.plainAttrs_list PySem.F.slot_list_append PySem.F.type_list_append mt_append (pv 5) (pa_cons (pe_tup (pa_cons pe_str (pa_cons (pe_call G_draw hr_draw (by rfl) D_draw.ad D_draw.fn.kp D_draw.bd .nil pass0 (pa_cons (pv 0) (pa_cons (pe_ix (ixT K) (pv 1) pe_int (fun _ _ => rfl)) pa_nil))) (pa_cons (pv 8) pa_nil)))) pa_nil)))))))))
      (pss_one (ps_ret (pe_callTy (tupleK K) (by rfl) T.tuple (by decide +kernel) (pa_cons (pv 5) pa_nil)))))), ?_⟩
    refine ⟨Nat.zero_le _, fun l5 hl5 => ?_⟩
    have s0 : Same H (upd H l5 (.lst [])) := same_new hl5
    obtain ⟨nb, ng⟩ := box_ne hB hl5
    refine ⟨_, rfl, _, rfl, by omega, by omega, ?_⟩
    refine for_range (lo := 0) (n := (many : Int).toNat) (fun i σ H' => ∃ (v6 v7 v8 : Option V) (acc : List V) (ds : List Deed),
      σ = [some (.ref b), some (.ref a), some (.ref l), some (.int many), some (.int most), some (.ref l5), v6, v7, v8] ∧ Kp b g H H' ∧ Box H' b g ∧
      H' l5 = some (.lst acc) ∧ DpAll K H' acc (ds.map Deed.D) ∧ ds.length = i ∧ (∀ d ∈ ds, Fit n ts.length (most.natAbs + 6) d ∧ d.In n ls)) ?_ ?_ ?_
    · exact ⟨none, none, none, [], [], rfl, Kp.same s0, hB.same s0, upd_same, .nil, rfl, by simp⟩
    · rintro i σ H' hi ⟨v6, v7, v8, acc, ds, rfl, kp, hB', hA, hAd, hdl, hfit⟩
      have hal : acc.length = ds.length := by rw [dpAll_len hAd, List.length_map]
      show tSeq _ _ _ _ _
      refine tSeq_go ?_
      refine ⟨_, rfl, b, g, 6, rfl, by decide, by decide, hB', fun r H2 r0 r1 kp2 hB2 => ?_⟩
      refine ⟨_, _, rfl, rfl, ?_⟩
      show tSeq _ _ _ _ _
      refine tSeq_go ?_
      refine ⟨_, rfl, _, rfl, _, rfl, _, rfl, _, rfl, _, rfl, _, rfl, _, rfl, _, rfl, _, rfl, _, rfl, _, rfl, _, rfl, by show 8 ≤ sizeLine; decide, fun q hq => ?_⟩
      obtain ⟨qb, qg⟩ := box_ne hB2 hq
      have s2 := same_new (o := .lst [.int (1 + r), .int (1 + r), .int (-(1 + r)), .int (-(1 + r)), .int (1 + r), .int (-(1 + r)), .int most, .int (-most)]) hq
      refine ⟨b, g, q, _, rfl, SqL.of upd_same, qb, qg, (by show 0 < 8; decide), (by show 8 < 1000000; decide), hB2.same s2, fun j u H3 hj kp3 hB3 => ?_⟩
      obtain ⟨z, rfl, hz⟩ : ∃ z : Int, u = .int z ∧ z.natAbs ≤ most.natAbs + 6 := by
        have hm := List.mem_of_getElem? hj
        simp only [List.mem_cons, List.not_mem_nil, or_false] at hm
        rcases hm with rfl | rfl | rfl | rfl | rfl | rfl | rfl | rfl <;> exact ⟨_, rfl, by omega⟩
      have kpA := kp.trans (kp2.trans ((Kp.same s2).trans kp3))
      have kpB := kp2.trans ((Kp.same s2).trans kp3)
      have kf3 : KF H' H3 := KF.of_kp kpB hB'
      have hA3 := kpB _ _ hA nb ng
      have hAd3 := dpAll_kf kf3 _ (still_deeds ds) hAd
      have hL3 := kpA _ _ hL lb lg
      have hLd3 := dpAll_kf (KF.of_kp kpA hB) _ (still_lots ls) hLd
      clear kpB kf3 hA hAd hB2 hj s2 qb qg kp2 kp3 hB'
      have fin : ∀ (H6 : Hp) (p : Addr) (va : V) (d : Deed), Kp b g H H6 → Box H6 b g → H6 l5 = some (.lst acc) → DpAll K H6 acc (ds.map Deed.D) →
          H6 p = some (.tup [.str d.word, va, .int d.times]) → Dp K H6 va d.about → Fit n ts.length (most.natAbs + 6) d ∧ d.In n ls → ∃ (v6 v7 v8 : Option V) (acc' : List V) (ds' : List Deed),
          [some (V.ref b), some (.ref a), some (.ref l), some (.int many), some (.int most), some (.ref l5), some (.int (0 + i)), some (.int (1 + r)), some (.int z)] =
            [some (.ref b), some (.ref a), some (.ref l), some (.int many), some (.int most), some (.ref l5), v6, v7, v8] ∧ Kp b g H (upd H6 l5 (.lst (acc ++ [.ref p]))) ∧ Box (upd H6 l5 (.lst (acc ++ [.ref p]))) b g ∧
          upd H6 l5 (.lst (acc ++ [.ref p])) l5 = some (.lst acc') ∧ DpAll K (upd H6 l5 (.lst (acc ++ [.ref p]))) acc' (ds'.map Deed.D) ∧ ds'.length = i + 1 ∧ (∀ d ∈ ds', Fit n ts.length (most.natAbs + 6) d ∧ d.In n ls) := by
        intro H6 p va d k6 b6 a6 d6 hp hva hf
        have kf : KF H6 (upd H6 l5 (.lst (acc ++ [.ref p]))) := KF.of_upd a6
        have hd : Dp K H6 (.ref p) d.D := by
          cases d with
          | star p' t => exact .tup (SqT.of hp) (.cons (.str _) (.cons hva (.cons (.int _) .nil)))
          | round ks t => exact .tup (SqT.of hp) (.cons (.str _) (.cons hva (.cons (.int _) .nil)))
        refine ⟨_, _, _, acc ++ [.ref p], ds ++ [d], rfl, kp_old hl5 k6, box_old b6 nb ng, upd_same, ?_, ?_, ?_⟩
        · rw [List.map_append]
          exact dpAll_app (dpAll_kf kf _ (still_deeds ds) d6) (.cons (dp_kf kf _ (still_deed d) hd) .nil)
        · rw [List.length_append, List.length_singleton, hdl]
        · intro q hq
          rcases List.mem_append.mp hq with y | y
          · exact hfit q y
          · rw [List.mem_singleton.mp y]
            exact hf
      dsimp only [gName]
      refine tIfS_t (fun t H4 => Kp b g H3 H4 ∧ Box H4 b g ∧ (t = true → ls ≠ [])) ?_ ?_ (fun cont => ?_)
      · rintro H4 ⟨kp4, hB4, hne⟩
        have hne := hne rfl
        have kpC := kpA.trans kp4
        have hA4 := kp4 _ _ hA3 nb ng
        have hL4 := kp4 _ _ hL3 lb lg
        have hlp : 0 < ls.length := List.length_pos_iff.mpr hne
        refine ⟨_, rfl, .inl ⟨rfl, _, SqL.of hA4⟩, _, rfl, _, rfl, b, g, l, xs, rfl, SqL.of hL4, lb, lg, by omega, by omega, hB4, fun j u H5 hj kp5 hB5 => ?_⟩
        refine ⟨_, rfl, by show 3 ≤ sizeLine; decide, fun p hp => ?_⟩
        have s6 := same_new (o := .tup [.str "round", u, .int z]) hp
        have kpD := kp4.trans kp5
        have kf5 := KF.of_kp kpD hB3
        have hA5 := kp5 _ _ hA4 nb ng
        obtain ⟨dd, hdd, hdp⟩ := dpAll_get hLd3 hj
        obtain ⟨ks, hks, rfl⟩ := get_map hdd
        refine ⟨l5, _, _, rfl, rfl, s6 _ _ hA5, Nat.lt_of_lt_of_le (show acc.length < 100000 by omega) (by decide), ?_⟩
        exact fin _ p u (.round ks z) (kpC.trans (kp5.trans (Kp.same s6))) (hB5.same s6) (s6 _ _ hA5) (dpAll_same s6 _ (dpAll_kf kf5 _ (still_deeds ds) hAd3)) upd_same
          (dp_same s6 _ (dp_kf kf5 _ (still_lot ks) hdp)) ⟨⟨hz, hls ks (List.mem_of_getElem? hks)⟩, List.mem_of_getElem? hks⟩
      · rintro H4 ⟨kp4, hB4, _⟩
        have kpC := kpA.trans kp4
        have hA4 := kp4 _ _ hA3 nb ng
        have ha4 := sqT_kf (KF.of_kp kpC hB) ha
        refine ⟨_, rfl, .inl ⟨rfl, _, SqL.of hA4⟩, _, rfl, _, rfl, a, _, _, _, rfl, rfl, ha4, atI_nat (j := 0) rfl, b, g, n, rfl, by omega, by omega, hB4, fun r2 H5 q0 q1 kp5 hB5 => ?_⟩
        refine ⟨_, rfl, by show 3 ≤ sizeLine; decide, fun p hp => ?_⟩
        have s6 := same_new (o := .tup [.str "star", .int r2, .int z]) hp
        have kpD := kp4.trans kp5
        have kf5 := KF.of_kp kpD hB3
        have hA5 := kp5 _ _ hA4 nb ng
        obtain ⟨pp, rfl⟩ : ∃ pp : Nat, r2 = (pp : Int) := ⟨r2.toNat, by omega⟩
        refine ⟨l5, _, _, rfl, rfl, s6 _ _ hA5, Nat.lt_of_lt_of_le (show acc.length < 100000 by omega) (by decide), ?_⟩
        exact fin _ p (.int pp) (.star pp z) (kpC.trans (kp5.trans (Kp.same s6))) (hB5.same s6) (s6 _ _ hA5) (dpAll_same s6 _ (dpAll_kf kf5 _ (still_deeds ds) hAd3)) upd_same
          (.int _) ⟨⟨hz, by show pp < n; omega⟩, by show pp < n; omega⟩
      · refine ⟨_, rfl, Nat.zero_le _, fun p hp => ?_⟩
        have sp := same_new (o := .lst []) hp
        refine ⟨.list (ls.map lotD), .list [], .lst (SqL.of (sp _ _ hL3)) (dpAll_same sp _ hLd3), .lst (SqL.of upd_same) .nil, shaped_lots ls, shaped_intsL [], _, rfl, ?_⟩
        cases ls with
        | nil =>
          refine iteF ?_
          exact cont false _ ⟨Kp.same sp, hB3.same sp, fun z => by cases z⟩
        | cons k0 kr =>
          refine iteT ?_
          refine ⟨_, rfl, b, g, 2, rfl, by decide, by decide, hB3.same sp, fun r2 H5 q0 q1 kp5 hB5 => ?_⟩
          refine ⟨rfl, _, rfl, ?_⟩
          exact cont _ _ ⟨(Kp.same sp).trans kp5, hB5, fun _ => by simp⟩
    · rintro σ H' ⟨v6, v7, v8, acc, ds, rfl, kp, hB', hA, hAd, hdl, hfit⟩
      refine ⟨_, rfl, l5, _, rfl, .inl ⟨SqL.of hA, fun u hu => ?_⟩⟩
      have su := same_new (o := .tup acc) hu
      exact k _ ds _ (kp.trans (Kp.same su)) (hB'.same su) (.tup (SqT.of upd_same) (dpAll_same su _ hAd)) (by omega) hfit
theorem ok_ldone {f : Addr} {fd : FuncData} (D : Df K mg "_law_done" sLdone pLdone f fd) (T : Bl mg) (hlist : mg "list" = none) : FnOk P w K mg base CX0 1 f fd pLdone (spLdone K) := by
  refine D.fn.ok scLdone (fun vs H Q E h => ?_) (fun cdv A outer s H vs Q E hr h => ?_)
  · obtain ⟨v, sv, dv, n, ts, f, ds, rfl, _⟩ := h
    rfl
  · obtain ⟨v, sv, dv, n, ts, f, ds, rfl, hw, hs, hd, hl, hdl, k⟩ := h
    have nd := scLdone.nd
    obtain ⟨a, c, ys, rfl, ha, hc, hys⟩ := dp_web hw
    have hyl : ys.length = ts.length := by rw [dpAll_len hys, List.length_map]
    obtain ⟨as, rfl, has⟩ := dp_nums hs
    obtain ⟨ad, xs, rfl, had, hxs⟩ := dp_tup hd
    have hxl : xs.length = ds.length := by rw [dpAll_len hxs, List.length_map]
    refine ⟨_, (pss_cons (ps_par (i := 3) (j := 4) (by rfl) nd rfl rfl (by decide) rfl rfl (pa_cons (pe_lst (pa_cons (pe_callTy (tupleK K) (by rfl) T.tuple (by decide +kernel) (pa_cons (pv 1) pa_nil)) pa_nil)) (pa_cons (pe_callTy (listK K) (by rfl) hlist (by decide +kernel) (pa_cons (pv 1) pa_nil)) pa_nil)) (by rfl))
      (pss_cons (ps_for PassesOwn.never rfl (piT K (pv 2)) (pgT K rfl (pgs_cons (pg_name (i := 5) nd rfl (by first | exact Or.inl rfl | exact Or.inr rfl)) (pgs_cons (pg_name (i := 6) nd rfl (by first | exact Or.inl rfl | exact Or.inr rfl)) (pgs_cons (pg_name (i := 7) nd rfl (by first | exact Or.inl rfl | exact Or.inr rfl)) pgs_nil)))) (pss_cons (ps_for PassesOwn.never rfl (enumT K (by rfl) T.enumerate (pa_cons (pe_ix (ixT K) (pv 0) pe_int (fun _ _ => rfl)) pa_nil)) (pgT K rfl (pgs_cons (pg_name (i := 8) nd rfl (by first | exact Or.inl rfl | exact Or.inr rfl)) (pgs_cons (pg_name (i := 9) nd rfl (by first | exact Or.inl rfl | exact Or.inr rfl)) pgs_nil))) (pss_one (ps_if (PW.pt (pw_or (PW.pt (pw_and (pt_cmpR op_eq (pv 5) pe_str (nomark _)) (pw_and1 (pt_cmpR (opIn K) (pv 6) (pv 9) rfl)))) (pw_or1 (PW.pt (pw_and (pt_cmpR op_eq (pv 5) pe_str (nomark _)) (pw_and1 (pt_cmpR (opIn K) (pv 8) (pv 6) rfl))))))) (pss_one (ps_asg (pe_op op_add (pe_ix (ixL K) (pv 4) (pv 8) (fun _ _ => rfl)) (pv 7)) (pg_sub (pv 4) (pv 8) set_list))) pss_nil)))
      (pss_one (ps_expr (pe_bm PySem.F.plainAttrs_list PySem.F.slot_list_append PySem.F.type_list_append mt_append (pv 3) (pa_cons (pe_callTy (tupleK K) (by rfl) T.tuple (by decide +kernel) (pa_cons (pv 4) pa_nil)) pa_nil))))))
      (pss_one (ps_ret (pv 3))))), ?_⟩
    refine ⟨_, rfl, as, _, rfl, .inr ⟨has, by show 1 ≤ sizeLine; decide, fun lr hlr => ?_⟩⟩
    have s0 := same_new (o := .lst [.ref as]) hlr
    refine ⟨_, rfl, as, _, rfl, .inr (sqT_same s0 has), fun lf hlf => ⟨_, _, rfl, ?_⟩⟩
    have s1 := same_new (o := .lst (numsV ts.length f)) hlf
    have hlfH : H lf = none := Same.free s0 hlf
    have nrf : lr ≠ lf := by
      rintro rfl
      rw [upd_same] at hlf
      cases hlf
    have I0 := s1 _ _ (upd_same (H := H) (a := lr) (o := .lst [.ref as]))
    have I1 := upd_same (H := upd H lr (.lst [.ref as])) (a := lf) (o := .lst (numsV ts.length f))
    have I2 := s0.trans s1
    generalize upd (upd H lr (.lst [.ref as])) lf (.lst (numsV ts.length f)) = H2 at I0 I1 I2
    clear s0 s1 hlf
    refine ⟨_, rfl, ad, rfl, ⟨_, sqT_same I2 had⟩, for_it (walk_tup (xs := xs)) (fun i σ H' => ∃ (v5 v6 v7 v8 v9 : Option V) (racc : List V),
      σ = [some (.ref a), some (.ref as), some (.ref ad), some (.ref lr), some (.ref lf), v5, v6, v7, v8, v9] ∧ Same H H' ∧ H' lr = some (.lst racc) ∧
      DpAll K H' racc ((List.range (i + 1)).map (rowsD ts f ds)) ∧ H' lf = some (.lst (numsV ts.length (behind ts f (ds.take i))))) ?_ ?_ ?_ ?_⟩
    · exact ⟨none, none, none, none, none, _, rfl, I2, I0, .cons (nums_dp (sqT_same I2 has)) .nil, I1⟩
    · rintro i σ H' _ ⟨v5, v6, v7, v8, v9, racc, rfl, sH, _⟩
      exact sqT_same sH had
    · clear I0 I1 I2
      rintro i x σ Hi H'' hi ⟨v5, v6, v7, v8, v9, racc, rfl, sH, hR, hRd, hF⟩ ⟨rfl, hx⟩
      obtain ⟨dd, hdd, hdp⟩ := dpAll_get hxs hx
      obtain ⟨d, hdj, rfl⟩ := get_map hdd
      obtain ⟨ax, va, rfl, hax, hva⟩ := dp_deed (dp_same sH _ hdp)
      have hRl : racc.length = i + 1 := by rw [dpAll_len hRd, List.length_map, List.length_range]
      refine ⟨ax, _, rfl, hax, rfl, _, _, rfl, _, _, rfl, _, _, rfl, rfl, ?_⟩
      dsimp only
      refine tSeq_go ?_
      generalize hg : behind ts f (ds.take i) = g at hF
      have hc2 := sqT_same sH hc
      refine ⟨_, rfl, a, _, _, _, rfl, rfl, sqT_same sH ha, atI_nat (j := 1) rfl, c, ys, rfl, hc2, ?_⟩
      refine for_it (walk_enumT (xs := ys)) (fun j σ H' => ∃ (v8 v9 : Option V),
        σ = [some (.ref a), some (.ref as), some (.ref ad), some (.ref lr), some (.ref lf), some (.str d.word), some va, some (.int d.times), v8, v9] ∧ Kp lf lf H'' H' ∧
        H' lf = some (.lst (numsV ts.length fun k => g k + if k < j then d.part ts k else 0))) ?_ ?_ ?_ ?_
      · refine ⟨v8, v9, rfl, Kp.refl _, ?_⟩
        rw [hF]
        congr 2
        exact numsV_congr fun k _ => by simp
      · rintro j σ H' _ ⟨v8, v9, rfl, h1, _⟩
        have kf : KF H'' H' := fun z o hz q => by
          have nz : z ≠ lf := by
            rintro rfl
            rw [hF] at hz
            obtain ⟨_, rfl | ⟨_, rfl⟩⟩ := q <;> cases hz
          exact h1 _ _ hz nz nz
        exact sqT_kf kf hc2
      · rintro j x σ H' H3 hj ⟨v8, v9, rfl, h1, h2⟩ ⟨q, y, z, rfl, hq, rfl, hy, hz⟩
        have hjt : j < ts.length := by omega
        have ht : ts[j]? = some ts[j] := by simp [hjt]
        have hy' : some (V.int j) = some y := hy
        cases hy'
        have hz' : ys[j]? = some z := hz
        obtain ⟨dd2, hdd2, hzd⟩ := dpAll_get hys hz'
        rw [List.getElem?_map, ht] at hdd2
        cases hdd2
        obtain ⟨az, rfl, haz⟩ := dp_tie hzd
        have kf : KF H'' H' := fun z o hz q => by
          have nz : z ≠ lf := by
            rintro rfl
            rw [hF] at hz
            obtain ⟨_, rfl | ⟨_, rfl⟩⟩ := q <;> cases hz
          exact h1 _ _ hz nz nz
        have sq := same_new (o := .tup [.int j, .ref az]) hq
        have haz2 := sqT_same sq (sqT_kf kf (sqT_same sH haz))
        have hva2 : Dp K (upd H' q (.tup [.int j, .ref az])) va d.about := by
          refine dp_same sq _ (dp_kf kf _ ?_ hva)
          cases d with
          | star p t => simp [Deed.about, still]
          | round ks t => exact still_lot ks
        have h3 := sq _ _ h2
        have k3 := h1.trans (Kp.same sq)
        have hst : (fun k => g k + if k < j + 1 then d.part ts k else 0) j = g j + d.part ts j := by
          show g j + (if j < j + 1 then d.part ts j else 0) = _
          rw [if_pos (by omega)]
        refine ⟨q, _, rfl, SqT.of upd_same, rfl, _, _, rfl, _, _, rfl, rfl, ?_⟩
        refine tIfS_t (fun t H4 => H4 = upd H' q (.tup [.int j, .ref az]) ∧ t = d.touch ts j) ?_ ?_ (fun cont => ?_)
        · rintro H4 ⟨rfl, htt⟩
          refine ⟨_, rfl, _, rfl, lf, _, (j : Int), _, rfl, rfl, SqL.of h3, atI_nat (numsV_get hjt), _, rfl, _, _, rfl, rfl, ?_⟩
          refine ⟨_, rfl, _, rfl, lf, _, (j : Int), j, rfl, rfl, h3, ix_nat (by rw [numsV_len]; exact hjt), ?_⟩
          refine ⟨_, _, rfl, k3.trans Kp.setb, ?_⟩
          rw [upd_same, numsV_set]
          congr 2
          refine numsV_congr fun k _ => ?_
          by_cases e : k = j
          · subst e
            rw [if_pos rfl, if_neg (by omega), if_pos (by omega)]
            unfold Deed.part
            rw [if_pos htt.symm]
            omega
          · rw [if_neg e]
            by_cases e2 : k < j
            · rw [if_pos e2, if_pos (by omega)]
            · rw [if_neg e2, if_neg (by omega)]
        · rintro H4 ⟨rfl, htt⟩
          refine ⟨_, _, rfl, k3, ?_⟩
          rw [h3]
          congr 2
          refine numsV_congr fun k _ => ?_
          by_cases e : k = j
          · subst e
            rw [if_neg (by omega), if_pos (by omega)]
            unfold Deed.part
            rw [if_neg (by rw [← htt]; decide)]
          · by_cases e2 : k < j
            · rw [if_pos e2, if_pos (by omega)]
            · rw [if_neg e2, if_neg (by omega)]
        · cases d with
          | star p t =>
            cases hva2
            refine ⟨_, rfl, rfl, _, rfl, ?_⟩
            refine iteT ?_
            refine ⟨_, rfl, _, rfl, az, _, rfl, .inr haz2, rfl, by rfl, _, rfl, ?_⟩
            have hin : inV (.int (p : Int)) [.int (ts[j]).1, .int (ts[j]).2] = hit ts p j := by rw [inv_tie, hit_at ht]
            refine ite2 (fun hh => ?_) (fun hh => ?_)
            · refine cont _ _ ⟨rfl, ?_⟩
              exact (hin.symm.trans hh).symm
            · refine ⟨_, rfl, rfl, _, rfl, ?_⟩
              refine iteF ?_
              refine cont _ _ ⟨rfl, ?_⟩
              show false = hit ts p j
              rw [← hin]
              exact (Bool.eq_false_iff.mpr hh).symm
          | round ks t =>
            obtain ⟨au, rfl, hau⟩ := dp_lotI hva2
            refine ⟨_, rfl, rfl, _, rfl, ?_⟩
            refine iteF ?_
            refine ⟨_, rfl, rfl, _, rfl, ?_⟩
            refine iteT ?_
            refine ⟨_, rfl, _, rfl, au, _, rfl, .inr hau, rfl, flat_nats ks, _, rfl, ?_⟩
            exact cont _ _ ⟨rfl, inv_nats j ks⟩
      · rintro σ H3 ⟨v8, v9, rfl, h1, h2⟩
        have h3 : H3 lf = some (.lst (numsV ts.length (behind ts f (ds.take (i + 1))))) := by
          rw [h2]
          congr 2
          refine numsV_congr fun k hk => ?_
          have htk : ds.take (i + 1) = ds.take i ++ [d] := by
            rw [List.take_add_one, hdj]
            rfl
          rw [htk, behind_eq, ← hg, behind_eq, effect_app, if_pos (by omega)]
          simp only [effect, List.map_cons, List.map_nil, List.sum_cons, List.sum_nil]
          omega
        have sH3 : Same H H3 := fun z o hz => h1 _ _ (sH _ _ hz) (ne_of_none hz hlfH) (ne_of_none hz hlfH)
        have hR3 := h1 _ _ hR nrf nrf
        have hstill : ∀ l : List Nat, stillAll (l.map (rowsD ts f ds)) = true := fun l => by
          induction l with
          | nil => simp [stillAll]
          | cons k l ih => 
            have h := still_nums ts.length (behind ts f (ds.take k))
            simp only [List.map_cons, stillAll, ih, rowsD, h, Bool.and_self]
        have kf : KF H'' H3 := fun z o hz q => by
          have nz : z ≠ lf := by
            rintro rfl
            rw [hF] at hz
            obtain ⟨_, rfl | ⟨_, rfl⟩⟩ := q <;> cases hz
          exact h1 _ _ hz nz nz
        have hRd3 := dpAll_kf kf _ (hstill _) hRd
        refine ⟨_, rfl, .inl ⟨rfl, _, SqL.of hR3⟩, _, rfl, lf, _, rfl, .inl ⟨SqL.of h3, fun u hu => ?_⟩⟩
        have su := same_new (o := .tup (numsV ts.length (behind ts f (ds.take (i + 1))))) hu
        refine ⟨lr, _, _, rfl, rfl, su _ _ hR3, Nat.lt_of_lt_of_le (show racc.length < 100000 by omega) (by decide), ?_⟩
        have hlrn : H lr = none := hlr
        refine ⟨_, _, _, _, _, racc ++ [.ref u], rfl, same_old hlrn (sH3.trans su), upd_same, ?_, ?_⟩
        · have kf2 : KF _ (upd (upd H3 u (.tup (numsV ts.length (behind ts f (ds.take (i + 1)))))) lr (.lst (racc ++ [.ref u]))) := KF.of_upd (su _ _ hR3)
          rw [List.range_succ, List.map_append]
          exact dpAll_app (dpAll_kf kf2 _ (hstill _) (dpAll_same su _ hRd3)) (.cons (dp_kf kf2 _ (still_nums _ _) (nums_dp (SqT.of upd_same))) .nil)
        · rw [upd_ne nrf.symm]
          exact su _ _ h3
    · rintro σ H' ⟨v5, v6, v7, v8, v9, racc, rfl, sH, hR, hRd, _⟩
      rw [hxl] at hRd
      exact ⟨_, rfl, k lr racc H' sH hR hRd⟩
end
end BV


namespace BV
open PySem L2
/-! ### data, the empty dict among it -/
def Od (K : PySem.W.Frag) (H : Hp) (x : V) (d : PyData) : Prop := Dp K H x d ∨ (d = .dict [] ∧ ∃ a, x = .ref a ∧ H a = some (.dK []))
theorem Od.same {K : PySem.W.Frag} {H H' : Hp} {x : V} {d : PyData} (s : Same H H') (h : Od K H x d) : Od K H' x d := by
  rcases h with h | ⟨rfl, a, rfl, h⟩
  · exact .inl (dp_same s _ h)
  · exact .inr ⟨rfl, a, rfl, s _ _ h⟩
def tyN : PyData → String
  | .none => "NoneType"
  | .bool _ => "bool"
  | .int _ => "int"
  | .str _ => "str"
  | .list _ => "list"
  | .tuple _ => "tuple"
  | .dict _ => "dict"
theorem sq_list_ty {K : PySem.W.Frag} {H : Hp} {a : Addr} {xs : List V} (h : SqL K H a xs) : TyX K H (.ref a) (.type "list") := by
  rcases h with (h | ⟨o, h⟩) | h
  · exact .base (.lst h)
  · exact .base (.frz h)
  · obtain ⟨o, its, n, h1, h2, _⟩ := h
    exact .kList h1 h2
theorem sq_tup_ty {K : PySem.W.Frag} {H : Hp} {a : Addr} {xs : List V} (h : SqT K H a xs) : TyX K H (.ref a) (.type "tuple") := by
  rcases h with (h | ⟨o, h⟩) | h
  · exact .base (.tup h)
  · exact .fTuple h
  · obtain ⟨o, its, n, h1, h2, _⟩ := h
    exact .kTuple h1 h2
theorem ty_of {K : PySem.W.Frag} {H : Hp} {x : V} {d : PyData} (h : Od K H x d) : TyX K H x (.type (tyN d)) := by
  rcases h with h | ⟨rfl, a, rfl, h⟩
  · cases h with
    | non => exact .base .non
    | bl b => exact .base (.bl b)
    | int i => exact .base (.int i)
    | str s => exact .base (.str s)
    | lst h1 _ => exact sq_list_ty h1
    | tup h1 _ => exact sq_tup_ty h1
  · exact .base (.dK h)
def rIsiD (K : PySem.W.Frag) : List V → Hp → VK → Prop := fun xs H Q => ∃ (x : V) (d : PyData) (T : String) (b : Bool), xs = [x, .ty T] ∧ Od K H x d ∧ kitB (tyN d) T = some b ∧ Q (.bl b) H
theorem isiD {X : Cx} (K : PySem.W.Frag) (h : X.K = K := by rfl) : CallR X (.builtin "isinstance") (rIsiD K) := by
  subst h
  intro pins s σ H vs us Q I r h
  obtain ⟨x, d, T, b, rfl, hd, hk, q⟩ := h
  exact call_isi pins s σ H _ us Q I r ⟨x, _, _, _, b, rfl, .ty T, ty_of hd, kit_ty hk, q⟩
def isTup : PyData → Bool
  | .tuple _ => true
  | _ => false
def isInt : PyData → Bool
  | .int _ => true
  | _ => false
theorem kit_tup (d : PyData) : kitB (tyN d) "tuple" = some (isTup d) := by
  cases d <;> simp only [tyN, isTup] <;> decide +kernel
def isIntB : PyData → Bool
  | .int _ => true
  | .bool _ => true
  | _ => false
def isBool : PyData → Bool
  | .bool _ => true
  | _ => false
theorem kit_int (d : PyData) : kitB (tyN d) "int" = some (isIntB d) := by
  cases d <;> simp only [tyN, isIntB] <;> decide +kernel
theorem kit_bool (d : PyData) : kitB (tyN d) "bool" = some (isBool d) := by
  cases d <;> simp only [tyN, isBool] <;> decide +kernel
end BV

namespace BV
open PySem PySem.Spec PyProof.Rows L2
/-! ### an own error without arguments: raised, caught, looked at -/
section
variable {X : Cx} {C : Addr} {mr : List Value} {B n1 n2 : String}
theorem pmk_bare {x : Str} {p pos : Pos} (F : ExcBaseFacts B n1 n2 mr) (hq : PySem.W.excIn X.K C mr n1 = true) (hm : X.mg x = some (.ref C)) (hk : PySem.W.keepIn X.K (.ref C) = true) (hr : Raises X (.ref C)) (hg : Gl X x)
    (hdb : (x == ("__debug__" : Str)) = false := by decide) : PMk X (.Call (.Name x p) [] [] pos) (fun _ H Q => Q (.ref C) none H) := by
  intro pins ⟨hp, gn, dr, tk, os⟩ σ H Q J q0
  refine wpAny_Call_Name_kw (ld_glob J hg hm (PySem.W.callWith_K0 J.kIn hk ?_) hdb)
  have ⟨c1, c2, c3, c4, c5, c6, c7, c8, c9, d1, d2, d3, d4, d5, d6, d7, e1, e2, e3, e4, e5⟩ := exc_obj J.kIn hq
  exact wpAny_call_exc_subT F e5 e2 e3 e4 (fun _ _ made => mk_of J made hr q0 (J.hok.gone made.new)) (Nat.zero_le _)
end
/-- what is known of the class Unfit, under BothError -/
structure ErrU (K : PySem.W.Frag) (mg : Str → Option Value) (U B : Addr) : Prop where
  gU : mg "Unfit" = some (.ref U)
  gB : mg "BothError" = some (.ref B)
  gv : mg "ValueError" = none
  xU : PySem.W.excIn K U [.type "ValueError", .type "Exception", .type "BaseException", .type "object"] "ValueError.__new__" = true
  kU : PySem.W.keepIn K (.ref U) = true
  bU : PySem.W.subIn K (.ref U) (.type "BaseException") = some true
  tU : PySem.W.typeIn K (.ref U) = some (.type "type")
  te : PySem.W.exmOne K (.ref U) (.ref U) = some true
  ex : ExcC K U
  iv : PySem.W.kitOne K (.ref U) (.type "ValueError") = some true
  ib : PySem.W.kitOne K (.ref U) (.ref B) = some true
theorem ErrU.raises {X : Cx} {U B : Addr} (T : ErrU X.K X.mg U B) : Raises X (.ref U) := raises_own T.bU T.tU
theorem ps_unfit {X : Cx} {U B : Addr} {W : WX} {p pos pos2 : Pos} (hc : X.calm = true) (T : ErrU X.K X.mg U B) (tk : Takes X W) (hg : Gl X "Unfit" := by rfl) :
    PS X (.Raise (some (.Call (.Name "Unfit" p) [] [] pos)) none pos2) (fun _ σ H => W (.ref U) none σ H) :=
  ps_raise hc tk (pmk_bare PySem.F.excBase_ValueError T.xU T.gU T.kU T.raises hg)
/-- isinstance(e, c), e the error that the suite holds -/
def rIsX (K : PySem.W.Frag) (a : Addr) (cls : Value) (d : Option Addr) : List V → Hp → VK → Prop := fun xs H Q => ∃ U, ExcC K U ∧ cls = .ref U ∧ d = none ∧ rIsE K U a xs H Q
theorem isX {X : Cx} {a : Addr} {oe : Obj} {cls : Value} {d : Option Addr} {pn : List (Addr × Obj)} (hz : Zc cls d oe) (hf : ∃ vs, oe.data = .fields vs) : CallR (X.suite a ((a, oe) :: pn)) (.builtin "isinstance") (rIsX X.K a cls d) := by
  intro pins s σ H xs us Q J r h
  obtain ⟨U, hC, e1, e2, h⟩ := h
  subst e1 e2
  exact call_isE hC hz hf pins s σ H xs us Q J r h
section
variable {X : Cx} {CX : CXT} {k n : Nat} {f : Addr} {fd : FuncData} {ps ks : List Str} {sp : Sp} {dvs : List V} {ds : List Value}
  {E : L2.St → XK} {x : Str} {p pos : Pos} {tk : TA} {kws : List Keyword} {g : List Value → List Value → List Value} {gV : List V → List V → List V}
def tCallKS (m : Nat) (sp : Sp) (gV : List V → List V → List V) (E : L2.St → XK) (tk : TA) : TE := fun σ H Q => tk σ H fun zs H2 => zs.length = m ∧ sp (gV [] zs) H2 Q (E σ)
/-- f(k = v, ..), where what f raises is wished for at the slots -/
theorem pe_callKS (F : FnOk X.prog X.w X.K X.mg X.base CX k f fd ps sp) (hr : Room k X.A) (hg : Gl X x) (hm : X.mg x = some (.ref f)) (hk : PySem.W.keepIn X.K (.ref f) = true)
    (hb : KBn X.K fd ps 0 ks g gV) (hx : ∀ σ, PassesAt CX X σ (E σ)) (hkw : PK X kws tk)
    (hall : (backToKw pos (keywordEach kws X.env)).all (·.1.isSome) = true := by rfl) (hks : (backToKw pos (keywordEach kws X.env)).filterMap (·.1) = ks := by rfl)
    (hdb : (x == ("__debug__" : Str)) = false := by decide)
    (hpl : ((backTo pos (starEach [] X.env)).any (·.1) || (backToKw pos (keywordEach kws X.env)).any (·.1.isNone)) = false := by rfl) :
    PE X (.Call (.Name x p) [] kws pos) (tCallKS ks.length sp gV E tk) := by
  constructor
  intro pins s σ H Q J h
  refine wpAny_Call_Name_kw (ld_glob J hg hm ?_ hdb)
  refine PySem.W.callWith_KW0 (h₀ := X.base) J.ok.mod.kin hk hall (thn (hkw.run pos pins s σ H _ J h) fun ws s2 hh => ?_) hpl
  obtain ⟨zs, H2, J2, rz, l2, q2⟩ := hh
  refine ⟨J2.kIn, ?_⟩
  rw [hks]
  refine wpAny_call (codeAny_mono (F.run X.A X.stack s2 H2 ⟨[], ks.zip ws⟩ _ _ Q (E σ) hr J2.env0 (hb.to s2 [] ws J2.kIn rfl (by rw [← rz.length]; exact l2)) (hb.rel .nil rz) q2) fun r s' hq => ?_)
  cases r with
  | error e => exact hx σ pins H2 s2 e s' J2 hq
  | ok fl =>
    cases fl with
    | ret u => exact J2.after hq
    | next => exact hq.elim
    | brk => exact hq.elim
    | cont => exact hq.elim
end
end BV

namespace BV
open PySem L2
/-! the truth of any value, the written part named -/
def tTruK (K : PySem.W.Frag) (ta : TE) : TT := fun σ H Q => ta σ H fun x H' => ∃ k, TruV K x H' k ∧ Q k H'
theorem ptK {X : Cx} (K : PySem.W.Frag) {a : Expr} {ta : TE} (ha : PE X a ta) (he : ∀ whole, isTrue a X.env whole = (do let v ← whole; standAt a.pos; holding [v] (truthy v)) := by intro _; rfl) (h : X.K = K := by rfl) :
    PT X a (tTruK K ta) := by
  subst h
  exact pt_truth ha he
end BV
namespace BV
open PySem L2
theorem sumLK {X : Cx} (K : PySem.W.Frag) (hc : X.calm = true := by rfl) (h : X.K = K := by rfl) : CallR X (.builtin "sum") (rSum K) := by
  subst h
  exact cr_sum hc
end BV

namespace BV
open PySem L2
abbrev sMask : Stmt := top 4
abbrev nMask : List Str := ["web", "lot", "last", "mask", "tie"]
abbrev pMask : List Str := ["web", "lot"]
theorem scMask : FnScope nMask pMask (defScope sMask) := ⟨rfl, rfl, rfl, by decide +kernel, rfl, by decide +kernel, by decide +kernel⟩
abbrev sBehind : Stmt := top 5
abbrev nBehind : List Str := ["web", "mask", "last", "tie"]
abbrev pBehind : List Str := ["web", "mask"]
theorem scBehind : FnScope nBehind pBehind (defScope sBehind) := ⟨rfl, rfl, rfl, by decide +kernel, rfl, by decide +kernel, by decide +kernel⟩
abbrev sTog : Stmt := top 12
abbrev nTog : List Str := ["web", "deeds", "stars", "masks", "word", "target", "times", "together", "mask", "place"]
abbrev pTog : List Str := ["web", "deeds"]
theorem scTog : FnScope nTog pTog (defScope sTog) := ⟨rfl, rfl, rfl, by decide +kernel, rfl, by decide +kernel, by decide +kernel⟩

theorem maskN_app (L : Nat) (a : List Nat) (k : Nat) : maskN L (a ++ [k]) = maskN L a + 2 ^ (L - 1 - k) := by
  unfold maskN
  rw [List.map_append, List.sum_append]
  simp
def spMask (K : PySem.W.Frag) : Sp := fun vs H Q _ => ∃ (v lv : V) (n : Nat) (ts : List Tie) (ks : List Nat), vs = [v, lv] ∧ Dp K H v (webD n ts) ∧ Dp K H lv (lotD ks) ∧
  (∀ k ∈ ks, k < ts.length) ∧ ts.length ≤ 60 ∧ Q (.int (maskN ts.length ks : Nat)) H
def spBehind (K : PySem.W.Frag) : Sp := fun vs H Q _ => ∃ (v : V) (n : Nat) (ts : List Tie) (m : Nat), vs = [v, .int (m : Nat)] ∧ Dp K H v (webD n ts) ∧ ts.length ≤ 60 ∧
  ∀ (u : V) H', Same H H' → Dp K H' u (lotD (lotN ts.length m)) → Q u H'
/-! a dict of whole numbers -/
def DI (H : Hp) (d : Addr) (kl : List Nat) (val : Nat → Int) : Prop := ∃ kvs : List (Key × V), H d = some (.dK kvs) ∧ kvs.map (·.1) = kl.map (fun (k : Nat) => (Sum.inl (k : Int) : Key)) ∧ kl.Nodup ∧
  ∀ j : Nat, valV kvs (Sum.inl (j : Int)) = if j ∈ kl then some (.int (val j)) else none
theorem DI.at {H : Hp} {d : Addr} {kl : List Nat} {val : Nat → Int} (h : DI H d kl val) : ∃ kvs, H d = some (.dK kvs) := by
  obtain ⟨kvs, h1, _⟩ := h
  exact ⟨kvs, h1⟩
theorem DI.same {H H' : Hp} {d : Addr} {kl : List Nat} {val : Nat → Int} (h : DI H d kl val) (e : H' d = H d) : DI H' d kl val := by
  obtain ⟨kvs, h1, h2⟩ := h
  exact ⟨kvs, e.trans h1, h2⟩
theorem DI.val {H : Hp} {d : Addr} {kl : List Nat} {f g : Nat → Int} (h : DI H d kl f) (e : ∀ j ∈ kl, f j = g j) : DI H d kl g := by
  obtain ⟨kvs, h1, h2, h3, h4⟩ := h
  refine ⟨kvs, h1, h2, h3, fun j => ?_⟩
  rw [h4]
  by_cases q : j ∈ kl
  · rw [if_pos q, if_pos q, e j q]
  · rw [if_neg q, if_neg q]
theorem DI.get {H : Hp} {d : Addr} {kl : List Nat} {val : Nat → Int} (h : DI H d kl val) {j : Nat} (hj : j ∈ kl) : DGet H d (.int (j : Int)) (some (.int (val j))) := by
  obtain ⟨kvs, h1, h2, h3, h4⟩ := h
  have h6 := DGet.k (k := Sum.inl (j : Int)) h1
  rw [h4, if_pos hj] at h6
  exact h6
theorem DI.get0 {H : Hp} {d : Addr} {kl : List Nat} {val : Nat → Int} (h : DI H d kl val) (j : Nat) (h0 : j ∉ kl → val j = 0) : ∃ o : Option V, DGet H d (.int (j : Int)) o ∧ o.getD (.int 0) = .int (val j) := by
  obtain ⟨kvs, h1, h2, h3, h4⟩ := h
  refine ⟨_, DGet.k (k := Sum.inl (j : Int)) h1, ?_⟩
  rw [h4]
  by_cases q : j ∈ kl
  · rw [if_pos q]
    rfl
  · rw [if_neg q, h0 q]
    rfl
theorem DI.put {H : Hp} {d : Addr} {kl : List Nat} {val : Nat → Int} (h : DI H d kl val) (t : Nat) (z : Int) (hl : kl.length < 90000) :
    ∃ (H' : Hp) (o : HO), DPut H d (.int (t : Int)) (.int z) H' ∧ H' = upd H d o ∧ DI H' d (if t ∈ kl then kl else kl ++ [t]) (fun j => if j = t then z else val j) := by
  obtain ⟨kvs, h1, h2, h3, h5⟩ := h
  have hkl : kvs.length = kl.length := by
    have := congrArg List.length h2
    simpa using this
  refine ⟨_, _, DPut.k (k := Sum.inl (t : Int)) h1 (Nat.lt_of_lt_of_le (show kvs.length < 100000 by omega) (by decide)), rfl, ?_⟩
  have hval : ∀ j : Nat, valV (putK kvs (Sum.inl (t : Int)) (.int z)) (Sum.inl (j : Int)) = if j ∈ (if t ∈ kl then kl else kl ++ [t]) then some (.int (if j = t then z else val j)) else none := fun j => by
    rw [valV_put]
    by_cases e : j = t
    · subst e
      have hm : j ∈ (if j ∈ kl then kl else kl ++ [j]) := by
        by_cases q : j ∈ kl
        · rw [if_pos q]
          exact q
        · rw [if_neg q]
          simp
      rw [if_pos rfl, if_pos hm, if_pos rfl]
    · have hm : j ∈ (if t ∈ kl then kl else kl ++ [t]) ↔ j ∈ kl := by
        by_cases q : t ∈ kl
        · rw [if_pos q]
        · rw [if_neg q, List.mem_append, List.mem_singleton]
          exact ⟨fun y => y.elim id fun z => absurd z e, .inl⟩
      rw [if_neg (fun z => e (by have := Sum.inl.inj z; omega)), h5]
      simp only [hm, if_neg e]
  by_cases e : t ∈ kl
  · have hany : (kvs.any fun kv => decide (kv.fst = (Sum.inl (t : Int) : Key))) = true := by
      rw [valV_any, h5, if_pos e]
      rfl
    refine ⟨_, upd_same, ?_, ?_, hval⟩
    · rw [if_pos e]
      unfold putK
      rw [if_pos hany, List.map_map, ← h2]
      refine List.map_congr_left fun kv _ => ?_
      show (if kv.fst = Sum.inl (t : Int) then (kv.fst, _) else kv).1 = kv.1
      split <;> rfl
    · rw [if_pos e]
      exact h3
  · refine ⟨_, upd_same, ?_, ?_, hval⟩
    · rw [if_neg e, putK_new _ (by rw [h5, if_neg e]), List.map_append, List.map_append, h2]
      rfl
    · rw [if_neg e, List.nodup_append]
      refine ⟨h3, List.nodup_cons.mpr ⟨by simp, .nil⟩, fun x hx y hy => ?_⟩
      rw [List.mem_singleton.mp hy]
      exact fun z => e (z ▸ hx)
theorem DI.len {H : Hp} {d : Addr} {kl : List Nat} {val : Nat → Int} (h : DI H d kl val) (m : List Nat) (hm : ∀ j ∈ kl, j ∈ m) : kl.length ≤ m.length := by
  obtain ⟨kvs, h1, h2, h3, h5⟩ := h
  exact nodup_sub m kl h3 hm
/-- sorted(d), told as numbers -/
theorem DI.sort {H : Hp} {d : Addr} {kl : List Nat} {val : Nat → Int} (h : DI H d kl val) (hl : kl.length < 64) :
    ∃ (kvs : List (Key × V)) (ks : List Int), Rd H d (.dK kvs) ∧ kvs.map (·.1) = ks.map Sum.inl ∧ ks.length < 64 ∧
      ∀ (ys : List Int), ys.Perm ks → ys.Pairwise (· ≤ ·) → ∃ ns : List Nat, ys.map V.int = ns.map (fun (k : Nat) => V.int (k : Int)) ∧ ns.Pairwise (· < ·) ∧ (∀ j, j ∈ ns ↔ j ∈ kl) ∧ ns.length = kl.length := by
  obtain ⟨kvs, h1, h2, h3, h5⟩ := h
  refine ⟨kvs, kl.map fun (k : Nat) => (k : Int), .inl h1, by rw [h2, List.map_map]; rfl, by rw [List.length_map]; exact hl, fun ys hperm hsort => ?_⟩
  obtain ⟨ns, rfl⟩ : ∃ ns : List Nat, ys = ns.map fun (k : Nat) => (k : Int) := ⟨ys.map Int.toNat, by
    rw [List.map_map]
    refine (List.map_id ys).symm.trans (List.map_congr_left fun y hy => ?_)
    obtain ⟨j, _, rfl⟩ := List.mem_map.mp (hperm.mem_iff.mp hy)
    show ((j : Int)) = (((j : Int)).toNat : Int)
    omega⟩
  have hnp : ns.Perm kl := by
    have h := hperm.map Int.toNat
    rw [List.map_map, List.map_map] at h
    have e : ∀ l : List Nat, l.map (Int.toNat ∘ fun (k : Nat) => (k : Int)) = l := fun l => by
      refine (List.map_congr_left fun x _ => ?_).trans (List.map_id l)
      show ((x : Int)).toNat = x
      omega
    rw [e, e] at h
    exact h
  have hnn : ns.Nodup := hnp.nodup_iff.mpr h3
  have hlt : ns.Pairwise (· < ·) := by
    have h6 : ns.Pairwise (· ≤ ·) := (List.pairwise_map.mp hsort).imp fun {x y} z => by omega
    refine (h6.and hnn).imp fun {x y} z => ?_
    obtain ⟨z1, z2⟩ := z
    omega
  exact ⟨ns, by rw [List.map_map]; rfl, hlt, fun j => hnp.mem_iff, hnp.length_eq⟩
theorem DI.keep {H H' : Hp} {d : Addr} {kl : List Nat} {val : Nat → Int} (h : DI H d kl val) (s : Same H H') : DI H' d kl val := by
  obtain ⟨kvs, h1, h2⟩ := h
  exact ⟨kvs, s _ _ h1, h2⟩
/-! the masks of rounds -/
def mT (L : Nat) (ds : List Deed) (m : Nat) : Int := (ds.map fun d => match d with | .star _ _ => 0 | .round ks t => if maskN L ks = m then t else 0).sum
def sKey (ds : List Deed) (p : Nat) : Prop := ∃ t, Deed.star p t ∈ ds
def mKey (L : Nat) (ds : List Deed) (m : Nat) : Prop := ∃ ks t, Deed.round ks t ∈ ds ∧ maskN L ks = m
theorem sT_snoc_s (ds : List Deed) (p : Nat) (t : Int) (j : Nat) : sT (ds ++ [.star p t]) j = if j = p then sT ds p + t else sT ds j := by
  rw [sT_app]
  show sT ds j + ((if p = j then t else 0) + 0) = _
  by_cases e : j = p
  · subst e
    rw [if_pos rfl, if_pos rfl]
    omega
  · rw [if_neg e, if_neg fun z => e z.symm]
    omega
theorem sT_snoc_r (ds : List Deed) (ks : List Nat) (t : Int) (j : Nat) : sT (ds ++ [.round ks t]) j = sT ds j := by
  rw [sT_app]
  show sT ds j + (0 + 0) = _
  omega
theorem mT_app (L : Nat) (a b : List Deed) (m : Nat) : mT L (a ++ b) m = mT L a m + mT L b m := by
  unfold mT
  rw [List.map_append, sum_app]
theorem mT_snoc_s (L : Nat) (ds : List Deed) (p : Nat) (t : Int) (j : Nat) : mT L (ds ++ [.star p t]) j = mT L ds j := by
  rw [mT_app]
  show mT L ds j + (0 + 0) = _
  omega
theorem mT_snoc_r (L : Nat) (ds : List Deed) (ks : List Nat) (t : Int) (j : Nat) : mT L (ds ++ [.round ks t]) j = if j = maskN L ks then mT L ds (maskN L ks) + t else mT L ds j := by
  rw [mT_app]
  show mT L ds j + ((if maskN L ks = j then t else 0) + 0) = _
  by_cases e : j = maskN L ks
  · subst e
    rw [if_pos rfl, if_pos rfl]
    omega
  · rw [if_neg e, if_neg fun z => e z.symm]
    omega
theorem sT_none {ds : List Deed} {p : Nat} (h : ¬ sKey ds p) : sT ds p = 0 := by
  by_cases e : sT ds p = 0
  · exact e
  · exact absurd (sT_some (ds := ds) (p := p) (by unfold nz; simp [e])) h
theorem mT_none {L : Nat} : ∀ {ds : List Deed} {m : Nat}, ¬ mKey L ds m → mT L ds m = 0
  | [], _, _ => rfl
  | d :: ds, m, h => by
    have ih := mT_none (L := L) (ds := ds) (m := m) fun ⟨ks, t, h1, h2⟩ => h ⟨ks, t, List.mem_cons_of_mem _ h1, h2⟩
    unfold mT at ih ⊢
    rw [List.map_cons, List.sum_cons, ih]
    cases d with
    | star p t => rfl
    | round ks t =>
      show (if maskN L ks = m then t else 0) + 0 = 0
      rw [if_neg fun e => h ⟨ks, t, List.mem_cons_self .., e⟩]
      rfl
theorem bitsum_mod : ∀ (L z : Nat), ((List.range L).map fun i => z / 2 ^ i % 2 * 2 ^ i).sum = z % 2 ^ L
  | 0, z => by simp [Nat.mod_one]
  | L + 1, z => by
    rw [List.range_succ, List.map_append, List.sum_append, bitsum_mod L z, Nat.mod_pow_succ]
    simp [Nat.mul_comm]
theorem sum_revN (f : Nat → Nat) : ∀ L : Nat, ((List.range L).map fun k => f (L - 1 - k)).sum = ((List.range L).map f).sum
  | 0 => rfl
  | L + 1 => by
    have e1 : ((List.range (L + 1)).map fun k => f (L + 1 - 1 - k)) = f L :: (List.range L).map fun k => f (L - 1 - k) := by
      rw [List.range_succ_eq_map, List.map_cons, List.map_map]
      congr 1
      refine List.map_congr_left fun k _ => ?_
      show f (L + 1 - 1 - (k + 1)) = f (L - 1 - k)
      congr 1
      omega
    rw [e1, List.sum_cons, sum_revN f L, List.range_succ, List.map_append, List.sum_append]
    simp [Nat.add_comm]
theorem sum_filterN (f : Nat → Nat) (c : Nat → Bool) : ∀ l : List Nat, ((l.filter c).map f).sum = (l.map fun k => if c k = true then f k else 0).sum
  | [] => rfl
  | x :: l => by
    rw [List.filter_cons, List.map_cons, List.sum_cons]
    by_cases h : c x = true
    · rw [if_pos h, if_pos h, List.map_cons, List.sum_cons, sum_filterN f c l]
    · rw [if_neg h, if_neg h, sum_filterN f c l, Nat.zero_add]
theorem mask_lotN {L z : Nat} (hz : z < 2 ^ L) : maskN L (lotN L z) = z := by
  unfold maskN lotN
  rw [sum_filterN]
  have e : ((List.range L).map fun k => if decide (z / 2 ^ (L - 1 - k) % 2 = 1) = true then 2 ^ (L - 1 - k) else 0) = (List.range L).map fun k => (fun i => z / 2 ^ i % 2 * 2 ^ i) (L - 1 - k) :=
    List.map_congr_left fun k _ => by
      show _ = z / 2 ^ (L - 1 - k) % 2 * 2 ^ (L - 1 - k)
      by_cases h : z / 2 ^ (L - 1 - k) % 2 = 1
      · rw [if_pos (decide_eq_true h), h, Nat.one_mul]
      · rw [if_neg (by rw [decide_eq_false h]; decide)]
        have : z / 2 ^ (L - 1 - k) % 2 = 0 := by omega
        rw [this, Nat.zero_mul]
  rw [e, sum_revN (fun i => z / 2 ^ i % 2 * 2 ^ i) L, bitsum_mod, Nat.mod_eq_of_lt hz]
/-- all lots that there are, by their numbers -/
structure Ev (L : Nat) (zs : List Nat) : Prop where
  asc : zs.Pairwise (· < ·)
  lt : ∀ z ∈ zs, z < 2 ^ L
theorem Ev.nd {L : Nat} {zs : List Nat} (h : Ev L zs) : (zs.map (lotN L)).Nodup :=
  List.pairwise_map.mpr (h.asc.imp_of_mem fun {x y} hx hy hxy e => Nat.ne_of_lt hxy (lotN_inj (h.lt _ hx) (h.lt _ hy) e))
theorem mT_rT {L : Nat} {zs : List Nat} (hE : Ev L zs) : ∀ {ds : List Deed} {n : Nat}, (∀ d ∈ ds, d.In n (zs.map (lotN L))) → ∀ m, m < 2 ^ L → mT L ds m = rT ds (lotN L m)
  | [], _, _, _, _ => rfl
  | d :: ds, n, h, m, hm => by
    have ih := mT_rT hE (ds := ds) (n := n) (fun x hx => h x (List.mem_cons_of_mem _ hx)) m hm
    have e1 : rT (d :: ds) (lotN L m) = d.roundAt (lotN L m) + rT ds (lotN L m) := by unfold rT; rw [List.map_cons, List.sum_cons]
    rw [e1, ← ih]
    unfold mT
    rw [List.map_cons, List.sum_cons]
    congr 1
    cases d with
    | star p t => rfl
    | round ks t =>
      obtain ⟨z, hz, rfl⟩ := List.mem_map.mp (show ks ∈ zs.map (lotN L) from h _ (List.mem_cons_self ..))
      show (if maskN L (lotN L z) = m then t else 0) = if lotN L z = lotN L m then t else 0
      rw [mask_lotN (hE.lt z hz)]
      by_cases e : z = m
      · subst e
        rw [if_pos rfl, if_pos rfl]
      · rw [if_neg e, if_neg fun q => e (lotN_inj (hE.lt z hz) hm q)]
theorem key_lt {L : Nat} {zs : List Nat} (hE : Ev L zs) {ds : List Deed} {n : Nat} (h : ∀ d ∈ ds, d.In n (zs.map (lotN L))) {m : Nat} (hm : mKey L ds m) : m ∈ zs := by
  obtain ⟨ks, t, h1, h2⟩ := hm
  obtain ⟨z, hz, rfl⟩ := List.mem_map.mp (show ks ∈ zs.map (lotN L) from h _ h1)
  rw [mask_lotN (hE.lt z hz)] at h2
  exact h2 ▸ hz
/-- what the program tells, by its keys -/
theorem tog_keys {L : Nat} {zs : List Nat} (hE : Ev L zs) {ds : List Deed} {n : Nat} (h : ∀ d ∈ ds, d.In n (zs.map (lotN L))) {S M : List Nat} (hS : S.Pairwise (· < ·)) (hM : M.Pairwise (· < ·))
    (h1 : ∀ j, j ∈ S ↔ sKey ds j) (h2 : ∀ j, j ∈ M ↔ mKey L ds j) :
    ((S.filter fun p => nz (sT ds p)).map fun p => Deed.star p (sT ds p)) ++ ((M.filter fun m => nz (mT L ds m)).map fun m => Deed.round (lotN L m) (mT L ds m)) = tog n (zs.map (lotN L)) ds := by
  have e1 : S.filter (fun p => nz (sT ds p)) = (List.range n).filter fun p => nz (sT ds p) := asc_ext (hS.filter _) (List.pairwise_lt_range.filter _) fun k => by
    rw [List.mem_filter, List.mem_filter, h1, List.mem_range]
    constructor
    · rintro ⟨⟨t, ht⟩, q⟩
      exact ⟨h _ ht, q⟩
    · rintro ⟨_, q⟩
      exact ⟨sT_some q, q⟩
  have lt : ∀ m ∈ M, m < 2 ^ L := fun m hm => hE.lt m (key_lt hE h ((h2 m).mp hm))
  have e2 : M.filter (fun m => nz (mT L ds m)) = zs.filter fun m => nz (rT ds (lotN L m)) := asc_ext (hM.filter _) (hE.asc.filter _) fun k => by
    rw [List.mem_filter, List.mem_filter]
    constructor
    · rintro ⟨hk, q⟩
      rw [mT_rT hE h k (lt k hk)] at q
      exact ⟨key_lt hE h ((h2 k).mp hk), q⟩
    · rintro ⟨hk, q⟩
      refine ⟨(h2 k).mpr ?_, by rw [mT_rT hE h k (hE.lt k hk)]; exact q⟩
      obtain ⟨t, ht⟩ := rT_some q
      exact ⟨_, t, ht, mask_lotN (hE.lt k hk)⟩
  unfold tog togS togR
  rw [e1, e2, List.filter_map, List.map_map]
  congr 1
  refine List.map_congr_left fun m hm => ?_
  rw [mT_rT hE h m (hE.lt m (List.mem_filter.mp hm).1)]
  rfl
def deedsD (ds : List Deed) : PyData := .tuple (ds.map Deed.D)
theorem still_deedsD (ds : List Deed) : still (deedsD ds) = true := by simp only [deedsD, still, still_deeds]
def spTog (K : PySem.W.Frag) : Sp := fun vs H Q _ => ∃ (v dv : V) (n : Nat) (ts : List Tie) (zs : List Nat) (ds : List Deed), vs = [v, dv] ∧ Dp K H v (webD n ts) ∧ Dp K H dv (deedsD ds) ∧
  Ev ts.length zs ∧ (∀ d ∈ ds, d.In n (zs.map (lotN ts.length))) ∧ ts.length ≤ 60 ∧ ds.length ≤ 60 ∧
  ∀ (u : V) H', Same H H' → Dp K H' u (deedsD (tog n (zs.map (lotN ts.length)) ds)) → Q u H'
section
variable {P : Program} {w : World} {K : PySem.W.Frag} {mg : Str → Option Value} {base : Heap}
theorem ok_mask {f : Addr} {fd : FuncData} (D : Df K mg "mask_of" sMask pMask f fd) (T : Bl mg) : FnOk P w K mg base CX0 1 f fd pMask (spMask K) := by
  refine D.fn.ok scMask (fun vs H Q E h => ?_) (fun cdv A outer s H vs Q E hr h => ?_)
  · obtain ⟨v, lv, n, ts, ks, rfl, _⟩ := h
    rfl
  · obtain ⟨v, lv, n, ts, ks, rfl, hw, hk, hks, hl, k⟩ := h
    have nd := scMask.nd
    obtain ⟨a, c, ys, rfl, ha, hc, hys⟩ := dp_web hw
    have hyl : ys.length = ts.length := by rw [dpAll_len hys, List.length_map]
    obtain ⟨al, rfl, hal⟩ := dp_lotI hk
    refine ⟨_, (pss_cons (ps_set (i := 2) nd rfl (by first | exact Or.inl rfl | exact Or.inr rfl) (pe_op op_sub (pe_callB (lenK K) (by rfl) T.len PySem.boot_len (pa_cons (pe_ix (ixT K) (pv 0) pe_int (fun _ _ => rfl)) pa_nil)) pe_int))
      (pss_cons (ps_set (i := 3) nd rfl (by first | exact Or.inl rfl | exact Or.inr rfl) pe_int)
      (pss_cons (ps_for PassesOwn.never rfl (piT K (pv 1)) (pg_name (i := 4) nd rfl (by first | exact Or.inl rfl | exact Or.inr rfl)) (pss_one (ps_aug (i := 3) nd rfl (by first | exact Or.inl rfl | exact Or.inr rfl) (pe_op op_shl pe_int (pe_op op_sub (pv 2) (pv 4))) ip_add)))
      (pss_one (ps_ret (pv 3)))))), ?_⟩
    refine ⟨_, rfl, a, _, _, _, rfl, rfl, ha, atI_nat (j := 1) rfl, c, ys, rfl, .inr hc, _, _, rfl, rfl, ?_⟩
    refine ⟨_, rfl, al, rfl, ⟨_, hal⟩, for_it (walk_tup (xs := ks.map fun (k : Nat) => V.int k)) (fun j σ H' => ∃ v4 : Option V,
      σ = [some (.ref a), some (.ref al), some (.int ((ys.length : Int) - 1)), some (.int ((maskN ts.length (ks.take j) : Nat) : Int)), v4] ∧ H' = H) ?_ ?_ ?_ ?_⟩
    · exact ⟨none, rfl, rfl⟩
    · rintro j σ H' _ ⟨v4, rfl, rfl⟩
      exact hal
    · rintro j x σ H' H'' hj ⟨v4, rfl, rfl⟩ ⟨rfl, hx⟩
      obtain ⟨kk, hkk, rfl⟩ := get_map hx
      have hkt := hks kk (List.mem_of_getElem? hkk)
      have htk : ks.take (j + 1) = ks.take j ++ [kk] := by
        rw [List.take_add_one, hkk]
        rfl
      have e : ((maskN ts.length (ks.take j) : Nat) : Int) + 1 * 2 ^ (((ys.length : Int) - 1 - (kk : Int)).toNat) = ((maskN ts.length (ks.take (j + 1)) : Nat) : Int) := by
        rw [htk, maskN_app, show ((ys.length : Int) - 1 - (kk : Int)).toNat = ts.length - 1 - kk by omega, Int.one_mul]
        push_cast
        rfl
      refine ⟨_, rfl, _, rfl, _, rfl, _, _, rfl, rfl, _, _, rfl, rfl, ⟨by omega, by omega, by decide⟩, _, _, rfl, rfl, some (.int (kk : Int)), ?_, rfl⟩
      show [some (V.ref a), some (.ref al), some (.int ((ys.length : Int) - 1)), some (.int (((maskN ts.length (ks.take j) : Nat) : Int) + 1 * 2 ^ (((ys.length : Int) - 1 - (kk : Int)).toNat))), some (.int (kk : Int))] = _
      rw [e]
    · rintro σ H' ⟨v4, rfl, rfl⟩
      refine ⟨_, rfl, ?_⟩
      rw [List.length_map, List.take_of_length_le (Nat.le_refl _)]
      exact k
theorem ok_behind {f : Addr} {fd : FuncData} (D : Df K mg "lot_behind" sBehind pBehind f fd) (T : Bl mg) : FnOk P w K mg base CX0 1 f fd pBehind (spBehind K) := by
  refine D.fn.ok scBehind (fun vs H Q E h => ?_) (fun cdv A outer s H vs Q E hr h => ?_)
  · obtain ⟨v, n, ts, m, rfl, _⟩ := h
    rfl
  · obtain ⟨v, n, ts, m, rfl, hw, hl, k⟩ := h
    have nd := scBehind.nd
    obtain ⟨a, c, ys, rfl, ha, hc, hys⟩ := dp_web hw
    have hyl : ys.length = ts.length := by rw [dpAll_len hys, List.length_map]
    refine ⟨_, (pss_cons (ps_set (i := 2) nd rfl (by first | exact Or.inl rfl | exact Or.inr rfl) (pe_op op_sub (pe_callB (lenK K) (by rfl) T.len PySem.boot_len (pa_cons (pe_ix (ixT K) (pv 0) pe_int (fun _ _ => rfl)) pa_nil)) pe_int))
      (pss_one (ps_ret (pe_callTy (tupleK K) (by rfl) T.tuple (by decide +kernel) (pa_cons (pe_lc (own := [("tie", 3)]) (g := (gName 3)) rfl nd (pi_range1 rfl T.range (pa_cons (pe_op op_add (pv 2) pe_int) pa_nil)) (blkOk_by (own := [("tie", 3)]) (N := nBehind) (sc := defScope sBehind) (by decide +kernel)) (fun _ _ _ _ _ => (pg_name (i := 3) nd rfl (by first | exact Or.inl rfl | exact Or.inr rfl))) (fun _ _ _ _ _ => (pts_one (ptK K (pe_op op_and (pe_op op_shr (pv 1) (pe_op op_sub (pv 2) (pv 3))) pe_int)))) (fun _ _ _ _ _ => (pv 3))) pa_nil))))), ?_⟩
    refine ⟨_, rfl, a, _, _, _, rfl, rfl, ha, atI_nat (j := 1) rfl, c, ys, rfl, .inr hc, _, _, rfl, rfl, ?_⟩
    refine ⟨_, rfl, _, _, rfl, rfl, _, rfl, by omega, by omega, fun E1 hE1 => ?_⟩
    have hn : ((ys.length : Int) - 1 + 1).toNat = ts.length := by omega
    refine lc_run (walk_range (lo := 0) (n := ((ys.length : Int) - 1 + 1).toNat)) hE1 (fun i acc _ => acc = ((List.range i).filter fun k => decide (m / 2 ^ (ts.length - 1 - k) % 2 = 1)).map fun (k : Nat) => V.int k) ?_ ?_ ?_ ?_
    · exact fun H' s => trivial
    · rfl
    · rintro i x acc H2 H' hi hacc e s r ⟨rfl, hx⟩
      have hx : x = .int (0 + (i : Int)) := hx
      subst hx
      rw [Int.zero_add]
      have hi2 : i < ts.length := by omega
      have r' : acc = ((List.range i).filter fun k => decide (m / 2 ^ (ts.length - 1 - k) % 2 = 1)).map fun (k : Nat) => V.int k := r
      have hal : acc.length ≤ i := by
        rw [r', List.length_map]
        exact Nat.le_trans (List.length_filter_le _ _) (by rw [List.length_range]; exact Nat.le_refl _)
      have hb : Builtin.bitAnd ((m : Int) / 2 ^ (((ys.length : Int) - 1 - (i : Int)).toNat)) 1 = ((m / 2 ^ (ts.length - 1 - i) % 2 : Nat) : Int) := by
        rw [show ((ys.length : Int) - 1 - (i : Int)).toNat = ts.length - 1 - i by omega]
        have e2 : (m : Int) / 2 ^ (ts.length - 1 - i) = ((m / 2 ^ (ts.length - 1 - i) : Nat) : Int) := by
          push_cast
          rfl
        rw [e2]
        have h := Bits.bitAnd_mask (x := ((m / 2 ^ (ts.length - 1 - i) : Nat) : Int)) 1 (Int.natCast_nonneg _)
        have e3 : (2 : Int) ^ 1 - 1 = 1 := by decide
        have e4 : (2 : Int) ^ 1 = 2 := by decide
        rw [e3, e4] at h
        rw [h]
        omega
      refine ⟨rfl, ?_⟩
      refine ⟨_, rfl, _, rfl, _, rfl, _, _, rfl, rfl, _, _, rfl, rfl, by omega, _, _, rfl, rfl, ?_⟩
      refine ⟨decide (m / 2 ^ (ts.length - 1 - i) % 2 = 1), ?_, ?_⟩
      · show decide (m / 2 ^ (ts.length - 1 - i) % 2 = 1) = (Builtin.bitAnd ((m : Int) / 2 ^ (((ys.length : Int) - 1 - (i : Int)).toNat)) 1 != 0)
        rw [hb]
        by_cases hh : m / 2 ^ (ts.length - 1 - i) % 2 = 1
        · rw [hh]
          rfl
        · have h0 : m / 2 ^ (ts.length - 1 - i) % 2 = 0 := by omega
          rw [h0]
          rfl
      refine ite2 (fun hh => ?_) (fun hh => ?_)
      · refine ⟨_, rfl, ?_⟩
        refine lc_add hacc e (Same.refl _) (by omega) ?_
        rw [List.range_succ, List.filter_append, List.filter_cons_of_pos (p := fun k => decide (m / 2 ^ (ts.length - 1 - k) % 2 = 1)) hh, List.filter_nil, List.map_append, r']
        rfl
      · refine lc_skip hacc e (Same.refl _) ?_
        rw [List.range_succ, List.filter_append, List.filter_cons_of_neg (p := fun k => decide (m / 2 ^ (ts.length - 1 - k) % 2 = 1)) hh, List.filter_nil, List.append_nil]
        exact r'
    · rintro acc H2 h1 s2 r
      have r' : acc = ((List.range ((ys.length : Int) - 1 + 1).toNat).filter fun k => decide (m / 2 ^ (ts.length - 1 - k) % 2 = 1)).map fun (k : Nat) => V.int k := r
      rw [hn] at r'
      refine ⟨E1, _, rfl, .inl ⟨SqL.of h1, fun u hu => ?_⟩⟩
      refine k _ _ (s2.trans (same_new hu)) (lot_dp (SqT.of ?_))
      rw [upd_same, r']
      rfl
end
end BV

namespace BV
open PySem L2
theorem take_snoc {α : Type} {l : List α} {i : Nat} {d : α} (h : l[i]? = some d) : l.take (i + 1) = l.take i ++ [d] := by
  rw [List.take_add_one, h]
  rfl
/-- the two dicts behind some deeds -/
def TD (L : Nat) (H : Hp) (d m : Addr) (ds : List Deed) : Prop := ∃ kl ml : List Nat, (∀ j, j ∈ kl ↔ sKey ds j) ∧ (∀ j, j ∈ ml ↔ mKey L ds j) ∧ DI H d kl (sT ds) ∧ DI H m ml (mT L ds)
theorem key_snoc_s {ds : List Deed} {p : Nat} {t : Int} {kl : List Nat} (h : ∀ j, j ∈ kl ↔ sKey ds j) (j : Nat) : j ∈ (if p ∈ kl then kl else kl ++ [p]) ↔ sKey (ds ++ [.star p t]) j := by
  have e : sKey (ds ++ [.star p t]) j ↔ sKey ds j ∨ j = p := by
    constructor
    · rintro ⟨u, hu⟩
      rcases List.mem_append.mp hu with q | q
      · exact .inl ⟨u, q⟩
      · have := List.mem_singleton.mp q
        injection this with h1 h2
        exact .inr h1
    · rintro (⟨u, hu⟩ | rfl)
      · exact ⟨u, List.mem_append_left _ hu⟩
      · exact ⟨t, List.mem_append_right _ (List.mem_singleton.mpr rfl)⟩
  rw [e, ← h]
  by_cases q : p ∈ kl
  · rw [if_pos q]
    exact ⟨.inl, fun z => z.elim id fun y => y ▸ q⟩
  · rw [if_neg q, List.mem_append, List.mem_singleton]
theorem key_snoc_m {L : Nat} {ds : List Deed} {ks : List Nat} {t : Int} {ml : List Nat} (h : ∀ j, j ∈ ml ↔ mKey L ds j) (j : Nat) : j ∈ (if maskN L ks ∈ ml then ml else ml ++ [maskN L ks]) ↔ mKey L (ds ++ [.round ks t]) j := by
  have e : mKey L (ds ++ [.round ks t]) j ↔ mKey L ds j ∨ j = maskN L ks := by
    constructor
    · rintro ⟨k2, u, hu, e⟩
      rcases List.mem_append.mp hu with q | q
      · exact .inl ⟨k2, u, q, e⟩
      · have := List.mem_singleton.mp q
        injection this with h1 h2
        subst h1
        exact .inr e.symm
    · rintro (⟨k2, u, hu, e⟩ | rfl)
      · exact ⟨k2, u, List.mem_append_left _ hu, e⟩
      · exact ⟨ks, t, List.mem_append_right _ (List.mem_singleton.mpr rfl), rfl⟩
  rw [e, ← h]
  by_cases q : maskN L ks ∈ ml
  · rw [if_pos q]
    exact ⟨.inl, fun z => z.elim id fun y => y ▸ q⟩
  · rw [if_neg q, List.mem_append, List.mem_singleton]
theorem key_s_r {ds : List Deed} {ks : List Nat} {t : Int} (j : Nat) : sKey ds j ↔ sKey (ds ++ [.round ks t]) j := by
  constructor
  · rintro ⟨u, hu⟩
    exact ⟨u, List.mem_append_left _ hu⟩
  · rintro ⟨u, hu⟩
    rcases List.mem_append.mp hu with q | q
    · exact ⟨u, q⟩
    · have := List.mem_singleton.mp q
      cases this
theorem key_m_s {L : Nat} {ds : List Deed} {p : Nat} {t : Int} (j : Nat) : mKey L ds j ↔ mKey L (ds ++ [.star p t]) j := by
  constructor
  · rintro ⟨k, u, hu, e⟩
    exact ⟨k, u, List.mem_append_left _ hu, e⟩
  · rintro ⟨k, u, hu, e⟩
    rcases List.mem_append.mp hu with q | q
    · exact ⟨k, u, q, e⟩
    · have := List.mem_singleton.mp q
      cases this
theorem skeys_len {ds : List Deed} {kl : List Nat} {H : Hp} {d : Addr} {val : Nat → Int} (D : DI H d kl val) (h : ∀ j, j ∈ kl ↔ sKey ds j) : kl.length ≤ ds.length := by
  have := D.len (ds.map fun d => d.key.headD 0) fun j hj => by
    obtain ⟨t, ht⟩ := (h j).mp hj
    exact List.mem_map.mpr ⟨_, ht, rfl⟩
  rw [List.length_map] at this
  exact this
theorem mkeys_len {L : Nat} {ds : List Deed} {kl : List Nat} {H : Hp} {d : Addr} {val : Nat → Int} (D : DI H d kl val) (h : ∀ j, j ∈ kl ↔ mKey L ds j) : kl.length ≤ ds.length := by
  have := D.len (ds.map fun d => maskN L d.key) fun j hj => by
    obtain ⟨ks, t, ht, e⟩ := (h j).mp hj
    exact List.mem_map.mpr ⟨_, ht, e⟩
  rw [List.length_map] at this
  exact this
theorem DI.old {H H' : Hp} {d x : Addr} {o : HO} {kl : List Nat} {val : Nat → Int} (h : DI H d kl val) (n : d ≠ x) (e : H' = upd H x o) : DI H' d kl val := h.same (by rw [e, upd_ne n])
section
variable {P : Program} {w : World} {K : PySem.W.Frag} {mg : Str → Option Value} {base : Heap}
theorem ok_tog {f f1 f2 : Addr} {fd fd1 fd2 : FuncData} (D : Df K mg "told_together" sTog pTog f fd) (T : Bl mg) (hsorted : mg "sorted" = none)
    (D_mask : Df K mg "mask_of" sMask pMask f1 fd1) (D_behind : Df K mg "lot_behind" sBehind pBehind f2 fd2) : FnOk P w K mg base CX0 2 f fd pTog (spTog K) := by
  have G_mask : FnOk P w K mg base CX0 1 f1 fd1 pMask (spMask K) := ok_mask D_mask T
  have G_behind : FnOk P w K mg base CX0 1 f2 fd2 pBehind (spBehind K) := ok_behind D_behind T
  refine D.fn.ok scTog (fun vs H Q E h => ?_) (fun cdv A outer s H vs Q E hr h => ?_)
  · obtain ⟨v, dv, n, ts, zs, ds, rfl, _⟩ := h
    rfl
  · obtain ⟨v, dv, n, ts, zs, ds, rfl, hw, hd, hE, hin, hl, hdl, k⟩ := h
    have hr_mask : Room 1 _ := hr
    have hr_behind : Room 1 _ := hr
    have hu := hu_of hr
    have nd := scTog.nd
    obtain ⟨ad, xs, rfl, had, hxs⟩ := dp_tup hd
    have hxl : xs.length = ds.length := by rw [dpAll_len hxs, List.length_map]
    refine ⟨_, (pss_cons (ps_asg (pe_tup (pa_cons pe_dnewK (pa_cons pe_dnewK pa_nil))) (pgT K rfl (pgs_cons (pg_name (i := 2) nd rfl (by first | exact Or.inl rfl | exact Or.inr rfl)) (pgs_cons (pg_name (i := 3) nd rfl (by first | exact Or.inl rfl | exact Or.inr rfl)) pgs_nil))))
      (pss_cons (ps_for PassesOwn.never rfl (piT K (pv 1)) (pgT K rfl (pgs_cons (pg_name (i := 4) nd rfl (by first | exact Or.inl rfl | exact Or.inr rfl)) (pgs_cons (pg_name (i := 5) nd rfl (by first | exact Or.inl rfl | exact Or.inr rfl)) (pgs_cons (pg_name (i := 6) nd rfl (by first | exact Or.inl rfl | exact Or.inr rfl)) pgs_nil)))) (pss_one (ps_if (pt_cmpR op_eq (pv 4) pe_str (nomark _)) (pss_one (ps_dput hu (pv 2) (pv 5) (pe_op op_add (pe_dget2 hu (pv 2) (pv 5) pe_int ⟨rfl, rfl, rfl, rfl⟩) (pv 6)) rfl)) (pss_cons (ps_set (i := 8) nd rfl (by first | exact Or.inl rfl | exact Or.inr rfl) (pe_call G_mask hr_mask (by rfl) D_mask.ad D_mask.fn.kp D_mask.bd .nil pass0 (pa_cons (pv 0) (pa_cons (pv 5) pa_nil))))
      (pss_one (ps_dput hu (pv 3) (pv 8) (pe_op op_add (pe_dget2 hu (pv 3) (pv 8) pe_int ⟨rfl, rfl, rfl, rfl⟩) (pv 6)) rfl))))))
      (pss_cons (ps_setLc (i := 7) (own := [("place", 9)]) (g := (gName 9)) rfl nd rfl rfl (sw_true rfl rfl rfl (by decide +kernel)) (piL K (pe_callB (call_sortedDI rfl) (by rfl) hsorted (by decide +kernel) (pa_cons (pv 2) pa_nil))) (blkOk_by (own := [("place", 9)]) (N := nTog) (sc := defScope sTog) (by decide +kernel)) (fun _ _ _ _ _ => (pg_name (i := 9) nd rfl (by first | exact Or.inl rfl | exact Or.inr rfl))) (fun _ _ _ _ _ => (pts_one (pt_cmpR op_ne (pe_dget hu (pv 2) (pv 9) (fun _ _ => rfl)) pe_int (nomark _)))) (fun _ _ _ _ _ => (pe_tup (pa_cons pe_str (pa_cons (pv 9) (pa_cons (pe_dget hu (pv 2) (pv 9) (fun _ _ => rfl)) pa_nil))))))
      (pss_cons (ps_expr (pe_bm PySem.F.plainAttrs_list PySem.F.slot_list_extend PySem.F.type_list_extend mt_extend (pv 7) (pa_cons (pe_lc (own := [("mask", 8)]) (g := (gName 8)) rfl nd (piL K (pe_callB (call_sortedDI rfl) (by rfl) hsorted (by decide +kernel) (pa_cons (pv 3) pa_nil))) (blkOk_by (own := [("mask", 8)]) (N := nTog) (sc := defScope sTog) (by decide +kernel)) (fun _ _ _ _ _ => (pg_name (i := 8) nd rfl (by first | exact Or.inl rfl | exact Or.inr rfl))) (fun _ _ _ _ _ => (pts_one (pt_cmpR op_ne (pe_dget hu (pv 3) (pv 8) (fun _ _ => rfl)) pe_int (nomark _)))) (fun _ _ _ _ _ => (pe_tup (pa_cons pe_str (pa_cons (pe_call G_behind hr_behind (by rfl) D_behind.ad D_behind.fn.kp D_behind.bd .nil pass0 (pa_cons (pv 0) (pa_cons (pv 8) pa_nil))) (pa_cons (pe_dget hu (pv 3) (pv 8) (fun _ _ => rfl)) pa_nil)))))) pa_nil)))
      (pss_one (ps_ret (pe_callTy (tupleK K) (by rfl) T.tuple (by decide +kernel) (pa_cons (pv 7) pa_nil)))))))), ?_⟩
    refine fun d1 hd1 => ?_
    have s1 := same_new (o := .dK []) hd1
    refine fun d2 hd2 => ?_
    have s2 := same_new (o := .dK []) hd2
    have n12 : d1 ≠ d2 := by
      rintro rfl
      rw [upd_same] at hd2
      cases hd2
    have hd2H : H d2 = none := Same.free s1 hd2
    refine ⟨by show 2 ≤ sizeLine; decide, fun p2 hp2 => ?_⟩
    have s3 := same_new (o := .tup [.ref d1, .ref d2]) hp2
    refine ⟨p2, _, rfl, SqT.of upd_same, rfl, _, _, rfl, _, _, rfl, rfl, ?_⟩
    have I1 := s3 _ _ (s2 _ _ (upd_same (H := H) (a := d1) (o := .dK [])))
    have I2 := s3 _ _ (upd_same (H := upd H d1 (.dK [])) (a := d2) (o := .dK []))
    have S0 := s1.trans (s2.trans s3)
    generalize upd (upd (upd H d1 (.dK [])) d2 (.dK [])) p2 (.tup [.ref d1, .ref d2]) = H0 at I1 I2 S0
    clear s1 s2 s3 hd2 hp2
    refine ⟨_, rfl, ad, rfl, ⟨_, sqT_same S0 had⟩, for_it (walk_tup (xs := xs)) (fun i σ H' => ∃ v4 v5 v6 v8 : Option V,
      σ = [some v, some (.ref ad), some (.ref d1), some (.ref d2), v4, v5, v6, none, v8, none] ∧ Same H H' ∧ TD ts.length H' d1 d2 (ds.take i)) ?_ ?_ ?_ ?_⟩
    · refine ⟨none, none, none, none, rfl, S0, [], [], fun j => ?_, fun j => ?_, ⟨[], I1, rfl, .nil, fun j => ?_⟩, ⟨[], I2, rfl, .nil, fun j => ?_⟩⟩
      · simp [sKey]
      · simp [mKey]
      · simp [valV_nil]
      · simp [valV_nil]
    · rintro i σ H' _ ⟨v4, v5, v6, v8, rfl, sH, _⟩
      exact sqT_same sH had
    · clear I1 I2 S0
      rintro i x σ H1 H'' hi ⟨v4, v5, v6, v8, rfl, sH, kl, ml, hk1, hk2, D1, D2⟩ ⟨rfl, hx⟩
      obtain ⟨dd, hdd, hdp⟩ := dpAll_get hxs hx
      obtain ⟨d, hdj, rfl⟩ := get_map hdd
      obtain ⟨ax, va, rfl, hax, hva⟩ := dp_deed (dp_same sH _ hdp)
      have htk := take_snoc hdj
      have hdm := hin d (List.mem_of_getElem? hdj)
      have hkl := skeys_len D1 hk1
      have hml := mkeys_len D2 hk2
      have hti : (ds.take i).length ≤ 60 := by rw [List.length_take]; omega
      refine ⟨ax, _, rfl, hax, rfl, _, _, rfl, _, _, rfl, _, _, rfl, rfl, ?_⟩
      cases d with
      | star p t =>
        cases hva
        refine ⟨_, rfl, rfl, _, rfl, ?_⟩
        refine iteT ?_
        obtain ⟨o, g1, g2⟩ := D1.get0 p fun z => sT_none fun q => z ((hk1 p).mpr q)
        obtain ⟨kvs, hkv⟩ := D1.at
        obtain ⟨H4, o4, p1, p2, p3⟩ := D1.put p (sT (ds.take i) p + t) (by omega)
        refine ⟨_, rfl, d1, rfl, .inl ⟨kvs, .inl hkv⟩, _, rfl, o, g1, ?_⟩
        rw [g2]
        refine ⟨_, rfl, _, _, rfl, rfl, _, rfl, _, rfl, d1, H4, rfl, p1, ?_⟩
        refine ⟨_, _, _, _, rfl, ?_, _, ml, fun j => ?_, fun j => ?_, p3.val fun j _ => ?_, (D2.old n12.symm p2).val fun j _ => ?_⟩
        · rw [p2]
          exact same_old hd1 sH
        · rw [htk]
          exact key_snoc_s hk1 j
        · rw [htk]
          exact (hk2 j).trans (key_m_s j)
        · rw [htk, sT_snoc_s]
        · rw [htk, mT_snoc_s]
      | round ks t =>
        refine ⟨_, rfl, rfl, _, rfl, ?_⟩
        refine iteF ?_
        obtain ⟨z, hz, hzk⟩ := List.mem_map.mp (show ks ∈ zs.map (lotN ts.length) from hdm)
        refine ⟨_, rfl, _, rfl, v, va, n, ts, ks, rfl, dp_same sH _ hw, hva, ?_, hl, ?_⟩
        · subst hzk
          exact (lotN_lot _ _).2
        obtain ⟨o, g1, g2⟩ := D2.get0 (maskN ts.length ks) fun z => mT_none fun q => z ((hk2 _).mpr q)
        obtain ⟨kvs, hkv⟩ := D2.at
        obtain ⟨H4, o4, p1, p2, p3⟩ := D2.put (maskN ts.length ks) (mT ts.length (ds.take i) (maskN ts.length ks) + t) (by omega)
        refine ⟨_, rfl, d2, rfl, .inl ⟨kvs, .inl hkv⟩, _, rfl, o, g1, ?_⟩
        rw [g2]
        refine ⟨_, rfl, _, _, rfl, rfl, _, rfl, _, rfl, d2, H4, rfl, p1, ?_⟩
        refine ⟨_, _, _, _, rfl, ?_, kl, _, fun j => ?_, fun j => ?_, (D1.old n12 p2).val fun j _ => ?_, p3.val fun j _ => ?_⟩
        · rw [p2]
          exact same_old hd2H sH
        · rw [htk]
          exact (hk1 j).trans (key_s_r j)
        · rw [htk]
          exact key_snoc_m hk2 j
        · rw [htk, sT_snoc_r]
        · rw [htk, mT_snoc_r]
    · clear I1 I2 S0
      rintro σ H1 ⟨v4, v5, v6, v8, rfl, sH, hT⟩
      rw [hxl, List.take_of_length_le (Nat.le_refl _)] at hT
      obtain ⟨kl, ml, hk1, hk2, D1, D2⟩ := hT
      have hkl := skeys_len D1 hk1
      have hml := mkeys_len D2 hk2
      dsimp only
      refine tSeq_go ?_
      refine tAsg_by (fun u H' => ∃ (l : Addr) (ys : List V) (S : List Nat), u = .ref l ∧ Same H1 H' ∧ H l = none ∧ H' l = some (.lst ys) ∧ S.Pairwise (· < ·) ∧ (∀ j, j ∈ S ↔ sKey ds j) ∧ ys.length ≤ 60 ∧
        DpAll K H' ys (((S.filter fun p => nz (sT ds p)).map fun p => Deed.star p (sT ds p)).map Deed.D)) ?_ (fun cont => ?_)
      rotate_left
      · obtain ⟨kvs, kys, z1, z2, z3, z4⟩ := D1.sort (by omega)
        refine ⟨_, rfl, d1, kvs, kys, rfl, z1, z2, z3, fun yz p hperm hsort hp => ?_⟩
        obtain ⟨S, eS, hS, hSk, hSl⟩ := z4 yz hperm hsort
        rw [eS]
        have sp := same_new (o := .lst (S.map fun (k : Nat) => V.int (k : Int))) hp
        refine ⟨p, rfl, ⟨_, SqL.of upd_same⟩, fun E1 hE1 => ?_⟩
        refine lc_run (walk_list (xs := S.map fun (k : Nat) => V.int (k : Int))) hE1 (fun i acc Hq => acc.length ≤ i ∧ DpAll K Hq acc ((((S.take i).filter fun p => nz (sT ds p)).map fun p => Deed.star p (sT ds p)).map Deed.D)) ?_ ?_ ?_ ?_
        · exact fun H' s => SqL.of (s _ _ upd_same)
        · exact ⟨Nat.le_refl _, .nil⟩
        · rintro i x acc H2 H' hi hacc e s r ⟨rfl, hx⟩
          obtain ⟨m, hm, rfl⟩ := get_map hx
          obtain ⟨r1, r2⟩ := r
          have hmk : m ∈ kl := (hSk m).mp (List.mem_of_getElem? hm)
          have htk := take_snoc hm
          have Dg := D1.keep (sp.trans s)
          have hi2 : i < S.length := by rw [List.length_map] at hi; exact hi
          refine ⟨rfl, ?_⟩
          refine ⟨_, rfl, _, rfl, d1, _, rfl, Dg.get hmk, rfl, _, rfl, ?_⟩
          refine ite2 (fun hh => ?_) (fun hh => ?_)
          · refine ⟨_, rfl, _, rfl, _, rfl, d1, _, rfl, Dg.get hmk, by show 3 ≤ sizeLine; decide, fun q hq => ?_⟩
            have sq := same_new (o := .tup [.str "star", .int (m : Int), .int (sT ds m)]) hq
            have nq : q ≠ E1 := by
              rintro rfl
              rw [hacc] at hq
              cases hq
            refine lc_add hacc e sq (by omega) ?_
            have hn : nz (sT ds m) = true := by
              unfold nz
              simpa using hh
            rw [htk, List.filter_append, List.filter_cons_of_pos (p := fun p => nz (sT ds p)) hn, List.filter_nil, List.map_append, List.map_append]
            refine ⟨by rw [List.length_append, List.length_singleton]; omega, ?_⟩
            refine dpAll_app (dpAll_same (era_same sq) _ r2) (.cons (.tup (SqT.of ?_) (.cons (.str _) (.cons (.int _) (.cons (.int _) .nil)))) .nil)
            rw [era_ne nq, upd_same]
            rfl
          · refine lc_skip hacc e (Same.refl _) ?_
            have hn : ¬ nz (sT ds m) = true := by
              unfold nz
              simpa using hh
            rw [htk, List.filter_append, List.filter_cons_of_neg (p := fun p => nz (sT ds p)) hn, List.filter_nil, List.append_nil]
            exact ⟨by omega, r2⟩
        · rintro acc H2 h1 s3 r
          obtain ⟨r1, r2⟩ := r
          rw [List.length_map] at r1 r2
          rw [List.take_of_length_le (Nat.le_refl _)] at r2
          exact cont _ _ ⟨E1, acc, S, rfl, sp.trans s3, Same.free sH (Same.free sp hE1), h1, hS, fun j => (hSk j).trans (hk1 j), by omega, dpAll_same era_back _ r2⟩
      rintro u1 H2 ⟨l, ys, S, rfl, s2, hlN, hl2, hS, hSk, hyl, hyd⟩
      dsimp only [gName]
      refine at_st [some v, some (.ref ad), some (.ref d1), some (.ref d2), v4, v5, v6, some (.ref l), v8, none] rfl ?_
      refine tSeq_go ?_
      have D2' := D2.keep s2
      have hlf : ∀ x, H2 x = none → l ≠ x := fun x hx e => by
        subst e
        rw [hl2] at hx
        cases hx
      refine ⟨_, rfl, ⟨.inl ⟨rfl, _, SqL.of hl2⟩, ?_⟩⟩
      obtain ⟨kvs, kys, z1, z2, z3, z4⟩ := D2'.sort (by omega)
      refine ⟨_, rfl, d2, kvs, kys, rfl, z1, z2, z3, fun yz p hperm hsort hp => ?_⟩
      obtain ⟨M, eM, hM, hMk, hMl⟩ := z4 yz hperm hsort
      rw [eM]
      have sp := same_new (o := .lst (M.map fun (k : Nat) => V.int (k : Int))) hp
      refine ⟨p, rfl, ⟨_, SqL.of upd_same⟩, fun E1 hE1 => ?_⟩
      refine lc_run (walk_list (xs := M.map fun (k : Nat) => V.int (k : Int))) hE1 (fun i acc Hq => acc.length ≤ i ∧ DpAll K Hq acc ((((M.take i).filter fun p => nz (mT ts.length ds p)).map fun p => Deed.round (lotN ts.length p) (mT ts.length ds p)).map Deed.D)) ?_ ?_ ?_ ?_
      · exact fun H' s => SqL.of (s _ _ upd_same)
      · exact ⟨Nat.le_refl _, .nil⟩
      · rintro i x acc H3 H' hi hacc e s r ⟨rfl, hx⟩
        obtain ⟨m, hm, rfl⟩ := get_map hx
        obtain ⟨r1, r2⟩ := r
        have hmk : m ∈ ml := (hMk m).mp (List.mem_of_getElem? hm)
        have htk := take_snoc hm
        have Dg := D2'.keep (sp.trans s)
        have hi2 : i < M.length := by rw [List.length_map] at hi; exact hi
        refine ⟨rfl, ?_⟩
        refine ⟨_, rfl, _, rfl, d2, _, rfl, Dg.get hmk, rfl, _, rfl, ?_⟩
        refine ite2 (fun hh => ?_) (fun hh => ?_)
        · refine ⟨_, rfl, _, rfl, v, n, ts, m, rfl, dp_same (sH.trans (s2.trans (sp.trans s))) _ hw, hl, fun u H4 s4 hu4 => ?_⟩
          refine ⟨_, rfl, _, rfl, d2, _, rfl, (Dg.keep s4).get hmk, by show 3 ≤ sizeLine; decide, fun q hq => ?_⟩
          have sq := same_new (o := .tup [.str "round", u, .int (mT ts.length ds m)]) hq
          have nq : q ≠ E1 := by
            rintro rfl
            rw [s4 _ _ hacc] at hq
            cases hq
          refine lc_add hacc e (s4.trans sq) (by omega) ?_
          have hn : nz (mT ts.length ds m) = true := by
            unfold nz
            simpa using hh
          rw [htk, List.filter_append, List.filter_cons_of_pos (p := fun p => nz (mT ts.length ds p)) hn, List.filter_nil, List.map_append, List.map_append]
          refine ⟨by rw [List.length_append, List.length_singleton]; omega, ?_⟩
          have kf : KF H4 (era (upd H4 q (.tup [.str "round", u, .int (mT ts.length ds m)])) E1) := fun z o hz qq => by
            have nz : z ≠ E1 := by
              rintro rfl
              rw [s4 _ _ hacc] at hz
              obtain ⟨_, rfl | ⟨_, rfl⟩⟩ := qq <;> cases hz
            rw [era_ne nz]
            exact sq _ _ hz
          refine dpAll_app (dpAll_same (era_same (s4.trans sq)) _ r2) (.cons (.tup (SqT.of ?_) (.cons (.str _) (.cons (dp_kf kf _ (still_lot _) hu4) (.cons (.int _) .nil)))) .nil)
          rw [era_ne nq, upd_same]
          rfl
        · refine lc_skip hacc e (Same.refl _) ?_
          have hn : ¬ nz (mT ts.length ds m) = true := by
            unfold nz
            simpa using hh
          rw [htk, List.filter_append, List.filter_cons_of_neg (p := fun p => nz (mT ts.length ds p)) hn, List.filter_nil, List.append_nil]
          exact ⟨by omega, r2⟩
      · rintro acc H3 h1 s3 r
        obtain ⟨r1, r2⟩ := r
        rw [List.length_map] at r1 r2
        rw [List.take_of_length_le (Nat.le_refl _)] at r2
        have s23 := sp.trans s3
        have hl3 := s23 _ _ hl2
        have nlE : l ≠ E1 := hlf _ (Same.free sp hE1)
        refine ⟨l, E1, _, _, rfl, rfl, hl3, h1, Nat.le_trans (show ys.length + acc.length ≤ 1000 by omega) (by decide), ?_⟩
        dsimp only
        refine ⟨_, rfl, l, _, rfl, .inl ⟨SqL.of upd_same, fun u hu => ?_⟩⟩
        have su := same_new (o := .tup (ys ++ acc)) hu
        have kf : KF H3 (upd H3 l (.lst (ys ++ acc))) := KF.of_upd hl3
        have hfin : DpAll K (upd (upd H3 l (.lst (ys ++ acc))) u (.tup (ys ++ acc))) (ys ++ acc) ((tog n (zs.map (lotN ts.length)) ds).map Deed.D) := by
          rw [← tog_keys hE hin hS hM hSk (fun j => (hMk j).trans (hk2 j)), List.map_append]
          exact dpAll_app (dpAll_same su _ (dpAll_kf kf _ (still_deeds _) (dpAll_same s23 _ hyd))) (dpAll_same su _ (dpAll_kf kf _ (still_deeds _) (dpAll_same era_back _ r2)))
        refine k _ _ ?_ (.tup (SqT.of upd_same) hfin)
        exact (same_old hlN (sH.trans (s2.trans s23))).trans su
end
end BV

namespace BV
open PySem L2
abbrev sLtog : Stmt := top 28
abbrev nLtog : List Str := ["_law_web_here", "_law_every", "_law_deeds_here", "_law_found", "_law_place", "_law_lot_here", "_law_deed", "_law_word", "_law_about", "_law_times"]
abbrev pLtog : List Str := ["_law_web_here", "_law_every", "_law_deeds_here"]
theorem scLtog : FnScope nLtog pLtog (defScope sLtog) := ⟨rfl, rfl, rfl, by decide +kernel, rfl, by decide +kernel, by decide +kernel⟩
abbrev sShuf : Stmt := top 29
abbrev nShuf : List Str := ["_law_box_here", "_law_deeds_here", "_law_rest", "_law_found", "_law_turn"]
abbrev pShuf : List Str := ["_law_box_here", "_law_deeds_here"]
theorem scShuf : FnScope nShuf pShuf (defScope sShuf) := ⟨rfl, rfl, rfl, by decide +kernel, rfl, by decide +kernel, by decide +kernel⟩
theorem eqv_lots (ks ms : List Nat) : PyData.eqv (lotD ks) (lotD ms) = decide (ks = ms) := by
  have e : ∀ l : List Nat, (l.map fun (k : Nat) => PyData.int k) = (l.map fun (k : Nat) => (k : Int)).map PyData.int := fun l => by rw [List.map_map]; rfl
  unfold lotD
  rw [e, e, PyData.eqv, PySem.W.ked_eqvAll]
  refine decide_eq_decide.mpr ⟨fun h => ?_, fun h => by rw [h]⟩
  have := congrArg (List.map Int.toNat) h
  rw [List.map_map, List.map_map] at this
  have e2 : ∀ l : List Nat, l.map (Int.toNat ∘ fun (k : Nat) => (k : Int)) = l := fun l => (List.map_congr_left fun x _ => (by show ((x : Int)).toNat = x; omega)).trans (List.map_id l)
  rwa [e2, e2] at this
theorem shaped_lotN (ks : List Nat) : SeqAt.shaped (lotD ks) = true := by
  have h := shaped_intsL (ks.map fun (k : Nat) => (k : Int))
  rw [List.map_map] at h
  exact h

def cS (p : Nat) : Deed → Bool
  | .star q _ => decide (q = p)
  | .round _ _ => false
def cR (E : List Nat) : Deed → Bool
  | .star _ _ => false
  | .round ks _ => decide (ks = E)
theorem sT_filter (p : Nat) : ∀ ds : List Deed, ((ds.filter (cS p)).map Deed.times).sum = sT ds p
  | [] => rfl
  | d :: ds => by
    have ih := sT_filter p ds
    have e1 : sT (d :: ds) p = d.starAt p + sT ds p := by unfold sT; rw [List.map_cons, List.sum_cons]
    rw [List.filter_cons, e1]
    by_cases h : cS p d = true
    · rw [if_pos h, List.map_cons, List.sum_cons, ih]
      cases d with
      | star q t => rw [show (Deed.star q t).starAt p = t from if_pos (of_decide_eq_true h)]; rfl
      | round ks t => cases h
    · rw [if_neg h, ih]
      cases d with
      | star q t => rw [show (Deed.star q t).starAt p = 0 from if_neg fun e => h (decide_eq_true e)]; omega
      | round ks t => show _ = 0 + _; omega
theorem rT_filter (E : List Nat) : ∀ ds : List Deed, ((ds.filter (cR E)).map Deed.times).sum = rT ds E
  | [] => rfl
  | d :: ds => by
    have ih := rT_filter E ds
    have e1 : rT (d :: ds) E = d.roundAt E + rT ds E := by unfold rT; rw [List.map_cons, List.sum_cons]
    rw [List.filter_cons, e1]
    by_cases h : cR E d = true
    · rw [if_pos h, List.map_cons, List.sum_cons, ih]
      cases d with
      | star q t => cases h
      | round ks t => rw [show (Deed.round ks t).roundAt E = t from if_pos (of_decide_eq_true h)]; rfl
    · rw [if_neg h, ih]
      cases d with
      | star q t => show _ = 0 + _; omega
      | round ks t => rw [show (Deed.round ks t).roundAt E = 0 from if_neg fun e => h (decide_eq_true e)]; omega
theorem perm_mv {α : Type} : ∀ (us fs : List α) (j : Nat) (t : α), us[j]? = some t → (us.eraseIdx j ++ (fs ++ [t])).Perm (us ++ fs)
  | [], _, _, _, h => by simp at h
  | u :: us, fs, 0, t, h => by
    have : u = t := by simpa using h
    subst this
    show (us ++ (fs ++ [u])).Perm (u :: (us ++ fs))
    rw [← List.append_assoc]
    exact List.perm_append_comm
  | u :: us, fs, j + 1, t, h => by
    have := perm_mv us fs j t (by simpa using h)
    exact this.cons u
theorem dpAll_erase {K : PySem.W.Frag} {H : Hp} : ∀ {ds : List PyData} {vs : List V} (j : Nat), DpAll K H vs ds → DpAll K H (vs.eraseIdx j) (ds.eraseIdx j)
  | [], _, j, h => by cases h; simpa using DpAll.nil
  | d :: ds, _, 0, h => by
    cases h with
    | cons h1 h2 => exact h2
  | d :: ds, _, j + 1, h => by
    cases h with
    | cons h1 h2 => exact .cons h1 (dpAll_erase j h2)
theorem map_erase {α β : Type} (f : α → β) : ∀ (l : List α) (j : Nat), (l.map f).eraseIdx j = (l.eraseIdx j).map f
  | [], _ => rfl
  | _ :: _, 0 => rfl
  | a :: l, j + 1 => by
    show f a :: (l.map f).eraseIdx j = f a :: (l.eraseIdx j).map f
    rw [map_erase f l j]
def spLtog (K : PySem.W.Frag) : Sp := fun vs H Q _ => ∃ (l : Addr) (v dv : V) (n : Nat) (ts : List Tie) (xs : List V) (ev : List (List Nat)) (ds : List Deed), vs = [v, .ref l, dv] ∧ Dp K H v (webD n ts) ∧ H l = some (.lst xs) ∧ DpAll K H xs (ev.map lotD) ∧
  Dp K H dv (deedsD ds) ∧ n ≤ 1000 ∧ ev.length ≤ 5000 ∧ ds.length ≤ 1000 ∧
  ∀ (u : V) H', Same H H' → Dp K H' u (deedsD (tog n ev ds)) → Q u H'
def spShuf (K : PySem.W.Frag) : Sp := fun vs H Q _ => ∃ (b g : Addr) (dv : V) (ds : List Deed), vs = [.ref b, dv] ∧ Box H b g ∧ Dp K H dv (deedsD ds) ∧ ds.length ≤ 1000 ∧
  ∀ (u : V) (es : List Deed) H', Kp b g H H' → Box H' b g → Dp K H' u (deedsD es) → es.Perm ds → Q u H'
section
variable {P : Program} {w : World} {K : PySem.W.Frag} {mg : Str → Option Value} {base : Heap}
theorem ok_ltog {f : Addr} {fd : FuncData} (D : Df K mg "_law_together" sLtog pLtog f fd) (T : Bl mg) : FnOk P w K mg base CX0 1 f fd pLtog (spLtog K) := by
  refine D.fn.ok scLtog (fun vs H Q E h => ?_) (fun cdv A outer s H vs Q E hr h => ?_)
  · obtain ⟨l, v, dv, n, ts, xs, ev, ds, rfl, _⟩ := h
    rfl
  · obtain ⟨l, v, dv, n, ts, xs, ev, ds, rfl, hw, hL, hLd, hd, hn, hel, hdl, k⟩ := h
    have nd := scLtog.nd
    obtain ⟨a, c, ys, rfl, ha, hc, hys⟩ := dp_web hw
    obtain ⟨ad, dx, rfl, had, hdx⟩ := dp_tup hd
    have hxl : xs.length = ev.length := by rw [dpAll_len hLd, List.length_map]
    have hdxl : dx.length = ds.length := by rw [dpAll_len hdx, List.length_map]
    refine ⟨_, (pss_cons (ps_set (i := 3) nd rfl (by first | exact Or.inl rfl | exact Or.inr rfl) (pe_lst pa_nil))
      (pss_cons (ps_for PassesOwn.never rfl (pi_range1 rfl T.range (pa_cons (pe_ix (ixT K) (pv 0) pe_int (fun _ _ => rfl)) pa_nil)) (pg_name (i := 4) nd rfl (by first | exact Or.inl rfl | exact Or.inr rfl)) (pss_one (ps_expr (pe_bm PySem.F.plainAttrs_list PySem.F.slot_list_append PySem.F.type_list_append mt_append (pv 3) (pa_cons (pe_tup (pa_cons pe_str (pa_cons (pv 4) (pa_cons (pe_callB (sumLK K) (by rfl) T.sum (by decide +kernel) (pa_cons (pe_lc (own := [("_law_word", 7), ("_law_about", 8), ("_law_times", 9)]) (g := (gTup K 3 (gCons (gName 7) (gCons (gName 8) (gCons (gName 9) gNil))))) rfl nd (piT K (pv 2)) (blkOk_by (own := [("_law_word", 7), ("_law_about", 8), ("_law_times", 9)]) (N := nLtog) (sc := defScope sLtog) (by decide +kernel)) (fun _ _ _ _ _ => (pgT K rfl (pgs_cons (pg_name (i := 7) nd rfl (by first | exact Or.inl rfl | exact Or.inr rfl)) (pgs_cons (pg_name (i := 8) nd rfl (by first | exact Or.inl rfl | exact Or.inr rfl)) (pgs_cons (pg_name (i := 9) nd rfl (by first | exact Or.inl rfl | exact Or.inr rfl)) pgs_nil))))) (fun _ _ _ _ _ => (pts_one (PW.pt (pw_and (pt_cmpR op_eq (pv 7) pe_str (nomark _)) (pw_and1 (pt_cmpR op_eq (pv 8) (pv 4) (nomark _))))))) (fun _ _ _ _ _ => (pv 9))) pa_nil)) pa_nil)))) pa_nil)))))
      (pss_cons (ps_for PassesOwn.never rfl (piL K (pv 1)) (pg_name (i := 5) nd rfl (by first | exact Or.inl rfl | exact Or.inr rfl)) (pss_one (ps_expr (pe_bm PySem.F.plainAttrs_list PySem.F.slot_list_append PySem.F.type_list_append mt_append (pv 3) (pa_cons (pe_tup (pa_cons pe_str (pa_cons (pv 5) (pa_cons (pe_callB (sumLK K) (by rfl) T.sum (by decide +kernel) (pa_cons (pe_lc (own := [("_law_word", 7), ("_law_about", 8), ("_law_times", 9)]) (g := (gTup K 3 (gCons (gName 7) (gCons (gName 8) (gCons (gName 9) gNil))))) rfl nd (piT K (pv 2)) (blkOk_by (own := [("_law_word", 7), ("_law_about", 8), ("_law_times", 9)]) (N := nLtog) (sc := defScope sLtog) (by decide +kernel)) (fun _ _ _ _ _ => (pgT K rfl (pgs_cons (pg_name (i := 7) nd rfl (by first | exact Or.inl rfl | exact Or.inr rfl)) (pgs_cons (pg_name (i := 8) nd rfl (by first | exact Or.inl rfl | exact Or.inr rfl)) (pgs_cons (pg_name (i := 9) nd rfl (by first | exact Or.inl rfl | exact Or.inr rfl)) pgs_nil))))) (fun _ _ _ _ _ => (pts_one (PW.pt (pw_and (pt_cmpR op_eq (pv 7) pe_str (nomark _)) (pw_and1 (pt_cmpR (opEqD K hr.units) (pv 8) (pv 5) (nomark _))))))) (fun _ _ _ _ _ => (pv 9))) pa_nil)) pa_nil)))) pa_nil)))))
      (pss_one (ps_ret (pe_callTy (tupleK K) (by rfl) T.tuple (by decide +kernel) (pa_cons (pe_lc (own := [("_law_deed", 6)]) (g := (gName 6)) rfl nd (piL K (pv 3)) (blkOk_by (own := [("_law_deed", 6)]) (N := nLtog) (sc := defScope sLtog) (by decide +kernel)) (fun _ _ _ _ _ => (pg_name (i := 6) nd rfl (by first | exact Or.inl rfl | exact Or.inr rfl))) (fun _ _ _ _ _ => (pts_one (pt_cmpR op_ne (pe_ix (ixT K) (pv 6) pe_int (fun _ _ => rfl)) pe_int (nomark _)))) (fun _ _ _ _ _ => (pv 6))) pa_nil))))))), ?_⟩
    refine ⟨Nat.zero_le _, fun l3 hl3 => ?_⟩
    have s0 := same_new (o := .lst []) hl3
    refine ⟨_, rfl, a, _, _, _, rfl, rfl, sqT_same s0 ha, atI_nat (j := 0) rfl, ?_⟩
    refine ⟨n, rfl, by omega, by omega, ?_⟩
    refine for_range (lo := 0) (n := (n : Int).toNat) (fun i σ H' => ∃ (v4 : Option V) (acc : List V),
      σ = [some (.ref a), some (.ref l), some (.ref ad), some (.ref l3), v4, none, none, none, none, none] ∧ Same H H' ∧ H' l3 = some (.lst acc) ∧ DpAll K H' acc (((List.range i).map fun p => Deed.star p (sT ds p)).map Deed.D)) ?_ ?_ ?_
    · exact ⟨none, [], rfl, s0, upd_same, .nil⟩
    · rintro i σ H1 hi ⟨v4, acc, rfl, sH, hA, hAd⟩
      have hal : acc.length = i := by rw [dpAll_len hAd, List.length_map, List.length_map, List.length_range]
      rw [Int.zero_add]
      refine ⟨_, rfl, .inl ⟨rfl, _, SqL.of hA⟩, ?_⟩
      refine ⟨_, rfl, ?_⟩
      have had1 := sqT_same sH had
      refine ⟨_, rfl, ad, rfl, ⟨_, had1⟩, fun E1 hE1 => ?_⟩
      refine lc_run (walk_tup (xs := dx)) hE1 (fun j acc _ => acc = ((((ds.take j).filter (cS i)).map Deed.times).map V.int)) ?_ ?_ ?_ ?_
      · exact fun H' s => sqT_same s had1
      · rfl
      · rintro j x acc2 H2 H' hj hacc e s r ⟨rfl, hx⟩
        obtain ⟨dd, hdd, hdp⟩ := dpAll_get hdx hx
        obtain ⟨d, hdj, rfl⟩ := get_map hdd
        obtain ⟨ax, va, rfl, hax, hva⟩ := dp_deed (dp_same (sH.trans s) _ hdp)
        have htk := take_snoc hdj
        have r' : acc2 = ((((ds.take j).filter (cS i)).map Deed.times).map V.int) := r
        have hal2 : acc2.length ≤ j := by
          rw [r', List.length_map, List.length_map]
          exact Nat.le_trans (List.length_filter_le _ _) (by rw [List.length_take]; omega)
        refine ⟨ax, _, rfl, hax, rfl, _, _, rfl, _, _, rfl, _, _, rfl, rfl, rfl, ?_⟩
        have no : ∀ H3, Same H' H3 → cS i d = false → LcI H1 E1 (fun j acc _ => acc = ((((ds.take j).filter (cS i)).map Deed.times).map V.int)) (j + 1) H3 := fun H3 s3 hc => by
          refine lc_skip hacc e s3 ?_
          rw [htk, List.filter_append, List.filter_cons_of_neg (by rw [hc]; decide), List.filter_nil, List.append_nil]
          exact r'
        cases d with
        | star q t =>
          cases hva
          refine ⟨_, rfl, rfl, _, rfl, iteT ?_⟩
          refine ⟨_, rfl, _, rfl, rfl, _, rfl, ?_⟩
          refine ite2 (fun hh => ?_) (fun hh => ?_)
          · have hc : cS i (.star q t) = true := decide_eq_true (by have := V.int.inj (of_decide_eq_true hh); omega)
            refine ⟨_, rfl, ?_⟩
            refine lc_add hacc e (Same.refl _) (by omega) ?_
            rw [htk, List.filter_append, List.filter_cons_of_pos hc, List.filter_nil, List.map_append, List.map_append, r']
            rfl
          · exact no _ (Same.refl _) (decide_eq_false fun e => hh (decide_eq_true (by rw [e])))
        | round ks t =>
          refine ⟨_, rfl, rfl, _, rfl, iteF ?_⟩
          exact no _ (Same.refl _) rfl
      · rintro acc2 H2 h1 s2 r
        have r' : acc2 = ((((ds.take dx.length).filter (cS i)).map Deed.times).map V.int) := r
        rw [hdxl, List.take_of_length_le (Nat.le_refl _)] at r'
        refine ⟨E1, _, rfl, SqL.of (by rw [h1, r']), ?_⟩
        rw [sT_filter]
        refine ⟨by show 3 ≤ sizeLine; decide, fun p hp => ?_⟩
        have sp := same_new (o := .tup [.str "star", .int (i : Int), .int (sT ds i)]) hp
        have hA2 := sp _ _ (s2 _ _ hA)
        refine ⟨l3, acc, _, rfl, rfl, hA2, Nat.lt_of_lt_of_le (show acc.length < 100000 by omega) (by decide), ?_⟩
        have kf : KF (upd H2 p (.tup [.str "star", .int (i : Int), .int (sT ds i)])) (upd (upd H2 p (.tup [.str "star", .int (i : Int), .int (sT ds i)])) l3 (.lst (acc ++ [.ref p]))) := KF.of_upd hA2
        refine ⟨_, _, rfl, same_old hl3 (sH.trans (s2.trans sp)), upd_same, ?_⟩
        rw [List.range_succ, List.map_append, List.map_append]
        refine dpAll_app (dpAll_kf kf _ (still_deeds _) (dpAll_same (s2.trans sp) _ hAd)) (.cons (dp_kf kf _ (still_deed (.star i (sT ds i))) ?_) .nil)
        exact .tup (SqT.of upd_same) (.cons (.str _) (.cons (.int _) (.cons (.int _) .nil)))
    · rintro σ H1 ⟨v4, acc, rfl, sH, hA, hAd⟩
      rw [Int.toNat_natCast] at hAd
      have hal : acc.length = n := by rw [dpAll_len hAd, List.length_map, List.length_map, List.length_range]
      dsimp only
      refine tSeq_go ?_
      have hlne : l ≠ l3 := by
        rintro rfl
        rw [hL] at hl3
        cases hl3
      refine ⟨_, rfl, l, rfl, ⟨_, SqL.of (sH _ _ hL)⟩, for_it (walk_list (xs := xs)) (fun i σ H' => ∃ (v5 : Option V) (acc : List V),
        σ = [some (.ref a), some (.ref l), some (.ref ad), some (.ref l3), v4, v5, none, none, none, none] ∧ Same H H' ∧ H' l3 = some (.lst acc) ∧
        DpAll K H' acc ((((List.range n).map fun p => Deed.star p (sT ds p)) ++ (ev.take i).map fun E => Deed.round E (rT ds E)).map Deed.D)) ?_ ?_ ?_ ?_⟩
      · exact ⟨none, acc, rfl, sH, hA, by rw [List.take_zero, List.map_nil, List.append_nil]; exact hAd⟩
      · rintro i σ H' _ ⟨v5, acc, rfl, sH, _⟩
        exact SqL.of (sH _ _ hL)
      · clear hA hAd hal sH
        rintro i x σ H1 H'' hi ⟨v5, acc, rfl, sH, hA, hAd⟩ ⟨rfl, hx⟩
        obtain ⟨dd, hdd, hdp⟩ := dpAll_get hLd hx
        obtain ⟨E, hE, rfl⟩ := get_map hdd
        have hxE := dp_same sH _ hdp
        have hal : acc.length ≤ n + i := by
          rw [dpAll_len hAd, List.length_map, List.length_append, List.length_map, List.length_map, List.length_range, List.length_take]
          omega
        have hi2 : i < ev.length := by omega
        refine ⟨_, rfl, .inl ⟨rfl, _, SqL.of hA⟩, ?_⟩
        refine ⟨_, rfl, ?_⟩
        have had1 := sqT_same sH had
        refine ⟨_, rfl, ad, rfl, ⟨_, had1⟩, fun E1 hE1 => ?_⟩
        refine lc_run (walk_tup (xs := dx)) hE1 (fun j acc _ => acc = ((((ds.take j).filter (cR E)).map Deed.times).map V.int)) ?_ ?_ ?_ ?_
        · exact fun H' s => sqT_same s had1
        · rfl
        · rintro j y acc2 H2 H' hj hacc e s r ⟨rfl, hy⟩
          obtain ⟨dd, hdd, hdp⟩ := dpAll_get hdx hy
          obtain ⟨d, hdj, rfl⟩ := get_map hdd
          obtain ⟨ax, va, rfl, hax, hva⟩ := dp_deed (dp_same (sH.trans s) _ hdp)
          have htk := take_snoc hdj
          have r' : acc2 = ((((ds.take j).filter (cR E)).map Deed.times).map V.int) := r
          have hal2 : acc2.length ≤ j := by
            rw [r', List.length_map, List.length_map]
            exact Nat.le_trans (List.length_filter_le _ _) (by rw [List.length_take]; omega)
          refine ⟨ax, _, rfl, hax, rfl, _, _, rfl, _, _, rfl, _, _, rfl, rfl, rfl, ?_⟩
          have no : ∀ H3, Same H' H3 → cR E d = false → LcI H'' E1 (fun j acc _ => acc = ((((ds.take j).filter (cR E)).map Deed.times).map V.int)) (j + 1) H3 := fun H3 s3 hc => by
            refine lc_skip hacc e s3 ?_
            rw [htk, List.filter_append, List.filter_cons_of_neg (by rw [hc]; decide), List.filter_nil, List.append_nil]
            exact r'
          cases d with
          | star q t =>
            refine ⟨_, rfl, rfl, _, rfl, iteF ?_⟩
            exact no _ (Same.refl _) rfl
          | round ks t =>
            refine ⟨_, rfl, rfl, _, rfl, iteT ?_⟩
            refine ⟨_, rfl, _, rfl, lotD ks, lotD E, hva, dp_same s _ hxE, shaped_lotN ks, shaped_lotN E, _, rfl, ?_⟩
            rw [eqv_lots]
            refine ite2 (fun hh => ?_) (fun hh => ?_)
            · refine ⟨_, rfl, ?_⟩
              refine lc_add hacc e (Same.refl _) (by omega) ?_
              rw [htk, List.filter_append, List.filter_cons_of_pos (p := cR E) (show cR E (.round ks t) = true from hh), List.filter_nil, List.map_append, List.map_append, r']
              rfl
            · exact no _ (Same.refl _) (Bool.eq_false_iff.mpr hh)
        · rintro acc2 H2 h1 s2 r
          have r' : acc2 = ((((ds.take dx.length).filter (cR E)).map Deed.times).map V.int) := r
          rw [hdxl, List.take_of_length_le (Nat.le_refl _)] at r'
          refine ⟨E1, _, rfl, SqL.of (by rw [h1, r']), ?_⟩
          rw [rT_filter]
          refine ⟨by show 3 ≤ sizeLine; decide, fun p hp => ?_⟩
          have sp := same_new (o := .tup [.str "round", x, .int (rT ds E)]) hp
          have hA2 := sp _ _ (s2 _ _ hA)
          refine ⟨l3, acc, _, rfl, rfl, hA2, Nat.lt_of_lt_of_le (show acc.length < 100000 by omega) (by decide), ?_⟩
          have kf : KF (upd H2 p (.tup [.str "round", x, .int (rT ds E)])) (upd (upd H2 p (.tup [.str "round", x, .int (rT ds E)])) l3 (.lst (acc ++ [.ref p]))) := KF.of_upd hA2
          refine ⟨_, _, rfl, same_old hl3 (sH.trans (s2.trans sp)), upd_same, ?_⟩
          rw [take_snoc hE, List.map_append (l₁ := ev.take i), ← List.append_assoc, List.map_append]
          refine dpAll_app (dpAll_kf kf _ (still_deeds _) (dpAll_same (s2.trans sp) _ hAd)) (.cons (dp_kf kf _ (still_deed (.round E (rT ds E))) ?_) .nil)
          exact .tup (SqT.of upd_same) (.cons (.str _) (.cons (dp_same (s2.trans sp) _ hxE) (.cons (.int _) .nil)))
      · clear hA hAd hal sH
        rintro σ H1 ⟨v5, acc, rfl, sH, hA, hAd⟩
        rw [hxl, List.take_of_length_le (Nat.le_refl _)] at hAd
        generalize hall : ((List.range n).map fun p => Deed.star p (sT ds p)) ++ ev.map (fun E => Deed.round E (rT ds E)) = all at hAd
        have halc : acc.length = all.length := by rw [dpAll_len hAd, List.length_map]
        have hall2 : all.length ≤ 6000 := by
          rw [← hall, List.length_append, List.length_map, List.length_map, List.length_range]
          omega
        have htog : all.filter (fun d => nz d.times) = tog n ev ds := by
          rw [← hall, List.filter_append, List.filter_map, List.filter_map]
          rfl
        refine ⟨_, rfl, l3, rfl, ⟨_, SqL.of hA⟩, fun E1 hE1 => ?_⟩
        refine lc_run (walk_list (xs := acc)) hE1 (fun j acc2 Hq => DpAll K Hq acc2 (((all.take j).filter fun d => nz d.times).map Deed.D)) ?_ ?_ ?_ ?_
        · exact fun H' s => SqL.of (s _ _ hA)
        · exact .nil
        · rintro j x acc2 H2 H' hj hacc e s r ⟨rfl, hx⟩
          obtain ⟨dd, hdd, hdp⟩ := dpAll_get hAd hx
          obtain ⟨d, hdj, rfl⟩ := get_map hdd
          obtain ⟨ax, va, rfl, hax, hva⟩ := dp_deed (dp_same s _ hdp)
          have htk := take_snoc hdj
          have hal2 : acc2.length ≤ 6000 := by
            rw [dpAll_len r, List.length_map]
            exact Nat.le_trans (List.length_filter_le _ _) (by rw [List.length_take]; omega)
          refine ⟨rfl, ?_⟩
          refine ⟨_, rfl, ax, _, _, _, rfl, rfl, hax, atI_nat (j := 2) rfl, rfl, _, rfl, ?_⟩
          refine ite2 (fun hh => ?_) (fun hh => ?_)
          · have hn : nz d.times = true := by
              unfold nz
              simpa using hh
            refine ⟨_, rfl, ?_⟩
            refine lc_add hacc e (Same.refl _) (by omega) ?_
            rw [htk, List.filter_append, List.filter_cons_of_pos (p := fun d => nz (Deed.times d)) hn, List.filter_nil, List.map_append]
            exact dpAll_app r (.cons (dp_same e _ hdp) .nil)
          · have hn : ¬ nz d.times = true := by
              unfold nz
              simpa using hh
            refine lc_skip hacc e (Same.refl _) ?_
            rw [htk, List.filter_append, List.filter_cons_of_neg (p := fun d => nz (Deed.times d)) hn, List.filter_nil, List.append_nil]
            exact r
        · rintro acc2 H2 h1 s2 r
          rw [halc, List.take_of_length_le (Nat.le_refl _), htog] at r
          refine ⟨E1, _, rfl, .inl ⟨SqL.of h1, fun u hu => ?_⟩⟩
          have su := same_new (o := .tup acc2) hu
          exact k _ _ (sH.trans (s2.trans su)) (.tup (SqT.of upd_same) (dpAll_same (era_back.trans su) _ r))
theorem ok_shuf {f f1 : Addr} {fd fd1 : FuncData} (D : Df K mg "_law_shuffled" sShuf pShuf f fd) (T : Bl mg) (hlist : mg "list" = none)
    (D_draw : Df K mg "_law_draw" sDraw ["_law_box_here", "_law_many"] f1 fd1) : FnOk P w K mg base CX0 2 f fd pShuf (spShuf K) := by
  have G_draw : FnOk P w K mg base CX0 1 f1 fd1 ["_law_box_here", "_law_many"] spDraw := ok_draw D_draw T
  refine D.fn.ok scShuf (fun vs H Q E h => ?_) (fun cdv A outer s H vs Q E hr h => ?_)
  · obtain ⟨b, g, dv, ds, rfl, _⟩ := h
    rfl
  · obtain ⟨b, g, dv, ds, rfl, hB, hd, hdl, k⟩ := h
    have hr_draw : Room 1 _ := hr
    have nd := scShuf.nd
    obtain ⟨ad, dx, rfl, had, hdx⟩ := dp_tup hd
    have hdxl : dx.length = ds.length := by rw [dpAll_len hdx, List.length_map]
    refine ⟨_, (pss_cons (ps_par (i := 2) (j := 3) (by rfl) nd rfl rfl (by decide) rfl rfl (pa_cons (pe_callTy call_list_of (by rfl) hlist (by decide +kernel) (pa_cons (pv 1) pa_nil)) (pa_cons (pe_lst pa_nil) pa_nil)) (by rfl))
      (pss_cons (ps_for PassesOwn.never rfl (pi_range1 rfl T.range (pa_cons (pe_callB (lenK K) (by rfl) T.len PySem.boot_len (pa_cons (pv 1) pa_nil)) pa_nil)) (pg_name (i := 4) nd rfl (by first | exact Or.inl rfl | exact Or.inr rfl)) (pss_one (ps_expr (pe_bm PySem.F.plainAttrs_list PySem.F.slot_list_append PySem.F.type_list_append mt_append (pv 3) (pa_cons (pe_bm PySem.F.plainAttrs_list PySem.F.slot_list_pop PySem.F.type_list_pop mt_popAt (pv 2) (pa_cons (pe_call G_draw hr_draw (by rfl) D_draw.ad D_draw.fn.kp D_draw.bd .nil pass0 (pa_cons (pv 0) (pa_cons (pe_callB (lenK K) (by rfl) T.len PySem.boot_len (pa_cons (pv 2) pa_nil)) pa_nil))) pa_nil)) pa_nil)))))
      (pss_one (ps_ret (pe_callTy (tupleK K) (by rfl) T.tuple (by decide +kernel) (pa_cons (pv 3) pa_nil)))))), ?_⟩
    refine ⟨_, rfl, ad, _, rfl, .inr had, fun l hl => ?_⟩
    have s1 := same_new (o := .lst dx) hl
    refine ⟨Nat.zero_le _, fun l2 hl2 => ?_⟩
    have s2 := same_new (o := .lst []) hl2
    refine ⟨_, _, rfl, ?_⟩
    have hl2H : H l2 = none := Same.free s1 hl2
    have nll : l ≠ l2 := by
      rintro rfl
      rw [upd_same] at hl2
      cases hl2
    obtain ⟨lb, lg⟩ := box_ne hB hl
    obtain ⟨l2b, l2g⟩ := box_ne hB hl2H
    have I1 := s2 _ _ (upd_same (H := H) (a := l) (o := .lst dx))
    have I2 := upd_same (H := upd H l (.lst dx)) (a := l2) (o := .lst [])
    have S0 := s1.trans s2
    generalize upd (upd H l (.lst dx)) l2 (.lst []) = H0 at I1 I2 S0
    clear s1 s2 hl2
    refine ⟨_, rfl, ad, _, rfl, .inr (sqT_same S0 had), _, rfl, by omega, by omega, ?_⟩
    refine for_range (lo := 0) (n := (dx.length : Int).toNat) (fun i σ H' => ∃ (v4 : Option V) (xs ys : List V) (us fs : List Deed),
      σ = [some (.ref b), some (.ref ad), some (.ref l), some (.ref l2), v4] ∧ Kp b g H H' ∧ Box H' b g ∧ H' l = some (.lst xs) ∧ DpAll K H' xs (us.map Deed.D) ∧ H' l2 = some (.lst ys) ∧ DpAll K H' ys (fs.map Deed.D) ∧
      us.length + i = ds.length ∧ (us ++ fs).Perm ds) ?_ ?_ ?_
    · exact ⟨none, dx, [], ds, [], rfl, Kp.same S0, hB.same S0, I1, dpAll_same S0 _ hdx, I2, .nil, rfl, by rw [List.append_nil]⟩
    · clear I1 I2 S0
      rintro i σ H1 hi ⟨v4, xs, ys, us, fs, rfl, kp, B1, hX, hXd, hY, hYd, hul, hpm⟩
      have hxl : xs.length = us.length := by rw [dpAll_len hXd, List.length_map]
      have hyl : ys.length = fs.length := by rw [dpAll_len hYd, List.length_map]
      have hpl : us.length + fs.length = ds.length := by
        rw [← List.length_append]
        exact hpm.length_eq
      refine ⟨_, rfl, .inl ⟨rfl, _, SqL.of hY⟩, ?_⟩
      refine ⟨_, rfl, .inl ⟨rfl, _, SqL.of hX⟩, ?_⟩
      refine ⟨_, rfl, _, rfl, l, _, rfl, .inl (SqL.of hX), ?_⟩
      refine ⟨b, g, (xs.length : Int), rfl, by omega, by omega, B1, fun r H2 r0 r1 kp2 B2 => ?_⟩
      obtain ⟨j, rfl⟩ : ∃ j : Nat, r = (j : Int) := ⟨r.toNat, by omega⟩
      have hj : j < xs.length := by omega
      have kf2 := KF.of_kp kp2 B1
      have hX2 := kp2 _ _ hX lb lg
      have hY2 := kp2 _ _ hY l2b l2g
      have hXd2 := dpAll_kf kf2 _ (still_deeds us) hXd
      have hYd2 := dpAll_kf kf2 _ (still_deeds fs) hYd
      have hjx : xs[j]? = some xs[j] := by simp [hj]
      obtain ⟨dd, hdd, hdp⟩ := dpAll_get hXd2 hjx
      obtain ⟨d, hdj, rfl⟩ := get_map hdd
      refine ⟨l, xs, _, j, _, rfl, rfl, hX2, by omega, by omega, seq_nat hj, hjx, ?_⟩
      have kf3 : KF H2 (upd H2 l (.lst (xs.eraseIdx j))) := KF.of_upd hX2
      have hY3 : upd H2 l (.lst (xs.eraseIdx j)) l2 = some (.lst ys) := by
        rw [upd_ne nll.symm]
        exact hY2
      refine ⟨l2, ys, _, rfl, rfl, hY3, Nat.lt_of_lt_of_le (show ys.length < 100000 by omega) (by decide), ?_⟩
      have kf4 : KF (upd H2 l (.lst (xs.eraseIdx j))) (upd (upd H2 l (.lst (xs.eraseIdx j))) l2 (.lst (ys ++ [xs[j]]))) := KF.of_upd hY3
      have kf34 := kf3.trans kf4
      refine ⟨_, xs.eraseIdx j, _, us.eraseIdx j, fs ++ [d], rfl, kp_old hl2H (kp_old hl (kp.trans kp2)), box_old (box_old B2 lb lg) l2b l2g, ?_, ?_, upd_same, ?_, ?_, (perm_mv us fs j d hdj).trans hpm⟩
      · rw [upd_ne nll, upd_same]
      · rw [← map_erase]
        exact dpAll_erase j (dpAll_kf kf34 _ (still_deeds us) hXd2)
      · rw [List.map_append]
        exact dpAll_app (dpAll_kf kf34 _ (still_deeds fs) hYd2) (.cons (dp_kf kf34 _ (still_deed d) hdp) .nil)
      · rw [List.length_eraseIdx_of_lt (by omega)]
        omega
    · clear I1 I2 S0
      rintro σ H1 ⟨v4, xs, ys, us, fs, rfl, kp, B1, hX, hXd, hY, hYd, hul, hpm⟩
      have hus : us = [] := List.eq_nil_of_length_eq_zero (by omega)
      subst hus
      refine ⟨_, rfl, l2, _, rfl, .inl ⟨SqL.of hY, fun u hu => ?_⟩⟩
      have su := same_new (o := .tup ys) hu
      exact k _ fs _ (kp.trans (Kp.same su)) (B1.same su) (.tup (SqT.of upd_same) (dpAll_same su _ hYd)) hpm
end
end BV

namespace BV
open PySem L2
/-! what stands while a law goes on: the box, and data without lists in it -/
structure RC (K : PySem.W.Frag) (b g : Addr) (Hz H : Hp) (L : List (V × PyData)) : Prop where
  kp : Kp b g Hz H
  bx : Box H b g
  st : ∀ p ∈ L, still p.2 = true
  dp : ∀ p ∈ L, Dp K H p.1 p.2
section
variable {K : PySem.W.Frag} {b g : Addr} {Hz H H' : Hp} {L : List (V × PyData)}
theorem RC.same (R : RC K b g Hz H L) (s : Same H H') : RC K b g Hz H' L := ⟨R.kp.trans (Kp.same s), R.bx.same s, R.st, fun p hp => dp_same s _ (R.dp p hp)⟩
theorem RC.draw (R : RC K b g Hz H L) (k : Kp b g H H') (B : Box H' b g) : RC K b g Hz H' L := ⟨R.kp.trans k, B, R.st, fun p hp => dp_kf (KF.of_kp k R.bx) _ (R.st p hp) (R.dp p hp)⟩
theorem RC.add (R : RC K b g Hz H L) {v : V} {d : PyData} (h : Dp K H v d) (hs : still d = true) : RC K b g Hz H ((v, d) :: L) :=
  ⟨R.kp, R.bx, fun p hp => (List.mem_cons.mp hp).elim (fun e => by subst e; exact hs) (R.st p), fun p hp => (List.mem_cons.mp hp).elim (fun e => by subst e; exact h) (R.dp p)⟩
theorem RC.upd (R : RC K b g Hz H L) {l : Addr} {xs ys : List V} (h : H l = some (.lst xs)) (hz : Hz l = none) (lg : l ≠ g) : RC K b g Hz (L2.upd H l (.lst ys)) L := by
  have lb : l ≠ b := by
    rintro rfl
    obtain ⟨⟨_, _, h1⟩, _⟩ := R.bx
    rw [h] at h1
    cases h1
  refine ⟨fun a x e n1 n2 => ?_, bx_set R.bx lb lg, R.st, fun p hp => dp_kf (KF.of_upd h) _ (R.st p hp) (R.dp p hp)⟩
  rw [upd_ne (ne_of_none e hz)]
  exact R.kp _ _ e n1 n2
theorem RC.at0 {v : V} {d : PyData} (R : RC K b g Hz H ((v, d) :: L)) : Dp K H v d := R.dp (v, d) (.head _)
theorem RC.at1 {v : V} {d : PyData} {p0} (R : RC K b g Hz H (p0 :: (v, d) :: L)) : Dp K H v d := R.dp (v, d) (.tail _ (.head _))
theorem RC.at2 {v : V} {d : PyData} {p0 p1} (R : RC K b g Hz H (p0 :: p1 :: (v, d) :: L)) : Dp K H v d := R.dp (v, d) (.tail _ (.tail _ (.head _)))
theorem RC.at3 {v : V} {d : PyData} {p0 p1 p2} (R : RC K b g Hz H (p0 :: p1 :: p2 :: (v, d) :: L)) : Dp K H v d := R.dp (v, d) (.tail _ (.tail _ (.tail _ (.head _))))
theorem RC.at4 {v : V} {d : PyData} {p0 p1 p2 p3} (R : RC K b g Hz H (p0 :: p1 :: p2 :: p3 :: (v, d) :: L)) : Dp K H v d := R.dp (v, d) (.tail _ (.tail _ (.tail _ (.tail _ (.head _)))))
theorem RC.at5 {v : V} {d : PyData} {p0 p1 p2 p3 p4} (R : RC K b g Hz H (p0 :: p1 :: p2 :: p3 :: p4 :: (v, d) :: L)) : Dp K H v d := R.dp (v, d) (.tail _ (.tail _ (.tail _ (.tail _ (.tail _ (.head _))))))
end
end BV
namespace BV
open PySem L2
theorem RC.sub {K : PySem.W.Frag} {b g : Addr} {Hz H : Hp} {L L' : List (V × PyData)} (R : RC K b g Hz H L) (h : ∀ p ∈ L', p ∈ L) : RC K b g Hz H L' := ⟨R.kp, R.bx, fun p hp => R.st p (h p hp), fun p hp => R.dp p (h p hp)⟩
theorem RC.drop1 {K : PySem.W.Frag} {b g : Addr} {Hz H : Hp} {L : List (V × PyData)} {p0 p1} (R : RC K b g Hz H (p0 :: p1 :: L)) : RC K b g Hz H (p0 :: L) := R.sub fun p hp => by
  rcases List.mem_cons.mp hp with e | e
  · exact e ▸ .head _
  · exact .tail _ (.tail _ e)
end BV

namespace BV
open PySem L2
abbrev sHb : Stmt := top 13
abbrev nHb : List Str := ["numbers", "number"]
theorem scHb : FnScope nHb ["numbers"] (defScope sHb) := ⟨rfl, rfl, rfl, by decide +kernel, rfl, by decide +kernel, by decide +kernel⟩
abbrev sNb : Stmt := top 14
abbrev nNb : List Str := ["web", "standing", "deeds", "numbers", "deed"]
abbrev pNb : List Str := ["web", "standing", "deeds"]
theorem scNb : FnScope nNb pNb (defScope sNb) := ⟨rfl, rfl, rfl, by decide +kernel, rfl, by decide +kernel, by decide +kernel⟩
abbrev sLifted : Stmt := top 15
abbrev nLifted : List Str := ["web", "standing", "deeds", "adding", "taking", "deed"]
theorem scLifted : FnScope nLifted pNb (defScope sLifted) := ⟨rfl, rfl, rfl, by decide +kernel, rfl, by decide +kernel, by decide +kernel⟩
def negB (L : Nat) (f : Nat → Int) : Bool := ((List.range L).map fun k => decide (f k < 0)).any id
theorem negB_false {L : Nat} {f : Nat → Int} : negB L f = false ↔ ∀ k, k < L → 0 ≤ f k := by
  unfold negB
  rw [List.any_eq_false]
  constructor
  · intro h k hk
    have := h (decide (f k < 0)) (List.mem_map.mpr ⟨k, List.mem_range.mpr hk, rfl⟩)
    simpa using this
  · intro h x hx
    obtain ⟨k, hk, rfl⟩ := List.mem_map.mp hx
    have := h k (List.mem_range.mp hk)
    simp only [id, decide_eq_true_eq]
    omega
def nbR (R L : Nat) (g : Nat → Nat → Int) : Bool := (List.range R).all fun i => !negB L (g i)
theorem nbR_true {R L : Nat} {g : Nat → Nat → Int} : nbR R L g = true ↔ ∀ i, i < R → ∀ k, k < L → 0 ≤ g i k := by
  unfold nbR
  rw [List.all_eq_true]
  constructor
  · intro h i hi
    have := h i (List.mem_range.mpr hi)
    exact negB_false.mp (by simpa using this)
  · intro h i hi
    have := negB_false.mpr (h i (List.mem_range.mp hi))
    simp [this]
def nbB (ts : List Tie) (f : Nat → Int) (ds : List Deed) : Bool := nbR (ds.length + 1) ts.length fun i => behind ts f (ds.take i)
def spHb (K : PySem.W.Frag) : Sp := fun vs H Q _ => ∃ (l : Addr) (L : Nat) (f : Nat → Int), vs = [.ref l] ∧ H l = some (.lst (numsV L f)) ∧ L ≤ 3000 ∧ ∀ H', Same H H' → Q (.bl (negB L f)) H'
def spNb (K : PySem.W.Frag) : Sp := fun vs H Q _ => ∃ (v sv dv : V) (n : Nat) (ts : List Tie) (f : Nat → Int) (ds : List Deed), vs = [v, sv, dv] ∧
  Dp K H v (webD n ts) ∧ Dp K H sv (numsD ts.length f) ∧ Dp K H dv (.tuple (ds.map Deed.D)) ∧ (∀ d ∈ ds, d.Ok ts) ∧ ts.length ≤ 3000 ∧
  ∀ H', Same H H' → Q (.bl (nbB ts f ds)) H'
def posD (ds : List Deed) : List Deed := ds.filter fun d => decide (0 < d.times)
def negD (ds : List Deed) : List Deed := ds.filter fun d => decide (d.times < 0)
def liftL (ds : List Deed) : List Deed := posD ds ++ negD ds
def badB (ts : List Tie) (f : Nat → Int) (ds : List Deed) : Bool := negB ts.length f || negB ts.length (behind ts f ds)
theorem eff_cons (ts : List Tie) (d : Deed) (ds : List Deed) (k : Nat) : effect ts (d :: ds) k = d.part ts k + effect ts ds k := by
  simp only [effect, List.map_cons, List.sum_cons]
theorem part_pos {ts : List Tie} {d : Deed} (h : 0 < d.times) (k : Nat) : 0 ≤ d.part ts k := by
  unfold Deed.part
  split <;> omega
theorem part_neg0 {ts : List Tie} {d : Deed} (h : d.times < 0) (k : Nat) : d.part ts k ≤ 0 := by
  unfold Deed.part
  split <;> omega
theorem eff_pos {ts : List Tie} (k : Nat) : ∀ {ds : List Deed}, (∀ d ∈ ds, 0 < d.times) → 0 ≤ effect ts ds k
  | [], _ => by simp [effect]
  | d :: ds, h => by
    rw [eff_cons]
    have h1 := part_pos (ts := ts) (h d (List.mem_cons_self ..)) k
    have h2 := eff_pos (ts := ts) k fun x hx => h x (List.mem_cons_of_mem d hx)
    omega
theorem eff_neg {ts : List Tie} (k : Nat) : ∀ {ds : List Deed}, (∀ d ∈ ds, d.times < 0) → effect ts ds k ≤ 0
  | [], _ => by simp [effect]
  | d :: ds, h => by
    rw [eff_cons]
    have h1 := part_neg0 (ts := ts) (h d (List.mem_cons_self ..)) k
    have h2 := eff_neg (ts := ts) k fun x hx => h x (List.mem_cons_of_mem d hx)
    omega
theorem eff_lift (ts : List Tie) (k : Nat) : ∀ ds : List Deed, effect ts (liftL ds) k = effect ts ds k
  | [] => rfl
  | d :: ds => by
    have ih := eff_lift ts k ds
    unfold liftL at ih ⊢
    rw [effect_app] at ih ⊢
    rw [eff_cons]
    unfold posD negD at ih ⊢
    rw [List.filter_cons, List.filter_cons]
    by_cases h1 : 0 < d.times
    · rw [if_pos (decide_eq_true h1), if_neg (by simp; omega), eff_cons]
      omega
    · by_cases h2 : d.times < 0
      · rw [if_neg (by simpa using h1), if_pos (decide_eq_true h2), eff_cons]
        omega
      · rw [if_neg (by simpa using h1), if_neg (by simpa using h2)]
        have : d.part ts k = 0 := by
          unfold Deed.part
          split <;> omega
        omega
theorem pos_mem {ds : List Deed} : ∀ d ∈ posD ds, 0 < d.times := fun d hd => of_decide_eq_true (List.mem_filter.mp hd).2
theorem neg_mem {ds : List Deed} : ∀ d ∈ negD ds, d.times < 0 := fun d hd => of_decide_eq_true (List.mem_filter.mp hd).2
theorem lift_mem {ds : List Deed} {d : Deed} (h : d ∈ liftL ds) : d ∈ ds := (List.mem_append.mp h).elim (fun z => (List.mem_filter.mp z).1) (fun z => (List.mem_filter.mp z).1)
theorem lift_len (ds : List Deed) : (liftL ds).length ≤ 2 * ds.length := by
  unfold liftL posD negD
  rw [List.length_append]
  have h1 := List.length_filter_le (fun d : Deed => decide (0 < d.times)) ds
  have h2 := List.length_filter_le (fun d : Deed => decide (d.times < 0)) ds
  omega
theorem pos_of_pos {ds : List Deed} (h : ∀ d ∈ ds, 0 < d.times) : posD ds = ds ∧ negD ds = [] :=
  ⟨List.filter_eq_self.mpr fun d hd => decide_eq_true (h d hd), List.filter_eq_nil_iff.mpr fun d hd => by have := h d hd; simp; omega⟩
theorem neg_of_neg {ds : List Deed} (h : ∀ d ∈ ds, d.times < 0) : posD ds = [] ∧ negD ds = ds :=
  ⟨List.filter_eq_nil_iff.mpr fun d hd => by have := h d hd; simp; omega, List.filter_eq_self.mpr fun d hd => decide_eq_true (h d hd)⟩
theorem lift_lift (ds : List Deed) : liftL (liftL ds) = liftL ds := by
  have e1 := pos_of_pos (ds := posD ds) pos_mem
  have e2 := neg_of_neg (ds := negD ds) neg_mem
  unfold liftL
  have a1 : posD (posD ds ++ negD ds) = posD (posD ds) ++ posD (negD ds) := by simp only [posD, List.filter_append]
  have a2 : negD (posD ds ++ negD ds) = negD (posD ds) ++ negD (negD ds) := by simp only [negD, List.filter_append]
  rw [a1, a2, e1.1, e1.2, e2.1, e2.2]
  simp
theorem behind_lift (ts : List Tie) (f : Nat → Int) (ds : List Deed) : behind ts f (liftL ds) = behind ts f ds := funext fun k => by
  rw [behind_eq, behind_eq, eff_lift]
theorem bad_lift (ts : List Tie) (f : Nat → Int) (ds : List Deed) : badB ts f (liftL ds) = badB ts f ds := by
  unfold badB
  rw [behind_lift]
theorem lift_never {ts : List Tie} {f : Nat → Int} {ds : List Deed} (h : badB ts f ds = false) : nbB ts f (liftL ds) = true := by
  unfold badB at h
  rw [Bool.or_eq_false_iff] at h
  refine nbR_true.mpr fun i _ k hk => ?_
  have h1 := negB_false.mp h.1 k hk
  have h2 := negB_false.mp h.2 k hk
  rw [behind_eq] at h2 ⊢
  rw [← eff_lift] at h2
  unfold liftL at h2 ⊢
  rw [effect_app] at h2
  rw [List.take_append, effect_app]
  have p1 : 0 ≤ effect ts ((posD ds).take i) k := eff_pos k fun d hd => pos_mem d (List.mem_of_mem_take hd)
  have e1 : effect ts (posD ds) k = effect ts ((posD ds).take i) k + effect ts ((posD ds).drop i) k := by rw [← effect_app, List.take_append_drop]
  have e2 : effect ts (negD ds) k = effect ts ((negD ds).take (i - (posD ds).length)) k + effect ts ((negD ds).drop (i - (posD ds).length)) k := by rw [← effect_app, List.take_append_drop]
  have p2 : effect ts ((negD ds).drop (i - (posD ds).length)) k ≤ 0 := eff_neg k fun d hd => neg_mem d (List.mem_of_mem_drop hd)
  by_cases hi : i ≤ (posD ds).length
  · have : i - (posD ds).length = 0 := by omega
    rw [this, List.take_zero]
    have z : effect ts [] k = 0 := rfl
    omega
  · have z : (posD ds).drop i = [] := List.drop_eq_nil_of_le (by omega)
    have z2 : effect ts [] k = 0 := rfl
    rw [z] at e1
    omega
def spHbT (K : PySem.W.Frag) : Sp := fun vs H Q _ => ∃ (v : V) (L : Nat) (f : Nat → Int), vs = [v] ∧ Dp K H v (numsD L f) ∧ L ≤ 3000 ∧ ∀ H', Same H H' → Q (.bl (negB L f)) H'
def spLifted (K : PySem.W.Frag) (U : Addr) : Sp := fun vs H Q E => ∃ (v sv dv : V) (n : Nat) (ts : List Tie) (f : Nat → Int) (ds : List Deed), vs = [v, sv, dv] ∧
  Dp K H v (webD n ts) ∧ Dp K H sv (numsD ts.length f) ∧ Dp K H dv (deedsD ds) ∧ (∀ d ∈ ds, d.Ok ts) ∧ ts.length ≤ 3000 ∧ ds.length ≤ 3000 ∧
  (badB ts f ds = true → ∀ H', Same H H' → E (.ref U) none H') ∧ (badB ts f ds = false → ∀ (u : V) H', Same H H' → Dp K H' u (deedsD (liftL ds)) → Q u H')
section
variable {P : Program} {w : World} {K : PySem.W.Frag} {mg : Str → Option Value} {base : Heap}
theorem ok_hb {f : Addr} {fd : FuncData} (D : Df K mg "_has_below" sHb ["numbers"] f fd) (T : Bl mg) (hany : mg "any" = none) : FnOk P w K mg base CX0 1 f fd ["numbers"] (spHb K) := by
  refine D.fn.ok scHb (fun vs H Q E h => ?_) (fun cdv A outer s H vs Q E hr h => ?_)
  · obtain ⟨l, L, f, rfl, _⟩ := h
    rfl
  · obtain ⟨l, L, f, rfl, hl, hL, k⟩ := h
    have nd := scHb.nd
    refine ⟨_, (pss_one (ps_ret (pe_callB (anyLK K) (by rfl) hany (by decide +kernel) (pa_cons (pe_lc (own := [("number", 1)]) (g := (gName 1)) (tt := tYes) rfl nd (piL K (pv 0)) (blkOk_by (own := [("number", 1)]) (N := nHb) (sc := defScope sHb) (by decide +kernel)) (fun _ _ _ _ _ => (pg_name (i := 1) nd rfl (by first | exact Or.inl rfl | exact Or.inr rfl))) (fun _ _ _ _ _ => pts_nil) (fun _ _ _ _ _ => (pe_cmpR op_lt (pv 1) pe_int (nomark _)))) pa_nil)))), ?_⟩
    refine ⟨_, rfl, l, rfl, ⟨_, SqL.of hl⟩, fun E1 hE1 => ?_⟩
    refine lc_run (walk_list (xs := numsV L f)) hE1 (fun i acc _ => acc = (List.range i).map fun k => V.bl (decide (f k < 0))) ?_ ?_ ?_ ?_
    · exact fun H' s => SqL.of (s _ _ hl)
    · rfl
    · rintro i x acc H2 H' hi hacc e s r ⟨rfl, hx⟩
      rw [numsV_len] at hi
      rw [numsV_get hi] at hx
      cases hx
      refine ⟨rfl, yes_go ?_⟩
      refine ⟨_, rfl, _, _, rfl, rfl, ?_⟩
      have r' : acc = (List.range i).map fun k => V.bl (decide (f k < 0)) := r
      refine lc_add hacc e (Same.refl _) (by rw [r', List.length_map, List.length_range]; omega) ?_
      rw [List.range_succ, List.map_append, r']
      rfl
    · rintro acc H2 h1 s2 r
      have r' : acc = (List.range (numsV L f).length).map fun k => V.bl (decide (f k < 0)) := r
      rw [numsV_len] at r'
      refine ⟨E1, (List.range L).map fun k => decide (f k < 0), rfl, SqL.of ?_, k _ s2⟩
      rw [h1, r', List.map_map]
      rfl
theorem ok_nb {f f1 f2 f3 : Addr} {fd fd1 fd2 fd3 : FuncData} (D : Df K mg "never_below" sNb pNb f fd) (T : Bl mg) (hlist : mg "list" = none) (hany : mg "any" = none)
    (D_ties : Df K mg "ties_at" sTies ["web", "place"] f1 fd1) (D_do : Df K mg "_do" sDo ["web", "numbers", "deed"] f2 fd2) (D_hb : Df K mg "_has_below" sHb ["numbers"] f3 fd3) :
    FnOk P w K mg base CX0 3 f fd pNb (spNb K) := by
  have G_do : FnOk P w K mg base CX0 2 f2 fd2 ["web", "numbers", "deed"] (spDo K) := ok_do D_do T D_ties
  have G_hb : FnOk P w K mg base CX0 1 f3 fd3 ["numbers"] (spHb K) := ok_hb D_hb T hany
  refine D.fn.ok scNb (fun vs H Q E h => ?_) (fun cdv A outer s H vs Q E hr h => ?_)
  · obtain ⟨v, sv, dv, n, ts, g, ds, rfl, _⟩ := h
    rfl
  · obtain ⟨v, sv, dv, n, ts, g, ds, rfl, hw, hs, hd, hok, hl, k⟩ := h
    have hr_do : Room 2 _ := hr
    have hr_hb : Room 1 _ := hr.mono (by decide)
    have nd := scNb.nd
    obtain ⟨as, rfl, has⟩ := dp_nums hs
    obtain ⟨ad, xs, rfl, had, hxs⟩ := dp_tup hd
    have hxl : xs.length = ds.length := by rw [dpAll_len hxs, List.length_map]
    have fails : ∀ i, i ≤ ds.length → negB ts.length (behind ts g (ds.take i)) = true → nbB ts g ds = false := fun i hi h => by
      refine Bool.eq_false_iff.mpr fun z => ?_
      have := nbR_true.mp z i (by omega)
      rw [negB_false.mpr this] at h
      cases h
    refine ⟨_, (pss_cons (ps_set (i := 3) nd rfl (by first | exact Or.inl rfl | exact Or.inr rfl) (pe_callTy (listK K) (by rfl) hlist (by decide +kernel) (pa_cons (pv 1) pa_nil)))
      (pss_cons (ps_if (pt_val (pe_call G_hb hr_hb (by rfl) D_hb.ad D_hb.fn.kp D_hb.bd .nil pass0 (pa_cons (pv 3) pa_nil))) (pss_one (ps_ret pe_bl)) pss_nil)
      (pss_cons (ps_for PassesOwn.never rfl (piT K (pv 2)) (pg_name (i := 4) nd rfl (by first | exact Or.inl rfl | exact Or.inr rfl)) (pss_cons (ps_expr (pe_call G_do hr_do (by rfl) D_do.ad D_do.fn.kp D_do.bd .nil pass0 (pa_cons (pv 0) (pa_cons (pv 3) (pa_cons (pv 4) pa_nil)))))
      (pss_one (ps_if (pt_val (pe_call G_hb hr_hb (by rfl) D_hb.ad D_hb.fn.kp D_hb.bd .nil pass0 (pa_cons (pv 3) pa_nil))) (pss_one (ps_ret pe_bl)) pss_nil))))
      (pss_one (ps_ret pe_bl))))), ?_⟩
    refine ⟨_, rfl, as, _, rfl, .inr has, fun l hln => ?_⟩
    have s0 : Same H (upd H l (.lst (numsV ts.length g))) := same_new hln
    dsimp only [gName]
    refine tSeq_go ?_
    refine ⟨_, rfl, l, ts.length, g, rfl, upd_same, hl, fun H1 s1 => ⟨_, rfl, ?_⟩⟩
    refine ite2 (fun hh => ?_) (fun hh => ?_)
    · have := fails 0 (by omega) hh
      have k' := k _ (s0.trans s1)
      rw [this] at k'
      exact k'
    dsimp only [tNext]
    refine tSeq_go ?_
    have h1 := s1 _ _ (upd_same (H := H) (a := l) (o := .lst (numsV ts.length g)))
    have s01 := s0.trans s1
    refine ⟨_, rfl, ad, rfl, ⟨_, sqT_same s01 had⟩, for_it (walk_tup (xs := xs)) (fun j σ H' => ∃ v4 : Option V,
      σ = [some v, some (.ref as), some (.ref ad), some (.ref l), v4] ∧ Same H H' ∧ H' l = some (.lst (numsV ts.length (behind ts g (ds.take j)))) ∧
      ∀ i, i ≤ j → negB ts.length (behind ts g (ds.take i)) = false) ?_ ?_ ?_ ?_⟩
    · refine ⟨none, rfl, s01, h1, fun i hi => ?_⟩
      obtain rfl : i = 0 := by omega
      exact Bool.eq_false_iff.mpr hh
    · rintro j σ H' _ ⟨v4, rfl, h1, h2, _⟩
      exact sqT_same h1 had
    · rintro j x σ H' H'' hj ⟨v4, rfl, h1, h2, h3⟩ ⟨rfl, hx⟩
      obtain ⟨dd, hdd, hdp⟩ := dpAll_get hxs hx
      obtain ⟨d, hdj, rfl⟩ := get_map hdd
      dsimp only [gName]
      refine tSeq_go ?_
      refine ⟨_, rfl, _, rfl, _, rfl, ?_⟩
      refine ⟨v, x, l, n, ts, d, _, rfl, dp_same h1 _ hw, dp_same h1 _ hdp, hok d (List.mem_of_getElem? hdj), hl, h2, fun H3 k3 h4 => ?_⟩
      have s3 : Same H H3 := fun z o hz => by
        have nz := ne_of_none hz hln
        exact k3 _ _ (h1 _ _ hz) nz nz
      have h5 : H3 l = some (.lst (numsV ts.length (behind ts g (ds.take (j + 1))))) := by
        rw [h4]
        congr 2
        refine numsV_congr fun kk _ => ?_
        have htk : ds.take (j + 1) = ds.take j ++ [d] := by
          rw [List.take_add_one, hdj]
          rfl
        rw [htk, behind_eq, behind_eq, effect_app]
        simp only [effect, List.map_cons, List.map_nil, List.sum_cons, List.sum_nil]
        omega
      refine ⟨_, rfl, l, ts.length, _, rfl, h5, hl, fun H4 s4 => ⟨_, rfl, ?_⟩⟩
      refine ite2 (fun hh2 => ?_) (fun hh2 => ?_)
      · have := fails (j + 1) (by omega) hh2
        have k' := k _ (s3.trans s4)
        rw [this] at k'
        exact k'
      · refine ⟨_, rfl, s3.trans s4, s4 _ _ h5, fun i hi => ?_⟩
        by_cases e : i = j + 1
        · subst e
          exact Bool.eq_false_iff.mpr hh2
        · exact h3 i (by omega)
    · rintro σ H' ⟨v4, rfl, h1, h2, h3⟩
      have e : nbB ts g ds = true := nbR_true.mpr fun i hi => negB_false.mp (h3 i (by omega))
      have k' := k _ h1
      rw [e] at k'
      exact k'
theorem ok_hbT {f : Addr} {fd : FuncData} (D : Df K mg "_has_below" sHb ["numbers"] f fd) (T : Bl mg) (hany : mg "any" = none) : FnOk P w K mg base CX0 1 f fd ["numbers"] (spHbT K) := by
  refine D.fn.ok scHb (fun vs H Q E h => ?_) (fun cdv A outer s H vs Q E hr h => ?_)
  · obtain ⟨v, L, f, rfl, _⟩ := h
    rfl
  · obtain ⟨v, L, f, rfl, hv, hL, k⟩ := h
    have nd := scHb.nd
    obtain ⟨a, rfl, ha⟩ := dp_nums hv
    refine ⟨_, (pss_one (ps_ret (pe_callB (anyLK K) (by rfl) hany (by decide +kernel) (pa_cons (pe_lc (own := [("number", 1)]) (g := (gName 1)) (tt := tYes) rfl nd (piT K (pv 0)) (blkOk_by (own := [("number", 1)]) (N := nHb) (sc := defScope sHb) (by decide +kernel)) (fun _ _ _ _ _ => (pg_name (i := 1) nd rfl (by first | exact Or.inl rfl | exact Or.inr rfl))) (fun _ _ _ _ _ => pts_nil) (fun _ _ _ _ _ => (pe_cmpR op_lt (pv 1) pe_int (nomark _)))) pa_nil)))), ?_⟩
    refine ⟨_, rfl, a, rfl, ⟨_, ha⟩, fun E1 hE1 => ?_⟩
    refine lc_run (walk_tup (xs := numsV L f)) hE1 (fun i acc _ => acc = (List.range i).map fun k => V.bl (decide (f k < 0))) ?_ ?_ ?_ ?_
    · exact fun H' s => sqT_same s ha
    · rfl
    · rintro i x acc H2 H' hi hacc e s r ⟨rfl, hx⟩
      rw [numsV_len] at hi
      rw [numsV_get hi] at hx
      cases hx
      refine ⟨rfl, yes_go ?_⟩
      refine ⟨_, rfl, _, _, rfl, rfl, ?_⟩
      have r' : acc = (List.range i).map fun k => V.bl (decide (f k < 0)) := r
      refine lc_add hacc e (Same.refl _) (by rw [r', List.length_map, List.length_range]; omega) ?_
      rw [List.range_succ, List.map_append, r']
      rfl
    · rintro acc H2 h1 s2 r
      have r' : acc = (List.range (numsV L f).length).map fun k => V.bl (decide (f k < 0)) := r
      rw [numsV_len] at r'
      refine ⟨E1, (List.range L).map fun k => decide (f k < 0), rfl, SqL.of ?_, k _ s2⟩
      rw [h1, r', List.map_map]
      rfl
theorem ok_lifted {f f1 f2 f3 f4 U B : Addr} {fd fd1 fd2 fd3 fd4 : FuncData} (D : Df K mg "lifted" sLifted pNb f fd) (T : Bl mg) (hlist : mg "list" = none) (hany : mg "any" = none) (EU : ErrU K mg U B)
    (D_ties : Df K mg "ties_at" sTies ["web", "place"] f1 fd1) (D_do : Df K mg "_do" sDo ["web", "numbers", "deed"] f2 fd2) (D_hb : Df K mg "_has_below" sHb ["numbers"] f3 fd3)
    (D_done : Df K mg "done" sDone ["web", "standing", "deeds"] f4 fd4) : FnOk P w K mg base (L2.CX P w) 4 f fd pNb (spLifted K U) := by
  have G_hb : FnOk P w K mg base CX0 1 f3 fd3 ["numbers"] (spHbT K) := ok_hbT D_hb T hany
  have G_done : FnOk P w K mg base CX0 3 f4 fd4 ["web", "standing", "deeds"] (spDone K) := ok_done D_done T hlist D_ties D_do
  refine D.fn.okX scLifted (fun vs H Q E h => ?_) (fun cdv A outer s H vs Q E hr h => ?_)
  · obtain ⟨v, sv, dv, n, ts, f, ds, rfl, _⟩ := h
    rfl
  · obtain ⟨v, sv, dv, n, ts, f, ds, rfl, hw, hs, hd, hok, hl, hdl, kx, k⟩ := h
    have hr_done : Room 3 _ := hr
    have hr_hb : Room 1 _ := hr.mono (by decide)
    have nd := scLifted.nd
    refine ⟨_, (pss_cons (ps_if (PW.pt (pw_or (pt_val (pe_call G_hb hr_hb (by rfl) D_hb.ad D_hb.fn.kp D_hb.bd .nil pass0 (pa_cons (pv 1) pa_nil))) (pw_or1 (pt_val (pe_call G_hb hr_hb (by rfl) D_hb.ad D_hb.fn.kp D_hb.bd .nil pass0 (pa_cons (pe_call G_done hr_done (by rfl) D_done.ad D_done.fn.kp D_done.bd .nil pass0 (pa_cons (pv 0) (pa_cons (pv 1) (pa_cons (pv 2) pa_nil)))) pa_nil)))))) (pss_one (ps_unfit rfl EU (takes_of rfl rfl rfl rfl))) pss_nil)
      (pss_cons (ps_setLc (i := 3) (own := [("deed", 5)]) (g := (gName 5)) rfl nd rfl rfl (sw_true rfl rfl rfl (by decide +kernel)) (piT K (pv 2)) (blkOk_by (own := [("deed", 5)]) (N := nLifted) (sc := defScope sLifted) (by decide +kernel)) (fun _ _ _ _ _ => (pg_name (i := 5) nd rfl (by first | exact Or.inl rfl | exact Or.inr rfl))) (fun _ _ _ _ _ => (pts_one (pt_cmpR op_gt (pe_ix (ixT K) (pv 5) pe_int (fun _ _ => rfl)) pe_int (nomark _)))) (fun _ _ _ _ _ => (pv 5)))
      (pss_cons (ps_setLc (i := 4) (own := [("deed", 5)]) (g := (gName 5)) rfl nd rfl rfl (sw_true rfl rfl rfl (by decide +kernel)) (piT K (pv 2)) (blkOk_by (own := [("deed", 5)]) (N := nLifted) (sc := defScope sLifted) (by decide +kernel)) (fun _ _ _ _ _ => (pg_name (i := 5) nd rfl (by first | exact Or.inl rfl | exact Or.inr rfl))) (fun _ _ _ _ _ => (pts_one (pt_cmpR op_lt (pe_ix (ixT K) (pv 5) pe_int (fun _ _ => rfl)) pe_int (nomark _)))) (fun _ _ _ _ _ => (pv 5)))
      (pss_one (ps_ret (pe_callTy (tupleK K) (by rfl) T.tuple (by decide +kernel) (pa_cons (pe_op op_cat (pv 3) (pv 4)) pa_nil))))))), ?_⟩
    obtain ⟨ad, xs, rfl, had, hxs⟩ := dp_tup hd
    have hxl : xs.length = ds.length := by rw [dpAll_len hxs, List.length_map]
    refine tSeq_go ?_
    refine tIfS_t (fun t H' => Same H H' ∧ t = badB ts f ds) ?_ ?_ (fun cont => ?_)
    · rintro H1 ⟨s1, e⟩
      exact kx e.symm H1 s1
    · rintro H1 ⟨s1, e⟩
      have hb : badB ts f ds = false := e.symm
      dsimp only [tNext]
      refine tSeq_go ?_
      refine tAsg_by (fun u H' => ∃ (l : Addr) (ys : List V), u = .ref l ∧ Same H1 H' ∧ H' l = some (.lst ys) ∧ DpAll K H' ys ((posD ds).map Deed.D)) ?_ (fun cont1 => ?_)
      rotate_left
      · refine ⟨_, rfl, ad, rfl, ⟨_, sqT_same s1 had⟩, fun E1 hE1 => ?_⟩
        refine lc_run (walk_tup (xs := xs)) hE1 (fun i acc Hq => DpAll K Hq acc ((posD (ds.take i)).map Deed.D)) ?_ ?_ ?_ ?_
        · exact fun H' s => sqT_same (s1.trans s) had
        · exact .nil
        · rintro i x acc H2 H' hi hacc e s r ⟨rfl, hx⟩
          obtain ⟨dd, hdd, hdp⟩ := dpAll_get hxs hx
          obtain ⟨d, hdj, rfl⟩ := get_map hdd
          obtain ⟨ax, va, rfl, hax, _⟩ := dp_deed hdp
          have htk : ds.take (i + 1) = ds.take i ++ [d] := by
            rw [List.take_add_one, hdj]
            rfl
          have hal : acc.length ≤ 3000 := by
            rw [dpAll_len r, List.length_map]
            exact Nat.le_trans (List.length_filter_le _ _) (by rw [List.length_take]; omega)
          have hax2 := sqT_same (s1.trans s) hax
          refine ⟨rfl, ?_⟩
          refine ⟨_, rfl, ax, _, _, _, rfl, rfl, hax2, atI_nat (j := 2) rfl, _, _, rfl, rfl, _, rfl, ?_⟩
          refine ite2 (fun hh => ?_) (fun hh => ?_)
          · refine ⟨_, rfl, ?_⟩
            refine lc_add hacc e (Same.refl _) (by omega) ?_
            have e1 : posD (ds.take (i + 1)) = posD (ds.take i) ++ [d] := by
              unfold posD
              rw [htk, List.filter_append, List.filter_cons, if_pos hh]
              rfl
            rw [e1, List.map_append]
            exact dpAll_app r (.cons (dp_same (s1.trans e) _ hdp) .nil)
          · refine lc_skip hacc e (Same.refl _) ?_
            have e1 : posD (ds.take (i + 1)) = posD (ds.take i) := by
              unfold posD
              rw [htk, List.filter_append, List.filter_cons, if_neg hh]
              simp
            rw [e1]
            exact r
        · rintro acc H2 h1 s2 r
          rw [hxl, List.take_of_length_le (Nat.le_refl _)] at r
          exact cont1 _ _ ⟨E1, acc, rfl, s2, h1, dpAll_same era_back _ r⟩
      rintro u1 H2 ⟨l1, ys1, rfl, s2, hl1, hy1⟩
      dsimp only [gName]
      refine at_st [some v, some sv, some (.ref ad), some (.ref l1), none, none] rfl ?_
      refine tSeq_go ?_
      refine tAsg_by (fun u H' => ∃ (l : Addr) (ys : List V), u = .ref l ∧ Same H2 H' ∧ H' l = some (.lst ys) ∧ DpAll K H' ys ((negD ds).map Deed.D)) ?_ (fun cont2 => ?_)
      rotate_left
      · refine ⟨_, rfl, ad, rfl, ⟨_, sqT_same (s1.trans s2) had⟩, fun E1 hE1 => ?_⟩
        refine lc_run (walk_tup (xs := xs)) hE1 (fun i acc Hq => DpAll K Hq acc ((negD (ds.take i)).map Deed.D)) ?_ ?_ ?_ ?_
        · exact fun H' s => sqT_same ((s1.trans s2).trans s) had
        · exact .nil
        · rintro i x acc H2 H' hi hacc e s r ⟨rfl, hx⟩
          obtain ⟨dd, hdd, hdp⟩ := dpAll_get hxs hx
          obtain ⟨d, hdj, rfl⟩ := get_map hdd
          obtain ⟨ax, va, rfl, hax, _⟩ := dp_deed hdp
          have htk : ds.take (i + 1) = ds.take i ++ [d] := by
            rw [List.take_add_one, hdj]
            rfl
          have hal : acc.length ≤ 3000 := by
            rw [dpAll_len r, List.length_map]
            exact Nat.le_trans (List.length_filter_le _ _) (by rw [List.length_take]; omega)
          have hax2 := sqT_same ((s1.trans s2).trans s) hax
          refine ⟨rfl, ?_⟩
          refine ⟨_, rfl, ax, _, _, _, rfl, rfl, hax2, atI_nat (j := 2) rfl, _, _, rfl, rfl, _, rfl, ?_⟩
          refine ite2 (fun hh => ?_) (fun hh => ?_)
          · refine ⟨_, rfl, ?_⟩
            refine lc_add hacc e (Same.refl _) (by omega) ?_
            have e1 : negD (ds.take (i + 1)) = negD (ds.take i) ++ [d] := by
              unfold negD
              rw [htk, List.filter_append, List.filter_cons, if_pos hh]
              rfl
            rw [e1, List.map_append]
            exact dpAll_app r (.cons (dp_same ((s1.trans s2).trans e) _ hdp) .nil)
          · refine lc_skip hacc e (Same.refl _) ?_
            have e1 : negD (ds.take (i + 1)) = negD (ds.take i) := by
              unfold negD
              rw [htk, List.filter_append, List.filter_cons, if_neg hh]
              simp
            rw [e1]
            exact r
        · rintro acc H2 h1 s2 r
          rw [hxl, List.take_of_length_le (Nat.le_refl _)] at r
          exact cont2 _ _ ⟨E1, acc, rfl, s2, h1, dpAll_same era_back _ r⟩
      rintro u2 H3 ⟨l2, ys2, rfl, s3, hl2, hy2⟩
      dsimp only [gName]
      refine at_st [some v, some sv, some (.ref ad), some (.ref l1), some (.ref l2), none] rfl ?_
      have hlen : ys1.length + ys2.length ≤ 2 * ds.length := by
        have e1 := dpAll_len hy1
        have e2 := dpAll_len hy2
        have e3 := lift_len ds
        unfold liftL at e3
        rw [List.length_append] at e3
        rw [List.length_map] at e1 e2
        omega
      refine ⟨_, rfl, _, rfl, l1, l2, _, _, rfl, rfl, s3 _ _ hl1, hl2, Nat.le_trans (show _ ≤ 100000 by omega) (by decide), fun p hp => ?_⟩
      have s4 := same_new (o := .lst (ys1 ++ ys2)) hp
      refine ⟨p, _, rfl, .inl ⟨SqL.of upd_same, fun q hq => ?_⟩⟩
      have s5 := same_new (o := .tup (ys1 ++ ys2)) hq
      refine k hb _ _ (s1.trans (s2.trans (s3.trans (s4.trans s5)))) (.tup (SqT.of upd_same) ?_)
      unfold liftL
      rw [List.map_append]
      exact dpAll_app (dpAll_same (s3.trans (s4.trans s5)) _ hy1) (dpAll_same (s4.trans s5) _ hy2)
    · refine ⟨_, rfl, sv, ts.length, f, rfl, hs, hl, fun H1 s1 => ⟨_, rfl, ?_⟩⟩
      refine ite2 (fun hh => ?_) (fun hh => ?_)
      · refine cont _ _ ⟨s1, ?_⟩
        unfold badB
        rw [hh]
        rfl
      · refine ⟨_, rfl, _, rfl, _, rfl, v, sv, .ref ad, n, ts, f, ds, rfl, dp_same s1 _ hw, dp_same s1 _ hs, dp_same s1 _ hd, hok, hl, fun u H2 s2 hu => ?_⟩
        refine ⟨u, ts.length, _, rfl, hu, hl, fun H3 s3 => ⟨_, rfl, ?_⟩⟩
        refine cont _ _ ⟨s1.trans (s2.trans s3), ?_⟩
        unfold badB
        rw [Bool.eq_false_iff.mpr hh]
        rfl
end
end BV

namespace BV
open PySem L2
abbrev sRight : Stmt := top 30
abbrev nRight : List Str := ["_law_box_here", "_law_web_here", "_law_most", "_law_every", "_law_few", "_law_deeds_here", "_law_kept", "_law_due", "_law_told", "_law_nought", "_law_end", "_law_back", "_law_adds", "_law_rows", "_law_are_above", "_law_twice", "_law_word", "_law_about", "_law_times", "_law_deed", "_law_row"]
abbrev pRight : List Str := ["_law_box_here", "_law_web_here", "_law_most"]
theorem scRight : FnScope nRight pRight (defScope sRight) := ⟨rfl, rfl, rfl, by decide +kernel, rfl, by decide +kernel, by decide +kernel⟩
theorem fit_neg {n L B : Nat} {d : Deed} (h : Fit n L B d) : Fit n L B d.neg := by
  cases d with
  | star p t => exact ⟨by have := h.1; simp only [Deed.neg, Deed.times] at this ⊢; omega, h.2⟩
  | round ks t => exact ⟨by have := h.1; simp only [Deed.neg, Deed.times] at this ⊢; omega, h.2⟩

theorem in_neg {n : Nat} {ev : List (List Nat)} {d : Deed} (h : d.In n ev) : d.neg.In n ev := by
  cases d <;> exact h
/-- what may be written -/
def Fine (d : Deed) : Prop := d.times.natAbs < 2 ^ 200 ∧ match d with
  | .star p _ => p < 100000
  | .round ks _ => (∀ k ∈ ks, k < 100000) ∧ ks.length ≤ 12
theorem sm_fine {ds : List Deed} (h : ∀ d ∈ ds, Fine d) (hl : ds.length ≤ 50) : Sm (deedsD ds) 2001 3 :=
  (sm_deeds (m := 13) (fun d hd => ⟨(h d hd).1, by
    have h2 := (h d hd).2
    cases d with
    | star p t => exact (sm_nat h2).mono (by omega) (by omega)
    | round ks t => exact (sm_lot h2.1).mono (by have := h2.2; omega) (Nat.le_refl _)⟩) (by decide)).mono (by omega) (Nat.le_refl _)
theorem fine_tog {n L : Nat} {zs : List Nat} {ds : List Deed} (hn : n ≤ 1000) (hL : L ≤ 60) (hlo : ∀ ks ∈ zs.map (lotN L), LotOk L ks) {B : Nat} (hB : ∀ d ∈ ds, d.times.natAbs ≤ B) (hBl : ds.length * B < 2 ^ 190) :
    ∀ d ∈ tog n (zs.map (lotN L)) ds, Fine d := fun d hd => by
  refine ⟨Nat.lt_of_le_of_lt (tog_abs hB hd) (Nat.lt_trans hBl (by decide)), ?_⟩
  have hi := tog_in hd
  cases d with
  | star p t => exact Nat.lt_of_lt_of_le hi (by omega)
  | round ks t =>
    have := hlo ks hi
    exact ⟨fun k hk => by have := this.1 k hk; omega, this.2.2⟩
theorem fine_dbl {d : Deed} (h : d.times.natAbs < 2 ^ 190) (hf : Fine d) : Fine d.dbl := by
  cases d with
  | star p t => exact ⟨by have h' : t.natAbs < 2 ^ 190 := h; show (2 * t).natAbs < 2 ^ 200; omega, hf.2⟩
  | round ks t => exact ⟨by have h' : t.natAbs < 2 ^ 190 := h; show (2 * t).natAbs < 2 ^ 200; omega, hf.2⟩
theorem fine_neg {d : Deed} (hf : Fine d) : Fine d.neg := by
  cases d with
  | star p t => exact ⟨by have := hf.1; simp only [Deed.neg, Deed.times] at this ⊢; omega, hf.2⟩
  | round ks t => exact ⟨by have := hf.1; simp only [Deed.neg, Deed.times] at this ⊢; omega, hf.2⟩
theorem nought_row (L : Nat) : List.replicate L (V.int 0) = numsV L fun _ => 0 := by
  unfold numsV
  rw [List.map_const', List.length_range]
theorem still_numsD (L : Nat) (f : Nat → Int) : still (numsD L f) = true := still_nums L f
theorem sm_bool (b : Bool) : Sm (.bool b) 1 0 := ⟨by simp only [tiny], by simp only [nodes]; exact Nat.le_refl _, by simp only [PyData.depth]; exact Nat.le_refl _⟩
def spRight (K : PySem.W.Frag) : Sp := fun vs H Q _ => ∃ (b g : Addr) (v : V) (n : Nat) (ts : List Tie) (most : Int), vs = [.ref b, v, .int most] ∧ Box H b g ∧ Dp K H v (webD n ts) ∧
  (∀ t ∈ ts, t.1 < t.2 ∧ t.2 < n) ∧ 1 ≤ n ∧ n ≤ 1000 ∧ ts.length ≤ 12 ∧ most.natAbs ≤ 2 ^ 120 ∧ ∀ H', Kp b g H H' → Box H' b g → Q (.bl true) H'
theorem negB_min {L : Nat} {f : Nat → Int} {m : Int} (h1 : m ∈ (List.range L).map f) (h2 : ∀ y ∈ (List.range L).map f, m ≤ y) : decide (m < 0) = negB L f := by
  by_cases h : m < 0
  · rw [decide_eq_true h]
    refine (Bool.eq_false_or_eq_true (negB L f)).elim Eq.symm fun z => ?_
    obtain ⟨k, hk, rfl⟩ := List.mem_map.mp h1
    have := negB_false.mp z k (List.mem_range.mp hk)
    omega
  · rw [decide_eq_false h]
    refine (negB_false.mpr fun k hk => ?_).symm
    have := h2 (f k) (List.mem_map.mpr ⟨k, List.mem_range.mpr hk, rfl⟩)
    omega
theorem nums_ints (L : Nat) (f : Nat → Int) : numsV L f = ((List.range L).map f).map V.int := by
  unfold numsV
  rw [List.map_map]
  rfl
theorem nums_ne (L : Nat) (f : Nat → Int) : PyData.eqv (numsD L f) (.tuple []) = decide (L = 0) := by
  cases L with
  | zero => rfl
  | succ L =>
    unfold numsD
    rw [List.range_succ_eq_map, List.map_cons]
    rfl
theorem shaped_nums (L : Nat) (f : Nat → Int) : SeqAt.shaped (numsD L f) = true := by
  have h := shaped_intsL ((List.range L).map f)
  rw [List.map_map] at h
  exact h
/-- [1 for row in rows if row != () and min(row) < 0], walked to the place i -/
def OnesR (ts : List Tie) (f : Nat → Int) (ds : List Deed) (i : Nat) (acc : List V) : Prop :=
  ∃ m : Nat, acc = (List.replicate m (1 : Int)).map V.int ∧ m ≤ i ∧ (m = 0 ↔ ∀ j, j < i → negB ts.length (behind ts f (ds.take j)) = false)
theorem OnesR.yes {ts f ds} {i : Nat} {acc : List V} (h : OnesR ts f ds i acc) (hn : negB ts.length (behind ts f (ds.take i)) = true) : OnesR ts f ds (i + 1) (acc ++ [.int 1]) := by
  obtain ⟨m, rfl, h1, _⟩ := h
  refine ⟨m + 1, ?_, by omega, ?_⟩
  · rw [List.replicate_succ', List.map_append]
    rfl
  · constructor
    · intro e
      omega
    · intro e
      have := e i (by omega)
      rw [hn] at this
      cases this
theorem OnesR.no {ts f ds} {i : Nat} {acc : List V} (h : OnesR ts f ds i acc) (hn : negB ts.length (behind ts f (ds.take i)) = false) : OnesR ts f ds (i + 1) acc := by
  obtain ⟨m, rfl, h1, h2⟩ := h
  refine ⟨m, rfl, by omega, ?_⟩
  rw [h2]
  constructor
  · intro e j hj
    by_cases q : j = i
    · subst q
      exact hn
    · exact e j (by omega)
  · intro e j hj
    exact e j (by omega)
theorem OnesR.nb {ts f ds} {acc : List V} (h : OnesR ts f ds (ds.length + 1) acc) : ∃ m : Nat, acc = (List.replicate m (1 : Int)).map V.int ∧ decide (m = 0) = nbB ts f ds := by
  obtain ⟨m, rfl, h1, h2⟩ := h
  refine ⟨m, rfl, ?_⟩
  by_cases e : m = 0
  · rw [decide_eq_true e]
    refine (List.all_eq_true.mpr fun i hi => ?_).symm
    rw [h2.mp e i (List.mem_range.mp hi)]
    rfl
  · rw [decide_eq_false e]
    refine (Bool.eq_false_iff.mpr fun z => e (h2.mpr fun j hj => ?_)).symm
    have := List.all_eq_true.mp z j (List.mem_range.mpr hj)
    simpa using this
theorem Fit.abs {n L B : Nat} {d : Deed} (h : Fit n L B d) : d.times.natAbs ≤ B := h.1
theorem fit_fine {n L B : Nat} {d : Deed} (h : Fit n L B d) (hn : n ≤ 1000) (hL : L ≤ 60) (hB : B < 2 ^ 200) : Fine d := by
  refine ⟨Nat.lt_of_le_of_lt h.1 hB, ?_⟩
  have h2 := h.2
  cases d with
  | star p t =>
    have h3 : p < n := h2
    show p < 100000
    omega
  | round ks t =>
    have h3 : LotOk L ks := h2
    exact ⟨fun k hk => by have := h3.1 k hk; omega, h3.2.2⟩
section
variable {P : Program} {w : World} {K : PySem.W.Frag} {mg : Str → Option Value} {base : Heap}
theorem ok_right {f a1 a2 a3 a4 a5 a6 a7 a8 a9 b1 b2 b3 b4 b5 b6 b7 b8 b9 c1 c2 U B : Addr} {fd d1 d2 d3 d4 d5 d6 d7 d8 d9 e1 e2 e3 e4 e5 e6 e7 e8 e9 g1 g2 : FuncData}
    (D : Df K mg "_law_is_right" sRight pRight f fd) (T : Bl mg) (hlist : mg "list" = none) (hany : mg "any" = none) (hsorted : mg "sorted" = none) (EU : ErrU K mg U B)
    (D_ties : Df K mg "ties_at" sTies ["web", "place"] a1 d1) (D_do : Df K mg "_do" sDo ["web", "numbers", "deed"] a2 d2)
    (D_hb : Df K mg "_has_below" sHb ["numbers"] a3 d3) (D_nb : Df K mg "never_below" sNb pNb a4 d4) (D_lifted_x : Df K mg "lifted" sLifted pNb a5 d5)
    (D_draw : Df K mg "_law_draw" sDraw ["_law_box_here", "_law_many"] a6 d6) (D_pick : Df K mg "_law_pick" sPick nPick a7 d7)
    (D_counts : Df K mg "_law_counts" sCounts pCounts a8 d8) (D_lot : Df K mg "_law_lot" sLot pLot a9 d9) (D_twos : Df K mg "_law_twos" sTwos ["_law_many"] b1 e1)
    (D_isr : Df K mg "_law_is_round" sIsr pIsr b2 e2) (D_rounds : Df K mg "_law_rounds" sRounds ["_law_web_here"] b3 e3) (D_deeds : Df K mg "_law_deeds" sDeeds pDeeds b4 e4)
    (D_ldone : Df K mg "_law_done" sLdone pLdone b5 e5) (D_done : Df K mg "done" sDone ["web", "standing", "deeds"] b6 e6) (D_undone : Df K mg "undone" sUndone ["deeds"] b7 e7)
    (D_tog : Df K mg "told_together" sTog pTog b8 e8) (K_tog : KBn K e8 pTog 0 ["deeds", "web"] (fun _ ws => ws.reverse) (fun _ zs => zs.reverse))
    (D_mask : Df K mg "mask_of" sMask pMask b9 e9) (D_behind : Df K mg "lot_behind" sBehind pBehind c1 g1)
    (D_ltog : Df K mg "_law_together" sLtog pLtog c2 g2) {c3 : Addr} {g3 : FuncData} (D_shuf : Df K mg "_law_shuffled" sShuf pShuf c3 g3) :
    FnG P w K mg base CX0 5 f fd pRight (spRight K) := by
  have G_draw : FnOk P w K mg base CX0 1 a6 d6 ["_law_box_here", "_law_many"] spDraw := ok_draw D_draw T
  have G_nb : FnOk P w K mg base CX0 3 a4 d4 pNb (spNb K) := ok_nb D_nb T hlist hany D_ties D_do D_hb
  have G_lifted_x : FnOk P w K mg base (L2.CX P w) 4 a5 d5 pNb (spLifted K U) := ok_lifted D_lifted_x T hlist hany EU D_ties D_do D_hb D_done
  have G_rounds : FnOk P w K mg base CX0 3 b3 e3 ["_law_web_here"] (spRounds K) := ok_rounds D_rounds T hlist D_counts D_lot D_twos D_isr
  have G_deeds : FnOk P w K mg base CX0 3 b4 e4 pDeeds (spDeeds K) := ok_deeds D_deeds T D_draw D_pick
  have G_ldone : FnOk P w K mg base CX0 1 b5 e5 pLdone (spLdone K) := ok_ldone D_ldone T hlist
  have G_done : FnOk P w K mg base CX0 3 b6 e6 ["web", "standing", "deeds"] (spDone K) := ok_done D_done T hlist D_ties D_do
  have G_undone : FnOk P w K mg base CX0 1 b7 e7 ["deeds"] (spUndone K) := ok_undone D_undone T
  have G_tog : FnOk P w K mg base CX0 2 b8 e8 pTog (spTog K) := ok_tog D_tog T hsorted D_mask D_behind
  have G_ltog : FnOk P w K mg base CX0 1 c2 g2 pLtog (spLtog K) := ok_ltog D_ltog T
  have G_shuf : FnOk P w K mg base CX0 2 c3 g3 pShuf (spShuf K) := ok_shuf D_shuf T hlist D_draw
  refine okG D.fn scRight (fun vs H Q E h => ?_) (fun cdv A outer s H vs Q E hgd hr h => ?_)
  · obtain ⟨b, g, v, n, ts, most, rfl, _⟩ := h
    rfl
  · obtain ⟨b, g, v, n, ts, most, rfl, hB, hw, hends, hn0, hn, hl, hm, k⟩ := h
    have hr_lifted_x : Room 4 _ := hr
    have hr_nb : Room 3 _ := hr.mono (by decide)
    have hr_rounds : Room 3 _ := hr.mono (by decide)
    have hr_deeds : Room 3 _ := hr.mono (by decide)
    have hr_done : Room 3 _ := hr.mono (by decide)
    have hr_draw : Room 1 _ := hr.mono (by decide)
    have hr_ldone : Room 1 _ := hr.mono (by decide)
    have hr_undone : Room 1 _ := hr.mono (by decide)
    have hr_tog : Room 2 _ := hr.mono (by decide)
    have hr_ltog : Room 1 _ := hr.mono (by decide)
    have hr_shuf : Room 2 _ := hr.mono (by decide)
    have hu64 := hr.units
    have nd := scRight.nd
    obtain ⟨a, c, ys, rfl, ha, hc, hys⟩ := dp_web hw
    have hyl : ys.length = ts.length := by rw [dpAll_len hys, List.length_map]
    refine ⟨_, (pss_cons (ps_set (i := 3) nd rfl (by first | exact Or.inl rfl | exact Or.inr rfl) (pe_call G_rounds hr_rounds (by rfl) D_rounds.ad D_rounds.fn.kp D_rounds.bd .nil pass0 (pa_cons (pv 1) pa_nil)))
      (pss_cons (ps_set (i := 4) nd rfl (by first | exact Or.inl rfl | exact Or.inr rfl) (pe_ifExp (pt_cmpR op_eq (pe_call G_draw hr_draw (by rfl) D_draw.ad D_draw.fn.kp D_draw.bd .nil pass0 (pa_cons (pv 0) (pa_cons pe_int pa_nil))) pe_int (nomark _)) (pe_slice (slL K) (pv 3) po_none (po_some pe_int)) (pv 3)))
      (pss_cons (ps_set (i := 5) nd rfl (by first | exact Or.inl rfl | exact Or.inr rfl) (pe_call G_deeds hr_deeds (by rfl) D_deeds.ad D_deeds.fn.kp D_deeds.bd .nil pass0 (pa_cons (pv 0) (pa_cons (pv 1) (pa_cons (pv 4) (pa_cons (pe_call G_draw hr_draw (by rfl) D_draw.ad D_draw.fn.kp D_draw.bd .nil pass0 (pa_cons (pv 0) (pa_cons pe_int pa_nil))) (pa_cons (pv 2) pa_nil)))))))
      (pss_cons (ps_set (i := 5) nd rfl (by first | exact Or.inl rfl | exact Or.inr rfl) (pe_call G_shuf hr_shuf (by rfl) D_shuf.ad D_shuf.fn.kp D_shuf.bd .nil pass0 (pa_cons (pv 0) (pa_cons (pe_op (catA K) (pv 5) (pe_callTy (tupleK K) (by rfl) T.tuple (by decide +kernel) (pa_cons (pe_lc (own := [("_law_word", 16), ("_law_about", 17), ("_law_times", 18)]) (g := (gTup K 3 (gCons (gName 16) (gCons (gName 17) (gCons (gName 18) gNil))))) (tt := tYes) rfl nd (piT K (pe_slice (slTA K) (pv 5) po_none (po_some pe_int))) (blkOk_by (own := [("_law_word", 16), ("_law_about", 17), ("_law_times", 18)]) (N := nRight) (sc := defScope sRight) (by decide +kernel)) (fun _ _ _ _ _ => (pgT K rfl (pgs_cons (pg_name (i := 16) nd rfl (by first | exact Or.inl rfl | exact Or.inr rfl)) (pgs_cons (pg_name (i := 17) nd rfl (by first | exact Or.inl rfl | exact Or.inr rfl)) (pgs_cons (pg_name (i := 18) nd rfl (by first | exact Or.inl rfl | exact Or.inr rfl)) pgs_nil))))) (fun _ _ _ _ _ => pts_nil) (fun _ _ _ _ _ => (pe_tup (pa_cons (pv 16) (pa_cons (pv 17) (pa_cons (pe_un un_neg (pv 18)) pa_nil)))))) pa_nil))) pa_nil))))
      (pss_cons (ps_par (i := 6) (j := 7) (by rfl) nd rfl rfl (by decide) rfl rfl (pa_cons (pe_callB (reprK K hgd hu64) (by rfl) T.repr (by decide +kernel) (pa_cons (pe_lst (pa_cons (pv 1) (pa_cons (pv 5) pa_nil))) pa_nil)) (pa_cons (pe_call G_ltog hr_ltog (by rfl) D_ltog.ad D_ltog.fn.kp D_ltog.bd .nil pass0 (pa_cons (pv 1) (pa_cons (pv 3) (pa_cons (pv 5) pa_nil)))) pa_nil)) (by rfl))
      (pss_cons (ps_set (i := 8) nd rfl (by first | exact Or.inl rfl | exact Or.inr rfl) (pe_lst (pa_cons (pe_call G_tog hr_tog (by rfl) D_tog.ad D_tog.fn.kp D_tog.bd .nil pass0 (pa_cons (pv 1) (pa_cons (pv 5) pa_nil))) (pa_cons (pe_callK0 G_tog hr_tog (by rfl) D_tog.ad D_tog.fn.kp K_tog pass0 (pk_cons (pv 5) (pk_cons (pv 1) pk_nil))) pa_nil))))
      (pss_cons (ps_expr (pe_bm PySem.F.plainAttrs_list PySem.F.slot_list_append PySem.F.type_list_append mt_append (pv 8) (pa_cons (pe_call G_tog hr_tog (by rfl) D_tog.ad D_tog.fn.kp D_tog.bd .nil pass0 (pa_cons (pv 1) (pa_cons (pe_call G_shuf hr_shuf (by rfl) D_shuf.ad D_shuf.fn.kp D_shuf.bd .nil pass0 (pa_cons (pv 0) (pa_cons (pv 5) pa_nil))) pa_nil))) pa_nil)))
      (pss_cons (ps_set (i := 9) nd rfl (by first | exact Or.inl rfl | exact Or.inr rfl) (pe_op (op_repN K) (pe_tup (pa_cons pe_int pa_nil)) (pe_callB (lenK K) (by rfl) T.len PySem.boot_len (pa_cons (pe_ix (ixT K) (pv 1) pe_int (fun _ _ => rfl)) pa_nil))))
      (pss_cons (ps_if (PW.pt (pw_or (pt_cmpR op_ne (pe_callB (reprK K hgd hu64) (by rfl) T.repr (by decide +kernel) (pa_cons (pv 8) pa_nil)) (pe_callB (reprK K hgd hu64) (by rfl) T.repr (by decide +kernel) (pa_cons (pe_op op_rep (pe_lst (pa_cons (pv 7) pa_nil)) pe_int) pa_nil)) (nomark _)) (pw_or1 (pt_cmpR op_ne (pe_callB (reprK K hgd hu64) (by rfl) T.repr (by decide +kernel) (pa_cons (pe_call G_tog hr_tog (by rfl) D_tog.ad D_tog.fn.kp D_tog.bd .nil pass0 (pa_cons (pv 1) (pa_cons (pv 7) pa_nil))) pa_nil)) (pe_callB (reprK K hgd hu64) (by rfl) T.repr (by decide +kernel) (pa_cons (pv 7) pa_nil)) (nomark _))))) (pss_one (ps_ret pe_bl)) pss_nil)
      (pss_cons (ps_set (i := 10) nd rfl (by first | exact Or.inl rfl | exact Or.inr rfl) (pe_callB (reprK K hgd hu64) (by rfl) T.repr (by decide +kernel) (pa_cons (pe_ix (ixL K) (pe_call G_ldone hr_ldone (by rfl) D_ldone.ad D_ldone.fn.kp D_ldone.bd .nil pass0 (pa_cons (pv 1) (pa_cons (pv 9) (pa_cons (pv 5) pa_nil)))) (pe_un un_neg pe_int) (fun _ _ => rfl)) pa_nil)))
      (pss_cons (ps_if (PW.pt (pw_or (pt_cmpR op_ne (pe_callB (reprK K hgd hu64) (by rfl) T.repr (by decide +kernel) (pa_cons (pe_call G_done hr_done (by rfl) D_done.ad D_done.fn.kp D_done.bd .nil pass0 (pa_cons (pv 1) (pa_cons (pv 9) (pa_cons (pv 5) pa_nil)))) pa_nil)) (pv 10) (nomark _)) (pw_or1 (pt_cmpR op_ne (pe_callB (reprK K hgd hu64) (by rfl) T.repr (by decide +kernel) (pa_cons (pe_call G_done hr_done (by rfl) D_done.ad D_done.fn.kp D_done.bd .nil pass0 (pa_cons (pv 1) (pa_cons (pv 9) (pa_cons (pv 7) pa_nil)))) pa_nil)) (pv 10) (nomark _))))) (pss_one (ps_ret pe_bl)) pss_nil)
      (pss_cons (ps_set (i := 11) nd rfl (by first | exact Or.inl rfl | exact Or.inr rfl) (pe_callTy (tupleK K) (by rfl) T.tuple (by decide +kernel) (pa_cons (pe_lc (own := [("_law_word", 16), ("_law_about", 17), ("_law_times", 18)]) (g := (gTup K 3 (gCons (gName 16) (gCons (gName 17) (gCons (gName 18) gNil))))) (tt := tYes) rfl nd (piT K (revT K (pv 7))) (blkOk_by (own := [("_law_word", 16), ("_law_about", 17), ("_law_times", 18)]) (N := nRight) (sc := defScope sRight) (by decide +kernel)) (fun _ _ _ _ _ => (pgT K rfl (pgs_cons (pg_name (i := 16) nd rfl (by first | exact Or.inl rfl | exact Or.inr rfl)) (pgs_cons (pg_name (i := 17) nd rfl (by first | exact Or.inl rfl | exact Or.inr rfl)) (pgs_cons (pg_name (i := 18) nd rfl (by first | exact Or.inl rfl | exact Or.inr rfl)) pgs_nil))))) (fun _ _ _ _ _ => pts_nil) (fun _ _ _ _ _ => (pe_tup (pa_cons (pv 16) (pa_cons (pv 17) (pa_cons (pe_un un_neg (pv 18)) pa_nil)))))) pa_nil)))
      (pss_cons (ps_set (i := 12) nd rfl (by first | exact Or.inl rfl | exact Or.inr rfl) (pe_callTy (tupleK K) (by rfl) T.tuple (by decide +kernel) (pa_cons (pe_lc (own := [("_law_deed", 19)]) (g := (gName 19)) rfl nd (piT K (pv 7)) (blkOk_by (own := [("_law_deed", 19)]) (N := nRight) (sc := defScope sRight) (by decide +kernel)) (fun _ _ _ _ _ => (pg_name (i := 19) nd rfl (by first | exact Or.inl rfl | exact Or.inr rfl))) (fun _ _ _ _ _ => (pts_one (pt_cmpR op_gt (pe_ix (ixT K) (pv 19) pe_int (fun _ _ => rfl)) pe_int (nomark _)))) (fun _ _ _ _ _ => (pv 19))) pa_nil)))
      (pss_cons (ps_set (i := 13) nd rfl (by first | exact Or.inl rfl | exact Or.inr rfl) (pe_call G_ldone hr_ldone (by rfl) D_ldone.ad D_ldone.fn.kp D_ldone.bd .nil pass0 (pa_cons (pv 1) (pa_cons (pv 9) (pa_cons (pv 7) pa_nil)))))
      (pss_cons (ps_set (i := 14) nd rfl (by first | exact Or.inl rfl | exact Or.inr rfl) (pe_cmpR (opEqD K hr.units) (pe_lc (own := [("_law_row", 20)]) (g := (gName 20)) rfl nd (piL K (pv 13)) (blkOk_by (own := [("_law_row", 20)]) (N := nRight) (sc := defScope sRight) (by decide +kernel)) (fun _ _ _ _ _ => (pg_name (i := 20) nd rfl (by first | exact Or.inl rfl | exact Or.inr rfl))) (fun _ _ _ _ _ => (pts_one (PW.pt (pw_and (pt_cmpR (opNeD K hr.units) (pv 20) (pe_tup pa_nil) (nomark _)) (pw_and1 (pt_cmpR op_lt (pe_callB (minTK K) (by rfl) T.min (by decide +kernel) (pa_cons (pv 20) pa_nil)) pe_int (nomark _))))))) (fun _ _ _ _ _ => pe_int)) (pe_lst pa_nil) (nomark _)))
      (pss_cons (ps_if (pt_cmpR op_ne (pe_callB (reprK K hgd hu64) (by rfl) T.repr (by decide +kernel) (pa_cons (pe_lst (pa_cons (pe_call G_undone hr_undone (by rfl) D_undone.ad D_undone.fn.kp D_undone.bd .nil pass0 (pa_cons (pv 7) pa_nil)) (pa_cons (pe_call G_nb hr_nb (by rfl) D_nb.ad D_nb.fn.kp D_nb.bd .nil pass0 (pa_cons (pv 1) (pa_cons (pv 9) (pa_cons (pv 7) pa_nil)))) pa_nil))) pa_nil)) (pe_callB (reprK K hgd hu64) (by rfl) T.repr (by decide +kernel) (pa_cons (pe_lst (pa_cons (pv 11) (pa_cons (pv 14) pa_nil))) pa_nil)) (nomark _)) (pss_one (ps_ret pe_bl)) pss_nil)
      (pss_cons (ps_if (pt_cmpR op_ne (pe_callB (reprK K hgd hu64) (by rfl) T.repr (by decide +kernel) (pa_cons (pe_call G_lifted_x hr_lifted_x (by rfl) D_lifted_x.ad D_lifted_x.fn.kp D_lifted_x.bd .nil passL (pa_cons (pv 1) (pa_cons (pv 9) (pa_cons (pv 12) pa_nil)))) pa_nil)) (pe_callB (reprK K hgd hu64) (by rfl) T.repr (by decide +kernel) (pa_cons (pv 12) pa_nil)) (nomark _)) (pss_one (ps_ret pe_bl)) pss_nil)
      (pss_cons (ps_if (pt_cmpR op_ne (pe_callB (reprK K hgd hu64) (by rfl) T.repr (by decide +kernel) (pa_cons (pe_call G_tog hr_tog (by rfl) D_tog.ad D_tog.fn.kp D_tog.bd .nil pass0 (pa_cons (pv 1) (pa_cons (pe_op (catA K) (pv 5) (pe_call G_undone hr_undone (by rfl) D_undone.ad D_undone.fn.kp D_undone.bd .nil pass0 (pa_cons (pv 5) pa_nil))) pa_nil))) pa_nil)) (pe_callB (reprK K hgd hu64) (by rfl) T.repr (by decide +kernel) (pa_cons (pe_tup pa_nil) pa_nil)) (nomark _)) (pss_one (ps_ret pe_bl)) pss_nil)
      (pss_cons (ps_set (i := 15) nd rfl (by first | exact Or.inl rfl | exact Or.inr rfl) (pe_callTy (tupleK K) (by rfl) T.tuple (by decide +kernel) (pa_cons (pe_lc (own := [("_law_word", 16), ("_law_about", 17), ("_law_times", 18)]) (g := (gTup K 3 (gCons (gName 16) (gCons (gName 17) (gCons (gName 18) gNil))))) (tt := tYes) rfl nd (piT K (pv 7)) (blkOk_by (own := [("_law_word", 16), ("_law_about", 17), ("_law_times", 18)]) (N := nRight) (sc := defScope sRight) (by decide +kernel)) (fun _ _ _ _ _ => (pgT K rfl (pgs_cons (pg_name (i := 16) nd rfl (by first | exact Or.inl rfl | exact Or.inr rfl)) (pgs_cons (pg_name (i := 17) nd rfl (by first | exact Or.inl rfl | exact Or.inr rfl)) (pgs_cons (pg_name (i := 18) nd rfl (by first | exact Or.inl rfl | exact Or.inr rfl)) pgs_nil))))) (fun _ _ _ _ _ => pts_nil) (fun _ _ _ _ _ => (pe_tup (pa_cons (pv 16) (pa_cons (pv 17) (pa_cons (pe_op op_mul pe_int (pv 18)) pa_nil)))))) pa_nil)))
      (pss_one (ps_ret (pe_and (pe_cmpR op_eq (pe_callB (reprK K hgd hu64) (by rfl) T.repr (by decide +kernel) (pa_cons (pe_call G_tog hr_tog (by rfl) D_tog.ad D_tog.fn.kp D_tog.bd .nil pass0 (pa_cons (pv 1) (pa_cons (pe_op (catA K) (pv 5) (pv 5)) pa_nil))) pa_nil)) (pe_callB (reprK K hgd hu64) (by rfl) T.repr (by decide +kernel) (pa_cons (pv 15) pa_nil)) (nomark _)) (pe_one (pe_cmpR op_eq (pe_callB (reprK K hgd hu64) (by rfl) T.repr (by decide +kernel) (pa_cons (pe_lst (pa_cons (pv 1) (pa_cons (pv 5) pa_nil))) pa_nil)) (pv 6) (nomark _))))))))))))))))))))))))), ?_⟩
    -- every round
    refine ⟨_, rfl, .ref a, n, ts, rfl, hw, hends, hn, hl, fun l xs zs H1 hln s1 hL hLd hasc hzl hls hzn => ?_⟩
    obtain ⟨nb, ng⟩ := box_ne hB hln
    have hE : Ev ts.length zs := ⟨hasc, hzl⟩
    generalize hev : zs.map (lotN ts.length) = ev at *
    have hevl : ev.length = zs.length := by rw [← hev, List.length_map]
    have hxl : xs.length = ev.length := by rw [dpAll_len hLd, List.length_map]
    have evnd : ev.Nodup := hev ▸ hE.nd
    have R1 : RC K b g H H1 [(.ref a, webD n ts)] := ⟨Kp.same s1, hB.same s1, fun p hp => by rw [List.mem_singleton.mp hp]; exact still_web n ts, fun p hp => by rw [List.mem_singleton.mp hp]; exact dp_same s1 _ hw⟩
    clear s1
    dsimp only [gName]
    refine tSeq_go ?_
    -- few of them
    refine tAsg_by (fun u H' => ∃ (lf : Addr) (xf : List V) (ef : List (List Nat)), u = .ref lf ∧ RC K b g H H' [(.ref a, webD n ts)] ∧ H' l = some (.lst xs) ∧ DpAll K H' xs (ev.map lotD) ∧ H' lf = some (.lst xf) ∧ DpAll K H' xf (ef.map lotD) ∧
      lf ≠ b ∧ lf ≠ g ∧ (∀ ks ∈ ef, ks ∈ ev) ∧ ef.length ≤ 5000) ?_ (fun cont => ?_)
    rotate_left
    · refine ⟨_, rfl, b, g, 2, rfl, by decide, by decide, R1.bx, fun r H2 r0 r1 kp2 B2 => ?_⟩
      have R2 := R1.draw kp2 B2
      have hL2 := kp2 _ _ hL nb ng
      have hLd2 := dpAll_kf (KF.of_kp kp2 R1.bx) _ (still_lots ev) hLd
      refine ⟨rfl, _, rfl, ?_⟩
      refine ite2 (fun hh => ?_) (fun hh => ?_)
      · refine ⟨_, rfl, ((2 : Nat) : Int), rfl, l, xs, rfl, SqL.of hL2, fun p hp => ?_⟩
        rw [cut_hi]
        have sp := same_new (o := .lst (xs.take 2)) hp
        obtain ⟨pb, pg⟩ := box_ne R2.bx hp
        exact cont _ _ ⟨p, _, ev.take 2, rfl, R2.same sp, sp _ _ hL2, dpAll_same sp _ hLd2, upd_same, by rw [List.map_take]; exact dpAll_take 2 (dpAll_same sp _ hLd2), pb, pg, fun ks hk => List.mem_of_mem_take hk, by rw [List.length_take]; omega⟩
      · refine ⟨_, rfl, ?_⟩
        exact cont _ _ ⟨l, xs, ev, rfl, R2, hL2, hLd2, hL2, hLd2, nb, ng, fun _ h => h, by omega⟩
    clear hL hLd R1
    rintro uf H2 ⟨lf, xf, ef, rfl, R2, hL, hLd, hF, hFd, fb, fg, hef, hefl⟩
    dsimp only [gName]
    refine at_st [some (.ref b), some (.ref a), some (.int most), some (.ref l), some (.ref lf), none, none, none, none, none, none, none, none, none, none, none, none, none, none, none, none] rfl ?_
    refine tSeq_go ?_
    -- deeds
    refine ⟨_, rfl, _, rfl, _, rfl, _, rfl, b, g, 9, rfl, by decide, by decide, R2.bx, fun r H3 r0 r1 kp3 B3 => ?_⟩
    obtain ⟨m, rfl⟩ : ∃ m : Nat, r = (m : Int) := ⟨r.toNat, by omega⟩
    have R3 := R2.draw kp3 B3
    have kf3 := KF.of_kp kp3 R2.bx
    refine ⟨_, rfl, b, g, lf, .ref a, n, ts, xf, ef, m, most, rfl, B3, R3.at0, hn0, hn, kp3 _ _ hF fb fg, dpAll_kf kf3 _ (still_lots ef) hFd, fb, fg, fun ks hk => hls ks (hef ks hk), hefl, by omega, fun dv ds H4 kp4 B4 hD hdl hfit => ?_⟩
    have R4 := (R3.draw kp4 B4).add hD (still_deedsD ds)
    have hL4 := kp4 _ _ (kp3 _ _ hL nb ng) nb ng
    have hLd4 := dpAll_kf (kf3.trans (KF.of_kp kp4 B3)) _ (still_lots ev) hLd
    clear kf3 kp3 kp4 R3 R2 hF hFd hL hLd hefl fb fg B3 B4 hD
    have hdl8 : ds.length ≤ 8 := by omega
    have hfit2 : ∀ d ∈ ds, Fit n ts.length (most.natAbs + 6) d ∧ d.In n ev := fun d hd => by
      obtain ⟨h1, h2⟩ := hfit d hd
      refine ⟨h1, ?_⟩
      cases d with
      | star p t => exact h2
      | round ks t => exact hef _ h2
    clear hfit hef
    dsimp only [gName]
    refine at_st [some (.ref b), some (.ref a), some (.int most), some (.ref l), some (.ref lf), some dv, none, none, none, none, none, none, none, none, none, none, none, none, none, none, none] rfl ?_
    refine tSeq_go ?_
    -- shuffled
    obtain ⟨ad, dx, rfl, had, hdx⟩ := dp_tup R4.at0
    have hdxl : dx.length = ds.length := by rw [dpAll_len hdx, List.length_map]
    refine ⟨_, rfl, _, rfl, _, rfl, ((3 : Nat) : Int), rfl, ?_⟩
    refine slA_by rfl had fun c2 H5 s5 hcc => ?_
    rw [cut_hi] at hcc
    have hcd : DpAll K H5 (dx.take 3) ((ds.take 3).map Deed.D) := by
      rw [List.map_take]
      exact dpAll_take 3 (dpAll_same s5 _ hdx)
    have hcl : (dx.take 3).length = (ds.take 3).length := by rw [List.length_take, List.length_take, hdxl]
    refine ⟨c2, rfl, ⟨_, hcc⟩, fun E1 hE1 => ?_⟩
    refine lc_run (walk_tup (xs := dx.take 3)) hE1 (fun i acc H0 => DpAll K H0 acc (((ds.take 3).take i).map Deed.neg |>.map Deed.D)) ?_ ?_ ?_ ?_
    · exact fun H' s => sqT_same s hcc
    · exact .nil
    · rintro i x acc H2 H' hi hacc e s r' ⟨rfl, hx⟩
      obtain ⟨dd, hdd, hdp⟩ := dpAll_get (dpAll_same s _ hcd) hx
      obtain ⟨d, hdj, rfl⟩ := get_map hdd
      obtain ⟨ax, va, rfl, hax, hva⟩ := dp_deed hdp
      refine ⟨ax, _, rfl, hax, rfl, _, _, rfl, _, _, rfl, _, _, rfl, rfl, rfl, yes_go ?_⟩
      refine ⟨_, rfl, _, rfl, _, rfl, _, rfl, by show 3 ≤ sizeLine; decide, fun p hp => ?_⟩
      dsimp only
      rw [show -d.times = (Deed.neg d).times by cases d <;> rfl]
      have sp : Same H' (upd H' p (.tup [.str d.word, va, .int (Deed.neg d).times])) := same_new hp
      have np : p ≠ E1 := by
        rintro rfl
        rw [hacc] at hp
        cases hp
      have hal : acc.length ≤ 100 := by
        have hsl : (ds.take 3).length ≤ 100 := by rw [List.length_take]; omega
        rw [dpAll_len r', List.length_map, List.length_map, List.length_take]
        omega
      refine lc_add hacc e sp (by omega) ?_
      rw [take_snoc hdj, List.map_append, List.map_append]
      refine dpAll_app (dpAll_same (era_same sp) _ r') (.cons ?_ .nil)
      have kf : KF H' (era (upd H' p (.tup [.str d.word, va, .int (Deed.neg d).times])) E1) := fun z o hz q => by
        have nz : z ≠ E1 := by
          rintro rfl
          rw [hacc] at hz
          obtain ⟨_, rfl | ⟨_, rfl⟩⟩ := q <;> cases hz
        rw [era_ne nz]
        exact sp _ _ hz
      have hva' := dp_kf kf _ (by cases d with | star p t => simp [Deed.about, still] | round ks t => exact still_lot ks) hva
      have hpn : SqT K (era (upd H' p (.tup [.str d.word, va, .int (Deed.neg d).times])) E1) p [.str d.word, va, .int (Deed.neg d).times] := SqT.of (by rw [era_ne np, upd_same])
      cases d with
      | star p' t => exact .tup hpn (.cons (.str _) (.cons hva' (.cons (.int _) .nil)))
      | round ks t => exact .tup hpn (.cons (.str _) (.cons hva' (.cons (.int _) .nil)))
    rintro acc H6 h1 s6 r'
    rw [hcl, List.take_of_length_le (Nat.le_refl _)] at r'
    refine ⟨E1, _, rfl, .inl ⟨SqL.of h1, fun u hu => ?_⟩⟩
    have su := same_new (o := .tup acc) hu
    have s56 := s5.trans (s6.trans su)
    have hacl : acc.length ≤ 3 := by
      rw [dpAll_len r', List.length_map, List.length_map, List.length_take]
      omega
    refine catA_by rfl rfl (sqT_same s56 had) (SqT.of upd_same) (by omega) fun cc H7 s7 hcat => ?_
    have R7 := R4.same (s56.trans s7)
    have hcat2 : Dp K H7 (.ref cc) (deedsD (ds ++ (ds.take 3).map Deed.neg)) := .tup hcat (by
      rw [List.map_append]
      exact dpAll_app (dpAll_same (s56.trans s7) _ hdx) (dpAll_same (su.trans s7) _ (dpAll_same era_back _ r')))
    have hlen11 : (ds ++ (ds.take 3).map Deed.neg).length ≤ 11 := by
      rw [List.length_append, List.length_map, List.length_take]
      omega
    refine ⟨b, g, .ref cc, _, rfl, R7.bx, hcat2, by omega, fun ue es H8 kp8 B8 hes hperm => ?_⟩
    have R8 := (R7.draw kp8 B8).add hes (still_deedsD es)
    have s47 := s56.trans s7
    have hL8 := kp8 _ _ (s47 _ _ hL4) nb ng
    have hLd8 := dpAll_kf (KF.of_kp kp8 R7.bx) _ (still_lots ev) (dpAll_same s47 _ hLd4)
    have hel : es.length ≤ 11 := by
      rw [hperm.length_eq]
      exact hlen11
    have hfe : ∀ d ∈ es, Fit n ts.length (most.natAbs + 6) d ∧ d.In n ev := fun d hd => by
      rcases List.mem_append.mp (hperm.mem_iff.mp hd) with q | q
      · exact hfit2 d q
      · obtain ⟨d', hd', rfl⟩ := List.mem_map.mp q
        obtain ⟨q1, q2⟩ := hfit2 d' (List.mem_of_mem_take hd')
        exact ⟨fit_neg q1, in_neg q2⟩
    clear s47 s56 su s5 s6 s7 hcat hcat2 r' h1 hE1 hcd hcc hcl hacl hlen11 hperm hfit2 hdl hdl8 kp8 R7 hL4 hLd4 hes B8
    obtain ⟨ae, ex, rfl, hae, hex⟩ := dp_tup R8.at0
    have R8 := R8.drop1
    have hin : ∀ d ∈ es, d.In n ev := fun d hd => (hfe d hd).2
    have hok : ∀ d ∈ es, d.Ok ts := fun d hd => (hfe d hd).1.ok
    have hBs : ∀ d ∈ es, d.times.natAbs ≤ 2 ^ 121 := fun d hd => Nat.le_trans (hfe d hd).1.1 (by
      have : (2 : Nat) ^ 120 + 6 ≤ 2 ^ 121 := by decide
      omega)
    have hB190 : es.length * 2 ^ 121 < 2 ^ 190 := Nat.lt_of_le_of_lt (Nat.mul_le_mul_right _ hel) (by decide)
    have fe : ∀ d ∈ es, Fine d := fun d hd => fit_fine (hfe d hd).1 hn (by omega) (by
      have : (2 : Nat) ^ 120 + 6 < 2 ^ 200 := by decide
      omega)
    have fdue : ∀ d ∈ tog n ev es, Fine d := by
      rw [← hev]
      exact fine_tog hn (by omega) (by rw [hev]; exact hls) hBs hB190
    have hduel : (tog n ev es).length ≤ 22 := Nat.le_trans (tog_len evnd) (by omega)
    have hduein : ∀ d ∈ tog n ev es, d.In n ev := fun d hd => tog_in hd
    have hdueok : ∀ d ∈ tog n ev es, d.Ok ts := fun d hd => by
      have h2 := hduein d hd
      cases d with
      | star p t => exact trivial
      | round ks t => exact ⟨(hls ks h2).1, (hls ks h2).2.1⟩
    have smW : Sm (webD n ts) 2001 4 := (sm_web (fun t ht => by have := hends t ht; omega) (by omega)).mono (by omega) (by omega)
    have smE : Sm (deedsD es) 2001 4 := (sm_fine fe (by omega)).mono (by omega) (by omega)
    have smT : Sm (deedsD (tog n ev es)) 2001 4 := (sm_fine fdue (by omega)).mono (by omega) (by omega)
    have showWE : Show (.list [webD n ts, deedsD es]) := sm_show (sm_lst (c := 2001) (k := 4) (by
      intro d hd
      simp only [List.mem_cons, List.not_mem_nil, or_false] at hd
      rcases hd with rfl | rfl
      · exact smW
      · exact smE)) (by show 2 * 2001 + 1 ≤ 15000; decide) (by decide)
    have showT : Show (deedsD (tog n ev es)) := sm_show smT (by decide) (by decide)
    have showT3 : Show (.list [deedsD (tog n ev es), deedsD (tog n ev es), deedsD (tog n ev es)]) := sm_show (sm_lst (c := 2001) (k := 4) (by
      intro d hd
      simp only [List.mem_cons, List.not_mem_nil, or_false] at hd
      rcases hd with rfl | rfl | rfl <;> exact smT)) (by show 3 * 2001 + 1 ≤ 15000; decide) (by decide)
    have showN : ∀ ds' : List Deed, (∀ d ∈ ds', d.times.natAbs ≤ 2 ^ 190) → ds'.length ≤ 22 → Show (numsD ts.length (behind ts (fun _ => 0) ds')) := fun ds' h1 h2 => sm_show (sm_nums fun k => by
      have := behind_abs (M := 0) (f := fun _ => 0) (ts := ts) ds' k h1 (fun _ => Nat.le_refl _)
      have h3 : ds'.length * 2 ^ 190 ≤ 22 * 2 ^ 190 := Nat.mul_le_mul_right _ h2
      have h4 : 22 * (2 : Nat) ^ 190 < 2 ^ 200 := by decide
      omega) (by omega) (by decide)
    dsimp only [gName]
    refine at_st [some (.ref b), some (.ref a), some (.int most), some (.ref l), some (.ref lf), some (.ref ae), none, none, none, none, none, none, none, none, none, none, none, none, none, none, none] rfl ?_
    refine tSeq_go ?_
    -- kept and due
    refine ⟨_, rfl, _, rfl, by show 2 ≤ sizeLine; decide, fun q hq => ?_⟩
    have s9 := same_new (o := .lst [.ref a, .ref ae]) hq
    have R9 := R8.same s9
    refine ⟨.ref q, .list [webD n ts, deedsD es], rfl, .lst (SqL.of upd_same) (.cons R9.at1 (.cons R9.at0 .nil)), showWE, ?_⟩
    refine ⟨_, rfl, _, rfl, _, rfl, l, .ref a, .ref ae, n, ts, xs, ev, es, rfl, R9.at1, s9 _ _ hL8, dpAll_same s9 _ hLd8, R9.at0, hn, by omega, by omega, fun ud H10 s10 hud => ?_⟩
    refine ⟨_, _, rfl, ?_⟩
    have R11 := (R9.same s10).add hud (still_deedsD _)
    clear s9 s10 hq R8 R9 hL8 hLd8 hud hae hex
    obtain ⟨au, ux, rfl, hau, hux⟩ := dp_tup R11.at0
    clear hau hux
    dsimp only [gName]
    refine at_st [some (.ref b), some (.ref a), some (.int most), some (.ref l), some (.ref lf), some (.ref ae), some (.str (PyData.list [webD n ts, deedsD es]).shown), some (.ref au), none, none, none, none, none, none, none, none, none, none, none, none, none] rfl ?_
    refine tSeq_go ?_
    -- told
    have hin' : ∀ d ∈ es, d.In n (zs.map (lotN ts.length)) := hev ▸ hin
    refine ⟨_, rfl, _, rfl, .ref a, .ref ae, n, ts, zs, es, rfl, R11.at2, R11.at1, hE, hin', by omega, by omega, fun u1 H12 s12 hu1 => ?_⟩
    have R12 := R11.same s12
    refine ⟨_, rfl, _, rfl, rfl, .ref a, .ref ae, n, ts, zs, es, rfl, R12.at2, R12.at1, hE, hin', by omega, by omega, fun u2 H13 s13 hu2 => ?_⟩
    rw [hev] at hu1 hu2
    refine ⟨by show 2 ≤ sizeLine; decide, fun q hq => ?_⟩
    have s14 := same_new (o := .lst [u1, u2]) hq
    have hQ14 := upd_same (H := H13) (a := q) (o := .lst [u1, u2])
    have R14 := ((R12.same s13).add (dp_same s13 _ hu1) (still_deedsD _)).add hu2 (still_deedsD _) |>.same s14
    obtain ⟨qb, qg⟩ := box_ne ((R12.same s13).bx) hq
    have hqH : H q = none := by
      cases hz : H q with
      | none => rfl
      | some o =>
        have := (R12.same s13).kp _ _ hz qb qg
        rw [hq] at this
        cases this
    generalize upd H13 q (.lst [u1, u2]) = H14 at *
    clear s12 s13 s14 hq R11 R12 hu1 hu2
    dsimp only [gName]
    refine at_st [some (.ref b), some (.ref a), some (.int most), some (.ref l), some (.ref lf), some (.ref ae), some (.str (PyData.list [webD n ts, deedsD es]).shown), some (.ref au), some (.ref q), none, none, none, none, none, none, none, none, none, none, none, none] rfl ?_
    refine tSeq_go ?_
    refine ⟨_, rfl, ⟨.inl ⟨rfl, _, SqL.of hQ14⟩, ?_⟩⟩
    refine ⟨_, rfl, _, rfl, _, rfl, b, g, .ref ae, es, rfl, R14.bx, R14.at3, by omega, fun ue2 es2 H15 kp15 B15 hes2 hperm2 => ?_⟩
    have R15 := R14.draw kp15 B15
    refine ⟨.ref a, ue2, n, ts, zs, es2, rfl, R15.at4, hes2, hE, fun d hd => hin' d (hperm2.mem_iff.mp hd), by omega, by rw [hperm2.length_eq]; omega, fun u3 H16 s16 hu3 => ?_⟩
    rw [hev, tog_perm hperm2] at hu3
    have hQ16 := s16 _ _ (kp15 _ _ hQ14 qb qg)
    refine ⟨q, _, _, rfl, rfl, hQ16, by show 2 < sizeLine; decide, ?_⟩
    have R17 := ((R15.same s16).add hu3 (still_deedsD _)).upd (ys := [u1, u2] ++ [u3]) hQ16 hqH qg
    have hQ17 := upd_same (H := H16) (a := q) (o := .lst ([u1, u2] ++ [u3]))
    generalize upd H16 q (.lst ([u1, u2] ++ [u3])) = H17 at *
    clear s16 hQ16 hQ14 kp15 B15 R14 R15 hu3 hes2 hperm2
    dsimp only
    refine tSeq_go ?_
    -- noughts
    obtain ⟨a', c', ys', ea, ha', hc', hys'⟩ := dp_web R17.at5
    cases ea
    have hyl' : ys'.length = ts.length := by rw [dpAll_len hys', List.length_map]
    refine ⟨by show 1 ≤ sizeLine; decide, fun p hp => ?_⟩
    have s18 := same_new (o := .tup [.int 0]) hp
    refine ⟨_, rfl, a, _, _, _, rfl, rfl, sqT_same s18 ha', atI_nat (j := 1) rfl, c', ys', rfl, .inr (sqT_same s18 hc'), ?_⟩
    refine ⟨p, ys'.length, .int 0, rfl, rfl, SqT.of upd_same, by omega, fun pn H19 s19 hrep => ?_⟩
    rw [hyl', nought_row] at hrep
    have s1819 := s18.trans s19
    have R19 := (R17.same s1819).add (nums_dp hrep) (still_numsD _ _)
    have hQ19 := s1819 _ _ hQ17
    clear s18 s19 s1819 hrep hp R17 hQ17 ha' hc' hys' hyl'
    -- order: nought, u3, u2, u1, due, deeds, web
    have rW : ∀ {Hx}, RC K b g H Hx [(.ref pn, numsD ts.length fun _ => 0), (u3, deedsD (tog n ev es)), (u2, deedsD (tog n ev es)), (u1, deedsD (tog n ev es)), (.ref au, deedsD (tog n ev es)), (.ref ae, deedsD es), (.ref a, webD n ts)] → Dp K Hx (.ref a) (webD n ts) := fun R => R.dp (.ref a, webD n ts) (.tail _ (.tail _ (.tail _ (.tail _ (.tail _ (.tail _ (.head _)))))))
    dsimp only [gName]
    refine at_st [some (.ref b), some (.ref a), some (.int most), some (.ref l), some (.ref lf), some (.ref ae), some (.str (PyData.list [webD n ts, deedsD es]).shown), some (.ref au), some (.ref q), some (.ref pn), none, none, none, none, none, none, none, none, none, none, none] rfl ?_
    refine tSeq_go ?_
    refine tIfS_t (fun t H' => Same H19 H' ∧ t = false) ?_ ?_ (fun cont => ?_)
    · rintro H' ⟨_, z⟩
      cases z
    rotate_left
    · refine ⟨_, rfl, .ref q, .list [deedsD (tog n ev es), deedsD (tog n ev es), deedsD (tog n ev es)], rfl, .lst (SqL.of hQ19) (.cons R19.at3 (.cons R19.at2 (.cons R19.at1 .nil))), showT3, ?_⟩
      refine ⟨_, rfl, by show 1 ≤ sizeLine; decide, fun p hp => ?_⟩
      have s20 := same_new (o := .lst [.ref au]) hp
      refine ⟨p, 3, [.ref au], rfl, rfl, upd_same, by decide, by decide, by show 3 ≤ sizeLine; decide, fun m2 hm2 => ?_⟩
      have s21 := same_new (o := .lst [.ref au, .ref au, .ref au]) hm2
      have R21 := R19.same (s20.trans s21)
      refine ⟨.ref m2, .list [deedsD (tog n ev es), deedsD (tog n ev es), deedsD (tog n ev es)], rfl, .lst (SqL.of upd_same) (.cons R21.at4 (.cons R21.at4 (.cons R21.at4 .nil))), showT3, rfl, _, rfl, ?_⟩
      refine iteNS rfl ?_
      refine ⟨_, rfl, _, rfl, .ref a, .ref au, n, ts, zs, tog n ev es, rfl, rW R21, R21.at4, hE, hev ▸ hduein, by omega, by omega, fun u4 H22 s22 hu4 => ?_⟩
      rw [hev, tog_tog evnd] at hu4
      refine ⟨u4, _, rfl, hu4, showT, ?_⟩
      refine ⟨_, rfl, .ref au, _, rfl, (R21.same s22).at4, showT, rfl, _, rfl, ?_⟩
      exact cont _ _ ⟨s20.trans (s21.trans s22), by simp⟩
    rintro H20 ⟨s20, _⟩
    have R20 := R19.same s20
    clear R19 s20 hQ19
    dsimp only [tNext]
    refine tSeq_go ?_
    -- the end
    refine ⟨_, rfl, _, rfl, _, rfl, .ref a, .ref pn, .ref ae, n, ts, _, es, rfl, rW R20, R20.at0, R20.at5, by omega, by omega, fun l2 rows H21 s21 hrows hrd => ?_⟩
    have hrl : rows.length = es.length + 1 := by rw [dpAll_len hrd, List.length_map, List.length_range]
    obtain ⟨vl, hvl, hvd⟩ := dpAll_at hrd (i := es.length) (d := rowsD ts (fun _ => 0) es es.length) (by rw [List.getElem?_map, List.getElem?_range (by omega)]; rfl)
    have hrow : rowsD ts (fun _ => 0) es es.length = numsD ts.length (behind ts (fun _ => 0) es) := by
      unfold rowsD
      rw [List.take_of_length_le (Nat.le_refl _)]
    rw [hrow] at hvd
    refine ⟨_, rfl, l2, rows, _, vl, rfl, rfl, SqL.of hrows, atI_last (by omega) (by rw [hrl]; exact hvl), vl, _, rfl, hvd, showN es (fun d hd => Nat.le_trans (hBs d hd) (by decide)) (by omega), ?_⟩
    have R21 := R20.same s21
    clear s21 hrows hrd hvl hvd hrl R20
    dsimp only [gName]
    refine at_st [some (.ref b), some (.ref a), some (.int most), some (.ref l), some (.ref lf), some (.ref ae), some (.str (PyData.list [webD n ts, deedsD es]).shown), some (.ref au), some (.ref q), some (.ref pn), some (.str (numsD ts.length (behind ts (fun _ => 0) es)).shown), none, none, none, none, none, none, none, none, none, none] rfl ?_
    refine tSeq_go ?_
    refine tIfS_t (fun t H' => Same H21 H' ∧ t = false) ?_ ?_ (fun cont => ?_)
    · rintro H' ⟨_, z⟩
      cases z
    rotate_left
    · refine ⟨_, rfl, _, rfl, _, rfl, .ref a, .ref pn, .ref ae, n, ts, _, es, rfl, rW R21, R21.at0, R21.at5, hok, by omega, fun u5 H22 s22 hu5 => ?_⟩
      refine ⟨u5, _, rfl, hu5, showN es (fun d hd => Nat.le_trans (hBs d hd) (by decide)) (by omega), ?_⟩
      refine ⟨_, rfl, rfl, _, rfl, ?_⟩
      refine iteNS rfl ?_
      have R22 := R21.same s22
      refine ⟨_, rfl, _, rfl, _, rfl, .ref a, .ref pn, .ref au, n, ts, _, tog n ev es, rfl, rW R22, R22.at0, R22.at4, hdueok, by omega, fun u6 H23 s23 hu6 => ?_⟩
      rw [behind_tog _ evnd hin] at hu6
      refine ⟨u6, _, rfl, hu6, showN es (fun d hd => Nat.le_trans (hBs d hd) (by decide)) (by omega), ?_⟩
      refine ⟨_, rfl, rfl, _, rfl, ?_⟩
      exact cont _ _ ⟨s22.trans s23, by simp⟩
    rintro H22 ⟨s22, _⟩
    have R22 := R21.same s22
    clear R21 s22
    dsimp only [tNext]
    refine tSeq_go ?_
    -- back
    obtain ⟨au', ux, eu, hau, hux⟩ := dp_tup R22.at4
    cases eu
    have huxl : ux.length = (tog n ev es).length := by rw [dpAll_len hux, List.length_map]
    refine tAsg_by (fun u H' => Same H22 H' ∧ Dp K H' u (deedsD ((tog n ev es).reverse.map Deed.neg))) ?_ (fun cont => ?_)
    rotate_left
    · refine ⟨_, rfl, au, ux, rfl, hau, fun rv hrv => ?_⟩
      have s0 : Same H22 (upd H22 rv (.tup ux.reverse)) := same_new hrv
      have hrx := dpAll_rev (dpAll_same s0 _ hux)
      rw [← List.map_reverse] at hrx
      have hrl : ux.reverse.length = (tog n ev es).reverse.length := by rw [List.length_reverse, List.length_reverse, huxl]
      have hrT : SqT K (upd H22 rv (.tup ux.reverse)) rv ux.reverse := SqT.of upd_same
      refine ⟨rv, rfl, ⟨_, hrT⟩, fun E1 hE1 => ?_⟩
      refine lc_run (walk_tup (xs := ux.reverse)) hE1 (fun i acc H0 => DpAll K H0 acc ((((tog n ev es).reverse).take i).map Deed.neg |>.map Deed.D)) ?_ ?_ ?_ ?_
      · exact fun H' s => sqT_same s hrT
      · exact .nil
      · rintro i x acc H2 H' hi hacc e s r' ⟨rfl, hx⟩
        obtain ⟨dd, hdd, hdp⟩ := dpAll_get (dpAll_same s _ hrx) hx
        obtain ⟨d, hdj, rfl⟩ := get_map hdd
        obtain ⟨ax, va, rfl, hax, hva⟩ := dp_deed hdp
        refine ⟨ax, _, rfl, hax, rfl, _, _, rfl, _, _, rfl, _, _, rfl, rfl, rfl, yes_go ?_⟩
        refine ⟨_, rfl, _, rfl, _, rfl, _, rfl, by show 3 ≤ sizeLine; decide, fun p hp => ?_⟩
        dsimp only
        rw [show -d.times = (Deed.neg d).times by cases d <;> rfl]
        have sp : Same H' (upd H' p (.tup [.str d.word, va, .int (Deed.neg d).times])) := same_new hp
        have np : p ≠ E1 := by
          rintro rfl
          rw [hacc] at hp
          cases hp
        have hal : acc.length ≤ 100 := by
          have hsl : ((tog n ev es).reverse).length ≤ 100 := by rw [List.length_reverse]; omega
          rw [dpAll_len r', List.length_map, List.length_map, List.length_take]
          omega
        refine lc_add hacc e sp (by omega) ?_
        rw [take_snoc hdj, List.map_append, List.map_append]
        refine dpAll_app (dpAll_same (era_same sp) _ r') (.cons ?_ .nil)
        have kf : KF H' (era (upd H' p (.tup [.str d.word, va, .int (Deed.neg d).times])) E1) := fun z o hz q => by
          have nz : z ≠ E1 := by
            rintro rfl
            rw [hacc] at hz
            obtain ⟨_, rfl | ⟨_, rfl⟩⟩ := q <;> cases hz
          rw [era_ne nz]
          exact sp _ _ hz
        have hva' := dp_kf kf _ (by cases d with | star p t => simp [Deed.about, still] | round ks t => exact still_lot ks) hva
        have hpn : SqT K (era (upd H' p (.tup [.str d.word, va, .int (Deed.neg d).times])) E1) p [.str d.word, va, .int (Deed.neg d).times] := SqT.of (by rw [era_ne np, upd_same])
        cases d with
        | star p' t => exact .tup hpn (.cons (.str _) (.cons hva' (.cons (.int _) .nil)))
        | round ks t => exact .tup hpn (.cons (.str _) (.cons hva' (.cons (.int _) .nil)))
      rintro acc H6 h1 s6 r'
      rw [hrl, List.take_of_length_le (Nat.le_refl _)] at r'
      refine ⟨E1, _, rfl, .inl ⟨SqL.of h1, fun u hu => ?_⟩⟩
      have su := same_new (o := .tup acc) hu
      exact cont _ _ ⟨s0.trans (s6.trans su), .tup (SqT.of upd_same) (dpAll_same (era_back.trans su) _ r')⟩
    rintro ub H23 ⟨s23, hub⟩
    have R23 := R22.same s23
    clear R22
    dsimp only [gName]
    refine at_st [some (.ref b), some (.ref a), some (.int most), some (.ref l), some (.ref lf), some (.ref ae), some (.str (PyData.list [webD n ts, deedsD es]).shown), some (.ref au), some (.ref q), some (.ref pn), some (.str (numsD ts.length (behind ts (fun _ => 0) es)).shown), some ub, none, none, none, none, none, none, none, none, none] rfl ?_
    refine tSeq_go ?_
    -- those that add
    refine tAsg_by (fun u H' => Same H23 H' ∧ Dp K H' u (deedsD (posD (tog n ev es)))) ?_ (fun cont => ?_)
    rotate_left
    · have hau3 := sqT_same s23 hau
      have hux3 := dpAll_same s23 _ hux
      refine ⟨_, rfl, au, rfl, ⟨_, hau3⟩, fun E1 hE1 => ?_⟩
      refine lc_run (walk_tup (xs := ux)) hE1 (fun i acc Hq => DpAll K Hq acc ((posD ((tog n ev es).take i)).map Deed.D)) ?_ ?_ ?_ ?_
      · exact fun H' s => sqT_same s hau3
      · exact .nil
      · rintro i x acc H2 H' hi hacc e s r ⟨rfl, hx⟩
        obtain ⟨dd, hdd, hdp⟩ := dpAll_get hux3 hx
        obtain ⟨d, hdj, rfl⟩ := get_map hdd
        obtain ⟨ax, va, rfl, hax, _⟩ := dp_deed hdp
        have htk := take_snoc hdj
        have hal : acc.length ≤ 22 := by
          rw [dpAll_len r, List.length_map]
          exact Nat.le_trans (List.length_filter_le _ _) (by rw [List.length_take]; omega)
        refine ⟨rfl, ?_⟩
        refine ⟨_, rfl, ax, _, _, _, rfl, rfl, sqT_same s hax, atI_nat (j := 2) rfl, _, _, rfl, rfl, _, rfl, ?_⟩
        refine ite2 (fun hh => ?_) (fun hh => ?_)
        · refine ⟨_, rfl, ?_⟩
          refine lc_add hacc e (Same.refl _) (by omega) ?_
          have e1 : posD ((tog n ev es).take (i + 1)) = posD ((tog n ev es).take i) ++ [d] := by
            unfold posD
            rw [htk, List.filter_append, List.filter_cons, if_pos hh]
            rfl
          rw [e1, List.map_append]
          exact dpAll_app r (.cons (dp_same e _ hdp) .nil)
        · refine lc_skip hacc e (Same.refl _) ?_
          have e1 : posD ((tog n ev es).take (i + 1)) = posD ((tog n ev es).take i) := by
            unfold posD
            rw [htk, List.filter_append, List.filter_cons, if_neg hh]
            simp
          rw [e1]
          exact r
      · rintro acc H6 h1 s6 r
        rw [huxl, List.take_of_length_le (Nat.le_refl _)] at r
        refine ⟨E1, _, rfl, .inl ⟨SqL.of h1, fun u hu => ?_⟩⟩
        have su := same_new (o := .tup acc) hu
        exact cont _ _ ⟨s6.trans su, .tup (SqT.of upd_same) (dpAll_same (era_back.trans su) _ r)⟩
    rintro up H24 ⟨s24, hup⟩
    have R24 := R23.same s24
    have hub := dp_same s24 _ hub
    clear R23 s23 s24 hau hux
    dsimp only [gName]
    refine at_st [some (.ref b), some (.ref a), some (.int most), some (.ref l), some (.ref lf), some (.ref ae), some (.str (PyData.list [webD n ts, deedsD es]).shown), some (.ref au), some (.ref q), some (.ref pn), some (.str (numsD ts.length (behind ts (fun _ => 0) es)).shown), some ub, some up, none, none, none, none, none, none, none, none] rfl ?_
    refine tSeq_go ?_
    -- rows
    refine ⟨_, rfl, _, rfl, _, rfl, .ref a, .ref pn, .ref au, n, ts, _, tog n ev es, rfl, rW R24, R24.at0, R24.at4, by omega, by omega, fun l3 rows3 H25 s25 hrows hrd => ?_⟩
    have hrl : rows3.length = (tog n ev es).length + 1 := by rw [dpAll_len hrd, List.length_map, List.length_range]
    have R25 := R24.same s25
    have hub := dp_same s25 _ hub
    have hup := dp_same s25 _ hup
    clear R24 s25
    dsimp only [gName]
    refine at_st [some (.ref b), some (.ref a), some (.int most), some (.ref l), some (.ref lf), some (.ref ae), some (.str (PyData.list [webD n ts, deedsD es]).shown), some (.ref au), some (.ref q), some (.ref pn), some (.str (numsD ts.length (behind ts (fun _ => 0) es)).shown), some ub, some up, some (.ref l3), none, none, none, none, none, none, none] rfl ?_
    refine tSeq_go ?_
    -- are above
    refine tAsg_by (fun u H' => Same H25 H' ∧ u = .bl (nbB ts (fun _ => 0) (tog n ev es))) ?_ (fun cont => ?_)
    rotate_left
    · refine ⟨_, rfl, l3, rfl, ⟨_, SqL.of hrows⟩, fun E1 hE1 => ?_⟩
      refine lc_run (walk_list (xs := rows3)) hE1 (fun i acc _ => OnesR ts (fun _ => 0) (tog n ev es) i acc) ?_ ?_ ?_ ?_
      · exact fun H' s => SqL.of (s _ _ hrows)
      · exact ⟨0, rfl, Nat.le_refl _, ⟨fun _ j hj => absurd hj (Nat.not_lt_zero _), fun _ => rfl⟩⟩
      · rintro i x acc H2 H' hi hacc e s r ⟨rfl, hx⟩
        obtain ⟨dd, hdd, hdp⟩ := dpAll_get hrd hx
        have hi2 : i < (tog n ev es).length + 1 := by omega
        rw [List.getElem?_map, List.getElem?_range hi2] at hdd
        cases hdd
        obtain ⟨ax, rfl, hax⟩ := dp_nums (dp_same s _ hdp)
        have hal : acc.length ≤ i := by
          obtain ⟨m3, rfl, h1, _⟩ := (show OnesR ts (fun _ => 0) (tog n ev es) i acc from r)
          rw [List.length_map, List.length_replicate]
          exact h1
        refine ⟨rfl, ?_⟩
        refine ⟨_, rfl, by show 0 ≤ sizeLine; decide, fun p hp => ?_⟩
        have sp := same_new (o := .tup []) hp
        refine ⟨numsD ts.length (behind ts (fun _ => 0) ((tog n ev es).take i)), .tuple [], nums_dp (sqT_same sp hax), .tup (SqT.of upd_same) .nil, shaped_nums _ _, by decide, _, rfl, ?_⟩
        rw [nums_ne]
        by_cases h0 : ts.length = 0
        · rw [decide_eq_true h0]
          refine iteF ?_
          refine iteF ?_
          refine lc_skip hacc e sp ?_
          refine OnesR.no r (negB_false.mpr fun k hk => by omega)
        · rw [decide_eq_false h0]
          refine iteT ?_
          rw [nums_ints] at hax
          refine ⟨_, rfl, ax, _, rfl, sqT_same sp hax, by rw [List.length_map, List.length_range]; omega, fun m4 hm4 hm5 => ?_⟩
          refine ⟨_, _, rfl, rfl, _, rfl, ?_⟩
          have hneg := negB_min hm4 hm5
          dsimp only
          rw [hneg]
          refine ite2 (fun hh => ?_) (fun hh => ?_)
          · refine lc_add hacc e sp (by omega) ?_
            exact OnesR.yes r hh
          · refine lc_skip hacc e sp ?_
            exact OnesR.no r (Bool.eq_false_iff.mpr hh)
      · rintro acc H6 h1 s6 r
        rw [hrl] at r
        obtain ⟨m3, rfl, hm3⟩ := OnesR.nb r
        refine ⟨Nat.zero_le _, fun p hp => ?_⟩
        have sp := same_new (o := .lst []) hp
        refine ⟨.list ((List.replicate m3 (1 : Int)).map PyData.int), .list [], .lst (SqL.of (sp _ _ h1)) (dpAll_ints _), .lst (SqL.of upd_same) .nil, shaped_intsL _, shaped_intsL [], ?_⟩
        rw [ones_eqv, hm3]
        exact cont _ _ ⟨s6.trans sp, rfl⟩
    rintro _ H26 ⟨s26, rfl⟩
    have R26 := R25.same s26
    have hub := dp_same s26 _ hub
    have hup := dp_same s26 _ hup
    clear R25 s26 hrows hrd hrl
    dsimp only [gName]
    refine at_st [some (.ref b), some (.ref a), some (.int most), some (.ref l), some (.ref lf), some (.ref ae), some (.str (PyData.list [webD n ts, deedsD es]).shown), some (.ref au), some (.ref q), some (.ref pn), some (.str (numsD ts.length (behind ts (fun _ => 0) es)).shown), some ub, some up, some (.ref l3), some (.bl (nbB ts (fun _ => 0) (tog n ev es))), none, none, none, none, none, none] rfl ?_
    refine tSeq_go ?_
    have smB : Sm (deedsD ((tog n ev es).reverse.map Deed.neg)) 2001 4 := (sm_fine (fun d hd => by
      obtain ⟨d', hd', rfl⟩ := List.mem_map.mp hd
      exact fine_neg (fdue d' (List.mem_reverse.mp hd'))) (by rw [List.length_map, List.length_reverse]; omega)).mono (by omega) (by omega)
    have showB : Show (.list [deedsD ((tog n ev es).reverse.map Deed.neg), .bool (nbB ts (fun _ => 0) (tog n ev es))]) := sm_show (sm_lst (c := 2001) (k := 4) (by
      intro d hd
      simp only [List.mem_cons, List.not_mem_nil, or_false] at hd
      rcases hd with rfl | rfl
      · exact smB
      · exact (sm_bool _).mono (by omega) (by omega))) (by show 2 * 2001 + 1 ≤ 15000; decide) (by decide)
    refine tIfS_t (fun t H' => Same H26 H' ∧ t = false) ?_ ?_ (fun cont => ?_)
    · rintro H' ⟨_, z⟩
      cases z
    rotate_left
    · refine ⟨_, rfl, .ref au, tog n ev es, rfl, R26.at4, by omega, fun u7 H27 s27 hu7 => ?_⟩
      have R27 := R26.same s27
      refine ⟨_, rfl, _, rfl, _, rfl, .ref a, .ref pn, .ref au, n, ts, _, tog n ev es, rfl, rW R27, R27.at0, R27.at4, hdueok, by omega, fun H28 s28 => ?_⟩
      refine ⟨by show 2 ≤ sizeLine; decide, fun q7 hq7 => ?_⟩
      have s29 := same_new (o := .lst [u7, .bl (nbB ts (fun _ => 0) (tog n ev es))]) hq7
      refine ⟨.ref q7, .list [deedsD ((tog n ev es).reverse.map Deed.neg), .bool (nbB ts (fun _ => 0) (tog n ev es))], rfl, .lst (SqL.of upd_same) (.cons (dp_same (s28.trans s29) _ hu7) (.cons (.bl _) .nil)), showB, ?_⟩
      refine ⟨_, rfl, _, rfl, by show 2 ≤ sizeLine; decide, fun q8 hq8 => ?_⟩
      have s30 := same_new (o := .lst [ub, .bl (nbB ts (fun _ => 0) (tog n ev es))]) hq8
      have sA := s27.trans (s28.trans (s29.trans s30))
      refine ⟨.ref q8, .list [deedsD ((tog n ev es).reverse.map Deed.neg), .bool (nbB ts (fun _ => 0) (tog n ev es))], rfl, .lst (SqL.of upd_same) (.cons (dp_same sA _ hub) (.cons (.bl _) .nil)), showB, rfl, _, rfl, ?_⟩
      exact cont _ _ ⟨sA, by simp⟩
    rintro H27 ⟨s27, _⟩
    have R27 := R26.same s27
    have hup := dp_same s27 _ hup
    clear R26 s27 hub
    dsimp only [tNext]
    refine tSeq_go ?_
    -- lifted
    have hpos : ∀ d ∈ posD (tog n ev es), d ∈ tog n ev es := fun d hd => (List.mem_filter.mp hd).1
    have hlift : liftL (posD (tog n ev es)) = posD (tog n ev es) := by
      obtain ⟨e1, e2⟩ := pos_of_pos (ds := posD (tog n ev es)) pos_mem
      unfold liftL
      rw [e1, e2, List.append_nil]
    have hbad : badB ts (fun _ => 0) (posD (tog n ev es)) = false := by
      unfold badB
      rw [Bool.or_eq_false_iff]
      refine ⟨negB_false.mpr fun k _ => Int.le_refl _, negB_false.mpr fun k _ => ?_⟩
      rw [behind_eq]
      have := eff_pos (ts := ts) k (ds := posD (tog n ev es)) pos_mem
      omega
    have hposl : (posD (tog n ev es)).length ≤ 22 := Nat.le_trans (List.length_filter_le _ _) hduel
    have showP : Show (deedsD (posD (tog n ev es))) := sm_show (sm_fine (fun d hd => fdue d (hpos d hd)) (by omega)) (by decide) (by decide)
    refine tIfS_t (fun t H' => Same H27 H' ∧ t = false) ?_ ?_ (fun cont => ?_)
    · rintro H' ⟨_, z⟩
      cases z
    rotate_left
    · refine ⟨_, rfl, _, rfl, _, rfl, .ref a, .ref pn, up, n, ts, _, posD (tog n ev es), rfl, rW R27, R27.at0, hup, fun d hd => hdueok d (hpos d hd), by omega, by omega, fun z => (by rw [hbad] at z; cases z), fun _ u8 H28 s28 hu8 => ?_⟩
      rw [hlift] at hu8
      refine ⟨u8, _, rfl, hu8, showP, ?_⟩
      refine ⟨_, rfl, up, _, rfl, dp_same s28 _ hup, showP, rfl, _, rfl, ?_⟩
      exact cont _ _ ⟨s28, by simp⟩
    rintro H28 ⟨s28, _⟩
    have R28 := R27.same s28
    clear R27 s28 hup hlift hbad showP
    dsimp only [tNext]
    refine tSeq_go ?_
    -- undone again
    have showU : Show (.tuple []) := by
      have := sm_show (sm_fine (ds := []) (fun d hd => absurd hd (List.not_mem_nil)) (by decide)) (by decide) (by decide)
      exact this
    refine tIfS_t (fun t H' => Same H28 H' ∧ t = false) ?_ ?_ (fun cont => ?_)
    · rintro H' ⟨_, z⟩
      cases z
    rotate_left
    · obtain ⟨ae', ex, ee, hae, hex⟩ := dp_tup R28.at5
      cases ee
      have hexl : ex.length = es.length := by rw [dpAll_len hex, List.length_map]
      refine ⟨_, rfl, _, rfl, _, rfl, .ref ae, es, rfl, R28.at5, by omega, fun u9 H29 s29 hu9 => ?_⟩
      obtain ⟨a9', x9, rfl, ha9, hx9⟩ := dp_tup hu9
      have hx9l : x9.length = es.length := by rw [dpAll_len hx9, List.length_map, List.length_map, List.length_reverse]
      refine catA_by rfl rfl (sqT_same s29 hae) ha9 (by omega) fun cc H30 s30 hcat => ?_
      have hcd : Dp K H30 (.ref cc) (deedsD (es ++ es.reverse.map Deed.neg)) := .tup hcat (by
        rw [List.map_append]
        exact dpAll_app (dpAll_same (s29.trans s30) _ hex) (dpAll_same s30 _ hx9))
      refine ⟨.ref a, .ref cc, n, ts, zs, _, rfl, rW (R28.same (s29.trans s30)), hcd, hE, fun d hd => ?_, by omega, by rw [List.length_append, List.length_map, List.length_reverse]; omega, fun u10 H31 s31 hu10 => ?_⟩
      · rcases List.mem_append.mp hd with z | z
        · exact hin' d z
        · obtain ⟨d', hd', rfl⟩ := List.mem_map.mp z
          exact in_neg (hin' d' (List.mem_reverse.mp hd'))
      rw [tog_undo] at hu10
      refine ⟨u10, .tuple [], rfl, hu10, showU, ?_⟩
      refine ⟨by show 0 ≤ sizeLine; decide, fun p hp => ?_⟩
      refine ⟨.ref p, .tuple [], rfl, .tup (SqT.of upd_same) .nil, showU, rfl, _, rfl, ?_⟩
      exact cont _ _ ⟨s29.trans (s30.trans (s31.trans (same_new hp))), by simp⟩
    rintro H29 ⟨s29, _⟩
    have R29 := R28.same s29
    clear R28 s29
    dsimp only [tNext]
    refine tSeq_go ?_
    -- twice
    obtain ⟨au', ux, eu, hau, hux⟩ := dp_tup R29.at4
    cases eu
    have huxl : ux.length = (tog n ev es).length := by rw [dpAll_len hux, List.length_map]
    refine tAsg_by (fun u H' => Same H29 H' ∧ Dp K H' u (deedsD ((tog n ev es).map Deed.dbl))) ?_ (fun cont => ?_)
    rotate_left
    · refine ⟨_, rfl, au, rfl, ⟨_, hau⟩, fun E1 hE1 => ?_⟩
      refine lc_run (walk_tup (xs := ux)) hE1 (fun i acc H0 => DpAll K H0 acc (((tog n ev es).take i).map Deed.dbl |>.map Deed.D)) ?_ ?_ ?_ ?_
      · exact fun H' s => sqT_same s hau
      · exact .nil
      · rintro i x acc H2 H' hi hacc e s r' ⟨rfl, hx⟩
        obtain ⟨dd, hdd, hdp⟩ := dpAll_get (dpAll_same s _ hux) hx
        obtain ⟨d, hdj, rfl⟩ := get_map hdd
        obtain ⟨ax, va, rfl, hax, hva⟩ := dp_deed hdp
        refine ⟨ax, _, rfl, hax, rfl, _, _, rfl, _, _, rfl, _, _, rfl, rfl, rfl, yes_go ?_⟩
        refine ⟨_, rfl, _, rfl, _, rfl, _, _, rfl, rfl, .inl ⟨by decide, by decide⟩, by show 3 ≤ sizeLine; decide, fun p hp => ?_⟩
        dsimp only
        rw [show 2 * d.times = (Deed.dbl d).times by cases d <;> rfl]
        have sp : Same H' (upd H' p (.tup [.str d.word, va, .int (Deed.dbl d).times])) := same_new hp
        have np : p ≠ E1 := by
          rintro rfl
          rw [hacc] at hp
          cases hp
        have hal : acc.length ≤ 100 := by
          have hsl : (tog n ev es).length ≤ 100 := by omega
          rw [dpAll_len r', List.length_map, List.length_map, List.length_take]
          omega
        refine lc_add hacc e sp (by omega) ?_
        rw [take_snoc hdj, List.map_append, List.map_append]
        refine dpAll_app (dpAll_same (era_same sp) _ r') (.cons ?_ .nil)
        have kf : KF H' (era (upd H' p (.tup [.str d.word, va, .int (Deed.dbl d).times])) E1) := fun z o hz q => by
          have nz : z ≠ E1 := by
            rintro rfl
            rw [hacc] at hz
            obtain ⟨_, rfl | ⟨_, rfl⟩⟩ := q <;> cases hz
          rw [era_ne nz]
          exact sp _ _ hz
        have hva' := dp_kf kf _ (by cases d with | star p t => simp [Deed.about, still] | round ks t => exact still_lot ks) hva
        have hpn : SqT K (era (upd H' p (.tup [.str d.word, va, .int (Deed.dbl d).times])) E1) p [.str d.word, va, .int (Deed.dbl d).times] := SqT.of (by rw [era_ne np, upd_same])
        cases d with
        | star p' t => exact .tup hpn (.cons (.str _) (.cons hva' (.cons (.int _) .nil)))
        | round ks t => exact .tup hpn (.cons (.str _) (.cons hva' (.cons (.int _) .nil)))
      rintro acc H6 h1 s6 r'
      rw [huxl, List.take_of_length_le (Nat.le_refl _)] at r'
      refine ⟨E1, _, rfl, .inl ⟨SqL.of h1, fun u hu => ?_⟩⟩
      have su := same_new (o := .tup acc) hu
      exact cont _ _ ⟨s6.trans su, .tup (SqT.of upd_same) (dpAll_same (era_back.trans su) _ r')⟩
    rintro ut H30 ⟨s30, hut⟩
    have R30 := R29.same s30
    clear R29 s30 hau hux
    dsimp only [gName]
    have showD : Show (deedsD ((tog n ev es).map Deed.dbl)) := sm_show (sm_fine (fun d hd => by
      obtain ⟨d', hd', rfl⟩ := List.mem_map.mp hd
      exact fine_dbl (Nat.lt_of_le_of_lt (tog_abs hBs hd') hB190) (fdue d' hd')) (by rw [List.length_map]; omega)) (by decide) (by decide)
    obtain ⟨ae', ex, ee, hae, hex⟩ := dp_tup R30.at5
    cases ee
    have hexl : ex.length = es.length := by rw [dpAll_len hex, List.length_map]
    refine ⟨_, rfl, _, rfl, _, rfl, ?_⟩
    refine catA_by rfl rfl hae hae (by omega) fun cc H31 s31 hcat => ?_
    have hcd : Dp K H31 (.ref cc) (deedsD (es ++ es)) := .tup hcat (by
      rw [List.map_append]
      exact dpAll_app (dpAll_same s31 _ hex) (dpAll_same s31 _ hex))
    have R31 := R30.same s31
    refine ⟨.ref a, .ref cc, n, ts, zs, _, rfl, rW R31, hcd, hE, fun d hd => ?_, by omega, by rw [List.length_append]; omega, fun u11 H32 s32 hu11 => ?_⟩
    · rcases List.mem_append.mp hd with z | z
      · exact hin' d z
      · exact hin' d z
    rw [hev, tog_twice] at hu11
    refine ⟨u11, _, rfl, hu11, showD, ?_⟩
    refine ⟨_, rfl, ut, _, rfl, dp_same (s31.trans s32) _ hut, showD, rfl, ?_⟩
    have R32 := R31.same s32
    refine ⟨true, congrArg V.bl (decide_eq_true rfl), iteT ?_⟩
    refine ⟨_, rfl, _, rfl, by show 2 ≤ sizeLine; decide, fun q9 hq9 => ?_⟩
    have s33 := same_new (o := .lst [.ref a, .ref ae]) hq9
    have R33 := R32.same s33
    refine ⟨.ref q9, .list [webD n ts, deedsD es], rfl, .lst (SqL.of upd_same) (.cons (rW R33) (.cons R33.at5 .nil)), showWE, ?_⟩
    refine ⟨_, rfl, rfl, ?_⟩
    rw [decide_eq_true rfl]
    exact k _ R33.kp R33.bx
end
end BV

/-! sorted(xs), xs a list of alike data -/
namespace BV
open PySem L2 PySem.W PySem.SeqAt PyProof.Rows
theorem each_dpE {β : Type} {enc : β → PyData} {K : PySem.W.Frag} {H : Hp} : ∀ {bs : List β} {xs : List V} {us : List Value}, Vals xs us → DpAll K H xs (bs.map enc) → EachIs (fun v b => ∃ x : V, RelV x v ∧ Dp K H x (enc b)) us bs
  | [], _, _, r, h => by
    have h' : DpAll K H _ [] := h
    cases h'
    cases r
    exact .nil
  | l :: bs, _, _, r, h => by
    have h' : DpAll K H _ (enc l :: bs.map enc) := h
    cases h' with
    | cons d ds =>
      cases r with
      | cons r1 rs => exact .cons ⟨_, r1, d⟩ (each_dpE rs ds)
theorem dp_eachE {β : Type} {enc : β → PyData} {K : PySem.W.Frag} {H : Hp} : ∀ {bs : List β} {us : List Value}, EachIs (fun v b => ∃ x : V, RelV x v ∧ Dp K H x (enc b)) us bs → ∃ ys, Vals ys us ∧ DpAll K H ys (bs.map enc)
  | _, _, .nil => ⟨[], .nil, .nil⟩
  | _, _, .cons ⟨x, r, d⟩ t => by
    obtain ⟨ys, h1, h2⟩ := dp_eachE t
    exact ⟨x :: ys, .cons r h1, .cons d h2⟩
def rSortD {β : Type} (enc : β → PyData) (K : PySem.W.Frag) : List V → Hp → VK → Prop := fun vs H Q => ∃ (a : Addr) (xs : List V) (bs : List β), vs = [V.ref a] ∧ SqL K H a xs ∧ DpAll K H xs (bs.map enc) ∧ AllAlike (bs.map enc) ∧ Sortable (bs.map enc) ∧ (∀ b ∈ bs, (enc b).depth ≤ 40) ∧
  ∀ (p : Addr) (ys : List V), H p = none → DpAll K H ys ((bs.mergeSort (dataLe false enc)).map enc) → Q (.ref p) (upd H p (.lst ys))
theorem cr_sortD {β : Type} (enc : β → PyData) {X : Cx} (K : PySem.W.Frag) (hu : X.A.units + 64 < cLine) (h : X.K = K := by rfl) : CallR X (.builtin "sorted") (rSortD enc K) := by
  subst h
  intro pins s σ H vs us Q I r h
  obtain ⟨a, xs, bs, rfl, hs, hd, hal, hk, hdep, q⟩ := h
  obtain ⟨its, rv, hl, hz⟩ := I.list hs
  rw [Vals.ref1 r]
  have e := each_dpE rv hd
  have er : EachIs (fun v b => ∃ as, Reads s.heap v (enc b) as) its bs := e.mono fun v b ⟨x, r, d⟩ => Dp.reads I _ x v d r
  refine sorted_data hl.isList e er hal hk (by rw [← e.length, ← rv.length]; exact hz) (fun b hb => by have := hdep b hb; omega) fun out ho eo => ?_
  obtain ⟨ys, hv, hD⟩ := dp_eachE eo
  obtain ⟨ep, he'⟩ := PyProof.Rows.sortedAll_at s.heap its (List.toArray out)
  have hlen : ys.length ≤ sizeLine := by
    rw [hv.length, ho, ← e.length, ← rv.length]
    exact hz
  exact ⟨.ref _, upd H (s.heap.objs.size + 1) (.lst ys), I.laid (t' := s.toks) (fun _ _ => PyProof.Rows.sortedAll_old) (Nat.le_succ _) ⟨hlen, out, ep, hv, he'⟩, rfl, q _ ys (I.hok.fresh (Nat.le_succ _)) hD⟩
theorem indexDK {X : Cx} (K : PySem.W.Frag) (hu : X.A.units + 65 < cLine) (h : X.K = K := by rfl) : MtR X "list.index" (rIndexD K) := by
  subst h
  exact mt_indexD hu
/-! lots by their rows -/
def bitsE (L : Nat) (E : List Nat) : List Int := (List.range L).map fun k => if k ∈ E then 1 else 0
def rowE (L : Nat) (E : List Nat) : PyData := .tuple [.list ((bitsE L E).map PyData.int), lotD E]
theorem bits_lt : ∀ (L : Nat) {y z : Nat}, z < 2 ^ L → y < z → ((List.range L).map fun k => ((y / 2 ^ (L - 1 - k) % 2 : Nat) : Int)) < (List.range L).map fun k => ((z / 2 ^ (L - 1 - k) % 2 : Nat) : Int)
  | 0, y, z, hz, h => by
    rw [Nat.pow_zero] at hz
    omega
  | L + 1, y, z, hz, h => by
    have step : ∀ w : Nat, ((List.range (L + 1)).map fun k => ((w / 2 ^ (L + 1 - 1 - k) % 2 : Nat) : Int)) = ((w / 2 ^ L % 2 : Nat) : Int) :: (List.range L).map fun k => ((w % 2 ^ L / 2 ^ (L - 1 - k) % 2 : Nat) : Int) := fun w => by
      rw [List.range_succ_eq_map, List.map_cons, List.map_map]
      congr 1
      refine List.map_congr_left fun k hk => ?_
      have hk' := List.mem_range.mp hk
      show ((w / 2 ^ (L + 1 - 1 - (k + 1)) % 2 : Nat) : Int) = _
      congr 1
      rw [show L + 1 - 1 - (k + 1) = L - 1 - k by omega]
      generalize hi : L - 1 - k = i
      have e2 : 2 ^ L = 2 ^ i * (2 * 2 ^ (L - i - 1)) := by
        rw [← Nat.pow_succ', ← Nat.pow_add]
        congr 1
        omega
      have e3 : w = w % 2 ^ L + 2 ^ i * (2 * 2 ^ (L - i - 1) * (w / 2 ^ L)) := by
        rw [← Nat.mul_assoc, ← e2]
        exact (Nat.mod_add_div w (2 ^ L)).symm
      conv => lhs; rw [e3]
      rw [Nat.add_mul_div_left _ _ (Nat.pow_pos (by decide))]
      generalize w % 2 ^ L / 2 ^ i = a
      rw [Nat.mul_assoc]
      generalize 2 ^ (L - i - 1) * (w / 2 ^ L) = b
      omega
    rw [step, step, List.cons_lt_cons_iff]
    have hp : 0 < 2 ^ L := Nat.pow_pos (by decide)
    have hz2 : z / 2 ^ L < 2 := Nat.div_lt_of_lt_mul (by rw [Nat.pow_succ] at hz; omega)
    have hyz : y / 2 ^ L ≤ z / 2 ^ L := Nat.div_le_div_right (Nat.le_of_lt h)
    by_cases e : y / 2 ^ L = z / 2 ^ L
    · right
      refine ⟨by rw [e], bits_lt L (Nat.mod_lt _ hp) ?_⟩
      have h1 := Nat.mod_add_div y (2 ^ L)
      have h2 := Nat.mod_add_div z (2 ^ L)
      rw [e] at h1
      omega
    · left
      have a1 : y / 2 ^ L % 2 < z / 2 ^ L % 2 := by
        generalize y / 2 ^ L = u at *
        generalize z / 2 ^ L = v at *
        omega
      exact Int.ofNat_lt.mpr a1
theorem bitsE_N (L z : Nat) : bitsE L (lotN L z) = (List.range L).map fun k => ((z / 2 ^ (L - 1 - k) % 2 : Nat) : Int) := by
  unfold bitsE
  refine List.map_congr_left fun k hk => ?_
  have hk' := List.mem_range.mp hk
  by_cases h : z / 2 ^ (L - 1 - k) % 2 = 1
  · rw [if_pos (mem_lotN.mpr ⟨hk', h⟩), h]
    rfl
  · rw [if_neg fun q => h (mem_lotN.mp q).2]
    have : z / 2 ^ (L - 1 - k) % 2 = 0 := by omega
    rw [this]
    rfl
theorem rowE_alike (L : Nat) (E F : List Nat) : alike (rowE L E) (rowE L F) = true := by
  have h1 := alike_ints (bitsE L E) (bitsE L F)
  have h2 := lotD_alike E F
  unfold rowE
  simp only [alike, alikeAll, h1, h2, Bool.and_self]
theorem rowE_depth (L : Nat) (E : List Nat) : (rowE L E).depth ≤ 40 := by
  have h1 := depth_ints (bitsE L E)
  have h2 := lotD_depth E
  unfold rowE
  simp only [PyData.depth, PyData.depthAll]
  omega
theorem rowE_lt {L y z : Nat} (hz : z < 2 ^ L) (h : y < z) : dataLt (rowE L (lotN L y)) (rowE L (lotN L z)) = true := by
  have hb := bits_lt L hz h
  rw [← bitsE_N, ← bitsE_N] at hb
  have hal : alike (.list ((bitsE L (lotN L y)).map PyData.int)) (.list ((bitsE L (lotN L z)).map PyData.int)) = true := by
    simp only [alike]
    exact alike_ints _ _
  unfold rowE
  rw [dataLt_pair hal (lotD_alike _ _)]
  have hne : PyData.eqv (.list ((bitsE L (lotN L y)).map PyData.int)) (.list ((bitsE L (lotN L z)).map PyData.int)) = false := by
    rw [PyData.eqv, PySem.W.ked_eqvAll]
    refine decide_eq_false fun e => ?_
    rw [e] at hb
    exact absurd hb (List.lt_irrefl _)
  rw [hne, if_neg (by decide), dataLt_list]
  show rowLt _ _ = true
  rw [dataLt_ints]
  exact decide_eq_true hb
/-- the lots in order are told by numbers that ascend -/
theorem sort_rows {L : Nat} {Es : List (List Nat)} (hn : Es.Nodup) (hA : ∀ E ∈ Es, LotA L E) :
    ∃ zs : List Nat, Es.mergeSort (dataLe false (rowE L)) = zs.map (lotN L) ∧ zs.Pairwise (· < ·) ∧ (∀ z ∈ zs, z < 2 ^ L) ∧ zs.length = Es.length ∧ ∀ E, E ∈ zs.map (lotN L) ↔ E ∈ Es := by
  obtain ⟨ws, hw⟩ : ∃ ws : List Nat, Es = ws.map (lotN L) ∧ ∀ z ∈ ws, z < 2 ^ L := by
    clear hn
    induction Es with
    | nil => exact ⟨[], rfl, fun z hz => absurd hz List.not_mem_nil⟩
    | cons E Es ih =>
      obtain ⟨ws, h1, h2⟩ := ih fun F hF => hA F (List.mem_cons_of_mem _ hF)
      obtain ⟨z, hz, rfl⟩ := lotN_all (hA E (List.mem_cons_self ..))
      refine ⟨z :: ws, by rw [h1]; rfl, fun y hy => ?_⟩
      rcases List.mem_cons.mp hy with e | e
      · subst e
        exact hz
      · exact h2 y e
  have pm := List.mergeSort_perm Es (dataLe false (rowE L))
  generalize hM : Es.mergeSort (dataLe false (rowE L)) = M at *
  obtain ⟨zs, hz1, hz2⟩ : ∃ zs : List Nat, M = zs.map (lotN L) ∧ ∀ z ∈ zs, z < 2 ^ L := by
    have hAM : ∀ E ∈ M, LotA L E := fun E hE => hA E (pm.mem_iff.mp hE)
    clear pm hM
    induction M with
    | nil => exact ⟨[], rfl, fun z hz => absurd hz List.not_mem_nil⟩
    | cons E Es ih =>
      obtain ⟨ws, h1, h2⟩ := ih fun F hF => hAM F (List.mem_cons_of_mem _ hF)
      obtain ⟨z, hz, rfl⟩ := lotN_all (hAM E (List.mem_cons_self ..))
      refine ⟨z :: ws, by rw [h1]; rfl, fun y hy => ?_⟩
      rcases List.mem_cons.mp hy with e | e
      · subst e
        exact hz
      · exact h2 y e
  have tr : ∀ a b c : List Nat, dataLe false (rowE L) a b = true → dataLe false (rowE L) b c = true → dataLe false (rowE L) a c = true := (sortLe_total (listOrd itemOrd) false fun b => keyToks (rowE L b)).trans
  have to : ∀ a b : List Nat, (dataLe false (rowE L) a b || dataLe false (rowE L) b a) = true := fun a b => by
    have := (sortLe_total (listOrd itemOrd) false fun b => keyToks (rowE L b)).total a b
    rw [Bool.or_eq_true]
    exact this
  have hp := List.pairwise_mergeSort tr to Es
  rw [hM, hz1] at hp
  have hnM : (zs.map (lotN L)).Nodup := by
    rw [← hz1]
    exact pm.nodup_iff.mpr hn
  have hp2 := List.pairwise_map.mp hp
  have hn2 := List.pairwise_map.mp hnM
  refine ⟨zs, hz1, (hp2.and hn2).imp_of_mem fun {a b} ha hb ⟨q1, q2⟩ => ?_, hz2, by rw [← pm.length_eq, hz1, List.length_map], fun E => by rw [← hz1]; exact pm.mem_iff⟩
  have hne : a ≠ b := fun e => q2 (by rw [e])
  refine (Nat.lt_or_gt_of_ne hne).elim id fun hlt => ?_
  have := rowE_lt (hz2 a ha) hlt
  have q1' : (!dataLt (rowE L (lotN L b)) (rowE L (lotN L a))) = true := q1
  rw [this] at q1'
  cases q1'
end BV
namespace BV
open PySem L2
theorem pe_bmK {X : Cx} (K : PySem.W.Frag) {T : String} {id : String} {name : Str} {r : V → List V → Hp → VK → Prop} {o e : Expr} {es : List Expr} {to : TE} {t : TA} {apos cpos : Pos}
    (pa : PlainAttrs T) (slot : Slot T name id) (hty : typeOf (.builtin id) = pure (.type "method_descriptor")) (hm : MtR X id r) (ho : PE X o to) (ha : PA X (e :: es) t)
    (hbase : attributeBase o name X.env (eval o X.env) = eval o X.env := by rfl)
    (hfew : ((backTo cpos (starEach (e :: es) X.env)).all (fun x => !x.1) && (backToKw cpos (keywordEach [] X.env)).all (fun x => x.1.isSome)
      && decide ((e :: es).length + ([] : List Keyword).length + (if ([] : List Keyword).isEmpty then 0 else 1) < 30)) = true := by rfl)
    (hline : (apos.endLine == cpos.line) = true := by rfl) (hs : starEach (e :: es) X.env = (false, eval e X.env) :: starEach es X.env := by rfl) (hplain : (backTo cpos (starEach es X.env)).any (·.1) = false := by rfl) (hK : X.K = K := by rfl) :
    PE X (.Call (.Attribute o name apos) (e :: es) [] cpos) (tBM K T r to t) := by
  subst hK
  exact pe_bm pa slot hty hm ho ha hbase hfew hline hs hplain
theorem map_idD (ds : List PyData) : ds.map (fun d : PyData => d) = ds := List.map_id' ds
theorem sort_rowsD {L : Nat} (Es : List (List Nat)) : (Es.map (rowE L)).mergeSort (PySem.W.dataLe false fun d : PyData => d) = (Es.mergeSort (PySem.W.dataLe false (rowE L))).map (rowE L) :=
  (PySem.W.sort_maps (rowE L) (r := PySem.W.dataLe false (rowE L)) (s := PySem.W.dataLe false fun d : PyData => d) (l := Es) fun a _ b _ => rfl).symm
end BV

namespace BV
open PySem L2
/-! pairs and triples of places -/
def pr (t : Tie) : List Nat := [t.1, t.2]
theorem tieD_pr (t : Tie) : tieD t = lotD (pr t) := rfl
theorem ties_pr (ts : List Tie) : ts.map tieD = (ts.map pr).map lotD := by rw [List.map_map]; rfl
def coupL (m : Nat) : List Tie := (List.range m).flatMap fun h => (List.range h).map fun l => (l, h)
theorem coup_succ (m : Nat) : coupL (m + 1) = coupL m ++ (List.range m).map fun l => (l, m) := by
  unfold coupL
  rw [List.range_succ, List.flatMap_append]
  simp
theorem coup_len : ∀ m : Nat, m ≤ 20 → (coupL m).length ≤ m * m
  | 0, _ => Nat.le_refl _
  | m + 1, h => by
    have := coup_len m (by omega)
    rw [coup_succ, List.length_append, List.length_map, List.length_range]
    have : (m + 1) * (m + 1) = m * m + 2 * m + 1 := by
      rw [Nat.succ_mul, Nat.mul_succ]
      omega
    omega
/-- where a tie stands first -/
def fst1 : List Tie → Tie → Nat
  | [], _ => 0
  | u :: us, t => if u = t then 0 else fst1 us t + 1
theorem fst1_at : ∀ {us : List Tie} {t : Tie}, t ∈ us → us[fst1 us t]? = some t
  | [], _, h => absurd h List.not_mem_nil
  | u :: us, t, h => by
    unfold fst1
    by_cases e : u = t
    · rw [if_pos e, e]
      rfl
    · rw [if_neg e]
      have := fst1_at ((List.mem_cons.mp h).elim (fun z => absurd z.symm e) id)
      simpa using this
theorem fst1_no : ∀ {us : List Tie} {t u' : Tie} {m : Nat}, m < fst1 us t → us[m]? = some u' → u' ≠ t
  | [], _, _, m, h, _ => absurd h (Nat.not_lt_zero _)
  | u :: us, t, u', m, h, hm => by
    unfold fst1 at h
    by_cases e : u = t
    · rw [if_pos e] at h
      exact absurd h (Nat.not_lt_zero _)
    · rw [if_neg e] at h
      cases m with
      | zero =>
        have : u = u' := by simpa using hm
        exact this ▸ e
      | succ m => exact fst1_no (us := us) (m := m) (by omega) (by simpa using hm)
theorem fst1_lt {us : List Tie} {t : Tie} (h : t ∈ us) : fst1 us t < us.length := by
  have := fst1_at h
  exact (List.getElem?_eq_some_iff.mp this).1
theorem fst1_inj {us : List Tie} {t u : Tie} (h1 : t ∈ us) (h2 : u ∈ us) (e : fst1 us t = fst1 us u) : t = u := by
  have a1 := fst1_at h1
  have a2 := fst1_at h2
  rw [e, a2] at a1
  exact (Option.some.inj a1).symm
abbrev Trip : Type := Nat × Nat × Nat
def prs (T : Trip) : List Tie := [(T.1, T.2.1), (T.1, T.2.2), (T.2.1, T.2.2)]
def tl3 (m h n : Nat) : List Trip := (List.range n).map fun l => (l, m, h)
def tm3 (h n : Nat) : List Trip := (List.range n).flatMap fun i => tl3 (1 + i) h (1 + i)
def th3 (n : Nat) : List Trip := (List.range n).flatMap fun i => tm3 (2 + i) (1 + i)
theorem tl_succ (m h n : Nat) : tl3 m h (n + 1) = tl3 m h n ++ [(n, m, h)] := by
  unfold tl3
  rw [List.range_succ, List.map_append]
  rfl
theorem tm_succ (h n : Nat) : tm3 h (n + 1) = tm3 h n ++ tl3 (1 + n) h (1 + n) := by
  unfold tm3
  rw [List.range_succ, List.flatMap_append]
  simp
theorem th_succ (n : Nat) : th3 (n + 1) = th3 n ++ tm3 (2 + n) (1 + n) := by
  unfold th3
  rw [List.range_succ, List.flatMap_append]
  simp
def srt (l : List Nat) : List Nat := l.mergeSort fun a b => decide (a ≤ b)
theorem srt_perm (l : List Nat) : (srt l).Perm l := List.mergeSort_perm _ _
theorem srt_asc (l : List Nat) : (srt l).Pairwise (· ≤ ·) := by
  have h := List.pairwise_mergeSort (le := fun a b : Nat => decide (a ≤ b)) (fun a b c h1 h2 => by
    rw [decide_eq_true_eq] at *
    omega) (fun a b => by
    rw [Bool.or_eq_true, decide_eq_true_eq, decide_eq_true_eq]
    omega) l
  exact h.imp fun {a b} z => of_decide_eq_true z
theorem srt_eq {l m : List Nat} (hp : m.Perm l) (hm : m.Pairwise (· ≤ ·)) : m = srt l :=
  (hp.trans (srt_perm l).symm).eq_of_pairwise (le := fun a b => a ≤ b) (fun a b _ _ h1 h2 => Nat.le_antisymm h1 h2) hm (srt_asc l)
def lotT (ts : List Tie) (T : Trip) : List Nat := srt ((prs T).map (fst1 ts))
theorem trips_ok : (th3 4).Nodup ∧ (∀ T ∈ th3 4, ∀ T' ∈ th3 4, T ≠ T' → ∃ p ∈ prs T, p ∉ prs T') ∧ (∀ T ∈ th3 4, ∀ p ∈ prs T, p ∈ coupL 6) ∧ ∀ T ∈ th3 4, (prs T).Nodup := by decide +kernel
theorem trips_len : (th3 4).length = 20 := by decide +kernel
theorem lotT_lot {ts : List Tie} (hp : ts.Perm (coupL 6)) {T : Trip} (hT : T ∈ th3 4) : LotA 15 (lotT ts T) ∧ (lotT ts T).length = 3 := by
  obtain ⟨_, _, h3, h4⟩ := trips_ok
  have mem : ∀ p ∈ prs T, p ∈ ts := fun p hp' => hp.mem_iff.mpr (h3 T hT p hp')
  have len : ts.length = 15 := hp.length_eq.trans (by decide +kernel)
  have nd : ((prs T).map (fst1 ts)).Nodup := List.pairwise_map.mpr ((h4 T hT).imp_of_mem fun {a b} ha hb hab e => hab (fst1_inj (mem a ha) (mem b hb) e))
  have pm := srt_perm ((prs T).map (fst1 ts))
  refine ⟨⟨?_, fun k hk => ?_⟩, ?_⟩
  · have nd2 : (lotT ts T).Nodup := pm.nodup_iff.mpr nd
    refine ((srt_asc ((prs T).map (fst1 ts))).and nd2).imp fun {a b} ⟨z1, z2⟩ => ?_
    omega
  · obtain ⟨p, hp1, rfl⟩ := List.mem_map.mp (pm.mem_iff.mp hk)
    have := fst1_lt (mem p hp1)
    omega
  · exact pm.length_eq.trans rfl
theorem trips_nd {ts : List Tie} (hp : ts.Perm (coupL 6)) : ((th3 4).map (lotT ts)).Nodup := by
  obtain ⟨h1, h2, h3, h4⟩ := trips_ok
  have mem : ∀ T ∈ th3 4, ∀ p ∈ prs T, p ∈ ts := fun T hT p hp' => hp.mem_iff.mpr (h3 T hT p hp')
  refine List.pairwise_map.mpr (h1.imp_of_mem fun {T T'} hT hT' hne e => ?_)
  obtain ⟨p, hp1, hp2⟩ := h2 T hT T' hT' hne
  have a1 : fst1 ts p ∈ lotT ts T := (srt_perm _).mem_iff.mpr (List.mem_map.mpr ⟨p, hp1, rfl⟩)
  rw [e] at a1
  obtain ⟨q, hq1, hq2⟩ := List.mem_map.mp ((srt_perm _).mem_iff.mp a1)
  have := fst1_inj (mem T' hT' q hq1) (mem T hT p hp1) hq2
  exact hp2 (this ▸ hq1)
theorem coup_ok : ∀ sz, 10 ≤ sz → sz < 15 → ((coupL sz).map pr).Nodup ∧ (∀ E ∈ (coupL sz).map pr, (E.Pairwise (· < ·) ∧ ∀ k ∈ E, k < sz) ∧ E.length ≤ 12) ∧ (coupL sz).length ≤ 100 ∧ (coupL sz) ≠ [] := fun sz h1 h2 => by
  have : sz = 10 ∨ sz = 11 ∨ sz = 12 ∨ sz = 13 ∨ sz = 14 := by omega
  rcases this with rfl | rfl | rfl | rfl | rfl <;> decide +kernel
theorem room65 {k : Nat} {A : Around} (r : Room k A) : A.units + 65 < cLine := by have := r.un; omega
theorem dpAll_rep {K : PySem.W.Frag} {H : Hp} {v : V} {d : PyData} (h : Dp K H v d) : ∀ k : Nat, DpAll K H (List.replicate k v) (List.replicate k d)
  | 0 => .nil
  | k + 1 => .cons h (dpAll_rep h k)
end BV

namespace BV
open PySem L2
abbrev sCoup : Stmt := top 31
abbrev nCoup : List Str := ["_law_many", "_law_found", "_law_high", "_law_low"]
abbrev pCoup : List Str := ["_law_many"]
theorem scCoup : FnScope nCoup pCoup (defScope sCoup) := ⟨rfl, rfl, rfl, by decide +kernel, rfl, by decide +kernel, by decide +kernel⟩
abbrev sGreat : Stmt := top 32
abbrev nGreat : List Str := ["_law_box_here", "_law_rows", "_law_size", "_law_lots", "_law_web_here", "_law_ties", "_law_left", "_law_turn", "_law_high", "_law_middle", "_law_low", "_law_lot_here", "_law_row", "_law_three", "_law_tie"]
abbrev pGreat : List Str := ["_law_box_here"]
theorem scGreat : FnScope nGreat pGreat (defScope sGreat) := ⟨rfl, rfl, rfl, by decide +kernel, rfl, by decide +kernel, by decide +kernel⟩

def spCoup (K : PySem.W.Frag) : Sp := fun vs H Q _ => ∃ m : Nat, vs = [.int (m : Nat)] ∧ m ≤ 20 ∧
  ∀ (l : Addr) (xs : List V) H', H l = none → Same H H' → H' l = some (.lst xs) → DpAll K H' xs ((coupL m).map tieD) → Q (.ref l) H'
def spGreat (K : PySem.W.Frag) : Sp := fun vs H Q _ => ∃ (b g : Addr), vs = [.ref b] ∧ Box H b g ∧
  ∀ (p l : Addr) (v : V) (n : Nat) (ts : List Tie) (zs : List Nat) (xs : List V) H', Kp b g H H' → Box H' b g → SqT K H' p [v, .ref l] → Dp K H' v (webD n ts) → 1 ≤ n → n ≤ 1000 → ts.length ≤ 20 → H l = none → H' l = some (.lst xs) →
    DpAll K H' xs ((zs.map (lotN ts.length)).map lotD) → Ev ts.length zs → (∀ ks ∈ zs.map (lotN ts.length), LotOk ts.length ks) → zs.length ≤ 100 → zs ≠ [] → Q (.ref p) H'
section
variable {P : Program} {w : World} {K : PySem.W.Frag} {mg : Str → Option Value} {base : Heap}
theorem ok_coup {f : Addr} {fd : FuncData} (D : Df K mg "_law_couples" sCoup pCoup f fd) (T : Bl mg) : FnOk P w K mg base CX0 1 f fd pCoup (spCoup K) := by
  refine D.fn.ok scCoup (fun vs H Q E h => ?_) (fun cdv A outer s H vs Q E hr h => ?_)
  · obtain ⟨m, rfl, _⟩ := h
    rfl
  · obtain ⟨m, rfl, hm, k⟩ := h
    have nd := scCoup.nd
    refine ⟨_, (pss_cons (ps_set (i := 1) nd rfl (by first | exact Or.inl rfl | exact Or.inr rfl) (pe_lst pa_nil))
      (pss_cons (ps_for PassesOwn.never rfl (pi_range1 rfl T.range (pa_cons (pv 0) pa_nil)) (pg_name (i := 2) nd rfl (by first | exact Or.inl rfl | exact Or.inr rfl)) (pss_one (ps_set (i := 1) nd rfl (by first | exact Or.inl rfl | exact Or.inr rfl) (pe_op op_cat (pv 1) (pe_lc (own := [("_law_low", 3)]) (g := (gName 3)) (tt := tYes) rfl nd (pi_range1 rfl T.range (pa_cons (pv 2) pa_nil)) (blkOk_by (own := [("_law_low", 3)]) (N := nCoup) (sc := defScope sCoup) (by decide +kernel)) (fun _ _ _ _ _ => (pg_name (i := 3) nd rfl (by first | exact Or.inl rfl | exact Or.inr rfl))) (fun _ _ _ _ _ => pts_nil) (fun _ _ _ _ _ => (pe_tup (pa_cons (pv 3) (pa_cons (pv 2) pa_nil)))))))))
      (pss_one (ps_ret (pv 1))))), ?_⟩
    refine ⟨Nat.zero_le _, fun l hl => ?_⟩
    have s0 := same_new (o := .lst []) hl
    refine ⟨_, rfl, _, rfl, by omega, by omega, ?_⟩
    refine for_range (lo := 0) (n := (m : Int).toNat) (fun i σ H' => ∃ (v2 : Option V) (l : Addr) (xs : List V), σ = [some (.int (m : Nat)), some (.ref l), v2, none] ∧ Same H H' ∧ H l = none ∧ H' l = some (.lst xs) ∧ DpAll K H' xs ((coupL i).map tieD)) ?_ ?_ ?_
    · exact ⟨none, l, [], rfl, s0, hl, upd_same, .nil⟩
    · clear s0 hl l
      rintro i σ H1 hi ⟨v2, l, xs, rfl, sH, hlN, hL, hLd⟩
      have hi2 : i < m := by omega
      rw [Int.zero_add]
      refine ⟨_, rfl, _, rfl, _, rfl, by omega, by omega, fun E1 hE1 => ?_⟩
      refine lc_run (walk_range (lo := 0) (n := (i : Int).toNat)) hE1 (fun j acc Hq => acc.length = j ∧ DpAll K Hq acc (((List.range j).map fun l => (l, i)).map tieD)) ?_ ?_ ?_ ?_
      · exact fun H' s => trivial
      · exact ⟨rfl, .nil⟩
      · rintro j x acc H2 H' hj hacc e s ⟨r1, r2⟩ ⟨rfl, hx⟩
        have hx : x = .int (0 + (j : Int)) := hx
        subst hx
        rw [Int.zero_add]
        refine ⟨rfl, yes_go ?_⟩
        refine ⟨_, rfl, _, rfl, by show 2 ≤ sizeLine; decide, fun p hp => ?_⟩
        have sp := same_new (o := .tup [.int (j : Int), .int (i : Int)]) hp
        have np : p ≠ E1 := by
          rintro rfl
          rw [hacc] at hp
          cases hp
        refine lc_add hacc e sp (by omega) ?_
        refine ⟨by rw [List.length_append, List.length_singleton, r1], ?_⟩
        rw [List.range_succ, List.map_append, List.map_append]
        refine dpAll_app (dpAll_same (era_same sp) _ r2) (.cons (.tup (SqT.of ?_) (.cons (.int _) (.cons (.int _) .nil))) .nil)
        rw [era_ne np, upd_same]
      · rintro acc H2 h1 s2 ⟨r1, r2⟩
        rw [Int.toNat_natCast] at r1 r2
        have hc := coup_len i (by omega)
        have hxl : xs.length = (coupL i).length := by rw [dpAll_len hLd, List.length_map]
        have hii : i * i ≤ 20 * 20 := Nat.mul_le_mul (by omega) (by omega)
        refine ⟨l, E1, xs, acc, rfl, rfl, s2 _ _ hL, h1, Nat.le_trans (show xs.length + acc.length ≤ 1000 by omega) (by decide), fun p hp => ?_⟩
        have sp := same_new (o := .lst (xs ++ acc)) hp
        refine ⟨_, p, _, rfl, sH.trans (s2.trans sp), Same.free sH (Same.free s2 hp), upd_same, ?_⟩
        rw [coup_succ, List.map_append]
        exact dpAll_app (dpAll_same (s2.trans sp) _ hLd) (dpAll_same (era_back.trans sp) _ r2)
    · clear s0 hl l
      rintro σ H1 ⟨v2, l, xs, rfl, sH, hlN, hL, hLd⟩
      rw [Int.toNat_natCast] at hLd
      exact ⟨_, rfl, k l xs _ hlN sH hL hLd⟩
theorem ok_great {f f1 f2 : Addr} {fd fd1 fd2 : FuncData} (D : Df K mg "_law_great" sGreat pGreat f fd) (T : Bl mg) (hsorted : mg "sorted" = none)
    (D_draw : Df K mg "_law_draw" sDraw ["_law_box_here", "_law_many"] f1 fd1) (D_couples : Df K mg "_law_couples" sCoup pCoup f2 fd2) : FnOk P w K mg base CX0 2 f fd pGreat (spGreat K) := by
  have G_draw : FnOk P w K mg base CX0 1 f1 fd1 ["_law_box_here", "_law_many"] spDraw := ok_draw D_draw T
  have G_couples : FnOk P w K mg base CX0 1 f2 fd2 pCoup (spCoup K) := ok_coup D_couples T
  refine D.fn.ok scGreat (fun vs H Q E h => ?_) (fun cdv A outer s H vs Q E hr h => ?_)
  · obtain ⟨b, g, rfl, _⟩ := h
    rfl
  · obtain ⟨b, g, rfl, hB, k⟩ := h
    have hr_draw : Room 1 _ := hr
    have hr_couples : Room 1 _ := hr
    have hu64 := hr.units
    have hu65 := room65 hr
    have nd := scGreat.nd
    refine ⟨_, (pss_cons (ps_if (pt_cmpR op_eq (pe_call G_draw hr_draw (by rfl) D_draw.ad D_draw.fn.kp D_draw.bd .nil pass0 (pa_cons (pv 0) (pa_cons pe_int pa_nil))) pe_int (nomark _)) (pss_cons (ps_set (i := 2) nd rfl (by first | exact Or.inl rfl | exact Or.inr rfl) (pe_op op_add pe_int (pe_call G_draw hr_draw (by rfl) D_draw.ad D_draw.fn.kp D_draw.bd .nil pass0 (pa_cons (pv 0) (pa_cons pe_int pa_nil)))))
      (pss_one (ps_asg (pe_tup (pa_cons (pe_call G_couples hr_couples (by rfl) D_couples.ad D_couples.fn.kp D_couples.bd .nil pass0 (pa_cons (pv 2) pa_nil)) (pa_cons (pe_tup (pa_cons pe_int (pa_cons (pe_op (op_repN K) (pe_tup (pa_cons (pe_tup (pa_cons pe_int (pa_cons pe_int pa_nil))) pa_nil)) (pv 2)) pa_nil))) pa_nil))) (pgT K rfl (pgs_cons (pg_name (i := 3) nd rfl (by first | exact Or.inl rfl | exact Or.inr rfl)) (pgs_cons (pg_name (i := 4) nd rfl (by first | exact Or.inl rfl | exact Or.inr rfl)) pgs_nil)))))) (pss_cons (ps_asg (pe_tup (pa_cons (pe_lst pa_nil) (pa_cons (pe_call G_couples hr_couples (by rfl) D_couples.ad D_couples.fn.kp D_couples.bd .nil pass0 (pa_cons pe_int pa_nil)) pa_nil))) (pgT K rfl (pgs_cons (pg_name (i := 5) nd rfl (by first | exact Or.inl rfl | exact Or.inr rfl)) (pgs_cons (pg_name (i := 6) nd rfl (by first | exact Or.inl rfl | exact Or.inr rfl)) pgs_nil))))
      (pss_cons (ps_for PassesOwn.never rfl (pi_range1 rfl T.range (pa_cons pe_int pa_nil)) (pg_name (i := 7) nd rfl (by first | exact Or.inl rfl | exact Or.inr rfl)) (pss_one (ps_expr (pe_bm PySem.F.plainAttrs_list PySem.F.slot_list_append PySem.F.type_list_append mt_append (pv 5) (pa_cons (pe_bm PySem.F.plainAttrs_list PySem.F.slot_list_pop PySem.F.type_list_pop mt_popAt (pv 6) (pa_cons (pe_call G_draw hr_draw (by rfl) D_draw.ad D_draw.fn.kp D_draw.bd .nil pass0 (pa_cons (pv 0) (pa_cons (pe_callB (lenK K) (by rfl) T.len PySem.boot_len (pa_cons (pv 6) pa_nil)) pa_nil))) pa_nil)) pa_nil)))))
      (pss_cons (ps_asg (pe_tup (pa_cons (pe_lst pa_nil) (pa_cons (pe_tup (pa_cons pe_int (pa_cons (pe_callTy (tupleK K) (by rfl) T.tuple (by decide +kernel) (pa_cons (pv 5) pa_nil)) pa_nil))) pa_nil))) (pgT K rfl (pgs_cons (pg_name (i := 3) nd rfl (by first | exact Or.inl rfl | exact Or.inr rfl)) (pgs_cons (pg_name (i := 4) nd rfl (by first | exact Or.inl rfl | exact Or.inr rfl)) pgs_nil))))
      (pss_one (ps_for PassesOwn.never rfl (pi_range2 rfl T.range (pa_cons pe_int (pa_cons pe_int pa_nil))) (pg_name (i := 8) nd rfl (by first | exact Or.inl rfl | exact Or.inr rfl)) (pss_one (ps_for PassesOwn.never rfl (pi_range2 rfl T.range (pa_cons pe_int (pa_cons (pv 8) pa_nil))) (pg_name (i := 9) nd rfl (by first | exact Or.inl rfl | exact Or.inr rfl)) (pss_one (ps_for PassesOwn.never rfl (pi_range1 rfl T.range (pa_cons (pv 9) pa_nil)) (pg_name (i := 10) nd rfl (by first | exact Or.inl rfl | exact Or.inr rfl)) (pss_cons (ps_set (i := 13) nd rfl (by first | exact Or.inl rfl | exact Or.inr rfl) (pe_lst (pa_cons (pe_tup (pa_cons (pv 10) (pa_cons (pv 9) pa_nil))) (pa_cons (pe_tup (pa_cons (pv 10) (pa_cons (pv 8) pa_nil))) (pa_cons (pe_tup (pa_cons (pv 9) (pa_cons (pv 8) pa_nil))) pa_nil)))))
      (pss_one (ps_expr (pe_bm PySem.F.plainAttrs_list PySem.F.slot_list_append PySem.F.type_list_append mt_append (pv 3) (pa_cons (pe_callTy (tupleK K) (by rfl) T.tuple (by decide +kernel) (pa_cons (pe_callB cr_sorted (by rfl) hsorted (by decide +kernel) (pa_cons (pe_lc (own := [("_law_tie", 14)]) (g := (gName 14)) (tt := tYes) rfl nd (piL K (pv 13)) (blkOk_by (own := [("_law_tie", 14)]) (N := nGreat) (sc := defScope sGreat) (by decide +kernel)) (fun _ _ _ _ _ => (pg_name (i := 14) nd rfl (by first | exact Or.inl rfl | exact Or.inr rfl))) (fun _ _ _ _ _ => pts_nil) (fun _ _ _ _ _ => (pe_bmK K PySem.F.plainAttrs_list PySem.F.slot_list_index PySem.F.type_list_index (indexDK K hu65) (pv 5) (pa_cons (pv 14) pa_nil)))) pa_nil)) pa_nil)) pa_nil)))))))))))))))
      (pss_cons (ps_set (i := 1) nd rfl (by first | exact Or.inl rfl | exact Or.inr rfl) (pe_callB (cr_sortD (fun d : PyData => d) K hu64) (by rfl) hsorted (by decide +kernel) (pa_cons (pe_lc (own := [("_law_lot_here", 11)]) (g := (gName 11)) (tt := tYes) rfl nd (piL K (pv 3)) (blkOk_by (own := [("_law_lot_here", 11)]) (N := nGreat) (sc := defScope sGreat) (by decide +kernel)) (fun _ _ _ _ _ => (pg_name (i := 11) nd rfl (by first | exact Or.inl rfl | exact Or.inr rfl))) (fun _ _ _ _ _ => pts_nil) (fun _ _ _ _ _ => (pe_tup (pa_cons (pe_lc (own := [("_law_tie", 14)]) (g := (gName 14)) (tt := tYes) rfl nd (pi_range1 rfl T.range (pa_cons (pe_callB (lenK K) (by rfl) T.len PySem.boot_len (pa_cons (pe_ix (ixT K) (pv 4) pe_int (fun _ _ => rfl)) pa_nil)) pa_nil)) (blkOk_by (own := [("_law_tie", 14)]) (N := nGreat) (by first | rfl | decide +kernel)) (fun _ _ _ _ _ => (pg_name (i := 14) nd rfl (by first | exact Or.inl rfl | exact Or.inr rfl))) (fun _ _ _ _ _ => pts_nil) (fun _ _ _ _ _ => (pe_callTy call_int1 (by rfl) T.int (by decide +kernel) (pa_cons (pe_cmpR (opIn K) (pv 14) (pv 11) rfl) pa_nil)))) (pa_cons (pv 11) pa_nil))))) pa_nil)))
      (pss_one (ps_ret (pe_tup (pa_cons (pv 4) (pa_cons (pe_lc (own := [("_law_row", 12), ("_law_lot_here", 11)]) (g := (gTup K 2 (gCons (gName 12) (gCons (gName 11) gNil)))) (tt := tYes) rfl nd (piL K (pv 1)) (blkOk_by (own := [("_law_row", 12), ("_law_lot_here", 11)]) (N := nGreat) (sc := defScope sGreat) (by decide +kernel)) (fun _ _ _ _ _ => (pgT K rfl (pgs_cons (pg_name (i := 12) nd rfl (by first | exact Or.inl rfl | exact Or.inr rfl)) (pgs_cons (pg_name (i := 11) nd rfl (by first | exact Or.inl rfl | exact Or.inr rfl)) pgs_nil)))) (fun _ _ _ _ _ => pts_nil) (fun _ _ _ _ _ => (pv 11))) pa_nil))))))), ?_⟩
    refine tSeq_go ?_
    refine tIfS_by (fun σ' H' => ∃ (L : Nat) (v2 v5 v6 v7 v8 v9 v10 v13 : Option V) (n : Nat) (ts : List Tie) (Es : List (List Nat)) (ll aw : Addr) (xs : List V),
      σ' = [some (.ref b), none, v2, some (.ref ll), some (.ref aw), v5, v6, v7, v8, v9, v10, none, none, v13, none] ∧ RC K b g H H' [(.ref aw, webD n ts)] ∧ ts.length = L ∧
      H' ll = some (.lst xs) ∧ DpAll K H' xs (Es.map lotD) ∧ Es.Nodup ∧ (∀ E ∈ Es, LotA L E ∧ E.length ≤ 12) ∧ Es.length ≤ 100 ∧ Es ≠ [] ∧ L ≤ 20 ∧ 1 ≤ n ∧ n ≤ 1000) ?_ (fun cont => ?_)
    · -- in order
      rintro σ' H1 ⟨L, v2, v5, v6, v7, v8, v9, v10, v13, n, ts, Es, ll, aw, xs, rfl, R1, hL, hX, hXd, hnd, hEs, hel, hne, hL20, hn0, hn⟩
      have hxl : xs.length = Es.length := by rw [dpAll_len hXd, List.length_map]
      dsimp only
      refine tSeq_go ?_
      refine tAsg_by (fun u H' => ∃ (lr : Addr) (ys : List V), u = .ref lr ∧ Same H1 H' ∧ H' lr = some (.lst ys) ∧ DpAll K H' ys ((Es.mergeSort (PySem.W.dataLe false (rowE L))).map (rowE L))) ?_ (fun cont2 => ?_)
      rotate_left
      · refine ⟨_, rfl, ll, rfl, ⟨_, SqL.of hX⟩, fun E1 hE1 => ?_⟩
        refine lc_run (walk_list (xs := xs)) hE1 (fun i acc Hq => acc.length = i ∧ DpAll K Hq acc ((Es.take i).map (rowE L))) ?_ ?_ ?_ ?_
        · exact fun H' s => SqL.of (s _ _ hX)
        · exact ⟨rfl, .nil⟩
        · rintro i x acc H2 H' hi hacc e s ⟨r1, r2⟩ ⟨rfl, hx⟩
          obtain ⟨dd, hdd, hdp⟩ := dpAll_get hXd hx
          obtain ⟨E, hE, rfl⟩ := get_map hdd
          have R2 := R1.same s
          obtain ⟨aw', c, ys, ea, ha, hc, hys⟩ := dp_web R2.at0
          cases ea
          have hyl : ys.length = L := by rw [dpAll_len hys, List.length_map, hL]
          refine ⟨rfl, yes_go ?_⟩
          refine ⟨_, rfl, aw, _, _, _, rfl, rfl, ha, atI_nat (j := 1) rfl, c, ys, rfl, .inr hc, _, rfl, by omega, by omega, fun E2 hE2 => ?_⟩
          have hxE := dp_same s _ hdp
          obtain ⟨ax, rfl, hax⟩ := dp_lotI hxE
          refine lc_run (walk_range (lo := 0) (n := (ys.length : Int).toNat)) hE2 (fun j acc _ => acc = ((List.range j).map fun k => V.int (if k ∈ E then 1 else 0))) ?_ ?_ ?_ ?_
          · exact fun H' s => trivial
          · rfl
          · rintro j y acc3 H3 H4 hj hacc3 e3 s3 r3 ⟨rfl, hy⟩
            have hy : y = .int (0 + (j : Int)) := hy
            subst hy
            rw [Int.zero_add]
            have r3' : acc3 = ((List.range j).map fun k => V.int (if k ∈ E then 1 else 0)) := r3
            refine ⟨rfl, yes_go ?_⟩
            refine ⟨_, rfl, _, rfl, ax, _, rfl, .inr (sqT_same s3 hax), rfl, by rw [List.all_map]; exact List.all_eq_true.mpr fun _ _ => rfl, ?_⟩
            refine .inr ⟨decide (j ∈ E), congrArg (fun z => [V.bl z]) (inv_nats j E), ?_⟩
            refine lc_add hacc3 e3 (Same.refl _) (by rw [r3', List.length_map, List.length_range]; omega) ?_
            rw [List.range_succ, List.map_append, r3']
            by_cases h : j ∈ E <;> simp [h]
          · rintro acc3 H3 h3 s3 r3
            have r3' : acc3 = ((List.range (ys.length : Int).toNat).map fun k => V.int (if k ∈ E then 1 else 0)) := r3
            rw [Int.toNat_natCast, hyl] at r3'
            refine ⟨_, rfl, by show 2 ≤ sizeLine; decide, fun p hp => ?_⟩
            have sp := same_new (o := .tup [.ref E2, .ref ax]) hp
            have np : p ≠ E1 := by
              rintro rfl
              rw [s3 _ _ hacc] at hp
              cases hp
            have n2 : E2 ≠ E1 := by
              rintro rfl
              rw [hacc] at hE2
              cases hE2
            refine lc_add hacc e (s3.trans sp) (by omega) ?_
            refine ⟨by rw [List.length_append, List.length_singleton, r1], ?_⟩
            rw [take_snoc hE, List.map_append]
            refine dpAll_app (dpAll_same (era_same (s3.trans sp)) _ r2) (.cons (.tup (SqT.of (by rw [era_ne np, upd_same])) (.cons (.lst (xs := (bitsE L E).map V.int) (SqL.of ?_) ?_) (.cons (dp_same (e.trans (era_same (s3.trans sp))) _ hdp) .nil))) .nil)
            · rw [era_ne n2, sp _ _ h3, r3']
              unfold bitsE
              rw [List.map_map]
              rfl
            · exact dpAll_ints _
        · rintro acc H2 h1 s2 ⟨r1, r2⟩
          rw [hxl, List.take_of_length_le (Nat.le_refl _)] at r2
          refine ⟨E1, acc, Es.map (rowE L), rfl, SqL.of h1, ?_, ?_, ?_, fun d hd => ?_, fun p ys hp hys => ?_⟩
          · rw [map_idD]
            exact dpAll_same era_back _ r2
          · rw [map_idD]
            exact PySem.W.AllAlike.of (rowE_alike L)
          · rw [map_idD]
            refine .inl fun d hd => ?_
            obtain ⟨E, _, rfl⟩ := List.mem_map.mp hd
            exact ⟨_, _, rfl⟩
          · obtain ⟨E, _, rfl⟩ := List.mem_map.mp hd
            exact rowE_depth L E
          · rw [map_idD, sort_rowsD] at hys
            have sp := same_new (o := .lst ys) hp
            exact cont2 _ _ ⟨p, ys, rfl, s2.trans sp, upd_same, dpAll_same sp _ hys⟩
      rintro ur H2 ⟨lr, ys, rfl, s2, hY, hYd⟩
      obtain ⟨zs, hz1, hz2, hz3, hz4, hz5⟩ := sort_rows hnd fun E hE => (hEs E hE).1
      rw [hz1] at hYd
      have R2 := R1.same s2
      have hyl : ys.length = zs.length := by rw [dpAll_len hYd, List.length_map, List.length_map]
      dsimp only [gName]
      refine ⟨_, rfl, _, rfl, lr, rfl, ⟨_, SqL.of hY⟩, fun E1 hE1 => ?_⟩
      refine lc_run (walk_list (xs := ys)) hE1 (fun i acc Hq => acc.length = i ∧ DpAll K Hq acc (((zs.map (lotN L)).take i).map lotD)) ?_ ?_ ?_ ?_
      · exact fun H' s => SqL.of (s _ _ hY)
      · exact ⟨rfl, .nil⟩
      · rintro i x acc H3 H' hi hacc e s ⟨r1, r2⟩ ⟨rfl, hx⟩
        obtain ⟨dd, hdd, hdp⟩ := dpAll_get hYd hx
        obtain ⟨E, hE, rfl⟩ := get_map hdd
        obtain ⟨ax, xx, rfl, hax, hxx⟩ := dp_tup (dp_same s _ hdp)
        cases hxx with
        | cons q1 q2 =>
          cases q2 with
          | cons q3 q4 =>
            cases q4
            refine ⟨ax, _, rfl, hax, rfl, _, _, rfl, _, _, rfl, rfl, rfl, yes_go ?_⟩
            refine ⟨_, rfl, ?_⟩
            refine lc_add hacc e (Same.refl _) (by omega) ?_
            refine ⟨by rw [List.length_append, List.length_singleton, r1], ?_⟩
            rw [take_snoc hE, List.map_append]
            refine dpAll_app r2 (.cons (dp_kf (fun z o hz qq => ?_) _ (still_lot E) q3) .nil)
            have nz : z ≠ E1 := by
              rintro rfl
              rw [hacc] at hz
              obtain ⟨_, rfl | ⟨_, rfl⟩⟩ := qq <;> cases hz
            rw [era_ne nz]
            exact hz
      · rintro acc H3 h1 s3 ⟨r1, r2⟩
        rw [hyl, List.take_of_length_le (by rw [List.length_map]; exact Nat.le_refl _)] at r2
        refine ⟨by show 2 ≤ sizeLine; decide, fun p hp => ?_⟩
        have sp := same_new (o := .tup [.ref aw, .ref E1]) hp
        have R3 := R2.same (s3.trans sp)
        have hEN : H E1 = none := by
          obtain ⟨eb, eg⟩ := box_ne R2.bx hE1
          cases hz : H E1 with
          | none => rfl
          | some o =>
            have := R2.kp _ _ hz eb eg
            rw [hE1] at this
            cases this
        subst hL
        refine k p E1 (.ref aw) n ts zs acc _ R3.kp R3.bx (SqT.of upd_same) R3.at0 hn0 hn hL20 hEN (sp _ _ h1) (dpAll_same (era_back.trans sp) _ r2) ⟨hz2, hz3⟩ (fun ks hks => ?_) (by omega) (fun z => ?_)
        · obtain ⟨q1, q2⟩ := hEs ks ((hz5 ks).mp hks)
          exact ⟨q1.2, q1.1.imp fun {a b} z => Nat.ne_of_lt z, q2⟩
        · subst z
          exact hne (List.eq_nil_of_length_eq_zero (by rw [← hz4]; rfl))
    · refine ⟨_, rfl, b, g, 2, rfl, by decide, by decide, hB, fun r H1 r0 r1 kp1 B1 => ?_⟩
      have R1 : RC K b g H H1 [] := ⟨kp1, B1, fun p hp => absurd hp List.not_mem_nil, fun p hp => absurd hp List.not_mem_nil⟩
      clear kp1 B1
      refine ⟨rfl, _, rfl, ?_⟩
      refine ite2 (fun hh => ?_) (fun hh => ?_)
      · -- two places
        refine tSeq_go ?_
        refine ⟨_, rfl, b, g, 5, rfl, by decide, by decide, R1.bx, fun r H2 r0 r1 kp2 B2 => ?_⟩
        have R2 := R1.draw kp2 B2
        obtain ⟨m, rfl⟩ : ∃ m : Nat, r = (m : Int) := ⟨r.toNat, by omega⟩
        refine ⟨_, _, rfl, rfl, ?_⟩
        dsimp only [gName]
        have e10 : (10 : Int) + (m : Int) = ((10 + m : Nat) : Int) := by omega
        rw [e10]
        refine ⟨_, rfl, 10 + m, rfl, by omega, fun lc xs H3 hln s3 hX hXd => ?_⟩
        refine ⟨by show 2 ≤ sizeLine; decide, fun p1 hp1 => ?_⟩
        have t1 := same_new (o := .tup [.int 0, .int 1]) hp1
        refine ⟨by show 1 ≤ sizeLine; decide, fun p2 hp2 => ?_⟩
        have t2 := same_new (o := .tup [.ref p1]) hp2
        refine ⟨_, rfl, p2, 10 + m, .ref p1, rfl, rfl, SqT.of upd_same, by omega, fun p3 H4 t3 hrep => ?_⟩
        refine ⟨by show 2 ≤ sizeLine; decide, fun p4 hp4 => ?_⟩
        have t4 := same_new (o := .tup [.int 2, .ref p3]) hp4
        refine ⟨by show 2 ≤ sizeLine; decide, fun p5 hp5 => ?_⟩
        have t5 := same_new (o := .tup [.ref lc, .ref p4]) hp5
        refine ⟨p5, _, rfl, SqT.of upd_same, rfl, _, _, rfl, _, _, rfl, rfl, ?_⟩
        have tA := t1.trans (t2.trans (t3.trans (t4.trans t5)))
        have hw : Dp K (upd (upd H4 p4 (.tup [.int 2, .ref p3])) p5 (.tup [.ref lc, .ref p4])) (.ref p4) (webD 2 (List.replicate (10 + m) (0, 1))) := by
          refine .tup (SqT.of (t5 _ _ upd_same)) (.cons (.int _) (.cons (.tup (sqT_same (t4.trans t5) hrep) ?_) .nil))
          rw [List.map_replicate]
          exact dpAll_rep (.tup (SqT.of ((t2.trans (t3.trans (t4.trans t5))) _ _ upd_same)) (.cons (.int _) (.cons (.int _) .nil))) _
        obtain ⟨c1, c2, c3, c4⟩ := coup_ok (10 + m) (by omega) (by omega)
        refine cont _ _ ⟨10 + m, _, none, none, none, none, none, none, none, 2, List.replicate (10 + m) (0, 1), (coupL (10 + m)).map pr, lc, p4, xs, rfl, (R2.same (s3.trans tA)).add hw (still_web _ _), List.length_replicate, tA _ _ hX, ?_, c1, c2, ?_, ?_, by omega, by decide, by decide⟩
        · rw [← ties_pr]
          exact dpAll_same tA _ hXd
        · rw [List.length_map]
          exact c3
        · intro z
          exact c4 (List.map_eq_nil_iff.mp z)
      · -- six places
        refine tSeq_go ?_
        refine ⟨Nat.zero_le _, fun l5 hl5 => ?_⟩
        have t1 := same_new (o := .lst []) hl5
        refine ⟨6, rfl, by decide, fun l6 xs6 H2 hl6 s2 hX6 hXd6 => ?_⟩
        refine ⟨by show 2 ≤ sizeLine; decide, fun p1 hp1 => ?_⟩
        have t2 := same_new (o := .tup [.ref l5, .ref l6]) hp1
        refine ⟨p1, _, rfl, SqT.of upd_same, rfl, _, _, rfl, _, _, rfl, rfl, ?_⟩
        obtain ⟨l5b, l5g⟩ := box_ne R1.bx hl5
        have hl61 : H1 l6 = none := Same.free t1 hl6
        obtain ⟨l6b, l6g⟩ := box_ne R1.bx hl61
        have n56 : l5 ≠ l6 := by
          rintro rfl
          rw [upd_same] at hl6
          cases hl6
        have fr : ∀ l, H1 l = none → l ≠ b → l ≠ g → H l = none := fun l h h2 h3 => by
          cases hz : H l with
          | none => rfl
          | some o =>
            have := R1.kp _ _ hz h2 h3
            rw [h] at this
            cases this
        have hl5H := fr l5 hl5 l5b l5g
        have hl6H := fr l6 hl61 l6b l6g
        have I5 := (s2.trans t2) _ _ (upd_same (H := H1) (a := l5) (o := .lst []))
        have I6 := t2 _ _ hX6
        have I6d := dpAll_same t2 _ hXd6
        have R3 := R1.same (t1.trans (s2.trans t2))
        generalize upd H2 p1 (.tup [.ref l5, .ref l6]) = H3 at *
        clear t1 s2 t2 hX6 hXd6 hl5 hl6 hp1 R1 fr hl61
        dsimp only
        refine tSeq_go ?_
        -- the ties in another order
        have len15 : (coupL 6).length = 15 := by decide +kernel
        refine ⟨_, rfl, by decide, by decide, ?_⟩
        refine for_range (lo := 0) (n := 15) (fun i σ H' => ∃ (v7 : Option V) (xs ys : List V) (us fs : List Tie),
          σ = [some (.ref b), none, none, none, none, some (.ref l5), some (.ref l6), v7, none, none, none, none, none, none, none] ∧ RC K b g H H' [] ∧ H' l6 = some (.lst xs) ∧ DpAll K H' xs (us.map tieD) ∧ H' l5 = some (.lst ys) ∧ DpAll K H' ys (fs.map tieD) ∧
          us.length + i = 15 ∧ (us ++ fs).Perm (coupL 6)) ?_ ?_ ?_
        · exact ⟨none, xs6, [], coupL 6, [], rfl, R3, I6, I6d, I5, .nil, len15, by rw [List.append_nil]⟩
        · clear I5 I6 I6d R3
          rintro i σ H4 hi ⟨v7, xs, ys, us, fs, rfl, R4, hX, hXd, hY, hYd, hul, hpm⟩
          have hxl : xs.length = us.length := by rw [dpAll_len hXd, List.length_map]
          have hyl : ys.length = fs.length := by rw [dpAll_len hYd, List.length_map]
          have hpl : us.length + fs.length = 15 := by
            rw [← List.length_append]
            exact hpm.length_eq.trans len15
          refine ⟨_, rfl, .inl ⟨rfl, _, SqL.of hY⟩, ?_⟩
          refine ⟨_, rfl, .inl ⟨rfl, _, SqL.of hX⟩, ?_⟩
          refine ⟨_, rfl, _, rfl, l6, _, rfl, .inl (SqL.of hX), ?_⟩
          refine ⟨b, g, (xs.length : Int), rfl, by omega, by omega, R4.bx, fun r H5 r0 r1 kp5 B5 => ?_⟩
          obtain ⟨j, rfl⟩ : ∃ j : Nat, r = (j : Int) := ⟨r.toNat, by omega⟩
          have hj : j < xs.length := by omega
          have kf5 := KF.of_kp kp5 R4.bx
          have R5 := R4.draw kp5 B5
          have hX5 := kp5 _ _ hX l6b l6g
          have hY5 := kp5 _ _ hY l5b l5g
          have hXd5 := dpAll_kf kf5 _ (still_ties us) hXd
          have hYd5 := dpAll_kf kf5 _ (still_ties fs) hYd
          have hjx : xs[j]? = some xs[j] := by simp [hj]
          obtain ⟨dd, hdd, hdp⟩ := dpAll_get hXd5 hjx
          obtain ⟨t, htj, rfl⟩ := get_map hdd
          refine ⟨l6, xs, _, j, _, rfl, rfl, hX5, by omega, by omega, seq_nat hj, hjx, ?_⟩
          have R6 := R5.upd (ys := xs.eraseIdx j) hX5 hl6H l6g
          have kf6 : KF H5 (upd H5 l6 (.lst (xs.eraseIdx j))) := KF.of_upd hX5
          have hY6 : upd H5 l6 (.lst (xs.eraseIdx j)) l5 = some (.lst ys) := by
            rw [upd_ne n56]
            exact hY5
          refine ⟨l5, ys, _, rfl, rfl, hY6, Nat.lt_of_lt_of_le (show ys.length < 100000 by omega) (by decide), ?_⟩
          have kf7 : KF (upd H5 l6 (.lst (xs.eraseIdx j))) (upd (upd H5 l6 (.lst (xs.eraseIdx j))) l5 (.lst (ys ++ [xs[j]]))) := KF.of_upd hY6
          have kf67 := kf6.trans kf7
          refine ⟨_, xs.eraseIdx j, _, us.eraseIdx j, fs ++ [t], rfl, R6.upd hY6 hl5H l5g, ?_, ?_, upd_same, ?_, ?_, (perm_mv us fs j t htj).trans hpm⟩
          · rw [upd_ne n56.symm, upd_same]
          · rw [← map_erase]
            exact dpAll_erase j (dpAll_kf kf67 _ (still_ties us) hXd5)
          · rw [List.map_append]
            exact dpAll_app (dpAll_kf kf67 _ (still_ties fs) hYd5) (.cons (dp_kf kf67 _ (by simp [tieD, still, stillAll]) hdp) .nil)
          · rw [List.length_eraseIdx_of_lt (by omega)]
            omega
        · clear I5 I6 I6d R3
          rintro σ H4 ⟨v7, xs, ys, us, fs, rfl, R4, hX, hXd, hY, hYd, hul, hpm⟩
          have hus : us = [] := List.eq_nil_of_length_eq_zero (by omega)
          subst hus
          have hpm : fs.Perm (coupL 6) := hpm
          have hfl : fs.length = 15 := hpm.length_eq.trans len15
          clear hX hXd hul
          dsimp only
          refine tSeq_go ?_
          refine ⟨Nat.zero_le _, fun l3 hl3 => ?_⟩
          have t1 := same_new (o := .lst []) hl3
          refine ⟨_, rfl, l5, ys, rfl, .inl ⟨SqL.of (t1 _ _ hY), fun p2 hp2 => ?_⟩⟩
          have t2 := same_new (o := .tup ys) hp2
          refine ⟨by show 2 ≤ sizeLine; decide, fun p3 hp3 => ?_⟩
          have t3 := same_new (o := .tup [.int 6, .ref p2]) hp3
          refine ⟨by show 2 ≤ sizeLine; decide, fun p4 hp4 => ?_⟩
          have t4 := same_new (o := .tup [.ref l3, .ref p3]) hp4
          refine ⟨p4, _, rfl, SqT.of upd_same, rfl, _, _, rfl, _, _, rfl, rfl, ?_⟩
          have tA := t1.trans (t2.trans (t3.trans t4))
          obtain ⟨l3b, l3g⟩ := box_ne R4.bx hl3
          have hl3H : H l3 = none := by
            cases hz : H l3 with
            | none => rfl
            | some o =>
              have := R4.kp _ _ hz l3b l3g
              rw [hl3] at this
              cases this
          have n35 : l5 ≠ l3 := by
            rintro rfl
            rw [hY] at hl3
            cases hl3
          have hw := Dp.tup (K := K) (SqT.of (t4 _ _ (upd_same (a := p3) (o := .tup [.int 6, .ref p2])))) (.cons (.int 6) (.cons (.tup (SqT.of ((t3.trans t4) _ _ (upd_same (a := p2) (o := .tup ys)))) (dpAll_same tA _ hYd)) .nil))
          have R5 : RC K b g H _ [(.ref p3, webD 6 fs)] := (R4.same tA).add hw (still_web 6 fs)
          have hY5 := tA _ _ hY
          have hYd5 := dpAll_same tA _ hYd
          have hA5 := (t2.trans (t3.trans t4)) _ _ (upd_same (H := H4) (a := l3) (o := .lst []))
          generalize upd (upd (upd (upd H4 l3 (.lst [])) p2 (.tup ys)) p3 (.tup [.int 6, .ref p2])) p4 (.tup [.ref l3, .ref p3]) = H5 at *
          clear t1 t2 t3 t4 tA hl3 hp2 hp3 hp4 R4 hY hYd hw
          have memT : ∀ T ∈ th3 4, ∀ p ∈ prs T, p ∈ fs := fun T hT p hp => hpm.mem_iff.mpr (trips_ok.2.2.1 T hT p hp)
          -- one more triple
          have turn : ∀ (H6 : Hp) (acc : List V) (pre : List Trip) (l m h : Nat) (w13 : Option V) (w14 : Option V), RC K b g H H6 [(.ref p3, webD 6 fs)] → H6 l5 = some (.lst ys) → DpAll K H6 ys (fs.map tieD) → H6 l3 = some (.lst acc) → DpAll K H6 acc ((pre.map (lotT fs)).map lotD) →
              (l, m, h) ∈ th3 4 → pre.length ≤ 100 → True := fun _ _ _ _ _ _ _ _ _ _ _ _ _ _ _ => trivial
          dsimp only
          refine ⟨2, 6, rfl, ⟨by decide, by decide, by decide, by decide⟩, ?_⟩
          refine for_range (fun i σ H' => ∃ (v8 v9 v10 v13 : Option V) (acc : List V), σ = [some (.ref b), none, none, some (.ref l3), some (.ref p3), some (.ref l5), some (.ref l6), v7, v8, v9, v10, none, none, v13, none] ∧
            RC K b g H H' [(.ref p3, webD 6 fs)] ∧ H' l5 = some (.lst ys) ∧ DpAll K H' ys (fs.map tieD) ∧ H' l3 = some (.lst acc) ∧ DpAll K H' acc (((th3 i).map (lotT fs)).map lotD)) ?_ ?_ ?_
          · exact ⟨none, none, none, none, [], rfl, R5, hY5, hYd5, hA5, .nil⟩
          · clear R5 hY5 hYd5 hA5
            rintro i σ H6 hi ⟨v8, v9, v10, v13, acc, rfl, R6, hY6, hYd6, hA6, hAd6⟩
            have hi4 : i < 4 := by omega
            have eh : (2 : Int) + (i : Int) = ((2 + i : Nat) : Int) := by omega
            rw [eh]
            refine ⟨_, rfl, _, _, rfl, ⟨by decide, by decide, by omega, by omega⟩, ?_⟩
            refine for_range (fun j σ H' => ∃ (v9 v10 v13 : Option V) (acc : List V), σ = [some (.ref b), none, none, some (.ref l3), some (.ref p3), some (.ref l5), some (.ref l6), v7, some (.int ((2 + i : Nat) : Int)), v9, v10, none, none, v13, none] ∧
              RC K b g H H' [(.ref p3, webD 6 fs)] ∧ H' l5 = some (.lst ys) ∧ DpAll K H' ys (fs.map tieD) ∧ H' l3 = some (.lst acc) ∧ DpAll K H' acc (((th3 i ++ tm3 (2 + i) j).map (lotT fs)).map lotD)) ?_ ?_ ?_
            · exact ⟨v9, v10, v13, acc, rfl, R6, hY6, hYd6, hA6, by rw [show tm3 (2 + i) 0 = [] from rfl, List.append_nil]; exact hAd6⟩
            · clear R6 hY6 hYd6 hA6 hAd6
              rintro j σ H7 hj ⟨v9, v10, v13, acc, rfl, R7, hY7, hYd7, hA7, hAd7⟩
              have hj2 : j < 1 + i := by omega
              have em : (1 : Int) + (j : Int) = ((1 + j : Nat) : Int) := by omega
              rw [em]
              refine ⟨_, rfl, _, rfl, by omega, by omega, ?_⟩
              refine for_range (lo := 0) (n := (((1 + j : Nat) : Int)).toNat) (fun k σ H' => ∃ (v10 v13 : Option V) (acc : List V), σ = [some (.ref b), none, none, some (.ref l3), some (.ref p3), some (.ref l5), some (.ref l6), v7, some (.int ((2 + i : Nat) : Int)), some (.int ((1 + j : Nat) : Int)), v10, none, none, v13, none] ∧
                RC K b g H H' [(.ref p3, webD 6 fs)] ∧ H' l5 = some (.lst ys) ∧ DpAll K H' ys (fs.map tieD) ∧ H' l3 = some (.lst acc) ∧ DpAll K H' acc (((th3 i ++ tm3 (2 + i) j ++ tl3 (1 + j) (2 + i) k).map (lotT fs)).map lotD)) ?_ ?_ ?_
              · exact ⟨v10, v13, acc, rfl, R7, hY7, hYd7, hA7, by rw [show tl3 (1 + j) (2 + i) 0 = [] from rfl, List.append_nil]; exact hAd7⟩
              · clear R7 hY7 hYd7 hA7 hAd7
                rintro k σ H8 hk ⟨v10, v13, acc, rfl, R8, hY8, hYd8, hA8, hAd8⟩
                have hk2 : k < 1 + j := by omega
                rw [Int.zero_add]
                have hT : (k, 1 + j, 2 + i) ∈ th3 4 := by
                  refine List.mem_flatMap.mpr ⟨i, List.mem_range.mpr hi4, List.mem_flatMap.mpr ⟨j, List.mem_range.mpr hj2, List.mem_map.mpr ⟨k, List.mem_range.mpr hk2, rfl⟩⟩⟩
                have hpre : (th3 i ++ tm3 (2 + i) j ++ tl3 (1 + j) (2 + i) k).length ≤ 100 := by
                  have e1 : i = 0 ∨ i = 1 ∨ i = 2 ∨ i = 3 := by omega
                  have e2 : j = 0 ∨ j = 1 ∨ j = 2 ∨ j = 3 := by omega
                  have e3 : k = 0 ∨ k = 1 ∨ k = 2 ∨ k = 3 := by omega
                  rcases e1 with rfl | rfl | rfl | rfl <;> rcases e2 with rfl | rfl | rfl | rfl <;> rcases e3 with rfl | rfl | rfl | rfl <;> decide +kernel
                generalize hpr : th3 i ++ tm3 (2 + i) j ++ tl3 (1 + j) (2 + i) k = pre at *
                have hal : acc.length = pre.length := by rw [dpAll_len hAd8, List.length_map, List.length_map]
                show tSeq _ _ _ _ _
                refine tSeq_go ?_
                -- three
                refine ⟨_, rfl, _, rfl, by show 2 ≤ sizeLine; decide, fun q1 hq1 => ?_⟩
                have u1 := same_new (o := .tup [.int (k : Int), .int ((1 + j : Nat) : Int)]) hq1
                refine ⟨_, rfl, _, rfl, by show 2 ≤ sizeLine; decide, fun q2 hq2 => ?_⟩
                have u2 := same_new (o := .tup [.int (k : Int), .int ((2 + i : Nat) : Int)]) hq2
                refine ⟨_, rfl, _, rfl, by show 2 ≤ sizeLine; decide, fun q3 hq3 => ?_⟩
                have u3 := same_new (o := .tup [.int ((1 + j : Nat) : Int), .int ((2 + i : Nat) : Int)]) hq3
                refine ⟨by show 3 ≤ sizeLine; decide, fun q4 hq4 => ?_⟩
                have u4 := same_new (o := .lst [.ref q1, .ref q2, .ref q3]) hq4
                have uA := u1.trans (u2.trans (u3.trans u4))
                have R9 := R8.same uA
                have hY9 := uA _ _ hY8
                have hYd9 := dpAll_same uA _ hYd8
                have hA9 := uA _ _ hA8
                have hAd9 := dpAll_same uA _ hAd8
                have hQ9 := upd_same (H := upd (upd (upd H8 q1 (.tup [.int (k : Int), .int ((1 + j : Nat) : Int)])) q2 (.tup [.int (k : Int), .int ((2 + i : Nat) : Int)])) q3 (.tup [.int ((1 + j : Nat) : Int), .int ((2 + i : Nat) : Int)])) (a := q4) (o := .lst [.ref q1, .ref q2, .ref q3])
                have hQd9 := DpAll.cons (K := K) (Dp.tup (SqT.of ((u2.trans (u3.trans u4)) _ _ (upd_same (a := q1) (o := .tup [.int (k : Int), .int ((1 + j : Nat) : Int)])))) (.cons (.int (k : Int)) (.cons (.int ((1 + j : Nat) : Int)) .nil)))
                  (DpAll.cons (Dp.tup (SqT.of ((u3.trans u4) _ _ (upd_same (a := q2) (o := .tup [.int (k : Int), .int ((2 + i : Nat) : Int)])))) (.cons (.int (k : Int)) (.cons (.int ((2 + i : Nat) : Int)) .nil)))
                  (DpAll.cons (Dp.tup (SqT.of (u4 _ _ (upd_same (a := q3) (o := .tup [.int ((1 + j : Nat) : Int), .int ((2 + i : Nat) : Int)])))) (.cons (.int ((1 + j : Nat) : Int)) (.cons (.int ((2 + i : Nat) : Int)) .nil))) .nil))
                generalize upd (upd (upd (upd H8 q1 (.tup [.int (k : Int), .int ((1 + j : Nat) : Int)])) q2 (.tup [.int (k : Int), .int ((2 + i : Nat) : Int)])) q3 (.tup [.int ((1 + j : Nat) : Int), .int ((2 + i : Nat) : Int)])) q4 (.lst [.ref q1, .ref q2, .ref q3]) = H9 at *
                have hQd9 : DpAll K H9 [.ref q1, .ref q2, .ref q3] ((prs (k, 1 + j, 2 + i)).map tieD) := hQd9
                clear u1 u2 u3 u4 uA hq1 hq2 hq3 hq4 R8 hY8 hYd8 hA8 hAd8
                dsimp only [gName]
                refine ⟨_, rfl, .inl ⟨rfl, _, SqL.of hA9⟩, ?_⟩
                refine ⟨_, rfl, q4, rfl, ⟨_, SqL.of hQ9⟩, fun E1 hE1 => ?_⟩
                refine lc_run (walk_list (xs := [V.ref q1, .ref q2, .ref q3])) hE1 (fun i2 acc2 _ => acc2 = (((prs (k, 1 + j, 2 + i)).take i2).map fun t => V.int ((fst1 fs t : Nat) : Int))) ?_ ?_ ?_ ?_
                · exact fun H' s => SqL.of (s _ _ hQ9)
                · rfl
                · rintro i2 x acc2 H10 H' hi2 hacc e s r ⟨rfl, hx⟩
                  obtain ⟨dd, hdd, hdp⟩ := dpAll_get hQd9 hx
                  obtain ⟨t, ht, rfl⟩ := get_map hdd
                  have htm := memT _ hT t (List.mem_of_getElem? ht)
                  have r' : acc2 = (((prs (k, 1 + j, 2 + i)).take i2).map fun t => V.int ((fst1 fs t : Nat) : Int)) := r
                  have hal2 : acc2.length ≤ 3 := by
                    rw [r', List.length_map, List.length_take]
                    exact Nat.min_le_right _ _
                  refine ⟨rfl, yes_go ?_⟩
                  refine ⟨_, rfl, .inl ⟨rfl, _, SqL.of (s _ _ hY9)⟩, ?_⟩
                  refine ⟨_, rfl, l5, x, tieD t, fs.map tieD, fst1 fs t, tieD t, rfl, rfl, .lst (SqL.of (s _ _ hY9)) (dpAll_same s _ hYd9), dp_same s _ hdp, ?_, shaped_lotN (pr t), ?_, ?_, fun m2 z' hm2 hz' => ?_, ?_⟩
                  · rw [ties_pr]
                    exact shaped_lotsL _
                  · rw [List.getElem?_map, fst1_at htm]
                    rfl
                  · rw [tieD_pr, eqv_lots]
                    exact decide_eq_true rfl
                  · obtain ⟨t', ht', rfl⟩ := get_map hz'
                    rw [tieD_pr, tieD_pr, eqv_lots]
                    refine decide_eq_false fun q => fst1_no hm2 ht' ?_
                    have q' : t'.1 = t.1 ∧ t'.2 = t.2 := by simpa [pr] using q
                    exact Prod.ext q'.1 q'.2
                  · refine lc_add hacc e (Same.refl _) (by omega) ?_
                    rw [take_snoc ht, List.map_append, r']
                    rfl
                · rintro acc2 H10 h1 s10 r
                  have r' : acc2 = ((prs (k, 1 + j, 2 + i)).map (fst1 fs)).map fun (k : Nat) => V.int (k : Int) := by
                    rw [List.map_map]
                    exact r
                  refine ⟨E1, ((prs (k, 1 + j, 2 + i)).map (fst1 fs)).map fun (k : Nat) => (k : Int), rfl, SqL.of (by rw [h1, r', List.map_map]; rfl), by rw [List.length_map, List.length_map]; show 3 < 64; decide, fun ns p hperm hsort hp => ?_⟩
                  obtain ⟨ms, rfl⟩ : ∃ ms : List Nat, ns = ms.map fun (k : Nat) => (k : Int) := ⟨ns.map Int.toNat, by
                    rw [List.map_map]
                    refine (List.map_id ns).symm.trans (List.map_congr_left fun y hy => ?_)
                    obtain ⟨j, _, rfl⟩ := List.mem_map.mp (hperm.mem_iff.mp hy)
                    show ((j : Int)) = (((j : Int)).toNat : Int)
                    omega⟩
                  have hms : ms = lotT fs (k, 1 + j, 2 + i) := by
                    refine srt_eq ?_ ?_
                    · have h := hperm.map Int.toNat
                      rw [List.map_map, List.map_map] at h
                      have e : ∀ l : List Nat, l.map (Int.toNat ∘ fun (k : Nat) => (k : Int)) = l := fun l => by
                        refine (List.map_congr_left fun x _ => ?_).trans (List.map_id l)
                        show ((x : Int)).toNat = x
                        omega
                      rw [e, e] at h
                      exact h
                    · exact (List.pairwise_map.mp hsort).imp fun {x y} z => by omega
                  subst hms
                  have sp := same_new (o := .lst ((((lotT fs (k, 1 + j, 2 + i)).map fun (k : Nat) => (k : Int))).map V.int)) hp
                  refine ⟨p, _, rfl, .inl ⟨SqL.of upd_same, fun q hq => ?_⟩⟩
                  have sq := same_new (o := .tup ((((lotT fs (k, 1 + j, 2 + i)).map fun (k : Nat) => (k : Int))).map V.int)) hq
                  have sA := s10.trans (sp.trans sq)
                  have hA11 := sA _ _ hA9
                  refine ⟨l3, acc, _, rfl, rfl, hA11, Nat.lt_of_lt_of_le (show acc.length < 100000 by omega) (by decide), ?_⟩
                  have R11 := R9.same sA
                  have hlot := lot_dp (K := K) (SqT.of (show upd (upd H10 p (.lst ((((lotT fs (k, 1 + j, 2 + i)).map fun (k : Nat) => (k : Int))).map V.int))) q (.tup ((((lotT fs (k, 1 + j, 2 + i)).map fun (k : Nat) => (k : Int))).map V.int)) q = some (.tup ((lotT fs (k, 1 + j, 2 + i)).map fun (k : Nat) => V.int (k : Int))) from by rw [upd_same, List.map_map]; rfl))
                  have hY11 := sA _ _ hY9
                  have hYd11 := dpAll_same sA _ hYd9
                  have hAd11 := dpAll_same sA _ hAd9
                  generalize upd (upd H10 p (.lst ((((lotT fs (k, 1 + j, 2 + i)).map fun (k : Nat) => (k : Int))).map V.int))) q (.tup ((((lotT fs (k, 1 + j, 2 + i)).map fun (k : Nat) => (k : Int))).map V.int)) = H11 at *
                  have kf : KF H11 (upd H11 l3 (.lst (acc ++ [.ref q]))) := KF.of_upd hA11
                  refine ⟨_, _, acc ++ [.ref q], rfl, R11.upd hA11 hl3H l3g, ?_, dpAll_kf kf _ (still_ties fs) hYd11, upd_same, ?_⟩
                  · rw [upd_ne n35]
                    exact hY11
                  · rw [tl_succ, ← List.append_assoc, hpr, List.map_append, List.map_append]
                    exact dpAll_app (dpAll_kf kf _ (still_lots _) hAd11) (.cons (dp_kf kf _ (still_lot _) hlot) .nil)
              · clear R7 hY7 hYd7 hA7 hAd7
                rintro σ H8 ⟨v10, v13, acc, rfl, R8, hY8, hYd8, hA8, hAd8⟩
                rw [Int.toNat_natCast, List.append_assoc, ← tm_succ] at hAd8
                exact ⟨_, _, _, acc, rfl, R8, hY8, hYd8, hA8, hAd8⟩
            · clear R6 hY6 hYd6 hA6 hAd6
              rintro σ H7 ⟨v9, v10, v13, acc, rfl, R7, hY7, hYd7, hA7, hAd7⟩
              rw [show (((2 + i : Nat) : Int) - 1).toNat = 1 + i by omega, ← th_succ] at hAd7
              exact ⟨_, _, _, _, acc, rfl, R7, hY7, hYd7, hA7, hAd7⟩
          · clear R5 hY5 hYd5 hA5
            rintro σ H6 ⟨v8, v9, v10, v13, acc, rfl, R6, hY6, hYd6, hA6, hAd6⟩
            refine cont _ _ ⟨15, none, _, _, v7, v8, v9, v10, v13, 6, fs, (th3 4).map (lotT fs), l3, p3, acc, rfl, R6, hfl, hA6, hAd6, trips_nd hpm, fun E hE => ?_, by rw [List.length_map, trips_len]; decide, fun z => ?_, by decide, by decide, by decide⟩
            · obtain ⟨T, hT, rfl⟩ := List.mem_map.mp hE
              have := lotT_lot hpm hT
              exact ⟨this.1, by omega⟩
            · have := congrArg List.length z
              rw [List.length_map, trips_len] at this
              cases this
end
end BV

namespace BV
open PySem L2
abbrev sIsg : Stmt := top 33
abbrev nIsg : List Str := ["_law_box_here", "_law_web_here", "_law_every", "_law_few", "_law_deeds_here", "_law_due", "_law_turn"]
abbrev pIsg : List Str := ["_law_box_here"]
theorem scIsg : FnScope nIsg pIsg (defScope sIsg) := ⟨rfl, rfl, rfl, by decide +kernel, rfl, by decide +kernel, by decide +kernel⟩
abbrev sLaw : Stmt := top 34
abbrev nLaw : List Str := ["_law_script", "_law_box_here", "_law_turn", "_law_web_here"]
abbrev pLaw : List Str := ["_law_script"]
theorem scLaw : FnScope nLaw pLaw (defScope sLaw) := ⟨rfl, rfl, rfl, by decide +kernel, rfl, by decide +kernel, by decide +kernel⟩

def spIsg (K : PySem.W.Frag) : Sp := fun vs H Q _ => ∃ (b g : Addr), vs = [.ref b] ∧ Box H b g ∧ ∀ H', Kp b g H H' → Box H' b g → Q (.bl true) H'
def spLaw (K : PySem.W.Frag) : Sp := fun vs H Q _ => ∃ (a : Addr) (ns : List Int), vs = [.ref a] ∧ SqL K H a (ns.map V.int) ∧ ns.length ≤ 63 ∧ ∀ H', Q (.bl true) H'
theorem most4 : ∀ i, i < 4 → ∃ m : Nat, [V.int 2, V.int 4, V.int 6, V.int 5][i]? = some (V.int (m : Int)) ∧ 1 ≤ m ∧ m ≤ 6
  | 0, _ => ⟨2, rfl, by decide, by decide⟩
  | 1, _ => ⟨4, rfl, by decide, by decide⟩
  | 2, _ => ⟨6, rfl, by decide, by decide⟩
  | 3, _ => ⟨5, rfl, by decide, by decide⟩
theorem more4 : ∀ i, i < 4 → ∃ m : Nat, [V.int 5, V.int 4, V.int 3, V.int 3][i]? = some (V.int (m : Int)) ∧ m ≤ 5
  | 0, _ => ⟨5, rfl, by decide⟩
  | 1, _ => ⟨4, rfl, by decide⟩
  | 2, _ => ⟨3, rfl, by decide⟩
  | 3, _ => ⟨3, rfl, by decide⟩
theorem times4 : ∀ i, i < 4 → ∃ z : Int, [V.int 7, V.int 2, V.int (10 ^ (30 : Int).toNat), V.int 3][i]? = some (V.int z) ∧ z.natAbs ≤ 2 ^ 120
  | 0, _ => ⟨7, rfl, by decide⟩
  | 1, _ => ⟨2, rfl, by decide⟩
  | 2, _ => ⟨_, rfl, by decide⟩
  | 3, _ => ⟨3, rfl, by decide⟩
section
variable {P : Program} {w : World} {K : PySem.W.Frag} {mg : Str → Option Value} {base : Heap}
theorem ok_isg {f a1 a2 a3 a4 a5 a6 a7 a8 a9 : Addr} {fd d1 d2 d3 d4 d5 d6 d7 d8 d9 : FuncData}
    (D : Df K mg "_law_is_great" sIsg pIsg f fd) (T : Bl mg) (hlist : mg "list" = none) (hsorted : mg "sorted" = none)
    (D_draw : Df K mg "_law_draw" sDraw ["_law_box_here", "_law_many"] a1 d1) (D_pick : Df K mg "_law_pick" sPick nPick a2 d2) (D_deeds : Df K mg "_law_deeds" sDeeds pDeeds a3 d3)
    (D_tog : Df K mg "told_together" sTog pTog a4 d4) (D_mask : Df K mg "mask_of" sMask pMask a5 d5) (D_behind : Df K mg "lot_behind" sBehind pBehind a6 d6)
    (D_ltog : Df K mg "_law_together" sLtog pLtog a7 d7) (D_shuf : Df K mg "_law_shuffled" sShuf pShuf a8 d8) (D_great : Df K mg "_law_great" sGreat pGreat a9 d9)
    {b1 : Addr} {e1 : FuncData} (D_couples : Df K mg "_law_couples" sCoup pCoup b1 e1) :
    FnG P w K mg base CX0 4 f fd pIsg (spIsg K) := by
  have G_great : FnOk P w K mg base CX0 2 a9 d9 pGreat (spGreat K) := ok_great D_great T hsorted D_draw D_couples
  have G_pick : FnOk P w K mg base CX0 2 a2 d2 nPick (spPick K) := ok_pick D_pick T D_draw
  have G_deeds : FnOk P w K mg base CX0 3 a3 d3 pDeeds (spDeeds K) := ok_deeds D_deeds T D_draw D_pick
  have G_tog : FnOk P w K mg base CX0 2 a4 d4 pTog (spTog K) := ok_tog D_tog T hsorted D_mask D_behind
  have G_ltog : FnOk P w K mg base CX0 1 a7 d7 pLtog (spLtog K) := ok_ltog D_ltog T
  have G_shuf : FnOk P w K mg base CX0 2 a8 d8 pShuf (spShuf K) := ok_shuf D_shuf T hlist D_draw
  refine okG D.fn scIsg (fun vs H Q E h => ?_) (fun cdv A outer s H vs Q E hgd hr h => ?_)
  · obtain ⟨b, g, rfl, _⟩ := h
    rfl
  · obtain ⟨b, g, rfl, hB, k⟩ := h
    have hr_deeds : Room 3 _ := hr
    have hr_great : Room 2 _ := hr.mono (by decide)
    have hr_pick : Room 2 _ := hr.mono (by decide)
    have hr_tog : Room 2 _ := hr.mono (by decide)
    have hr_ltog : Room 1 _ := hr.mono (by decide)
    have hr_shuf : Room 2 _ := hr.mono (by decide)
    have hu64 := hr.units
    have nd := scIsg.nd
    refine ⟨_, (pss_cons (ps_asg (pe_call G_great hr_great (by rfl) D_great.ad D_great.fn.kp D_great.bd .nil pass0 (pa_cons (pv 0) pa_nil)) (pgT K rfl (pgs_cons (pg_name (i := 1) nd rfl (by first | exact Or.inl rfl | exact Or.inr rfl)) (pgs_cons (pg_name (i := 2) nd rfl (by first | exact Or.inl rfl | exact Or.inr rfl)) pgs_nil))))
      (pss_cons (ps_setLc (i := 3) (own := [("_law_turn", 6)]) (g := (gName 6)) (tt := tYes) rfl nd rfl rfl (sw_true rfl rfl rfl (by decide +kernel)) (pi_range1 rfl T.range (pa_cons pe_int pa_nil)) (blkOk_by (own := [("_law_turn", 6)]) (N := nIsg) (sc := defScope sIsg) (by decide +kernel)) (fun _ _ _ _ _ => (pg_name (i := 6) nd rfl (by first | exact Or.inl rfl | exact Or.inr rfl))) (fun _ _ _ _ _ => pts_nil) (fun _ _ _ _ _ => (pe_call G_pick hr_pick (by rfl) D_pick.ad D_pick.fn.kp D_pick.bd .nil pass0 (pa_cons (pv 0) (pa_cons (pv 2) pa_nil)))))
      (pss_cons (ps_set (i := 4) nd rfl (by first | exact Or.inl rfl | exact Or.inr rfl) (pe_call G_deeds hr_deeds (by rfl) D_deeds.ad D_deeds.fn.kp D_deeds.bd .nil pass0 (pa_cons (pv 0) (pa_cons (pv 1) (pa_cons (pv 3) (pa_cons pe_int (pa_cons pe_int pa_nil)))))))
      (pss_cons (ps_set (i := 5) nd rfl (by first | exact Or.inl rfl | exact Or.inr rfl) (pe_callB (reprK K hgd hu64) (by rfl) T.repr (by decide +kernel) (pa_cons (pe_call G_ltog hr_ltog (by rfl) D_ltog.ad D_ltog.fn.kp D_ltog.bd .nil pass0 (pa_cons (pv 1) (pa_cons (pv 2) (pa_cons (pv 4) pa_nil)))) pa_nil)))
      (pss_one (ps_ret (pe_and (pe_cmpR op_eq (pe_callB (reprK K hgd hu64) (by rfl) T.repr (by decide +kernel) (pa_cons (pe_call G_tog hr_tog (by rfl) D_tog.ad D_tog.fn.kp D_tog.bd .nil pass0 (pa_cons (pv 1) (pa_cons (pv 4) pa_nil))) pa_nil)) (pv 5) (nomark _)) (pe_one (pe_cmpR op_eq (pe_callB (reprK K hgd hu64) (by rfl) T.repr (by decide +kernel) (pa_cons (pe_call G_tog hr_tog (by rfl) D_tog.ad D_tog.fn.kp D_tog.bd .nil pass0 (pa_cons (pv 1) (pa_cons (pe_call G_shuf hr_shuf (by rfl) D_shuf.ad D_shuf.fn.kp D_shuf.bd .nil pass0 (pa_cons (pv 0) (pa_cons (pv 4) pa_nil))) pa_nil))) pa_nil)) (pv 5) (nomark _)))))))))), ?_⟩
    refine ⟨_, rfl, b, g, rfl, hB, fun p l v n ts zs xs H1 kp1 B1 hp hw hn0 hn hL20 hlN hX hXd hE hlots hzl hzn => ?_⟩
    refine ⟨p, _, rfl, hp, rfl, _, _, rfl, _, _, rfl, rfl, ?_⟩
    have R1 : RC K b g H H1 [(v, webD n ts)] := ⟨kp1, B1, fun p hp => by rw [List.mem_singleton.mp hp]; exact still_web n ts, fun p hp => by rw [List.mem_singleton.mp hp]; exact hw⟩
    have lb : l ≠ b := by
      rintro rfl
      obtain ⟨⟨_, _, h1⟩, _⟩ := B1
      rw [hX] at h1
      cases h1
    have lg : l ≠ g := by
      rintro rfl
      obtain ⟨_, ns, h1, _⟩ := hB
      rw [hlN] at h1
      cases h1
    have hxl : xs.length = zs.length := by rw [dpAll_len hXd, List.length_map, List.length_map]
    clear kp1 B1 hp hw
    dsimp only [gName]
    refine tSeq_go ?_
    -- five of them
    refine tAsg_by (fun u H' => ∃ (lf : Addr) (xf : List V) (ef : List (List Nat)), u = .ref lf ∧ RC K b g H H' [(v, webD n ts)] ∧ H' l = some (.lst xs) ∧ DpAll K H' xs ((zs.map (lotN ts.length)).map lotD) ∧ H' lf = some (.lst xf) ∧ DpAll K H' xf (ef.map lotD) ∧
      lf ≠ b ∧ lf ≠ g ∧ (∀ ks ∈ ef, ks ∈ zs.map (lotN ts.length)) ∧ ef.length ≤ 5) ?_ (fun cont => ?_)
    rotate_left
    · refine ⟨5, rfl, by decide, by decide, fun E1 hE1 => ?_⟩
      refine lc_runB (walk_range (lo := 0) (n := 5)) hE1 R1.bx (fun i acc Hq => ∃ es : List (List Nat), es.length = i ∧ DpAll K Hq acc (es.map lotD) ∧ ∀ ks ∈ es, ks ∈ zs.map (lotN ts.length)) ?_ ?_ ?_ ?_
      · exact fun H' _ _ => trivial
      · exact ⟨[], rfl, .nil, by simp⟩
      · rintro i x acc H2 H' nb ng hi hacc e kp2 B2 ⟨es, h1, h2, h3⟩ ⟨rfl, hx⟩
        have hx : x = .int (0 + (i : Int)) := hx
        subst hx
        have hX2 := kp2 _ _ hX lb lg
        have hXd2 := dpAll_kf (KF.of_kp kp2 R1.bx) _ (still_lots _) hXd
        refine ⟨rfl, yes_go ?_⟩
        refine ⟨_, rfl, _, rfl, b, g, l, xs, rfl, SqL.of hX2, lb, lg, ?_, by omega, B2, fun j u H3 hj kp3 B3 => ?_⟩
        · rw [hxl]
          exact List.length_pos_iff.mpr hzn
        obtain ⟨dd, hdd, hdp⟩ := dpAll_get hXd2 hj
        obtain ⟨E, hE', rfl⟩ := get_map hdd
        have hal : acc.length = es.length := by rw [dpAll_len h2, List.length_map]
        refine lc_addB nb ng hacc e kp3 B3 (by omega) ?_
        refine ⟨es ++ [E], by rw [List.length_append, List.length_singleton, h1], ?_, fun ks hks => ?_⟩
        · rw [List.map_append]
          refine dpAll_app (dpAll_kf (KF.of_kp (era_kp kp3) (box_era B2 nb ng)) _ (still_lots es) h2) (.cons (dp_kf (fun z o hz qq => ?_) _ (still_lot E) hdp) .nil)
          have nz : z ≠ E1 := by
            rintro rfl
            rw [hacc] at hz
            obtain ⟨_, rfl | ⟨_, rfl⟩⟩ := qq <;> cases hz
          rw [era_ne nz]
          exact KF.of_kp kp3 B2 _ _ hz qq
        · rcases List.mem_append.mp hks with q | q
          · exact h3 ks q
          · rw [List.mem_singleton.mp q]
            exact List.mem_of_getElem? hE'
      · rintro acc H2 h1 kp2 B2 ⟨es, q1, q2, q3⟩
        obtain ⟨nb, ng⟩ := box_ne R1.bx hE1
        exact cont _ _ ⟨E1, acc, es, rfl, R1.draw kp2 B2, kp2 _ _ hX lb lg, dpAll_kf (KF.of_kp kp2 R1.bx) _ (still_lots _) hXd, h1, dpAll_same era_back _ q2, nb, ng, q3, by omega⟩
    rintro uf H2 ⟨lf, xf, ef, rfl, R2, hX, hXd, hF, hFd, fb, fg, hef, hefl⟩
    clear R1
    dsimp only [gName]
    refine at_st [some (.ref b), some v, some (.ref l), some (.ref lf), none, none, none] rfl ?_
    refine tSeq_go ?_
    refine ⟨_, rfl, _, rfl, _, rfl, b, g, lf, v, n, ts, xf, ef, 10, 7, rfl, R2.bx, R2.at0, hn0, hn, hF, hFd, fb, fg, fun ks hk => hlots ks (hef ks hk), by omega, by decide, fun dv ds H3 kp3 B3 hD hdl hfit => ?_⟩
    have R3 := (R2.draw kp3 B3).add hD (still_deedsD ds)
    have hX3 := kp3 _ _ hX lb lg
    have hXd3 := dpAll_kf (KF.of_kp kp3 R2.bx) _ (still_lots _) hXd
    have hin : ∀ d ∈ ds, d.In n (zs.map (lotN ts.length)) := fun d hd => by
      obtain ⟨h1, h2⟩ := hfit d hd
      cases d with
      | star p t => exact h2
      | round ks t => exact hef _ h2
    have hB7 : ∀ d ∈ ds, d.times.natAbs ≤ 13 := fun d hd => (hfit d hd).1.1
    clear kp3 B3 hD hF hFd fb fg hef hefl hfit R2 hX hXd
    have fdue : ∀ d ∈ tog n (zs.map (lotN ts.length)) ds, Fine d := fine_tog hn (by omega) hlots hB7 (by rw [hdl]; decide)
    have showT : Show (deedsD (tog n (zs.map (lotN ts.length)) ds)) := sm_show (sm_fine fdue (Nat.le_trans (tog_len hE.nd) (by rw [hdl]; decide))) (by decide) (by decide)
    dsimp only [gName]
    refine at_st [some (.ref b), some v, some (.ref l), some (.ref lf), some dv, none, none] rfl ?_
    refine tSeq_go ?_
    refine ⟨_, rfl, _, rfl, _, rfl, l, v, dv, n, ts, xs, _, ds, rfl, R3.at1, hX3, hXd3, R3.at0, hn, by rw [List.length_map]; omega, by omega, fun u1 H4 s4 hu1 => ?_⟩
    refine ⟨u1, _, rfl, hu1, showT, ?_⟩
    have R4 := R3.same s4
    clear R3 hX3 hXd3 s4 hu1
    dsimp only [gName]
    refine ⟨_, rfl, _, rfl, v, dv, n, ts, zs, ds, rfl, R4.at1, R4.at0, hE, hin, by omega, by omega, fun u2 H5 s5 hu2 => ?_⟩
    refine ⟨u2, _, rfl, hu2, showT, ?_⟩
    have R5 := R4.same s5
    refine ⟨_, rfl, rfl, ?_⟩
    refine ⟨true, congrArg V.bl (decide_eq_true rfl), iteT ?_⟩
    refine ⟨_, rfl, _, rfl, _, rfl, b, g, dv, ds, rfl, R5.bx, R5.at0, by omega, fun u3 es H6 kp6 B6 hu3 hperm => ?_⟩
    have R6 := R5.draw kp6 B6
    refine ⟨v, u3, n, ts, zs, es, rfl, R6.at1, hu3, hE, fun d hd => hin d (hperm.mem_iff.mp hd), by omega, by rw [hperm.length_eq]; omega, fun u4 H7 s7 hu4 => ?_⟩
    rw [tog_perm hperm] at hu4
    refine ⟨u4, _, rfl, hu4, showT, ?_⟩
    refine ⟨_, rfl, rfl, ?_⟩
    rw [decide_eq_true rfl]
    have R7 := R6.same s7
    exact k _ R7.kp R7.bx
theorem ok_law {f a0 a1 a2 a3 a4 a5 a6 a7 a8 a9 b1 b2 b3 b4 b5 b6 b7 b8 b9 c1 c2 c3 c4 c5 c6 c7 c8 U B : Addr} {fd d0 d1 d2 d3 d4 d5 d6 d7 d8 d9 e1 e2 e3 e4 e5 e6 e7 e8 e9 g1 g2 g3 g4 g5 g6 g7 g8 : FuncData}
    (D : Df K mg "law" sLaw pLaw f fd) (T : Bl mg) (hlist : mg "list" = none) (hany : mg "any" = none) (hsorted : mg "sorted" = none) (EU : ErrU K mg U B)
    (D_ties : Df K mg "ties_at" sTies ["web", "place"] a1 d1) (D_do : Df K mg "_do" sDo ["web", "numbers", "deed"] a2 d2)
    (D_hb : Df K mg "_has_below" sHb ["numbers"] a3 d3) (D_nb : Df K mg "never_below" sNb pNb a4 d4) (D_lifted_x : Df K mg "lifted" sLifted pNb a5 d5)
    (D_box : Df K mg "_law_box" sBox ["_law_script"] a0 d0)
    (D_draw : Df K mg "_law_draw" sDraw ["_law_box_here", "_law_many"] a6 d6) (D_pick : Df K mg "_law_pick" sPick nPick a7 d7) (D_web : Df K mg "_law_web" sWeb pWeb c4 g4)
    (D_counts : Df K mg "_law_counts" sCounts pCounts a8 d8) (D_lot : Df K mg "_law_lot" sLot pLot a9 d9) (D_twos : Df K mg "_law_twos" sTwos ["_law_many"] b1 e1)
    (D_isr : Df K mg "_law_is_round" sIsr pIsr b2 e2) (D_rounds : Df K mg "_law_rounds" sRounds ["_law_web_here"] b3 e3) (D_deeds : Df K mg "_law_deeds" sDeeds pDeeds b4 e4)
    (D_ldone : Df K mg "_law_done" sLdone pLdone b5 e5) (D_done : Df K mg "done" sDone ["web", "standing", "deeds"] b6 e6) (D_undone : Df K mg "undone" sUndone ["deeds"] b7 e7)
    (D_tog : Df K mg "told_together" sTog pTog b8 e8) (K_tog : KBn K e8 pTog 0 ["deeds", "web"] (fun _ ws => ws.reverse) (fun _ zs => zs.reverse))
    (D_mask : Df K mg "mask_of" sMask pMask b9 e9) (D_behind : Df K mg "lot_behind" sBehind pBehind c1 g1)
    (D_ltog : Df K mg "_law_together" sLtog pLtog c2 g2) (D_shuf : Df K mg "_law_shuffled" sShuf pShuf c3 g3)
    (D_couples : Df K mg "_law_couples" sCoup pCoup c5 g5) (D_great : Df K mg "_law_great" sGreat pGreat c6 g6) (D_isgreat_g : Df K mg "_law_is_great" sIsg pIsg c7 g7)
    (D_right_g : Df K mg "_law_is_right" sRight pRight c8 g8) :
    FnG P w K mg base CX0 6 f fd pLaw (spLaw K) := by
  have G_box : FnOk P w K mg base CX0 1 a0 d0 ["_law_script"] (spBox K) := ok_box D_box T
  have G_draw : FnOk P w K mg base CX0 1 a6 d6 ["_law_box_here", "_law_many"] spDraw := ok_draw D_draw T
  have G_web : FnOk P w K mg base CX0 3 c4 g4 pWeb (spWeb K) := ok_web D_web T D_draw D_pick
  have G_tog : FnOk P w K mg base CX0 2 b8 e8 pTog (spTog K) := ok_tog D_tog T hsorted D_mask D_behind
  have G_right_g : FnG P w K mg base CX0 5 c8 g8 pRight (spRight K) := ok_right D_right_g T hlist hany hsorted EU D_ties D_do D_hb D_nb D_lifted_x D_draw D_pick D_counts D_lot D_twos D_isr D_rounds D_deeds D_ldone D_done D_undone D_tog K_tog D_mask D_behind D_ltog D_shuf
  have G_isgreat_g : FnG P w K mg base CX0 4 c7 g7 pIsg (spIsg K) := ok_isg D_isgreat_g T hlist hsorted D_draw D_pick D_deeds D_tog D_mask D_behind D_ltog D_shuf D_great D_couples
  refine okG D.fn scLaw (fun vs H Q E h => ?_) (fun cdv A outer s H vs Q E hgd hr h => ?_)
  · obtain ⟨a, ns, rfl, _⟩ := h
    rfl
  · obtain ⟨a, ns, rfl, hS, hlen, k⟩ := h
    have hr_box : Room 1 _ := hr.mono (by decide)
    have hr_draw : Room 1 _ := hr.mono (by decide)
    have hr_web : Room 3 _ := hr.mono (by decide)
    have hr_tog : Room 2 _ := hr.mono (by decide)
    have hr_isgreat_g : Room 4 _ := hr.mono (by decide)
    have hr_right_g : Room 5 _ := hr
    have hu64 := hr.units
    have nd := scLaw.nd
    refine ⟨_, (pss_cons (ps_set (i := 1) nd rfl (by first | exact Or.inl rfl | exact Or.inr rfl) (pe_call G_box hr_box (by rfl) D_box.ad D_box.fn.kp D_box.bd .nil pass0 (pa_cons (pv 0) pa_nil)))
      (pss_cons (ps_if (PW.pt (pw_and (pt_cmpR op_eq (pe_call G_draw hr_draw (by rfl) D_draw.ad D_draw.fn.kp D_draw.bd .nil pass0 (pa_cons (pv 1) (pa_cons pe_int pa_nil))) pe_int (nomark _)) (pw_and1 (pt_not (pt_val (pe_callG G_isgreat_g hgd hr_isgreat_g (by rfl) D_isgreat_g.ad D_isgreat_g.fn.kp D_isgreat_g.bd .nil pass0 (pa_cons (pv 1) pa_nil))))))) (pss_one (ps_ret pe_bl)) pss_nil)
      (pss_cons (ps_for PassesOwn.never rfl (pi_range1 rfl T.range (pa_cons pe_int pa_nil)) (pg_name (i := 2) nd rfl (by first | exact Or.inl rfl | exact Or.inr rfl)) (pss_cons (ps_set (i := 3) nd rfl (by first | exact Or.inl rfl | exact Or.inr rfl) (pe_call G_web hr_web (by rfl) D_web.ad D_web.fn.kp D_web.bd .nil pass0 (pa_cons (pv 1) (pa_cons (pe_ix (ixL K) (pe_lst (pa_cons pe_int (pa_cons pe_int (pa_cons pe_int (pa_cons pe_int pa_nil))))) (pv 2) (fun _ _ => rfl)) (pa_cons (pe_ix (ixL K) (pe_lst (pa_cons pe_int (pa_cons pe_int (pa_cons pe_int (pa_cons pe_int pa_nil))))) (pv 2) (fun _ _ => rfl)) pa_nil)))))
      (pss_one (ps_if (pt_not (pt_val (pe_callG G_right_g hgd hr_right_g (by rfl) D_right_g.ad D_right_g.fn.kp D_right_g.bd .nil pass0 (pa_cons (pv 1) (pa_cons (pv 3) (pa_cons (pe_ix (ixL K) (pe_lst (pa_cons pe_int (pa_cons pe_int (pa_cons (pe_op op_pow pe_int pe_int) (pa_cons pe_int pa_nil))))) (pv 2) (fun _ _ => rfl)) pa_nil)))))) (pss_one (ps_ret pe_bl)) pss_nil))))
      (pss_one (ps_ret (pe_cmpR op_eq (pe_callB (reprK K hgd hu64) (by rfl) T.repr (by decide +kernel) (pa_cons (pe_call G_tog hr_tog (by rfl) D_tog.ad D_tog.fn.kp D_tog.bd .nil pass0 (pa_cons (pe_tup (pa_cons pe_int (pa_cons (pe_tup pa_nil) pa_nil))) (pa_cons (pe_tup (pa_cons (pe_tup (pa_cons pe_str (pa_cons pe_int (pa_cons pe_int pa_nil)))) (pa_cons (pe_tup (pa_cons pe_str (pa_cons pe_int (pa_cons pe_int pa_nil)))) pa_nil))) pa_nil))) pa_nil)) (pe_callB (reprK K hgd hu64) (by rfl) T.repr (by decide +kernel) (pa_cons (pe_tup (pa_cons (pe_tup (pa_cons pe_str (pa_cons pe_int (pa_cons pe_int pa_nil)))) pa_nil)) pa_nil)) (nomark _))))))), ?_⟩
    refine ⟨_, rfl, a, ns, rfl, hS, hlen, fun b g H1 _ _ _ hB => ?_⟩
    dsimp only [gName]
    refine tSeq_go ?_
    refine tIfS_t (fun t H' => Box H' b g ∧ t = false) ?_ ?_ (fun cont => ?_)
    · rintro H' ⟨_, z⟩
      cases z
    rotate_left
    · refine ⟨_, rfl, b, g, 4, rfl, by decide, by decide, hB, fun r H2 r0 r1 kp2 B2 => ?_⟩
      refine ⟨rfl, _, rfl, ?_⟩
      refine ite2 (fun hh => ?_) (fun hh => ?_)
      · refine ⟨_, rfl, b, g, rfl, B2, fun H3 kp3 B3 => ⟨true, rfl, ?_⟩⟩
        exact cont _ _ ⟨B3, rfl⟩
      · exact cont _ _ ⟨B2, rfl⟩
    rintro H2 ⟨hB2, _⟩
    dsimp only [tNext]
    refine tSeq_go ?_
    refine ⟨4, rfl, by decide, by decide, ?_⟩
    refine for_range (lo := 0) (n := (4 : Int).toNat) (fun i σ Hc => ∃ (v2 v3 : Option V),
      σ = [some (.ref a), some (.ref b), v2, v3] ∧ Box Hc b g) ?_ ?_ ?_
    · exact ⟨none, none, rfl, hB2⟩
    · rintro i σ Hc hi ⟨v2, v3, rfl, hBc⟩
      have hi4 : i < 4 := hi
      rw [Int.zero_add]
      obtain ⟨m1, e1, q1, q2⟩ := most4 i hi4
      obtain ⟨m2, e2, q3⟩ := more4 i hi4
      obtain ⟨z3, e3, q4⟩ := times4 i hi4
      show tSeq _ _ _ _ _
      refine tSeq_go ?_
      refine ⟨_, rfl, by decide, fun l1 hl1 => ?_⟩
      have s1 := same_new (o := .lst [.int 2, .int 4, .int 6, .int 5]) hl1
      refine ⟨_, rfl, l1, _, _, _, rfl, rfl, SqL.of upd_same, atI_nat e1, by decide, fun l2 hl2 => ?_⟩
      have s2 := same_new (o := .lst [.int 5, .int 4, .int 3, .int 3]) hl2
      refine ⟨_, rfl, l2, _, _, _, rfl, rfl, SqL.of upd_same, atI_nat e2, ?_⟩
      refine ⟨b, g, m1, m2, rfl, q1, by omega, by omega, (hBc.same s1).same s2, fun p n ts H3 _ hB3 hdp hok hn hl _ => ?_⟩
      have hends := hok.ends
      have hpos := hok.pos
      dsimp only [gName]
      refine ⟨_, rfl, _, rfl, ?_⟩
      refine ⟨_, _, rfl, rfl, ⟨by decide, by decide, by decide⟩, by show 4 ≤ sizeLine; decide, fun l3 hl3 => ?_⟩
      have s3 := same_new (o := .lst [.int 7, .int 2, .int (10 ^ (30 : Int).toNat), .int 3]) hl3
      refine ⟨_, rfl, l3, _, _, _, rfl, rfl, SqL.of upd_same, atI_nat e3, ?_⟩
      refine ⟨b, g, .ref p, n, ts, z3, rfl, hB3.same s3, dp_same s3 _ hdp, hends, hpos, by omega, by omega, q4, fun H4 _ hB4 => ⟨true, rfl, ?_⟩⟩
      refine iteF ?_
      exact ⟨_, _, rfl, hB4⟩
    · rintro σ Hc ⟨v2, v3, rfl, hBc⟩
      -- the smallest of all
      refine ⟨Nat.zero_le _, fun p1 hp1 => ⟨by show 2 ≤ sizeLine; decide, fun p2 hp2 => ?_⟩⟩
      have s1 := same_new (o := .tup []) hp1
      have s2 := same_new (o := .tup [.int 1, .ref p1]) hp2
      refine ⟨by show 3 ≤ sizeLine; decide, fun p3 hp3 => ⟨by show 3 ≤ sizeLine; decide, fun p4 hp4 => ⟨by show 2 ≤ sizeLine; decide, fun p5 hp5 => ?_⟩⟩⟩
      have s3 := same_new (o := .tup [.str "star", .int 0, .int 2]) hp3
      have s4 := same_new (o := .tup [.str "star", .int 0, .int 3]) hp4
      have s5 := same_new (o := .tup [.ref p3, .ref p4]) hp5
      have x1 := s5 _ _ (s4 _ _ (s3 _ _ (s2 _ _ (upd_same (H := Hc) (a := p1) (o := .tup [])))))
      have x2 := s5 _ _ (s4 _ _ (s3 _ _ (upd_same (a := p2) (o := .tup [.int 1, .ref p1]))))
      have x3 := s5 _ _ (s4 _ _ (upd_same (a := p3) (o := .tup [.str "star", .int 0, .int 2])))
      have x4 := s5 _ _ (upd_same (a := p4) (o := .tup [.str "star", .int 0, .int 3]))
      refine ⟨.ref p2, .ref p5, 1, [], [], [.star 0 2, .star 0 3], rfl, .tup (SqT.of x2) (.cons (.int _) (.cons (.tup (SqT.of x1) .nil) .nil)),
        .tup (SqT.of upd_same) (.cons (.tup (SqT.of x3) (.cons (.str _) (.cons (.int _) (.cons (.int _) .nil)))) (.cons (.tup (SqT.of x4) (.cons (.str _) (.cons (.int _) (.cons (.int _) .nil)))) .nil)),
        ⟨.nil, fun z hz => absurd hz List.not_mem_nil⟩, fun d hd => ?_, by decide, by decide, fun u1 H1' t1 hu1 => ?_⟩
      · rcases List.mem_cons.mp hd with e | e
        · subst e
          exact (by decide : 0 < 1)
        · rw [List.mem_singleton.mp e]
          exact (by decide : 0 < 1)
      have etog : tog 1 (([] : List Nat).map (lotN 0)) [.star 0 2, .star 0 3] = [.star 0 5] := rfl
      have hu1 : Dp K H1' u1 (deedsD [.star 0 5]) := hu1
      have show1 : Show (deedsD [.star 0 5]) := sm_show (sm_fine (fun d hd => by
        rw [List.mem_singleton.mp hd]
        exact ⟨by decide, by decide⟩) (by decide)) (by decide) (by decide)
      refine ⟨u1, _, rfl, hu1, show1, ?_⟩
      refine ⟨by show 3 ≤ sizeLine; decide, fun p6 hp6 => ⟨by show 1 ≤ sizeLine; decide, fun p7 hp7 => ?_⟩⟩
      have s7 := same_new (o := .tup [.ref p6]) hp7
      refine ⟨.ref p7, deedsD [.star 0 5], rfl, .tup (SqT.of upd_same) (.cons (.tup (SqT.of (s7 _ _ upd_same)) (.cons (.str _) (.cons (.int _) (.cons (.int _) .nil)))) .nil), show1, rfl, ?_⟩
      rw [decide_eq_true rfl]
      exact k _
end
end BV

namespace BV
open PySem L2
theorem kit_ve {K : PySem.W.Frag} {S : Addr} (h : PySem.W.subIn K (.ref S) (.type "ValueError") = some true) : PySem.W.kitOne K (.ref S) (.type "ValueError") = some true := by
  have m : PySem.W.kitMeta "ValueError" = true := by decide +kernel
  have e : PySem.W.kitCls K (.ref S) (.type "ValueError") = (if PySem.W.kitMeta "ValueError" = true then PySem.W.subIn K (.ref S) (.type "ValueError") else none) := rfl
  unfold PySem.W.kitOne
  rw [e, m, if_pos rfl, h]
  split <;> rfl
theorem kit_own {K : PySem.W.Frag} {S B : Addr} (h2 : PySem.W.isClsIn K B = true) (h3 : PySem.W.typeIn K (.ref B) = some (.type "type")) (h : PySem.W.subIn K (.ref S) (.ref B) = some true) : PySem.W.kitOne K (.ref S) (.ref B) = some true := by
  have q : (PySem.W.clsIn K B).isSome = true := h2
  have e : PySem.W.kitCls K (.ref S) (.ref B) = (if ((PySem.W.clsIn K B).isSome && PySem.W.typeIn K (.ref B) == some (.type "type")) = true then PySem.W.subIn K (.ref S) (.ref B) else none) := rfl
  have z : ((PySem.W.clsIn K B).isSome && PySem.W.typeIn K (.ref B) == some (.type "type")) = true := by rw [q, h3]; rfl
  unfold PySem.W.kitOne
  rw [e, if_pos z, h]
  split <;> rfl
theorem exm_self {K : PySem.W.Frag} {S : Addr} (h1 : PySem.W.subIn K (.ref S) (.type "BaseException") = some true) (h2 : PySem.W.isClsIn K S = true) (h3 : PySem.W.typeIn K (.ref S) = some (.type "type")) (h4 : PySem.W.subIn K (.ref S) (.ref S) = some true) :
    PySem.W.exmOne K (.ref S) (.ref S) = some true := by
  have q : (PySem.W.clsIn K S).isSome = true := h2
  have e : PySem.W.exmOne K (.ref S) (.ref S) = (if (PySem.W.subIn K (.ref S) (.type "BaseException") == some true) = true then (if ((PySem.W.clsIn K S).isSome && PySem.W.typeIn K (.ref S) == some (.type "type")) = true then PySem.W.subIn K (.ref S) (.ref S) else none) else none) := rfl
  rw [e, h1, h3, q, h4]
  rfl
section
variable {K : PySem.W.Frag} {mg : Str → Option Value}
theorem df_mk {x : String} {st : Stmt} {ps : List Str} {f : Addr} {oc : Value} {od an : Option Addr} {osl : Array (Option Value)} {kV doc pm cdv ct : Value} {h : Heap}
    (X : K.In h) (G : h.Ns mainGlobals mg)
    (a : PySem.W.nsIn K mainGlobals (Str.ofString x) = some (some (.ref f)))
    (l : K.lookup f = some ⟨oc, od, .func (PySem.W.fnOf (Str.ofString x) (Str.ofString x) (defArgs st) (defBody st) (defScope st) .none kV doc pm an cdv ct), osl⟩)
    (c : PySem.W.codeIn K cdv (Str.ofString x) = true) (k : PySem.W.keepIn K (.ref f) = true)
    (hb : ∀ (kV doc pm : Value) (an : Option Addr) (cdv ct : Value) (us : List Value), us.length = ps.length →
      bindArgs (PySem.W.fnOf (Str.ofString x) (Str.ofString x) (defArgs st) (defBody st) (defScope st) .none kV doc pm an cdv ct) ⟨us, []⟩ = pure (ps.zip us)) :
    Df K mg x st ps f (PySem.W.fnOf (Str.ofString x) (Str.ofString x) (defArgs st) (defBody st) (defScope st) .none kV doc pm an cdv ct) :=
  ⟨fun_mk (st := st) l c k, PySem.W.mg_of X G a, (fun_mk (st := st) l c k).binds hb⟩
theorem kbn_mk {x : Str} {params : Arguments} {body : List Stmt} {scope : Scope} {f : Addr} {ps ks : List Str} {g : List Value → List Value → List Value} {gV : List V → List V → List V}
    {oc : Value} {od an : Option Addr} {osl : Array (Option Value)} {kV doc pm cdv ct : Value}
    (_l : K.lookup f = some ⟨oc, od, .func (PySem.W.fnOf x x params body scope .none kV doc pm an cdv ct), osl⟩)
    (hb : ∀ us ws : List Value, us.length = 0 → ws.length = ks.length →
      bindArgs (PySem.W.fnOf x x params body scope .none kV doc pm an cdv ct) ⟨us, ks.zip ws⟩ = pure (ps.zip (g us ws)))
    (hr : ∀ {vs : List V} {us : List Value} {zs : List V} {ws : List Value}, Vals vs us → Vals zs ws → Vals (gV vs zs) (g us ws)) :
    KBn K (PySem.W.fnOf x x params body scope .none kV doc pm an cdv ct) ps 0 ks g gV :=
  ⟨fun _ us ws _ h1 h2 => .of_eq (hb us ws h1 h2), hr⟩
end
theorem all_mk {l : PySem.W.OpenLaw} {w : World} {K : PySem.W.Frag} {h : Heap} {mg : Str → Option Value} {fa : Addr} (X : K.In h) (G : h.Ns mainGlobals mg) (hfa : mg "law" = some (.ref fa))
    {f0 f1 f2 f3 f4 f5 f6 f7 f8 f9 f10 f11 f12 f13 f14 f15 f16 f17 f18 f19 f20 f21 f22 f23 f24 f25 f26 f27 : Addr} {od0 an0 od1 an1 od2 an2 od3 an3 od4 an4 od5 an5 od6 an6 od7 an7 od8 an8 od9 an9 od10 an10 od11 an11 od12 an12 od13 an13 od14 an14 od15 an15 od16 an16 od17 an17 od18 an18 od19 an19 od20 an20 od21 an21 od22 an22 od23 an23 od24 an24 od25 an25 od26 an26 od27 an27 : Option Addr} {sl0 sl1 sl2 sl3 sl4 sl5 sl6 sl7 sl8 sl9 sl10 sl11 sl12 sl13 sl14 sl15 sl16 sl17 sl18 sl19 sl20 sl21 sl22 sl23 sl24 sl25 sl26 sl27 : Array (Option Value)}
    {oc0 kV0 dc0 pm0 cd0 ct0 oc1 kV1 dc1 pm1 cd1 ct1 oc2 kV2 dc2 pm2 cd2 ct2 oc3 kV3 dc3 pm3 cd3 ct3 oc4 kV4 dc4 pm4 cd4 ct4 oc5 kV5 dc5 pm5 cd5 ct5 oc6 kV6 dc6 pm6 cd6 ct6 oc7 kV7 dc7 pm7 cd7 ct7 oc8 kV8 dc8 pm8 cd8 ct8 oc9 kV9 dc9 pm9 cd9 ct9 oc10 kV10 dc10 pm10 cd10 ct10 oc11 kV11 dc11 pm11 cd11 ct11 oc12 kV12 dc12 pm12 cd12 ct12 oc13 kV13 dc13 pm13 cd13 ct13 oc14 kV14 dc14 pm14 cd14 ct14 oc15 kV15 dc15 pm15 cd15 ct15 oc16 kV16 dc16 pm16 cd16 ct16 oc17 kV17 dc17 pm17 cd17 ct17 oc18 kV18 dc18 pm18 cd18 ct18 oc19 kV19 dc19 pm19 cd19 ct19 oc20 kV20 dc20 pm20 cd20 ct20 oc21 kV21 dc21 pm21 cd21 ct21 oc22 kV22 dc22 pm22 cd22 ct22 oc23 kV23 dc23 pm23 cd23 ct23 oc24 kV24 dc24 pm24 cd24 ct24 oc25 kV25 dc25 pm25 cd25 ct25 oc26 kV26 dc26 pm26 cd26 ct26 oc27 kV27 dc27 pm27 cd27 ct27 : Value}
    {U0 B0 : Addr} (gU : PySem.W.nsIn K mainGlobals "Unfit" = some (some (.ref U0))) (gB : PySem.W.nsIn K mainGlobals "BothError" = some (some (.ref B0)))
    (xU : PySem.W.excIn K U0 [.type "ValueError", .type "Exception", .type "BaseException", .type "object"] "ValueError.__new__" = true) (kU : PySem.W.keepIn K (.ref U0) = true) (bU : PySem.W.subIn K (.ref U0) (.type "BaseException") = some true)
    (tU : PySem.W.typeIn K (.ref U0) = some (.type "type")) (iU : PySem.W.isClsIn K U0 = true) (sU : PySem.W.subIn K (.ref U0) (.ref U0) = some true)
    (hgU : PySem.W.findIn K (.ref U0) "__getattribute__" = some (some (.builtin "BaseException.__getattribute__"))) (hkU : PySem.W.findIn K (.ref U0) "__getattr__" = some none) (hdU : PySem.W.hasDictIn K U0 = true)
    (haU : PySem.W.findIn K (.ref U0) "__class__" = some (some (.builtin "object.__class__"))) (hnU : PySem.W.specialIn K (.builtin "object.__class__") "__get__" = some (some (.builtin "getset_descriptor.__get__")))
    (htU : PySem.W.takesIn K (.builtin "object.__class__") = some true) (hmU : PySem.W.mroIn K U0 (.type "object") = some true)
    (ivU : PySem.W.subIn K (.ref U0) (.type "ValueError") = some true) (ibU : PySem.W.subIn K (.ref U0) (.ref B0) = some true) (iB : PySem.W.isClsIn K B0 = true) (tB : PySem.W.typeIn K (.ref B0) = some (.type "type"))
    (a0 : PySem.W.nsIn K mainGlobals "ties_at" = some (some (.ref f0)))
    (l0 : K.lookup f0 = some ⟨oc0, od0, .func (PySem.W.fnOf "ties_at" "ties_at" (defArgs sTies) (defBody sTies) (defScope sTies) .none kV0 dc0 pm0 an0 cd0 ct0), sl0⟩)
    (c0 : PySem.W.codeIn K cd0 "ties_at" = true) (k0 : PySem.W.keepIn K (.ref f0) = true)
    (a1 : PySem.W.nsIn K mainGlobals "_do" = some (some (.ref f1)))
    (l1 : K.lookup f1 = some ⟨oc1, od1, .func (PySem.W.fnOf "_do" "_do" (defArgs sDo) (defBody sDo) (defScope sDo) .none kV1 dc1 pm1 an1 cd1 ct1), sl1⟩)
    (c1 : PySem.W.codeIn K cd1 "_do" = true) (k1 : PySem.W.keepIn K (.ref f1) = true)
    (a2 : PySem.W.nsIn K mainGlobals "done" = some (some (.ref f2)))
    (l2 : K.lookup f2 = some ⟨oc2, od2, .func (PySem.W.fnOf "done" "done" (defArgs sDone) (defBody sDone) (defScope sDone) .none kV2 dc2 pm2 an2 cd2 ct2), sl2⟩)
    (c2 : PySem.W.codeIn K cd2 "done" = true) (k2 : PySem.W.keepIn K (.ref f2) = true)
    (a3 : PySem.W.nsIn K mainGlobals "undone" = some (some (.ref f3)))
    (l3 : K.lookup f3 = some ⟨oc3, od3, .func (PySem.W.fnOf "undone" "undone" (defArgs sUndone) (defBody sUndone) (defScope sUndone) .none kV3 dc3 pm3 an3 cd3 ct3), sl3⟩)
    (c3 : PySem.W.codeIn K cd3 "undone" = true) (k3 : PySem.W.keepIn K (.ref f3) = true)
    (a4 : PySem.W.nsIn K mainGlobals "_has_below" = some (some (.ref f4)))
    (l4 : K.lookup f4 = some ⟨oc4, od4, .func (PySem.W.fnOf "_has_below" "_has_below" (defArgs sHb) (defBody sHb) (defScope sHb) .none kV4 dc4 pm4 an4 cd4 ct4), sl4⟩)
    (c4 : PySem.W.codeIn K cd4 "_has_below" = true) (k4 : PySem.W.keepIn K (.ref f4) = true)
    (a5 : PySem.W.nsIn K mainGlobals "never_below" = some (some (.ref f5)))
    (l5 : K.lookup f5 = some ⟨oc5, od5, .func (PySem.W.fnOf "never_below" "never_below" (defArgs sNb) (defBody sNb) (defScope sNb) .none kV5 dc5 pm5 an5 cd5 ct5), sl5⟩)
    (c5 : PySem.W.codeIn K cd5 "never_below" = true) (k5 : PySem.W.keepIn K (.ref f5) = true)
    (a6 : PySem.W.nsIn K mainGlobals "lifted" = some (some (.ref f6)))
    (l6 : K.lookup f6 = some ⟨oc6, od6, .func (PySem.W.fnOf "lifted" "lifted" (defArgs sLifted) (defBody sLifted) (defScope sLifted) .none kV6 dc6 pm6 an6 cd6 ct6), sl6⟩)
    (c6 : PySem.W.codeIn K cd6 "lifted" = true) (k6 : PySem.W.keepIn K (.ref f6) = true)
    (a7 : PySem.W.nsIn K mainGlobals "mask_of" = some (some (.ref f7)))
    (l7 : K.lookup f7 = some ⟨oc7, od7, .func (PySem.W.fnOf "mask_of" "mask_of" (defArgs sMask) (defBody sMask) (defScope sMask) .none kV7 dc7 pm7 an7 cd7 ct7), sl7⟩)
    (c7 : PySem.W.codeIn K cd7 "mask_of" = true) (k7 : PySem.W.keepIn K (.ref f7) = true)
    (a8 : PySem.W.nsIn K mainGlobals "lot_behind" = some (some (.ref f8)))
    (l8 : K.lookup f8 = some ⟨oc8, od8, .func (PySem.W.fnOf "lot_behind" "lot_behind" (defArgs sBehind) (defBody sBehind) (defScope sBehind) .none kV8 dc8 pm8 an8 cd8 ct8), sl8⟩)
    (c8 : PySem.W.codeIn K cd8 "lot_behind" = true) (k8 : PySem.W.keepIn K (.ref f8) = true)
    (a9 : PySem.W.nsIn K mainGlobals "told_together" = some (some (.ref f9)))
    (l9 : K.lookup f9 = some ⟨oc9, od9, .func (PySem.W.fnOf "told_together" "told_together" (defArgs sTog) (defBody sTog) (defScope sTog) .none kV9 dc9 pm9 an9 cd9 ct9), sl9⟩)
    (c9 : PySem.W.codeIn K cd9 "told_together" = true) (k9 : PySem.W.keepIn K (.ref f9) = true)
    (a10 : PySem.W.nsIn K mainGlobals "_law_box" = some (some (.ref f10)))
    (l10 : K.lookup f10 = some ⟨oc10, od10, .func (PySem.W.fnOf "_law_box" "_law_box" (defArgs sBox) (defBody sBox) (defScope sBox) .none kV10 dc10 pm10 an10 cd10 ct10), sl10⟩)
    (c10 : PySem.W.codeIn K cd10 "_law_box" = true) (k10 : PySem.W.keepIn K (.ref f10) = true)
    (a11 : PySem.W.nsIn K mainGlobals "_law_draw" = some (some (.ref f11)))
    (l11 : K.lookup f11 = some ⟨oc11, od11, .func (PySem.W.fnOf "_law_draw" "_law_draw" (defArgs sDraw) (defBody sDraw) (defScope sDraw) .none kV11 dc11 pm11 an11 cd11 ct11), sl11⟩)
    (c11 : PySem.W.codeIn K cd11 "_law_draw" = true) (k11 : PySem.W.keepIn K (.ref f11) = true)
    (a12 : PySem.W.nsIn K mainGlobals "_law_pick" = some (some (.ref f12)))
    (l12 : K.lookup f12 = some ⟨oc12, od12, .func (PySem.W.fnOf "_law_pick" "_law_pick" (defArgs sPick) (defBody sPick) (defScope sPick) .none kV12 dc12 pm12 an12 cd12 ct12), sl12⟩)
    (c12 : PySem.W.codeIn K cd12 "_law_pick" = true) (k12 : PySem.W.keepIn K (.ref f12) = true)
    (a13 : PySem.W.nsIn K mainGlobals "_law_web" = some (some (.ref f13)))
    (l13 : K.lookup f13 = some ⟨oc13, od13, .func (PySem.W.fnOf "_law_web" "_law_web" (defArgs sWeb) (defBody sWeb) (defScope sWeb) .none kV13 dc13 pm13 an13 cd13 ct13), sl13⟩)
    (c13 : PySem.W.codeIn K cd13 "_law_web" = true) (k13 : PySem.W.keepIn K (.ref f13) = true)
    (a14 : PySem.W.nsIn K mainGlobals "_law_counts" = some (some (.ref f14)))
    (l14 : K.lookup f14 = some ⟨oc14, od14, .func (PySem.W.fnOf "_law_counts" "_law_counts" (defArgs sCounts) (defBody sCounts) (defScope sCounts) .none kV14 dc14 pm14 an14 cd14 ct14), sl14⟩)
    (c14 : PySem.W.codeIn K cd14 "_law_counts" = true) (k14 : PySem.W.keepIn K (.ref f14) = true)
    (a15 : PySem.W.nsIn K mainGlobals "_law_lot" = some (some (.ref f15)))
    (l15 : K.lookup f15 = some ⟨oc15, od15, .func (PySem.W.fnOf "_law_lot" "_law_lot" (defArgs sLot) (defBody sLot) (defScope sLot) .none kV15 dc15 pm15 an15 cd15 ct15), sl15⟩)
    (c15 : PySem.W.codeIn K cd15 "_law_lot" = true) (k15 : PySem.W.keepIn K (.ref f15) = true)
    (a16 : PySem.W.nsIn K mainGlobals "_law_twos" = some (some (.ref f16)))
    (l16 : K.lookup f16 = some ⟨oc16, od16, .func (PySem.W.fnOf "_law_twos" "_law_twos" (defArgs sTwos) (defBody sTwos) (defScope sTwos) .none kV16 dc16 pm16 an16 cd16 ct16), sl16⟩)
    (c16 : PySem.W.codeIn K cd16 "_law_twos" = true) (k16 : PySem.W.keepIn K (.ref f16) = true)
    (a17 : PySem.W.nsIn K mainGlobals "_law_is_round" = some (some (.ref f17)))
    (l17 : K.lookup f17 = some ⟨oc17, od17, .func (PySem.W.fnOf "_law_is_round" "_law_is_round" (defArgs sIsr) (defBody sIsr) (defScope sIsr) .none kV17 dc17 pm17 an17 cd17 ct17), sl17⟩)
    (c17 : PySem.W.codeIn K cd17 "_law_is_round" = true) (k17 : PySem.W.keepIn K (.ref f17) = true)
    (a18 : PySem.W.nsIn K mainGlobals "_law_rounds" = some (some (.ref f18)))
    (l18 : K.lookup f18 = some ⟨oc18, od18, .func (PySem.W.fnOf "_law_rounds" "_law_rounds" (defArgs sRounds) (defBody sRounds) (defScope sRounds) .none kV18 dc18 pm18 an18 cd18 ct18), sl18⟩)
    (c18 : PySem.W.codeIn K cd18 "_law_rounds" = true) (k18 : PySem.W.keepIn K (.ref f18) = true)
    (a19 : PySem.W.nsIn K mainGlobals "_law_deeds" = some (some (.ref f19)))
    (l19 : K.lookup f19 = some ⟨oc19, od19, .func (PySem.W.fnOf "_law_deeds" "_law_deeds" (defArgs sDeeds) (defBody sDeeds) (defScope sDeeds) .none kV19 dc19 pm19 an19 cd19 ct19), sl19⟩)
    (c19 : PySem.W.codeIn K cd19 "_law_deeds" = true) (k19 : PySem.W.keepIn K (.ref f19) = true)
    (a20 : PySem.W.nsIn K mainGlobals "_law_done" = some (some (.ref f20)))
    (l20 : K.lookup f20 = some ⟨oc20, od20, .func (PySem.W.fnOf "_law_done" "_law_done" (defArgs sLdone) (defBody sLdone) (defScope sLdone) .none kV20 dc20 pm20 an20 cd20 ct20), sl20⟩)
    (c20 : PySem.W.codeIn K cd20 "_law_done" = true) (k20 : PySem.W.keepIn K (.ref f20) = true)
    (a21 : PySem.W.nsIn K mainGlobals "_law_together" = some (some (.ref f21)))
    (l21 : K.lookup f21 = some ⟨oc21, od21, .func (PySem.W.fnOf "_law_together" "_law_together" (defArgs sLtog) (defBody sLtog) (defScope sLtog) .none kV21 dc21 pm21 an21 cd21 ct21), sl21⟩)
    (c21 : PySem.W.codeIn K cd21 "_law_together" = true) (k21 : PySem.W.keepIn K (.ref f21) = true)
    (a22 : PySem.W.nsIn K mainGlobals "_law_shuffled" = some (some (.ref f22)))
    (l22 : K.lookup f22 = some ⟨oc22, od22, .func (PySem.W.fnOf "_law_shuffled" "_law_shuffled" (defArgs sShuf) (defBody sShuf) (defScope sShuf) .none kV22 dc22 pm22 an22 cd22 ct22), sl22⟩)
    (c22 : PySem.W.codeIn K cd22 "_law_shuffled" = true) (k22 : PySem.W.keepIn K (.ref f22) = true)
    (a23 : PySem.W.nsIn K mainGlobals "_law_couples" = some (some (.ref f23)))
    (l23 : K.lookup f23 = some ⟨oc23, od23, .func (PySem.W.fnOf "_law_couples" "_law_couples" (defArgs sCoup) (defBody sCoup) (defScope sCoup) .none kV23 dc23 pm23 an23 cd23 ct23), sl23⟩)
    (c23 : PySem.W.codeIn K cd23 "_law_couples" = true) (k23 : PySem.W.keepIn K (.ref f23) = true)
    (a24 : PySem.W.nsIn K mainGlobals "_law_great" = some (some (.ref f24)))
    (l24 : K.lookup f24 = some ⟨oc24, od24, .func (PySem.W.fnOf "_law_great" "_law_great" (defArgs sGreat) (defBody sGreat) (defScope sGreat) .none kV24 dc24 pm24 an24 cd24 ct24), sl24⟩)
    (c24 : PySem.W.codeIn K cd24 "_law_great" = true) (k24 : PySem.W.keepIn K (.ref f24) = true)
    (a25 : PySem.W.nsIn K mainGlobals "_law_is_great" = some (some (.ref f25)))
    (l25 : K.lookup f25 = some ⟨oc25, od25, .func (PySem.W.fnOf "_law_is_great" "_law_is_great" (defArgs sIsg) (defBody sIsg) (defScope sIsg) .none kV25 dc25 pm25 an25 cd25 ct25), sl25⟩)
    (c25 : PySem.W.codeIn K cd25 "_law_is_great" = true) (k25 : PySem.W.keepIn K (.ref f25) = true)
    (a26 : PySem.W.nsIn K mainGlobals "_law_is_right" = some (some (.ref f26)))
    (l26 : K.lookup f26 = some ⟨oc26, od26, .func (PySem.W.fnOf "_law_is_right" "_law_is_right" (defArgs sRight) (defBody sRight) (defScope sRight) .none kV26 dc26 pm26 an26 cd26 ct26), sl26⟩)
    (c26 : PySem.W.codeIn K cd26 "_law_is_right" = true) (k26 : PySem.W.keepIn K (.ref f26) = true)
    (a27 : PySem.W.nsIn K mainGlobals "law" = some (some (.ref f27)))
    (l27 : K.lookup f27 = some ⟨oc27, od27, .func (PySem.W.fnOf "law" "law" (defArgs sLaw) (defBody sLaw) (defScope sLaw) .none kV27 dc27 pm27 an27 cd27 ct27), sl27⟩)
    (c27 : PySem.W.codeIn K cd27 "law" = true) (k27 : PySem.W.keepIn K (.ref f27) = true)
    (z_int : PySem.W.nsIn K mainGlobals "int" = some none)
    (z_abs : PySem.W.nsIn K mainGlobals "abs" = some none)
    (z_len : PySem.W.nsIn K mainGlobals "len" = some none)
    (z_range : PySem.W.nsIn K mainGlobals "range" = some none)
    (z_enumerate : PySem.W.nsIn K mainGlobals "enumerate" = some none)
    (z_tuple : PySem.W.nsIn K mainGlobals "tuple" = some none)
    (z_min : PySem.W.nsIn K mainGlobals "min" = some none)
    (z_max : PySem.W.nsIn K mainGlobals "max" = some none)
    (z_sum : PySem.W.nsIn K mainGlobals "sum" = some none)
    (z_repr : PySem.W.nsIn K mainGlobals "repr" = some none)
    (z_list : PySem.W.nsIn K mainGlobals "list" = some none)
    (z_any : PySem.W.nsIn K mainGlobals "any" = some none)
    (z_sorted : PySem.W.nsIn K mainGlobals "sorted" = some none)
    (z_ValueError : PySem.W.nsIn K mainGlobals "ValueError" = some none) :
    ∃ fd : FuncData, (∀ (s : Shared) (v : Value), BindsTo s fd ⟨[v], []⟩ [("_law_script", v)]) ∧
      ∀ base : Heap, K.In base → base.Ns mainGlobals mg → FnG l.prog w K mg base CX0 6 fa fd ["_law_script"] (spLaw K) := by
  have e := hfa.symm.trans (PySem.W.mg_of X G a27)
  cases e
  have T : Bl mg := ⟨PySem.W.mg_none_of X G z_int, PySem.W.mg_none_of X G z_abs, PySem.W.mg_none_of X G z_len, PySem.W.mg_none_of X G z_range, PySem.W.mg_none_of X G z_enumerate, PySem.W.mg_none_of X G z_tuple, PySem.W.mg_none_of X G z_min, PySem.W.mg_none_of X G z_max, PySem.W.mg_none_of X G z_sum, PySem.W.mg_none_of X G z_repr⟩
  have Zlist : mg "list" = none := PySem.W.mg_none_of X G z_list
  have Zany : mg "any" = none := PySem.W.mg_none_of X G z_any
  have Zsorted : mg "sorted" = none := PySem.W.mg_none_of X G z_sorted
  have D0 : Df K mg "ties_at" sTies ["web", "place"] f0 _ := df_mk X G a0 l0 c0 k0 fun _ _ _ _ _ _ us hl => match us, hl with | [_, _], _ => rfl
  have D1 : Df K mg "_do" sDo ["web", "numbers", "deed"] f1 _ := df_mk X G a1 l1 c1 k1 fun _ _ _ _ _ _ us hl => match us, hl with | [_, _, _], _ => rfl
  have D2 : Df K mg "done" sDone ["web", "standing", "deeds"] f2 _ := df_mk X G a2 l2 c2 k2 fun _ _ _ _ _ _ us hl => match us, hl with | [_, _, _], _ => rfl
  have D3 : Df K mg "undone" sUndone ["deeds"] f3 _ := df_mk X G a3 l3 c3 k3 fun _ _ _ _ _ _ us hl => match us, hl with | [_], _ => rfl
  have D4 : Df K mg "_has_below" sHb ["numbers"] f4 _ := df_mk X G a4 l4 c4 k4 fun _ _ _ _ _ _ us hl => match us, hl with | [_], _ => rfl
  have D5 : Df K mg "never_below" sNb ["web", "standing", "deeds"] f5 _ := df_mk X G a5 l5 c5 k5 fun _ _ _ _ _ _ us hl => match us, hl with | [_, _, _], _ => rfl
  have D6 : Df K mg "lifted" sLifted ["web", "standing", "deeds"] f6 _ := df_mk X G a6 l6 c6 k6 fun _ _ _ _ _ _ us hl => match us, hl with | [_, _, _], _ => rfl
  have D7 : Df K mg "mask_of" sMask ["web", "lot"] f7 _ := df_mk X G a7 l7 c7 k7 fun _ _ _ _ _ _ us hl => match us, hl with | [_, _], _ => rfl
  have D8 : Df K mg "lot_behind" sBehind ["web", "mask"] f8 _ := df_mk X G a8 l8 c8 k8 fun _ _ _ _ _ _ us hl => match us, hl with | [_, _], _ => rfl
  have D9 : Df K mg "told_together" sTog ["web", "deeds"] f9 _ := df_mk X G a9 l9 c9 k9 fun _ _ _ _ _ _ us hl => match us, hl with | [_, _], _ => rfl
  have D10 : Df K mg "_law_box" sBox ["_law_script"] f10 _ := df_mk X G a10 l10 c10 k10 fun _ _ _ _ _ _ us hl => match us, hl with | [_], _ => rfl
  have D11 : Df K mg "_law_draw" sDraw ["_law_box_here", "_law_many"] f11 _ := df_mk X G a11 l11 c11 k11 fun _ _ _ _ _ _ us hl => match us, hl with | [_, _], _ => rfl
  have D12 : Df K mg "_law_pick" sPick ["_law_box_here", "_law_items"] f12 _ := df_mk X G a12 l12 c12 k12 fun _ _ _ _ _ _ us hl => match us, hl with | [_, _], _ => rfl
  have D13 : Df K mg "_law_web" sWeb ["_law_box_here", "_law_most", "_law_more"] f13 _ := df_mk X G a13 l13 c13 k13 fun _ _ _ _ _ _ us hl => match us, hl with | [_, _, _], _ => rfl
  have D14 : Df K mg "_law_counts" sCounts ["_law_web_here", "_law_lot_here"] f14 _ := df_mk X G a14 l14 c14 k14 fun _ _ _ _ _ _ us hl => match us, hl with | [_, _], _ => rfl
  have D15 : Df K mg "_law_lot" sLot ["_law_web_here", "_law_number"] f15 _ := df_mk X G a15 l15 c15 k15 fun _ _ _ _ _ _ us hl => match us, hl with | [_, _], _ => rfl
  have D16 : Df K mg "_law_twos" sTwos ["_law_many"] f16 _ := df_mk X G a16 l16 c16 k16 fun _ _ _ _ _ _ us hl => match us, hl with | [_], _ => rfl
  have D17 : Df K mg "_law_is_round" sIsr ["_law_web_here", "_law_lot_here"] f17 _ := df_mk X G a17 l17 c17 k17 fun _ _ _ _ _ _ us hl => match us, hl with | [_, _], _ => rfl
  have D18 : Df K mg "_law_rounds" sRounds ["_law_web_here"] f18 _ := df_mk X G a18 l18 c18 k18 fun _ _ _ _ _ _ us hl => match us, hl with | [_], _ => rfl
  have D19 : Df K mg "_law_deeds" sDeeds ["_law_box_here", "_law_web_here", "_law_every", "_law_many", "_law_most"] f19 _ := df_mk X G a19 l19 c19 k19 fun _ _ _ _ _ _ us hl => match us, hl with | [_, _, _, _, _], _ => rfl
  have D20 : Df K mg "_law_done" sLdone ["_law_web_here", "_law_standing", "_law_deeds_here"] f20 _ := df_mk X G a20 l20 c20 k20 fun _ _ _ _ _ _ us hl => match us, hl with | [_, _, _], _ => rfl
  have D21 : Df K mg "_law_together" sLtog ["_law_web_here", "_law_every", "_law_deeds_here"] f21 _ := df_mk X G a21 l21 c21 k21 fun _ _ _ _ _ _ us hl => match us, hl with | [_, _, _], _ => rfl
  have D22 : Df K mg "_law_shuffled" sShuf ["_law_box_here", "_law_deeds_here"] f22 _ := df_mk X G a22 l22 c22 k22 fun _ _ _ _ _ _ us hl => match us, hl with | [_, _], _ => rfl
  have D23 : Df K mg "_law_couples" sCoup ["_law_many"] f23 _ := df_mk X G a23 l23 c23 k23 fun _ _ _ _ _ _ us hl => match us, hl with | [_], _ => rfl
  have D24 : Df K mg "_law_great" sGreat ["_law_box_here"] f24 _ := df_mk X G a24 l24 c24 k24 fun _ _ _ _ _ _ us hl => match us, hl with | [_], _ => rfl
  have D25 : Df K mg "_law_is_great" sIsg ["_law_box_here"] f25 _ := df_mk X G a25 l25 c25 k25 fun _ _ _ _ _ _ us hl => match us, hl with | [_], _ => rfl
  have D26 : Df K mg "_law_is_right" sRight ["_law_box_here", "_law_web_here", "_law_most"] f26 _ := df_mk X G a26 l26 c26 k26 fun _ _ _ _ _ _ us hl => match us, hl with | [_, _, _], _ => rfl
  have D27 : Df K mg "law" sLaw ["_law_script"] fa _ := df_mk X G a27 l27 c27 k27 fun _ _ _ _ _ _ us hl => match us, hl with | [_], _ => rfl
  have Kt : KBn K _ ["web", "deeds"] 0 ["deeds", "web"] (fun _ ws => ws.reverse) (fun _ zs => zs.reverse) := kbn_mk l9 (fun us ws h1 h2 => match us, ws, h1, h2 with | [], [_, _], _, _ => rfl) (fun r1 r2 => r2.reverse)
  have EU : ErrU K mg U0 B0 := { gU := PySem.W.mg_of X G gU, gB := PySem.W.mg_of X G gB, gv := PySem.W.mg_none_of X G z_ValueError, xU := xU, kU := kU, bU := bU, tU := tU, te := exm_self bU iU tU sU, ex := ⟨hgU, hkU, bU, hdU, haU, hnU, htU, hmU⟩, iv := kit_ve ivU, ib := kit_own iB tB ibU }
  exact ⟨_, fun s v => .of_eq rfl, fun base _ _ => ok_law D27 T Zlist Zany Zsorted EU D0 D1 D4 D5 D6 D10 D11 D12 D13 D14 D15 D16 D17 D18 D19 D20 D2 D3 D9 Kt D7 D8 D21 D22 D23 D24 D25 D26⟩
end BV

open PySem PySem.W PyProof.Rows in
set_option maxRecDepth 100000 in
set_option maxHeartbeats 0 in
theorem PySem.Challenge.cw_botheven_k11_whole_deeds_told_together_holds : PySem.Challenge.rw_botheven_k11_whole_deeds_told_together.Holds := by
  w_on; o_law; k_head; (case hw => w_witness2)
  k_fill
  refine BV.walk_ofG (n := 63) (k := 6) (x := "_law_script") (CX := L2.CX0) (sp := BV.spLaw) (l := PySem.Challenge.rw_botheven_k11_whole_deeds_told_together) rfl (by decide) rfl ⟨rfl, by decide, by decide⟩ (fun w h Y => PySem.W.kIn_of Y) ?F (fun _ _ a ns hl _ _ hS => ⟨a, ns, rfl, hS, hl, fun _ => rfl⟩) fun _ _ _ _ z => z
  case F =>
    intro w mg fa h KX G hmg
    refine' BV.all_mk KX G hmg ?gU ?gB ?xU ?kU ?bU ?tU ?iU ?sU ?hgU ?hkU ?hdU ?haU ?hnU ?htU ?hmU ?ivU ?ibU ?iB ?tB ?a0 ?l0 ?c0 ?k0 ?a1 ?l1 ?c1 ?k1 ?a2 ?l2 ?c2 ?k2 ?a3 ?l3 ?c3 ?k3 ?a4 ?l4 ?c4 ?k4 ?a5 ?l5 ?c5 ?k5 ?a6 ?l6 ?c6 ?k6 ?a7 ?l7 ?c7 ?k7 ?a8 ?l8 ?c8 ?k8 ?a9 ?l9 ?c9 ?k9 ?a10 ?l10 ?c10 ?k10 ?a11 ?l11 ?c11 ?k11 ?a12 ?l12 ?c12 ?k12 ?a13 ?l13 ?c13 ?k13 ?a14 ?l14 ?c14 ?k14 ?a15 ?l15 ?c15 ?k15 ?a16 ?l16 ?c16 ?k16 ?a17 ?l17 ?c17 ?k17 ?a18 ?l18 ?c18 ?k18 ?a19 ?l19 ?c19 ?k19 ?a20 ?l20 ?c20 ?k20 ?a21 ?l21 ?c21 ?k21 ?a22 ?l22 ?c22 ?k22 ?a23 ?l23 ?c23 ?k23 ?a24 ?l24 ?c24 ?k24 ?a25 ?l25 ?c25 ?k25 ?a26 ?l26 ?c26 ?k26 ?a27 ?l27 ?c27 ?k27 ?z_int ?z_abs ?z_len ?z_range ?z_enumerate ?z_tuple ?z_min ?z_max ?z_sum ?z_repr ?z_list ?z_any ?z_sorted ?z_ValueError
    (case gU => k_is)
    (case gB => k_is)
    (case xU => k_exc)
    (case kU => k_is)
    (case bU => k_is)
    (case tU => k_is)
    (case iU => k_is)
    (case sU => first | rfl | k_is)
    (case hgU => k_is)
    (case hkU => k_is)
    (case hdU => k_is)
    (case haU => k_is)
    (case hnU => k_is)
    (case htU => k_is)
    (case hmU => k_is)
    (case ivU => k_is)
    (case ibU => k_is)
    (case iB => k_is)
    (case tB => k_is)
    (case a0 => k_is)
    (case l0 => k_is)
    (case c0 => k_is)
    (case k0 => k_is)
    (case a1 => k_is)
    (case l1 => k_is)
    (case c1 => k_is)
    (case k1 => k_is)
    (case a2 => k_is)
    (case l2 => k_is)
    (case c2 => k_is)
    (case k2 => k_is)
    (case a3 => k_is)
    (case l3 => k_is)
    (case c3 => k_is)
    (case k3 => k_is)
    (case a4 => k_is)
    (case l4 => k_is)
    (case c4 => k_is)
    (case k4 => k_is)
    (case a5 => k_is)
    (case l5 => k_is)
    (case c5 => k_is)
    (case k5 => k_is)
    (case a6 => k_is)
    (case l6 => k_is)
    (case c6 => k_is)
    (case k6 => k_is)
    (case a7 => k_is)
    (case l7 => k_is)
    (case c7 => k_is)
    (case k7 => k_is)
    (case a8 => k_is)
    (case l8 => k_is)
    (case c8 => k_is)
    (case k8 => k_is)
    (case a9 => k_is)
    (case l9 => k_is)
    (case c9 => k_is)
    (case k9 => k_is)
    (case a10 => k_is)
    (case l10 => k_is)
    (case c10 => k_is)
    (case k10 => k_is)
    (case a11 => k_is)
    (case l11 => k_is)
    (case c11 => k_is)
    (case k11 => k_is)
    (case a12 => k_is)
    (case l12 => k_is)
    (case c12 => k_is)
    (case k12 => k_is)
    (case a13 => k_is)
    (case l13 => k_is)
    (case c13 => k_is)
    (case k13 => k_is)
    (case a14 => k_is)
    (case l14 => k_is)
    (case c14 => k_is)
    (case k14 => k_is)
    (case a15 => k_is)
    (case l15 => k_is)
    (case c15 => k_is)
    (case k15 => k_is)
    (case a16 => k_is)
    (case l16 => k_is)
    (case c16 => k_is)
    (case k16 => k_is)
    (case a17 => k_is)
    (case l17 => k_is)
    (case c17 => k_is)
    (case k17 => k_is)
    (case a18 => k_is)
    (case l18 => k_is)
    (case c18 => k_is)
    (case k18 => k_is)
    (case a19 => k_is)
    (case l19 => k_is)
    (case c19 => k_is)
    (case k19 => k_is)
    (case a20 => k_is)
    (case l20 => k_is)
    (case c20 => k_is)
    (case k20 => k_is)
    (case a21 => k_is)
    (case l21 => k_is)
    (case c21 => k_is)
    (case k21 => k_is)
    (case a22 => k_is)
    (case l22 => k_is)
    (case c22 => k_is)
    (case k22 => k_is)
    (case a23 => k_is)
    (case l23 => k_is)
    (case c23 => k_is)
    (case k23 => k_is)
    (case a24 => k_is)
    (case l24 => k_is)
    (case c24 => k_is)
    (case k24 => k_is)
    (case a25 => k_is)
    (case l25 => k_is)
    (case c25 => k_is)
    (case k25 => k_is)
    (case a26 => k_is)
    (case l26 => k_is)
    (case c26 => k_is)
    (case k26 => k_is)
    (case a27 => k_is)
    (case l27 => k_is)
    (case c27 => k_is)
    (case k27 => k_is)
    (case z_int => k_is)
    (case z_abs => k_is)
    (case z_len => k_is)
    (case z_range => k_is)
    (case z_enumerate => k_is)
    (case z_tuple => k_is)
    (case z_min => k_is)
    (case z_max => k_is)
    (case z_sum => k_is)
    (case z_repr => k_is)
    (case z_list => k_is)
    (case z_any => k_is)
    (case z_sorted => k_is)
    (case z_ValueError => k_is)

