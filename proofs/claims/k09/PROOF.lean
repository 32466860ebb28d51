import PyProof.Rows.All
import Wide.All
import OpenK.AllK
import Wide.FinOn
import HandS.Words
import HandS.WordsList
import HandS.Defaults
import HandS.List
import PyProof.ReprRoads
import HandS.Ends
import HandS.EndBits
import HandS.ForMost
import HandS.TupMul
import HandS.Walk
import HandS.Wide
import KE.GoesEnum
import KE.KTupSum
import KE.KRevSl
import HandS.Style
import PyProof.ReprLen
import HandS.TupAny
import HandS.Zip
import HandS.TupLe
import HandS.Conv
import HandS.ForDict
import KE.SortData
import HandS.IsInst
import HandS.WordsExc
import HandS.ExcIs
import HandS.TryOnly
import KE.KEqDeep
import PySem.Challenge.RW_botheven_k09_what_are_standings_and_deed
set_option Elab.async false
set_option maxRecDepth 100000
set_option maxHeartbeats 4000000
set_option linter.all false
namespace BV
open PySem PySem.Spec PyProof.Rows L2

/-! ### defs that may write texts of data: the same promise, asked only where nothing is being written -/
def CanRun (P : Program) (w : World) (K : PySem.W.Frag) (mg : Str → Option Value) (base : Heap)
    (CX : CXT) (k : Nat) (f : Addr) (fd : FuncData) (ps : List Str) (sp : Sp) : Prop :=
  ∀ (A : Around) (outer : List Env) (s : Shared) (H : Hp) (args : Args) (us : List Value) (vs : List V) (Q : VK) (E : XK),
    A.guards = some [] → Room k A → Env0 P w K mg base A outer s H → BindsTo s fd args (ps.zip us) →
    Vals vs us → sp vs H Q E →
      codeAny (model P w) A (.call (.ref f) args) (CR CX outer P w H s Q E) s

structure FnG (P : Program) (w : World) (K : PySem.W.Frag) (mg : Str → Option Value) (base : Heap)
    (CX : CXT) (k : Nat) (f : Addr) (fd : FuncData) (ps : List Str) (sp : Sp) : Prop where
  len : ∀ vs H Q E, sp vs H Q E → vs.length = ps.length
  run : CanRun P w K mg base CX k f fd ps sp

section
variable {P : Program} {w : World} {K : PySem.W.Frag} {mg : Str → Option Value} {base : Heap} {CX : CXT}

/-- a def's body keeps its promise, the guards told -/
theorem fn_ofG {k : Nat} {f : Addr} {name qual : Str} {params : Arguments} {body : List Stmt} {scope : Scope}
    {dV kV doc pm cdv ct oc : Value} {an od : Option Addr} {osl : Array (Option Value)} {N ps : List Str} {sp : Sp}
    (lk : K.lookup f = some ⟨oc, od, .func (PySem.W.fnOf name qual params body scope dV kV doc pm an cdv ct), osl⟩)
    (hcd : PySem.W.codeIn K cdv qual = true) (S : FnScope N ps scope)
    (len : ∀ vs H Q E, sp vs H Q E → vs.length = ps.length)
    (hbody : ∀ (A : Around) (outer : List Env) (s : Shared) (H : Hp) (vs : List V) (Q : VK) (E : XK), A.guards = some [] →
      Room k (A.deeper (envOfC qual scope s.heap.objs.size f cdv)) → sp vs H Q E →
      ∃ t, PSs (cxOf CX P w K mg base N qual scope f cdv A outer s H E) body t ∧
        t { nx := fun _ H' => Q .non H', rt := Q } (start N vs) H) :
    FnG P w K mg base CX (k + 1) f (PySem.W.fnOf name qual params body scope dV kV doc pm an cdv ct) ps sp := by
  constructor
  · exact len
  · intro A outer s H args us vs Q E hgd hr e0 hb r hsp
    have hl := len _ _ _ _ hsp
    have bk : ∀ b o, base.get? b = some o → s.heap.get? b = some o := fun b o e => (e0.bs b o e).1
    have KX : K.In s.heap := e0.mod.kin.keeps bk
    have hkind : ∀ y ∈ ps.zip us, scope.names.lookup y.1 = some .local ∨
        (scope.names.lookup y.1 = some .cell ∧
          ((cellsFrom (s.heap.objs.size + 1) scope.names []).lookup y.1).isSome = true) := by
      intro y hy
      obtain ⟨n, v⟩ := y
      cases S.par n (List.of_mem_zip hy).1 with
      | inl q => exact Or.inl q
      | inr q => exact Or.inr ⟨q, PySem.W.cellsFrom_some _ _ _ (.inl q)⟩
    refine codeAny_call_function hr.depth (KX _ _ lk) rfl S.co S.gen rfl
      (PySem.W.codeRec_of KX hcd) (hb _ _ _ _ ?_)
    refine wpAny_newFunctionEnv_cells S.kind hkind fun env he s1 x => ?_
    subst he
    refine ⟨(e0.mod.nolimit.keeps bk).keeps x.toInCall.keep, codeAny_func ?_⟩
    obtain ⟨t, ht, hq⟩ := hbody A outer s H vs Q E hgd (hr.deeper _) hsp
    have I := inv_start (CX := CX) (P := P) (w := w) (K := K) (mg := mg) (base := base) (E := E) S hr.hd e0 hl r x
    refine wpAny_mono (ht.run [] s1 (start N vs) H _ I hq) (fun fl s' hs => ?_) fun e s' hs => hs
    cases fl with
    | ret u =>
      obtain ⟨v, σ', H', J, rv, q⟩ := hs
      exact ⟨v, H', J.os, J.bare, J.base, J.hok, rv, q⟩
    | next =>
      obtain ⟨σ', H', J, q⟩ := hs
      exact ⟨V.non, H', J.os, J.bare, J.base, J.hok, rfl, q⟩
    | brk => exact hs.choose_spec.choose_spec.2.elim
    | cont => exact hs.choose_spec.choose_spec.2.elim

theorem okG {x qual : Str} {st : Stmt} {f : Addr} {fd : FuncData} {N ps : List Str} {k : Nat} {sp : Sp}
    (F : Fun K x qual st f fd) (S : FnScope N ps (defScope st)) (len : ∀ vs H Q E, sp vs H Q E → vs.length = ps.length)
    (hbody : ∀ (cdv : Value) (A : Around) (outer : List Env) (s : Shared) (H : Hp) (vs : List V) (Q : VK) (E : XK),
      A.guards = some [] → Room k (A.deeper (envOfC qual (defScope st) s.heap.objs.size f cdv)) → sp vs H Q E →
      ∃ t, PSs (cxOf CX0 P w K mg base N qual (defScope st) f cdv A outer s H E).nox (defBody st) t ∧
        t { nx := fun _ H' => Q .non H', rt := Q } (start N vs) H) :
    FnG P w K mg base CX0 (k + 1) f fd ps sp := by
  obtain ⟨oc, od, kV, doc, pm, an, cdv, ct, osl, e, lk, hcd⟩ := F.ex
  subst e
  refine fn_ofG lk hcd S len fun A outer s H vs Q E hg hr hsp => ?_
  obtain ⟨t, h, q⟩ := hbody cdv A outer s H vs Q E hg hr hsp
  exact ⟨t, h.nox, q⟩

theorem FnG.of {k : Nat} {f : Addr} {fd : FuncData} {ps : List Str} {sp : Sp} (F : FnOk P w K mg base CX k f fd ps sp) :
    FnG P w K mg base CX k f fd ps sp :=
  ⟨F.len, fun A outer s H args us vs Q E _ hr => F.run A outer s H args us vs Q E hr⟩
end

section
variable {X : Cx} {CX : CXT} {k n : Nat} {f : Addr} {fd : FuncData} {ps ks : List Str} {sp : Sp} {dvs : List V} {ds : List Value}
  {E : XK} {x : Str} {p pos : Pos} {e : Expr} {es : List Expr} {t tk : TA} {kws : List Keyword}
  {g : List Value → List Value → List Value} {gV : List V → List V → List V}

/-- the way out of a callee's run -/
theorem back_of {pins : List (Addr × Obj)} {σ : L2.St} {H : Hp} {s s' : Shared} {Q : VK} {r : Result}
    (hx : Passes CX X E) (I : Inv X pins σ H s) (hq : CR CX X.stack X.prog X.w H s Q E r s') :
    match r with
    | .ok (.ret u) => EP X pins σ Q u s'
    | .ok _ => False
    | .error e => X.xe e s' := by
  cases r with
  | error e => exact hx pins σ H s e s' I hq
  | ok fl =>
    cases fl with
    | ret u => exact I.after hq
    | next => exact hq
    | brk => exact hq
    | cont => exact hq

theorem run_fnG {pins : List (Addr × Obj)} {σ : L2.St} {H : Hp} {s : Shared} {Q : VK} {us : List Value} {vs : List V}
    (F : FnG X.prog X.w X.K X.mg X.base CX k f fd ps sp) (hgd : X.A.guards = some []) (hr : Room k X.A)
    (hb : Binds X.K fd ps ds) (hd : Vals dvs ds) (hx : Passes CX X E)
    (I : Inv X pins σ H s) (r : Vals vs us) (h : sp (vs ++ dvs) H Q E) :
    wpAny (model X.prog X.w) X.A (call (.ref f) us) (EP X pins σ Q) X.xe s := by
  have r2 : Vals (vs ++ dvs) (us ++ ds) := r.append hd
  have hl : (us ++ ds).length = ps.length := by
    rw [← r2.length]
    exact F.len _ _ _ _ h
  have c := F.run X.A X.stack s H ⟨us, []⟩ (us ++ ds) (vs ++ dvs) Q E hgd hr I.env0 (hb s us I.kIn hl) r2 h
  refine wpAny_call (codeAny_mono c fun r s' hq => ?_)
  have b := back_of hx I hq
  cases r with
  | error e => exact b
  | ok fl =>
    cases fl with
    | ret u => exact b
    | next => exact b.elim
    | brk => exact b.elim
    | cont => exact b.elim

theorem pe_callG (F : FnG X.prog X.w X.K X.mg X.base CX k f fd ps sp) (hgd : X.A.guards = some []) (hr : Room k X.A)
    (hg : Gl X x) (hm : X.mg x = some (.ref f)) (hk : PySem.W.keepIn X.K (.ref f) = true)
    (hb : Binds X.K fd ps ds) (hd : Vals dvs ds) (hx : Passes CX X E) (ha : PA X (e :: es) t)
    (hdb : (x == ("__debug__" : Str)) = false := by decide)
    (he : starEach (e :: es) X.env = (false, eval e X.env) :: starEach es X.env := by rfl)
    (hpl : (backTo pos (starEach es X.env)).any (·.1) = false := by rfl) :
    PE X (.Call (.Name x p) (e :: es) [] pos) (tCall sp dvs E t) := by
  constructor
  intro pins s σ H Q I h
  refine wpAny_Call_Name_kw (ld_glob I hg hm ?_ hdb)
  refine PySem.W.callWith_K (h₀ := X.base) I.ok.mod.kin hk ?_ he hpl
  refine thn (ha.run pos pins s σ H _ I h) fun us s1 hh => ?_
  obtain ⟨vs, H1, I1, r, q⟩ := hh
  exact ⟨I1.kIn, run_fnG F hgd hr hb hd hx I1 r q⟩

/-- f(k = v, ..), keywords alone -/
def tCallK0 (m : Nat) (sp : Sp) (gV : List V → List V → List V) (E : XK) (tk : TA) : TE :=
  fun σ H Q => tk σ H fun zs H2 => zs.length = m ∧ sp (gV [] zs) H2 Q E

theorem pe_callK0 (F : FnOk X.prog X.w X.K X.mg X.base CX k f fd ps sp) (hr : Room k X.A)
    (hg : Gl X x) (hm : X.mg x = some (.ref f)) (hk : PySem.W.keepIn X.K (.ref f) = true)
    (hb : KBn X.K fd ps 0 ks g gV) (hx : Passes CX X E) (hkw : PK X kws tk)
    (hall : (backToKw pos (keywordEach kws X.env)).all (·.1.isSome) = true := by rfl)
    (hks : (backToKw pos (keywordEach kws X.env)).filterMap (·.1) = ks := by rfl)
    (hdb : (x == ("__debug__" : Str)) = false := by decide)
    (hpl : ((backTo pos (starEach [] X.env)).any (·.1) || (backToKw pos (keywordEach kws X.env)).any (·.1.isNone)) = false := by rfl) :
    PE X (.Call (.Name x p) [] kws pos) (tCallK0 ks.length sp gV E tk) := by
  constructor
  intro pins s σ H Q I h
  refine wpAny_Call_Name_kw (ld_glob I hg hm ?_ hdb)
  refine PySem.W.callWith_KW0 (h₀ := X.base) I.ok.mod.kin hk hall ?_ hpl
  refine thn (hkw.run pos pins s σ H _ I h) fun ws s2 hh => ?_
  obtain ⟨zs, H2, I2, rz, l2, q2⟩ := hh
  refine ⟨I2.kIn, ?_⟩
  rw [hks]
  exact run_fnN (us := []) (vs := []) F hr hb hx I2 .nil rz rfl l2 q2

/-! ### repr of data -/
def Show (d : PyData) : Prop := d.showable = true ∧ d.hasDict = false ∧ d.depth ≤ 40 ∧ d.shown.length ≤ sizeLine

theorem call_reprD (hgd : X.A.guards = some []) (hu : X.A.units + 64 < cLine) :
    CallR X (.builtin "repr") (fun xs H Q => ∃ (x : V) (d : PyData), xs = [x] ∧ Dp X.K H x d ∧ Show d ∧ Q (.str d.shown) H) := by
  intro pins s σ H xs us Q I r h
  obtain ⟨x, d, rfl, hd, ⟨h1, h2, h3, h4⟩, q⟩ := h
  cases r with
  | cons r0 rr =>
    cases rr
    rename_i v
    obtain ⟨as, rd⟩ := Dp.reads I d x v hd r0
    cases rd with
    | list a b c dd =>
      refine repr_of_reads' (.list a b c dd) h1 (PyData.noDict_hsm h2) hgd (by omega) (fun _ _ e => e) (fun h' u tk hk => ?_) h4
      exact ⟨.str _, H, I.kept (t' := tk) hk, ⟨u, rfl⟩, q⟩
    | tuple a b c dd =>
      refine repr_of_reads' (.tuple a b c dd) h1 (PyData.noDict_hsm h2) hgd (by omega) (fun _ _ e => e) (fun h' u tk hk => ?_) h4
      exact ⟨.str _, H, I.kept (t' := tk) hk, ⟨u, rfl⟩, q⟩
    | int i t =>
      refine PySem.P.repr_of_int (by simpa [PyData.showable] using h1) ⟨.str _, H, I.tok _, ⟨_, rfl⟩, ?_⟩
      simpa only [PyData.shown] using q
    | none =>
      refine PySem.P.repr_of_none ⟨.str _, H, I.tok _, ⟨_, rfl⟩, ?_⟩
      simpa only [PyData.shown] using q
    | bool b =>
      refine PySem.P.repr_of_bool ⟨.str _, H, I.tok _, ⟨_, rfl⟩, ?_⟩
      simpa only [PyData.shown] using q
    | str z t =>
      refine PySem.P.repr_of_str ⟨.str _, H, I.tok _, ⟨_, rfl⟩, ?_⟩ (by simpa only [PyData.shown] using h4)
      simpa only [PyData.shown] using q
    | dict a b c dd ee => simp [PyData.hasDict] at h2
end
end BV

namespace BV
open PySem PySem.Spec PyProof.Rows L2

/-- the heap at the law's entry: the script alone is tracked, unless the module wrote it -/
def entryHp (K : PySem.W.Frag) (a : Addr) (vs : List Value) (ns : List Int) : Hp := fun b =>
  if b = a ∧ K.lookup a = none then some (.frz { cls := .type "list", data := .seq vs.toArray } (.lst (ns.map V.int))) else none

section
variable {P : Program} {w : World} {K : PySem.W.Frag} {mg mb : Str → Option Value} {CX : CXT} {k : Nat} {fa a : Addr} {fd : FuncData}
  {x : Str} {sp : Sp} {s₁ : Shared} {vs : List Value} {ns : List Int}

theorem entry_none {b : Addr} (h : ¬ (b = a ∧ K.lookup a = none)) : entryHp K a vs ns b = none := if_neg h
theorem entry_some (h : K.lookup a = none) : entryHp K a vs ns a =
    some (.frz { cls := .type "list", data := .seq vs.toArray } (.lst (ns.map V.int))) := if_pos ⟨rfl, h⟩
theorem entry_only : Only (entryHp K a vs ns) := fun b => by
  by_cases h : b = a ∧ K.lookup a = none
  · exact .inr ⟨_, _, if_pos h⟩
  · exact .inl (if_neg h)

theorem law_callG (KX : K.In s₁.heap) (hns : s₁.heap.Ns mainGlobals mg) (hb : s₁.heap.Ns builtinsNs mb)
    (hbb : ∀ x : Str, x ≠ "__name__" → mb x = bootBuiltins x) (hlim : s₁.heap.NoLimit) (hg : s₁.gens = #[])
    (ha : s₁.heap.get? a = some { cls := .type "list", data := .seq vs.toArray })
    (hi : IntsAre vs ns) (hl : ns.length ≤ sizeLine) (hr : Room k callerA)
    (F : ∀ base : Heap, K.In base → base.Ns mainGlobals mg → FnG P w K mg base CX k fa fd [x] sp)
    (hbind : ∀ (s : Shared) (u : Value), BindsTo s fd ⟨[u], []⟩ [(x, u)])
    (hsp : ∀ H : Hp, Only H → SqL K H a (ns.map V.int) → sp [.ref a] H (fun v _ => v = .bl true) fun _ _ _ => False)
    (hCX : ∀ H e s', CX [] H s₁ (fun _ _ _ => False) e s' → False) :
    codeAny (model P w) callerA (.call (.ref fa) ⟨[.ref a], []⟩)
      (fun r s' => r = .ok (.ret (.bool true)) ∧ OldK s₁.heap s'.heap ∧ s'.os = s₁.os ∧ AllBare s'.gens) s₁ := by
  have rv := vals_ints hi
  let H := entryHp K a vs ns
  have hO : Only H := entry_only
  have hS : SqL K H a (ns.map V.int) := by
    cases hk : K.lookup a with
    | none => exact .inl (.inr ⟨_, entry_some hk⟩)
    | some o =>
      have e := KX a o hk
      rw [ha] at e
      cases e
      refine .inr ⟨_, vs.toArray, _, hk, rfl, rfl, rfl, ?_, by simpa using rv⟩
      rw [List.size_toArray, hi.length]
      exact hl
  have hok : HOk P w H s₁.heap := by
    intro b u e
    by_cases h : b = a ∧ K.lookup a = none
    · have e2 := (if_pos h).symm.trans e
      cases e2
      obtain ⟨rfl, _⟩ := h
      exact ⟨ha, by rw [List.length_map]; exact hl, vs, _, rv, ha⟩
    · cases (entry_none h).symm.trans e
  have at_a : ∀ b, H b ≠ none → b = a ∧ K.lookup a = none := fun b h => by
    by_cases h2 : b = a ∧ K.lookup a = none
    · exact h2
    · exact absurd (entry_none h2) h
  have away : ∀ {b : Addr} {o : Obj}, s₁.heap.get? b = some o → (b = a → K.lookup a = none → False) → (hidT s₁.heap H).get? b = some o :=
    fun {b o} e n => hidT_get e (entry_none fun z => n z.1 z.2)
  have nsK : ∀ {b : Addr} {m : Str → Option Value}, s₁.heap.Ns b m → (hidT s₁.heap H).Ns b m := by
    intro b m h
    obtain ⟨o, es, ep, e, d, r⟩ := h
    refine ⟨o, es, ep, away e fun z _ => ?_, d, r⟩
    subst z
    rw [ha] at e
    cases e
    cases d
  have hKb : K.In (hidT s₁.heap H) := fun b o e => away (KX b o e) fun z n => by
    subst z
    rw [n] at e
    cases e
  obtain ⟨mc, l1, l2⟩ := hlim
  have hM : Mod K mg (hidT s₁.heap H) := ⟨hKb, nsK hns, ⟨mb, nsK hb, hbb⟩, ⟨mc, nsK l1, l2⟩⟩
  have e0 : Env0 P w K mg (hidT s₁.heap H) callerA [] s₁ H :=
    { frames := rfl, mod := hM, bs := fun b o e => of_hidT e, bsz := Nat.le_of_eq (hidT_size _ _), funs := trivial,
      frf := fun b hb => absurd (show b ∈ ([] : List Addr) from hb) (by simp), hok := hok, bare := .of_eq hg }
  have go := (F _ hKb (nsK hns)).run callerA [] s₁ H ⟨[.ref a], []⟩ [.ref a] [.ref a] _ _ rfl hr e0
    (hbind s₁ (.ref a)) (.cons rfl .nil) (hsp H hO hS)
  refine codeAny_mono go fun r s' h => ?_
  cases r with
  | error e => exact (hCX H e s' h).elim
  | ok fl =>
    cases fl with
    | next => exact h.elim
    | brk => exact h.elim
    | cont => exact h.elim
    | ret u =>
      obtain ⟨v, H', os, bare, un, hok', r', q⟩ := h
      have q' : v = .bl true := q
      subst q'
      obtain rfl : u = Value.bool true := r'
      refine ⟨rfl, OldK.of_keep fun b o e => ?_, os, bare⟩
      cases hq : H b with
      | none => exact un.keep b o e hq (fun z => absurd (show b ∈ ([] : List Addr) from z) (by simp)) (by simp)
      | some u =>
        rcases hO b with z | ⟨ob, xs, z⟩
        · rw [hq] at z
          cases z
        · obtain ⟨e1, _⟩ := hok b _ z
          obtain ⟨e2, _⟩ := hok' b _ (un.frzs b ob _ z)
          rw [e] at e1
          cases e1
          exact e2
end

theorem walk_ofG {l : PySem.W.OpenLaw} {n k : Nat} {q : Program} {loose : List Str} {XP : (Str → Option Value) → Heap → Prop}
    {YP : World → Heap → Prop} {d : DefRec} {K : Params → PySem.W.Frag} {CX : CXT} {sp : PySem.W.Frag → Sp} {x : Str}
    (hn : l.most = some n) (hn2 : n ≤ sizeLine) (hdf : d.params.defaults = []) (hr : Room k callerA)
    (hY : ∀ (w : World) (h : Heap), YP w h → (K w.params).In h)
    (F : ∀ (w : World) (mg : Str → Option Value) (fa : Addr) (h : Heap), (K w.params).In h → h.Ns mainGlobals mg → mg d.name = some (.ref fa) →
      ∃ fd : FuncData, (∀ (s : Shared) (u : Value), BindsTo s fd ⟨[u], []⟩ [(x, u)]) ∧
        ∀ base : Heap, (K w.params).In base → base.Ns mainGlobals mg →
          FnG l.prog w (K w.params) mg base CX k fa fd [x] (sp (K w.params)))
    (hsp : ∀ (K : PySem.W.Frag) (H : Hp) (a : Addr) (ns : List Int), ns.length ≤ n → (∀ z ∈ ns, Builtin.Int.intBits z ≤ 1048576) →
      Only H → SqL K H a (ns.map V.int) → sp K [.ref a] H (fun v _ => v = .bl true) fun _ _ _ => False)
    (hCX : ∀ (H : Hp) (s : Shared) (e : Value) (s' : Shared), CX [] H s (fun _ _ _ => False) e s' → False) :
    PySem.W.WalkO q loose XP YP l.row.toRowW d [] (fun f vs => PySem.call f vs) := by
  refine Att.attach_callB hn hdf fun w s₀ s₁ mg mb fa o pm cd doc a vs ns G Y ho hd hcd hmg hobj hints hlen hbits hg => ?_
  have KX := hY w _ Y
  obtain ⟨fd, hb, hF⟩ := F w mg fa _ KX G.T.g hmg
  refine law_callG KX G.T.g G.T.b G.T.builtins G.T.nolimit hg hobj hints (Nat.le_trans hlen hn2) hr hF hb ?_ ?_
  · exact fun H hO hS => hsp (K w.params) H a ns hlen hbits hO hS
  · exact fun H e s' => hCX H s₁ e s'
end BV

namespace BV
open PySem PySem.Spec PyProof.Rows L2
open AutoSeq1 (wpAny_loadPart')

/-! ### enumerate(tuple) -/
theorem meets_enumT (l : Addr) (items : Array Value) (n : Nat) (dct : Option Addr) (sl : Array (Option Value)) :
    Meets (Builtin.«enumerate.__new__» ⟨[.type "enumerate", .ref l], []⟩)
      (fun _ R s => s.heap.get? l = some { cls := .type "tuple", dict := dct, data := .seq items n, slots := sl } ∧
        R (.ok (.ret (.ref (s.heap.push { cls := .type "tuple_iterator", data := .fields #[.ref l, .int 0 0] }).objs.size)))
          { s with heap := ((s.heap.push { cls := .type "tuple_iterator", data := .fields #[.ref l, .int 0 0] }).push
              ({ cls := .type "enumerate", data := .fields #[.none, .bool false, .ref s.heap.objs.size, rawInt 0, .none, .none] } : Obj)) }) := by
  refine .of_wp fun prog w A R s h => ?_
  obtain ⟨hp, g, d, tk, os⟩ := s
  obtain ⟨hl, h⟩ := h
  have hsub := sub_enumerate
  have hL : Heap.IsTuple (Shared.heap ⟨hp, g, d, tk, os⟩) l items := ⟨_, hl, rfl, n, rfl⟩
  wp_walk using wpAny_loadPart' hl
  refine wpAny_stack_any fun st => wpAny_pure ?_
  split
  · rename_i c _ _ _ _ _
    cases (c == Value.type "enumerate") <;>
    · wp_walk using wpAny_loadPart' hl, wpAny_pyIter_tuple hL
      exact ⟨_, rfl, h⟩
  · wp_walk using wpAny_loadPart' hl, wpAny_pyIter_tuple hL
    exact ⟨_, rfl, h⟩

theorem call_enumT {prog : Program} {w : World} {A : Around} {E : Value → Shared → Prop} {s : Shared} {l : Addr} {items : Array Value}
    {Q : Value → Shared → Prop} (hL : s.heap.IsTuple l items)
    (h : ∀ h', IsEnum h' (s.heap.objs.size + 1) s.heap.objs.size 0 .none → h'.IsTupleIter s.heap.objs.size l 0 →
      (∀ b o, s.heap.get? b = some o → h'.get? b = some o) → Q (.ref (s.heap.objs.size + 1)) { s with heap := h' }) :
    wpAny (model prog w) A (call (.type "enumerate") [.ref l]) Q E s := by
  obtain ⟨⟨c, dct, dt, sl⟩, hl, hc, n, hd⟩ := hL
  obtain rfl : c = .type "tuple" := hc
  obtain rfl : dt = .seq items n := hd
  refine callType_new F.called_enumerate (by decide) (F.typeCall_enumerate_1 _) (F.newCall_enumerate_1 _)
    (fun obj => F.args_object_init_2 obj _) F.entry_enumerate_new (meets_enumT l items n dct sl) ⟨hl, ?_⟩
  have hz : (s.heap.push { cls := .type "tuple_iterator", data := .fields #[.ref l, .int 0 0] }).objs.size = s.heap.objs.size + 1 := Heap.size_push ..
  show _ ∧ _
  rw [hz]
  have he : IsEnum ((s.heap.push { cls := .type "tuple_iterator", data := .fields #[.ref l, .int 0 0] }).push
      { cls := .type "enumerate", data := .fields #[.none, .bool false, .ref s.heap.objs.size, rawInt 0, .none, .none] })
      (s.heap.objs.size + 1) s.heap.objs.size 0 .none := by
    have q := Heap.get?_push_size (s.heap.push { cls := .type "tuple_iterator", data := .fields #[.ref l, .int 0 0] })
      (o := { cls := .type "enumerate", data := .fields #[.none, .bool false, .ref s.heap.objs.size, rawInt 0, .none, .none] }) rfl
    rw [hz] at q
    exact q
  refine ⟨⟨_, he, rfl⟩, h _ he ⟨_, Heap.get?_push_of_some _ (Heap.get?_push_size _ rfl), rfl, rfl⟩ ?_⟩
  exact fun b o x => Heap.get?_push_of_some _ (Heap.get?_push_of_some _ x)

/-- the tuple at a, each item in a new pair -/
def ItE (K : PySem.W.Frag) (a : Addr) (xs : List V) : It :=
  ⟨fun i H => SqT K H a xs ∧ i < xs.length,
   fun i H v H' => ∃ T x, v = .ref T ∧ H T = none ∧ H' = upd H T (.tup [.int (i : Nat), x]) ∧ xs[i]? = some x,
   fun i H => SqT K H a xs ∧ i = xs.length⟩

theorem turn_enumT {P : Program} {w : World} {K : PySem.W.Frag} {elts : List Expr} {kk : Nat} {tpos : Pos} (a e it : Addr) (xs : List V)
    (hae : a ≠ it) :
    Turn P w K (.Tuple elts kk tpos) (ItE K a xs) [e, it] e
      (fun i h => (∃ old, IsEnum h e it ((i : Nat) : Int) old) ∧ h.IsTupleIter it a i ∧ e ≠ it ∧ e ≠ a) where
  mem := by simp
  obj := by
    intro i h st b hb
    obtain ⟨⟨old, he⟩, ⟨o, ho, hc, hd⟩, _⟩ := st
    rcases (show b = e ∨ b = it by simpa using hb) with rfl | rfl
    · exact ⟨_, he, fun v q => nomatch q⟩
    · exact ⟨o, ho, fun v q => by rw [hd] at q; cases q⟩
  keep := by
    intro i h h' st k
    obtain ⟨⟨old, he⟩, hi, h1, h2⟩ := st
    exact ⟨⟨old, k e (by simp) _ he⟩, hi.at fun o q => k it (by simp) o q, h1, h2⟩
  item := by
    intro X hP hw hK hc i pins s σ H E I hf st hg
    subst hP hw hK
    obtain ⟨⟨old, he⟩, hit, hne, hea⟩ := st
    obtain ⟨hq, hlt⟩ := hg
    obtain ⟨its, rv, p, hz⟩ := I.tuple hq
    have htu : s.heap.IsTuple a its.toArray := p
    have hlen := rv.length
    have hel : e < s.heap.objs.size := Heap.lt_size he
    have hil : it < s.heap.objs.size := by
      obtain ⟨_, q, _⟩ := hit
      exact Heap.lt_size q
    have D := Draws.tuple (prog := X.prog) (w := X.w) (A := X.A.in1) (I.ok.hd hc) it a hae its.toArray
    have hlt2 : i < its.toArray.size := by rw [List.size_toArray]; omega
    refine wpAny_pyNext_enum_itemD D he ⟨hit, htu⟩ hlt2 hne (by simp [hne, hea]) ?_
    intro u h' tk hu ho hit' hT hsz hk
    refine ⟨_, rfl, wpAny_letOwnedTupleGo_enum (s := { s with heap := h', toks := tk + 1 }) ho fun h'' he' sb => ?_⟩
    have hx : xs[i]? = some xs[i] := by simp [hlt]
    obtain ⟨u', hu', ru⟩ := rv.get hx
    have eu : u' = u := by
      have := hu
      simp only [List.getElem?_toArray] at this
      rw [hu'] at this
      exact Option.some.inj this
    subst eu
    have hT2 : h''.get? s.heap.objs.size = some { cls := .type "tuple", data := .seq #[.int i tk, u'] } := (sb.2 _ (Nat.ne_of_gt hel)).trans hT
    have new : ObjOk X.prog X.w (upd H s.heap.objs.size (.tup [.int (i : Nat), xs[i]])) h'' s.heap.objs.size (.tup [.int (i : Nat), xs[i]]) :=
      ⟨by show 2 ≤ sizeLine; decide, [.int i tk, u'], .cons ⟨_, rfl⟩ (.cons ru .nil), ⟨_, hT2, rfl, _, rfl⟩⟩
    have kk : ∀ b o, b ∉ [e, it] → s.heap.get? b = some o → h''.get? b = some o := by
      intro b ob hb q
      have b1 : b ≠ e := fun z => hb (by simp [z])
      have b2 : b ≠ it := fun z => hb (by simp [z])
      exact (sb.2 b b1).trans (hk b ob b1 b2 q)
    have I1 : Inv X pins σ (upd H s.heap.objs.size (.tup [.int (i : Nat), xs[i]])) { s with heap := h'', toks := tk + 1 } :=
      I.turnedNew (ch := [e, it]) kk hf (Nat.le_refl _) new
    refine ⟨.ref s.heap.objs.size, _, I1, rfl, ⟨_, xs[i], rfl, I.hok.fresh (Nat.le_refl _), rfl, hx⟩,
      ⟨⟨u', ?_⟩, hit'.1.at fun o q => (sb.2 it (Ne.symm hne)).trans q, hne, hea⟩, fun b hb => ?_⟩
    · have e1 : ((i + 1 : Nat) : Int) = (i : Int) + 1 := by omega
      rw [e1]
      exact he'
    · have hb' : b < s.heap.objs.size := by
        rcases (show b = e ∨ b = it by simpa using hb) with rfl | rfl
        · exact hel
        · exact hil
      rw [upd_ne (Nat.ne_of_lt hb')]
      exact (hf b hb).1
  done := by
    intro X hP hw hK hc i pins s σ H E I hf st hg
    subst hP hw hK
    obtain ⟨⟨old, he⟩, hit, hne, hea⟩ := st
    obtain ⟨hq, hlt⟩ := hg
    obtain ⟨its, rv, p, hz⟩ := I.tuple hq
    have htu : s.heap.IsTuple a its.toArray := p
    have hlen := rv.length
    obtain ⟨f0, f1, f2, f3, f4, f5⟩ := hf it (by simp)
    have D := Draws.tuple (prog := X.prog) (w := X.w) (A := X.A.in1) (I.ok.hd hc) it a hae its.toArray
    have e3 : its.toArray.size = i := by rw [List.size_toArray]; omega
    rw [e3] at D
    refine wpAny_pyNext_enum_endD D he ⟨hit, htu⟩ fun h' eb => ⟨rfl, ?_⟩
    exact I.turned (t' := s.toks) (fun b o hb q => eb b o hb q) f0 f1 f3 f4 f5
  self := fun A i s Q E st h => let ⟨⟨_, he⟩, _⟩ := st; wpAny_pyIter_enum he h

def iEnumT (K : PySem.W.Frag) (ta : TA) : TI := fun σ H R => ta σ H fun vs H1 => ∃ a xs, vs = [.ref a] ∧ SqT K H1 a xs ∧ R (ItE K a xs) H1
theorem pi_enumT {X : Cx} {e : Expr} {ta : TA} {p pos tpos : Pos} {elts : List Expr} {kk : Nat} (hg : Gl X "enumerate") (hm : X.mg "enumerate" = none)
    (ha : PA X [e] ta) (hs : starEach [e] X.env = [(false, eval e X.env)] := by rfl) :
    PI X (.Tuple elts kk tpos) (.Call (.Name "enumerate" p) [e] [] pos) (iEnumT X.K ta) := by
  constructor
  intro pins s σ H R I h
  refine Call_ (ld_blt I hg hm boot_enumerate (PyProof.Rows.callWith_type1 (thn (ha.run pos pins s σ H _ I h) fun us s1 hh => ?_) hs rfl))
  obtain ⟨vs, H1, I1, r1, a, xs, ex, hq, q⟩ := hh
  subst ex
  cases r1 with
  | cons r rr =>
    cases rr
    cases r
    obtain ⟨its, rv, p', hz⟩ := I1.tuple hq
    have htu : s1.heap.IsTuple a its.toArray := p'
    have hlt : a < s1.heap.objs.size := by
      obtain ⟨o, ho, _⟩ := htu
      exact Heap.lt_size ho
    refine call_enumT htu fun h' he hit hk => wpAny_pyIter_enum he ?_
    have I2 : Inv X pins σ H1 { s1 with heap := h' } := I1.kept (t' := s1.toks) hk
    refine ⟨s1.heap.objs.size + 1, [s1.heap.objs.size + 1, s1.heap.objs.size], _, _, H1, rfl, I2,
      turn_enumT a (s1.heap.objs.size + 1) s1.heap.objs.size xs (Nat.ne_of_lt hlt),
      ⟨⟨.none, he⟩, hit, Nat.succ_ne_self _, Nat.ne_of_gt (Nat.lt_succ_of_lt hlt)⟩, fun b hb => ?_, q⟩
    have hle : s1.heap.objs.size ≤ b := by
      rcases (show b = s1.heap.objs.size + 1 ∨ b = s1.heap.objs.size by simpa using hb) with z | z
      · rw [z]; exact Nat.le_add_right _ _
      · rw [z]; exact Nat.le_refl _
    exact I1.fpOk hle (I1.hok.fresh hle)
theorem walk_enumT {K : PySem.W.Frag} {a : Addr} {xs : List V} :
    Walk (ItE K a xs) xs.length (fun H => SqT K H a xs) (YPair (fun i => some (.int (i : Nat))) (fun i => xs[i]?)) := by
  refine ⟨fun i H hi q => ⟨q, hi⟩, fun H q => ⟨q, rfl⟩, fun i H v H' _ q y => ?_⟩
  obtain ⟨T, x, h1, h2, h3, h4⟩ := y
  exact ⟨T, .int (i : Nat), x, h1, h2, h3, rfl, h4⟩

/-! ### sum of a tuple of ints -/
theorem cr_sumT {X : Cx} (hc : X.calm = true) : CallR X (.builtin "sum")
    (fun vs H Q => ∃ (a : Addr) (ns : List Int), vs = [V.ref a] ∧ SqT X.K H a (ns.map V.int) ∧ Q (.int ns.sum) H) := by
  intro pins s σ H vs us Q I r h
  obtain ⟨a, ns, rfl, hs, q⟩ := h
  obtain ⟨its, rv, hl, _⟩ := I.tuple hs
  rw [Vals.ref1 r]
  have hi := rv.ints
  obtain ⟨xs, e⟩ := hi.allInts.items
  have hn : numsOf (intItems xs).toList = ns := by rw [← e]; exact hi.numsOf
  rw [nums_intItems] at hn
  have hl2 : s.heap.IsTuple a its.toArray := hl
  rw [e] at hl2
  refine PySem.W.ktm_sumG (I.ok.hd hc) hl2 fun h' tk t' hk => ?_
  rw [preSum_eq, List.take_of_length_le (by simp), hn]
  exact ⟨.int _, H, I.kept hk, ⟨_, rfl⟩, q⟩
end BV

namespace BV
open PySem PySem.Spec PyProof.Rows L2

/-! ### xs[i] of a list, by values, for xs[i] op= e -/
def rGetL (K : PySem.W.Frag) : V → V → Hp → VK → Prop := fun x y H Q => ∃ p xs j z,
  x = .ref p ∧ y = .int ((j : Nat) : Int) ∧ SqL K H p xs ∧ xs[j]? = some z ∧ Q z H
theorem get_list {X : Cx} : PGet X (rGetL X.K) := by
  intro pins s σ H x y v u Q I rx ry h
  obtain ⟨p, xs, j, z, rfl, rfl, hq, he, q⟩ := h
  cases rx
  obtain ⟨t, rfl⟩ := ry
  obtain ⟨its, r, pl, hz⟩ := I.list hq
  obtain ⟨w, ew, rw'⟩ := r.get he
  have hl := r.length
  have hn := line63
  have hj : j < xs.length := (List.getElem?_eq_some_iff.mp he).1
  refine wpAny_getItem_list pl.isList (by omega) (by omega) (by simpa using ew) ?_
  exact ⟨z, H, I, rw', q⟩

/-! ### t[::-1] of a tuple -/
theorem applied_rev {prog : Program} {w : World} {A : Around} {E : Value → Shared → Prop} {s : Shared} {sl : Addr} {vs : Value} {n : Nat}
    {Q : Int × Int × Nat → Shared → Prop} (hs : s.heap.IsSliceOf sl .none .none vs) (ps : IsPart vs (some (-1)))
    (h : Q ((n : Int) - 1, -1, n) s) : wpAny (model prog w) A (Builtin.Slice.sliceApplied (.ref sl) (pure (n : Int))) Q E s := by
  obtain ⟨os, hos, hcs, hds⟩ := id hs
  unfold Builtin.Slice.sliceApplied Builtin.Slice.sliceFields
  refine wpAny_bind (wpAny_bind (wpAny_field hos hds (x := .none) rfl ?_))
  refine wpAny_bind (wpAny_field hos hds (x := .none) rfl ?_)
  refine wpAny_bind (wpAny_field hos hds (x := vs) rfl (wpAny_pure ?_))
  refine wpAny_bind (HT.slicePart_ ps ?_)
  show wpAny _ _ (if ((-1 : Int) == 0) = true then _ else _) _ _ s
  rw [if_neg (by decide)]
  refine wpAny_bind (HT.slicePart_ .none (wpAny_bind (HT.slicePart_ .none (wpAny_bind (wpAny_pure ?_)))))
  have e1 : Builtin.Slice.sliceAdjust none none (-1) (n : Int) = ((n : Int) - 1, -1) := by
    unfold Builtin.Slice.sliceAdjust
    simp
  have e2 : Builtin.Slice.slicePlaces ((n : Int) - 1) (-1) (-1) = n := by
    unfold Builtin.Slice.slicePlaces
    simp
    try omega
  show wpAny _ _ (match Builtin.Slice.sliceAdjust none none (-1) (n : Int) with
    | (lo, hi) => pure (lo, (-1 : Int), Builtin.Slice.slicePlaces lo hi (-1))) _ _ s
  rw [e1]
  show wpAny _ _ (pure ((n : Int) - 1, (-1 : Int), Builtin.Slice.slicePlaces ((n : Int) - 1) (-1) (-1))) _ _ s
  rw [e2]
  exact wpAny_pure h

theorem getItem_rev {prog : Program} {w : World} {A : Around} {E : Value → Shared → Prop} {s : Shared} {t sl : Addr} {items : Array Value} {vs : Value}
    {Q : Value → Shared → Prop} (ht : IsTup s.heap t items) (hs : s.heap.IsSliceOf sl .none .none vs) (ps : IsPart vs (some (-1)))
    (h : Q (.ref s.heap.objs.size) { s with heap := s.heap.push { cls := .type "tuple", data := .seq items.toList.reverse.toArray } })
    (hsz : items.size ≤ sizeLine) : wpAny (model prog w) A (getItem (.ref t) (.ref sl)) Q E s := by
  have hsize : sizeOk (.seq items.toList.reverse.toArray) := by
    show items.toList.reverse.toArray.size ≤ sizeLine
    rw [List.size_toArray, List.length_reverse, Array.length_toList]
    exact hsz
  obtain ⟨os, hos, hcs, hds⟩ := id hs
  have hTs : s.TypeIs (.ref sl) "slice" := ⟨os, hos, hcs⟩
  unfold getItem
  try with_reducible refine wpAny_holding ?_
  first | refine wpAny_bind (wpAny_pure ?_) | skip
  refine wpAny_bind (wpAny_sequenceKey ht.typeIs (by decide) ?_)
  refine wpAny_bind (wpAny_callSpecial?_slot (name := Str.ofString "__getitem__") ht.typeIs PyProof.Rows.slot_tuple_getitem ?_)
  refine wpAny_call_entry PyProof.Rows.slot_tuple_getitem ht.typeIs entry_tuple_getitem ?_ (args_tuple_getitem _ _)
  show wpAny _ _ (Builtin.Tuple.tupleItemsOf (.ref t) >>= _) _ _ s
  refine wpAny_bind (tupleItemsOf_ ht ?_)
  refine wpAny_bind (wpAny_typeOf hTs ?_)
  rw [if_pos (by decide)]
  refine wpAny_bind (applied_rev hs ps ?_)
  have hno : ¬ ((((items.size : Int) - 1) == 0 && (-1 : Int) == 1 && items.size == items.size) = true) := by
    intro q
    rw [Bool.and_eq_true, Bool.and_eq_true] at q
    exact absurd (eq_of_beq q.1.2) (by decide)
  have pick : ((List.range items.size).filterMap fun (k : Nat) => items[(((items.size : Int) - 1) + (k : Int) * (-1)).toNat]?) = items.toList.reverse := by
    have e1 : (fun (k : Nat) => items[(((items.size : Int) - 1) + (k : Int) * (-1)).toNat]?) = fun k => (fun j => items[j]?) ((items.size - 1) - k) := by
      funext k
      have : (((items.size : Int) - 1) + (k : Int) * (-1)).toNat = (items.size - 1) - k := by omega
      rw [this]
    rw [e1]
    have e2 := PySem.W.krv_all items
    have e3 := PySem.W.krv_range items.size
    have e4 : (List.range items.size).filterMap (fun k => (fun j => items[j]?) ((items.size - 1) - k)) =
        ((List.range items.size).map fun k => items.size - 1 - k).filterMap (fun j => items[j]?) := by
      rw [List.filterMap_map]
      rfl
    rw [e4, e3, List.filterMap_reverse, e2]
  show wpAny _ _ (if (((items.size : Int) - 1) == 0 && (-1 : Int) == 1 && items.size == items.size) = true then _ else _) _ _ s
  rw [if_neg hno, pick]
  first
    | exact wpAny_bind (m := Builtin.Tuple.tupleExact _) (wpAny_newObj_type (wpAny_pure ⟨_, rfl, wpAny_pure h⟩) hsize)
    | exact wpAny_bind (m := Builtin.Tuple.tupleExact _) (wpAny_newObj_type (wpAny_bind (wpAny_pure (wpAny_pure ⟨_, rfl, wpAny_pure h⟩))) hsize)
    | exact wpAny_bind (wpAny_bind (m := Builtin.Tuple.tupleExact _) (wpAny_newObj_type (wpAny_pure (wpAny_pure ⟨_, rfl, wpAny_pure h⟩)) hsize))
    | exact wpAny_bind (wpAny_bind (m := Builtin.Tuple.tupleExact _) (wpAny_newObj_type (wpAny_pure ⟨_, rfl, wpAny_pure h⟩) hsize))

/-- t[::-1] -/
def tRevT (K : PySem.W.Frag) (te : TE) : TE := fun σ H Q => te σ H fun x H1 => ∃ a xs, x = .ref a ∧ SqT K H1 a xs ∧
  ∀ p, H1 p = none → Q (.ref p) (upd H1 p (.tup xs.reverse))
theorem pe_revT {X : Cx} {e : Expr} {te : TE} {k : Nat} {p1 p2 p3 pos : Pos} (he : PE X e te) :
    PE X (.Subscript e (.Slice none none (some (.UnaryOp .USub (.Constant (.int 1) k p1) p2)) p3) pos) (tRevT X.K te) := by
  constructor
  intro pins s σ H Q I h
  refine Subscript_ (thn (he.run pins s σ H _ I h) fun v s1 hh => ?_)
  obtain ⟨x, H1, I1, r1, a, xs, ex, hx, q⟩ := hh
  subst ex
  cases r1
  have hst : PO X (some (.UnaryOp .USub (.Constant (.int 1) k p1) p2)) (tPart (tUn (rU fun i => .int (-i)) (tC (.int 1)))) :=
    po_some (pe_un un_neg pe_int)
  refine wpAny_Slice ?_
  rw [evalPart_none]
  refine wpAny_pure (wpAny_pure ?_)
  refine thn (hst.run pins s1 σ H1 (fun o H4 => o = some (-1) ∧ H4 = H1) I1 ⟨1, rfl, -1, rfl, rfl, rfl⟩) fun vs s4 h4 => ?_
  obtain ⟨o, H4, I4, ps, eo, e4⟩ := h4
  subst eo e4
  have I5 : Inv X pins σ H4 { s4 with heap := s4.heap.push { cls := .type "slice", data := .fields #[.none, .none, vs] } } :=
    I4.kept (t' := s4.toks) fun b ob q => Heap.get?_push_of_some _ q
  obtain ⟨its, r, ht, hz⟩ := I5.tuple hx
  have hlen := r.length
  refine tail_any (T := "tuple") (ops := [.ref a, .ref s4.heap.objs.size]) ht.typeIs (PyProof.Rows.slot_tuple_getitem.lookup) ?_ (by with_unfolding_all rfl)
  refine getItem_rev ht (Heap.IsSliceOf.new _ .none .none vs) ps ?_ (by rw [List.size_toArray]; omega)
  refine ⟨.ref _, _, I5.laid (t' := s4.toks) (o := .tup xs.reverse) (fun b ob q => Heap.get?_push_of_some _ q) (Nat.le_refl _) ?_, rfl, q _ (I5.hok.fresh (Nat.le_refl _))⟩
  exact ⟨by rw [List.length_reverse]; exact hz, _, r.reverse, IsTup.new _ _⟩
end BV

namespace BV
open PySem L2

/-! ### a def of the text, by its name -/
structure Df (K : PySem.W.Frag) (mg : Str → Option Value) (x : String) (st : Stmt) (ps : List Str) (f : Addr) (fd : FuncData) : Prop where
  fn : Fun K (Str.ofString x) (Str.ofString x) st f fd
  ad : mg (Str.ofString x) = some (.ref f)
  bd : L2.Binds K fd ps []

/-- the built-in names that the text uses are not its own -/
structure Bl (mg : Str → Option Value) : Prop where
  int : mg "int" = none
  abs : mg "abs" = none
  len : mg "len" = none
  range : mg "range" = none
  enumerate : mg "enumerate" = none
  tuple : mg "tuple" = none
  min : mg "min" = none
  max : mg "max" = none
  sum : mg "sum" = none
  repr : mg "repr" = none

/-! ### heaps -/
theorem same_new {H : Hp} {p : Addr} {o : HO} (h : H p = none) : Same H (upd H p o) := fun b x e => by
  rw [upd_ne (ne_of_none e h)]
  exact e
/-- all but b and g as it was -/
def Kp (b g : Addr) (H H' : Hp) : Prop := ∀ a o, H a = some o → a ≠ b → a ≠ g → H' a = some o
theorem Kp.refl {b g : Addr} (H : Hp) : Kp b g H H := fun _ _ h _ _ => h
theorem Kp.trans {b g : Addr} {H H1 H2 : Hp} (x : Kp b g H H1) (y : Kp b g H1 H2) : Kp b g H H2 :=
  fun a o h n1 n2 => y a o (x a o h n1 n2) n1 n2
theorem Kp.same {b g : Addr} {H H' : Hp} (x : Same H H') : Kp b g H H' := fun a o h _ _ => x a o h
theorem Kp.setb {b g : Addr} {H : Hp} {o : HO} : Kp b g H (upd H b o) := fun a x h n _ => by
  rw [upd_ne n]
  exact h
theorem Kp.setg {b g : Addr} {H : Hp} {o : HO} : Kp b g H (upd H g o) := fun a x h _ n => by
  rw [upd_ne n]
  exact h
theorem Kp.new {b g p : Addr} {H : Hp} {o : HO} (h : H p = none) : Kp b g H (upd H p o) := Kp.same (same_new h)

/-! ### comprehensions that change nothing -/
def era (H : Hp) (D : Addr) : Hp := fun a => if a = D then none else H a
theorem era_at {H : Hp} {D : Addr} : era H D D = none := if_pos rfl
theorem era_ne {H : Hp} {D a : Addr} (h : a ≠ D) : era H D a = H a := if_neg h
theorem era_back {H : Hp} {D : Addr} : Same (era H D) H := fun a o e => by
  by_cases h : a = D
  · subst h
    rw [era_at] at e
    cases e
  · rw [era_ne h] at e
    exact e
theorem era_upd {H : Hp} {D : Addr} {o : HO} : era (upd H D o) D = era H D := by
  funext a
  by_cases h : a = D
  · subst h
    rw [era_at, era_at]
  · rw [era_ne h, era_ne h, upd_ne h]
theorem era_same {H H' : Hp} {D : Addr} (s : Same H H') : Same (era H D) (era H' D) := fun a o e => by
  by_cases h : a = D
  · subst h
    rw [era_at] at e
    cases e
  · rw [era_ne h] at e ⊢
    exact s _ _ e
theorem era_none {H : Hp} {D : Addr} (h : H D = none) : era H D = H := by
  funext a
  by_cases q : a = D
  · subst q
    rw [era_at, h]
  · exact era_ne q

/-- what stands between two turns: the list at D, all else an extension of H1, and R of the list over the heap without D -/
def LcI (H1 : Hp) (D : Addr) (R : Nat → List V → Hp → Prop) (i : Nat) (H : Hp) : Prop :=
  ∃ acc, H D = some (.lst acc) ∧ Same H1 (era H D) ∧ R i acc (era H D)
theorem lc_add {H1 H H4 : Hp} {D : Addr} {R : Nat → List V → Hp → Prop} {i : Nat} {acc : List V} {y : V} (ha : H D = some (.lst acc))
    (e : Same H1 (era H D)) (s : Same H H4) (hl : acc.length < 100000) (r : R i (acc ++ [y]) (era H4 D)) :
    ∃ acc, H4 D = some (.lst acc) ∧ acc.length < sizeLine ∧ LcI H1 D R i (upd H4 D (.lst (acc ++ [y]))) := by
  refine ⟨acc, s _ _ ha, Nat.lt_of_lt_of_le hl (by decide), acc ++ [y], upd_same, ?_, ?_⟩
  · rw [era_upd]
    exact Same.trans e (era_same s)
  · rw [era_upd]
    exact r
theorem lc_skip {H1 H H3 : Hp} {D : Addr} {R : Nat → List V → Hp → Prop} {i : Nat} {acc : List V} (ha : H D = some (.lst acc))
    (e : Same H1 (era H D)) (s : Same H H3) (r : R i acc (era H3 D)) : LcI H1 D R i H3 :=
  ⟨acc, s _ _ ha, Same.trans e (era_same s), r⟩
theorem lc_run {J : It} {n : Nat} {G : Hp → Prop} {Y : Nat → Hp → V → Hp → Prop} (w : Walk J n G Y) {g : TG} {tt : TT} {te : TE} {vs : List Nat}
    {σ : L2.St} {H1 : Hp} {D : Addr} {Qd : Hp → Prop} (hD : H1 D = none) (R : Nat → List V → Hp → Prop)
    (hG : ∀ H, Same H1 H → G H) (h0 : R 0 [] H1)
    (hs : ∀ i x acc H H', i < n → H D = some (.lst acc) → Same H1 (era H D) → Same H1 H → R i acc (era H D) → Y i H x H' →
      g x (wipe σ vs) H' fun σ2 H2 => wipe σ2 vs = wipe σ vs ∧ tt σ2 H2 fun b H3 =>
        if b = true then te σ2 H3 fun y H4 => ∃ acc, H4 D = some (.lst acc) ∧ acc.length < sizeLine ∧ LcI H1 D R (i + 1) (upd H4 D (.lst (acc ++ [y])))
        else LcI H1 D R (i + 1) H3)
    (hd : ∀ acc H, H D = some (.lst acc) → Same H1 H → R n acc (era H D) → Qd H) :
    ∃ W : Nat → Nat → Hp → Prop, (∃ m, W 0 m (upd H1 D (.lst []))) ∧ ∀ i m H, W i m H →
      (J.stop i H ∧ Qd H) ∨ (J.go i H ∧ ∃ Nx : Hp → Prop, (∀ H', Nx H' → ∃ m', m' < m ∧ W (i + 1) m' H') ∧
        ∀ x H', J.yld i H x H' → g x (wipe σ vs) H' fun σ2 H2 => wipe σ2 vs = wipe σ vs ∧ tt σ2 H2 fun b H3 =>
        if b = true then te σ2 H3 fun y H4 => ∃ acc, H4 D = some (.lst acc) ∧ acc.length < sizeLine ∧ Nx (upd H4 D (.lst (acc ++ [y]))) else Nx H3) := by
  refine lc_it w (LcI H1 D R) ?_ ?_ ?_ ?_
  · exact ⟨[], upd_same, by rw [era_upd, era_none hD]; exact Same.refl _, by rw [era_upd, era_none hD]; exact h0⟩
  · rintro i H _ ⟨acc, _, e, _⟩
    exact hG H (Same.trans e era_back)
  · rintro i x H H' hi ⟨acc, ha, e, r⟩ y
    exact hs i x acc H H' hi ha e (Same.trans e era_back) r y
  · rintro H ⟨acc, ha, e, r⟩
    exact hd acc H ha (Same.trans e era_back) r

theorem yes_go {σ : L2.St} {H : Hp} {A B : Hp → Prop} (h : A H) : tYes σ H (fun b H3 => if b = true then A H3 else B H3) := by
  show (if true = true then A H else B H)
  rw [if_pos rfl]
  exact h
/-! ### for loops: what is carried over a turn -/
theorem ints_at {ns : List Int} {i : Nat} {x : V} (h : (ns.map V.int)[i]? = some x) : ∃ z, ns[i]? = some z ∧ x = .int z := by
  rw [List.getElem?_map] at h
  cases e : ns[i]? with
  | none =>
    rw [e] at h
    cases h
  | some z =>
    rw [e] at h
    exact ⟨z, rfl, (Option.some.inj h).symm⟩

/-! ### the box of draws -/
def boxD (g : Addr) (st c : Int) : List (Key × V) :=
  [(Sum.inr "great", .ref g), (Sum.inr "stirred", .int st), (Sum.inr "count", .int c)]
structure Box (H : Hp) (b g : Addr) : Prop where
  bx : ∃ st c : Int, H b = some (.dK (boxD g st c))
  gr : ∃ ns : List Int, H g = some (.lst (ns.map V.int)) ∧ ns.length ≤ 63
theorem Box.ne {H : Hp} {b g : Addr} (x : Box H b g) : b ≠ g := by
  obtain ⟨⟨_, _, h1⟩, _, h2, _⟩ := x
  exact ne_of h1 h2 (by intro z; cases z)
theorem Box.same {H H' : Hp} {b g : Addr} (x : Box H b g) (s : Same H H') : Box H' b g := by
  obtain ⟨⟨st, c, h1⟩, ns, h2, h3⟩ := x
  exact ⟨⟨st, c, s _ _ h1⟩, ns, s _ _ h2, h3⟩

def spBox (K : PySem.W.Frag) : Sp := fun vs H Q _ => ∃ (a : Addr) (ns : List Int), vs = [.ref a] ∧ SqL K H a (ns.map V.int) ∧ ns.length ≤ 63 ∧
  ∀ (b g : Addr) (H' : Hp), H b = none → H g = none → Same H H' → Box H' b g → Q (.ref b) H'
def spDraw : Sp := fun vs H Q _ => ∃ (b g : Addr) (m : Int), vs = [.ref b, .int m] ∧ 0 < m ∧ m < 2 ^ 30 ∧ Box H b g ∧
  ∀ (r : Int) (H' : Hp), 0 ≤ r → r < m → Kp b g H H' → Box H' b g → Q (.int r) H'
end BV

namespace BV
open PySem L2
theorem get_great {H : Hp} {b g : Addr} {st c : Int} (h : H b = some (.dK (boxD g st c))) : DGet H b (.str "great") (some (.ref g)) :=
  DGet.k (k := Sum.inr "great") h
theorem get_stirred {H : Hp} {b g : Addr} {st c : Int} (h : H b = some (.dK (boxD g st c))) : DGet H b (.str "stirred") (some (.int st)) :=
  DGet.k (k := Sum.inr "stirred") h
theorem get_count {H : Hp} {b g : Addr} {st c : Int} (h : H b = some (.dK (boxD g st c))) : DGet H b (.str "count") (some (.int c)) :=
  DGet.k (k := Sum.inr "count") h
theorem put_count {H : Hp} {b g : Addr} {st c d : Int} (h : H b = some (.dK (boxD g st c))) :
    DPut H b (.str "count") (.int d) (upd H b (.dK (boxD g st d))) :=
  DPut.k (k := Sum.inr "count") h (by show 3 < sizeLine; decide)
theorem dpAll_ints {K : PySem.W.Frag} {H : Hp} : ∀ ns : List Int, DpAll K H (ns.map V.int) (ns.map PyData.int)
  | [] => .nil
  | n :: ns => .cons (.int n) (dpAll_ints ns)
theorem lay_ints : ∀ ns : List Int, PyData.canLayAll0 (ns.map PyData.int) = true
  | [] => by simp [PyData.canLayAll0]
  | n :: ns => by simp [PyData.canLayAll0, PyData.canLay0, lay_ints ns]
theorem deep_ints : ∀ ns : List Int, PyData.depthAll (ns.map PyData.int) ≤ 1
  | [] => by simp [PyData.depthAll]
  | n :: ns => by
    have := deep_ints ns
    simp only [List.map_cons, PyData.depthAll, PyData.depth]
    omega
theorem shaped_intsL (ns : List Int) : SeqAt.shaped (.list (ns.map PyData.int)) = true := by
  have h1 := lay_ints ns
  have h2 := deep_ints ns
  have h3 : PyData.depthAll (ns.map PyData.int) + 1 ≤ 64 := by omega
  simp [SeqAt.shaped, PyData.canLay0, PyData.depth, h1, h3]
end BV

namespace BV
open PySem L2
theorem ix_nat {n j : Nat} (h : j < n) : ixN n (j : Int) = some j := by
  unfold ixN
  rw [if_pos (by omega), if_pos (by omega), Int.toNat_natCast]
theorem seq_nat {n j : Nat} (h : j < n) : seqIndex? (j : Int) n = some j := (ixN_seq (ix_nat h)).1
end BV

namespace BV
open PySem L2
theorem Kp.seq {K : PySem.W.Frag} {b g l : Addr} {H H' : Hp} {xs : List V} (k : Kp b g H H') (h1 : l ≠ b) (h2 : l ≠ g) (h : SqL K H l xs) : SqL K H' l xs := by
  rcases h with (h | ⟨o, h⟩) | h
  · exact .inl (.inl (k _ _ h h1 h2))
  · exact .inl (.inr ⟨o, k _ _ h h1 h2⟩)
  · exact .inr h
def spPick (K : PySem.W.Frag) : Sp := fun vs H Q _ => ∃ (b g l : Addr) (xs : List V), vs = [.ref b, .ref l] ∧ SqL K H l xs ∧ l ≠ b ∧ l ≠ g ∧
  0 < xs.length ∧ xs.length < 1000000 ∧ Box H b g ∧ ∀ (j : Nat) (v : V) (H' : Hp), xs[j]? = some v → Kp b g H H' → Box H' b g → Q v H'
end BV

namespace BV
open PySem L2
/-- what follows is shown once, for all ways through -/
theorem tIf_by {t : TT} {ta tb : TE} {σ : L2.St} {H : Hp} {Q : VK} (P : V → Hp → Prop) (cont : ∀ v H', P v H' → Q v H')
    (h : (∀ v H', P v H' → Q v H') → tIf t ta tb σ H Q) : tIf t ta tb σ H Q := h cont
theorem tIfS_by {c : TT} {t u : TS} {D : Ends} {σ : L2.St} {H : Hp} (P : L2.St → Hp → Prop) (cont : ∀ σ' H', P σ' H' → D.nx σ' H')
    (h : (∀ σ' H', P σ' H' → D.nx σ' H') → tIfS c t u D σ H) : tIfS c t u D σ H := h cont
end BV

namespace BV
open PySem L2
theorem tSeq_go {t u : TS} {D : Ends} {σ : L2.St} {H : Hp} (h : t { D with nx := u D } σ H) : tSeq t u D σ H := h
/-- for .. in range(e): what follows e, once for all ways through e -/
def rngK (g : TG) (tb : TS) (D : Ends) (σ : L2.St) (v : V) (H1 : Hp) : Prop := ∃ j : Int, [v] = [V.int j] ∧ -(2 ^ 62) ≤ j ∧ j < 2 ^ 62 ∧
  ∃ W : Nat → Nat → L2.St → Hp → Prop, (∃ m, W 0 m σ H1) ∧ ∀ i m σ H, W i m σ H →
    ((Itr 0 j.toNat).stop i H ∧ D.nx σ H) ∨ ((Itr 0 j.toNat).go i H ∧ ∃ N : L2.St → Hp → Prop, (∀ σ' H', N σ' H' → ∃ m', m' < m ∧ W (i + 1) m' σ' H') ∧
      ∀ x H', (Itr 0 j.toNat).yld i H x H' → g x σ H' fun σ2 H2 => tb { D with nx := N, ct := N, bk := D.nx } σ2 H2)
theorem for_rng1_by {te : TE} {g : TG} {tb : TS} {D : Ends} {σ : L2.St} {H : Hp} (P : V → Hp → Prop)
    (loop : ∀ v H', P v H' → rngK g tb D σ v H') (h : (∀ v H', P v H' → rngK g tb D σ v H') → te σ H (rngK g tb D σ)) :
    tFor (iRng1 (tCons te tNil)) g tb D σ H := h loop
end BV

namespace BV
open PySem L2
theorem tIfS_t {c : TT} {t u : TS} {D : Ends} {σ : L2.St} {H : Hp} (R : Bool → Hp → Prop) (ht : ∀ H', R true H' → t D σ H') (hu : ∀ H', R false H' → u D σ H')
    (h : (∀ b H', R b H' → if b = true then t D σ H' else u D σ H') → c σ H fun b H' => if b = true then t D σ H' else u D σ H') : tIfS c t u D σ H := by
  refine h fun b H' r => ?_
  cases b with
  | true => exact iteT (ht H' r)
  | false => exact iteF (hu H' r)
end BV

namespace BV
open PySem L2

/-! ### webs as data -/
abbrev Tie := Nat × Nat
def tieD (t : Tie) : PyData := .tuple [.int t.1, .int t.2]
def tiesD (ts : List Tie) : PyData := .tuple (ts.map tieD)
def webD (n : Nat) (ts : List Tie) : PyData := .tuple [.int n, tiesD ts]
structure WebOk (n : Nat) (ts : List Tie) : Prop where
  pos : 1 ≤ n
  ends : ∀ t ∈ ts, t.1 < t.2 ∧ t.2 < n
  hang : ∀ p, 1 ≤ p → p < n → ∃ q, q < p ∧ (q, p) ∈ ts

/-- the ends of a tie stand at v -/
def TieAt (H : Hp) (v : V) (t : Tie) : Prop := ∃ p, v = .ref p ∧ H p = some (.tup [.int t.1, .int t.2])
/-- tuples stay -/
def KT (H H' : Hp) : Prop := ∀ a xs, H a = some (.tup xs) → H' a = some (.tup xs)
theorem KT.of_same {H H' : Hp} (s : Same H H') : KT H H' := fun a xs h => s _ _ h
theorem KT.of_kp {b g : Addr} {H H' : Hp} (k : Kp b g H H') (x : Box H b g) : KT H H' := fun a xs h => by
  obtain ⟨⟨_, _, h1⟩, _, h2, _⟩ := x
  exact k _ _ h (ne_of h h1 (by intro z; cases z)) (ne_of h h2 (by intro z; cases z))
theorem KT.of_upd {H : Hp} {l : Addr} {xs ys : List V} (h : H l = some (.lst xs)) : KT H (upd H l (.lst ys)) := fun a zs e => by
  rw [upd_ne (ne_of e h (by intro z; cases z))]
  exact e
theorem TieAt.kt {H H' : Hp} {v : V} {t : Tie} (h : TieAt H v t) (k : KT H H') : TieAt H' v t := by
  obtain ⟨p, e, hp⟩ := h
  exact ⟨p, e, k _ _ hp⟩

abbrev Ties (H : Hp) : List V → List Tie → Prop := Paired (TieAt H)
theorem Ties.kt {H H' : Hp} (k : KT H H') : ∀ {xs : List V} {ts : List Tie}, Ties H xs ts → Ties H' xs ts
  | _, _, .nil => .nil
  | _, _, .cons a r => .cons (a.kt k) (Ties.kt k r)
theorem Ties.app {H : Hp} : ∀ {xs : List V} {ts : List Tie} {v : V} {t : Tie}, Ties H xs ts → TieAt H v t → Ties H (xs ++ [v]) (ts ++ [t])
  | _, _, _, _, .nil, h => .cons h .nil
  | _, _, _, _, .cons a r, h => .cons a (Ties.app r h)
theorem Ties.era {H : Hp} : ∀ {xs : List V} {ts : List Tie} (j : Nat), Ties H xs ts → Ties H (xs.eraseIdx j) (ts.eraseIdx j)
  | _, _, _, .nil => .nil
  | _, _, 0, .cons a r => r
  | _, _, j + 1, .cons a r => .cons a (Ties.era j r)
theorem Ties.get {H : Hp} : ∀ {xs : List V} {ts : List Tie} {j : Nat} {t : Tie}, Ties H xs ts → ts[j]? = some t → ∃ v, xs[j]? = some v ∧ TieAt H v t
  | _, _, _, _, .nil, h => by simp at h
  | _, _, 0, _, .cons a r, h => by
    simp at h
    subst h
    exact ⟨_, rfl, a⟩
  | _, _, j + 1, t, .cons a r, h => by
    obtain ⟨v, h1, h2⟩ := Ties.get (j := j) (t := t) r (by simpa using h)
    exact ⟨v, by simpa using h1, h2⟩
theorem Ties.at {H : Hp} : ∀ {xs : List V} {ts : List Tie} {j : Nat} {v : V}, Ties H xs ts → xs[j]? = some v → ∃ t, ts[j]? = some t ∧ TieAt H v t
  | _, _, _, _, .nil, h => by simp at h
  | _, _, 0, _, .cons a r, h => by
    simp at h
    subst h
    exact ⟨_, rfl, a⟩
  | _, _, j + 1, v, .cons a r, h => by
    obtain ⟨t, h1, h2⟩ := Ties.at (j := j) (v := v) r (by simpa using h)
    exact ⟨t, by simpa using h1, h2⟩
theorem Ties.dp {K : PySem.W.Frag} {H : Hp} : ∀ {xs : List V} {ts : List Tie}, Ties H xs ts → DpAll K H xs (ts.map tieD)
  | _, _, .nil => .nil
  | _, _, .cons h r => by
    obtain ⟨p, rfl, hp⟩ := h
    exact .cons (.tup (SqT.of hp) (.cons (.int _) (.cons (.int _) .nil))) (Ties.dp r)

/-- taking one out and laying it behind -/
theorem perm_move : ∀ (ts fs : List Tie) (j : Nat) (t : Tie), ts[j]? = some t → (ts.eraseIdx j ++ (fs ++ [t])).Perm (ts ++ fs) := by
  intro ts fs j t h
  have h1 : (t :: ts.eraseIdx j).Perm ts := by
    induction ts generalizing j with
    | nil => simp at h
    | cons a r ih =>
      cases j with
      | zero =>
        simp at h
        subst h
        exact .refl _
      | succ j =>
        have := ih j (by simpa using h)
        simp only [List.eraseIdx_cons_succ]
        exact (List.Perm.swap a t _).trans (this.cons a)
  have h2 : (ts.eraseIdx j ++ (fs ++ [t])).Perm (t :: (ts.eraseIdx j ++ fs)) := by
    rw [← List.append_assoc]
    exact List.perm_append_comm
  exact h2.trans (by simpa using h1.append_right fs)

/-- two lists of ties that grow, new since H0 -/
structure WI (b g l l2 : Addr) (H0 H : Hp) (ts fs : List Tie) : Prop where
  kp : Kp b g H0 H
  bx : Box H b g
  n1 : H0 l = none
  n2 : H0 l2 = none
  d1 : l ≠ b
  d2 : l ≠ g
  d3 : l2 ≠ b
  d4 : l2 ≠ g
  d5 : l ≠ l2
  tl : ∃ xs, H l = some (.lst xs) ∧ Ties H xs ts
  fl : ∃ ys, H l2 = some (.lst ys) ∧ Ties H ys fs
section
variable {b g l l2 p : Addr} {H0 H H' : Hp} {ts fs : List Tie} {v : V} {t : Tie} {xs : List V}
theorem WI.draw (w : WI b g l l2 H0 H ts fs) (k : Kp b g H H') (x : Box H' b g) : WI b g l l2 H0 H' ts fs := by
  obtain ⟨kp, bx, n1, n2, d1, d2, d3, d4, d5, ⟨xs, h1, h2⟩, ⟨ys, h3, h4⟩⟩ := w
  have kt := KT.of_kp k bx
  exact ⟨kp.trans k, x, n1, n2, d1, d2, d3, d4, d5, ⟨xs, k _ _ h1 d1 d2, h2.kt kt⟩, ⟨ys, k _ _ h3 d3 d4, h4.kt kt⟩⟩
theorem WI.same (w : WI b g l l2 H0 H ts fs) (s : Same H H') : WI b g l l2 H0 H' ts fs := w.draw (Kp.same s) (w.bx.same s)
theorem WI.app (w : WI b g l l2 H0 H ts fs) (h : H l = some (.lst xs)) (hv : TieAt H v t) : WI b g l l2 H0 (upd H l (.lst (xs ++ [v]))) (ts ++ [t]) fs := by
  obtain ⟨kp, bx, n1, n2, d1, d2, d3, d4, d5, ⟨zs, h1, h2⟩, ⟨ys, h3, h4⟩⟩ := w
  rw [h] at h1
  cases h1
  have kt : KT H (upd H l (.lst (xs ++ [v]))) := KT.of_upd h
  refine ⟨fun a o q q1 q2 => ?_, ?_, n1, n2, d1, d2, d3, d4, d5, ⟨_, upd_same, (h2.kt kt).app (hv.kt kt)⟩, ⟨ys, ?_, h4.kt kt⟩⟩
  · rw [upd_ne (ne_of_none q n1)]
    exact kp _ _ q q1 q2
  · obtain ⟨⟨st, c, x1⟩, ns, x2, x3⟩ := bx
    exact ⟨⟨st, c, by rw [upd_ne d1.symm]; exact x1⟩, ns, by rw [upd_ne d2.symm]; exact x2, x3⟩
  · rw [upd_ne d5.symm]
    exact h3
theorem WI.swap (w : WI b g l l2 H0 H ts fs) : WI b g l2 l H0 H fs ts := by
  obtain ⟨kp, bx, n1, n2, d1, d2, d3, d4, d5, t1, t2⟩ := w
  exact ⟨kp, bx, n2, n1, d3, d4, d1, d2, d5.symm, t2, t1⟩
theorem WI.pop (w : WI b g l l2 H0 H ts fs) (h : H l = some (.lst xs)) (j : Nat) : WI b g l l2 H0 (upd H l (.lst (xs.eraseIdx j))) (ts.eraseIdx j) fs := by
  obtain ⟨kp, bx, n1, n2, d1, d2, d3, d4, d5, ⟨zs, h1, h2⟩, ⟨ys, h3, h4⟩⟩ := w
  rw [h] at h1
  cases h1
  have kt : KT H (upd H l (.lst (xs.eraseIdx j))) := KT.of_upd h
  refine ⟨fun a o q q1 q2 => ?_, ?_, n1, n2, d1, d2, d3, d4, d5, ⟨_, upd_same, (h2.kt kt).era j⟩, ⟨ys, ?_, h4.kt kt⟩⟩
  · rw [upd_ne (ne_of_none q n1)]
    exact kp _ _ q q1 q2
  · obtain ⟨⟨st, c, x1⟩, ns, x2, x3⟩ := bx
    exact ⟨⟨st, c, by rw [upd_ne d1.symm]; exact x1⟩, ns, by rw [upd_ne d2.symm]; exact x2, x3⟩
  · rw [upd_ne d5.symm]
    exact h3
end

def spWeb (K : PySem.W.Frag) : Sp := fun vs H Q _ => ∃ (b g : Addr) (most more : Nat), vs = [.ref b, .int most, .int more] ∧ 1 ≤ most ∧ most ≤ 1000 ∧ more ≤ 1000 ∧ Box H b g ∧
  ∀ (p : Addr) (n : Nat) (ts : List Tie) (H' : Hp), Kp b g H H' → Box H' b g → Dp K H' (.ref p) (webD n ts) → WebOk n ts → n ≤ most → ts.length + 1 ≤ n + more →
    (n = 1 → ts = []) → Q (.ref p) H'
end BV

namespace BV
open PySem L2

/-! ### data that is read -/
section
variable {K : PySem.W.Frag} {H H' : Hp}
theorem sqT_same {a : Addr} {xs : List V} (s : Same H H') (h : SqT K H a xs) : SqT K H' a xs := by
  rcases h with (h | ⟨o, h⟩) | h
  · exact .inl (.inl (s _ _ h))
  · exact .inl (.inr ⟨o, s _ _ h⟩)
  · exact .inr h
mutual
theorem dp_same (s : Same H H') : ∀ (d : PyData) {v : V}, Dp K H v d → Dp K H' v d
  | .none, _, h => by cases h; exact .non
  | .bool b, _, h => by cases h; exact .bl b
  | .int i, _, h => by cases h; exact .int i
  | .str x, _, h => by cases h; exact .str x
  | .list ds, _, h => by
    cases h with
    | lst h1 h2 => exact .lst (Same.seq s h1) (dpAll_same s ds h2)
  | .tuple ds, _, h => by
    cases h with
    | tup h1 h2 => exact .tup (sqT_same s h1) (dpAll_same s ds h2)
  | .dict _, _, h => by cases h
theorem dpAll_same (s : Same H H') : ∀ (ds : List PyData) {vs : List V}, DpAll K H vs ds → DpAll K H' vs ds
  | [], _, h => by cases h; exact .nil
  | d :: ds, _, h => by
    cases h with
    | cons h1 h2 => exact .cons (dp_same s d h1) (dpAll_same s ds h2)
end

/-- what is locked or a tuple stays -/
def KF (H H' : Hp) : Prop := ∀ a o, H a = some o → (∃ xs, o = .tup xs ∨ ∃ ob, o = .frz ob (.tup xs)) → H' a = some o
theorem KF.of_same (s : Same H H') : KF H H' := fun a o h _ => s a o h
theorem KF.of_kp {b g : Addr} (k : Kp b g H H') (x : Box H b g) : KF H H' := fun a o h q => by
  obtain ⟨⟨_, _, h1⟩, _, h2, _⟩ := x
  obtain ⟨xs, rfl | ⟨ob, rfl⟩⟩ := q
  · exact k _ _ h (ne_of h h1 (by intro z; cases z)) (ne_of h h2 (by intro z; cases z))
  · exact k _ _ h (ne_of h h1 (by intro z; cases z)) (ne_of h h2 (by intro z; cases z))
theorem KF.trans {H'' : Hp} (x : KF H H') (y : KF H' H'') : KF H H'' := fun a o h q => y a o (x a o h q) q
theorem KF.of_upd {l : Addr} {xs ys : List V} (h : H l = some (.lst xs)) : KF H (upd H l (.lst ys)) := fun a o e q => by
  obtain ⟨zs, rfl | ⟨ob, rfl⟩⟩ := q
  · rw [upd_ne (ne_of e h (by intro z; cases z))]
    exact e
  · rw [upd_ne (ne_of e h (by intro z; cases z))]
    exact e
theorem sqT_kf {a : Addr} {xs : List V} (s : KF H H') (h : SqT K H a xs) : SqT K H' a xs := by
  rcases h with (h | ⟨o, h⟩) | h
  · exact .inl (.inl (s _ _ h ⟨xs, .inl rfl⟩))
  · exact .inl (.inr ⟨o, s _ _ h ⟨xs, .inr ⟨o, rfl⟩⟩⟩)
  · exact .inr h
mutual
/-- data without a list in it -/
def still : PyData → Bool
  | .none | .bool _ | .int _ | .str _ => true
  | .list _ | .dict _ => false
  | .tuple ds => stillAll ds
def stillAll : List PyData → Bool
  | [] => true
  | d :: ds => still d && stillAll ds
end
mutual
theorem dp_kf (s : KF H H') : ∀ (d : PyData) {v : V}, still d = true → Dp K H v d → Dp K H' v d
  | .none, _, _, h => by cases h; exact .non
  | .bool b, _, _, h => by cases h; exact .bl b
  | .int i, _, _, h => by cases h; exact .int i
  | .str x, _, _, h => by cases h; exact .str x
  | .list ds, _, q, h => by simp [still] at q
  | .tuple ds, _, q, h => by
    cases h with
    | tup h1 h2 => exact .tup (sqT_kf s h1) (dpAll_kf s ds (by simpa [still] using q) h2)
  | .dict _, _, _, h => by cases h
theorem dpAll_kf (s : KF H H') : ∀ (ds : List PyData) {vs : List V}, stillAll ds = true → DpAll K H vs ds → DpAll K H' vs ds
  | [], _, _, h => by cases h; exact .nil
  | d :: ds, _, q, h => by
    have q' : still d = true ∧ stillAll ds = true := by simpa [stillAll] using q
    cases h with
    | cons h1 h2 => exact .cons (dp_kf s d q'.1 h1) (dpAll_kf s ds q'.2 h2)
end
theorem dpAll_len : ∀ {ds : List PyData} {vs : List V}, DpAll K H vs ds → vs.length = ds.length
  | [], _, h => by cases h; rfl
  | d :: ds, _, h => by
    cases h with
    | cons h1 h2 => exact congrArg Nat.succ (dpAll_len h2)
theorem dpAll_get : ∀ {ds : List PyData} {vs : List V} {i : Nat} {v : V}, DpAll K H vs ds → vs[i]? = some v → ∃ d, ds[i]? = some d ∧ Dp K H v d
  | [], _, _, _, h, e => by cases h; simp at e
  | d :: ds, _, 0, _, h, e => by
    cases h with
    | cons h1 h2 =>
      simp at e
      subst e
      exact ⟨d, rfl, h1⟩
  | d :: ds, _, i + 1, v, h, e => by
    cases h with
    | cons h1 h2 =>
      obtain ⟨d', a, b⟩ := dpAll_get (i := i) (v := v) h2 (by simpa using e)
      exact ⟨d', by simpa using a, b⟩
theorem dpAll_at : ∀ {ds : List PyData} {vs : List V} {i : Nat} {d : PyData}, DpAll K H vs ds → ds[i]? = some d → ∃ v, vs[i]? = some v ∧ Dp K H v d
  | [], _, _, _, h, e => by simp at e
  | d :: ds, _, 0, _, h, e => by
    cases h with
    | cons h1 h2 =>
      simp at e
      subst e
      exact ⟨_, rfl, h1⟩
  | d :: ds, _, i + 1, v, h, e => by
    cases h with
    | cons h1 h2 =>
      obtain ⟨d', a, b⟩ := dpAll_at (i := i) (d := v) h2 (by simpa using e)
      exact ⟨d', by simpa using a, b⟩
theorem dpAll_app : ∀ {ds es : List PyData} {vs us : List V}, DpAll K H vs ds → DpAll K H us es → DpAll K H (vs ++ us) (ds ++ es)
  | [], _, _, _, h, g => by cases h; exact g
  | d :: ds, _, _, _, h, g => by
    cases h with
    | cons h1 h2 => exact .cons h1 (dpAll_app h2 g)
theorem dpAll_ints' : ∀ {ns : List Int} {vs : List V}, DpAll K H vs (ns.map PyData.int) → vs = ns.map V.int
  | [], _, h => by cases h; rfl
  | n :: ns, _, h => by
    cases h with
    | cons h1 h2 =>
      cases h1
      rw [dpAll_ints' h2]
      rfl
theorem dp_tup {v : V} {ds : List PyData} (h : Dp K H v (.tuple ds)) : ∃ a xs, v = .ref a ∧ SqT K H a xs ∧ DpAll K H xs ds := by
  cases h with
  | tup h1 h2 => exact ⟨_, _, rfl, h1, h2⟩
theorem dp_lst {v : V} {ds : List PyData} (h : Dp K H v (.list ds)) : ∃ a xs, v = .ref a ∧ SqL K H a xs ∧ DpAll K H xs ds := by
  cases h with
  | lst h1 h2 => exact ⟨_, _, rfl, h1, h2⟩
theorem dp_tie {v : V} {t : Tie} (h : Dp K H v (tieD t)) : ∃ a, v = .ref a ∧ SqT K H a [.int t.1, .int t.2] := by
  obtain ⟨a, xs, e, h1, h2⟩ := dp_tup h
  have q : xs = [.int t.1, .int t.2] := dpAll_ints' (ns := [t.1, t.2]) h2
  subst q
  exact ⟨a, e, h1⟩
theorem dp_web {v : V} {n : Nat} {ts : List Tie} (h : Dp K H v (webD n ts)) :
    ∃ a c ys, v = .ref a ∧ SqT K H a [.int n, .ref c] ∧ SqT K H c ys ∧ DpAll K H ys (ts.map tieD) := by
  obtain ⟨a, xs, e, h1, h2⟩ := dp_tup h
  cases h2 with
  | cons q1 q2 =>
    cases q1
    cases q2 with
    | cons q3 q4 =>
      cases q4
      obtain ⟨c, ys, e3, h3, h4⟩ := dp_tup q3
      subst e3
      exact ⟨a, c, ys, e, h1, h3, h4⟩
theorem still_ties : ∀ ts : List Tie, stillAll (ts.map tieD) = true
  | [] => by simp [stillAll]
  | t :: ts => by simp [stillAll, tieD, still, still_ties ts]
theorem still_web (n : Nat) (ts : List Tie) : still (webD n ts) = true := by simp [webD, tiesD, still, stillAll, still_ties ts]
end

/-! ### lots -/
def lotD (ks : List Nat) : PyData := .tuple (ks.map fun (k : Nat) => .int k)
def hit (ts : List Tie) (p k : Nat) : Bool := match ts[k]? with
  | some t => t.1 == p || t.2 == p
  | none => false
def tiesAt (ts : List Tie) (p : Nat) : List Nat := (List.range ts.length).filter (hit ts p)
def spTies (K : PySem.W.Frag) : Sp := fun vs H Q _ => ∃ (v : V) (n p : Nat) (ts : List Tie), vs = [v, .int p] ∧ Dp K H v (webD n ts) ∧ ts.length ≤ 3000 ∧
  ∀ (u : V) (H' : Hp), Same H H' → Dp K H' u (lotD (tiesAt ts p)) → Q u H'
end BV

/-! ### rules that name the written part -/
namespace BV
open PySem L2
section
variable {X : Cx} (K : PySem.W.Frag)
theorem opIn (h : X.K = K := by rfl) : OpR X (compareOp .In) (rIn K false) := by
  subst h
  exact op_in_seq
theorem opNotIn (h : X.K = K := by rfl) : OpR X (compareOp .NotIn) (rIn K true) := by
  subst h
  exact op_notIn_seq
theorem opEqD (hu : X.A.units + 64 < cLine) (h : X.K = K := by rfl) : OpR X (compareOp .Eq) (rEqD K) := by
  subst h
  exact op_eqD hu
theorem opNeD (hu : X.A.units + 64 < cLine) (h : X.K = K := by rfl) : OpR X (compareOp .NotEq) (rNeD K) := by
  subst h
  exact op_neD hu
theorem ixL (h : X.K = K := by rfl) : IxR X (rIxL K) := by
  subst h
  exact ix_list
theorem ixT (h : X.K = K := by rfl) : IxR X (rIxT K) := by
  subst h
  exact ix_tup
def rLenK (K : PySem.W.Frag) : List V → Hp → VK → Prop := fun xs H Q => ∃ p ys, xs = [.ref p] ∧ (SqL K H p ys ∨ SqT K H p ys) ∧ Q (.int ys.length) H
theorem lenK (h : X.K = K := by rfl) : CallR X (.builtin "len") (rLenK K) := by
  subst h
  exact call_len_seq
def rTupK (K : PySem.W.Frag) : List V → Hp → VK → Prop := fun xs H Q => ∃ p ys, xs = [.ref p] ∧
  ((SqL K H p ys ∧ ∀ l, H l = none → Q (.ref l) (upd H l (.tup ys))) ∨ (SqT K H p ys ∧ Q (.ref p) H))
theorem tupleK (h : X.K = K := by rfl) : CallR X (.type "tuple") (rTupK K) := by
  subst h
  exact call_tuple_of
def rSumT (K : PySem.W.Frag) : List V → Hp → VK → Prop := fun vs H Q => ∃ (a : Addr) (ns : List Int), vs = [V.ref a] ∧ SqT K H a (ns.map V.int) ∧ Q (.int ns.sum) H
theorem sumTK (hc : X.calm = true := by rfl) (h : X.K = K := by rfl) : CallR X (.builtin "sum") (rSumT K) := by
  subst h
  exact cr_sumT hc
def rReprK (K : PySem.W.Frag) : List V → Hp → VK → Prop := fun xs H Q => ∃ (x : V) (d : PyData), xs = [x] ∧ Dp K H x d ∧ Show d ∧ Q (.str d.shown) H
theorem reprK (hgd : X.A.guards = some []) (hu : X.A.units + 64 < cLine) (h : X.K = K := by rfl) : CallR X (.builtin "repr") (rReprK K) := by
  subst h
  exact call_reprD hgd hu
theorem revT {e : Expr} {te : TE} {k : Nat} {p1 p2 p3 pos : Pos} (he : PE X e te) (h : X.K = K := by rfl) :
    PE X (.Subscript e (.Slice none none (some (.UnaryOp .USub (.Constant (.int 1) k p1) p2)) p3) pos) (tRevT K te) := by
  subst h
  exact pe_revT he
theorem enumT {e : Expr} {ta : TA} {p pos tpos : Pos} {elts : List Expr} {kk : Nat} (hg : Gl X "enumerate") (hm : X.mg "enumerate" = none)
    (ha : PA X [e] ta) (hs : starEach [e] X.env = [(false, eval e X.env)] := by rfl) (h : X.K = K := by rfl) :
    PI X (.Tuple elts kk tpos) (.Call (.Name "enumerate" p) [e] [] pos) (iEnumT K ta) := by
  subst h
  exact pi_enumT hg hm ha hs
theorem piL {l tg : Expr} {tl : TE} (hl : PE X l tl) (h : X.K = K := by rfl) : PI X tg l (iList K tl) := by
  subst h
  exact pi_list hl
theorem piT {l tg : Expr} {tl : TE} (hl : PE X l tl) (h : X.K = K := by rfl) : PI X tg l (iTup K tl) := by
  subst h
  exact pi_tup hl
theorem pgT {es : List Expr} {k : Nat} {t : TGs} {n : Nat} (hc : X.calm = true) (h : PGs X es t)
    (hn : (assignEach es X.env).length = n := by rfl) (hst : (assignEach es X.env).findIdx? (·.1) = none := by rfl) {pos : Pos} (hK : X.K = K := by rfl) :
    PG X (.Tuple es k pos) (gTup K n t) := by
  subst hK
  exact pg_tup hc h hn hst
theorem getL (h : X.K = K := by rfl) : PGet X (rGetL K) := by
  subst h
  exact get_list
theorem slL (h : X.K = K := by rfl) : SlR X (rSlL K) := by
  subst h
  exact sl_list
end
end BV

namespace BV
open PySem L2
theorem inv_tie (p : Nat) (t : Tie) : inV (.int (p : Int)) [.int t.1, .int t.2] = (t.1 == p || t.2 == p) := by
  have e : ∀ a : Nat, (((a : Nat) : Int) == (p : Int)) = (a == p) := fun a => by
    by_cases h : a = p
    · subst h
      simp
    · rw [beq_eq_false_iff_ne.mpr h]
      exact beq_eq_false_iff_ne.mpr fun z => h (by omega)
  show ((((t.1 : Nat) : Int) == (p : Int)) || ((((t.2 : Nat) : Int) == (p : Int)) || false)) = _
  rw [e, e, Bool.or_false]
theorem range_filter_succ {f : Nat → Bool} {i : Nat} : (List.range (i + 1)).filter f = (List.range i).filter f ++ if f i then [i] else [] := by
  rw [List.range_succ, List.filter_append]
  congr 1
  by_cases h : f i = true
  · rw [if_pos h, List.filter_cons_of_pos h, List.filter_nil]
  · rw [if_neg h, List.filter_cons_of_neg h, List.filter_nil]
theorem hit_at {ts : List Tie} {p i : Nat} {t : Tie} (h : ts[i]? = some t) : hit ts p i = (t.1 == p || t.2 == p) := by
  unfold hit
  rw [h]
end BV

namespace BV
open PySem L2
local macro_rules | `(tactic| walk_at "rd") => `(tactic| (repeat (first | refine ⟨_, rfl, ?_⟩ | refine ⟨_, _, rfl, rfl, ?_⟩ | refine Or.inl ⟨_, rfl, ?_⟩ | refine Or.inr ⟨_, rfl, ?_⟩ | refine ⟨_, _, rfl, ?_⟩)))
def top (i : Nat) : Stmt := PySem.Challenge.pw_botheven_k09_what_are_standings_and_deed.main.body.getD i (.Pass ⟨0, 0, 0, 0⟩)
abbrev sBox : Stmt := top 21
abbrev nBox : List Str := ["_law_script", "_law_marks", "_law_stirred", "_law_mark", "_law_cell"]
theorem scBox : FnScope nBox ["_law_script"] (defScope sBox) := ⟨rfl, rfl, rfl, by decide +kernel, rfl, by decide +kernel, by decide +kernel⟩
section
variable {P : Program} {w : World} {K : PySem.W.Frag} {mg : Str → Option Value} {base : Heap}
theorem ok_box {f : Addr} {fd : FuncData} (D : Df K mg "_law_box" sBox ["_law_script"] f fd) (T : Bl mg) : FnOk P w K mg base CX0 1 f fd ["_law_script"] (spBox K) := by
  refine D.fn.ok scBox (fun vs H Q E h => ?_) (fun cdv A outer s H vs Q E hr h => ?_)
  · obtain ⟨a, ns, rfl, _⟩ := h
    rfl
  · obtain ⟨a, ns, rfl, hS, hlen, k⟩ := h
    have hu := hu_of hr
    have nd := scBox.nd
    refine ⟨_, (pss_cons (ps_par (i := 1) (j := 2) (by rfl) nd rfl rfl (by decide) rfl rfl (pa_cons (pe_lc (own := [("_law_cell", 4)]) (g := gName 4) (tt := tYes) rfl nd (pi_list (pe_slice sl_list (pv 0) po_none (po_some pe_int))) (blkOk_by (own := [("_law_cell", 4)]) (N := nBox) (sc := defScope sBox) (by decide +kernel)) (fun _ _ _ _ _ => (pg_name (i := 4) nd rfl (by first | exact Or.inl rfl | exact Or.inr rfl))) (fun _ _ _ _ _ => pts_nil) (fun _ _ _ _ _ => (pe_op op_add (pe_op op_mul pe_int (pe_callB call_abs (by rfl) T.abs (by decide +kernel) (pa_cons (pv 4) pa_nil))) (pe_callTy call_int1 (by rfl) T.int (by decide +kernel) (pa_cons (pe_cmpR op_lt (pv 4) pe_int (nomark _)) pa_nil))))) (pa_cons (pe_op op_add pe_int (pe_callB call_len_seq (by rfl) T.len PySem.boot_len (pa_cons (pv 0) pa_nil))) pa_nil)) (by rfl))
      (pss_cons (ps_for PassesOwn.never rfl (pi_list (pv 1)) (pg_name (i := 3) nd rfl (by first | exact Or.inl rfl | exact Or.inr rfl)) (pss_one (ps_set (i := 2) nd rfl (by first | exact Or.inl rfl | exact Or.inr rfl) (pe_op op_mod (pe_callTy call_int1 (by rfl) T.int (by decide +kernel) (pa_cons (pe_op op_add (pe_op op_mul (pv 2) pe_int) (pv 3)) pa_nil)) pe_int))))
      (pss_one (ps_ret (pe_disp (pps_cons pe_str (pe_lc (own := [("_law_mark", 3)]) (g := gName 3) rfl nd (pi_list (pv 1)) (blkOk_by (own := [("_law_mark", 3)]) (N := nBox) (sc := defScope sBox) (by decide +kernel)) (fun _ _ _ _ _ => (pg_name (i := 3) nd rfl (by first | exact Or.inl rfl | exact Or.inr rfl))) (fun _ _ _ _ _ => (pts_one (pt_cmpR op_gt (pv 3) (pe_op op_pow pe_int pe_int) (nomark _)))) (fun _ _ _ _ _ => (pv 3))) (pps_cons pe_str (pv 2) (pps_cons pe_str pe_int pps_nil))) (by rfl) (by rfl) (fun z => by cases z) (by decide)))))), ?_⟩
    -- the comprehension over script[:63]
    refine ⟨_, rfl, 63, rfl, a, _, rfl, hS, fun p hp => ?_⟩
    refine ⟨p, rfl, ⟨_, SqL.of upd_same⟩, fun D hD => ?_⟩
    have s1 : Same H (upd H p (.lst (cutV (ns.map V.int) none (some 63)))) := same_new hp
    refine lc_run (walk_list (xs := cutV (ns.map V.int) none (some 63))) hD (fun i acc _ => acc.length = i ∧ ∃ ms : List Int, acc = ms.map V.int) ?_ ?_ ?_ ?_
    · exact fun H' s => SqL.of (s _ _ upd_same)
    · exact ⟨rfl, [], rfl⟩
    · rintro i x acc H2 H' hi ha e s ⟨hl, ms, rfl⟩ ⟨rfl, hx⟩
      obtain ⟨z, rfl⟩ : ∃ z : Int, x = .int z := by
        have h1 : x ∈ cutV (ns.map V.int) none (some 63) := List.mem_of_getElem? hx
        have h2 : x ∈ ns.map V.int := List.mem_of_mem_drop (List.mem_of_mem_take h1)
        obtain ⟨z, _, e⟩ := List.mem_map.mp h2
        exact ⟨z, e.symm⟩
      refine ⟨rfl, yes_go ?_⟩
      walk_at "rd"
      refine ⟨.inl ⟨by decide, by decide⟩, ?_⟩
      walk_at "rd"
      have hms : ms.length = i := by rw [← hl, List.length_map]
      have hb : cutV (ns.map V.int) none (some 63) = ns.map V.int := by
        rw [show cutV (ns.map V.int) none (some 63) = ((ns.map V.int).drop 0).take (min 63 (ns.map V.int).length - 0) from rfl, List.drop_zero, List.take_of_length_le]
        rw [List.length_map]
        omega
      have hi2 : i < 63 := by
        rw [hb, List.length_map] at hi
        omega
      refine lc_add ha e (Same.refl _) (by rw [hl]; omega) ⟨by rw [List.length_append, hl]; rfl, ms ++ [_], by rw [List.map_append]; rfl⟩
    · rintro acc H2 hD2 s2 ⟨hl, ms, rfl⟩
      have hS2 : SqL K H2 a (ns.map V.int) := Same.seq (Same.trans s1 s2) hS
      have hml : ms.length ≤ 63 := by
        have h0 := cutV_length (ns.map V.int) none (some 63)
        rw [List.length_map] at h0 hl
        omega
      walk_at "rd"
      refine ⟨_, _, rfl, .inl hS2, ?_⟩
      walk_at "rd"
      -- the stirring
      refine ⟨⟨_, SqL.of hD2⟩, for_it (walk_list (xs := ms.map V.int)) (fun i σ H' => ∃ (st : Int) (v : Option V),
        σ = [some (.ref a), some (.ref D), some (.int st), v, none] ∧ H' = H2 ∧ 0 ≤ st ∧ st < 2 ^ 33) ?_ ?_ ?_ ?_⟩
      · refine ⟨40961 + ((ns.map V.int).length : Int), none, rfl, rfl, by omega, ?_⟩
        rw [List.length_map]
        omega
      · rintro i σ H' _ ⟨st, v, rfl, rfl, _⟩
        exact SqL.of hD2
      · rintro i x σ H' H'' hi ⟨st, v, rfl, rfl, h0, h1⟩ ⟨rfl, hx⟩
        obtain ⟨z, hz, rfl⟩ := ints_at hx
        walk_at "rd"
        refine ⟨.inl ⟨by omega, by omega⟩, ?_⟩
        walk_at "rd"
        refine ⟨by show (0 : Int) < 4294967291; decide, ?_⟩
        refine ⟨_, some _, rfl, rfl, Int.emod_nonneg _ (by decide), Int.lt_of_lt_of_le (Int.emod_lt_of_pos _ (by decide)) (by decide)⟩
      · rintro σ H' ⟨st, v, rfl, rfl, h0, h1⟩
        intro b hb
        -- the great ones
        have nDb : D ≠ b := ne_of_none hD2 hb
        have hDb : upd H' b (.dK []) D = some (.lst (ms.map V.int)) := by rw [upd_ne nDb]; exact hD2
        have sb : Same H' (upd H' b (.dK [])) := same_new hb
        refine ⟨_, rfl, D, rfl, ⟨_, SqL.of hDb⟩, fun g hg => ?_⟩
        refine lc_run (walk_list (xs := ms.map V.int)) hg (fun i acc _ => acc.length ≤ i ∧ ∃ ms : List Int, acc = ms.map V.int) ?_ ?_ ?_ ?_
        · exact fun H3 s => SqL.of (s _ _ hDb)
        · exact ⟨Nat.le_refl _, [], rfl⟩
        · rintro i x acc H3 H4 hi ha e s3 ⟨hl, ms2, rfl⟩ ⟨rfl, hx⟩
          obtain ⟨z, hz, rfl⟩ := ints_at hx
          rw [List.length_map] at hi
          refine ⟨rfl, ?_⟩
          walk_at "rd"
          refine ⟨⟨by decide, by decide, by decide⟩, ?_⟩
          walk_at "rd"
          refine ite2 (fun _ => ?_) (fun _ => ?_)
          · walk_at "rd"
            refine lc_add ha e (Same.refl _) (by omega) ⟨?_, ms2 ++ [z], by rw [List.map_append]; rfl⟩
            rw [List.length_append]
            exact Nat.succ_le_succ hl
          · exact lc_skip ha e (Same.refl _) ⟨Nat.le_succ_of_le hl, ms2, rfl⟩
        · rintro acc H3 hg3 s3 ⟨hl, ms2, rfl⟩
          rw [List.length_map, List.length_map] at hl
          have hb3 : H3 b = some (.dK []) := s3 _ _ upd_same
          walk_at "rd"
          refine ⟨hb3, boxD g st 0, rfl, by show 3 ≤ 15; decide, ?_⟩
          have hbg : b ≠ g := ne_of_none upd_same hg
          have hg0 : H' g = none := Same.free sb hg
          have s4 : Same H H' := Same.trans s1 s2
          have s5 : Same H H3 := Same.trans s4 (Same.trans sb s3)
          have hb0 : H b = none := Same.free s4 hb
          refine k b g _ hb0 (Same.free s4 hg0) (fun c o q => ?_) ⟨⟨st, 0, ?_⟩, ms2, ?_, by omega⟩
          · rw [upd_ne (ne_of_none q hb0)]
            exact s5 _ _ q
          · rw [upd_same]
            rfl
          · rw [upd_ne hbg.symm]
            exact hg3
end
end BV

namespace BV
open PySem L2
local macro_rules | `(tactic| walk_at "rd") => `(tactic| (repeat (first | refine ⟨_, rfl, ?_⟩ | refine ⟨_, _, rfl, rfl, ?_⟩ | refine Or.inl ⟨_, rfl, ?_⟩ | refine Or.inr ⟨_, rfl, ?_⟩ | refine ⟨_, _, rfl, ?_⟩)))
abbrev sDraw : Stmt := top 22
abbrev nDraw : List Str := ["_law_box_here", "_law_many", "_law_great", "_law_count", "_law_found", "_law_mark"]
theorem scDraw : FnScope nDraw ["_law_box_here", "_law_many"] (defScope sDraw) := ⟨rfl, rfl, rfl, by decide +kernel, rfl, by decide +kernel, by decide +kernel⟩
/-- a draw below a great number -/
def spDrawW : Sp := fun vs H Q _ => ∃ (b g : Addr) (m : Int), vs = [.ref b, .int m] ∧ 0 < m ∧ m < 2 ^ 110 ∧ Box H b g ∧
  ∀ (r : Int) (H' : Hp), 0 ≤ r → r < m → Kp b g H H' → Box H' b g → Q (.int r) H'
section
variable {P : Program} {w : World} {K : PySem.W.Frag} {mg : Str → Option Value} {base : Heap}
theorem ok_draw {f : Addr} {fd : FuncData} (D : Df K mg "_law_draw" sDraw ["_law_box_here", "_law_many"] f fd) (T : Bl mg) :
    FnOk P w K mg base CX0 1 f fd ["_law_box_here", "_law_many"] spDraw := by
  refine D.fn.ok scDraw (fun vs H Q E h => ?_) (fun cdv A outer s H vs Q E hr h => ?_)
  · obtain ⟨b, g, m, rfl, _⟩ := h
    rfl
  · obtain ⟨b, g, m, rfl, hm0, hm1, hB, k⟩ := h
    have hu := hu_of hr
    have nd := scDraw.nd
    have hbg := hB.ne
    obtain ⟨⟨st, c, hb⟩, ns, hg, hns⟩ := hB
    refine ⟨_, (pss_cons (ps_set (i := 2) nd rfl (by first | exact Or.inl rfl | exact Or.inr rfl) (pe_dget hu (pv 0) pe_str (fun _ _ => rfl)))
      (pss_cons (ps_if (pt_cmpR (op_neD hr.units) (pv 2) (pe_lst pa_nil) (nomark _)) (pss_cons (ps_set (i := 5) nd rfl (by first | exact Or.inl rfl | exact Or.inr rfl) (pe_ix ix_list (pv 2) pe_int (fun _ _ => rfl)))
      (pss_cons (ps_asg (pe_op op_fdivW (pv 5) (pv 1)) (pg_sub (pv 2) pe_int set_list))
      (pss_cons (ps_if (pt_cmpR op_lt (pv 5) (pv 1) (nomark _)) (pss_one (ps_expr (pe_bm PySem.F.plainAttrs_list PySem.F.slot_list_pop PySem.F.type_list_pop mt_popAt (pv 2) (pa_cons pe_int pa_nil)))) pss_nil)
      (pss_one (ps_ret (pe_op op_mod (pe_callTy call_int1 (by rfl) T.int (by decide +kernel) (pa_cons (pv 5) pa_nil)) (pv 1))))))) pss_nil)
      (pss_cons (ps_set (i := 3) nd rfl (by first | exact Or.inl rfl | exact Or.inr rfl) (pe_op op_add (pe_dget hu (pv 0) pe_str (fun _ _ => rfl)) pe_int))
      (pss_cons (ps_dput hu (pv 0) pe_str (pv 3) rfl)
      (pss_cons (ps_set (i := 4) nd rfl (by first | exact Or.inl rfl | exact Or.inr rfl) (pe_op op_mod (pe_callTy call_int1 (by rfl) T.int (by decide +kernel) (pa_cons (pe_op op_add (pe_dget hu (pv 0) pe_str (fun _ _ => rfl)) (pe_op op_mul pe_int (pv 3))) pa_nil)) pe_int))
      (pss_cons (ps_set (i := 4) nd rfl (by first | exact Or.inl rfl | exact Or.inr rfl) (pe_op op_mod (pe_callTy call_int1 (by rfl) T.int (by decide +kernel) (pa_cons (pe_op op_add (pe_op op_add (pe_op op_mul (pv 4) (pv 4)) (pe_op op_mul pe_int (pv 3))) pe_int) pa_nil)) pe_int))
      (pss_cons (ps_set (i := 4) nd rfl (by first | exact Or.inl rfl | exact Or.inr rfl) (pe_op op_mod (pe_callTy call_int1 (by rfl) T.int (by decide +kernel) (pa_cons (pe_op op_add (pe_op op_mul (pv 4) (pv 4)) (pe_dget hu (pv 0) pe_str (fun _ _ => rfl))) pa_nil)) pe_int))
      (pss_one (ps_ret (pe_op op_mod (pe_callTy call_int1 (by rfl) T.int (by decide +kernel) (pa_cons (pe_op op_fdivW (pv 4) pe_int) pa_nil)) (pv 1))))))))))), ?_⟩
    refine ⟨_, rfl, b, _, rfl, get_great hb, ?_⟩
    refine ⟨_, rfl, Nat.zero_le _, fun p hp => ?_⟩
    have s1 : Same H (upd H p (.lst [])) := same_new hp
    have hb1 := s1 _ _ hb
    have hg1 := s1 _ _ hg
    have nbp : b ≠ p := ne_of_none hb hp
    have ngp : g ≠ p := ne_of_none hg hp
    refine ⟨.list (ns.map .int), .list [], .lst (SqL.of hg1) (dpAll_ints ns), .lst (SqL.of upd_same) .nil, shaped_intsL ns, shaped_intsL [], _, rfl, ?_⟩
    have kk : Kp b g H (upd H p (.lst [])) := Kp.same s1
    cases ns with
    | nil =>
      refine ite2 (fun z => absurd z (by decide)) (fun _ => ?_)
      refine ⟨_, rfl, b, _, rfl, get_count hb1, ?_⟩
      walk_at "rd"
      refine ⟨b, _, rfl, put_count hb1, ?_⟩
      have hb2 : upd (upd H p (.lst [])) b (.dK (boxD g st (c + 1))) b = some (.dK (boxD g st (c + 1))) := upd_same
      have gs : ∀ x : Int, 0 ≤ x % 4294967291 ∧ x % 4294967291 < 4294967291 := fun x => ⟨Int.emod_nonneg _ (by decide), Int.emod_lt_of_pos _ (by decide)⟩
      have gt : ∀ x : Int, 0 ≤ x % 4294967279 ∧ x % 4294967279 < 4294967279 := fun x => ⟨Int.emod_nonneg _ (by decide), Int.emod_lt_of_pos _ (by decide)⟩
      refine ⟨_, rfl, b, _, rfl, get_stirred hb2, ?_⟩
      walk_at "rd"
      refine ⟨.inl ⟨by decide, by decide⟩, ?_⟩
      walk_at "rd"
      refine ⟨by show (0 : Int) < 4294967291; decide, ?_⟩
      have g1 := gs (st + 2654435761 * (c + 1))
      walk_at "rd"
      refine ⟨.inl ⟨by omega, by omega⟩, ?_⟩
      walk_at "rd"
      refine ⟨.inl ⟨by decide, by decide⟩, ?_⟩
      walk_at "rd"
      refine ⟨by show (0 : Int) < 4294967279; decide, ?_⟩
      generalize (st + 2654435761 * (c + 1)) % 4294967291 = x1 at g1
      have g2 := gt (x1 * x1 + 40503 * (c + 1) + 7)
      generalize (x1 * x1 + 40503 * (c + 1) + 7) % 4294967279 = x2 at g2
      walk_at "rd"
      refine ⟨.inl ⟨by omega, by omega⟩, ?_⟩
      refine ⟨_, rfl, b, _, rfl, get_stirred hb2, ?_⟩
      walk_at "rd"
      refine ⟨by show (0 : Int) < 4294967231; decide, ?_⟩
      walk_at "rd"
      refine ⟨⟨by decide, by decide⟩, ?_⟩
      walk_at "rd"
      refine ⟨hm0, ?_⟩
      refine k _ _ (Int.emod_nonneg _ (by omega)) (Int.emod_lt_of_pos _ hm0) (Kp.trans kk Kp.setb) ⟨⟨st, c + 1, hb2⟩, [], ?_, by decide⟩
      rw [upd_ne hbg.symm]
      exact hg1
    | cons z rest =>
      refine ite2 (fun _ => ?_) (fun q => absurd (by rfl) q)
      refine ⟨_, rfl, g, _, 0, _, rfl, rfl, SqL.of hg1, atI_nat (j := 0) rfl, ?_⟩
      walk_at "rd"
      refine ⟨⟨hm0, ?_⟩, ?_⟩
      · have h30 : m.natAbs < 2 ^ 30 := by omega
        exact Nat.lt_of_lt_of_le (PySem.Flt.log2_lt_of (by decide) h30) (by decide)
      refine ⟨_, rfl, g, _, 0, 0, rfl, rfl, hg1, ix_nat (j := 0) (Nat.zero_lt_succ _), ?_⟩
      have hg2 : upd (upd H p (.lst [])) g (.lst (((z :: rest).map V.int).set 0 (.int (z / m)))) g = some (.lst (((z / m) :: rest).map V.int)) := upd_same
      have hb2 : upd (upd H p (.lst [])) g (.lst (((z :: rest).map V.int).set 0 (.int (z / m)))) b = some (.dK (boxD g st c)) := by
        rw [upd_ne hbg]
        exact hb1
      have k2 : Kp b g H (upd (upd H p (.lst [])) g (.lst (((z :: rest).map V.int).set 0 (.int (z / m))))) := Kp.trans kk Kp.setg
      walk_at "rd"
      refine ite2 (fun _ => ?_) (fun _ => ?_)
      · refine ⟨_, rfl, .inl ⟨rfl, _, SqL.of hg2⟩, ?_⟩
        refine ⟨g, _, 0, 0, _, rfl, rfl, hg2, by decide, by decide, seq_nat (j := 0) (Nat.zero_lt_succ _), rfl, ?_⟩
        walk_at "rd"
        refine ⟨hm0, ?_⟩
        refine k _ _ (Int.emod_nonneg _ (by omega)) (Int.emod_lt_of_pos _ hm0) (Kp.trans k2 Kp.setg) ⟨⟨st, c, ?_⟩, rest, ?_, ?_⟩
        · rw [upd_ne hbg]
          exact hb2
        · exact upd_same
        · exact Nat.le_of_succ_le hns
      · walk_at "rd"
        refine ⟨hm0, ?_⟩
        exact k _ _ (Int.emod_nonneg _ (by omega)) (Int.emod_lt_of_pos _ hm0) k2 ⟨⟨st, c, hb2⟩, _, hg2, hns⟩
theorem ok_drawW {f : Addr} {fd : FuncData} (D : Df K mg "_law_draw" sDraw ["_law_box_here", "_law_many"] f fd) (T : Bl mg) :
    FnOk P w K mg base CX0 1 f fd ["_law_box_here", "_law_many"] spDrawW := by
  refine D.fn.ok scDraw (fun vs H Q E h => ?_) (fun cdv A outer s H vs Q E hr h => ?_)
  · obtain ⟨b, g, m, rfl, _⟩ := h
    rfl
  · obtain ⟨b, g, m, rfl, hm0, hm1, hB, k⟩ := h
    have hu := hu_of hr
    have nd := scDraw.nd
    have hbg := hB.ne
    obtain ⟨⟨st, c, hb⟩, ns, hg, hns⟩ := hB
    refine ⟨_, (pss_cons (ps_set (i := 2) nd rfl (by first | exact Or.inl rfl | exact Or.inr rfl) (pe_dget hu (pv 0) pe_str (fun _ _ => rfl)))
      (pss_cons (ps_if (pt_cmpR (op_neD hr.units) (pv 2) (pe_lst pa_nil) (nomark _)) (pss_cons (ps_set (i := 5) nd rfl (by first | exact Or.inl rfl | exact Or.inr rfl) (pe_ix ix_list (pv 2) pe_int (fun _ _ => rfl)))
      (pss_cons (ps_asg (pe_op op_fdivW (pv 5) (pv 1)) (pg_sub (pv 2) pe_int set_list))
      (pss_cons (ps_if (pt_cmpR op_lt (pv 5) (pv 1) (nomark _)) (pss_one (ps_expr (pe_bm PySem.F.plainAttrs_list PySem.F.slot_list_pop PySem.F.type_list_pop mt_popAt (pv 2) (pa_cons pe_int pa_nil)))) pss_nil)
      (pss_one (ps_ret (pe_op op_mod (pe_callTy call_int1 (by rfl) T.int (by decide +kernel) (pa_cons (pv 5) pa_nil)) (pv 1))))))) pss_nil)
      (pss_cons (ps_set (i := 3) nd rfl (by first | exact Or.inl rfl | exact Or.inr rfl) (pe_op op_add (pe_dget hu (pv 0) pe_str (fun _ _ => rfl)) pe_int))
      (pss_cons (ps_dput hu (pv 0) pe_str (pv 3) rfl)
      (pss_cons (ps_set (i := 4) nd rfl (by first | exact Or.inl rfl | exact Or.inr rfl) (pe_op op_mod (pe_callTy call_int1 (by rfl) T.int (by decide +kernel) (pa_cons (pe_op op_add (pe_dget hu (pv 0) pe_str (fun _ _ => rfl)) (pe_op op_mul pe_int (pv 3))) pa_nil)) pe_int))
      (pss_cons (ps_set (i := 4) nd rfl (by first | exact Or.inl rfl | exact Or.inr rfl) (pe_op op_mod (pe_callTy call_int1 (by rfl) T.int (by decide +kernel) (pa_cons (pe_op op_add (pe_op op_add (pe_op op_mul (pv 4) (pv 4)) (pe_op op_mul pe_int (pv 3))) pe_int) pa_nil)) pe_int))
      (pss_cons (ps_set (i := 4) nd rfl (by first | exact Or.inl rfl | exact Or.inr rfl) (pe_op op_mod (pe_callTy call_int1 (by rfl) T.int (by decide +kernel) (pa_cons (pe_op op_add (pe_op op_mul (pv 4) (pv 4)) (pe_dget hu (pv 0) pe_str (fun _ _ => rfl))) pa_nil)) pe_int))
      (pss_one (ps_ret (pe_op op_mod (pe_callTy call_int1 (by rfl) T.int (by decide +kernel) (pa_cons (pe_op op_fdivW (pv 4) pe_int) pa_nil)) (pv 1))))))))))), ?_⟩
    refine ⟨_, rfl, b, _, rfl, get_great hb, ?_⟩
    refine ⟨_, rfl, Nat.zero_le _, fun p hp => ?_⟩
    have s1 : Same H (upd H p (.lst [])) := same_new hp
    have hb1 := s1 _ _ hb
    have hg1 := s1 _ _ hg
    have nbp : b ≠ p := ne_of_none hb hp
    have ngp : g ≠ p := ne_of_none hg hp
    refine ⟨.list (ns.map .int), .list [], .lst (SqL.of hg1) (dpAll_ints ns), .lst (SqL.of upd_same) .nil, shaped_intsL ns, shaped_intsL [], _, rfl, ?_⟩
    have kk : Kp b g H (upd H p (.lst [])) := Kp.same s1
    cases ns with
    | nil =>
      refine ite2 (fun z => absurd z (by decide)) (fun _ => ?_)
      refine ⟨_, rfl, b, _, rfl, get_count hb1, ?_⟩
      walk_at "rd"
      refine ⟨b, _, rfl, put_count hb1, ?_⟩
      have hb2 : upd (upd H p (.lst [])) b (.dK (boxD g st (c + 1))) b = some (.dK (boxD g st (c + 1))) := upd_same
      have gs : ∀ x : Int, 0 ≤ x % 4294967291 ∧ x % 4294967291 < 4294967291 := fun x => ⟨Int.emod_nonneg _ (by decide), Int.emod_lt_of_pos _ (by decide)⟩
      have gt : ∀ x : Int, 0 ≤ x % 4294967279 ∧ x % 4294967279 < 4294967279 := fun x => ⟨Int.emod_nonneg _ (by decide), Int.emod_lt_of_pos _ (by decide)⟩
      refine ⟨_, rfl, b, _, rfl, get_stirred hb2, ?_⟩
      walk_at "rd"
      refine ⟨.inl ⟨by decide, by decide⟩, ?_⟩
      walk_at "rd"
      refine ⟨by show (0 : Int) < 4294967291; decide, ?_⟩
      have g1 := gs (st + 2654435761 * (c + 1))
      walk_at "rd"
      refine ⟨.inl ⟨by omega, by omega⟩, ?_⟩
      walk_at "rd"
      refine ⟨.inl ⟨by decide, by decide⟩, ?_⟩
      walk_at "rd"
      refine ⟨by show (0 : Int) < 4294967279; decide, ?_⟩
      generalize (st + 2654435761 * (c + 1)) % 4294967291 = x1 at g1
      have g2 := gt (x1 * x1 + 40503 * (c + 1) + 7)
      generalize (x1 * x1 + 40503 * (c + 1) + 7) % 4294967279 = x2 at g2
      walk_at "rd"
      refine ⟨.inl ⟨by omega, by omega⟩, ?_⟩
      refine ⟨_, rfl, b, _, rfl, get_stirred hb2, ?_⟩
      walk_at "rd"
      refine ⟨by show (0 : Int) < 4294967231; decide, ?_⟩
      walk_at "rd"
      refine ⟨⟨by decide, by decide⟩, ?_⟩
      walk_at "rd"
      refine ⟨hm0, ?_⟩
      refine k _ _ (Int.emod_nonneg _ (by omega)) (Int.emod_lt_of_pos _ hm0) (Kp.trans kk Kp.setb) ⟨⟨st, c + 1, hb2⟩, [], ?_, by decide⟩
      rw [upd_ne hbg.symm]
      exact hg1
    | cons z rest =>
      refine ite2 (fun _ => ?_) (fun q => absurd (by rfl) q)
      refine ⟨_, rfl, g, _, 0, _, rfl, rfl, SqL.of hg1, atI_nat (j := 0) rfl, ?_⟩
      walk_at "rd"
      refine ⟨⟨hm0, ?_⟩, ?_⟩
      · have h30 : m.natAbs < 2 ^ 110 := by omega
        exact Nat.lt_of_lt_of_le (PySem.Flt.log2_lt_of (by decide) h30) (by decide)
      refine ⟨_, rfl, g, _, 0, 0, rfl, rfl, hg1, ix_nat (j := 0) (Nat.zero_lt_succ _), ?_⟩
      have hg2 : upd (upd H p (.lst [])) g (.lst (((z :: rest).map V.int).set 0 (.int (z / m)))) g = some (.lst (((z / m) :: rest).map V.int)) := upd_same
      have hb2 : upd (upd H p (.lst [])) g (.lst (((z :: rest).map V.int).set 0 (.int (z / m)))) b = some (.dK (boxD g st c)) := by
        rw [upd_ne hbg]
        exact hb1
      have k2 : Kp b g H (upd (upd H p (.lst [])) g (.lst (((z :: rest).map V.int).set 0 (.int (z / m))))) := Kp.trans kk Kp.setg
      walk_at "rd"
      refine ite2 (fun _ => ?_) (fun _ => ?_)
      · refine ⟨_, rfl, .inl ⟨rfl, _, SqL.of hg2⟩, ?_⟩
        refine ⟨g, _, 0, 0, _, rfl, rfl, hg2, by decide, by decide, seq_nat (j := 0) (Nat.zero_lt_succ _), rfl, ?_⟩
        walk_at "rd"
        refine ⟨hm0, ?_⟩
        refine k _ _ (Int.emod_nonneg _ (by omega)) (Int.emod_lt_of_pos _ hm0) (Kp.trans k2 Kp.setg) ⟨⟨st, c, ?_⟩, rest, ?_, ?_⟩
        · rw [upd_ne hbg]
          exact hb2
        · exact upd_same
        · exact Nat.le_of_succ_le hns
      · walk_at "rd"
        refine ⟨hm0, ?_⟩
        exact k _ _ (Int.emod_nonneg _ (by omega)) (Int.emod_lt_of_pos _ hm0) k2 ⟨⟨st, c, hb2⟩, _, hg2, hns⟩
end
end BV

namespace BV
open PySem L2
local macro_rules | `(tactic| walk_at "rd") => `(tactic| (repeat (first | refine ⟨_, rfl, ?_⟩ | refine ⟨_, _, rfl, rfl, ?_⟩ | refine Or.inl ⟨_, rfl, ?_⟩ | refine Or.inr ⟨_, rfl, ?_⟩ | refine ⟨_, _, rfl, ?_⟩)))
abbrev sPick : Stmt := top 23
abbrev nPick : List Str := ["_law_box_here", "_law_items"]
theorem scPick : FnScope nPick nPick (defScope sPick) := ⟨rfl, rfl, rfl, by decide +kernel, rfl, by decide +kernel, by decide +kernel⟩
section
variable {P : Program} {w : World} {K : PySem.W.Frag} {mg : Str → Option Value} {base : Heap}
theorem ok_pick {f fd1 : Addr} {fd fdd : FuncData} (D : Df K mg "_law_pick" sPick nPick f fd) (T : Bl mg)
    (D_draw : Df K mg "_law_draw" sDraw ["_law_box_here", "_law_many"] fd1 fdd) :
    FnOk P w K mg base CX0 2 f fd nPick (spPick K) := by
  have G_draw : FnOk P w K mg base CX0 1 fd1 fdd ["_law_box_here", "_law_many"] spDraw := ok_draw D_draw T
  refine D.fn.ok scPick (fun vs H Q E h => ?_) (fun cdv A outer s H vs Q E hr h => ?_)
  · obtain ⟨b, g, l, xs, rfl, _⟩ := h
    rfl
  · obtain ⟨b, g, l, xs, rfl, hl, n1, n2, h0, h1, hB, k⟩ := h
    have hr_draw : Room 1 _ := hr
    have nd := scPick.nd
    refine ⟨_, (pss_one (ps_ret (pe_ix ix_list (pv 1) (pe_call G_draw hr_draw (by rfl) D_draw.ad D_draw.fn.kp D_draw.bd .nil pass0 (pa_cons (pv 0) (pa_cons (pe_callB call_len_seq (by rfl) T.len PySem.boot_len (pa_cons (pv 1) pa_nil)) pa_nil))) (fun _ _ => rfl)))), ?_⟩
    walk_at "rd"
    refine ⟨_, _, rfl, .inl hl, ?_⟩
    refine ⟨b, g, (xs.length : Int), rfl, by omega, by omega, hB, fun r H' r0 r1 kp hB' => ?_⟩
    obtain ⟨j, rfl⟩ : ∃ j : Nat, r = (j : Int) := ⟨r.toNat, by omega⟩
    have hj : j < xs.length := by omega
    have hx : xs[j]? = some xs[j] := by simp [hj]
    exact ⟨l, xs, _, _, rfl, rfl, Kp.seq kp n1 n2 hl, atI_nat hx, k j _ H' hx kp hB'⟩
end
end BV

namespace BV
open PySem L2
local macro_rules | `(tactic| walk_at "rd") => `(tactic| (repeat (first | refine ⟨_, rfl, ?_⟩ | refine ⟨_, _, rfl, rfl, ?_⟩ | refine Or.inl ⟨_, rfl, ?_⟩ | refine Or.inr ⟨_, rfl, ?_⟩ | refine ⟨_, _, rfl, ?_⟩)))
abbrev sWeb : Stmt := top 24
abbrev nWeb : List Str := ["_law_box_here", "_law_most", "_law_more", "_law_many", "_law_ties", "_law_found", "_law_place", "_law_turn", "_law_one", "_law_other"]
abbrev pWeb : List Str := ["_law_box_here", "_law_most", "_law_more"]
theorem scWeb : FnScope nWeb pWeb (defScope sWeb) := ⟨rfl, rfl, rfl, by decide +kernel, rfl, by decide +kernel, by decide +kernel⟩
section
variable {P : Program} {w : World} {K : PySem.W.Frag} {mg : Str → Option Value} {base : Heap}
theorem ok_web {f f1 f2 : Addr} {fd fd1 fd2 : FuncData} (D : Df K mg "_law_web" sWeb pWeb f fd) (T : Bl mg)
    (D_draw : Df K mg "_law_draw" sDraw ["_law_box_here", "_law_many"] f1 fd1)
    (D_pick : Df K mg "_law_pick" sPick nPick f2 fd2) :
    FnOk P w K mg base CX0 3 f fd pWeb (spWeb K) := by
  have G_draw : FnOk P w K mg base CX0 1 f1 fd1 ["_law_box_here", "_law_many"] spDraw := ok_draw D_draw T
  have G_pick : FnOk P w K mg base CX0 2 f2 fd2 nPick (spPick K) := ok_pick D_pick T D_draw
  refine D.fn.ok scWeb (fun vs H Q E h => ?_) (fun cdv A outer s H vs Q E hr h => ?_)
  · obtain ⟨b, g, most, more, rfl, _⟩ := h
    rfl
  · obtain ⟨b, g, most, more, rfl, m1, m2, m3, hB, k⟩ := h
    have hr_pick : Room 2 _ := hr
    have hr_draw : Room 1 _ := hr.mono (by decide)
    have nd := scWeb.nd
    refine ⟨_, (pss_cons (ps_par3 (i := 3) (j := 4) (l := 5) (by rfl) nd rfl rfl rfl (by decide) (by decide) (by decide) rfl rfl rfl (pa_cons (pe_op op_add pe_int (pe_call G_draw hr_draw (by rfl) D_draw.ad D_draw.fn.kp D_draw.bd .nil pass0 (pa_cons (pv 0) (pa_cons (pv 1) pa_nil)))) (pa_cons (pe_lst pa_nil) (pa_cons (pe_lst pa_nil) pa_nil))) (by rfl))
      (pss_cons (ps_for PassesOwn.never rfl (pi_range2 rfl T.range (pa_cons pe_int (pa_cons (pv 3) pa_nil))) (pg_name (i := 6) nd rfl (by first | exact Or.inl rfl | exact Or.inr rfl)) (pss_one (ps_expr (pe_bm PySem.F.plainAttrs_list PySem.F.slot_list_append PySem.F.type_list_append mt_append (pv 4) (pa_cons (pe_tup (pa_cons (pe_call G_draw hr_draw (by rfl) D_draw.ad D_draw.fn.kp D_draw.bd .nil pass0 (pa_cons (pv 0) (pa_cons (pv 6) pa_nil))) (pa_cons (pv 6) pa_nil))) pa_nil)))))
      (pss_cons (ps_for PassesOwn.never rfl (pi_range1 rfl T.range (pa_cons (pe_ifExp (pt_cmpR op_gt (pv 3) pe_int (nomark _)) (pe_call G_draw hr_draw (by rfl) D_draw.ad D_draw.fn.kp D_draw.bd .nil pass0 (pa_cons (pv 0) (pa_cons (pe_op op_add (pv 2) pe_int) pa_nil))) pe_int) pa_nil)) (pg_name (i := 7) nd rfl (by first | exact Or.inl rfl | exact Or.inr rfl)) (pss_cons (ps_par (i := 8) (j := 9) (by rfl) nd rfl rfl (by decide) rfl rfl (pa_cons (pe_call G_draw hr_draw (by rfl) D_draw.ad D_draw.fn.kp D_draw.bd .nil pass0 (pa_cons (pv 0) (pa_cons (pv 3) pa_nil))) (pa_cons (pe_call G_draw hr_draw (by rfl) D_draw.ad D_draw.fn.kp D_draw.bd .nil pass0 (pa_cons (pv 0) (pa_cons (pv 3) pa_nil))) pa_nil)) (by rfl))
      (pss_cons (ps_if (PW.pt (pw_or (pt_cmpR op_eq (pv 8) (pv 9) (nomark _)) (pw_or1 (pt_cmpR op_eq (pe_call G_draw hr_draw (by rfl) D_draw.ad D_draw.fn.kp D_draw.bd .nil pass0 (pa_cons (pv 0) (pa_cons pe_int pa_nil))) pe_int (nomark _))))) (pss_one (ps_asg (pe_call G_pick hr_pick (by rfl) D_pick.ad D_pick.fn.kp D_pick.bd .nil pass0 (pa_cons (pv 0) (pa_cons (pv 4) pa_nil))) (pg_tup rfl (pgs_cons (pg_name (i := 8) nd rfl (by first | exact Or.inl rfl | exact Or.inr rfl)) (pgs_cons (pg_name (i := 9) nd rfl (by first | exact Or.inl rfl | exact Or.inr rfl)) pgs_nil))))) pss_nil)
      (pss_one (ps_expr (pe_bm PySem.F.plainAttrs_list PySem.F.slot_list_append PySem.F.type_list_append mt_append (pv 4) (pa_cons (pe_tup (pa_cons (pe_callB (call_min2 rfl) (by rfl) T.min (by decide +kernel) (pa_cons (pv 8) (pa_cons (pv 9) pa_nil))) (pa_cons (pe_callB (call_max2 rfl) (by rfl) T.max (by decide +kernel) (pa_cons (pv 8) (pa_cons (pv 9) pa_nil))) pa_nil))) pa_nil)))))))
      (pss_cons (ps_for PassesOwn.never rfl (pi_range1 rfl T.range (pa_cons (pe_callB call_len_seq (by rfl) T.len PySem.boot_len (pa_cons (pv 4) pa_nil)) pa_nil)) (pg_name (i := 7) nd rfl (by first | exact Or.inl rfl | exact Or.inr rfl)) (pss_one (ps_expr (pe_bm PySem.F.plainAttrs_list PySem.F.slot_list_append PySem.F.type_list_append mt_append (pv 5) (pa_cons (pe_bm PySem.F.plainAttrs_list PySem.F.slot_list_pop PySem.F.type_list_pop mt_popAt (pv 4) (pa_cons (pe_call G_draw hr_draw (by rfl) D_draw.ad D_draw.fn.kp D_draw.bd .nil pass0 (pa_cons (pv 0) (pa_cons (pe_callB call_len_seq (by rfl) T.len PySem.boot_len (pa_cons (pv 4) pa_nil)) pa_nil))) pa_nil)) pa_nil)))))
      (pss_one (ps_ret (pe_tup (pa_cons (pv 3) (pa_cons (pe_callTy call_tuple_of (by rfl) T.tuple (by decide +kernel) (pa_cons (pv 5) pa_nil)) pa_nil))))))))), ?_⟩
    -- _law_many, _law_ties, _law_found
    walk_at "rd"
    refine ⟨b, g, (most : Int), rfl, by omega, by omega, hB, fun r H1 r0 r1 kp1 hB1 => ?_⟩
    obtain ⟨n0, rfl⟩ : ∃ j : Nat, r = (j : Int) := ⟨r.toNat, by omega⟩
    walk_at "rd"
    refine ⟨Nat.zero_le _, fun l hl => ⟨Nat.zero_le _, fun l2 hl2 => ⟨_, _, _, rfl, ?_⟩⟩⟩
    have hll : upd H1 l (.lst []) l = some (.lst []) := upd_same
    have nll : l ≠ l2 := ne_of_none hll hl2
    have s1 : Same H1 (upd H1 l (.lst [])) := same_new hl
    have s2 : Same (upd H1 l (.lst [])) (upd (upd H1 l (.lst [])) l2 (.lst [])) := same_new hl2
    have hB2 := (hB1.same s1).same s2
    have lkeep : ∀ {a : Addr}, H1 a = none → a ≠ b → a ≠ g → H a = none := fun {a} h n1 n2 => by
      cases e : H a with
      | none => rfl
      | some o =>
        rw [kp1 _ _ e n1 n2] at h
        cases h
    have hBx := hB1
    obtain ⟨⟨bst, bc, hb1⟩, bns, hg1, _⟩ := hBx
    have lb : l ≠ b := (ne_of_none hb1 hl).symm
    have lg : l ≠ g := (ne_of_none hg1 hl).symm
    have l2b : l2 ≠ b := (ne_of_none (s1 _ _ hb1) hl2).symm
    have l2g : l2 ≠ g := (ne_of_none (s1 _ _ hg1) hl2).symm
    have W0 : WI b g l l2 H (upd (upd H1 l (.lst [])) l2 (.lst [])) [] [] :=
      ⟨kp1.trans ((Kp.same s1).trans (Kp.same s2)), hB2, lkeep hl lb lg, lkeep (Same.free s1 hl2) l2b l2g, lb, lg, l2b, l2g, nll,
        ⟨[], by rw [upd_ne nll]; exact upd_same, .nil⟩, ⟨[], upd_same, .nil⟩⟩
    generalize upd (upd H1 l (.lst [])) l2 (.lst []) = H2 at W0
    clear s1 s2 hB2 hl hl2 hll hb1 hg1 hB1 kp1
    -- each place behind an earlier one
    walk_at "rd"
    refine ⟨by omega, ?_⟩
    refine for_range (lo := 1) (n := (1 + (n0 : Int) - 1).toNat) (fun i σ Hc => ∃ (ts : List Tie) (v6 : Option V),
      σ = [some (.ref b), some (.int most), some (.int more), some (.int (1 + (n0 : Int))), some (.ref l), some (.ref l2), v6, none, none, none] ∧
      WI b g l l2 H Hc ts [] ∧ ts.length = i ∧ (∀ t ∈ ts, t.1 < t.2 ∧ t.2 ≤ i) ∧ ∀ p, 1 ≤ p → p ≤ i → ∃ q, q < p ∧ (q, p) ∈ ts) ?_ ?_ ?_
    · exact ⟨[], none, rfl, W0, rfl, by simp, fun p h1 h2 => by omega⟩
    · rintro i σ Hc hi ⟨ts, v6, rfl, W, e1, e2, e3⟩
      have hi2 : i < n0 := by omega
      obtain ⟨xs, hx, hxs⟩ := W.tl
      refine ⟨_, rfl, .inl ⟨rfl, _, SqL.of hx⟩, ?_⟩
      walk_at "rd"
      refine ⟨b, g, 1 + (i : Int), rfl, by omega, by omega, W.bx, fun r H3 r0 r1 kp3 hB3 => ?_⟩
      obtain ⟨q, rfl⟩ : ∃ j : Nat, r = (j : Int) := ⟨r.toNat, by omega⟩
      have W3 := W.draw kp3 hB3
      walk_at "rd"
      refine ⟨by show 2 ≤ sizeLine; decide, fun p hp => ?_⟩
      have W4 := W3.same (same_new (o := .tup [.int (q : Int), .int (1 + (i : Int))]) hp)
      obtain ⟨ys, hy, hys⟩ := W4.tl
      have hyl : ys.length = ts.length := hys.length
      refine ⟨l, ys, _, rfl, rfl, hy, Nat.lt_of_le_of_lt (show ys.length ≤ 1000 by omega) (by decide), ?_⟩
      have hv : TieAt (upd H3 p (.tup [.int (q : Int), .int (1 + (i : Int))])) (.ref p) (q, 1 + i) :=
        ⟨p, rfl, by rw [upd_same]; show some (HO.tup [V.int (q : Int), V.int (1 + (i : Int))]) = some (HO.tup [V.int (q : Int), V.int (((1 + i : Nat)) : Int)]); rw [Int.natCast_add]; rfl⟩
      refine ⟨ts ++ [(q, 1 + i)], _, rfl, W4.app hy hv, by rw [List.length_append, e1]; rfl, fun t ht => ?_, fun p' h1 h2 => ?_⟩
      · rcases List.mem_append.mp ht with ht | ht
        · have := e2 t ht
          omega
        · obtain rfl := List.mem_singleton.mp ht
          show q < 1 + i ∧ 1 + i ≤ i + 1
          omega
      · by_cases hp' : p' ≤ i
        · obtain ⟨q', a1, a2⟩ := e3 p' h1 hp'
          exact ⟨q', a1, List.mem_append_left _ a2⟩
        · obtain rfl : p' = 1 + i := by omega
          exact ⟨q, by omega, List.mem_append_right _ (List.mem_singleton.mpr rfl)⟩
    · rintro σ Hc ⟨ts, v6, rfl, W, e1, e2, e3⟩
      have e1' : ts.length = n0 := by omega
      have e2' : ∀ t ∈ ts, t.1 < t.2 ∧ t.2 < 1 + n0 := fun t ht => by
        have := e2 t ht
        omega
      have e3' : ∀ p, 1 ≤ p → p < 1 + n0 → ∃ q, q < p ∧ (q, p) ∈ ts := fun p h1 h2 => e3 p h1 (by omega)
      clear e1 e2 e3
      -- more ties
      dsimp only
      refine tSeq_go ?_
      refine for_rng1_by (fun v H' => ∃ m : Nat, v = .int (m : Int) ∧ m ≤ more ∧ (n0 = 0 → m = 0) ∧ WI b g l l2 H H' ts []) ?_ (fun cont => ?_)
      · rintro v H' ⟨m, rfl, hm, hz, W'⟩
        refine ⟨_, rfl, by omega, by omega, ?_⟩
        refine for_range (lo := 0) (n := (m : Int).toNat) (fun i σ Hc => ∃ (ts : List Tie) (v7 v8 v9 : Option V),
          σ = [some (.ref b), some (.int most), some (.int more), some (.int (1 + (n0 : Int))), some (.ref l), some (.ref l2), v6, v7, v8, v9] ∧
          WI b g l l2 H Hc ts [] ∧ ts.length = n0 + i ∧ (∀ t ∈ ts, t.1 < t.2 ∧ t.2 < 1 + n0) ∧ ∀ p, 1 ≤ p → p < 1 + n0 → ∃ q, q < p ∧ (q, p) ∈ ts) ?_ ?_ ?_
        · exact ⟨ts, none, none, none, rfl, W', e1', e2', e3'⟩
        · clear W W' e1' e2' e3'
          rintro i σ Hc hi ⟨ts, v7, v8, v9, rfl, W, e1, e2, e3⟩
          have hn0 : 0 < n0 := by
            rcases Nat.eq_zero_or_pos n0 with z | z
            · have := hz z
              omega
            · exact z
          walk_at "rd"
          refine ⟨b, g, 1 + (n0 : Int), rfl, by omega, by omega, W.bx, fun r H3 r0 r1 kp3 hB3 => ?_⟩
          obtain ⟨one, rfl⟩ : ∃ j : Nat, r = (j : Int) := ⟨r.toNat, by omega⟩
          have W3 := W.draw kp3 hB3
          walk_at "rd"
          refine ⟨b, g, 1 + (n0 : Int), rfl, by omega, by omega, W3.bx, fun r' H4 r0' r1' kp4 hB4 => ?_⟩
          obtain ⟨oth, rfl⟩ : ∃ j : Nat, r' = (j : Int) := ⟨r'.toNat, by omega⟩
          have W4 := W3.draw kp4 hB4
          refine ⟨_, _, rfl, ?_⟩
          dsimp only
          refine tSeq_go ?_
          refine tIfS_by (fun σ' H' => ∃ x y : Nat, x ≠ y ∧ x < 1 + n0 ∧ y < 1 + n0 ∧
            σ' = [some (.ref b), some (.int most), some (.int more), some (.int (1 + (n0 : Int))), some (.ref l), some (.ref l2), v6, some (.int (0 + (i : Int))), some (.int (x : Int)), some (.int (y : Int))] ∧
            WI b g l l2 H H' ts []) ?_ (fun cont => ?_)
          · rintro σ' H' ⟨x, y, nxy, hx, hy, rfl, W5⟩
            obtain ⟨xs, hl1, hl2⟩ := W5.tl
            refine ⟨_, rfl, .inl ⟨rfl, _, SqL.of hl1⟩, ?_⟩
            walk_at "rd"
            refine ⟨by show 2 ≤ sizeLine; decide, fun p hp => ?_⟩
            obtain ⟨lo, hi', e4, e5, hlt, hhi⟩ : ∃ lo hi' : Nat, (if (y : Int) < (x : Int) then (y : Int) else (x : Int)) = (lo : Int) ∧
                (if (y : Int) > (x : Int) then (y : Int) else (x : Int)) = (hi' : Int) ∧ lo < hi' ∧ hi' < 1 + n0 := by
              rcases Nat.lt_or_ge y x with z | z
              · exact ⟨y, x, if_pos (by omega), if_neg (by omega), z, hx⟩
              · exact ⟨x, y, if_neg (by omega), if_pos (by omega), by omega, hy⟩
            rw [e4, e5] at *
            have W6 := W5.same (same_new (o := .tup [.int (lo : Int), .int (hi' : Int)]) hp)
            obtain ⟨ys, hy1, hys⟩ := W6.tl
            have hyl : ys.length = ts.length := hys.length
            refine ⟨l, ys, _, rfl, rfl, hy1, Nat.lt_of_le_of_lt (show ys.length ≤ 3000 by omega) (by decide), ?_⟩
            refine ⟨ts ++ [(lo, hi')], _, _, _, rfl, W6.app hy1 ⟨p, rfl, upd_same⟩, by rw [List.length_append, e1]; rfl, fun t ht => ?_, fun p' h1 h2 => ?_⟩
            · rcases List.mem_append.mp ht with ht | ht
              · exact e2 t ht
              · obtain rfl := List.mem_singleton.mp ht
                exact ⟨hlt, hhi⟩
            · obtain ⟨q', a1, a2⟩ := e3 p' h1 h2
              exact ⟨q', a1, List.mem_append_left _ a2⟩
          · refine tIfS_t (fun c Hx => WI b g l l2 H Hx ts [] ∧ (c = false → one ≠ oth)) ?_ ?_ (fun both => ?_)
            · rintro Hx ⟨Wx, _⟩
              obtain ⟨xs, hl1, hl2⟩ := Wx.tl
              have hxl : xs.length = ts.length := hl2.length
              walk_at "rd"
              refine ⟨b, g, l, xs, rfl, SqL.of hl1, Wx.d1, Wx.d2, by omega, by omega, Wx.bx, fun j v Hy hj kpy hBy => ?_⟩
              have Wy := Wx.draw kpy hBy
              obtain ⟨t, ht, hv⟩ := hl2.at hj
              obtain ⟨p, rfl, hp⟩ := hv.kt (KT.of_kp kpy Wx.bx)
              refine ⟨p, _, rfl, SqT.of hp, rfl, _, _, rfl, _, _, rfl, rfl, ?_⟩
              have hm := e2 t (List.mem_of_getElem? ht)
              exact cont _ _ ⟨t.1, t.2, by omega, by omega, hm.2, rfl, Wy⟩
            · rintro Hx ⟨Wx, hne⟩
              exact cont _ _ ⟨one, oth, hne rfl, by omega, by omega, rfl, Wx⟩
            · refine ⟨_, rfl, _, rfl, rfl, _, rfl, ?_⟩
              refine ite2 (fun hc => ?_) (fun hc => ?_)
              · exact both _ _ ⟨W4, fun z => by cases z⟩
              · have hne : one ≠ oth := by
                  rintro rfl
                  exact hc (decide_eq_true rfl)
                walk_at "rd"
                refine ⟨b, g, 4, rfl, by decide, by decide, W4.bx, fun r Hx q0 q1 kpx hBx => ?_⟩
                refine ⟨rfl, _, rfl, ?_⟩
                exact both _ _ ⟨W4.draw kpx hBx, fun _ => hne⟩
        · clear W W' e1' e2' e3'
          rintro σ Hc ⟨ts, v7, v8, v9, rfl, W, e1, e2, e3⟩
          have e1 : ts.length = n0 + m := e1
          obtain ⟨xs, hl1, hl2⟩ := W.tl
          have hxl : xs.length = ts.length := hl2.length
          -- in another order
          refine ⟨_, rfl, _, _, rfl, .inl (SqL.of hl1), _, rfl, by omega, by omega, ?_⟩
          refine for_range (lo := 0) (n := (xs.length : Int).toNat) (fun i σ Hc => ∃ (us fs : List Tie) (v7 : Option V),
            σ = [some (.ref b), some (.int most), some (.int more), some (.int (1 + (n0 : Int))), some (.ref l), some (.ref l2), v6, v7, v8, v9] ∧
            WI b g l l2 H Hc us fs ∧ us.length + i = ts.length ∧ (us ++ fs).Perm ts) ?_ ?_ ?_
          · exact ⟨ts, [], v7, rfl, W, rfl, by simp⟩
          · rintro i σ Hd hi ⟨us, fs, v7', rfl, Wd, d1, d2⟩
            obtain ⟨xs', hu1, hu2⟩ := Wd.tl
            obtain ⟨ys', hf1, hf2⟩ := Wd.fl
            have hul : xs'.length = us.length := hu2.length
            have hfl : ys'.length = fs.length := hf2.length
            have hpl : us.length + fs.length = ts.length := by
              rw [← List.length_append]
              exact d2.length_eq
            have hi2 : i < xs.length := by omega
            refine ⟨_, rfl, .inl ⟨rfl, _, SqL.of hf1⟩, ?_⟩
            refine ⟨_, rfl, .inl ⟨rfl, _, SqL.of hu1⟩, ?_⟩
            walk_at "rd"
            refine ⟨_, _, rfl, .inl (SqL.of hu1), ?_⟩
            refine ⟨b, g, (xs'.length : Int), rfl, by omega, by omega, Wd.bx, fun r He r0 r1 kpe hBe => ?_⟩
            obtain ⟨j, rfl⟩ : ∃ j : Nat, r = (j : Int) := ⟨r.toNat, by omega⟩
            have hj : j < xs'.length := by omega
            have We := Wd.draw kpe hBe
            have hu1e := kpe _ _ hu1 Wd.d1 Wd.d2
            have hjx : xs'[j]? = some xs'[j] := by simp [hj]
            obtain ⟨t, ht, hv⟩ := hu2.at hjx
            have hve := hv.kt (KT.of_kp kpe Wd.bx)
            refine ⟨l, xs', _, j, _, rfl, rfl, hu1e, by omega, by omega, seq_nat hj, hjx, ?_⟩
            have Wf := We.pop hu1e j
            have hvf := hve.kt (KT.of_upd (ys := xs'.eraseIdx j) hu1e)
            have hf1f : upd He l (.lst (xs'.eraseIdx j)) l2 = some (.lst ys') := by
              rw [upd_ne Wd.d5.symm]
              exact kpe _ _ hf1 Wd.d3 Wd.d4
            refine ⟨l2, ys', _, rfl, rfl, hf1f, Nat.lt_of_le_of_lt (show ys'.length ≤ 3000 by omega) (by decide), ?_⟩
            have hjt : j < us.length := by omega
            refine ⟨us.eraseIdx j, fs ++ [t], _, rfl, (Wf.swap.app hf1f hvf).swap, ?_, (perm_move us fs j t ht).trans d2⟩
            rw [List.length_eraseIdx_of_lt hjt]
            omega
          · rintro σ Hd ⟨us, fs, v7', rfl, Wd, d1, d2⟩
            have hus : us = [] := List.eq_nil_of_length_eq_zero (by omega)
            subst hus
            have hp : fs.Perm ts := d2
            obtain ⟨ys', hf1, hf2⟩ := Wd.fl
            have hfl : ys'.length = fs.length := hf2.length
            have hpl : fs.length = ts.length := hp.length_eq
            refine ⟨_, rfl, _, rfl, l2, _, rfl, .inl ⟨SqL.of hf1, fun q hq => ?_⟩⟩
            refine ⟨by show 2 ≤ sizeLine; decide, fun p hp2 => ?_⟩
            have sq : Same Hd (upd Hd q (.tup ys')) := same_new hq
            have sp : Same (upd Hd q (.tup ys')) (upd (upd Hd q (.tup ys')) p (.tup [.int (1 + (n0 : Int)), .ref q])) := same_new hp2
            have Wz := (Wd.same sq).same sp
            refine k p (1 + n0) fs _ Wz.kp Wz.bx ?_ ⟨by omega, fun t ht => e2 t (hp.mem_iff.mp ht), fun p' h1 h2 => ?_⟩ (by omega) (by omega) fun z => ?_
            · have e : V.int (1 + (n0 : Int)) = V.int ((1 + n0 : Nat) : Int) := by rw [Int.natCast_add]; rfl
              refine .tup (SqT.of upd_same) (.cons ?_ (.cons (.tup (SqT.of (sp _ _ upd_same)) ((hf2.kt ((KT.of_same sq))).kt (KT.of_same sp)).dp) .nil))
              rw [e]
              exact .int _
            · obtain ⟨q', a1, a2⟩ := e3 p' h1 h2
              exact ⟨q', a1, hp.mem_iff.mpr a2⟩
            · have hm0 : m = 0 := hz (by omega)
              exact List.eq_nil_of_length_eq_zero (by omega)
      · walk_at "rd"
        refine ite2 (fun hc => ?_) (fun hc => ?_)
        · have hc' := of_decide_eq_true hc
          walk_at "rd"
          refine ⟨b, g, (more : Int) + 1, rfl, by omega, by omega, W.bx, fun r H3 r0 r1 kp3 hB3 => ?_⟩
          obtain ⟨m, rfl⟩ : ∃ j : Nat, r = (j : Int) := ⟨r.toNat, by omega⟩
          exact cont _ _ ⟨m, rfl, by omega, by omega, W.draw kp3 hB3⟩
        · have hc' : ¬ (1 : Int) < 1 + (n0 : Int) := fun z => hc (decide_eq_true z)
          exact cont _ _ ⟨0, rfl, Nat.zero_le _, fun _ => rfl, W⟩
end
end BV

namespace BV
open PySem L2
local macro_rules | `(tactic| walk_at "rd") => `(tactic| (repeat (first | refine ⟨_, rfl, ?_⟩ | refine ⟨_, _, rfl, rfl, ?_⟩ | refine Or.inl ⟨_, rfl, ?_⟩ | refine Or.inr ⟨_, rfl, ?_⟩ | refine ⟨_, _, rfl, ?_⟩)))
section
variable {P : Program} {w : World} {K : PySem.W.Frag} {mg : Str → Option Value} {base : Heap}
end
end BV

namespace BV
open PySem L2
theorem same_old {H H' : Hp} {l : Addr} {o : HO} (h : H l = none) (s : Same H H') : Same H (upd H' l o) := fun a x e => by
  rw [upd_ne (ne_of_none e h)]
  exact s _ _ e
theorem box_old {b g l : Addr} {H : Hp} {o : HO} (x : Box H b g) (h1 : l ≠ b) (h2 : l ≠ g) : Box (upd H l o) b g := by
  obtain ⟨⟨st, c, x1⟩, ns, x2, x3⟩ := x
  exact ⟨⟨st, c, by rw [upd_ne h1.symm]; exact x1⟩, ns, by rw [upd_ne h2.symm]; exact x2, x3⟩
theorem box_ne {b g l : Addr} {H : Hp} (x : Box H b g) (h : H l = none) : l ≠ b ∧ l ≠ g := by
  obtain ⟨⟨st, c, x1⟩, ns, x2, x3⟩ := x
  exact ⟨fun e => (by rw [e, x1] at h; cases h), fun e => (by rw [e, x2] at h; cases h)⟩
end BV

namespace BV
open PySem L2

/-! ### the matrix of a web -/
def meets (p : Nat) (t : Tie) : Bool := t.1 == p || t.2 == p
def joins (p q : Nat) (t : Tie) : Bool := (t.1 == p && t.2 == q) || (t.1 == q && t.2 == p)
def entry (ts : List Tie) (p q : Nat) : Int := if p = q then (ts.countP (meets p) : Nat) else -((ts.countP (joins p q) : Nat) : Int)
def rowD (ts : List Tie) (n p : Nat) : PyData := .tuple ((List.range n).map fun q => .int (entry ts p q))
def matD (n : Nat) (ts : List Tie) : PyData := .tuple ((List.range n).map (rowD ts n))
def spMat (K : PySem.W.Frag) : Sp := fun vs H Q _ => ∃ (v : V) (n : Nat) (ts : List Tie), vs = [v] ∧ Dp K H v (webD n ts) ∧ (∀ t ∈ ts, t.1 < t.2 ∧ t.2 < n) ∧
  n ≤ 1000 ∧ ts.length ≤ 3000 ∧ ∀ (u : V) (H' : Hp), Same H H' → Dp K H' u (matD n ts) → Q u H'

/-- n rows of n numbers, lists of their own -/
structure Mat (H : Hp) (r : Addr) (as : List Addr) (n : Nat) (M : Nat → Nat → Int) : Prop where
  rows : H r = some (.lst (as.map V.ref))
  len : as.length = n
  nd : as.Nodup
  row : ∀ p a, as[p]? = some a → H a = some (.lst ((List.range n).map fun q => V.int (M p q)))
def bump (M : Nat → Nat → Int) (p q : Nat) (d : Int) : Nat → Nat → Int := fun i j => if i = p ∧ j = q then M p q + d else M i j
theorem range_set {α : Type} (f : Nat → α) (n q : Nat) (v : α) : ((List.range n).map f).set q v = (List.range n).map fun j => if j = q then v else f j := by
  apply List.ext_getElem?
  intro i
  by_cases hi : i < n
  · rw [List.getElem?_set]
    by_cases e : q = i
    · subst e
      simp [hi]
    · have e' : ¬ i = q := fun z => e z.symm
      simp [hi, e, e']
  · rw [List.getElem?_eq_none (by simp; omega), List.getElem?_eq_none (by simp; omega)]
theorem Mat.set {H : Hp} {r a : Addr} {as : List Addr} {n p q : Nat} {M : Nat → Nat → Int} {d : Int} (m : Mat H r as n M) (ha : as[p]? = some a) (hq : q < n) :
    Mat (upd H a (.lst (((List.range n).map fun q => V.int (M p q)).set q (.int (M p q + d))))) r as n (bump M p q d) := by
  obtain ⟨h1, h2, h3, h4⟩ := m
  have hpa := h4 p a ha
  have hp : p < as.length := (List.getElem?_eq_some_iff.mp ha).1
  have nra : r ≠ a := by
    intro e
    subst e
    rw [h1] at hpa
    have z := Option.some.inj hpa
    injection z with z
    cases as with
    | nil => simp at ha
    | cons x xs =>
      cases n with
      | zero => simp at h2
      | succ n =>
        rw [List.range_succ_eq_map] at z
        cases z
  refine ⟨by rw [upd_ne nra]; exact h1, h2, h3, fun p' a' ha' => ?_⟩
  by_cases e : p' = p
  · subst e
    rw [ha] at ha'
    cases ha'
    rw [upd_same, range_set]
    congr 2
    apply List.map_congr_left
    intro j hj
    unfold bump
    by_cases ej : j = q
    · subst ej
      simp
    · simp [ej]
  · have na : a' ≠ a := by
      rintro rfl
      have hp' : p' < as.length := (List.getElem?_eq_some_iff.mp ha').1
      have e1 : as[p'] = a' := (List.getElem?_eq_some_iff.mp ha').2
      have e2 : as[p] = a' := (List.getElem?_eq_some_iff.mp ha).2
      have pw := List.pairwise_iff_getElem.mp h3
      rcases Nat.lt_or_ge p' p with z | z
      · exact pw p' p hp' hp z (e1.trans e2.symm)
      · exact pw p p' hp hp' (by omega) (e2.trans e1.symm)
    rw [upd_ne na, h4 p' a' ha']
    congr 2
    apply List.map_congr_left
    intro j hj
    unfold bump
    simp [e]
theorem entry_app (ts : List Tie) (a b : Nat) (hab : a < b) (p q : Nat) :
    bump (bump (bump (bump (entry ts) a a 1) b b 1) a b (-1)) b a (-1) p q = entry (ts ++ [(a, b)]) p q := by
  have c1 : ∀ f : Tie → Bool, (ts ++ [(a, b)]).countP f = ts.countP f + (if f (a, b) = true then 1 else 0) := fun f => by
    rw [List.countP_append, List.countP_singleton]
  unfold entry
  rw [c1, c1]
  unfold bump meets joins
  by_cases e : p = q
  · subst e
    by_cases ea : p = a
    · subst ea
      have : ¬ p = b := by omega
      have : ¬ b = p := by omega
      simp_all
    · by_cases eb : p = b
      · subst eb
        have : ¬ a = p := by omega
        simp_all
      · have : ¬ a = p := fun z => ea z.symm
        have : ¬ b = p := fun z => eb z.symm
        simp_all
  · by_cases e1 : p = a ∧ q = b
    · obtain ⟨rfl, rfl⟩ := e1
      have h1 : ¬ q = p := fun z => e z.symm
      simp_all
      omega
    · by_cases e2 : p = b ∧ q = a
      · obtain ⟨rfl, rfl⟩ := e2
        have h1 : ¬ q = p := fun z => e z.symm
        simp_all
        omega
      · have h3 : ¬ (p = a ∧ q = a) := fun z => e (z.1.trans z.2.symm)
        have h4 : ¬ (p = b ∧ q = b) := fun z => e (z.1.trans z.2.symm)
        have h5 : ((a == p && b == q) || (a == q && b == p)) = false := by
          rw [Bool.or_eq_false_iff, Bool.and_eq_false_iff, Bool.and_eq_false_iff]
          simp only [beq_eq_false_iff_ne]
          omega
        simp only [e1, e2, h3, h4, if_false, e, h5, Bool.false_eq_true, Nat.add_zero]
end BV

namespace BV
open PySem L2
theorem Mat.row_get {H : Hp} {r a : Addr} {as : List Addr} {n p q : Nat} {M : Nat → Nat → Int} (m : Mat H r as n M) (ha : as[p]? = some a) (hq : q < n) :
    ((List.range n).map fun q => V.int (M p q))[q]? = some (.int (M p q)) := by
  rw [List.getElem?_map, List.getElem?_range hq]
  rfl
theorem mat_aug {K : PySem.W.Frag} {H : Hp} {r : Addr} {as : List Addr} {n p q ir ip iq : Nat} {M : Nat → Nat → Int} {d : Int} {f : Int → Int → Int} {σ : L2.St} {D : Ends}
    (m : Mat H r as n M) (hp : p < n) (hq : q < n) (h3 : σ[ir]? = some (some (.ref r))) (h4 : σ[ip]? = some (some (.int (p : Int)))) (h5 : σ[iq]? = some (some (.int (q : Int))))
    (hf : f (M p q) 1 = M p q + d)
    (h : ∀ a, as[p]? = some a → ∀ H', (∀ b, b ≠ a → H' b = H b) → Mat H' r as n (bump M p q d) → D.nx σ H') :
    tAugS (tOp (rIxL K) (tVar ir) (tVar ip)) (tVar iq) (tC (.int 1)) (rGetL K) (ipI f) rSetL D σ H := by
  have hpl : p < as.length := by rw [m.len]; exact hp
  have ha : as[p]? = some as[p] := by simp [hpl]
  have hrow := m.row p _ ha
  have hr : (as.map V.ref)[p]? = some (.ref as[p]) := by rw [List.getElem?_map, ha]; rfl
  refine ⟨_, h3, _, h4, r, _, _, _, rfl, rfl, SqL.of m.rows, atI_nat hr, ?_⟩
  refine ⟨_, h5, as[p], _, q, _, rfl, rfl, SqL.of hrow, m.row_get ha hq, ?_⟩
  refine ⟨_, _, rfl, rfl, as[p], _, (q : Int), q, rfl, rfl, hrow, ix_nat (by simpa using hq), ?_⟩
  rw [hf]
  exact h _ ha _ (fun b hb => upd_ne hb) (m.set ha hq)
theorem zeros (n : Nat) : (List.replicate n [V.int 0]).flatten = (List.range n).map fun _ => V.int 0 := by
  induction n with
  | zero => rfl
  | succ n ih =>
    rw [List.replicate_succ', List.flatten_append, ih, List.range_succ, List.map_append]
    rfl
end BV

namespace BV
open PySem L2
mutual
def tiny : PyData → Bool
  | .none | .bool _ => true
  | .int i => decide (i.natAbs.log2 < 300)
  | .str x => decide (x.length ≤ 100) && x.cps.toList.all fun c => decide (c < 16 ^ 8)
  | .list xs | .tuple xs => tinyAll xs
  | .dict _ => false
def tinyAll : List PyData → Bool
  | [] => true
  | x :: xs => tiny x && tinyAll xs
end
mutual
def nodes : PyData → Nat
  | .none | .bool _ | .int _ | .str _ | .dict _ => 1
  | .list xs | .tuple xs => nodesAll xs + 1
def nodesAll : List PyData → Nat
  | [] => 0
  | x :: xs => nodes x + nodesAll xs
end
theorem int_shown {i : Int} (h : i.natAbs.log2 < 300) : (PyData.shown (.int i)).length ≤ 301 := by
  have h1 := int_text_length_le (k := 300) (by decide) h
  have h2 : (PyData.shown (.int i)) = Str.ofString (toString i) := by simp only [PyData.shown]
  rw [h2]
  have h3 : (Str.ofString (toString i)).length = (toString i).length := ofString_length _
  omega
mutual
theorem tiny_facts : ∀ d : PyData, tiny d = true → d.showable = true ∧ d.hasDict = false ∧ d.shown.length + 2 ≤ 1100 * nodes d
  | .none, _ => ⟨by simp [PyData.showable], by simp [PyData.hasDict], by
      have e : (PyData.shown .none).length = 4 := rfl
      simp only [nodes]
      omega⟩
  | .bool b, _ => ⟨by simp [PyData.showable], by simp [PyData.hasDict], by
      have e : (PyData.shown (.bool b)).length ≤ 5 := by cases b <;> decide
      simp only [nodes]
      omega⟩
  | .int i, h => by
    have h' : i.natAbs.log2 < 300 := by simpa [tiny] using h
    refine ⟨?_, by simp [PyData.hasDict], ?_⟩
    · simp only [PyData.showable, decide_eq_true_eq]
      omega
    · have := int_shown h'
      simp only [nodes]
      omega
  | .str x, h => by
    have h' : x.length ≤ 100 ∧ ∀ c ∈ x.cps.toList, c < 16 ^ 8 := by
      simp only [tiny, Bool.and_eq_true, decide_eq_true_eq, List.all_eq_true] at h
      exact h
    refine ⟨by simp [PyData.showable], by simp [PyData.hasDict], ?_⟩
    have e := StrLaws.reprText_len x h'.2
    simp only [PyData.shown, nodes]
    omega
  | .list xs, h => by
    have h1 := tiny_all xs (by simpa [tiny] using h)
    refine ⟨by simpa [PyData.showable] using h1.1, by simpa [PyData.hasDict] using h1.2.1, ?_⟩
    have h2 := listText_len_le (PyData.shownAll xs)
    simp only [PyData.shown, nodes]
    omega
  | .tuple xs, h => by
    have h1 := tiny_all xs (by simpa [tiny] using h)
    refine ⟨by simpa [PyData.showable] using h1.1, by simpa [PyData.hasDict] using h1.2.1, ?_⟩
    have h2 := tupleText_len_le (PyData.shownAll xs)
    simp only [PyData.shown, nodes]
    omega
  | .dict _, h => by simp [tiny] at h
theorem tiny_all : ∀ xs : List PyData, tinyAll xs = true → PyData.showableAll xs = true ∧ PyData.hasDictAll xs = false ∧
    ((PyData.shownAll xs).map (·.length)).sum + 2 * (PyData.shownAll xs).length ≤ 1100 * nodesAll xs
  | [], _ => ⟨by simp [PyData.showableAll], by simp [PyData.hasDictAll], by simp [PyData.shownAll]⟩
  | x :: xs, h => by
    have h' : tiny x = true ∧ tinyAll xs = true := by simpa [tinyAll] using h
    obtain ⟨a1, a2, a3⟩ := tiny_facts x h'.1
    obtain ⟨b1, b2, b3⟩ := tiny_all xs h'.2
    refine ⟨by simp [PyData.showableAll, a1, b1], by simp [PyData.hasDictAll, a2, b2], ?_⟩
    simp only [PyData.shownAll, nodesAll, List.map_cons, List.sum_cons, List.length_cons]
    omega
end
theorem show_of {d : PyData} (h : tiny d = true) (hd : d.depth ≤ 40) (hn : nodes d ≤ 15000) : Show d := by
  obtain ⟨a, b, c⟩ := tiny_facts d h
  refine ⟨a, b, hd, Nat.le_trans (Nat.le_trans (Nat.le_add_right _ 2) c) (Nat.le_trans (Nat.mul_le_mul_left 1100 hn) (by decide))⟩
end BV

namespace BV
open PySem L2
/-! ### sums of a row -/
theorem sum_add (f g : Nat → Int) : ∀ l : List Nat, (l.map fun q => f q + g q).sum = (l.map f).sum + (l.map g).sum
  | [] => rfl
  | a :: l => by
    simp only [List.map_cons, List.sum_cons, sum_add f g l]
    omega
theorem sum_at (n x : Nat) (c : Int) : ((List.range n).map fun q => if q = x then c else (0 : Int)).sum = if x < n then c else 0 := by
  induction n with
  | zero => rfl
  | succ n ih =>
    rw [List.range_succ, List.map_append, List.sum_append, ih]
    simp only [List.map_cons, List.map_nil, List.sum_cons, List.sum_nil]
    by_cases h : n = x
    · subst h
      simp
    · by_cases h2 : x < n
      · have : x < n + 1 := by omega
        simp [h, h2, this]
      · have : ¬ x < n + 1 := by omega
        simp [h, h2, this]
theorem sum_none (n : Nat) : ((List.range n).map fun (_ : Nat) => (0 : Int)).sum = 0 := by
  induction n with
  | zero => rfl
  | succ n ih =>
    rw [List.range_succ, List.map_append, List.sum_append, ih]
    rfl
def delta (t : Tie) (p q : Nat) : Int :=
  (if p = t.1 then ((if q = t.1 then 1 else 0) + (if q = t.2 then -1 else 0)) else 0) + (if p = t.2 then ((if q = t.2 then 1 else 0) + (if q = t.1 then -1 else 0)) else 0)
theorem entry_cons (t : Tie) (ts : List Tie) (h : t.1 < t.2) (p q : Nat) : entry (t :: ts) p q = entry ts p q + delta t p q := by
  obtain ⟨a, b⟩ := t
  have h : a < b := h
  unfold entry delta
  rw [List.countP_cons, List.countP_cons]
  unfold meets joins
  by_cases e : p = q
  · subst e
    by_cases ea : p = a
    · subst ea
      have : ¬ p = b := by omega
      have : ¬ b = p := by omega
      simp_all
    · by_cases eb : p = b
      · subst eb
        have : ¬ a = p := by omega
        simp_all
      · have : ¬ a = p := fun z => ea z.symm
        have : ¬ b = p := fun z => eb z.symm
        simp_all
  · by_cases e1 : p = a ∧ q = b
    · obtain ⟨rfl, rfl⟩ := e1
      have h1 : ¬ q = p := fun z => e z.symm
      simp_all
      omega
    · by_cases e2 : p = b ∧ q = a
      · obtain ⟨rfl, rfl⟩ := e2
        have h1 : ¬ q = p := fun z => e z.symm
        simp_all
        omega
      · have h5 : ((a == p && b == q) || (a == q && b == p)) = false := by
          rw [Bool.or_eq_false_iff, Bool.and_eq_false_iff, Bool.and_eq_false_iff]
          simp only [beq_eq_false_iff_ne]
          omega
        simp only [e, if_false, h5, Bool.false_eq_true, Nat.add_zero]
        by_cases ea : p = a
        · subst ea
          have q1 : ¬ q = p := fun z => e z.symm
          have q2 : ¬ q = b := fun z => e1 ⟨rfl, z⟩
          have q3 : ¬ p = b := by omega
          simp [q1, q2, q3]
        · by_cases eb : p = b
          · subst eb
            have q1 : ¬ q = p := fun z => e z.symm
            have q2 : ¬ q = a := fun z => e2 ⟨rfl, z⟩
            simp [q1, q2, ea]
          · simp [ea, eb]
theorem delta_sum (t : Tie) (n p : Nat) (h : t.1 < t.2) (h2 : t.2 < n) : ((List.range n).map fun q => delta t p q).sum = 0 := by
  unfold delta
  rw [sum_add]
  have h1 : t.1 < n := by omega
  by_cases ea : p = t.1
  · have eb : ¬ p = t.2 := by omega
    simp only [if_pos ea, if_neg eb]
    rw [sum_add, sum_at, sum_at, sum_none, if_pos h1, if_pos h2]
    rfl
  · by_cases eb : p = t.2
    · simp only [if_neg ea, if_pos eb]
      rw [sum_add, sum_at, sum_at, sum_none, if_pos h1, if_pos h2]
      rfl
    · simp only [if_neg ea, if_neg eb]
      rw [sum_none]
      rfl
theorem entry_sum (n p : Nat) : ∀ ts : List Tie, (∀ t ∈ ts, t.1 < t.2 ∧ t.2 < n) → ((List.range n).map fun q => entry ts p q).sum = 0
  | [], _ => by
    have : (fun q => entry [] p q) = fun _ => (0 : Int) := by
      funext q
      unfold entry
      by_cases e : p = q <;> simp [e]
    rw [this]
    exact sum_none n
  | t :: ts, h => by
    have ht := h t (List.mem_cons_self ..)
    have : (fun q => entry (t :: ts) p q) = fun q => entry ts p q + delta t p q := by
      funext q
      exact entry_cons t ts ht.1 p q
    rw [this, sum_add, entry_sum n p ts fun u hu => h u (List.mem_cons_of_mem _ hu), delta_sum t n p ht.1 ht.2]
    rfl
theorem entry_symm (ts : List Tie) (p q : Nat) : entry ts p q = entry ts q p := by
  unfold entry
  by_cases e : p = q
  · subst e
    rfl
  · have e' : ¬ q = p := fun z => e z.symm
    rw [if_neg e, if_neg e']
    congr 2
    have : joins p q = joins q p := by
      funext t
      unfold joins
      rw [Bool.or_comm]
    rw [this]
theorem entry_perm {ts us : List Tie} (h : ts.Perm us) (p q : Nat) : entry ts p q = entry us p q := by
  unfold entry
  rw [h.countP_eq, h.countP_eq]
theorem deg_len : ∀ (ts : List Tie) (p : Nat), (tiesAt ts p).length = ts.countP (meets p) := by
  intro ts p
  have key : ∀ i, i ≤ ts.length → ((List.range i).filter (hit ts p)).length = (ts.take i).countP (meets p) := by
    intro i
    induction i with
    | zero => intro _; rfl
    | succ i ih =>
      intro hi
      have hg : ts[i]? = some ts[i] := by simp [show i < ts.length by omega]
      rw [range_filter_succ, List.length_append, ih (by omega), List.take_add_one, hg, List.countP_append, hit_at hg]
      show _ = _ + List.countP (meets p) [ts[i]]
      rw [List.countP_singleton]
      show _ + (if meets p ts[i] = true then [i] else []).length = _
      by_cases h : meets p ts[i] = true
      · rw [if_pos h, if_pos h]; rfl
      · rw [if_neg h, if_neg h]; rfl
  have := key ts.length (Nat.le_refl _)
  rw [List.take_of_length_le (Nat.le_refl _)] at this
  exact this
theorem joins_pair {p q : Nat} {t : Tie} (h : t.1 < t.2) (e : p ≠ q) : joins p q t = decide (t = (min p q, max p q)) := by
  obtain ⟨a, b⟩ := t
  have h : a < b := h
  unfold joins
  rcases Nat.lt_or_ge p q with z | z
  · have e1 : min p q = p := by omega
    have e2 : max p q = q := by omega
    rw [e1, e2]
    by_cases c : a = p ∧ b = q
    · obtain ⟨rfl, rfl⟩ := c
      simp
    · have c' : ¬ ((a, b) = (p, q)) := fun z => c (Prod.mk.inj z)
      rw [decide_eq_false c', Bool.or_eq_false_iff, Bool.and_eq_false_iff, Bool.and_eq_false_iff]
      simp only [beq_eq_false_iff_ne]
      omega
  · have e1 : min p q = q := by omega
    have e2 : max p q = p := by omega
    rw [e1, e2]
    by_cases c : a = q ∧ b = p
    · obtain ⟨rfl, rfl⟩ := c
      simp
    · have c' : ¬ ((a, b) = (q, p)) := fun z => c (Prod.mk.inj z)
      rw [decide_eq_false c', Bool.or_eq_false_iff, Bool.and_eq_false_iff, Bool.and_eq_false_iff]
      simp only [beq_eq_false_iff_ne]
      omega
/-! ### each tie is at two places -/
def seen (ts : List Tie) (i k : Nat) : Int := match ts[k]? with
  | some t => (if t.1 < i then 1 else 0) + (if t.2 < i then 1 else 0)
  | none => 0
theorem seen_zero (ts : List Tie) (k : Nat) : seen ts 0 k = 0 := by
  unfold seen
  split <;> simp
theorem seen_succ {ts : List Tie} {i k : Nat} (h : ∀ t ∈ ts, t.1 < t.2) : seen ts (i + 1) k = seen ts i k + if hit ts i k = true then 1 else 0 := by
  unfold seen hit
  cases e : ts[k]? with
  | none => simp
  | some t =>
    have ht := h t (List.mem_of_getElem? e)
    obtain ⟨a, b⟩ := t
    have ht : a < b := ht
    simp only [Bool.or_eq_true, beq_iff_eq]
    by_cases h1 : a = i
    · subst h1
      have c1 : ¬ b < a := by omega
      have c2 : ¬ b < a + 1 := by omega
      simp [c1, c2]
    · by_cases h2 : b = i
      · subst h2
        have c1 : a < b := ht
        have c2 : a < b + 1 := by omega
        simp [c1, c2]
      · simp only [h1, h2, or_self, if_false]
        have c1 : (a < i + 1) = (a < i) := by apply propext; omega
        have c2 : (b < i + 1) = (b < i) := by apply propext; omega
        simp only [c1, c2]
        omega
theorem seen_all {ts : List Tie} {n k : Nat} (h : ∀ t ∈ ts, t.1 < t.2 ∧ t.2 < n) (hk : k < ts.length) : seen ts n k = 2 := by
  unfold seen
  have e : ts[k]? = some ts[k] := by simp [hk]
  rw [e]
  have ht := h ts[k] (List.getElem_mem hk)
  have h1 : ts[k].1 < n := by omega
  simp [h1, ht.2]
theorem mem_tiesAt {ts : List Tie} {p k : Nat} : k ∈ tiesAt ts p ↔ k < ts.length ∧ hit ts p k = true := by
  unfold tiesAt
  rw [List.mem_filter, List.mem_range]
theorem tiesAt_nodup (ts : List Tie) (p : Nat) : (tiesAt ts p).Nodup := (List.nodup_range (n := ts.length)).sublist List.filter_sublist
end BV

namespace BV
open PySem L2
theorem tAsg_by {te : TE} {g : TG} {D : Ends} {σ : L2.St} {H : Hp} (P : V → Hp → Prop) (cont : ∀ v H', P v H' → g v σ H' D.nx)
    (h : (∀ v H', P v H' → g v σ H' D.nx) → te σ H (fun x H1 => g x σ H1 D.nx)) : tAsg te g D σ H := h cont
theorem get_map {α β : Type} {f : α → β} {l : List α} {i : Nat} {y : β} (h : (l.map f)[i]? = some y) : ∃ x, l[i]? = some x ∧ y = f x := by
  rw [List.getElem?_map] at h
  cases e : l[i]? with
  | none =>
    rw [e] at h
    cases h
  | some x =>
    rw [e] at h
    exact ⟨x, rfl, (Option.some.inj h).symm⟩
theorem still_ints : ∀ ns : List Int, stillAll (ns.map PyData.int) = true
  | [] => by simp [stillAll]
  | n :: ns => by simp [stillAll, still, still_ints ns]
theorem ints_row (f : Nat → Int) (n : Nat) : ((List.range n).map fun q => PyData.int (f q)) = ((List.range n).map f).map PyData.int := by rw [List.map_map]; rfl
theorem ints_rowV (f : Nat → Int) (n : Nat) : ((List.range n).map fun q => V.int (f q)) = ((List.range n).map f).map V.int := by rw [List.map_map]; rfl
theorem still_row (ts : List Tie) (n p : Nat) : still (rowD ts n p) = true := by
  have h := still_ints ((List.range n).map fun q => entry ts p q)
  rw [← ints_row] at h
  simpa [rowD, still] using h
theorem still_rows (ts : List Tie) (n : Nat) : ∀ l : List Nat, stillAll (l.map (rowD ts n)) = true
  | [] => by simp [stillAll]
  | p :: l => by simp [stillAll, still_row, still_rows ts n l]

/-! ### what may be written as a text -/
theorem tiny_ints : ∀ ns : List Int, (∀ n ∈ ns, n.natAbs < 2 ^ 200) → tinyAll (ns.map PyData.int) = true ∧ nodesAll (ns.map PyData.int) = ns.length ∧ PyData.depthAll (ns.map PyData.int) = 0
  | [], _ => by simp [tinyAll, nodesAll, PyData.depthAll]
  | n :: ns, h => by
    obtain ⟨a, b, c⟩ := tiny_ints ns fun m hm => h m (List.mem_cons_of_mem _ hm)
    have hn := h n (List.mem_cons_self ..)
    have hl : n.natAbs.log2 < 300 := Nat.lt_of_lt_of_le (PySem.Flt.log2_lt_of (by decide) hn) (by decide)
    refine ⟨by simp [tinyAll, tiny, hl, a], ?_, by simp [PyData.depthAll, PyData.depth, c]⟩
    simp only [List.map_cons, nodesAll, nodes, b, List.length_cons]
    omega
theorem tiny_row (f : Nat → Int) (n : Nat) (h : ∀ q, (f q).natAbs < 2 ^ 200) : tiny (.tuple ((List.range n).map fun q => .int (f q))) = true ∧
    nodes (.tuple ((List.range n).map fun q => .int (f q))) = n + 1 ∧ (PyData.tuple ((List.range n).map fun q => .int (f q))).depth = 1 := by
  rw [ints_row]
  obtain ⟨a, b, c⟩ := tiny_ints ((List.range n).map f) fun m hm => by
    obtain ⟨q, _, rfl⟩ := List.mem_map.mp hm
    exact h q
  refine ⟨by simp only [tiny, a], ?_, by simp only [PyData.depth, c]⟩
  simp only [nodes, b, List.length_map, List.length_range]
theorem show_lot (ks : List Nat) (h : ∀ k ∈ ks, k < 100000) (hl : ks.length ≤ 1000) : Show (lotD ks) := by
  have e : lotD ks = .tuple ((ks.map fun (k : Nat) => (k : Int)).map PyData.int) := by unfold lotD; rw [List.map_map]; rfl
  obtain ⟨a, b, c⟩ := tiny_ints (ks.map fun (k : Nat) => (k : Int)) fun m hm => by
    obtain ⟨q, hq, rfl⟩ := List.mem_map.mp hm
    have := h q hq
    have e2 : ((q : Int)).natAbs = q := by omega
    rw [e2]
    exact Nat.lt_of_lt_of_le this (by decide)
  rw [e]
  refine show_of (by simp only [tiny, a]) (by simp only [PyData.depth, c]; decide) ?_
  simp only [nodes, b, List.length_map]
  omega
theorem entry_small (ts : List Tie) (hl : ts.length ≤ 100000) (p q : Nat) : (entry ts p q).natAbs < 2 ^ 200 := by
  have h1 := List.countP_le_length (p := meets p) (l := ts)
  have h2 := List.countP_le_length (p := joins p q) (l := ts)
  have : (entry ts p q).natAbs ≤ 100000 := by
    unfold entry
    split <;> omega
  exact Nat.lt_of_le_of_lt this (by decide)
theorem tiny_rows (ts : List Tie) (n : Nat) (hl : ts.length ≤ 100000) : ∀ l : List Nat, tinyAll (l.map (rowD ts n)) = true ∧ nodesAll (l.map (rowD ts n)) = l.length * (n + 1) ∧ PyData.depthAll (l.map (rowD ts n)) ≤ 1
  | [] => by simp [tinyAll, nodesAll, PyData.depthAll]
  | p :: l => by
    obtain ⟨a, b, c⟩ := tiny_rows ts n hl l
    obtain ⟨a1, b1, c1⟩ := tiny_row (entry ts p) n fun q => entry_small ts hl p q
    refine ⟨?_, ?_, ?_⟩
    · simp only [List.map_cons, tinyAll, a, Bool.and_true]
      exact a1
    · simp only [List.map_cons, nodesAll, b, List.length_cons]
      have : nodes (rowD ts n p) = n + 1 := b1
      rw [this, Nat.succ_mul]
      omega
    · simp only [List.map_cons, PyData.depthAll]
      have : (rowD ts n p).depth = 1 := c1
      omega
theorem show_mat (n : Nat) (ts : List Tie) (hl : ts.length ≤ 100000) (hn : n ≤ 100) : Show (matD n ts) := by
  obtain ⟨a, b, c⟩ := tiny_rows ts n hl (List.range n)
  refine show_of (by simp [matD, tiny, a]) (by simp only [matD, PyData.depth]; omega) ?_
  simp only [matD, nodes, b, List.length_range]
  have := Nat.mul_le_mul hn (Nat.add_le_add_right hn 1)
  omega
theorem tiny_ties : ∀ ts : List Tie, (∀ t ∈ ts, t.1 < 100000 ∧ t.2 < 100000) → tinyAll (ts.map tieD) = true ∧ nodesAll (ts.map tieD) = 3 * ts.length ∧ PyData.depthAll (ts.map tieD) ≤ 1
  | [], _ => by simp [tinyAll, nodesAll, PyData.depthAll]
  | t :: ts, h => by
    obtain ⟨a, b, c⟩ := tiny_ties ts fun m hm => h m (List.mem_cons_of_mem _ hm)
    have ht := h t (List.mem_cons_self ..)
    obtain ⟨a1, b1, c1⟩ := tiny_ints [(t.1 : Int), (t.2 : Int)] fun m hm => by
      have e1 : (2 : Nat) ^ 200 > 100000 := by decide
      rcases List.mem_cons.mp hm with rfl | hm
      · omega
      · obtain rfl := List.mem_singleton.mp hm
        omega
    have e : tieD t = .tuple ([(t.1 : Int), (t.2 : Int)].map PyData.int) := rfl
    refine ⟨?_, ?_, ?_⟩
    · simp only [List.map_cons, tinyAll, a, Bool.and_true]
      rw [e]
      simp only [tiny]
      exact a1
    · have e2 : nodes (tieD t) = 3 := by
        rw [e]
        simp only [nodes, b1]
        rfl
      simp only [List.map_cons, nodesAll, b, e2, List.length_cons]
      omega
    · have e3 : (tieD t).depth = 1 := by
        rw [e]
        simp only [PyData.depth, c1]
      simp only [List.map_cons, PyData.depthAll, e3]
      omega
theorem show_web (n : Nat) (ts : List Tie) (h : ∀ t ∈ ts, t.1 < 100000 ∧ t.2 < 100000) (hn : n < 100000) (hl : ts.length ≤ 4000) : Show (webD n ts) := by
  obtain ⟨a, b, c⟩ := tiny_ties ts h
  have e : ((n : Int)).natAbs.log2 < 300 := by
    have : ((n : Int)).natAbs < 2 ^ 200 := Nat.lt_of_lt_of_le (show ((n : Int)).natAbs < 100000 by omega) (by decide)
    exact Nat.lt_of_lt_of_le (PySem.Flt.log2_lt_of (by decide) this) (by decide)
  refine show_of ?_ ?_ ?_
  · simp only [webD, tiesD, tiny, tinyAll, a, decide_eq_true e, Bool.and_self]
  · simp only [webD, tiesD, PyData.depth, PyData.depthAll]
    omega
  · simp only [webD, tiesD, nodes, nodesAll, b]
    omega

/-! ### the numbers of the ties at a place, by a comprehension -/
theorem lc_hits {K : PySem.W.Frag} {te : TE} {σ : L2.St} {H : Hp} {c : Addr} {ys : List V} {ts : List Tie} {p ik ie ip : Nat} {Q : VK}
    (hc : SqT K H c ys) (hys : DpAll K H ys (ts.map tieD)) (hl : ts.length ≤ 3000) (hte : ∀ Q : VK, Q (.ref c) H → te σ H Q)
    (hw : ∀ v u, wipe (((wipe σ [ik, ie]).set ik v).set ie u) [ik, ie] = wipe σ [ik, ie])
    (hk : ∀ v u, (((wipe σ [ik, ie]).set ik v).set ie u)[ik]? = some v) (he : ∀ v u, (((wipe σ [ik, ie]).set ik v).set ie u)[ie]? = some u)
    (hp : ∀ v u, (((wipe σ [ik, ie]).set ik v).set ie u)[ip]? = some (some (.int (p : Int))))
    (h : ∀ D H', H' D = some (.lst ((tiesAt ts p).map fun (k : Nat) => V.int k)) → Same H H' → H D = none → Q (.ref D) H') :
    tLc (iEnumT K (tCons te tNil)) (gTup K 2 (gCons (gName ik) (gCons (gName ie) gNil))) (tTest (tOp (rIn K false) (tVar ip) (tVar ie))) (tVar ik) [ik, ie] σ H Q := by
  have hyl : ys.length = ts.length := by rw [dpAll_len hys, List.length_map]
  refine hte _ ?_
  refine ⟨c, ys, rfl, hc, fun D hD => ?_⟩
  refine lc_run walk_enumT hD (fun i acc _ => acc = ((List.range i).filter (hit ts p)).map fun (k : Nat) => V.int k) ?_ ?_ ?_ ?_
  · exact fun H' s => sqT_same s hc
  · rfl
  · rintro i x acc H2 H' hi hacc e s r ⟨q, u, y, rfl, hq, rfl, hu, hy⟩
    cases hu
    obtain ⟨d, hd, hv⟩ := dpAll_get hys hy
    obtain ⟨t', ht', rfl⟩ := get_map hd
    have sq : Same H2 (upd H2 q (.tup [.int (i : Nat), y])) := same_new hq
    obtain ⟨pa, rfl, hpa⟩ := dp_tie (dp_same (s.trans sq) _ hv)
    refine ⟨q, _, rfl, SqT.of upd_same, rfl, _, _, rfl, _, _, rfl, rfl, hw _ _, ?_⟩
    refine ⟨_, hp _ _, _, he _ _, pa, _, rfl, .inr hpa, rfl, rfl, _, rfl, ?_⟩
    show (if inV (.int (p : Int)) [.int t'.1, .int t'.2] = true then _ else _)
    have hacc2 : ((List.range i).filter (hit ts p)).length ≤ i := Nat.le_trans (List.length_filter_le _ _) (by rw [List.length_range]; exact Nat.le_refl _)
    have hin : inV (.int (p : Int)) [.int t'.1, .int t'.2] = hit ts p i := by rw [inv_tie, hit_at ht']
    have r' : acc = ((List.range i).filter (hit ts p)).map fun (k : Nat) => V.int k := r
    rw [hin]
    refine ite2 (fun hh => ?_) (fun hh => ?_)
    · refine ⟨_, hk _ _, ?_⟩
      refine lc_add hacc e sq (by rw [r', List.length_map]; omega) ?_
      rw [range_filter_succ, if_pos hh, List.map_append, r']
      rfl
    · refine lc_skip hacc e sq ?_
      rw [range_filter_succ, if_neg hh, List.append_nil]
      exact r'
  · rintro acc H2 h1 s2 r
    have r' : acc = ((List.range ys.length).filter (hit ts p)).map fun (k : Nat) => V.int k := r
    rw [hyl] at r'
    refine h D H2 ?_ s2 hD
    rw [h1, r']
    rfl
theorem dp_lot {K : PySem.W.Frag} {H : Hp} {u : Addr} {ks : List Nat} (h : H u = some (.tup (ks.map fun (k : Nat) => V.int k))) : Dp K H (.ref u) (lotD ks) := by
  refine .tup (SqT.of h) ?_
  have e2 : (ks.map fun (k : Nat) => PyData.int k) = (ks.map fun (k : Nat) => (k : Int)).map PyData.int := by rw [List.map_map]; rfl
  have e3 : (ks.map fun (k : Nat) => V.int k) = (ks.map fun (k : Nat) => (k : Int)).map V.int := by rw [List.map_map]; rfl
  rw [e2, e3]
  exact dpAll_ints _
/-- the equal ones counted by a comprehension of ones -/
theorem lc_pairs {K : PySem.W.Frag} {tp : TE} {σ : L2.St} {H : Hp} {c : Addr} {ys : List V} {ts : List Tie} {x y ic ie : Nat} {Q : VK}
    (hc : SqT K H c ys) (hys : DpAll K H ys (ts.map tieD)) (hl : ts.length ≤ 3000) (hcs : σ[ic]? = some (some (.ref c)))
    (hw : ∀ u, wipe ((wipe σ [ie]).set ie u) [ie] = wipe σ [ie]) (he : ∀ u, ((wipe σ [ie]).set ie u)[ie]? = some u)
    (htp : ∀ u H' (Q : VK), (∀ p, H' p = none → Q (.ref p) (upd H' p (.tup [.int (x : Int), .int (y : Int)]))) → tp ((wipe σ [ie]).set ie u) H' Q)
    (h : ∀ D H', H' D = some (.lst (List.replicate (ts.countP fun t => decide (t = (x, y))) (V.int 1))) → Same H H' → H D = none → Q (.ref D) H') :
    tLc (iTup K (tVar ic)) (gName ie) (tTest (tOp (rEqD K) (tVar ie) tp)) (tC (.int 1)) [ie] σ H Q := by
  have hyl : ys.length = ts.length := by rw [dpAll_len hys, List.length_map]
  refine ⟨_, hcs, c, rfl, ⟨ys, hc⟩, fun D hD => ?_⟩
  refine lc_run (walk_tup (xs := ys)) hD (fun i acc _ => acc = List.replicate ((ts.take i).countP fun t => decide (t = (x, y))) (V.int 1)) ?_ ?_ ?_ ?_
  · exact fun H' s => sqT_same s hc
  · rfl
  · rintro i v acc H2 H' hi hacc e s r ⟨rfl, hv⟩
    obtain ⟨d, hd, hdp⟩ := dpAll_get hys hv
    obtain ⟨t, ht, rfl⟩ := get_map hd
    refine ⟨hw _, ?_⟩
    refine ⟨_, he _, htp _ _ _ fun q hq => ?_⟩
    have sq : Same H' (upd H' q (.tup [.int (x : Int), .int (y : Int)])) := same_new hq
    have s1 : SeqAt.shaped (tieD t) = true := by simp [SeqAt.shaped, tieD, PyData.canLay0, PyData.canLayAll0, PyData.depth, PyData.depthAll]
    have s2 : SeqAt.shaped (tieD (x, y)) = true := by simp [SeqAt.shaped, tieD, PyData.canLay0, PyData.canLayAll0, PyData.depth, PyData.depthAll]
    refine ⟨tieD t, tieD (x, y), dp_same (s.trans sq) _ hdp, .tup (SqT.of upd_same) (.cons (.int _) (.cons (.int _) .nil)), s1, s2, _, rfl, ?_⟩
    have r' : acc = List.replicate ((ts.take i).countP fun t => decide (t = (x, y))) (V.int 1) := r
    have hcl : (ts.take i).countP (fun t => decide (t = (x, y))) ≤ 3000 := Nat.le_trans List.countP_le_length (by rw [List.length_take]; omega)
    have hstep : (ts.take (i + 1)).countP (fun t => decide (t = (x, y))) = (ts.take i).countP (fun t => decide (t = (x, y))) + if t = (x, y) then 1 else 0 := by
      rw [List.take_add_one, ht, List.countP_append]
      show _ + List.countP _ [t] = _
      rw [List.countP_singleton]
      simp
    have heq : PyData.eqv (tieD t) (tieD (x, y)) = decide (t = (x, y)) := by
      obtain ⟨a, b⟩ := t
      have e1 : ∀ m n : Nat, (((m : Int)) == ((n : Int))) = decide (m = n) := fun m n => by
        by_cases z : m = n
        · subst z; simp
        · rw [decide_eq_false z]
          exact beq_eq_false_iff_ne.mpr fun w => z (by omega)
      have e2 : decide ((a, b) = (x, y)) = (decide (a = x) && decide (b = y)) := by
        rw [← Bool.decide_and]
        congr 1
        exact propext ⟨fun z => Prod.mk.inj z, fun z => by rw [z.1, z.2]⟩
      rw [e2]
      show (((a : Int) == (x : Int)) && (((b : Int) == (y : Int)) && true)) = _
      rw [e1, e1, Bool.and_true]
    rw [heq]
    refine ite2 (fun hh => ?_) (fun hh => ?_)
    · have hh' := of_decide_eq_true hh
      refine lc_add hacc e sq (by rw [r', List.length_replicate]; omega) ?_
      rw [hstep, if_pos hh', r', List.replicate_succ']
    · have hh' : ¬ t = (x, y) := fun z => hh (decide_eq_true z)
      refine lc_skip hacc e sq ?_
      rw [hstep, if_neg hh', Nat.add_zero]
      exact r'
  · rintro acc H2 h1 s2 r
    have r' : acc = List.replicate ((ts.take ys.length).countP fun t => decide (t = (x, y))) (V.int 1) := r
    rw [hyl, List.take_of_length_le (Nat.le_refl _)] at r'
    exact h D H2 (by rw [h1, r']) s2 hD
end BV

namespace BV
open PySem L2
theorem tupLc_by {K : PySem.W.Frag} {wi : TI} {g : TG} {tt : TT} {te : TE} {vs : List Nat} {σ : L2.St} {H : Hp} {i : Nat} {D : Ends}
    (h : tLc wi g tt te vs σ H (fun x H1 => rTupK K [x] H1 (fun v H2 => D.nx (σ.set i (some v)) H2))) :
    tAsg (tCB (rTupK K) (tCons (tLc wi g tt te vs) tNil)) (gName i) D σ H := h
theorem lenLc_by {K : PySem.W.Frag} {wi : TI} {g : TG} {tt : TT} {te : TE} {vs : List Nat} {σ : L2.St} {H : Hp} {i : Nat} {D : Ends}
    (h : tLc wi g tt te vs σ H (fun x H1 => rLenK K [x] H1 (fun v H2 => D.nx (σ.set i (some v)) H2))) :
    tAsg (tCB (rLenK K) (tCons (tLc wi g tt te vs) tNil)) (gName i) D σ H := h
end BV

namespace BV
open PySem L2
theorem reps (n : Nat) (v : V) : (List.replicate n [v]).flatten = (List.range n).map fun _ => v := by
  induction n with
  | zero => rfl
  | succ n ih =>
    rw [List.replicate_succ', List.flatten_append, ih, List.range_succ, List.map_append]
    rfl
theorem shaped_row (f : Nat → Int) (n : Nat) : SeqAt.shaped (.tuple ((List.range n).map fun q => .int (f q))) = true := by
  rw [ints_row]
  have h1 := lay_ints ((List.range n).map f)
  have h2 := deep_ints ((List.range n).map f)
  have h3 : PyData.depthAll (((List.range n).map f).map PyData.int) + 1 ≤ 64 := by omega
  simp only [SeqAt.shaped, PyData.canLay0, PyData.depth, h1, Bool.true_and]
  exact decide_eq_true h3
theorem dp_row {K : PySem.W.Frag} {H : Hp} {v : V} {f : Nat → Int} {n : Nat} (h : Dp K H v (.tuple ((List.range n).map fun q => .int (f q)))) :
    ∃ a, v = .ref a ∧ SqT K H a ((List.range n).map fun q => V.int (f q)) := by
  obtain ⟨a, xs, e, h1, h2⟩ := dp_tup h
  rw [ints_row] at h2
  rw [ints_rowV, ← dpAll_ints' h2]
  exact ⟨a, e, h1⟩
theorem eqv_self {d : PyData} (h : SeqAt.shaped d = true) : PyData.eqv d d = true := by
  have h1 : d.canLay0 = true := SeqAt.canLay_of_shaped h
  first | exact PySem.eqv_refl d h1 | exact PySem.P3.eqv_refl d h1 | exact PySem.SeqAt.eqv_refl d h1 | exact PyData.eqv_refl d h1
/-- nothing in it: two empty lists -/
theorem none_found {K : PySem.W.Frag} {H : Hp} {a b : Addr} (ha : H a = some (.lst [])) (hb : H b = some (.lst [])) :
    ∃ d e, Dp K H (.ref a) d ∧ Dp K H (.ref b) e ∧ SeqAt.shaped d = true ∧ SeqAt.shaped e = true ∧ PyData.eqv d e = true :=
  ⟨.list [], .list [], .lst (SqL.of ha) .nil, .lst (SqL.of hb) .nil, shaped_intsL [], shaped_intsL [], by rfl⟩
end BV

namespace BV
open PySem PySem.Spec PyProof.Rows L2

/-! ### t * k for k from 1 on: once is the tuple itself -/
theorem mul_once (l : Addr) (items : Array Value) (n : Nat) (dd : Option Addr) (sl : Array (Option Value)) (u : Tok) :
    Meets (Builtin.«tuple.__mul__» ⟨[.ref l, .int 1 u], []⟩) (fun _ R s => s.heap.get? l = some { cls := .type "tuple", dict := dd, data := .seq items n, slots := sl } ∧
      R (.ok (.ret (Value.ref l))) s) := by
  refine .of_wp fun prog w A R s h => ?_
  obtain ⟨hp, g, d, tk, os⟩ := s
  obtain ⟨hl, h⟩ := h
  have f1 := AutoSeq1.idx_int
  have c0 : (decide ((1 : Int) < -(2 ^ 63)) || decide ((1 : Int) ≥ 2 ^ 63)) = false := by decide
  have c1 : (items.isEmpty || (1 : Int) == 1) = true := by simp
  wp_walk using AutoSeq1.wpAny_loadPart' hl
  repeat (first
    | (refine wpAny_ite_false (decide_eq_false (by rw [c0]; exact Bool.false_ne_true)) ?_; wp_walk using AutoSeq1.wpAny_loadPart' hl)
    | (refine wpAny_ite_true (decide_eq_true c1) ?_; wp_walk using AutoSeq1.wpAny_loadPart' hl))
  exact ⟨_, rfl, h⟩
def rRepT1 (K : PySem.W.Frag) : R2 := fun x y H Q => ∃ l k xs, x = .ref l ∧ y = .int k ∧ SqT K H l xs ∧ xs ≠ [] ∧ 1 ≤ k ∧ k ≤ 1000 ∧ xs.length ≤ 1000 ∧
  (k = 1 → Q (.ref l) H) ∧ (2 ≤ k → ∀ p, H p = none → Q (.ref p) (upd H p (.tup (List.replicate k.toNat xs).flatten)))
theorem op_repT1 {X : Cx} (K : PySem.W.Frag) (hK : X.K = K := by rfl) : OpR X (binaryOp .Mult) (rRepT1 K) := by
  subst hK
  intro pins s σ H x y v u Q I rx ry h
  obtain ⟨l, k, xs, rfl, rfl, hT, hne, h1, h2, hz, q1, q2⟩ := h
  by_cases hk : k = 1
  · subst hk
    cases rx
    obtain ⟨t, rfl⟩ := ry
    obtain ⟨its, r, ⟨⟨cls, dd, data, sl⟩, ho, hc, n, hd⟩, hs⟩ := I.tuple hT
    simp only at hc hd
    subst hc hd
    refine wpAny_binaryOp_repeat_ref (T := "tuple") (U := "int") (by decide) ⟨_, ho, rfl⟩ (fun s' => typeIs_int s' 1 t) noFill_tuple_mul F.fills_int_mul F.slot_int_rmul repeat_tuple F.slot_int_index.lookup ?_
    refine call_meets F.slot_int_rmul (typeIs_int s 1 t) F.entry_int_rmul (F.args_int_rmul_2 _ _) (int_rmul_tuple 1 t l its.toArray n dd sl) ⟨ho, rfl, ⟨_, ho, rfl⟩, ?_⟩
    refine call_meets F.slot_tuple_mul ⟨_, ho, rfl⟩ F.entry_tuple_mul (F.args_tuple_mul_2 _ _) (mul_once l its.toArray n dd sl t) ⟨ho, ?_⟩
    exact ⟨.ref l, H, I, rfl, q1 rfl⟩
  · exact op_repT pins s σ H (.ref l) (.int k) v u Q I rx ry ⟨l, k, xs, rfl, rfl, hT, hne, by omega, h2, hz, q2 (by omega)⟩
end BV

namespace BV
open PySem L2
theorem mat_perm {ts us : List Tie} (h : ts.Perm us) (n : Nat) : matD n ts = matD n us := by
  unfold matD rowD
  congr 2
  funext p
  congr 2
  funext q
  rw [entry_perm h]
theorem dpAll_rev {K : PySem.W.Frag} {H : Hp} : ∀ {ds : List PyData} {vs : List V}, DpAll K H vs ds → DpAll K H vs.reverse ds.reverse
  | [], _, h => by cases h; exact .nil
  | d :: ds, _, h => by
    cases h with
    | cons h1 h2 =>
      rw [List.reverse_cons, List.reverse_cons]
      exact dpAll_app (dpAll_rev h2) (.cons h1 .nil)
theorem flat_one (k : Nat) (v : V) : (List.replicate k [v]).flatten = List.replicate k v := by
  induction k with
  | zero => rfl
  | succ k ih =>
    rw [List.replicate_succ, List.flatten_cons, ih, List.replicate_succ]
    rfl
theorem dp_fat {K : PySem.W.Frag} {H : Hp} {z t1 : Addr} {k : Nat} (hz : SqT K H z (List.replicate k (.ref t1))) (ht : SqT K H t1 [.int 0, .int 1]) :
    Dp K H (.ref z) (tiesD (List.replicate k (0, 1))) := by
  refine .tup hz ?_
  clear hz
  induction k with
  | zero => exact .nil
  | succ k ih =>
    rw [List.replicate_succ, List.replicate_succ, List.map_cons]
    exact .cons (.tup ht (.cons (.int _) (.cons (.int _) .nil))) ih
end BV

namespace BV
open PySem L2 RZ

/-! ### further rules that name the written part -/
section
variable {X : Cx} (K : PySem.W.Frag)
theorem slTA (h : X.K = K := by rfl) : SlR X (rSlA K) := by
  subst h
  exact sl_tupA
def rListK (K : PySem.W.Frag) : List V → Hp → VK → Prop := fun xs H Q => ∃ p ys, xs = [.ref p] ∧ (SqL K H p ys ∨ SqT K H p ys) ∧ ∀ l, H l = none → Q (.ref l) (upd H l (.lst ys))
theorem listK (h : X.K = K := by rfl) : CallR X (.type "list") (rListK K) := by
  subst h
  exact call_list_of
theorem revL {e : Expr} {te : TE} {k : Nat} {p1 p2 p3 pos : Pos} (he : PE X e te) (h : X.K = K := by rfl) :
    PE X (.Subscript e (.Slice none none (some (.UnaryOp .USub (.Constant (.int 1) k p1) p2)) p3) pos) (tRevL K te) := by
  subst h
  exact pe_revL he
theorem zipA {e e2 : Expr} {ta : TA} {p pos tpos : Pos} {elts : List Expr} {kk : Nat} (hg : Gl X "zip") (hm : X.mg "zip" = none) (ha : PA X [e, e2] ta)
    (hs : starEach [e, e2] X.env = (false, eval e X.env) :: starEach [e2] X.env := by rfl) (hpl : (backTo pos (starEach [e2] X.env)).any (·.1) = false := by rfl) (h : X.K = K := by rfl) :
    PI X (.Tuple elts kk tpos) (.Call (.Name "zip" p) [e, e2] [] pos) (iZipA K ta) := by
  subst h
  exact pi_zipA hg hm ha hs hpl
theorem rgc {a b c : Expr} {tg : Expr} {ta : TA} {p pos : Pos} (hg : Gl X "range") (hm : X.mg "range" = none) (ha : PA X [a, b, c] ta)
    (hs : starEach [a, b, c] X.env = (false, eval a X.env) :: starEach [b, c] X.env := by rfl) (hpl : (backTo pos (starEach [b, c] X.env)).any (·.1) = false := by rfl) :
    PI X tg (.Call (.Name "range" p) [a, b, c] [] pos) (iRng3 ta) := pi_range3 hg hm ha hs hpl
end
theorem walk_zipT {K : PySem.W.Frag} {a b : Addr} {xs ys : List V} (hl : xs.length = ys.length) :
    Walk (ItzT K a b) xs.length (fun H => SqT K H a xs ∧ SqT K H b ys) (YPair (fun i => xs[i]?) (fun i => ys[i]?)) := by
  refine ⟨fun i H hi q => ?_, fun H q => ⟨xs, ys, q.1, q.2, .inl (Nat.le_refl _)⟩, fun i H v H' _ q y => ?_⟩
  · have h2 : i < ys.length := by omega
    exact ⟨xs, ys, xs[i], ys[i], q.1, q.2, by simp [hi], by simp [h2]⟩
  · obtain ⟨T, x, z, h1, h2, h3, h4, h5⟩ := y
    exact ⟨T, x, z, h1, h2, h3, h4 xs q.1, h5 ys q.2⟩
theorem tAnd_by {ta : TT} {tb : TT} {σ : L2.St} {H : Hp} {Q : Bool → Hp → Prop} (h : tAnd ta tb σ H Q) : tAnd ta tb σ H Q := h

/-! ### numbers on ties -/
def numsD (L : Nat) (f : Nat → Int) : PyData := .tuple ((List.range L).map fun k => .int (f k))
def numsV (L : Nat) (f : Nat → Int) : List V := (List.range L).map fun k => V.int (f k)
theorem dp_nums {K : PySem.W.Frag} {H : Hp} {v : V} {L : Nat} {f : Nat → Int} (h : Dp K H v (numsD L f)) : ∃ a, v = .ref a ∧ SqT K H a (numsV L f) := dp_row h
theorem nums_dp {K : PySem.W.Frag} {H : Hp} {a : Addr} {L : Nat} {f : Nat → Int} (h : SqT K H a (numsV L f)) : Dp K H (.ref a) (numsD L f) := by
  refine .tup h ?_
  unfold numsV
  rw [ints_row, ints_rowV]
  exact dpAll_ints _
theorem numsV_len (L : Nat) (f : Nat → Int) : (numsV L f).length = L := by simp [numsV]
theorem numsV_get {L : Nat} {f : Nat → Int} {k : Nat} (h : k < L) : (numsV L f)[k]? = some (.int (f k)) := by
  unfold numsV
  rw [List.getElem?_map, List.getElem?_range h]
  rfl
theorem numsV_set (L : Nat) (f : Nat → Int) (k : Nat) (z : Int) : (numsV L f).set k (.int z) = numsV L (fun j => if j = k then z else f j) := by
  unfold numsV
  rw [range_set]
  apply List.map_congr_left
  intro j _
  by_cases h : j = k <;> simp [h]
theorem numsV_congr {L : Nat} {f g : Nat → Int} (h : ∀ k, k < L → f k = g k) : numsV L f = numsV L g :=
  List.map_congr_left fun k hk => by rw [h k (List.mem_range.mp hk)]
theorem numsD_congr {L : Nat} {f g : Nat → Int} (h : ∀ k, k < L → f k = g k) : numsD L f = numsD L g := by
  unfold numsD
  congr 1
  exact List.map_congr_left fun k hk => by rw [h k (List.mem_range.mp hk)]
theorem still_nums (L : Nat) (f : Nat → Int) : still (numsD L f) = true := by
  have h := still_ints ((List.range L).map f)
  rw [← ints_row] at h
  simpa [numsD, still] using h

/-! ### deeds -/
inductive Deed where
  | star (p : Nat) (t : Int) | round (ks : List Nat) (t : Int)
namespace Deed
def times : Deed → Int
  | star _ t => t
  | round _ t => t
def about : Deed → PyData
  | star p _ => .int p
  | round ks _ => lotD ks
def word : Deed → Str
  | star _ _ => "star"
  | round _ _ => "round"
def neg : Deed → Deed
  | star p t => star p (-t)
  | round ks t => round ks (-t)
def D (d : Deed) : PyData := .tuple [.str d.word, d.about, .int d.times]
def touch (ts : List Tie) : Deed → Nat → Bool
  | star p _, k => hit ts p k
  | round ks _, k => decide (k ∈ ks)
def part (ts : List Tie) (d : Deed) (k : Nat) : Int := if d.touch ts k = true then d.times else 0
def Ok (ts : List Tie) : Deed → Prop
  | star _ _ => True
  | round ks _ => (∀ k ∈ ks, k < ts.length) ∧ ks.Nodup
end Deed
/-- the numbers behind some deeds -/
def behind (ts : List Tie) (f : Nat → Int) : List Deed → Nat → Int
  | [] => f
  | d :: ds => behind ts (fun k => f k + d.part ts k) ds
def effect (ts : List Tie) (ds : List Deed) (k : Nat) : Int := (ds.map fun d => d.part ts k).sum
theorem behind_eq (ts : List Tie) : ∀ (ds : List Deed) (f : Nat → Int) (k : Nat), behind ts f ds k = f k + effect ts ds k
  | [], f, k => by simp [behind, effect]
  | d :: ds, f, k => by
    rw [behind, behind_eq ts ds]
    simp only [effect, List.map_cons, List.sum_cons]
    omega
theorem effect_perm {ts : List Tie} {ds es : List Deed} (h : ds.Perm es) (k : Nat) : effect ts ds k = effect ts es k := by
  induction h with
  | nil => rfl
  | cons d _ ih =>
    unfold effect at ih ⊢
    simp only [List.map_cons, List.sum_cons, ih]
  | swap a b l =>
    unfold effect
    simp only [List.map_cons, List.sum_cons]
    omega
  | trans _ _ ih1 ih2 => rw [ih1, ih2]
theorem effect_app (ts : List Tie) (ds es : List Deed) (k : Nat) : effect ts (ds ++ es) k = effect ts ds k + effect ts es k := by
  unfold effect
  rw [List.map_append, List.sum_append]
theorem touch_neg (ts : List Tie) (d : Deed) (k : Nat) : d.neg.touch ts k = d.touch ts k := by cases d <;> rfl
theorem part_neg (ts : List Tie) (d : Deed) (k : Nat) : d.neg.part ts k = -(d.part ts k) := by
  unfold Deed.part
  rw [touch_neg]
  split
  · cases d <;> rfl
  · rfl
theorem effect_neg (ts : List Tie) : ∀ (ds : List Deed) (k : Nat), effect ts (ds.map Deed.neg) k = -(effect ts ds k)
  | [], k => rfl
  | d :: ds, k => by
    have := effect_neg ts ds k
    unfold effect at this ⊢
    simp only [List.map_cons, List.sum_cons, this, part_neg]
    omega
theorem still_deed (d : Deed) : still d.D = true := by
  cases d with
  | star p t => simp [Deed.D, Deed.about, still, stillAll]
  | round ks t =>
    have h : stillAll (ks.map fun (k : Nat) => PyData.int k) = true := by
      have e : (ks.map fun (k : Nat) => PyData.int k) = (ks.map fun (k : Nat) => (k : Int)).map PyData.int := by rw [List.map_map]; rfl
      rw [e]
      exact still_ints _
    simp [Deed.D, Deed.about, still, stillAll, lotD, h]
theorem still_deeds : ∀ ds : List Deed, stillAll (ds.map Deed.D) = true
  | [] => by simp [stillAll]
  | d :: ds => by simp [stillAll, still_deed, still_deeds ds]
theorem still_lot (ks : List Nat) : still (lotD ks) = true := by
  have e : (ks.map fun (k : Nat) => PyData.int k) = (ks.map fun (k : Nat) => (k : Int)).map PyData.int := by rw [List.map_map]; rfl
  simp only [lotD, still, e]
  exact still_ints _
theorem dp_deed {K : PySem.W.Frag} {H : Hp} {v : V} {d : Deed} (h : Dp K H v d.D) :
    ∃ a va, v = .ref a ∧ SqT K H a [.str d.word, va, .int d.times] ∧ Dp K H va d.about := by
  obtain ⟨a, xs, e, h1, h2⟩ := dp_tup h
  cases h2 with
  | cons q1 q2 =>
    cases q1
    cases q2 with
    | cons q3 q4 =>
      cases q4 with
      | cons q5 q6 =>
        cases q5
        cases q6
        exact ⟨a, _, e, h1, q3⟩
theorem dp_lotI {K : PySem.W.Frag} {H : Hp} {v : V} {ks : List Nat} (h : Dp K H v (lotD ks)) : ∃ a, v = .ref a ∧ SqT K H a (ks.map fun (k : Nat) => V.int k) := by
  obtain ⟨a, xs, e, h1, h2⟩ := dp_tup h
  have e2 : (ks.map fun (k : Nat) => PyData.int k) = (ks.map fun (k : Nat) => (k : Int)).map PyData.int := by rw [List.map_map]; rfl
  have e3 : (ks.map fun (k : Nat) => V.int k) = (ks.map fun (k : Nat) => (k : Int)).map V.int := by rw [List.map_map]; rfl
  rw [e2] at h2
  rw [e3, ← dpAll_ints' h2]
  exact ⟨a, e, h1⟩
def spDo (K : PySem.W.Frag) : Sp := fun vs H Q _ => ∃ (v dv : V) (l : Addr) (n : Nat) (ts : List Tie) (d : Deed) (f : Nat → Int), vs = [v, .ref l, dv] ∧
  Dp K H v (webD n ts) ∧ Dp K H dv d.D ∧ d.Ok ts ∧ ts.length ≤ 3000 ∧ H l = some (.lst (numsV ts.length f)) ∧
  ∀ H', Kp l l H H' → H' l = some (.lst (numsV ts.length fun k => f k + d.part ts k)) → Q .non H'
def spDone (K : PySem.W.Frag) : Sp := fun vs H Q _ => ∃ (v sv dv : V) (n : Nat) (ts : List Tie) (f : Nat → Int) (ds : List Deed), vs = [v, sv, dv] ∧
  Dp K H v (webD n ts) ∧ Dp K H sv (numsD ts.length f) ∧ Dp K H dv (.tuple (ds.map Deed.D)) ∧ (∀ d ∈ ds, d.Ok ts) ∧ ts.length ≤ 3000 ∧
  ∀ u H', Same H H' → Dp K H' u (numsD ts.length (behind ts f ds)) → Q u H'
def spUndone (K : PySem.W.Frag) : Sp := fun vs H Q _ => ∃ (dv : V) (ds : List Deed), vs = [dv] ∧ Dp K H dv (.tuple (ds.map Deed.D)) ∧ ds.length ≤ 3000 ∧
  ∀ u H', Same H H' → Dp K H' u (.tuple ((ds.reverse.map Deed.neg).map Deed.D)) → Q u H'
def spDiff (K : PySem.W.Frag) : Sp := fun vs H Q _ => ∃ (v u : V) (L : Nat) (f g : Nat → Int), vs = [v, u] ∧ Dp K H v (numsD L f) ∧ Dp K H u (numsD L g) ∧ L ≤ 3000 ∧
  ∀ z H', Same H H' → Dp K H' z (numsD L fun k => g k - f k) → Q z H'
end BV

namespace BV
open PySem L2
/-! ### small data, that may be written as a text -/
structure Sm (d : PyData) (c k : Nat) : Prop where
  t : tiny d = true
  n : nodes d ≤ c
  p : d.depth ≤ k
theorem Sm.mono {d : PyData} {c k c' k' : Nat} (h : Sm d c k) (h1 : c ≤ c') (h2 : k ≤ k') : Sm d c' k' := ⟨h.t, Nat.le_trans h.n h1, Nat.le_trans h.p h2⟩
theorem sm_all {c k : Nat} : ∀ ds : List PyData, (∀ d ∈ ds, Sm d c k) → tinyAll ds = true ∧ nodesAll ds ≤ ds.length * c ∧ PyData.depthAll ds ≤ k
  | [], _ => by simp [tinyAll, nodesAll, PyData.depthAll]
  | d :: ds, h => by
    obtain ⟨a, b, e⟩ := sm_all ds fun m hm => h m (List.mem_cons_of_mem _ hm)
    obtain ⟨a1, b1, e1⟩ := h d (List.mem_cons_self ..)
    refine ⟨by simp only [tinyAll, a, a1, Bool.and_self], ?_, ?_⟩
    · simp only [nodesAll, List.length_cons]
      rw [Nat.succ_mul]
      omega
    · simp only [PyData.depthAll]
      omega
theorem sm_tup {ds : List PyData} {c k : Nat} (h : ∀ d ∈ ds, Sm d c k) : Sm (.tuple ds) (ds.length * c + 1) (k + 1) := by
  obtain ⟨a, b, e⟩ := sm_all ds h
  refine ⟨by simpa only [tiny] using a, by simp only [nodes]; omega, by simp only [PyData.depth]; omega⟩
theorem sm_lst {ds : List PyData} {c k : Nat} (h : ∀ d ∈ ds, Sm d c k) : Sm (.list ds) (ds.length * c + 1) (k + 1) := by
  obtain ⟨a, b, e⟩ := sm_all ds h
  refine ⟨by simpa only [tiny] using a, by simp only [nodes]; omega, by simp only [PyData.depth]; omega⟩
theorem sm_show {d : PyData} {c k : Nat} (h : Sm d c k) (hc : c ≤ 15000) (hk : k ≤ 40) : Show d := show_of h.t (Nat.le_trans h.p hk) (Nat.le_trans h.n hc)
theorem sm_int {z : Int} (h : z.natAbs < 2 ^ 200) : Sm (.int z) 1 0 := by
  have hl : z.natAbs.log2 < 300 := Nat.lt_of_lt_of_le (PySem.Flt.log2_lt_of (by decide) h) (by decide)
  exact ⟨by simp only [tiny, hl, decide_true], by simp only [nodes]; exact Nat.le_refl _, by simp only [PyData.depth]; exact Nat.le_refl _⟩
theorem sm_nat {k : Nat} (h : k < 100000) : Sm (.int (k : Int)) 1 0 := sm_int (Nat.lt_of_lt_of_le (show ((k : Int)).natAbs < 100000 by omega) (by decide))
theorem sm_lot {ks : List Nat} (h : ∀ k ∈ ks, k < 100000) : Sm (lotD ks) (ks.length + 1) 1 := by
  have := sm_tup (ds := ks.map fun (k : Nat) => PyData.int k) (c := 1) (k := 0) fun d hd => by
    obtain ⟨k, hk, rfl⟩ := List.mem_map.mp hd
    exact sm_nat (h k hk)
  rw [List.length_map, Nat.mul_one] at this
  exact this
theorem sm_nums {L : Nat} {f : Nat → Int} (h : ∀ k, (f k).natAbs < 2 ^ 200) : Sm (numsD L f) (L + 1) 1 := by
  have := sm_tup (ds := (List.range L).map fun k => PyData.int (f k)) (c := 1) (k := 0) fun d hd => by
    obtain ⟨k, hk, rfl⟩ := List.mem_map.mp hd
    exact sm_int (h k)
  rw [List.length_map, List.length_range, Nat.mul_one] at this
  exact this
theorem sm_tie {t : Tie} (h : t.1 < 100000 ∧ t.2 < 100000) : Sm (tieD t) 3 1 :=
  sm_tup (ds := [.int t.1, .int t.2]) (c := 1) (k := 0) fun d hd => by
    rcases List.mem_cons.mp hd with rfl | hd
    · exact sm_nat h.1
    · obtain rfl := List.mem_singleton.mp hd
      exact sm_nat h.2
theorem sm_web {n : Nat} {ts : List Tie} (h : ∀ t ∈ ts, t.1 < 100000 ∧ t.2 < 100000) (hn : n < 100000) : Sm (webD n ts) (6 * ts.length + 3) 3 := by
  have h1 : Sm (tiesD ts) (ts.length * 3 + 1) 2 := by
    have := sm_tup (ds := ts.map tieD) (c := 3) (k := 1) fun d hd => by
      obtain ⟨k, hk, rfl⟩ := List.mem_map.mp hd
      exact sm_tie (h k hk)
    rw [List.length_map] at this
    exact this
  have h2 := sm_tup (ds := [.int n, tiesD ts]) (c := ts.length * 3 + 1) (k := 2) fun d hd => by
    rcases List.mem_cons.mp hd with rfl | hd
    · exact (sm_nat hn).mono (by omega) (by omega)
    · obtain rfl := List.mem_singleton.mp hd
      exact h1
  exact h2.mono (by show 2 * (ts.length * 3 + 1) + 1 ≤ _; omega) (Nat.le_refl _)
theorem sm_deed {d : Deed} {m : Nat} (h1 : d.times.natAbs < 2 ^ 200) (h2 : Sm d.about m 1) (hm : 1 ≤ m) : Sm d.D (3 * m + 1) 2 := by
  refine sm_tup (ds := [.str d.word, d.about, .int d.times]) (c := m) (k := 1) fun e he => ?_
  rcases List.mem_cons.mp he with rfl | he
  · refine ⟨?_, by simp only [nodes]; exact hm, by simp only [PyData.depth]; omega⟩
    cases d with
    | star p t => show tiny (.str "star") = true; decide
    | round ks t => show tiny (.str "round") = true; decide
  · rcases List.mem_cons.mp he with rfl | he
    · exact h2
    · obtain rfl := List.mem_singleton.mp he
      exact (sm_int h1).mono hm (by omega)
theorem sm_deeds {ds : List Deed} {m : Nat} (h : ∀ d ∈ ds, d.times.natAbs < 2 ^ 200 ∧ Sm d.about m 1) (hm : 1 ≤ m) : Sm (.tuple (ds.map Deed.D)) (ds.length * (3 * m + 1) + 1) 3 := by
  have := sm_tup (ds := ds.map Deed.D) (c := 3 * m + 1) (k := 2) fun e he => by
    obtain ⟨d, hd, rfl⟩ := List.mem_map.mp he
    exact sm_deed (h d hd).1 (h d hd).2 hm
  rw [List.length_map] at this
  exact this
/-- how much some deeds can do -/
theorem effect_abs {ts : List Tie} {B : Nat} : ∀ (ds : List Deed) (k : Nat), (∀ d ∈ ds, d.times.natAbs ≤ B) → (effect ts ds k).natAbs ≤ ds.length * B
  | [], k, _ => by simp [effect]
  | d :: ds, k, h => by
    have ih := effect_abs (ts := ts) ds k fun m hm => h m (List.mem_cons_of_mem _ hm)
    have hd := h d (List.mem_cons_self ..)
    have hp : (d.part ts k).natAbs ≤ B := by
      unfold Deed.part
      split
      · exact hd
      · simp
    unfold effect at ih ⊢
    simp only [List.map_cons, List.sum_cons, List.length_cons]
    rw [Nat.succ_mul]
    omega
theorem behind_abs {ts : List Tie} {B M : Nat} {f : Nat → Int} (ds : List Deed) (k : Nat) (h : ∀ d ∈ ds, d.times.natAbs ≤ B) (hf : ∀ k, (f k).natAbs ≤ M) :
    (behind ts f ds k).natAbs ≤ M + ds.length * B := by
  rw [behind_eq]
  have h1 := effect_abs (ts := ts) ds k h
  have h2 := hf k
  omega
theorem neg_neg (d : Deed) : d.neg.neg = d := by
  cases d <;> simp [Deed.neg]
theorem map_neg_neg (ds : List Deed) : (ds.map Deed.neg).map Deed.neg = ds := by
  rw [List.map_map]
  have : Deed.neg ∘ Deed.neg = id := funext neg_neg
  rw [this, List.map_id]
end BV
namespace BV
open PySem L2
theorem atI_last {xs : List V} {v : V} (h0 : 0 < xs.length) (h : xs[xs.length - 1]? = some v) : atI xs (-1) = some v := by
  have e : ixN xs.length (-1) = some (xs.length - 1) := by
    unfold ixN
    rw [if_neg (by omega), if_pos (by omega)]
    congr 1
    omega
  unfold atI
  rw [e]
  exact h
end BV
namespace BV
open PySem L2
theorem dpAll_take {K : PySem.W.Frag} {H : Hp} : ∀ {ds : List PyData} {vs : List V} (j : Nat), DpAll K H vs ds → DpAll K H (vs.take j) (ds.take j)
  | [], _, j, h => by cases h; simpa using DpAll.nil
  | d :: ds, _, 0, h => .nil
  | d :: ds, _, j + 1, h => by
    cases h with
    | cons h1 h2 => exact .cons h1 (dpAll_take j h2)
theorem dpAll_drop {K : PySem.W.Frag} {H : Hp} : ∀ {ds : List PyData} {vs : List V} (j : Nat), DpAll K H vs ds → DpAll K H (vs.drop j) (ds.drop j)
  | [], _, j, h => by cases h; simpa using DpAll.nil
  | d :: ds, _, 0, h => h
  | d :: ds, _, j + 1, h => by
    cases h with
    | cons h1 h2 => exact dpAll_drop j h2
theorem sIx_nat (n d j : Nat) : HT.sIx n d (some (j : Int)) = min j n := by
  unfold HT.sIx
  show (if (j : Int) < 0 then _ else min (j : Int).toNat n) = _
  rw [if_neg (by omega), Int.toNat_natCast]
theorem cut_hi (xs : List V) (j : Nat) : cutV xs none (some (j : Int)) = xs.take j := by
  unfold cutV
  rw [sIx_nat]
  show List.take (min j xs.length - 0) (List.drop 0 xs) = _
  rw [Nat.sub_zero, List.drop_zero]
  by_cases h : j ≤ xs.length
  · rw [Nat.min_eq_left h]
  · rw [Nat.min_eq_right (by omega), List.take_of_length_le (Nat.le_refl _), List.take_of_length_le (by omega)]
theorem cut_lo (xs : List V) (j : Nat) : cutV xs (some (j : Int)) none = xs.drop j := by
  unfold cutV
  rw [sIx_nat]
  show List.take (xs.length - min j xs.length) (List.drop (min j xs.length) xs) = _
  by_cases h : j ≤ xs.length
  · rw [Nat.min_eq_left h]
    exact List.take_of_length_le (by rw [List.length_drop]; exact Nat.le_refl _)
  · rw [Nat.min_eq_right (by omega), List.drop_of_length_le (Nat.le_refl _), List.drop_of_length_le (by omega)]
    simp
theorem at_st {t : TS} {D : Ends} {σ : L2.St} {H : Hp} (σ' : L2.St) (e : σ = σ') (h : t D σ' H) : t D σ H := by
  subst e
  exact h
end BV
namespace BV
open PySem L2
theorem slA_by {K : PySem.W.Frag} {x : V} {lo hi : Option Int} {H : Hp} {Q : VK} {a : Addr} {xs : List V} (hx : x = .ref a) (h : SqT K H a xs)
    (k : ∀ (c : Addr) H', Same H H' → SqT K H' c (cutV xs lo hi) → Q (.ref c) H') : rSlA K x lo hi H Q := by
  refine ⟨a, xs, hx, h, fun z => k _ _ (Same.refl _) ?_, fun _ p hp => k _ _ (same_new hp) (SqT.of upd_same)⟩
  have e : cutV xs lo hi = xs := by
    unfold cutV
    rw [z.1, z.2, List.drop_zero, Nat.sub_zero, List.take_of_length_le (Nat.le_refl _)]
  rw [e]
  exact h
end BV

namespace BV
open PySem PySem.Spec PyProof.Rows L2
theorem cr_minT {X : Cx} (hc : X.calm = true) : CallR X (.builtin "min")
    (fun vs H Q => ∃ (a : Addr) (ns : List Int), vs = [V.ref a] ∧ SqT X.K H a (ns.map V.int) ∧ 0 < ns.length ∧ ∀ m, m ∈ ns → (∀ y ∈ ns, m ≤ y) → Q (.int m) H) := by
  intro pins s σ H vs us Q I r h
  obtain ⟨a, ns, rfl, hs, hpos, q⟩ := h
  obtain ⟨its, rv, hl, _⟩ := I.tuple hs
  rw [Vals.ref1 r]
  have hi := rv.ints
  obtain ⟨xs, e⟩ := hi.allInts.items
  have hn : numsOf (intItems xs).toList = ns := by rw [← e]; exact hi.numsOf
  rw [nums_intItems] at hn
  have hl2 : s.heap.IsTuple a its.toArray := hl
  rw [e] at hl2
  have hd := I.ok.hd hc
  have hsz : ns.length = xs.size := by rw [← hn]; simp
  have alt : a < s.heap.objs.size := by
    obtain ⟨o, h1, _⟩ := hl2
    exact Heap.lt_size h1
  have isz : (intItems xs).size = xs.size := by simp [intItems]
  refine call_min_walk (wpAny_pyIter_tuple hl2 ⟨_, _, _, _, _, _, _, rfl, Walks.tuple ?_ s.heap.objs.size a (Nat.ne_of_lt alt) (intItems xs), ⟨?_, ?_⟩, ?_, ?_, CmpOf.ints_lt (numAt xs) ?_, fun v h' tk hP hk => ?_⟩)
  · exact hd
  · exact ⟨_, Heap.get?_push_size _ rfl, rfl, rfl⟩
  · exact hl2.push _
  · intro b hb
    show b < (s.heap.objs.push _).size
    rw [Array.size_push]
    rcases List.mem_cons.mp hb with rfl | hb
    · exact Nat.lt_succ_self _
    · obtain rfl := List.mem_singleton.mp hb
      exact Nat.lt_succ_of_lt alt
  · rw [isz]
    omega
  · exact fun i v hv => intItems_at hv
  · rw [isz] at hP
    obtain ⟨t, rfl⟩ := intItems_at hP
    obtain ⟨b1, b2⟩ := argBest_lt (numAt xs) (xs.size - 1)
    refine ⟨.int _, H, I.kept fun b o hb => ?_, ⟨_, rfl⟩, ?_⟩
    · exact hk b o (fun z => by
        obtain rfl := List.mem_singleton.mp z
        exact Nat.lt_irrefl _ (Heap.lt_size hb)) (Heap.get?_push_of_some _ hb)
    · have nat : ∀ i, i < xs.size → numAt xs i ∈ ns ∧ True := fun i hi => by
        refine ⟨?_, trivial⟩
        rw [← hn]
        unfold numAt
        rw [Array.getElem?_eq_getElem hi]
        exact List.mem_map.mpr ⟨xs[i], by simp, rfl⟩
      refine q _ (nat _ (by omega)).1 fun y hy => ?_
      rw [← hn] at hy
      obtain ⟨p, hp, rfl⟩ := List.mem_map.mp hy
      obtain ⟨j, hj, rfl⟩ := List.mem_iff_getElem.mp hp
      have hj' : j < xs.size := by simpa using hj
      have := b2 j (by omega)
      have e2 : numAt xs j = (xs.toList[j]).1 := by
        unfold numAt
        rw [Array.getElem?_eq_getElem hj']
        simp
      rw [← e2]
      exact this
end BV
namespace BV
open PySem L2
section
variable {X : Cx} (K : PySem.W.Frag)
def rMinT (K : PySem.W.Frag) : List V → Hp → VK → Prop := fun vs H Q => ∃ (a : Addr) (ns : List Int), vs = [V.ref a] ∧ SqT K H a (ns.map V.int) ∧ 0 < ns.length ∧ ∀ m, m ∈ ns → (∀ y ∈ ns, m ≤ y) → Q (.int m) H
theorem minTK (hc : X.calm = true := by rfl) (h : X.K = K := by rfl) : CallR X (.builtin "min") (rMinT K) := by
  subst h
  exact cr_minT hc
theorem minLK (hc : X.calm = true := by rfl) (h : X.K = K := by rfl) : CallR X (.builtin "min") (rMin K) := by
  subst h
  exact cr_min hc
theorem anyLK (hc : X.calm = true := by rfl) (h : X.K = K := by rfl) : CallR X (.builtin "any") (rAny K) := by
  subst h
  exact cr_any hc
end
end BV

namespace BV
open PySem L2
section
variable {X : Cx} (K : PySem.W.Frag)
theorem catA (h : X.K = K := by rfl) : OpR X (binaryOp .Add) (rCatA K) := by
  subst h
  exact op_catA
end
theorem catA_by {K : PySem.W.Frag} {x y : V} {H : Hp} {Q : VK} {a b : Addr} {xs ys : List V} (hx : x = .ref a) (hy : y = .ref b) (h1 : SqT K H a xs) (h2 : SqT K H b ys) (hl : xs.length + ys.length ≤ 100000)
    (k : ∀ (c : Addr) H', Same H H' → SqT K H' c (xs ++ ys) → Q (.ref c) H') : rCatA K x y H Q := by
  refine ⟨a, b, xs, ys, hx, hy, h1, h2, Nat.le_trans hl (by decide), fun e => ?_, fun _ e => ?_, fun _ _ p hp => ?_⟩
  · subst e
    exact k _ _ (Same.refl _) h2
  · subst e
    exact k _ _ (Same.refl _) (by rw [List.append_nil]; exact h1)
  · exact k _ _ (same_new hp) (SqT.of upd_same)
theorem sqL_same {K : PySem.W.Frag} {H H' : Hp} {a : Addr} {xs : List V} (s : Same H H') (h : SqL K H a xs) : SqL K H' a xs := by
  rcases h with (h | ⟨o, h⟩) | h
  · exact .inl (.inl (s _ _ h))
  · exact .inl (.inr ⟨o, s _ _ h⟩)
  · exact .inr h
/-- [1 for z in zs if z < 0], walked to the place i -/
def Ones (zs : List Int) (i : Nat) (acc : List V) : Prop := ∃ m : Nat, acc = (List.replicate m (1 : Int)).map V.int ∧ m ≤ i ∧ (m = 0 ↔ ∀ z ∈ zs.take i, 0 ≤ z)
theorem Ones.yes {zs : List Int} {i : Nat} {acc : List V} {z : Int} (h : Ones zs i acc) (hz : zs[i]? = some z) (hn : z < 0) : Ones zs (i + 1) (acc ++ [.int 1]) := by
  obtain ⟨m, rfl, h1, _⟩ := h
  refine ⟨m + 1, ?_, by omega, ?_⟩
  · rw [List.replicate_succ', List.map_append]
    rfl
  · constructor
    · intro e
      omega
    · intro e
      have := e z (by rw [List.take_add_one, hz]; simp)
      omega
theorem Ones.no {zs : List Int} {i : Nat} {acc : List V} {z : Int} (h : Ones zs i acc) (hz : zs[i]? = some z) (hn : ¬ z < 0) : Ones zs (i + 1) acc := by
  obtain ⟨m, rfl, h1, h2⟩ := h
  refine ⟨m, rfl, by omega, ?_⟩
  rw [h2, List.take_add_one, hz]
  constructor
  · intro e x hx
    rcases List.mem_append.mp hx with q | q
    · exact e x q
    · have : x = z := by simpa using q
      omega
  · intro e x hx
    exact e x (List.mem_append_left _ hx)
theorem ones_eqv (m : Nat) : (PyData.list ((List.replicate m (1 : Int)).map PyData.int)).eqv (.list []) = decide (m = 0) := by
  cases m with
  | zero => rfl
  | succ m => rfl
end BV

namespace BV
open PySem PySem.Spec PyProof.Rows L2
/-! ### (v,) * k for any k from 0 on -/
theorem mul_none (l : Addr) (items : Array Value) (n : Nat) (dd : Option Addr) (sl : Array (Option Value)) (u : Tok) (hi : items.isEmpty = false) :
    Meets (Builtin.«tuple.__mul__» ⟨[.ref l, .int 0 u], []⟩) (fun _ R s => s.heap.get? l = some { cls := .type "tuple", dict := dd, data := .seq items n, slots := sl } ∧
      R (.ok (.ret (Value.ref s.heap.objs.size))) { s with heap := s.heap.push { cls := Value.type "tuple", data := Data.seq #[] }, toks := s.toks }) := by
  refine .of_wp fun prog w A R s h => ?_
  obtain ⟨hp, g, d, tk, os⟩ := s
  obtain ⟨hl, h⟩ := h
  have f1 := AutoSeq1.idx_int
  have c0 : (decide ((0 : Int) < -(2 ^ 63)) || decide ((0 : Int) ≥ 2 ^ 63)) = false := by decide
  have c1 : (items.isEmpty || (0 : Int) == 1) = false := by rw [hi]; rfl
  have c2 : (decide ((0 : Int) ≤ 0) || items.isEmpty) = true := by simp
  wp_walk using AutoSeq1.wpAny_loadPart' hl
  repeat (first
    | (refine wpAny_ite_false (decide_eq_false (by rw [c0]; exact Bool.false_ne_true)) ?_; wp_walk using AutoSeq1.wpAny_loadPart' hl)
    | (refine wpAny_ite_false (decide_eq_false (by rw [c1]; exact Bool.false_ne_true)) ?_; wp_walk using AutoSeq1.wpAny_loadPart' hl)
    | (refine wpAny_ite_true (decide_eq_true c2) ?_; wp_walk using AutoSeq1.wpAny_loadPart' hl))
  exact ⟨_, rfl, h⟩
def rRepN (K : PySem.W.Frag) : R2 := fun x y H Q => ∃ (l : Addr) (k : Nat) (v : V), x = .ref l ∧ y = .int (k : Int) ∧ SqT K H l [v] ∧ k ≤ 1000 ∧ ∀ (p : Addr) H', Same H H' → SqT K H' p (List.replicate k v) → Q (.ref p) H'
theorem flat_rep (k : Nat) (v : V) : (List.replicate k [v]).flatten = List.replicate k v := by
  induction k with
  | zero => rfl
  | succ k ih => rw [List.replicate_succ, List.flatten_cons, ih, List.replicate_succ]; rfl
theorem op_repN {X : Cx} (K : PySem.W.Frag) (hK : X.K = K := by rfl) : OpR X (binaryOp .Mult) (rRepN K) := by
  subst hK
  intro pins s σ H x y v u Q I rx ry h
  obtain ⟨l, k, w0, rfl, rfl, hT, hk, q⟩ := h
  by_cases h0 : k = 0
  · subst h0
    cases rx
    obtain ⟨t, rfl⟩ := ry
    obtain ⟨its, r, ⟨⟨cls, dd, data, sl⟩, ho, hc, n, hd⟩, hs⟩ := I.tuple hT
    simp only at hc hd
    subst hc hd
    have hi : its.toArray.isEmpty = false := by
      have := r.length
      cases its with
      | nil => simp at this
      | cons a b => rfl
    refine wpAny_binaryOp_repeat_ref (T := "tuple") (U := "int") (by decide) ⟨_, ho, rfl⟩ (fun s' => typeIs_int s' _ t) noFill_tuple_mul F.fills_int_mul F.slot_int_rmul repeat_tuple F.slot_int_index.lookup ?_
    refine call_meets F.slot_int_rmul (typeIs_int s _ t) F.entry_int_rmul (F.args_int_rmul_2 _ _) (int_rmul_tuple _ t l its.toArray n dd sl) ⟨ho, rfl, ⟨_, ho, rfl⟩, ?_⟩
    refine call_meets F.slot_tuple_mul ⟨_, ho, rfl⟩ F.entry_tuple_mul (F.args_tuple_mul_2 _ _) (mul_none l its.toArray n dd sl t hi) ⟨ho, ?_⟩
    have fr := I.hok.fresh (Nat.le_refl s.heap.objs.size)
    refine ⟨.ref s.heap.objs.size, _, I.laid (t' := s.toks) (o := .tup []) (fun b ob z => Heap.get?_push_of_some _ z) (Nat.le_refl _) ⟨Nat.zero_le _, [], .nil, IsTup.new _ _⟩, rfl, q _ _ (same_new fr) (SqT.of upd_same)⟩
  · refine op_repT1 X.K rfl pins s σ H (.ref l) (.int k) v u Q I rx ry ⟨l, k, [w0], rfl, rfl, hT, by simp, by omega, by omega, by simp, fun e => ?_, fun _ p hp => ?_⟩
    · have : k = 1 := by omega
      subst this
      exact q _ _ (Same.refl _) hT
    · refine q _ _ (same_new hp) (SqT.of ?_)
      rw [upd_same, Int.toNat_natCast, flat_rep]
end BV

namespace BV
open PySem L2
/-! ### comprehensions that draw -/
theorem era_kp {b g D : Addr} {H H' : Hp} (s : Kp b g H H') : Kp b g (era H D) (era H' D) := fun a o e n1 n2 => by
  by_cases h : a = D
  · subst h
    rw [era_at] at e
    cases e
  · rw [era_ne h] at e ⊢
    exact s _ _ e n1 n2
theorem box_era {b g D : Addr} {H : Hp} (x : Box H b g) (h1 : D ≠ b) (h2 : D ≠ g) : Box (era H D) b g := by
  obtain ⟨⟨st, c, x1⟩, ns, x2, x3⟩ := x
  exact ⟨⟨st, c, by rw [era_ne h1.symm]; exact x1⟩, ns, by rw [era_ne h2.symm]; exact x2, x3⟩
theorem bx_set {b g l : Addr} {H : Hp} {o : HO} (x : Box H b g) (h1 : l ≠ b) (h2 : l ≠ g) : Box (upd H l o) b g := by
  obtain ⟨⟨st, c, x1⟩, ns, x2, x3⟩ := x
  exact ⟨⟨st, c, by rw [upd_ne h1.symm]; exact x1⟩, ns, by rw [upd_ne h2.symm]; exact x2, x3⟩
theorem bx_ne {b g l : Addr} {H : Hp} (x : Box H b g) (h : H l = none) : l ≠ b ∧ l ≠ g := by
  obtain ⟨⟨st, c, x1⟩, ns, x2, x3⟩ := x
  exact ⟨fun e => (by rw [e, x1] at h; cases h), fun e => (by rw [e, x2] at h; cases h)⟩
/-- as LcI, with the box of draws -/
def LcB (b g : Addr) (H1 : Hp) (D : Addr) (R : Nat → List V → Hp → Prop) (i : Nat) (H : Hp) : Prop :=
  ∃ acc, H D = some (.lst acc) ∧ Kp b g H1 (era H D) ∧ Box H b g ∧ R i acc (era H D)
theorem lc_addB {b g : Addr} {H1 H H4 : Hp} {D : Addr} {R : Nat → List V → Hp → Prop} {i : Nat} {acc : List V} {y : V} (nb : D ≠ b) (ng : D ≠ g) (ha : H D = some (.lst acc))
    (e : Kp b g H1 (era H D)) (s : Kp b g H H4) (x : Box H4 b g) (hl : acc.length < 100000) (r : R i (acc ++ [y]) (era H4 D)) :
    ∃ acc, H4 D = some (.lst acc) ∧ acc.length < sizeLine ∧ LcB b g H1 D R i (upd H4 D (.lst (acc ++ [y]))) := by
  refine ⟨acc, s _ _ ha nb ng, Nat.lt_of_lt_of_le hl (by decide), acc ++ [y], upd_same, ?_, bx_set x nb ng, ?_⟩
  · rw [era_upd]
    exact e.trans (era_kp s)
  · rw [era_upd]
    exact r
theorem lc_skipB {b g : Addr} {H1 H H3 : Hp} {D : Addr} {R : Nat → List V → Hp → Prop} {i : Nat} {acc : List V} (nb : D ≠ b) (ng : D ≠ g) (ha : H D = some (.lst acc))
    (e : Kp b g H1 (era H D)) (s : Kp b g H H3) (x : Box H3 b g) (r : R i acc (era H3 D)) : LcB b g H1 D R i H3 :=
  ⟨acc, s _ _ ha nb ng, e.trans (era_kp s), x, r⟩
theorem lc_runB {b g0 : Addr} {J : It} {n : Nat} {G : Hp → Prop} {Y : Nat → Hp → V → Hp → Prop} (w : Walk J n G Y) {g : TG} {tt : TT} {te : TE} {vs : List Nat}
    {σ : L2.St} {H1 : Hp} {D : Addr} {Qd : Hp → Prop} (hD : H1 D = none) (hB : Box H1 b g0) (R : Nat → List V → Hp → Prop)
    (hG : ∀ H, Kp b g0 H1 H → Box H b g0 → G H) (h0 : R 0 [] H1)
    (hs : ∀ i x acc H H', D ≠ b → D ≠ g0 → i < n → H D = some (.lst acc) → Kp b g0 H1 (era H D) → Kp b g0 H1 H → Box H b g0 → R i acc (era H D) → Y i H x H' →
      g x (wipe σ vs) H' fun σ2 H2 => wipe σ2 vs = wipe σ vs ∧ tt σ2 H2 fun t H3 =>
        if t = true then te σ2 H3 fun y H4 => ∃ acc, H4 D = some (.lst acc) ∧ acc.length < sizeLine ∧ LcB b g0 H1 D R (i + 1) (upd H4 D (.lst (acc ++ [y])))
        else LcB b g0 H1 D R (i + 1) H3)
    (hd : ∀ acc H, H D = some (.lst acc) → Kp b g0 H1 H → Box H b g0 → R n acc (era H D) → Qd H) :
    ∃ W : Nat → Nat → Hp → Prop, (∃ m, W 0 m (upd H1 D (.lst []))) ∧ ∀ i m H, W i m H →
      (J.stop i H ∧ Qd H) ∨ (J.go i H ∧ ∃ Nx : Hp → Prop, (∀ H', Nx H' → ∃ m', m' < m ∧ W (i + 1) m' H') ∧
        ∀ x H', J.yld i H x H' → g x (wipe σ vs) H' fun σ2 H2 => wipe σ2 vs = wipe σ vs ∧ tt σ2 H2 fun b H3 =>
        if b = true then te σ2 H3 fun y H4 => ∃ acc, H4 D = some (.lst acc) ∧ acc.length < sizeLine ∧ Nx (upd H4 D (.lst (acc ++ [y]))) else Nx H3) := by
  obtain ⟨nb, ng⟩ := bx_ne hB hD
  have back : ∀ {H : Hp}, Kp b g0 H1 (era H D) → Kp b g0 H1 H := fun e => e.trans (Kp.same era_back)
  refine lc_it w (LcB b g0 H1 D R) ?_ ?_ ?_ ?_
  · exact ⟨[], upd_same, by rw [era_upd, era_none hD]; exact Kp.refl _, bx_set hB nb ng, by rw [era_upd, era_none hD]; exact h0⟩
  · rintro i H _ ⟨acc, _, e, x, _⟩
    exact hG H (back e) x
  · rintro i x acc' H' hi ⟨acc, ha, e, bx, r⟩ y
    exact hs i x acc _ _ nb ng hi ha e (back e) bx r y
  · rintro H ⟨acc, ha, e, bx, r⟩
    exact hd acc H ha (back e) bx r
end BV

namespace BV
open PySem L2
/-! ### ways, cuts, what is reached -/
inductive Way (ts : List Tie) (a : Nat) : List Nat → Nat → Prop
  | nil : Way ts a [] a
  | snoc {w : List Nat} {p k q : Nat} {t : Tie} : Way ts a w p → ts[k]? = some t → (t.1 = p ∧ t.2 = q ∨ t.2 = p ∧ t.1 = q) → Way ts a (w ++ [k]) q
def oddIn (w lot : List Nat) : Bool := decide ((w.filter fun k => decide (k ∈ lot)).length % 2 = 1)
theorem oddIn_snoc (w : List Nat) (k : Nat) (lot : List Nat) : oddIn (w ++ [k]) lot = Bool.xor (oddIn w lot) (decide (k ∈ lot)) := by
  unfold oddIn
  rw [List.filter_append, List.length_append]
  by_cases h : k ∈ lot
  · have e : ([k].filter fun k => decide (k ∈ lot)).length = 1 := by simp [h]
    rw [e, decide_eq_true h, Bool.xor_true, Bool.eq_iff_iff]
    simp only [decide_eq_true_eq, Bool.not_eq_true', decide_eq_false_iff_not]
    omega
  · have e : ([k].filter fun k => decide (k ∈ lot)).length = 0 := by simp [h]
    rw [e, decide_eq_false h, Bool.xor_false, Nat.add_zero]
def side (S : List Nat) (p : Nat) : Bool := decide (p ∈ S)
/-- the ties of the lot are those between unlike sides -/
def IsCutOf (ts : List Tie) (lot S : List Nat) : Prop := ∀ k t, ts[k]? = some t → decide (k ∈ lot) = Bool.xor (side S t.1) (side S t.2)
theorem way_side {ts : List Tie} {lot S : List Nat} (h : IsCutOf ts lot S) {a p : Nat} {w : List Nat} (hw : Way ts a w p) : oddIn w lot = Bool.xor (side S a) (side S p) := by
  induction hw with
  | nil => simp [oddIn]
  | snoc hw ht hq ih =>
    rw [oddIn_snoc, ih, h _ _ ht]
    rcases hq with ⟨e1, e2⟩ | ⟨e1, e2⟩
    · rw [e1, e2]
      cases side S a <;> cases side S _ <;> cases side S _ <;> rfl
    · rw [e1, e2]
      cases side S a <;> cases side S _ <;> cases side S _ <;> rfl
def crosses (ps : List Nat) (t : Tie) : Bool := !decide (decide (t.1 ∈ ps) = decide (t.2 ∈ ps))
def cutL (ts : List Tie) (ps : List Nat) : List Nat := (List.range ts.length).filter fun k => match ts[k]? with
  | some t => crosses ps t
  | none => false
theorem crosses_xor (ps : List Nat) (t : Tie) : crosses ps t = Bool.xor (side ps t.1) (side ps t.2) := by
  unfold crosses side
  cases decide (t.1 ∈ ps) <;> cases decide (t.2 ∈ ps) <;> rfl
theorem mem_cutL {ts : List Tie} {ps : List Nat} {k : Nat} : k ∈ cutL ts ps ↔ ∃ t, ts[k]? = some t ∧ crosses ps t = true := by
  unfold cutL
  rw [List.mem_filter, List.mem_range]
  constructor
  · rintro ⟨h1, h2⟩
    have ht : ts[k]? = some ts[k] := by simp [h1]
    rw [ht] at h2
    exact ⟨_, ht, h2⟩
  · rintro ⟨t, ht, hc⟩
    refine ⟨(List.getElem?_eq_some_iff.mp ht).1, ?_⟩
    rw [ht]
    exact hc
theorem cut_of_cutL (ts : List Tie) (ps : List Nat) : IsCutOf ts (cutL ts ps) ps := fun k t ht => by
  rw [← crosses_xor, Bool.eq_iff_iff, decide_eq_true_eq, mem_cutL]
  constructor
  · rintro ⟨t2, e, h⟩
    rw [ht] at e
    cases e
    exact h
  · exact fun h => ⟨t, ht, h⟩
theorem cutL_asc (ts : List Tie) (ps : List Nat) : (cutL ts ps).Pairwise (· < ·) := List.pairwise_lt_range.filter _
theorem asc_uniq {l m : List Nat} (hl : l.Pairwise (· < ·)) (hm : m.Pairwise (· < ·)) (h : ∀ k, k ∈ l ↔ k ∈ m) : l = m :=
  ((List.perm_ext_iff_of_nodup (hl.imp fun z => Nat.ne_of_lt z) (hm.imp fun z => Nat.ne_of_lt z)).mpr h).eq_of_pairwise (le := (· < ·)) (fun a b _ _ x y => absurd x (Nat.lt_asymm y)) hl hm
/-- a lot of L ties -/
def LotA (L : Nat) (ks : List Nat) : Prop := ks.Pairwise (· < ·) ∧ ∀ k ∈ ks, k < L
theorem cutL_lot (ts : List Tie) (ps : List Nat) : LotA ts.length (cutL ts ps) := ⟨cutL_asc ts ps, fun k hk => List.mem_range.mp (List.mem_filter.mp hk).1⟩
theorem cutL_of {ts : List Tie} {lot S : List Nat} (hl : LotA ts.length lot) (h : IsCutOf ts lot S) : cutL ts S = lot := by
  refine asc_uniq (cutL_asc ts S) hl.1 fun k => ?_
  rw [mem_cutL]
  constructor
  · rintro ⟨t, ht, hc⟩
    rw [crosses_xor, ← h k t ht] at hc
    exact of_decide_eq_true hc
  · intro hk
    have hlt := hl.2 k hk
    have ht : ts[k]? = some ts[k] := List.getElem?_eq_getElem hlt
    refine ⟨_, ht, ?_⟩
    rw [crosses_xor, ← h k _ ht]
    exact decide_eq_true hk
/-- everything hangs together -/
theorem all_found {n : Nat} {ts : List Tie} (hok : WebOk n ts) {F : Nat → Prop} (h0 : F 0) (hcl : ∀ t ∈ ts, F t.1 → F t.2) : ∀ p, p < n → F p := by
  intro p
  induction p using Nat.strongRecOn with
  | _ p ih =>
    intro hp
    by_cases h : p = 0
    · rw [h]
      exact h0
    · obtain ⟨q, hq, hm⟩ := hok.hang p (by omega) hp
      exact hcl (q, p) hm (ih q hq (by omega))
/-- the places on the other side than 0, by ways -/
def farL (n : Nat) (ws : Nat → List Nat) (lot : List Nat) : List Nat := (List.range n).filter fun p => oddIn (ws p) lot
theorem far_side {n : Nat} {ts : List Tie} {ws : Nat → List Nat} {lot S : List Nat} (hw : ∀ p, p < n → Way ts 0 (ws p) p) (h : IsCutOf ts lot S) {p : Nat} (hp : p < n) :
    side (farL n ws lot) p = Bool.xor (side S 0) (side S p) := by
  rw [← way_side h (hw p hp)]
  unfold side farL
  rw [Bool.eq_iff_iff, decide_eq_true_eq, List.mem_filter, List.mem_range]
  exact ⟨fun z => z.2, fun z => ⟨hp, z⟩⟩
theorem far_cut {n : Nat} {ts : List Tie} (hends : ∀ t ∈ ts, t.1 < t.2 ∧ t.2 < n) {ws : Nat → List Nat} {lot S : List Nat} (hl : LotA ts.length lot) (hw : ∀ p, p < n → Way ts 0 (ws p) p) (h : IsCutOf ts lot S) :
    cutL ts (farL n ws lot) = lot := by
  refine cutL_of hl fun k t ht => ?_
  have hm := hends t (List.mem_of_getElem? ht)
  rw [far_side hw h (show t.1 < n by omega), far_side hw h hm.2, h k t ht]
  cases side S 0 <;> cases side S t.1 <;> cases side S t.2 <;> rfl
theorem far_iff {n : Nat} {ts : List Tie} (hends : ∀ t ∈ ts, t.1 < t.2 ∧ t.2 < n) {ws : Nat → List Nat} {lot : List Nat} (hl : LotA ts.length lot) (hw : ∀ p, p < n → Way ts 0 (ws p) p) :
    cutL ts (farL n ws lot) = lot ↔ ∃ S, IsCutOf ts lot S :=
  ⟨fun e => ⟨_, by have := cut_of_cutL ts (farL n ws lot); rwa [e] at this⟩, fun ⟨S, h⟩ => far_cut hends hl hw h⟩
end BV

namespace BV
open PySem L2
/-! Even lots, cuts, and lots without a round. -/
def b2 (b : Bool) : Nat := if b = true then 1 else 0
def atE (ts : List Tie) (p k : Nat) : Bool := match ts[k]? with
  | some t => decide (t.1 = p ∨ t.2 = p)
  | none => false
def degE (ts : List Tie) (lot : List Nat) (p : Nat) : Nat := (lot.filter (atE ts p)).length
def crossK (ts : List Tie) (S : List Nat) (k : Nat) : Bool := match ts[k]? with
  | some t => crosses S t
  | none => false
def crossN (ts : List Tie) (S lot : List Nat) : Nat := (lot.filter (crossK ts S)).length
def sumR (n : Nat) (f : Nat → Nat) : Nat := ((List.range n).map f).sum
theorem sumR_succ (n : Nat) (f : Nat → Nat) : sumR (n + 1) f = sumR n f + f n := by
  unfold sumR
  rw [List.range_succ, List.map_append, List.sum_append]
  simp
theorem sumR_add (f g : Nat → Nat) : ∀ n, sumR n (fun p => f p + g p) = sumR n f + sumR n g
  | 0 => rfl
  | n + 1 => by
    rw [sumR_succ, sumR_succ, sumR_succ, sumR_add f g n]
    omega
theorem sumR_congr {f g : Nat → Nat} : ∀ {n}, (∀ p, p < n → f p = g p) → sumR n f = sumR n g
  | 0, _ => rfl
  | n + 1, h => by
    rw [sumR_succ, sumR_succ, sumR_congr fun p hp => h p (by omega), h n (by omega)]
theorem sumR_zero (n : Nat) : sumR n (fun _ => 0) = 0 := by
  induction n with
  | zero => rfl
  | succ n ih => rw [sumR_succ, ih]
theorem sumR_one (a c : Nat) : ∀ n, sumR n (fun p => if p = a then c else 0) = if a < n then c else 0
  | 0 => by simp [sumR]
  | n + 1 => by
    rw [sumR_succ, sumR_one a c n]
    by_cases h : a < n
    · rw [if_pos h, if_neg (by omega), if_pos (by omega), Nat.add_zero]
    · by_cases e : n = a
      · rw [if_neg h, if_pos e, if_pos (by omega)]
        omega
      · rw [if_neg h, if_neg e, if_neg (by omega)]
theorem sumR_even {f : Nat → Nat} : ∀ {n}, (∀ p, p < n → f p % 2 = 0) → sumR n f % 2 = 0
  | 0, _ => rfl
  | n + 1, h => by
    rw [sumR_succ]
    have h1 := sumR_even fun p (hp : p < n) => h p (by omega)
    have h2 := h n (by omega)
    omega
theorem degE_cons (ts : List Tie) (k : Nat) (lot : List Nat) (p : Nat) : degE ts (k :: lot) p = b2 (atE ts p k) + degE ts lot p := by
  unfold degE b2
  rw [List.filter_cons]
  split
  · rw [List.length_cons]
    omega
  · omega
theorem crossN_cons (ts : List Tie) (S : List Nat) (k : Nat) (lot : List Nat) : crossN ts S (k :: lot) = b2 (crossK ts S k) + crossN ts S lot := by
  unfold crossN b2
  rw [List.filter_cons]
  split
  · rw [List.length_cons]
    omega
  · omega
/-- over the places of a side all ends of a lot are counted: as many as its ties on the cut, modulo 2 -/
theorem parity {n : Nat} {ts : List Tie} (hends : ∀ t ∈ ts, t.1 < t.2 ∧ t.2 < n) (S : List Nat) : ∀ lot : List Nat, (∀ k ∈ lot, k < ts.length) →
    sumR n (fun p => if side S p = true then degE ts lot p else 0) % 2 = crossN ts S lot % 2
  | [], _ => by
    have : sumR n (fun p => if side S p = true then degE ts [] p else 0) = sumR n (fun _ => 0) :=
      sumR_congr fun p _ => by
        show (if side S p = true then 0 else 0) = 0
        split <;> rfl
    rw [this, sumR_zero]
    rfl
  | k :: lot, h => by
    have ih := parity hends S lot fun x hx => h x (List.mem_cons_of_mem _ hx)
    have hk := h k (List.mem_cons_self ..)
    have ht : ts[k]? = some ts[k] := List.getElem?_eq_getElem hk
    generalize ts[k] = t at ht
    have he := hends t (List.mem_of_getElem? ht)
    have e1 : sumR n (fun p => if side S p = true then degE ts (k :: lot) p else 0) = (sumR n (fun p => if p = t.1 then b2 (side S t.1) else 0) + sumR n (fun p => if p = t.2 then b2 (side S t.2) else 0)) +
        sumR n (fun p => if side S p = true then degE ts lot p else 0) := by
      rw [← sumR_add, ← sumR_add]
      refine sumR_congr fun p _ => ?_
      rw [degE_cons]
      have ea : atE ts p k = decide (t.1 = p ∨ t.2 = p) := by
        unfold atE
        rw [ht]
      rw [ea]
      by_cases h1 : p = t.1
      · subst h1
        rw [if_neg (show ¬ t.1 = t.2 by omega), if_pos rfl]
        cases hs : side S t.1 <;> simp [b2]
      · by_cases h2 : p = t.2
        · subst h2
          rw [if_neg h1, if_pos rfl]
          cases hs : side S t.2 <;> simp [b2]
        · rw [if_neg h1, if_neg h2]
          have : decide (t.1 = p ∨ t.2 = p) = false := decide_eq_false (by omega)
          rw [this]
          simp [b2]
    rw [e1, sumR_one, sumR_one, if_pos (show t.1 < n by omega), if_pos he.2, crossN_cons]
    have ec : crossK ts S k = Bool.xor (side S t.1) (side S t.2) := by
      unfold crossK
      rw [ht]
      exact crosses_xor S t
    rw [ec]
    have : (b2 (side S t.1) + b2 (side S t.2)) % 2 = b2 (Bool.xor (side S t.1) (side S t.2)) % 2 := by
      cases side S t.1 <;> cases side S t.2 <;> rfl
    omega
def EvenE (n : Nat) (ts : List Tie) (lot : List Nat) : Prop := ∀ p, p < n → degE ts lot p % 2 = 0
theorem even_cross {n : Nat} {ts : List Tie} (hends : ∀ t ∈ ts, t.1 < t.2 ∧ t.2 < n) {lot : List Nat} (hl : ∀ k ∈ lot, k < ts.length) (h : EvenE n ts lot) (S : List Nat) : crossN ts S lot % 2 = 0 := by
  rw [← parity hends S lot hl]
  refine sumR_even fun p hp => ?_
  split
  · exact h p hp
  · rfl
/-- ties taken one behind another, none of which closes a round -/
inductive Forest (ts : List Tie) : List Nat → Prop
  | nil : Forest ts []
  | snoc {l : List Nat} {k : Nat} {t : Tie} : Forest ts l → ts[k]? = some t → k ∉ l → (∀ w, Way ts t.1 w t.2 → (∀ x ∈ w, x ∈ l) → False) → Forest ts (l ++ [k])
open Classical in
theorem forest_even {n : Nat} {ts : List Tie} (hends : ∀ t ∈ ts, t.1 < t.2 ∧ t.2 < n) {l : List Nat} (hF : Forest ts l) : ∀ lot : List Nat, lot.Nodup → (∀ k ∈ lot, k ∈ l) → (∀ k ∈ l, k < ts.length) → EvenE n ts lot → lot = [] := by
  induction hF with
  | nil =>
    intro lot _ h _ _
    cases lot with
    | nil => rfl
    | cons k lot => exact absurd (h k (List.mem_cons_self ..)) (by simp)
  | @snoc l k t hF ht hk hno ih =>
    intro lot hn h hlt hev
    by_cases hm : k ∈ lot
    · exfalso
      have hends2 := hends t (List.mem_of_getElem? ht)
      let S : List Nat := (List.range n).filter fun p => decide (∃ w, Way ts t.1 w p ∧ ∀ x ∈ w, x ∈ l)
      have inS : ∀ p, p < n → (side S p = true ↔ ∃ w, Way ts t.1 w p ∧ ∀ x ∈ w, x ∈ l) := fun p hp => by
        unfold side
        rw [decide_eq_true_eq, List.mem_filter, List.mem_range, decide_eq_true_eq]
        exact ⟨fun z => z.2, fun z => ⟨hp, z⟩⟩
      have c := even_cross hends (fun x hx => hlt x (h x hx)) hev S
      have e : lot.filter (crossK ts S) = lot.filter (· == k) := by
        refine List.filter_congr fun x hx => ?_
        have hxl := h x hx
        by_cases e : x = k
        · subst e
          unfold crossK
          rw [ht]
          show crosses S t = (x == x)
          rw [crosses_xor]
          have a1 : side S t.1 = true := (inS t.1 (by omega)).mpr ⟨[], .nil, by simp⟩
          have a2 : side S t.2 = false := Bool.eq_false_iff.mpr fun z => by
            obtain ⟨w, h1, h2⟩ := (inS t.2 hends2.2).mp z
            exact hno w h1 h2
          rw [a1, a2]
          simp
        · have hxl2 : x ∈ l := by
            rcases List.mem_append.mp hxl with z | z
            · exact z
            · exact absurd (List.mem_singleton.mp z) e
          have hx2 := hlt x hxl
          have htx : ts[x]? = some ts[x] := List.getElem?_eq_getElem hx2
          generalize ts[x] = u at htx
          have hu := hends u (List.mem_of_getElem? htx)
          unfold crossK
          rw [htx]
          show crosses S u = (x == k)
          rw [crosses_xor]
          have : side S u.1 = side S u.2 := by
            rw [Bool.eq_iff_iff, inS u.1 (by omega), inS u.2 hu.2]
            constructor
            · rintro ⟨w, h1, h2⟩
              exact ⟨w ++ [x], .snoc h1 htx (.inl ⟨rfl, rfl⟩), fun y hy => by
                rcases List.mem_append.mp hy with z | z
                · exact h2 y z
                · rw [List.mem_singleton.mp z]
                  exact hxl2⟩
            · rintro ⟨w, h1, h2⟩
              exact ⟨w ++ [x], .snoc h1 htx (.inr ⟨rfl, rfl⟩), fun y hy => by
                rcases List.mem_append.mp hy with z | z
                · exact h2 y z
                · rw [List.mem_singleton.mp z]
                  exact hxl2⟩
          rw [this]
          have : (x == k) = false := by simpa using e
          rw [this]
          cases side S u.2 <;> rfl
      have e2 : (lot.filter (· == k)).length = 1 := by
        have := hn.count (a := k)
        rw [if_pos hm] at this
        rw [← List.countP_eq_length_filter]
        exact this
      unfold crossN at c
      rw [e, e2] at c
      exact absurd c (by decide)
    · exact ih lot hn (fun x hx => by
        rcases List.mem_append.mp (h x hx) with z | z
        · exact z
        · rw [List.mem_singleton.mp z] at hx
          exact absurd hx hm) (fun x hx => hlt x (List.mem_append_left _ hx)) hev
/-! ### lots and their sums -/
theorem degE_app (ts : List Tie) (l m : List Nat) (p : Nat) : degE ts (l ++ m) p = degE ts l p + degE ts m p := by
  unfold degE
  rw [List.filter_append, List.length_append]
theorem degE_perm {ts : List Tie} {l m : List Nat} (h : l.Perm m) (p : Nat) : degE ts l p = degE ts m p := (h.filter _).length_eq
theorem degE_split (ts : List Tie) (f : Nat → Bool) (l : List Nat) (p : Nat) : degE ts l p = degE ts (l.filter f) p + degE ts (l.filter fun k => !f k) p := by
  induction l with
  | nil => rfl
  | cons k l ih =>
    rw [degE_cons, List.filter_cons, List.filter_cons, ih]
    cases f k
    · rw [if_neg (by decide), if_pos (by decide), degE_cons]
      omega
    · rw [if_pos rfl, if_neg (by decide), degE_cons]
      omega
def symE (l m : List Nat) : List Nat := l.filter (fun k => !decide (k ∈ m)) ++ m.filter fun k => !decide (k ∈ l)
theorem mem_symE {l m : List Nat} {k : Nat} : k ∈ symE l m ↔ (k ∈ l ∧ k ∉ m) ∨ (k ∈ m ∧ k ∉ l) := by
  unfold symE
  rw [List.mem_append, List.mem_filter, List.mem_filter]
  simp
theorem symE_nodup {l m : List Nat} (hl : l.Nodup) (hm : m.Nodup) : (symE l m).Nodup := by
  unfold symE
  rw [List.nodup_append]
  refine ⟨hl.filter _, hm.filter _, fun x hx y hy e => ?_⟩
  subst e
  have z1 := (List.mem_filter.mp hx).1
  have z2 := (List.mem_filter.mp hy).2
  simp [z1] at z2
theorem degE_sym {ts : List Tie} {l m : List Nat} (hl : l.Nodup) (hm : m.Nodup) (p : Nat) : degE ts (symE l m) p % 2 = (degE ts l p + degE ts m p) % 2 := by
  have e1 := degE_split ts (fun k => decide (k ∈ m)) l p
  have e2 := degE_split ts (fun k => decide (k ∈ l)) m p
  have e3 : degE ts (l.filter fun k => decide (k ∈ m)) p = degE ts (m.filter fun k => decide (k ∈ l)) p := by
    refine degE_perm ((List.perm_ext_iff_of_nodup (hl.filter _) (hm.filter _)).mpr fun k => ?_) p
    rw [List.mem_filter, List.mem_filter, decide_eq_true_eq, decide_eq_true_eq]
    exact And.comm
  unfold symE
  rw [degE_app]
  omega
/-- the sum of two lots of L ties -/
def sumL (L : Nat) (l m : List Nat) : List Nat := (List.range L).filter fun k => Bool.xor (decide (k ∈ l)) (decide (k ∈ m))
theorem sumL_lot (L : Nat) (l m : List Nat) : LotA L (sumL L l m) := ⟨List.pairwise_lt_range.filter _, fun k hk => List.mem_range.mp (List.mem_filter.mp hk).1⟩
theorem mem_sumL {L : Nat} {l m : List Nat} {k : Nat} : k ∈ sumL L l m ↔ k < L ∧ ((k ∈ l ∧ k ∉ m) ∨ (k ∈ m ∧ k ∉ l)) := by
  unfold sumL
  rw [List.mem_filter, List.mem_range]
  by_cases h1 : k ∈ l <;> by_cases h2 : k ∈ m <;> simp [h1, h2]
theorem LotA.nd {L : Nat} {l : List Nat} (h : LotA L l) : l.Nodup := h.1.imp fun z => Nat.ne_of_lt z
theorem lot_ext {L : Nat} {l m : List Nat} (hl : LotA L l) (hm : LotA L m) (h : ∀ k, k < L → (k ∈ l ↔ k ∈ m)) : l = m :=
  asc_uniq hl.1 hm.1 fun k => ⟨fun z => (h k (hl.2 k z)).mp z, fun z => (h k (hm.2 k z)).mpr z⟩
theorem sumL_perm {L : Nat} {l m : List Nat} (hl : LotA L l) (hm : LotA L m) : (sumL L l m).Perm (symE l m) := by
  refine (List.perm_ext_iff_of_nodup (sumL_lot L l m).nd (symE_nodup hl.nd hm.nd)).mpr fun k => ?_
  rw [mem_sumL, mem_symE]
  constructor
  · exact fun z => z.2
  · intro z
    refine ⟨?_, z⟩
    rcases z with z | z
    · exact hl.2 k z.1
    · exact hm.2 k z.1
theorem sumL_even {n : Nat} {ts : List Tie} {L : Nat} {l m : List Nat} (hl : LotA L l) (hm : LotA L m) (h1 : EvenE n ts l) (h2 : EvenE n ts m) : EvenE n ts (sumL L l m) := fun p hp => by
  rw [degE_perm (sumL_perm hl hm), degE_sym hl.nd hm.nd]
  have := h1 p hp
  have := h2 p hp
  omega
theorem sumL_back {L : Nat} {l m : List Nat} (hl : LotA L l) : sumL L (sumL L l m) m = l := by
  refine lot_ext (sumL_lot _ _ _) hl fun k hk => ?_
  rw [mem_sumL, mem_sumL]
  by_cases h1 : k ∈ l <;> by_cases h2 : k ∈ m <;> simp [h1, h2, hk]
/-! ### ways as lots -/
theorem way_deg {n : Nat} {ts : List Tie} (hends : ∀ t ∈ ts, t.1 < t.2 ∧ t.2 < n) {a q : Nat} {w : List Nat} (h : Way ts a w q) (p : Nat) : degE ts w p % 2 = (b2 (decide (p = a)) + b2 (decide (p = q))) % 2 := by
  induction h with
  | nil =>
    show 0 % 2 = _
    cases decide (p = a) <;> rfl
  | @snoc w r k q t hw ht he ih =>
    have hte := hends t (List.mem_of_getElem? ht)
    have e : degE ts [k] p = b2 (decide (p = r)) + b2 (decide (p = q)) := by
      rw [degE_cons]
      have ea : atE ts p k = decide (t.1 = p ∨ t.2 = p) := by
        unfold atE
        rw [ht]
      rw [ea]
      show _ + 0 = _
      rcases he with ⟨rfl, rfl⟩ | ⟨rfl, rfl⟩
      · by_cases h1 : p = t.1
        · subst h1
          rw [decide_eq_true (.inl rfl), decide_eq_true rfl, decide_eq_false (by omega)]
          rfl
        · by_cases h2 : p = t.2
          · subst h2
            rw [decide_eq_true (.inr rfl), decide_eq_true rfl, decide_eq_false h1]
            rfl
          · rw [decide_eq_false h1, decide_eq_false h2, decide_eq_false (by omega)]
            rfl
      · by_cases h1 : p = t.1
        · subst h1
          rw [decide_eq_true (.inl rfl), decide_eq_true rfl, decide_eq_false (by omega)]
          rfl
        · by_cases h2 : p = t.2
          · subst h2
            rw [decide_eq_true (.inr rfl), decide_eq_true rfl, decide_eq_false h1]
            rfl
          · rw [decide_eq_false h1, decide_eq_false h2, decide_eq_false (by omega)]
            rfl
    rw [degE_app, e]
    have hx : (b2 (decide (p = r)) + b2 (decide (p = r))) % 2 = 0 := by omega
    omega
theorem round_even {n : Nat} {ts : List Tie} (hends : ∀ t ∈ ts, t.1 < t.2 ∧ t.2 < n) {w : List Nat} {k : Nat} {t : Tie} (ht : ts[k]? = some t) (h : Way ts t.1 w t.2) : EvenE n ts (w ++ [k]) := fun p _ => by
  have h2 : Way ts t.1 (w ++ [k]) t.1 := .snoc h ht (.inr ⟨rfl, rfl⟩)
  rw [way_deg hends h2]
  omega
/-- in a lot without a round there is one way -/
theorem way_one {n : Nat} {ts : List Tie} (hends : ∀ t ∈ ts, t.1 < t.2 ∧ t.2 < n) {l : List Nat} (hF : Forest ts l) (hl : ∀ k ∈ l, k < ts.length) {a q : Nat} {v w : List Nat} (hv : Way ts a v q) (hw : Way ts a w q)
    (nv : v.Nodup) (nw : w.Nodup) (lv : ∀ k ∈ v, k ∈ l) (lw : ∀ k ∈ w, k ∈ l) : v.Perm w := by
  have e := forest_even hends hF (symE v w) (symE_nodup nv nw) (fun k hk => by
    rcases mem_symE.mp hk with z | z
    · exact lv k z.1
    · exact lw k z.1) hl fun p hp => by
      rw [degE_sym nv nw]
      have h1 := way_deg hends hv p
      have h2 := way_deg hends hw p
      omega
  refine (List.perm_ext_iff_of_nodup nv nw).mpr fun k => ?_
  have hn : k ∉ symE v w := by
    rw [e]
    simp
  rw [mem_symE] at hn
  by_cases h1 : k ∈ v <;> by_cases h2 : k ∈ w <;> simp [h1, h2] at hn ⊢
/-! ### all sums of the rounds of a tree -/
/-- a round for each tie c, which has none of the others but ties of l -/
def Founds (n : Nat) (ts : List Tie) (l : List Nat) (cs : List Nat) (R : Nat → List Nat) : Prop :=
  ∀ c ∈ cs, LotA ts.length (R c) ∧ EvenE n ts (R c) ∧ c ∈ R c ∧ c ∉ l ∧ ∀ k ∈ R c, k = c ∨ k ∈ l
def sumsOf (L : Nat) (R : Nat → List Nat) : List Nat → List (List Nat)
  | [] => [[]]
  | c :: cs => sumsOf L R cs ++ (sumsOf L R cs).map fun o => sumL L o (R c)
theorem sums_are {n : Nat} {ts : List Tie} (hends : ∀ t ∈ ts, t.1 < t.2 ∧ t.2 < n) {l : List Nat} (hF : Forest ts l) (hl : ∀ k ∈ l, k < ts.length) {R : Nat → List Nat} :
    ∀ {cs : List Nat}, cs.Nodup → Founds n ts l cs R → (sumsOf ts.length R cs).Nodup ∧ ∀ E : List Nat, E ∈ sumsOf ts.length R cs ↔ LotA ts.length E ∧ EvenE n ts E ∧ ∀ k ∈ E, k ∈ l ∨ k ∈ cs
  | [], _, _ => by
    refine ⟨by simp [sumsOf], fun E => ?_⟩
    simp only [sumsOf, List.mem_singleton, List.not_mem_nil, or_false]
    constructor
    · rintro rfl
      exact ⟨⟨List.Pairwise.nil, fun _ h => nomatch h⟩, fun _ _ => rfl, fun _ h => nomatch h⟩
    · rintro ⟨h1, h2, h3⟩
      exact forest_even hends hF E h1.nd h3 hl h2
  | c :: cs, hn, hR => by
    obtain ⟨hc, hn2⟩ := List.nodup_cons.mp hn
    obtain ⟨ih1, ih2⟩ := sums_are hends hF hl hn2 fun x hx => hR x (List.mem_cons_of_mem _ hx)
    obtain ⟨r1, r2, r3, r4, r5⟩ := hR c (List.mem_cons_self ..)
    have noc : ∀ E ∈ sumsOf ts.length R cs, c ∉ E := fun E hE hcE => by
      rcases ((ih2 E).mp hE).2.2 c hcE with z | z
      · exact r4 z
      · exact hc z
    refine ⟨?_, fun E => ?_⟩
    · show (sumsOf ts.length R cs ++ (sumsOf ts.length R cs).map fun o => sumL ts.length o (R c)).Nodup
      rw [List.nodup_append]
      refine ⟨ih1, ?_, fun x hx y hy e => ?_⟩
      · refine (List.pairwise_map).mpr (ih1.imp_of_mem fun {x y} hx hy hxy e => hxy ?_)
        rw [← sumL_back (m := R c) ((ih2 x).mp hx).1, e, sumL_back ((ih2 y).mp hy).1]
      · subst e
        obtain ⟨o, ho, rfl⟩ := List.mem_map.mp hy
        refine noc _ hx (mem_sumL.mpr ⟨r1.2 c r3, .inr ⟨r3, noc o ho⟩⟩)
    · show E ∈ sumsOf ts.length R cs ++ (sumsOf ts.length R cs).map (fun o => sumL ts.length o (R c)) ↔ _
      rw [List.mem_append]
      constructor
      · rintro (h | h)
        · obtain ⟨h1, h2, h3⟩ := (ih2 E).mp h
          exact ⟨h1, h2, fun k hk => (h3 k hk).imp id (List.mem_cons_of_mem _)⟩
        · obtain ⟨o, ho, rfl⟩ := List.mem_map.mp h
          obtain ⟨h1, h2, h3⟩ := (ih2 o).mp ho
          refine ⟨sumL_lot _ _ _, sumL_even h1 r1 h2 r2, fun k hk => ?_⟩
          rcases (mem_sumL.mp hk).2 with z | z
          · exact (h3 k z.1).imp id (List.mem_cons_of_mem _)
          · rcases r5 k z.1 with e | e
            · exact .inr (by rw [e]; exact List.mem_cons_self ..)
            · exact .inl e
      · rintro ⟨h1, h2, h3⟩
        by_cases hcE : c ∈ E
        · refine .inr (List.mem_map.mpr ⟨sumL ts.length E (R c), (ih2 _).mpr ⟨sumL_lot _ _ _, sumL_even h1 r1 h2 r2, fun k hk => ?_⟩, sumL_back h1⟩)
          rcases (mem_sumL.mp hk).2 with z | z
          · rcases h3 k z.1 with e | e
            · exact .inl e
            · rcases List.mem_cons.mp e with e | e
              · exact absurd r3 (by rw [← e]; exact fun q => z.2 (by rw [e]; exact r3))
              · exact .inr e
          · rcases r5 k z.1 with e | e
            · exact absurd hcE (by rw [← e]; exact z.2)
            · exact .inl e
        · refine .inl ((ih2 E).mpr ⟨h1, h2, fun k hk => ?_⟩)
          rcases h3 k hk with e | e
          · exact .inl e
          · rcases List.mem_cons.mp e with e | e
            · exact absurd hk (by rw [e]; exact hcE)
            · exact .inr e
end BV

namespace BV
open PySem L2
/-! the first tree of a web -/
theorem Way.trans {ts : List Tie} {a p q : Nat} {w v : List Nat} (h1 : Way ts a w p) (h2 : Way ts p v q) : Way ts a (w ++ v) q := by
  induction h2 with
  | nil =>
    rw [List.append_nil]
    exact h1
  | snoc _ ht he ih =>
    rw [← List.append_assoc]
    exact .snoc ih ht he
def Conn (ts : List Tie) (es : List Nat) (p q : Nat) : Prop := ∃ w, Way ts p w q ∧ ∀ x ∈ w, x ∈ es
theorem Conn.refl {ts : List Tie} {es : List Nat} (p : Nat) : Conn ts es p p := ⟨[], .nil, fun _ h => nomatch h⟩
theorem Conn.trans {ts : List Tie} {es : List Nat} {p q r : Nat} (h1 : Conn ts es p q) (h2 : Conn ts es q r) : Conn ts es p r := by
  obtain ⟨w, a1, a2⟩ := h1
  obtain ⟨v, b1, b2⟩ := h2
  exact ⟨w ++ v, a1.trans b1, fun x hx => (List.mem_append.mp hx).elim (a2 x) (b2 x)⟩
theorem Conn.step {ts : List Tie} {es : List Nat} {k : Nat} {t : Tie} {p q : Nat} (hk : k ∈ es) (ht : ts[k]? = some t) (he : t.1 = p ∧ t.2 = q ∨ t.2 = p ∧ t.1 = q) : Conn ts es p q :=
  ⟨[] ++ [k], .snoc .nil ht he, fun x hx => by
    have : x = k := by simpa using hx
    rw [this]
    exact hk⟩
theorem Conn.mono {ts : List Tie} {es fs : List Nat} {p q : Nat} (h : Conn ts es p q) (m : ∀ x ∈ es, x ∈ fs) : Conn ts fs p q := by
  obtain ⟨w, h1, h2⟩ := h
  exact ⟨w, h1, fun x hx => m x (h2 x hx)⟩
theorem way_back {ts : List Tie} {es : List Nat} {p q : Nat} {w : List Nat} (h : Way ts p w q) : (∀ x ∈ w, x ∈ es) → Conn ts es q p := by
  induction h with
  | nil => exact fun _ => .refl _
  | @snoc w r k q t hw ht he ih =>
    intro hx
    have h1 := ih fun x hx2 => hx x (List.mem_append_left _ hx2)
    refine Conn.trans (Conn.step (hx k (List.mem_append_right _ (List.mem_singleton.mpr rfl))) ht ?_) h1
    rcases he with ⟨e1, e2⟩ | ⟨e1, e2⟩
    · exact .inr ⟨e2, e1⟩
    · exact .inl ⟨e2, e1⟩
theorem Conn.symm {ts : List Tie} {es : List Nat} {p q : Nat} (h : Conn ts es p q) : Conn ts es q p := by
  obtain ⟨w, h1, h2⟩ := h
  exact way_back h1 h2
open Classical in
/-- the ties that are taken of the first i ones -/
noncomputable def treeL (ts : List Tie) : Nat → List Nat
  | 0 => []
  | i + 1 => match ts[i]? with
    | some t => if Conn ts (treeL ts i) t.1 t.2 then treeL ts i else treeL ts i ++ [i]
    | none => treeL ts i
theorem tree_yes {ts : List Tie} {i : Nat} {t : Tie} (ht : ts[i]? = some t) (h : Conn ts (treeL ts i) t.1 t.2) : treeL ts (i + 1) = treeL ts i := by
  rw [treeL, ht]
  exact if_pos h
theorem tree_no {ts : List Tie} {i : Nat} {t : Tie} (ht : ts[i]? = some t) (h : ¬ Conn ts (treeL ts i) t.1 t.2) : treeL ts (i + 1) = treeL ts i ++ [i] := by
  rw [treeL, ht]
  exact if_neg h
theorem tree_lot (ts : List Tie) : ∀ i, i ≤ ts.length → LotA i (treeL ts i)
  | 0, _ => ⟨List.Pairwise.nil, fun _ h => nomatch h⟩
  | i + 1, hi => by
    have ih := tree_lot ts i (by omega)
    have ht : ts[i]? = some ts[i] := List.getElem?_eq_getElem (by omega)
    by_cases h : Conn ts (treeL ts i) ts[i].1 ts[i].2
    · rw [tree_yes ht h]
      exact ⟨ih.1, fun k hk => Nat.lt_succ_of_lt (ih.2 k hk)⟩
    · rw [tree_no ht h]
      refine ⟨?_, fun k hk => ?_⟩
      · rw [List.pairwise_append]
        refine ⟨ih.1, List.pairwise_singleton _ _, fun x hx y hy => ?_⟩
        rw [List.mem_singleton.mp hy]
        exact ih.2 x hx
      · rcases List.mem_append.mp hk with z | z
        · exact Nat.lt_succ_of_lt (ih.2 k z)
        · rw [List.mem_singleton.mp z]
          exact Nat.lt_succ_self i
theorem tree_forest (ts : List Tie) : ∀ i, i ≤ ts.length → Forest ts (treeL ts i)
  | 0, _ => .nil
  | i + 1, hi => by
    have ih := tree_forest ts i (by omega)
    have hl := tree_lot ts i (by omega)
    have ht : ts[i]? = some ts[i] := List.getElem?_eq_getElem (by omega)
    by_cases h : Conn ts (treeL ts i) ts[i].1 ts[i].2
    · rw [tree_yes ht h]
      exact ih
    · rw [tree_no ht h]
      exact .snoc ih ht (fun z => Nat.lt_irrefl _ (hl.2 i z)) fun w h1 h2 => h ⟨w, h1, h2⟩
theorem tree_mono {ts : List Tie} {i : Nat} : ∀ {j}, i ≤ j → ∀ x ∈ treeL ts i, x ∈ treeL ts j
  | 0, h, x, hx => by
    obtain rfl : i = 0 := by omega
    exact hx
  | j + 1, h, x, hx => by
    by_cases e : i = j + 1
    · subst e
      exact hx
    · have ih := tree_mono (ts := ts) (i := i) (j := j) (by omega) x hx
      rw [treeL]
      split
      · split
        · exact ih
        · exact List.mem_append_left _ ih
      · exact ih
/-- a tie is taken just if its ends hang not together along those ahead -/
theorem tree_mem {ts : List Tie} {k : Nat} {t : Tie} (ht : ts[k]? = some t) : ∀ {i}, k < i → i ≤ ts.length → (k ∈ treeL ts i ↔ ¬ Conn ts (treeL ts k) t.1 t.2)
  | 0, h, _ => by omega
  | i + 1, h, hi => by
    have hl := tree_lot ts i (by omega)
    have hti : ts[i]? = some ts[i] := List.getElem?_eq_getElem (by omega)
    by_cases e : k = i
    · subst e
      rw [ht] at hti
      have hti2 := Option.some.inj hti
      by_cases hc : Conn ts (treeL ts k) t.1 t.2
      · rw [tree_yes ht hc]
        exact ⟨fun z => absurd (hl.2 k z) (Nat.lt_irrefl _), fun z => absurd hc z⟩
      · rw [tree_no ht hc]
        exact ⟨fun _ => hc, fun _ => List.mem_append_right _ (List.mem_singleton.mpr rfl)⟩
    · rw [← tree_mem ht (i := i) (by omega) (by omega)]
      by_cases hc : Conn ts (treeL ts i) ts[i].1 ts[i].2
      · rw [tree_yes hti hc]
      · rw [tree_no hti hc, List.mem_append, List.mem_singleton]
        exact ⟨fun z => z.resolve_right e, .inl⟩
theorem tree_ends {ts : List Tie} {k : Nat} {t : Tie} (ht : ts[k]? = some t) : Conn ts (treeL ts ts.length) t.1 t.2 := by
  have hk := (List.getElem?_eq_some_iff.mp ht).1
  by_cases hc : Conn ts (treeL ts k) t.1 t.2
  · exact hc.mono (tree_mono (by omega))
  · exact .step ((tree_mem ht hk (Nat.le_refl _)).mpr hc) ht (.inl ⟨rfl, rfl⟩)
theorem tree_all {n : Nat} {ts : List Tie} (hok : WebOk n ts) : ∀ p, p < n → Conn ts (treeL ts ts.length) 0 p :=
  all_found hok (F := fun p => Conn ts (treeL ts ts.length) 0 p) (.refl 0) fun t ht h => by
    obtain ⟨k, hk⟩ := List.mem_iff_getElem?.mp ht
    exact h.trans (tree_ends hk)
/-! names of the parts -/
def numL (n : Nat) (lab : Nat → Nat) : Nat := ((List.range n).filter fun x => decide (x ∈ (List.range n).map lab)).length
structure Lab (n : Nat) (ts : List Tie) (tk : List Nat) (lab : Nat → Nat) : Prop where
  lt : ∀ p, p < n → lab p < n
  conn : ∀ p q, p < n → q < n → (lab p = lab q ↔ Conn ts tk p q)
  num : numL n lab + tk.length = n
theorem mem_lab {n : Nat} {lab : Nat → Nat} {x : Nat} : x ∈ (List.range n).map lab ↔ ∃ p, p < n ∧ lab p = x := by
  rw [List.mem_map]
  exact ⟨fun ⟨p, h1, h2⟩ => ⟨p, List.mem_range.mp h1, h2⟩, fun ⟨p, h1, h2⟩ => ⟨p, List.mem_range.mpr h1, h2⟩⟩
theorem lab_start (n : Nat) (ts : List Tie) : Lab n ts [] id := by
  refine ⟨fun p hp => hp, fun p q _ _ => ⟨fun e => by rw [show p = q from e]; exact .refl q, fun ⟨w, h1, h2⟩ => ?_⟩, ?_⟩
  · cases h1 with
    | nil => rfl
    | @snoc w' r k _ _ _ _ _ => exact absurd (h2 k (List.mem_append_right _ (List.mem_singleton.mpr rfl))) (by simp)
  · unfold numL
    have e : ((List.range n).filter fun x => decide (x ∈ (List.range n).map id)) = List.range n := List.filter_eq_self.mpr fun x hx => decide_eq_true (mem_lab.mpr ⟨x, List.mem_range.mp hx, rfl⟩)
    rw [e, List.length_range]
    rfl
theorem lab_step {n : Nat} {ts : List Tie} {tk : List Nat} {lab : Nat → Nat} (hends : ∀ t ∈ ts, t.1 < t.2 ∧ t.2 < n) (h : Lab n ts tk lab) {i : Nat} {t : Tie} (ht : ts[i]? = some t) (hne : lab t.1 ≠ lab t.2) :
    Lab n ts (tk ++ [i]) (fun p => if lab p = lab t.2 then lab t.1 else lab p) := by
  have hte := hends t (List.mem_of_getElem? ht)
  have h1n : t.1 < n := by omega
  have mem_i : i ∈ tk ++ [i] := List.mem_append_right _ (List.mem_singleton.mpr rfl)
  have mono : ∀ x ∈ tk, x ∈ tk ++ [i] := fun x hx => List.mem_append_left _ hx
  refine ⟨fun p hp => ?_, fun p q hp hq => ⟨fun e => ?_, fun ⟨w, h1, h2⟩ => ?_⟩, ?_⟩
  · show (if lab p = lab t.2 then lab t.1 else lab p) < n
    split
    · exact h.lt _ h1n
    · exact h.lt p hp
  · have e' : (if lab p = lab t.2 then lab t.1 else lab p) = (if lab q = lab t.2 then lab t.1 else lab q) := e
    by_cases a : lab p = lab t.2
    · by_cases b : lab q = lab t.2
      · exact ((h.conn p q hp hq).mp (a.trans b.symm)).mono mono
      · rw [if_pos a, if_neg b] at e'
        exact (((h.conn p t.2 hp hte.2).mp a).mono mono).trans ((Conn.step mem_i ht (.inr ⟨rfl, rfl⟩)).trans (((h.conn t.1 q h1n hq).mp e').mono mono))
    · by_cases b : lab q = lab t.2
      · rw [if_neg a, if_pos b] at e'
        exact (((h.conn p t.1 hp h1n).mp e').mono mono).trans ((Conn.step mem_i ht (.inl ⟨rfl, rfl⟩)).trans (((h.conn t.2 q hte.2 hq).mp b.symm).mono mono))
      · rw [if_neg a, if_neg b] at e'
        exact ((h.conn p q hp hq).mp e').mono mono
  · have key : ∀ {w : List Nat} {q : Nat}, Way ts p w q → (∀ x ∈ w, x ∈ tk ++ [i]) → q < n ∧ (if lab p = lab t.2 then lab t.1 else lab p) = (if lab q = lab t.2 then lab t.1 else lab q) := fun {w q} hw => by
      induction hw with
      | nil => exact fun _ => ⟨hp, rfl⟩
      | @snoc w r k q u hw hu he ih =>
        intro hx
        obtain ⟨hr, e1⟩ := ih fun x hx2 => hx x (List.mem_append_left _ hx2)
        have hue := hends u (List.mem_of_getElem? hu)
        have hq : q < n := by
          rcases he with ⟨_, e2⟩ | ⟨_, e2⟩ <;> omega
        refine ⟨hq, e1.trans ?_⟩
        rcases List.mem_append.mp (hx k (List.mem_append_right _ (List.mem_singleton.mpr rfl))) with z | z
        · rw [(h.conn r q hr hq).mpr (.step z hu he)]
        · obtain rfl : k = i := List.mem_singleton.mp z
          rw [ht] at hu
          cases hu
          rcases he with ⟨rfl, rfl⟩ | ⟨rfl, rfl⟩
          · rw [if_neg hne, if_pos rfl]
          · rw [if_neg hne, if_pos rfl]
    exact (key h1 h2).2
  · have nd : ((List.range n).filter fun x => decide (x ∈ (List.range n).map lab)).Nodup := List.nodup_range.filter _
    have hb : lab t.2 ∈ (List.range n).filter fun x => decide (x ∈ (List.range n).map lab) := List.mem_filter.mpr ⟨List.mem_range.mpr (h.lt _ hte.2), decide_eq_true (mem_lab.mpr ⟨t.2, hte.2, rfl⟩)⟩
    have e : ((List.range n).filter fun x => decide (x ∈ (List.range n).map fun p => if lab p = lab t.2 then lab t.1 else lab p)) = ((List.range n).filter fun x => decide (x ∈ (List.range n).map lab)).erase (lab t.2) := by
      rw [nd.erase_eq_filter, List.filter_filter]
      refine List.filter_congr fun x _ => ?_
      rw [Bool.eq_iff_iff, Bool.and_eq_true, decide_eq_true_eq, decide_eq_true_eq, mem_lab, mem_lab, bne_iff_ne]
      constructor
      · rintro ⟨p, hp, e⟩
        by_cases a : lab p = lab t.2
        · rw [if_pos a] at e
          exact ⟨fun z => hne (e.trans z), t.1, h1n, e⟩
        · rw [if_neg a] at e
          exact ⟨fun z => a (e.trans z), p, hp, e⟩
      · rintro ⟨hx, p, hp, e⟩
        exact ⟨p, hp, by rw [if_neg (fun a => hx (e.symm.trans a)), e]⟩
    have hn := h.num
    unfold numL at hn ⊢
    rw [e, List.length_erase_of_mem hb, List.length_append, List.length_singleton]
    have := List.length_pos_of_mem hb
    omega
theorem lab_tree {n : Nat} {ts : List Tie} (hends : ∀ t ∈ ts, t.1 < t.2 ∧ t.2 < n) : ∀ i, i ≤ ts.length → ∃ lab, Lab n ts (treeL ts i) lab
  | 0, _ => ⟨id, lab_start n ts⟩
  | i + 1, hi => by
    obtain ⟨lab, h⟩ := lab_tree hends i (by omega)
    have ht : ts[i]? = some ts[i] := List.getElem?_eq_getElem (by omega)
    have hte := hends _ (List.mem_of_getElem? ht)
    by_cases hc : Conn ts (treeL ts i) ts[i].1 ts[i].2
    · rw [tree_yes ht hc]
      exact ⟨lab, h⟩
    · rw [tree_no ht hc]
      exact ⟨_, lab_step hends h ht fun e => hc ((h.conn _ _ (by omega) hte.2).mp e)⟩
theorem tree_len {n : Nat} {ts : List Tie} (hok : WebOk n ts) : (treeL ts ts.length).length + 1 = n := by
  obtain ⟨lab, h⟩ := lab_tree hok.ends ts.length (Nat.le_refl _)
  have hpos := hok.pos
  have hn := h.num
  have e : ((List.range n).filter fun x => decide (x ∈ (List.range n).map lab)) = (List.range n).filter (· == lab 0) := by
    refine List.filter_congr fun x _ => ?_
    rw [Bool.eq_iff_iff, decide_eq_true_eq, beq_iff_eq, mem_lab]
    constructor
    · rintro ⟨p, hp, e⟩
      rw [← e]
      exact ((h.conn 0 p hpos hp).mpr (tree_all hok p hp)).symm
    · exact fun e => ⟨0, hpos, e.symm⟩
  have e2 : ((List.range n).filter (· == lab 0)).length = 1 := by
    have := (List.nodup_range (n := n)).count (a := lab 0)
    rw [if_pos (List.mem_range.mpr (h.lt 0 hpos))] at this
    rw [← List.countP_eq_length_filter]
    exact this
  unfold numL at hn
  rw [e, e2] at hn
  omega
end BV

/-! sorted(xs), xs a list of tuples of whole numbers, the first of them () -/
namespace BV
open PySem PySem.W PySem.Calls PySem.SeqAt PyProof.Rows
section
variable {prog : Program} {w : World} {A : Around} {E : Value → Shared → Prop} {s : Shared}
theorem call_tuple_lt {Q : Value → Shared → Prop} {l b : Addr} {items items2 : Array Value} {e r : Nat → Bool} (hl : s.heap.IsTuple l items) (hb : s.heap.IsTuple b items2)
    (he : ∀ j (h1 : j < items.size) (h2 : j < items2.size), EqAt A.in1 s items[j] items2[j] (e j)) (hr : ∀ j (h1 : j < items.size) (h2 : j < items2.size), e j = false → RcLt A.in1 s items[j] items2[j] (r j))
    (h : Q (.bool (firstLt e r (decide (items.size < items2.size)) (List.range (min items.size items2.size)))) s) : wpAny (model prog w) A (call (.builtin "tuple.__lt__") [.ref l, .ref b]) Q E s := by
  obtain ⟨⟨cls, dd, data, sl⟩, ho, hc, n, hd⟩ := id hl
  obtain ⟨⟨cls2, dd2, data2, sl2⟩, ho2, hc2, n2, hd2⟩ := id hb
  simp only at hc hd hc2 hd2
  subst hc hd hc2 hd2
  exact call_meets F.slot_tuple_lt ⟨_, ho, rfl⟩ F.entry_tuple_lt (F.args_tuple_lt_2 _ _) (tuple_ltAt l b items items2 n n2 dd dd2 sl sl2 e r) ⟨ho, ho2, he, hr, h⟩
theorem oneLt_tup {xs ys : List PyData} {a b : Value} {as bs : List Addr} {Q : Bool → Shared → Prop} (ra : Reads s.heap a (.tuple xs) as) (rb : Reads s.heap b (.tuple ys) bs) (h : alike (.tuple xs) (.tuple ys) = true)
    (hu : A.units + min (PyData.tuple xs).depth (PyData.tuple ys).depth < cLine) (hq : Q (dataLt (.tuple xs) (.tuple ys)) s) : wpAny (model prog w) A (oneLt' true a b) Q E s := by
  have hal : alikeAll xs ys = true := by simpa [alike] using h
  cases ra with
  | @tuple l o vs n _ as₁ h1 h2 h3 h4 =>
    cases rb with
    | @tuple l' o' vs' n' _ bs₁ k1 k2 k3 k4 =>
      have n1 : vs.size = xs.length := by simpa using ReadsAll.length _ _ _ h4
      have n2 : vs'.size = ys.length := by simpa using ReadsAll.length _ _ _ k4
      rw [dataLt_tuple, ← firstLt_toks xs ys hal, ← n1, ← n2] at hq
      rw [oneLt'_eq]
      simp only [if_true]
      refine wpAny_bind (wpAny_cRoomFor (room_here hu) ?_)
      refine wpAny_bind (wpAny_callSpecialIfBound?_slot (T := "tuple") ⟨_, h1, h2⟩ F.slot_tuple_lt (call_tuple_lt (e := pairEq xs ys) (r := fun j => dataLt (xs.getD j .none) (ys.getD j .none)) ⟨_, h1, h2, _, h3⟩ ⟨_, k1, k2, _, k3⟩ (fun j j1 j2 => ?_) (fun j j1 j2 hj => ?_) ?_))
      · have := eqAt_alikeAll xs ys A.in1 s vs.toList vs'.toList _ _ h4 k4 hal (room_in hu) j (by simpa using j1) (by simpa using j2)
        simpa using this
      · have := rcLt_alikeAll xs ys A.in1 s vs.toList vs'.toList _ _ h4 k4 hal (room_in hu) j (by simpa using j1) (by simpa using j2) hj
        simpa using this
      · exact wpAny_truthy_bool hq
end
section
variable {M : Model} {A : Around} {E : Value → Shared → Prop} {s : Shared}
/-- the first items of tuples, none of () -/
theorem firsts_some : ∀ (vs : List Value) (ds : List PyData) {Q : List (Option Value) → Shared → Prop}, EachIs (fun v d => ∃ xs as, d = PyData.tuple xs ∧ Reads s.heap v d as) vs ds →
    (∀ fs : List (Option Value), fs.length = vs.length → (ds.head? = some (.tuple []) → fs[0]? = some none) → Q fs s) → wpAny M A (vs.mapM firstOfTuple') Q E s
  | _, _, _, .nil, h => by
    rw [List.mapM_nil]
    exact wpAny_pure (h [] rfl fun z => by cases z)
  | v :: vs, d :: ds, Q, .cons ⟨xs, as, e, r⟩ t, h => by
    subst e
    cases r with
    | @tuple a o ws n _ _ ho hc hd hr =>
      rw [List.mapM_cons]
      refine wpAny_bind ?_
      rw [kas_first_eq]
      refine wpAny_bind (Looks.here (show Looks M s.heap (typeOf (.ref a)) o.cls from (Looks.ld ho).andThen .now) ?_)
      rw [hc, if_neg (by first | decide | simp)]
      refine wpAny_bind (listItems_at ho hd (wpAny_pure ?_))
      refine wpAny_bind (firsts_some vs ds (Q := fun bs s' => wpAny M A (pure (ws[0]? :: bs)) Q E s') t fun fs hl _ => wpAny_pure (h _ (by rw [List.length_cons, List.length_cons, hl]) fun z => ?_))
      have e : xs = [] := by
        have := Option.some.inj z
        injection this
      subst e
      have hz : ws.toList = [] := by
        cases q : ws.toList with
        | nil => rfl
        | cons _ _ =>
          rw [q] at hr
          cases hr
      have : ws[0]? = none := by
        rw [← Array.getElem?_toList, hz]
        rfl
      rw [this]
      rfl
theorem kind_unit {vs : List Value} {ds : List PyData} {Q : SortKind → Shared → Prop} (h2 : 2 ≤ vs.length) (t : EachIs (fun v d => ∃ xs as, d = PyData.tuple xs ∧ Reads s.heap v d as) vs ds) (h0 : ds.head? = some (.tuple [])) (h : Q oneType' s) :
    wpAny M A (keyKind' vs.toArray) Q E s := by
  rw [keyKind'_eq, List.mapM_toArray, map_eq_pure_bind]
  refine wpAny_bind (wpAny_bind (firsts_some vs ds t fun fs hl hf => wpAny_pure ?_))
  have hf0 := hf h0
  obtain ⟨rest, rfl⟩ : ∃ rest, fs = none :: rest := by
    cases fs with
    | nil => cases hf0
    | cons f rest =>
      have : f = none := Option.some.inj hf0
      exact ⟨rest, by rw [this]⟩
  rw [if_neg (by simp), if_neg (by simp)]
  rw [oneTypeOnly'_eq, List.mapM_toArray, map_eq_pure_bind]
  refine wpAny_bind (wpAny_bind (wpAny_bind (kas_mapM (r := Value.type "tuple") _ (fun v hv Q' hq => ?_) (wpAny_pure ?_))))
  · obtain ⟨d, hd, xs, as, rfl, r⟩ := t.left v hv
    exact (looks_reads r).here hq
  · obtain ⟨v₁, rest, rfl⟩ : ∃ v₁ rest, vs = v₁ :: rest := by
      cases vs with
      | nil => simp at h2
      | cons v₁ rest => exact ⟨v₁, rest, rfl⟩
    have hall : ((List.map (fun _ => Value.type "tuple") (v₁ :: rest)).toArray.all fun x => x == Value.type "tuple") = true := by
      simp only [List.all_toArray, List.all_map, List.all_eq_true]
      intro _ _
      rfl
    have h0 : (List.map (fun _ => Value.type "tuple") (v₁ :: rest)).toArray[0]? = some (Value.type "tuple") := by simp
    rw [h0]
    simp only [hall, if_true]
    exact wpAny_pure (wpAny_pure h)
end
section
variable {prog : Program} {w : World} {A : Around} {E : Value → Shared → Prop} {s : Shared}
theorem sortsAt_unit {vs : List Value} {ds : List PyData} (e : EachIs (fun v d => ∃ as, Reads s.heap v d as) vs ds) (hal : AllAlike ds) (ht : ∀ d ∈ ds, ∃ xs, d = PyData.tuple xs) (h0 : ds.head? = some (.tuple [])) (hu : ∀ d, d ∈ ds → A.units + d.depth < cLine) : SortsAt prog w A s (dataKind s.heap ds) vs := by
  refine ⟨fun v hv => ?_, oneType', ?_, fun h2 E Q hq => ?_⟩
  · obtain ⟨d, hd, as, r⟩ := e.left v hv
    exact ⟨_, dataKind_some hal hd r⟩
  · intro E x y a b Q ha hb hq
    obtain ⟨d, as, hd, ra, rfl⟩ := dataKind_inv ha
    obtain ⟨d', as', hd', rb, rfl⟩ := dataKind_inv hb
    obtain ⟨xs, rfl⟩ := ht d hd
    obtain ⟨ys, rfl⟩ := ht d' hd'
    rw [keyLt'_oneType]
    exact oneLt_tup ra rb (hal _ hd _ hd') (Nat.lt_of_le_of_lt (Nat.add_le_add_left (Nat.min_le_left _ _) _) (hu _ hd)) hq
  · exact kind_unit h2 ((each_mem e).mono fun v d ⟨⟨as, r⟩, hd⟩ => by
      obtain ⟨xs, rfl⟩ := ht d hd
      exact ⟨xs, as, rfl, r⟩) h0 hq
theorem sorted_unit {β : Type} {vs : List Value} {bs : List β} {enc : β → PyData} {R : Value → β → Prop} {l : Addr} {Q : Value → Shared → Prop} (hl : s.heap.IsList l vs.toArray) (e : EachIs R vs bs) (er : EachIs (fun v b => ∃ as, Reads s.heap v (enc b) as) vs bs) (hal : AllAlike (bs.map enc))
    (ht : ∀ b : β, ∃ xs, enc b = PyData.tuple xs) (h0 : (bs.map enc).head? = some (.tuple [])) (hL : bs.length ≤ sizeLine)
    (hu : ∀ b, b ∈ bs → A.units + 2 + (enc b).depth < cLine) (h : ∀ out, out.length = bs.length → EachIs R out (bs.mergeSort (dataLe false enc)) → Q (.ref (s.heap.objs.size + 1)) { s with heap := sortedAll s.heap vs (List.toArray out) }) :
    wpAny (model prog w) A (call (.builtin "sorted") [.ref l]) Q E s := by
  have er' : EachIs (fun v b => ∃ as, Reads (sortingHeap (copyHeap s.heap vs) (s.heap.objs.size + 1) vs) v (enc b) as) vs bs := er.mono fun _ _ ⟨as, r⟩ => ⟨as, PyProof.Rows.Reads.keeps (fun _ _ => sorting_copy_old) r⟩
  refine sorted_vals hl (sortsAt_unit (s := { s with heap := sortingHeap (copyHeap s.heap vs) (s.heap.objs.size + 1) vs }) (each_map (R := fun v d => ∃ as, Reads (sortingHeap (copyHeap s.heap vs) (s.heap.objs.size + 1) vs) v d as) enc er') hal (fun d hd => ?_) h0 (bound_map hu)) (by rw [e.length]; exact hL)
    (h _ (by rw [sortVals_length false rfl]; exact e.length) (sortVals_data false e er' hal))
  obtain ⟨b, _, rfl⟩ := List.mem_map.mp hd
  exact ht b
end
end BV

namespace BV
open PySem L2 PySem.W PySem.SeqAt PyProof.Rows
theorem each_dp {K : PySem.W.Frag} {H : Hp} : ∀ {lots : List (List Nat)} {xs : List V} {us : List Value}, Vals xs us → DpAll K H xs (lots.map lotD) → EachIs (fun v b => ∃ x : V, RelV x v ∧ Dp K H x (lotD b)) us lots
  | [], _, _, r, h => by
    have h' : DpAll K H _ [] := h
    cases h'
    cases r
    exact .nil
  | l :: lots, _, _, r, h => by
    have h' : DpAll K H _ (lotD l :: lots.map lotD) := h
    cases h' with
    | cons d ds =>
      cases r with
      | cons r1 rs => exact .cons ⟨_, r1, d⟩ (each_dp rs ds)
theorem dp_each {K : PySem.W.Frag} {H : Hp} : ∀ {lots : List (List Nat)} {us : List Value}, EachIs (fun v b => ∃ x : V, RelV x v ∧ Dp K H x (lotD b)) us lots → ∃ ys, Vals ys us ∧ DpAll K H ys (lots.map lotD)
  | _, _, .nil => ⟨[], .nil, .nil⟩
  | _, _, .cons ⟨x, r, d⟩ t => by
    obtain ⟨ys, h1, h2⟩ := dp_each t
    exact ⟨x :: ys, .cons r h1, .cons d h2⟩
theorem lotD_ints (ks : List Nat) : lotD ks = .tuple ((ks.map fun (k : Nat) => (k : Int)).map PyData.int) := by
  unfold lotD
  rw [List.map_map]
  rfl
theorem lotD_depth (ks : List Nat) : (lotD ks).depth ≤ 1 := by
  rw [lotD_ints]
  have := depth_ints (ks.map fun (k : Nat) => (k : Int))
  simp only [PyData.depth]
  omega
theorem lotD_alike (k m : List Nat) : alike (lotD k) (lotD m) = true := by
  rw [lotD_ints, lotD_ints]
  simp only [alike]
  exact alike_ints _ _
abbrev leL : List Nat → List Nat → Bool := dataLe false lotD
def rSortLots (K : PySem.W.Frag) : List V → Hp → VK → Prop := fun vs H Q => ∃ (a : Addr) (xs : List V) (lots : List (List Nat)), vs = [V.ref a] ∧ SqL K H a xs ∧ DpAll K H xs (lots.map lotD) ∧ lots.head? = some [] ∧
  ∀ (p : Addr) (ys : List V), H p = none → DpAll K H ys ((lots.mergeSort leL).map lotD) → Q (.ref p) (upd H p (.lst ys))
theorem cr_sortLots {X : Cx} (K : PySem.W.Frag) (hu : X.A.units + 64 < cLine) (h : X.K = K := by rfl) : CallR X (.builtin "sorted") (rSortLots K) := by
  subst h
  intro pins s σ H vs us Q I r h
  obtain ⟨a, xs, lots, rfl, hs, hd, h0, q⟩ := h
  obtain ⟨its, rv, hl, hz⟩ := I.list hs
  rw [Vals.ref1 r]
  have e := each_dp rv hd
  have er : EachIs (fun v b => ∃ as, Reads s.heap v (lotD b) as) its lots := e.mono fun v b ⟨x, r, d⟩ => Dp.reads I _ x v d r
  refine sorted_unit hl.isList e er (AllAlike.of lotD_alike) (fun b => ⟨_, rfl⟩) ?_ (by rw [← e.length, ← rv.length]; exact hz) (fun b _ => by have := lotD_depth b; omega) fun out ho eo => ?_
  · rw [List.head?_map, h0]
    rfl
  · obtain ⟨ys, hv, hD⟩ := dp_each eo
    obtain ⟨ep, he'⟩ := PyProof.Rows.sortedAll_at s.heap its (List.toArray out)
    have hlen : ys.length ≤ sizeLine := by
      rw [hv.length, ho, ← e.length, ← rv.length]
      exact hz
    exact ⟨.ref _, upd H (s.heap.objs.size + 1) (.lst ys), I.laid (t' := s.toks) (fun _ _ => PyProof.Rows.sortedAll_old) (Nat.le_succ _) ⟨hlen, out, ep, hv, he'⟩, rfl, q _ ys (I.hok.fresh (Nat.le_succ _)) hD⟩
theorem leL_eq (p q : List Nat) : leL p q = decide ((p.map fun (k : Nat) => (k : Int)) ≤ q.map fun (k : Nat) => (k : Int)) := by
  show (!dataLt (lotD q) (lotD p)) = _
  rw [lotD_ints, lotD_ints, dataLt_tuple]
  show (!rowLt ((q.map fun (k : Nat) => (k : Int)).map .int) ((p.map fun (k : Nat) => (k : Int)).map .int)) = _
  rw [dataLt_ints]
  by_cases h : (q.map fun (k : Nat) => (k : Int)) < p.map fun (k : Nat) => (k : Int)
  · have h' : ¬ (p.map fun (k : Nat) => (k : Int)) ≤ q.map fun (k : Nat) => (k : Int) := fun r => List.not_lt.mpr r h
    simp [h, h']
  · have h' : (p.map fun (k : Nat) => (k : Int)) ≤ q.map fun (k : Nat) => (k : Int) := List.not_lt.mp h
    simp [h, h']
theorem cast_inj : ∀ {p q : List Nat}, (p.map fun (k : Nat) => (k : Int)) = (q.map fun (k : Nat) => (k : Int)) → p = q
  | [], [], _ => rfl
  | [], _ :: _, h => by cases h
  | _ :: _, [], h => by cases h
  | a :: p, b :: q, h => by
    have h1 := List.cons.inj h
    rw [cast_inj h1.2, Int.ofNat.inj h1.1]
theorem sort_lots {l m : List (List Nat)} (h : l.Perm m) : l.mergeSort leL = m.mergeSort leL := by
  have tr : ∀ a b c : List Nat, leL a b = true → leL b c = true → leL a c = true := fun a b c h1 h2 => by
    rw [leL_eq, decide_eq_true_eq] at h1 h2 ⊢
    exact List.le_trans h1 h2
  have to : ∀ a b : List Nat, (leL a b || leL b a) = true := fun a b => by
    rw [leL_eq, leL_eq, Bool.or_eq_true, decide_eq_true_eq, decide_eq_true_eq]
    exact List.le_total _ _
  refine ((List.mergeSort_perm l leL).trans (h.trans (List.mergeSort_perm m leL).symm)).eq_of_pairwise (le := fun a b => leL a b = true) (fun a b _ _ h1 h2 => ?_) (List.pairwise_mergeSort tr to l) (List.pairwise_mergeSort tr to m)
  rw [leL_eq, decide_eq_true_eq] at h1 h2
  exact cast_inj (List.le_antisymm h1 h2)
end BV

namespace BV
open PySem L2
/-! lots by numbers -/
def lotN (L z : Nat) : List Nat := (List.range L).filter fun k => decide (z / 2 ^ (L - 1 - k) % 2 = 1)
theorem lotN_lot (L z : Nat) : LotA L (lotN L z) := ⟨List.pairwise_lt_range.filter _, fun k hk => List.mem_range.mp (List.mem_filter.mp hk).1⟩
theorem mem_lotN {L z k : Nat} : k ∈ lotN L z ↔ k < L ∧ z / 2 ^ (L - 1 - k) % 2 = 1 := by
  unfold lotN
  rw [List.mem_filter, List.mem_range, decide_eq_true_eq]
theorem bits_inj : ∀ (L : Nat) {y z : Nat}, y < 2 ^ L → z < 2 ^ L → (∀ i, i < L → (y / 2 ^ i % 2 = 1 ↔ z / 2 ^ i % 2 = 1)) → y = z
  | 0, y, z, hy, hz, _ => by
    rw [Nat.pow_zero] at hy hz
    omega
  | L + 1, y, z, hy, hz, h => by
    have e := bits_inj L (y := y / 2) (z := z / 2) (by rw [Nat.pow_succ] at hy; omega) (by rw [Nat.pow_succ] at hz; omega) fun i hi => by
      have := h (i + 1) (by omega)
      rw [Nat.pow_succ, Nat.mul_comm, ← Nat.div_div_eq_div_mul, ← Nat.div_div_eq_div_mul] at this
      exact this
    have h0 := h 0 (by omega)
    rw [Nat.pow_zero, Nat.div_one, Nat.div_one] at h0
    omega
theorem bits_ex (f : Nat → Bool) : ∀ L : Nat, ∃ z, z < 2 ^ L ∧ ∀ i, i < L → (z / 2 ^ i % 2 = 1 ↔ f i = true)
  | 0 => ⟨0, by rw [Nat.pow_zero]; omega, fun i hi => absurd hi (Nat.not_lt_zero i)⟩
  | L + 1 => by
    obtain ⟨z, h1, h2⟩ := bits_ex f L
    by_cases hf : f L = true
    · refine ⟨z + 2 ^ L, by rw [Nat.pow_succ]; omega, fun i hi => ?_⟩
      by_cases e : i = L
      · rw [e, hf, Nat.add_div_right _ (Nat.pow_pos (by decide)), Nat.div_eq_of_lt h1]
        exact ⟨fun _ => rfl, fun _ => rfl⟩
      · rw [← h2 i (by omega)]
        have e2 : 2 ^ L = 2 ^ i * (2 * 2 ^ (L - i - 1)) := by
          rw [← Nat.pow_succ', ← Nat.pow_add]
          congr 1
          omega
        rw [e2, Nat.add_mul_div_left _ _ (Nat.pow_pos (by decide))]
        generalize z / 2 ^ i = a
        generalize 2 ^ (L - i - 1) = b
        constructor <;> intro h <;> omega
    · refine ⟨z, by rw [Nat.pow_succ]; omega, fun i hi => ?_⟩
      by_cases e : i = L
      · rw [e, Nat.div_eq_of_lt h1]
        exact ⟨fun q => (by cases q), fun q => absurd q hf⟩
      · exact h2 i (by omega)
theorem lotN_inj {L y z : Nat} (hy : y < 2 ^ L) (hz : z < 2 ^ L) (h : lotN L y = lotN L z) : y = z := by
  refine bits_inj L hy hz fun i hi => ?_
  have h1 : L - 1 - i ∈ lotN L y ↔ L - 1 - i ∈ lotN L z := by rw [h]
  rw [mem_lotN, mem_lotN, show L - 1 - (L - 1 - i) = i by omega] at h1
  have h2 : L - 1 - i < L := by omega
  exact ⟨fun q => (h1.mp ⟨h2, q⟩).2, fun q => (h1.mpr ⟨h2, q⟩).2⟩
theorem lotN_all {L : Nat} {E : List Nat} (hE : LotA L E) : ∃ z, z < 2 ^ L ∧ lotN L z = E := by
  obtain ⟨z, h1, h2⟩ := bits_ex (fun i => decide (L - 1 - i ∈ E)) L
  refine ⟨z, h1, lot_ext (lotN_lot L z) hE fun k hk => ?_⟩
  rw [mem_lotN, h2 (L - 1 - k) (by omega), decide_eq_true_eq, show L - 1 - (L - 1 - k) = k by omega]
  exact ⟨fun q => q.2, fun q => ⟨hk, q⟩⟩
open Classical in
noncomputable def evensL (n : Nat) (ts : List Tie) (i : Nat) : List (List Nat) := ((List.range i).map (lotN ts.length)).filter fun E => decide (EvenE n ts E)
open Classical in
theorem evens_nd (n : Nat) (ts : List Tie) : (evensL n ts (2 ^ ts.length)).Nodup := by
  unfold evensL
  refine List.Pairwise.filter _ ?_
  refine List.pairwise_map.mpr (List.nodup_range.imp_of_mem fun {x y} hx hy hxy e => hxy (lotN_inj (List.mem_range.mp hx) (List.mem_range.mp hy) e))
open Classical in
theorem mem_evens {n : Nat} {ts : List Tie} {E : List Nat} : E ∈ evensL n ts (2 ^ ts.length) ↔ LotA ts.length E ∧ EvenE n ts E := by
  unfold evensL
  rw [List.mem_filter, decide_eq_true_eq, List.mem_map]
  constructor
  · rintro ⟨⟨z, _, rfl⟩, h⟩
    exact ⟨lotN_lot _ _, h⟩
  · rintro ⟨h1, h2⟩
    obtain ⟨z, hz, rfl⟩ := lotN_all h1
    exact ⟨⟨z, List.mem_range.mpr hz, rfl⟩, h2⟩
theorem sums_len (L : Nat) (R : Nat → List Nat) : ∀ cs : List Nat, (sumsOf L R cs).length = 2 ^ cs.length
  | [] => rfl
  | c :: cs => by
    show (sumsOf L R cs ++ (sumsOf L R cs).map _).length = _
    rw [List.length_append, List.length_map, sums_len L R cs, List.length_cons, Nat.pow_succ]
    omega
theorem sums_head (L : Nat) (R : Nat → List Nat) : ∀ cs : List Nat, (sumsOf L R cs).head? = some []
  | [] => rfl
  | c :: cs => by
    show (sumsOf L R cs ++ (sumsOf L R cs).map _).head? = _
    rw [List.head?_append, sums_head L R cs]
    rfl
open Classical in
theorem evens_head (n : Nat) (ts : List Tie) : ∀ i, (evensL n ts (i + 1)).head? = some [] := fun i => by
  have e : lotN ts.length 0 = [] := List.filter_eq_nil_iff.mpr fun k _ => by simp
  have ev : EvenE n ts [] := fun _ _ => rfl
  unfold evensL
  rw [List.range_succ_eq_map, List.map_cons, e, List.filter_cons, if_pos (decide_eq_true ev)]
  rfl
/-! lists of lots as data -/
theorem alike_lots : ∀ ls : List (List Nat), PySem.W.alikeAll (ls.map lotD) (ls.map lotD) = true
  | [] => by simp [PySem.W.alikeAll]
  | l :: ls => by
    have h := alike_lots ls
    have h2 := lotD_alike l l
    show PySem.W.alikeAll (lotD l :: ls.map lotD) (lotD l :: ls.map lotD) = true
    rw [PySem.W.alikeAll, h, h2]
    rfl
theorem eqv_lotsL (ls : List (List Nat)) : PyData.eqv (.list (ls.map lotD)) (.list (ls.map lotD)) = true :=
  PySem.W.eqv_refl_alike _ (by
    simp only [PySem.W.alike]
    exact alike_lots ls)
theorem lay_lots : ∀ ls : List (List Nat), PyData.canLayAll0 (ls.map lotD) = true
  | [] => by simp [PyData.canLayAll0]
  | l :: ls => by
    have h := lay_lots ls
    have h1 := lay_ints (l.map fun (k : Nat) => (k : Int))
    show PyData.canLayAll0 (lotD l :: ls.map lotD) = true
    rw [lotD_ints]
    rw [List.map_map] at h1
    simp [PyData.canLayAll0, PyData.canLay0, h, h1]
theorem deep_lots : ∀ ls : List (List Nat), PyData.depthAll (ls.map lotD) ≤ 1
  | [] => by simp [PyData.depthAll]
  | l :: ls => by
    have h := deep_lots ls
    have h1 := lotD_depth l
    show PyData.depthAll (lotD l :: ls.map lotD) ≤ 1
    rw [PyData.depthAll]
    omega
theorem shaped_lotsL (ls : List (List Nat)) : SeqAt.shaped (.list (ls.map lotD)) = true := by
  have h1 := lay_lots ls
  have h2 := deep_lots ls
  have h3 : PyData.depthAll (ls.map lotD) + 1 ≤ 64 := by omega
  simp [SeqAt.shaped, PyData.canLay0, PyData.depth, h1, h3]
end BV

namespace BV
open PySem L2
/-! deeds told together -/
def Deed.starAt (p : Nat) : Deed → Int
  | .star q t => if q = p then t else 0
  | .round _ _ => 0
def Deed.roundAt (E : List Nat) : Deed → Int
  | .star _ _ => 0
  | .round ks t => if ks = E then t else 0
def sT (ds : List Deed) (p : Nat) : Int := (ds.map (Deed.starAt p)).sum
def rT (ds : List Deed) (E : List Nat) : Int := (ds.map (Deed.roundAt E)).sum
def nz (z : Int) : Bool := decide (z ≠ 0)
def togS (n : Nat) (ds : List Deed) : List Deed := ((List.range n).filter fun p => nz (sT ds p)).map fun p => .star p (sT ds p)
def togR (ev : List (List Nat)) (ds : List Deed) : List Deed := (ev.filter fun E => nz (rT ds E)).map fun E => .round E (rT ds E)
def tog (n : Nat) (ev : List (List Nat)) (ds : List Deed) : List Deed := togS n ds ++ togR ev ds
theorem sum_app (a b : List Int) : (a ++ b).sum = a.sum + b.sum := List.sum_append
theorem sum_perm {a b : List Int} (h : a.Perm b) : a.sum = b.sum := by
  induction h with
  | nil => rfl
  | cons x _ ih => simp only [List.sum_cons, ih]
  | swap x y l => simp only [List.sum_cons]; omega
  | trans _ _ ih1 ih2 => rw [ih1, ih2]
theorem sT_app (a b : List Deed) (p : Nat) : sT (a ++ b) p = sT a p + sT b p := by
  unfold sT
  rw [List.map_append, sum_app]
theorem rT_app (a b : List Deed) (E : List Nat) : rT (a ++ b) E = rT a E + rT b E := by
  unfold rT
  rw [List.map_append, sum_app]
theorem sT_perm {a b : List Deed} (h : a.Perm b) (p : Nat) : sT a p = sT b p := sum_perm (h.map _)
theorem rT_perm {a b : List Deed} (h : a.Perm b) (E : List Nat) : rT a E = rT b E := sum_perm (h.map _)
theorem tog_congr {n : Nat} {ev : List (List Nat)} {a b : List Deed} (h1 : ∀ p, sT a p = sT b p) (h2 : ∀ E, rT a E = rT b E) : tog n ev a = tog n ev b := by
  unfold tog togS togR
  rw [funext h1, funext h2]
theorem tog_perm {n : Nat} {ev : List (List Nat)} {a b : List Deed} (h : a.Perm b) : tog n ev a = tog n ev b := tog_congr (sT_perm h) (rT_perm h)
theorem sT_neg : ∀ (ds : List Deed) (p : Nat), sT (ds.map Deed.neg) p = -(sT ds p)
  | [], _ => rfl
  | d :: ds, p => by
    have h := sT_neg ds p
    unfold sT at h ⊢
    simp only [List.map_cons, List.sum_cons, h]
    cases d with
    | star q t =>
      show (if q = p then -t else 0) + _ = -((if q = p then t else 0) + _)
      split <;> omega
    | round ks t =>
      show (0 : Int) + _ = -(0 + _)
      omega
theorem rT_neg : ∀ (ds : List Deed) (E : List Nat), rT (ds.map Deed.neg) E = -(rT ds E)
  | [], _ => rfl
  | d :: ds, E => by
    have h := rT_neg ds E
    unfold rT at h ⊢
    simp only [List.map_cons, List.sum_cons, h]
    cases d with
    | star q t =>
      show (0 : Int) + _ = -(0 + _)
      omega
    | round ks t =>
      show (if ks = E then -t else 0) + _ = -((if ks = E then t else 0) + _)
      split <;> omega
theorem sT_undo (ds : List Deed) (p : Nat) : sT (ds ++ ds.reverse.map Deed.neg) p = 0 := by
  rw [sT_app, sT_neg, sT_perm ds.reverse_perm]
  omega
theorem rT_undo (ds : List Deed) (E : List Nat) : rT (ds ++ ds.reverse.map Deed.neg) E = 0 := by
  rw [rT_app, rT_neg, rT_perm ds.reverse_perm]
  omega
theorem tog_undo (n : Nat) (ev : List (List Nat)) (ds : List Deed) : tog n ev (ds ++ ds.reverse.map Deed.neg) = [] := by
  unfold tog togS togR
  have h1 : (List.range n).filter (fun p => nz (sT (ds ++ ds.reverse.map Deed.neg) p)) = [] := List.filter_eq_nil_iff.mpr fun p _ => by rw [sT_undo]; decide
  have h2 : ev.filter (fun E => nz (rT (ds ++ ds.reverse.map Deed.neg) E)) = [] := List.filter_eq_nil_iff.mpr fun p _ => by rw [rT_undo]; decide
  rw [h1, h2]
  rfl
def Deed.dbl : Deed → Deed
  | .star p t => .star p (2 * t)
  | .round ks t => .round ks (2 * t)
theorem tog_twice (n : Nat) (ev : List (List Nat)) (ds : List Deed) : tog n ev (ds ++ ds) = (tog n ev ds).map Deed.dbl := by
  have e1 : ∀ p, sT (ds ++ ds) p = 2 * sT ds p := fun p => by rw [sT_app]; omega
  have e2 : ∀ E, rT (ds ++ ds) E = 2 * rT ds E := fun E => by rw [rT_app]; omega
  have n2 : ∀ z : Int, nz (2 * z) = nz z := fun z => by
    unfold nz
    by_cases h : z = 0
    · subst h
      rfl
    · rw [decide_eq_true h, decide_eq_true (show 2 * z ≠ 0 by omega)]
  unfold tog togS togR
  rw [List.map_append, List.map_map, List.map_map, funext e1, funext e2]
  simp only [n2]
  rfl
/-- the numbers of some, each by itself -/
theorem sum_one {α : Type} [DecidableEq α] (c : α → Bool) (p : α) (t : Int) : ∀ l : List α, l.Nodup → (l.map fun q => if c q = true then (if q = p then t else 0) else 0).sum = if p ∈ l ∧ c p = true then t else 0
  | [], _ => by simp
  | q :: l, h => by
    have hn := List.nodup_cons.mp h
    have ih := sum_one c p t l hn.2
    rw [List.map_cons, List.sum_cons, ih]
    by_cases e : q = p
    · subst e
      have z : ¬ (q ∈ l ∧ c q = true) := fun y => hn.1 y.1
      rw [if_neg z, if_pos rfl]
      by_cases hc : c q = true
      · rw [if_pos hc, if_pos ⟨List.mem_cons_self .., hc⟩]
        omega
      · rw [if_neg hc, if_neg fun y => hc y.2]
        omega
    · have e2 : p ∈ q :: l ↔ p ∈ l := by
        rw [List.mem_cons]
        exact ⟨fun y => y.elim (fun z => absurd z.symm e) id, .inr⟩
      rw [if_neg e]
      simp only [e2, ite_self]
      omega
theorem sum_nz {α : Type} (f : α → Int) (g : α → Int) (h : ∀ x, f x = 0 → g x = 0) : ∀ l : List α, ((l.filter fun x => nz (f x)).map g).sum = (l.map g).sum
  | [] => rfl
  | x :: l => by
    have ih := sum_nz f g h l
    rw [List.filter_cons]
    by_cases e : f x = 0
    · rw [if_neg (by unfold nz; simp [e]), ih, List.map_cons, List.sum_cons, h x e]
      omega
    · rw [if_pos (by unfold nz; simp [e]), List.map_cons, List.map_cons, List.sum_cons, List.sum_cons, ih]
theorem sum_pt {α : Type} [DecidableEq α] (f : α → Int) (p : α) : ∀ l : List α, l.Nodup → (l.map fun q => if q = p then f q else 0).sum = if p ∈ l then f p else 0
  | [], _ => by simp
  | q :: l, h => by
    have hn := List.nodup_cons.mp h
    have ih := sum_pt f p l hn.2
    rw [List.map_cons, List.sum_cons, ih]
    by_cases e : q = p
    · subst e
      rw [if_neg hn.1, if_pos rfl, if_pos (List.mem_cons_self ..)]
      omega
    · have e2 : p ∈ q :: l ↔ p ∈ l := by
        rw [List.mem_cons]
        exact ⟨fun y => y.elim (fun z => absurd z.symm e) id, .inr⟩
      rw [if_neg e]
      simp only [e2]
      omega
theorem sum_zero {α : Type} {f : α → Int} (l : List α) (h : ∀ x ∈ l, f x = 0) : (l.map f).sum = 0 := by
  induction l with
  | nil => rfl
  | cons x l ih => rw [List.map_cons, List.sum_cons, h x (List.mem_cons_self ..), ih fun y hy => h y (List.mem_cons_of_mem _ hy)]; rfl
theorem sT_tog {n : Nat} {ev : List (List Nat)} {ds : List Deed} {p : Nat} (hp : p < n) : sT (tog n ev ds) p = sT ds p := by
  unfold tog
  rw [sT_app]
  have h1 : sT (togS n ds) p = sT ds p := by
    have e1 : sT (togS n ds) p = (((List.range n).filter fun q => nz (sT ds q)).map fun q => if q = p then sT ds q else 0).sum := by
      conv => lhs; unfold sT
      unfold togS
      rw [List.map_map]
      rfl
    rw [e1, sum_nz (sT ds) _ (fun x hx => by rw [hx, ite_self]), sum_pt (sT ds) p _ List.nodup_range, if_pos (List.mem_range.mpr hp)]
  have h2 : sT (togR ev ds) p = 0 := by
    unfold sT togR
    rw [List.map_map]
    exact sum_zero _ fun _ _ => rfl
  rw [h1, h2]
  omega
theorem rT_tog {n : Nat} {ev : List (List Nat)} {ds : List Deed} {E : List Nat} (hv : ev.Nodup) (hE : E ∈ ev) : rT (tog n ev ds) E = rT ds E := by
  unfold tog
  rw [rT_app]
  have h1 : rT (togR ev ds) E = rT ds E := by
    have e1 : rT (togR ev ds) E = ((ev.filter fun q => nz (rT ds q)).map fun q => if q = E then rT ds q else 0).sum := by
      conv => lhs; unfold rT
      unfold togR
      rw [List.map_map]
      rfl
    rw [e1, sum_nz (rT ds) _ (fun x hx => by rw [hx, ite_self]), sum_pt (rT ds) E _ hv, if_pos hE]
  have h2 : rT (togS n ds) E = 0 := by
    unfold rT togS
    rw [List.map_map]
    exact sum_zero _ fun _ _ => rfl
  rw [h1, h2]
  omega
theorem tog_tog {n : Nat} {ev : List (List Nat)} {ds : List Deed} (hv : ev.Nodup) : tog n ev (tog n ev ds) = tog n ev ds := by
  have h1 : togS n (tog n ev ds) = togS n ds := by
    unfold togS
    rw [List.filter_congr (q := fun p => nz (sT ds p)) fun p hp => by rw [sT_tog (List.mem_range.mp hp)]]
    exact List.map_congr_left fun p hp => by rw [sT_tog (List.mem_range.mp (List.mem_filter.mp hp).1)]
  have h2 : togR ev (tog n ev ds) = togR ev ds := by
    unfold togR
    rw [List.filter_congr (q := fun p => nz (rT ds p)) fun p hp => by rw [rT_tog hv hp]]
    exact List.map_congr_left fun p hp => by rw [rT_tog hv (List.mem_filter.mp hp).1]
  show togS n (tog n ev ds) ++ togR ev (tog n ev ds) = _
  rw [h1, h2]
  rfl
/-- all its places and rounds are known -/
def Deed.In (n : Nat) (ev : List (List Nat)) : Deed → Prop
  | .star p _ => p < n
  | .round ks _ => ks ∈ ev
theorem tog_in {n : Nat} {ev : List (List Nat)} {ds : List Deed} {d : Deed} (h : d ∈ tog n ev ds) : d.In n ev := by
  rcases List.mem_append.mp h with q | q
  · obtain ⟨p, hp, rfl⟩ := List.mem_map.mp q
    exact List.mem_range.mp (List.mem_filter.mp hp).1
  · obtain ⟨E, hE, rfl⟩ := List.mem_map.mp q
    exact (List.mem_filter.mp hE).1
theorem sum_split {α : Type} (f g : α → Int) : ∀ l : List α, (l.map fun x => f x + g x).sum = (l.map f).sum + (l.map g).sum
  | [] => rfl
  | x :: l => by
    rw [List.map_cons, List.map_cons, List.map_cons, List.sum_cons, List.sum_cons, List.sum_cons, sum_split f g l]
    omega
def allE (ts : List Tie) (n : Nat) (ev : List (List Nat)) (ds : List Deed) (k : Nat) : Int :=
  ((List.range n).map fun p => if hit ts p k = true then sT ds p else 0).sum + (ev.map fun E => if decide (k ∈ E) = true then rT ds E else 0).sum
theorem allE_eq {ts : List Tie} {n : Nat} {ev : List (List Nat)} (hv : ev.Nodup) (k : Nat) : ∀ ds : List Deed, (∀ d ∈ ds, d.In n ev) → allE ts n ev ds k = effect ts ds k
  | [], _ => by
    unfold allE
    rw [sum_zero _ (fun p _ => by show (if _ then (0 : Int) else 0) = 0; rw [ite_self]), sum_zero _ (fun p _ => by show (if _ then (0 : Int) else 0) = 0; rw [ite_self])]
    rfl
  | d :: ds, h => by
    have ih := allE_eq (ts := ts) hv k ds fun x hx => h x (List.mem_cons_of_mem _ hx)
    have hd := h d (List.mem_cons_self ..)
    have e1 : ∀ p, sT (d :: ds) p = d.starAt p + sT ds p := fun p => by unfold sT; rw [List.map_cons, List.sum_cons]
    have e2 : ∀ E, rT (d :: ds) E = d.roundAt E + rT ds E := fun E => by unfold rT; rw [List.map_cons, List.sum_cons]
    have s1 : ((List.range n).map fun p => if hit ts p k = true then sT (d :: ds) p else 0).sum =
        ((List.range n).map fun p => if hit ts p k = true then d.starAt p else 0).sum + ((List.range n).map fun p => if hit ts p k = true then sT ds p else 0).sum := by
      rw [← sum_split]
      congr 1
      exact List.map_congr_left fun p _ => by rw [e1]; split <;> omega
    have s2 : (ev.map fun E => if decide (k ∈ E) = true then rT (d :: ds) E else 0).sum =
        (ev.map fun E => if decide (k ∈ E) = true then d.roundAt E else 0).sum + (ev.map fun E => if decide (k ∈ E) = true then rT ds E else 0).sum := by
      rw [← sum_split]
      congr 1
      exact List.map_congr_left fun p _ => by rw [e2]; split <;> omega
    have e3 : effect ts (d :: ds) k = d.part ts k + effect ts ds k := by simp only [effect, List.map_cons, List.sum_cons]
    have e4 : ((List.range n).map fun p => if hit ts p k = true then d.starAt p else 0).sum + (ev.map fun E => if decide (k ∈ E) = true then d.roundAt E else 0).sum = d.part ts k := by
      cases d with
      | star q t =>
        have g1 := sum_one (fun p => hit ts p k) q t (List.range n) List.nodup_range
        have g2 : (ev.map fun E => if decide (k ∈ E) = true then (Deed.star q t).roundAt E else 0).sum = 0 := sum_zero _ fun E _ => by show (if _ then (0 : Int) else 0) = 0; rw [ite_self]
        rw [g2]
        have g3 : ((List.range n).map fun p => if hit ts p k = true then (Deed.star q t).starAt p else 0) = (List.range n).map fun p => if hit ts p k = true then (if p = q then t else 0) else 0 :=
          List.map_congr_left fun p _ => by
            show (if hit ts p k = true then (if q = p then t else 0) else 0) = _
            by_cases e : q = p
            · subst e
              simp
            · have e' : ¬ p = q := fun z => e z.symm
              simp [e, e']
        rw [g3, g1]
        show _ = (if hit ts q k = true then t else 0)
        have hq : q < n := hd
        by_cases c : hit ts q k = true
        · rw [if_pos ⟨List.mem_range.mpr hq, c⟩, if_pos c]
          omega
        · rw [if_neg fun z => c z.2, if_neg c]
          omega
      | round ks t =>
        have g1 := sum_one (fun E => decide (k ∈ E)) ks t ev hv
        have g2 : ((List.range n).map fun p => if hit ts p k = true then (Deed.round ks t).starAt p else 0).sum = 0 := sum_zero _ fun E _ => by show (if _ then (0 : Int) else 0) = 0; rw [ite_self]
        rw [g2]
        have g3 : (ev.map fun E => if decide (k ∈ E) = true then (Deed.round ks t).roundAt E else 0) = ev.map fun E => if decide (k ∈ E) = true then (if E = ks then t else 0) else 0 :=
          List.map_congr_left fun E _ => by
            show (if decide (k ∈ E) = true then (if ks = E then t else 0) else 0) = _
            by_cases e : ks = E
            · subst e
              simp
            · have e' : ¬ E = ks := fun z => e z.symm
              simp [e, e']
        rw [g3, g1]
        show _ = (if decide (k ∈ ks) = true then t else 0)
        have hq : ks ∈ ev := hd
        by_cases c : decide (k ∈ ks) = true
        · rw [if_pos ⟨hq, c⟩, if_pos c]
          omega
        · rw [if_neg fun z => c z.2, if_neg c]
          omega
    unfold allE at ih ⊢
    rw [s1, s2, e3]
    omega
theorem effect_tog {ts : List Tie} {n : Nat} {ev : List (List Nat)} {ds : List Deed} (hv : ev.Nodup) (h : ∀ d ∈ ds, d.In n ev) (k : Nat) : effect ts (tog n ev ds) k = effect ts ds k := by
  rw [← allE_eq hv k _ fun d hd => tog_in hd, ← allE_eq hv k _ h]
  unfold allE
  congr 2
  · exact List.map_congr_left fun p hp => by rw [sT_tog (List.mem_range.mp hp)]
  · exact List.map_congr_left fun E hE => by rw [rT_tog hv hE]
theorem behind_tog {ts : List Tie} {n : Nat} {ev : List (List Nat)} {ds : List Deed} (f : Nat → Int) (hv : ev.Nodup) (h : ∀ d ∈ ds, d.In n ev) : behind ts f (tog n ev ds) = behind ts f ds := funext fun k => by
  rw [behind_eq, behind_eq, effect_tog hv h]
/-! how many, how great -/
theorem nodup_sub {α : Type} [DecidableEq α] : ∀ (m l : List α), l.Nodup → (∀ x ∈ l, x ∈ m) → l.length ≤ m.length
  | [], l, _, h => by
    cases l with
    | nil => exact Nat.le_refl _
    | cons a r => exact absurd (h a (List.mem_cons_self ..)) (List.not_mem_nil)
  | a :: m, l, hn, h => by
    have h1 := nodup_sub m (l.erase a) (hn.erase a) fun x hx => by
      have h2 := h x (List.mem_of_mem_erase hx)
      rcases List.mem_cons.mp h2 with e | e
      · subst e
        exact absurd hx (List.Nodup.not_mem_erase hn)
      · exact e
    rw [List.length_cons]
    by_cases e : a ∈ l
    · rw [List.length_erase_of_mem e] at h1
      omega
    · rw [List.erase_of_not_mem e] at h1
      omega
theorem sT_some {ds : List Deed} {p : Nat} (h : nz (sT ds p) = true) : ∃ t, Deed.star p t ∈ ds := by
  induction ds with
  | nil => exact absurd h (by show ¬ nz 0 = true; decide)
  | cons d ds ih =>
    have e1 : sT (d :: ds) p = d.starAt p + sT ds p := by unfold sT; rw [List.map_cons, List.sum_cons]
    by_cases e : sT ds p = 0
    · cases d with
      | star q t =>
        by_cases eq : q = p
        · subst eq
          exact ⟨t, List.mem_cons_self ..⟩
        · have : (Deed.star q t).starAt p = 0 := if_neg eq
          rw [e1, this, e] at h
          exact absurd h (by decide)
      | round ks t =>
        rw [e1, e] at h
        exact absurd h (by show ¬ nz (0 + 0) = true; decide)
    · obtain ⟨t, ht⟩ := ih (by unfold nz; simp [e])
      exact ⟨t, List.mem_cons_of_mem _ ht⟩
theorem rT_some {ds : List Deed} {E : List Nat} (h : nz (rT ds E) = true) : ∃ t, Deed.round E t ∈ ds := by
  induction ds with
  | nil => exact absurd h (by show ¬ nz 0 = true; decide)
  | cons d ds ih =>
    have e1 : rT (d :: ds) E = d.roundAt E + rT ds E := by unfold rT; rw [List.map_cons, List.sum_cons]
    by_cases e : rT ds E = 0
    · cases d with
      | star q t =>
        rw [e1, e] at h
        exact absurd h (by show ¬ nz (0 + 0) = true; decide)
      | round ks t =>
        by_cases eq : ks = E
        · subst eq
          exact ⟨t, List.mem_cons_self ..⟩
        · have : (Deed.round ks t).roundAt E = 0 := if_neg eq
          rw [e1, this, e] at h
          exact absurd h (by decide)
    · obtain ⟨t, ht⟩ := ih (by unfold nz; simp [e])
      exact ⟨t, List.mem_cons_of_mem _ ht⟩
def Deed.key : Deed → List Nat
  | .star p _ => [p]
  | .round ks _ => ks
theorem tog_len {n : Nat} {ev : List (List Nat)} {ds : List Deed} (hv : ev.Nodup) : (tog n ev ds).length ≤ 2 * ds.length := by
  unfold tog togS togR
  rw [List.length_append, List.length_map, List.length_map]
  have h1 : ((List.range n).filter fun p => nz (sT ds p)).length ≤ ds.length := by
    have := nodup_sub (ds.map fun d => d.key.headD 0) ((List.range n).filter fun p => nz (sT ds p)) (List.nodup_range.filter _) fun p hp => by
      obtain ⟨t, ht⟩ := sT_some (List.mem_filter.mp hp).2
      exact List.mem_map.mpr ⟨_, ht, rfl⟩
    rw [List.length_map] at this
    exact this
  have h2 : (ev.filter fun E => nz (rT ds E)).length ≤ ds.length := by
    have := nodup_sub (ds.map Deed.key) (ev.filter fun E => nz (rT ds E)) (hv.filter _) fun p hp => by
      obtain ⟨t, ht⟩ := rT_some (List.mem_filter.mp hp).2
      exact List.mem_map.mpr ⟨_, ht, rfl⟩
    rw [List.length_map] at this
    exact this
  omega
theorem sT_abs {B : Nat} : ∀ (ds : List Deed) (p : Nat), (∀ d ∈ ds, d.times.natAbs ≤ B) → (sT ds p).natAbs ≤ ds.length * B
  | [], _, _ => by simp [sT]
  | d :: ds, p, h => by
    have ih := sT_abs ds p fun x hx => h x (List.mem_cons_of_mem _ hx)
    have hd := h d (List.mem_cons_self ..)
    have e1 : sT (d :: ds) p = d.starAt p + sT ds p := by unfold sT; rw [List.map_cons, List.sum_cons]
    have e2 : (d.starAt p).natAbs ≤ B := by
      cases d with
      | star q t =>
        show (if q = p then t else 0).natAbs ≤ B
        split
        · exact hd
        · exact Nat.zero_le _
      | round ks t => exact Nat.zero_le _
    rw [e1, List.length_cons, Nat.succ_mul]
    omega
theorem rT_abs {B : Nat} : ∀ (ds : List Deed) (E : List Nat), (∀ d ∈ ds, d.times.natAbs ≤ B) → (rT ds E).natAbs ≤ ds.length * B
  | [], _, _ => by simp [rT]
  | d :: ds, E, h => by
    have ih := rT_abs ds E fun x hx => h x (List.mem_cons_of_mem _ hx)
    have hd := h d (List.mem_cons_self ..)
    have e1 : rT (d :: ds) E = d.roundAt E + rT ds E := by unfold rT; rw [List.map_cons, List.sum_cons]
    have e2 : (d.roundAt E).natAbs ≤ B := by
      cases d with
      | star q t => exact Nat.zero_le _
      | round ks t =>
        show (if ks = E then t else 0).natAbs ≤ B
        split
        · exact hd
        · exact Nat.zero_le _
    rw [e1, List.length_cons, Nat.succ_mul]
    omega
theorem tog_abs {n : Nat} {ev : List (List Nat)} {ds : List Deed} {B : Nat} (h : ∀ d ∈ ds, d.times.natAbs ≤ B) {d : Deed} (hd : d ∈ tog n ev ds) : d.times.natAbs ≤ ds.length * B := by
  rcases List.mem_append.mp hd with q | q
  · obtain ⟨p, hp, rfl⟩ := List.mem_map.mp q
    exact sT_abs ds p h
  · obtain ⟨E, hE, rfl⟩ := List.mem_map.mp q
    exact rT_abs ds E h
theorem tog_nz {n : Nat} {ev : List (List Nat)} {ds : List Deed} {d : Deed} (hd : d ∈ tog n ev ds) : d.times ≠ 0 := by
  rcases List.mem_append.mp hd with q | q
  · obtain ⟨p, hp, rfl⟩ := List.mem_map.mp q
    exact of_decide_eq_true (List.mem_filter.mp hp).2
  · obtain ⟨E, hE, rfl⟩ := List.mem_map.mp q
    exact of_decide_eq_true (List.mem_filter.mp hE).2
/-! lists that ascend -/
theorem asc_ext {l m : List Nat} (hl : l.Pairwise (· < ·)) (hm : m.Pairwise (· < ·)) (h : ∀ k, k ∈ l ↔ k ∈ m) : l = m := by
  have nl : l.Nodup := hl.imp fun {a b} z => Nat.ne_of_lt z
  have nm : m.Nodup := hm.imp fun {a b} z => Nat.ne_of_lt z
  exact ((List.perm_ext_iff_of_nodup nl nm).mpr h).eq_of_pairwise (le := fun a b => a < b) (fun a b _ _ z y => by omega) hl hm
/-- masks -/
def maskN (L : Nat) (ks : List Nat) : Nat := (ks.map fun k => 2 ^ (L - 1 - k)).sum
end BV

namespace BV
open PySem L2
/-! ### a search from a place, told as lists -/
abbrev FL := List (Nat × List Nat)
def keysF (F : FL) : List Nat := F.map (·.1)
def wayAt (F : FL) (p : Nat) : List Nat := match F.find? (fun x => decide (x.1 = p)) with
  | some x => x.2
  | none => []
def farE (t : Tie) (p : Nat) : Nat := if p = t.1 then t.2 else t.1
def stepK (ts : List Tie) (p : Nat) (s : FL × List Nat) (k : Nat) : FL × List Nat := match ts[k]? with
  | some t => if p = t.1 ∨ p = t.2 then (if farE t p ∈ keysF s.1 then s else (s.1 ++ [(farE t p, wayAt s.1 p ++ [k])], s.2 ++ [farE t p])) else s
  | none => s
def bfsGo (ts : List Tie) (es : List Nat) : Nat → FL → List Nat → FL
  | 0, F, _ => F
  | _ + 1, F, [] => F
  | m + 1, F, p :: Q => bfsGo ts es m (es.foldl (stepK ts p) (F, Q)).1 (es.foldl (stepK ts p) (F, Q)).2
def bfs (ts : List Tie) (es : List Nat) (n start : Nat) : FL := bfsGo ts es (n + 1) [(start, [])] [start]
theorem go_nil (ts : List Tie) (es : List Nat) (m : Nat) (F : FL) : bfsGo ts es m F [] = F := by cases m <;> rfl
/-- a way that meets no place twice: its ties, its end, its places -/
inductive SWay (ts : List Tie) (a : Nat) : List Nat → Nat → List Nat → Prop
  | nil : SWay ts a [] a [a]
  | snoc {w : List Nat} {p k q : Nat} {t : Tie} {P : List Nat} : SWay ts a w p P → ts[k]? = some t → (t.1 = p ∧ t.2 = q ∨ t.2 = p ∧ t.1 = q) → q ∉ P → SWay ts a (w ++ [k]) q (P ++ [q])
theorem SWay.way {ts : List Tie} {a q : Nat} {w P : List Nat} (h : SWay ts a w q P) : Way ts a w q := by
  induction h with
  | nil => exact .nil
  | snoc _ ht e _ ih => exact .snoc ih ht e
theorem SWay.mem {ts : List Tie} {a q : Nat} {w P : List Nat} (h : SWay ts a w q P) : a ∈ P ∧ q ∈ P := by
  induction h with
  | nil => simp
  | snoc _ _ _ _ ih => exact ⟨List.mem_append_left _ ih.1, List.mem_append_right _ (List.mem_singleton.mpr rfl)⟩
theorem SWay.nd {ts : List Tie} {a q : Nat} {w P : List Nat} (h : SWay ts a w q P) : P.Nodup ∧ w.length + 1 = P.length := by
  induction h with
  | nil => exact ⟨List.nodup_cons.mpr ⟨by simp, .nil⟩, rfl⟩
  | snoc _ _ _ hq ih =>
    refine ⟨?_, by rw [List.length_append, List.length_append, ← ih.2]; rfl⟩
    rw [List.nodup_append]
    refine ⟨ih.1, List.nodup_cons.mpr ⟨by simp, .nil⟩, fun x hx y hy e => ?_⟩
    rw [List.mem_singleton.mp hy] at e
    exact hq (e ▸ hx)
theorem SWay.ends {ts : List Tie} {a q : Nat} {w P : List Nat} (h : SWay ts a w q P) : ∀ k ∈ w, ∃ t, ts[k]? = some t ∧ t.1 ∈ P ∧ t.2 ∈ P := by
  induction h with
  | nil => simp
  | snoc h0 ht e _ ih =>
    intro k hk
    rcases List.mem_append.mp hk with z | z
    · obtain ⟨t, h1, h2, h3⟩ := ih k z
      exact ⟨t, h1, List.mem_append_left _ h2, List.mem_append_left _ h3⟩
    · rw [List.mem_singleton.mp z]
      refine ⟨_, ht, ?_⟩
      rcases e with ⟨e1, e2⟩ | ⟨e1, e2⟩
      · rw [e1, e2]
        exact ⟨List.mem_append_left _ h0.mem.2, List.mem_append_right _ (List.mem_singleton.mpr rfl)⟩
      · rw [e1, e2]
        exact ⟨List.mem_append_right _ (List.mem_singleton.mpr rfl), List.mem_append_left _ h0.mem.2⟩
theorem SWay.wnd {ts : List Tie} {a q : Nat} {w P : List Nat} (h : SWay ts a w q P) : w.Nodup := by
  induction h with
  | nil => exact .nil
  | snoc h0 ht e hq ih =>
    rw [List.nodup_append]
    refine ⟨ih, List.nodup_cons.mpr ⟨by simp, .nil⟩, fun x hx y hy exy => ?_⟩
    rw [List.mem_singleton.mp hy] at exy
    obtain ⟨t, h1, h2, h3⟩ := h0.ends x hx
    rw [exy, ht] at h1
    cases h1
    rcases e with ⟨e1, e2⟩ | ⟨e1, e2⟩
    · exact hq (e2 ▸ h3)
    · exact hq (e2 ▸ h2)
/-- what holds of the state -/
structure BI (ts : List Tie) (es : List Nat) (n start : Nat) (F : FL) (Q : List Nat) : Prop where
  nd : (keysF F).Nodup
  lt : ∀ p ∈ keysF F, p < n
  st : start ∈ keysF F
  ways : ∀ x ∈ F, ∃ P, SWay ts start x.2 x.1 P ∧ (∀ y ∈ P, y ∈ keysF F) ∧ ∀ k ∈ x.2, k ∈ es
  qs : ∀ p ∈ Q, p ∈ keysF F
theorem BI.len {ts : List Tie} {es : List Nat} {n start : Nat} {F : FL} {Q : List Nat} (h : BI ts es n start F Q) : F.length ≤ n := by
  have := nodup_sub (List.range n) (keysF F) h.nd fun x hx => List.mem_range.mpr (h.lt x hx)
  rw [List.length_range] at this
  unfold keysF at this
  rw [List.length_map] at this
  exact this
theorem wayAt_mem : ∀ {F : FL} {p : Nat}, p ∈ keysF F → (p, wayAt F p) ∈ F
  | [], p, h => by simp [keysF] at h
  | x :: F, p, h => by
    unfold wayAt
    rw [List.find?_cons]
    by_cases e : x.1 = p
    · rw [decide_eq_true e]
      dsimp only
      rw [← e]
      exact List.mem_cons_self ..
    · rw [decide_eq_false e]
      have h' : p ∈ keysF F := by
        rcases List.mem_cons.mp (show p ∈ x.1 :: keysF F from h) with z | z
        · exact absurd z.symm e
        · exact z
      exact List.mem_cons_of_mem _ (wayAt_mem h')
theorem wayAt_eq : ∀ {F : FL} {p : Nat} {w : List Nat}, (keysF F).Nodup → (p, w) ∈ F → wayAt F p = w
  | [], p, w, _, h => by simp at h
  | x :: F, p, w, hn, h => by
    unfold wayAt
    rw [List.find?_cons]
    have hn' := List.nodup_cons.mp (show (x.1 :: keysF F).Nodup from hn)
    rcases List.mem_cons.mp h with e | e
    · subst e
      rw [decide_eq_true rfl]
    · have ne : ¬ x.1 = p := fun z => hn'.1 (by rw [z]; exact List.mem_map.mpr ⟨_, e, rfl⟩)
      rw [decide_eq_false ne]
      exact wayAt_eq hn'.2 e
theorem keys_app (F : FL) (x : Nat × List Nat) : keysF (F ++ [x]) = keysF F ++ [x.1] := by
  unfold keysF
  rw [List.map_append]
  rfl
section
variable {ts : List Tie} {es : List Nat} {n start : Nat}
/-- one tie -/
theorem step_inv (hends : ∀ t ∈ ts, t.1 < t.2 ∧ t.2 < n) {F : FL} {Q : List Nat} {p k : Nat} {t : Tie} (h : BI ts es n start F Q) (hp : p ∈ keysF F) (hk : k ∈ es) (ht : ts[k]? = some t) :
    BI ts es n start (stepK ts p (F, Q) k).1 (stepK ts p (F, Q) k).2 ∧ (∀ x ∈ keysF F, x ∈ keysF (stepK ts p (F, Q) k).1) ∧ (∀ x ∈ Q, x ∈ (stepK ts p (F, Q) k).2) ∧
    (∀ x ∈ keysF (stepK ts p (F, Q) k).1, x ∈ keysF F ∨ x ∈ (stepK ts p (F, Q) k).2) ∧
    ((t.1 = p → t.2 ∈ keysF (stepK ts p (F, Q) k).1) ∧ (t.2 = p → t.1 ∈ keysF (stepK ts p (F, Q) k).1)) ∧
    (stepK ts p (F, Q) k).2.length + (n - (stepK ts p (F, Q) k).1.length) = Q.length + (n - F.length) := by
  have hm := hends t (List.mem_of_getElem? ht)
  unfold stepK
  rw [ht]
  dsimp only
  by_cases h1 : p = t.1 ∨ p = t.2
  · rw [if_pos h1]
    have hf : (t.1 = p → t.2 = farE t p) ∧ (t.2 = p → t.1 = farE t p) := by
      unfold farE
      constructor
      · intro e
        rw [if_pos e.symm]
      · intro e
        rw [if_neg (by omega)]
    by_cases h2 : farE t p ∈ keysF F
    · rw [if_pos h2]
      exact ⟨h, fun x z => z, fun x z => z, fun x z => .inl z, ⟨fun e => (hf.1 e).symm ▸ h2, fun e => (hf.2 e).symm ▸ h2⟩, rfl⟩
    · rw [if_neg h2]
      dsimp only
      have hg : farE t p < n := by
        unfold farE
        split <;> omega
      have B : BI ts es n start (F ++ [(farE t p, wayAt F p ++ [k])]) (Q ++ [farE t p]) := by
        refine ⟨?_, ?_, ?_, ?_, ?_⟩
        · rw [keys_app, List.nodup_append]
          refine ⟨h.nd, List.nodup_cons.mpr ⟨by simp, .nil⟩, fun x hx y hy e => ?_⟩
          rw [List.mem_singleton.mp hy] at e
          exact h2 ((show x = farE t p from e) ▸ hx)
        · intro x hx
          rw [keys_app] at hx
          rcases List.mem_append.mp hx with z | z
          · exact h.lt x z
          · rw [List.mem_singleton.mp z]
            exact hg
        · rw [keys_app]
          exact List.mem_append_left _ h.st
        · intro x hx
          rw [keys_app]
          rcases List.mem_append.mp hx with z | z
          · obtain ⟨P, a, b, c⟩ := h.ways x z
            exact ⟨P, a, fun y hy => List.mem_append_left _ (b y hy), c⟩
          · rw [List.mem_singleton.mp z]
            obtain ⟨P, a, b, c⟩ := h.ways _ (wayAt_mem hp)
            dsimp only at a c ⊢
            refine ⟨P ++ [farE t p], .snoc a ht ?_ (fun z => h2 (b _ z)), fun y hy => ?_, fun y hy => ?_⟩
            · unfold farE
              by_cases e : p = t.1
              · rw [if_pos e]
                exact .inl ⟨e.symm, rfl⟩
              · rw [if_neg e]
                exact .inr ⟨(h1.resolve_left e).symm, rfl⟩
            · rcases List.mem_append.mp hy with q | q
              · exact List.mem_append_left _ (b y q)
              · exact List.mem_append_right _ q
            · rcases List.mem_append.mp hy with q | q
              · exact c y q
              · rw [List.mem_singleton.mp q]
                exact hk
        · intro x hx
          rw [keys_app]
          rcases List.mem_append.mp hx with z | z
          · exact List.mem_append_left _ (h.qs x z)
          · exact List.mem_append_right _ z
      have hin : farE t p ∈ keysF (F ++ [(farE t p, wayAt F p ++ [k])]) := by
        rw [keys_app]
        exact List.mem_append_right _ (List.mem_singleton.mpr rfl)
      refine ⟨B, fun x hx => ?_, fun x hx => List.mem_append_left _ hx, fun x hx => ?_, ⟨fun e => (hf.1 e).symm ▸ hin, fun e => (hf.2 e).symm ▸ hin⟩, ?_⟩
      · rw [keys_app]
        exact List.mem_append_left _ hx
      · rw [keys_app] at hx
        rcases List.mem_append.mp hx with z | z
        · exact .inl z
        · exact .inr (List.mem_append_right _ z)
      · have := B.len
        rw [List.length_append, List.length_singleton] at this ⊢
        rw [List.length_append, List.length_singleton]
        omega
  · rw [if_neg h1]
    exact ⟨h, fun x z => z, fun x z => z, fun x z => .inl z, ⟨fun e => absurd (.inl e.symm) h1, fun e => absurd (.inr e.symm) h1⟩, rfl⟩
/-- all ties at a place -/
theorem scan_inv (hends : ∀ t ∈ ts, t.1 < t.2 ∧ t.2 < n) {p : Nat} : ∀ (l : List Nat) (F : FL) (Q : List Nat), BI ts es n start F Q → p ∈ keysF F → (∀ k ∈ l, k ∈ es ∧ k < ts.length) →
    BI ts es n start (l.foldl (stepK ts p) (F, Q)).1 (l.foldl (stepK ts p) (F, Q)).2 ∧ (∀ x ∈ keysF F, x ∈ keysF (l.foldl (stepK ts p) (F, Q)).1) ∧ (∀ x ∈ Q, x ∈ (l.foldl (stepK ts p) (F, Q)).2) ∧
    (∀ x ∈ keysF (l.foldl (stepK ts p) (F, Q)).1, x ∈ keysF F ∨ x ∈ (l.foldl (stepK ts p) (F, Q)).2) ∧
    (∀ k ∈ l, ∀ t, ts[k]? = some t → (t.1 = p → t.2 ∈ keysF (l.foldl (stepK ts p) (F, Q)).1) ∧ (t.2 = p → t.1 ∈ keysF (l.foldl (stepK ts p) (F, Q)).1)) ∧
    (l.foldl (stepK ts p) (F, Q)).2.length + (n - (l.foldl (stepK ts p) (F, Q)).1.length) = Q.length + (n - F.length)
  | [], F, Q, h, hp, _ => ⟨h, fun x z => z, fun x z => z, fun x z => .inl z, by simp, rfl⟩
  | k :: l, F, Q, h, hp, hl => by
    obtain ⟨hk, hkl⟩ := hl k (List.mem_cons_self ..)
    have ht : ts[k]? = some ts[k] := List.getElem?_eq_getElem hkl
    obtain ⟨a1, a2, a3, a4, a5, a6⟩ := step_inv hends h hp hk ht
    obtain ⟨b1, b2, b3, b4, b5, b6⟩ := scan_inv hends l _ _ a1 (a2 p hp) fun x hx => hl x (List.mem_cons_of_mem _ hx)
    rw [List.foldl_cons]
    refine ⟨b1, fun x hx => b2 x (a2 x hx), fun x hx => b3 x (a3 x hx), fun x hx => ?_, fun x hx t hxt => ?_, b6.trans a6⟩
    · rcases b4 x hx with z | z
      · rcases a4 x z with z | z
        · exact .inl z
        · exact .inr (b3 x z)
      · exact .inr z
    · rcases List.mem_cons.mp hx with e | e
      · subst e
        rw [ht] at hxt
        cases hxt
        exact ⟨fun e => b2 _ (a5.1 e), fun e => b2 _ (a5.2 e)⟩
      · exact b5 x e t hxt
def ShutF (ts : List Tie) (es : List Nat) (F : FL) (p : Nat) : Prop := ∀ k ∈ es, ∀ t, ts[k]? = some t → (t.1 = p → t.2 ∈ keysF F) ∧ (t.2 = p → t.1 ∈ keysF F)
theorem go_inv (hends : ∀ t ∈ ts, t.1 < t.2 ∧ t.2 < n) (hes : ∀ k ∈ es, k < ts.length) : ∀ (m : Nat) (F : FL) (Q : List Nat), BI ts es n start F Q → (∀ x ∈ keysF F, x ∈ Q ∨ ShutF ts es F x) → Q.length + (n - F.length) ≤ m →
    BI ts es n start (bfsGo ts es m F Q) [] ∧ ∀ x ∈ keysF (bfsGo ts es m F Q), ShutF ts es (bfsGo ts es m F Q) x
  | 0, F, Q, h, hc, hm => by
    have hQ : Q = [] := List.eq_nil_of_length_eq_zero (by omega)
    subst hQ
    exact ⟨h, fun x hx => (hc x hx).resolve_left (by simp)⟩
  | m + 1, F, [], h, hc, hm => ⟨h, fun x hx => (hc x hx).resolve_left (by simp)⟩
  | m + 1, F, p :: Q, h, hc, hm => by
    have hp := h.qs p (List.mem_cons_self ..)
    have h' : BI ts es n start F Q := ⟨h.nd, h.lt, h.st, h.ways, fun x hx => h.qs x (List.mem_cons_of_mem _ hx)⟩
    obtain ⟨b1, b2, b3, b4, b5, b6⟩ := scan_inv hends es F Q h' hp fun k hk => ⟨hk, hes k hk⟩
    refine go_inv hends hes m _ _ b1 (fun x hx => ?_) ?_
    · rcases b4 x hx with z | z
      · rcases hc x z with z2 | z2
        · rcases List.mem_cons.mp z2 with e | e
          · rw [e]
            exact .inr b5
          · exact .inl (b3 x e)
        · refine .inr fun k hk t ht => ?_
          have := z2 k hk t ht
          exact ⟨fun e => b2 _ (this.1 e), fun e => b2 _ (this.2 e)⟩
      · exact .inl z
    · rw [List.length_cons] at hm
      omega
theorem start_inv (hst : start < n) : BI ts es n start [(start, [])] [start] :=
  ⟨List.nodup_cons.mpr ⟨by simp, .nil⟩, fun p hp => by rw [List.mem_singleton.mp (show p ∈ [start] from hp)]; exact hst, List.mem_cons_self .., fun x hx => by
    rw [List.mem_singleton.mp hx]
    exact ⟨[start], .nil, fun y hy => hy, by simp⟩, fun p hp => hp⟩
theorem bfs_inv (hends : ∀ t ∈ ts, t.1 < t.2 ∧ t.2 < n) (hes : ∀ k ∈ es, k < ts.length) (hst : start < n) :
    BI ts es n start (bfs ts es n start) [] ∧ ∀ x ∈ keysF (bfs ts es n start), ShutF ts es (bfs ts es n start) x :=
  go_inv hends hes (n + 1) _ _ (start_inv hst) (fun x hx => .inl hx) (by
    show 1 + (n - 1) ≤ n + 1
    omega)
end
end BV

namespace BV
open PySem L2
/-! ### rounds: each place twice or not at all, and all in one piece -/
theorem atE_iff {ts : List Tie} {p k : Nat} {t : Tie} (ht : ts[k]? = some t) : atE ts p k = true ↔ (t.1 = p ∨ t.2 = p) := by
  unfold atE
  rw [ht]
  exact decide_eq_true_iff
theorem degE_filter_le (ts : List Tie) (f : Nat → Bool) (l : List Nat) (p : Nat) : degE ts (l.filter f) p ≤ degE ts l p := by
  have := degE_split ts f l p
  omega
/-- the ties of one lot at a place lie in the other, if there are as many -/
theorem deg_same {ts : List Tie} {f : Nat → Bool} {l : List Nat} {p k : Nat} (h : degE ts (l.filter f) p = degE ts l p) (hk : k ∈ l) (ha : atE ts p k = true) : f k = true := by
  have h1 := degE_split ts f l p
  have h2 : degE ts (l.filter fun k => !f k) p = 0 := by omega
  cases e : f k with
  | true => rfl
  | false =>
    unfold degE at h2
    have h3 : k ∈ (l.filter fun k => !f k).filter (atE ts p) := by
      rw [List.mem_filter, List.mem_filter, e]
      exact ⟨⟨hk, rfl⟩, ha⟩
    rw [List.eq_nil_of_length_eq_zero h2] at h3
    cases h3
theorem deg_pos {ts : List Tie} {l : List Nat} {p k : Nat} (hk : k ∈ l) (ha : atE ts p k = true) : 1 ≤ degE ts l p := by
  unfold degE
  exact List.length_pos_of_mem (List.mem_filter.mpr ⟨hk, ha⟩)
/-- the ties of a way that meets no place twice -/
theorem sway_deg {n : Nat} {ts : List Tie} (hends : ∀ t ∈ ts, t.1 < t.2 ∧ t.2 < n) {a q : Nat} {w P : List Nat} (h : SWay ts a w q P) (x : Nat) :
    degE ts w x + b2 (decide (x = a)) + b2 (decide (x = q)) = if x ∈ P then 2 else 0 := by
  induction h with
  | nil =>
    show 0 + _ + _ = _
    by_cases e : x = a
    · rw [if_pos (by rw [e]; exact List.mem_singleton.mpr rfl), decide_eq_true e]
      rfl
    · rw [if_neg (by simpa using e), decide_eq_false e]
      rfl
  | @snoc w p k q t P h0 ht e hq ih =>
    have hk : b2 (atE ts x k) = b2 (decide (x = p)) + b2 (decide (x = q)) := by
      have hpq : p ≠ q := fun z => hq (z ▸ h0.mem.2)
      unfold atE
      rw [ht]
      dsimp only
      by_cases e1 : x = p
      · have e2 : ¬ x = q := fun z => hpq (e1.symm.trans z)
        rw [decide_eq_true e1, decide_eq_false e2, decide_eq_true (by omega)]
        rfl
      · by_cases e2 : x = q
        · rw [decide_eq_false e1, decide_eq_true e2, decide_eq_true (by omega)]
          rfl
        · rw [decide_eq_false e1, decide_eq_false e2, decide_eq_false (by omega)]
          rfl
    rw [degE_app]
    have h1 : degE ts [k] x = b2 (atE ts x k) := by
      rw [degE_cons]
      rfl
    rw [h1, hk]
    by_cases e2 : x = q
    · have hxP : x ∉ P := e2 ▸ hq
      rw [if_neg hxP] at ih
      rw [if_pos (List.mem_append_right _ (List.mem_singleton.mpr e2)), decide_eq_true e2]
      have : b2 true = 1 := rfl
      omega
    · have e3 : x ∈ P ++ [q] ↔ x ∈ P := by simp [e2]
      rw [decide_eq_false e2]
      have : b2 false = 0 := rfl
      by_cases e4 : x ∈ P
      · rw [if_pos e4] at ih
        rw [if_pos (e3.mpr e4)]
        omega
      · rw [if_neg e4] at ih
        rw [if_neg fun z => e4 (e3.mp z)]
        omega
/-- a lot whose places are met twice or not at all -/
def Twos (n : Nat) (ts : List Tie) (lot : List Nat) : Prop := ∀ p, p < n → degE ts lot p = 0 ∨ degE ts lot p = 2
/-- all hangs on the tie k0 -/
def Touch (ts : List Tie) (A : List Nat) (k : Nat) : Prop := ∃ p j, j ∈ A ∧ atE ts p j = true ∧ atE ts p k = true
def Piece (ts : List Tie) (lot : List Nat) (k0 : Nat) : Prop := ∀ A : List Nat, k0 ∈ A → (∀ k ∈ lot, Touch ts A k → k ∈ A) → ∀ k ∈ lot, k ∈ A
theorem sway_conn {ts : List Tie} {a q : Nat} {w P : List Nat} (h : SWay ts a w q P) {lot A : List Nat} (hA : ∀ k ∈ lot, Touch ts A k → k ∈ A) (ha : ∃ j ∈ A, atE ts a j = true) :
    (∀ k ∈ w, k ∈ lot) → (∀ k ∈ w, k ∈ A) ∧ ∃ j ∈ A, atE ts q j = true := by
  induction h with
  | nil => exact fun _ => ⟨by simp, ha⟩
  | @snoc w p k q t P h0 ht e hq ih =>
    intro hl
    obtain ⟨h1, j, hj, hj2⟩ := ih fun x hx => hl x (List.mem_append_left _ hx)
    have hp : atE ts p k = true := (atE_iff ht).mpr (by rcases e with e | e; exact .inl e.1; exact .inr e.1)
    have hq2 : atE ts q k = true := (atE_iff ht).mpr (by rcases e with e | e; exact .inr e.2; exact .inl e.2)
    have hk : k ∈ A := hA k (hl k (List.mem_append_right _ (List.mem_singleton.mpr rfl))) ⟨p, j, hj, hj2, hp⟩
    refine ⟨fun x hx => ?_, k, hk, hq2⟩
    rcases List.mem_append.mp hx with z | z
    · exact h1 x z
    · rw [List.mem_singleton.mp z]
      exact hk
/-- a round: not empty, each place twice or not at all, all in one piece -/
structure Rnd (n : Nat) (ts : List Tie) (lot : List Nat) : Prop where
  ne : lot ≠ []
  tw : Twos n ts lot
  cn : ∀ k0 ∈ lot.head?, Piece ts lot k0
theorem Rnd.even {n : Nat} {ts : List Tie} {lot : List Nat} (h : Rnd n ts lot) : EvenE n ts lot := fun p hp => by
  rcases h.tw p hp with e | e <;> rw [e]
theorem twos_perm {n : Nat} {ts : List Tie} {l m : List Nat} (h : l.Perm m) (t : Twos n ts l) : Twos n ts m := fun p hp => by
  rw [← degE_perm h]
  exact t p hp
theorem conn_perm {ts : List Tie} {l m : List Nat} {k0 : Nat} (h : l.Perm m) (t : Piece ts l k0) : Piece ts m k0 := fun A h0 hA k hk =>
  t A h0 (fun j hj => hA j (h.mem_iff.mp hj)) k (h.mem_iff.mpr hk)
section
variable {n : Nat} {ts : List Tie}
/-- a tie and a way behind it -/
theorem cyc_twos (hends : ∀ t ∈ ts, t.1 < t.2 ∧ t.2 < n) {k0 : Nat} {t : Tie} {w P : List Nat} (ht : ts[k0]? = some t) (h : SWay ts t.1 w t.2 P) (x : Nat) : degE ts (k0 :: w) x = if x ∈ P then 2 else 0 := by
  have hm := hends t (List.mem_of_getElem? ht)
  rw [← sway_deg hends h x, degE_cons]
  unfold atE
  rw [ht]
  dsimp only
  by_cases e1 : x = t.1
  · rw [decide_eq_true e1, decide_eq_false (show ¬ x = t.2 by omega), decide_eq_true (show t.1 = x ∨ t.2 = x by omega)]
    show 1 + _ = _ + 1 + 0
    omega
  · by_cases e2 : x = t.2
    · rw [decide_eq_false e1, decide_eq_true e2, decide_eq_true (show t.1 = x ∨ t.2 = x by omega)]
      show 1 + _ = _ + 0 + 1
      omega
    · rw [decide_eq_false e1, decide_eq_false e2, decide_eq_false (show ¬ (t.1 = x ∨ t.2 = x) by omega)]
      show 0 + _ = _ + 0 + 0
      omega
theorem cyc_conn {k0 : Nat} {t : Tie} {w P : List Nat} (ht : ts[k0]? = some t) (h : SWay ts t.1 w t.2 P) : Piece ts (k0 :: w) k0 := fun A h0 hA k hk => by
  rcases List.mem_cons.mp hk with e | e
  · rw [e]
    exact h0
  · exact (sway_conn h hA ⟨k0, h0, (atE_iff ht).mpr (.inl rfl)⟩ fun x hx => List.mem_cons_of_mem _ hx).1 k e
/-- an even part of a round is nothing or all -/
theorem rd_least (hends : ∀ t ∈ ts, t.1 < t.2 ∧ t.2 < n) {lot : List Nat} (hl : ∀ k ∈ lot, k < ts.length) (h : Rnd n ts lot) {f : Nat → Bool} (he : EvenE n ts (lot.filter f)) : (∀ k ∈ lot, f k = true) ∨ ∀ k ∈ lot, f k = false := by
  have hplace : ∀ {p k : Nat}, k ∈ lot → atE ts p k = true → p < n := fun {p k} hk ha => by
    have ht := List.getElem?_eq_getElem (hl k hk)
    have hm := hends _ (List.mem_of_getElem? ht)
    rcases (atE_iff ht).mp ha with e | e <;> omega
  obtain ⟨k0, hk0⟩ : ∃ k0, lot.head? = some k0 := by
    cases e : lot with
    | nil => exact absurd e h.ne
    | cons a r => exact ⟨a, rfl⟩
  have hk0m : k0 ∈ lot := List.mem_of_mem_head? hk0
  -- the ties at a place of the part are the part's
  have hin : ∀ {p k j : Nat}, j ∈ lot → f j = true → atE ts p j = true → k ∈ lot → atE ts p k = true → f k = true := fun {p k j} hj hfj hpj hk hpk => by
    have hp := hplace hk hpk
    have h1 : 1 ≤ degE ts (lot.filter f) p := deg_pos (List.mem_filter.mpr ⟨hj, hfj⟩) hpj
    have h2 := he p hp
    have h3 := degE_filter_le ts f lot p
    refine deg_same (l := lot) ?_ hk hpk
    rcases h.tw p hp with e | e <;> omega
  cases e0 : f k0 with
  | true =>
    refine .inl fun k hk => ?_
    have := h.cn k0 hk0 (lot.filter f) (List.mem_filter.mpr ⟨hk0m, e0⟩) (fun k hk ⟨p, j, hj, hpj, hpk⟩ => ?_) k hk
    · exact (List.mem_filter.mp this).2
    · obtain ⟨a, b⟩ := List.mem_filter.mp hj
      exact List.mem_filter.mpr ⟨hk, hin a b hpj hk hpk⟩
  | false =>
    refine .inr fun k hk => ?_
    have := h.cn k0 hk0 (lot.filter fun k => !f k) (List.mem_filter.mpr ⟨hk0m, by rw [e0]; rfl⟩) (fun k hk ⟨p, j, hj, hpj, hpk⟩ => ?_) k hk
    · simpa using (List.mem_filter.mp this).2
    · obtain ⟨a, b⟩ := List.mem_filter.mp hj
      refine List.mem_filter.mpr ⟨hk, ?_⟩
      cases e : f k with
      | false => rfl
      | true =>
        have := hin hk e hpk a hpj
        rw [this] at b
        cases b
end
/-! ### the first round of an even lot -/
def wayB (ts : List Tie) (n : Nat) (k0 : Nat) (rest : List Nat) : List Nat := match ts[k0]? with
  | some t => wayAt (bfs ts rest n t.1) t.2
  | none => []
def frL (ts : List Tie) (n : Nat) : List Nat → List Nat
  | [] => []
  | k0 :: rest => (List.range ts.length).filter fun k => decide (k = k0) || decide (k ∈ wayB ts n k0 rest)
section
variable {n : Nat} {ts : List Tie}
theorem way_there (hends : ∀ t ∈ ts, t.1 < t.2 ∧ t.2 < n) {k0 : Nat} {rest : List Nat} {t : Tie} (ht : ts[k0]? = some t) (hr : ∀ k ∈ rest, k < ts.length) (he : EvenE n ts (k0 :: rest)) : t.2 ∈ keysF (bfs ts rest n t.1) := by
  have hm := hends t (List.mem_of_getElem? ht)
  obtain ⟨b1, b2⟩ := bfs_inv hends hr (show t.1 < n by omega)
  refine Classical.byContradiction fun hno => ?_
  have hl : ∀ k ∈ k0 :: rest, k < ts.length := fun k hk => by
    rcases List.mem_cons.mp hk with e | e
    · rw [e]
      exact (List.getElem?_eq_some_iff.mp ht).1
    · exact hr k e
  have hc := even_cross hends hl he (keysF (bfs ts rest n t.1))
  rw [crossN_cons] at hc
  have e1 : crossK ts (keysF (bfs ts rest n t.1)) k0 = true := by
    unfold crossK crosses
    rw [ht]
    dsimp only
    rw [decide_eq_true b1.st, decide_eq_false hno]
    rfl
  have e2 : crossN ts (keysF (bfs ts rest n t.1)) rest = 0 := by
    unfold crossN
    rw [List.length_eq_zero_iff, List.filter_eq_nil_iff]
    intro k hk hx
    have hk2 := List.getElem?_eq_getElem (hr k hk)
    unfold crossK crosses at hx
    rw [hk2] at hx
    dsimp only at hx
    have h1 : (ts[k]'(hr k hk)).1 ∈ keysF (bfs ts rest n t.1) → (ts[k]'(hr k hk)).2 ∈ keysF (bfs ts rest n t.1) := fun z => (b2 _ z k hk _ hk2).1 rfl
    have h2 : (ts[k]'(hr k hk)).2 ∈ keysF (bfs ts rest n t.1) → (ts[k]'(hr k hk)).1 ∈ keysF (bfs ts rest n t.1) := fun z => (b2 _ z k hk _ hk2).2 rfl
    have e3 : decide ((ts[k]'(hr k hk)).1 ∈ keysF (bfs ts rest n t.1)) = decide ((ts[k]'(hr k hk)).2 ∈ keysF (bfs ts rest n t.1)) := decide_eq_decide.mpr ⟨h1, h2⟩
    rw [e3, decide_eq_true rfl] at hx
    cases hx
  rw [e1, e2] at hc
  exact absurd hc (by decide)
/-- a tie of an even lot and the way behind it are a round -/
theorem way_is (hends : ∀ t ∈ ts, t.1 < t.2 ∧ t.2 < n) {k0 : Nat} {rest : List Nat} {t : Tie} (ht : ts[k0]? = some t) (hr : ∀ k ∈ rest, k < ts.length) (h : t.2 ∈ keysF (bfs ts rest n t.1)) :
    (∃ P, SWay ts t.1 (wayB ts n k0 rest) t.2 P) ∧ ∀ k ∈ wayB ts n k0 rest, k ∈ rest := by
  have hm := hends t (List.mem_of_getElem? ht)
  obtain ⟨b1, b2⟩ := bfs_inv hends hr (show t.1 < n by omega)
  have e : wayB ts n k0 rest = wayAt (bfs ts rest n t.1) t.2 := by
    unfold wayB
    rw [ht]
  obtain ⟨P, h1, h2, h3⟩ := b1.ways _ (wayAt_mem h)
  rw [e]
  exact ⟨⟨P, h1⟩, h3⟩
theorem fr_perm {k0 : Nat} {w rest : List Nat} (hk : k0 < ts.length) (hr : ∀ k ∈ w, k < ts.length) (hn : (k0 :: w).Nodup) : ((List.range ts.length).filter fun k => decide (k = k0) || decide (k ∈ w)).Perm (k0 :: w) := by
  refine (List.perm_ext_iff_of_nodup (List.nodup_range.filter _) hn).mpr fun k => ?_
  rw [List.mem_filter, List.mem_range, Bool.or_eq_true, decide_eq_true_eq, decide_eq_true_eq, List.mem_cons]
  constructor
  · exact fun z => z.2
  · intro z
    refine ⟨?_, z⟩
    rcases z with z | z
    · rw [z]
      exact hk
    · exact hr k z
/-- what the first round is -/
theorem fr_is (hends : ∀ t ∈ ts, t.1 < t.2 ∧ t.2 < n) {k0 : Nat} {rest : List Nat} (hl : LotA ts.length (k0 :: rest)) {t : Tie} (ht : ts[k0]? = some t) (h : t.2 ∈ keysF (bfs ts rest n t.1)) :
    Rnd n ts (frL ts n (k0 :: rest)) ∧ (∀ k ∈ frL ts n (k0 :: rest), k ∈ k0 :: rest) ∧ (frL ts n (k0 :: rest)).head? = some k0 ∧ LotA ts.length (frL ts n (k0 :: rest)) ∧ (frL ts n (k0 :: rest)).Perm (k0 :: wayB ts n k0 rest) := by
  have hr : ∀ k ∈ rest, k < ts.length := fun k hk => hl.2 k (List.mem_cons_of_mem _ hk)
  obtain ⟨⟨P, hP⟩, hw⟩ := way_is hends ht hr h
  have hk0 : k0 < ts.length := hl.2 k0 (List.mem_cons_self ..)
  have hlt : ∀ k ∈ rest, k0 < k := (List.pairwise_cons.mp hl.1).1
  have hnd : (k0 :: wayB ts n k0 rest).Nodup := List.nodup_cons.mpr ⟨fun z => by have := hlt k0 (hw k0 z); omega, hP.wnd⟩
  have hp := fr_perm (ts := ts) (rest := rest) hk0 (fun k hk => hr k (hw k hk)) hnd
  have hA : LotA ts.length (frL ts n (k0 :: rest)) := ⟨List.pairwise_lt_range.filter _, fun k hk => List.mem_range.mp (List.mem_filter.mp hk).1⟩
  have hmem : ∀ k, k ∈ frL ts n (k0 :: rest) ↔ k ∈ k0 :: wayB ts n k0 rest := fun k => hp.mem_iff
  have hhead : (frL ts n (k0 :: rest)).head? = some k0 := by
    cases e : frL ts n (k0 :: rest) with
    | nil =>
      have := (hmem k0).mpr (List.mem_cons_self ..)
      rw [e] at this
      cases this
    | cons a r =>
      have h1 : a ∈ k0 :: wayB ts n k0 rest := (hmem a).mp (by rw [e]; exact List.mem_cons_self ..)
      rcases List.mem_cons.mp h1 with z | z
      · rw [z]
        rfl
      · have h2 := hlt a (hw a z)
        have h3 : k0 ∈ a :: r := by rw [← e]; exact (hmem k0).mpr (List.mem_cons_self ..)
        have h4 := hA.1
        rw [e] at h4
        rcases List.mem_cons.mp h3 with q | q
        · omega
        · have := (List.pairwise_cons.mp h4).1 k0 q
          omega
  refine ⟨⟨fun e => ?_, twos_perm hp.symm fun p _ => ?_, fun k hk => ?_⟩, fun k hk => ?_, hhead, hA, hp⟩
  · have := (hmem k0).mpr (List.mem_cons_self ..)
    rw [e] at this
    cases this
  · rw [cyc_twos hends ht hP p]
    split
    · exact .inr rfl
    · exact .inl rfl
  · rw [hhead] at hk
    cases hk
    exact conn_perm hp.symm (cyc_conn ht hP)
  · rcases List.mem_cons.mp ((hmem k).mp hk) with z | z
    · rw [z]
      exact List.mem_cons_self ..
    · exact List.mem_cons_of_mem _ (hw k z)
/-- a lot is a round just if it is even and its first round is all of it -/
theorem rd_iff (hends : ∀ t ∈ ts, t.1 < t.2 ∧ t.2 < n) {lot : List Nat} (hl : LotA ts.length lot) (hne : lot ≠ []) (he : EvenE n ts lot) : frL ts n lot = lot ↔ Rnd n ts lot := by
  cases lot with
  | nil => exact absurd rfl hne
  | cons k0 rest =>
    have hk0 : k0 < ts.length := hl.2 k0 (List.mem_cons_self ..)
    have ht : ts[k0]? = some ts[k0] := List.getElem?_eq_getElem hk0
    have hr : ∀ k ∈ rest, k < ts.length := fun k hk => hl.2 k (List.mem_cons_of_mem _ hk)
    obtain ⟨h1, h2, h3, h4, _⟩ := fr_is hends hl ht (way_there hends ht hr he)
    constructor
    · intro e
      rw [← e]
      exact h1
    · intro hR
      have hsub : (frL ts n (k0 :: rest)).Perm ((k0 :: rest).filter fun k => decide (k ∈ frL ts n (k0 :: rest))) := (List.perm_ext_iff_of_nodup h4.nd (hl.nd.filter _)).mpr fun k => by
        rw [List.mem_filter, decide_eq_true_eq]
        exact ⟨fun z => ⟨h2 k z, z⟩, fun z => z.2⟩
      have he2 : EvenE n ts ((k0 :: rest).filter fun k => decide (k ∈ frL ts n (k0 :: rest))) := fun p hp => by
        rw [← degE_perm hsub]
        exact h1.even p hp
      have hk : k0 ∈ frL ts n (k0 :: rest) := List.mem_of_mem_head? h3
      rcases rd_least hends (fun k hk => hl.2 k hk) hR he2 with z | z
      · refine lot_ext h4 hl fun k _ => ⟨h2 k, fun q => of_decide_eq_true (z k q)⟩
      · have := z k0 (List.mem_cons_self ..)
        rw [decide_eq_true hk] at this
        cases this
/-- a lot that is even and has no even part is a round -/
theorem least_rd (hends : ∀ t ∈ ts, t.1 < t.2 ∧ t.2 < n) {lot : List Nat} (hl : LotA ts.length lot) (hne : lot ≠ []) (he : EvenE n ts lot) :
    (∀ f : Nat → Bool, EvenE n ts (lot.filter f) → (∀ k ∈ lot, f k = true) ∨ ∀ k ∈ lot, f k = false) ↔ Rnd n ts lot := by
  refine ⟨fun h => (rd_iff hends hl hne he).mp ?_, fun h f hf => rd_least hends hl.2 h hf⟩
  cases lot with
  | nil => exact absurd rfl hne
  | cons k0 rest =>
    have hk0 : k0 < ts.length := hl.2 k0 (List.mem_cons_self ..)
    have ht : ts[k0]? = some ts[k0] := List.getElem?_eq_getElem hk0
    have hr : ∀ k ∈ rest, k < ts.length := fun k hk => hl.2 k (List.mem_cons_of_mem _ hk)
    obtain ⟨h1, h2, h3, h4, _⟩ := fr_is hends hl ht (way_there hends ht hr he)
    have hsub : (frL ts n (k0 :: rest)).Perm ((k0 :: rest).filter fun k => decide (k ∈ frL ts n (k0 :: rest))) := (List.perm_ext_iff_of_nodup h4.nd (hl.nd.filter _)).mpr fun k => by
      rw [List.mem_filter, decide_eq_true_eq]
      exact ⟨fun z => ⟨h2 k z, z⟩, fun z => z.2⟩
    have he2 : EvenE n ts ((k0 :: rest).filter fun k => decide (k ∈ frL ts n (k0 :: rest))) := fun p hp => by
      rw [← degE_perm hsub]
      exact h1.even p hp
    have hk : k0 ∈ frL ts n (k0 :: rest) := List.mem_of_mem_head? h3
    rcases h _ he2 with z | z
    · exact lot_ext h4 hl fun k _ => ⟨h2 k, fun q => of_decide_eq_true (z k q)⟩
    · have := z k0 (List.mem_cons_self ..)
      rw [decide_eq_true hk] at this
      cases this
end
end BV

namespace BV
open PySem L2
/-! ### an even lot told as rounds -/
def partsGo (ts : List Tie) (n : Nat) : Nat → List Nat → List (List Nat)
  | 0, _ => []
  | _ + 1, [] => []
  | m + 1, k0 :: rest => frL ts n (k0 :: rest) :: partsGo ts n m ((k0 :: rest).filter fun k => !decide (k ∈ frL ts n (k0 :: rest)))
theorem parts_nil (ts : List Tie) (n m : Nat) : partsGo ts n m [] = [] := by cases m <;> rfl
section
variable {n : Nat} {ts : List Tie}
theorem left_step (hends : ∀ t ∈ ts, t.1 < t.2 ∧ t.2 < n) {k0 : Nat} {rest : List Nat} (hl : LotA ts.length (k0 :: rest)) (he : EvenE n ts (k0 :: rest)) :
    Rnd n ts (frL ts n (k0 :: rest)) ∧ LotA ts.length (frL ts n (k0 :: rest)) ∧ (∀ k ∈ frL ts n (k0 :: rest), k ∈ k0 :: rest) ∧ k0 ∈ frL ts n (k0 :: rest) ∧
    LotA ts.length ((k0 :: rest).filter fun k => !decide (k ∈ frL ts n (k0 :: rest))) ∧ EvenE n ts ((k0 :: rest).filter fun k => !decide (k ∈ frL ts n (k0 :: rest))) ∧
    ((k0 :: rest).filter fun k => !decide (k ∈ frL ts n (k0 :: rest))).length ≤ rest.length ∧ (frL ts n (k0 :: rest) ++ (k0 :: rest).filter fun k => !decide (k ∈ frL ts n (k0 :: rest))).Perm (k0 :: rest) := by
  have hk0 : k0 < ts.length := hl.2 k0 (List.mem_cons_self ..)
  have ht := List.getElem?_eq_getElem hk0
  have hr : ∀ k ∈ rest, k < ts.length := fun k hk => hl.2 k (List.mem_cons_of_mem _ hk)
  obtain ⟨h1, h2, h3, h4, _⟩ := fr_is hends hl ht (way_there hends ht hr he)
  have hk : k0 ∈ frL ts n (k0 :: rest) := List.mem_of_mem_head? h3
  have hsub : (frL ts n (k0 :: rest)).Perm ((k0 :: rest).filter fun k => decide (k ∈ frL ts n (k0 :: rest))) := (List.perm_ext_iff_of_nodup h4.nd (hl.nd.filter _)).mpr fun k => by
    rw [List.mem_filter, decide_eq_true_eq]
    exact ⟨fun z => ⟨h2 k z, z⟩, fun z => z.2⟩
  have hA : LotA ts.length ((k0 :: rest).filter fun k => !decide (k ∈ frL ts n (k0 :: rest))) := ⟨hl.1.filter _, fun k hk => hl.2 k (List.mem_filter.mp hk).1⟩
  have hp : (frL ts n (k0 :: rest) ++ (k0 :: rest).filter fun k => !decide (k ∈ frL ts n (k0 :: rest))).Perm (k0 :: rest) := by
    refine (List.perm_ext_iff_of_nodup ?_ hl.nd).mpr fun k => ?_
    · rw [List.nodup_append]
      refine ⟨h4.nd, hA.nd, fun x hx y hy e => ?_⟩
      have := (List.mem_filter.mp hy).2
      rw [← e, decide_eq_true hx] at this
      cases this
    · rw [List.mem_append, List.mem_filter]
      constructor
      · rintro (z | z)
        · exact h2 k z
        · exact z.1
      · intro z
        by_cases e : k ∈ frL ts n (k0 :: rest)
        · exact .inl e
        · exact .inr ⟨z, by rw [decide_eq_false e]; rfl⟩
  refine ⟨h1, h4, h2, hk, hA, fun p hp2 => ?_, ?_, hp⟩
  · have e1 := degE_perm hp (ts := ts) p
    rw [degE_app] at e1
    have e2 := h1.even p hp2
    have e3 := he p hp2
    omega
  · have e1 := hp.length_eq
    rw [List.length_append, List.length_cons] at e1
    have := List.length_pos_of_mem hk
    omega
theorem parts_spec (hends : ∀ t ∈ ts, t.1 < t.2 ∧ t.2 < n) : ∀ (m : Nat) (left : List Nat), LotA ts.length left → EvenE n ts left → left.length ≤ m →
    (∀ r ∈ partsGo ts n m left, Rnd n ts r ∧ LotA ts.length r ∧ ∀ k ∈ r, k ∈ left) ∧ (partsGo ts n m left).flatten.Perm left
  | m, [], hl, he, hm => by
    rw [parts_nil]
    exact ⟨by simp, by simp⟩
  | 0, k0 :: rest, hl, he, hm => by simp at hm
  | m + 1, k0 :: rest, hl, he, hm => by
    obtain ⟨a1, a2, a3, a4, a5, a6, a7, a8⟩ := left_step hends hl he
    obtain ⟨b1, b2⟩ := parts_spec hends m _ a5 a6 (by rw [List.length_cons] at hm; omega)
    refine ⟨fun r hr => ?_, ?_⟩
    · rcases List.mem_cons.mp hr with e | e
      · rw [e]
        exact ⟨a1, a2, a3⟩
      · obtain ⟨c1, c2, c3⟩ := b1 r e
        exact ⟨c1, c2, fun k hk => (List.mem_filter.mp (c3 k hk)).1⟩
    · show (frL ts n (k0 :: rest) ++ (partsGo ts n m _).flatten).Perm _
      exact (List.Perm.append_left _ b2).trans a8
end
open Classical in
noncomputable def isRB (n : Nat) (ts : List Tie) (lot : List Nat) : Bool := decide (Rnd n ts lot)
open Classical in
theorem isRB_iff {n : Nat} {ts : List Tie} {lot : List Nat} : isRB n ts lot = true ↔ Rnd n ts lot := by
  unfold isRB
  exact decide_eq_true_iff
end BV

namespace BV
open PySem L2
theorem flat_ints : ∀ ms : List Int, (ms.map V.int).all flatV = true
  | [] => rfl
  | m :: ms => by
    rw [List.map_cons, List.all_cons, flat_ints ms]
    rfl
theorem flat_nats (ms : List Nat) : (ms.map fun (k : Nat) => V.int k).all flatV = true := by
  have e3 : (ms.map fun (k : Nat) => V.int k) = (ms.map fun (k : Nat) => (k : Int)).map V.int := by rw [List.map_map]; rfl
  rw [e3]
  exact flat_ints _
theorem inv_nats (k : Nat) : ∀ ks : List Nat, inV (.int (k : Int)) (ks.map fun (k : Nat) => V.int k) = decide (k ∈ ks)
  | [] => by simp [inV]
  | x :: ks => by
    have ih := inv_nats k ks
    have e : (((x : Nat) : Int) == (k : Int)) = decide (k = x) := by
      by_cases h : k = x
      · subst h
        simp
      · rw [decide_eq_false h]
        exact beq_eq_false_iff_ne.mpr fun z => h (by omega)
    show ((((x : Nat) : Int) == (k : Int)) || inV (.int (k : Int)) (ks.map fun (k : Nat) => V.int k)) = _
    rw [e, ih, ← Bool.decide_or]
    congr 1
    simp
theorem lot_dp {K : PySem.W.Frag} {H : Hp} {a : Addr} {ks : List Nat} (h : SqT K H a (ks.map fun (k : Nat) => V.int k)) : Dp K H (.ref a) (lotD ks) := by
  refine .tup h ?_
  have e2 : (ks.map fun (k : Nat) => PyData.int k) = (ks.map fun (k : Nat) => (k : Int)).map PyData.int := by rw [List.map_map]; rfl
  have e3 : (ks.map fun (k : Nat) => V.int k) = (ks.map fun (k : Nat) => (k : Int)).map V.int := by rw [List.map_map]; rfl
  rw [e2, e3]
  exact dpAll_ints _
abbrev sFar : Stmt := top 7
abbrev nFar : List Str := ["web", "tie", "place", "one", "other"]
abbrev pFar : List Str := ["web", "tie", "place"]
theorem scFar : FnScope nFar pFar (defScope sFar) := ⟨rfl, rfl, rfl, by decide +kernel, rfl, by decide +kernel, by decide +kernel⟩
abbrev sWays : Stmt := top 8
abbrev nWays : List Str := ["web", "ties", "start", "found", "queue", "place", "tie", "goal"]
abbrev pWays : List Str := ["web", "ties", "start"]
theorem scWays : FnScope nWays pWays (defScope sWays) := ⟨rfl, rfl, rfl, by decide +kernel, rfl, by decide +kernel, by decide +kernel⟩
def farEnd (t : Tie) (p : Nat) : Nat := if p = t.1 then t.2 else t.1
def spFar (K : PySem.W.Frag) : Sp := fun vs H Q _ => ∃ (v : V) (n : Nat) (ts : List Tie) (k p : Nat) (t : Tie), vs = [v, .int k, .int p] ∧ Dp K H v (webD n ts) ∧ ts[k]? = some t ∧ Q (.int (farEnd t p : Nat)) H
def natsV (ks : List Nat) : List V := ks.map fun (k : Nat) => V.int k
/-- what is found: the places, each with its way -/
def FoundF (K : PySem.W.Frag) (H : Hp) (d : Addr) (F : FL) : Prop := ∃ kvs : List (Key × V), H d = some (.dK kvs) ∧ kvs.map (·.1) = (keysF F).map (fun (p : Nat) => (Sum.inl (p : Int) : Key)) ∧
  ∀ x ∈ F, ∃ (a : Addr), valV kvs (Sum.inl (x.1 : Int)) = some (.ref a) ∧ SqT K H a (natsV x.2)
def spWays (K : PySem.W.Frag) : Sp := fun vs H Q _ => ∃ (v ev : V) (n : Nat) (ts : List Tie) (es : List Nat) (start : Nat), vs = [v, ev, .int start] ∧ Dp K H v (webD n ts) ∧ Dp K H ev (lotD es) ∧
  (∀ t ∈ ts, t.1 < t.2 ∧ t.2 < n) ∧ (∀ k ∈ es, k < ts.length) ∧ start < n ∧ n ≤ 1000 ∧ es.length ≤ 3000 ∧
  ∀ (d : Addr) H', H d = none → Same H H' → FoundF K H' d (bfs ts es n start) → Q (.ref d) H'
theorem dp_lotN {K : PySem.W.Frag} {H : Hp} {v : V} {ks : List Nat} (h : Dp K H v (lotD ks)) : ∃ a, v = .ref a ∧ SqT K H a (natsV ks) := dp_lotI h
section
variable {P : Program} {w : World} {K : PySem.W.Frag} {mg : Str → Option Value} {base : Heap}
theorem ok_far {f : Addr} {fd : FuncData} (D : Df K mg "far_end" sFar pFar f fd) (T : Bl mg) : FnOk P w K mg base CX0 1 f fd pFar (spFar K) := by
  refine D.fn.ok scFar (fun vs H Q E h => ?_) (fun cdv A outer s H vs Q E hr h => ?_)
  · obtain ⟨v, n, ts, kk, p, t, rfl, _⟩ := h
    rfl
  · obtain ⟨v, n, ts, kk, p, t, rfl, hw, ht, k⟩ := h
    have nd := scFar.nd
    obtain ⟨a, c, ys, rfl, ha, hc, hys⟩ := dp_web hw
    obtain ⟨y, hy, hyd⟩ := dpAll_at hys (show (ts.map tieD)[kk]? = some (tieD t) by rw [List.getElem?_map, ht]; rfl)
    obtain ⟨az, rfl, haz⟩ := dp_tie hyd
    refine ⟨_, (pss_cons (ps_asg (pe_ix (ixT K) (pe_ix (ixT K) (pv 0) pe_int (fun _ _ => rfl)) (pv 1) (fun _ _ => rfl)) (pgT K rfl (pgs_cons (pg_name (i := 3) nd rfl (by first | exact Or.inl rfl | exact Or.inr rfl)) (pgs_cons (pg_name (i := 4) nd rfl (by first | exact Or.inl rfl | exact Or.inr rfl)) pgs_nil))))
      (pss_one (ps_ret (pe_ifExp (pt_cmpR op_eq (pv 2) (pv 3) (nomark _)) (pv 4) (pv 3))))), ?_⟩
    refine ⟨_, rfl, a, _, _, _, rfl, rfl, ha, atI_nat (j := 1) rfl, _, rfl, c, _, _, _, rfl, rfl, hc, atI_nat hy, az, _, rfl, haz, rfl, _, _, rfl, _, _, rfl, rfl, ?_⟩
    refine ⟨_, rfl, _, rfl, rfl, _, rfl, ?_⟩
    unfold farEnd at k
    refine ite2 (fun hh => ?_) (fun hh => ?_)
    · have e : p = t.1 := by
        have := V.int.inj (of_decide_eq_true hh)
        omega
      rw [if_pos e] at k
      exact ⟨_, rfl, k⟩
    · have e : ¬ p = t.1 := fun z => hh (by rw [z]; exact decide_eq_true rfl)
      rw [if_neg e] at k
      exact ⟨_, rfl, k⟩
def muW (n : Nat) (d q : Addr) (H : Hp) : Nat := (match H d with | some (.dK kvs) => 2 * (n - kvs.length) | _ => 0) + (match H q with | some (.lst xs) => xs.length | _ => 0)
theorem muW_at {n : Nat} {d q : Addr} {H : Hp} {kvs : List (Key × V)} {xs : List V} (h1 : H d = some (.dK kvs)) (h2 : H q = some (.lst xs)) : muW n d q H = 2 * (n - kvs.length) + xs.length := by
  unfold muW
  rw [h1, h2]
theorem kv_len {kvs : List (Key × V)} {fnd : List Nat} (h : kvs.map (·.1) = fnd.map (fun (p : Nat) => (Sum.inl (p : Int) : Key))) : kvs.length = fnd.length := by
  have := congrArg List.length h
  rwa [List.length_map, List.length_map] at this
theorem val_none {kvs : List (Key × V)} {fnd : List Nat} {p : Nat} (h : kvs.map (·.1) = fnd.map (fun (p : Nat) => (Sum.inl (p : Int) : Key))) : (valV kvs (Sum.inl (p : Int))).isSome = decide (p ∈ fnd) := by
  rw [← valV_any, Bool.eq_iff_iff, decide_eq_true_eq, List.any_eq_true]
  constructor
  · rintro ⟨kv, hm, he⟩
    have hm2 : kv.1 ∈ kvs.map (·.1) := List.mem_map.mpr ⟨kv, hm, rfl⟩
    rw [h] at hm2
    obtain ⟨x, hx, e⟩ := List.mem_map.mp hm2
    have e2 := of_decide_eq_true he
    rw [← e] at e2
    have : x = p := by
      have := Sum.inl.inj e2
      omega
    exact this ▸ hx
  · intro hp
    have hm2 : (Sum.inl (p : Int) : Key) ∈ kvs.map (·.1) := by
      rw [h]
      exact List.mem_map.mpr ⟨p, hp, rfl⟩
    obtain ⟨kv, hm, e⟩ := List.mem_map.mp hm2
    exact ⟨kv, hm, decide_eq_true e⟩
/-- the state of the search -/
structure Bfs (K : PySem.W.Frag) (ts : List Tie) (es : List Nat) (n start : Nat) (H : Hp) (d q : Addr) (F : FL) (que : List Nat) : Prop where
  fd : FoundF K H d F
  qu : H q = some (.lst (natsV que))
  bi : BI ts es n start F que
  ql : que.length ≤ F.length
  go : ∃ m, que.length + (n - F.length) ≤ m ∧ bfsGo ts es m F que = bfs ts es n start
theorem FoundF.kf {K : PySem.W.Frag} {H H' : Hp} {d : Addr} {F : FL} (h : FoundF K H d F) (s : KF H H') (hd : H' d = H d) : FoundF K H' d F := by
  obtain ⟨kvs, h1, h2, h3⟩ := h
  exact ⟨kvs, by rw [hd, h1], h2, fun p hp => by
    obtain ⟨a, e1, e2⟩ := h3 p hp
    exact ⟨a, e1, sqT_kf s e2⟩⟩
theorem FoundF.same {K : PySem.W.Frag} {H H' : Hp} {d : Addr} {F : FL} (h : FoundF K H d F) (s : Same H H') : FoundF K H' d F := by
  have ⟨kvs, h1, _⟩ := h
  exact h.kf (fun a o e _ => s a o e) (by rw [s _ _ h1, h1])
theorem kf_upd {H : Hp} {l : Addr} {o x : HO} (h : H l = some o) (ho : (∀ xs, o ≠ .tup xs) ∧ ∀ od u, o ≠ .frz od u) : KF H (upd H l x) := fun z o2 hz q => by
  have nz : z ≠ l := by
    rintro rfl
    rw [h] at hz
    cases hz
    obtain ⟨xs, e | ⟨od, e⟩⟩ := q
    · exact ho.1 _ e
    · exact ho.2 _ _ e
  rw [upd_ne nz]
  exact hz
theorem ok_ways {f f1 : Addr} {fd fd1 : FuncData} (D : Df K mg "ways_from" sWays pWays f fd) (T : Bl mg) (D_far : Df K mg "far_end" sFar pFar f1 fd1) : FnOk P w K mg base CX0 2 f fd pWays (spWays K) := by
  have G_far : FnOk P w K mg base CX0 1 f1 fd1 pFar (spFar K) := ok_far D_far T
  refine D.fn.ok scWays (fun vs H Q E h => ?_) (fun cdv A outer s H vs Q E hr h => ?_)
  · obtain ⟨v, ev, n, ts, es, start, rfl, _⟩ := h
    rfl
  · obtain ⟨v, ev, n, ts, es, start, rfl, hw, he, hends, hes, hst, hn, hel, k⟩ := h
    have hr_far : Room 1 _ := hr
    have hu := hu_of hr
    have nd := scWays.nd
    obtain ⟨a, c, ys, rfl, ha, hc, hys⟩ := dp_web hw
    have hyl : ys.length = ts.length := by rw [dpAll_len hys, List.length_map]
    obtain ⟨ae, rfl, hae⟩ := dp_lotN he
    refine ⟨_, (pss_cons (ps_set (i := 3) nd rfl (by first | exact Or.inl rfl | exact Or.inr rfl) (pe_disp (pps_cons (pv 2) (pe_tup pa_nil) pps_nil) (by rfl) (by rfl) (fun z => by cases z) (by decide)))
      (pss_cons (ps_set (i := 4) nd rfl (by first | exact Or.inl rfl | exact Or.inr rfl) (pe_lst (pa_cons (pv 2) pa_nil)))
      (pss_cons (ps_while PassesOwn.never (pt_truth (pv 4) (by intro _; rfl)) (pss_cons (ps_set (i := 5) nd rfl (by first | exact Or.inl rfl | exact Or.inr rfl) (pe_bm PySem.F.plainAttrs_list PySem.F.slot_list_pop PySem.F.type_list_pop mt_popAt (pv 4) (pa_cons pe_int pa_nil)))
      (pss_one (ps_for PassesOwn.never rfl (piT K (pv 1)) (pg_name (i := 6) nd rfl (by first | exact Or.inl rfl | exact Or.inr rfl)) (pss_cons (ps_if (pt_cmpR (opNotIn K) (pv 5) (pe_ix (ixT K) (pe_ix (ixT K) (pv 0) pe_int (fun _ _ => rfl)) (pv 6) (fun _ _ => rfl)) rfl) (pss_one ps_continue) pss_nil)
      (pss_cons (ps_set (i := 7) nd rfl (by first | exact Or.inl rfl | exact Or.inr rfl) (pe_call G_far hr_far (by rfl) D_far.ad D_far.fn.kp D_far.bd .nil pass0 (pa_cons (pv 0) (pa_cons (pv 6) (pa_cons (pv 5) pa_nil)))))
      (pss_one (ps_if (pt_cmp (pc_dnotin hu (pv 7) (pv 3))) (pss_cons (ps_dput hu (pv 3) (pv 7) (pe_op (catA K) (pe_dget hu (pv 3) (pv 5) (fun _ _ => rfl)) (pe_tup (pa_cons (pv 6) pa_nil))) rfl)
      (pss_one (ps_expr (pe_bm PySem.F.plainAttrs_list PySem.F.slot_list_append PySem.F.type_list_append mt_append (pv 4) (pa_cons (pv 7) pa_nil))))) pss_nil))))))))
      (pss_one (ps_ret (pv 3)))))), ?_⟩
    refine fun d hd => ?_
    have s1 := same_new (o := .dK []) hd
    refine ⟨_, rfl, Nat.zero_le _, fun t0 ht0 => ?_⟩
    have s2 := same_new (o := .tup []) ht0
    have hd2 := s2 _ _ (upd_same (H := H) (a := d) (o := .dK []))
    have nd0 : d ≠ t0 := by
      rintro rfl
      rw [upd_same] at ht0
      cases ht0
    refine ⟨hd2, [(Sum.inl (start : Int), .ref t0)], rfl, (by show 1 ≤ 15; decide), ?_⟩
    dsimp only [gName]
    refine at_st [some (.ref a), some (.ref ae), some (.int start), some (.ref d), none, none, none, none] rfl ?_
    refine tSeq_go ?_
    refine ⟨_, rfl, by show 1 ≤ sizeLine; decide, fun q hq => ?_⟩
    have h3d : (upd (upd (upd H d (.dK [])) t0 (.tup [])) d (.dK (mergeK [] [((Sum.inl (start : Int) : Key), V.ref t0)]))) d = some (.dK [((Sum.inl (start : Int) : Key), V.ref t0)]) := upd_same
    have h3t : (upd (upd (upd H d (.dK [])) t0 (.tup [])) d (.dK (mergeK [] [((Sum.inl (start : Int) : Key), V.ref t0)]))) t0 = some (.tup []) := by
      rw [upd_ne nd0.symm]
      exact upd_same
    have h3s : Same H (upd (upd (upd H d (.dK [])) t0 (.tup [])) d (.dK (mergeK [] [((Sum.inl (start : Int) : Key), V.ref t0)]))) := same_old hd (s1.trans s2)
    generalize (upd (upd (upd H d (.dK [])) t0 (.tup [])) d (.dK (mergeK [] [((Sum.inl (start : Int) : Key), V.ref t0)]))) = H3 at *
    have s3 := same_new (o := .lst [.int start]) hq
    have s4 := h3s.trans s3
    have dq : d ≠ q := by
      rintro rfl
      rw [h3d] at hq
      cases hq
    have b4 : Bfs K ts es n start (upd H3 q (.lst [.int start])) d q [(start, [])] [start] := by
      refine ⟨⟨_, s3 _ _ h3d, rfl, fun p hp => ?_⟩, upd_same, start_inv hst, Nat.le_refl _, n + 1, by show 1 + (n - 1) ≤ n + 1; omega, rfl⟩
      obtain rfl := List.mem_singleton.mp hp
      refine ⟨t0, ?_, SqT.of (s3 _ _ h3t)⟩
      simp [valV]
    have qn : H q = none := Same.free h3s hq
    clear hq s3 h3d h3t h3s s1 s2 hd2 ht0 nd0
    generalize upd H3 q (.lst [.int start]) = H4 at b4 s4
    dsimp only [gName]
    refine at_st [some (.ref a), some (.ref ae), some (.int start), some (.ref d), some (.ref q), none, none, none] rfl ?_
    refine tSeq_go ?_
    refine while_by (fun σ H' => ∃ (v5 v6 v7 : Option V) (F : FL) (que : List Nat), σ = [some (.ref a), some (.ref ae), some (.int start), some (.ref d), some (.ref q), v5, v6, v7] ∧ Same H H' ∧
      Bfs K ts es n start H' d q F que) (fun _ H' => muW n d q H') ?_ ?_ ?_
    · exact ⟨none, none, none, _, [start], rfl, s4, b4⟩
    · rintro σ H5 ⟨v5, v6, v7, F, que, rfl, s5, b5⟩
      refine ⟨_, rfl, !(natsV que).isEmpty, .inl ⟨_, SqL.of b5.qu, rfl⟩, ?_⟩
      cases que with
      | nil =>
        refine iteF ?_
        obtain ⟨m, _, hm⟩ := b5.go
        rw [go_nil] at hm
        exact ⟨_, rfl, k d H5 hd s5 (hm ▸ b5.fd)⟩
      | cons p rest =>
        refine iteT ?_
        refine tSeq_go ?_
        have hp5 : p ∈ keysF F := b5.bi.qs p (List.mem_cons_self ..)
        refine ⟨_, rfl, .inl ⟨rfl, _, SqL.of b5.qu⟩, q, _, 0, 0, .int p, rfl, rfl, b5.qu, by decide, by decide, by simp [seqIndex?, natsV], rfl, ?_⟩
        have e5 : (natsV (p :: rest)).eraseIdx 0 = natsV rest := rfl
        rw [e5]
        have bi6 : BI ts es n start F rest := ⟨b5.bi.nd, b5.bi.lt, b5.bi.st, b5.bi.ways, fun x hx => b5.bi.qs x (List.mem_cons_of_mem _ hx)⟩
        have fd6 : FoundF K (upd H5 q (.lst (natsV rest))) d F := b5.fd.kf (kf_upd b5.qu ⟨(fun _ e => nomatch e), (fun _ _ e => nomatch e)⟩) (upd_ne dq)
        have qu6 : (upd H5 q (.lst (natsV rest))) q = some (.lst (natsV rest)) := upd_same
        have ql6 : rest.length ≤ F.length := Nat.le_of_succ_le b5.ql
        have s6 : Same H (upd H5 q (.lst (natsV rest))) := same_old qn s5
        have m6 : muW n d q (upd H5 q (.lst (natsV rest))) + 1 = muW n d q H5 := by
          obtain ⟨kvs, h1, h2, _⟩ := b5.fd
          rw [muW_at (d := d) (q := q) (by rw [upd_ne dq]; exact h1) upd_same, muW_at h1 b5.qu]
          simp [natsV]
          omega
        have hgo : ∃ m, (es.foldl (stepK ts p) (F, rest)).2.length + (n - (es.foldl (stepK ts p) (F, rest)).1.length) ≤ m ∧ bfsGo ts es m (es.foldl (stepK ts p) (F, rest)).1 (es.foldl (stepK ts p) (F, rest)).2 = bfs ts es n start := by
          obtain ⟨m, h1, h2⟩ := b5.go
          rw [List.length_cons] at h1
          have hsc := (scan_inv hends es F rest bi6 hp5 fun x hx => ⟨hx, hes x hx⟩).2.2.2.2.2
          cases m with
          | zero => omega
          | succ m => exact ⟨m, by omega, h2⟩
        clear e5 b5
        generalize upd H5 q (.lst (natsV rest)) = H6 at *
        dsimp only [gName]
        refine at_st [some (.ref a), some (.ref ae), some (.int start), some (.ref d), some (.ref q), some (.int p), v6, v7] rfl ?_
        refine ⟨_, rfl, ae, rfl, ⟨_, sqT_same s6 hae⟩, for_it (walk_tup (xs := natsV es)) (fun i σ H' => ∃ (v6 v7 : Option V), σ = [some (.ref a), some (.ref ae), some (.int start), some (.ref d), some (.ref q), some (.int p), v6, v7] ∧
          Same H H' ∧ FoundF K H' d ((es.take i).foldl (stepK ts p) (F, rest)).1 ∧ H' q = some (.lst (natsV ((es.take i).foldl (stepK ts p) (F, rest)).2)) ∧
          ((es.take i).foldl (stepK ts p) (F, rest)).2.length ≤ ((es.take i).foldl (stepK ts p) (F, rest)).1.length ∧ muW n d q H' + 1 ≤ muW n d q H5) ?_ ?_ ?_ ?_⟩
        · exact ⟨v6, v7, rfl, s6, fd6, qu6, ql6, by omega⟩
        · rintro i σ H' _ ⟨v6, v7, rfl, sH, _⟩
          exact sqT_same sH hae
        · rintro i x σ H7 H'' hi ⟨v6, v7, rfl, s7, b7, q7, l7, m7⟩ ⟨rfl, hx⟩
          obtain ⟨kk, hkk, rfl⟩ := get_map hx
          have hke := List.mem_of_getElem? hkk
          have hkl : kk < ts.length := hes kk hke
          have ht : ts[kk]? = some ts[kk] := List.getElem?_eq_getElem hkl
          generalize ts[kk] = t at ht
          have hmt := List.mem_of_getElem? ht
          obtain ⟨bi7, sub7, _⟩ := scan_inv hends (es.take i) F rest bi6 hp5 fun x hx => ⟨List.mem_of_mem_take hx, hes x (List.mem_of_mem_take hx)⟩
          have p7 := sub7 p hp5
          have hstep : (es.take (i + 1)).foldl (stepK ts p) (F, rest) = stepK ts p ((es.take i).foldl (stepK ts p) (F, rest)) kk := by
            rw [List.take_add_one, hkk, List.foldl_append]
            rfl
          rw [hstep]
          generalize (es.take i).foldl (stepK ts p) (F, rest) = S at *
          obtain ⟨F2, que2⟩ := S
          dsimp only at b7 q7 l7 bi7 p7 ⊢
          obtain ⟨y, hy, hyd⟩ := dpAll_at hys (show (ts.map tieD)[kk]? = some (tieD t) by rw [List.getElem?_map, ht]; rfl)
          obtain ⟨az, rfl, haz⟩ := dp_tie (dp_same s7 _ hyd)
          have key : inV (V.int (p : Int)) [V.int t.1, V.int t.2] = decide (p ∈ [t.1, t.2]) := inv_nats p [t.1, t.2]
          show tSeq _ _ _ _ _
          refine tSeq_go ?_
          have ha7 := sqT_same s7 ha
          have hc7 := sqT_same s7 hc
          refine ⟨_, rfl, _, rfl, a, _, _, _, rfl, rfl, ha7, atI_nat (j := 1) rfl, _, rfl, c, _, _, _, rfl, rfl, hc7, atI_nat hy, az, _, rfl, .inr haz, rfl, rfl, _, rfl, ?_⟩
          refine ite2 (fun hh => ?_) (fun hh => ?_)
          · -- not at this end
            rw [key] at hh
            have hno : p ∉ [t.1, t.2] := by simpa using hh
            simp only [List.mem_cons, List.not_mem_nil, or_false, not_or] at hno
            have e : stepK ts p (F2, que2) kk = (F2, que2) := by
              unfold stepK
              rw [ht]
              dsimp only
              rw [if_neg fun z => z.elim hno.1 hno.2]
            rw [e]
            exact ⟨_, v7, rfl, s7, b7, q7, l7, m7⟩
          rw [key] at hh
          have hin : p = t.1 ∨ p = t.2 := by
            have : p ∈ [t.1, t.2] := Classical.byContradiction fun hn => hh (by rw [decide_eq_false hn]; rfl)
            simpa using this
          dsimp only [tNext]
          refine tSeq_go ?_
          refine ⟨_, rfl, _, rfl, _, rfl, .ref a, n, ts, kk, p, t, rfl, dp_same s7 _ hw, ht, ?_⟩
          dsimp only [gName]
          have efe : farEnd t p = farE t p := rfl
          rw [efe]
          refine at_st [some (.ref a), some (.ref ae), some (.int start), some (.ref d), some (.ref q), some (.int p), some (.int kk), some (.int (farE t p : Nat))] rfl ?_
          obtain ⟨kvs, h1, h2, h3⟩ := b7
          have hlen0 : kvs.length = F2.length := by
            have := kv_len h2
            unfold keysF at this
            rwa [List.length_map] at this
          have hF2n := bi7.len
          refine ⟨_, rfl, _, rfl, d, _, rfl, DGet.k (k := Sum.inl ((farE t p : Nat) : Int)) h1, _, rfl, ?_⟩
          rw [val_none h2]
          refine ite2 (fun hh2 => ?_) (fun hh2 => ?_)
          · have hnf : farE t p ∉ keysF F2 := by simpa using hh2
            have e : stepK ts p (F2, que2) kk = (F2 ++ [(farE t p, wayAt F2 p ++ [kk])], que2 ++ [farE t p]) := by
              unfold stepK
              rw [ht]
              dsimp only
              rw [if_pos hin, if_neg hnf]
            rw [e]
            have biN := (step_inv hends bi7 p7 hke ht).1
            rw [e] at biN
            have hN := biN.len
            rw [List.length_append, List.length_singleton] at hN
            have hvn : valV kvs (Sum.inl ((farE t p : Nat) : Int)) = none := by
              have := val_none (p := farE t p) h2
              rw [decide_eq_false hnf] at this
              cases e : valV kvs (Sum.inl ((farE t p : Nat) : Int)) with
              | none => rfl
              | some x => rw [e] at this; cases this
            obtain ⟨aw, e1, e2⟩ := h3 _ (wayAt_mem p7)
            obtain ⟨P0, hP1, hP2, _⟩ := bi7.ways _ (wayAt_mem p7)
            have hwl : (wayAt F2 p).length ≤ n := by
              have h8 := hP1.nd
              have h9 := nodup_sub (keysF F2) P0 h8.1 hP2
              unfold keysF at h9
              rw [List.length_map] at h9
              have h82 : (wayAt F2 p).length + 1 = P0.length := h8.2
              omega
            refine tSeq_go ?_
            refine ⟨_, rfl, _, rfl, d, _, rfl, by rw [← e1]; exact DGet.k (k := Sum.inl (p : Int)) h1, ?_⟩
            refine ⟨_, rfl, by show 1 ≤ sizeLine; decide, fun t1 ht1 => ?_⟩
            have u1 := same_new (o := .tup [.int kk]) ht1
            refine catA_by rfl rfl (sqT_same u1 e2) (SqT.of upd_same) (by unfold natsV; rw [List.length_map]; show _ + 1 ≤ 100000; dsimp only; omega) fun cw H8 u2 hcw => ?_
            have u12 := u1.trans u2
            have h18 := u12 _ _ h1
            have h48 := u12 _ _ q7
            refine ⟨_, rfl, _, rfl, d, _, rfl, DPut.k (k := Sum.inl ((farE t p : Nat) : Int)) h18 (Nat.lt_of_lt_of_le (show kvs.length < 100000 by omega) (by decide)), ?_⟩
            have kd : KF H8 (upd H8 d (.dK (putK kvs (Sum.inl ((farE t p : Nat) : Int)) (.ref cw)))) := kf_upd h18 ⟨(fun _ e => nomatch e), (fun _ _ e => nomatch e)⟩
            have hq9 : (upd H8 d (.dK (putK kvs (Sum.inl ((farE t p : Nat) : Int)) (.ref cw)))) q = some (.lst (natsV que2)) := by
              rw [upd_ne dq.symm]
              exact h48
            refine ⟨_, rfl, .inl ⟨rfl, _, SqL.of hq9⟩, _, rfl, q, _, _, rfl, rfl, hq9, ?_, ?_⟩
            · unfold natsV
              rw [List.length_map]
              exact Nat.lt_of_lt_of_le (show que2.length < 100000 by omega) (by decide)
            have kq : KF (upd H8 d (.dK (putK kvs (Sum.inl ((farE t p : Nat) : Int)) (.ref cw)))) (upd (upd H8 d (.dK (putK kvs (Sum.inl ((farE t p : Nat) : Int)) (.ref cw)))) q (.lst (natsV que2 ++ [.int (farE t p : Nat)]))) := kf_upd hq9 ⟨(fun _ e => nomatch e), (fun _ _ e => nomatch e)⟩
            have hd10 : (upd (upd H8 d (.dK (putK kvs (Sum.inl ((farE t p : Nat) : Int)) (.ref cw)))) q (.lst (natsV que2 ++ [.int (farE t p : Nat)]))) d = some (.dK (kvs ++ [(Sum.inl ((farE t p : Nat) : Int), .ref cw)])) := by
              rw [upd_ne dq, upd_same, putK_new _ hvn]
            have hq10 : (upd (upd H8 d (.dK (putK kvs (Sum.inl ((farE t p : Nat) : Int)) (.ref cw)))) q (.lst (natsV que2 ++ [.int (farE t p : Nat)]))) q = some (.lst (natsV (que2 ++ [farE t p]))) := by
              rw [upd_same]
              unfold natsV
              rw [List.map_append]
              rfl
            refine ⟨some (.int kk), some (.int (farE t p : Nat)), rfl, same_old qn (same_old hd (s7.trans u12)), ⟨_, hd10, ?_, fun x hx => ?_⟩, hq10, ?_, ?_⟩
            · rw [keys_app, List.map_append, List.map_append, h2]
              rfl
            · have vput : ∀ y : Nat, valV (kvs ++ [(Sum.inl ((farE t p : Nat) : Int), V.ref cw)]) (Sum.inl (y : Int)) = if y = farE t p then some (.ref cw) else valV kvs (Sum.inl (y : Int)) := fun y => by
                rw [← putK_new _ hvn, valV_put]
                by_cases e : y = farE t p
                · rw [if_pos e, if_pos (by rw [e])]
                · rw [if_neg e, if_neg (fun z => e (by have := Sum.inl.inj z; omega))]
              rcases List.mem_append.mp hx with z | z
              · obtain ⟨ax, f1, f2⟩ := h3 x z
                refine ⟨ax, ?_, sqT_kf kq (sqT_kf kd (sqT_same u12 f2))⟩
                rw [vput, if_neg (fun e : x.1 = farE t p => hnf (e ▸ List.mem_map_of_mem z)), f1]
              · obtain rfl := List.mem_singleton.mp z
                refine ⟨cw, ?_, sqT_kf kq (sqT_kf kd ?_)⟩
                · rw [vput, if_pos rfl]
                · have : natsV (wayAt F2 p ++ [kk]) = natsV (wayAt F2 p) ++ [.int kk] := by unfold natsV; rw [List.map_append]; rfl
                  dsimp only
                  rw [this]
                  exact hcw
            · dsimp only
              rw [List.length_append, List.length_append]
              exact Nat.add_le_add_right l7 _
            · rw [muW_at h1 q7] at m7
              rw [muW_at hd10 hq10]
              unfold natsV at m7 ⊢
              rw [List.length_map] at m7 ⊢
              rw [List.length_append, List.length_append, List.length_singleton, List.length_singleton]
              omega
          · have hyf : farE t p ∈ keysF F2 := by simpa using hh2
            have e : stepK ts p (F2, que2) kk = (F2, que2) := by
              unfold stepK
              rw [ht]
              dsimp only
              rw [if_pos hin, if_pos hyf]
            rw [e]
            exact ⟨some (.int kk), some (.int (farE t p : Nat)), rfl, s7, ⟨kvs, h1, h2, h3⟩, q7, l7, m7⟩
        · rintro σ H7 ⟨v6, v7, rfl, s7, b7, q7, l7, m7⟩
          have el : es.take (natsV es).length = es := by
            unfold natsV
            rw [List.length_map]
            exact List.take_of_length_le (Nat.le_refl _)
          rw [el] at b7 q7 l7
          exact ⟨⟨_, _, _, _, _, rfl, s7, b7, q7, (scan_inv hends es F rest bi6 hp5 fun x hx => ⟨hx, hes x hx⟩).1, l7, hgo⟩, by omega⟩
    · rintro σ H' Q1 Q2 hQ ⟨v, e, kb, tv, q1⟩
      exact ⟨v, e, kb, tv, hQ _ _ q1⟩

end
end BV

namespace BV
open PySem L2
/-! ### data, the empty dict among it -/
def Od (K : PySem.W.Frag) (H : Hp) (x : V) (d : PyData) : Prop := Dp K H x d ∨ (d = .dict [] ∧ ∃ a, x = .ref a ∧ H a = some (.dK []))
theorem Od.same {K : PySem.W.Frag} {H H' : Hp} {x : V} {d : PyData} (s : Same H H') (h : Od K H x d) : Od K H' x d := by
  rcases h with h | ⟨rfl, a, rfl, h⟩
  · exact .inl (dp_same s _ h)
  · exact .inr ⟨rfl, a, rfl, s _ _ h⟩
def tyN : PyData → String
  | .none => "NoneType"
  | .bool _ => "bool"
  | .int _ => "int"
  | .str _ => "str"
  | .list _ => "list"
  | .tuple _ => "tuple"
  | .dict _ => "dict"
theorem sq_list_ty {K : PySem.W.Frag} {H : Hp} {a : Addr} {xs : List V} (h : SqL K H a xs) : TyX K H (.ref a) (.type "list") := by
  rcases h with (h | ⟨o, h⟩) | h
  · exact .base (.lst h)
  · exact .base (.frz h)
  · obtain ⟨o, its, n, h1, h2, _⟩ := h
    exact .kList h1 h2
theorem sq_tup_ty {K : PySem.W.Frag} {H : Hp} {a : Addr} {xs : List V} (h : SqT K H a xs) : TyX K H (.ref a) (.type "tuple") := by
  rcases h with (h | ⟨o, h⟩) | h
  · exact .base (.tup h)
  · exact .fTuple h
  · obtain ⟨o, its, n, h1, h2, _⟩ := h
    exact .kTuple h1 h2
theorem ty_of {K : PySem.W.Frag} {H : Hp} {x : V} {d : PyData} (h : Od K H x d) : TyX K H x (.type (tyN d)) := by
  rcases h with h | ⟨rfl, a, rfl, h⟩
  · cases h with
    | non => exact .base .non
    | bl b => exact .base (.bl b)
    | int i => exact .base (.int i)
    | str s => exact .base (.str s)
    | lst h1 _ => exact sq_list_ty h1
    | tup h1 _ => exact sq_tup_ty h1
  · exact .base (.dK h)
def rIsiD (K : PySem.W.Frag) : List V → Hp → VK → Prop := fun xs H Q => ∃ (x : V) (d : PyData) (T : String) (b : Bool), xs = [x, .ty T] ∧ Od K H x d ∧ kitB (tyN d) T = some b ∧ Q (.bl b) H
theorem isiD {X : Cx} (K : PySem.W.Frag) (h : X.K = K := by rfl) : CallR X (.builtin "isinstance") (rIsiD K) := by
  subst h
  intro pins s σ H vs us Q I r h
  obtain ⟨x, d, T, b, rfl, hd, hk, q⟩ := h
  exact call_isi pins s σ H _ us Q I r ⟨x, _, _, _, b, rfl, .ty T, ty_of hd, kit_ty hk, q⟩
def isTup : PyData → Bool
  | .tuple _ => true
  | _ => false
def isInt : PyData → Bool
  | .int _ => true
  | _ => false
theorem kit_tup (d : PyData) : kitB (tyN d) "tuple" = some (isTup d) := by
  cases d <;> simp only [tyN, isTup] <;> decide +kernel
def isIntB : PyData → Bool
  | .int _ => true
  | .bool _ => true
  | _ => false
def isBool : PyData → Bool
  | .bool _ => true
  | _ => false
theorem kit_int (d : PyData) : kitB (tyN d) "int" = some (isIntB d) := by
  cases d <;> simp only [tyN, isIntB] <;> decide +kernel
theorem kit_bool (d : PyData) : kitB (tyN d) "bool" = some (isBool d) := by
  cases d <;> simp only [tyN, isBool] <;> decide +kernel
end BV

namespace BV
open PySem PySem.Spec PyProof.Rows L2
/-! ### an own error without arguments: raised, caught, looked at -/
section
variable {X : Cx} {C : Addr} {mr : List Value} {B n1 n2 : String}
theorem pmk_bare {x : Str} {p pos : Pos} (F : ExcBaseFacts B n1 n2 mr) (hq : PySem.W.excIn X.K C mr n1 = true) (hm : X.mg x = some (.ref C)) (hk : PySem.W.keepIn X.K (.ref C) = true) (hr : Raises X (.ref C)) (hg : Gl X x)
    (hdb : (x == ("__debug__" : Str)) = false := by decide) : PMk X (.Call (.Name x p) [] [] pos) (fun _ H Q => Q (.ref C) none H) := by
  intro pins ⟨hp, gn, dr, tk, os⟩ σ H Q J q0
  refine wpAny_Call_Name_kw (ld_glob J hg hm (PySem.W.callWith_K0 J.kIn hk ?_) hdb)
  have ⟨c1, c2, c3, c4, c5, c6, c7, c8, c9, d1, d2, d3, d4, d5, d6, d7, e1, e2, e3, e4, e5⟩ := exc_obj J.kIn hq
  exact wpAny_call_exc_subT F e5 e2 e3 e4 (fun _ _ made => mk_of J made hr q0 (J.hok.gone made.new)) (Nat.zero_le _)
end
/-- what is known of the class Unfit, under BothError -/
structure ErrU (K : PySem.W.Frag) (mg : Str → Option Value) (U B : Addr) : Prop where
  gU : mg "Unfit" = some (.ref U)
  gB : mg "BothError" = some (.ref B)
  gv : mg "ValueError" = none
  xU : PySem.W.excIn K U [.type "ValueError", .type "Exception", .type "BaseException", .type "object"] "ValueError.__new__" = true
  kU : PySem.W.keepIn K (.ref U) = true
  bU : PySem.W.subIn K (.ref U) (.type "BaseException") = some true
  tU : PySem.W.typeIn K (.ref U) = some (.type "type")
  te : PySem.W.exmOne K (.ref U) (.ref U) = some true
  ex : ExcC K U
  iv : PySem.W.kitOne K (.ref U) (.type "ValueError") = some true
  ib : PySem.W.kitOne K (.ref U) (.ref B) = some true
theorem ErrU.raises {X : Cx} {U B : Addr} (T : ErrU X.K X.mg U B) : Raises X (.ref U) := raises_own T.bU T.tU
theorem ps_unfit {X : Cx} {U B : Addr} {W : WX} {p pos pos2 : Pos} (hc : X.calm = true) (T : ErrU X.K X.mg U B) (tk : Takes X W) (hg : Gl X "Unfit" := by rfl) :
    PS X (.Raise (some (.Call (.Name "Unfit" p) [] [] pos)) none pos2) (fun _ σ H => W (.ref U) none σ H) :=
  ps_raise hc tk (pmk_bare PySem.F.excBase_ValueError T.xU T.gU T.kU T.raises hg)
/-- isinstance(e, c), e the error that the suite holds -/
def rIsX (K : PySem.W.Frag) (a : Addr) (cls : Value) (d : Option Addr) : List V → Hp → VK → Prop := fun xs H Q => ∃ U, ExcC K U ∧ cls = .ref U ∧ d = none ∧ rIsE K U a xs H Q
theorem isX {X : Cx} {a : Addr} {oe : Obj} {cls : Value} {d : Option Addr} {pn : List (Addr × Obj)} (hz : Zc cls d oe) (hf : ∃ vs, oe.data = .fields vs) : CallR (X.suite a ((a, oe) :: pn)) (.builtin "isinstance") (rIsX X.K a cls d) := by
  intro pins s σ H xs us Q J r h
  obtain ⟨U, hC, e1, e2, h⟩ := h
  subst e1 e2
  exact call_isE hC hz hf pins s σ H xs us Q J r h
section
variable {X : Cx} {CX : CXT} {k n : Nat} {f : Addr} {fd : FuncData} {ps ks : List Str} {sp : Sp} {dvs : List V} {ds : List Value}
  {E : L2.St → XK} {x : Str} {p pos : Pos} {tk : TA} {kws : List Keyword} {g : List Value → List Value → List Value} {gV : List V → List V → List V}
def tCallKS (m : Nat) (sp : Sp) (gV : List V → List V → List V) (E : L2.St → XK) (tk : TA) : TE := fun σ H Q => tk σ H fun zs H2 => zs.length = m ∧ sp (gV [] zs) H2 Q (E σ)
/-- f(k = v, ..), where what f raises is wished for at the slots -/
theorem pe_callKS (F : FnOk X.prog X.w X.K X.mg X.base CX k f fd ps sp) (hr : Room k X.A) (hg : Gl X x) (hm : X.mg x = some (.ref f)) (hk : PySem.W.keepIn X.K (.ref f) = true)
    (hb : KBn X.K fd ps 0 ks g gV) (hx : ∀ σ, PassesAt CX X σ (E σ)) (hkw : PK X kws tk)
    (hall : (backToKw pos (keywordEach kws X.env)).all (·.1.isSome) = true := by rfl) (hks : (backToKw pos (keywordEach kws X.env)).filterMap (·.1) = ks := by rfl)
    (hdb : (x == ("__debug__" : Str)) = false := by decide)
    (hpl : ((backTo pos (starEach [] X.env)).any (·.1) || (backToKw pos (keywordEach kws X.env)).any (·.1.isNone)) = false := by rfl) :
    PE X (.Call (.Name x p) [] kws pos) (tCallKS ks.length sp gV E tk) := by
  constructor
  intro pins s σ H Q J h
  refine wpAny_Call_Name_kw (ld_glob J hg hm ?_ hdb)
  refine PySem.W.callWith_KW0 (h₀ := X.base) J.ok.mod.kin hk hall (thn (hkw.run pos pins s σ H _ J h) fun ws s2 hh => ?_) hpl
  obtain ⟨zs, H2, J2, rz, l2, q2⟩ := hh
  refine ⟨J2.kIn, ?_⟩
  rw [hks]
  refine wpAny_call (codeAny_mono (F.run X.A X.stack s2 H2 ⟨[], ks.zip ws⟩ _ _ Q (E σ) hr J2.env0 (hb.to s2 [] ws J2.kIn rfl (by rw [← rz.length]; exact l2)) (hb.rel .nil rz) q2) fun r s' hq => ?_)
  cases r with
  | error e => exact hx σ pins H2 s2 e s' J2 hq
  | ok fl =>
    cases fl with
    | ret u => exact J2.after hq
    | next => exact hq.elim
    | brk => exact hq.elim
    | cont => exact hq.elim
end
end BV

/-! sorted(t), t a tuple of whole numbers -/
namespace PyProof.Rows
open PySem
section
variable {prog : Program} {w : World} {A : Around} {E : Value → Shared → Prop} {s : Shared}
theorem collect_tupleB {l : Addr} {vs : List Value} {Q : List Value → Shared → Prop} (hl : s.heap.IsTuple l vs.toArray)
    (h : Q vs { s with heap := (s.heap.push (seqObj "list" #[] 0)).update s.heap.objs.size (Obj.mapSeq (· ++ vs.toArray)) }) (hsz : vs.length ≤ sizeLine) :
    wpAny (model prog w) A (collect (.ref l)) Q E s := by
  obtain ⟨o, ho, hc, n, hd⟩ := id hl
  unfold collect
  refine wpAny_bind (wpAny_runValue (codeAny_builtin entry_proto_collect' ?_))
  show wpAny _ _ (do again (.builtin "list.__iadd__" ⟨[← newList [], .ref l], []⟩)) _ _ s
  refine wpAny_bind (wpAny_newList (wpAny_pure ⟨Code.quiet_builtin _ (by decide +kernel), codeAny_builtin entry_list_iadd' ?_⟩))
  show wpAny _ _ (Builtin.List.listExtendWith (.ref s.heap.objs.size) (.ref l) (.ref s.heap.objs.size)) _ _ { s with heap := s.heap.push (seqObj "list" #[] 0) }
  unfold Builtin.List.listExtendWith
  have ho' : (s.heap.push (seqObj "list" #[] 0)).get? l = some o := Heap.get?_push_of_some _ ho
  refine wpAny_bind (wpAny_typeOf (T := "tuple") ⟨o, ho', hc⟩ ?_)
  have ht : (Value.type "tuple" == Value.type "tuple") = true := by rfl
  rw [if_pos (by rw [ht]; simp)]
  refine wpAny_bind (listItems_at ho' hd ?_)
  refine wpAny_bind (listItems_at (xs := #[]) (n := 0) (Heap.get?_push_size _ rfl) rfl ?_)
  rw [if_neg (by simp)]
  refine wpAny_bind (listUpdate_at (xs := #[]) (n := 0) (Heap.get?_push_size _ rfl) rfl ?_ (Nat.zero_le _) (by show (#[] ++ vs.toArray).size ≤ sizeLine + 1; simp only [Array.size_append, List.size_toArray, List.length_nil]; omega))
  refine wpAny_pure ?_
  show wpAny (model prog w) A (do
      let o ← load s.heap.objs.size
      match o.data with
      | .seq xs _ => pure xs.toList
      | _ => unsupported "internal:collect") Q E { s with heap := (s.heap.push (seqObj "list" #[] 0)).update s.heap.objs.size (Obj.mapSeq (· ++ vs.toArray)) }
  refine wpAny_bind (wpAny_load (get?_update_seq (Heap.get?_push_size _ rfl) _) ?_)
  show wpAny _ _ (pure ((#[] : Array Value) ++ vs.toArray).toList) Q E _
  rw [show ((#[] : Array Value) ++ vs.toArray).toList = vs by simp]
  exact wpAny_pure h
theorem sorted_tupB {l : Addr} {vs : List Value} {ns : List Int} {Q : Value → Shared → Prop} (hl : s.heap.IsTuple l vs.toArray) (hI : IntsAre vs ns) (h64 : vs.length < 64)
    (h : ∀ (out : Array Value) (ns' : List Int), IntsAre out.toList ns' → ns'.Perm ns → ns'.Pairwise (· ≤ ·) → Q (.ref (s.heap.objs.size + 1)) { s with heap := sortedAll s.heap vs out }) :
    wpAny (model prog w) A (call (.builtin "sorted") [.ref l]) Q E s := by
  refine Calls.call_function_entry kind_sorted plain_sorted entry_sorted (args_sorted1 _) ?_
  unfold Builtin.«sorted»
  refine wpAny_bind (m := checkCount "sorted" 1 1 _) (wpAny_pure ?_)
  refine wpAny_bind (collect_tupleB hl ?_ (by rw [sizeLine_eq]; omega))
  refine wpAny_bind (wpAny_newList ?_)
  have hsz : ((s.heap.push (seqObj "list" #[] 0)).update s.heap.objs.size (Obj.mapSeq (· ++ vs.toArray))).objs.size = s.heap.objs.size + 1 := by
    rw [Heap.size_update, size_push']
  have hoL : (((s.heap.push (seqObj "list" #[] 0)).update s.heap.objs.size (Obj.mapSeq (· ++ vs.toArray))).push (seqObj "list" vs.toArray 0)).get? (s.heap.objs.size + 1) = some (seqObj "list" vs.toArray 0) := by
    rw [← hsz]; exact Heap.get?_push_size _ rfl
  show wpAny _ _ _ _ _ { s with heap := ((s.heap.push (seqObj "list" #[] 0)).update s.heap.objs.size (Obj.mapSeq (· ++ vs.toArray))).push (seqObj "list" vs.toArray 0) }
  rw [hsz]
  refine wpAny_bind (wpAny_holding (wpAny_call_entry slot_list_sort ⟨_, hoL, rfl⟩ entry_list_sort (list_sort_tree hoL hI h64 fun out ns' a1 a2 a3 => ⟨_, rfl, ?_⟩) (args_list_sort _)))
  exact wpAny_pure ⟨_, rfl, h out ns' a1 a2 a3⟩
end
end PyProof.Rows
namespace BV
open PySem L2
def rSortT (K : PySem.W.Frag) : List V → Hp → VK → Prop := fun vs H Q => ∃ (a : Addr) (ns : List Int), vs = [V.ref a] ∧ SqT K H a (ns.map V.int) ∧ ns.length < 64 ∧
  ∀ (ns' : List Int) (p : Addr), ns'.Perm ns → ns'.Pairwise (· ≤ ·) → H p = none → Q (.ref p) (upd H p (.lst (ns'.map V.int)))
theorem cr_sortTup {X : Cx} (K : PySem.W.Frag) (h : X.K = K := by rfl) : CallR X (.builtin "sorted") (rSortT K) := by
  subst h
  intro pins s σ H vs us Q I r h
  obtain ⟨a, ns, rfl, hs, h64, q⟩ := h
  obtain ⟨its, rv, hl, _⟩ := I.tuple hs
  rw [Vals.ref1 r]
  have hi := rv.ints
  refine PyProof.Rows.sorted_tupB hl hi (by rw [hi.length]; exact h64) fun out ns' h1 h2 h3 => ?_
  obtain ⟨ep, he'⟩ := PyProof.Rows.sortedAll_at s.heap its out
  have hlen : (ns'.map V.int).length ≤ sizeLine := by rw [List.length_map, h2.length_eq]; exact small64 h64
  exact ⟨.ref _, upd H (s.heap.objs.size + 1) (.lst (ns'.map V.int)), I.laid (t' := s.toks) (fun _ _ => PyProof.Rows.sortedAll_old) (Nat.le_succ _) ⟨hlen, out.toList, ep, vals_of_ints h1, he'⟩, rfl, q ns' _ h2 h3 (I.hok.fresh (Nat.le_succ _))⟩
end BV

namespace BV
open PySem L2
abbrev sOdd : Stmt := top 11
abbrev nOdd : List Str := ["web", "lot", "odd", "tie", "place"]
abbrev pOdd : List Str := ["web", "lot"]
theorem scOdd : FnScope nOdd pOdd (defScope sOdd) := ⟨rfl, rfl, rfl, by decide +kernel, rfl, by decide +kernel, by decide +kernel⟩
abbrev sEven : Stmt := top 12
abbrev nEven : List Str := ["web", "lot"]
abbrev pEven : List Str := ["web", "lot"]
theorem scEven : FnScope nEven pEven (defScope sEven) := ⟨rfl, rfl, rfl, by decide +kernel, rfl, by decide +kernel, by decide +kernel⟩
theorem eqv_lots (ks ms : List Nat) : PyData.eqv (lotD ks) (lotD ms) = decide (ks = ms) := by
  have e : ∀ l : List Nat, (l.map fun (k : Nat) => PyData.int k) = (l.map fun (k : Nat) => (k : Int)).map PyData.int := fun l => by rw [List.map_map]; rfl
  unfold lotD
  rw [e, e, PyData.eqv, PySem.W.ked_eqvAll]
  refine decide_eq_decide.mpr ⟨fun h => ?_, fun h => by rw [h]⟩
  have := congrArg (List.map Int.toNat) h
  rw [List.map_map, List.map_map] at this
  have e2 : ∀ l : List Nat, l.map (Int.toNat ∘ fun (k : Nat) => (k : Int)) = l := fun l => (List.map_congr_left fun x _ => (by show ((x : Int)).toNat = x; omega)).trans (List.map_id l)
  rwa [e2, e2] at this
theorem shaped_lotN (ks : List Nat) : SeqAt.shaped (lotD ks) = true := by
  have h := shaped_intsL (ks.map fun (k : Nat) => (k : Int))
  rw [List.map_map] at h
  exact h
def atEnd (ts : List Tie) (p k : Nat) : Bool := match ts[k]? with
  | some t => decide (t.1 = p) || decide (t.2 = p)
  | none => false
def deg (ts : List Tie) (lot : List Nat) (p : Nat) : Nat := (lot.filter (atEnd ts p)).length
theorem deg_snoc {ts : List Tie} (l : List Nat) {k p : Nat} {t : Tie} (ht : ts[k]? = some t) : deg ts (l ++ [k]) p = deg ts l p + if t.1 = p ∨ t.2 = p then 1 else 0 := by
  unfold deg
  rw [List.filter_append, List.length_append]
  congr 1
  have e : atEnd ts p k = (decide (t.1 = p) || decide (t.2 = p)) := by
    unfold atEnd
    rw [ht]
  rw [List.filter_cons, e]
  by_cases h : t.1 = p ∨ t.2 = p
  · rw [if_pos h, if_pos (by rw [← Bool.decide_or]; exact decide_eq_true h)]
    rfl
  · rw [if_neg h, if_neg (by rw [← Bool.decide_or, decide_eq_false h]; decide)]
    rfl
def oddPl (n : Nat) (ts : List Tie) (lot : List Nat) : List Nat := (List.range n).filter fun p => decide (deg ts lot p % 2 = 1)
def evenB (n : Nat) (ts : List Tie) (lot : List Nat) : Bool := decide (oddPl n ts lot = [])
theorem rng_get {α : Type} (n : Nat) (g : Nat → α) {i : Nat} (h : i < n) : ((List.range n).map g)[i]? = some (g i) := by
  rw [List.getElem?_map, List.getElem?_range h]
  rfl
theorem rng_set {α : Type} (n : Nat) (g : Nat → α) (i : Nat) (y : α) : ((List.range n).map g).set i y = (List.range n).map fun p => if p = i then y else g p := by
  refine List.ext_getElem? fun j => ?_
  by_cases hj : j < n
  · rw [rng_get n _ hj]
    by_cases e : i = j
    · subst e
      rw [List.getElem?_set_self (by rw [List.length_map, List.length_range]; exact hj), if_pos rfl]
    · rw [List.getElem?_set_ne e, rng_get n g hj, if_neg (fun z => e z.symm)]
  · rw [List.getElem?_eq_none (by rw [List.length_set, List.length_map, List.length_range]; omega), List.getElem?_eq_none (by rw [List.length_map, List.length_range]; omega)]
def boolsV (n : Nat) (f : Nat → Bool) : List V := (List.range n).map fun p => V.bl (f p)
theorem bools_congr {n : Nat} {f g : Nat → Bool} (h : ∀ p, p < n → f p = g p) : boolsV n f = boolsV n g := List.map_congr_left fun p hp => by rw [h p (List.mem_range.mp hp)]
def spOdd (K : PySem.W.Frag) : Sp := fun vs H Q _ => ∃ (v u : V) (n : Nat) (ts : List Tie) (lot : List Nat), vs = [v, u] ∧ Dp K H v (webD n ts) ∧ Dp K H u (lotD lot) ∧ (∀ t ∈ ts, t.1 < t.2 ∧ t.2 < n) ∧ (∀ k ∈ lot, k < ts.length) ∧ n ≤ 1000 ∧
  ∀ (z : V) H', Same H H' → Dp K H' z (lotD (oddPl n ts lot)) → Q z H'
def spEven (K : PySem.W.Frag) : Sp := fun vs H Q _ => ∃ (v u : V) (n : Nat) (ts : List Tie) (lot : List Nat), vs = [v, u] ∧ Dp K H v (webD n ts) ∧ Dp K H u (lotD lot) ∧ (∀ t ∈ ts, t.1 < t.2 ∧ t.2 < n) ∧ (∀ k ∈ lot, k < ts.length) ∧ n ≤ 1000 ∧
  ∀ H', Same H H' → Q (.bl (evenB n ts lot)) H'
theorem even_iff {n : Nat} {ts : List Tie} {lot : List Nat} : evenB n ts lot = true ↔ ∀ p, p < n → ¬ deg ts lot p % 2 = 1 := by
  unfold evenB oddPl
  rw [decide_eq_true_eq, List.filter_eq_nil_iff]
  constructor
  · intro h p hp e
    exact h p (List.mem_range.mpr hp) (decide_eq_true e)
  · intro h p hp e
    exact h p (List.mem_range.mp hp) (of_decide_eq_true e)
theorem sorted_nats {ys : List Int} {l : List Nat} (hperm : ys.Perm (l.map fun (k : Nat) => (k : Int))) (hsort : ys.Pairwise (· ≤ ·)) (hn : l.Nodup) : ∃ ns : List Nat, ys = ns.map (fun (k : Nat) => (k : Int)) ∧ ns.Perm l ∧ ns.Pairwise (· < ·) := by
  obtain ⟨ns, rfl⟩ : ∃ ns : List Nat, ys = ns.map fun (k : Nat) => (k : Int) := ⟨ys.map Int.toNat, by
    rw [List.map_map]
    refine (List.map_id ys).symm.trans (List.map_congr_left fun y hy => ?_)
    obtain ⟨j, _, rfl⟩ := List.mem_map.mp (hperm.mem_iff.mp hy)
    show ((j : Int)) = (((j : Int)).toNat : Int)
    omega⟩
  have hnp : ns.Perm l := by
    have h := hperm.map Int.toNat
    rw [List.map_map, List.map_map] at h
    have e : ∀ l : List Nat, l.map (Int.toNat ∘ fun (k : Nat) => (k : Int)) = l := fun l => by
      refine (List.map_congr_left fun x _ => ?_).trans (List.map_id l)
      show ((x : Int)).toNat = x
      omega
    rw [e, e] at h
    exact h
  refine ⟨ns, rfl, hnp, ?_⟩
  have h6 : ns.Pairwise (· ≤ ·) := (List.pairwise_map.mp hsort).imp fun {x y} z => by omega
  refine (h6.and (hnp.nodup_iff.mpr hn)).imp fun {x y} z => ?_
  obtain ⟨z1, z2⟩ := z
  omega
theorem natsV_len (ks : List Nat) : (natsV ks).length = ks.length := by
  unfold natsV
  rw [List.length_map]
theorem natsV_ints (ks : List Nat) : natsV ks = (ks.map fun (k : Nat) => (k : Int)).map V.int := by
  unfold natsV
  rw [List.map_map]
  rfl
theorem natsV_snoc (ks : List Nat) (k : Nat) : natsV ks ++ [V.int k] = natsV (ks ++ [k]) := by
  unfold natsV
  rw [List.map_append]
  rfl
theorem still_lotsL : ∀ ls : List (List Nat), stillAll (ls.map lotD) = true
  | [] => rfl
  | l :: ls => by
    have h := still_lotsL ls
    simp only [List.map_cons, stillAll, still_lot, h, Bool.and_self]
theorem deg_eq (ts : List Tie) (lot : List Nat) (p : Nat) : deg ts lot p = degE ts lot p := by
  unfold deg degE
  congr 1
  refine List.filter_congr fun k _ => ?_
  unfold atEnd atE
  cases ts[k]? with
  | none => rfl
  | some t => exact (Bool.decide_or _ _).symm
theorem evenB_iff {n : Nat} {ts : List Tie} {lot : List Nat} : evenB n ts lot = true ↔ EvenE n ts lot := by
  rw [even_iff]
  unfold EvenE
  constructor
  · intro h p hp
    have := h p hp
    rw [deg_eq] at this
    omega
  · intro h p hp
    have := h p hp
    rw [deg_eq]
    omega
abbrev sFround : Stmt := top 15
abbrev nFround : List Str := ["web", "lot", "one", "other", "way"]
abbrev pFround : List Str := ["web", "lot"]
theorem scFround : FnScope nFround pFround (defScope sFround) := ⟨rfl, rfl, rfl, by decide +kernel, rfl, by decide +kernel, by decide +kernel⟩
abbrev sIsround : Stmt := top 14
abbrev nIsround : List Str := ["web", "lot"]
abbrev pIsround : List Str := ["web", "lot"]
theorem scIsround : FnScope nIsround pIsround (defScope sIsround) := ⟨rfl, rfl, rfl, by decide +kernel, rfl, by decide +kernel, by decide +kernel⟩
section
variable {P : Program} {w : World} {K : PySem.W.Frag} {mg : Str → Option Value} {base : Heap}
theorem ok_odd {f : Addr} {fd : FuncData} (D : Df K mg "odd_places" sOdd pOdd f fd) (T : Bl mg) : FnOk P w K mg base CX0 1 f fd pOdd (spOdd K) := by
  refine D.fn.ok scOdd (fun vs H Q E h => ?_) (fun cdv A outer s H vs Q E hr h => ?_)
  · obtain ⟨v, u, n, ts, lot, rfl, _⟩ := h
    rfl
  · obtain ⟨v, u, n, ts, lot, rfl, hw, hu, hends, hlot, hn, k⟩ := h
    have nd := scOdd.nd
    obtain ⟨a, c, ys, rfl, ha, hc, hys⟩ := dp_web hw
    obtain ⟨al, rfl, hal⟩ := dp_lotN hu
    refine ⟨_, (pss_cons (ps_set (i := 2) nd rfl (by first | exact Or.inl rfl | exact Or.inr rfl) (pe_op op_rep (pe_lst (pa_cons pe_bl pa_nil)) (pe_ix (ixT K) (pv 0) pe_int (fun _ _ => rfl))))
      (pss_cons (ps_for PassesOwn.never rfl (piT K (pv 1)) (pg_name (i := 3) nd rfl (by first | exact Or.inl rfl | exact Or.inr rfl)) (pss_one (ps_for PassesOwn.never rfl (piT K (pe_ix (ixT K) (pe_ix (ixT K) (pv 0) pe_int (fun _ _ => rfl)) (pv 3) (fun _ _ => rfl))) (pg_name (i := 4) nd rfl (by first | exact Or.inl rfl | exact Or.inr rfl)) (pss_one (ps_asg (pe_not (pe_ix (ixL K) (pv 2) (pv 4) (fun _ _ => rfl))) (pg_sub (pv 2) (pv 4) set_list))))))
      (pss_one (ps_ret (pe_callTy (tupleK K) (by rfl) T.tuple (by decide +kernel) (pa_cons (pe_lc (own := [("place", 4)]) (g := (gName 4)) rfl nd (pi_range1 rfl T.range (pa_cons (pe_ix (ixT K) (pv 0) pe_int (fun _ _ => rfl)) pa_nil)) (blkOk_by (own := [("place", 4)]) (N := nOdd) (sc := defScope sOdd) (by decide +kernel)) (fun _ _ _ _ _ => (pg_name (i := 4) nd rfl (by first | exact Or.inl rfl | exact Or.inr rfl))) (fun _ _ _ _ _ => (pts_one (pt_val (pe_ix (ixL K) (pv 2) (pv 4) (fun _ _ => rfl))))) (fun _ _ _ _ _ => (pv 4))) pa_nil)))))), ?_⟩
    refine ⟨by decide, fun p0 hp0 => ?_⟩
    have s0 : Same H (upd H p0 (.lst [.bl false])) := same_new hp0
    refine ⟨_, rfl, a, _, _, _, rfl, rfl, sqT_same s0 ha, atI_nat (j := 0) rfl, ?_⟩
    refine ⟨p0, _, [.bl false], rfl, rfl, upd_same, by omega, by omega, ?_, fun m0 hm0 => ?_⟩
    · exact Nat.le_trans (show 1 * (n : Int).toNat ≤ 1000 by omega) (by decide)
    have s1 : Same (upd H p0 (.lst [.bl false])) (upd (upd H p0 (.lst [.bl false])) m0 (.lst (List.replicate (n : Int).toNat [V.bl false]).flatten)) := same_new hm0
    have hHm : H m0 = none := Same.free s0 hm0
    dsimp only [gName]
    refine at_st [some (.ref a), some (.ref al), some (.ref m0), none, none] rfl ?_
    refine tSeq_go ?_
    refine ⟨_, rfl, al, rfl, ⟨_, sqT_same (s0.trans s1) hal⟩, for_it (walk_tup (xs := natsV lot)) (fun j σ H' => ∃ (v3 v4 : Option V),
        σ = [some (.ref a), some (.ref al), some (.ref m0), v3, v4] ∧ Same H H' ∧ H' m0 = some (.lst (boolsV n fun p => decide (deg ts (lot.take j) p % 2 = 1)))) ?_ ?_ ?_ ?_⟩
    · refine ⟨none, none, rfl, s0.trans s1, ?_⟩
      rw [upd_same, reps, Int.toNat_natCast]
      rfl
    · rintro j σ H' _ ⟨v3, v4, rfl, h1, _⟩
      exact sqT_same h1 hal
    · rintro j x σ H' H'' hj ⟨v3, v4, rfl, h1, h3⟩ ⟨rfl, hx⟩
      obtain ⟨kk, hkk, rfl⟩ := get_map hx
      have hkm : kk < ts.length := hlot kk (List.mem_of_getElem? hkk)
      have ht : ts[kk]? = some ts[kk] := List.getElem?_eq_getElem hkm
      have hte := hends ts[kk] (List.getElem_mem hkm)
      obtain ⟨y, hy, hyd⟩ := dpAll_at hys (show (ts.map tieD)[kk]? = some (tieD ts[kk]) by rw [List.getElem?_map, ht]; rfl)
      obtain ⟨ay, rfl, hay⟩ := dp_tie hyd
      have htk : lot.take (j + 1) = lot.take j ++ [kk] := by
        rw [List.take_add_one, hkk]
        rfl
      refine ⟨_, rfl, a, _, _, _, rfl, rfl, sqT_same h1 ha, atI_nat (j := 1) rfl, ?_⟩
      refine ⟨_, rfl, c, _, _, _, rfl, rfl, sqT_same h1 hc, atI_nat hy, ?_⟩
      generalize ts[kk] = t at *
      refine ⟨ay, rfl, ⟨_, sqT_same h1 hay⟩, for_it (walk_tup (xs := [V.int t.1, V.int t.2])) (fun i σ H' => ∃ (v4 : Option V),
        σ = [some (.ref a), some (.ref al), some (.ref m0), some (.int kk), v4] ∧ Same H H' ∧ H' m0 = some (.lst (boolsV n fun p => Bool.xor (decide (deg ts (lot.take j) p % 2 = 1)) ((decide (1 ≤ i) && decide (t.1 = p)) || (decide (2 ≤ i) && decide (t.2 = p)))))) ?_ ?_ ?_ ?_⟩
      · refine ⟨v4, rfl, h1, ?_⟩
        rw [h3]
        congr 2
        exact bools_congr fun p _ => by simp
      · rintro i σ H' _ ⟨v4, rfl, h1, _⟩
        exact sqT_same h1 hay
      · rintro i x σ H2 H3 hi ⟨v4, rfl, h1, h3⟩ ⟨rfl, hx⟩
        obtain ⟨e, he, hen, hst⟩ : ∃ e : Nat, x = .int (e : Int) ∧ e < n ∧ ∀ p : Nat, (if p = e then !(Bool.xor (decide (deg ts (lot.take j) e % 2 = 1)) ((decide (1 ≤ i) && decide (t.1 = e)) || (decide (2 ≤ i) && decide (t.2 = e)))) else Bool.xor (decide (deg ts (lot.take j) p % 2 = 1)) ((decide (1 ≤ i) && decide (t.1 = p)) || (decide (2 ≤ i) && decide (t.2 = p)))) =
            Bool.xor (decide (deg ts (lot.take j) p % 2 = 1)) ((decide (1 ≤ i + 1) && decide (t.1 = p)) || (decide (2 ≤ i + 1) && decide (t.2 = p))) := by
          have hi2 : i < 2 := hi
          match i, hi2, hx with
          | 0, _, hx =>
            refine ⟨t.1, (Option.some.inj hx).symm, by omega, fun p => ?_⟩
            by_cases hp : p = t.1
            · subst hp
              simp
            · have : ¬ t.1 = p := fun z => hp z.symm
              simp [hp, this]
          | 1, _, hx =>
            refine ⟨t.2, (Option.some.inj hx).symm, by omega, fun p => ?_⟩
            by_cases hp : p = t.2
            · subst hp
              have : ¬ t.1 = t.2 := by omega
              simp [this]
            · have : ¬ t.2 = p := fun z => hp z.symm
              simp [hp, this]
        subst he
        refine ⟨_, rfl, _, rfl, m0, _, (e : Int), _, rfl, rfl, SqL.of h3, atI_nat (rng_get n _ hen), _, rfl, ?_⟩
        refine ⟨_, rfl, _, rfl, m0, _, (e : Int), e, rfl, rfl, h3, ix_nat (by unfold boolsV; rw [List.length_map, List.length_range]; exact hen), ?_⟩
        refine ⟨_, rfl, same_old hHm h1, ?_⟩
        rw [upd_same]
        unfold boolsV
        rw [rng_set]
        congr 2
        refine List.map_congr_left fun p _ => ?_
        dsimp only
        rw [← hst p]
        split <;> rfl
      · rintro σ H2 ⟨v4, rfl, h1, h3⟩
        refine ⟨_, _, rfl, h1, ?_⟩
        rw [h3]
        congr 2
        refine bools_congr fun p _ => ?_
        rw [htk, deg_snoc _ ht]
        by_cases hp : t.1 = p ∨ t.2 = p
        · rw [if_pos hp]
          have : ((decide (1 ≤ [V.int (t.1 : Int), V.int (t.2 : Int)].length) && decide (t.1 = p)) || (decide (2 ≤ [V.int (t.1 : Int), V.int (t.2 : Int)].length) && decide (t.2 = p))) = true := by
            rcases hp with e | e <;> simp [e]
          rw [this, Bool.xor_true, Bool.eq_iff_iff]
          simp only [Bool.not_eq_true', decide_eq_false_iff_not, decide_eq_true_eq]
          omega
        · rw [if_neg hp]
          have h4 : ¬ t.1 = p := fun z => hp (.inl z)
          have h5 : ¬ t.2 = p := fun z => hp (.inr z)
          simp [h4, h5]
    · rintro σ H2 ⟨v3, v4, rfl, h1, h3⟩
      unfold natsV at h3
      rw [List.length_map, List.take_of_length_le (Nat.le_refl _)] at h3
      refine ⟨_, rfl, a, _, _, _, rfl, rfl, sqT_same h1 ha, atI_nat (j := 0) rfl, _, rfl, by omega, by omega, fun E1 hE1 => ?_⟩
      refine lc_run (walk_range (lo := 0) (n := (n : Int).toNat)) hE1 (fun i acc _ => acc = natsV ((List.range i).filter fun p => decide (deg ts lot p % 2 = 1))) ?_ ?_ ?_ ?_
      · exact fun _ _ => trivial
      · rfl
      · rintro i x acc H4 H' hi hacc e s r ⟨rfl, rfl⟩
        dsimp only
        rw [Int.zero_add]
        have hin : i < n := by omega
        have r' : acc = natsV ((List.range i).filter fun p => decide (deg ts lot p % 2 = 1)) := r
        have hal : acc.length ≤ i := by
          rw [r']
          unfold natsV
          rw [List.length_map]
          exact Nat.le_trans (List.length_filter_le _ _) (by rw [List.length_range]; exact Nat.le_refl _)
        refine ⟨rfl, _, rfl, _, rfl, m0, _, (i : Int), _, rfl, rfl, SqL.of (s _ _ h3), atI_nat (rng_get n _ hin), _, rfl, ?_⟩
        refine ite2 (fun hh => ?_) (fun hh => ?_)
        · refine ⟨_, rfl, ?_⟩
          refine lc_add hacc e (Same.refl _) (by omega) ?_
          show _ = _
          rw [range_filter_succ, if_pos hh, r']
          unfold natsV
          rw [List.map_append]
          rfl
        · refine lc_skip hacc e (Same.refl _) ?_
          show _ = _
          rw [range_filter_succ, if_neg hh, List.append_nil]
          exact r'
      · rintro acc H4 h4 s2 r
        have r' : acc = natsV ((List.range (n : Int).toNat).filter fun p => decide (deg ts lot p % 2 = 1)) := r
        rw [Int.toNat_natCast] at r'
        refine ⟨E1, _, rfl, .inl ⟨SqL.of h4, fun u hu => ?_⟩⟩
        refine k _ _ (h1.trans (s2.trans (same_new hu))) (lot_dp (SqT.of ?_))
        rw [upd_same, r']
        rfl
theorem ok_even {f f1 : Addr} {fd fd1 : FuncData} (D : Df K mg "is_even" sEven pEven f fd) (T : Bl mg) (D_odd : Df K mg "odd_places" sOdd pOdd f1 fd1) : FnOk P w K mg base CX0 2 f fd pEven (spEven K) := by
  have G_odd : FnOk P w K mg base CX0 1 f1 fd1 pOdd (spOdd K) := ok_odd D_odd T
  refine D.fn.ok scEven (fun vs H Q E h => ?_) (fun cdv A outer s H vs Q E hr h => ?_)
  · obtain ⟨v, u, n, ts, lot, rfl, _⟩ := h
    rfl
  · obtain ⟨v, u, n, ts, lot, rfl, hw, hu, hends, hlot, hn, k⟩ := h
    have hr_odd : Room 1 _ := hr
    have nd := scEven.nd
    refine ⟨_, (pss_one (ps_ret (pe_cmpR (opEqD K hr.units) (pe_call G_odd hr_odd (by rfl) D_odd.ad D_odd.fn.kp D_odd.bd .nil pass0 (pa_cons (pv 0) (pa_cons (pv 1) pa_nil))) (pe_tup pa_nil) (nomark _)))), ?_⟩
    refine ⟨_, rfl, _, rfl, v, u, n, ts, lot, rfl, hw, hu, hends, hlot, hn, fun z H1 s1 hz => ?_⟩
    refine ⟨Nat.zero_le _, fun q hq => ?_⟩
    have s2 := same_new (o := .tup []) hq
    refine ⟨lotD (oddPl n ts lot), lotD [], dp_same s2 _ hz, lot_dp (ks := []) (SqT.of upd_same), shaped_lotN _, shaped_lotN [], ?_⟩
    rw [eqv_lots]
    exact k _ (s1.trans s2)
end
theorem nodup_small (L : Nat) (l : List Nat) (h1 : l.Nodup) (h2 : ∀ x ∈ l, x < L) : l.length ≤ L := by
  have := nodup_sub (List.range L) l h1 fun x hx => List.mem_range.mpr (h2 x hx)
  rwa [List.length_range] at this
theorem lotA_len {L : Nat} {ks : List Nat} (h : LotA L ks) : ks.length ≤ L := nodup_small L _ h.nd h.2
theorem asc_perm {l m : List Nat} (hl : l.Pairwise (· < ·)) (hm : m.Pairwise (· < ·)) (h : l.Perm m) : l = m := asc_uniq hl hm fun k => h.mem_iff
def spFround (K : PySem.W.Frag) : Sp := fun vs H Q _ => ∃ (v lv : V) (n : Nat) (ts : List Tie) (k0 : Nat) (rest : List Nat), vs = [v, lv] ∧ Dp K H v (webD n ts) ∧ Dp K H lv (lotD (k0 :: rest)) ∧ (∀ t ∈ ts, t.1 < t.2 ∧ t.2 < n) ∧ n ≤ 1000 ∧ ts.length ≤ 60 ∧
  LotA ts.length (k0 :: rest) ∧ EvenE n ts (k0 :: rest) ∧ ∀ (u : V) H', Same H H' → Dp K H' u (lotD (frL ts n (k0 :: rest))) → Q u H'
def spIsround (K : PySem.W.Frag) : Sp := fun vs H Q _ => ∃ (v lv : V) (n : Nat) (ts : List Tie) (r : List Nat), vs = [v, lv] ∧ Dp K H v (webD n ts) ∧ Dp K H lv (lotD r) ∧ (∀ t ∈ ts, t.1 < t.2 ∧ t.2 < n) ∧ n ≤ 1000 ∧ ts.length ≤ 60 ∧ LotA ts.length r ∧
  ∀ H', Same H H' → Q (.bl (isRB n ts r)) H'
def muL (m : Nat) (l : Addr) (H : Hp) : Nat := match H l with
  | some (.lst xs) => m - xs.length
  | _ => 0
theorem muL_at {m : Nat} {l : Addr} {H : Hp} {xs : List V} (h : H l = some (.lst xs)) : muL m l H = m - xs.length := by
  unfold muL
  rw [h]
section
variable {P : Program} {w : World} {K : PySem.W.Frag} {mg : Str → Option Value} {base : Heap}
theorem ok_fround {f f3 f4 : Addr} {fd fd3 fd4 : FuncData} (D : Df K mg "_first_round" sFround pFround f fd) (T : Bl mg) (hsorted : mg "sorted" = none) (D_far : Df K mg "far_end" sFar pFar f3 fd3) (D_ways : Df K mg "ways_from" sWays pWays f4 fd4) : FnOk P w K mg base CX0 3 f fd pFround (spFround K) := by
  have G_ways : FnOk P w K mg base CX0 2 f4 fd4 pWays (spWays K) := ok_ways D_ways T D_far
  refine D.fn.ok scFround (fun vs H Q E h => ?_) (fun cdv A outer s H vs Q E hr h => ?_)
  · obtain ⟨v, lv, n, ts, k0, rest, rfl, _⟩ := h
    rfl
  · obtain ⟨v, lv, n, ts, k0, rest, rfl, hw, hlv, hends, hn, hl, hRA, hev, k⟩ := h
    have hr_ways : Room 2 _ := hr
    have hu := hu_of hr
    have nd := scFround.nd
    obtain ⟨a, c, ys, rfl, ha, hc, hys⟩ := dp_web hw
    obtain ⟨al, rfl, hal⟩ := dp_lotN hlv
    have hk0 := hRA.2 k0 (List.mem_cons_self ..)
    have hrest : ∀ x ∈ rest, x < ts.length := fun x hx => hRA.2 x (List.mem_cons_of_mem _ hx)
    have hasc := List.pairwise_cons.mp hRA.1
    have hnd0 := List.nodup_cons.mp hRA.nd
    have ht := List.getElem?_eq_getElem hk0
    generalize ts[k0] = t at ht
    have hte := hends t (List.mem_of_getElem? ht)
    have h1n : t.1 < n := by omega
    have hthere := way_there hends ht hrest hev
    obtain ⟨_, _, _, frA, frP⟩ := fr_is hends hRA ht hthere
    obtain ⟨⟨P0, hP0⟩, hwin⟩ := way_is hends ht hrest hthere
    have ewB : wayB ts n k0 rest = wayAt (bfs ts rest n t.1) t.2 := by
      unfold wayB
      rw [ht]
    rw [ewB] at frP hP0 hwin
    obtain ⟨y, hy, hyd⟩ := dpAll_at hys (show (ts.map tieD)[k0]? = some (tieD t) by rw [List.getElem?_map, ht]; rfl)
    obtain ⟨az, rfl, haz⟩ := dp_tie hyd
    have hrl : rest.length ≤ 60 := Nat.le_trans (nodup_small ts.length rest hnd0.2 hrest) hl
    refine ⟨_, (pss_cons (ps_asg (pe_ix (ixT K) (pe_ix (ixT K) (pv 0) pe_int (fun _ _ => rfl)) (pe_ix (ixT K) (pv 1) pe_int (fun _ _ => rfl)) (fun _ _ => rfl)) (pgT K rfl (pgs_cons (pg_name (i := 2) nd rfl (by first | exact Or.inl rfl | exact Or.inr rfl)) (pgs_cons (pg_name (i := 3) nd rfl (by first | exact Or.inl rfl | exact Or.inr rfl)) pgs_nil))))
      (pss_cons (ps_set (i := 4) nd rfl (by first | exact Or.inl rfl | exact Or.inr rfl) (pe_dget hu (pe_call G_ways hr_ways (by rfl) D_ways.ad D_ways.fn.kp D_ways.bd .nil pass0 (pa_cons (pv 0) (pa_cons (pe_slice (slTA K) (pv 1) (po_some pe_int) po_none) (pa_cons (pv 2) pa_nil)))) (pv 3) (fun _ _ => rfl)))
      (pss_one (ps_ret (pe_callTy (tupleK K) (by rfl) T.tuple (by decide +kernel) (pa_cons (pe_callB (cr_sortTup K) (by rfl) hsorted (by decide +kernel) (pa_cons (pe_op (catA K) (pe_tup (pa_cons (pe_ix (ixT K) (pv 1) pe_int (fun _ _ => rfl)) pa_nil)) (pv 4)) pa_nil)) pa_nil)))))), ?_⟩
    refine tSeq_go ?_
    refine ⟨_, rfl, a, _, _, _, rfl, rfl, ha, atI_nat (j := 1) rfl, _, rfl, al, _, _, _, rfl, rfl, hal, atI_nat (j := 0) rfl, c, _, _, _, rfl, rfl, hc, atI_nat hy, az, _, rfl, haz, rfl, _, _, rfl, _, _, rfl, rfl, ?_⟩
    dsimp only [gName]
    refine at_st [some (.ref a), some (.ref al), some (.int (t.1 : Nat)), some (.int (t.2 : Nat)), none] rfl ?_
    refine tSeq_go ?_
    refine ⟨_, rfl, _, rfl, 1, rfl, ?_⟩
    dsimp only [tNoPart]
    refine slA_by rfl hal fun c1 H1 s1 hc1 => ?_
    have ecut : cutV (natsV (k0 :: rest)) (some 1) none = natsV rest := cut_lo (natsV (k0 :: rest)) 1
    rw [ecut] at hc1
    refine ⟨_, rfl, .ref a, .ref c1, n, ts, rest, t.1, rfl, dp_same s1 _ hw, lot_dp hc1, hends, hrest, h1n, by omega, by omega, fun d H5 hd5 s5 hF => ?_⟩
    have s15 := s1.trans s5
    obtain ⟨kvs, f1, f2, f3⟩ := hF
    obtain ⟨aw, g1, g2⟩ := f3 _ (wayAt_mem hthere)
    dsimp only at g1 g2
    generalize hw0 : wayAt (bfs ts rest n t.1) t.2 = w0 at *
    refine ⟨_, rfl, d, _, rfl, by rw [← g1]; exact DGet.k (k := Sum.inl ((t.2 : Nat) : Int)) f1, ?_⟩
    dsimp only [gName]
    refine at_st [some (.ref a), some (.ref al), some (.int (t.1 : Nat)), some (.int (t.2 : Nat)), some (.ref aw)] rfl ?_
    have hwl : w0.length ≤ 60 := Nat.le_trans (nodup_small ts.length w0 hP0.wnd fun x hx => hrest x (hwin x hx)) hl
    refine ⟨_, rfl, al, _, _, _, rfl, rfl, sqT_same s15 hal, atI_nat (j := 0) rfl, by show 1 ≤ sizeLine; decide, fun q2 hq2 => ⟨_, rfl, ?_⟩⟩
    have t1 := same_new (o := .tup [.int (k0 : Nat)]) hq2
    refine catA_by rfl rfl (SqT.of upd_same) (sqT_same t1 g2) (by rw [natsV_len]; show 1 + _ ≤ 100000; omega) fun cw H8 t2 hcw => ?_
    have ecw : [V.int (k0 : Nat)] ++ natsV w0 = ((k0 :: w0).map fun (k : Nat) => (k : Int)).map V.int := by
      rw [natsV_ints]
      rfl
    rw [ecw] at hcw
    refine ⟨cw, _, rfl, hcw, by rw [List.length_map, List.length_cons]; omega, fun zs p3 hperm hsort hp3 => ?_⟩
    have hnd : (k0 :: w0).Nodup := List.nodup_cons.mpr ⟨fun z => hnd0.1 (hwin k0 z), hP0.wnd⟩
    obtain ⟨ns, rfl, hnp, hasc2⟩ := sorted_nats hperm hsort hnd
    have t3 := same_new (o := .lst ((ns.map fun (k : Nat) => (k : Int)).map V.int)) hp3
    have hns : ns = frL ts n (k0 :: rest) := asc_perm hasc2 frA.1 (hnp.trans frP.symm)
    refine ⟨p3, _, rfl, .inl ⟨SqL.of upd_same, fun u hu2 => ?_⟩⟩
    have t4 := same_new (o := .tup ((ns.map fun (k : Nat) => (k : Int)).map V.int)) hu2
    refine k _ _ (s15.trans (t1.trans (t2.trans (t3.trans t4)))) ?_
    rw [← hns, ← natsV_ints]
    exact lot_dp (SqT.of upd_same)
theorem ok_isround {f f1 f2 f3 f4 f5 : Addr} {fd fd1 fd2 fd3 fd4 fd5 : FuncData} (D : Df K mg "is_round" sIsround pIsround f fd) (T : Bl mg) (hsorted : mg "sorted" = none) (D_odd : Df K mg "odd_places" sOdd pOdd f1 fd1) (D_even : Df K mg "is_even" sEven pEven f2 fd2)
    (D_far : Df K mg "far_end" sFar pFar f3 fd3) (D_ways : Df K mg "ways_from" sWays pWays f4 fd4) (D_fround : Df K mg "_first_round" sFround pFround f5 fd5) : FnOk P w K mg base CX0 4 f fd pIsround (spIsround K) := by
  have G_even : FnOk P w K mg base CX0 2 f2 fd2 pEven (spEven K) := ok_even D_even T D_odd
  have G_fround : FnOk P w K mg base CX0 3 f5 fd5 pFround (spFround K) := ok_fround D_fround T hsorted D_far D_ways
  refine D.fn.ok scIsround (fun vs H Q E h => ?_) (fun cdv A outer s H vs Q E hr h => ?_)
  · obtain ⟨v, lv, n, ts, r, rfl, _⟩ := h
    rfl
  · obtain ⟨v, lv, n, ts, r, rfl, hw, hlv, hends, hn, hl, hR, k⟩ := h
    have hr_fround : Room 3 _ := hr
    have hr_even : Room 2 _ := hr.mono (by decide)
    have nd := scIsround.nd
    refine ⟨_, (pss_one (ps_ret (pe_and (pe_cmpR (opNeD K hr.units) (pv 1) (pe_tup pa_nil) (nomark _)) (pe_and (pe_call G_even hr_even (by rfl) D_even.ad D_even.fn.kp D_even.bd .nil pass0 (pa_cons (pv 0) (pa_cons (pv 1) pa_nil))) (pe_one (pe_cmpR (opEqD K hr.units) (pe_call G_fround hr_fround (by rfl) D_fround.ad D_fround.fn.kp D_fround.bd .nil pass0 (pa_cons (pv 0) (pa_cons (pv 1) pa_nil))) (pv 1) (nomark _))))))), ?_⟩
    refine ⟨_, rfl, Nat.zero_le _, fun q hq => ?_⟩
    have s1 := same_new (o := .tup []) hq
    refine ⟨lotD r, lotD [], dp_same s1 _ hlv, lot_dp (SqT.of upd_same), shaped_lotN _, shaped_lotN _, _, rfl, ?_⟩
    rw [eqv_lots]
    cases r with
    | nil =>
      rw [decide_eq_true rfl]
      refine iteF ?_
      have e : isRB n ts [] = false := Bool.eq_false_iff.mpr fun z => (isRB_iff.mp z).ne rfl
      have := k _ s1
      rw [e] at this
      exact this
    | cons k0 rest =>
      rw [decide_eq_false (by simp)]
      refine iteT ?_
      refine ⟨_, rfl, _, rfl, v, lv, n, ts, k0 :: rest, rfl, dp_same s1 _ hw, dp_same s1 _ hlv, hends, hR.2, hn, fun H2 s2 => ⟨_, rfl, ?_⟩⟩
      refine ite2 (fun hev => ?_) (fun hev => ?_)
      · have hev := evenB_iff.mp hev
        have s12 := s1.trans s2
        refine ⟨_, rfl, _, rfl, v, lv, n, ts, k0, rest, rfl, dp_same s12 _ hw, dp_same s12 _ hlv, hends, hn, hl, hR, hev, fun u H3 s3 hu3 => ?_⟩
        refine ⟨_, rfl, lotD _, lotD _, hu3, dp_same (s12.trans s3) _ hlv, shaped_lotN _, shaped_lotN _, ?_⟩
        rw [eqv_lots]
        have e : decide (frL ts n (k0 :: rest) = k0 :: rest) = isRB n ts (k0 :: rest) := by
          rw [Bool.eq_iff_iff, decide_eq_true_eq, isRB_iff]
          exact rd_iff hends hR (by simp) hev
        rw [e]
        exact k _ (s12.trans s3)
      · have e : isRB n ts (k0 :: rest) = false := Bool.eq_false_iff.mpr fun z => hev (evenB_iff.mpr (isRB_iff.mp z).even)
        have := k _ (s1.trans s2)
        rw [e] at this
        exact this
end
end BV

namespace BV
open PySem L2
/-! ### a lot taken in from its first tie on, turn by turn -/
def touchK (ts : List Tie) (met : List Nat) (k : Nat) : Bool := match ts[k]? with
  | some t => decide (t.1 ∈ met) || decide (t.2 ∈ met)
  | none => false
def endsK (ts : List Tie) (k : Nat) : List Nat := match ts[k]? with
  | some t => [t.1, t.2]
  | none => []
def furthK (ts : List Tie) (s : List Nat × List Nat) : List Nat := s.2.filter (touchK ts s.1)
def absT (ts : List Tie) (s : List Nat × List Nat) : List Nat × List Nat := (s.1 ++ (furthK ts s).flatMap (endsK ts), s.2.filter fun k => !decide (k ∈ furthK ts s))
def absN (ts : List Tie) (s : List Nat × List Nat) : Nat → List Nat × List Nat
  | 0 => s
  | i + 1 => absT ts (absN ts s i)
theorem mem_endsK {ts : List Tie} {k p : Nat} : p ∈ endsK ts k ↔ atE ts p k = true := by
  unfold endsK atE
  cases ts[k]? with
  | none => simp
  | some t =>
    dsimp only
    rw [decide_eq_true_eq, List.mem_cons, List.mem_singleton]
    exact ⟨fun z => z.elim (fun z => .inl z.symm) fun z => .inr z.symm, fun z => z.elim (fun z => .inl z.symm) fun z => .inr z.symm⟩
theorem touch_iff {ts : List Tie} {met : List Nat} {k : Nat} : touchK ts met k = true ↔ ∃ p ∈ met, atE ts p k = true := by
  unfold touchK
  cases h : ts[k]? with
  | none =>
    constructor
    · intro z
      cases z
    · rintro ⟨p, _, z⟩
      unfold atE at z
      rw [h] at z
      cases z
  | some t =>
    dsimp only
    rw [Bool.or_eq_true, decide_eq_true_eq, decide_eq_true_eq]
    constructor
    · rintro (z | z)
      · exact ⟨_, z, (atE_iff h).mpr (.inl rfl)⟩
      · exact ⟨_, z, (atE_iff h).mpr (.inr rfl)⟩
    · rintro ⟨p, hp, z⟩
      rcases (atE_iff h).mp z with e | e
      · exact .inl (e ▸ hp)
      · exact .inr (e ▸ hp)
structure AbI (ts : List Tie) (lot : List Nat) (k0 : Nat) (s : List Nat × List Nat) (A : List Nat) : Prop where
  hd : k0 ∈ A
  all : ∀ k ∈ lot, k ∈ A ∨ k ∈ s.2
  rest : ∀ k ∈ s.2, k ∈ lot ∧ k ∉ A
  met : ∀ p, p ∈ s.1 ↔ ∃ j ∈ A, atE ts p j = true
  low : ∀ B : List Nat, k0 ∈ B → (∀ k ∈ lot, Touch ts B k → k ∈ B) → ∀ k ∈ A, k ∈ B
theorem abI_step {ts : List Tie} {lot : List Nat} {k0 : Nat} {s : List Nat × List Nat} {A : List Nat} (h : AbI ts lot k0 s A) : AbI ts lot k0 (absT ts s) (A ++ furthK ts s) := by
  have hf : ∀ k, k ∈ furthK ts s ↔ k ∈ s.2 ∧ touchK ts s.1 k = true := fun k => List.mem_filter
  refine ⟨List.mem_append_left _ h.hd, fun k hk => ?_, fun k hk => ?_, fun p => ?_, fun B h0 hB k hk => ?_⟩
  · rcases h.all k hk with z | z
    · exact .inl (List.mem_append_left _ z)
    · by_cases e : k ∈ furthK ts s
      · exact .inl (List.mem_append_right _ e)
      · exact .inr (List.mem_filter.mpr ⟨z, by rw [decide_eq_false e]; rfl⟩)
  · obtain ⟨a, b⟩ := List.mem_filter.mp hk
    have hn : k ∉ furthK ts s := by simpa using b
    exact ⟨(h.rest k a).1, fun z => (List.mem_append.mp z).elim (h.rest k a).2 hn⟩
  · show p ∈ s.1 ++ _ ↔ _
    rw [List.mem_append, List.mem_flatMap]
    constructor
    · rintro (z | ⟨j, hj, z⟩)
      · obtain ⟨j, hj, e⟩ := (h.met p).mp z
        exact ⟨j, List.mem_append_left _ hj, e⟩
      · exact ⟨j, List.mem_append_right _ hj, mem_endsK.mp z⟩
    · rintro ⟨j, hj, e⟩
      rcases List.mem_append.mp hj with z | z
      · exact .inl ((h.met p).mpr ⟨j, z, e⟩)
      · exact .inr ⟨j, z, mem_endsK.mpr e⟩
  · rcases List.mem_append.mp hk with z | z
    · exact h.low B h0 hB k z
    · obtain ⟨a, b⟩ := (hf k).mp z
      obtain ⟨p, hp, e⟩ := touch_iff.mp b
      obtain ⟨j, hj, e2⟩ := (h.met p).mp hp
      exact hB k (h.rest k a).1 ⟨p, j, h.low B h0 hB j hj, e2, e⟩
theorem abI_all {ts : List Tie} {lot : List Nat} {k0 : Nat} {s : List Nat × List Nat} {A : List Nat} (h : AbI ts lot k0 s A) : ∀ i, ∃ A', AbI ts lot k0 (absN ts s i) A'
  | 0 => ⟨A, h⟩
  | i + 1 => by
    obtain ⟨A', h'⟩ := abI_all h i
    exact ⟨_, abI_step h'⟩
theorem abs_still {ts : List Tie} {s : List Nat × List Nat} (h : furthK ts s = []) : absT ts s = s := by
  unfold absT
  rw [h]
  obtain ⟨a, b⟩ := s
  dsimp only
  rw [List.flatMap_nil, List.append_nil]
  congr 1
  exact List.filter_eq_self.mpr fun k _ => by simp
theorem abs_shrinks (ts : List Tie) (s : List Nat × List Nat) : ∀ i, (absN ts s i).2.length + i ≤ s.2.length ∨ furthK ts (absN ts s i) = []
  | 0 => .inl (Nat.le_refl _)
  | i + 1 => by
    by_cases e : furthK ts (absN ts s i) = []
    · refine .inr ?_
      show furthK ts (absT ts (absN ts s i)) = []
      rw [abs_still e]
      exact e
    · rcases abs_shrinks ts s i with h | h
      · refine .inl ?_
        obtain ⟨k, hk⟩ := List.exists_mem_of_ne_nil _ e
        have hk2 : k ∈ (absN ts s i).2 := (List.mem_filter.mp hk).1
        have h2 : (absT ts (absN ts s i)).2.length < (absN ts s i).2.length := by
          show ((absN ts s i).2.filter _).length < _
          refine List.length_filter_lt_length_iff_exists.mpr ⟨k, hk2, ?_⟩
          rw [decide_eq_true hk]
          decide
        show (absT ts (absN ts s i)).2.length + (i + 1) ≤ _
        omega
      · exact absurd h e
theorem abs_piece {ts : List Tie} {k0 : Nat} {rest : List Nat} (hn : (k0 :: rest).Nodup) : (absN ts (endsK ts k0, rest) (k0 :: rest).length).2 = [] ↔ Piece ts (k0 :: rest) k0 := by
  have h0 : AbI ts (k0 :: rest) k0 (endsK ts k0, rest) [k0] := by
    refine ⟨List.mem_cons_self .., fun k hk => ?_, fun k hk => ⟨List.mem_cons_of_mem _ hk, fun z => ?_⟩, fun p => ?_, fun B hb _ k hk => ?_⟩
    · rcases List.mem_cons.mp hk with e | e
      · exact .inl (List.mem_singleton.mpr e)
      · exact .inr e
    · rw [List.mem_singleton.mp z] at hk
      exact (List.nodup_cons.mp hn).1 hk
    · rw [show p ∈ (endsK ts k0, rest).1 ↔ p ∈ endsK ts k0 from Iff.rfl, mem_endsK]
      exact ⟨fun z => ⟨k0, List.mem_singleton.mpr rfl, z⟩, fun ⟨j, hj, e⟩ => by rwa [List.mem_singleton.mp hj] at e⟩
    · rw [List.mem_singleton.mp hk]
      exact hb
  obtain ⟨A, hA⟩ := abI_all h0 (k0 :: rest).length
  constructor
  · intro e B hb hB k hk
    rcases hA.all k hk with z | z
    · exact hA.low B hb hB k z
    · rw [e] at z
      cases z
  · intro hp
    have hst : furthK ts (absN ts (endsK ts k0, rest) (k0 :: rest).length) = [] := by
      rcases abs_shrinks ts (endsK ts k0, rest) (k0 :: rest).length with z | z
      · rw [List.length_cons] at z
        have : (endsK ts k0, rest).2.length = rest.length := rfl
        omega
      · exact z
    have hall := hp A hA.hd fun k hk ⟨p, j, hj, e1, e2⟩ => by
      rcases hA.all k hk with z | z
      · exact z
      · exfalso
        have : k ∈ furthK ts (absN ts (endsK ts k0, rest) (k0 :: rest).length) := List.mem_filter.mpr ⟨z, touch_iff.mpr ⟨p, (hA.met p).mpr ⟨j, hj, e1⟩, e2⟩⟩
        rw [hst] at this
        cases this
    cases e : (absN ts (endsK ts k0, rest) (k0 :: rest).length).2 with
    | nil => rfl
    | cons k r =>
      have hk : k ∈ (absN ts (endsK ts k0, rest) (k0 :: rest).length).2 := by rw [e]; exact List.mem_cons_self ..
      have := hA.rest k hk
      exact absurd (hall k this.1) this.2
end BV

namespace BV
open PySem L2
abbrev sCounts : Stmt := top 25
abbrev nCounts : List Str := ["_law_web_here", "_law_lot", "_law_found", "_law_tie", "_law_one", "_law_other"]
abbrev pCounts : List Str := ["_law_web_here", "_law_lot"]
theorem scCounts : FnScope nCounts pCounts (defScope sCounts) := ⟨rfl, rfl, rfl, by decide +kernel, rfl, by decide +kernel, by decide +kernel⟩
abbrev sLeven : Stmt := top 26
abbrev nLeven : List Str := ["_law_web_here", "_law_lot", "_law_many"]
abbrev pLeven : List Str := ["_law_web_here", "_law_lot"]
theorem scLeven : FnScope nLeven pLeven (defScope sLeven) := ⟨rfl, rfl, rfl, by decide +kernel, rfl, by decide +kernel, by decide +kernel⟩
def degV (n : Nat) (ts : List Tie) (lot : List Nat) : List V := (List.range n).map fun p => V.int (deg ts lot p : Nat)
def spCounts (K : PySem.W.Frag) : Sp := fun vs H Q _ => ∃ (v u : V) (n : Nat) (ts : List Tie) (lot : List Nat), vs = [v, u] ∧ Dp K H v (webD n ts) ∧ Dp K H u (lotD lot) ∧ (∀ t ∈ ts, t.1 < t.2 ∧ t.2 < n) ∧ (∀ k ∈ lot, k < ts.length) ∧ n ≤ 1000 ∧
  ∀ (l : Addr) H', Same H H' → H' l = some (.lst (degV n ts lot)) → Q (.ref l) H'
theorem eqv_rep (m : Nat) : (PyData.list ((List.replicate m (1 : Int)).map PyData.int)).eqv (.list []) = decide (m = 0) := by
  cases m with
  | zero => rfl
  | succ m => rfl
theorem asc_nodup {l : List Nat} (h : l.Pairwise (· < ·)) : l.Nodup := h.imp fun z => Nat.ne_of_lt z
abbrev sIsr : Stmt := top 27
abbrev nIsr : List Str := ["_law_web_here", "_law_lot", "_law_met", "_law_rest", "_law_turn", "_law_further", "_law_tie", "_law_many"]
abbrev pIsr : List Str := ["_law_web_here", "_law_lot"]
theorem scIsr : FnScope nIsr pIsr (defScope sIsr) := ⟨rfl, rfl, rfl, by decide +kernel, rfl, by decide +kernel, by decide +kernel⟩
section
variable {P : Program} {w : World} {K : PySem.W.Frag} {mg : Str → Option Value} {base : Heap}
theorem ok_counts {f : Addr} {fd : FuncData} (D : Df K mg "_law_counts" sCounts pCounts f fd) (T : Bl mg) : FnOk P w K mg base CX0 1 f fd pCounts (spCounts K) := by
  refine D.fn.ok scCounts (fun vs H Q E h => ?_) (fun cdv A outer s H vs Q E hr h => ?_)
  · obtain ⟨v, u, n, ts, lot, rfl, _⟩ := h
    rfl
  · obtain ⟨v, u, n, ts, lot, rfl, hw, hu, hends, hlot, hn, k⟩ := h
    have nd := scCounts.nd
    obtain ⟨a, c, ys, rfl, ha, hc, hys⟩ := dp_web hw
    obtain ⟨al, rfl, hal⟩ := dp_lotN hu
    refine ⟨_, (pss_cons (ps_set (i := 2) nd rfl (by first | exact Or.inl rfl | exact Or.inr rfl) (pe_op op_rep (pe_lst (pa_cons pe_int pa_nil)) (pe_ix (ixT K) (pv 0) pe_int (fun _ _ => rfl))))
      (pss_cons (ps_for PassesOwn.never rfl (piT K (pv 1)) (pg_name (i := 3) nd rfl (by first | exact Or.inl rfl | exact Or.inr rfl)) (pss_cons (ps_asg (pe_ix (ixT K) (pe_ix (ixT K) (pv 0) pe_int (fun _ _ => rfl)) (pv 3) (fun _ _ => rfl)) (pgT K rfl (pgs_cons (pg_name (i := 4) nd rfl (by first | exact Or.inl rfl | exact Or.inr rfl)) (pgs_cons (pg_name (i := 5) nd rfl (by first | exact Or.inl rfl | exact Or.inr rfl)) pgs_nil))))
      (pss_cons (ps_asg (pe_op op_add (pe_ix (ixL K) (pv 2) (pv 4) (fun _ _ => rfl)) pe_int) (pg_sub (pv 2) (pv 4) set_list))
      (pss_one (ps_asg (pe_op op_add (pe_ix (ixL K) (pv 2) (pv 5) (fun _ _ => rfl)) pe_int) (pg_sub (pv 2) (pv 5) set_list))))))
      (pss_one (ps_ret (pv 2))))), ?_⟩
    refine ⟨by decide, fun p0 hp0 => ?_⟩
    have s0 : Same H (upd H p0 (.lst [.int 0])) := same_new hp0
    refine ⟨_, rfl, a, _, _, _, rfl, rfl, sqT_same s0 ha, atI_nat (j := 0) rfl, ?_⟩
    refine ⟨p0, _, [.int 0], rfl, rfl, upd_same, by omega, by omega, ?_, fun m0 hm0 => ?_⟩
    · exact Nat.le_trans (show 1 * (n : Int).toNat ≤ 1000 by omega) (by decide)
    have s1 : Same (upd H p0 (.lst [.int 0])) (upd (upd H p0 (.lst [.int 0])) m0 (.lst (List.replicate (n : Int).toNat [V.int 0]).flatten)) := same_new hm0
    have hHm : H m0 = none := Same.free s0 hm0
    refine ⟨_, rfl, al, rfl, ⟨_, sqT_same (s0.trans s1) hal⟩, for_it (walk_tup (xs := natsV lot)) (fun j σ H' => ∃ (v3 v4 v5 : Option V),
        σ = [some (.ref a), some (.ref al), some (.ref m0), v3, v4, v5] ∧ Same H H' ∧ H' m0 = some (.lst (degV n ts (lot.take j)))) ?_ ?_ ?_ ?_⟩
    · refine ⟨none, none, none, rfl, s0.trans s1, ?_⟩
      rw [upd_same, reps, Int.toNat_natCast]
      rfl
    · rintro j σ H' _ ⟨v3, v4, v5, rfl, h1, _⟩
      exact sqT_same h1 hal
    · rintro j x σ H' H'' hj ⟨v3, v4, v5, rfl, h1, h3⟩ ⟨rfl, hx⟩
      obtain ⟨kk, hkk, rfl⟩ := get_map hx
      have hkm : kk < ts.length := hlot kk (List.mem_of_getElem? hkk)
      have ht : ts[kk]? = some ts[kk] := List.getElem?_eq_getElem hkm
      have hte := hends ts[kk] (List.getElem_mem hkm)
      obtain ⟨y, hy, hyd⟩ := dpAll_at hys (show (ts.map tieD)[kk]? = some (tieD ts[kk]) by rw [List.getElem?_map, ht]; rfl)
      obtain ⟨ay, rfl, hay⟩ := dp_tie hyd
      have htk : lot.take (j + 1) = lot.take j ++ [kk] := by
        rw [List.take_add_one, hkk]
        rfl
      refine ⟨_, rfl, a, _, _, _, rfl, rfl, sqT_same h1 ha, atI_nat (j := 1) rfl, ?_⟩
      refine ⟨_, rfl, c, _, _, _, rfl, rfl, sqT_same h1 hc, atI_nat hy, ?_⟩
      refine ⟨ay, _, rfl, sqT_same h1 hay, rfl, _, _, rfl, _, _, rfl, rfl, ?_⟩
      generalize ts[kk] = t at *
      have h3' : H'' m0 = some (.lst ((List.range n).map fun p => V.int (deg ts (lot.take j) p : Nat))) := h3
      refine ⟨_, rfl, _, rfl, m0, _, (t.1 : Int), _, rfl, rfl, SqL.of h3', atI_nat (rng_get n _ (show t.1 < n by omega)), ?_⟩
      refine ⟨_, _, rfl, rfl, ?_⟩
      refine ⟨_, rfl, _, rfl, m0, _, (t.1 : Int), t.1, rfl, rfl, h3', ix_nat (by rw [List.length_map, List.length_range]; omega), ?_⟩
      rw [rng_set]
      refine ⟨_, rfl, _, rfl, m0, _, (t.2 : Int), _, rfl, rfl, SqL.of upd_same, atI_nat (rng_get n _ hte.2), ?_⟩
      rw [if_neg (show ¬ t.2 = t.1 by omega)]
      refine ⟨_, _, rfl, rfl, ?_⟩
      refine ⟨_, rfl, _, rfl, m0, _, (t.2 : Int), t.2, rfl, rfl, upd_same, ix_nat (by rw [List.length_map, List.length_range]; omega), ?_⟩
      rw [rng_set]
      refine ⟨_, _, _, rfl, same_old hHm (same_old hHm h1), ?_⟩
      rw [upd_same]
      unfold degV
      congr 2
      refine List.map_congr_left fun p _ => ?_
      rw [htk, deg_snoc _ ht]
      by_cases e2 : p = t.2
      · subst e2
        rw [if_pos rfl, if_pos (.inr rfl)]
        rfl
      · rw [if_neg e2]
        by_cases e1 : p = t.1
        · subst e1
          rw [if_pos rfl, if_pos (.inl rfl)]
          rfl
        · rw [if_neg e1, if_neg (fun z => z.elim (fun q => e1 q.symm) (fun q => e2 q.symm))]
          rfl
    · rintro σ H' ⟨v3, v4, v5, rfl, h1, h3⟩
      unfold natsV at h3
      rw [List.length_map, List.take_of_length_le (Nat.le_refl _)] at h3
      exact ⟨_, rfl, k _ _ h1 h3⟩
theorem ok_leven {f f1 : Addr} {fd fd1 : FuncData} (D : Df K mg "_law_is_even" sLeven pLeven f fd) (T : Bl mg) (D_counts : Df K mg "_law_counts" sCounts pCounts f1 fd1) : FnOk P w K mg base CX0 2 f fd pLeven (spEven K) := by
  have G_counts : FnOk P w K mg base CX0 1 f1 fd1 pCounts (spCounts K) := ok_counts D_counts T
  refine D.fn.ok scLeven (fun vs H Q E h => ?_) (fun cdv A outer s H vs Q E hr h => ?_)
  · obtain ⟨v, u, n, ts, lot, rfl, _⟩ := h
    rfl
  · obtain ⟨v, u, n, ts, lot, rfl, hw, hu, hends, hlot, hn, k⟩ := h
    have hr_counts : Room 1 _ := hr
    have nd := scLeven.nd
    refine ⟨_, (pss_one (ps_ret (pe_cmpR (opEqD K hr.units) (pe_lc (own := [("_law_many", 2)]) (g := (gName 2)) rfl nd (piL K (pe_call G_counts hr_counts (by rfl) D_counts.ad D_counts.fn.kp D_counts.bd .nil pass0 (pa_cons (pv 0) (pa_cons (pv 1) pa_nil)))) (blkOk_by (own := [("_law_many", 2)]) (N := nLeven) (sc := defScope sLeven) (by decide +kernel)) (fun _ _ _ _ _ => (pg_name (i := 2) nd rfl (by first | exact Or.inl rfl | exact Or.inr rfl))) (fun _ _ _ _ _ => (pts_one (pt_cmpR op_eq (pe_op op_mod (pe_callTy call_int1 (by rfl) T.int (by decide +kernel) (pa_cons (pv 2) pa_nil)) pe_int) pe_int (nomark _)))) (fun _ _ _ _ _ => pe_int)) (pe_lst pa_nil) (nomark _)))), ?_⟩
    refine ⟨_, rfl, _, rfl, v, u, n, ts, lot, rfl, hw, hu, hends, hlot, hn, fun l H1 s1 hl => ?_⟩
    refine ⟨l, rfl, ⟨_, SqL.of hl⟩, fun E1 hE1 => ?_⟩
    refine lc_run (walk_list (xs := degV n ts lot)) hE1 (fun i acc _ => ∃ m : Nat, acc = (List.replicate m (1 : Int)).map V.int ∧ m ≤ i ∧ (m = 0 ↔ ∀ p, p < i → ¬ deg ts lot p % 2 = 1)) ?_ ?_ ?_ ?_
    · exact fun H' s => SqL.of (s _ _ hl)
    · exact ⟨0, rfl, Nat.le_refl _, by simp⟩
    · rintro i x acc H2 H' hi hacc e s ⟨m, rfl, hm, hm2⟩ ⟨rfl, hx⟩
      unfold degV at hi
      rw [List.length_map, List.length_range] at hi
      have hx' : some (V.int (deg ts lot i : Nat)) = some x := by
        rw [← hx]
        exact (rng_get n (fun p => V.int (deg ts lot p : Nat)) hi).symm
      cases hx'
      refine ⟨rfl, _, rfl, .inl ⟨_, rfl, _, _, rfl, rfl, (by show (0 : Int) < 2; decide), rfl, _, rfl, ?_⟩⟩
      have key : ((deg ts lot i : Nat) : Int) % 2 = 1 ↔ deg ts lot i % 2 = 1 := by omega
      refine ite2 (fun hh => ?_) (fun hh => ?_)
      · have h1 : deg ts lot i % 2 = 1 := key.mp (V.int.inj (of_decide_eq_true hh))
        refine lc_add hacc e (Same.refl _) (by rw [List.length_map, List.length_replicate]; omega) ⟨m + 1, ?_, by omega, ?_⟩
        · rw [List.replicate_succ', List.map_append]
          rfl
        · constructor
          · intro z
            omega
          · intro z
            exact absurd h1 (z i (by omega))
      · have h1 : ¬ deg ts lot i % 2 = 1 := fun z => hh (decide_eq_true (congrArg V.int (key.mpr z)))
        refine lc_skip hacc e (Same.refl _) ⟨m, rfl, by omega, ?_⟩
        rw [hm2]
        constructor
        · intro z p hp
          by_cases e : p = i
          · rw [e]
            exact h1
          · exact z p (by omega)
        · intro z p hp
          exact z p (by omega)
    · rintro acc H2 h1 s2 ⟨m, rfl, hm, hm2⟩
      unfold degV at hm2
      rw [List.length_map, List.length_range, ← even_iff] at hm2
      refine ⟨Nat.zero_le _, fun p hp => ?_⟩
      have sp : Same H2 (upd H2 p (.lst [])) := same_new hp
      refine ⟨.list ((List.replicate m (1 : Int)).map PyData.int), .list [], .lst (SqL.of (sp _ _ h1)) (dpAll_ints _), .lst (SqL.of upd_same) .nil, shaped_intsL _, shaped_intsL [], ?_⟩
      rw [eqv_rep]
      have e : decide (m = 0) = evenB n ts lot := by
        rw [Bool.eq_iff_iff, decide_eq_true_eq, hm2]
      rw [e]
      exact k _ (s1.trans (s2.trans sp))
end
theorem len_endsK (ts : List Tie) (k : Nat) : (endsK ts k).length ≤ 2 := by
  unfold endsK
  cases ts[k]? <;> simp
theorem len_flat (ts : List Tie) : ∀ l : List Nat, (l.flatMap (endsK ts)).length ≤ 2 * l.length
  | [] => by simp
  | k :: l => by
    have h1 := len_endsK ts k
    have h2 := len_flat ts l
    rw [List.flatMap_cons, List.length_append, List.length_cons]
    omega
theorem len_abs (ts : List Tie) (s : List Nat × List Nat) : ∀ i, (absN ts s i).2.length ≤ s.2.length ∧ (absN ts s i).1.length ≤ s.1.length + i * (2 * s.2.length)
  | 0 => ⟨Nat.le_refl _, by simp [absN]⟩
  | i + 1 => by
    obtain ⟨h1, h2⟩ := len_abs ts s i
    have h3 : (furthK ts (absN ts s i)).length ≤ (absN ts s i).2.length := List.length_filter_le _ _
    have h4 := len_flat ts (furthK ts (absN ts s i))
    refine ⟨Nat.le_trans (List.length_filter_le _ _) h1, ?_⟩
    show ((absN ts s i).1 ++ _).length ≤ _
    rw [List.length_append, Nat.succ_mul]
    omega
theorem abs_sub (ts : List Tie) (s : List Nat × List Nat) : ∀ i, ∀ k ∈ (absN ts s i).2, k ∈ s.2
  | 0, _, h => h
  | i + 1, k, h => abs_sub ts s i k (List.mem_filter.mp h).1
def spIsr (K : PySem.W.Frag) : Sp := fun vs H Q _ => ∃ (v lv : V) (n : Nat) (ts : List Tie) (ks : List Nat), vs = [v, lv] ∧ Dp K H v (webD n ts) ∧ Dp K H lv (lotD ks) ∧
  (∀ t ∈ ts, t.1 < t.2 ∧ t.2 < n) ∧ LotA ts.length ks ∧ n ≤ 1000 ∧ ts.length ≤ 60 ∧ ∀ H', Same H H' → Q (.bl (isRB n ts ks)) H'
section
variable {P : Program} {w : World} {K : PySem.W.Frag} {mg : Str → Option Value} {base : Heap}
theorem ok_isr {f f1 : Addr} {fd fd1 : FuncData} (D : Df K mg "_law_is_round" sIsr pIsr f fd) (T : Bl mg) (hlist : mg "list" = none)
    (D_counts : Df K mg "_law_counts" sCounts pCounts f1 fd1) : FnOk P w K mg base CX0 2 f fd pIsr (spIsr K) := by
  have G_counts : FnOk P w K mg base CX0 1 f1 fd1 pCounts (spCounts K) := ok_counts D_counts T
  refine D.fn.ok scIsr (fun vs H Q E h => ?_) (fun cdv A outer s H vs Q E hr h => ?_)
  · obtain ⟨v, lv, n, ts, ks, rfl, _⟩ := h
    rfl
  · obtain ⟨v, lv, n, ts, ks, rfl, hw, hk, hends, hA, hn, hL60, k⟩ := h
    have hks := hA.2
    have hkl : ks.length ≤ 60 := Nat.le_trans (lotA_len hA) hL60
    have hr_counts : Room 1 _ := hr
    have nd := scIsr.nd
    obtain ⟨a, c, ys, rfl, ha, hc, hys⟩ := dp_web hw
    obtain ⟨al, rfl, hal⟩ := dp_lotN hk
    have tieAt : ∀ kk, kk < ts.length → ∃ (t : Tie) (ay : Addr), ts[kk]? = some t ∧ ys[kk]? = some (.ref ay) ∧ SqT K H ay [.int t.1, .int t.2] ∧ endsK ts kk = [t.1, t.2] := fun kk hkm => by
      have ht := List.getElem?_eq_getElem hkm
      obtain ⟨y, hy, hyd⟩ := dpAll_at hys (show (ts.map tieD)[kk]? = some (tieD ts[kk]) by rw [List.getElem?_map, ht]; rfl)
      obtain ⟨ay, rfl, hay⟩ := dp_tie hyd
      exact ⟨_, ay, ht, hy, hay, by unfold endsK; rw [ht]⟩
    refine ⟨_, (pss_cons (ps_if (PW.pt (pw_or (pt_cmpR (opEqD K hr.units) (pv 1) (pe_tup pa_nil) (nomark _)) (pw_or1 (pt_cmpR (opNeD K hr.units) (pe_lc (own := [("_law_many", 7)]) (g := (gName 7)) rfl nd (piL K (pe_call G_counts hr_counts (by rfl) D_counts.ad D_counts.fn.kp D_counts.bd .nil pass0 (pa_cons (pv 0) (pa_cons (pv 1) pa_nil)))) (blkOk_by (own := [("_law_many", 7)]) (N := nIsr) (sc := defScope sIsr) (by decide +kernel)) (fun _ _ _ _ _ => (pg_name (i := 7) nd rfl (by first | exact Or.inl rfl | exact Or.inr rfl))) (fun _ _ _ _ _ => (pts_one (pt_cmpR (opNotIn K) (pv 7) (pe_tup (pa_cons pe_int (pa_cons pe_int pa_nil))) rfl))) (fun _ _ _ _ _ => pe_int)) (pe_lst pa_nil) (nomark _))))) (pss_one (ps_ret pe_bl)) pss_nil)
      (pss_cons (ps_asg (pe_tup (pa_cons (pe_callTy (listK K) (by rfl) hlist (by decide +kernel) (pa_cons (pe_ix (ixT K) (pe_ix (ixT K) (pv 0) pe_int (fun _ _ => rfl)) (pe_ix (ixT K) (pv 1) pe_int (fun _ _ => rfl)) (fun _ _ => rfl)) pa_nil)) (pa_cons (pe_callTy (listK K) (by rfl) hlist (by decide +kernel) (pa_cons (pe_slice (slTA K) (pv 1) (po_some pe_int) po_none) pa_nil)) pa_nil))) (pgT K rfl (pgs_cons (pg_name (i := 2) nd rfl (by first | exact Or.inl rfl | exact Or.inr rfl)) (pgs_cons (pg_name (i := 3) nd rfl (by first | exact Or.inl rfl | exact Or.inr rfl)) pgs_nil))))
      (pss_cons (ps_for PassesOwn.never rfl (pi_range1 rfl T.range (pa_cons (pe_callB (lenK K) (by rfl) T.len PySem.boot_len (pa_cons (pv 1) pa_nil)) pa_nil)) (pg_name (i := 4) nd rfl (by first | exact Or.inl rfl | exact Or.inr rfl)) (pss_cons (ps_set (i := 5) nd rfl (by first | exact Or.inl rfl | exact Or.inr rfl) (pe_lc (own := [("_law_tie", 6)]) (g := (gName 6)) rfl nd (piL K (pv 3)) (blkOk_by (own := [("_law_tie", 6)]) (N := nIsr) (sc := defScope sIsr) (by decide +kernel)) (fun _ _ _ _ _ => (pg_name (i := 6) nd rfl (by first | exact Or.inl rfl | exact Or.inr rfl))) (fun _ _ _ _ _ => (pts_one (PW.pt (pw_or (pt_cmpR (opIn K) (pe_ix (ixT K) (pe_ix (ixT K) (pe_ix (ixT K) (pv 0) pe_int (fun _ _ => rfl)) (pv 6) (fun _ _ => rfl)) pe_int (fun _ _ => rfl)) (pv 2) rfl) (pw_or1 (pt_cmpR (opIn K) (pe_ix (ixT K) (pe_ix (ixT K) (pe_ix (ixT K) (pv 0) pe_int (fun _ _ => rfl)) (pv 6) (fun _ _ => rfl)) pe_int (fun _ _ => rfl)) (pv 2) rfl)))))) (fun _ _ _ _ _ => (pv 6))))
      (pss_cons (ps_for PassesOwn.never rfl (piL K (pv 5)) (pg_name (i := 6) nd rfl (by first | exact Or.inl rfl | exact Or.inr rfl)) (pss_one (ps_set (i := 2) nd rfl (by first | exact Or.inl rfl | exact Or.inr rfl) (pe_op op_cat (pv 2) (pe_callTy (listK K) (by rfl) hlist (by decide +kernel) (pa_cons (pe_ix (ixT K) (pe_ix (ixT K) (pv 0) pe_int (fun _ _ => rfl)) (pv 6) (fun _ _ => rfl)) pa_nil))))))
      (pss_one (ps_setLc (i := 3) (own := [("_law_tie", 6)]) (g := (gName 6)) rfl nd rfl rfl (sw_true rfl rfl rfl (by decide +kernel)) (piL K (pv 3)) (blkOk_by (own := [("_law_tie", 6)]) (N := nIsr) (sc := defScope sIsr) (by decide +kernel)) (fun _ _ _ _ _ => (pg_name (i := 6) nd rfl (by first | exact Or.inl rfl | exact Or.inr rfl))) (fun _ _ _ _ _ => (pts_one (pt_cmpR (opNotIn K) (pv 6) (pv 5) rfl))) (fun _ _ _ _ _ => (pv 6)))))))
      (pss_one (ps_ret (pe_cmpR (opEqD K hr.units) (pv 3) (pe_lst pa_nil) (nomark _))))))), ?_⟩
    show tSeq _ _ _ _ _
    refine tSeq_go ?_
    refine tIfS_t (fun b H' => Same H H' ∧ (b = true → isRB n ts ks = false) ∧ (b = false → ks ≠ [] ∧ Twos n ts ks)) ?_ ?_ (fun cont => ?_)
    · rintro H' ⟨sH, hb, _⟩
      have := k _ sH
      rw [hb rfl] at this
      exact this
    · rintro H1 ⟨sH, _, hne⟩
      obtain ⟨hne, htw⟩ := hne rfl
      obtain ⟨k0, kr, rfl⟩ : ∃ k0 kr, ks = k0 :: kr := List.exists_cons_of_ne_nil hne
      clear hne
      have hk0 := hks k0 (List.mem_cons_self ..)
      obtain ⟨t0, ay0, ht0, hy0, hay0, he0⟩ := tieAt k0 hk0
      have hal1 := sqT_same sH hal
      show tSeq _ _ _ _ _
      refine tSeq_go ?_
      refine ⟨_, rfl, a, _, _, _, rfl, rfl, sqT_same sH ha, atI_nat (j := 1) rfl, ?_⟩
      refine ⟨_, rfl, al, _, _, _, rfl, rfl, hal1, atI_nat (j := 0) rfl, c, _, _, _, rfl, rfl, sqT_same sH hc, atI_nat hy0, ?_⟩
      refine ⟨ay0, _, rfl, .inr (sqT_same sH hay0), fun m hm => ?_⟩
      have s1 := same_new (o := .lst [.int t0.1, .int t0.2]) hm
      refine ⟨_, rfl, 1, rfl, ?_⟩
      dsimp only [tNoPart]
      refine slA_by rfl (sqT_same s1 hal1) fun c1 H2 s2 hc1 => ?_
      have ecut : cutV (natsV (k0 :: kr)) (some 1) none = natsV kr := cut_lo (natsV (k0 :: kr)) 1
      rw [ecut] at hc1
      refine ⟨c1, _, rfl, .inr hc1, fun r hr => ?_⟩
      have s3 := same_new (o := .lst (natsV kr)) hr
      refine ⟨by show 2 ≤ sizeLine; decide, fun p2 hp2 => ?_⟩
      have s4 := same_new (o := .tup [.ref m, .ref r]) hp2
      have hM := s4 _ _ (s3 _ _ (s2 _ _ (upd_same (H := H1) (a := m) (o := .lst [.int t0.1, .int t0.2]))))
      have hRr := s4 _ _ (upd_same (a := r) (o := .lst (natsV kr)))
      refine ⟨p2, _, rfl, SqT.of upd_same, rfl, _, _, rfl, _, _, rfl, rfl, ?_⟩
      have S4 := sH.trans (s1.trans (s2.trans (s3.trans s4)))
      generalize upd (upd H2 r (.lst (natsV kr))) p2 (.tup [.ref m, .ref r]) = H4 at hM hRr S4
      clear s1 s2 s3 s4 hp2 hr hm hc1
      refine at_st [some (.ref a), some (.ref al), some (.ref m), some (.ref r), none, none, none, none] rfl ?_
      refine tSeq_go ?_
      have hlen : (natsV (k0 :: kr)).length = (k0 :: kr).length := natsV_len _
      have hkl' : (k0 :: kr).length ≤ 60 := hkl
      have hkr : kr.length + 1 = (k0 :: kr).length := rfl
      have hs1 : (endsK ts k0, kr).1.length ≤ 2 := len_endsK ts k0
      have hs2 : (endsK ts k0, kr).2.length = kr.length := rfl
      refine ⟨_, rfl, al, _, rfl, .inr (sqT_same S4 hal), _, rfl, by omega, by omega, ?_⟩
      refine for_range (lo := 0) (n := (((natsV (k0 :: kr)).length : Nat) : Int).toNat) (fun i σ Hc => ∃ (v4 v5 v6 : Option V) (m r : Addr),
        σ = [some (.ref a), some (.ref al), some (.ref m), some (.ref r), v4, v5, v6, none] ∧ Same H Hc ∧ Hc m = some (.lst (natsV (absN ts (endsK ts k0, kr) i).1)) ∧
        Hc r = some (.lst (natsV (absN ts (endsK ts k0, kr) i).2))) ?_ ?_ ?_
      · exact ⟨none, none, none, m, r, rfl, S4, by rw [hM]; show _ = some (HO.lst (natsV (endsK ts k0))); rw [he0]; rfl, hRr⟩
      · clear hM hRr S4 m r
        rintro i σ Hc hi ⟨v4, v5, v6, m, r, rfl, sC, hM, hR⟩
        have hi2 : i < 60 := by omega
        rw [Int.zero_add]
        have hsub := abs_sub ts (endsK ts k0, kr) i
        obtain ⟨hb1, hb2⟩ := len_abs ts (endsK ts k0, kr) i
        have hnext : absN ts (endsK ts k0, kr) (i + 1) = absT ts (absN ts (endsK ts k0, kr) i) := rfl
        rw [hnext]
        generalize absN ts (endsK ts k0, kr) i = S at *
        clear hnext
        have hS2 : S.2.length ≤ 60 := by omega
        have hS1 : S.1.length ≤ 2 + 60 * 120 := by
          have : i * (2 * (endsK ts k0, kr).2.length) ≤ 60 * 120 := Nat.mul_le_mul (by omega) (by omega)
          omega
        have hSk : ∀ k ∈ S.2, k < ts.length := fun k hk => hks k (List.mem_cons_of_mem _ (hsub k hk))
        have hfl : (furthK ts S).length ≤ 60 := Nat.le_trans (List.length_filter_le _ _) hS2
        have hfk : ∀ k ∈ furthK ts S, k < ts.length := fun k hk => hSk k (List.mem_filter.mp hk).1
        show tSeq _ _ _ _ _
        refine tSeq_go ?_
        -- further
        refine tAsg_by (fun v H' => ∃ (fa : Addr), v = .ref fa ∧ Same Hc H' ∧ H' fa = some (.lst (natsV (furthK ts S)))) ?_ (fun cont => ?_)
        · rintro _ H5 ⟨fa, rfl, s5, hF⟩
          have hM5 := s5 _ _ hM
          have hR5 := s5 _ _ hR
          have sC5 := sC.trans s5
          generalize hfs : furthK ts S = fs at *
          show tSeq _ _ _ _ _
          refine tSeq_go ?_
          -- the places met
          refine ⟨_, rfl, fa, rfl, ⟨_, SqL.of hF⟩, for_it (walk_list (xs := natsV fs)) (fun j σ H' => ∃ (v6 : Option V) (m : Addr),
            σ = [some (.ref a), some (.ref al), some (.ref m), some (.ref r), some (.int i), some (.ref fa), v6, none] ∧ Same H5 H' ∧
            H' m = some (.lst (natsV (S.1 ++ (fs.take j).flatMap (endsK ts))))) ?_ ?_ ?_ ?_⟩
          · exact ⟨v6, m, rfl, Same.refl _, by rw [hM5]; simp⟩
          · rintro j σ H' _ ⟨v6, m, rfl, h1, _⟩
            exact SqL.of (h1 _ _ hF)
          · rintro j x σ H' H'' hj ⟨v6, m, rfl, h1, h2⟩ ⟨rfl, hx⟩
            obtain ⟨kk, hkk, rfl⟩ := get_map hx
            obtain ⟨t, ay, ht, hy, hay, hen⟩ := tieAt kk (hfk kk (List.mem_of_getElem? hkk))
            rw [natsV_len] at hj
            have sA := sC5.trans h1
            refine ⟨_, rfl, _, rfl, a, _, _, _, rfl, rfl, sqT_same sA ha, atI_nat (j := 1) rfl, ?_⟩
            refine ⟨_, rfl, c, _, _, _, rfl, rfl, sqT_same sA hc, atI_nat hy, ?_⟩
            refine ⟨ay, _, rfl, .inr (sqT_same sA hay), fun q hq => ?_⟩
            have sq := same_new (o := .lst [.int t.1, .int t.2]) hq
            have hlm := len_flat ts (fs.take j)
            have hlj : (fs.take j).length ≤ 60 := by rw [List.length_take]; omega
            refine ⟨m, q, _, [.int t.1, .int t.2], rfl, rfl, sq _ _ h2, upd_same, ?_, fun m2 hm2 => ?_⟩
            · rw [natsV_len, List.length_append]
              exact Nat.le_trans (show S.1.length + ((fs.take j).flatMap (endsK ts)).length + 2 ≤ 100000 by omega) (by decide)
            · refine ⟨_, m2, rfl, h1.trans (sq.trans (same_new hm2)), ?_⟩
              rw [upd_same, List.take_add_one, hkk, List.flatMap_append]
              show _ = some (HO.lst (natsV (S.1 ++ ((fs.take j).flatMap (endsK ts) ++ [kk].flatMap (endsK ts)))))
              rw [List.flatMap_cons, List.flatMap_nil, hen, List.append_nil, ← List.append_assoc]
              unfold natsV
              rw [List.map_append (l₂ := [t.1, t.2])]
              rfl
          · rintro σ H6 ⟨v6, m, rfl, h1, h2⟩
            rw [natsV_len, List.take_of_length_le (Nat.le_refl _)] at h2
            have sA := sC5.trans h1
            -- the rest
            refine ⟨_, rfl, r, rfl, ⟨_, SqL.of (h1 _ _ hR5)⟩, fun E1 hE1 => ?_⟩
            refine lc_run (walk_list (xs := natsV S.2)) hE1 (fun i acc _ => acc = natsV ((S.2.take i).filter fun k => !decide (k ∈ fs))) ?_ ?_ ?_ ?_
            · exact fun H' s => SqL.of (s _ _ (h1 _ _ hR5))
            · rfl
            · rintro i x acc H2 H' hi hacc e s r' ⟨rfl, hx⟩
              obtain ⟨kk, hkk, rfl⟩ := get_map hx
              have htk : S.2.take (i + 1) = S.2.take i ++ [kk] := by
                rw [List.take_add_one, hkk]
                rfl
              have r' : acc = natsV ((S.2.take i).filter fun k => !decide (k ∈ fs)) := r'
              have hal2 : acc.length ≤ 1000 := by
                rw [r', natsV_len]
                refine Nat.le_trans (List.length_filter_le _ _) ?_
                rw [List.length_take]
                omega
              refine ⟨rfl, ?_⟩
              refine ⟨_, rfl, _, rfl, fa, _, rfl, .inl (SqL.of (s _ _ (h1 _ _ hF))), rfl, flat_nats fs, _, rfl, ?_⟩
              have key : (!inV (V.int (kk : Int)) (natsV fs)) = !decide (kk ∈ fs) := by
                have : inV (V.int (kk : Int)) (natsV fs) = decide (kk ∈ fs) := inv_nats _ _
                rw [this]
              refine ite2 (fun hh => ?_) (fun hh => ?_)
              · refine ⟨_, rfl, ?_⟩
                refine lc_add hacc e (Same.refl _) (by omega) ?_
                show _ = _
                rw [htk, List.filter_append, List.filter_cons, if_pos (by rw [← key]; exact hh), r']
                unfold natsV
                rw [List.map_append]
                rfl
              · refine lc_skip hacc e (Same.refl _) ?_
                show _ = _
                rw [htk, List.filter_append, List.filter_cons, if_neg (by rw [← key]; exact hh), r']
                simp
            · rintro acc H2 g1 s2 r'
              have r' : acc = natsV ((S.2.take (natsV S.2).length).filter fun k => !decide (k ∈ fs)) := r'
              rw [natsV_len, List.take_of_length_le (Nat.le_refl _)] at r'
              refine ⟨_, _, _, m, E1, rfl, sA.trans s2, ?_, ?_⟩
              · rw [s2 _ _ h2]
                unfold absT
                rw [hfs]
              · rw [g1, r']
                unfold absT
                rw [hfs]
        · refine ⟨_, rfl, r, rfl, ⟨_, SqL.of hR⟩, fun E1 hE1 => ?_⟩
          refine lc_run (walk_list (xs := natsV S.2)) hE1 (fun i acc _ => acc = natsV ((S.2.take i).filter (touchK ts S.1))) ?_ ?_ ?_ ?_
          · exact fun H' s => SqL.of (s _ _ hR)
          · rfl
          · rintro i x acc H2 H' hi hacc e s r' ⟨rfl, hx⟩
            obtain ⟨kk, hkk, rfl⟩ := get_map hx
            have hkt := hSk kk (List.mem_of_getElem? hkk)
            obtain ⟨t, ay, ht, hy, hay, hen⟩ := tieAt kk hkt
            have sA := sC.trans s
            have htk : S.2.take (i + 1) = S.2.take i ++ [kk] := by
              rw [List.take_add_one, hkk]
              rfl
            have r' : acc = natsV ((S.2.take i).filter (touchK ts S.1)) := r'
            have hal2 : acc.length ≤ 1000 := by
              rw [r', natsV_len]
              refine Nat.le_trans (List.length_filter_le _ _) ?_
              rw [List.length_take]
              omega
            have etk : touchK ts S.1 kk = (decide (t.1 ∈ S.1) || decide (t.2 ∈ S.1)) := by
              unfold touchK
              rw [ht]
            refine ⟨rfl, ?_⟩
            refine ⟨_, rfl, a, _, _, _, rfl, rfl, sqT_same sA ha, atI_nat (j := 1) rfl, ?_⟩
            refine ⟨_, rfl, c, _, _, _, rfl, rfl, sqT_same sA hc, atI_nat hy, ?_⟩
            refine ⟨ay, _, _, _, rfl, rfl, sqT_same sA hay, atI_nat (j := 0) rfl, ?_⟩
            refine ⟨_, rfl, m, _, rfl, .inl (SqL.of (s _ _ hM)), rfl, flat_nats S.1, _, rfl, ?_⟩
            have key1 : inV (V.int (t.1 : Int)) (natsV S.1) = decide (t.1 ∈ S.1) := inv_nats _ _
            have key2 : inV (V.int (t.2 : Int)) (natsV S.1) = decide (t.2 ∈ S.1) := inv_nats _ _
            have go : touchK ts S.1 kk = true → ∃ acc, H' E1 = some (.lst acc) ∧ acc.length < sizeLine ∧ LcI Hc E1 (fun i acc _ => acc = natsV ((S.2.take i).filter (touchK ts S.1))) (i + 1) (upd H' E1 (.lst (acc ++ [.int kk]))) := fun ht => by
              refine lc_add hacc e (Same.refl _) (by omega) ?_
              show _ = _
              rw [htk, List.filter_append, List.filter_cons, if_pos ht, r']
              unfold natsV
              rw [List.map_append]
              rfl
            refine ite2 (fun hh => ?_) (fun hh => ?_)
            · have hh : decide (t.1 ∈ S.1) = true := by rw [← key1]; exact hh
              exact ⟨_, rfl, go (by rw [etk, hh]; rfl)⟩
            · have hh : decide (t.1 ∈ S.1) = false := by rw [← key1]; simpa using hh
              refine ⟨_, rfl, a, _, _, _, rfl, rfl, sqT_same sA ha, atI_nat (j := 1) rfl, ?_⟩
              refine ⟨_, rfl, c, _, _, _, rfl, rfl, sqT_same sA hc, atI_nat hy, ?_⟩
              refine ⟨ay, _, _, _, rfl, rfl, sqT_same sA hay, atI_nat (j := 1) rfl, ?_⟩
              refine ⟨_, rfl, m, _, rfl, .inl (SqL.of (s _ _ hM)), rfl, flat_nats S.1, _, rfl, ?_⟩
              refine ite2 (fun h2 => ?_) (fun h2 => ?_)
              · have h2 : decide (t.2 ∈ S.1) = true := by rw [← key2]; exact h2
                exact ⟨_, rfl, go (by rw [etk, hh, h2]; rfl)⟩
              · have h2 : decide (t.2 ∈ S.1) = false := by rw [← key2]; simpa using h2
                refine lc_skip hacc e (Same.refl _) ?_
                show _ = _
                rw [htk, List.filter_append, List.filter_cons, if_neg (by rw [etk, hh, h2]; decide), r']
                simp
          · rintro acc H2 g1 s2 r'
            have r' : acc = natsV ((S.2.take (natsV S.2).length).filter (touchK ts S.1)) := r'
            rw [natsV_len, List.take_of_length_le (Nat.le_refl _)] at r'
            exact cont _ _ ⟨E1, rfl, s2, by rw [g1, r']; rfl⟩
      · rintro σ Hc ⟨v4, v5, v6, m, r, rfl, sC, hM, hR⟩
        have ei : (((natsV (k0 :: kr)).length : Nat) : Int).toNat = (k0 :: kr).length := by rw [hlen, Int.toNat_natCast]
        rw [ei] at hR
        have hpc := abs_piece (ts := ts) hA.nd
        generalize (absN ts (endsK ts k0, kr) (k0 :: kr).length).2 = rest at hR hpc
        refine ⟨_, rfl, Nat.zero_le _, fun p hp => ?_⟩
        have sp := same_new (o := .lst []) hp
        rw [natsV_ints] at hR
        refine ⟨.list ((rest.map fun (k : Nat) => (k : Int)).map PyData.int), .list [], .lst (SqL.of (sp _ _ hR)) (dpAll_ints _), .lst (SqL.of upd_same) .nil, shaped_intsL _, shaped_intsL [], ?_⟩
        have e : PyData.eqv (.list ((rest.map fun (k : Nat) => (k : Int)).map PyData.int)) (.list []) = isRB n ts (k0 :: kr) := by
          rw [Bool.eq_iff_iff, isRB_iff]
          have e1 : PyData.eqv (.list ((rest.map fun (k : Nat) => (k : Int)).map PyData.int)) (.list []) = decide (rest = []) := by
            cases rest with
            | nil => rfl
            | cons x r => rfl
          rw [e1, decide_eq_true_eq, hpc]
          constructor
          · exact fun z => ⟨by simp, htw, fun k hk => by cases hk; exact z⟩
          · exact fun z => z.cn k0 rfl
        rw [e]
        exact k _ (sC.trans sp)
    · refine ⟨_, rfl, Nat.zero_le _, fun p0 hp0 => ?_⟩
      have s0 : Same H (upd H p0 (.tup [])) := same_new hp0
      refine ⟨lotD ks, lotD [], dp_same s0 _ hk, lot_dp (SqT.of upd_same), shaped_lotN _, shaped_lotN _, _, rfl, ?_⟩
      rw [eqv_lots]
      cases ks with
      | nil =>
        rw [decide_eq_true rfl]
        refine iteT ?_
        exact cont true _ ⟨s0, fun _ => Bool.eq_false_iff.mpr fun z => (isRB_iff.mp z).ne rfl, fun z => by cases z⟩
      | cons k0 kr =>
        rw [decide_eq_false (by simp)]
        refine iteF ?_
        refine ⟨_, rfl, _, rfl, _, _, n, ts, k0 :: kr, rfl, dp_same s0 _ hw, dp_same s0 _ hk, hends, hks, hn, fun l H1 s1 hl => ?_⟩
        refine ⟨l, rfl, ⟨_, SqL.of hl⟩, fun E1 hE1 => ?_⟩
        refine lc_run (walk_list (xs := degV n ts (k0 :: kr))) hE1 (fun i acc _ => ∃ m : Nat, acc = (List.replicate m (1 : Int)).map V.int ∧ m ≤ i ∧ (m = 0 ↔ ∀ p, p < i → deg ts (k0 :: kr) p = 0 ∨ deg ts (k0 :: kr) p = 2)) ?_ ?_ ?_ ?_
        · exact fun H' s => SqL.of (s _ _ hl)
        · exact ⟨0, rfl, Nat.le_refl _, by simp⟩
        · rintro i x acc H2 H' hi hacc e s ⟨m, rfl, hm, hm2⟩ ⟨rfl, hx⟩
          unfold degV at hi
          rw [List.length_map, List.length_range] at hi
          have hx' : some (V.int (deg ts (k0 :: kr) i : Nat)) = some x := by
            rw [← hx]
            exact (rng_get n (fun p => V.int (deg ts (k0 :: kr) p : Nat)) hi).symm
          cases hx'
          refine ⟨rfl, ?_⟩
          refine ⟨_, rfl, by show 2 ≤ sizeLine; decide, fun p hp => ?_⟩
          have sp : Same H' (upd H' p (.tup [.int 0, .int 2])) := same_new hp
          refine ⟨p, _, rfl, .inr (SqT.of upd_same), rfl, rfl, _, rfl, ?_⟩
          generalize hd : deg ts (k0 :: kr) i = d at *
          have key : inV (V.int (d : Nat)) [.int 0, .int 2] = decide (d ∈ [0, 2]) := inv_nats d [0, 2]
          refine ite2 (fun hh => ?_) (fun hh => ?_)
          · have hh : decide (d ∈ [0, 2]) = false := by rw [← key]; simpa using hh
            have hno : ¬ (d = 0 ∨ d = 2) := fun z => of_decide_eq_false hh (by simpa using z)
            refine lc_add hacc e sp (by rw [List.length_map, List.length_replicate]; omega) ⟨m + 1, ?_, by omega, ?_⟩
            · rw [List.replicate_succ', List.map_append]
              rfl
            · exact ⟨fun z => by omega, fun z => absurd (hd ▸ z i (by omega)) hno⟩
          · have hh : decide (d ∈ [0, 2]) = true := by rw [← key]; simpa using hh
            have hyes : d = 0 ∨ d = 2 := by simpa using of_decide_eq_true hh
            refine lc_skip hacc e sp ⟨m, rfl, by omega, ?_⟩
            rw [hm2]
            exact ⟨fun z p hp => by
              by_cases e : p = i
              · rw [e, hd]
                exact hyes
              · exact z p (by omega), fun z p hp => z p (by omega)⟩
        · rintro acc H2 h1 s2 ⟨m, rfl, hm, hm2⟩
          unfold degV at hm2
          rw [List.length_map, List.length_range] at hm2
          refine ⟨Nat.zero_le _, fun p hp => ?_⟩
          have sp : Same H2 (upd H2 p (.lst [])) := same_new hp
          refine ⟨.list ((List.replicate m (1 : Int)).map PyData.int), .list [], .lst (SqL.of (sp _ _ h1)) (dpAll_ints _), .lst (SqL.of upd_same) .nil, shaped_intsL _, shaped_intsL [], _, rfl, ?_⟩
          rw [eqv_rep]
          have htw : m = 0 ↔ Twos n ts (k0 :: kr) := by
            rw [hm2]
            unfold Twos
            exact ⟨fun z p hp => by rw [← deg_eq]; exact z p hp, fun z p hp => by rw [deg_eq]; exact z p hp⟩
          refine cont _ _ ⟨s0.trans (s1.trans (s2.trans sp)), fun z => ?_, fun z => ⟨by simp, ?_⟩⟩
          · have z : ¬ m = 0 := by simpa using z
            exact Bool.eq_false_iff.mpr fun q => z (htw.mpr (isRB_iff.mp q).tw)
          · have z : m = 0 := by simpa using z
            exact htw.mp z
end
end BV

namespace BV
open PySem L2
/-! ### repr of data, the empty dict among it -/
def ShowO (d : PyData) : Prop := Show d ∨ d = .dict []
section
variable {X : Cx}
theorem call_reprO (hgd : X.A.guards = some []) (hu : X.A.units + 64 < cLine) :
    CallR X (.builtin "repr") (fun xs H Q => ∃ (x : V) (d : PyData), xs = [x] ∧ Od X.K H x d ∧ ShowO d ∧ Q (.str d.shown) H) := by
  intro pins s σ H xs us Q I r h
  obtain ⟨x, d, rfl, hd, hs, q⟩ := h
  rcases hd with hd | ⟨rfl, a, rfl, ha⟩
  · rcases hs with hs | rfl
    · exact call_reprD hgd hu pins s σ H _ us Q I r ⟨x, d, rfl, hd, hs, q⟩
    · cases hd
  · rw [Vals.ref1 r]
    have hk := I.hok a _ ha
    unfold ObjOk at hk
    obtain ⟨_, hsys, vs, kv, o, es, ep, h1, h2, h3, h4, h5, h6⟩ := hk
    cases kv
    have he : es.toList = [] := by
      generalize es.toList = l at h5
      cases h5
      rfl
    have rd : Reads s.heap (.ref a) (.dict []) (a :: [] ++ []) := .dict h1 h2.1 h3 (by rw [he]; exact .nil) (by rw [he]; exact .nil)
    refine repr_of_reads' rd (by decide) (fun _ hm => ?_) hgd (by show X.A.units + (PyData.depth (.dict []) + 1) < cLine; have : PyData.depth (.dict []) = 1 := by decide
                                                                  omega) (fun _ _ e => e) (fun h' u tk hk => ?_) (by decide)
    · have : sysModules = a := by simpa using hm
      rw [this] at hsys
      simp at hsys
    · exact ⟨.str _, H, I.kept (t' := tk) hk, ⟨u, rfl⟩, q⟩
end
def rReprO (K : PySem.W.Frag) : List V → Hp → VK → Prop := fun xs H Q => ∃ (x : V) (d : PyData), xs = [x] ∧ Od K H x d ∧ ShowO d ∧ Q (.str d.shown) H
theorem reprO {X : Cx} (K : PySem.W.Frag) (hgd : X.A.guards = some []) (hu : X.A.units + 64 < cLine) (h : X.K = K := by rfl) : CallR X (.builtin "repr") (rReprO K) := by
  subst h
  exact call_reprO hgd hu
end BV

namespace BV
open PySem L2 Builtin Builtin.Str
/-! ### texts whose signs are low -/
def low (x : Str) : Prop := ∀ c ∈ x.cps.toList, c < 16 ^ 8
theorem low_app {x y : Str} (hx : low x) (hy : low y) : low (x ++ y) := by
  intro c hc
  have : c ∈ (x.cps ++ y.cps).toList := hc
  rw [Array.toList_append] at this
  rcases List.mem_append.mp this with z | z
  · exact hx c z
  · exact hy c z
theorem low_char (c : Char) : c.toNat < 16 ^ 8 := by
  have : c.val.toNat < 4294967296 := c.val.toNat_lt
  have e : (16 : Nat) ^ 8 = 4294967296 := by decide
  rw [e]
  exact this
theorem low_of (s : String) : low (Str.ofString s) := by
  intro c hc
  rw [Str.ofString_eq_toList] at hc
  have hc' : c ∈ s.toList.map Char.toNat := by simpa using hc
  obtain ⟨d, _, rfl⟩ := List.mem_map.mp hc'
  exact low_char d
theorem low_reprChar {q c : Nat} (hq : q < 16 ^ 8) (hc : c < 16 ^ 8) : ∀ d ∈ reprChar q c, d < 16 ^ 8 := by
  have e : (16 : Nat) ^ 8 = 4294967296 := by decide
  have hex : ∀ w d, d ∈ (List.replicate (w - ((Nat.toDigits 16 c).map Char.toNat).length) 48 ++ (Nat.toDigits 16 c).map Char.toNat) → d < 16 ^ 8 := fun w d hd => by
    rcases List.mem_append.mp hd with z | z
    · rw [List.eq_of_mem_replicate z]
      decide
    · obtain ⟨x, _, rfl⟩ := List.mem_map.mp z
      exact low_char x
  intro d hd
  unfold reprChar at hd
  dsimp only at hd
  repeat' split at hd
  all_goals first
    | (rcases List.mem_append.mp hd with z | z
       · simp only [List.mem_cons, List.not_mem_nil, or_false] at z
         rw [e]
         omega
       · exact hex _ _ z)
    | (simp only [List.mem_cons, List.not_mem_nil, or_false] at hd
       rw [e] at hc hq ⊢
       omega)
theorem low_fold (q : Nat) (hq : q < 16 ^ 8) : ∀ (l : List Nat) (acc : Array Nat), (∀ c ∈ l, c < 16 ^ 8) → (∀ c ∈ acc.toList, c < 16 ^ 8) → ∀ c ∈ (l.foldl (fun out c => out ++ (reprChar q c).toArray) acc).toList, c < 16 ^ 8
  | [], acc, _, h => h
  | x :: r, acc, h1, h2 => by
    refine low_fold q hq r _ (fun d hd => h1 d (List.mem_cons_of_mem _ hd)) fun d hd => ?_
    rw [Array.toList_append] at hd
    rcases List.mem_append.mp hd with z | z
    · exact h2 d z
    · exact low_reprChar hq (h1 x (List.mem_cons_self ..)) d z
theorem low_repr {x : Str} (h : low x) : low (reprText x) := by
  have hq : reprQuote x < 16 ^ 8 := by
    unfold reprQuote
    split <;> decide
  intro c hc
  unfold reprText at hc
  rw [Array.toList_push] at hc
  rcases List.mem_append.mp hc with z | z
  · rw [← Array.foldl_toList] at z
    exact low_fold _ hq _ _ h (fun d hd => by
      have : d = reprQuote x := by simpa using hd
      rw [this]
      exact hq) c z
  · rw [List.mem_singleton.mp z]
    exact hq
theorem low_join {s : Str} (hs : low s) : ∀ ts : List Str, (∀ t ∈ ts, low t) → low (Str.join s ts)
  | [], _ => fun c hc => by simp [Str.join, Str.empty] at hc
  | [x], h => h x (List.mem_cons_self ..)
  | x :: y :: r, h => low_app (low_app (h x (List.mem_cons_self ..)) hs) (low_join hs (y :: r) fun t ht => h t (List.mem_cons_of_mem _ ht))
theorem low_from : ∀ (ts : List Str) (k : Nat) (acc : Str), low acc → (∀ t ∈ ts, low t) → low (textFrom k acc ts)
  | [], _, _, h, _ => h
  | t :: ts, k, acc, h, ht => low_from ts (k + 1) _ (low_app (low_app h (low_of _)) (ht t (List.mem_cons_self ..))) fun u hu => ht u (List.mem_cons_of_mem _ hu)
mutual
/-- data whose texts are low -/
def lowD : PyData → Bool
  | .none | .bool _ | .int _ => true
  | .str x => x.cps.toList.all fun c => decide (c < 16 ^ 8)
  | .list xs | .tuple xs => lowAll xs
  | .dict kvs => kvs.isEmpty
def lowAll : List PyData → Bool
  | [] => true
  | x :: xs => lowD x && lowAll xs
end
mutual
theorem low_shown : ∀ d : PyData, lowD d = true → low d.shown
  | .none, _ => by simp only [PyData.shown]; exact low_of _
  | .bool b, _ => by simp only [PyData.shown]; split <;> exact low_of _
  | .int i, _ => by simp only [PyData.shown]; exact low_of _
  | .str x, h => by
    simp only [PyData.shown]
    refine low_repr fun c hc => ?_
    have h' : ∀ c ∈ x.cps.toList, c < 16 ^ 8 := by
      simp only [lowD, List.all_eq_true, decide_eq_true_eq] at h
      exact h
    exact h' c hc
  | .list xs, h => by
    simp only [PyData.shown]
    exact low_app (low_from _ _ _ (low_of _) (low_shownAll xs (by simpa [lowD] using h))) (low_of _)
  | .tuple xs, h => by
    simp only [PyData.shown]
    exact low_app (low_app (low_of _) (low_join (low_of _) _ (low_shownAll xs (by simpa [lowD] using h)))) (low_of _)
  | .dict kvs, h => by
    have e : kvs = [] := by simpa [lowD] using h
    subst e
    simp only [PyData.shown, PyData.shownKv]
    exact low_app (low_app (low_of _) (low_join (low_of _) _ (by simp))) (low_of _)
theorem low_shownAll : ∀ xs : List PyData, lowAll xs = true → ∀ t ∈ PyData.shownAll xs, low t
  | [], _ => by simp [PyData.shownAll]
  | x :: xs, h => by
    have h' : lowD x = true ∧ lowAll xs = true := by simpa [lowAll] using h
    intro t ht
    simp only [PyData.shownAll] at ht
    rcases List.mem_cons.mp ht with e | e
    · rw [e]
      exact low_shown x h'.1
    · exact low_shownAll xs h'.2 t e
end
end BV

namespace BV
open PySem L2
/-! ### data: with lists (b true) or with empty dicts (b false), none of whose lists and dicts lies at N -/
mutual
inductive Dm (K : PySem.W.Frag) (H : Hp) (N : Addr → Prop) (b : Bool) : V → PyData → Prop
  | non : Dm K H N b .non .none
  | bl (z : Bool) : Dm K H N b (.bl z) (.bool z)
  | int (i : Int) : Dm K H N b (.int i) (.int i)
  | str (x : Str) : Dm K H N b (.str x) (.str x)
  | lst {a : Addr} {xs : List V} {ds : List PyData} : b = true → ¬ N a → SqL K H a xs → DmAll K H N b xs ds → Dm K H N b (.ref a) (.list ds)
  | tup {a : Addr} {xs : List V} {ds : List PyData} : SqT K H a xs → DmAll K H N b xs ds → Dm K H N b (.ref a) (.tuple ds)
  | dic {a : Addr} : b = false → ¬ N a → H a = some (.dK []) → Dm K H N b (.ref a) (.dict [])
inductive DmAll (K : PySem.W.Frag) (H : Hp) (N : Addr → Prop) (b : Bool) : List V → List PyData → Prop
  | nil : DmAll K H N b [] []
  | cons {v : V} {vs : List V} {d : PyData} {ds : List PyData} : Dm K H N b v d → DmAll K H N b vs ds → DmAll K H N b (v :: vs) (d :: ds)
end
section
variable {K : PySem.W.Frag} {H H' : Hp} {N : Addr → Prop} {b : Bool}
mutual
theorem dm_keep (s : ∀ a o, H a = some o → ¬ N a → H' a = some o) (f : KF H H') : ∀ (d : PyData) {v : V}, Dm K H N b v d → Dm K H' N b v d
  | .none, _, h => by cases h; exact .non
  | .bool z, _, h => by cases h; exact .bl z
  | .int i, _, h => by cases h; exact .int i
  | .str x, _, h => by cases h; exact .str x
  | .list ds, _, h => by
    cases h with
    | lst e n h1 h2 =>
      refine .lst e n ?_ (dmAll_keep s f ds h2)
      rcases h1 with (h1 | ⟨o, h1⟩) | h1
      · exact .inl (.inl (s _ _ h1 n))
      · exact .inl (.inr ⟨o, s _ _ h1 n⟩)
      · exact .inr h1
  | .tuple ds, _, h => by
    cases h with
    | tup h1 h2 => exact .tup (sqT_kf f h1) (dmAll_keep s f ds h2)
  | .dict _, _, h => by
    cases h with
    | dic e n h1 => exact .dic e n (s _ _ h1 n)
theorem dmAll_keep (s : ∀ a o, H a = some o → ¬ N a → H' a = some o) (f : KF H H') : ∀ (ds : List PyData) {vs : List V}, DmAll K H N b vs ds → DmAll K H' N b vs ds
  | [], _, h => by cases h; exact .nil
  | d :: ds, _, h => by
    cases h with
    | cons h1 h2 => exact .cons (dm_keep s f d h1) (dmAll_keep s f ds h2)
end
theorem dm_same (s : Same H H') {d : PyData} {v : V} (h : Dm K H N b v d) : Dm K H' N b v d := dm_keep (fun a o e _ => s a o e) (KF.of_same s) d h
theorem dmAll_same (s : Same H H') {ds : List PyData} {vs : List V} (h : DmAll K H N b vs ds) : DmAll K H' N b vs ds := dmAll_keep (fun a o e _ => s a o e) (KF.of_same s) ds h
abbrev NB (x g : Addr) : Addr → Prop := fun a => a = x ∨ a = g
theorem dm_kp {x g : Addr} (k : Kp x g H H') (B : Box H x g) {d : PyData} {v : V} (h : Dm K H (NB x g) b v d) : Dm K H' (NB x g) b v d :=
  dm_keep (fun a o e n => k a o e (fun z => n (.inl z)) (fun z => n (.inr z))) (KF.of_kp k B) d h
mutual
theorem dp_dm : ∀ (d : PyData) {v : V}, still d = true → Dp K H v d → Dm K H N b v d
  | .none, _, _, h => by cases h; exact .non
  | .bool z, _, _, h => by cases h; exact .bl z
  | .int i, _, _, h => by cases h; exact .int i
  | .str x, _, _, h => by cases h; exact .str x
  | .list ds, _, q, h => by simp [still] at q
  | .tuple ds, _, q, h => by
    cases h with
    | tup h1 h2 => exact .tup h1 (dpAll_dm ds (by simpa [still] using q) h2)
  | .dict _, _, _, h => by cases h
theorem dpAll_dm : ∀ (ds : List PyData) {vs : List V}, stillAll ds = true → DpAll K H vs ds → DmAll K H N b vs ds
  | [], _, _, h => by cases h; exact .nil
  | d :: ds, _, q, h => by
    have q' : still d = true ∧ stillAll ds = true := by simpa [stillAll] using q
    cases h with
    | cons h1 h2 => exact .cons (dp_dm d q'.1 h1) (dpAll_dm ds q'.2 h2)
end
mutual
theorem dm_dp : ∀ (d : PyData) {v : V}, d.hasDict = false → Dm K H N b v d → Dp K H v d
  | .none, _, _, h => by cases h; exact .non
  | .bool z, _, _, h => by cases h; exact .bl z
  | .int i, _, _, h => by cases h; exact .int i
  | .str x, _, _, h => by cases h; exact .str x
  | .list ds, _, q, h => by
    cases h with
    | lst e n h1 h2 => exact .lst h1 (dmAll_dp ds (by simpa [PyData.hasDict] using q) h2)
  | .tuple ds, _, q, h => by
    cases h with
    | tup h1 h2 => exact .tup h1 (dmAll_dp ds (by simpa [PyData.hasDict] using q) h2)
  | .dict _, _, q, h => by simp [PyData.hasDict] at q
theorem dmAll_dp : ∀ (ds : List PyData) {vs : List V}, PyData.hasDictAll ds = false → DmAll K H N b vs ds → DpAll K H vs ds
  | [], _, _, h => by cases h; exact .nil
  | d :: ds, _, q, h => by
    have q' : d.hasDict = false ∧ PyData.hasDictAll ds = false := by simpa [PyData.hasDictAll] using q
    cases h with
    | cons h1 h2 => exact .cons (dm_dp d q'.1 h1) (dmAll_dp ds q'.2 h2)
end
mutual
theorem dm_nodict : ∀ (d : PyData) {v : V}, Dm K H N true v d → d.hasDict = false
  | .none, _, h => by simp [PyData.hasDict]
  | .bool z, _, h => by simp [PyData.hasDict]
  | .int i, _, h => by simp [PyData.hasDict]
  | .str x, _, h => by simp [PyData.hasDict]
  | .list ds, _, h => by
    cases h with
    | lst e n h1 h2 => simpa [PyData.hasDict] using dmAll_nodict ds h2
  | .tuple ds, _, h => by
    cases h with
    | tup h1 h2 => simpa [PyData.hasDict] using dmAll_nodict ds h2
  | .dict _, _, h => by
    cases h with
    | dic e _ _ => cases e
theorem dmAll_nodict : ∀ (ds : List PyData) {vs : List V}, DmAll K H N true vs ds → PyData.hasDictAll ds = false
  | [], _, h => by simp [PyData.hasDictAll]
  | d :: ds, _, h => by
    cases h with
    | cons h1 h2 => simp [PyData.hasDictAll, dm_nodict d h1, dmAll_nodict ds h2]
end
theorem dmAll_len : ∀ {ds : List PyData} {vs : List V}, DmAll K H N b vs ds → vs.length = ds.length
  | [], _, h => by cases h; rfl
  | d :: ds, _, h => by
    cases h with
    | cons h1 h2 => exact congrArg Nat.succ (dmAll_len h2)
theorem dmAll_get : ∀ {ds : List PyData} {vs : List V} {i : Nat} {v : V}, DmAll K H N b vs ds → vs[i]? = some v → ∃ d, ds[i]? = some d ∧ Dm K H N b v d
  | [], _, _, _, h, e => by cases h; simp at e
  | d :: ds, _, 0, _, h, e => by
    cases h with
    | cons h1 h2 =>
      simp at e
      subst e
      exact ⟨d, rfl, h1⟩
  | d :: ds, _, i + 1, v, h, e => by
    cases h with
    | cons h1 h2 =>
      obtain ⟨d', a, b⟩ := dmAll_get (i := i) (v := v) h2 (by simpa using e)
      exact ⟨d', by simpa using a, b⟩
theorem dmAll_at : ∀ {ds : List PyData} {vs : List V} {i : Nat} {d : PyData}, DmAll K H N b vs ds → ds[i]? = some d → ∃ v, vs[i]? = some v ∧ Dm K H N b v d
  | [], _, _, _, h, e => by simp at e
  | d :: ds, _, 0, _, h, e => by
    cases h with
    | cons h1 h2 =>
      simp at e
      subst e
      exact ⟨_, rfl, h1⟩
  | d :: ds, _, i + 1, v, h, e => by
    cases h with
    | cons h1 h2 =>
      obtain ⟨d', a, b⟩ := dmAll_at (i := i) (d := v) h2 (by simpa using e)
      exact ⟨d', by simpa using a, b⟩
theorem dmAll_app : ∀ {ds es : List PyData} {vs us : List V}, DmAll K H N b vs ds → DmAll K H N b us es → DmAll K H N b (vs ++ us) (ds ++ es)
  | [], _, _, _, h, g => by cases h; exact g
  | d :: ds, _, _, _, h, g => by
    cases h with
    | cons h1 h2 => exact .cons h1 (dmAll_app h2 g)
theorem dmAll_take : ∀ {ds : List PyData} {vs : List V} (j : Nat), DmAll K H N b vs ds → DmAll K H N b (vs.take j) (ds.take j)
  | [], _, j, h => by cases h; simpa using DmAll.nil
  | d :: ds, _, 0, h => .nil
  | d :: ds, _, j + 1, h => by
    cases h with
    | cons h1 h2 => exact .cons h1 (dmAll_take j h2)
theorem dmAll_drop : ∀ {ds : List PyData} {vs : List V} (j : Nat), DmAll K H N b vs ds → DmAll K H N b (vs.drop j) (ds.drop j)
  | [], _, j, h => by cases h; simpa using DmAll.nil
  | d :: ds, _, 0, h => h
  | d :: ds, _, j + 1, h => by
    cases h with
    | cons h1 h2 => exact dmAll_drop j h2
theorem dm_tup {v : V} {ds : List PyData} (h : Dm K H N b v (.tuple ds)) : ∃ a xs, v = .ref a ∧ SqT K H a xs ∧ DmAll K H N b xs ds := by
  cases h with
  | tup h1 h2 => exact ⟨_, _, rfl, h1, h2⟩
theorem tyM {v : V} {d : PyData} (h : Dm K H N b v d) : TyX K H v (.type (tyN d)) := by
  cases h with
  | non => exact .base .non
  | bl b => exact .base (.bl b)
  | int i => exact .base (.int i)
  | str s => exact .base (.str s)
  | lst _ _ h1 _ => exact sq_list_ty h1
  | tup h1 _ => exact sq_tup_ty h1
  | dic _ _ h => exact .base (.dK h)
end
def rIsiM (K : PySem.W.Frag) (N : Addr → Prop) (b : Bool) : List V → Hp → VK → Prop := fun xs H Q => ∃ (x : V) (d : PyData) (T : String) (z : Bool), xs = [x, .ty T] ∧ Dm K H N b x d ∧ kitB (tyN d) T = some z ∧ Q (.bl z) H
theorem isiM {X : Cx} (K : PySem.W.Frag) (N : Addr → Prop) (b : Bool) (h : X.K = K := by rfl) : CallR X (.builtin "isinstance") (rIsiM K N b) := by
  subst h
  intro pins s σ H vs us Q I r h
  obtain ⟨x, d, T, b, rfl, hd, hk, q⟩ := h
  exact call_isi pins s σ H _ us Q I r ⟨x, _, _, _, b, rfl, .ty T, tyM hd, kit_ty hk, q⟩
section
variable {X : Cx} {pins : List (Addr × Obj)} {σ : St} {H : Hp} {s : Shared} {N : Addr → Prop} {b : Bool}
mutual
theorem dm_reads (I : Inv X pins σ H s) : ∀ (d : PyData) (v : V) (u : Value), Dm X.K H N b v d → RelV v u → ∃ as, Reads s.heap u d as ∧ (b = false → sysModules ∉ as)
  | .none, _, _, h, r => by
    cases h
    cases r
    exact ⟨_, Reads.none, fun _ => by simp⟩
  | .bool z, _, _, h, r => by
    cases h
    cases r
    exact ⟨_, Reads.bool z, fun _ => by simp⟩
  | .int i, _, _, h, r => by
    cases h
    obtain ⟨t, rfl⟩ := r
    exact ⟨_, Reads.int i t, fun _ => by simp⟩
  | .str x, _, _, h, r => by
    cases h
    obtain ⟨t, rfl⟩ := r
    exact ⟨_, Reads.str x t, fun _ => by simp⟩
  | .list ds, _, _, h, r => by
    cases h with
    | lst e n hs ha =>
      cases r
      obtain ⟨its, rv, ⟨o, n, ho, hc, _, hd⟩, _⟩ := I.list hs
      obtain ⟨as, hr, _⟩ := dm_readsAll I ds _ its ha rv
      exact ⟨_, Reads.list ho hc hd hr, fun z => by rw [e] at z; cases z⟩
  | .tuple ds, _, _, h, r => by
    cases h with
    | tup hs ha =>
      cases r
      obtain ⟨its, rv, ⟨o, ho, hc, n, hd⟩, _⟩ := I.tuple hs
      obtain ⟨as, hr, hn⟩ := dm_readsAll I ds _ its ha rv
      exact ⟨_, Reads.tuple ho hc hd hr, hn⟩
  | .dict kvs, _, _, h, r => by
    cases h with
    | dic e n hh =>
      cases r
      have hk := I.hok _ _ hh
      unfold ObjOk at hk
      obtain ⟨_, hsys, vs, kv, o, es, ep, h1, h2, h3, h4, h5, h6⟩ := hk
      cases kv
      have he : es.toList = [] := by
        generalize es.toList = l at h5
        cases h5
        rfl
      refine ⟨_, Reads.dict h1 h2.1 h3 (by rw [he]; exact .nil) (by rw [he]; exact .nil), fun _ hm => ?_⟩
      have := List.mem_singleton.mp (by simpa using hm)
      rw [← this] at hsys
      simp at hsys
theorem dm_readsAll (I : Inv X pins σ H s) : ∀ (ds : List PyData) (vs : List V) (us : List Value), DmAll X.K H N b vs ds → Vals vs us → ∃ as, ReadsAll s.heap us ds as ∧ (b = false → sysModules ∉ as)
  | [], _, _, h, r => by
    cases h
    cases r
    exact ⟨_, ReadsAll.nil, fun _ => by simp⟩
  | d :: ds, _, _, h, r => by
    cases h with
    | cons h1 h2 =>
      cases r with
      | cons r1 r2 =>
        obtain ⟨as, q1, n1⟩ := dm_reads I d _ _ h1 r1
        obtain ⟨bs, q2, n2⟩ := dm_readsAll I ds _ _ h2 r2
        exact ⟨_, ReadsAll.cons q1 q2, fun z m => (List.mem_append.mp m).elim (n1 z) (n2 z)⟩
end
end
/-- what may be written as a text -/
def ShowM (d : PyData) : Prop := d.showable = true ∧ d.depth ≤ 40 ∧ d.shown.length ≤ sizeLine
def rReprM (K : PySem.W.Frag) (N : Addr → Prop) (b : Bool) : List V → Hp → VK → Prop := fun xs H Q => ∃ (x : V) (d : PyData), xs = [x] ∧ Dm K H N b x d ∧ ShowM d ∧ Q (.str d.shown) H
theorem reprM {X : Cx} (K : PySem.W.Frag) (N : Addr → Prop) (b : Bool) (hgd : X.A.guards = some []) (hu : X.A.units + 64 < cLine) (h : X.K = K := by rfl) : CallR X (.builtin "repr") (rReprM K N b) := by
  subst h
  intro pins s σ H xs us Q I r h
  obtain ⟨x, d, rfl, hd, ⟨h1, h3, h4⟩, q⟩ := h
  cases r with
  | cons r0 rr =>
    cases rr
    rename_i v
    obtain ⟨as, rd, hn⟩ := dm_reads I d x v hd r0
    have hsm : d.hasDict = true → sysModules ∉ as := by
      cases b with
      | false => exact fun _ => hn rfl
      | true => exact PyData.noDict_hsm (dm_nodict d hd)
    cases rd with
    | list a b c dd =>
      refine repr_of_reads' (.list a b c dd) h1 hsm hgd (by omega) (fun _ _ e => e) (fun h' u tk hk => ?_) h4
      exact ⟨.str _, H, I.kept (t' := tk) hk, ⟨u, rfl⟩, q⟩
    | tuple a b c dd =>
      refine repr_of_reads' (.tuple a b c dd) h1 hsm hgd (by omega) (fun _ _ e => e) (fun h' u tk hk => ?_) h4
      exact ⟨.str _, H, I.kept (t' := tk) hk, ⟨u, rfl⟩, q⟩
    | int i t =>
      refine PySem.P.repr_of_int (by simpa [PyData.showable] using h1) ⟨.str _, H, I.tok _, ⟨_, rfl⟩, ?_⟩
      simpa only [PyData.shown] using q
    | none =>
      refine PySem.P.repr_of_none ⟨.str _, H, I.tok _, ⟨_, rfl⟩, ?_⟩
      simpa only [PyData.shown] using q
    | bool b =>
      refine PySem.P.repr_of_bool ⟨.str _, H, I.tok _, ⟨_, rfl⟩, ?_⟩
      simpa only [PyData.shown] using q
    | str z t =>
      refine PySem.P.repr_of_str ⟨.str _, H, I.tok _, ⟨_, rfl⟩, ?_⟩ (by simpa only [PyData.shown] using h4)
      simpa only [PyData.shown] using q
    | dict a b c dd ee =>
      refine repr_of_reads' (.dict a b c dd ee) h1 hsm hgd (by omega) (fun _ _ e => e) (fun h' u tk hk => ?_) h4
      exact ⟨.str _, H, I.kept (t' := tk) hk, ⟨u, rfl⟩, q⟩
end BV

namespace BV
open PySem L2
/-! ### small data with empty dicts -/
mutual
def tinyM : PyData → Bool
  | .none | .bool _ => true
  | .int i => decide (i.natAbs.log2 < 300)
  | .str x => decide (x.length ≤ 100) && x.cps.toList.all fun c => decide (c < 16 ^ 8)
  | .list xs | .tuple xs => tinyAllM xs
  | .dict kvs => kvs.isEmpty
def tinyAllM : List PyData → Bool
  | [] => true
  | x :: xs => tinyM x && tinyAllM xs
end
mutual
theorem tinyM_facts : ∀ d : PyData, tinyM d = true → d.showable = true ∧ lowD d = true ∧ d.shown.length + 2 ≤ 1100 * nodes d
  | .none, _ => ⟨by simp [PyData.showable], by simp [lowD], by
      have e : (PyData.shown .none).length = 4 := rfl
      simp only [nodes]
      omega⟩
  | .bool b, _ => ⟨by simp [PyData.showable], by simp [lowD], by
      have e : (PyData.shown (.bool b)).length ≤ 5 := by cases b <;> decide
      simp only [nodes]
      omega⟩
  | .int i, h => by
    have h' : i.natAbs.log2 < 300 := by simpa [tinyM] using h
    refine ⟨?_, by simp [lowD], ?_⟩
    · simp only [PyData.showable, decide_eq_true_eq]
      omega
    · have := int_shown h'
      simp only [nodes]
      omega
  | .str x, h => by
    have h' : x.length ≤ 100 ∧ ∀ c ∈ x.cps.toList, c < 16 ^ 8 := by
      simp only [tinyM, Bool.and_eq_true, decide_eq_true_eq, List.all_eq_true] at h
      exact h
    refine ⟨by simp [PyData.showable], ?_, ?_⟩
    · simp only [lowD, List.all_eq_true, decide_eq_true_eq]
      exact h'.2
    · have e := StrLaws.reprText_len x h'.2
      simp only [PyData.shown, nodes]
      omega
  | .list xs, h => by
    have h1 := tinyM_all xs (by simpa [tinyM] using h)
    refine ⟨by simpa [PyData.showable] using h1.1, by simpa [lowD] using h1.2.1, ?_⟩
    have h2 := listText_len_le (PyData.shownAll xs)
    simp only [PyData.shown, nodes]
    omega
  | .tuple xs, h => by
    have h1 := tinyM_all xs (by simpa [tinyM] using h)
    refine ⟨by simpa [PyData.showable] using h1.1, by simpa [lowD] using h1.2.1, ?_⟩
    have h2 := tupleText_len_le (PyData.shownAll xs)
    simp only [PyData.shown, nodes]
    omega
  | .dict kvs, h => by
    have e : kvs = [] := by simpa [tinyM] using h
    subst e
    refine ⟨by simp [PyData.showable, PyData.showableKv], by simp [lowD], ?_⟩
    have e : (PyData.shown (.dict [])).length = 2 := rfl
    simp only [nodes]
    omega
theorem tinyM_all : ∀ xs : List PyData, tinyAllM xs = true → PyData.showableAll xs = true ∧ lowAll xs = true ∧
    ((PyData.shownAll xs).map (·.length)).sum + 2 * (PyData.shownAll xs).length ≤ 1100 * nodesAll xs
  | [], _ => ⟨by simp [PyData.showableAll], by simp [lowAll], by simp [PyData.shownAll]⟩
  | x :: xs, h => by
    have h' : tinyM x = true ∧ tinyAllM xs = true := by simpa [tinyAllM] using h
    obtain ⟨a1, a2, a3⟩ := tinyM_facts x h'.1
    obtain ⟨b1, b2, b3⟩ := tinyM_all xs h'.2
    refine ⟨by simp [PyData.showableAll, a1, b1], by simp [lowAll, a2, b2], ?_⟩
    simp only [PyData.shownAll, nodesAll, List.map_cons, List.sum_cons, List.length_cons]
    omega
end
structure Sw (d : PyData) (c k : Nat) : Prop where
  t : tinyM d = true
  n : nodes d ≤ c
  p : d.depth ≤ k
theorem Sw.mono {d : PyData} {c k c' k' : Nat} (h : Sw d c k) (h1 : c ≤ c') (h2 : k ≤ k') : Sw d c' k' := ⟨h.t, Nat.le_trans h.n h1, Nat.le_trans h.p h2⟩
theorem Sw.show {d : PyData} {c k : Nat} (h : Sw d c k) (hc : c ≤ 15000) (hk : k ≤ 40) : ShowM d := by
  obtain ⟨a, b, e⟩ := tinyM_facts d h.t
  refine ⟨a, Nat.le_trans h.p hk, ?_⟩
  have h1 := h.n
  have h2 : sizeLine = 16777216 := by decide
  rw [h2]
  omega
theorem Sw.low {d : PyData} {c k : Nat} (h : Sw d c k) : low d.shown := low_shown d (tinyM_facts d h.t).2.1
theorem Sw.len {d : PyData} {c k : Nat} (h : Sw d c k) : d.shown.length ≤ 1100 * c := by
  have h1 := (tinyM_facts d h.t).2.2
  have h2 := Nat.mul_le_mul_left 1100 h.n
  omega
/-- all of a list, c nodes together -/
structure SwA (ds : List PyData) (c k : Nat) : Prop where
  t : tinyAllM ds = true
  n : nodesAll ds ≤ c
  p : PyData.depthAll ds ≤ k
theorem swa_nil {c k : Nat} : SwA [] c k := ⟨by simp [tinyAllM], by simp [nodesAll], by simp [PyData.depthAll]⟩
theorem swa_cons {d : PyData} {ds : List PyData} {c1 c2 k : Nat} (h : Sw d c1 k) (g : SwA ds c2 k) : SwA (d :: ds) (c1 + c2) k :=
  ⟨by simp [tinyAllM, h.t, g.t], by have := h.n; have := g.n; simp only [nodesAll]; omega, by have := h.p; have := g.p; simp only [PyData.depthAll]; omega⟩
theorem swa_app {ds es : List PyData} {c1 c2 k : Nat} (h : SwA ds c1 k) (g : SwA es c2 k) : SwA (ds ++ es) (c1 + c2) k := by
  induction ds generalizing c1 with
  | nil => exact ⟨g.t, Nat.le_trans g.n (by omega), g.p⟩
  | cons d ds ih =>
    have h1 := h.t; have h2 := h.n; have h3 := h.p
    simp only [tinyAllM, Bool.and_eq_true] at h1
    simp only [nodesAll] at h2
    simp only [PyData.depthAll] at h3
    have ih' := ih (c1 := c1 - nodes d) ⟨h1.2, by omega, by omega⟩
    refine ⟨by simp [tinyAllM, h1.1, ih'.t], ?_, ?_⟩
    · have := ih'.n
      simp only [List.cons_append, nodesAll]
      omega
    · have := ih'.p
      simp only [List.cons_append, PyData.depthAll]
      omega
theorem swa_mono {ds : List PyData} {c k c' k' : Nat} (h : SwA ds c k) (h1 : c ≤ c') (h2 : k ≤ k') : SwA ds c' k' := ⟨h.t, Nat.le_trans h.n h1, Nat.le_trans h.p h2⟩
theorem sw_tup {ds : List PyData} {c k : Nat} (h : SwA ds c k) : Sw (.tuple ds) (c + 1) (k + 1) :=
  ⟨by simpa only [tinyM] using h.t, by have := h.n; simp only [nodes]; omega, by have := h.p; simp only [PyData.depth]; omega⟩
theorem sw_lst {ds : List PyData} {c k : Nat} (h : SwA ds c k) : Sw (.list ds) (c + 1) (k + 1) :=
  ⟨by simpa only [tinyM] using h.t, by have := h.n; simp only [nodes]; omega, by have := h.p; simp only [PyData.depth]; omega⟩
theorem sw_int {z : Int} {k : Nat} (h : z.natAbs < 2 ^ 200) : Sw (.int z) 1 k := by
  have hl : z.natAbs.log2 < 300 := Nat.lt_of_lt_of_le (PySem.Flt.log2_lt_of (by decide) h) (by decide)
  exact ⟨by simp only [tinyM, hl, decide_true], by simp only [nodes]; exact Nat.le_refl _, by simp only [PyData.depth]; omega⟩
theorem sw_nat {j k : Nat} (h : j < 100000) : Sw (.int (j : Int)) 1 k := sw_int (Nat.lt_of_lt_of_le (show ((j : Int)).natAbs < 100000 by omega) (by decide))
theorem sw_dic {k : Nat} : Sw (.dict []) 1 (k + 1) := ⟨by simp [tinyM], by simp [nodes], Nat.le_trans (show (PyData.dict []).depth ≤ 1 by decide) (by omega)⟩
theorem sw_tie {t : Tie} {k : Nat} (h : t.1 < 100000 ∧ t.2 < 100000) : Sw (tieD t) 3 (k + 1) :=
  sw_tup (c := 2) (swa_cons (c1 := 1) (c2 := 1) (sw_nat h.1) (swa_cons (c1 := 1) (c2 := 0) (sw_nat h.2) swa_nil))
theorem swa_ties {k : Nat} : ∀ ts : List Tie, (∀ t ∈ ts, t.1 < 100000 ∧ t.2 < 100000) → SwA (ts.map tieD) (3 * ts.length) (k + 1)
  | [], _ => swa_nil
  | t :: ts, h => by
    refine swa_mono (swa_cons (sw_tie (h t (List.mem_cons_self ..))) (swa_ties ts fun u hu => h u (List.mem_cons_of_mem _ hu))) ?_ (Nat.le_refl _)
    rw [List.length_cons]
    omega
/-- the answer and a text, in a list -/
theorem show_pair {e : PyData} {s : Str} (he : Sw e 10 3) (hd : e.hasDict = false) (hs : low s) (hl : s.length ≤ 600000) : Show (.list [e, .str s]) := by
  obtain ⟨a1, a2, a3⟩ := tinyM_facts e he.t
  have h1 := he.p
  have h0 := he.n
  refine ⟨by simp [PyData.showable, PyData.showableAll, a1], by simp [PyData.hasDict, PyData.hasDictAll, hd], ?_, ?_⟩
  · simp only [PyData.depth, PyData.depthAll]
    omega
  · have h2 := listText_len_le (PyData.shownAll [e, .str s])
    have h3 := StrLaws.reprText_len s hs
    have h4 : sizeLine = 16777216 := by decide
    rw [h4]
    simp only [PyData.shownAll, List.map_cons, List.map_nil, List.sum_cons, List.sum_nil, List.length_cons, List.length_nil, PyData.shown] at h2 ⊢
    omega

/-! ### what a web is -/
def isTieD (n : Int) : PyData → Bool
  | .tuple [.int a, .int b] => decide (0 ≤ a ∧ a ≤ n - 1) && (decide (0 ≤ b ∧ b ≤ n - 1) && decide (a < b))
  | _ => false
def badAt (n : Int) : List PyData → Nat → Option Nat
  | [], _ => none
  | d :: ds, k => if isTieD n d = true then badAt n ds (k + 1) else some k
def tieOf : PyData → Tie
  | .tuple [.int a, .int b] => (a.toNat, b.toNat)
  | _ => (0, 0)
theorem tieD_of {n : Int} : ∀ {d : PyData}, isTieD n d = true → tieD (tieOf d) = d ∧ (tieOf d).1 < (tieOf d).2 ∧ ((tieOf d).2 : Int) < n := by
  intro d h
  unfold isTieD at h
  split at h
  · rename_i a b
    simp only [Bool.and_eq_true, decide_eq_true_eq] at h
    refine ⟨?_, ?_, ?_⟩
    · show PyData.tuple [.int ((a.toNat : Nat) : Int), .int ((b.toNat : Nat) : Int)] = _
      rw [Int.toNat_of_nonneg h.1.1, Int.toNat_of_nonneg h.2.1.1]
    · show a.toNat < b.toNat
      omega
    · show ((b.toNat : Nat) : Int) < n
      omega
  · cases h
theorem isTie_tieD {n : Int} {t : Tie} (h1 : t.1 < t.2) (h2 : (t.2 : Int) < n) : isTieD n (tieD t) = true := by
  show (decide (0 ≤ (t.1 : Int) ∧ (t.1 : Int) ≤ n - 1) && (decide (0 ≤ (t.2 : Int) ∧ (t.2 : Int) ≤ n - 1) && decide ((t.1 : Int) < t.2))) = true
  simp only [Bool.and_eq_true, decide_eq_true_eq]
  omega
theorem badAt_none {n : Int} : ∀ {ds : List PyData} {k : Nat}, badAt n ds k = none ↔ ∀ d ∈ ds, isTieD n d = true
  | [], k => by simp [badAt]
  | d :: ds, k => by
    unfold badAt
    by_cases h : isTieD n d = true
    · rw [if_pos h, badAt_none]
      simp [h]
    · rw [if_neg h]
      simp [h]
theorem badAt_ge {n : Int} : ∀ {ds : List PyData} {k j : Nat}, badAt n ds k = some j → k ≤ j ∧ j < k + ds.length
  | [], k, j, h => by simp [badAt] at h
  | d :: ds, k, j, h => by
    unfold badAt at h
    rw [List.length_cons]
    split at h
    · have := badAt_ge h
      omega
    · cases h
      omega
theorem badAt_app {n : Int} : ∀ (ds es : List PyData) (k : Nat), (∀ d ∈ ds, isTieD n d = true) → badAt n (ds ++ es) k = badAt n es (k + ds.length)
  | [], es, k, _ => rfl
  | d :: ds, es, k, h => by
    show (if isTieD n d = true then badAt n (ds ++ es) (k + 1) else some k) = _
    rw [if_pos (h d (List.mem_cons_self ..)), badAt_app ds es (k + 1) fun e he => h e (List.mem_cons_of_mem _ he), List.length_cons]
    congr 1
    omega
/-- the first that is none, found from the left -/
theorem badAt_first {n : Int} {ds : List PyData} {i : Nat} {d : PyData} (h : ∀ j e, j < i → ds[j]? = some e → isTieD n e = true) (hd : ds[i]? = some d) (hb : isTieD n d ≠ true) : badAt n ds 0 = some i := by
  have hi : i < ds.length := (List.getElem?_eq_some_iff.mp hd).1
  have e : ds = ds.take i ++ d :: ds.drop (i + 1) := by
    have h1 : ds[i] = d := Option.some.inj ((List.getElem?_eq_getElem hi).symm.trans hd)
    rw [← h1, List.getElem_cons_drop, List.take_append_drop]
  rw [e, badAt_app _ _ _ fun x hx => ?_]
  · unfold badAt
    rw [if_neg hb, List.length_take]
    congr 1
    omega
  · obtain ⟨j, hj⟩ := List.getElem?_of_mem hx
    have hjl := (List.getElem?_eq_some_iff.mp hj).1
    rw [List.length_take] at hjl
    rw [List.getElem?_take_of_lt (by omega)] at hj
    exact h j x (by omega) hj
def Joined (n : Nat) (ts : List Tie) : Prop := ∀ p, p < n → ∃ w, Way ts 0 w p
open Classical in
noncomputable def webE : PyData → PyData
  | .tuple [.int n, .tuple ds] => if 1 ≤ n ∧ n ≤ 12 ∧ ds.length ≤ 40 then
      (match badAt n ds 0 with
        | some k => .tuple [.str "tie", .int (k : Nat)]
        | none => if Joined n.toNat (ds.map tieOf) then .none else .str "apart")
    else .str "form"
  | _ => .str "form"
theorem tie_maps {n : Int} : ∀ {ds : List PyData}, (∀ d ∈ ds, isTieD n d = true) → (ds.map tieOf).map tieD = ds
  | [], _ => rfl
  | d :: ds, h => by
    rw [List.map_cons, List.map_cons, (tieD_of (h d (List.mem_cons_self ..))).1, tie_maps fun e he => h e (List.mem_cons_of_mem _ he)]
theorem tie_of_tieD (t : Tie) : tieOf (tieD t) = t := by
  show (((t.1 : Int)).toNat, ((t.2 : Int)).toNat) = t
  simp
/-- all that passes the look at the ties -/
theorem webE_web {d : PyData} (h : webE d = .none ∨ webE d = .str "apart") : ∃ n ts, d = webD n ts ∧ 1 ≤ n ∧ n ≤ 12 ∧ ts.length ≤ 40 ∧ ∀ t ∈ ts, t.1 < t.2 ∧ t.2 < n := by
  unfold webE at h
  split at h
  · rename_i n ds
    split at h
    · rename_i hc
      split at h
      · rcases h with h | h <;> cases h
      · rename_i hb
        have ha := badAt_none.mp hb
        refine ⟨n.toNat, ds.map tieOf, ?_, by omega, by omega, by rw [List.length_map]; exact hc.2.2, fun t ht => ?_⟩
        · show _ = PyData.tuple [.int ((n.toNat : Nat) : Int), .tuple ((ds.map tieOf).map tieD)]
          rw [tie_maps ha, Int.toNat_of_nonneg (by omega)]
        · obtain ⟨d, hd, rfl⟩ := List.mem_map.mp ht
          have := tieD_of (ha d hd)
          omega
    · rcases h with h | h
      · cases h
      · have : Str.ofString "form" = Str.ofString "apart" := PyData.str.inj h
        exact absurd this (by decide)
  · rcases h with h | h
    · cases h
    · have : Str.ofString "form" = Str.ofString "apart" := PyData.str.inj h
      exact absurd this (by decide)
theorem sw_webE (d : PyData) : Sw (webE d) 10 3 ∧ (webE d).hasDict = false := by
  have hf : ∀ s : String, (Str.ofString s).length ≤ 100 → low (Str.ofString s) → Sw (.str s) 10 3 ∧ (PyData.str s).hasDict = false := fun s h1 h2 =>
    ⟨⟨by simp only [tinyM, Bool.and_eq_true, decide_eq_true_eq, List.all_eq_true]; exact ⟨h1, h2⟩, by simp [nodes], by simp [PyData.depth]⟩, by simp [PyData.hasDict]⟩
  unfold webE
  split
  · rename_i n ds
    split
    · rename_i hc
      split
      · rename_i k hk
        have := badAt_ge hk
        have hk2 : k < 100000 := by omega
        have h1 : Sw (.str "tie") 1 2 := ⟨by decide, by simp [nodes], by simp [PyData.depth]⟩
        exact ⟨(sw_tup (c := 2) (k := 2) (swa_cons (c1 := 1) (c2 := 1) h1 (swa_cons (c1 := 1) (c2 := 0) (sw_nat hk2) swa_nil))).mono (by decide) (by decide), by simp [PyData.hasDict, PyData.hasDictAll]⟩
      · split
        · exact ⟨⟨by simp [tinyM], by simp [nodes], by simp [PyData.depth]⟩, by simp [PyData.hasDict]⟩
        · exact hf "apart" (by decide) (low_of _)
    · exact hf "form" (by decide) (low_of _)
  · exact hf "form" (by decide) (low_of _)
end BV

namespace BV
open PySem L2
/-! ### data of any kind: lists and dicts with words for keys within each other, none of which lies at N -/
mutual
inductive Dx (K : PySem.W.Frag) (H : Hp) (N : Addr → Prop) : V → PyData → Prop
  | non : Dx K H N .non .none
  | bl (z : Bool) : Dx K H N (.bl z) (.bool z)
  | int (i : Int) : Dx K H N (.int i) (.int i)
  | str (x : Str) : Dx K H N (.str x) (.str x)
  | lst {a : Addr} {xs : List V} {ds : List PyData} : a ≠ sysModules → ¬ N a → SqL K H a xs → DxAll K H N xs ds → Dx K H N (.ref a) (.list ds)
  | tup {a : Addr} {xs : List V} {ds : List PyData} : SqT K H a xs → DxAll K H N xs ds → Dx K H N (.ref a) (.tuple ds)
  | dic {a : Addr} {kvs : List (Key × V)} {ps : List (PyData × PyData)} : ¬ N a → H a = some (.dK kvs) → DxKv K H N kvs ps → Dx K H N (.ref a) (.dict ps)
inductive DxAll (K : PySem.W.Frag) (H : Hp) (N : Addr → Prop) : List V → List PyData → Prop
  | nil : DxAll K H N [] []
  | cons {v : V} {vs : List V} {d : PyData} {ds : List PyData} : Dx K H N v d → DxAll K H N vs ds → DxAll K H N (v :: vs) (d :: ds)
inductive DxKv (K : PySem.W.Frag) (H : Hp) (N : Addr → Prop) : List (Key × V) → List (PyData × PyData) → Prop
  | nil : DxKv K H N [] []
  | cons {x : Str} {v : V} {d : PyData} {r : List (Key × V)} {s : List (PyData × PyData)} : Dx K H N v d → DxKv K H N r s → DxKv K H N ((.inr x, v) :: r) ((.str x, d) :: s)
end
section
variable {K : PySem.W.Frag} {H H' : Hp} {N : Addr → Prop}
mutual
theorem dx_keep (s : ∀ a o, H a = some o → ¬ N a → H' a = some o) (f : KF H H') : ∀ (d : PyData) {v : V}, Dx K H N v d → Dx K H' N v d
  | .none, _, h => by cases h; exact .non
  | .bool z, _, h => by cases h; exact .bl z
  | .int i, _, h => by cases h; exact .int i
  | .str x, _, h => by cases h; exact .str x
  | .list ds, _, h => by
    cases h with
    | lst e n h1 h2 =>
      refine .lst e n ?_ (dxAll_keep s f ds h2)
      rcases h1 with (h1 | ⟨o, h1⟩) | h1
      · exact .inl (.inl (s _ _ h1 n))
      · exact .inl (.inr ⟨o, s _ _ h1 n⟩)
      · exact .inr h1
  | .tuple ds, _, h => by
    cases h with
    | tup h1 h2 => exact .tup (sqT_kf f h1) (dxAll_keep s f ds h2)
  | .dict ps, _, h => by
    cases h with
    | dic n h1 h2 => exact .dic n (s _ _ h1 n) (dxKv_keep s f ps h2)
theorem dxAll_keep (s : ∀ a o, H a = some o → ¬ N a → H' a = some o) (f : KF H H') : ∀ (ds : List PyData) {vs : List V}, DxAll K H N vs ds → DxAll K H' N vs ds
  | [], _, h => by cases h; exact .nil
  | d :: ds, _, h => by
    cases h with
    | cons h1 h2 => exact .cons (dx_keep s f d h1) (dxAll_keep s f ds h2)
theorem dxKv_keep (s : ∀ a o, H a = some o → ¬ N a → H' a = some o) (f : KF H H') : ∀ (ps : List (PyData × PyData)) {kvs : List (Key × V)}, DxKv K H N kvs ps → DxKv K H' N kvs ps
  | [], _, h => by cases h; exact .nil
  | (k, d) :: ps, _, h => by
    cases h with
    | cons h1 h2 => exact .cons (dx_keep s f d h1) (dxKv_keep s f ps h2)
end
theorem dx_same (s : Same H H') {d : PyData} {v : V} (h : Dx K H N v d) : Dx K H' N v d := dx_keep (fun a o e _ => s a o e) (KF.of_same s) d h
theorem dxAll_same (s : Same H H') {ds : List PyData} {vs : List V} (h : DxAll K H N vs ds) : DxAll K H' N vs ds := dxAll_keep (fun a o e _ => s a o e) (KF.of_same s) ds h
theorem dx_kp {x g : Addr} (k : Kp x g H H') (B : Box H x g) {d : PyData} {v : V} (h : Dx K H (NB x g) v d) : Dx K H' (NB x g) v d :=
  dx_keep (fun a o e n => k a o e (fun z => n (.inl z)) (fun z => n (.inr z))) (KF.of_kp k B) d h
theorem dxAll_kp {x g : Addr} (k : Kp x g H H') (B : Box H x g) {ds : List PyData} {vs : List V} (h : DxAll K H (NB x g) vs ds) : DxAll K H' (NB x g) vs ds :=
  dxAll_keep (fun a o e n => k a o e (fun z => n (.inl z)) (fun z => n (.inr z))) (KF.of_kp k B) ds h
mutual
theorem dp_dx : ∀ (d : PyData) {v : V}, still d = true → Dp K H v d → Dx K H N v d
  | .none, _, _, h => by cases h; exact .non
  | .bool z, _, _, h => by cases h; exact .bl z
  | .int i, _, _, h => by cases h; exact .int i
  | .str x, _, _, h => by cases h; exact .str x
  | .list ds, _, q, h => by simp [still] at q
  | .tuple ds, _, q, h => by
    cases h with
    | tup h1 h2 => exact .tup h1 (dpAll_dx ds (by simpa [still] using q) h2)
  | .dict _, _, _, h => by cases h
theorem dpAll_dx : ∀ (ds : List PyData) {vs : List V}, stillAll ds = true → DpAll K H vs ds → DxAll K H N vs ds
  | [], _, _, h => by cases h; exact .nil
  | d :: ds, _, q, h => by
    have q' : still d = true ∧ stillAll ds = true := by simpa [stillAll] using q
    cases h with
    | cons h1 h2 => exact .cons (dp_dx d q'.1 h1) (dpAll_dx ds q'.2 h2)
end
mutual
theorem dx_dp : ∀ (d : PyData) {v : V}, d.hasDict = false → Dx K H N v d → Dp K H v d
  | .none, _, _, h => by cases h; exact .non
  | .bool z, _, _, h => by cases h; exact .bl z
  | .int i, _, _, h => by cases h; exact .int i
  | .str x, _, _, h => by cases h; exact .str x
  | .list ds, _, q, h => by
    cases h with
    | lst e n h1 h2 => exact .lst h1 (dxAll_dp ds (by simpa [PyData.hasDict] using q) h2)
  | .tuple ds, _, q, h => by
    cases h with
    | tup h1 h2 => exact .tup h1 (dxAll_dp ds (by simpa [PyData.hasDict] using q) h2)
  | .dict _, _, q, h => by simp [PyData.hasDict] at q
theorem dxAll_dp : ∀ (ds : List PyData) {vs : List V}, PyData.hasDictAll ds = false → DxAll K H N vs ds → DpAll K H vs ds
  | [], _, _, h => by cases h; exact .nil
  | d :: ds, _, q, h => by
    have q' : d.hasDict = false ∧ PyData.hasDictAll ds = false := by simpa [PyData.hasDictAll] using q
    cases h with
    | cons h1 h2 => exact .cons (dx_dp d q'.1 h1) (dxAll_dp ds q'.2 h2)
end
theorem dxAll_len : ∀ {ds : List PyData} {vs : List V}, DxAll K H N vs ds → vs.length = ds.length
  | [], _, h => by cases h; rfl
  | d :: ds, _, h => by
    cases h with
    | cons h1 h2 => exact congrArg Nat.succ (dxAll_len h2)
theorem dxAll_get : ∀ {ds : List PyData} {vs : List V} {i : Nat} {v : V}, DxAll K H N vs ds → vs[i]? = some v → ∃ d, ds[i]? = some d ∧ Dx K H N v d
  | [], _, _, _, h, e => by cases h; simp at e
  | d :: ds, _, 0, _, h, e => by
    cases h with
    | cons h1 h2 =>
      simp at e
      subst e
      exact ⟨d, rfl, h1⟩
  | d :: ds, _, i + 1, v, h, e => by
    cases h with
    | cons h1 h2 =>
      obtain ⟨d', a, b⟩ := dxAll_get (i := i) (v := v) h2 (by simpa using e)
      exact ⟨d', by simpa using a, b⟩
theorem dxAll_at : ∀ {ds : List PyData} {vs : List V} {i : Nat} {d : PyData}, DxAll K H N vs ds → ds[i]? = some d → ∃ v, vs[i]? = some v ∧ Dx K H N v d
  | [], _, _, _, h, e => by simp at e
  | d :: ds, _, 0, _, h, e => by
    cases h with
    | cons h1 h2 =>
      simp at e
      subst e
      exact ⟨_, rfl, h1⟩
  | d :: ds, _, i + 1, v, h, e => by
    cases h with
    | cons h1 h2 =>
      obtain ⟨d', a, b⟩ := dxAll_at (i := i) (d := v) h2 (by simpa using e)
      exact ⟨d', by simpa using a, b⟩
theorem dxAll_app : ∀ {ds es : List PyData} {vs us : List V}, DxAll K H N vs ds → DxAll K H N us es → DxAll K H N (vs ++ us) (ds ++ es)
  | [], _, _, _, h, g => by cases h; exact g
  | d :: ds, _, _, _, h, g => by
    cases h with
    | cons h1 h2 => exact .cons h1 (dxAll_app h2 g)
theorem dxAll_take : ∀ {ds : List PyData} {vs : List V} (j : Nat), DxAll K H N vs ds → DxAll K H N (vs.take j) (ds.take j)
  | [], _, j, h => by cases h; simpa using DxAll.nil
  | d :: ds, _, 0, h => .nil
  | d :: ds, _, j + 1, h => by
    cases h with
    | cons h1 h2 => exact .cons h1 (dxAll_take j h2)
theorem dxAll_drop : ∀ {ds : List PyData} {vs : List V} (j : Nat), DxAll K H N vs ds → DxAll K H N (vs.drop j) (ds.drop j)
  | [], _, j, h => by cases h; simpa using DxAll.nil
  | d :: ds, _, 0, h => h
  | d :: ds, _, j + 1, h => by
    cases h with
    | cons h1 h2 => exact dxAll_drop j h2
theorem dxAll_set : ∀ {ds : List PyData} {vs : List V} {v : V} {d : PyData} (j : Nat), DxAll K H N vs ds → Dx K H N v d → DxAll K H N (vs.set j v) (ds.set j d)
  | [], _, _, _, j, h, _ => by cases h; simpa using DxAll.nil
  | e :: ds, _, _, _, 0, h, g => by
    cases h with
    | cons h1 h2 => exact .cons g h2
  | e :: ds, _, _, _, j + 1, h, g => by
    cases h with
    | cons h1 h2 => exact .cons h1 (dxAll_set j h2 g)
theorem dxAll_rev : ∀ {ds : List PyData} {vs : List V}, DxAll K H N vs ds → DxAll K H N vs.reverse ds.reverse
  | [], _, h => by cases h; simpa using DxAll.nil
  | d :: ds, _, h => by
    cases h with
    | cons h1 h2 =>
      rw [List.reverse_cons, List.reverse_cons]
      exact dxAll_app (dxAll_rev h2) (.cons h1 .nil)
theorem dx_tup {v : V} {ds : List PyData} (h : Dx K H N v (.tuple ds)) : ∃ a xs, v = .ref a ∧ SqT K H a xs ∧ DxAll K H N xs ds := by
  cases h with
  | tup h1 h2 => exact ⟨_, _, rfl, h1, h2⟩
theorem tyX {v : V} {d : PyData} (h : Dx K H N v d) : TyX K H v (.type (tyN d)) := by
  cases h with
  | non => exact .base .non
  | bl b => exact .base (.bl b)
  | int i => exact .base (.int i)
  | str s => exact .base (.str s)
  | lst _ _ h1 _ => exact sq_list_ty h1
  | tup h1 _ => exact sq_tup_ty h1
  | dic _ h _ => exact .base (.dK h)
end
def rIsiY (K : PySem.W.Frag) : List V → Hp → VK → Prop := fun xs H Q => ∃ (N : Addr → Prop) (x : V) (d : PyData) (T : String) (z : Bool), xs = [x, .ty T] ∧ Dx K H N x d ∧ kitB (tyN d) T = some z ∧ Q (.bl z) H
theorem isiY {X : Cx} (K : PySem.W.Frag) (h : X.K = K := by rfl) : CallR X (.builtin "isinstance") (rIsiY K) := by
  subst h
  intro pins s σ H vs us Q I r h
  obtain ⟨N, x, d, T, b, rfl, hd, hk, q⟩ := h
  exact call_isi pins s σ H _ us Q I r ⟨x, _, _, _, b, rfl, .ty T, tyX hd, kit_ty hk, q⟩
/-! ### what is written of them -/
section
variable {X : Cx} {pins : List (Addr × Obj)} {σ : St} {H : Hp} {s : Shared} {N : Addr → Prop}
theorem not_sys {X : Cx} {pins : List (Addr × Obj)} {σ : St} {H : Hp} {s : Shared} (I : Inv X pins σ H s) : s.heap.objs.size ≠ sysModules := by
  obtain ⟨mc, ⟨o, es, ep, e, _⟩, _⟩ := I.nolimit
  have h := Heap.lt_size e
  intro z
  rw [z] at h
  exact absurd h (by decide)
mutual
theorem dx_reads (I : Inv X pins σ H s) : ∀ (d : PyData) (v : V) (u : Value), Dx X.K H N v d → RelV v u → ∃ as, Reads s.heap u d as ∧ sysModules ∉ as
  | .none, _, _, h, r => by
    cases h
    cases r
    exact ⟨_, Reads.none, by simp⟩
  | .bool z, _, _, h, r => by
    cases h
    cases r
    exact ⟨_, Reads.bool z, by simp⟩
  | .int i, _, _, h, r => by
    cases h
    obtain ⟨t, rfl⟩ := r
    exact ⟨_, Reads.int i t, by simp⟩
  | .str x, _, _, h, r => by
    cases h
    obtain ⟨t, rfl⟩ := r
    exact ⟨_, Reads.str x t, by simp⟩
  | .list ds, _, _, h, r => by
    cases h with
    | lst e n hs ha =>
      cases r
      obtain ⟨its, rv, ⟨o, n, ho, hc, _, hd⟩, _⟩ := I.list hs
      obtain ⟨as, hr, hn⟩ := dx_readsAll I ds _ its ha rv
      exact ⟨_, Reads.list ho hc hd hr, fun z => (List.mem_cons.mp z).elim (fun q => e q.symm) hn⟩
  | .tuple ds, _, _, h, r => by
    cases h with
    | tup hs ha =>
      cases r
      obtain ⟨its, rv, ⟨o, ho, hc, n, hd⟩, _⟩ := I.tuple hs
      obtain ⟨as, hr, hn⟩ := dx_readsAll I ds _ its ha rv
      exact ⟨_, Reads.tuple ho hc hd hr, hn⟩
  | .dict ps, _, _, h, r => by
    cases h with
    | dic n hh hk =>
      cases r
      have hk' := I.hok _ _ hh
      unfold ObjOk at hk'
      obtain ⟨_, hsys, vs, kv, o, es, ep, h1, h2, h3, h4, h5, h6⟩ := hk'
      obtain ⟨bs, hr1, hr2, hn⟩ := dx_readsKv I ps _ _ _ hk kv h5
      refine ⟨_, Reads.dict h1 h2.1 h3 hr1 hr2, fun hm => ?_⟩
      rcases List.mem_cons.mp (by simpa using hm) with z | z
      · rw [← z] at hsys
        simp at hsys
      · exact hn z
theorem dx_readsAll (I : Inv X pins σ H s) : ∀ (ds : List PyData) (vs : List V) (us : List Value), DxAll X.K H N vs ds → Vals vs us → ∃ as, ReadsAll s.heap us ds as ∧ sysModules ∉ as
  | [], _, _, h, r => by
    cases h
    cases r
    exact ⟨_, ReadsAll.nil, by simp⟩
  | d :: ds, _, _, h, r => by
    cases h with
    | cons h1 h2 =>
      cases r with
      | cons r1 r2 =>
        obtain ⟨as, q1, n1⟩ := dx_reads I d _ _ h1 r1
        obtain ⟨bs, q2, n2⟩ := dx_readsAll I ds _ _ h2 r2
        exact ⟨_, ReadsAll.cons q1 q2, fun m => (List.mem_append.mp m).elim n1 n2⟩
theorem dx_readsKv (I : Inv X pins σ H s) : ∀ (ps : List (PyData × PyData)) (kvs : List (Key × V)) (vs : List (Key × Value)) (es : List DictEntry), DxKv X.K H N kvs ps → KV kvs vs → PySem.Pairs (mixKind X.prog X.w) es vs →
    ∃ bs, ReadsAll s.heap (es.map (·.key)) (ps.map (·.1)) [] ∧ ReadsAll s.heap (es.map (·.val)) (ps.map (·.2)) bs ∧ sysModules ∉ bs
  | [], _, _, _, h, r, p => by
    cases h
    cases r
    cases p
    exact ⟨_, ReadsAll.nil, ReadsAll.nil, by simp⟩
  | (k, d) :: ps, _, _, _, h, r, p => by
    cases h with
    | cons h1 h2 =>
      cases r with
      | cons r1 r2 =>
        cases p with
        | cons p1 p2 p3 =>
          obtain ⟨bs, q1, q2, n⟩ := dx_readsKv I ps _ _ _ h2 r2 p3
          obtain ⟨e1, e2⟩ := r1
          rw [← p2] at e2
          obtain ⟨as, q3, n3⟩ := dx_reads I d _ _ h1 e2
          rw [← e1] at p1
          dsimp only at p1
          have p1' : keyIs (Sum.inr _) _ = true := p1
          rcases keyIs_shape p1' with ⟨i, t, z, _⟩ | ⟨y, t, z, e⟩
          · cases z
          · obtain rfl := Sum.inr.inj z
            refine ⟨as ++ bs, ?_, ReadsAll.cons q3 q2, fun m => (List.mem_append.mp m).elim n3 n⟩
            rw [List.map_cons, List.map_cons, e]
            exact ReadsAll.cons (Reads.str _ t) q1
end
end
def rReprY (K : PySem.W.Frag) : List V → Hp → VK → Prop := fun xs H Q => ∃ (N : Addr → Prop) (x : V) (d : PyData), xs = [x] ∧ Dx K H N x d ∧ ShowM d ∧ Q (.str d.shown) H
theorem reprY {X : Cx} (K : PySem.W.Frag) (hgd : X.A.guards = some []) (hu : X.A.units + 64 < cLine) (h : X.K = K := by rfl) : CallR X (.builtin "repr") (rReprY K) := by
  subst h
  intro pins s σ H xs us Q I r h
  obtain ⟨N, x, d, rfl, hd, ⟨h1, h3, h4⟩, q⟩ := h
  cases r with
  | cons r0 rr =>
    cases rr
    rename_i v
    obtain ⟨as, rd, hn⟩ := dx_reads I d x v hd r0
    have hsm : d.hasDict = true → sysModules ∉ as := fun _ => hn
    cases rd with
    | list a b c dd =>
      refine repr_of_reads' (.list a b c dd) h1 hsm hgd (by omega) (fun _ _ e => e) (fun h' u tk hk => ?_) h4
      exact ⟨.str _, H, I.kept (t' := tk) hk, ⟨u, rfl⟩, q⟩
    | tuple a b c dd =>
      refine repr_of_reads' (.tuple a b c dd) h1 hsm hgd (by omega) (fun _ _ e => e) (fun h' u tk hk => ?_) h4
      exact ⟨.str _, H, I.kept (t' := tk) hk, ⟨u, rfl⟩, q⟩
    | int i t =>
      refine PySem.P.repr_of_int (by simpa [PyData.showable] using h1) ⟨.str _, H, I.tok _, ⟨_, rfl⟩, ?_⟩
      simpa only [PyData.shown] using q
    | none =>
      refine PySem.P.repr_of_none ⟨.str _, H, I.tok _, ⟨_, rfl⟩, ?_⟩
      simpa only [PyData.shown] using q
    | bool b =>
      refine PySem.P.repr_of_bool ⟨.str _, H, I.tok _, ⟨_, rfl⟩, ?_⟩
      simpa only [PyData.shown] using q
    | str z t =>
      refine PySem.P.repr_of_str ⟨.str _, H, I.tok _, ⟨_, rfl⟩, ?_⟩ (by simpa only [PyData.shown] using h4)
      simpa only [PyData.shown] using q
    | dict a b c dd ee =>
      refine repr_of_reads' (.dict a b c dd ee) h1 hsm hgd (by omega) (fun _ _ e => e) (fun h' u tk hk => ?_) h4
      exact ⟨.str _, H, I.kept (t' := tk) hk, ⟨u, rfl⟩, q⟩
/-! ### new lists, that don't lie where the interpreter keeps its own -/
def tLstY (t : TA) : TE := fun σ H Q => t σ H fun xs H1 => xs.length ≤ sizeLine ∧ ∀ p, H1 p = none → p ≠ sysModules → Q (.ref p) (upd H1 p (.lst xs))
section
variable {X : Cx} {es : List Expr} {t : TA} {pos : Pos}
theorem pe_lstY (hes : PA X es t) : PE X (.List es pos) (tLstY t) := by
  constructor
  intro pp st sl hh QQ inv want
  have items := hes.run pos pp st sl hh _ inv want
  refine wpAny_List_spliced (thn items ?_)
  rintro vals st1 ⟨ys, hh1, inv1, rel, fit, fin⟩
  have free1 : hh1 st1.heap.objs.size = none := inv1.hok.fresh (Nat.le_refl _)
  constructor
  · rw [← rel.length]
    exact fit
  · have laid1 := inv1.laid (o := .lst ys) (t' := st1.toks) (h' := st1.heap.push { cls := .type "list", data := .seq vals.toArray })
      (fun _ _ got => Heap.get?_push_of_some _ got) (Nat.le_refl _) ⟨fit, vals, 0, rel, Heap.get?_push_size _ rfl⟩
    exact ⟨.ref st1.heap.objs.size, _, laid1, rfl, fin _ free1 (not_sys inv1)⟩
def rListY (K : PySem.W.Frag) : List V → Hp → VK → Prop := fun args hh QQ => ∃ c ys, args = [.ref c] ∧ (SqL K hh c ys ∨ SqT K hh c ys) ∧ ∀ new, hh new = none → new ≠ sysModules → QQ (.ref new) (upd hh new (.lst ys))
theorem call_list_ofY : CallR X (.type "list") (rListY X.K) := by
  intro pp st sl hh args vals QQ inv rel given
  obtain ⟨c, ys, rfl, from_, fin⟩ := given
  obtain ⟨u, rfl, ru⟩ := vals1 rel
  cases ru
  have newOne : ∀ (zs : List Value), Vals ys zs → ys.length ≤ sizeLine → ∀ (hp' : Heap) (cnt : Nat), (∀ b ob, st.heap.get? b = some ob → hp'.get? b = some ob) →
      hp'.get? st.heap.objs.size = some { cls := .type "list", dict := none, data := .seq zs.toArray cnt, slots := #[] } →
      EP X pp sl QQ (.ref st.heap.objs.size) { st with heap := hp' } := by
    intro zs rz fit hp' cnt kept at_
    refine ⟨.ref st.heap.objs.size, _, inv.laid (t' := st.toks) (o := .lst ys) kept (Nat.le_refl _) ?_, rfl, ?_⟩
    · exact ⟨fit, zs, cnt, rz, at_⟩
    · exact fin _ (inv.hok.fresh (Nat.le_refl _)) (not_sys inv)
  rcases from_ with sq | sq
  · obtain ⟨zs, rz, place, fit⟩ := inv.list sq
    have same_len := rz.length
    obtain ⟨ob, got, kind, cnt, seq⟩ := place.isList
    refine call_list_seq c (.inl rfl) got kind seq (newOne zs rz fit) ?_
    simp only [List.size_toArray]
    omega
  · obtain ⟨zs, rz, place, fit⟩ := inv.tuple sq
    have same_len := rz.length
    obtain ⟨ob, got, kind, cnt, seq⟩ := place
    refine call_list_seq c (.inr rfl) got kind seq (newOne zs rz fit) ?_
    simp only [List.size_toArray]
    omega
end
end BV

namespace BV
open PySem L2
/-! ### small data, dicts among it -/
mutual
def tinyX : PyData → Bool
  | .none | .bool _ => true
  | .int i => decide (i.natAbs.log2 < 300)
  | .str x => decide (x.length ≤ 100) && x.cps.toList.all fun c => decide (c < 16 ^ 8)
  | .list xs | .tuple xs => tinyAllX xs
  | .dict kvs => tinyKvX kvs
def tinyAllX : List PyData → Bool
  | [] => true
  | x :: xs => tinyX x && tinyAllX xs
def tinyKvX : List (PyData × PyData) → Bool
  | [] => true
  | (k, v) :: r => tinyX k && tinyX v && tinyKvX r
end
mutual
def wt : PyData → Nat
  | .none | .bool _ | .int _ | .str _ => 1
  | .list xs | .tuple xs => wtAll xs + 1
  | .dict kvs => wtKv kvs + 1
def wtAll : List PyData → Nat
  | [] => 0
  | x :: xs => wt x + wtAll xs
def wtKv : List (PyData × PyData) → Nat
  | [] => 0
  | (k, v) :: r => wt k + wt v + wtKv r
end
mutual
theorem tinyX_facts : ∀ d : PyData, tinyX d = true → d.showable = true ∧ low d.shown ∧ d.shown.length + 2 ≤ 1100 * wt d
  | .none, _ => ⟨by simp [PyData.showable], by simp only [PyData.shown]; exact low_of _, by
      have e : (PyData.shown .none).length = 4 := rfl
      simp only [wt]
      omega⟩
  | .bool b, _ => ⟨by simp [PyData.showable], by simp only [PyData.shown]; split <;> exact low_of _, by
      have e : (PyData.shown (.bool b)).length ≤ 5 := by cases b <;> decide
      simp only [wt]
      omega⟩
  | .int i, h => by
    have h' : i.natAbs.log2 < 300 := by simpa [tinyX] using h
    refine ⟨?_, by simp only [PyData.shown]; exact low_of _, ?_⟩
    · simp only [PyData.showable, decide_eq_true_eq]
      omega
    · have := int_shown h'
      simp only [wt]
      omega
  | .str x, h => by
    have h' : x.length ≤ 100 ∧ ∀ c ∈ x.cps.toList, c < 16 ^ 8 := by
      simp only [tinyX, Bool.and_eq_true, decide_eq_true_eq, List.all_eq_true] at h
      exact h
    refine ⟨by simp [PyData.showable], ?_, ?_⟩
    · simp only [PyData.shown]
      exact low_repr h'.2
    · have e := StrLaws.reprText_len x h'.2
      simp only [PyData.shown, wt]
      omega
  | .list xs, h => by
    have h1 := tinyX_all xs (by simpa [tinyX] using h)
    refine ⟨by simpa [PyData.showable] using h1.1, ?_, ?_⟩
    · simp only [PyData.shown]
      exact low_app (low_from _ _ _ (low_of _) h1.2.1) (low_of _)
    have h2 := listText_len_le (PyData.shownAll xs)
    simp only [PyData.shown, wt]
    omega
  | .tuple xs, h => by
    have h1 := tinyX_all xs (by simpa [tinyX] using h)
    refine ⟨by simpa [PyData.showable] using h1.1, ?_, ?_⟩
    · simp only [PyData.shown]
      exact low_app (low_app (low_of _) (low_join (low_of _) _ h1.2.1)) (low_of _)
    have h2 := tupleText_len_le (PyData.shownAll xs)
    simp only [PyData.shown, wt]
    omega
  | .dict kvs, h => by
    have h1 := tinyX_kv kvs (by simpa [tinyX] using h)
    refine ⟨by simpa [PyData.showable] using h1.1, ?_, ?_⟩
    · simp only [PyData.shown]
      exact low_app (low_app (low_of _) (low_join (low_of _) _ h1.2.1)) (low_of _)
    have h2 := dictText_len_le (PyData.shownKv kvs)
    simp only [PyData.shown, wt]
    omega
theorem tinyX_all : ∀ xs : List PyData, tinyAllX xs = true → PyData.showableAll xs = true ∧ (∀ t ∈ PyData.shownAll xs, low t) ∧
    ((PyData.shownAll xs).map (·.length)).sum + 2 * (PyData.shownAll xs).length ≤ 1100 * wtAll xs
  | [], _ => by simp [PyData.showableAll, PyData.shownAll]
  | x :: xs, h => by
    have h' : tinyX x = true ∧ tinyAllX xs = true := by simpa [tinyAllX] using h
    obtain ⟨a1, a2, a3⟩ := tinyX_facts x h'.1
    obtain ⟨b1, b2, b3⟩ := tinyX_all xs h'.2
    refine ⟨by simp [PyData.showableAll, a1, b1], fun t ht => ?_, ?_⟩
    · simp only [PyData.shownAll] at ht
      rcases List.mem_cons.mp ht with e | e
      · rw [e]
        exact a2
      · exact b2 t e
    · simp only [PyData.shownAll, wtAll, List.map_cons, List.sum_cons, List.length_cons]
      omega
theorem tinyX_kv : ∀ xs : List (PyData × PyData), tinyKvX xs = true → PyData.showableKv xs = true ∧ (∀ t ∈ PyData.shownKv xs, low t) ∧
    ((PyData.shownKv xs).map (·.length)).sum + 2 * (PyData.shownKv xs).length ≤ 1100 * wtKv xs
  | [], _ => by simp [PyData.showableKv, PyData.shownKv]
  | (k, v) :: xs, h => by
    have h' : (tinyX k = true ∧ tinyX v = true) ∧ tinyKvX xs = true := by simpa [tinyKvX] using h
    obtain ⟨a1, a2, a3⟩ := tinyX_facts k h'.1.1
    obtain ⟨c1, c2, c3⟩ := tinyX_facts v h'.1.2
    obtain ⟨b1, b2, b3⟩ := tinyX_kv xs h'.2
    have e2 : (k.shown ++ ": " ++ v.shown).length = k.shown.length + 2 + v.shown.length := by
      rw [PySem.strLen_append, PySem.strLen_append]; rfl
    refine ⟨by simp [PyData.showableKv, a1, b1, c1], fun t ht => ?_, ?_⟩
    · simp only [PyData.shownKv] at ht
      rcases List.mem_cons.mp ht with e | e
      · rw [e]
        exact low_app (low_app a2 (low_of _)) c2
      · exact b2 t e
    · simp only [PyData.shownKv, wtKv, List.map_cons, List.sum_cons, List.length_cons]
      omega
end
structure Sz (d : PyData) (c k : Nat) : Prop where
  t : tinyX d = true
  n : wt d ≤ c
  p : d.depth ≤ k
theorem Sz.mono {d : PyData} {c k c' k' : Nat} (h : Sz d c k) (h1 : c ≤ c') (h2 : k ≤ k') : Sz d c' k' := ⟨h.t, Nat.le_trans h.n h1, Nat.le_trans h.p h2⟩
theorem Sz.show {d : PyData} {c k : Nat} (h : Sz d c k) (hc : c ≤ 15000) (hk : k ≤ 40) : ShowM d := by
  obtain ⟨a, b, e⟩ := tinyX_facts d h.t
  refine ⟨a, Nat.le_trans h.p hk, ?_⟩
  have h1 := h.n
  have h2 : sizeLine = 16777216 := by decide
  rw [h2]
  omega
theorem Sz.low {d : PyData} {c k : Nat} (h : Sz d c k) : low d.shown := (tinyX_facts d h.t).2.1
theorem Sz.len {d : PyData} {c k : Nat} (h : Sz d c k) : d.shown.length ≤ 1100 * c := by
  have h1 := (tinyX_facts d h.t).2.2
  have h2 := Nat.mul_le_mul_left 1100 h.n
  omega
/-- all of a list, c nodes together -/
structure SzA (ds : List PyData) (c k : Nat) : Prop where
  t : tinyAllX ds = true
  n : wtAll ds ≤ c
  p : PyData.depthAll ds ≤ k
theorem sza_nil {c k : Nat} : SzA [] c k := ⟨by simp [tinyAllX], by simp [wtAll], by simp [PyData.depthAll]⟩
theorem sza_cons {d : PyData} {ds : List PyData} {c1 c2 k : Nat} (h : Sz d c1 k) (g : SzA ds c2 k) : SzA (d :: ds) (c1 + c2) k :=
  ⟨by simp [tinyAllX, h.t, g.t], by have := h.n; have := g.n; simp only [wtAll]; omega, by have := h.p; have := g.p; simp only [PyData.depthAll]; omega⟩
theorem sza_mono {ds : List PyData} {c k c' k' : Nat} (h : SzA ds c k) (h1 : c ≤ c') (h2 : k ≤ k') : SzA ds c' k' := ⟨h.t, Nat.le_trans h.n h1, Nat.le_trans h.p h2⟩
theorem sza_of {k c : Nat} : ∀ {ds : List PyData}, (∀ d ∈ ds, Sz d c k) → SzA ds (c * ds.length) k
  | [], _ => sza_nil
  | d :: ds, h => by
    refine sza_mono (sza_cons (h d (List.mem_cons_self ..)) (sza_of fun e he => h e (List.mem_cons_of_mem _ he))) ?_ (Nat.le_refl _)
    rw [List.length_cons, Nat.mul_add]
    omega
theorem sz_tup {ds : List PyData} {c k : Nat} (h : SzA ds c k) : Sz (.tuple ds) (c + 1) (k + 1) :=
  ⟨by simpa only [tinyX] using h.t, by have := h.n; simp only [wt]; omega, by have := h.p; simp only [PyData.depth]; omega⟩
theorem sz_lst {ds : List PyData} {c k : Nat} (h : SzA ds c k) : Sz (.list ds) (c + 1) (k + 1) :=
  ⟨by simpa only [tinyX] using h.t, by have := h.n; simp only [wt]; omega, by have := h.p; simp only [PyData.depth]; omega⟩
theorem sz_int {z : Int} {c k : Nat} (h : z.natAbs < 2 ^ 200) (hc : 1 ≤ c := by decide) : Sz (.int z) c k := by
  have hl : z.natAbs.log2 < 300 := Nat.lt_of_lt_of_le (PySem.Flt.log2_lt_of (by decide) h) (by decide)
  exact ⟨by simp only [tinyX, hl, decide_true], by simp only [wt]; exact hc, by simp only [PyData.depth]; omega⟩
theorem sz_nat {j c k : Nat} (h : j < 100000) (hc : 1 ≤ c := by decide) : Sz (.int (j : Int)) c k := sz_int (Nat.lt_of_lt_of_le (show ((j : Int)).natAbs < 100000 by omega) (by decide)) hc
theorem sz_non {c k : Nat} (hc : 1 ≤ c := by decide) : Sz .none c k := ⟨by simp [tinyX], by simp only [wt]; exact hc, by simp only [PyData.depth]; omega⟩
theorem sz_bl {z : Bool} {c k : Nat} (hc : 1 ≤ c := by decide) : Sz (.bool z) c k := ⟨by simp [tinyX], by simp only [wt]; exact hc, by simp only [PyData.depth]; omega⟩
theorem sz_str {s : String} {c k : Nat} (h : (Str.ofString s).length ≤ 100 := by decide) (hc : 1 ≤ c := by decide) : Sz (.str s) c k := by
  refine ⟨?_, by simp only [wt]; exact hc, by simp only [PyData.depth]; omega⟩
  simp only [tinyX, Bool.and_eq_true, decide_eq_true_eq, List.all_eq_true]
  exact ⟨h, low_of s⟩
theorem sz_dic0 {c k : Nat} (hc : 1 ≤ c := by decide) : Sz (.dict []) c (k + 1) := ⟨by simp [tinyX, tinyKvX], by simp only [wt, wtKv]; exact hc, Nat.le_trans (show (PyData.dict []).depth ≤ 1 by decide) (by omega)⟩
theorem sz_dic1 {s : String} {d : PyData} {c k : Nat} (g : Sz d c k) (h : (Str.ofString s).length ≤ 100 := by decide) : Sz (.dict [(.str s, d)]) (c + 2) (k + 1) := by
  have hs := (sz_str (s := s) (c := 1) (k := 0) h).t
  refine ⟨by simp [tinyX, tinyKvX] at *; simp [hs, g.t], by have := g.n; simp only [wt, wtKv]; omega, by have := g.p; simp only [PyData.depth, PyData.depthKv]; omega⟩
theorem sz_nats {L k : Nat} {ks : List Nat} (h : ∀ x ∈ ks, x < 100000) (hl : ks.length ≤ L) : Sz (lotD ks) (L + 1) (k + 1) := by
  refine sz_tup (sza_mono (sza_of (c := 1) (ds := ks.map fun (x : Nat) => PyData.int x) fun d hd => ?_) (by rw [List.length_map]; omega) (Nat.le_refl _))
  obtain ⟨x, hx, rfl⟩ := List.mem_map.mp hd
  exact sz_nat (h x hx)
/-- two things and a text, in a list -/
theorem show_told {e1 e2 : PyData} {s : Str} (h1 : Sz e1 20 5) (h2 : Sz e2 20 5) (hs : low s) (hl : s.length ≤ 600000) : ShowM (.list [.list [e1, e2], .str s]) := by
  have hA := sz_lst (sza_cons h1 (sza_cons h2 (sza_nil (c := 0))))
  obtain ⟨a1, a2, a3⟩ := tinyX_facts _ hA.t
  have b0 := hA.p
  have b1 := hA.n
  refine ⟨?_, ?_, ?_⟩
  · simp only [PyData.showable, PyData.showableAll] at a1 ⊢
    simp [a1] at *
    exact a1
  · simp only [PyData.depth, PyData.depthAll] at b0 ⊢
    omega
  · have h2 := listText_len_le (PyData.shownAll [.list [e1, e2], .str s])
    have h3 := StrLaws.reprText_len s hs
    have h4 : sizeLine = 16777216 := by decide
    rw [h4]
    have e : (PyData.list [.list [e1, e2], .str s]).shown = listText (PyData.shownAll [.list [e1, e2], .str s]) := by simp only [PyData.shown]
    have e2 : (PyData.shownAll [.list [e1, e2], .str s]) = [(PyData.list [e1, e2]).shown, PySem.reprText s] := by simp only [PyData.shownAll, PyData.shown]
    rw [e]
    rw [e2] at h2 ⊢
    simp only [List.map_cons, List.map_nil, List.sum_cons, List.sum_nil, List.length_cons, List.length_nil] at h2
    omega
end BV

namespace BV
open PySem L2
/-! ### what kind of data: integers within bounds, rows, lots, standings, deeds -/
def intIn : PyData → Int → Int → Bool
  | .int i, lo, hi => decide (lo ≤ i ∧ i ≤ hi)
  | _, _, _ => false
def isRow : PyData → Int → Bool
  | .tuple ds, m => decide ((ds.length : Int) = m)
  | _, _ => false
def isStr : PyData → Bool
  | .str _ => true
  | _ => false
theorem kit_str (d : PyData) : kitB (tyN d) "str" = some (isStr d) := by
  cases d <;> simp only [tyN, isStr] <;> decide +kernel
theorem int_of {d : PyData} {lo hi : Int} (h : intIn d lo hi = true) : ∃ i, d = .int i := by
  cases d with
  | int i => exact ⟨i, rfl⟩
  | _ => cases h
theorem str_of {d : PyData} (h : isStr d = true) : ∃ x, d = .str x := by
  cases d with
  | str x => exact ⟨x, rfl⟩
  | _ => cases h
theorem tup_of {d : PyData} (h : isTup d = true) : ∃ ds, d = .tuple ds := by
  cases d with
  | tuple ds => exact ⟨ds, rfl⟩
  | _ => cases h
theorem row_of' {d : PyData} {m : Int} (h : isRow d m = true) : ∃ ds, d = .tuple ds ∧ (ds.length : Int) = m := by
  cases d with
  | tuple ds => exact ⟨ds, rfl, of_decide_eq_true h⟩
  | _ => cases h
theorem three_of {ds : List PyData} (h : ds.length = 3) : ∃ a b c, ds = [a, b, c] := by
  match ds, h with
  | [a, b, c], _ => exact ⟨a, b, c, rfl⟩
/-- the first that is none -/
def badP (p : PyData → Bool) : List PyData → Nat → Option Nat
  | [], _ => none
  | d :: ds, k => if p d = true then badP p ds (k + 1) else some k
theorem badP_none {p : PyData → Bool} : ∀ {ds : List PyData} {k : Nat}, (∀ d ∈ ds, p d = true) → badP p ds k = none
  | [], k, _ => rfl
  | d :: ds, k, h => by
    unfold badP
    rw [if_pos (h d (List.mem_cons_self ..)), badP_none fun e he => h e (List.mem_cons_of_mem _ he)]
theorem badP_app {p : PyData → Bool} : ∀ (ds es : List PyData) (k : Nat), (∀ d ∈ ds, p d = true) → badP p (ds ++ es) k = badP p es (k + ds.length)
  | [], es, k, _ => rfl
  | d :: ds, es, k, h => by
    show (if p d = true then badP p (ds ++ es) (k + 1) else some k) = _
    rw [if_pos (h d (List.mem_cons_self ..)), badP_app ds es (k + 1) fun e he => h e (List.mem_cons_of_mem _ he), List.length_cons]
    congr 1
    omega
theorem split_at {ds : List PyData} {i : Nat} {d : PyData} (hd : ds[i]? = some d) : ds = ds.take i ++ d :: ds.drop (i + 1) ∧ i < ds.length := by
  have hi : i < ds.length := (List.getElem?_eq_some_iff.mp hd).1
  have h1 : ds[i] = d := Option.some.inj ((List.getElem?_eq_getElem hi).symm.trans hd)
  refine ⟨?_, hi⟩
  rw [← h1, List.getElem_cons_drop, List.take_append_drop]
theorem badP_first {p : PyData → Bool} {ds : List PyData} {i : Nat} {d : PyData} (h : ∀ j e, j < i → ds[j]? = some e → p e = true) (hd : ds[i]? = some d) (hb : p d = false) : badP p ds 0 = some i := by
  obtain ⟨e, hi⟩ := split_at hd
  rw [e, badP_app _ _ _ fun x hx => ?_]
  · unfold badP
    rw [if_neg (by rw [hb]; decide), List.length_take]
    congr 1
    omega
  · obtain ⟨j, hj⟩ := List.getElem?_of_mem hx
    have hjl := (List.getElem?_eq_some_iff.mp hj).1
    rw [List.length_take] at hjl
    rw [List.getElem?_take_of_lt (by omega)] at hj
    exact h j x (by omega) hj
def numOk (d : PyData) : Bool := intIn d (-(10 ^ 12)) (10 ^ 12)
/-- what is wrong with a thing as a standing on m ties -/
def stE (m : Nat) : PyData → PyData
  | .tuple ds => if ds.length = m then (match badP numOk ds 0 with
      | some k => .tuple [.str "item", .int (k : Nat)]
      | none => .none) else .str "form"
  | _ => .str "form"
theorem stE_row {m : Nat} {d : PyData} (h : isRow d (m : Int) = false) : stE m d = .str "form" := by
  cases d with
  | tuple ds =>
    have h1 : ¬ ((ds.length : Int) = (m : Int)) := of_decide_eq_false h
    unfold stE
    dsimp only
    rw [if_neg (by omega)]
  | _ => rfl
theorem stE_item {ds : List PyData} {k : Nat} (h : badP numOk ds 0 = some k) : stE ds.length (.tuple ds) = .tuple [.str "item", .int (k : Nat)] := by
  unfold stE
  dsimp only
  rw [if_pos rfl, h]
theorem stE_none {ds : List PyData} (h : badP numOk ds 0 = none) : stE ds.length (.tuple ds) = .none := by
  unfold stE
  dsimp only
  rw [if_pos rfl, h]
/-- a row of integers from l on, ascending, below m -/
def lotGo (m : Nat) : List PyData → Int → Bool
  | [], _ => true
  | d :: ds, l => intIn d l (m - 1) && (match d with
    | .int z => lotGo m ds (z + 1)
    | _ => false)
def isLotD (m : Nat) : PyData → Bool
  | .tuple ds => lotGo m ds 0
  | _ => false
def natsOf (ds : List PyData) : List Nat := ds.map fun
  | .int z => z.toNat
  | _ => 0
def lotOf : PyData → List Nat
  | .tuple ds => natsOf ds
  | _ => []
theorem natsOf_nats (ks : List Nat) : natsOf (ks.map fun (k : Nat) => PyData.int k) = ks := by
  unfold natsOf
  rw [List.map_map]
  refine (List.map_congr_left fun k _ => ?_).trans (List.map_id ks)
  show ((k : Int)).toNat = k
  omega
theorem lotOf_lotD (ks : List Nat) : lotOf (lotD ks) = ks := natsOf_nats ks
theorem lotGo_lot {m : Nat} : ∀ {ds : List PyData} {l : Int}, 0 ≤ l → lotGo m ds l = true → ∃ ks : List Nat, ds = ks.map (fun (k : Nat) => PyData.int k) ∧ ks.Pairwise (· < ·) ∧ ∀ k ∈ ks, l ≤ (k : Int) ∧ k < m
  | [], l, _, _ => ⟨[], rfl, .nil, by simp⟩
  | d :: ds, l, hl, h => by
    unfold lotGo at h
    rw [Bool.and_eq_true] at h
    obtain ⟨h1, h2⟩ := h
    obtain ⟨z, rfl⟩ := int_of h1
    have h3 : l ≤ z ∧ z ≤ m - 1 := of_decide_eq_true h1
    obtain ⟨ks, rfl, hk1, hk2⟩ := lotGo_lot (l := z + 1) (by omega) h2
    refine ⟨z.toNat :: ks, ?_, List.pairwise_cons.mpr ⟨fun k hk => by have := hk2 k hk; omega, hk1⟩, fun k hk => ?_⟩
    · rw [List.map_cons, Int.toNat_of_nonneg (by omega)]
    · rcases List.mem_cons.mp hk with e | e
      · rw [e]
        omega
      · have := hk2 k e
        omega
theorem isLot_lot {m : Nat} {d : PyData} (h : isLotD m d = true) : d = lotD (lotOf d) ∧ LotA m (lotOf d) := by
  cases d with
  | tuple ds =>
    obtain ⟨ks, rfl, h1, h2⟩ := lotGo_lot (Int.le_refl 0) h
    have e : lotOf (.tuple (ks.map fun (k : Nat) => PyData.int k)) = ks := natsOf_nats ks
    rw [e]
    exact ⟨rfl, h1, fun k hk => (h2 k hk).2⟩
  | _ => cases h
theorem lot_lotGo {m : Nat} : ∀ {ks : List Nat} {l : Int}, ks.Pairwise (· < ·) → (∀ k ∈ ks, l ≤ (k : Int) ∧ k < m) → lotGo m (ks.map fun (k : Nat) => PyData.int k) l = true
  | [], _, _, _ => rfl
  | k :: ks, l, h1, h2 => by
    have h3 := h2 k (List.mem_cons_self ..)
    obtain ⟨h4, h5⟩ := List.pairwise_cons.mp h1
    show (intIn (.int (k : Nat)) l (m - 1) && lotGo m (ks.map fun (k : Nat) => PyData.int k) ((k : Int) + 1)) = true
    rw [Bool.and_eq_true]
    exact ⟨decide_eq_true ⟨h3.1, by omega⟩, lot_lotGo h5 fun x hx => by have := h4 x hx; have := h2 x (List.mem_cons_of_mem _ hx); omega⟩
theorem lot_isLot {m : Nat} {ks : List Nat} (h : LotA m ks) : isLotD m (lotD ks) = true := lot_lotGo h.1 fun k hk => ⟨Int.natCast_nonneg k, h.2 k hk⟩
theorem lotGo_app {m : Nat} : ∀ {ds : List PyData} {l : Int} {i : Nat} {l' : Int}, lotGo m ds l = lotGo m (ds.drop i) l' → ∀ {d : PyData}, ds[i]? = some d → lotGo m ds l = (intIn d l' (m - 1) && (match d with
    | .int z => lotGo m (ds.drop (i + 1)) (z + 1)
    | _ => false)) := fun {ds l i l'} h {d} hd => by
  rw [h]
  have e : ds.drop i = d :: ds.drop (i + 1) := by
    obtain ⟨hi, h1⟩ := List.getElem?_eq_some_iff.mp hd
    rw [← h1]
    exact List.drop_eq_getElem_cons hi
  rw [e]
  rfl
def isZ : PyData → Bool
  | .int z => decide (z = 0)
  | _ => false
def timesE (d : PyData) : PyData := if (intIn d (-(10 ^ 30)) (10 ^ 30) && !isZ d) = true then .none else .str "times"
/-- what is wrong with a thing as a deed -/
noncomputable def deedE (n : Nat) (ts : List Tie) : PyData → PyData
  | .tuple [.str w, t, k] =>
    if w = Str.ofString "star" then (if intIn t 0 (n - 1) = true then timesE k else .str "place")
    else if w = Str.ofString "round" then (if (isLotD ts.length t && isRB n ts (lotOf t)) = true then timesE k else .str "round")
    else .str "form"
  | _ => .str "form"
theorem deedE_row {n : Nat} {ts : List Tie} {d : PyData} (h : isRow d 3 = false) : deedE n ts d = .str "form" := by
  unfold deedE
  split
  · simp [isRow] at h
  · rfl
theorem deedE_word {n : Nat} {ts : List Tie} {w t k : PyData} (h : isStr w = false) : deedE n ts (.tuple [w, t, k]) = .str "form" := by
  cases w with
  | str x => cases h
  | _ => rfl
theorem deedE_star {n : Nat} {ts : List Tie} {t k : PyData} : deedE n ts (.tuple [.str "star", t, k]) = if intIn t 0 (n - 1) = true then timesE k else .str "place" := by
  unfold deedE
  dsimp only
  rw [if_pos rfl]
theorem deedE_round {n : Nat} {ts : List Tie} {t k : PyData} : deedE n ts (.tuple [.str "round", t, k]) = if (isLotD ts.length t && isRB n ts (lotOf t)) = true then timesE k else .str "round" := by
  unfold deedE
  dsimp only
  rw [if_neg (by decide), if_pos rfl]
theorem deedE_other {n : Nat} {ts : List Tie} {w : Str} {t k : PyData} (h1 : w ≠ Str.ofString "star") (h2 : w ≠ Str.ofString "round") : deedE n ts (.tuple [.str w, t, k]) = .str "form" := by
  unfold deedE
  dsimp only
  rw [if_neg h1, if_neg h2]
theorem eqv_str {d : PyData} {s : String} : PyData.eqv d (.str s) = (match d with
    | .str w => decide (w = Str.ofString s)
    | _ => false) := by
  cases d with
  | str w =>
    simp only [PyData.eqv]
    rw [Bool.eq_iff_iff]
    simp
  | _ => simp [PyData.eqv]
theorem sz_stE (m : Nat) (d : PyData) (h : m < 1000) : Sz (stE m d) 20 5 := by
  unfold stE
  split
  · rename_i ds
    split
    · rename_i hl
      split
      · rename_i k hk
        have hk2 : k < 100000 := by
          have : ∀ (ds : List PyData) (j k : Nat), badP numOk ds j = some k → k < j + ds.length := by
            intro ds
            induction ds with
            | nil => intro j k h; cases h
            | cons e es ih =>
              intro j k h
              unfold badP at h
              rw [List.length_cons]
              split at h
              · have := ih _ _ h
                omega
              · cases h
                omega
          have := this ds 0 k hk
          omega
        exact (sz_tup (sza_cons (c1 := 1) (c2 := 1) (k := 2) sz_str (sza_cons (c1 := 1) (c2 := 0) (sz_nat hk2) sza_nil))).mono (by decide) (by decide)
      · exact sz_non
    · exact sz_str
  · exact sz_str
theorem sz_deedE (n : Nat) (ts : List Tie) (d : PyData) : Sz (deedE n ts d) 20 5 := by
  have ht : ∀ k, Sz (timesE k) 20 5 := fun k => by
    unfold timesE
    split
    · exact sz_non
    · exact sz_str
  unfold deedE
  split
  · split
    · split
      · exact ht _
      · exact sz_str
    · split
      · split
        · exact ht _
        · exact sz_str
      · exact sz_str
  · exact sz_str
theorem still_stE (m : Nat) (d : PyData) : still (stE m d) = true := by
  unfold stE
  split
  · split
    · split <;> simp [still, stillAll]
    · simp [still]
  · simp [still]
theorem still_deedE (n : Nat) (ts : List Tie) (d : PyData) : still (deedE n ts d) = true := by
  have ht : ∀ k, still (timesE k) = true := fun k => by
    unfold timesE
    split <;> simp [still]
  unfold deedE
  split
  · split
    · split
      · exact ht _
      · simp [still]
    · split
      · split
        · exact ht _
        · simp [still]
      · simp [still]
  · simp [still]
end BV

namespace BV
open PySem L2
/-! the truth of any value, the written part named -/
def tTruK (K : PySem.W.Frag) (ta : TE) : TT := fun σ H Q => ta σ H fun x H' => ∃ k, TruV K x H' k ∧ Q k H'
theorem ptK {X : Cx} (K : PySem.W.Frag) {a : Expr} {ta : TE} (ha : PE X a ta) (he : ∀ whole, isTrue a X.env whole = (do let v ← whole; standAt a.pos; holding [v] (truthy v)) := by intro _; rfl) (h : X.K = K := by rfl) :
    PT X a (tTruK K ta) := by
  subst h
  exact pt_truth ha he
end BV
namespace BV
open PySem L2
theorem sumLK {X : Cx} (K : PySem.W.Frag) (hc : X.calm = true := by rfl) (h : X.K = K := by rfl) : CallR X (.builtin "sum") (rSum K) := by
  subst h
  exact cr_sum hc
end BV

namespace BV
open PySem L2
abbrev sWhole : Stmt := top 3
abbrev nWhole : List Str := ["value"]
abbrev pWhole : List Str := ["value"]
theorem scWhole : FnScope nWhole pWhole (defScope sWhole) := ⟨rfl, rfl, rfl, by decide +kernel, rfl, by decide +kernel, by decide +kernel⟩
abbrev sWithin : Stmt := top 4
abbrev nWithin : List Str := ["value", "low", "high"]
abbrev pWithin : List Str := ["value", "low", "high"]
theorem scWithin : FnScope nWithin pWithin (defScope sWithin) := ⟨rfl, rfl, rfl, by decide +kernel, rfl, by decide +kernel, by decide +kernel⟩
abbrev sRow : Stmt := top 5
abbrev nRow : List Str := ["value", "many"]
abbrev pRow : List Str := ["value", "many"]
theorem scRow : FnScope nRow pRow (defScope sRow) := ⟨rfl, rfl, rfl, by decide +kernel, rfl, by decide +kernel, by decide +kernel⟩
abbrev sLerr : Stmt := top 10
abbrev nLerr : List Str := ["web", "value", "least", "place", "item"]
abbrev pLerr : List Str := ["web", "value"]
theorem scLerr : FnScope nLerr pLerr (defScope sLerr) := ⟨rfl, rfl, rfl, by decide +kernel, rfl, by decide +kernel, by decide +kernel⟩
abbrev sSerr : Stmt := top 19
abbrev nSerr : List Str := ["web", "value", "place", "item"]
abbrev pSerr : List Str := ["web", "value"]
theorem scSerr : FnScope nSerr pSerr (defScope sSerr) := ⟨rfl, rfl, rfl, by decide +kernel, rfl, by decide +kernel, by decide +kernel⟩
abbrev sDerr : Stmt := top 17
abbrev nDerr : List Str := ["web", "value", "word", "target", "times"]
abbrev pDerr : List Str := ["web", "value"]
theorem scDerr : FnScope nDerr pDerr (defScope sDerr) := ⟨rfl, rfl, rfl, by decide +kernel, rfl, by decide +kernel, by decide +kernel⟩
def spWhole (K : PySem.W.Frag) : Sp := fun vs H Q _ => ∃ (N : Addr → Prop) (x : V) (d : PyData), vs = [x] ∧ Dx K H N x d ∧ Q (.bl (isInt d)) H
def spWithin (K : PySem.W.Frag) : Sp := fun vs H Q _ => ∃ (N : Addr → Prop) (x : V) (d : PyData) (lo hi : Int), vs = [x, .int lo, .int hi] ∧ Dx K H N x d ∧ Q (.bl (intIn d lo hi)) H
def spRow (K : PySem.W.Frag) : Sp := fun vs H Q _ => ∃ (N : Addr → Prop) (x : V) (d : PyData) (m : Int), vs = [x, .int m] ∧ Dx K H N x d ∧ Q (.bl (isRow d m)) H
def spLerr (K : PySem.W.Frag) : Sp := fun vs H Q _ => ∃ (N : Addr → Prop) (v x : V) (n : Nat) (ts : List Tie) (d : PyData), vs = [v, x] ∧ Dp K H v (webD n ts) ∧ Dx K H N x d ∧
  ∀ (u : V) H', Same H H' → decide (u = V.non) = isLotD ts.length d → Q u H'
def spSerr (K : PySem.W.Frag) : Sp := fun vs H Q _ => ∃ (N : Addr → Prop) (v x : V) (n : Nat) (ts : List Tie) (d : PyData), vs = [v, x] ∧ Dp K H v (webD n ts) ∧ Dx K H N x d ∧
  ∀ (u : V) H', Same H H' → Dp K H' u (stE ts.length d) → Q u H'
def spDerr (K : PySem.W.Frag) : Sp := fun vs H Q _ => ∃ (N : Addr → Prop) (v x : V) (n : Nat) (ts : List Tie) (d : PyData), vs = [v, x] ∧ Dp K H v (webD n ts) ∧ Dx K H N x d ∧ (∀ t ∈ ts, t.1 < t.2 ∧ t.2 < n) ∧ n ≤ 1000 ∧ ts.length ≤ 60 ∧
  (∀ w t k, d = .tuple [w, t, k] → SeqAt.shaped w = true) ∧ ∀ (u : V) H', Same H H' → Dp K H' u (deedE n ts d) → Q u H'
theorem hasDict_shaped {w : PyData} (h : SeqAt.shaped w = true) : w.hasDict = false := by
  simp only [SeqAt.shaped, Bool.and_eq_true] at h
  exact PyData.hasDict_of_canLay w h.1
theorem lot_nodict (ks : List Nat) : (lotD ks).hasDict = false := hasDict_shaped (shaped_lotN ks)
section
variable {P : Program} {w : World} {K : PySem.W.Frag} {mg : Str → Option Value} {base : Heap}
theorem ok_whole {f : Addr} {fd : FuncData} (D : Df K mg "whole" sWhole pWhole f fd) (T : Bl mg) (hisinstance : mg "isinstance" = none) (hbool : mg "bool" = none) : FnOk P w K mg base CX0 1 f fd pWhole (spWhole K) := by
  refine D.fn.ok scWhole (fun vs H Q E h => ?_) (fun cdv A outer s H vs Q E hr h => ?_)
  · obtain ⟨N, x, d, rfl, _⟩ := h
    rfl
  · obtain ⟨N, x, d, rfl, hx, k⟩ := h
    have nd := scWhole.nd
    refine ⟨_, (pss_one (ps_ret (pe_and (pe_callB (isiY K) (by rfl) hisinstance (by decide +kernel) (pa_cons (pv 0) (pa_cons (pe_bltn (v := .ty "int") (by rfl) T.int (by decide +kernel) rfl) pa_nil))) (pe_one (pe_not (pe_callB (isiY K) (by rfl) hisinstance (by decide +kernel) (pa_cons (pv 0) (pa_cons (pe_bltn (v := .ty "bool") (by rfl) hbool (by decide +kernel) rfl) pa_nil)))))))), ?_⟩
    refine ⟨_, rfl, N, x, d, "int", _, rfl, hx, kit_int d, ?_⟩
    refine ⟨_, rfl, ite2 (fun hh => ?_) (fun hh => ?_)⟩
    · refine ⟨_, rfl, N, x, d, "bool", _, rfl, hx, kit_bool d, _, rfl, ?_⟩
      have e : (!isBool d) = isInt d := by cases d <;> simp_all [isBool, isIntB, isInt]
      show Q _ _
      rw [e]
      exact k
    · have e : isInt d = false := by cases d <;> simp_all [isIntB, isInt]
      rw [e] at k
      exact k
theorem ok_within {f f1 : Addr} {fd fd1 : FuncData} (D : Df K mg "whole_within" sWithin pWithin f fd) (T : Bl mg) (hisinstance : mg "isinstance" = none) (hbool : mg "bool" = none) (D_whole : Df K mg "whole" sWhole pWhole f1 fd1) : FnOk P w K mg base CX0 2 f fd pWithin (spWithin K) := by
  have G_whole : FnOk P w K mg base CX0 1 f1 fd1 pWhole (spWhole K) := ok_whole D_whole T hisinstance hbool
  refine D.fn.ok scWithin (fun vs H Q E h => ?_) (fun cdv A outer s H vs Q E hr h => ?_)
  · obtain ⟨N, x, d, lo, hi, rfl, _⟩ := h
    rfl
  · obtain ⟨N, x, d, lo, hi, rfl, hx, k⟩ := h
    have nd := scWithin.nd
    have hr_whole : Room 1 _ := hr
    refine ⟨_, (pss_one (ps_ret (pe_and (pe_call G_whole hr_whole (by rfl) D_whole.ad D_whole.fn.kp D_whole.bd .nil pass0 (pa_cons (pv 0) pa_nil)) (pe_one (pe_chain op_le op_le (pv 1) (pv 0) (pv 2)))))), ?_⟩
    refine ⟨_, rfl, N, x, d, rfl, hx, ?_⟩
    refine ⟨_, rfl, ite2 (fun hh => ?_) (fun hh => ?_)⟩
    · cases d with
      | int i =>
        cases hx
        refine ⟨_, rfl, _, rfl, lo, i, rfl, rfl, _, rfl, ite2 (fun h1 => ?_) (fun h1 => ?_)⟩
        · have h1 := of_decide_eq_true h1
          refine ⟨_, rfl, i, hi, rfl, rfl, ?_⟩
          have e : intIn (.int i) lo hi = decide (i ≤ hi) := decide_eq_decide.mpr ⟨fun z => z.2, fun z => ⟨h1, z⟩⟩
          rw [e] at k
          exact k
        · have e : intIn (.int i) lo hi = false := decide_eq_false fun z => h1 (decide_eq_true z.1)
          rw [e] at k
          exact k
      | _ => cases hh
    · have e : intIn d lo hi = false := by cases d <;> simp_all [intIn, isInt]
      rw [e] at k
      exact k
theorem ok_row {f : Addr} {fd : FuncData} (D : Df K mg "row_of" sRow pRow f fd) (T : Bl mg) (hisinstance : mg "isinstance" = none) : FnOk P w K mg base CX0 1 f fd pRow (spRow K) := by
  refine D.fn.ok scRow (fun vs H Q E h => ?_) (fun cdv A outer s H vs Q E hr h => ?_)
  · obtain ⟨N, x, d, m, rfl, _⟩ := h
    rfl
  · obtain ⟨N, x, d, m, rfl, hx, k⟩ := h
    have nd := scRow.nd
    refine ⟨_, (pss_one (ps_ret (pe_and (pe_callB (isiY K) (by rfl) hisinstance (by decide +kernel) (pa_cons (pv 0) (pa_cons (pe_bltn (v := .ty "tuple") (by rfl) T.tuple (by decide +kernel) rfl) pa_nil))) (pe_one (pe_cmpR op_eq (pe_callB (lenK K) (by rfl) T.len PySem.boot_len (pa_cons (pv 0) pa_nil)) (pv 1) (nomark _)))))), ?_⟩
    refine ⟨_, rfl, N, x, d, "tuple", _, rfl, hx, kit_tup d, ?_⟩
    refine ⟨_, rfl, ite2 (fun hh => ?_) (fun hh => ?_)⟩
    · cases d with
      | tuple ds =>
        obtain ⟨a, xs, rfl, hxs, hds⟩ := dx_tup hx
        refine ⟨_, rfl, a, xs, rfl, .inr hxs, _, rfl, rfl, ?_⟩
        have e : isRow (.tuple ds) m = decide (V.int (xs.length : Nat) = V.int m) := by
          rw [dxAll_len hds]
          exact decide_eq_decide.mpr ⟨fun z => by rw [z], fun z => V.int.inj z⟩
        rw [e] at k
        exact k
      | _ => cases hh
    · have e : isRow d m = false := by cases d <;> simp_all [isRow, isTup]
      rw [e] at k
      exact k
theorem ok_lerr {f f1 f2 : Addr} {fd fd1 fd2 : FuncData} (D : Df K mg "lot_error" sLerr pLerr f fd) (T : Bl mg) (hisinstance : mg "isinstance" = none) (hbool : mg "bool" = none) (D_whole : Df K mg "whole" sWhole pWhole f1 fd1)
    (D_within : Df K mg "whole_within" sWithin pWithin f2 fd2) : FnOk P w K mg base CX0 3 f fd pLerr (spLerr K) := by
  have G_within : FnOk P w K mg base CX0 2 f2 fd2 pWithin (spWithin K) := ok_within D_within T hisinstance hbool D_whole
  refine D.fn.ok scLerr (fun vs H Q E h => ?_) (fun cdv A outer s H vs Q E hr h => ?_)
  · obtain ⟨N, v, x, n, ts, d, rfl, _⟩ := h
    rfl
  · obtain ⟨N, v, x, n, ts, d, rfl, hw, hd, k⟩ := h
    have hr_within : Room 2 _ := hr
    have nd := scLerr.nd
    obtain ⟨a, c, ys, rfl, ha, hc, hys⟩ := dp_web hw
    have hyl : ys.length = ts.length := by rw [dpAll_len hys, List.length_map]
    refine ⟨_, (pss_cons (ps_if (pt_not (pt_val (pe_callB (isiY K) (by rfl) hisinstance (by decide +kernel) (pa_cons (pv 1) (pa_cons (pe_bltn (v := .ty "tuple") (by rfl) T.tuple (by decide +kernel) rfl) pa_nil))))) (pss_one (ps_ret pe_str)) pss_nil)
      (pss_cons (ps_set (i := 2) nd rfl (by first | exact Or.inl rfl | exact Or.inr rfl) pe_int)
      (pss_cons (ps_for PassesOwn.never rfl (enumT K (by rfl) T.enumerate (pa_cons (pv 1) pa_nil)) (pgT K rfl (pgs_cons (pg_name (i := 3) nd rfl (by first | exact Or.inl rfl | exact Or.inr rfl)) (pgs_cons (pg_name (i := 4) nd rfl (by first | exact Or.inl rfl | exact Or.inr rfl)) pgs_nil))) (pss_cons (ps_if (pt_not (pt_val (pe_call G_within hr_within (by rfl) D_within.ad D_within.fn.kp D_within.bd .nil pass0 (pa_cons (pv 4) (pa_cons (pv 2) (pa_cons (pe_op op_sub (pe_callB (lenK K) (by rfl) T.len PySem.boot_len (pa_cons (pe_ix (ixT K) (pv 0) pe_int (fun _ _ => rfl)) pa_nil)) pe_int) pa_nil)))))) (pss_one (ps_ret (pe_tup (pa_cons pe_str (pa_cons (pv 3) pa_nil))))) pss_nil)
      (pss_one (ps_set (i := 2) nd rfl (by first | exact Or.inl rfl | exact Or.inr rfl) (pe_op op_add (pv 4) pe_int)))))
      (pss_one (ps_ret pe_non))))), ?_⟩
    refine tSeq_go ?_
    refine ⟨_, rfl, N, x, d, "tuple", _, rfl, hd, kit_tup d, _, rfl, ?_⟩
    refine ite2 (fun hh => ?_) (fun hh => ?_)
    · refine k (.str "form") H (Same.refl _) ?_
      have e : isLotD ts.length d = false := by cases d <;> simp_all [isLotD, isTup]
      rw [e]
      rfl
    obtain ⟨ds, rfl⟩ := tup_of (d := d) (by simpa using hh)
    obtain ⟨ax, xs, rfl, hax, hxs⟩ := dx_tup hd
    have hxl : xs.length = ds.length := dxAll_len hxs
    have k : ∀ (u : V) H', Same H H' → decide (u = V.non) = lotGo ts.length ds 0 → Q u H' := k
    dsimp only [tNext]
    refine tSeq_go ?_
    dsimp only [tAsg, tC, gName]
    refine tSeq_go ?_
    refine ⟨_, rfl, ax, xs, rfl, hax, ?_⟩
    refine for_it (walk_enumT (xs := xs)) (fun i σ H' => ∃ (l : Int) (v3 v4 : Option V), σ = [some (.ref a), some (.ref ax), some (.int l), v3, v4] ∧ Same H H' ∧
      lotGo ts.length ds 0 = lotGo ts.length (ds.drop i) l) ?_ ?_ ?_ ?_
    · exact ⟨0, none, none, rfl, Same.refl _, by rw [List.drop_zero]⟩
    · rintro i σ H' _ ⟨l, v3, v4, rfl, sH, _⟩
      exact sqT_same sH hax
    · rintro i x σ H' H3 hi ⟨l, v3, v4, rfl, sH, he⟩ ⟨q, y, z, rfl, hq, rfl, hy, hz⟩
      have hy' : some (V.int i) = some y := hy
      cases hy'
      have hz' : xs[i]? = some z := hz
      obtain ⟨dd, hdd, hzd⟩ := dxAll_get hxs hz'
      have he := lotGo_app he hdd
      have sq := same_new (o := .tup [.int i, z]) hq
      have s3 := sH.trans sq
      refine ⟨q, _, rfl, SqT.of upd_same, rfl, _, _, rfl, _, _, rfl, rfl, ?_⟩
      dsimp only
      refine tSeq_go ?_
      refine ⟨_, rfl, _, rfl, _, rfl, a, _, _, _, rfl, rfl, sqT_same s3 ha, atI_nat (j := 1) rfl, c, ys, rfl, .inr (sqT_same s3 hc), _, _, rfl, rfl, ?_⟩
      refine ⟨N, z, dd, l, (ys.length : Int) - 1, rfl, dx_same s3 hzd, _, rfl, ?_⟩
      rw [hyl]
      refine ite2 (fun hh2 => ?_) (fun hh2 => ?_)
      · have hb : intIn dd l ((ts.length : Int) - 1) = false := by simpa using hh2
        refine ⟨_, rfl, by show 2 ≤ sizeLine; decide, fun p hp => ?_⟩
        have sp := same_new (o := .tup [.str "item", .int i]) hp
        refine k (.ref p) _ (s3.trans sp) ?_
        rw [he, hb, Bool.false_and]
        rfl
      · have hb : intIn dd l ((ts.length : Int) - 1) = true := by simpa using hh2
        obtain ⟨zz, rfl⟩ := int_of hb
        cases hzd
        refine ⟨_, rfl, _, _, rfl, rfl, ?_⟩
        refine ⟨_, _, _, rfl, s3, ?_⟩
        rw [he, hb, Bool.true_and]
    · rintro σ H' ⟨l, v3, v4, rfl, sH, he⟩
      refine k .non H' sH ?_
      rw [he, hxl, List.drop_of_length_le (Nat.le_refl _)]
      rfl
theorem ok_serr {f f1 f2 f3 : Addr} {fd fd1 fd2 fd3 : FuncData} {tN : Tok} (D : Df K mg "standing_error" sSerr pSerr f fd) (T : Bl mg) (hisinstance : mg "isinstance" = none) (hbool : mg "bool" = none) (hMN : mg "MAX_NUMBER" = some (.int (10 ^ 12) tN)) (D_whole : Df K mg "whole" sWhole pWhole f1 fd1)
    (D_within : Df K mg "whole_within" sWithin pWithin f2 fd2) (D_row : Df K mg "row_of" sRow pRow f3 fd3) : FnOk P w K mg base CX0 3 f fd pSerr (spSerr K) := by
  have G_within : FnOk P w K mg base CX0 2 f2 fd2 pWithin (spWithin K) := ok_within D_within T hisinstance hbool D_whole
  have G_row : FnOk P w K mg base CX0 1 f3 fd3 pRow (spRow K) := ok_row D_row T hisinstance
  refine D.fn.ok scSerr (fun vs H Q E h => ?_) (fun cdv A outer s H vs Q E hr h => ?_)
  · obtain ⟨N, v, x, n, ts, d, rfl, _⟩ := h
    rfl
  · obtain ⟨N, v, x, n, ts, d, rfl, hw, hd, k⟩ := h
    have hr_within : Room 2 _ := hr
    have hr_row : Room 1 _ := hr.mono (by decide)
    have nd := scSerr.nd
    obtain ⟨a, c, ys, rfl, ha, hc, hys⟩ := dp_web hw
    have hyl : ys.length = ts.length := by rw [dpAll_len hys, List.length_map]
    refine ⟨_, (pss_cons (ps_if (pt_not (pt_val (pe_call G_row hr_row (by rfl) D_row.ad D_row.fn.kp D_row.bd .nil pass0 (pa_cons (pv 1) (pa_cons (pe_callB (lenK K) (by rfl) T.len PySem.boot_len (pa_cons (pe_ix (ixT K) (pv 0) pe_int (fun _ _ => rfl)) pa_nil)) pa_nil))))) (pss_one (ps_ret pe_str)) pss_nil)
      (pss_cons (ps_for PassesOwn.never rfl (enumT K (by rfl) T.enumerate (pa_cons (pv 1) pa_nil)) (pgT K rfl (pgs_cons (pg_name (i := 2) nd rfl (by first | exact Or.inl rfl | exact Or.inr rfl)) (pgs_cons (pg_name (i := 3) nd rfl (by first | exact Or.inl rfl | exact Or.inr rfl)) pgs_nil))) (pss_one (ps_if (pt_not (pt_val (pe_call G_within hr_within (by rfl) D_within.ad D_within.fn.kp D_within.bd .nil pass0 (pa_cons (pv 3) (pa_cons (pe_un un_neg (pe_glob (by rfl) hMN (show RelV (.int (10 ^ 12)) (.int (10 ^ 12) _) from ⟨_, rfl⟩))) (pa_cons (pe_glob (by rfl) hMN (show RelV (.int (10 ^ 12)) (.int (10 ^ 12) _) from ⟨_, rfl⟩)) pa_nil)))))) (pss_one (ps_ret (pe_tup (pa_cons pe_str (pa_cons (pv 2) pa_nil))))) pss_nil)))
      (pss_one (ps_ret pe_non)))), ?_⟩
    refine tSeq_go ?_
    refine ⟨_, rfl, _, rfl, a, _, _, _, rfl, rfl, ha, atI_nat (j := 1) rfl, c, ys, rfl, .inr hc, N, x, d, _, rfl, hd, _, rfl, ite2 (fun hh => ?_) (fun hh => ?_)⟩
    · rw [hyl] at hh
      exact k (.str "form") H (Same.refl _) (by rw [stE_row (by simpa using hh)]; exact .str _)
    rw [hyl] at hh
    obtain ⟨ds, rfl, hdl⟩ := row_of' (d := d) (m := (ts.length : Int)) (by simpa using hh)
    have hdl : ds.length = ts.length := by omega
    obtain ⟨ax, xs, rfl, hax, hxs⟩ := dx_tup hd
    have hxl : xs.length = ds.length := dxAll_len hxs
    rw [← hdl] at k
    dsimp only [tNext]
    refine tSeq_go ?_
    refine ⟨_, rfl, ax, xs, rfl, hax, ?_⟩
    refine for_it (walk_enumT (xs := xs)) (fun i σ H' => ∃ (v3 v4 : Option V), σ = [some (.ref a), some (.ref ax), v3, v4] ∧ Same H H' ∧
      ∀ j e, j < i → ds[j]? = some e → numOk e = true) ?_ ?_ ?_ ?_
    · exact ⟨none, none, rfl, Same.refl _, fun j e hj => absurd hj (Nat.not_lt_zero _)⟩
    · rintro i σ H' _ ⟨v3, v4, rfl, sH, _⟩
      exact sqT_same sH hax
    · rintro i x σ H' H3 hi ⟨v3, v4, rfl, sH, hall⟩ ⟨q, y, z, rfl, hq, rfl, hy, hz⟩
      have hy' : some (V.int i) = some y := hy
      cases hy'
      have hz' : xs[i]? = some z := hz
      obtain ⟨dd, hdd, hzd⟩ := dxAll_get hxs hz'
      have sq := same_new (o := .tup [.int i, z]) hq
      have s3 := sH.trans sq
      refine ⟨q, _, rfl, SqT.of upd_same, rfl, _, _, rfl, _, _, rfl, rfl, ?_⟩
      refine ⟨_, rfl, _, rfl, N, z, dd, _, _, rfl, dx_same s3 hzd, _, rfl, ?_⟩
      refine ite2 (fun hh2 => ?_) (fun hh2 => ?_)
      · have hb : numOk dd = false := by simpa [numOk] using hh2
        refine ⟨_, rfl, by show 2 ≤ sizeLine; decide, fun p hp => ?_⟩
        have sp := same_new (o := .tup [.str "item", .int i]) hp
        exact k (.ref p) _ (s3.trans sp) (by rw [stE_item (badP_first hall hdd hb)]; exact .tup (SqT.of upd_same) (.cons (.str _) (.cons (.int _) .nil)))
      · have hb : numOk dd = true := by simpa [numOk] using hh2
        refine ⟨_, _, rfl, s3, fun j e2 hj hj2 => ?_⟩
        by_cases ej : j = i
        · subst ej
          rw [hdd] at hj2
          cases hj2
          exact hb
        · exact hall j e2 (by omega) hj2
    · rintro σ H' ⟨v3, v4, rfl, sH, hall⟩
      have hall' : ∀ d ∈ ds, numOk d = true := fun d hd => by
        obtain ⟨j, hj⟩ := List.getElem?_of_mem hd
        exact hall j d (by rw [hxl]; exact (List.getElem?_eq_some_iff.mp hj).1) hj
      exact k .non H' sH (by rw [stE_none (badP_none hall')]; exact .non)
theorem ok_derr {f f1 f2 f3 f4 f5 f6 f7 f8 f9 g1 : Addr} {fd fd1 fd2 fd3 fd4 fd5 fd6 fd7 fd8 fd9 e1 : FuncData} {tT : Tok} (D : Df K mg "deed_error" sDerr pDerr f fd) (T : Bl mg) (hisinstance : mg "isinstance" = none) (hbool : mg "bool" = none) (hsorted : mg "sorted" = none) (hMT : mg "MAX_TIMES" = some (.int (10 ^ 30) tT)) (D_whole : Df K mg "whole" sWhole pWhole f1 fd1)
    (D_within : Df K mg "whole_within" sWithin pWithin f2 fd2) (D_row : Df K mg "row_of" sRow pRow f3 fd3) (D_lerr : Df K mg "lot_error" sLerr pLerr f4 fd4) (D_odd : Df K mg "odd_places" sOdd pOdd f5 fd5) (D_even : Df K mg "is_even" sEven pEven f6 fd6)
    (D_far : Df K mg "far_end" sFar pFar f7 fd7) (D_ways : Df K mg "ways_from" sWays pWays f8 fd8) (D_fround : Df K mg "_first_round" sFround pFround f9 fd9) (D_isround : Df K mg "is_round" sIsround pIsround g1 e1) : FnOk P w K mg base CX0 5 f fd pDerr (spDerr K) := by
  have G_within : FnOk P w K mg base CX0 2 f2 fd2 pWithin (spWithin K) := ok_within D_within T hisinstance hbool D_whole
  have G_row : FnOk P w K mg base CX0 1 f3 fd3 pRow (spRow K) := ok_row D_row T hisinstance
  have G_lerr : FnOk P w K mg base CX0 3 f4 fd4 pLerr (spLerr K) := ok_lerr D_lerr T hisinstance hbool D_whole D_within
  have G_isround : FnOk P w K mg base CX0 4 g1 e1 pIsround (spIsround K) := ok_isround D_isround T hsorted D_odd D_even D_far D_ways D_fround
  refine D.fn.ok scDerr (fun vs H Q E h => ?_) (fun cdv A outer s H vs Q E hr h => ?_)
  · obtain ⟨N, v, x, n, ts, d, rfl, _⟩ := h
    rfl
  · obtain ⟨N, v, x, n, ts, d, rfl, hw, hd, hends, hn, hl, hshaped, k⟩ := h
    have hr_within : Room 2 _ := hr.mono (by decide)
    have hr_row : Room 1 _ := hr.mono (by decide)
    have hr_lerr : Room 3 _ := hr.mono (by decide)
    have hr_isround : Room 4 _ := hr
    have nd := scDerr.nd
    obtain ⟨a, c, ys, rfl, ha, hc, hys⟩ := dp_web hw
    refine ⟨_, (pss_cons (ps_if (pt_not (pt_val (pe_call G_row hr_row (by rfl) D_row.ad D_row.fn.kp D_row.bd .nil pass0 (pa_cons (pv 1) (pa_cons pe_int pa_nil))))) (pss_one (ps_ret pe_str)) pss_nil)
      (pss_cons (ps_asg (pv 1) (pgT K rfl (pgs_cons (pg_name (i := 2) nd rfl (by first | exact Or.inl rfl | exact Or.inr rfl)) (pgs_cons (pg_name (i := 3) nd rfl (by first | exact Or.inl rfl | exact Or.inr rfl)) (pgs_cons (pg_name (i := 4) nd rfl (by first | exact Or.inl rfl | exact Or.inr rfl)) pgs_nil)))))
      (pss_cons (ps_if (pt_cmpR (opEqD K hr.units) (pv 2) pe_str (nomark _)) (pss_one (ps_if (pt_not (pt_val (pe_call G_within hr_within (by rfl) D_within.ad D_within.fn.kp D_within.bd .nil pass0 (pa_cons (pv 3) (pa_cons pe_int (pa_cons (pe_op op_sub (pe_ix (ixT K) (pv 0) pe_int (fun _ _ => rfl)) pe_int) pa_nil)))))) (pss_one (ps_ret pe_str)) pss_nil)) (pss_one (ps_if (pt_cmpR (opEqD K hr.units) (pv 2) pe_str (nomark _)) (pss_one (ps_if (PW.pt (pw_or (pt_cmpR op_notN (pe_call G_lerr hr_lerr (by rfl) D_lerr.ad D_lerr.fn.kp D_lerr.bd .nil pass0 (pa_cons (pv 0) (pa_cons (pv 3) pa_nil))) pe_non (nomark _)) (pw_or1 (pt_not (pt_val (pe_call G_isround hr_isround (by rfl) D_isround.ad D_isround.fn.kp D_isround.bd .nil pass0 (pa_cons (pv 0) (pa_cons (pv 3) pa_nil)))))))) (pss_one (ps_ret pe_str)) pss_nil)) (pss_one (ps_ret pe_str)))))
      (pss_cons (ps_if (PW.pt (pw_or (pt_not (pt_val (pe_call G_within hr_within (by rfl) D_within.ad D_within.fn.kp D_within.bd .nil pass0 (pa_cons (pv 4) (pa_cons (pe_un un_neg (pe_glob (by rfl) hMT (show RelV (.int (10 ^ 30)) (.int (10 ^ 30) _) from ⟨_, rfl⟩))) (pa_cons (pe_glob (by rfl) hMT (show RelV (.int (10 ^ 30)) (.int (10 ^ 30) _) from ⟨_, rfl⟩)) pa_nil)))))) (pw_or1 (pt_cmpR op_eq (pv 4) pe_int (nomark _))))) (pss_one (ps_ret pe_str)) pss_nil)
      (pss_one (ps_ret pe_non)))))), ?_⟩
    refine tSeq_go ?_
    refine ⟨_, rfl, N, x, d, 3, rfl, hd, _, rfl, ite2 (fun hh => ?_) (fun hh => ?_)⟩
    · exact k (.str "form") H (Same.refl _) (by rw [deedE_row (by simpa using hh)]; exact .str _)
    obtain ⟨ds, rfl, hdl⟩ := row_of' (d := d) (m := 3) (by simpa using hh)
    obtain ⟨dw, dt, dk, rfl⟩ := three_of (ds := ds) (by omega)
    have hsw := hshaped _ _ _ rfl
    obtain ⟨ax, xs, rfl, hax, hxs⟩ := dx_tup hd
    cases hxs with
    | cons qw r1 =>
    cases r1 with
    | cons qt r2 =>
    cases r2 with
    | cons qk r3 =>
    cases r3
    rename_i vw vt vk
    dsimp only [tNext]
    refine tSeq_go ?_
    refine ⟨_, rfl, ax, _, rfl, hax, rfl, _, _, rfl, _, _, rfl, _, _, rfl, rfl, ?_⟩
    refine at_st [some (.ref a), some (.ref ax), some vw, some vt, some vk] rfl ?_
    have pw := dx_dp _ (hasDict_shaped hsw) qw
    dsimp only
    refine tSeq_go ?_
    refine tIfS_by (fun σ' H' => σ' = [some (.ref a), some (.ref ax), some vw, some vt, some vk] ∧ Same H H' ∧ deedE n ts (.tuple [dw, dt, dk]) = timesE dk) ?_ (fun cont => ?_)
    rotate_left
    · refine ⟨_, rfl, dw, .str "star", pw, .str _, hsw, by decide +kernel, _, rfl, ite2 (fun h1 => ?_) (fun h1 => ?_)⟩
      · rw [eqv_str] at h1
        cases dw with
        | str x =>
          have h1 := of_decide_eq_true h1
          subst h1
          rw [deedE_star] at k cont
          refine ⟨_, rfl, _, rfl, a, _, _, _, rfl, rfl, ha, atI_nat (j := 0) rfl, _, _, rfl, rfl, N, vt, dt, 0, (n : Int) - 1, rfl, qt, _, rfl, ite2 (fun h2 => ?_) (fun h2 => ?_)⟩
          · rw [if_neg (by simpa using h2)] at k
            exact k _ _ (Same.refl _) (.str _)
          · exact cont _ _ ⟨rfl, Same.refl _, if_pos (by simpa using h2)⟩
        | _ => cases h1
      · rw [eqv_str] at h1
        refine ⟨_, rfl, dw, .str "round", pw, .str _, hsw, by decide +kernel, _, rfl, ite2 (fun h2 => ?_) (fun h2 => ?_)⟩
        · rw [eqv_str] at h2
          cases dw with
          | str x =>
            have h2 := of_decide_eq_true h2
            subst h2
            rw [deedE_round] at k cont
            refine ⟨_, rfl, _, rfl, N, _, vt, n, ts, dt, rfl, hw, qt, fun u H1 s1 hu => ?_⟩
            refine ⟨rfl, _, rfl, ?_⟩
            rw [hu]
            refine ite2 (fun h3 => ?_) (fun h3 => ?_)
            · have h3 : isLotD ts.length dt = false := by simpa using h3
              rw [if_neg (by rw [h3, Bool.false_and]; decide)] at k
              exact k _ _ s1 (.str _)
            · have h3 : isLotD ts.length dt = true := by simpa using h3
              obtain ⟨e3, hA⟩ := isLot_lot h3
              have hp : Dp K H vt (lotD (lotOf dt)) := by
                rw [← e3]
                exact dx_dp _ (by rw [e3]; exact (lot_nodict _)) qt
              refine ⟨_, rfl, _, rfl, _, vt, n, ts, lotOf dt, rfl, dp_same s1 _ hw, dp_same s1 _ hp, hends, hn, hl, hA, fun H2 s2 => ?_⟩
              refine ⟨_, rfl, ite2 (fun h4 => ?_) (fun h4 => ?_)⟩
              · rw [if_neg (by rw [h3, Bool.true_and]; simpa using h4)] at k
                exact k _ _ (s1.trans s2) (.str _)
              · exact cont _ _ ⟨rfl, s1.trans s2, if_pos (by rw [h3, Bool.true_and]; simpa using h4)⟩
          | _ => cases h2
        · rw [eqv_str] at h2
          refine k (.str "form") _ (Same.refl _) ?_
          have e : deedE n ts (.tuple [dw, dt, dk]) = .str "form" := by
            cases dw with
            | str x => exact deedE_other (fun e => h1 (decide_eq_true e)) fun e => h2 (decide_eq_true e)
            | _ => exact deedE_word rfl
          rw [e]
          exact .str _
    rintro σ H1 ⟨rfl, s1, he⟩
    rw [he] at k
    refine tSeq_go ?_
    refine ⟨_, rfl, _, rfl, N, vk, dk, _, _, rfl, dx_same s1 qk, _, rfl, ite2 (fun h5 => ?_) (fun h5 => ?_)⟩
    · have h5 : intIn dk (-(10 ^ 30)) (10 ^ 30) = false := by simpa using h5
      exact k _ _ s1 (by unfold timesE; rw [if_neg (by rw [h5, Bool.false_and]; decide)]; exact .str _)
    · have h5 : intIn dk (-(10 ^ 30)) (10 ^ 30) = true := by simpa using h5
      obtain ⟨z, rfl⟩ := int_of h5
      cases qk
      refine ⟨_, rfl, rfl, _, rfl, ite2 (fun h6 => ?_) (fun h6 => ?_)⟩
      · have h6 : z = 0 := V.int.inj (of_decide_eq_true h6)
        exact k _ _ s1 (by unfold timesE; rw [if_neg (by rw [h6]; decide)]; exact .str _)
      · have h6 : ¬ z = 0 := fun e => h6 (decide_eq_true (by rw [e]))
        refine k _ _ s1 ?_
        unfold timesE
        rw [if_pos (by rw [h5, Bool.true_and]; show (!decide (z = 0)) = true; rw [decide_eq_false h6]; rfl)]
        exact .non
end
end BV

namespace BV
open PySem L2 RZ
/-- [1 for .. if p], walked to the place i -/
def OnesP (p : Nat → Bool) (i : Nat) (acc : List V) : Prop := ∃ m : Nat, acc = (List.replicate m (1 : Int)).map V.int ∧ m ≤ i ∧ (m = 0 ↔ ∀ j, j < i → p j = false)
theorem OnesP.zero {p : Nat → Bool} : OnesP p 0 [] := ⟨0, rfl, Nat.le_refl _, by simp⟩
theorem OnesP.len {p : Nat → Bool} {i : Nat} {acc : List V} (h : OnesP p i acc) : acc.length ≤ i := by
  obtain ⟨m, rfl, h1, _⟩ := h
  rw [List.length_map, List.length_replicate]
  exact h1
theorem OnesP.yes {p : Nat → Bool} {i : Nat} {acc : List V} (h : OnesP p i acc) (hp : p i = true) : OnesP p (i + 1) (acc ++ [.int 1]) := by
  obtain ⟨m, rfl, h1, _⟩ := h
  refine ⟨m + 1, ?_, by omega, ?_⟩
  · rw [List.replicate_succ', List.map_append]
    rfl
  · constructor
    · intro e
      omega
    · intro e
      rw [e i (by omega)] at hp
      cases hp
theorem OnesP.no {p : Nat → Bool} {i : Nat} {acc : List V} (h : OnesP p i acc) (hp : p i = false) : OnesP p (i + 1) acc := by
  obtain ⟨m, rfl, h1, h2⟩ := h
  refine ⟨m, rfl, by omega, ?_⟩
  rw [h2]
  constructor
  · intro e j hj
    by_cases q : j = i
    · rw [q]
      exact hp
    · exact e j (by omega)
  · intro e j hj
    exact e j (by omega)
/-- the list as data, and whether it is empty -/
theorem OnesP.data {K : PySem.W.Frag} {H : Hp} {p : Nat → Bool} {i : Nat} {acc : List V} {a : Addr} (h : OnesP p i acc) (ha : H a = some (.lst acc)) :
    ∃ d : PyData, Dp K H (.ref a) d ∧ SeqAt.shaped d = true ∧ (PyData.eqv d (.list []) = true ↔ ∀ j, j < i → p j = false) := by
  obtain ⟨m, rfl, h1, h2⟩ := h
  refine ⟨_, .lst (SqL.of ha) (dpAll_ints _), shaped_intsL _, ?_⟩
  rw [ones_eqv, decide_eq_true_eq]
  exact h2
theorem walk_zipS {K : PySem.W.Frag} {a b : Addr} {xs ys : List V} (hl : ys.length ≤ xs.length) :
    Walk (ItzT K a b) ys.length (fun H => SqT K H a xs ∧ SqT K H b ys) (YPair (fun i => xs[i]?) (fun i => ys[i]?)) := by
  refine ⟨fun i H hi q => ?_, fun H q => ⟨xs, ys, q.1, q.2, .inr (Nat.le_refl _)⟩, fun i H v H' _ q y => ?_⟩
  · have h2 : i < xs.length := by omega
    exact ⟨xs, ys, xs[i], ys[i], q.1, q.2, by simp [h2], by simp [hi]⟩
  · obtain ⟨T, x, z, h1, h2, h3, h4, h5⟩ := y
    exact ⟨T, x, z, h1, h2, h3, h4 xs q.1, h5 ys q.2⟩
theorem lotGo_adj {m : Nat} : ∀ (zs : List Int) (l : Int), lotGo m (zs.map PyData.int) l = true ↔ (∀ z ∈ zs, z < m) ∧ (∀ a, zs[0]? = some a → l ≤ a) ∧ ∀ (j : Nat) (a b : Int), zs[j]? = some a → zs[j + 1]? = some b → a < b
  | [], l => by simp [lotGo]
  | z :: zs, l => by
    have ih := lotGo_adj (m := m) zs (z + 1)
    have e : lotGo m ((z :: zs).map PyData.int) l = (decide (l ≤ z ∧ z ≤ m - 1) && lotGo m (zs.map PyData.int) (z + 1)) := rfl
    rw [e, Bool.and_eq_true, decide_eq_true_eq, ih]
    constructor
    · rintro ⟨⟨h1, h2⟩, h3, h4, h5⟩
      refine ⟨fun x hx => ?_, fun a ha => ?_, fun j a b ha hb => ?_⟩
      · rcases List.mem_cons.mp hx with q | q
        · rw [q]
          omega
        · exact h3 x q
      · have : z = a := by simpa using ha
        omega
      · cases j with
        | zero =>
          have : z = a := by simpa using ha
          have := h4 b (by simpa using hb)
          omega
        | succ j => exact h5 j a b (by simpa using ha) (by simpa using hb)
    · rintro ⟨h1, h2, h3⟩
      have hz := h1 z (List.mem_cons_self ..)
      refine ⟨⟨h2 z rfl, by omega⟩, fun x hx => h1 x (List.mem_cons_of_mem _ hx), fun a ha => ?_, fun j a b ha hb => h3 (j + 1) a b (by simpa using ha) (by simpa using hb)⟩
      have := h3 0 z a rfl (by simpa using ha)
      omega
theorem ints_of : ∀ {ds : List PyData} {lo hi : Int}, (∀ (j : Nat) (d : PyData), ds[j]? = some d → intIn d lo hi = true) → ∃ zs : List Int, ds = zs.map PyData.int ∧ ∀ z ∈ zs, lo ≤ z ∧ z ≤ hi
  | [], _, _, _ => ⟨[], rfl, by simp⟩
  | d :: ds, lo, hi, h => by
    obtain ⟨zs, rfl, hz⟩ := ints_of (ds := ds) (lo := lo) (hi := hi) fun j e he => h (j + 1) e (by simpa using he)
    have h0 := h 0 d rfl
    obtain ⟨z, rfl⟩ := int_of h0
    refine ⟨z :: zs, rfl, fun x hx => ?_⟩
    rcases List.mem_cons.mp hx with e | e
    · rw [e]
      exact of_decide_eq_true h0
    · exact hz x e
theorem dx_ints {K : PySem.W.Frag} {H : Hp} {N : Addr → Prop} : ∀ {zs : List Int} {xs : List V}, DxAll K H N xs (zs.map PyData.int) → xs = zs.map V.int
  | [], _, h => by
    cases h
    rfl
  | z :: zs, _, h => by
    cases h with
    | cons h1 h2 =>
      cases h1
      rw [List.map_cons, dx_ints h2]
theorem dx_three {K : PySem.W.Frag} {H : Hp} {N : Addr → Prop} {xs : List V} {a b c : PyData} (h : DxAll K H N xs [a, b, c]) : ∃ x y z, xs = [x, y, z] ∧ Dx K H N x a ∧ Dx K H N y b ∧ Dx K H N z c := by
  cases h with
  | cons h1 h2 =>
    cases h2 with
    | cons h3 h4 =>
      cases h4 with
      | cons h5 h6 =>
        cases h6
        exact ⟨_, _, _, rfl, h1, h3, h5⟩
theorem lot_ints_iff {m : Nat} {zs : List Int} : isLotD m (.tuple (zs.map PyData.int)) = true ↔ (∀ z ∈ zs, 0 ≤ z ∧ z < m) ∧ ∀ (j : Nat) (a b : Int), zs[j]? = some a → zs[j + 1]? = some b → a < b := by
  constructor
  · intro h
    obtain ⟨h1, _, h3⟩ := (lotGo_adj zs 0).mp h
    obtain ⟨ks, hk, _, _⟩ := lotGo_lot (Int.le_refl 0) h
    refine ⟨fun z hz => ⟨?_, h1 z hz⟩, h3⟩
    have : PyData.int z ∈ zs.map PyData.int := List.mem_map_of_mem hz
    rw [hk] at this
    obtain ⟨k, _, e⟩ := List.mem_map.mp this
    have := PyData.int.inj e
    omega
  · rintro ⟨h1, h2⟩
    exact (lotGo_adj zs 0).mpr ⟨fun z hz => (h1 z hz).2, fun a ha => (h1 a (List.mem_of_getElem? ha)).1, h2⟩
end BV

namespace BV
open PySem L2 RZ
abbrev sNum : Stmt := top 29
abbrev nNum : List Str := ["_law_thing", "_law_most"]
abbrev pNum : List Str := ["_law_thing", "_law_most"]
theorem scNum : FnScope nNum pNum (defScope sNum) := ⟨rfl, rfl, rfl, by decide +kernel, rfl, by decide +kernel, by decide +kernel⟩
abbrev sLserr : Stmt := top 30
abbrev nLserr : List Str := ["_law_web_here", "_law_thing", "_law_place", "_law_item"]
abbrev pLserr : List Str := ["_law_web_here", "_law_thing"]
theorem scLserr : FnScope nLserr pLserr (defScope sLserr) := ⟨rfl, rfl, rfl, by decide +kernel, rfl, by decide +kernel, by decide +kernel⟩
abbrev sIslot : Stmt := top 31
abbrev nIslot : List Str := ["_law_web_here", "_law_thing", "_law_inner", "_law_item", "_law_one", "_law_two"]
abbrev pIslot : List Str := ["_law_web_here", "_law_thing"]
theorem scIslot : FnScope nIslot pIslot (defScope sIslot) := ⟨rfl, rfl, rfl, by decide +kernel, rfl, by decide +kernel, by decide +kernel⟩
abbrev sLderr : Stmt := top 32
abbrev nLderr : List Str := ["_law_web_here", "_law_thing", "_law_word", "_law_about_here", "_law_times"]
abbrev pLderr : List Str := ["_law_web_here", "_law_thing"]
theorem scLderr : FnScope nLderr pLderr (defScope sLderr) := ⟨rfl, rfl, rfl, by decide +kernel, rfl, by decide +kernel, by decide +kernel⟩
def spNum (K : PySem.W.Frag) : Sp := fun vs H Q _ => ∃ (N : Addr → Prop) (x : V) (d : PyData) (m : Int), vs = [x, .int m] ∧ Dx K H N x d ∧ Q (.bl (intIn d (-m) m)) H
def spIslot (K : PySem.W.Frag) : Sp := fun vs H Q _ => ∃ (N : Addr → Prop) (v x : V) (n : Nat) (ts : List Tie) (d : PyData), vs = [v, x] ∧ Dp K H v (webD n ts) ∧ Dx K H N x d ∧ ts.length ≤ 60 ∧ (∀ ds, d = .tuple ds → ds.length ≤ 1000) ∧
  ∀ H', Same H H' → Q (.bl (isLotD ts.length d)) H'
def spLderr (K : PySem.W.Frag) : Sp := fun vs H Q _ => ∃ (N : Addr → Prop) (v x : V) (n : Nat) (ts : List Tie) (d : PyData), vs = [v, x] ∧ Dp K H v (webD n ts) ∧ Dx K H N x d ∧ (∀ t ∈ ts, t.1 < t.2 ∧ t.2 < n) ∧ n ≤ 100 ∧ ts.length ≤ 60 ∧
  (∀ w ds k, d = .tuple [w, .tuple ds, k] → ds.length ≤ 1000) ∧ ∀ (u : V) H', Same H H' → Dp K H' u (deedE n ts d) → Q u H'
section
variable {P : Program} {w : World} {K : PySem.W.Frag} {mg : Str → Option Value} {base : Heap}
theorem ok_num {f : Addr} {fd : FuncData} (D : Df K mg "_law_is_number" sNum pNum f fd) (T : Bl mg) (hisinstance : mg "isinstance" = none) (hbool : mg "bool" = none) : FnOk P w K mg base CX0 1 f fd pNum (spNum K) := by
  refine D.fn.ok scNum (fun vs H Q E h => ?_) (fun cdv A outer s H vs Q E hr h => ?_)
  · obtain ⟨N, x, d, m, rfl, _⟩ := h
    rfl
  · obtain ⟨N, x, d, m, rfl, hx, k⟩ := h
    have nd := scNum.nd
    refine ⟨_, (pss_one (ps_ret (pe_and (pe_callB (isiY K) (by rfl) hisinstance (by decide +kernel) (pa_cons (pv 0) (pa_cons (pe_bltn (v := .ty "int") (by rfl) T.int (by decide +kernel) rfl) pa_nil))) (pe_and (pe_not (pe_callB (isiY K) (by rfl) hisinstance (by decide +kernel) (pa_cons (pv 0) (pa_cons (pe_bltn (v := .ty "bool") (by rfl) hbool (by decide +kernel) rfl) pa_nil)))) (pe_one (pe_cmpR op_le (pe_callB call_abs (by rfl) T.abs (by decide +kernel) (pa_cons (pv 0) pa_nil)) (pv 1) (nomark _))))))), ?_⟩
    refine ⟨_, rfl, N, x, d, "int", _, rfl, hx, kit_int d, ?_⟩
    refine ⟨_, rfl, ite2 (fun hh => ?_) (fun hh => ?_)⟩
    · refine ⟨_, rfl, N, x, d, "bool", _, rfl, hx, kit_bool d, ?_⟩
      refine ⟨_, rfl, _, rfl, ite2 (fun h2 => ?_) (fun h2 => ?_)⟩
      · cases d with
        | int i =>
          cases hx
          refine ⟨_, rfl, i, rfl, _, rfl, _, _, rfl, rfl, ?_⟩
          have e : intIn (.int i) (-m) m = decide ((if i < 0 then -i else i) ≤ m) := decide_eq_decide.mpr (by split <;> omega)
          rw [e] at k
          exact k
        | bool z => cases h2
        | _ => cases hh
      · have e : intIn d (-m) m = false := by cases d <;> simp_all [isBool, isIntB, intIn]
        rw [e] at k
        exact k
    · have e : intIn d (-m) m = false := by cases d <;> simp_all [isIntB, intIn]
      rw [e] at k
      exact k
theorem ok_lserr {f f1 : Addr} {fd fd1 : FuncData} (D : Df K mg "_law_standing_error" sLserr pLserr f fd) (T : Bl mg) (hisinstance : mg "isinstance" = none) (hbool : mg "bool" = none)
    (D_num : Df K mg "_law_is_number" sNum pNum f1 fd1) : FnOk P w K mg base CX0 2 f fd pLserr (spSerr K) := by
  have G_num : FnOk P w K mg base CX0 1 f1 fd1 pNum (spNum K) := ok_num D_num T hisinstance hbool
  refine D.fn.ok scLserr (fun vs H Q E h => ?_) (fun cdv A outer s H vs Q E hr h => ?_)
  · obtain ⟨N, v, x, n, ts, d, rfl, _⟩ := h
    rfl
  · obtain ⟨N, v, x, n, ts, d, rfl, hw, hd, k⟩ := h
    have hr_num : Room 1 _ := hr
    have nd := scLserr.nd
    obtain ⟨a, c, ys, rfl, ha, hc, hys⟩ := dp_web hw
    have hyl : ys.length = ts.length := by rw [dpAll_len hys, List.length_map]
    refine ⟨_, (pss_cons (ps_if (PW.pt (pw_or (pt_not (pt_val (pe_callB (isiY K) (by rfl) hisinstance (by decide +kernel) (pa_cons (pv 1) (pa_cons (pe_bltn (v := .ty "tuple") (by rfl) T.tuple (by decide +kernel) rfl) pa_nil))))) (pw_or1 (pt_cmpR op_ne (pe_callB (lenK K) (by rfl) T.len PySem.boot_len (pa_cons (pv 1) pa_nil)) (pe_callB (lenK K) (by rfl) T.len PySem.boot_len (pa_cons (pe_ix (ixT K) (pv 0) pe_int (fun _ _ => rfl)) pa_nil)) (nomark _))))) (pss_one (ps_ret pe_str)) pss_nil)
      (pss_cons (ps_for PassesOwn.never rfl (enumT K (by rfl) T.enumerate (pa_cons (pv 1) pa_nil)) (pgT K rfl (pgs_cons (pg_name (i := 2) nd rfl (by first | exact Or.inl rfl | exact Or.inr rfl)) (pgs_cons (pg_name (i := 3) nd rfl (by first | exact Or.inl rfl | exact Or.inr rfl)) pgs_nil))) (pss_one (ps_if (pt_not (pt_val (pe_call G_num hr_num (by rfl) D_num.ad D_num.fn.kp D_num.bd .nil pass0 (pa_cons (pv 3) (pa_cons (pe_op op_pow pe_int pe_int) pa_nil))))) (pss_one (ps_ret (pe_tup (pa_cons pe_str (pa_cons (pv 2) pa_nil))))) pss_nil)))
      (pss_one (ps_ret pe_non)))), ?_⟩
    refine tSeq_go ?_
    refine ⟨_, rfl, N, x, d, "tuple", _, rfl, hd, kit_tup d, _, rfl, ite2 (fun hh => ?_) (fun hh => ?_)⟩
    · refine iteT ?_
      exact k (.str "form") H (Same.refl _) (by rw [stE_row (by cases d <;> simp_all [isRow, isTup])]; exact .str _)
    obtain ⟨ds, rfl⟩ := tup_of (d := d) (by simpa using hh)
    obtain ⟨ax, xs, rfl, hax, hxs⟩ := dx_tup hd
    have hxl : xs.length = ds.length := dxAll_len hxs
    refine ⟨_, rfl, ax, xs, rfl, .inr hax, _, rfl, a, _, _, _, rfl, rfl, ha, atI_nat (j := 1) rfl, c, ys, rfl, .inr hc, rfl, _, rfl, ite2 (fun h2 => ?_) (fun h2 => ?_)⟩
    · have h2 : ¬ xs.length = ys.length := fun e => by rw [e] at h2; simp at h2
      exact k (.str "form") H (Same.refl _) (by rw [stE_row (show isRow (.tuple ds) (ts.length : Int) = false from decide_eq_false (by omega))]; exact .str _)
    have hdl : ds.length = ts.length := by
      have h2 : xs.length = ys.length := Classical.byContradiction fun e => h2 (by simp; omega)
      omega
    rw [← hdl] at k
    dsimp only [tNext]
    refine tSeq_go ?_
    refine ⟨_, rfl, ax, xs, rfl, hax, ?_⟩
    refine for_it (walk_enumT (xs := xs)) (fun i σ H' => ∃ (v3 v4 : Option V), σ = [some (.ref a), some (.ref ax), v3, v4] ∧ Same H H' ∧
      ∀ j e, j < i → ds[j]? = some e → numOk e = true) ?_ ?_ ?_ ?_
    · exact ⟨none, none, rfl, Same.refl _, fun j e hj => absurd hj (Nat.not_lt_zero _)⟩
    · rintro i σ H' _ ⟨v3, v4, rfl, sH, _⟩
      exact sqT_same sH hax
    · rintro i x σ H' H3 hi ⟨v3, v4, rfl, sH, hall⟩ ⟨q, y, z, rfl, hq, rfl, hy, hz⟩
      have hy' : some (V.int i) = some y := hy
      cases hy'
      have hz' : xs[i]? = some z := hz
      obtain ⟨dd, hdd, hzd⟩ := dxAll_get hxs hz'
      have sq := same_new (o := .tup [.int i, z]) hq
      have s3 := sH.trans sq
      refine ⟨q, _, rfl, SqT.of upd_same, rfl, _, _, rfl, _, _, rfl, rfl, ?_⟩
      refine ⟨_, rfl, 10, 12, rfl, rfl, ⟨by decide, by decide, by decide⟩, N, z, dd, _, rfl, dx_same s3 hzd, _, rfl, ?_⟩
      refine ite2 (fun hh2 => ?_) (fun hh2 => ?_)
      · have hb : numOk dd = false := by simpa [numOk] using hh2
        refine ⟨_, rfl, by show 2 ≤ sizeLine; decide, fun p hp => ?_⟩
        have sp := same_new (o := .tup [.str "item", .int i]) hp
        exact k (.ref p) _ (s3.trans sp) (by rw [stE_item (badP_first hall hdd hb)]; exact .tup (SqT.of upd_same) (.cons (.str _) (.cons (.int _) .nil)))
      · have hb : numOk dd = true := by simpa [numOk] using hh2
        refine ⟨_, _, rfl, s3, fun j e2 hj hj2 => ?_⟩
        by_cases ej : j = i
        · subst ej
          rw [hdd] at hj2
          cases hj2
          exact hb
        · exact hall j e2 (by omega) hj2
    · rintro σ H' ⟨v3, v4, rfl, sH, hall⟩
      have hall' : ∀ d ∈ ds, numOk d = true := fun d hd => by
        obtain ⟨j, hj⟩ := List.getElem?_of_mem hd
        exact hall j d (by rw [hxl]; exact (List.getElem?_eq_some_iff.mp hj).1) hj
      exact k .non H' sH (by rw [stE_none (badP_none hall')]; exact .non)
theorem ok_islot {f f1 : Addr} {fd fd1 : FuncData} (D : Df K mg "_law_is_lot" sIslot pIslot f fd) (T : Bl mg) (hisinstance : mg "isinstance" = none) (hbool : mg "bool" = none) (hzip : mg "zip" = none)
    (D_num : Df K mg "_law_is_number" sNum pNum f1 fd1) : FnOk P w K mg base CX0 2 f fd pIslot (spIslot K) := by
  have G_num : FnOk P w K mg base CX0 1 f1 fd1 pNum (spNum K) := ok_num D_num T hisinstance hbool
  refine D.fn.ok scIslot (fun vs H Q E h => ?_) (fun cdv A outer s H vs Q E hr h => ?_)
  · obtain ⟨N, v, x, n, ts, d, rfl, _⟩ := h
    rfl
  · obtain ⟨N, v, x, n, ts, d, rfl, hw, hd, hL, hlen, k⟩ := h
    have hr_num : Room 1 _ := hr
    have nd := scIslot.nd
    obtain ⟨a, c, ys, rfl, ha, hc, hys⟩ := dp_web hw
    have hyl : ys.length = ts.length := by rw [dpAll_len hys, List.length_map]
    refine ⟨_, (pss_cons (ps_if (PW.pt (pw_or (pt_not (pt_val (pe_callB (isiY K) (by rfl) hisinstance (by decide +kernel) (pa_cons (pv 1) (pa_cons (pe_bltn (v := .ty "tuple") (by rfl) T.tuple (by decide +kernel) rfl) pa_nil))))) (pw_or1 (pt_cmpR (opNeD K hr.units) (pe_lc (own := [("_law_item", 3)]) (g := (gName 3)) rfl nd (piT K (pv 1)) (blkOk_by (own := [("_law_item", 3)]) (N := nIslot) (sc := defScope sIslot) (by decide +kernel)) (fun _ _ _ _ _ => (pg_name (i := 3) nd rfl (by first | exact Or.inl rfl | exact Or.inr rfl))) (fun _ _ _ _ _ => (pts_one (pt_not (pt_val (pe_call G_num hr_num (by rfl) D_num.ad D_num.fn.kp D_num.bd .nil pass0 (pa_cons (pv 3) (pa_cons pe_int pa_nil))))))) (fun _ _ _ _ _ => pe_int)) (pe_lst pa_nil) (nomark _))))) (pss_one (ps_ret pe_bl)) pss_nil)
      (pss_cons (ps_setLc (i := 2) (own := [("_law_item", 3)]) (g := (gName 3)) rfl nd rfl rfl (sw_true rfl rfl rfl (by decide +kernel)) (piT K (pv 1)) (blkOk_by (own := [("_law_item", 3)]) (N := nIslot) (sc := defScope sIslot) (by decide +kernel)) (fun _ _ _ _ _ => (pg_name (i := 3) nd rfl (by first | exact Or.inl rfl | exact Or.inr rfl))) (fun _ _ _ _ _ => (pts_one (PW.pt (pw_or (pt_cmpR op_lt (pv 3) pe_int (nomark _)) (pw_or1 (pt_cmpR op_ge (pv 3) (pe_callB (lenK K) (by rfl) T.len PySem.boot_len (pa_cons (pe_ix (ixT K) (pv 0) pe_int (fun _ _ => rfl)) pa_nil)) (nomark _))))))) (fun _ _ _ _ _ => pe_int))
      (pss_one (ps_ret (pe_and (pe_cmpR (opEqD K hr.units) (pv 2) (pe_lst pa_nil) (nomark _)) (pe_one (pe_cmpR (opEqD K hr.units) (pe_lc (own := [("_law_one", 4), ("_law_two", 5)]) (g := (gTup K 2 (gCons (gName 4) (gCons (gName 5) gNil)))) rfl nd (zipA K (by rfl) hzip (pa_cons (pv 1) (pa_cons (pe_slice (slTA K) (pv 1) (po_some pe_int) po_none) pa_nil))) (blkOk_by (own := [("_law_one", 4), ("_law_two", 5)]) (N := nIslot) (sc := defScope sIslot) (by decide +kernel)) (fun _ _ _ _ _ => (pgT K rfl (pgs_cons (pg_name (i := 4) nd rfl (by first | exact Or.inl rfl | exact Or.inr rfl)) (pgs_cons (pg_name (i := 5) nd rfl (by first | exact Or.inl rfl | exact Or.inr rfl)) pgs_nil)))) (fun _ _ _ _ _ => (pts_one (pt_cmpR op_ge (pv 4) (pv 5) (nomark _)))) (fun _ _ _ _ _ => pe_int)) (pe_lst pa_nil) (nomark _)))))))), ?_⟩
    refine tSeq_go ?_
    refine ⟨_, rfl, N, x, d, "tuple", _, rfl, hd, kit_tup d, _, rfl, ite2 (fun hh => ?_) (fun hh => ?_)⟩
    · refine iteT ?_
      have e : isLotD ts.length d = false := by cases d <;> simp_all [isLotD, isTup]
      have k' := k H (Same.refl _)
      rw [e] at k'
      exact k'
    obtain ⟨ds, rfl⟩ := tup_of (d := d) (by simpa using hh)
    have hdl := hlen ds rfl
    obtain ⟨ax, xs, rfl, hax, hxs⟩ := dx_tup hd
    have hxl : xs.length = ds.length := dxAll_len hxs
    refine ⟨_, rfl, ax, rfl, ⟨xs, hax⟩, fun E1 hE1 => ?_⟩
    refine lc_run (walk_tup (xs := xs)) hE1 (fun i acc _ => OnesP (fun j => match ds[j]? with | some e => !intIn e (-100) 100 | none => false) i acc) ?_ ?_ ?_ ?_
    · exact fun H' s => sqT_same s hax
    · exact OnesP.zero
    · rintro i x acc H2 H' hi hacc e s ho ⟨rfl, hx⟩
      obtain ⟨dd, hdd, hzd⟩ := dxAll_get hxs hx
      refine ⟨rfl, _, rfl, N, x, dd, 100, rfl, dx_same s hzd, _, rfl, ?_⟩
      have hp : (match ds[i]? with | some e => !intIn e (-100) 100 | none => false) = !intIn dd (-100) 100 := by rw [hdd]
      refine ite2 (fun hh => ?_) (fun hh => ?_)
      · exact lc_add hacc e (Same.refl _) (by have := ho.len; omega) (ho.yes (by rw [hp]; exact hh))
      · exact lc_skip hacc e (Same.refl _) (ho.no (by rw [hp]; simpa using hh))
    · rintro acc H2 h1 s2 ho
      refine ⟨Nat.zero_le _, fun p hp => ?_⟩
      have sp : Same H2 (upd H2 p (.lst [])) := same_new hp
      obtain ⟨dd, q1, q2, q3⟩ := OnesP.data (K := K) ho (sp _ _ h1)
      refine ⟨dd, .list [], q1, .lst (SqL.of upd_same) .nil, q2, shaped_intsL [], _, rfl, ite2 (fun hb => ?_) (fun hb => ?_)⟩
      · have hb : ¬ (PyData.eqv dd (.list []) = true) := by simpa using hb
        have e : isLotD ts.length (.tuple ds) = false := by
          rw [← Bool.not_eq_true]
          intro hl
          obtain ⟨e1, hA⟩ := isLot_lot hl
          refine hb (q3.mpr fun j hj => ?_)
          have e2 : ds = (lotOf (.tuple ds)).map fun (k : Nat) => PyData.int k := PyData.tuple.inj e1
          cases hj2 : ds[j]? with
          | none => rfl
          | some dd =>
            rw [e2, List.getElem?_map] at hj2
            obtain ⟨kk, hk, rfl⟩ := Option.map_eq_some_iff.mp hj2
            have := hA.2 kk (List.mem_of_getElem? hk)
            show (!decide ((-100 : Int) ≤ (kk : Int) ∧ (kk : Int) ≤ 100)) = false
            rw [decide_eq_true (by omega)]
            rfl
        have k' := k _ (s2.trans sp)
        rw [e] at k'
        exact k'
      · have hb : PyData.eqv dd (.list []) = true := by simpa using hb
        have hall := q3.mp hb
        obtain ⟨zs, rfl, hz⟩ := ints_of (ds := ds) (lo := -100) (hi := 100) fun j e he => by
          have hj : j < ds.length := (List.getElem?_eq_some_iff.mp he).1
          have := hall j (by omega)
          rw [he] at this
          simpa using this
        have exs := dx_ints hxs
        subst exs
        clear hall q3 q2 q1 ho hb
        have s3 := s2.trans sp
        generalize upd H2 p (.lst []) = H3 at *
        dsimp only [tNext]
        refine tSeq_go ?_
        refine ⟨_, rfl, ax, rfl, ⟨_, sqT_same s3 hax⟩, fun E2 hE2 => ?_⟩
        refine lc_run (walk_tup (xs := zs.map V.int)) hE2 (fun i acc _ => OnesP (fun j => match zs[j]? with | some z => decide (z < 0 ∨ (ts.length : Int) ≤ z) | none => false) i acc) ?_ ?_ ?_ ?_
        · exact fun H' s => sqT_same (s3.trans s) hax
        · exact OnesP.zero
        · rintro i x acc H2 H' hi hacc e s ho ⟨rfl, hx⟩
          obtain ⟨z, hzi, rfl⟩ := ints_at hx
          have s5 := s3.trans s
          have hp : (match zs[i]? with | some z => decide (z < 0 ∨ (ts.length : Int) ≤ z) | none => false) = decide (z < 0 ∨ (ts.length : Int) ≤ z) := by rw [hzi]
          rw [List.length_map] at hi hxl
          refine ⟨rfl, ?_⟩
          refine ⟨_, rfl, _, _, rfl, rfl, _, rfl, ite2 (fun hh => ?_) (fun hh => ?_)⟩
          · have hh := of_decide_eq_true hh
            exact lc_add hacc e (Same.refl _) (by have := ho.len; omega) (ho.yes (by rw [hp]; exact decide_eq_true (.inl hh)))
          · have hh : ¬ z < 0 := fun q => hh (decide_eq_true q)
            refine ⟨_, rfl, _, rfl, a, _, _, _, rfl, rfl, sqT_same s5 ha, atI_nat (j := 1) rfl, c, ys, rfl, .inr (sqT_same s5 hc), _, _, rfl, rfl, _, rfl, ite2 (fun h2 => ?_) (fun h2 => ?_)⟩
            · have h2 := of_decide_eq_true h2
              exact lc_add hacc e (Same.refl _) (by have := ho.len; omega) (ho.yes (by rw [hp]; exact decide_eq_true (.inr (by omega))))
            · have h2 : ¬ ((ys.length : Nat) : Int) ≤ z := fun q => h2 (decide_eq_true q)
              exact lc_skip hacc e (Same.refl _) (ho.no (by rw [hp]; exact decide_eq_false (by omega)))
        · rintro acc H4 h1 s4 ho
          dsimp only [gName]
          refine at_st [some (.ref a), some (.ref ax), some (.ref E2), none, none, none] rfl ?_
          rw [List.length_map] at ho
          have s5 := s3.trans s4
          refine ⟨_, rfl, Nat.zero_le _, fun p3 hp3 => ?_⟩
          have s6 : Same H4 (upd H4 p3 (.lst [])) := same_new hp3
          obtain ⟨dd, q1, q2, q3⟩ := OnesP.data (K := K) ho (s6 _ _ h1)
          refine ⟨dd, .list [], q1, .lst (SqL.of upd_same) .nil, q2, shaped_intsL [], _, rfl, ite2 (fun hb => ?_) (fun hb => ?_)⟩
          · have hall := q3.mp hb
            have hall : ∀ z ∈ zs, 0 ≤ z ∧ z < ts.length := fun z hz => by
              obtain ⟨j, hj⟩ := List.getElem?_of_mem hz
              have := hall j (List.getElem?_eq_some_iff.mp hj).1
              rw [hj] at this
              have := of_decide_eq_false this
              omega
            have s7 := s5.trans s6
            clear q1 q2 q3 ho
            generalize upd H4 p3 (.lst []) = H5 at *
            refine ⟨_, rfl, _, rfl, 1, rfl, ?_⟩
            dsimp only [tNoPart]
            refine slA_by rfl (sqT_same s7 hax) fun c1 H6 s8 hc1 => ?_
            have ecut : cutV (zs.map V.int) (some 1) none = (zs.map V.int).drop 1 := cut_lo (zs.map V.int) 1
            rw [ecut] at hc1
            have hax8 := sqT_same (s7.trans s8) hax
            refine ⟨ax, c1, _, _, rfl, .inr ⟨hax8, hc1, fun E3 hE3 => ?_⟩⟩
            refine lc_run (walk_zipS (xs := zs.map V.int) (ys := (zs.map V.int).drop 1) (by rw [List.length_drop]; omega)) hE3 (fun i acc _ => OnesP (fun j => match zs[j]?, zs[j + 1]? with | some a, some b => decide (b ≤ a) | _, _ => false) i acc) ?_ ?_ ?_ ?_
            · exact fun H' s => ⟨sqT_same s hax8, sqT_same s hc1⟩
            · exact OnesP.zero
            · rintro i x acc H2 H' hi hacc e s ho ⟨q, y, z, rfl, hq, rfl, hy, hz⟩
              have hy' : (zs.map V.int)[i]? = some y := hy
              have hz' : ((zs.map V.int).drop 1)[i]? = some z := hz
              rw [List.getElem?_drop] at hz'
              obtain ⟨y0, hy0, rfl⟩ := ints_at hy'
              obtain ⟨z0, hz0, rfl⟩ := ints_at hz'
              rw [Nat.add_comm] at hz0
              have sq : Same H2 (upd H2 q (.tup [.int y0, .int z0])) := same_new hq
              have hp : (match zs[i]?, zs[i + 1]? with | some a, some b => decide (b ≤ a) | _, _ => false) = decide (z0 ≤ y0) := by rw [hy0, hz0]
              rw [List.length_drop, List.length_map] at hi
              rw [List.length_map, List.length_map] at hxl
              rw [List.length_map] at hdl
              refine ⟨q, _, rfl, SqT.of upd_same, rfl, _, _, rfl, _, _, rfl, rfl, rfl, ?_⟩
              refine ⟨_, rfl, _, rfl, _, _, rfl, rfl, _, rfl, ite2 (fun hh => ?_) (fun hh => ?_)⟩
              · exact lc_add hacc e sq (by have := ho.len; omega) (ho.yes (by rw [hp]; exact hh))
              · exact lc_skip hacc e sq (ho.no (by rw [hp]; simpa using hh))
            · rintro acc H7 h1 s9 ho
              refine ⟨Nat.zero_le _, fun p4 hp4 => ?_⟩
              have s10 : Same H7 (upd H7 p4 (.lst [])) := same_new hp4
              obtain ⟨dd, q1, q2, q3⟩ := OnesP.data (K := K) ho (s10 _ _ h1)
              refine ⟨dd, .list [], q1, .lst (SqL.of upd_same) .nil, q2, shaped_intsL [], ?_⟩
              have e : PyData.eqv dd (.list []) = isLotD ts.length (.tuple (zs.map PyData.int)) := by
                rw [Bool.eq_iff_iff, q3, lot_ints_iff]
                constructor
                · intro h
                  refine ⟨hall, fun j a b ha hb => ?_⟩
                  have hj := (List.getElem?_eq_some_iff.mp hb).1
                  have := h j (by rw [List.length_drop, List.length_map]; omega)
                  rw [ha, hb] at this
                  have := of_decide_eq_false this
                  omega
                · rintro ⟨_, h⟩ j hj
                  rw [List.length_drop, List.length_map] at hj
                  have e1 := List.getElem?_eq_getElem (l := zs) (i := j) (by omega)
                  have e2 := List.getElem?_eq_getElem (l := zs) (i := j + 1) (by omega)
                  have := h j _ _ e1 e2
                  rw [e1, e2]
                  exact decide_eq_false (by omega)
              rw [e]
              exact k _ (s7.trans (s8.trans (s9.trans s10)))
          · have hb : ¬ (PyData.eqv dd (.list []) = true) := hb
            have e : isLotD ts.length (.tuple (zs.map PyData.int)) = false := by
              rw [← Bool.not_eq_true, lot_ints_iff]
              rintro ⟨h, _⟩
              refine hb (q3.mpr fun j hj => ?_)
              have e1 := List.getElem?_eq_getElem (l := zs) (i := j) hj
              have := h _ (List.mem_of_getElem? e1)
              rw [e1]
              exact decide_eq_false (by omega)
            have k' := k _ (s5.trans s6)
            rw [e] at k'
            exact k'
theorem ok_lderr {f f1 f2 f3 f4 : Addr} {fd fd1 fd2 fd3 fd4 : FuncData} (D : Df K mg "_law_deed_error" sLderr pLderr f fd) (T : Bl mg) (hisinstance : mg "isinstance" = none) (hbool : mg "bool" = none) (hzip : mg "zip" = none) (hlist : mg "list" = none) (hstr : mg "str" = none)
    (D_num : Df K mg "_law_is_number" sNum pNum f1 fd1) (D_islot : Df K mg "_law_is_lot" sIslot pIslot f2 fd2) (D_counts : Df K mg "_law_counts" sCounts pCounts f3 fd3) (D_isr : Df K mg "_law_is_round" sIsr pIsr f4 fd4) : FnOk P w K mg base CX0 3 f fd pLderr (spLderr K) := by
  have G_num : FnOk P w K mg base CX0 1 f1 fd1 pNum (spNum K) := ok_num D_num T hisinstance hbool
  have G_islot : FnOk P w K mg base CX0 2 f2 fd2 pIslot (spIslot K) := ok_islot D_islot T hisinstance hbool hzip D_num
  have G_isr : FnOk P w K mg base CX0 2 f4 fd4 pIsr (spIsr K) := ok_isr D_isr T hlist D_counts
  refine D.fn.ok scLderr (fun vs H Q E h => ?_) (fun cdv A outer s H vs Q E hr h => ?_)
  · obtain ⟨N, v, x, n, ts, d, rfl, _⟩ := h
    rfl
  · obtain ⟨N, v, x, n, ts, d, rfl, hw, hd, hends, hn, hl, hlen, k⟩ := h
    have hr_num : Room 1 _ := hr.mono (by decide)
    have hr_islot : Room 2 _ := hr
    have hr_isr : Room 2 _ := hr
    have nd := scLderr.nd
    obtain ⟨a, c, ys, rfl, ha, hc, hys⟩ := dp_web hw
    refine ⟨_, (pss_cons (ps_if (PW.pt (pw_or (pt_not (pt_val (pe_callB (isiY K) (by rfl) hisinstance (by decide +kernel) (pa_cons (pv 1) (pa_cons (pe_bltn (v := .ty "tuple") (by rfl) T.tuple (by decide +kernel) rfl) pa_nil))))) (pw_or (pt_cmpR op_ne (pe_callB (lenK K) (by rfl) T.len PySem.boot_len (pa_cons (pv 1) pa_nil)) pe_int (nomark _)) (pw_or1 (pt_not (pt_val (pe_callB (isiY K) (by rfl) hisinstance (by decide +kernel) (pa_cons (pe_ix (ixT K) (pv 1) pe_int (fun _ _ => rfl)) (pa_cons (pe_bltn (v := .ty "str") (by rfl) hstr (by decide +kernel) rfl) pa_nil))))))))) (pss_one (ps_ret pe_str)) pss_nil)
      (pss_cons (ps_asg (pv 1) (pgT K rfl (pgs_cons (pg_name (i := 2) nd rfl (by first | exact Or.inl rfl | exact Or.inr rfl)) (pgs_cons (pg_name (i := 3) nd rfl (by first | exact Or.inl rfl | exact Or.inr rfl)) (pgs_cons (pg_name (i := 4) nd rfl (by first | exact Or.inl rfl | exact Or.inr rfl)) pgs_nil)))))
      (pss_cons (ps_if (pt_cmpR (opNotIn K) (pv 2) (pe_tup (pa_cons pe_str (pa_cons pe_str pa_nil))) rfl) (pss_one (ps_ret pe_str)) pss_nil)
      (pss_cons (ps_if (PW.pt (pw_and (pt_cmpR op_eq (pv 2) pe_str (nomark _)) (pw_and1 (PW.pt (pw_or (pt_not (pt_val (pe_call G_num hr_num (by rfl) D_num.ad D_num.fn.kp D_num.bd .nil pass0 (pa_cons (pv 3) (pa_cons pe_int pa_nil))))) (pw_or (pt_cmpR op_lt (pv 3) pe_int (nomark _)) (pw_or1 (pt_cmpR op_ge (pv 3) (pe_ix (ixT K) (pv 0) pe_int (fun _ _ => rfl)) (nomark _))))))))) (pss_one (ps_ret pe_str)) pss_nil)
      (pss_cons (ps_if (PW.pt (pw_and (pt_cmpR op_eq (pv 2) pe_str (nomark _)) (pw_and1 (PW.pt (pw_or (pt_not (pt_val (pe_call G_islot hr_islot (by rfl) D_islot.ad D_islot.fn.kp D_islot.bd .nil pass0 (pa_cons (pv 0) (pa_cons (pv 3) pa_nil))))) (pw_or1 (pt_not (pt_val (pe_call G_isr hr_isr (by rfl) D_isr.ad D_isr.fn.kp D_isr.bd .nil pass0 (pa_cons (pv 0) (pa_cons (pv 3) pa_nil))))))))))) (pss_one (ps_ret pe_str)) pss_nil)
      (pss_one (ps_ret (pe_ifExp (PW.pt (pw_or (pt_not (pt_val (pe_call G_num hr_num (by rfl) D_num.ad D_num.fn.kp D_num.bd .nil pass0 (pa_cons (pv 4) (pa_cons (pe_op op_pow pe_int pe_int) pa_nil))))) (pw_or1 (pt_cmpR op_eq (pv 4) pe_int (nomark _))))) pe_str pe_non)))))))), ?_⟩
    refine tSeq_go ?_
    refine ⟨_, rfl, N, x, d, "tuple", _, rfl, hd, kit_tup d, _, rfl, ite2 (fun hh => ?_) (fun hh => ?_)⟩
    · refine iteT ?_
      exact k (.str "form") H (Same.refl _) (by rw [deedE_row (by cases d <;> simp_all [isRow, isTup])]; exact .str _)
    obtain ⟨ds, rfl⟩ := tup_of (d := d) (by simpa using hh)
    obtain ⟨ax, xs, rfl, hax, hxs⟩ := dx_tup hd
    have hxl : xs.length = ds.length := dxAll_len hxs
    refine ⟨_, rfl, ax, xs, rfl, .inr hax, rfl, _, rfl, ite2 (fun h2 => ?_) (fun h2 => ?_)⟩
    · refine iteT ?_
      have h2 : ¬ xs.length = 3 := fun e => by rw [e] at h2; simp at h2
      exact k (.str "form") H (Same.refl _) (by rw [deedE_row (show isRow (.tuple ds) 3 = false from decide_eq_false (by omega))]; exact .str _)
    have h2 : xs.length = 3 := Classical.byContradiction fun e => h2 (by simp; omega)
    obtain ⟨dw, dt, dk, rfl⟩ := three_of (ds := ds) (by omega)
    obtain ⟨vw, vt, vk, rfl, qw, qt, qk⟩ := dx_three hxs
    refine ⟨_, rfl, ax, _, _, _, rfl, rfl, hax, atI_nat (j := 0) rfl, N, vw, dw, "str", _, rfl, qw, kit_str dw, _, rfl, ite2 (fun h3 => ?_) (fun h3 => ?_)⟩
    · exact k (.str "form") H (Same.refl _) (by rw [deedE_word (by simpa using h3)]; exact .str _)
    obtain ⟨wd, rfl⟩ := str_of (d := dw) (by simpa using h3)
    cases qw
    dsimp only [tNext]
    refine tSeq_go ?_
    refine ⟨_, rfl, ax, _, rfl, hax, rfl, _, _, rfl, _, _, rfl, _, _, rfl, rfl, ?_⟩
    refine at_st [some (.ref a), some (.ref ax), some (.str wd), some vt, some vk] rfl ?_
    dsimp only
    refine tSeq_go ?_
    have hno : ∀ x : Str, x ≠ Str.ofString "star" → x ≠ Str.ofString "round" → deedE n ts (.tuple [.str x, dt, dk]) = .str "form" := fun x => deedE_other
    refine tIfS_by (fun σ' H' => σ' = [some (.ref a), some (.ref ax), some (.str wd), some vt, some vk] ∧ Same H H' ∧ (wd = Str.ofString "star" ∨ wd = Str.ofString "round")) ?_ (fun cont => ?_)
    rotate_left
    · refine ⟨_, rfl, by show 2 ≤ sizeLine; decide, fun q hq => ?_⟩
      have sq : Same H (upd H q (.tup [.str "star", .str "round"])) := same_new hq
      have ek : inV (V.str wd) [.str "star", .str "round"] = decide (wd = Str.ofString "star" ∨ wd = Str.ofString "round") := by
        rw [Bool.eq_iff_iff]
        rw [decide_eq_true_eq]
        show ((Str.ofString "star" == wd) || ((Str.ofString "round" == wd) || false)) = true ↔ _
        rw [Bool.or_false, Bool.or_eq_true, beq_iff_eq, beq_iff_eq]
        exact ⟨fun h => h.imp Eq.symm Eq.symm, fun h => h.imp Eq.symm Eq.symm⟩
      refine ⟨q, _, rfl, .inr (SqT.of upd_same), rfl, rfl, _, rfl, ?_⟩
      rw [ek]
      refine ite2 (fun h4 => ?_) (fun h4 => ?_)
      · have h4 : ¬ (wd = Str.ofString "star" ∨ wd = Str.ofString "round") := by simpa using h4
        exact k (.str "form") _ sq (by rw [hno wd (fun e => h4 (.inl e)) (fun e => h4 (.inr e))]; exact .str _)
      · exact cont _ _ ⟨rfl, sq, Classical.byContradiction fun e => h4 (by rw [decide_eq_false e]; rfl)⟩
    rintro σ H1 ⟨rfl, s1, hwd⟩
    dsimp only
    refine tSeq_go ?_
    refine tIfS_by (fun σ' H' => σ' = [some (.ref a), some (.ref ax), some (.str wd), some vt, some vk] ∧ Same H H' ∧ (wd = Str.ofString "star" → deedE n ts (.tuple [.str wd, dt, dk]) = timesE dk)) ?_ (fun cont => ?_)
    rotate_left
    · refine ⟨_, rfl, rfl, _, rfl, ite2 (fun h4 => ?_) (fun h4 => ?_)⟩
      · have h4 : wd = Str.ofString "star" := V.str.inj (of_decide_eq_true h4)
        subst h4
        rw [deedE_star] at k cont
        refine ⟨_, rfl, N, vt, dt, 100, rfl, dx_same s1 qt, _, rfl, ite2 (fun h5 => ?_) (fun h5 => ?_)⟩
        · have h5 : intIn dt (-100) 100 = false := by simpa using h5
          have e : intIn dt 0 (n - 1) = false := by
            rw [← Bool.not_eq_true]
            intro e
            obtain ⟨z, rfl⟩ := int_of e
            have e := of_decide_eq_true e
            have h5 := of_decide_eq_false h5
            omega
          exact k _ _ s1 (by rw [if_neg (by rw [e]; decide)]; exact .str _)
        · have h5 : intIn dt (-100) 100 = true := by simpa using h5
          obtain ⟨z, rfl⟩ := int_of h5
          cases qt
          refine ⟨_, rfl, _, _, rfl, rfl, _, rfl, ite2 (fun h6 => ?_) (fun h6 => ?_)⟩
          · have h6 : z < 0 := of_decide_eq_true h6
            exact k _ _ s1 (by rw [if_neg (by show ¬ decide (0 ≤ z ∧ z ≤ (n : Int) - 1) = true; rw [decide_eq_true_eq]; omega)]; exact .str _)
          · have h6 : ¬ z < 0 := fun e => h6 (decide_eq_true e)
            refine ⟨_, rfl, _, rfl, a, _, _, _, rfl, rfl, sqT_same s1 ha, atI_nat (j := 0) rfl, _, _, rfl, rfl, _, rfl, ite2 (fun h7 => ?_) (fun h7 => ?_)⟩
            · have h7 : (n : Int) ≤ z := of_decide_eq_true h7
              exact k _ _ s1 (by rw [if_neg (by show ¬ decide (0 ≤ z ∧ z ≤ (n : Int) - 1) = true; rw [decide_eq_true_eq]; omega)]; exact .str _)
            · have h7 : ¬ (n : Int) ≤ z := fun e => h7 (decide_eq_true e)
              exact cont _ _ ⟨rfl, s1, fun _ => if_pos (decide_eq_true (by omega))⟩
      · have h4 : wd ≠ Str.ofString "star" := fun e => h4 (decide_eq_true (by rw [e]))
        exact cont _ _ ⟨rfl, s1, fun e => absurd e h4⟩
    clear s1
    rintro σ H1 ⟨rfl, s1, hst⟩
    dsimp only
    refine tSeq_go ?_
    refine tIfS_by (fun σ' H' => σ' = [some (.ref a), some (.ref ax), some (.str wd), some vt, some vk] ∧ Same H H' ∧ deedE n ts (.tuple [.str wd, dt, dk]) = timesE dk) ?_ (fun cont => ?_)
    rotate_left
    · refine ⟨_, rfl, rfl, _, rfl, ite2 (fun h4 => ?_) (fun h4 => ?_)⟩
      · have h4 : wd = Str.ofString "round" := V.str.inj (of_decide_eq_true h4)
        subst h4
        rw [deedE_round] at k cont
        refine ⟨_, rfl, _, rfl, N, _, vt, n, ts, dt, rfl, dp_same s1 _ hw, dx_same s1 qt, hl, fun ds e => hlen _ ds _ (by rw [e]), fun H2 s2 => ?_⟩
        refine ⟨_, rfl, ite2 (fun h5 => ?_) (fun h5 => ?_)⟩
        · have h5 : isLotD ts.length dt = false := by simpa using h5
          rw [if_neg (by rw [h5, Bool.false_and]; decide)] at k
          exact k _ _ (s1.trans s2) (.str _)
        · have h5 : isLotD ts.length dt = true := by simpa using h5
          obtain ⟨e5, hA⟩ := isLot_lot h5
          have hp : Dp K H vt (lotD (lotOf dt)) := by
            rw [← e5]
            exact dx_dp _ (by rw [e5]; exact (lot_nodict _)) qt
          have s12 := s1.trans s2
          refine ⟨_, rfl, _, rfl, _, vt, n, ts, lotOf dt, rfl, dp_same s12 _ hw, dp_same s12 _ hp, hends, hA, by omega, hl, fun H3 s3 => ?_⟩
          refine ⟨_, rfl, ite2 (fun h6 => ?_) (fun h6 => ?_)⟩
          · rw [if_neg (by rw [h5, Bool.true_and]; simpa using h6)] at k
            exact k _ _ (s12.trans s3) (.str _)
          · exact cont _ _ ⟨rfl, s12.trans s3, if_pos (by rw [h5, Bool.true_and]; simpa using h6)⟩
      · have h4 : wd ≠ Str.ofString "round" := fun e => h4 (decide_eq_true (by rw [e]))
        rcases hwd with e | e
        · exact cont _ _ ⟨rfl, s1, hst e⟩
        · exact absurd e h4
    clear s1
    rintro σ H1 ⟨rfl, s1, he⟩
    rw [he] at k
    refine ⟨_, rfl, 10, 30, rfl, rfl, ⟨by decide, by decide, by decide⟩, N, vk, dk, _, rfl, dx_same s1 qk, _, rfl, ite2 (fun h5 => ?_) (fun h5 => ?_)⟩
    · have h5 : intIn dk (-(10 ^ 30)) (10 ^ 30) = false := by simpa using h5
      refine iteT ?_
      exact k _ _ s1 (by unfold timesE; rw [if_neg (by rw [h5, Bool.false_and]; decide)]; exact .str _)
    · have h5 : intIn dk (-(10 ^ 30)) (10 ^ 30) = true := by simpa using h5
      obtain ⟨z, rfl⟩ := int_of h5
      cases qk
      refine ⟨_, rfl, rfl, _, rfl, ite2 (fun h6 => ?_) (fun h6 => ?_)⟩
      · have h6 : z = 0 := V.int.inj (of_decide_eq_true h6)
        exact k _ _ s1 (by unfold timesE; rw [if_neg (by rw [h6]; decide)]; exact .str _)
      · have h6 : ¬ z = 0 := fun e => h6 (decide_eq_true (by rw [e]))
        refine k _ _ s1 ?_
        unfold timesE
        rw [if_pos (by rw [h5, Bool.true_and]; show (!decide (z = 0)) = true; rw [decide_eq_false h6]; rfl)]
        exact .non
end
end BV

namespace BV
open PySem L2
/-! what stands while a law goes on: the box, and data without lists in it -/
structure RC (K : PySem.W.Frag) (b g : Addr) (Hz H : Hp) (L : List (V × PyData)) : Prop where
  kp : Kp b g Hz H
  bx : Box H b g
  st : ∀ p ∈ L, still p.2 = true
  dp : ∀ p ∈ L, Dp K H p.1 p.2
section
variable {K : PySem.W.Frag} {b g : Addr} {Hz H H' : Hp} {L : List (V × PyData)}
theorem RC.same (R : RC K b g Hz H L) (s : Same H H') : RC K b g Hz H' L := ⟨R.kp.trans (Kp.same s), R.bx.same s, R.st, fun p hp => dp_same s _ (R.dp p hp)⟩
theorem RC.draw (R : RC K b g Hz H L) (k : Kp b g H H') (B : Box H' b g) : RC K b g Hz H' L := ⟨R.kp.trans k, B, R.st, fun p hp => dp_kf (KF.of_kp k R.bx) _ (R.st p hp) (R.dp p hp)⟩
theorem RC.add (R : RC K b g Hz H L) {v : V} {d : PyData} (h : Dp K H v d) (hs : still d = true) : RC K b g Hz H ((v, d) :: L) :=
  ⟨R.kp, R.bx, fun p hp => (List.mem_cons.mp hp).elim (fun e => by subst e; exact hs) (R.st p), fun p hp => (List.mem_cons.mp hp).elim (fun e => by subst e; exact h) (R.dp p)⟩
theorem RC.upd (R : RC K b g Hz H L) {l : Addr} {xs ys : List V} (h : H l = some (.lst xs)) (hz : Hz l = none) (lg : l ≠ g) : RC K b g Hz (L2.upd H l (.lst ys)) L := by
  have lb : l ≠ b := by
    rintro rfl
    obtain ⟨⟨_, _, h1⟩, _⟩ := R.bx
    rw [h] at h1
    cases h1
  refine ⟨fun a x e n1 n2 => ?_, bx_set R.bx lb lg, R.st, fun p hp => dp_kf (KF.of_upd h) _ (R.st p hp) (R.dp p hp)⟩
  rw [upd_ne (ne_of_none e hz)]
  exact R.kp _ _ e n1 n2
theorem RC.at0 {v : V} {d : PyData} (R : RC K b g Hz H ((v, d) :: L)) : Dp K H v d := R.dp (v, d) (.head _)
theorem RC.at1 {v : V} {d : PyData} {p0} (R : RC K b g Hz H (p0 :: (v, d) :: L)) : Dp K H v d := R.dp (v, d) (.tail _ (.head _))
theorem RC.at2 {v : V} {d : PyData} {p0 p1} (R : RC K b g Hz H (p0 :: p1 :: (v, d) :: L)) : Dp K H v d := R.dp (v, d) (.tail _ (.tail _ (.head _)))
theorem RC.at3 {v : V} {d : PyData} {p0 p1 p2} (R : RC K b g Hz H (p0 :: p1 :: p2 :: (v, d) :: L)) : Dp K H v d := R.dp (v, d) (.tail _ (.tail _ (.tail _ (.head _))))
theorem RC.at4 {v : V} {d : PyData} {p0 p1 p2 p3} (R : RC K b g Hz H (p0 :: p1 :: p2 :: p3 :: (v, d) :: L)) : Dp K H v d := R.dp (v, d) (.tail _ (.tail _ (.tail _ (.tail _ (.head _)))))
theorem RC.at5 {v : V} {d : PyData} {p0 p1 p2 p3 p4} (R : RC K b g Hz H (p0 :: p1 :: p2 :: p3 :: p4 :: (v, d) :: L)) : Dp K H v d := R.dp (v, d) (.tail _ (.tail _ (.tail _ (.tail _ (.tail _ (.head _))))))
end
end BV
namespace BV
open PySem L2
theorem RC.sub {K : PySem.W.Frag} {b g : Addr} {Hz H : Hp} {L L' : List (V × PyData)} (R : RC K b g Hz H L) (h : ∀ p ∈ L', p ∈ L) : RC K b g Hz H L' := ⟨R.kp, R.bx, fun p hp => R.st p (h p hp), fun p hp => R.dp p (h p hp)⟩
theorem RC.drop1 {K : PySem.W.Frag} {b g : Addr} {Hz H : Hp} {L : List (V × PyData)} {p0 p1} (R : RC K b g Hz H (p0 :: p1 :: L)) : RC K b g Hz H (p0 :: L) := R.sub fun p hp => by
  rcases List.mem_cons.mp hp with e | e
  · exact e ▸ .head _
  · exact .tail _ (.tail _ e)
end BV

namespace BV
open PySem L2
/-! ### menus of things of any kind, one of which is picked -/
def ItX (K : PySem.W.Frag) (H : Hp) (b g : Addr) (Pd : PyData → Prop) (v : V) : Prop := ∃ d, Dx K H (NB b g) v d ∧ Pd d
theorem ItX.same {K : PySem.W.Frag} {H H' : Hp} {b g : Addr} {Pd : PyData → Prop} {v : V} (h : ItX K H b g Pd v) (s : Same H H') : ItX K H' b g Pd v := by
  obtain ⟨d, h1, h2⟩ := h
  exact ⟨d, dx_same s h1, h2⟩
theorem ItX.kp {K : PySem.W.Frag} {H H' : Hp} {b g : Addr} {Pd : PyData → Prop} {v : V} (h : ItX K H b g Pd v) (k : Kp b g H H') (B : Box H b g) : ItX K H' b g Pd v := by
  obtain ⟨d, h1, h2⟩ := h
  exact ⟨d, dx_kp k B h1, h2⟩
structure MnX (K : PySem.W.Frag) (b g : Addr) (Pd : PyData → Prop) (H0 H : Hp) (xs : List V) : Prop where
  s : Kp b g H0 H
  bx : Box H b g
  it : ∀ v ∈ xs, ItX K H b g Pd v
section
variable {K : PySem.W.Frag} {b g p : Addr} {Pd : PyData → Prop} {H0 H H' : Hp} {xs : List V} {o : HO} {v : V} {d : PyData}
theorem nb_of {B : Box H b g} (h : H p = none) : p ≠ b ∧ p ≠ g := by
  obtain ⟨⟨_, _, h1⟩, _, h2, _⟩ := B
  exact ⟨(ne_of_none h1 h).symm, (ne_of_none h2 h).symm⟩
theorem MnX.zero (B : Box H b g) : MnX K b g Pd H H [] := ⟨Kp.refl _, B, by simp⟩
theorem MnX.ne (M : MnX K b g Pd H0 H xs) (h : H p = none) : p ≠ b ∧ p ≠ g := nb_of (B := M.bx) h
theorem MnX.nn (M : MnX K b g Pd H0 H xs) (h : H p = none) : ¬ NB b g p := fun z => z.elim (M.ne h).1 (M.ne h).2
theorem MnX.same (M : MnX K b g Pd H0 H xs) (s : Same H H') : MnX K b g Pd H0 H' xs := ⟨M.s.trans (Kp.same s), M.bx.same s, fun v hv => (M.it v hv).same s⟩
theorem MnX.put (M : MnX K b g Pd H0 H xs) (h : H p = none) : MnX K b g Pd H0 (upd H p o) xs := M.same (same_new h)
theorem MnX.draw (M : MnX K b g Pd H0 H xs) (k : Kp b g H H') (B : Box H' b g) : MnX K b g Pd H0 H' xs := ⟨M.s.trans k, B, fun v hv => (M.it v hv).kp k M.bx⟩
theorem MnX.atom (M : MnX K b g Pd H0 H xs) (hd : Dx K H (NB b g) v d) (hp : Pd d) : MnX K b g Pd H0 H (xs ++ [v]) :=
  ⟨M.s, M.bx, fun u hu => by
    rcases List.mem_append.mp hu with z | z
    · exact M.it u z
    · rw [List.mem_singleton.mp z]
      exact ⟨d, hd, hp⟩⟩
theorem MnX.new (M : MnX K b g Pd H0 H xs) (h : H p = none) (hd : Dx K (upd H p o) (NB b g) (.ref p) d) (hp : Pd d) : MnX K b g Pd H0 (upd H p o) (xs ++ [.ref p]) := (M.put h).atom hd hp
end
/-- a plain thing, the same in each heap -/
def Flat (v : V) (d : PyData) : Prop := (∀ K H N, Dx K H N v d) ∧ Sz d 1 0
theorem flat_int {z : Int} (h : z.natAbs < 2 ^ 200) : Flat (.int z) (.int z) := ⟨fun _ _ _ => .int z, sz_int h⟩
theorem flat_nat {j : Nat} (h : j < 100000) : Flat (.int (j : Int)) (.int (j : Int)) := ⟨fun _ _ _ => .int _, sz_nat h⟩
theorem flat_bl (z : Bool) : Flat (.bl z) (.bool z) := ⟨fun _ _ _ => .bl z, sz_bl⟩
theorem flat_non : Flat .non .none := ⟨fun _ _ _ => .non, sz_non⟩
theorem flat_str (s : String) (h : (Str.ofString s).length ≤ 100 := by decide) : Flat (.str s) (.str s) := ⟨fun _ _ _ => .str _, sz_str h⟩
theorem flat_all : ∀ {xs : List V}, (∀ v ∈ xs, ∃ d, Flat v d) → ∃ ds, (∀ K H N, DxAll K H N xs ds) ∧ SzA ds xs.length 0
  | [], _ => ⟨[], fun _ _ _ => .nil, sza_nil⟩
  | v :: xs, h => by
    obtain ⟨d, h1, h2⟩ := h v (List.mem_cons_self ..)
    obtain ⟨ds, h3, h4⟩ := flat_all (xs := xs) fun u hu => h u (List.mem_cons_of_mem _ hu)
    refine ⟨d :: ds, fun K H N => .cons (h1 K H N) (h3 K H N), sza_mono (sza_cons h2 h4) ?_ (Nat.le_refl _)⟩
    rw [List.length_cons]
    omega
theorem flat_tup {K : PySem.W.Frag} {H : Hp} {N : Addr → Prop} {p : Addr} {xs : List V} (hp : SqT K H p xs) (h : ∀ v ∈ xs, ∃ d, Flat v d) (L : Nat) (hl : xs.length + 1 ≤ L) : ∃ ds, Dx K H N (.ref p) (.tuple ds) ∧ Sz (.tuple ds) L 1 ∧ ds.length = xs.length := by
  obtain ⟨ds, h1, h2⟩ := flat_all h
  exact ⟨ds, .tup hp (h1 _ _ _), (sz_tup h2).mono hl (Nat.le_refl _), (dxAll_len (h1 K H N)).symm⟩
theorem flat_lst {K : PySem.W.Frag} {H : Hp} {N : Addr → Prop} {p : Addr} {xs : List V} (h1 : p ≠ sysModules) (h2 : ¬ N p) (hp : SqL K H p xs) (h : ∀ v ∈ xs, ∃ d, Flat v d) (L : Nat) (hl : xs.length + 1 ≤ L) : ∃ ds, Dx K H N (.ref p) (.list ds) ∧ Sz (.list ds) L 1 := by
  obtain ⟨ds, h3, h4⟩ := flat_all h
  exact ⟨ds, .lst h1 h2 hp (h3 _ _ _), (sz_lst h4).mono hl (Nat.le_refl _)⟩
theorem flat_app {xs ys : List V} (h : ∀ v ∈ xs, ∃ d, Flat v d) (g : ∀ v ∈ ys, ∃ d, Flat v d) : ∀ v ∈ xs ++ ys, ∃ d, Flat v d := fun v hv => (List.mem_append.mp hv).elim (h v) (g v)
theorem flat_sing {v : V} {d : PyData} (h : Flat v d) : ∀ u ∈ [v], ∃ d, Flat u d := fun u hu => by
  rw [List.mem_singleton.mp hu]
  exact ⟨d, h⟩
/-- no row of three -/
def N3 (d : PyData) : Prop := ∀ ds, d = .tuple ds → ds.length ≠ 3
/-- of a row of three the first item may be compared with a word -/
def WS (d : PyData) : Prop := ∀ w t k, d = .tuple [w, t, k] → SeqAt.shaped w = true
theorem N3.ws {d : PyData} (h : N3 d) : WS d := fun w t k e => absurd rfl (h [w, t, k] e)
theorem wt_pos (d : PyData) : 1 ≤ wt d := by cases d <;> simp [wt]
theorem wtAll_len : ∀ ds : List PyData, ds.length ≤ wtAll ds
  | [] => Nat.le_refl _
  | d :: ds => by
    have := wt_pos d
    have := wtAll_len ds
    simp only [wtAll, List.length_cons]
    omega
theorem Sz.rows {d w k : PyData} {ds : List PyData} {c p : Nat} (h : Sz d c p) (e : d = .tuple [w, .tuple ds, k]) : ds.length ≤ c := by
  have h1 := h.n
  have := wtAll_len ds
  rw [e] at h1
  simp only [wt, wtAll] at h1
  omega
theorem MnX.flat {K : PySem.W.Frag} {b g p : Addr} {Pd : PyData → Prop} {H0 H : Hp} {xs ys : List V} (M : MnX K b g Pd H0 H xs) (hp : SqT K H p ys) (hf : ∀ v ∈ ys, ∃ d, Flat v d) (hl : ys.length ≤ 130)
    (hPd : ∀ ds, Sz (.tuple ds) 131 1 → Pd (.tuple ds)) : MnX K b g Pd H0 H (xs ++ [.ref p]) := by
  obtain ⟨ds, h1, h2, _⟩ := flat_tup (N := NB b g) hp hf 131 (by omega)
  exact M.atom h1 (hPd ds h2)
/-! ### the same, clear of more places than the box -/
theorem dx_kpN {K : PySem.W.Frag} {H H' : Hp} {N : Addr → Prop} {x g : Addr} (hN : ∀ a, NB x g a → N a) (k : Kp x g H H') (B : Box H x g) {d : PyData} {v : V} (h : Dx K H N v d) : Dx K H' N v d :=
  dx_keep (fun a o e n => k a o e (fun z => n (hN _ (.inl z))) (fun z => n (hN _ (.inr z)))) (KF.of_kp k B) d h
structure MnN (K : PySem.W.Frag) (b g : Addr) (N : Addr → Prop) (Pd : PyData → Prop) (H0 H : Hp) (xs : List V) : Prop where
  s : Kp b g H0 H
  bx : Box H b g
  nb : ∀ a, NB b g a → N a
  al : ∀ a, N a → H a ≠ none
  it : ∀ v ∈ xs, ∃ d, Dx K H N v d ∧ Pd d
theorem box_al {H : Hp} {b g : Addr} (B : Box H b g) : ∀ a, NB b g a → H a ≠ none := fun a h e => by
  obtain ⟨⟨_, _, h1⟩, _, h2, _⟩ := B
  rcases h with rfl | rfl
  · rw [h1] at e
    cases e
  · rw [h2] at e
    cases e
theorem al_kp {H H' : Hp} {b g : Addr} {N : Addr → Prop} (h : ∀ a, N a → H a ≠ none) (k : Kp b g H H') (B : Box H' b g) : ∀ a, N a → H' a ≠ none := fun a ha e => by
  by_cases q : NB b g a
  · exact box_al B a q e
  · cases e2 : H a with
    | none => exact h a ha e2
    | some o =>
      rw [k a o e2 (fun z => q (.inl z)) (fun z => q (.inr z))] at e
      cases e
section
variable {K : PySem.W.Frag} {b g p : Addr} {N : Addr → Prop} {Pd : PyData → Prop} {H0 H H' : Hp} {xs : List V} {o : HO} {v : V} {d : PyData}
theorem MnN.zero (B : Box H b g) (nb : ∀ a, NB b g a → N a) (al : ∀ a, N a → H a ≠ none) : MnN K b g N Pd H H [] := ⟨Kp.refl _, B, nb, al, by simp⟩
theorem MnN.ne (M : MnN K b g N Pd H0 H xs) (h : H p = none) : p ≠ b ∧ p ≠ g := nb_of (B := M.bx) h
theorem MnN.nn (M : MnN K b g N Pd H0 H xs) (h : H p = none) : ¬ N p := fun z => M.al p z h
theorem MnN.same (M : MnN K b g N Pd H0 H xs) (s : Same H H') : MnN K b g N Pd H0 H' xs := ⟨M.s.trans (Kp.same s), M.bx.same s, M.nb, al_kp M.al (Kp.same s) (M.bx.same s), fun v hv => by
  obtain ⟨d, h1, h2⟩ := M.it v hv
  exact ⟨d, dx_same s h1, h2⟩⟩
theorem MnN.put (M : MnN K b g N Pd H0 H xs) (h : H p = none) : MnN K b g N Pd H0 (upd H p o) xs := M.same (same_new h)
theorem MnN.atom (M : MnN K b g N Pd H0 H xs) (hd : Dx K H N v d) (hp : Pd d) : MnN K b g N Pd H0 H (xs ++ [v]) :=
  ⟨M.s, M.bx, M.nb, M.al, fun u hu => by
    rcases List.mem_append.mp hu with z | z
    · exact M.it u z
    · rw [List.mem_singleton.mp z]
      exact ⟨d, hd, hp⟩⟩
theorem MnN.new (M : MnN K b g N Pd H0 H xs) (h : H p = none) (hd : Dx K (upd H p o) N (.ref p) d) (hp : Pd d) : MnN K b g N Pd H0 (upd H p o) (xs ++ [.ref p]) := (M.put h).atom hd hp
end
end BV

namespace BV
open PySem L2
theorem kp_old {b g l : Addr} {H H1 : Hp} (kp : Kp b g H H1) (h : H1 l = none) (n1 : l ≠ b) (n2 : l ≠ g) : H l = none := by
  cases e : H l with
  | none => rfl
  | some o =>
    have := kp _ _ e n1 n2
    rw [h] at this
    cases this
theorem kp_upd {b g l : Addr} {H H1 : Hp} {o : HO} (h : H l = none) (kp : Kp b g H H1) : Kp b g H (upd H1 l o) := fun a x e n1 n2 => by
  rw [upd_ne (ne_of_none e h)]
  exact kp _ _ e n1 n2
theorem box_upd {b g l : Addr} {H : Hp} {o : HO} (x : Box H b g) (n1 : l ≠ b) (n2 : l ≠ g) : Box (upd H l o) b g := by
  obtain ⟨⟨st, c, x1⟩, ns, x2, x3⟩ := x
  exact ⟨⟨st, c, by rw [upd_ne n1.symm]; exact x1⟩, ns, by rw [upd_ne n2.symm]; exact x2, x3⟩
abbrev sRings : Stmt := top 38
abbrev nRings : List Str := ["_law_box_here", "_law_many", "_law_names", "_law_rows", "_law_far", "_law_near", "_law_left", "_law_turn", "_law_own", "_law_ties", "_law_lots", "_law_one", "_law_other", "_law_mark"]
abbrev pRings : List Str := ["_law_box_here"]
theorem scRings : FnScope nRings pRings (defScope sRings) := ⟨rfl, rfl, rfl, by decide +kernel, rfl, by decide +kernel, by decide +kernel⟩
theorem dpAll_erase {K : PySem.W.Frag} {H : Hp} : ∀ {ds : List PyData} {vs : List V} (j : Nat), DpAll K H vs ds → DpAll K H (vs.eraseIdx j) (ds.eraseIdx j)
  | [], _, j, h => by cases h; simpa using DpAll.nil
  | d :: ds, _, 0, h => by
    cases h with
    | cons h1 h2 => exact h2
  | d :: ds, _, j + 1, h => by
    cases h with
    | cons h1 h2 => exact .cons h1 (dpAll_erase j h2)
theorem map_erase {α β : Type} (f : α → β) : ∀ (l : List α) (j : Nat), (l.map f).eraseIdx j = (l.eraseIdx j).map f
  | [], _ => rfl
  | _ :: _, 0 => rfl
  | a :: l, j + 1 => by
    show f a :: (l.map f).eraseIdx j = f a :: (l.eraseIdx j).map f
    rw [map_erase f l j]
/-! ### lists of one's own, while draws go on -/
structure Own (b g : Addr) (H0 H : Hp) (as : List (Addr × List V)) : Prop where
  kp : Kp b g H0 H
  bx : Box H b g
  hold : ∀ p ∈ as, H p.1 = some (.lst p.2)
  fr : ∀ p ∈ as, H0 p.1 = none
  ne : ∀ p ∈ as, p.1 ≠ b ∧ p.1 ≠ g
  nd : (as.map (·.1)).Nodup
theorem Own.zero {b g : Addr} {H : Hp} (B : Box H b g) : Own b g H H [] := ⟨Kp.refl H, B, by simp, by simp, by simp, .nil⟩
theorem Own.draw {b g : Addr} {H0 H H' : Hp} {as : List (Addr × List V)} (O : Own b g H0 H as) (k : Kp b g H H') (B : Box H' b g) : Own b g H0 H' as :=
  ⟨O.kp.trans k, B, fun p hp => k _ _ (O.hold p hp) (O.ne p hp).1 (O.ne p hp).2, O.fr, O.ne, O.nd⟩
theorem Own.same {b g : Addr} {H0 H H' : Hp} {as : List (Addr × List V)} (O : Own b g H0 H as) (s : Same H H') : Own b g H0 H' as :=
  ⟨O.kp.trans (Kp.same s), O.bx.same s, fun p hp => s _ _ (O.hold p hp), O.fr, O.ne, O.nd⟩
theorem Own.new {b g : Addr} {H0 H : Hp} {as : List (Addr × List V)} (O : Own b g H0 H as) {q : Addr} {xs : List V} (h : H q = none) : Own b g H0 (upd H q (.lst xs)) ((q, xs) :: as) := by
  obtain ⟨nb, ng⟩ := box_ne O.bx h
  have s := same_new (o := .lst xs) h
  refine ⟨O.kp.trans (Kp.same s), O.bx.same s, fun p hp => ?_, fun p hp => ?_, fun p hp => ?_, ?_⟩
  · rcases List.mem_cons.mp hp with e | e
    · rw [e]
      exact upd_same
    · exact s _ _ (O.hold p e)
  · rcases List.mem_cons.mp hp with e | e
    · rw [e]
      exact kp_old O.kp h nb ng
    · exact O.fr p e
  · rcases List.mem_cons.mp hp with e | e
    · rw [e]
      exact ⟨nb, ng⟩
    · exact O.ne p e
  · refine List.nodup_cons.mpr ⟨fun z => ?_, O.nd⟩
    obtain ⟨p, hp, e⟩ := List.mem_map.mp z
    have := O.hold p hp
    rw [e, h] at this
    cases this
theorem Own.sub {b g : Addr} {H0 H : Hp} {as bs : List (Addr × List V)} (O : Own b g H0 H as) (h : bs.Sublist as) : Own b g H0 H bs :=
  ⟨O.kp, O.bx, fun p hp => O.hold p (h.subset hp), fun p hp => O.fr p (h.subset hp), fun p hp => O.ne p (h.subset hp), O.nd.sublist (h.map _)⟩
theorem Own.at0 {b g : Addr} {H0 H : Hp} {as : List (Addr × List V)} (O : Own b g H0 H as) (i : Nat) {a : Addr} {xs : List V} (h : as[i]? = some (a, xs)) : H a = some (.lst xs) := O.hold _ (List.mem_of_getElem? h)
theorem Own.put {b g : Addr} {H0 H : Hp} {as : List (Addr × List V)} (O : Own b g H0 H as) (i : Nat) {a : Addr} {xs ys : List V} (h : as[i]? = some (a, xs)) : Own b g H0 (upd H a (.lst ys)) (as.set i (a, ys)) := by
  have hm := List.mem_of_getElem? h
  have hi := (List.getElem?_eq_some_iff.mp h).1
  have hin : ∀ p ∈ as.set i (a, ys), p = (a, ys) ∨ (p ∈ as ∧ p.1 ≠ a) := fun p hp => by
    obtain ⟨j, hj⟩ := List.getElem?_of_mem hp
    by_cases e : i = j
    · subst e
      rw [List.getElem?_set_self hi] at hj
      exact .inl (Option.some.inj hj).symm
    · rw [List.getElem?_set_ne e] at hj
      refine .inr ⟨List.mem_of_getElem? hj, fun z => ?_⟩
      have h1 : (as.map (·.1))[i]? = some a := by rw [List.getElem?_map, h]; rfl
      have h2 : (as.map (·.1))[j]? = some a := by rw [List.getElem?_map, hj]; exact congrArg some z
      have hjl := (List.getElem?_eq_some_iff.mp h2).1
      have hil := (List.getElem?_eq_some_iff.mp h1).1
      have := (List.getElem?_inj hil O.nd).mp (h1.trans h2.symm)
      exact e this
  have hmap : (as.set i (a, ys)).map (·.1) = as.map (·.1) := by
    rw [List.map_set]
    refine List.ext_getElem? fun j => ?_
    by_cases e : i = j
    · subst e
      rw [List.getElem?_set_self (by rw [List.length_map]; exact hi), List.getElem?_map, h]
      rfl
    · rw [List.getElem?_set_ne e]
  refine ⟨kp_upd (O.fr _ hm) O.kp, box_upd O.bx (O.ne _ hm).1 (O.ne _ hm).2, fun p hp => ?_, fun p hp => ?_, fun p hp => ?_, by rw [hmap]; exact O.nd⟩
  · rcases hin p hp with e | ⟨e, n⟩
    · rw [e]
      exact upd_same
    · rw [upd_ne n]
      exact O.hold p e
  · rcases hin p hp with e | ⟨e, n⟩
    · rw [e]
      exact (O.fr (a, xs) hm : H0 a = none)
    · exact O.fr p e
  · rcases hin p hp with e | ⟨e, n⟩
    · rw [e]
      exact (O.ne (a, xs) hm : a ≠ b ∧ a ≠ g)
    · exact O.ne p e
theorem ring_step (i m : Nat) (hi : i < m) (hm : 2 ≤ m) : i ≠ (i + 1) % m := by
  by_cases h : i + 1 = m
  · rw [h, Nat.mod_self]
    omega
  · rw [Nat.mod_eq_of_lt (by omega)]
    omega
theorem nats_erase : ∀ (l : List Nat) (j : Nat), (natsV l).eraseIdx j = natsV (l.eraseIdx j)
  | [], j => by cases j <;> rfl
  | a :: r, 0 => rfl
  | a :: r, j + 1 => by
    show V.int a :: (natsV r).eraseIdx j = V.int a :: natsV (r.eraseIdx j)
    rw [nats_erase r j]
theorem erase_move {l m : List Nat} {j z : Nat} (h : l[j]? = some z) : (l.eraseIdx j ++ (m ++ [z])).Perm (l ++ m) := by
  have h1 : (z :: l.eraseIdx j).Perm l := by
    induction l generalizing j with
    | nil => cases h
    | cons a r ih =>
      cases j with
      | zero =>
        cases h
        exact List.Perm.refl _
      | succ j => exact (List.Perm.swap a z _).trans ((ih (j := j) (by simpa using h)).cons a)
  have h2 : (l.eraseIdx j ++ (m ++ [z])).Perm ((z :: l.eraseIdx j) ++ m) := by
    rw [← List.append_assoc]
    exact (List.perm_append_singleton z _).trans (List.Perm.refl _)
  exact h2.trans (h1.append_right m)
theorem lotA_up {L : Nat} {ks : List Nat} (h : LotA L ks) : LotA (L + 1) ks := ⟨h.1, fun k hk => Nat.lt_succ_of_lt (h.2 k hk)⟩
theorem lotA_snoc {L : Nat} {ks : List Nat} (h : LotA L ks) : LotA (L + 1) (ks ++ [L]) := by
  refine ⟨List.pairwise_append.mpr ⟨h.1, List.pairwise_singleton _ _, fun a ha b hb => ?_⟩, fun k hk => ?_⟩
  · rw [List.mem_singleton.mp hb]
    exact h.2 a ha
  · rcases List.mem_append.mp hk with z | z
    · exact Nat.lt_succ_of_lt (h.2 k z)
    · rw [List.mem_singleton.mp z]
      exact Nat.lt_succ_self L
theorem erase_perm {α : Type} {l : List α} {j : Nat} {z : α} (h : l[j]? = some z) : (z :: l.eraseIdx j).Perm l := by
  induction l generalizing j with
  | nil => cases h
  | cons a r ih =>
    cases j with
    | zero =>
      cases h
      exact List.Perm.refl _
    | succ j => exact (List.Perm.swap a z _).trans ((ih (j := j) (by simpa using h)).cons a)
/-! ### rows of two rings -/
abbrev Row3 := Nat × Nat × Nat
def row3D (r : Row3) : PyData := .tuple [.int r.1, .int r.2.1, .int r.2.2]
def ones3 (rows : List Row3) : Nat := rows.countP fun r => decide (r.2.2 = 1)
theorem ones_snoc (rows : List Row3) (r : Row3) : ones3 (rows ++ [r]) = ones3 rows + if r.2.2 = 1 then 1 else 0 := by
  unfold ones3
  rw [List.countP_append, List.countP_singleton]
  by_cases h : r.2.2 = 1
  · rw [if_pos h, if_pos (decide_eq_true h)]
  · rw [if_neg h, if_neg (by rw [decide_eq_false h]; decide)]
theorem ones_erase {rows : List Row3} {j : Nat} {r : Row3} (h : rows[j]? = some r) : ones3 rows = (if r.2.2 = 1 then 1 else 0) + ones3 (rows.eraseIdx j) := by
  have hp := (erase_perm h).countP_eq (fun r : Row3 => decide (r.2.2 = 1))
  unfold ones3
  rw [← hp, List.countP_cons]
  by_cases h : r.2.2 = 1
  · rw [if_pos h, if_pos (decide_eq_true h)]
    omega
  · rw [if_neg h, if_neg (by rw [decide_eq_false h]; decide)]
    omega
theorem ones_all {rows : List Row3} (h : ∀ r ∈ rows, r.2.2 = 1) : ones3 rows = rows.length := List.countP_eq_length.mpr fun r hr => decide_eq_true (h r hr)
def Good3 (n : Nat) (r : Row3) : Prop := r.1 ≠ r.2.1 ∧ r.1 < n ∧ r.2.1 < n ∧ r.2.2 ≤ 2
theorem still_rows3 : ∀ rs : List Row3, stillAll (rs.map row3D) = true
  | [] => by simp [stillAll]
  | r :: rs => by simp [stillAll, row3D, still, still_rows3 rs]
def spRings (K : PySem.W.Frag) : Sp := fun vs H Q _ => ∃ (b g : Addr), vs = [.ref b] ∧ Box H b g ∧
  ∀ (p : Addr) (n : Nat) (ts : List Tie) (fs gs : List Nat) H', Kp b g H H' → Box H' b g → Dp K H' (.ref p) (.tuple [webD n ts, lotD fs, lotD gs]) → 1 ≤ n → n ≤ 12 → ts.length ≤ 16 → (∀ t ∈ ts, t.1 < t.2 ∧ t.2 < n) →
    LotA ts.length fs → LotA ts.length gs → (∀ k ∈ fs, k ∉ gs) → fs ≠ [] → Q (.ref p) H'
section
variable {P : Program} {w : World} {K : PySem.W.Frag} {mg : Str → Option Value} {base : Heap}
theorem ok_rings {f f1 f2 : Addr} {fd fd1 fd2 : FuncData} (D : Df K mg "_law_two_rings" sRings pRings f fd) (T : Bl mg) (hlist : mg "list" = none) (D_draw : Df K mg "_law_draw" sDraw ["_law_box_here", "_law_many"] f1 fd1) (D_pick : Df K mg "_law_pick" sPick nPick f2 fd2) :
    FnOk P w K mg base CX0 3 f fd pRings (spRings K) := by
  have G_pick : FnOk P w K mg base CX0 2 f2 fd2 nPick (spPick K) := ok_pick D_pick T D_draw
  have G_draw : FnOk P w K mg base CX0 1 f1 fd1 ["_law_box_here", "_law_many"] spDraw := ok_draw D_draw T
  refine D.fn.ok scRings (fun vs H Q E h => ?_) (fun cdv A outer s H vs Q E hr h => ?_)
  · obtain ⟨b, g, rfl, _⟩ := h
    rfl
  · obtain ⟨b, g, rfl, hB, k⟩ := h
    have nd := scRings.nd
    have hr_pick : Room 2 _ := hr
    have hr_draw : Room 1 _ := hr.mono (by decide)
    have O : Own b g H H [] := Own.zero hB
    refine ⟨_, (pss_cons (ps_par3 (i := 1) (j := 2) (l := 3) (by rfl) nd rfl rfl rfl (by decide) (by decide) (by decide) rfl rfl rfl (pa_cons (pe_op op_add pe_int (pe_call G_draw hr_draw (by rfl) D_draw.ad D_draw.fn.kp D_draw.bd .nil pass0 (pa_cons (pv 0) (pa_cons pe_int pa_nil)))) (pa_cons (pe_lst pa_nil) (pa_cons (pe_lst pa_nil) pa_nil))) (by rfl))
      (pss_cons (ps_set (i := 4) nd rfl (by first | exact Or.inl rfl | exact Or.inr rfl) (pe_call G_pick hr_pick (by rfl) D_pick.ad D_pick.fn.kp D_pick.bd .nil pass0 (pa_cons (pv 0) (pa_cons (pe_lst (pa_cons pe_int (pa_cons pe_int (pa_cons pe_int (pa_cons (pe_op op_fdivW (pv 1) pe_int) pa_nil))))) pa_nil))))
      (pss_cons (ps_par (i := 5) (j := 6) (by rfl) nd rfl rfl (by decide) rfl rfl (pa_cons (pe_op op_sub (pv 1) (pv 4)) (pa_cons (pe_listRg rfl (by rfl) hlist (prg_1 (by rfl) T.range (pv 1))) pa_nil)) (by rfl))
      (pss_cons (ps_for PassesOwn.never rfl (pi_range1 rfl T.range (pa_cons (pv 1) pa_nil)) (pg_name (i := 7) nd rfl (by first | exact Or.inl rfl | exact Or.inr rfl)) (pss_one (ps_expr (pe_bm PySem.F.plainAttrs_list PySem.F.slot_list_append PySem.F.type_list_append mt_append (pv 2) (pa_cons (pe_bm PySem.F.plainAttrs_list PySem.F.slot_list_pop PySem.F.type_list_pop mt_popAt (pv 6) (pa_cons (pe_call G_draw hr_draw (by rfl) D_draw.ad D_draw.fn.kp D_draw.bd .nil pass0 (pa_cons (pv 0) (pa_cons (pe_callB (lenK K) (by rfl) T.len PySem.boot_len (pa_cons (pv 6) pa_nil)) pa_nil))) pa_nil)) pa_nil)))))
      (pss_cons (ps_for PassesOwn.never rfl (pi_range1 rfl T.range (pa_cons (pv 5) pa_nil)) (pg_name (i := 8) nd rfl (by first | exact Or.inl rfl | exact Or.inr rfl)) (pss_one (ps_expr (pe_bm PySem.F.plainAttrs_list PySem.F.slot_list_append PySem.F.type_list_append mt_append (pv 3) (pa_cons (pe_tup (pa_cons (pe_ix (ixL K) (pv 2) (pv 8) (fun _ _ => rfl)) (pa_cons (pe_ix (ixL K) (pv 2) (pe_op op_mod (pe_callTy call_int1 (by rfl) T.int (by decide +kernel) (pa_cons (pe_op op_add (pv 8) pe_int) pa_nil)) (pv 5)) (fun _ _ => rfl)) (pa_cons pe_int pa_nil)))) pa_nil)))))
      (pss_cons (ps_for PassesOwn.never rfl (pi_range1 rfl T.range (pa_cons (pv 4) pa_nil)) (pg_name (i := 8) nd rfl (by first | exact Or.inl rfl | exact Or.inr rfl)) (pss_one (ps_expr (pe_bm PySem.F.plainAttrs_list PySem.F.slot_list_append PySem.F.type_list_append mt_append (pv 3) (pa_cons (pe_tup (pa_cons (pe_ix (ixL K) (pv 2) (pe_op op_add (pv 5) (pv 8)) (fun _ _ => rfl)) (pa_cons (pe_ix (ixL K) (pv 2) (pe_op op_add (pv 5) (pe_op op_mod (pe_callTy call_int1 (by rfl) T.int (by decide +kernel) (pa_cons (pe_op op_add (pv 8) pe_int) pa_nil)) (pv 4))) (fun _ _ => rfl)) (pa_cons pe_int pa_nil)))) pa_nil)))))
      (pss_cons (ps_for PassesOwn.never rfl (pi_range1 rfl T.range (pa_cons (pe_op op_add (pe_call G_draw hr_draw (by rfl) D_draw.ad D_draw.fn.kp D_draw.bd .nil pass0 (pa_cons (pv 0) (pa_cons pe_int pa_nil))) (pe_callTy call_int1 (by rfl) T.int (by decide +kernel) (pa_cons (pe_cmpR op_gt (pv 4) pe_int (nomark _)) pa_nil))) pa_nil)) (pg_name (i := 7) nd rfl (by first | exact Or.inl rfl | exact Or.inr rfl)) (pss_cons (ps_asg (pe_ifExp (PW.pt (pw_and (pt_cmpR op_eq (pv 7) pe_int (nomark _)) (pw_and1 (pt_cmpR op_gt (pv 4) pe_int (nomark _))))) (pe_tup (pa_cons pe_int (pa_cons (pv 5) pa_nil))) (pe_tup (pa_cons (pe_call G_draw hr_draw (by rfl) D_draw.ad D_draw.fn.kp D_draw.bd .nil pass0 (pa_cons (pv 0) (pa_cons (pv 1) pa_nil))) (pa_cons (pe_call G_draw hr_draw (by rfl) D_draw.ad D_draw.fn.kp D_draw.bd .nil pass0 (pa_cons (pv 0) (pa_cons (pv 1) pa_nil))) pa_nil)))) (pgT K rfl (pgs_cons (pg_name (i := 11) nd rfl (by first | exact Or.inl rfl | exact Or.inr rfl)) (pgs_cons (pg_name (i := 12) nd rfl (by first | exact Or.inl rfl | exact Or.inr rfl)) pgs_nil))))
      (pss_one (ps_set (i := 3) nd rfl (by first | exact Or.inl rfl | exact Or.inr rfl) (pe_ifExp (pt_cmpR op_ne (pv 11) (pv 12) (nomark _)) (pe_op op_cat (pv 3) (pe_lst (pa_cons (pe_tup (pa_cons (pe_ix (ixL K) (pv 2) (pv 11) (fun _ _ => rfl)) (pa_cons (pe_ix (ixL K) (pv 2) (pv 12) (fun _ _ => rfl)) (pa_cons pe_int pa_nil)))) pa_nil))) (pv 3))))))
      (pss_cons (ps_par (i := 9) (j := 10) (by rfl) nd rfl rfl (by decide) rfl rfl (pa_cons (pe_lst pa_nil) (pa_cons (pe_lst (pa_cons (pe_lst pa_nil) (pa_cons (pe_lst pa_nil) pa_nil))) pa_nil)) (by rfl))
      (pss_cons (ps_for PassesOwn.never rfl (pi_range1 rfl T.range (pa_cons (pe_callB (lenK K) (by rfl) T.len PySem.boot_len (pa_cons (pv 3) pa_nil)) pa_nil)) (pg_name (i := 7) nd rfl (by first | exact Or.inl rfl | exact Or.inr rfl)) (pss_cons (ps_asg (pe_bm PySem.F.plainAttrs_list PySem.F.slot_list_pop PySem.F.type_list_pop mt_popAt (pv 3) (pa_cons (pe_call G_draw hr_draw (by rfl) D_draw.ad D_draw.fn.kp D_draw.bd .nil pass0 (pa_cons (pv 0) (pa_cons (pe_callB (lenK K) (by rfl) T.len PySem.boot_len (pa_cons (pv 3) pa_nil)) pa_nil))) pa_nil)) (pgT K rfl (pgs_cons (pg_name (i := 11) nd rfl (by first | exact Or.inl rfl | exact Or.inr rfl)) (pgs_cons (pg_name (i := 12) nd rfl (by first | exact Or.inl rfl | exact Or.inr rfl)) (pgs_cons (pg_name (i := 13) nd rfl (by first | exact Or.inl rfl | exact Or.inr rfl)) pgs_nil)))))
      (pss_cons (ps_if (pt_cmpR op_gt (pv 13) pe_int (nomark _)) (pss_one (ps_expr (pe_bm PySem.F.plainAttrs_list PySem.F.slot_list_append PySem.F.type_list_append mt_append (pe_ix (ixL K) (pv 10) (pe_op op_sub (pv 13) pe_int) (fun _ _ => rfl)) (pa_cons (pe_callB (lenK K) (by rfl) T.len PySem.boot_len (pa_cons (pv 9) pa_nil)) pa_nil)))) pss_nil)
      (pss_one (ps_expr (pe_bm PySem.F.plainAttrs_list PySem.F.slot_list_append PySem.F.type_list_append mt_append (pv 9) (pa_cons (pe_tup (pa_cons (pe_callB (call_min2 rfl) (by rfl) T.min (by decide +kernel) (pa_cons (pv 11) (pa_cons (pv 12) pa_nil))) (pa_cons (pe_callB (call_max2 rfl) (by rfl) T.max (by decide +kernel) (pa_cons (pv 11) (pa_cons (pv 12) pa_nil))) pa_nil))) pa_nil)))))))
      (pss_one (ps_ret (pe_tup (pa_cons (pe_tup (pa_cons (pv 1) (pa_cons (pe_callTy (tupleK K) (by rfl) T.tuple (by decide +kernel) (pa_cons (pv 9) pa_nil)) pa_nil))) (pa_cons (pe_callTy (tupleK K) (by rfl) T.tuple (by decide +kernel) (pa_cons (pe_ix (ixL K) (pv 10) pe_int (fun _ _ => rfl)) pa_nil)) (pa_cons (pe_callTy (tupleK K) (by rfl) T.tuple (by decide +kernel) (pa_cons (pe_ix (ixL K) (pv 10) pe_int (fun _ _ => rfl)) pa_nil)) pa_nil))))))))))))))), ?_⟩
    refine tSeq_go ?_
    refine ⟨_, rfl, b, g, 7, rfl, by decide, by decide, hB, fun r H1 r0 r1 kp1 B1 => ?_⟩
    have O := O.draw kp1 B1
    refine ⟨6, r, rfl, rfl, Nat.zero_le _, fun nl hnl => ?_⟩
    have O := O.new (xs := []) hnl
    generalize upd H1 nl (.lst []) = H2 at *
    refine ⟨Nat.zero_le _, fun rl hrl => ⟨_, _, _, rfl, ?_⟩⟩
    have O := O.new (xs := []) hrl
    generalize upd H2 rl (.lst []) = H3 at *
    obtain ⟨n, hn⟩ : ∃ n : Nat, 6 + r = (n : Int) := ⟨(6 + r).toNat, by omega⟩
    refine at_st [some (.ref b), some (.int (6 + r)), some (.ref nl), some (.ref rl), none, none, none, none, none, none, none, none, none, none] rfl ?_
    rw [hn]
    have hn6 : 6 ≤ n ∧ n ≤ 12 := by omega
    clear hn r0 r1 kp1 B1 hnl hrl
    dsimp only
    refine tSeq_go ?_
    -- far
    refine ⟨_, rfl, _, rfl, n, 2, rfl, rfl, ⟨by decide, by decide⟩, by show 4 ≤ sizeLine; decide, fun ml hml => ?_⟩
    have hmn := box_ne O.bx hml
    have O := O.same (same_new (o := .lst [.int 0, .int 2, .int 3, .int ((n : Int) / 2)]) hml)
    refine ⟨b, g, ml, _, rfl, SqL.of upd_same, hmn.1, hmn.2, by show 0 < 4; decide, by show 4 < 1000000; decide, O.bx, fun j u H4 hj kp4 B4 => ?_⟩
    have O := O.draw kp4 B4
    obtain ⟨far, rfl, hfar⟩ : ∃ far : Nat, u = .int (far : Nat) ∧ (far = 0 ∨ (2 ≤ far ∧ far + 3 ≤ n)) := by
      have hj4 : j < 4 := (List.getElem?_eq_some_iff.mp hj).1
      match j, hj4, hj with
      | 0, _, h => cases h; exact ⟨0, rfl, .inl rfl⟩
      | 1, _, h => cases h; exact ⟨2, rfl, .inr ⟨by omega, by omega⟩⟩
      | 2, _, h => cases h; exact ⟨3, rfl, .inr ⟨by omega, by omega⟩⟩
      | 3, _, h => cases h; exact ⟨n / 2, by congr 1, .inr ⟨by omega, by omega⟩⟩
    clear kp4 B4 hj hml hmn
    dsimp only [gName]
    refine at_st [some (.ref b), some (.int (n : Nat)), some (.ref nl), some (.ref rl), some (.int (far : Nat)), none, none, none, none, none, none, none, none, none] rfl ?_
    refine tSeq_go ?_
    -- near, left
    refine ⟨_, rfl, _, rfl, n, far, rfl, rfl, ?_⟩
    refine ⟨_, rfl, _, rfl, .of_le (by omega) (by omega) (by omega) (by omega), fun lf hlf => ⟨_, _, rfl, ?_⟩⟩
    have O := O.new (xs := rgV 0 (n : Int)) hlf
    generalize upd H4 lf (.lst (rgV 0 (n : Int))) = H5 at *
    obtain ⟨near, hnear⟩ : ∃ near : Nat, (n : Int) - far = (near : Int) := ⟨n - far, by omega⟩
    refine at_st [some (.ref b), some (.int (n : Nat)), some (.ref nl), some (.ref rl), some (.int (far : Nat)), some (.int ((n : Int) - far)), some (.ref lf), none, none, none, none, none, none, none] rfl ?_
    rw [hnear]
    have hnr : near + far = n ∧ 3 ≤ near := by omega
    clear hnear hlf
    have ergv : rgV 0 (n : Int) = natsV (List.range n) := by
      unfold rgV natsV
      rw [show ((n : Int) - 0).toNat = n by omega]
      exact List.map_congr_left fun i _ => by rw [Int.zero_add]
    rw [ergv] at O
    clear ergv
    have O : Own b g H H5 [(lf, natsV (List.range n)), (rl, []), (nl, natsV [])] := O
    dsimp only
    refine tSeq_go ?_
    -- names
    refine ⟨_, rfl, _, rfl, by omega, by omega, ?_⟩
    refine for_range (lo := 0) (n := (n : Int).toNat) (fun i σ Hc => ∃ (v7 : Option V) (left names : List Nat), σ = [some (.ref b), some (.int (n : Nat)), some (.ref nl), some (.ref rl), some (.int (far : Nat)), some (.int (near : Nat)), some (.ref lf), v7, none, none, none, none, none, none] ∧
      Own b g H Hc [(lf, natsV left), (rl, []), (nl, natsV names)] ∧ (left ++ names).Perm (List.range n) ∧ names.length = i) ?_ ?_ ?_
    · exact ⟨none, List.range n, [], rfl, O, by rw [List.append_nil], rfl⟩
    · clear O
      rintro i σ Hc hi ⟨v7, left, names, rfl, O, hp, hnm⟩
      have hpl := hp.length_eq
      rw [List.length_append, List.length_range] at hpl
      have hlf := O.at0 0 rfl
      have hnl := O.at0 2 rfl
      refine ⟨_, rfl, .inl ⟨rfl, _, SqL.of hnl⟩, ?_⟩
      refine ⟨_, rfl, .inl ⟨rfl, _, SqL.of hlf⟩, ?_⟩
      refine ⟨_, rfl, _, rfl, lf, _, rfl, .inl (SqL.of hlf), b, g, ((natsV left).length : Int), rfl, by rw [natsV_len]; omega, by rw [natsV_len]; omega, O.bx, fun r He r0 r1 kpe hBe => ?_⟩
      obtain ⟨j, rfl⟩ : ∃ j : Nat, r = (j : Int) := ⟨r.toNat, by omega⟩
      have hj : j < left.length := by rw [natsV_len] at r1; omega
      have O := O.draw kpe hBe
      have hjx : left[j]? = some left[j] := List.getElem?_eq_getElem hj
      generalize left[j] = z at hjx
      have hjv : (natsV left)[j]? = some (.int (z : Nat)) := by
        unfold natsV
        rw [List.getElem?_map, hjx]
        rfl
      refine ⟨lf, _, _, j, _, rfl, rfl, O.at0 0 rfl, by omega, by omega, seq_nat (by rw [natsV_len]; exact hj), hjv, ?_⟩
      have eer : (natsV left).eraseIdx j = natsV (left.eraseIdx j) := nats_erase left j
      rw [eer]
      have O : Own b g H _ [(lf, natsV (left.eraseIdx j)), (rl, []), (nl, natsV names)] := O.put 0 rfl
      refine ⟨nl, _, _, rfl, rfl, O.at0 2 rfl, by rw [natsV_len]; exact Nat.lt_of_lt_of_le (show names.length < 1000 by omega) (by decide), ?_⟩
      rw [natsV_snoc]
      have O : Own b g H _ [(lf, natsV (left.eraseIdx j)), (rl, []), (nl, natsV (names ++ [z]))] := O.put 2 rfl
      refine ⟨_, left.eraseIdx j, names ++ [z], rfl, O, (erase_move hjx).trans hp, by rw [List.length_append, List.length_singleton, hnm]⟩
    rintro σ H6 ⟨v7, left, names, rfl, O6, hp, hnm⟩
    have hnm : names.length = n := by omega
    have hleft : left = [] := by
      have := hp.length_eq
      rw [List.length_append, List.length_range] at this
      exact List.eq_nil_of_length_eq_zero (by omega)
    subst hleft
    have hnn : names.Nodup := hp.nodup_iff.mpr List.nodup_range
    have hnlt : ∀ x ∈ names, x < n := fun x hx => List.mem_range.mp (hp.mem_iff.mp hx)
    have O6 : Own b g H H6 [(rl, []), (nl, natsV names)] := O6.sub (.cons _ (List.Sublist.refl _))
    clear O hp
    have nameAt : ∀ i, i < n → ∃ x, names[i]? = some x ∧ (natsV names)[i]? = some (.int (x : Nat)) ∧ x < n := fun i hi => by
      have h1 : names[i]? = some names[i] := List.getElem?_eq_getElem (by omega)
      exact ⟨_, h1, by unfold natsV; rw [List.getElem?_map, h1]; rfl, hnlt _ (List.mem_of_getElem? h1)⟩
    have nameNe : ∀ {i j x y : Nat}, names[i]? = some x → names[j]? = some y → i ≠ j → x ≠ y := fun {i j x y} h1 h2 hne e => by
      have hil := (List.getElem?_eq_some_iff.mp h1).1
      exact hne ((List.getElem?_inj hil hnn).mp (h1.trans (by rw [e, h2])))
    show tSeq _ _ _ _ _
    refine tSeq_go ?_
    refine ⟨_, rfl, _, rfl, by omega, by omega, ?_⟩
    refine for_range (lo := 0) (n := (near : Int).toNat) (fun i σ Hc => ∃ (v8 : Option V) (rows : List Row3) (xs : List V), σ = [some (.ref b), some (.int (n : Nat)), some (.ref nl), some (.ref rl), some (.int (far : Nat)), some (.int (near : Nat)), some (.ref lf), v7, v8, none, none, none, none, none] ∧
      Own b g H Hc [(rl, xs), (nl, natsV names)] ∧ DpAll K Hc xs (rows.map row3D) ∧ rows.length = i ∧ ∀ r ∈ rows, Good3 n r ∧ r.2.2 = 1) ?_ ?_ ?_
    · exact ⟨none, [], [], rfl, O6, .nil, rfl, by simp⟩
    · clear O6
      rintro i σ Hc hi ⟨v8, rows, xs, rfl, O, hxs, hlen, hgood⟩
      have hi2 : i < near := by omega
      rw [Int.zero_add]
      have hrl := O.at0 0 rfl
      have hnl := O.at0 1 rfl
      have hmod : (i + 1) % near < near := Nat.mod_lt _ (by omega)
      have hxl : xs.length = rows.length := by rw [dpAll_len hxs, List.length_map]
      obtain ⟨x1, hn1, hx1, hb1⟩ := nameAt (i) (by omega)
      obtain ⟨x2, hn2, hx2, hb2⟩ := nameAt ((i + 1) % near) (by omega)
      have hne : x1 ≠ x2 := nameNe hn1 hn2 (by
        have := ring_step i near hi2 (by omega)
        omega)
      have emm : ((i : Int) + 1) % (near : Int) = (((i + 1) % near : Nat) : Int) := by rw [Int.natCast_emod]; rfl
      have em2 := emm
      refine ⟨_, rfl, .inl ⟨rfl, _, SqL.of hrl⟩, ?_⟩
      refine ⟨_, rfl, _, rfl, nl, _, _, _, rfl, rfl, SqL.of hnl, atI_nat hx1, _, rfl, _, rfl, _, _, rfl, rfl, .inl ⟨_, rfl, _, rfl, _, _, rfl, rfl, (by omega), nl, _, _, _, rfl, rfl, SqL.of hnl, (by rw [em2]; exact atI_nat hx2), by show 3 ≤ sizeLine; decide, fun p hp => ?_⟩⟩
      have sp := same_new (o := .tup [.int (x1 : Nat), .int (x2 : Nat), .int 1]) hp
      have hP : (upd Hc p (.tup [.int (x1 : Nat), .int (x2 : Nat), .int 1])) p = some (.tup [.int (x1 : Nat), .int (x2 : Nat), .int 1]) := upd_same
      have O := O.same sp
      generalize upd Hc p (.tup [.int (x1 : Nat), .int (x2 : Nat), .int 1]) = Hd at *
      have hrl2 := O.at0 0 rfl
      refine ⟨rl, _, _, rfl, rfl, hrl2, Nat.lt_of_lt_of_le (show xs.length < 1000 by omega) (by decide), ?_⟩
      have kf := (KF.of_same sp).trans (KF.of_upd (ys := xs ++ [.ref p]) hrl2)
      have O : Own b g H _ [(rl, xs ++ [.ref p]), (nl, natsV names)] := O.put 0 rfl
      refine ⟨_, rows ++ [(x1, x2, 1)], xs ++ [.ref p], rfl, O, ?_, by rw [List.length_append, List.length_singleton, hlen], fun r hr => ?_⟩
      · rw [List.map_append]
        exact dpAll_app (dpAll_kf kf _ (still_rows3 rows) hxs) (.cons (.tup (sqT_kf (KF.of_upd hrl2) (SqT.of hP)) (.cons (.int _) (.cons (.int _) (.cons (.int _) .nil)))) .nil)
      · rcases List.mem_append.mp hr with z | z
        · exact hgood r z
        · rw [List.mem_singleton.mp z]
          exact ⟨⟨hne, hb1, hb2, by show 1 ≤ 2; decide⟩, rfl⟩
    rintro σ H7 ⟨v8, rows0, xs0, rfl, O7, hxs0, hlen0, hgood0⟩
    clear O6
    show tSeq _ _ _ _ _
    refine tSeq_go ?_
    refine ⟨_, rfl, _, rfl, by omega, by omega, ?_⟩
    refine for_range (lo := 0) (n := (far : Int).toNat) (fun i σ Hc => ∃ (v8 : Option V) (rows : List Row3) (xs : List V), σ = [some (.ref b), some (.int (n : Nat)), some (.ref nl), some (.ref rl), some (.int (far : Nat)), some (.int (near : Nat)), some (.ref lf), v7, v8, none, none, none, none, none] ∧
      Own b g H Hc [(rl, xs), (nl, natsV names)] ∧ DpAll K Hc xs (rows.map row3D) ∧ rows.length = near + i ∧ (∀ r ∈ rows, Good3 n r) ∧ ones3 rows = near) ?_ ?_ ?_
    · exact ⟨v8, rows0, xs0, rfl, O7, hxs0, by omega, fun r hr => (hgood0 r hr).1, by rw [ones_all fun r hr => (hgood0 r hr).2]; omega⟩
    · clear O7 hxs0 hgood0 hlen0 v8 rows0 xs0
      rintro i σ Hc hi ⟨v8, rows, xs, rfl, O, hxs, hlen, hgood, hcnt⟩
      have hi2 : i < far := by omega
      rw [Int.zero_add]
      have hrl := O.at0 0 rfl
      have hnl := O.at0 1 rfl
      have hmod : (i + 1) % far < far := Nat.mod_lt _ (by omega)
      have hxl : xs.length = rows.length := by rw [dpAll_len hxs, List.length_map]
      obtain ⟨x1, hn1, hx1, hb1⟩ := nameAt (near + i) (by omega)
      obtain ⟨x2, hn2, hx2, hb2⟩ := nameAt (near + (i + 1) % far) (by omega)
      have hne : x1 ≠ x2 := nameNe hn1 hn2 (by
        have := ring_step i far hi2 (by omega)
        omega)
      have em1 : (near : Int) + (i : Int) = ((near + i : Nat) : Int) := by omega
      have emm : ((i : Int) + 1) % (far : Int) = (((i + 1) % far : Nat) : Int) := by rw [Int.natCast_emod]; rfl
      have em2 : (near : Int) + ((i : Int) + 1) % (far : Int) = ((near + (i + 1) % far : Nat) : Int) := by rw [emm]; omega
      refine ⟨_, rfl, .inl ⟨rfl, _, SqL.of hrl⟩, ?_⟩
      refine ⟨_, rfl, _, rfl, _, rfl, _, _, rfl, rfl, nl, _, _, _, rfl, rfl, SqL.of hnl, (by rw [em1]; exact atI_nat hx1), _, rfl, _, rfl, _, rfl, _, _, rfl, rfl, .inl ⟨_, rfl, _, rfl, _, _, rfl, rfl, (by omega), _, _, rfl, rfl, nl, _, _, _, rfl, rfl, SqL.of hnl, (by rw [em2]; exact atI_nat hx2), by show 3 ≤ sizeLine; decide, fun p hp => ?_⟩⟩
      have sp := same_new (o := .tup [.int (x1 : Nat), .int (x2 : Nat), .int 2]) hp
      have hP : (upd Hc p (.tup [.int (x1 : Nat), .int (x2 : Nat), .int 2])) p = some (.tup [.int (x1 : Nat), .int (x2 : Nat), .int 2]) := upd_same
      have O := O.same sp
      generalize upd Hc p (.tup [.int (x1 : Nat), .int (x2 : Nat), .int 2]) = Hd at *
      have hrl2 := O.at0 0 rfl
      refine ⟨rl, _, _, rfl, rfl, hrl2, Nat.lt_of_lt_of_le (show xs.length < 1000 by omega) (by decide), ?_⟩
      have kf := (KF.of_same sp).trans (KF.of_upd (ys := xs ++ [.ref p]) hrl2)
      have O : Own b g H _ [(rl, xs ++ [.ref p]), (nl, natsV names)] := O.put 0 rfl
      refine ⟨_, rows ++ [(x1, x2, 2)], xs ++ [.ref p], rfl, O, ?_, by rw [List.length_append, List.length_singleton, hlen]; omega, fun r hr => ?_, ?_⟩
      · rw [List.map_append]
        exact dpAll_app (dpAll_kf kf _ (still_rows3 rows) hxs) (.cons (.tup (sqT_kf (KF.of_upd hrl2) (SqT.of hP)) (.cons (.int _) (.cons (.int _) (.cons (.int _) .nil)))) .nil)
      · rcases List.mem_append.mp hr with z | z
        · exact hgood r z
        · rw [List.mem_singleton.mp z]
          exact ⟨hne, hb1, hb2, by show 2 ≤ 2; decide⟩
      · rw [ones_snoc, hcnt]
        rfl
    rintro σ H8 ⟨v8, rows, xs, rfl, O, hxs, hlen, hgood, hcnt⟩
    clear O7 hxs0 hgood0 hlen0
    show tSeq _ _ _ _ _
    refine tSeq_go ?_
    -- further rows
    refine ⟨_, rfl, b, g, 3, rfl, by decide, by decide, O.bx, fun r H9 r0 r1 kp9 B9 => ?_⟩
    have hxs := dpAll_kf (KF.of_kp kp9 O.bx) _ (still_rows3 rows) hxs
    have O := O.draw kp9 B9
    have hm3 : 0 ≤ r + (if decide ((0 : Int) < far) = true then 1 else 0) ∧ r + (if decide ((0 : Int) < far) = true then 1 else 0) ≤ 3 := by
      split <;> omega
    refine ⟨_, rfl, _, _, rfl, rfl, .inr ⟨_, rfl, _, _, rfl, rfl, _, rfl, by omega, by omega, ?_⟩⟩
    generalize (r + (if decide ((0 : Int) < far) = true then 1 else 0)) = m3 at *
    refine for_range (lo := 0) (n := m3.toNat) (fun i σ Hc => ∃ (v7 v8 v11 v12 : Option V) (rl : Addr) (rows : List Row3) (xs : List V), σ = [some (.ref b), some (.int (n : Nat)), some (.ref nl), some (.ref rl), some (.int (far : Nat)), some (.int (near : Nat)), some (.ref lf), v7, v8, none, none, v11, v12, none] ∧
      Own b g H Hc [(rl, xs), (nl, natsV names)] ∧ DpAll K Hc xs (rows.map row3D) ∧ rows.length ≤ n + i ∧ (∀ r ∈ rows, Good3 n r) ∧ ones3 rows = near) ?_ ?_ ?_
    · exact ⟨v7, v8, none, none, rl, rows, xs, rfl, O, hxs, by omega, hgood, hcnt⟩
    · rintro i σ Hc hi ⟨v7, v8, v11, v12, rl, rows, xs, rfl, O, hxs, hlen, hgood, hcnt⟩
      have hi3 : i < 3 := by omega
      rw [Int.zero_add]
      show tSeq _ _ _ _ _
      refine tSeq_go ?_
      refine tAsg_by (fun u H' => ∃ (p : Addr) (one other : Nat), u = .ref p ∧ SqT K H' p [.int (one : Nat), .int (other : Nat)] ∧ one < n ∧ other < n ∧ Own b g H H' [(rl, xs), (nl, natsV names)] ∧ DpAll K H' xs (rows.map row3D)) ?_ (fun cont => ?_)
      rotate_left
      · refine ⟨_, rfl, rfl, _, rfl, ite2 (fun h1 => ?_) (fun h1 => ?_)⟩
        · refine ⟨_, rfl, _, _, rfl, rfl, _, rfl, ite2 (fun h2 => ?_) (fun h2 => ?_)⟩
          · have h2 : (0 : Int) < far := of_decide_eq_true h2
            refine ⟨_, rfl, by show 2 ≤ sizeLine; decide, fun p hp => ?_⟩
            have sp := same_new (o := .tup [.int 0, .int (near : Nat)]) hp
            exact cont _ _ ⟨p, 0, near, rfl, SqT.of upd_same, by omega, by omega, O.same sp, dpAll_same sp _ hxs⟩
          · exact ⟨_, rfl, _, rfl, b, g, (n : Int), rfl, by omega, by omega, O.bx, fun ra Ha a0 a1 kpa Ba => ⟨_, rfl, _, rfl, b, g, (n : Int), rfl, by omega, by omega, Ba, fun rb Hb b0 b1 kpb Bb => ⟨by show 2 ≤ sizeLine; decide, fun p hp => by
          obtain ⟨one, rfl⟩ : ∃ j : Nat, ra = (j : Int) := ⟨ra.toNat, by omega⟩
          obtain ⟨other, rfl⟩ : ∃ j : Nat, rb = (j : Int) := ⟨rb.toNat, by omega⟩
          have sp := same_new (o := .tup [.int (one : Nat), .int (other : Nat)]) hp
          exact cont _ _ ⟨p, one, other, rfl, SqT.of upd_same, by omega, by omega, ((O.draw kpa Ba).draw kpb Bb).same sp, dpAll_same sp _ (dpAll_kf (KF.of_kp kpb Ba) _ (still_rows3 rows) (dpAll_kf (KF.of_kp kpa O.bx) _ (still_rows3 rows) hxs))⟩⟩⟩⟩
        · refine iteF ?_
          exact ⟨_, rfl, _, rfl, b, g, (n : Int), rfl, by omega, by omega, O.bx, fun ra Ha a0 a1 kpa Ba => ⟨_, rfl, _, rfl, b, g, (n : Int), rfl, by omega, by omega, Ba, fun rb Hb b0 b1 kpb Bb => ⟨by show 2 ≤ sizeLine; decide, fun p hp => by
          obtain ⟨one, rfl⟩ : ∃ j : Nat, ra = (j : Int) := ⟨ra.toNat, by omega⟩
          obtain ⟨other, rfl⟩ : ∃ j : Nat, rb = (j : Int) := ⟨rb.toNat, by omega⟩
          have sp := same_new (o := .tup [.int (one : Nat), .int (other : Nat)]) hp
          exact cont _ _ ⟨p, one, other, rfl, SqT.of upd_same, by omega, by omega, ((O.draw kpa Ba).draw kpb Bb).same sp, dpAll_same sp _ (dpAll_kf (KF.of_kp kpb Ba) _ (still_rows3 rows) (dpAll_kf (KF.of_kp kpa O.bx) _ (still_rows3 rows) hxs))⟩⟩⟩⟩
      rintro _ Hd ⟨p, one, other, rfl, hp, h1n, h2n, O, hxs⟩
      refine ⟨p, _, rfl, hp, rfl, _, _, rfl, _, _, rfl, rfl, ?_⟩
      refine at_st [some (.ref b), some (.int (n : Nat)), some (.ref nl), some (.ref rl), some (.int (far : Nat)), some (.int (near : Nat)), some (.ref lf), some (.int (i : Nat)), v8, none, none, some (.int (one : Nat)), some (.int (other : Nat)), none] rfl ?_
      refine ⟨_, rfl, _, rfl, rfl, _, rfl, ite2 (fun hh => ?_) (fun hh => ?_)⟩
      · have hoo : one ≠ other := fun z => by
          rw [z] at hh
          simp at hh
        obtain ⟨x1, hn1, hx1, hb1⟩ := nameAt one h1n
        obtain ⟨x2, hn2, hx2, hb2⟩ := nameAt other h2n
        have hne : x1 ≠ x2 := nameNe hn1 hn2 hoo
        have hnl := O.at0 1 rfl
        have hxl : xs.length = rows.length := by rw [dpAll_len hxs, List.length_map]
        refine ⟨_, rfl, _, rfl, _, rfl, nl, _, _, _, rfl, rfl, SqL.of hnl, atI_nat hx1, _, rfl, _, rfl, nl, _, _, _, rfl, rfl, SqL.of hnl, atI_nat hx2, by show 3 ≤ sizeLine; decide, fun p2 hp2 => ⟨by show 1 ≤ sizeLine; decide, fun q hq => ?_⟩⟩
        have s1 := same_new (o := .tup [.int (x1 : Nat), .int (x2 : Nat), .int 0]) hp2
        have s2 := same_new (o := .lst [.ref p2]) hq
        have s12 := s1.trans s2
        have O2 := O.same s12
        refine ⟨rl, q, xs, [.ref p2], rfl, rfl, O2.at0 0 rfl, upd_same, by rw [List.length_singleton]; exact Nat.le_trans (show xs.length + 1 ≤ 1000 by omega) (by decide), fun l2 hl2 => ?_⟩
        have s3 := same_new (o := .lst (xs ++ [.ref p2])) hl2
        have O3 := (O2.new (xs := xs ++ [.ref p2]) hl2).sub (bs := [(l2, xs ++ [.ref p2]), (nl, natsV names)]) (.cons₂ _ (.cons _ (List.Sublist.refl _)))
        refine ⟨_, v8, _, _, l2, rows ++ [(x1, x2, 0)], xs ++ [.ref p2], rfl, O3, ?_, by rw [List.length_append, List.length_singleton]; omega, fun r hr => ?_, ?_⟩
        · rw [List.map_append]
          exact dpAll_app (dpAll_same (s12.trans s3) _ hxs) (.cons (.tup (SqT.of (s3 _ _ (s2 _ _ upd_same))) (.cons (.int _) (.cons (.int _) (.cons (.int _) .nil)))) .nil)
        · rcases List.mem_append.mp hr with z | z
          · exact hgood r z
          · rw [List.mem_singleton.mp z]
            exact ⟨hne, hb1, hb2, by show 0 ≤ 2; decide⟩
        · rw [ones_snoc, hcnt]
          rfl
      · exact ⟨_, rfl, _, v8, _, _, rl, rows, xs, rfl, O, hxs, by omega, hgood, hcnt⟩
    rintro σ H10 ⟨v7, v8, v11, v12, rl, rows, xs, rfl, O, hxs, hlen, hgood, hcnt⟩
    have hlen : rows.length ≤ n + 3 := by omega
    have O : Own b g H H10 [(rl, xs)] := O.sub (.cons₂ _ (.cons _ List.Sublist.slnil))
    clear hm3 nameAt nameNe hnn hnlt hnm r0 r1
    show tSeq _ _ _ _ _
    refine tSeq_go ?_
    refine ⟨Nat.zero_le _, fun tl htl => ?_⟩
    have hxs := dpAll_same (same_new (o := .lst []) htl) _ hxs
    have O := O.new (xs := []) htl
    generalize upd H10 tl (.lst []) = H11 at *
    refine ⟨Nat.zero_le _, fun l1 hl1 => ?_⟩
    have hxs := dpAll_same (same_new (o := .lst []) hl1) _ hxs
    have O := O.new (xs := []) hl1
    generalize upd H11 l1 (.lst []) = H12 at *
    refine ⟨Nat.zero_le _, fun l2 hl2 => ?_⟩
    have hxs := dpAll_same (same_new (o := .lst []) hl2) _ hxs
    have O := O.new (xs := []) hl2
    generalize upd H12 l2 (.lst []) = H13 at *
    refine ⟨by show 2 ≤ sizeLine; decide, fun ll hll => ⟨_, _, rfl, ?_⟩⟩
    have hxs := dpAll_same (same_new (o := .lst [.ref l1, .ref l2]) hll) _ hxs
    have O := O.new (xs := [.ref l1, .ref l2]) hll
    generalize upd H13 ll (.lst [.ref l1, .ref l2]) = H14 at *
    have O : Own b g H H14 [(ll, [.ref l1, .ref l2]), (l2, natsV []), (l1, natsV []), (tl, []), (rl, xs)] := O
    refine at_st [some (.ref b), some (.int (n : Nat)), some (.ref nl), some (.ref rl), some (.int (far : Nat)), some (.int (near : Nat)), some (.ref lf), v7, v8, some (.ref tl), some (.ref ll), v11, v12, none] rfl ?_
    dsimp only
    refine tSeq_go ?_
    have hxl : xs.length = rows.length := by rw [dpAll_len hxs, List.length_map]
    refine ⟨_, rfl, rl, _, rfl, .inl (SqL.of (O.at0 4 rfl)), _, rfl, by omega, by omega, ?_⟩
    rw [hxl]
    generalize hR : rows.length = R at *
    refine for_range (lo := 0) (n := ((R : Nat) : Int).toNat) (fun i σ Hc => ∃ (v7 v11 v12 v13 : Option V) (rows : List Row3) (xs ys : List V) (ts : List Tie) (fs gs : List Nat), σ = [some (.ref b), some (.int (n : Nat)), some (.ref nl), some (.ref rl), some (.int (far : Nat)), some (.int (near : Nat)), some (.ref lf), v7, v8, some (.ref tl), some (.ref ll), v11, v12, v13] ∧
      Own b g H Hc [(ll, [.ref l1, .ref l2]), (l2, natsV gs), (l1, natsV fs), (tl, ys), (rl, xs)] ∧ DpAll K Hc xs (rows.map row3D) ∧ DpAll K Hc ys (ts.map tieD) ∧ rows.length + i = R ∧ ts.length = i ∧ (∀ r ∈ rows, Good3 n r) ∧
      (∀ t ∈ ts, t.1 < t.2 ∧ t.2 < n) ∧ LotA i fs ∧ LotA i gs ∧ (∀ k ∈ fs, k ∉ gs) ∧ fs.length + ones3 rows = near) ?_ ?_ ?_
    · exact ⟨v7, v11, v12, none, rows, xs, [], [], [], [], rfl, O, hxs, .nil, by omega, rfl, hgood, by simp, ⟨.nil, by simp⟩, ⟨.nil, by simp⟩, by simp, by rw [hcnt, List.length_nil]; omega⟩
    · rintro i σ Hc hi ⟨v7, v11, v12, v13, rows, xs, ys, ts, fs, gs, rfl, O, hxs, hys, hRi, htl2, hgood, hts, hfA, hgA, hdis, hcnt⟩
      have hi2 : i < R := by omega
      have hxl : xs.length = rows.length := by rw [dpAll_len hxs, List.length_map]
      have hyl : ys.length = ts.length := by rw [dpAll_len hys, List.length_map]
      rw [Int.zero_add]
      show tSeq _ _ _ _ _
      refine tSeq_go ?_
      have hrl := O.at0 4 rfl
      refine ⟨_, rfl, .inl ⟨rfl, _, SqL.of hrl⟩, ?_⟩
      refine ⟨_, rfl, _, rfl, rl, _, rfl, .inl (SqL.of hrl), b, g, (xs.length : Int), rfl, by omega, by omega, O.bx, fun r He r0 r1 kpe hBe => ?_⟩
      obtain ⟨j, rfl⟩ : ∃ j : Nat, r = (j : Int) := ⟨r.toNat, by omega⟩
      have hj : j < xs.length := by omega
      have hjx : xs[j]? = some xs[j] := List.getElem?_eq_getElem hj
      generalize xs[j] = xr at hjx
      obtain ⟨dd, hdd, hxr⟩ := dpAll_get hxs hjx
      obtain ⟨row, hrow, rfl⟩ := get_map hdd
      obtain ⟨x1, x2, mk⟩ := row
      obtain ⟨g1, g2, g3, g4⟩ := hgood _ (List.mem_of_getElem? hrow)
      dsimp only at g1 g2 g3 g4
      have kfe := KF.of_kp kpe O.bx
      have O := O.draw kpe hBe
      have hrl2 := O.at0 4 rfl
      refine ⟨rl, _, _, j, _, rfl, rfl, hrl2, by omega, by omega, seq_nat hj, hjx, ?_⟩
      have kfp := kfe.trans (KF.of_upd (ys := xs.eraseIdx j) hrl2)
      have O : Own b g H _ [(ll, [.ref l1, .ref l2]), (l2, natsV gs), (l1, natsV fs), (tl, ys), (rl, xs.eraseIdx j)] := O.put 4 rfl
      generalize upd He rl (.lst (xs.eraseIdx j)) = Hf at *
      have hxs : DpAll K Hf (xs.eraseIdx j) ((rows.eraseIdx j).map row3D) := by
        rw [← map_erase]
        exact dpAll_erase j (dpAll_kf kfp _ (still_rows3 rows) hxs)
      have hys := dpAll_kf kfp _ (still_ties ts) hys
      obtain ⟨pr, zs, rfl, hpr, hzs⟩ := dp_tup (dp_kf kfp (row3D (x1, x2, mk)) (by simp [row3D, still, stillAll]) hxr)
      have ezs : zs = [.int (x1 : Nat), .int (x2 : Nat), .int (mk : Nat)] := dpAll_ints' (ns := [(x1 : Int), (x2 : Int), (mk : Int)]) hzs
      subst ezs
      refine ⟨pr, _, rfl, hpr, rfl, _, _, rfl, _, _, rfl, _, _, rfl, rfl, ?_⟩
      have hjr : j < rows.length := by omega
      have hcnt2 : fs.length + ((if mk = 1 then 1 else 0) + ones3 (rows.eraseIdx j)) = near := by
        rw [← hcnt, ones_erase hrow]
      have hgood2 : ∀ r ∈ rows.eraseIdx j, Good3 n r := fun r hr => hgood r (List.mem_of_mem_eraseIdx hr)
      have hrl3 : (rows.eraseIdx j).length + 1 = rows.length := by
        rw [List.length_eraseIdx_of_lt hjr]
        omega
      generalize rows.eraseIdx j = rows' at *
      generalize xs.eraseIdx j = xs' at *
      refine at_st [some (.ref b), some (.int (n : Nat)), some (.ref nl), some (.ref rl), some (.int (far : Nat)), some (.int (near : Nat)), some (.ref lf), some (.int (i : Nat)), v8, some (.ref tl), some (.ref ll), some (.int (x1 : Nat)), some (.int (x2 : Nat)), some (.int (mk : Nat))] rfl ?_
      dsimp only
      refine tSeq_go ?_
      refine tIfS_by (fun σ' H' => ∃ fs' gs' : List Nat, σ' = [some (.ref b), some (.int (n : Nat)), some (.ref nl), some (.ref rl), some (.int (far : Nat)), some (.int (near : Nat)), some (.ref lf), some (.int (i : Nat)), v8, some (.ref tl), some (.ref ll), some (.int (x1 : Nat)), some (.int (x2 : Nat)), some (.int (mk : Nat))] ∧
        Own b g H H' [(ll, [.ref l1, .ref l2]), (l2, natsV gs'), (l1, natsV fs'), (tl, ys), (rl, xs')] ∧ DpAll K H' xs' (rows'.map row3D) ∧ DpAll K H' ys (ts.map tieD) ∧ LotA (i + 1) fs' ∧ LotA (i + 1) gs' ∧ (∀ k ∈ fs', k ∉ gs') ∧
        fs'.length + ones3 rows' = near) ?_ (fun cont => ?_)
      · rintro σ' H' ⟨fs', gs', rfl, O, hxs, hys, hfA, hgA, hdis, hcnt⟩
        obtain ⟨t, ht1, ht2, ht3, ht4⟩ : ∃ t : Tie, (if (x2 : Int) < x1 then (x2 : Int) else x1) = (t.1 : Nat) ∧ (if (x2 : Int) > x1 then (x2 : Int) else x1) = (t.2 : Nat) ∧ t.1 < t.2 ∧ t.2 < n := by
          by_cases z : (x2 : Int) < x1
          · exact ⟨(x2, x1), by rw [if_pos z], by rw [if_neg (by omega)], by show x2 < x1; omega, g2⟩
          · exact ⟨(x1, x2), by rw [if_neg z], by rw [if_pos (by omega)], by show x1 < x2; omega, g3⟩
        have htl := O.at0 3 rfl
        refine ⟨_, rfl, .inl ⟨rfl, _, SqL.of htl⟩, ?_⟩
        refine ⟨_, rfl, _, rfl, _, _, rfl, _, rfl, _, rfl, _, _, rfl, by show 2 ≤ sizeLine; decide, fun p hp => ?_⟩
        rw [ht1, ht2]
        have sp := same_new (o := .tup [.int (t.1 : Nat), .int (t.2 : Nat)]) hp
        have hP : (upd H' p (.tup [.int (t.1 : Nat), .int (t.2 : Nat)])) p = some (.tup [.int (t.1 : Nat), .int (t.2 : Nat)]) := upd_same
        have O := O.same sp
        generalize upd H' p (.tup [.int (t.1 : Nat), .int (t.2 : Nat)]) = Hh at *
        have htl2' := O.at0 3 rfl
        refine ⟨tl, _, _, rfl, rfl, htl2', Nat.lt_of_lt_of_le (show ys.length < 1000 by omega) (by decide), ?_⟩
        have kf := KF.of_upd (ys := ys ++ [.ref p]) htl2'
        have O : Own b g H _ [(ll, [.ref l1, .ref l2]), (l2, natsV gs'), (l1, natsV fs'), (tl, ys ++ [.ref p]), (rl, xs')] := O.put 3 rfl
        refine ⟨_, _, _, _, rows', xs', ys ++ [.ref p], ts ++ [t], fs', gs', rfl, O, dpAll_kf kf _ (still_rows3 rows') (dpAll_same sp _ hxs), ?_, by omega, by rw [List.length_append, List.length_singleton, htl2], hgood2, fun u hu => ?_, hfA, hgA, hdis, hcnt⟩
        · rw [List.map_append]
          exact dpAll_app (dpAll_kf kf _ (still_ties ts) (dpAll_same sp _ hys)) (.cons (.tup (sqT_kf kf (SqT.of hP)) (.cons (.int _) (.cons (.int _) .nil))) .nil)
        · rcases List.mem_append.mp hu with z | z
          · exact hts u z
          · rw [List.mem_singleton.mp z]
            exact ⟨ht3, ht4⟩
      · have hfA' := lotA_up hfA
        have hgA' := lotA_up hgA
        have hfl := lotA_len hfA
        have hgl := lotA_len hgA
        have hytl : (ys.length : Nat) = i := by omega
        refine ⟨_, rfl, _, _, rfl, rfl, _, rfl, ite2 (fun hh => ?_) (fun hh => ?_)⟩
        · have hh : (0 : Int) < mk := of_decide_eq_true hh
          have htl := O.at0 3 rfl
          by_cases e : mk = 1
          · subst e
            refine ⟨_, rfl, _, rfl, _, _, rfl, rfl, ll, _, _, .ref l1, rfl, rfl, SqL.of (O.at0 0 rfl), (by rw [show (((1 : Nat) : Int) - 1) = ((0 : Nat) : Int) from rfl]; exact atI_nat rfl), .inl ⟨rfl, _, SqL.of (O.at0 2 rfl)⟩, _, rfl, tl, _, rfl, .inl (SqL.of htl), l1, _, _, rfl, rfl, O.at0 2 rfl, by rw [natsV_len]; exact Nat.lt_of_lt_of_le (show fs.length < 1000 by omega) (by decide), ?_⟩
            rw [hytl, natsV_snoc]
            have kf := KF.of_upd (ys := natsV (fs ++ [i])) (O.at0 2 rfl)
            have O : Own b g H _ [(ll, [.ref l1, .ref l2]), (l2, natsV gs), (l1, natsV (fs ++ [i])), (tl, ys), (rl, xs')] := O.put 2 rfl
            refine cont _ _ ⟨fs ++ [i], gs, rfl, O, dpAll_kf kf _ (still_rows3 rows') hxs, dpAll_kf kf _ (still_ties ts) hys, lotA_snoc hfA, hgA', fun k hk hkg => ?_, ?_⟩
            · rcases List.mem_append.mp hk with z | z
              · exact hdis k z hkg
              · rw [List.mem_singleton.mp z] at hkg
                exact absurd (hgA.2 i hkg) (by omega)
            · rw [List.length_append, List.length_singleton]
              rw [if_pos rfl] at hcnt2
              omega
          · have e2 : mk = 2 := by omega
            subst e2
            refine ⟨_, rfl, _, rfl, _, _, rfl, rfl, ll, _, _, .ref l2, rfl, rfl, SqL.of (O.at0 0 rfl), (by rw [show (((2 : Nat) : Int) - 1) = ((1 : Nat) : Int) from rfl]; exact atI_nat rfl), .inl ⟨rfl, _, SqL.of (O.at0 1 rfl)⟩, _, rfl, tl, _, rfl, .inl (SqL.of htl), l2, _, _, rfl, rfl, O.at0 1 rfl, by rw [natsV_len]; exact Nat.lt_of_lt_of_le (show gs.length < 1000 by omega) (by decide), ?_⟩
            rw [hytl, natsV_snoc]
            have kf := KF.of_upd (ys := natsV (gs ++ [i])) (O.at0 1 rfl)
            have O : Own b g H _ [(ll, [.ref l1, .ref l2]), (l2, natsV (gs ++ [i])), (l1, natsV fs), (tl, ys), (rl, xs')] := O.put 1 rfl
            refine cont _ _ ⟨fs, gs ++ [i], rfl, O, dpAll_kf kf _ (still_rows3 rows') hxs, dpAll_kf kf _ (still_ties ts) hys, hfA', lotA_snoc hgA, fun k hk hkg => ?_, ?_⟩
            · rcases List.mem_append.mp hkg with z | z
              · exact hdis k hk z
              · rw [List.mem_singleton.mp z] at hk
                exact absurd (hfA.2 i hk) (by omega)
            · rw [if_neg (by decide)] at hcnt2
              omega
        · have hh : ¬ (0 : Int) < mk := fun z => hh (decide_eq_true z)
          refine cont _ _ ⟨fs, gs, rfl, O, hxs, hys, hfA', hgA', hdis, ?_⟩
          rw [if_neg (by omega)] at hcnt2
          omega
    · rintro σ Hc ⟨v7, v11, v12, v13, rows, xs, ys, ts, fs, gs, rfl, O, hxs, hys, hRi, htl2, hgood, hts, hfA, hgA, hdis, hcnt⟩
      have hrows : rows = [] := List.eq_nil_of_length_eq_zero (by omega)
      subst hrows
      have hTR : ts.length = R := by omega
      have eR : ((R : Nat) : Int).toNat = ts.length := by omega
      rw [eR] at hfA hgA
      have hfne : fs ≠ [] := fun z => by
        rw [z] at hcnt
        have : (0 : Nat) + 0 = near := hcnt
        omega
      have h1 := O.at0 3 rfl
      refine ⟨_, rfl, _, rfl, tl, _, rfl, .inl ⟨SqL.of h1, fun q1 hq1 => ?_⟩⟩
      have s1 := same_new (o := .tup ys) hq1
      refine ⟨by show 2 ≤ sizeLine; decide, fun q2 hq2 => ?_⟩
      have s2 := same_new (o := .tup [.int (n : Nat), .ref q1]) hq2
      have O := O.same (s1.trans s2)
      refine ⟨_, rfl, ll, _, _, _, rfl, rfl, SqL.of (O.at0 0 rfl), atI_nat (j := 0) rfl, l1, _, rfl, .inl ⟨SqL.of (O.at0 2 rfl), fun q3 hq3 => ?_⟩⟩
      have s3 := same_new (o := .tup (natsV fs)) hq3
      have O := O.same s3
      refine ⟨_, rfl, ll, _, _, _, rfl, rfl, SqL.of (O.at0 0 rfl), atI_nat (j := 1) rfl, l2, _, rfl, .inl ⟨SqL.of (O.at0 1 rfl), fun q4 hq4 => ?_⟩⟩
      have s4 := same_new (o := .tup (natsV gs)) hq4
      have O := O.same s4
      refine ⟨by show 3 ≤ sizeLine; decide, fun q5 hq5 => ?_⟩
      have s5 := same_new (o := .tup [.ref q2, .ref q3, .ref q4]) hq5
      have O := O.same s5
      refine k _ n ts fs gs _ O.kp O.bx (.tup (SqT.of upd_same) (.cons ?_ (.cons ?_ (.cons ?_ .nil)))) (by omega) (by omega) (by omega) hts hfA hgA hdis hfne
      · exact .tup (SqT.of (s5 _ _ (s4 _ _ (s3 _ _ upd_same)))) (.cons (.int _) (.cons (.tup (SqT.of (s5 _ _ (s4 _ _ (s3 _ _ (s2 _ _ upd_same))))) (dpAll_same (s1.trans (s2.trans (s3.trans (s4.trans s5)))) _ hys)) .nil))
      · exact lot_dp (SqT.of (s5 _ _ (s4 _ _ upd_same)))
      · exact lot_dp (SqT.of (s5 _ _ upd_same))
end
end BV

namespace BV
open PySem L2
theorem eqv_nats (ks : List Nat) : (PyData.list ((ks.map fun (k : Nat) => (k : Int)).map PyData.int)).eqv (.list []) = decide (ks = []) := by
  cases ks with
  | nil => rfl
  | cons k ks => rfl
abbrev sRlots : Stmt := top 39
abbrev nRlots : List Str := ["_law_box_here", "_law_web_here", "_law_first", "_law_second", "_law_further", "_law_spot", "_law_lots", "_law_more", "_law_tie"]
abbrev pRlots : List Str := ["_law_box_here"]
theorem scRlots : FnScope nRlots pRlots (defScope sRlots) := ⟨rfl, rfl, rfl, by decide +kernel, rfl, by decide +kernel, by decide +kernel⟩
theorem Own.add {b g : Addr} {H0 H H' : Hp} {as : List (Addr × List V)} (O : Own b g H0 H as) {q : Addr} {xs : List V} (h : H q = none) (s : Same H H') (hq : H' q = some (.lst xs)) : Own b g H0 H' ((q, xs) :: as) := by
  obtain ⟨nb, ng⟩ := box_ne O.bx h
  have O' := O.same s
  refine ⟨O'.kp, O'.bx, fun p hp => ?_, fun p hp => ?_, fun p hp => ?_, ?_⟩
  · rcases List.mem_cons.mp hp with e | e
    · rw [e]
      exact hq
    · exact O'.hold p e
  · rcases List.mem_cons.mp hp with e | e
    · rw [e]
      exact kp_old O.kp h nb ng
    · exact O.fr p e
  · rcases List.mem_cons.mp hp with e | e
    · rw [e]
      exact ⟨nb, ng⟩
    · exact O.ne p e
  · refine List.nodup_cons.mpr ⟨fun z => ?_, O.nd⟩
    obtain ⟨p, hp, e⟩ := List.mem_map.mp z
    have := O.hold p hp
    rw [e, h] at this
    cases this
theorem sort_lot {L : Nat} {l : List Nat} (hn : l.Nodup) (hl : ∀ k ∈ l, k < L) {zs : List Int} (hperm : zs.Perm (l.map fun (k : Nat) => (k : Int))) (hsort : zs.Pairwise (· ≤ ·)) : ∃ ns : List Nat, zs.map V.int = natsV ns ∧ LotA L ns := by
  obtain ⟨ns, rfl, hnp, hasc⟩ := sorted_nats hperm hsort hn
  exact ⟨ns, (natsV_ints ns).symm, hasc, fun k hk => hl k (hnp.mem_iff.mp hk)⟩
theorem natsV_app (l m : List Nat) : natsV l ++ natsV m = ((l ++ m).map fun (k : Nat) => (k : Int)).map V.int := by
  rw [← natsV_ints]
  unfold natsV
  rw [List.map_append]
theorem cutN_hi (l : List Nat) (j : Nat) : cutV (natsV l) none (some (j : Int)) = natsV (l.take j) := by
  rw [cut_hi]
  unfold natsV
  rw [List.map_take]
theorem cutN_lo (l : List Nat) (j : Nat) : cutV (natsV l) (some (j : Int)) none = natsV (l.drop j) := by
  rw [cut_lo]
  unfold natsV
  rw [List.map_drop]
def spRlots (K : PySem.W.Frag) : Sp := fun vs H Q _ => ∃ (b g : Addr), vs = [.ref b] ∧ Box H b g ∧
  ∀ (p l : Addr) (wv : V) (n : Nat) (ts : List Tie) (xs : List V) (ls : List (List Nat)) H', Kp b g H H' → Box H' b g → SqT K H' p [wv, .ref l] → Dp K H' wv (webD n ts) → H' l = some (.lst xs) → DpAll K H' xs (ls.map lotD) →
    (∀ r ∈ ls, LotA ts.length r) → 1 ≤ n → n ≤ 12 → ts.length ≤ 16 → (∀ t ∈ ts, t.1 < t.2 ∧ t.2 < n) → l ≠ b → l ≠ g → Q (.ref p) H'
section
variable {P : Program} {w : World} {K : PySem.W.Frag} {mg : Str → Option Value} {base : Heap}
theorem ok_rlots {f f1 f2 f3 : Addr} {fd fd1 fd2 fd3 : FuncData} (D : Df K mg "_law_ring_lots" sRlots pRlots f fd) (T : Bl mg) (hlist : mg "list" = none) (hsorted : mg "sorted" = none) (D_draw : Df K mg "_law_draw" sDraw ["_law_box_here", "_law_many"] f1 fd1) (D_pick : Df K mg "_law_pick" sPick nPick f2 fd2)
    (D_rings : Df K mg "_law_two_rings" sRings pRings f3 fd3) : FnOk P w K mg base CX0 4 f fd pRlots (spRlots K) := by
  have G_pick : FnOk P w K mg base CX0 2 f2 fd2 nPick (spPick K) := ok_pick D_pick T D_draw
  have G_draw : FnOk P w K mg base CX0 1 f1 fd1 ["_law_box_here", "_law_many"] spDraw := ok_draw D_draw T
  have G_rings : FnOk P w K mg base CX0 3 f3 fd3 pRings (spRings K) := ok_rings D_rings T hlist D_draw D_pick
  refine D.fn.ok scRlots (fun vs H Q E h => ?_) (fun cdv A outer s H vs Q E hr h => ?_)
  · obtain ⟨b, g, rfl, _⟩ := h
    rfl
  · obtain ⟨b, g, rfl, hB, k⟩ := h
    have nd := scRlots.nd
    have hr_pick : Room 2 _ := hr.mono (by decide)
    have hr_draw : Room 1 _ := hr.mono (by decide)
    have hr_rings : Room 3 _ := hr
    have O : Own b g H H [] := Own.zero hB
    refine ⟨_, (pss_cons (ps_asg (pe_call G_rings hr_rings (by rfl) D_rings.ad D_rings.fn.kp D_rings.bd .nil pass0 (pa_cons (pv 0) pa_nil)) (pgT K rfl (pgs_cons (pg_name (i := 1) nd rfl (by first | exact Or.inl rfl | exact Or.inr rfl)) (pgs_cons (pg_name (i := 2) nd rfl (by first | exact Or.inl rfl | exact Or.inr rfl)) (pgs_cons (pg_name (i := 3) nd rfl (by first | exact Or.inl rfl | exact Or.inr rfl)) pgs_nil)))))
      (pss_cons (ps_par (i := 4) (j := 5) (by rfl) nd rfl rfl (by decide) rfl rfl (pa_cons (pe_lc (own := [("_law_tie", 8)]) (g := (gName 8)) rfl nd (pi_range1 rfl T.range (pa_cons (pe_callB (lenK K) (by rfl) T.len PySem.boot_len (pa_cons (pe_ix (ixT K) (pv 1) pe_int (fun _ _ => rfl)) pa_nil)) pa_nil)) (blkOk_by (own := [("_law_tie", 8)]) (N := nRlots) (sc := defScope sRlots) (by decide +kernel)) (fun _ _ _ _ _ => (pg_name (i := 8) nd rfl (by first | exact Or.inl rfl | exact Or.inr rfl))) (fun _ _ _ _ _ => (pts_one (pt_cmpR (opNotIn K) (pv 8) (pv 2) rfl))) (fun _ _ _ _ _ => (pv 8))) (pa_cons (pe_call G_draw hr_draw (by rfl) D_draw.ad D_draw.fn.kp D_draw.bd .nil pass0 (pa_cons (pv 0) (pa_cons (pe_callB (lenK K) (by rfl) T.len PySem.boot_len (pa_cons (pv 2) pa_nil)) pa_nil))) pa_nil)) (by rfl))
      (pss_cons (ps_set (i := 6) nd rfl (by first | exact Or.inl rfl | exact Or.inr rfl) (pe_lst (pa_cons (pv 2) (pa_cons (pe_callTy (tupleK K) (by rfl) T.tuple (by decide +kernel) (pa_cons (pe_callB (cr_sortTup K) (by rfl) hsorted (by decide +kernel) (pa_cons (pe_op (catA K) (pv 2) (pv 3)) pa_nil)) pa_nil)) pa_nil))))
      (pss_cons (ps_if (pt_cmpR (opNeD K hr.units) (pv 4) (pe_lst pa_nil) (nomark _)) (pss_cons (ps_set (i := 7) nd rfl (by first | exact Or.inl rfl | exact Or.inr rfl) (pe_call G_pick hr_pick (by rfl) D_pick.ad D_pick.fn.kp D_pick.bd .nil pass0 (pa_cons (pv 0) (pa_cons (pv 4) pa_nil))))
      (pss_cons (ps_expr (pe_bm PySem.F.plainAttrs_list PySem.F.slot_list_append PySem.F.type_list_append mt_append (pv 6) (pa_cons (pe_callTy (tupleK K) (by rfl) T.tuple (by decide +kernel) (pa_cons (pe_callB (cr_sortTup K) (by rfl) hsorted (by decide +kernel) (pa_cons (pe_op (catA K) (pe_op (catA K) (pe_slice (slTA K) (pv 2) po_none (po_some (pv 5))) (pe_slice (slTA K) (pv 2) (po_some (pe_op op_add (pv 5) pe_int)) po_none)) (pe_tup (pa_cons (pv 7) pa_nil))) pa_nil)) pa_nil)) pa_nil)))
      (pss_one (ps_expr (pe_bm PySem.F.plainAttrs_list PySem.F.slot_list_append PySem.F.type_list_append mt_append (pv 6) (pa_cons (pe_callTy (tupleK K) (by rfl) T.tuple (by decide +kernel) (pa_cons (pe_callB (cr_sortTup K) (by rfl) hsorted (by decide +kernel) (pa_cons (pe_op (catA K) (pv 2) (pe_tup (pa_cons (pv 7) pa_nil))) pa_nil)) pa_nil)) pa_nil)))))) pss_nil)
      (pss_one (ps_ret (pe_tup (pa_cons (pv 1) (pa_cons (pv 6) pa_nil))))))))), ?_⟩
    refine tSeq_go ?_
    refine ⟨_, rfl, b, g, rfl, hB, fun p n ts fs gs H1 kp1 B1 hp hn1 hn12 hl hts hfA hgA hdis hfne => ?_⟩
    have O := O.draw kp1 B1
    cases hp with
    | tup hap hzs =>
    cases hzs with
    | cons q1 q2 =>
    cases q2 with
    | cons q3 q4 =>
    cases q4 with
    | cons q5 q6 =>
    cases q6
    obtain ⟨a, c, ys, rfl, ha, hc, hys⟩ := dp_web q1
    obtain ⟨af, rfl, haf⟩ := dp_lotN q3
    obtain ⟨ag, rfl, hag⟩ := dp_lotN q5
    have hyl : ys.length = ts.length := by rw [dpAll_len hys, List.length_map]
    refine ⟨p, _, rfl, hap, rfl, _, _, rfl, _, _, rfl, _, _, rfl, rfl, ?_⟩
    refine at_st [some (.ref b), some (.ref a), some (.ref af), some (.ref ag), none, none, none, none, none] rfl ?_
    have hfl := lotA_len hfA
    have hgl := lotA_len hgA
    clear kp1 B1 hap hB
    dsimp only
    refine tSeq_go ?_
    refine ⟨_, rfl, a, _, _, _, rfl, rfl, ha, atI_nat (j := 1) rfl, c, ys, rfl, .inr hc, _, rfl, by omega, by omega, fun E1 hE1 => ?_⟩
    refine lc_run (walk_range (lo := 0) (n := (ys.length : Int).toNat)) hE1 (fun i acc _ => ∃ ks : List Nat, acc = natsV ks ∧ (∀ k ∈ ks, k < ts.length ∧ k ∉ fs) ∧ ks.length ≤ i) ?_ ?_ ?_ ?_
    · exact fun H' s => trivial
    · exact ⟨[], rfl, by simp, Nat.le_refl _⟩
    · rintro i x acc H2 H' hi hacc e s ⟨ks, rfl, hk, hkl⟩ ⟨rfl, hx⟩
      have hx : x = .int (0 + (i : Int)) := hx
      subst hx
      rw [Int.zero_add]
      refine ⟨rfl, _, rfl, _, rfl, af, _, rfl, .inr (sqT_same s haf), rfl, flat_nats fs, _, rfl, ?_⟩
      have key : inV (V.int (i : Int)) (natsV fs) = decide (i ∈ fs) := inv_nats _ _
      refine ite2 (fun hh => ?_) (fun hh => ?_)
      · have hh : decide (i ∈ fs) = false := by rw [← key]; simpa using hh
        refine ⟨_, rfl, ?_⟩
        refine lc_add hacc e (Same.refl _) (by rw [natsV_len]; omega) ⟨ks ++ [i], by rw [natsV_snoc], fun k hk2 => ?_, by rw [List.length_append, List.length_singleton]; omega⟩
        rcases List.mem_append.mp hk2 with z | z
        · exact hk k z
        · rw [List.mem_singleton.mp z]
          exact ⟨by omega, of_decide_eq_false hh⟩
      · exact lc_skip hacc e (Same.refl _) ⟨ks, rfl, hk, by omega⟩
    rintro acc H2 h1 s2 ⟨ks, rfl, hks, hksl⟩
    have O := O.add hE1 s2 h1
    have kf2 := KF.of_same s2
    refine ⟨_, rfl, _, rfl, af, _, rfl, .inr (sqT_same s2 haf), b, g, ((natsV fs).length : Int), rfl, by rw [natsV_len]; have := List.length_pos_iff.mpr hfne; omega, by rw [natsV_len]; omega, O.bx, fun r H3 r0 r1 kp3 B3 => ⟨_, _, rfl, ?_⟩⟩
    have kf3 := kf2.trans (KF.of_kp kp3 O.bx)
    have O := O.draw kp3 B3
    obtain ⟨sp, rfl⟩ : ∃ j : Nat, r = (j : Int) := ⟨r.toNat, by omega⟩
    have q1 := dp_kf kf3 _ (still_web n ts) q1
    have haf := sqT_kf kf3 haf
    have hag := sqT_kf kf3 hag
    clear kf2 kf3 kp3 B3 s2 h1 hE1 r0 r1 ha hc hys q3 q5
    refine at_st [some (.ref b), some (.ref a), some (.ref af), some (.ref ag), some (.ref E1), some (.int (sp : Nat)), none, none, none] rfl ?_
    dsimp only
    refine tSeq_go ?_
    refine ⟨_, rfl, _, rfl, _, rfl, ?_⟩
    refine catA_by rfl rfl haf hag (by rw [natsV_len, natsV_len]; omega) fun c1 H4 s4 hc1 => ?_
    rw [natsV_app] at hc1
    refine ⟨c1, _, rfl, hc1, by rw [List.length_map, List.length_append]; omega, fun zs p3 hperm hsort hp3 => ?_⟩
    obtain ⟨ns, ezs, hnsA⟩ := sort_lot (L := ts.length) (by
      rw [List.nodup_append]
      exact ⟨hfA.nd, hgA.nd, fun x hx y hy e => hdis x hx (e ▸ hy)⟩) (fun k hk => (List.mem_append.mp hk).elim (hfA.2 k) (hgA.2 k)) hperm hsort
    rw [ezs]
    have s5 := same_new (o := .lst (natsV ns)) hp3
    refine ⟨p3, _, rfl, .inl ⟨SqL.of upd_same, fun q hq => ?_⟩⟩
    have s6 := same_new (o := .tup (natsV ns)) hq
    refine ⟨by show 2 ≤ sizeLine; decide, fun l hl0 => ?_⟩
    have s7 := same_new (o := .lst [.ref af, .ref q]) hl0
    have s46 := (s4.trans s5).trans s6
    have s47 := s46.trans s7
    have O := (O.same s46).new (xs := [.ref af, .ref q]) hl0
    have hls : DpAll K (upd (upd (upd H4 p3 (.lst (natsV ns))) q (.tup (natsV ns))) l (.lst [.ref af, .ref q])) [.ref af, .ref q] ([fs, ns].map lotD) :=
      .cons (lot_dp (sqT_same s47 haf)) (.cons (lot_dp (SqT.of (s7 _ _ upd_same))) .nil)
    have q1 := dp_same s47 _ q1
    have haf := sqT_same s47 haf
    generalize upd (upd (upd H4 p3 (.lst (natsV ns))) q (.tup (natsV ns))) l (.lst [.ref af, .ref q]) = H5 at *
    clear s4 s5 s6 s7 s46 s47 hp3 hq hl0 hc1 hag
    dsimp only [gName]
    refine at_st [some (.ref b), some (.ref a), some (.ref af), some (.ref ag), some (.ref E1), some (.int (sp : Nat)), some (.ref l), none, none] rfl ?_
    refine tSeq_go ?_
    refine tIfS_by (fun σ' H' => ∃ (v7 : Option V) (xs : List V) (ls : List (List Nat)), σ' = [some (.ref b), some (.ref a), some (.ref af), some (.ref ag), some (.ref E1), some (.int (sp : Nat)), some (.ref l), v7, none] ∧ Own b g H H' [(l, xs), (E1, natsV ks)] ∧
      DpAll K H' xs (ls.map lotD) ∧ Dp K H' (.ref a) (webD n ts) ∧ ∀ r ∈ ls, LotA ts.length r) ?_ (fun cont => ?_)
    · rintro σ' H' ⟨v7, xs, ls, rfl, O, hls, hw, hA⟩
      refine ⟨_, rfl, _, rfl, by show 2 ≤ sizeLine; decide, fun p hp => ?_⟩
      have s1 := same_new (o := .tup [.ref a, .ref l]) hp
      have O := O.same s1
      exact k p l _ n ts xs ls _ O.kp O.bx (SqT.of upd_same) (dp_same s1 _ hw) (O.at0 0 rfl) (dpAll_same s1 _ hls) hA hn1 hn12 hl hts (O.ne _ (List.mem_cons_self ..)).1 (O.ne _ (List.mem_cons_self ..)).2
    have hlsA : ∀ r ∈ [fs, ns], LotA ts.length r := fun r hr => by
      rcases List.mem_cons.mp hr with z | z
      · rw [z]
        exact hfA
      · rw [List.mem_singleton.mp z]
        exact hnsA
    refine ⟨_, rfl, Nat.zero_le _, fun p0 hp0 => ?_⟩
    have s0 := same_new (o := .lst []) hp0
    have hE := s0 _ _ (O.at0 1 rfl)
    rw [natsV_ints] at hE
    refine ⟨.list ((ks.map fun (k : Nat) => (k : Int)).map PyData.int), .list [], .lst (SqL.of hE) (dpAll_ints _), .lst (SqL.of upd_same) .nil, shaped_intsL _, shaped_intsL [], _, rfl, ?_⟩
    rw [eqv_nats]
    have O := O.same s0
    have hls := dpAll_same s0 _ hls
    have q1 := dp_same s0 _ q1
    have haf := sqT_same s0 haf
    generalize upd H5 p0 (.lst []) = H6 at *
    clear s0 hE
    refine ite2 (fun hh => ?_) (fun hh => ?_)
    · have hkne : ks ≠ [] := by simpa using hh
      have hkp := List.length_pos_iff.mpr hkne
      refine tSeq_go ?_
      have hne := O.ne (E1, natsV ks) (by simp)
      refine ⟨_, rfl, _, rfl, b, g, E1, _, rfl, SqL.of (O.at0 1 rfl), hne.1, hne.2, by rw [natsV_len]; omega, by rw [natsV_len]; omega, O.bx, fun j u H7 hj kp7 B7 => ?_⟩
      obtain ⟨more, hmore, rfl⟩ := get_map hj
      obtain ⟨hm1, hm2⟩ := hks more (List.mem_of_getElem? hmore)
      have kf7 := KF.of_kp kp7 O.bx
      have O := O.draw kp7 B7
      have hls := dpAll_kf kf7 _ (still_lotsL [fs, ns]) hls
      have q1 := dp_kf kf7 _ (still_web n ts) q1
      have haf := sqT_kf kf7 haf
      dsimp only [gName]
      refine at_st [some (.ref b), some (.ref a), some (.ref af), some (.ref ag), some (.ref E1), some (.int (sp : Nat)), some (.ref l), some (.int (more : Nat)), none] rfl ?_
      refine tSeq_go ?_
      -- one tie exchanged
      refine ⟨_, rfl, .inl ⟨rfl, _, SqL.of (O.at0 0 rfl)⟩, ?_⟩
      refine ⟨_, rfl, _, rfl, _, rfl, slA_by rfl haf fun c1 H8 s8 hc1 => ?_⟩
      refine ⟨_, rfl, _, rfl, sp, 1, rfl, rfl, _, rfl, ?_⟩
      dsimp only [tNoPart]
      refine slA_by rfl (sqT_same s8 haf) fun c2 H9 s9 hc2 => ?_
      have e1 : (sp : Int) + 1 = ((sp + 1 : Nat) : Int) := by omega
      rw [cutN_hi] at hc1
      rw [e1, cutN_lo] at hc2
      have htl : (fs.take sp).length ≤ 60 := by rw [List.length_take]; omega
      have hdl : (fs.drop (sp + 1)).length ≤ 60 := by rw [List.length_drop]; omega
      refine catA_by rfl rfl (sqT_same s9 hc1) hc2 (by rw [natsV_len, natsV_len]; omega) fun c3 H10 s10 hc3 => ?_
      refine ⟨_, rfl, by show 1 ≤ sizeLine; decide, fun pt hpt => ?_⟩
      have s11 := same_new (o := .tup [.int (more : Nat)]) hpt
      have enat : natsV (fs.take sp) ++ natsV (fs.drop (sp + 1)) = natsV (fs.take sp ++ fs.drop (sp + 1)) := by
        unfold natsV
        rw [List.map_append]
      rw [enat] at hc3
      have hsubl : (fs.take sp ++ fs.drop (sp + 1)).Sublist fs := by
        have h1 : (fs.drop (sp + 1)).Sublist (fs.drop sp) := by
          rw [← List.drop_drop]
          exact List.drop_sublist _ _
        have h2 := (List.Sublist.refl (fs.take sp)).append h1
        rwa [List.take_append_drop] at h2
      have hcl : (fs.take sp ++ fs.drop (sp + 1)).length ≤ 60 := Nat.le_trans hsubl.length_le (by omega)
      refine catA_by rfl rfl (sqT_same s11 hc3) (SqT.of upd_same) (by rw [natsV_len, List.length_singleton]; omega) fun c4 H12 s12 hc4 => ?_
      have em : ([V.int (more : Nat)] : List V) = natsV [more] := rfl
      rw [em, natsV_app] at hc4
      refine ⟨c4, _, rfl, hc4, by rw [List.length_map, List.length_append, List.length_singleton]; omega, fun zs2 p4 hperm2 hsort2 hp4 => ?_⟩
      obtain ⟨ns2, ezs2, hns2A⟩ := sort_lot (L := ts.length) (by
        rw [List.nodup_append]
        exact ⟨hsubl.nodup hfA.nd, List.nodup_cons.mpr ⟨by simp, .nil⟩, fun x hx y hy e => by
          rw [List.mem_singleton.mp hy] at e
          exact hm2 (e ▸ hsubl.subset hx)⟩) (fun k hk => (List.mem_append.mp hk).elim (fun z => hfA.2 k (hsubl.subset z)) fun z => by rw [List.mem_singleton.mp z]; exact hm1) hperm2 hsort2
      rw [ezs2]
      have s13 := same_new (o := .lst (natsV ns2)) hp4
      refine ⟨p4, _, rfl, .inl ⟨SqL.of upd_same, fun q2 hq2 => ?_⟩⟩
      have s14 := same_new (o := .tup (natsV ns2)) hq2
      have hQ2 : (upd (upd H12 p4 (.lst (natsV ns2))) q2 (.tup (natsV ns2))) q2 = some (.tup (natsV ns2)) := upd_same
      have s814 := ((((s8.trans s9).trans s10).trans s11).trans s12).trans (s13.trans s14)
      have O := O.same s814
      have hls := dpAll_same s814 _ hls
      have q1 := dp_same s814 _ q1
      have haf := sqT_same s814 haf
      generalize upd (upd H12 p4 (.lst (natsV ns2))) q2 (.tup (natsV ns2)) = H15 at *
      clear s8 s9 s10 s11 s12 s13 s14 s814 hc1 hc2 hc3 hc4 hpt hp4 hq2
      refine ⟨l, _, _, rfl, rfl, O.at0 0 rfl, by show 2 < sizeLine; decide, ?_⟩
      have kf := KF.of_upd (ys := [.ref af, .ref q] ++ [.ref q2]) (O.at0 0 rfl)
      have O : Own b g H _ [(l, [.ref af, .ref q] ++ [.ref q2]), (E1, natsV ks)] := O.put 0 rfl
      have hls : DpAll K (upd H15 l (.lst ([.ref af, .ref q] ++ [.ref q2]))) ([.ref af, .ref q] ++ [.ref q2]) (([fs, ns] ++ [ns2]).map lotD) := by
        rw [List.map_append]
        exact dpAll_app (dpAll_kf kf _ (still_lotsL [fs, ns]) hls) (.cons (lot_dp (sqT_kf kf (SqT.of hQ2))) .nil)
      have q1 := dp_kf kf _ (still_web n ts) q1
      have haf := sqT_kf kf haf
      generalize upd H15 l (.lst ([.ref af, .ref q] ++ [.ref q2])) = H16 at *
      -- one tie more
      refine ⟨_, rfl, .inl ⟨rfl, _, SqL.of (O.at0 0 rfl)⟩, ?_⟩
      refine ⟨_, rfl, _, rfl, by show 1 ≤ sizeLine; decide, fun pt hpt => ?_⟩
      have s11 := same_new (o := .tup [.int (more : Nat)]) hpt
      refine catA_by rfl rfl (sqT_same s11 haf) (SqT.of upd_same) (by rw [natsV_len, List.length_singleton]; omega) fun c4 H17 s12 hc4 => ?_
      rw [em, natsV_app] at hc4
      refine ⟨c4, _, rfl, hc4, by rw [List.length_map, List.length_append, List.length_singleton]; omega, fun zs3 p4 hperm3 hsort3 hp4 => ?_⟩
      obtain ⟨ns3, ezs3, hns3A⟩ := sort_lot (L := ts.length) (by
        rw [List.nodup_append]
        exact ⟨hfA.nd, List.nodup_cons.mpr ⟨by simp, .nil⟩, fun x hx y hy e => by
          rw [List.mem_singleton.mp hy] at e
          exact hm2 (e ▸ hx)⟩) (fun k hk => (List.mem_append.mp hk).elim (hfA.2 k) fun z => by rw [List.mem_singleton.mp z]; exact hm1) hperm3 hsort3
      rw [ezs3]
      have s13 := same_new (o := .lst (natsV ns3)) hp4
      refine ⟨p4, _, rfl, .inl ⟨SqL.of upd_same, fun q3 hq3 => ?_⟩⟩
      have s14 := same_new (o := .tup (natsV ns3)) hq3
      have hQ3 : (upd (upd H17 p4 (.lst (natsV ns3))) q3 (.tup (natsV ns3))) q3 = some (.tup (natsV ns3)) := upd_same
      have s814 := (s11.trans s12).trans (s13.trans s14)
      have O := O.same s814
      have hls := dpAll_same s814 _ hls
      have q1 := dp_same s814 _ q1
      generalize upd (upd H17 p4 (.lst (natsV ns3))) q3 (.tup (natsV ns3)) = H18 at *
      refine ⟨l, _, _, rfl, rfl, O.at0 0 rfl, by show 3 < sizeLine; decide, ?_⟩
      have kf := KF.of_upd (ys := ([.ref af, .ref q] ++ [.ref q2]) ++ [.ref q3]) (O.at0 0 rfl)
      have O : Own b g H _ [(l, ([.ref af, .ref q] ++ [.ref q2]) ++ [.ref q3]), (E1, natsV ks)] := O.put 0 rfl
      refine cont _ _ ⟨_, _, ([fs, ns] ++ [ns2]) ++ [ns3], rfl, O, ?_, dp_kf kf _ (still_web n ts) q1, fun r hr => ?_⟩
      · rw [List.map_append]
        exact dpAll_app (dpAll_kf kf _ (still_lotsL ([fs, ns] ++ [ns2])) hls) (.cons (lot_dp (sqT_kf kf (SqT.of hQ3))) .nil)
      · rcases List.mem_append.mp hr with z | z
        · rcases List.mem_append.mp z with z | z
          · exact hlsA r z
          · rw [List.mem_singleton.mp z]
            exact hns2A
        · rw [List.mem_singleton.mp z]
          exact hns3A
    · exact cont _ _ ⟨none, _, [fs, ns], rfl, O, hls, q1, hlsA⟩
end
end BV

namespace BV
open PySem L2 RZ
abbrev sLodd : Stmt := top 28
abbrev nLodd : List Str := ["_law_box_here", "_law_thing", "_law_menu"]
abbrev pLodd : List Str := ["_law_box_here", "_law_thing"]
theorem scLodd : FnScope nLodd pLodd (defScope sLodd) := ⟨rfl, rfl, rfl, by decide +kernel, rfl, by decide +kernel, by decide +kernel⟩
abbrev sNumber : Stmt := top 33
abbrev nNumber : List Str := ["_law_box_here", "_law_most", "_law_small"]
abbrev pNumber : List Str := ["_law_box_here", "_law_most"]
theorem scNumber : FnScope nNumber pNumber (defScope sNumber) := ⟨rfl, rfl, rfl, by decide +kernel, rfl, by decide +kernel, by decide +kernel⟩
abbrev sAbout : Stmt := top 34
abbrev nAbout : List Str := ["_law_box_here", "_law_web_here", "_law_size", "_law_turn", "_law_one", "_law_lot", "_law_tie"]
abbrev pAbout : List Str := ["_law_box_here", "_law_web_here"]
theorem scAbout : FnScope nAbout pAbout (defScope sAbout) := ⟨rfl, rfl, rfl, by decide +kernel, rfl, by decide +kernel, by decide +kernel⟩
abbrev sDeed : Stmt := top 35
abbrev nDeed : List Str := ["_law_box_here", "_law_web_here", "_law_times"]
abbrev pDeed : List Str := ["_law_box_here", "_law_web_here"]
theorem scDeed : FnScope nDeed pDeed (defScope sDeed) := ⟨rfl, rfl, rfl, by decide +kernel, rfl, by decide +kernel, by decide +kernel⟩
def spLodd (K : PySem.W.Frag) : Sp := fun vs H Q _ => ∃ (b g : Addr) (N : Addr → Prop) (x : V) (d : PyData) (c k : Nat), vs = [.ref b, x] ∧ Box H b g ∧ (∀ a, NB b g a → N a) ∧ (∀ a, N a → H a ≠ none) ∧ Dx K H N x d ∧ Sz d c k ∧
  ∀ (u : V) (e : PyData) H', Kp b g H H' → Box H' b g → Dx K H' N u e → Sz e (2 * c + 10) (k + 2) → (e = d ∨ N3 e) → Q u H'
def spNumber : Sp := fun vs H Q _ => ∃ (b g : Addr) (m : Int), vs = [.ref b, .int m] ∧ 0 < m ∧ m < 2 ^ 110 ∧ Box H b g ∧
  ∀ (z : Int) (H' : Hp), Kp b g H H' → Box H' b g → z.natAbs < 2 ^ 120 → Q (.int z) H'
theorem flatN {ks : List Nat} (h : ∀ x ∈ ks, x < 100000) : ∀ v ∈ natsV ks, ∃ d, Flat v d := fun v hv => by
  obtain ⟨x, hx, rfl⟩ := List.mem_map.mp hv
  exact ⟨_, flat_nat (h x hx)⟩
def spAbout (K : PySem.W.Frag) : Sp := fun vs H Q _ => ∃ (b g : Addr) (v : V) (n : Nat) (ts : List Tie), vs = [.ref b, v] ∧ Box H b g ∧ Dp K H v (webD n ts) ∧ (∀ t ∈ ts, t.1 < t.2 ∧ t.2 < n) ∧ n ≤ 100 ∧ ts.length ≤ 60 ∧
  ∀ (u : V) (ks : List Nat) (H' : Hp), Kp b g H H' → Box H' b g → Dp K H' u (lotD ks) → LotA ts.length ks → Q u H'
/-- a deed, or nearly one -/
def DeedN (n m : Nat) (w : Str) (t : PyData) (z : Int) : Prop := z.natAbs < 2 ^ 120 ∧ ((w = Str.ofString "star" ∧ ∃ p : Nat, p < n + 2 ∧ t = .int (p : Int)) ∨ (w = Str.ofString "round" ∧ ∃ ks : List Nat, LotA m ks ∧ t = lotD ks))
def spDeed (K : PySem.W.Frag) : Sp := fun vs H Q _ => ∃ (b g : Addr) (v : V) (n : Nat) (ts : List Tie), vs = [.ref b, v] ∧ Box H b g ∧ Dp K H v (webD n ts) ∧ (∀ t ∈ ts, t.1 < t.2 ∧ t.2 < n) ∧ 1 ≤ n ∧ n ≤ 100 ∧ ts.length ≤ 60 ∧
  ∀ (u : V) (w : Str) (t : PyData) (z : Int) (H' : Hp), Kp b g H H' → Box H' b g → Dp K H' u (.tuple [.str w, t, .int z]) → DeedN n ts.length w t z → Q u H'
section
variable {P : Program} {w : World} {K : PySem.W.Frag} {mg : Str → Option Value} {base : Heap}
theorem ok_lodd {f f1 f2 : Addr} {fd fd1 fd2 : FuncData} (D : Df K mg "_law_odd" sLodd pLodd f fd) (T : Bl mg) (D_draw : Df K mg "_law_draw" sDraw ["_law_box_here", "_law_many"] f1 fd1) (D_pick : Df K mg "_law_pick" sPick nPick f2 fd2) :
    FnOk P w K mg base CX0 3 f fd pLodd (spLodd K) := by
  have G_pick : FnOk P w K mg base CX0 2 f2 fd2 nPick (spPick K) := ok_pick D_pick T D_draw
  refine D.fn.ok scLodd (fun vs H Q E h => ?_) (fun cdv A outer s H vs Q E hr h => ?_)
  · obtain ⟨b, g, N, x, d, c, k, rfl, _⟩ := h
    rfl
  · obtain ⟨b, g, N, x, d, c, kk, rfl, hB, hnb, hal, hx, hz, k⟩ := h
    have nd := scLodd.nd
    have hr_pick : Room 2 _ := hr
    refine ⟨_, (pss_cons (ps_set (i := 2) nd rfl (by first | exact Or.inl rfl | exact Or.inr rfl) (pe_lstY (pa_cons pe_non (pa_cons pe_bl (pa_cons pe_bl (pa_cons (pe_un un_neg pe_int) (pa_cons (pe_op op_add (pe_op op_pow pe_int pe_int) pe_int) (pa_cons (pe_op op_pow pe_int pe_int) (pa_cons pe_str (pa_cons pe_str (pa_cons (pe_tup pa_nil) (pa_cons (pe_lstY pa_nil) (pa_cons pe_dnewK (pa_cons (pe_tup (pa_cons (pv 1) pa_nil)) (pa_cons (pe_lstY (pa_cons (pv 1) pa_nil)) (pa_cons (pe_disp (pps_cons pe_str (pv 1) pps_nil) (by rfl) (by rfl) (fun z => by cases z) (by decide)) pa_nil))))))))))))))))
      (pss_one (ps_ret (pe_call G_pick hr_pick (by rfl) D_pick.ad D_pick.fn.kp D_pick.bd .nil pass0 (pa_cons (pv 0) (pa_cons (pe_op op_cat (pv 2) (pe_lstY (pa_cons (pv 1) (pa_cons (pe_tup (pa_cons (pv 1) (pa_cons (pv 1) pa_nil))) (pa_cons pe_int (pa_cons pe_int pa_nil)))))) pa_nil)))))), ?_⟩
    refine tSeq_go ?_
    have M : MnN K b g N (fun e => Sz e (2 * c + 10) (kk + 2) ∧ (e = d ∨ N3 e)) H H [] := MnN.zero hB hnb hal
    have atm : ∀ {e : PyData}, (∀ c k, 1 ≤ c → Sz e c k) → N3 e → Sz e (2 * c + 10) (kk + 2) ∧ (e = d ∨ N3 e) := fun h n => ⟨h _ _ (by omega), .inr n⟩
    have M := M.atom (v := .non) .non (atm (fun _ _ h => sz_non h) (fun _ z => nomatch z))
    have M := M.atom (v := .bl true) (.bl true) (atm (fun _ _ h => sz_bl h) (fun _ z => nomatch z))
    have M := M.atom (v := .bl false) (.bl false) (atm (fun _ _ h => sz_bl h) (fun _ z => nomatch z))
    have M := M.atom (v := .int (-1)) (.int (-1)) (atm (fun _ _ h => sz_int (by decide) h) (fun _ z => nomatch z))
    have M := M.atom (v := .int (10 ^ (12 : Int).toNat + 1)) (.int _) (atm (fun _ _ h => sz_int (by decide) h) (fun _ z => nomatch z))
    have M := M.atom (v := .int (10 ^ (30 : Int).toNat)) (.int _) (atm (fun _ _ h => sz_int (by decide) h) (fun _ z => nomatch z))
    have M := M.atom (v := .str "") (.str _) (atm (fun _ _ h => sz_str (by decide) h) (fun _ z => nomatch z))
    have M := M.atom (v := .str "a") (.str _) (atm (fun _ _ h => sz_str (by decide) h) (fun _ z => nomatch z))
    refine ⟨1, rfl, ?_⟩
    refine ⟨10, 12, rfl, rfl, ⟨by decide, by decide, by decide⟩, _, _, rfl, rfl, 10, 30, rfl, rfl, ⟨by decide, by decide, by decide⟩, ?_⟩
    refine ⟨Nat.zero_le _, fun p1 hp1 => ?_⟩
    have M := M.new (o := .tup []) hp1 (.tup (SqT.of upd_same) .nil) (⟨(sz_tup (sza_nil (c := 0) (k := 0))).mono (by omega) (by omega), .inr (fun _ z => by cases z; simp)⟩)
    generalize upd H p1 (.tup []) = H1 at *
    refine ⟨Nat.zero_le _, fun p2 hp2 hs2 => ?_⟩
    have M := M.new (o := .lst []) hp2 (.lst hs2 (M.nn hp2) (SqL.of upd_same) .nil) (⟨(sz_lst (sza_nil (c := 0) (k := 0))).mono (by omega) (by omega), .inr (fun _ z => nomatch z)⟩)
    generalize upd H1 p2 (.lst []) = H2 at *
    refine fun p3 hp3 => ?_
    have M := M.new (o := .dK []) hp3 (.dic (M.nn hp3) upd_same .nil) (⟨(sz_dic0 (c := 1) (k := 0)).mono (by omega) (by omega), .inr (fun _ z => nomatch z)⟩)
    generalize upd H2 p3 (.dK []) = H3 at *
    refine ⟨_, rfl, by show 1 ≤ sizeLine; decide, fun p4 hp4 => ?_⟩
    have M := M.new (o := .tup [x]) hp4 (.tup (SqT.of upd_same) (.cons (dx_same (same_new hp4) (dx_kpN hnb M.s hB hx)) .nil)) (⟨(sz_tup (sza_cons hz (sza_nil (c := 0)))).mono (by omega) (by omega), .inr (fun _ z => by cases z; simp)⟩)
    generalize upd H3 p4 (.tup [x]) = H4 at *
    refine ⟨_, rfl, by show 1 ≤ sizeLine; decide, fun p5 hp5 hs5 => ?_⟩
    have M := M.new (o := .lst [x]) hp5 (.lst hs5 (M.nn hp5) (SqL.of upd_same) (.cons (dx_same (same_new hp5) (dx_kpN hnb M.s hB hx)) .nil)) (⟨(sz_lst (sza_cons hz (sza_nil (c := 0)))).mono (by omega) (by omega), .inr (fun _ z => nomatch z)⟩)
    generalize upd H4 p5 (.lst [x]) = H5 at *
    refine fun p6 hp6 => ⟨_, rfl, upd_same, [(.inr "a", x)], rfl, by show 1 ≤ 15; decide, ?_⟩
    have e6 : upd (upd H5 p6 (.dK [])) p6 (.dK (mergeK [] [(Sum.inr (Str.ofString "a"), x)])) = upd H5 p6 (.dK [(Sum.inr (Str.ofString "a"), x)]) := upd_upd
    have M := M.new (o := .dK [(Sum.inr (Str.ofString "a"), x)]) hp6 (.dic (M.nn hp6) upd_same (.cons (dx_same (same_new hp6) (dx_kpN hnb M.s hB hx)) .nil)) (⟨(sz_dic1 (s := "a") hz).mono (by omega) (by omega), .inr (fun _ z => nomatch z)⟩)
    rw [e6]
    generalize upd H5 p6 (.dK [(Sum.inr (Str.ofString "a"), x)]) = H6 at *
    refine ⟨by show 14 ≤ sizeLine; decide, fun l hl hls => ?_⟩
    have M := M.put (o := .lst [.non, .bl true, .bl false, .int (-1), .int (10 ^ (12 : Int).toNat + 1), .int (10 ^ (30 : Int).toNat), .str "", .str "a", .ref p1, .ref p2, .ref p3, .ref p4, .ref p5, .ref p6]) hl
    have hL : (upd H6 l (.lst [.non, .bl true, .bl false, .int (-1), .int (10 ^ (12 : Int).toNat + 1), .int (10 ^ (30 : Int).toNat), .str "", .str "a", .ref p1, .ref p2, .ref p3, .ref p4, .ref p5, .ref p6])) l = some (.lst [.non, .bl true, .bl false, .int (-1), .int (10 ^ (12 : Int).toNat + 1), .int (10 ^ (30 : Int).toNat), .str "", .str "a", .ref p1, .ref p2, .ref p3, .ref p4, .ref p5, .ref p6]) := upd_same
    generalize upd H6 l (.lst [.non, .bl true, .bl false, .int (-1), .int (10 ^ (12 : Int).toNat + 1), .int (10 ^ (30 : Int).toNat), .str "", .str "a", .ref p1, .ref p2, .ref p3, .ref p4, .ref p5, .ref p6]) = H7 at *
    dsimp only [gName]
    refine at_st [some (.ref b), some x, some (.ref l)] rfl ?_
    have M := M.atom (dx_kpN hnb M.s hB hx) ⟨hz.mono (by omega) (by omega), .inl rfl⟩
    refine ⟨_, rfl, _, rfl, _, rfl, _, rfl, _, rfl, by show 2 ≤ sizeLine; decide, fun p8 hp8 => ?_⟩
    have hL := same_new (o := .tup [x, x]) hp8 _ _ hL
    have M := M.new (o := .tup [x, x]) hp8 (.tup (SqT.of upd_same) (.cons (dx_same (same_new hp8) (dx_kpN hnb M.s hB hx)) (.cons (dx_same (same_new hp8) (dx_kpN hnb M.s hB hx)) .nil))) ⟨(sz_tup (sza_cons hz (sza_cons hz (sza_nil (c := 0))))).mono (by omega) (by omega), .inr (fun _ z => by cases z; simp)⟩
    generalize upd H7 p8 (.tup [x, x]) = H8 at *
    have M := M.atom (v := .int 0) (.int 0) (atm (fun _ _ h => sz_int (by decide) h) (fun _ z => nomatch z))
    have M := M.atom (v := .int 1) (.int 1) (atm (fun _ _ h => sz_int (by decide) h) (fun _ z => nomatch z))
    refine ⟨by show 4 ≤ sizeLine; decide, fun l2 hl2 hls2 => ?_⟩
    have hL := same_new (o := .lst [x, .ref p8, .int 0, .int 1]) hl2 _ _ hL
    have hL2 : (upd H8 l2 (.lst [x, .ref p8, .int 0, .int 1])) l2 = some (.lst [x, .ref p8, .int 0, .int 1]) := upd_same
    have M := M.put (o := .lst [x, .ref p8, .int 0, .int 1]) hl2
    generalize upd H8 l2 (.lst [x, .ref p8, .int 0, .int 1]) = H9 at *
    refine ⟨l, l2, _, _, rfl, rfl, hL, hL2, by show 18 ≤ sizeLine; decide, fun l3 hl3 => ?_⟩
    have hl3n := M.ne hl3
    have M := M.put (o := .lst ([.non, .bl true, .bl false, .int (-1), .int (10 ^ (12 : Int).toNat + 1), .int (10 ^ (30 : Int).toNat), .str "", .str "a", .ref p1, .ref p2, .ref p3, .ref p4, .ref p5, .ref p6] ++ [x, .ref p8, .int 0, .int 1])) hl3
    refine ⟨b, g, l3, _, rfl, SqL.of upd_same, hl3n.1, hl3n.2, by show 0 < 18; decide, by show 18 < 1000000; decide, M.bx, fun j v H' hj kp B => ?_⟩
    obtain ⟨e, q1, q2, q3⟩ := M.it v (by simpa using List.mem_of_getElem? hj)
    exact k _ e _ (M.s.trans kp) B (dx_kpN hnb kp M.bx q1) q2 q3
theorem ok_number {f f1 f2 : Addr} {fd fd1 fd2 : FuncData} (D : Df K mg "_law_number" sNumber pNumber f fd) (T : Bl mg) (D_draw : Df K mg "_law_draw" sDraw ["_law_box_here", "_law_many"] f1 fd1) (D_pick : Df K mg "_law_pick" sPick nPick f2 fd2) :
    FnOk P w K mg base CX0 3 f fd pNumber spNumber := by
  have G_pick : FnOk P w K mg base CX0 2 f2 fd2 nPick (spPick K) := ok_pick D_pick T D_draw
  have G_draw : FnOk P w K mg base CX0 1 f1 fd1 ["_law_box_here", "_law_many"] spDrawW := ok_drawW D_draw T
  refine D.fn.ok scNumber (fun vs H Q E h => ?_) (fun cdv A outer s H vs Q E hr h => ?_)
  · obtain ⟨b, g, m, rfl, _⟩ := h
    rfl
  · obtain ⟨b, g, m, rfl, hm0, hm1, hB, k⟩ := h
    have nd := scNumber.nd
    have hr_pick : Room 2 _ := hr
    have hr_draw : Room 1 _ := hr.mono (by decide)
    refine ⟨_, (pss_cons (ps_set (i := 2) nd rfl (by first | exact Or.inl rfl | exact Or.inr rfl) (pe_op op_sub (pe_call G_draw hr_draw (by rfl) D_draw.ad D_draw.fn.kp D_draw.bd .nil pass0 (pa_cons (pv 0) (pa_cons pe_int pa_nil))) pe_int))
      (pss_one (ps_ret (pe_call G_pick hr_pick (by rfl) D_pick.ad D_pick.fn.kp D_pick.bd .nil pass0 (pa_cons (pv 0) (pa_cons (pe_lst (pa_cons (pv 2) (pa_cons (pv 2) (pa_cons (pv 2) (pa_cons (pv 1) (pa_cons (pe_un un_neg (pv 1)) (pa_cons (pe_op op_sub (pv 1) pe_int) (pa_cons (pe_call G_draw hr_draw (by rfl) D_draw.ad D_draw.fn.kp D_draw.bd .nil pass0 (pa_cons (pv 0) (pa_cons (pv 1) pa_nil))) (pa_cons pe_int pa_nil))))))))) pa_nil)))))), ?_⟩
    refine tSeq_go ?_
    refine ⟨_, rfl, b, g, 21, rfl, by decide, by decide, hB, fun r H1 r0 r1 kp1 B1 => ?_⟩
    refine ⟨_, _, rfl, rfl, ?_⟩
    refine at_st [some (.ref b), some (.int m), some (.int (r - 10))] rfl ?_
    refine ⟨_, rfl, _, rfl, _, rfl, _, rfl, _, rfl, _, rfl, m, rfl, _, rfl, m, 1, rfl, rfl, _, rfl, _, rfl, b, g, m, rfl, hm0, hm1, B1, fun r2 H2 q0 q1 kp2 B2 => ?_⟩
    refine ⟨by show 8 ≤ sizeLine; decide, fun l hl => ?_⟩
    have hne := nb_of (B := B2) hl
    have sl := same_new (o := .lst [.int (r - 10), .int (r - 10), .int (r - 10), .int m, .int (-m), .int (m - 1), .int r2, .int 0]) hl
    refine ⟨b, g, l, _, rfl, SqL.of upd_same, hne.1, hne.2, by show 0 < 8; decide, by show 8 < 1000000; decide, B2.same sl, fun j v H' hj kp B => ?_⟩
    have hv := List.mem_of_getElem? hj
    have kk := (kp1.trans kp2).trans ((Kp.same sl).trans kp)
    have e120 : (2 : Nat) ^ 120 = 1329227995784915872903807060280344576 := by decide
    have e110 : (2 : Int) ^ 110 = 1298074214633706907132624082305024 := by decide
    rw [e110] at hm1
    simp only [List.mem_cons, List.not_mem_nil, or_false] at hv
    rcases hv with rfl | rfl | rfl | rfl | rfl | rfl | rfl | rfl <;> exact k _ _ kk B (by rw [e120]; omega)
theorem ok_about {f f1 f2 f3 : Addr} {fd fd1 fd2 fd3 : FuncData} (D : Df K mg "_law_about" sAbout pAbout f fd) (T : Bl mg) (D_draw : Df K mg "_law_draw" sDraw ["_law_box_here", "_law_many"] f1 fd1) (D_counts : Df K mg "_law_counts" sCounts pCounts f2 fd2) (D_leven : Df K mg "_law_is_even" sLeven pLeven f3 fd3) :
    FnOk P w K mg base CX0 3 f fd pAbout (spAbout K) := by
  have G_draw : FnOk P w K mg base CX0 1 f1 fd1 ["_law_box_here", "_law_many"] spDraw := ok_draw D_draw T
  have G_leven : FnOk P w K mg base CX0 2 f3 fd3 pLeven (spEven K) := ok_leven D_leven T D_counts
  refine D.fn.ok scAbout (fun vs H Q E h => ?_) (fun cdv A outer s H vs Q E hr h => ?_)
  · obtain ⟨b, g, v, n, ts, rfl, _⟩ := h
    rfl
  · obtain ⟨b, g, v, n, ts, rfl, hB, hw, hends, hn, hl, k⟩ := h
    have nd := scAbout.nd
    have hr_leven : Room 2 _ := hr
    have hr_draw : Room 1 _ := hr.mono (by decide)
    obtain ⟨a, c, ys, rfl, ha, hc, hys⟩ := dp_web hw
    have hyl : ys.length = ts.length := by rw [dpAll_len hys, List.length_map]
    refine ⟨_, (pss_cons (ps_set (i := 2) nd rfl (by first | exact Or.inl rfl | exact Or.inr rfl) (pe_callB (lenK K) (by rfl) T.len PySem.boot_len (pa_cons (pe_ix (ixT K) (pv 1) pe_int (fun _ _ => rfl)) pa_nil)))
      (pss_cons (ps_if (pt_cmpR op_eq (pv 2) pe_int (nomark _)) (pss_one (ps_ret (pe_tup pa_nil))) pss_nil)
      (pss_cons (ps_for PassesOwn.never rfl (pi_range1 rfl T.range (pa_cons pe_int pa_nil)) (pg_name (i := 3) nd rfl (by first | exact Or.inl rfl | exact Or.inr rfl)) (pss_cons (ps_set (i := 5) nd rfl (by first | exact Or.inl rfl | exact Or.inr rfl) (pe_callTy (tupleK K) (by rfl) T.tuple (by decide +kernel) (pa_cons (pe_lc (own := [("_law_tie", 6)]) (g := (gName 6)) rfl nd (pi_range1 rfl T.range (pa_cons (pv 2) pa_nil)) (blkOk_by (own := [("_law_tie", 6)]) (N := nAbout) (sc := defScope sAbout) (by decide +kernel)) (fun _ _ _ _ _ => (pg_name (i := 6) nd rfl (by first | exact Or.inl rfl | exact Or.inr rfl))) (fun _ _ _ _ _ => (pts_one (pt_cmpR op_eq (pe_call G_draw hr_draw (by rfl) D_draw.ad D_draw.fn.kp D_draw.bd .nil pass0 (pa_cons (pv 0) (pa_cons pe_int pa_nil))) pe_int (nomark _)))) (fun _ _ _ _ _ => (pv 6))) pa_nil)))
      (pss_one (ps_if (PW.pt (pw_and (pt_val (pe_call G_leven hr_leven (by rfl) D_leven.ad D_leven.fn.kp D_leven.bd .nil pass0 (pa_cons (pv 1) (pa_cons (pv 5) pa_nil)))) (pw_and1 (pt_cmpR (opNeD K hr.units) (pv 5) (pe_tup pa_nil) (nomark _))))) (pss_one (ps_ret (pv 5))) pss_nil))))
      (pss_cons (ps_set (i := 4) nd rfl (by first | exact Or.inl rfl | exact Or.inr rfl) (pe_call G_draw hr_draw (by rfl) D_draw.ad D_draw.fn.kp D_draw.bd .nil pass0 (pa_cons (pv 0) (pa_cons (pv 2) pa_nil))))
      (pss_one (ps_ret (pe_callTy (tupleK K) (by rfl) T.tuple (by decide +kernel) (pa_cons (pe_slice (slL K) (pe_lc (own := [("_law_tie", 6)]) (g := (gName 6)) rfl nd (pi_range1 rfl T.range (pa_cons (pv 2) pa_nil)) (blkOk_by (own := [("_law_tie", 6)]) (N := nAbout) (sc := defScope sAbout) (by decide +kernel)) (fun _ _ _ _ _ => (pg_name (i := 6) nd rfl (by first | exact Or.inl rfl | exact Or.inr rfl))) (fun _ _ _ _ _ => (pts_one (pt_cmpR (opEqD K hr.units) (pe_ix (ixT K) (pe_ix (ixT K) (pv 1) pe_int (fun _ _ => rfl)) (pv 6) (fun _ _ => rfl)) (pe_ix (ixT K) (pe_ix (ixT K) (pv 1) pe_int (fun _ _ => rfl)) (pv 4) (fun _ _ => rfl)) (nomark _)))) (fun _ _ _ _ _ => (pv 6))) po_none (po_some pe_int)) pa_nil)))))))), ?_⟩
    refine tSeq_go ?_
    refine ⟨_, rfl, a, _, _, _, rfl, rfl, ha, atI_nat (j := 1) rfl, c, ys, rfl, .inr hc, ?_⟩
    rw [hyl]
    dsimp only [gName]
    refine at_st [some (.ref b), some (.ref a), some (.int (ts.length : Nat)), none, none, none, none] rfl ?_
    refine tSeq_go ?_
    refine ⟨_, rfl, rfl, _, rfl, ite2 (fun h0 => ?_) (fun h0 => ?_)⟩
    · refine ⟨Nat.zero_le _, fun p hp => ?_⟩
      exact k _ [] _ (Kp.new hp) (hB.same (same_new hp)) (lot_dp (ks := []) (SqT.of upd_same)) ⟨.nil, by simp⟩
    have h0 : 0 < ts.length := Nat.pos_of_ne_zero fun e => h0 (by rw [e]; rfl)
    dsimp only [tNext]
    refine tSeq_go ?_
    refine ⟨6, rfl, by decide, by decide, ?_⟩
    refine for_range (lo := 0) (n := (6 : Int).toNat) (fun i σ Hc => ∃ (v3 v4 v5 v6 : Option V), σ = [some (.ref b), some (.ref a), some (.int (ts.length : Nat)), v3, v4, v5, v6] ∧ Kp b g H Hc ∧ Box Hc b g) ?_ ?_ ?_
    · exact ⟨none, none, none, none, rfl, Kp.refl _, hB⟩
    · rintro i σ Hc hi ⟨v3, v4, v5, v6, rfl, kpc, Bc⟩
      rw [Int.zero_add]
      show tSeq _ _ _ _ _
      refine tSeq_go ?_
      refine tAsg_by (fun u H' => ∃ ks : List Nat, Kp b g H H' ∧ Box H' b g ∧ LotA ts.length ks ∧ Dp K H' u (lotD ks)) ?_ (fun cont => ?_)
      rotate_left
      · refine ⟨_, rfl, (ts.length : Int), rfl, by omega, by omega, fun E1 hE1 => ?_⟩
        refine lc_runB (walk_range (lo := 0) (n := (ts.length : Int).toNat)) hE1 Bc (fun i acc _ => ∃ ks : List Nat, acc = natsV ks ∧ LotA i ks) ?_ ?_ ?_ ?_
        · exact fun _ _ _ => trivial
        · exact ⟨[], rfl, .nil, by simp⟩
        · rintro i2 x acc H6 H' nb ng hi2 hacc e kk hBx ⟨ks, rfl, hks⟩ ⟨rfl, rfl⟩
          dsimp only
          rw [Int.zero_add]
          have hkl := lotA_len hks
          refine ⟨rfl, ?_⟩
          refine ⟨_, rfl, b, g, 2, rfl, by decide, by decide, hBx, fun r H7 r0 r1 kp4 hB4 => ?_⟩
          refine ⟨rfl, _, rfl, ?_⟩
          refine ite2 (fun hh => ?_) (fun hh => ?_)
          · refine ⟨_, rfl, ?_⟩
            exact lc_addB nb ng hacc e kp4 hB4 (by rw [natsV_len]; omega) ⟨ks ++ [i2], natsV_snoc _ _, lotA_snoc hks⟩
          · exact lc_skipB nb ng hacc e kp4 hB4 ⟨ks, rfl, lotA_up hks⟩
        · rintro acc H6 h1 kk hBx ⟨ks, rfl, hks⟩
          rw [show ((ts.length : Int)).toNat = ts.length by omega] at hks
          refine ⟨E1, _, rfl, .inl ⟨SqL.of h1, fun u hu => ?_⟩⟩
          have su := same_new (o := .tup (natsV ks)) hu
          exact cont _ _ ⟨ks, kpc.trans (kk.trans (Kp.same su)), hBx.same su, hks, lot_dp (SqT.of upd_same)⟩
      rintro ud Hi ⟨ks, kpi, Bi, hks, hud⟩
      dsimp only [gName]
      refine at_st [some (.ref b), some (.ref a), some (.int (ts.length : Nat)), some (.int (i : Nat)), v4, some ud, v6] rfl ?_
      have hwi := dp_kf (KF.of_kp kpi hB) _ (still_web n ts) hw
      refine ⟨_, rfl, _, rfl, .ref a, ud, n, ts, ks, rfl, hwi, hud, hends, hks.2, by omega, fun H5 s5 => ?_⟩
      refine ⟨_, rfl, ite2 (fun hh => ?_) (fun hh => ?_)⟩
      · refine ⟨_, rfl, Nat.zero_le _, fun q hq => ?_⟩
        have sq : Same H5 (upd H5 q (.tup [])) := same_new hq
        have s6 := s5.trans sq
        refine ⟨lotD ks, lotD [], dp_same s6 _ hud, lot_dp (ks := []) (SqT.of upd_same), shaped_lotN _, shaped_lotN [], _, rfl, ite2 (fun h3 => ?_) (fun h3 => ?_)⟩
        · exact ⟨_, rfl, k _ ks _ (kpi.trans (Kp.same s6)) (Bi.same s6) (dp_same s6 _ hud) hks⟩
        · exact ⟨_, _, _, _, rfl, kpi.trans (Kp.same s6), Bi.same s6⟩
      · exact ⟨_, _, _, _, rfl, kpi.trans (Kp.same s5), Bi.same s5⟩
    · rintro σ Hc ⟨v3, v4, v5, v6, rfl, kpc, Bc⟩
      show tSeq _ _ _ _ _
      refine tSeq_go ?_
      refine ⟨_, rfl, _, rfl, b, g, (ts.length : Int), rfl, by omega, by omega, Bc, fun r H1 r0 r1 kp1 B1 => ?_⟩
      obtain ⟨t1, rfl⟩ : ∃ t1 : Nat, r = (t1 : Int) := ⟨r.toNat, by omega⟩
      have kp2 := kpc.trans kp1
      have kf := KF.of_kp kp2 hB
      dsimp only [gName]
      refine at_st [some (.ref b), some (.ref a), some (.int (ts.length : Nat)), v3, some (.int (t1 : Nat)), v5, v6] rfl ?_
      have ha1 := sqT_kf kf ha
      have hc1 := sqT_kf kf hc
      have hys1 := dpAll_kf kf _ (still_ties ts) hys
      have tieAt : ∀ kk, kk < ts.length → ∃ y, ys[kk]? = some y ∧ Dp K H1 y (tieD (ts.getD kk (0, 0))) := fun kk hkm => by
        have ht := List.getElem?_eq_getElem hkm
        obtain ⟨y, hy, hyd⟩ := dpAll_at hys1 (show (ts.map tieD)[kk]? = some (tieD ts[kk]) by rw [List.getElem?_map, ht]; rfl)
        refine ⟨y, hy, ?_⟩
        rw [List.getD_eq_getElem?_getD, ht]
        exact hyd
      refine ⟨_, rfl, (ts.length : Int), rfl, by omega, by omega, fun E1 hE1 => ?_⟩
      refine lc_run (walk_range (lo := 0) (n := (ts.length : Int).toNat)) hE1 (fun i acc _ => ∃ ks : List Nat, acc = natsV ks ∧ LotA i ks) ?_ ?_ ?_ ?_
      · exact fun _ _ => trivial
      · exact ⟨[], rfl, .nil, by simp⟩
      · rintro i2 x acc H6 H' hi2 hacc e s6 ⟨ks, rfl, hks⟩ ⟨rfl, rfl⟩
        dsimp only
        rw [Int.zero_add]
        have hkl := lotA_len hks
        obtain ⟨y1, hy1, hd1⟩ := tieAt i2 (by omega)
        obtain ⟨y2, hy2, hd2⟩ := tieAt t1 (by omega)
        refine ⟨rfl, ?_⟩
        refine ⟨_, rfl, a, _, _, _, rfl, rfl, sqT_same s6 ha1, atI_nat (j := 1) rfl, _, rfl, c, _, _, _, rfl, rfl, sqT_same s6 hc1, atI_nat hy1, ?_⟩
        refine ⟨_, rfl, a, _, _, _, rfl, rfl, sqT_same s6 ha1, atI_nat (j := 1) rfl, _, rfl, c, _, _, _, rfl, rfl, sqT_same s6 hc1, atI_nat hy2, ?_⟩
        refine ⟨_, _, dp_same s6 _ hd1, dp_same s6 _ hd2, by simp [SeqAt.shaped, tieD, PyData.canLay0, PyData.canLayAll0, PyData.depth, PyData.depthAll], by simp [SeqAt.shaped, tieD, PyData.canLay0, PyData.canLayAll0, PyData.depth, PyData.depthAll], _, rfl, ite2 (fun hh => ?_) (fun hh => ?_)⟩
        · exact ⟨_, rfl, lc_add hacc e (Same.refl _) (by rw [natsV_len]; omega) ⟨ks ++ [i2], natsV_snoc _ _, lotA_snoc hks⟩⟩
        · exact lc_skip hacc e (Same.refl _) ⟨ks, rfl, lotA_up hks⟩
      · rintro acc H6 h1 s6 ⟨ks, rfl, hks⟩
        rw [show ((ts.length : Int)).toNat = ts.length by omega] at hks
        dsimp only [tNoPart]
        refine ⟨2, rfl, E1, _, rfl, SqL.of h1, fun p hp => ?_⟩
        have ecut : cutV (natsV ks) none (some 2) = natsV (ks.take 2) := cutN_hi ks 2
        rw [ecut]
        have sp := same_new (o := .lst (natsV (ks.take 2))) hp
        refine ⟨p, _, rfl, .inl ⟨SqL.of upd_same, fun u hu => ?_⟩⟩
        have su := same_new (o := .tup (natsV (ks.take 2))) hu
        exact k _ (ks.take 2) _ (kp2.trans (Kp.same (s6.trans (sp.trans su)))) (B1.same (s6.trans (sp.trans su))) (lot_dp (SqT.of upd_same)) ⟨hks.1.sublist (List.take_sublist ..), fun x hx => hks.2 x (List.mem_of_mem_take hx)⟩
theorem ok_deed {f f1 f2 f3 f4 f5 f6 : Addr} {fd fd1 fd2 fd3 fd4 fd5 fd6 : FuncData} (D : Df K mg "_law_deed" sDeed pDeed f fd) (T : Bl mg) (D_draw : Df K mg "_law_draw" sDraw ["_law_box_here", "_law_many"] f1 fd1) (D_pick : Df K mg "_law_pick" sPick nPick f2 fd2) (D_number : Df K mg "_law_number" sNumber pNumber f3 fd3)
    (D_counts : Df K mg "_law_counts" sCounts pCounts f4 fd4) (D_leven : Df K mg "_law_is_even" sLeven pLeven f5 fd5) (D_about : Df K mg "_law_about" sAbout pAbout f6 fd6) :
    FnOk P w K mg base CX0 4 f fd pDeed (spDeed K) := by
  have G_draw : FnOk P w K mg base CX0 1 f1 fd1 ["_law_box_here", "_law_many"] spDraw := ok_draw D_draw T
  have G_number : FnOk P w K mg base CX0 3 f3 fd3 pNumber spNumber := ok_number (K := K) D_number T D_draw D_pick
  have G_about : FnOk P w K mg base CX0 3 f6 fd6 pAbout (spAbout K) := ok_about D_about T D_draw D_counts D_leven
  refine D.fn.ok scDeed (fun vs H Q E h => ?_) (fun cdv A outer s H vs Q E hr h => ?_)
  · obtain ⟨b, g, v, n, ts, rfl, _⟩ := h
    rfl
  · obtain ⟨b, g, v, n, ts, rfl, hB, hw, hends, hn1, hn, hl, k⟩ := h
    have nd := scDeed.nd
    have hr_number : Room 3 _ := hr
    have hr_about : Room 3 _ := hr
    have hr_draw : Room 1 _ := hr.mono (by decide)
    obtain ⟨a, c, ys, rfl, ha, hc, hys⟩ := dp_web hw
    refine ⟨_, (pss_cons (ps_set (i := 2) nd rfl (by first | exact Or.inl rfl | exact Or.inr rfl) (pe_call G_number hr_number (by rfl) D_number.ad D_number.fn.kp D_number.bd .nil pass0 (pa_cons (pv 0) (pa_cons (pe_op op_pow pe_int pe_int) pa_nil))))
      (pss_cons (ps_if (pt_cmpR op_eq (pe_call G_draw hr_draw (by rfl) D_draw.ad D_draw.fn.kp D_draw.bd .nil pass0 (pa_cons (pv 0) (pa_cons pe_int pa_nil))) pe_int (nomark _)) (pss_one (ps_ret (pe_tup (pa_cons pe_str (pa_cons (pe_call G_draw hr_draw (by rfl) D_draw.ad D_draw.fn.kp D_draw.bd .nil pass0 (pa_cons (pv 0) (pa_cons (pe_op op_add (pe_ix (ixT K) (pv 1) pe_int (fun _ _ => rfl)) (pe_call G_draw hr_draw (by rfl) D_draw.ad D_draw.fn.kp D_draw.bd .nil pass0 (pa_cons (pv 0) (pa_cons pe_int pa_nil)))) pa_nil))) (pa_cons (pv 2) pa_nil)))))) pss_nil)
      (pss_one (ps_ret (pe_tup (pa_cons pe_str (pa_cons (pe_call G_about hr_about (by rfl) D_about.ad D_about.fn.kp D_about.bd .nil pass0 (pa_cons (pv 0) (pa_cons (pv 1) pa_nil))) (pa_cons (pv 2) pa_nil)))))))), ?_⟩
    refine tSeq_go ?_
    refine ⟨_, rfl, 10, 30, rfl, rfl, ⟨by decide, by decide, by decide⟩, b, g, _, rfl, by decide, by decide, hB, fun z H1 kp1 B1 hz => ?_⟩
    dsimp only [gName]
    refine at_st [some (.ref b), some (.ref a), some (.int z)] rfl ?_
    refine tSeq_go ?_
    refine ⟨_, rfl, b, g, 2, rfl, by decide, by decide, B1, fun r H2 r0 r1 kp2 B2 => ?_⟩
    refine ⟨rfl, _, rfl, ite2 (fun h0 => ?_) (fun h0 => ?_)⟩
    · have ha2 := sqT_kf (KF.of_kp (kp1.trans kp2) hB) ha
      refine ⟨_, rfl, _, rfl, a, _, _, _, rfl, rfl, ha2, atI_nat (j := 0) rfl, _, rfl, b, g, 2, rfl, by decide, by decide, B2, fun r3 H3 q0 q1 kp3 B3 => ?_⟩
      refine ⟨_, _, rfl, rfl, b, g, _, rfl, by omega, by omega, B3, fun r4 H4 u0 u1 kp4 B4 => ?_⟩
      refine ⟨_, rfl, by show 3 ≤ sizeLine; decide, fun p hp => ?_⟩
      obtain ⟨j, rfl⟩ : ∃ j : Nat, r4 = (j : Int) := ⟨r4.toNat, by omega⟩
      have sp := same_new (o := .tup [.str "star", .int (j : Nat), .int z]) hp
      exact k _ (Str.ofString "star") (.int (j : Nat)) z _ ((((kp1.trans kp2).trans kp3).trans kp4).trans (Kp.same sp)) (B4.same sp) (.tup (SqT.of upd_same) (.cons (.str _) (.cons (.int _) (.cons (.int _) .nil)))) ⟨hz, .inl ⟨rfl, j, by omega, rfl⟩⟩
    · dsimp only [tNext]
      have kp12 := kp1.trans kp2
      have hw2 := dp_kf (KF.of_kp kp12 hB) _ (still_web n ts) hw
      refine ⟨_, rfl, _, rfl, b, g, .ref a, n, ts, rfl, B2, hw2, hends, hn, hl, fun u ks H3 kp3 B3 hu hks => ?_⟩
      refine ⟨_, rfl, by show 3 ≤ sizeLine; decide, fun p hp => ?_⟩
      have sp := same_new (o := .tup [.str "round", u, .int z]) hp
      exact k _ (Str.ofString "round") (lotD ks) z _ ((kp12.trans kp3).trans (Kp.same sp)) (B3.same sp) (.tup (SqT.of upd_same) (.cons (.str _) (.cons (dp_same sp _ hu) (.cons (.int _) .nil)))) ⟨hz, .inr ⟨rfl, ks, hks, rfl⟩⟩
end
end BV

namespace BV
open PySem L2 RZ
abbrev sOdeed : Stmt := top 36
abbrev nOdeed : List Str := ["_law_box_here", "_law_web_here", "_law_own", "_law_word", "_law_about_here", "_law_times", "_law_way", "_law_menu", "_law_tie"]
abbrev pOdeed : List Str := ["_law_box_here", "_law_web_here", "_law_own"]
theorem scOdeed : FnScope nOdeed pOdeed (defScope sOdeed) := ⟨rfl, rfl, rfl, by decide +kernel, rfl, by decide +kernel, by decide +kernel⟩
def spOdeed (K : PySem.W.Frag) : Sp := fun vs H Q _ => ∃ (b g : Addr) (v u : V) (n : Nat) (ts : List Tie) (w : Str) (t : PyData) (z : Int), vs = [.ref b, v, u] ∧ Box H b g ∧ Dp K H v (webD n ts) ∧ Dp K H u (.tuple [.str w, t, .int z]) ∧ DeedN n ts.length w t z ∧ n ≤ 100 ∧ ts.length ≤ 60 ∧
  ∀ (r : V) H', Kp b g H H' → Box H' b g → ItX K H' b g (fun e => Sz e 200 6 ∧ WS e) r → Q r H'
theorem DeedN.still {n m : Nat} {w : Str} {t : PyData} {z : Int} (h : DeedN n m w t z) (hn : n ≤ 100) (hm : m ≤ 60) : still t = true ∧ Sz t 61 1 ∧ SeqAt.shaped t = true ∧ z.natAbs < 2 ^ 200 ∧ (Str.ofString "star" = w ∨ Str.ofString "round" = w) := by
  obtain ⟨hz, ⟨rfl, p, hp, rfl⟩ | ⟨rfl, ks, hks, rfl⟩⟩ := h
  · exact ⟨by simp [BV.still], sz_nat (by omega), by decide +revert, Nat.lt_of_lt_of_le hz (by decide), .inl rfl⟩
  · exact ⟨still_lot ks, (sz_nats (L := 60) (k := 0) (fun x hx => by have := hks.2 x hx; omega) (by have := lotA_len hks; omega)), shaped_lotN ks, Nat.lt_of_lt_of_le hz (by decide), .inr rfl⟩
theorem word_sz {w : Str} (h : Str.ofString "star" = w ∨ Str.ofString "round" = w) : Sz (.str w) 1 0 ∧ SeqAt.shaped (.str w) = true := by
  rcases h with rfl | rfl
  · exact ⟨sz_str, by decide +kernel⟩
  · exact ⟨sz_str, by decide +kernel⟩
theorem cut_mem {v : V} {xs : List V} {lo hi : Option Int} (h : v ∈ cutV xs lo hi) : v ∈ xs := by
  unfold cutV at h
  exact List.mem_of_mem_drop (List.mem_of_mem_take h)
theorem dp_three {K : PySem.W.Frag} {H : Hp} {u : V} {a b c : PyData} (h : Dp K H u (.tuple [a, b, c])) : ∃ p x y z, u = .ref p ∧ SqT K H p [x, y, z] ∧ Dp K H x a ∧ Dp K H y b ∧ Dp K H z c := by
  cases h with
  | tup h0 h =>
    cases h with
    | cons h1 h2 =>
      cases h2 with
      | cons h3 h4 =>
        cases h4 with
        | cons h5 h6 =>
          cases h6
          exact ⟨_, _, _, _, rfl, h0, h1, h3, h5⟩
theorem it_row3 {K : PySem.W.Frag} {H : Hp} {b g p : Addr} {x y z : V} {dx dy dz : PyData} {c1 c2 c3 : Nat} (hp : SqT K H p [x, y, z]) (h1 : Dx K H (NB b g) x dx) (h2 : Dx K H (NB b g) y dy) (h3 : Dx K H (NB b g) z dz)
    (z1 : Sz dx c1 5) (z2 : Sz dy c2 5) (z3 : Sz dz c3 5) (hc : c1 + (c2 + (c3 + 0)) + 1 ≤ 200) (hs : SeqAt.shaped dx = true) : ItX K H b g (fun e => Sz e 200 6 ∧ WS e) (.ref p) := by
  refine ⟨_, .tup hp (.cons h1 (.cons h2 (.cons h3 .nil))), (sz_tup (sza_cons z1 (sza_cons z2 (sza_cons z3 sza_nil)))).mono hc (Nat.le_refl _), fun w t k e => ?_⟩
  have e := PyData.tuple.inj e
  obtain ⟨rfl, _⟩ := List.cons.inj e
  exact hs
section
variable {P : Program} {w : World} {K : PySem.W.Frag} {mg : Str → Option Value} {base : Heap}
theorem ok_odeed {f f1 f2 f3 : Addr} {fd fd1 fd2 fd3 : FuncData} (D : Df K mg "_law_odd_deed" sOdeed pOdeed f fd) (T : Bl mg) (hlist : mg "list" = none) (D_draw : Df K mg "_law_draw" sDraw ["_law_box_here", "_law_many"] f1 fd1) (D_pick : Df K mg "_law_pick" sPick nPick f2 fd2) (D_lodd : Df K mg "_law_odd" sLodd pLodd f3 fd3) :
    FnOk P w K mg base CX0 4 f fd pOdeed (spOdeed K) := by
  have G_pick : FnOk P w K mg base CX0 2 f2 fd2 nPick (spPick K) := ok_pick D_pick T D_draw
  have G_draw : FnOk P w K mg base CX0 1 f1 fd1 ["_law_box_here", "_law_many"] spDraw := ok_draw D_draw T
  have G_lodd : FnOk P w K mg base CX0 3 f3 fd3 pLodd (spLodd K) := ok_lodd D_lodd T D_draw D_pick
  refine D.fn.ok scOdeed (fun vs H Q E h => ?_) (fun cdv A outer s H vs Q E hr h => ?_)
  · obtain ⟨b, g, v, u, n, ts, w, t, z, rfl, _⟩ := h
    rfl
  · obtain ⟨b, g, v, u, n, ts, w, t, z, rfl, hB, hw, hu, hD, hn, hl, k⟩ := h
    have nd := scOdeed.nd
    have hr_pick : Room 2 _ := hr.mono (by decide)
    have hr_draw : Room 1 _ := hr.mono (by decide)
    have hr_lodd : Room 3 _ := hr
    obtain ⟨a, c, ys, rfl, ha, hc, hys⟩ := dp_web hw
    have hyl : ys.length = ts.length := by rw [dpAll_len hys, List.length_map]
    obtain ⟨ax, _, vt, _, rfl, hax, q1, hT, q3⟩ := dp_three hu
    cases q1
    cases q3
    obtain ⟨stT, szT, shT, hz, hwd⟩ := hD.still hn hl
    obtain ⟨szW, shW⟩ := word_sz hwd
    have szZ : Sz (.int z) 1 0 := sz_int hz
    refine ⟨_, (pss_cons (ps_asg (pv 2) (pgT K rfl (pgs_cons (pg_name (i := 3) nd rfl (by first | exact Or.inl rfl | exact Or.inr rfl)) (pgs_cons (pg_name (i := 4) nd rfl (by first | exact Or.inl rfl | exact Or.inr rfl)) (pgs_cons (pg_name (i := 5) nd rfl (by first | exact Or.inl rfl | exact Or.inr rfl)) pgs_nil)))))
      (pss_cons (ps_set (i := 6) nd rfl (by first | exact Or.inl rfl | exact Or.inr rfl) (pe_call G_draw hr_draw (by rfl) D_draw.ad D_draw.fn.kp D_draw.bd .nil pass0 (pa_cons (pv 0) (pa_cons pe_int pa_nil))))
      (pss_cons (ps_if (pt_cmpR op_eq (pv 6) pe_int (nomark _)) (pss_one (ps_ret (pe_tup (pa_cons (pe_call G_pick hr_pick (by rfl) D_pick.ad D_pick.fn.kp D_pick.bd .nil pass0 (pa_cons (pv 0) (pa_cons (pe_lstY (pa_cons pe_str (pa_cons pe_str (pa_cons pe_str (pa_cons pe_non (pa_cons pe_int (pa_cons pe_str (pa_cons (pe_tup (pa_cons pe_str pa_nil)) (pa_cons pe_str (pa_cons pe_str (pa_cons pe_bl pa_nil))))))))))) pa_nil))) (pa_cons (pv 4) (pa_cons (pv 5) pa_nil)))))) pss_nil)
      (pss_cons (ps_if (pt_cmpR op_lt (pv 6) pe_int (nomark _)) (pss_one (ps_ret (pe_tup (pa_cons (pv 3) (pa_cons (pe_call G_lodd hr_lodd (by rfl) D_lodd.ad D_lodd.fn.kp D_lodd.bd .nil pass0 (pa_cons (pv 0) (pa_cons (pv 4) pa_nil))) (pa_cons (pv 5) pa_nil)))))) pss_nil)
      (pss_cons (ps_if (pt_cmpR op_lt (pv 6) pe_int (nomark _)) (pss_one (ps_ret (pe_tup (pa_cons (pv 3) (pa_cons (pv 4) (pa_cons (pe_call G_pick hr_pick (by rfl) D_pick.ad D_pick.fn.kp D_pick.bd .nil pass0 (pa_cons (pv 0) (pa_cons (pe_lstY (pa_cons pe_int (pa_cons pe_bl (pa_cons pe_bl (pa_cons (pe_op op_add (pe_op op_pow pe_int pe_int) pe_int) (pa_cons (pe_op op_sub (pe_un un_neg (pe_op op_pow pe_int pe_int)) pe_int) (pa_cons pe_non (pa_cons pe_str (pa_cons (pe_tup (pa_cons pe_int pa_nil)) (pa_cons (pv 5) (pa_cons pe_int pa_nil))))))))))) pa_nil))) pa_nil)))))) pss_nil)
      (pss_cons (ps_if (PW.pt (pw_and (PW.pt (pw_or (pt_cmpR op_eq (pv 6) pe_int (nomark _)) (pw_or1 (pt_cmpR op_eq (pv 6) pe_int (nomark _))))) (pw_and1 (pt_cmpR op_eq (pv 3) pe_str (nomark _))))) (pss_cons (ps_set (i := 7) nd rfl (by first | exact Or.inl rfl | exact Or.inr rfl) (pe_lstY (pa_cons (revT K (pv 4)) (pa_cons (pe_slice (slTA K) (pv 4) (po_some pe_int) po_none) (pa_cons (pe_op (catA K) (pv 4) (pe_slice (slTA K) (pv 4) (po_some (pe_un un_neg pe_int)) po_none)) (pa_cons (pe_callTy call_list_ofY (by rfl) hlist (by decide +kernel) (pa_cons (pv 4) pa_nil)) (pa_cons (pe_tup pa_nil) (pa_cons (pe_tup (pa_cons pe_int pa_nil)) (pa_cons (pe_op (catA K) (pe_tup (pa_cons (pe_un un_neg pe_int) pa_nil)) (pe_slice (slTA K) (pv 4) (po_some pe_int) po_none)) pa_nil)))))))))
      (pss_cons (ps_set (i := 7) nd rfl (by first | exact Or.inl rfl | exact Or.inr rfl) (pe_op op_cat (pv 7) (pe_lstY (pa_cons (pe_op (catA K) (pe_slice (slTA K) (pv 4) po_none (po_some (pe_un un_neg pe_int))) (pe_tup (pa_cons pe_bl pa_nil))) (pa_cons (pe_op (catA K) (pe_tup (pa_cons pe_bl pa_nil)) (pe_slice (slTA K) (pv 4) (po_some pe_int) po_none)) (pa_cons (pe_op (catA K) (pe_slice (slTA K) (pv 4) po_none (po_some (pe_un un_neg pe_int))) (pe_tup (pa_cons pe_non pa_nil))) (pa_cons (pe_op (catA K) (pe_slice (slTA K) (pv 4) po_none (po_some (pe_un un_neg pe_int))) (pe_tup (pa_cons (pe_callB (lenK K) (by rfl) T.len PySem.boot_len (pa_cons (pe_ix (ixT K) (pv 1) pe_int (fun _ _ => rfl)) pa_nil)) pa_nil))) pa_nil)))))))
      (pss_one (ps_ret (pe_tup (pa_cons (pv 3) (pa_cons (pe_call G_pick hr_pick (by rfl) D_pick.ad D_pick.fn.kp D_pick.bd .nil pass0 (pa_cons (pv 0) (pa_cons (pe_op op_cat (pv 7) (pe_op op_rep (pe_lstY (pa_cons (pe_callTy (tupleK K) (by rfl) T.tuple (by decide +kernel) (pa_cons (pe_lc (own := [("_law_tie", 8)]) (g := (gName 8)) (tt := tYes) rfl nd (piT K (pv 4)) (blkOk_by (own := [("_law_tie", 8)]) (N := nOdeed) (sc := defScope sOdeed) (by decide +kernel)) (fun _ _ _ _ _ => (pg_name (i := 8) nd rfl (by first | exact Or.inl rfl | exact Or.inr rfl))) (fun _ _ _ _ _ => pts_nil) (fun _ _ _ _ _ => (pe_op op_sub (pv 8) (pe_callB (lenK K) (by rfl) T.len PySem.boot_len (pa_cons (pe_ix (ixT K) (pv 1) pe_int (fun _ _ => rfl)) pa_nil))))) pa_nil)) pa_nil)) pe_int)) pa_nil))) (pa_cons (pv 5) pa_nil)))))))) pss_nil)
      (pss_cons (ps_if (pt_cmpR op_eq (pv 6) pe_int (nomark _)) (pss_cons (ps_set (i := 7) nd rfl (by first | exact Or.inl rfl | exact Or.inr rfl) (pe_lstY (pa_cons (pe_callTy call_list_ofY (by rfl) hlist (by decide +kernel) (pa_cons (pv 2) pa_nil)) (pa_cons (pe_slice (slTA K) (pv 2) po_none (po_some pe_int)) (pa_cons (pe_op (catA K) (pv 2) (pe_tup (pa_cons pe_int pa_nil))) (pa_cons pe_non (pa_cons pe_dnewK (pa_cons (pe_tup pa_nil) (pa_cons (revT K (pv 2)) (pa_cons (pv 3) (pa_cons (pe_tup (pa_cons (pv 2) pa_nil)) (pa_cons (pe_tup (pa_cons (pv 4) (pa_cons (pv 3) (pa_cons (pv 5) pa_nil)))) pa_nil))))))))))))
      (pss_one (ps_ret (pe_call G_pick hr_pick (by rfl) D_pick.ad D_pick.fn.kp D_pick.bd .nil pass0 (pa_cons (pv 0) (pa_cons (pv 7) pa_nil)))))) pss_nil)
      (pss_one (ps_ret (pe_tup (pa_cons (pv 3) (pa_cons (pe_call G_pick hr_pick (by rfl) D_pick.ad D_pick.fn.kp D_pick.bd .nil pass0 (pa_cons (pv 0) (pa_cons (pe_lstY (pa_cons (pe_ix (ixT K) (pv 1) pe_int (fun _ _ => rfl)) (pa_cons (pe_un un_neg pe_int) (pa_cons (pe_op op_sub (pe_ix (ixT K) (pv 1) pe_int (fun _ _ => rfl)) pe_int) (pa_cons (pe_tup (pa_cons pe_int pa_nil)) (pa_cons (pe_tup (pa_cons pe_int (pa_cons pe_int pa_nil))) (pa_cons (pe_tup (pa_cons pe_int (pa_cons pe_int pa_nil))) (pa_cons (pe_callB (lenK K) (by rfl) T.len PySem.boot_len (pa_cons (pe_ix (ixT K) (pv 1) pe_int (fun _ _ => rfl)) pa_nil)) (pa_cons pe_bl (pa_cons pe_str (pa_cons pe_non pa_nil))))))))))) pa_nil))) (pa_cons (pv 5) pa_nil))))))))))))), ?_⟩
    refine tSeq_go ?_
    refine ⟨_, rfl, ax, _, rfl, hax, rfl, _, _, rfl, _, _, rfl, _, _, rfl, rfl, ?_⟩
    refine at_st [some (.ref b), some (.ref a), some (.ref ax), some (.str w), some vt, some (.int z), none, none, none] rfl ?_
    refine tSeq_go ?_
    refine ⟨_, rfl, b, g, 9, rfl, by decide, by decide, hB, fun r H2 r0 r1 kp2 B2 => ?_⟩
    have kf2 := KF.of_kp kp2 hB
    have hax := sqT_kf kf2 hax
    have ha := sqT_kf kf2 ha
    have hc := sqT_kf kf2 hc
    have hT := dp_kf kf2 _ stT hT
    have k : ∀ (r : V) H', Kp b g H2 H' → Box H' b g → ItX K H' b g (fun e => Sz e 200 6 ∧ WS e) r → Q r H' := fun r H' z => k r H' (kp2.trans z)
    clear kf2 kp2 hu hw hys hB r0 r1
    have xT : ∀ {H'}, Kp b g H2 H' → Dx K H' (NB b g) vt t := fun kq => dp_dx _ stT (dp_kf (KF.of_kp kq B2) _ stT hT)
    dsimp only [gName]
    refine at_st [some (.ref b), some (.ref a), some (.ref ax), some (.str w), some vt, some (.int z), some (.int r), none, none] rfl ?_
    refine tSeq_go ?_
    refine ⟨_, rfl, rfl, _, rfl, ite2 (fun h0 => ?_) (fun h0 => ?_)⟩
    · clear h0
      have M : MnX K b g (fun e => Sz e 3 1 ∧ SeqAt.shaped e = true) H2 H2 [] := MnX.zero B2
      have M := M.atom (v := .str "stars") (.str _) (⟨sz_str, by decide +kernel⟩)
      have M := M.atom (v := .str "Round") (.str _) (⟨sz_str, by decide +kernel⟩)
      have M := M.atom (v := .str "") (.str _) (⟨sz_str, by decide +kernel⟩)
      have M := M.atom (v := .non) (.non) (⟨sz_non, by decide +kernel⟩)
      have M := M.atom (v := .int 0) (.int _) (⟨sz_int (by decide), by decide +kernel⟩)
      have M := M.atom (v := .str "way") (.str _) (⟨sz_str, by decide +kernel⟩)
      refine ⟨_, rfl, by show 1 ≤ sizeLine; decide, fun p3 hp3 => ?_⟩
      have M := M.new (o := .tup [.str "star"]) hp3 (.tup (SqT.of upd_same) (.cons (.str _) .nil)) (⟨(sz_tup (sza_cons (c1 := 1) (k := 0) sz_str (sza_nil (c := 0)))).mono (by decide) (by decide), by decide +kernel⟩)
      generalize upd H2 p3 (.tup [.str "star"]) = H3 at *
      have M := M.atom (v := .str "round") (.str _) (⟨sz_str, by decide +kernel⟩)
      have M := M.atom (v := .str "star") (.str _) (⟨sz_str, by decide +kernel⟩)
      have M := M.atom (v := .bl true) (.bl _) (⟨sz_bl, by decide +kernel⟩)
      refine ⟨by show 10 ≤ sizeLine; decide, fun l hll hsl => ?_⟩
      have hln := M.ne hll
      have M := M.put (o := .lst [.str "stars", .str "Round", .str "", .non, .int 0, .str "way", .ref p3, .str "round", .str "star", .bl true]) hll
      refine ⟨b, g, l, _, rfl, SqL.of upd_same, hln.1, hln.2, by show 0 < 10; decide, by show 10 < 1000000; decide, M.bx, fun j v H' hj kp B => ?_⟩
      obtain ⟨d, hd, hsz, hsh⟩ := (M.it v (by simpa using List.mem_of_getElem? hj)).kp kp M.bx
      have kk := M.s.trans kp
      refine ⟨_, rfl, _, rfl, by show 3 ≤ sizeLine; decide, fun p hp => ?_⟩
      have sp := same_new (o := .tup [v, vt, .int z]) hp
      exact k _ _ (kk.trans (Kp.same sp)) (B.same sp) (it_row3 (SqT.of upd_same) (dx_same sp hd) (dx_same sp (xT kk)) (.int z) (hsz.mono (Nat.le_refl _) (by decide)) (szT.mono (Nat.le_refl _) (by decide)) (szZ.mono (Nat.le_refl _) (by decide)) (by decide) hsh)
    dsimp only [tNext]
    refine tSeq_go ?_
    -- ways 1, 2
    refine ⟨_, rfl, _, _, rfl, rfl, _, rfl, ite2 (fun h1 => ?_) (fun h1 => ?_)⟩
    · clear h1
      refine ⟨_, rfl, _, rfl, _, rfl, b, g, NB b g, vt, t, 61, 1, rfl, B2, (fun _ h => h), box_al B2, xT (Kp.refl _), szT, fun v d H' kp B hd hsz _ => ?_⟩
      refine ⟨_, rfl, by show 3 ≤ sizeLine; decide, fun p hp => ?_⟩
      have sp := same_new (o := .tup [.str w, v, .int z]) hp
      exact k _ _ (kp.trans (Kp.same sp)) (B.same sp) (it_row3 (SqT.of upd_same) (.str w) (dx_same sp hd) (.int z) (szW.mono (Nat.le_refl _) (by decide)) (hsz.mono (Nat.le_refl _) (by decide)) (szZ.mono (Nat.le_refl _) (by decide)) (by decide) shW)
    dsimp only [tNext]
    refine tSeq_go ?_
    -- ways 3, 4
    refine ⟨_, rfl, _, _, rfl, rfl, _, rfl, ite2 (fun h2 => ?_) (fun h2 => ?_)⟩
    · clear h2
      have M : MnX K b g (fun e => Sz e 3 1 ∧ True) H2 H2 [] := MnX.zero B2
      have M := M.atom (v := .int 0) (.int _) (⟨sz_int (by decide), trivial⟩)
      have M := M.atom (v := .bl true) (.bl _) (⟨sz_bl, trivial⟩)
      have M := M.atom (v := .bl false) (.bl _) (⟨sz_bl, trivial⟩)
      have M := M.atom (v := .int (10 ^ (30 : Int).toNat + 1)) (.int _) (⟨sz_int (by decide), trivial⟩)
      have M := M.atom (v := .int (-(10 ^ (30 : Int).toNat) - 1)) (.int _) (⟨sz_int (by decide), trivial⟩)
      have M := M.atom (v := .non) (.non) (⟨sz_non, trivial⟩)
      have M := M.atom (v := .str "1") (.str _) (⟨sz_str, trivial⟩)
      refine ⟨_, rfl, _, rfl, _, rfl, 10, 30, rfl, rfl, ⟨by decide, by decide, by decide⟩, _, _, rfl, rfl, 10, 30, rfl, rfl, ⟨by decide, by decide, by decide⟩, _, rfl, _, _, rfl, rfl, by show 1 ≤ sizeLine; decide, fun p3 hp3 => ?_⟩
      have M := M.new (o := .tup [.int 1]) hp3 (.tup (SqT.of upd_same) (.cons (.int _) .nil)) (⟨(sz_tup (sza_cons (c1 := 1) (k := 0) (sz_int (by decide)) (sza_nil (c := 0)))).mono (by decide) (by decide), trivial⟩)
      generalize upd H2 p3 (.tup [.int 1]) = H3 at *
      have M := M.atom (v := .int z) (.int _) (⟨szZ.mono (by decide) (by decide), trivial⟩)
      have M := M.atom (v := .int 1) (.int _) (⟨sz_int (by decide), trivial⟩)
      refine ⟨_, rfl, by show 10 ≤ sizeLine; decide, fun l hll hsl => ?_⟩
      have hln := M.ne hll
      have M := M.put (o := .lst [.int 0, .bl true, .bl false, .int (10 ^ (30 : Int).toNat + 1), .int (-(10 ^ (30 : Int).toNat) - 1), .non, .str "1", .ref p3, .int z, .int 1]) hll
      refine ⟨b, g, l, _, rfl, SqL.of upd_same, hln.1, hln.2, by show 0 < 10; decide, by show 10 < 1000000; decide, M.bx, fun j v H' hj kp B => ?_⟩
      obtain ⟨d, hd, hsz, hsh⟩ := (M.it v (by simpa using List.mem_of_getElem? hj)).kp kp M.bx
      have kk := M.s.trans kp
      refine ⟨by show 3 ≤ sizeLine; decide, fun p hp => ?_⟩
      have sp := same_new (o := .tup [.str w, vt, v]) hp
      exact k _ _ (kk.trans (Kp.same sp)) (B.same sp) (it_row3 (SqT.of upd_same) (.str w) (dx_same sp (xT kk)) (dx_same sp hd) (szW.mono (Nat.le_refl _) (by decide)) (szT.mono (Nat.le_refl _) (by decide)) (hsz.mono (Nat.le_refl _) (by decide)) (by decide) shW)
    dsimp only [tNext]
    refine tSeq_go ?_
    -- ways 5, 7
    refine tIfS_t (fun bb H' => H' = H2 ∧ (bb = true → w = Str.ofString "round")) ?_ ?_ (fun cont => ?_)
    rotate_left
    rotate_left
    · refine ⟨_, rfl, rfl, _, rfl, ite2 (fun h3 => ?_) (fun h3 => ?_)⟩
      · exact ⟨_, rfl, rfl, _, rfl, cont _ _ ⟨rfl, fun h4 => V.str.inj (of_decide_eq_true h4)⟩⟩
      · refine ⟨_, rfl, rfl, _, rfl, ite2 (fun h5 => ?_) (fun h5 => ?_)⟩
        · exact ⟨_, rfl, rfl, _, rfl, cont _ _ ⟨rfl, fun h4 => V.str.inj (of_decide_eq_true h4)⟩⟩
        · exact cont _ _ ⟨rfl, fun z => nomatch z⟩
    · rintro H' ⟨hH, hw0⟩
      obtain rfl : H2 = H' := hH.symm
      have hw0 := hw0 rfl
      obtain ⟨ks, hks, rfl⟩ : ∃ ks : List Nat, LotA ts.length ks ∧ t = lotD ks := by
        obtain ⟨_, ⟨e, _⟩ | ⟨_, ks, h1, h2⟩⟩ := hD
        · rw [e] at hw0
          exact absurd hw0 (by decide)
        · exact ⟨ks, h1, h2⟩
      clear hw0
      obtain ⟨al, rfl, hA⟩ := dp_lotN hT
      have hkl : (natsV ks).length ≤ 60 := by
        have := lotA_len hks
        rw [natsV_len]
        omega
      have hfA : ∀ v ∈ natsV ks, ∃ d, Flat v d := flatN fun x hx => by have := hks.2 x hx; omega
      have hfC : ∀ {lo hi}, ∀ v ∈ cutV (natsV ks) lo hi, ∃ d, Flat v d := fun v hv => hfA v (cut_mem hv)
      have hlC : ∀ {lo hi}, (cutV (natsV ks) lo hi).length ≤ 60 := fun {lo hi} => Nat.le_trans (cutV_length _ lo hi) hkl
      have fi : ∀ z : Int, z.natAbs < 2 ^ 200 → ∀ v ∈ [V.int z], ∃ d, Flat v d := fun z hz => flat_sing (flat_int hz)
      have pT : ∀ ds, Sz (.tuple ds) 131 1 → Sz (.tuple ds) 131 1 ∧ True := fun _ h => ⟨h, trivial⟩
      refine tSeq_go ?_
      have M : MnX K b g (fun e => Sz e 131 1 ∧ True) H2 H2 [] := MnX.zero B2
      refine ⟨_, rfl, al, _, rfl, (sqT_kf (KF.of_kp M.s B2) hA), fun p3 hp3 => ?_⟩
      have M := (M.put (o := .tup (natsV ks).reverse) hp3).flat (SqT.of upd_same) (fun v hv => hfA v (List.mem_reverse.mp hv)) (by rw [List.length_reverse]; omega) pT
      generalize upd H2 p3 (.tup (natsV ks).reverse) = H3 at *
      refine ⟨_, rfl, 1, rfl, ?_⟩
      dsimp only [tNoPart]
      refine slA_by rfl (sqT_kf (KF.of_kp M.s B2) hA) fun c4 H4 s4 hc4 => ?_
      have M := M.same s4
      have M := M.flat hc4 hfC (Nat.le_trans hlC (by decide)) pT
      refine ⟨_, rfl, _, rfl, 1, rfl, _, rfl, ?_⟩
      dsimp only [tNoPart]
      refine slA_by rfl (sqT_kf (KF.of_kp M.s B2) hA) fun c5 H5 s5 hc5 => ?_
      have M := M.same s5
      refine catA_by rfl rfl ((sqT_kf (KF.of_kp M.s B2) hA)) (hc5) (by have := hlC (lo := some (-1)) (hi := none); omega) fun c6 H6 s6 hc6 => ?_
      have M := (M.same s6).flat hc6 (flat_app hfA hfC) (by rw [List.length_append]; have := hlC (lo := some (-1)) (hi := none); omega) pT
      refine ⟨_, rfl, al, _, rfl, .inr (sqT_kf (KF.of_kp M.s B2) hA), fun p7 hp7 hs7 => ?_⟩
      obtain ⟨dl, hd1, hd2⟩ := flat_lst (K := K) (N := NB b g) hs7 (M.nn hp7) (SqL.of (upd_same (H := H6) (a := p7) (o := .lst (natsV ks)))) hfA 131 (by omega)
      have M := M.new (o := .lst (natsV ks)) hp7 hd1 ⟨hd2, trivial⟩
      generalize upd H6 p7 (.lst (natsV ks)) = H7 at *
      refine ⟨Nat.zero_le _, fun p8 hp8 => ?_⟩
      have M := (M.put (o := .tup []) hp8).flat (SqT.of upd_same) (fun v hv => nomatch hv) (Nat.zero_le _) pT
      generalize upd H7 p8 (.tup []) = H8 at *
      refine ⟨by show 1 ≤ sizeLine; decide, fun p9 hp9 => ?_⟩
      have M := (M.put (o := .tup [.int 0]) hp9).flat (SqT.of upd_same) (fi 0 (by decide)) (by show 1 ≤ 130; decide) pT
      generalize upd H8 p9 (.tup [.int 0]) = H9 at *
      refine ⟨1, rfl, by show 1 ≤ sizeLine; decide, fun p10 hp10 => ?_⟩
      have e10 : SqT K (upd H9 p10 (.tup [.int (-1)])) p10 [.int (-1)] := SqT.of upd_same
      have s10x : Same H9 (upd H9 p10 (.tup [.int (-1)])) := same_new hp10
      have M := M.put (o := .tup [.int (-1)]) hp10
      generalize upd H9 p10 (.tup [.int (-1)]) = H10 at *
      refine ⟨_, rfl, 1, rfl, ?_⟩
      dsimp only [tNoPart]
      refine slA_by rfl (sqT_kf (KF.of_kp M.s B2) hA) fun c11 H11 s11 hc11 => ?_
      have M := M.same s11
      refine catA_by rfl rfl (sqT_same s11 e10) (hc11) (by have := hlC (lo := some 1) (hi := none); simp only [List.length_cons, List.length_nil, Nat.add_zero, Nat.zero_add]; omega) fun c12 H12 s12 hc12 => ?_
      have M := (M.same s12).flat hc12 (flat_app (fi (-1) (by decide)) hfC) (by rw [List.length_append]; have := hlC (lo := some 1) (hi := none); simp only [List.length_cons, List.length_nil, Nat.add_zero, Nat.zero_add]; omega) pT
      refine ⟨by show 7 ≤ sizeLine; decide, fun l hll hsl => ?_⟩
      have hL : (upd H12 l (.lst [.ref p3, .ref c4, .ref c6, .ref p7, .ref p8, .ref p9, .ref c12])) l = some (.lst [.ref p3, .ref c4, .ref c6, .ref p7, .ref p8, .ref p9, .ref c12]) := upd_same
      have M := M.put (o := .lst [.ref p3, .ref c4, .ref c6, .ref p7, .ref p8, .ref p9, .ref c12]) hll
      generalize upd H12 l (.lst [.ref p3, .ref c4, .ref c6, .ref p7, .ref p8, .ref p9, .ref c12]) = HL at *
      dsimp only [gName]
      refine at_st [some (.ref b), some (.ref a), some (.ref ax), some (.str w), some (.ref al), some (.int z), some (.int r), some (.ref l), none] rfl ?_
      refine tSeq_go ?_
      refine ⟨_, rfl, _, rfl, ?_⟩
      dsimp only [tNoPart]
      refine ⟨1, rfl, _, rfl, ?_⟩
      refine slA_by rfl (sqT_kf (KF.of_kp M.s B2) hA) fun c13 H13 s13 hc13 => ?_
      have hL := s13 _ _ hL
      have M := M.same s13
      refine ⟨by show 1 ≤ sizeLine; decide, fun p14 hp14 => ?_⟩
      have hL := (same_new (o := .tup [.bl true]) hp14) _ _ hL
      have e14 : SqT K (upd H13 p14 (.tup [.bl true])) p14 [.bl true] := SqT.of upd_same
      have s14x : Same H13 (upd H13 p14 (.tup [.bl true])) := same_new hp14
      have M := M.put (o := .tup [.bl true]) hp14
      generalize upd H13 p14 (.tup [.bl true]) = H14 at *
      refine catA_by rfl rfl (sqT_same s14x hc13) (e14) (by have := hlC (lo := none) (hi := some (-1)); simp only [List.length_cons, List.length_nil, Nat.add_zero, Nat.zero_add]; omega) fun c15 H15 s15 hc15 => ?_
      have hL := s15 _ _ hL
      have M := (M.same s15).flat hc15 (flat_app hfC (flat_sing (flat_bl true))) (by rw [List.length_append]; have := hlC (lo := none) (hi := some (-1)); simp only [List.length_cons, List.length_nil, Nat.add_zero, Nat.zero_add]; omega) pT
      refine ⟨by show 1 ≤ sizeLine; decide, fun p16 hp16 => ?_⟩
      have hL := (same_new (o := .tup [.bl false]) hp16) _ _ hL
      have e16 : SqT K (upd H15 p16 (.tup [.bl false])) p16 [.bl false] := SqT.of upd_same
      have s16x : Same H15 (upd H15 p16 (.tup [.bl false])) := same_new hp16
      have M := M.put (o := .tup [.bl false]) hp16
      generalize upd H15 p16 (.tup [.bl false]) = H16 at *
      refine ⟨_, rfl, 1, rfl, ?_⟩
      dsimp only [tNoPart]
      refine slA_by rfl (sqT_kf (KF.of_kp M.s B2) hA) fun c17 H17 s17 hc17 => ?_
      have hL := s17 _ _ hL
      have M := M.same s17
      refine catA_by rfl rfl (sqT_same s17 e16) (hc17) (by have := hlC (lo := some 1) (hi := none); simp only [List.length_cons, List.length_nil, Nat.add_zero, Nat.zero_add]; omega) fun c18 H18 s18 hc18 => ?_
      have hL := s18 _ _ hL
      have M := (M.same s18).flat hc18 (flat_app (flat_sing (flat_bl false)) hfC) (by rw [List.length_append]; have := hlC (lo := some 1) (hi := none); simp only [List.length_cons, List.length_nil, Nat.add_zero, Nat.zero_add]; omega) pT
      refine ⟨_, rfl, ?_⟩
      dsimp only [tNoPart]
      refine ⟨1, rfl, _, rfl, ?_⟩
      refine slA_by rfl (sqT_kf (KF.of_kp M.s B2) hA) fun c19 H19 s19 hc19 => ?_
      have hL := s19 _ _ hL
      have M := M.same s19
      refine ⟨by show 1 ≤ sizeLine; decide, fun p20 hp20 => ?_⟩
      have hL := (same_new (o := .tup [.non]) hp20) _ _ hL
      have e20 : SqT K (upd H19 p20 (.tup [.non])) p20 [.non] := SqT.of upd_same
      have s20x : Same H19 (upd H19 p20 (.tup [.non])) := same_new hp20
      have M := M.put (o := .tup [.non]) hp20
      generalize upd H19 p20 (.tup [.non]) = H20 at *
      refine catA_by rfl rfl (sqT_same s20x hc19) (e20) (by have := hlC (lo := none) (hi := some (-1)); simp only [List.length_cons, List.length_nil, Nat.add_zero, Nat.zero_add]; omega) fun c21 H21 s21 hc21 => ?_
      have hL := s21 _ _ hL
      have M := (M.same s21).flat hc21 (flat_app hfC (flat_sing flat_non)) (by rw [List.length_append]; have := hlC (lo := none) (hi := some (-1)); simp only [List.length_cons, List.length_nil, Nat.add_zero, Nat.zero_add]; omega) pT
      refine ⟨_, rfl, ?_⟩
      dsimp only [tNoPart]
      refine ⟨1, rfl, _, rfl, ?_⟩
      refine slA_by rfl (sqT_kf (KF.of_kp M.s B2) hA) fun c22 H22 s22 hc22 => ?_
      have hL := s22 _ _ hL
      have M := M.same s22
      refine ⟨_, rfl, a, _, _, _, rfl, rfl, (sqT_kf (KF.of_kp M.s B2) ha), atI_nat (j := 1) rfl, c, ys, rfl, .inr (sqT_kf (KF.of_kp M.s B2) hc), by show 1 ≤ sizeLine; decide, fun p23 hp23 => ?_⟩
      have hL := (same_new (o := .tup [.int (ys.length : Nat)]) hp23) _ _ hL
      have e23 : SqT K (upd H22 p23 (.tup [.int (ys.length : Nat)])) p23 [.int (ys.length : Nat)] := SqT.of upd_same
      have s23x : Same H22 (upd H22 p23 (.tup [.int (ys.length : Nat)])) := same_new hp23
      have M := M.put (o := .tup [.int (ys.length : Nat)]) hp23
      generalize upd H22 p23 (.tup [.int (ys.length : Nat)]) = H23 at *
      refine catA_by rfl rfl (sqT_same s23x hc22) (e23) (by have := hlC (lo := none) (hi := some (-1)); simp only [List.length_cons, List.length_nil, Nat.add_zero, Nat.zero_add]; omega) fun c24 H24 s24 hc24 => ?_
      have hL := s24 _ _ hL
      have M := (M.same s24).flat hc24 (flat_app hfC (flat_sing (flat_nat (by omega)))) (by rw [List.length_append]; have := hlC (lo := none) (hi := some (-1)); simp only [List.length_cons, List.length_nil, Nat.add_zero, Nat.zero_add]; omega) pT
      refine ⟨by show 4 ≤ sizeLine; decide, fun l2 hll2 hsl2 => ?_⟩
      have hL := (same_new (o := .lst [.ref c15, .ref c18, .ref c21, .ref c24]) hll2) _ _ hL
      have hL2 : (upd H24 l2 (.lst [.ref c15, .ref c18, .ref c21, .ref c24])) l2 = some (.lst [.ref c15, .ref c18, .ref c21, .ref c24]) := upd_same
      have M := M.put (o := .lst [.ref c15, .ref c18, .ref c21, .ref c24]) hll2
      generalize upd H24 l2 (.lst [.ref c15, .ref c18, .ref c21, .ref c24]) = HM at *
      refine ⟨l, l2, _, _, rfl, rfl, hL, hL2, by show 11 ≤ sizeLine; decide, fun l3 hl3 => ?_⟩
      have hL3 : (upd HM l3 (.lst [.ref p3, .ref c4, .ref c6, .ref p7, .ref p8, .ref p9, .ref c12, .ref c15, .ref c18, .ref c21, .ref c24])) l3 = some (.lst [.ref p3, .ref c4, .ref c6, .ref p7, .ref p8, .ref p9, .ref c12, .ref c15, .ref c18, .ref c21, .ref c24]) := upd_same
      have M := M.put (o := .lst [.ref p3, .ref c4, .ref c6, .ref p7, .ref p8, .ref p9, .ref c12, .ref c15, .ref c18, .ref c21, .ref c24]) hl3
      have Q0 := Q
      show gName 7 _ _ _ _
      change gName 7 _ _ (upd HM l3 (.lst [.ref p3, .ref c4, .ref c6, .ref p7, .ref p8, .ref p9, .ref c12, .ref c15, .ref c18, .ref c21, .ref c24])) _
      generalize upd HM l3 (.lst [.ref p3, .ref c4, .ref c6, .ref p7, .ref p8, .ref p9, .ref c12, .ref c15, .ref c18, .ref c21, .ref c24]) = HN at *
      dsimp only [gName]
      refine at_st [some (.ref b), some (.ref a), some (.ref ax), some (.str w), some (.ref al), some (.int z), some (.int r), some (.ref l3), none] rfl ?_
      clear hL hL2 Q0
      refine ⟨_, rfl, _, rfl, _, rfl, _, rfl, al, rfl, ⟨_, sqT_kf (KF.of_kp M.s B2) hA⟩, fun E1 hE1 => ?_⟩
      refine lc_run (walk_tup (xs := natsV ks)) hE1 (fun i acc _ => ∃ zs : List Int, acc = zs.map V.int ∧ zs.length ≤ i ∧ ∀ z ∈ zs, z.natAbs < 1000) ?_ ?_ ?_ ?_
      · exact fun H' s => sqT_same s (sqT_kf (KF.of_kp M.s B2) hA)
      · exact ⟨[], rfl, Nat.le_refl _, by simp⟩
      · rintro i x acc H6 H' hi hacc e s6 ⟨zs, rfl, hzl, hzs⟩ ⟨rfl, hx⟩
        obtain ⟨kk, hkk, rfl⟩ := get_map hx
        have hk1 := hks.2 kk (List.mem_of_getElem? hkk)
        refine ⟨rfl, yes_go ?_⟩
        refine ⟨_, rfl, _, rfl, a, _, _, _, rfl, rfl, sqT_same s6 (sqT_kf (KF.of_kp M.s B2) ha), atI_nat (j := 1) rfl, c, ys, rfl, .inr (sqT_same s6 (sqT_kf (KF.of_kp M.s B2) hc)), _, _, rfl, rfl, ?_⟩
        refine lc_add hacc e (Same.refl _) (by rw [List.length_map]; omega) ⟨zs ++ [(kk : Int) - (ys.length : Nat)], by rw [List.map_append]; rfl, by rw [List.length_append]; exact Nat.succ_le_succ hzl, fun z hz => ?_⟩
        rcases List.mem_append.mp hz with q | q
        · exact hzs z q
        · rw [List.mem_singleton.mp q]
          omega
      · rintro acc H6 h1 s6 ⟨zs, rfl, hzl, hzs⟩
        refine ⟨E1, _, rfl, .inl ⟨SqL.of h1, fun u hu => ?_⟩⟩
        have su := s6.trans (same_new (o := .tup (zs.map V.int)) hu)
        have M := (M.same su).flat (SqT.of upd_same) (fun v hv => by
          obtain ⟨zz, hz1, rfl⟩ := List.mem_map.mp hv
          exact ⟨_, flat_int (Nat.lt_of_lt_of_le (hzs zz hz1) (by decide))⟩) (by rw [List.length_map]; omega) pT
        have hL3 := su _ _ hL3
        generalize upd H6 u (.tup (zs.map V.int)) = HO1 at *
        refine ⟨by show 1 ≤ sizeLine; decide, fun l4 hl4 hsl4 => ?_⟩
        have hL3 := same_new (o := .lst [V.ref u]) hl4 _ _ hL3
        have hL4 : (upd HO1 l4 (.lst [V.ref u])) l4 = some (.lst [V.ref u]) := upd_same
        have M := M.put (o := .lst [V.ref u]) hl4
        generalize upd HO1 l4 (.lst [V.ref u]) = HO2 at *
        refine ⟨l4, 2, _, rfl, rfl, hL4, by decide, by decide, by show 2 ≤ sizeLine; decide, fun l5 hl5 => ?_⟩
        have hL3 := same_new (o := .lst (List.replicate (2 : Int).toNat [V.ref u]).flatten) hl5 _ _ hL3
        have hL5 : (upd HO2 l5 (.lst (List.replicate (2 : Int).toNat [V.ref u]).flatten)) l5 = some (.lst [V.ref u, V.ref u]) := upd_same
        have M := M.put (o := .lst (List.replicate (2 : Int).toNat [V.ref u]).flatten) hl5
        generalize upd HO2 l5 (.lst (List.replicate (2 : Int).toNat [V.ref u]).flatten) = HO3 at *
        refine ⟨l3, l5, _, _, rfl, rfl, hL3, hL5, by show 13 ≤ sizeLine; decide, fun l6 hl6 => ?_⟩
        have hln := M.ne hl6
        have M := M.put (o := .lst ([.ref p3, .ref c4, .ref c6, .ref p7, .ref p8, .ref p9, .ref c12, .ref c15, .ref c18, .ref c21, .ref c24] ++ [V.ref u, V.ref u])) hl6
        refine ⟨b, g, l6, _, rfl, SqL.of upd_same, hln.1, hln.2, by show 0 < 13; decide, by show 13 < 1000000; decide, M.bx, fun j v H' hj kp B => ?_⟩
        obtain ⟨d, hd, hsz, _⟩ := (M.it v (by have := List.mem_of_getElem? hj; simp only [List.mem_append, List.mem_cons, List.not_mem_nil, or_false, or_self, false_or] at this ⊢; first | exact this | simpa [or_assoc] using this)).kp kp M.bx
        have kk := M.s.trans kp
        refine ⟨_, rfl, by show 3 ≤ sizeLine; decide, fun p hp => ?_⟩
        have sp := same_new (o := .tup [.str w, v, .int z]) hp
        exact k _ _ (kk.trans (Kp.same sp)) (B.same sp) (it_row3 (SqT.of upd_same) (.str w) (dx_same sp hd) (.int z) (szW.mono (Nat.le_refl _) (by decide)) (hsz.mono (Nat.le_refl _) (by decide)) (szZ.mono (Nat.le_refl _) (by decide)) (by decide) shW)
    rintro H' ⟨hH, _⟩
    obtain rfl : H2 = H' := hH.symm
    dsimp only [tNext]
    refine tSeq_go ?_
    have own : ∀ {H'}, Kp b g H2 H' → Dx K H' (NB b g) (.ref ax) (.tuple [.str w, t, .int z]) := fun kq => .tup (sqT_kf (KF.of_kp kq B2) hax) (.cons (.str w) (.cons (xT kq) (.cons (.int z) .nil)))
    refine ⟨_, rfl, rfl, _, rfl, ite2 (fun h0 => ?_) (fun h0 => ?_)⟩
    · clear h0
      have nP : ∀ {e : PyData}, N3 e → WS e := fun h => h.ws
      have n4 : ∀ {ds : List PyData}, ds.length ≠ 3 → WS (.tuple ds) := fun h => N3.ws fun ds' e => by
        rw [← PyData.tuple.inj e]
        exact h
      have w3 : ∀ {x y u : PyData}, SeqAt.shaped x = true → WS (.tuple [x, y, u]) := fun h w t k e => by
        obtain ⟨rfl, _⟩ := List.cons.inj (PyData.tuple.inj e)
        exact h
      have own3 := sz_tup (sza_cons (szW.mono (Nat.le_refl _) (by decide : 0 ≤ 1)) (sza_cons szT (sza_cons (szZ.mono (Nat.le_refl _) (by decide : 0 ≤ 1)) (sza_nil (c := 0)))))
      refine tSeq_go ?_
      have M : MnX K b g (fun e => Sz e 200 6 ∧ WS e) H2 H2 [] := MnX.zero B2
      refine ⟨_, rfl, ax, _, rfl, .inr (sqT_kf (KF.of_kp M.s B2) hax), fun p3 hp3 hs3 => ?_⟩
      have M := M.new (o := .lst [.str w, vt, .int z]) hp3 (.lst hs3 (M.nn hp3) (SqL.of upd_same) (.cons (.str w) (.cons (dx_same (same_new hp3) (xT M.s)) (.cons (.int z) .nil)))) (⟨(sz_lst (sza_cons (szW.mono (Nat.le_refl _) (by decide : 0 ≤ 1)) (sza_cons szT (sza_cons (szZ.mono (Nat.le_refl _) (by decide : 0 ≤ 1)) (sza_nil (c := 0)))))).mono (by decide) (by decide), fun _ _ _ z => nomatch z⟩)
      generalize upd H2 p3 (.lst [.str w, vt, .int z]) = H3 at *
      refine ⟨_, rfl, ?_⟩
      dsimp only [tNoPart]
      refine ⟨2, rfl, ?_⟩
      refine slA_by rfl (sqT_kf (KF.of_kp M.s B2) hax) fun c4 H4 s4 hc4 => ?_
      have ec4 : cutV [V.str w, vt, V.int z] none (some 2) = [.str w, vt] := rfl
      rw [ec4] at hc4
      have M := M.same s4
      have M := M.atom (.tup hc4 (.cons (.str w) (.cons (xT M.s) .nil))) ⟨(sz_tup (sza_cons (szW.mono (Nat.le_refl _) (by decide : 0 ≤ 1)) (sza_cons szT (sza_nil (c := 0))))).mono (by decide) (by decide), n4 (by simp)⟩
      refine ⟨_, rfl, by show 1 ≤ sizeLine; decide, fun p5 hp5 => ?_⟩
      have e5 : SqT K (upd H4 p5 (.tup [.int 0])) p5 [.int 0] := SqT.of upd_same
      have s5x : Same H4 (upd H4 p5 (.tup [.int 0])) := same_new hp5
      have M := M.put (o := .tup [.int 0]) hp5
      generalize upd H4 p5 (.tup [.int 0]) = H5 at *
      refine catA_by rfl rfl (sqT_kf (KF.of_kp M.s B2) hax) e5 (by simp) fun c6 H6 s6 hc6 => ?_
      have M := M.same s6
      have M := M.atom (.tup hc6 (.cons (.str w) (.cons (xT M.s) (.cons (.int z) (.cons (.int 0) .nil))))) ⟨(sz_tup (sza_cons (szW.mono (Nat.le_refl _) (by decide : 0 ≤ 1)) (sza_cons szT (sza_cons (szZ.mono (Nat.le_refl _) (by decide : 0 ≤ 1)) (sza_cons (c1 := 1) (sz_int (by decide)) (sza_nil (c := 0))))))).mono (by decide) (by decide), n4 (by simp)⟩
      have M := M.atom (v := .non) (.non) (⟨sz_non, nP (fun _ z => nomatch z)⟩)
      refine fun p7 hp7 => ?_
      have M := M.new (o := .dK []) hp7 (.dic (M.nn hp7) upd_same .nil) (⟨(sz_dic0 (c := 1) (k := 0)).mono (by decide) (by decide), nP (fun _ z => nomatch z)⟩)
      generalize upd H6 p7 (.dK []) = H7 at *
      refine ⟨Nat.zero_le _, fun p8 hp8 => ?_⟩
      have M := M.new (o := .tup []) hp8 (.tup (SqT.of upd_same) .nil) (⟨(sz_tup (sza_nil (c := 0) (k := 0))).mono (by decide) (by decide), n4 (by simp)⟩)
      generalize upd H7 p8 (.tup []) = H8 at *
      refine ⟨_, rfl, ax, _, rfl, (sqT_kf (KF.of_kp M.s B2) hax), fun p9 hp9 => ?_⟩
      have M := M.new (o := .tup [V.str w, vt, V.int z].reverse) hp9 (.tup (SqT.of upd_same) (.cons (.int z) (.cons (dx_same (same_new hp9) (xT M.s)) (.cons (.str w) .nil)))) (⟨(sz_tup (sza_cons (szZ.mono (Nat.le_refl _) (by decide : 0 ≤ 1)) (sza_cons szT (sza_cons (szW.mono (Nat.le_refl _) (by decide : 0 ≤ 1)) (sza_nil (c := 0)))))).mono (by decide) (by decide), w3 (show SeqAt.shaped (.int z) = true from rfl)⟩)
      generalize upd H8 p9 (.tup [V.str w, vt, V.int z].reverse) = H9 at *
      have M := M.atom (v := .str w) (.str _) (⟨szW.mono (by decide) (by decide), nP (fun _ z => nomatch z)⟩)
      refine ⟨_, rfl, _, rfl, by show 1 ≤ sizeLine; decide, fun p10 hp10 => ?_⟩
      have M := M.new (o := .tup [.ref ax]) hp10 (.tup (SqT.of upd_same) (.cons (dx_same (same_new hp10) (own M.s)) .nil)) (⟨(sz_tup (sza_cons own3 (sza_nil (c := 0)))).mono (by decide) (by decide), n4 (by simp)⟩)
      generalize upd H9 p10 (.tup [.ref ax]) = H10 at *
      refine ⟨_, rfl, _, rfl, _, rfl, by show 3 ≤ sizeLine; decide, fun p11 hp11 => ?_⟩
      have M := M.new (o := .tup [vt, .str w, .int z]) hp11 (.tup (SqT.of upd_same) (.cons (dx_same (same_new hp11) (xT M.s)) (.cons (.str w) (.cons (.int z) .nil)))) (⟨(sz_tup (sza_cons szT (sza_cons (szW.mono (Nat.le_refl _) (by decide : 0 ≤ 1)) (sza_cons (szZ.mono (Nat.le_refl _) (by decide : 0 ≤ 1)) (sza_nil (c := 0)))))).mono (by decide) (by decide), w3 shT⟩)
      generalize upd H10 p11 (.tup [vt, .str w, .int z]) = H11 at *
      refine ⟨by show 10 ≤ sizeLine; decide, fun l hll hsl => ?_⟩
      have hln := M.ne hll
      have hL : (upd H11 l (.lst [.ref p3, .ref c4, .ref c6, .non, .ref p7, .ref p8, .ref p9, .str w, .ref p10, .ref p11])) l = some (.lst [.ref p3, .ref c4, .ref c6, .non, .ref p7, .ref p8, .ref p9, .str w, .ref p10, .ref p11]) := upd_same
      have M := M.put (o := .lst [.ref p3, .ref c4, .ref c6, .non, .ref p7, .ref p8, .ref p9, .str w, .ref p10, .ref p11]) hll
      generalize upd H11 l (.lst [.ref p3, .ref c4, .ref c6, .non, .ref p7, .ref p8, .ref p9, .str w, .ref p10, .ref p11]) = HL at *
      dsimp only [gName]
      refine at_st [some (.ref b), some (.ref a), some (.ref ax), some (.str w), some vt, some (.int z), some (.int r), some (.ref l), none] rfl ?_
      refine ⟨_, rfl, _, rfl, b, g, l, _, rfl, SqL.of hL, hln.1, hln.2, by show 0 < 10; decide, by show 10 < 1000000; decide, M.bx, fun j v H' hj kp B => ?_⟩
      exact k _ _ (M.s.trans kp) B ((M.it v (by simpa using List.mem_of_getElem? hj)).kp kp M.bx)
    dsimp only [tNext]
    -- any other way
    have M : MnX K b g (fun e => Sz e 131 1 ∧ True) H2 H2 [] := MnX.zero B2
    have pT : ∀ ds, Sz (.tuple ds) 131 1 → Sz (.tuple ds) 131 1 ∧ True := fun _ h => ⟨h, trivial⟩
    have fi : ∀ z : Int, z.natAbs < 2 ^ 200 → ∀ v ∈ [V.int z], ∃ d, Flat v d := fun z hz => flat_sing (flat_int hz)
    have si : ∀ z : Int, z.natAbs < 1000 → Sz (.int z) 131 1 ∧ True := fun z hz => ⟨sz_int (Nat.lt_of_lt_of_le hz (by decide)), trivial⟩
    have M := M.atom (v := .int (n : Nat)) (.int _) (si _ (by omega))
    have M := M.atom (v := .int (-1)) (.int _) (si _ (by decide))
    have M := M.atom (v := .int ((n : Int) - 1)) (.int _) (si _ (by omega))
    refine ⟨_, rfl, _, rfl, _, rfl, a, _, _, _, rfl, rfl, ha, atI_nat (j := 0) rfl, 1, rfl, _, rfl, a, _, _, _, rfl, rfl, ha, atI_nat (j := 0) rfl, _, _, rfl, rfl, by show 1 ≤ sizeLine; decide, fun p3 hp3 => ?_⟩
    have M := (M.put (o := .tup [.int 0]) hp3).flat (SqT.of upd_same) (fi 0 (by decide)) (by show 1 ≤ 130; decide) pT
    generalize upd H2 p3 (.tup [.int 0]) = H3 at *
    refine ⟨by show 2 ≤ sizeLine; decide, fun p4 hp4 => ?_⟩
    have M := (M.put (o := .tup [.int 0, .int 1]) hp4).flat (SqT.of upd_same) (flat_app (fi 0 (by decide)) (fi 1 (by decide))) (by show 2 ≤ 130; decide) pT
    generalize upd H3 p4 (.tup [.int 0, .int 1]) = H4 at *
    refine ⟨by show 2 ≤ sizeLine; decide, fun p5 hp5 => ?_⟩
    have M := (M.put (o := .tup [.int 1, .int 0]) hp5).flat (SqT.of upd_same) (flat_app (fi 1 (by decide)) (fi 0 (by decide))) (by show 2 ≤ 130; decide) pT
    generalize upd H4 p5 (.tup [.int 1, .int 0]) = H5 at *
    have M := M.atom (v := .int (ys.length : Nat)) (.int _) (si _ (by omega))
    have M := M.atom (v := .bl true) (.bl _) (⟨sz_bl, trivial⟩)
    have M := M.atom (v := .str "0") (.str _) (⟨sz_str, trivial⟩)
    have M := M.atom (v := .non) (.non) (⟨sz_non, trivial⟩)
    refine ⟨_, rfl, a, _, _, _, rfl, rfl, (sqT_kf (KF.of_kp M.s B2) ha), atI_nat (j := 1) rfl, c, ys, rfl, .inr (sqT_kf (KF.of_kp M.s B2) hc), by show 10 ≤ sizeLine; decide, fun l hll hsl => ?_⟩
    have hln := M.ne hll
    have M := M.put (o := .lst [.int (n : Nat), .int (-1), .int ((n : Int) - 1), .ref p3, .ref p4, .ref p5, .int (ys.length : Nat), .bl true, .str "0", .non]) hll
    refine ⟨b, g, l, _, rfl, SqL.of upd_same, hln.1, hln.2, by show 0 < 10; decide, by show 10 < 1000000; decide, M.bx, fun j v H' hj kp B => ?_⟩
    obtain ⟨d, hd, hsz, hsh⟩ := (M.it v (by simpa using List.mem_of_getElem? hj)).kp kp M.bx
    have kk := M.s.trans kp
    refine ⟨_, rfl, by show 3 ≤ sizeLine; decide, fun p hp => ?_⟩
    have sp := same_new (o := .tup [.str w, v, .int z]) hp
    exact k _ _ (kk.trans (Kp.same sp)) (B.same sp) (it_row3 (SqT.of upd_same) (.str w) (dx_same sp hd) (.int z) (szW.mono (Nat.le_refl _) (by decide)) (hsz.mono (Nat.le_refl _) (by decide)) (szZ.mono (Nat.le_refl _) (by decide)) (by decide) shW)
end
end BV

namespace BV
open PySem L2 RZ
abbrev sTold : Stmt := top 37
abbrev nTold : List Str := ["_law_web_here", "_law_thing", "_law_deed_here", "_law_is_named", "_law_kept", "_law_due", "_law_told"]
abbrev pTold : List Str := ["_law_web_here", "_law_thing", "_law_deed_here", "_law_is_named"]
theorem scTold : FnScope nTold pTold (defScope sTold) := ⟨rfl, rfl, rfl, by decide +kernel, rfl, by decide +kernel, by decide +kernel⟩
abbrev sDeep : Stmt := top 40
abbrev nDeep : List Str := ["_law_box_here", "_law_web_here", "_law_lots", "_law_standing", "_law_lot", "_law_tie"]
abbrev pDeep : List Str := ["_law_box_here"]
theorem scDeep : FnScope nDeep pDeep (defScope sDeep) := ⟨rfl, rfl, rfl, by decide +kernel, rfl, by decide +kernel, by decide +kernel⟩
mutual
theorem dx_any {K : PySem.W.Frag} {H : Hp} {N : Addr → Prop} : ∀ (d : PyData) {v : V}, Dx K H N v d → Dx K H (fun _ => False) v d
  | .none, _, h => by cases h; exact .non
  | .bool z, _, h => by cases h; exact .bl z
  | .int i, _, h => by cases h; exact .int i
  | .str x, _, h => by cases h; exact .str x
  | .list ds, _, h => by
    cases h with
    | lst e n h1 h2 => exact .lst e (fun z => z) h1 (dxAll_any ds h2)
  | .tuple ds, _, h => by
    cases h with
    | tup h1 h2 => exact .tup h1 (dxAll_any ds h2)
  | .dict ps, _, h => by
    cases h with
    | dic n h1 h2 => exact .dic (fun z => z) h1 (dxKv_any ps h2)
theorem dxAll_any {K : PySem.W.Frag} {H : Hp} {N : Addr → Prop} : ∀ (ds : List PyData) {vs : List V}, DxAll K H N vs ds → DxAll K H (fun _ => False) vs ds
  | [], _, h => by cases h; exact .nil
  | d :: ds, _, h => by
    cases h with
    | cons h1 h2 => exact .cons (dx_any d h1) (dxAll_any ds h2)
theorem dxKv_any {K : PySem.W.Frag} {H : Hp} {N : Addr → Prop} : ∀ (ps : List (PyData × PyData)) {kvs : List (Key × V)}, DxKv K H N kvs ps → DxKv K H (fun _ => False) kvs ps
  | [], _, h => by cases h; exact .nil
  | (k, d) :: ps, _, h => by
    cases h with
    | cons h1 h2 => exact .cons (dx_any d h1) (dxKv_any ps h2)
end
mutual
theorem dx_less {K : PySem.W.Frag} {H : Hp} {N N2 : Addr → Prop} (w : ∀ a, N2 a → N a) : ∀ (d : PyData) {v : V}, Dx K H N v d → Dx K H N2 v d
  | .none, _, h => by cases h; exact .non
  | .bool z, _, h => by cases h; exact .bl z
  | .int i, _, h => by cases h; exact .int i
  | .str x, _, h => by cases h; exact .str x
  | .list ds, _, h => by
    cases h with
    | lst e n h1 h2 => exact .lst e (fun z => n (w _ z)) h1 (dxAll_less w ds h2)
  | .tuple ds, _, h => by
    cases h with
    | tup h1 h2 => exact .tup h1 (dxAll_less w ds h2)
  | .dict ps, _, h => by
    cases h with
    | dic n h1 h2 => exact .dic (fun z => n (w _ z)) h1 (dxKv_less w ps h2)
theorem dxAll_less {K : PySem.W.Frag} {H : Hp} {N N2 : Addr → Prop} (w : ∀ a, N2 a → N a) : ∀ (ds : List PyData) {vs : List V}, DxAll K H N vs ds → DxAll K H N2 vs ds
  | [], _, h => by cases h; exact .nil
  | d :: ds, _, h => by
    cases h with
    | cons h1 h2 => exact .cons (dx_less w d h1) (dxAll_less w ds h2)
theorem dxKv_less {K : PySem.W.Frag} {H : Hp} {N N2 : Addr → Prop} (w : ∀ a, N2 a → N a) : ∀ (ps : List (PyData × PyData)) {kvs : List (Key × V)}, DxKv K H N kvs ps → DxKv K H N2 kvs ps
  | [], _, h => by cases h; exact .nil
  | (k, d) :: ps, _, h => by
    cases h with
    | cons h1 h2 => exact .cons (dx_less w d h1) (dxKv_less w ps h2)
end
def spTold (K : PySem.W.Frag) : Sp := fun vs H Q _ => ∃ (N : Addr → Prop) (v x y : V) (n : Nat) (ts : List Tie) (d e : PyData) (nm : Bool), vs = [v, x, y, .bl nm] ∧ Dp K H v (webD n ts) ∧ Dx K H N x d ∧ Dx K H N y e ∧ Sz d 250 8 ∧ Sz e 250 8 ∧ WS e ∧
  (∀ t ∈ ts, t.1 < t.2 ∧ t.2 < n) ∧ n ≤ 100 ∧ ts.length ≤ 60 ∧ ∀ H', Same H H' → Q (.bl true) H'
def spDeep (K : PySem.W.Frag) : Sp := fun vs H Q _ => ∃ (b g : Addr), vs = [.ref b] ∧ Box H b g ∧ ∀ H', Kp b g H H' → Box H' b g → Q (.bl true) H'
section
variable {P : Program} {w : World} {K : PySem.W.Frag} {mg : Str → Option Value} {base : Heap}
theorem ok_told {f f1 f2 f3 f4 f5 f6 f7 f8 f9 g1 g2 g3 g4 g5 g6 g7 g8 : Addr} {fd fd1 fd2 fd3 fd4 fd5 fd6 fd7 fd8 fd9 e1 e2 e3 e4 e5 e6 e7 e8 : FuncData} {tN tT : Tok} (D : Df K mg "_law_is_told" sTold pTold f fd) (T : Bl mg)
    (hisinstance : mg "isinstance" = none) (hbool : mg "bool" = none) (hsorted : mg "sorted" = none) (hlist : mg "list" = none) (hzip : mg "zip" = none) (hstr : mg "str" = none) (hMN : mg "MAX_NUMBER" = some (.int (10 ^ 12) tN)) (hMT : mg "MAX_TIMES" = some (.int (10 ^ 30) tT))
    (D_whole : Df K mg "whole" sWhole pWhole f1 fd1) (D_within : Df K mg "whole_within" sWithin pWithin f2 fd2) (D_row : Df K mg "row_of" sRow pRow f3 fd3) (D_lerr : Df K mg "lot_error" sLerr pLerr f4 fd4) (D_odd : Df K mg "odd_places" sOdd pOdd f5 fd5) (D_even : Df K mg "is_even" sEven pEven f6 fd6)
    (D_far : Df K mg "far_end" sFar pFar f7 fd7) (D_ways : Df K mg "ways_from" sWays pWays f8 fd8) (D_fround : Df K mg "_first_round" sFround pFround f9 fd9) (D_isround : Df K mg "is_round" sIsround pIsround g1 e1)
    (D_serr : Df K mg "standing_error" sSerr pSerr g2 e2) (K_serr : KBn K e2 pSerr 0 ["value", "web"] (fun _ ws => ws.reverse) (fun _ zs => zs.reverse)) (D_derr : Df K mg "deed_error" sDerr pDerr g3 e3) (K_derr : KBn K e3 pDerr 0 ["value", "web"] (fun _ ws => ws.reverse) (fun _ zs => zs.reverse))
    (D_num : Df K mg "_law_is_number" sNum pNum g4 e4) (D_islot : Df K mg "_law_is_lot" sIslot pIslot g5 e5) (D_counts : Df K mg "_law_counts" sCounts pCounts g6 e6) (D_isr : Df K mg "_law_is_round" sIsr pIsr g7 e7) (D_lserr : Df K mg "_law_standing_error" sLserr pLserr g8 e8)
    {g9 : Addr} {e9 : FuncData} (D_lderr : Df K mg "_law_deed_error" sLderr pLderr g9 e9) : FnG P w K mg base CX0 6 f fd pTold (spTold K) := by
  have G_serr : FnOk P w K mg base CX0 3 g2 e2 pSerr (spSerr K) := ok_serr D_serr T hisinstance hbool hMN D_whole D_within D_row
  have G_derr : FnOk P w K mg base CX0 5 g3 e3 pDerr (spDerr K) := ok_derr D_derr T hisinstance hbool hsorted hMT D_whole D_within D_row D_lerr D_odd D_even D_far D_ways D_fround D_isround
  have G_lserr : FnOk P w K mg base CX0 2 g8 e8 pLserr (spSerr K) := ok_lserr D_lserr T hisinstance hbool D_num
  have G_lderr : FnOk P w K mg base CX0 3 g9 e9 pLderr (spLderr K) := ok_lderr D_lderr T hisinstance hbool hzip hlist hstr D_num D_islot D_counts D_isr
  refine okG D.fn scTold (fun vs H Q E h => ?_) (fun cdv A outer s H vs Q E hgd hr h => ?_)
  · obtain ⟨N, v, x, y, n, ts, d, e, nm, rfl, _⟩ := h
    rfl
  · obtain ⟨N, v, x, y, n, ts, d, e, nm, rfl, hw, hx, hy, szd, sze, hws, hends, hn, hl, k⟩ := h
    have hr_serr : Room 3 _ := hr.mono (by decide)
    have hr_derr : Room 5 _ := hr
    have hr_lserr : Room 2 _ := hr.mono (by decide)
    have hr_lderr : Room 3 _ := hr.mono (by decide)
    have hu64 := hr.units
    have nd := scTold.nd
    have hx := dx_any d hx
    have hy := dx_any e hy
    have szB := sz_lst (sza_cons szd (sza_cons sze (sza_nil (c := 0))))
    have sz1 := sz_stE ts.length d (by omega)
    have sz2 := sz_deedE n ts e
    have shB : ShowM (.list [d, e]) := szB.show (by decide) (by decide)
    have shT : ShowM (.list [.list [stE ts.length d, deedE n ts e], .str (PyData.list [d, e]).shown]) := show_told sz1 sz2 szB.low (Nat.le_trans szB.len (by decide))
    refine ⟨_, (pss_cons (ps_par (i := 4) (j := 5) (by rfl) nd rfl rfl (by decide) rfl rfl (pa_cons (pe_callB (reprY K hgd hu64) (by rfl) T.repr (by decide +kernel) (pa_cons (pe_lstY (pa_cons (pv 1) (pa_cons (pv 2) pa_nil))) pa_nil)) (pa_cons (pe_lstY (pa_cons (pe_call G_lserr hr_lserr (by rfl) D_lserr.ad D_lserr.fn.kp D_lserr.bd .nil pass0 (pa_cons (pv 0) (pa_cons (pv 1) pa_nil))) (pa_cons (pe_call G_lderr hr_lderr (by rfl) D_lderr.ad D_lderr.fn.kp D_lderr.bd .nil pass0 (pa_cons (pv 0) (pa_cons (pv 2) pa_nil))) pa_nil))) pa_nil)) (by rfl))
      (pss_cons (ps_set (i := 6) nd rfl (by first | exact Or.inl rfl | exact Or.inr rfl) (pe_lstY (pa_cons (pe_ifExp (pt_val (pv 3)) (pe_callK0 G_serr hr_serr (by rfl) D_serr.ad D_serr.fn.kp K_serr pass0 (pk_cons (pv 1) (pk_cons (pv 0) pk_nil))) (pe_call G_serr hr_serr (by rfl) D_serr.ad D_serr.fn.kp D_serr.bd .nil pass0 (pa_cons (pv 0) (pa_cons (pv 1) pa_nil)))) pa_nil)))
      (pss_cons (ps_expr (pe_bm PySem.F.plainAttrs_list PySem.F.slot_list_append PySem.F.type_list_append mt_append (pv 6) (pa_cons (pe_ifExp (pt_val (pv 3)) (pe_callK0 G_derr hr_derr (by rfl) D_derr.ad D_derr.fn.kp K_derr pass0 (pk_cons (pv 2) (pk_cons (pv 0) pk_nil))) (pe_call G_derr hr_derr (by rfl) D_derr.ad D_derr.fn.kp D_derr.bd .nil pass0 (pa_cons (pv 0) (pa_cons (pv 2) pa_nil)))) pa_nil)))
      (pss_one (ps_ret (pe_cmpR op_eq (pe_callB (reprY K hgd hu64) (by rfl) T.repr (by decide +kernel) (pa_cons (pe_lstY (pa_cons (pv 6) (pa_cons (pe_callB (reprY K hgd hu64) (by rfl) T.repr (by decide +kernel) (pa_cons (pe_lstY (pa_cons (pv 1) (pa_cons (pv 2) pa_nil))) pa_nil)) pa_nil))) pa_nil)) (pe_callB (reprY K hgd hu64) (by rfl) T.repr (by decide +kernel) (pa_cons (pe_lstY (pa_cons (pv 5) (pa_cons (pv 4) pa_nil))) pa_nil)) (nomark _))))))), ?_⟩
    refine tSeq_go ?_
    refine ⟨_, rfl, _, rfl, by show 2 ≤ sizeLine; decide, fun l1 hl1 hs1 => ?_⟩
    have t1 := same_new (o := .lst [x, y]) hl1
    refine ⟨_, .ref l1, _, rfl, .lst hs1 (fun z => z) (SqL.of upd_same) (.cons (dx_same t1 hx) (.cons (dx_same t1 hy) .nil)), shB, ?_⟩
    refine ⟨_, rfl, _, rfl, _, v, x, n, ts, d, rfl, dp_same t1 _ hw, dx_same t1 hx, fun u1 H1 s1 hu1 => ?_⟩
    have t2 := t1.trans s1
    refine ⟨_, rfl, _, rfl, _, v, y, n, ts, e, rfl, dp_same t2 _ hw, dx_same t2 hy, hends, hn, hl, fun w ds k ee => Nat.le_trans (sze.rows ee) (by decide), fun u2 H2 s2 hu2 => ?_⟩
    refine ⟨by show 2 ≤ sizeLine; decide, fun l2 hl2 hs2 => ?_⟩
    have t3 := same_new (o := .lst [u1, u2]) hl2
    have T3 := (t2.trans s2).trans t3
    have d2 : Dx K (upd H2 l2 (.lst [u1, u2])) (fun _ => False) (.ref l2) (.list [stE ts.length d, deedE n ts e]) := .lst hs2 (fun z => z) (SqL.of upd_same) (.cons (dp_dx _ (still_stE _ _) (dp_same (s2.trans t3) _ hu1)) (.cons (dp_dx _ (still_deedE _ _ _) (dp_same t3 _ hu2)) .nil))
    generalize upd H2 l2 (.lst [u1, u2]) = H3 at *
    refine ⟨_, _, rfl, ?_⟩
    refine at_st [some v, some x, some y, some (.bl nm), some (.str (PyData.list [d, e]).shown), some (.ref l2), none] rfl ?_
    dsimp only
    refine tSeq_go ?_
    refine tIf_by (fun u H' => Same H3 H' ∧ Dp K H' u (stE ts.length d)) ?_ (fun cont => ?_)
    rotate_left
    · refine ⟨_, rfl, nm, rfl, ite2 (fun h0 => ?_) (fun h0 => ?_)⟩
      · refine ⟨_, rfl, _, rfl, rfl, _, v, x, n, ts, d, rfl, dp_same T3 _ hw, dx_same T3 hx, fun u H' s hu => cont _ _ ⟨s, hu⟩⟩
      · refine ⟨_, rfl, _, rfl, _, v, x, n, ts, d, rfl, dp_same T3 _ hw, dx_same T3 hx, fun u H' s hu => cont _ _ ⟨s, hu⟩⟩
    rintro u3 H4 ⟨s4, hu3⟩
    refine ⟨by show 1 ≤ sizeLine; decide, fun l3 hl3 hs3 => ?_⟩
    have t5 := same_new (o := .lst [u3]) hl3
    have T5 := T3.trans (s4.trans t5)
    have hL : (upd H4 l3 (.lst [u3])) l3 = some (.lst [u3]) := upd_same
    have d20 := d2
    clear d2
    have hu3 := dp_same t5 _ hu3
    have nl3 : H l3 = none := Same.free (T3.trans s4) hl3
    have n32 : ∀ {z o}, H3 z = some o → z ≠ l3 := fun hz e => by
      rw [e] at hz
      rw [s4 _ _ hz] at hl3
      cases hl3
    generalize upd H4 l3 (.lst [u3]) = H5 at *
    dsimp only [gName]
    refine at_st [some v, some x, some y, some (.bl nm), some (.str (PyData.list [d, e]).shown), some (.ref l2), some (.ref l3)] rfl ?_
    refine tSeq_go ?_
    refine ⟨_, rfl, .inl ⟨rfl, _, SqL.of hL⟩, ?_⟩
    refine tIf_by (fun u H' => Same H5 H' ∧ Dp K H' u (deedE n ts e)) ?_ (fun cont => ?_)
    rotate_left
    · refine ⟨_, rfl, nm, rfl, ite2 (fun h0 => ?_) (fun h0 => ?_)⟩
      · refine ⟨_, rfl, _, rfl, rfl, _, v, y, n, ts, e, rfl, dp_same T5 _ hw, dx_same T5 hy, hends, by omega, hl, hws, fun u H' s hu => cont _ _ ⟨s, hu⟩⟩
      · refine ⟨_, rfl, _, rfl, _, v, y, n, ts, e, rfl, dp_same T5 _ hw, dx_same T5 hy, hends, by omega, hl, hws, fun u H' s hu => cont _ _ ⟨s, hu⟩⟩
    rintro u4 H6 ⟨s6, hu4⟩
    have hL := s6 _ _ hL
    refine ⟨l3, _, _, rfl, rfl, hL, by show 1 < sizeLine; decide, ?_⟩
    have kf : KF H6 (upd H6 l3 (.lst ([u3] ++ [u4]))) := kf_upd hL ⟨(fun _ e => nomatch e), (fun _ _ e => nomatch e)⟩
    have hu3 := dp_kf kf _ (still_stE _ _) (dp_same s6 _ hu3)
    have hu4 := dp_kf kf _ (still_deedE _ _ _) hu4
    have S : Same H (upd H6 l3 (.lst ([u3] ++ [u4]))) := same_old nl3 (T5.trans s6)
    have d2 : Dx K (upd H6 l3 (.lst ([u3] ++ [u4]))) (fun _ => False) (.ref l2) (.list [stE ts.length d, deedE n ts e]) := by
      refine dx_same (H := H3) (same_old (Same.free s4 hl3) ((s4.trans t5).trans s6)) ?_
      exact d20
    have dT : Dx K (upd H6 l3 (.lst ([u3] ++ [u4]))) (fun _ => False) (.ref l3) (.list [stE ts.length d, deedE n ts e]) := .lst hs3 (fun z => z) (SqL.of upd_same) (.cons (dp_dx _ (still_stE _ _) hu3) (.cons (dp_dx _ (still_deedE _ _ _) hu4) .nil))
    have hx := dx_same S hx
    have hy := dx_same S hy
    generalize upd H6 l3 (.lst ([u3] ++ [u4])) = H7 at *
    dsimp only
    refine ⟨_, rfl, _, rfl, _, rfl, by show 2 ≤ sizeLine; decide, fun l4 hl4 hs4 => ?_⟩
    have a4 := same_new (o := .lst [x, y]) hl4
    refine ⟨_, .ref l4, _, rfl, .lst hs4 (fun z => z) (SqL.of upd_same) (.cons (dx_same a4 hx) (.cons (dx_same a4 hy) .nil)), shB, ?_⟩
    refine ⟨by show 2 ≤ sizeLine; decide, fun l5 hl5 hs5 => ?_⟩
    have a5 := same_new (o := .lst [V.ref l3, .str (PyData.list [d, e]).shown]) hl5
    refine ⟨_, .ref l5, _, rfl, .lst hs5 (fun z => z) (SqL.of upd_same) (.cons (dx_same (a4.trans a5) dT) (.cons (.str _) .nil)), shT, ?_⟩
    refine ⟨_, rfl, _, rfl, by show 2 ≤ sizeLine; decide, fun l6 hl6 hs6 => ?_⟩
    have a6 := same_new (o := .lst [V.ref l2, .str (PyData.list [d, e]).shown]) hl6
    refine ⟨_, .ref l6, _, rfl, .lst hs6 (fun z => z) (SqL.of upd_same) (.cons (dx_same ((a4.trans a5).trans a6) d2) (.cons (.str _) .nil)), shT, ?_⟩
    refine ⟨rfl, ?_⟩
    rw [decide_eq_true rfl]
    exact k _ (S.trans ((a4.trans a5).trans a6))
theorem ok_deep {f f1 f2 f3 f4 f5 f6 : Addr} {fd fd1 fd2 fd3 fd4 fd5 fd6 : FuncData} (D : Df K mg "_law_is_deep" sDeep pDeep f fd) (T : Bl mg) (hlist : mg "list" = none) (hsorted : mg "sorted" = none) (D_draw : Df K mg "_law_draw" sDraw ["_law_box_here", "_law_many"] f1 fd1) (D_pick : Df K mg "_law_pick" sPick nPick f2 fd2)
    (D_rings : Df K mg "_law_two_rings" sRings pRings f3 fd3) (D_rlots : Df K mg "_law_ring_lots" sRlots pRlots f4 fd4) (D_number : Df K mg "_law_number" sNumber pNumber f5 fd5) (D_told_g : Df K mg "_law_is_told" sTold pTold f6 fd6) (G_told_g : FnG P w K mg base CX0 6 f6 fd6 pTold (spTold K)) : FnG P w K mg base CX0 7 f fd pDeep (spDeep K) := by
  have G_draw : FnOk P w K mg base CX0 1 f1 fd1 ["_law_box_here", "_law_many"] spDraw := ok_draw D_draw T
  have G_rlots : FnOk P w K mg base CX0 4 f4 fd4 pRlots (spRlots K) := ok_rlots D_rlots T hlist hsorted D_draw D_pick D_rings
  have G_number : FnOk P w K mg base CX0 3 f5 fd5 pNumber spNumber := ok_number (K := K) D_number T D_draw D_pick
  refine okG D.fn scDeep (fun vs H Q E h => ?_) (fun cdv A outer s H vs Q E hgd hr h => ?_)
  · obtain ⟨b, g, rfl, _⟩ := h
    rfl
  · obtain ⟨b, g, rfl, hB, k⟩ := h
    have hr_draw : Room 1 _ := hr.mono (by decide)
    have hr_number : Room 3 _ := hr.mono (by decide)
    have hr_rlots : Room 4 _ := hr.mono (by decide)
    have hr_told_g : Room 6 _ := hr
    have hu64 := hr.units
    have nd := scDeep.nd
    refine ⟨_, (pss_cons (ps_asg (pe_call G_rlots hr_rlots (by rfl) D_rlots.ad D_rlots.fn.kp D_rlots.bd .nil pass0 (pa_cons (pv 0) pa_nil)) (pgT K rfl (pgs_cons (pg_name (i := 1) nd rfl (by first | exact Or.inl rfl | exact Or.inr rfl)) (pgs_cons (pg_name (i := 2) nd rfl (by first | exact Or.inl rfl | exact Or.inr rfl)) pgs_nil))))
      (pss_cons (ps_set (i := 3) nd rfl (by first | exact Or.inl rfl | exact Or.inr rfl) (pe_callTy (tupleK K) (by rfl) T.tuple (by decide +kernel) (pa_cons (pe_lc (own := [("_law_tie", 5)]) (g := (gName 5)) (tt := tYes) rfl nd (piT K (pe_ix (ixT K) (pv 1) pe_int (fun _ _ => rfl))) (blkOk_by (own := [("_law_tie", 5)]) (N := nDeep) (sc := defScope sDeep) (by decide +kernel)) (fun _ _ _ _ _ => (pg_name (i := 5) nd rfl (by first | exact Or.inl rfl | exact Or.inr rfl))) (fun _ _ _ _ _ => pts_nil) (fun _ _ _ _ _ => (pe_call G_number hr_number (by rfl) D_number.ad D_number.fn.kp D_number.bd .nil pass0 (pa_cons (pv 0) (pa_cons (pe_op op_pow pe_int pe_int) pa_nil))))) pa_nil)))
      (pss_cons (ps_for PassesOwn.never rfl (piL K (pv 2)) (pg_name (i := 4) nd rfl (by first | exact Or.inl rfl | exact Or.inr rfl)) (pss_one (ps_if (pt_not (pt_val (pe_callG G_told_g hgd hr_told_g (by rfl) D_told_g.ad D_told_g.fn.kp D_told_g.bd .nil pass0 (pa_cons (pv 1) (pa_cons (pv 3) (pa_cons (pe_tup (pa_cons pe_str (pa_cons (pv 4) (pa_cons (pe_op op_add pe_int (pe_call G_draw hr_draw (by rfl) D_draw.ad D_draw.fn.kp D_draw.bd .nil pass0 (pa_cons (pv 0) (pa_cons pe_int pa_nil)))) pa_nil)))) (pa_cons pe_bl pa_nil))))))) (pss_one (ps_ret pe_bl)) pss_nil)))
      (pss_one (ps_ret pe_bl))))), ?_⟩
    refine tSeq_go ?_
    refine ⟨_, rfl, b, g, rfl, hB, fun p l wv n ts xs ls H1 kp1 B1 hp hw hL hls hA hn1 hn12 hl hts lnb lng => ?_⟩
    refine ⟨p, _, rfl, hp, rfl, _, _, rfl, _, _, rfl, rfl, ?_⟩
    refine at_st [some (.ref b), some wv, some (.ref l), none, none, none] rfl ?_
    dsimp only
    refine tSeq_go ?_
    obtain ⟨a, c, ys, rfl, ha, hc, hys⟩ := dp_web hw
    have hyl : ys.length = ts.length := by rw [dpAll_len hys, List.length_map]
    refine tAsg_by (fun u H' => ∃ zs : List Int, Kp b g H1 H' ∧ Box H' b g ∧ zs.length = ts.length ∧ (∀ z ∈ zs, z.natAbs < 2 ^ 120) ∧ Dp K H' u (.tuple (zs.map .int))) ?_ (fun cont => ?_)
    rotate_left
    · refine ⟨_, rfl, a, _, _, _, rfl, rfl, ha, atI_nat (j := 1) rfl, c, rfl, ⟨_, hc⟩, fun E1 hE1 => ?_⟩
      refine lc_runB (walk_tup (xs := ys)) hE1 B1 (fun i acc _ => ∃ zs : List Int, acc = zs.map V.int ∧ zs.length = i ∧ ∀ z ∈ zs, z.natAbs < 2 ^ 120) ?_ ?_ ?_ ?_
      · exact fun H' kp B => sqT_kf (KF.of_kp kp B1) hc
      · exact ⟨[], rfl, rfl, by simp⟩
      · rintro i x acc H6 H' nb ng hi hacc e kk hBx ⟨zs, rfl, hzl, hzs⟩ ⟨rfl, hx⟩
        refine ⟨rfl, yes_go ?_⟩
        refine ⟨_, rfl, 10, 12, rfl, rfl, ⟨by decide, by decide, by decide⟩, b, g, _, rfl, by decide, by decide, hBx, fun z H7 kp4 hB4 hz => ?_⟩
        refine lc_addB nb ng hacc e kp4 hB4 (by rw [List.length_map]; omega) ⟨zs ++ [z], by rw [List.map_append]; rfl, by rw [List.length_append, hzl]; rfl, fun y hy => ?_⟩
        rcases List.mem_append.mp hy with q | q
        · exact hzs y q
        · rw [List.mem_singleton.mp q]
          exact hz
      · rintro acc H6 h1 kk hBx ⟨zs, rfl, hzl, hzs⟩
        refine ⟨E1, _, rfl, .inl ⟨SqL.of h1, fun u hu => ?_⟩⟩
        have su := same_new (o := .tup (zs.map V.int)) hu
        exact cont _ _ ⟨zs, kk.trans (Kp.same su), hBx.same su, by omega, hzs, .tup (SqT.of upd_same) (dpAll_ints zs)⟩
    rintro vs H2 ⟨zs, kp2, B2, hzl, hzs, hst⟩
    dsimp only [gName]
    refine at_st [some (.ref b), some (.ref a), some (.ref l), some vs, none, none] rfl ?_
    have hL := kp2 _ _ hL lnb lng
    have hw := dp_kf (KF.of_kp kp2 B1) _ (still_web n ts) hw
    have hls := dpAll_kf (KF.of_kp kp2 B1) _ (still_lotsL ls) hls
    have stS : still (.tuple (zs.map PyData.int)) = true := by simp [still, still_ints zs]
    have szS : Sz (.tuple (zs.map PyData.int)) 250 8 := by
      refine (sz_tup (sza_of (c := 1) (k := 0) (ds := zs.map PyData.int) fun d hd => ?_)).mono (by rw [List.length_map]; omega) (by decide)
      obtain ⟨z, hz, rfl⟩ := List.mem_map.mp hd
      exact sz_int (Nat.lt_of_lt_of_le (hzs z hz) (by decide))
    refine tSeq_go ?_
    refine ⟨_, rfl, l, rfl, ⟨_, SqL.of hL⟩, for_it (walk_list (xs := xs)) (fun i σ H' => ∃ v4 : Option V, σ = [some (.ref b), some (.ref a), some (.ref l), some vs, v4, none] ∧ Kp b g H2 H' ∧ Box H' b g) ?_ ?_ ?_ ?_⟩
    · exact ⟨none, rfl, Kp.refl _, B2⟩
    · rintro i σ H' _ ⟨v4, rfl, kp, B⟩
      exact SqL.of (kp _ _ hL lnb lng)
    · rintro i x σ H0' H5 hi ⟨v4, rfl, kp5, B5⟩ ⟨rfl, hx⟩
      obtain ⟨dd, hdd, hdp⟩ := dpAll_get hls hx
      obtain ⟨r, hr5, rfl⟩ := get_map hdd
      have hrA := hA r (List.mem_of_getElem? hr5)
      refine ⟨_, rfl, _, rfl, _, rfl, _, rfl, b, g, 5, rfl, by decide, by decide, B5, fun z H6 z0 z1 kp6 B6 => ?_⟩
      refine ⟨_, _, rfl, rfl, by show 3 ≤ sizeLine; decide, fun q hq => ?_⟩
      have sq := same_new (o := .tup [.str "round", x, .int (1 + z)]) hq
      have kpq := (kp5.trans kp6).trans (Kp.same sq)
      have kf := KF.of_kp kpq B2
      have hxr := dp_kf kf _ (still_lot r) hdp
      have hrl := lotA_len hrA
      refine ⟨fun _ => False, .ref a, vs, .ref q, n, ts, _, .tuple [.str "round", lotD r, .int (1 + z)], false, rfl, dp_kf kf _ (still_web n ts) hw, dp_dx _ stS (dp_kf kf _ stS hst), .tup (SqT.of upd_same) (.cons (.str _) (.cons (dp_dx _ (still_lot r) hxr) (.cons (.int _) .nil))), szS, ?_, ?_, hts, by omega, by omega, fun H7 s7 => ?_⟩
      · exact (sz_tup (sza_cons (c1 := 1) (k := 5) sz_str (sza_cons ((sz_nats (L := 60) (k := 0) (fun x hx => by have := hrA.2 x hx; omega) (by omega)).mono (Nat.le_refl _) (by decide)) (sza_cons (c1 := 1) (c2 := 0) (sz_int (Nat.lt_of_lt_of_le (show (1 + z).natAbs < 1000 by omega) (by decide))) sza_nil)))).mono (by decide) (by decide)
      · intro w t k e
        obtain ⟨rfl, _⟩ := List.cons.inj (PyData.tuple.inj e)
        decide +kernel
      · refine ⟨_, rfl, iteF ?_⟩
        exact ⟨_, rfl, kpq.trans (Kp.same s7), (B6.same sq).same s7⟩
    · rintro σ H5 ⟨v4, rfl, kp5, B5⟩
      exact k _ ((kp1.trans kp2).trans kp5) B5
end
end BV

namespace BV
open PySem L2 RZ
abbrev sLaw : Stmt := top 41
abbrev nLaw : List Str := ["_law_script", "_law_box_here", "_law_turn", "_law_web_here", "_law_standing", "_law_step", "_law_deed_here", "_law_odd_here", "_law_menu", "_law_spot", "_law_tie"]
abbrev pLaw : List Str := ["_law_script"]
theorem scLaw : FnScope nLaw pLaw (defScope sLaw) := ⟨rfl, rfl, rfl, by decide +kernel, rfl, by decide +kernel, by decide +kernel⟩
def spLaw (K : PySem.W.Frag) : Sp := fun vs H Q _ => ∃ (a : Addr) (ns : List Int), vs = [.ref a] ∧ SqL K H a (ns.map V.int) ∧ ns.length ≤ 63 ∧ ∀ H', Q (.bl true) H'
theorem most9 : ∀ i, i < 4 → ∃ m : Nat, [V.int 1, V.int 3, V.int 5, V.int 6][i]? = some (V.int (m : Int)) ∧ 1 ≤ m ∧ m ≤ 6
  | 0, _ => ⟨1, rfl, by decide, by decide⟩
  | 1, _ => ⟨3, rfl, by decide, by decide⟩
  | 2, _ => ⟨5, rfl, by decide, by decide⟩
  | 3, _ => ⟨6, rfl, by decide, by decide⟩
  | n + 4, h => absurd h (by omega)
theorem flat_ints9 {zs : List Int} (h : ∀ z ∈ zs, z.natAbs < 2 ^ 120) : ∀ v ∈ zs.map V.int, ∃ d, Flat v d := fun v hv => by
  obtain ⟨z, hz, rfl⟩ := List.mem_map.mp hv
  exact ⟨_, flat_int (Nat.lt_of_lt_of_le (h z hz) (by decide))⟩
theorem dpAll_intsV {K : PySem.W.Frag} {H : Hp} : ∀ {zs : List Int} {xs : List V}, DpAll K H xs (zs.map PyData.int) → xs = zs.map V.int
  | [], _, h => by
    cases h
    rfl
  | z :: zs, _, h => by
    cases h with
    | cons h1 h2 =>
      cases h1
      rw [List.map_cons, dpAll_intsV h2]
section
variable {P : Program} {w : World} {K : PySem.W.Frag} {mg : Str → Option Value} {base : Heap}
theorem ok_law {f : Addr} {fd : FuncData} {tN tT : Tok} (D : Df K mg "law" sLaw pLaw f fd) (T : Bl mg)
    (hisinstance : mg "isinstance" = none) (hbool : mg "bool" = none) (hsorted : mg "sorted" = none) (hlist : mg "list" = none) (hzip : mg "zip" = none) (hstr : mg "str" = none) (hMN : mg "MAX_NUMBER" = some (.int (10 ^ 12) tN)) (hMT : mg "MAX_TIMES" = some (.int (10 ^ 30) tT))
    {f_box : Addr} {fd_box : FuncData} (D_box : Df K mg "_law_box" sBox ["_law_script"] f_box fd_box)
    {f_draw : Addr} {fd_draw : FuncData} (D_draw : Df K mg "_law_draw" sDraw ["_law_box_here", "_law_many"] f_draw fd_draw)
    {f_pick : Addr} {fd_pick : FuncData} (D_pick : Df K mg "_law_pick" sPick nPick f_pick fd_pick)
    {f_whole : Addr} {fd_whole : FuncData} (D_whole : Df K mg "whole" sWhole pWhole f_whole fd_whole)
    {f_within : Addr} {fd_within : FuncData} (D_within : Df K mg "whole_within" sWithin pWithin f_within fd_within)
    {f_row : Addr} {fd_row : FuncData} (D_row : Df K mg "row_of" sRow pRow f_row fd_row)
    {f_far : Addr} {fd_far : FuncData} (D_far : Df K mg "far_end" sFar pFar f_far fd_far)
    {f_ways : Addr} {fd_ways : FuncData} (D_ways : Df K mg "ways_from" sWays pWays f_ways fd_ways)
    {f_lerr : Addr} {fd_lerr : FuncData} (D_lerr : Df K mg "lot_error" sLerr pLerr f_lerr fd_lerr)
    {f_odd : Addr} {fd_odd : FuncData} (D_odd : Df K mg "odd_places" sOdd pOdd f_odd fd_odd)
    {f_even : Addr} {fd_even : FuncData} (D_even : Df K mg "is_even" sEven pEven f_even fd_even)
    {f_isround : Addr} {fd_isround : FuncData} (D_isround : Df K mg "is_round" sIsround pIsround f_isround fd_isround)
    {f_fround : Addr} {fd_fround : FuncData} (D_fround : Df K mg "_first_round" sFround pFround f_fround fd_fround)
    {f_derr : Addr} {fd_derr : FuncData} (D_derr : Df K mg "deed_error" sDerr pDerr f_derr fd_derr)
    {f_serr : Addr} {fd_serr : FuncData} (D_serr : Df K mg "standing_error" sSerr pSerr f_serr fd_serr)
    {f_web : Addr} {fd_web : FuncData} (D_web : Df K mg "_law_web" sWeb pWeb f_web fd_web)
    {f_counts : Addr} {fd_counts : FuncData} (D_counts : Df K mg "_law_counts" sCounts pCounts f_counts fd_counts)
    {f_leven : Addr} {fd_leven : FuncData} (D_leven : Df K mg "_law_is_even" sLeven pLeven f_leven fd_leven)
    {f_isr : Addr} {fd_isr : FuncData} (D_isr : Df K mg "_law_is_round" sIsr pIsr f_isr fd_isr)
    {f_lodd : Addr} {fd_lodd : FuncData} (D_lodd : Df K mg "_law_odd" sLodd pLodd f_lodd fd_lodd)
    {f_num : Addr} {fd_num : FuncData} (D_num : Df K mg "_law_is_number" sNum pNum f_num fd_num)
    {f_lserr : Addr} {fd_lserr : FuncData} (D_lserr : Df K mg "_law_standing_error" sLserr pLserr f_lserr fd_lserr)
    {f_islot : Addr} {fd_islot : FuncData} (D_islot : Df K mg "_law_is_lot" sIslot pIslot f_islot fd_islot)
    {f_lderr : Addr} {fd_lderr : FuncData} (D_lderr : Df K mg "_law_deed_error" sLderr pLderr f_lderr fd_lderr)
    {f_number : Addr} {fd_number : FuncData} (D_number : Df K mg "_law_number" sNumber pNumber f_number fd_number)
    {f_about : Addr} {fd_about : FuncData} (D_about : Df K mg "_law_about" sAbout pAbout f_about fd_about)
    {f_deed : Addr} {fd_deed : FuncData} (D_deed : Df K mg "_law_deed" sDeed pDeed f_deed fd_deed)
    {f_odeed : Addr} {fd_odeed : FuncData} (D_odeed : Df K mg "_law_odd_deed" sOdeed pOdeed f_odeed fd_odeed)
    {f_told : Addr} {fd_told : FuncData} (D_told_g : Df K mg "_law_is_told" sTold pTold f_told fd_told)
    {f_rings : Addr} {fd_rings : FuncData} (D_rings : Df K mg "_law_two_rings" sRings pRings f_rings fd_rings)
    {f_rlots : Addr} {fd_rlots : FuncData} (D_rlots : Df K mg "_law_ring_lots" sRlots pRlots f_rlots fd_rlots)
    {f_deep : Addr} {fd_deep : FuncData} (D_deep_g : Df K mg "_law_is_deep" sDeep pDeep f_deep fd_deep)
    (K_serr : KBn K fd_serr pSerr 0 ["value", "web"] (fun _ ws => ws.reverse) (fun _ zs => zs.reverse)) (K_derr : KBn K fd_derr pDerr 0 ["value", "web"] (fun _ ws => ws.reverse) (fun _ zs => zs.reverse)) : FnG P w K mg base CX0 8 f fd pLaw (spLaw K) := by
  have G_box : FnOk P w K mg base CX0 1 f_box fd_box ["_law_script"] (spBox K) := ok_box D_box T
  have G_draw : FnOk P w K mg base CX0 1 f_draw fd_draw ["_law_box_here", "_law_many"] spDraw := ok_draw D_draw T
  have G_pick : FnOk P w K mg base CX0 2 f_pick fd_pick nPick (spPick K) := ok_pick D_pick T D_draw
  have G_web : FnOk P w K mg base CX0 3 f_web fd_web pWeb (spWeb K) := ok_web D_web T D_draw D_pick
  have G_number : FnOk P w K mg base CX0 3 f_number fd_number pNumber spNumber := ok_number (K := K) D_number T D_draw D_pick
  have G_deed : FnOk P w K mg base CX0 4 f_deed fd_deed pDeed (spDeed K) := ok_deed D_deed T D_draw D_pick D_number D_counts D_leven D_about
  have G_lodd : FnOk P w K mg base CX0 3 f_lodd fd_lodd pLodd (spLodd K) := ok_lodd D_lodd T D_draw D_pick
  have G_odeed : FnOk P w K mg base CX0 4 f_odeed fd_odeed pOdeed (spOdeed K) := ok_odeed D_odeed T hlist D_draw D_pick D_lodd
  have G_told_g : FnG P w K mg base CX0 6 f_told fd_told pTold (spTold K) := ok_told D_told_g T hisinstance hbool hsorted hlist hzip hstr hMN hMT D_whole D_within D_row D_lerr D_odd D_even D_far D_ways D_fround D_isround D_serr K_serr D_derr K_derr D_num D_islot D_counts D_isr D_lserr D_lderr
  have G_deep_g : FnG P w K mg base CX0 7 f_deep fd_deep pDeep (spDeep K) := ok_deep D_deep_g T hlist hsorted D_draw D_pick D_rings D_rlots D_number D_told_g G_told_g
  refine okG D.fn scLaw (fun vs H Q E h => ?_) (fun cdv A outer s H vs Q E hgd hr h => ?_)
  · obtain ⟨a, ns, rfl, _⟩ := h
    rfl
  · obtain ⟨a, ns, rfl, hS, hlen, k⟩ := h
    have hr_box : Room 1 _ := hr.mono (by decide)
    have hr_draw : Room 1 _ := hr.mono (by decide)
    have hr_pick : Room 2 _ := hr.mono (by decide)
    have hr_web : Room 3 _ := hr.mono (by decide)
    have hr_number : Room 3 _ := hr.mono (by decide)
    have hr_lodd : Room 3 _ := hr.mono (by decide)
    have hr_deed : Room 4 _ := hr.mono (by decide)
    have hr_odeed : Room 4 _ := hr.mono (by decide)
    have hr_told_g : Room 6 _ := hr.mono (by decide)
    have hr_deep_g : Room 7 _ := hr
    have hu64 := hr.units
    have nd := scLaw.nd
    refine ⟨_, (pss_cons (ps_set (i := 1) nd rfl (by first | exact Or.inl rfl | exact Or.inr rfl) (pe_call G_box hr_box (by rfl) D_box.ad D_box.fn.kp D_box.bd .nil pass0 (pa_cons (pv 0) pa_nil)))
      (pss_cons (ps_if (PW.pt (pw_and (pt_cmpR op_eq (pe_call G_draw hr_draw (by rfl) D_draw.ad D_draw.fn.kp D_draw.bd .nil pass0 (pa_cons (pv 1) (pa_cons pe_int pa_nil))) pe_int (nomark _)) (pw_and1 (pt_not (pt_val (pe_callG G_deep_g hgd hr_deep_g (by rfl) D_deep_g.ad D_deep_g.fn.kp D_deep_g.bd .nil pass0 (pa_cons (pv 1) pa_nil))))))) (pss_one (ps_ret pe_bl)) pss_nil)
      (pss_cons (ps_for PassesOwn.never rfl (pi_range1 rfl T.range (pa_cons pe_int pa_nil)) (pg_name (i := 2) nd rfl (by first | exact Or.inl rfl | exact Or.inr rfl)) (pss_cons (ps_set (i := 3) nd rfl (by first | exact Or.inl rfl | exact Or.inr rfl) (pe_call G_web hr_web (by rfl) D_web.ad D_web.fn.kp D_web.bd .nil pass0 (pa_cons (pv 1) (pa_cons (pe_ix (ixL K) (pe_lstY (pa_cons pe_int (pa_cons pe_int (pa_cons pe_int (pa_cons pe_int pa_nil))))) (pv 2) (fun _ _ => rfl)) (pa_cons pe_int pa_nil)))))
      (pss_cons (ps_set (i := 4) nd rfl (by first | exact Or.inl rfl | exact Or.inr rfl) (pe_callTy (tupleK K) (by rfl) T.tuple (by decide +kernel) (pa_cons (pe_lc (own := [("_law_tie", 10)]) (g := (gName 10)) (tt := tYes) rfl nd (piT K (pe_ix (ixT K) (pv 3) pe_int (fun _ _ => rfl))) (blkOk_by (own := [("_law_tie", 10)]) (N := nLaw) (sc := defScope sLaw) (by decide +kernel)) (fun _ _ _ _ _ => (pg_name (i := 10) nd rfl (by first | exact Or.inl rfl | exact Or.inr rfl))) (fun _ _ _ _ _ => pts_nil) (fun _ _ _ _ _ => (pe_call G_number hr_number (by rfl) D_number.ad D_number.fn.kp D_number.bd .nil pass0 (pa_cons (pv 1) (pa_cons (pe_op op_pow pe_int pe_int) pa_nil))))) pa_nil)))
      (pss_one (ps_for PassesOwn.never rfl (pi_range1 rfl T.range (pa_cons pe_int pa_nil)) (pg_name (i := 5) nd rfl (by first | exact Or.inl rfl | exact Or.inr rfl)) (pss_cons (ps_set (i := 6) nd rfl (by first | exact Or.inl rfl | exact Or.inr rfl) (pe_call G_deed hr_deed (by rfl) D_deed.ad D_deed.fn.kp D_deed.bd .nil pass0 (pa_cons (pv 1) (pa_cons (pv 3) pa_nil))))
      (pss_cons (ps_if (pt_not (pt_val (pe_callG G_told_g hgd hr_told_g (by rfl) D_told_g.ad D_told_g.fn.kp D_told_g.bd .nil pass0 (pa_cons (pv 3) (pa_cons (pv 4) (pa_cons (pv 6) (pa_cons (pe_cmpR op_eq (pv 5) (pv 2) (nomark _)) pa_nil))))))) (pss_one (ps_ret pe_bl)) pss_nil)
      (pss_cons (ps_set (i := 7) nd rfl (by first | exact Or.inl rfl | exact Or.inr rfl) (pe_callTy call_list_ofY (by rfl) hlist (by decide +kernel) (pa_cons (pv 4) pa_nil)))
      (pss_cons (ps_if (pt_cmpR (opNeD K hr.units) (pv 7) (pe_lstY pa_nil) (nomark _)) (pss_cons (ps_set (i := 9) nd rfl (by first | exact Or.inl rfl | exact Or.inr rfl) (pe_call G_draw hr_draw (by rfl) D_draw.ad D_draw.fn.kp D_draw.bd .nil pass0 (pa_cons (pv 1) (pa_cons (pe_callB (lenK K) (by rfl) T.len PySem.boot_len (pa_cons (pv 7) pa_nil)) pa_nil))))
      (pss_one (ps_asg (pe_call G_pick hr_pick (by rfl) D_pick.ad D_pick.fn.kp D_pick.bd .nil pass0 (pa_cons (pv 1) (pa_cons (pe_lstY (pa_cons (pe_call G_lodd hr_lodd (by rfl) D_lodd.ad D_lodd.fn.kp D_lodd.bd .nil pass0 (pa_cons (pv 1) (pa_cons (pe_ix (ixL K) (pv 7) (pv 9) (fun _ _ => rfl)) pa_nil))) (pa_cons (pe_op op_add (pe_op op_pow pe_int pe_int) pe_int) (pa_cons (pe_op op_sub (pe_un un_neg (pe_op op_pow pe_int pe_int)) pe_int) (pa_cons pe_bl pa_nil))))) pa_nil))) (pg_sub (pv 7) (pv 9) set_list)))) pss_nil)
      (pss_cons (ps_set (i := 8) nd rfl (by first | exact Or.inl rfl | exact Or.inr rfl) (pe_lstY (pa_cons (pe_callTy (tupleK K) (by rfl) T.tuple (by decide +kernel) (pa_cons (pv 7) pa_nil)) (pa_cons (pe_callTy (tupleK K) (by rfl) T.tuple (by decide +kernel) (pa_cons (pv 7) pa_nil)) (pa_cons (pe_callTy (tupleK K) (by rfl) T.tuple (by decide +kernel) (pa_cons (pv 7) pa_nil)) (pa_cons (pv 7) (pa_cons (pe_slice (slTA K) (pv 4) (po_some pe_int) po_none) (pa_cons (pe_op (catA K) (pv 4) (pe_tup (pa_cons pe_int pa_nil))) (pa_cons pe_non (pa_cons pe_dnewK (pa_cons (pv 4) (pa_cons (pe_tup pa_nil) pa_nil))))))))))))
      (pss_cons (ps_if (pt_not (pt_val (pe_callG G_told_g hgd hr_told_g (by rfl) D_told_g.ad D_told_g.fn.kp D_told_g.bd .nil pass0 (pa_cons (pv 3) (pa_cons (pe_call G_pick hr_pick (by rfl) D_pick.ad D_pick.fn.kp D_pick.bd .nil pass0 (pa_cons (pv 1) (pa_cons (pv 8) pa_nil))) (pa_cons (pe_call G_odeed hr_odeed (by rfl) D_odeed.ad D_odeed.fn.kp D_odeed.bd .nil pass0 (pa_cons (pv 1) (pa_cons (pv 3) (pa_cons (pv 6) pa_nil)))) (pa_cons (pe_cmpR op_eq (pv 5) pe_int (nomark _)) pa_nil))))))) (pss_one (ps_ret pe_bl)) pss_nil)
      (pss_one (ps_if (pt_not (pt_val (pe_callG G_told_g hgd hr_told_g (by rfl) D_told_g.ad D_told_g.fn.kp D_told_g.bd .nil pass0 (pa_cons (pv 3) (pa_cons (revT K (pv 4)) (pa_cons (pe_call G_lodd hr_lodd (by rfl) D_lodd.ad D_lodd.fn.kp D_lodd.bd .nil pass0 (pa_cons (pv 1) (pa_cons (pv 6) pa_nil))) (pa_cons pe_bl pa_nil))))))) (pss_one (ps_ret pe_bl)) pss_nil)))))))))))))
      (pss_one (ps_ret pe_bl))))), ?_⟩
    refine tSeq_go ?_
    refine ⟨_, rfl, a, ns, rfl, hS, hlen, fun b g H1 _ _ _ hB => ?_⟩
    dsimp only [gName]
    refine tSeq_go ?_
    refine tIfS_t (fun t H' => Box H' b g ∧ t = false) ?_ ?_ (fun cont => ?_)
    · rintro H' ⟨_, z⟩
      cases z
    rotate_left
    · refine ⟨_, rfl, b, g, 4, rfl, by decide, by decide, hB, fun r H2 r0 r1 kp2 B2 => ?_⟩
      refine ⟨rfl, _, rfl, ?_⟩
      refine ite2 (fun hh => ?_) (fun hh => ?_)
      · refine ⟨_, rfl, b, g, rfl, B2, fun H3 kp3 B3 => ⟨true, rfl, ?_⟩⟩
        exact cont _ _ ⟨B3, rfl⟩
      · exact cont _ _ ⟨B2, rfl⟩
    rintro H2 ⟨hB2, _⟩
    clear hB
    dsimp only [tNext]
    refine tSeq_go ?_
    refine ⟨4, rfl, by decide, by decide, ?_⟩
    refine for_range (lo := 0) (n := (4 : Int).toNat) (fun i σ Hc => ∃ (v2 v3 v4 v5 v6 v7 v8 v9 : Option V),
      σ = [some (.ref a), some (.ref b), v2, v3, v4, v5, v6, v7, v8, v9, none] ∧ Box Hc b g) ?_ ?_ ?_
    · exact ⟨none, none, none, none, none, none, none, none, rfl, hB2⟩
    rotate_left
    · rintro σ Hc ⟨v2, v3, v4, v5, v6, v7, v8, v9, rfl, hBc⟩
      exact k _
    rintro i σ Hc hi ⟨v2, v3, v4, v5, v6, v7, v8, v9, rfl, hBc⟩
    have hi4 : i < 4 := hi
    rw [Int.zero_add]
    obtain ⟨m1, e1, q1, q2⟩ := most9 i hi4
    show tSeq _ _ _ _ _
    refine tSeq_go ?_
    refine ⟨_, rfl, by show 4 ≤ sizeLine; decide, fun l1 hl1 _ => ?_⟩
    have s1 := same_new (o := .lst [.int 1, .int 3, .int 5, .int 6]) hl1
    refine ⟨_, rfl, l1, _, _, _, rfl, rfl, SqL.of upd_same, atI_nat e1, b, g, m1, 4, rfl, q1, by omega, by decide, hBc.same s1, fun p n ts H3 _ hB3 hw hok hn htl _ => ?_⟩
    dsimp only [gName]
    refine at_st [some (.ref a), some (.ref b), some (.int (i : Nat)), some (.ref p), v4, v5, v6, v7, v8, v9, none] rfl ?_
    have hends := hok.ends
    have hpos := hok.pos
    obtain ⟨qq, cw, ys, e, ha, hc, hys⟩ := dp_web hw
    cases e
    have hyl : ys.length = ts.length := by rw [dpAll_len hys, List.length_map]
    have htl9 : ts.length ≤ 9 := by omega
    clear s1 hl1 hBc hB2 e1 hys hok
    refine tSeq_go ?_
    refine tAsg_by (fun u H' => ∃ zs : List Int, Kp b g H3 H' ∧ Box H' b g ∧ zs.length = ts.length ∧ (∀ z ∈ zs, z.natAbs < 2 ^ 120) ∧ Dp K H' u (.tuple (zs.map .int))) ?_ (fun cont => ?_)
    rotate_left
    · refine ⟨_, rfl, p, _, _, _, rfl, rfl, ha, atI_nat (j := 1) rfl, cw, rfl, ⟨_, hc⟩, fun E1 hE1 => ?_⟩
      refine lc_runB (walk_tup (xs := ys)) hE1 hB3 (fun i acc _ => ∃ zs : List Int, acc = zs.map V.int ∧ zs.length = i ∧ ∀ z ∈ zs, z.natAbs < 2 ^ 120) ?_ ?_ ?_ ?_
      · exact fun H' kp B => sqT_kf (KF.of_kp kp hB3) hc
      · exact ⟨[], rfl, rfl, by simp⟩
      · rintro i x acc H6 H' nb ng hi hacc e kk hBx ⟨zs, rfl, hzl, hzs⟩ ⟨rfl, hx⟩
        refine ⟨rfl, yes_go ?_⟩
        refine ⟨_, rfl, 10, 12, rfl, rfl, ⟨by decide, by decide, by decide⟩, b, g, _, rfl, by decide, by decide, hBx, fun z H7 kp4 hB4 hz => ?_⟩
        refine lc_addB nb ng hacc e kp4 hB4 (by rw [List.length_map]; omega) ⟨zs ++ [z], by rw [List.map_append]; rfl, by rw [List.length_append, hzl]; rfl, fun y hy => ?_⟩
        rcases List.mem_append.mp hy with q | q
        · exact hzs y q
        · rw [List.mem_singleton.mp q]
          exact hz
      · rintro acc H6 h1 kk hBx ⟨zs, rfl, hzl, hzs⟩
        refine ⟨E1, _, rfl, .inl ⟨SqL.of h1, fun u hu => ?_⟩⟩
        have su := same_new (o := .tup (zs.map V.int)) hu
        exact cont _ _ ⟨zs, kk.trans (Kp.same su), hBx.same su, by omega, hzs, .tup (SqT.of upd_same) (dpAll_ints zs)⟩
    rintro vs H4 ⟨zs, kp4, B4, hzl, hzs, hst⟩
    have hw := dp_kf (KF.of_kp kp4 hB3) _ (still_web n ts) hw
    obtain ⟨sa, rfl, hsa⟩ : ∃ sa, vs = .ref sa ∧ SqT K H4 sa (zs.map V.int) := by
      cases hst with
      | tup h1 h2 => exact ⟨_, rfl, by rw [← dpAll_intsV h2]; exact h1⟩
    dsimp only [gName]
    refine at_st [some (.ref a), some (.ref b), some (.int (i : Nat)), some (.ref p), some (.ref sa), v5, v6, v7, v8, v9, none] rfl ?_
    have stS : still (.tuple (zs.map PyData.int)) = true := by simp [still, still_ints zs]
    have szS : Sz (.tuple (zs.map PyData.int)) 250 8 := by
      refine (sz_tup (sza_of (c := 1) (k := 0) (ds := zs.map PyData.int) fun d hd => ?_)).mono (by rw [List.length_map]; omega) (by decide)
      obtain ⟨z, hz, rfl⟩ := List.mem_map.mp hd
      exact sz_int (Nat.lt_of_lt_of_le (hzs z hz) (by decide))
    have flS := flat_ints9 hzs
    clear kp4 hB3 ha hc hst
    refine ⟨7, rfl, by decide, by decide, ?_⟩
    refine for_range (lo := 0) (n := (7 : Int).toNat) (fun j σ Hd => ∃ (v5 v6 v7 v8 v9 : Option V),
      σ = [some (.ref a), some (.ref b), some (.int (i : Nat)), some (.ref p), some (.ref sa), v5, v6, v7, v8, v9, none] ∧ Kp b g H4 Hd ∧ Box Hd b g) ?_ ?_ ?_
    · exact ⟨v5, v6, v7, v8, v9, rfl, Kp.refl _, B4⟩
    rotate_left
    · rintro σ Hd ⟨v5, v6, v7, v8, v9, rfl, kpd, Bd⟩
      exact ⟨_, _, _, _, _, _, _, _, rfl, Bd⟩
    clear v5 v6 v7 v8 v9
    rintro j σ Hd hj ⟨v5, v6, v7, v8, v9, rfl, kpd, Bd⟩
    have hj7 : j < 7 := hj
    rw [Int.zero_add]
    have kf := KF.of_kp kpd B4
    have hw := dp_kf kf _ (still_web n ts) hw
    have hsa := sqT_kf kf hsa
    have hst : Dp K Hd (.ref sa) (.tuple (zs.map .int)) := .tup hsa (dpAll_ints zs)
    show tSeq _ _ _ _ _
    refine tSeq_go ?_
    refine ⟨_, rfl, _, rfl, b, g, .ref p, n, ts, rfl, Bd, hw, hends, hpos, by omega, by omega, fun dv wd t z H5 kp5 B5 hdv hDN => ?_⟩
    have kp45 := kpd.trans kp5
    have kf5 := KF.of_kp kp5 Bd
    have hw := dp_kf kf5 _ (still_web n ts) hw
    have hsa := sqT_kf kf5 hsa
    have hst := dp_kf kf5 _ stS hst
    obtain ⟨stT, szT, shT, hzz, hwd⟩ := hDN.still (by omega) (by omega)
    obtain ⟨szW, shW⟩ := word_sz hwd
    have szZ : Sz (.int z) 1 0 := sz_int hzz
    have stD : still (.tuple [.str wd, t, .int z]) = true := by simp [still, stillAll, stT]
    have szD := sz_tup (sza_cons (szW.mono (Nat.le_refl _) (by decide : 0 ≤ 1)) (sza_cons szT (sza_cons (szZ.mono (Nat.le_refl _) (by decide : 0 ≤ 1)) (sza_nil (c := 0)))))
    have wsD : WS (.tuple [.str wd, t, .int z]) := fun w' t' k' e => by
      obtain ⟨rfl, _⟩ := List.cons.inj (PyData.tuple.inj e)
      exact shW
    clear kf5 kf kpd Bd
    dsimp only [gName]
    refine at_st [some (.ref a), some (.ref b), some (.int (i : Nat)), some (.ref p), some (.ref sa), some (.int (j : Nat)), some dv, v7, v8, v9, none] rfl ?_
    refine tSeq_go ?_
    -- the deed itself
    refine ⟨_, rfl, _, rfl, _, rfl, _, rfl, _, rfl, rfl, fun _ => False, .ref p, .ref sa, dv, n, ts, _, _, _, rfl, hw, dp_dx _ stS hst, dp_dx _ stD hdv, szS, szD.mono (by decide) (by decide), wsD, hends, by omega, by omega, fun H6 s6 => ?_⟩
    refine ⟨_, rfl, iteF ?_⟩
    dsimp only [tNext]
    have kp46 := kp45.trans (Kp.same s6)
    have B6 := B5.same s6
    have hw := dp_same s6 _ hw
    have hsa := sqT_same s6 hsa
    have hst := dp_same s6 _ hst
    have hdv := dp_same s6 _ hdv
    clear s6 kp45
    refine tSeq_go ?_
    refine ⟨_, rfl, sa, _, rfl, .inr hsa, fun lo hlo hslo => ?_⟩
    have hne := nb_of (B := B6) hlo
    have s7 := same_new (o := .lst (zs.map V.int)) hlo
    have hL : (upd H6 lo (.lst (zs.map V.int))) lo = some (.lst (zs.map V.int)) := upd_same
    dsimp only [gName]
    generalize upd H6 lo (.lst (zs.map V.int)) = H7 at *
    refine at_st [some (.ref a), some (.ref b), some (.int (i : Nat)), some (.ref p), some (.ref sa), some (.int (j : Nat)), some dv, some (.ref lo), v8, v9, none] rfl ?_
    have B7 := B6.same s7
    refine tSeq_go ?_
    refine tIfS_by (fun σ' H' => ∃ (v9 : Option V) (xs : List V) (ds : List PyData), σ' = [some (.ref a), some (.ref b), some (.int (i : Nat)), some (.ref p), some (.ref sa), some (.int (j : Nat)), some dv, some (.ref lo), v8, v9, none] ∧ Kp b g H6 H' ∧ Box H' b g ∧ H' lo = some (.lst xs) ∧ DxAll K H' (NB b g) xs ds ∧ ds.length = ts.length ∧ ∀ d ∈ ds, Sz d 12 2) ?_ (fun cont => ?_)
    rotate_left
    · refine ⟨_, rfl, Nat.zero_le _, fun q hq hsq => ?_⟩
      have sq := same_new (o := .lst []) hq
      refine ⟨.list (zs.map .int), .list [], .lst (SqL.of (sq _ _ hL)) (dpAll_ints zs), .lst (SqL.of upd_same) .nil, shaped_intsL zs, shaped_intsL [], _, rfl, ite2 (fun hh => ?_) (fun hh => ?_)⟩
      · have hz0 : 0 < zs.length := by
          cases zs with
          | nil => exact absurd hh (by decide)
          | cons z zs => simp
        have hL8 := sq _ _ hL
        have B8 := B7.same sq
        have s8 := s7.trans sq
        generalize upd H7 q (.lst []) = H8 at *
        refine tSeq_go ?_
        refine ⟨_, rfl, _, rfl, lo, _, rfl, .inl (SqL.of hL8), b, g, _, rfl, by rw [List.length_map]; omega, by rw [List.length_map]; omega, B8, fun r H9 r0 r1 kp9 B9 => ?_⟩
        rw [List.length_map] at r1
        obtain ⟨sp, rfl⟩ : ∃ sp : Nat, r = (sp : Int) := ⟨r.toNat, by omega⟩
        have hL9 := kp9 _ _ hL8 hne.1 hne.2
        have kp69 := (Kp.same s8).trans kp9
        dsimp only [gName]
        refine at_st [some (.ref a), some (.ref b), some (.int (i : Nat)), some (.ref p), some (.ref sa), some (.int (j : Nat)), some dv, some (.ref lo), v8, some (.int (sp : Nat)), none] rfl ?_
        have hzi := List.getElem?_eq_getElem (l := zs) (i := sp) (by omega)
        generalize zs[sp] = z0 at hzi
        have hz0 := hzs z0 (List.mem_of_getElem? hzi)
        have hvi : (zs.map V.int)[sp]? = some (.int z0) := by rw [List.getElem?_map, hzi]; rfl
        refine ⟨_, rfl, _, rfl, _, rfl, _, rfl, lo, _, _, _, rfl, rfl, SqL.of hL9, atI_nat hvi, b, g, (fun a => NB b g a ∨ a = lo), .int z0, .int z0, 1, 0, rfl, B9, (fun _ h => .inl h), (fun a h e => h.elim (fun q => box_al B9 a q e) fun q => by rw [q, hL9] at e; cases e), .int z0, sz_int (Nat.lt_of_lt_of_le hz0 (by decide)), fun u du H10 kp10 B10 hdu hszu _ => ?_⟩
        refine ⟨10, 12, rfl, rfl, ⟨by decide, by decide, by decide⟩, _, _, rfl, rfl, 10, 12, rfl, rfl, ⟨by decide, by decide, by decide⟩, _, rfl, _, _, rfl, rfl, ?_⟩
        have hL10 := kp10 _ _ hL9 hne.1 hne.2
        have M : MnN K b g (fun a => NB b g a ∨ a = lo) (fun e => Sz e 12 2 ∧ True) H10 H10 [] := MnN.zero B10 (fun _ h => .inl h) (fun a h e => h.elim (fun q => box_al B10 a q e) fun q => by rw [q, hL10] at e; cases e)
        have M := M.atom hdu ⟨hszu, trivial⟩
        have M := M.atom (v := .int (10 ^ (12 : Int).toNat + 1)) (.int _) ⟨sz_int (by decide), trivial⟩
        have M := M.atom (v := .int (-(10 ^ (12 : Int).toNat) - 1)) (.int _) ⟨sz_int (by decide), trivial⟩
        have M := M.atom (v := .bl true) (.bl _) ⟨sz_bl, trivial⟩
        refine ⟨by show 4 ≤ sizeLine; decide, fun l hl hsl => ?_⟩
        have hln := M.ne hl
        have M := M.put (o := .lst [u, .int (10 ^ (12 : Int).toNat + 1), .int (-(10 ^ (12 : Int).toNat) - 1), .bl true]) hl
        refine ⟨b, g, l, _, rfl, SqL.of upd_same, hln.1, hln.2, by show 0 < 4; decide, by show 4 < 1000000; decide, M.bx, fun jj v H11 hjj kp11 B11 => ?_⟩
        obtain ⟨d, hd0, hsz, _⟩ := M.it v (by simpa using List.mem_of_getElem? hjj)
        have hd := dx_kpN (fun _ h => .inl h) kp11 M.bx hd0
        have kk := (kp10.trans M.s).trans kp11
        have hL11 := kk _ _ hL9 hne.1 hne.2
        have kp611 := kp69.trans kk
        refine ⟨_, rfl, _, rfl, lo, _, _, sp, rfl, rfl, hL11, ix_nat (by rw [List.length_map]; omega), ?_⟩
        have kfL : KF H11 (upd H11 lo (.lst ((zs.map V.int).set sp v))) := kf_upd hL11 ⟨(fun _ e => nomatch e), (fun _ _ e => nomatch e)⟩
        refine cont _ _ ⟨_, (zs.map V.int).set sp v, (zs.map PyData.int).set sp d, rfl, kp_upd hlo kp611, box_upd B11 hne.1 hne.2, upd_same, dxAll_set _ (dpAll_dx _ (still_ints zs) (dpAll_ints zs)) ?_, by rw [List.length_set, List.length_map]; exact hzl, fun e he => ?_⟩
        · exact dx_less (fun _ h => .inl h) _ (dx_keep (fun a o e n => by rw [upd_ne (fun q => n (.inr q))]; exact e) kfL _ hd)
        · rcases List.mem_or_eq_of_mem_set he with q | q
          · obtain ⟨zz, hzz, rfl⟩ := List.mem_map.mp q
            exact sz_int (Nat.lt_of_lt_of_le (hzs zz hzz) (by decide))
          · rw [q]
            exact hsz
      · exact cont _ _ ⟨v9, _, _, rfl, Kp.same (s7.trans sq), B7.same sq, sq _ _ hL, dpAll_dx _ (still_ints zs) (dpAll_ints zs), by rw [List.length_map]; exact hzl, fun e he => by
          obtain ⟨zz, hzz, rfl⟩ := List.mem_map.mp he
          exact sz_int (Nat.lt_of_lt_of_le (hzs zz hzz) (by decide))⟩
    clear hL s7 B7 v9
    rintro σ H8 ⟨v9, xs, ds, rfl, kp8, B8, hL, hds, hdl, hdz⟩
    have kf8 := KF.of_kp kp8 B6
    have hw := dp_kf kf8 _ (still_web n ts) hw
    have hsa := sqT_kf kf8 hsa
    have hst := dp_kf kf8 _ stS hst
    have hdv := dp_kf kf8 _ stD hdv
    have szL := sza_of hdz
    have szT2 : Sz (.tuple ds) 250 8 := (sz_tup szL).mono (by omega) (by decide)
    have szL2 : Sz (.list ds) 250 8 := (sz_lst szL).mono (by omega) (by decide)
    have pT : ∀ ds, Sz (.tuple ds) 131 1 → Sz (.tuple ds) 250 8 ∧ True := fun _ h => ⟨h.mono (by decide) (by decide), trivial⟩
    dsimp only
    refine tSeq_go ?_
    have kp48 := kp46.trans kp8
    clear kf8
    have M : MnX K b g (fun e => Sz e 250 8 ∧ True) H8 H8 [] := MnX.zero B8
    refine ⟨_, rfl, lo, _, rfl, .inl ⟨SqL.of hL, fun p9 hp9 => ?_⟩⟩
    have hL := (same_new (o := .tup xs) hp9) _ _ hL
    have hds := dxAll_same (same_new (o := .tup xs) hp9) hds
    have M := M.new (o := .tup xs) hp9 (.tup (SqT.of upd_same) hds) ⟨szT2, trivial⟩
    generalize upd H8 p9 (.tup xs) = H9 at *
    refine ⟨_, rfl, lo, _, rfl, .inl ⟨SqL.of hL, fun p10 hp10 => ?_⟩⟩
    have hL := (same_new (o := .tup xs) hp10) _ _ hL
    have hds := dxAll_same (same_new (o := .tup xs) hp10) hds
    have M := M.new (o := .tup xs) hp10 (.tup (SqT.of upd_same) hds) ⟨szT2, trivial⟩
    generalize upd H9 p10 (.tup xs) = H10 at *
    refine ⟨_, rfl, lo, _, rfl, .inl ⟨SqL.of hL, fun p11 hp11 => ?_⟩⟩
    have hL := (same_new (o := .tup xs) hp11) _ _ hL
    have hds := dxAll_same (same_new (o := .tup xs) hp11) hds
    have M := M.new (o := .tup xs) hp11 (.tup (SqT.of upd_same) hds) ⟨szT2, trivial⟩
    generalize upd H10 p11 (.tup xs) = H11 at *
    have M := M.atom (.lst hslo (fun z => z.elim hne.1 hne.2) (SqL.of hL) hds) ⟨szL2, trivial⟩
    refine ⟨_, rfl, _, rfl, 1, rfl, ?_⟩
    dsimp only [tNoPart]
    refine slA_by rfl (sqT_kf (KF.of_kp M.s B8) hsa) fun c12 H12 s12 hc12 => ?_
    have hL := s12 _ _ hL
    have hds := dxAll_same s12 hds
    have M := (M.same s12).flat hc12 (fun v hv => flS v (cut_mem hv)) (Nat.le_trans (cutV_length _ _ _) (by rw [List.length_map]; omega)) pT
    refine ⟨_, rfl, by show 1 ≤ sizeLine; decide, fun p13 hp13 => ?_⟩
    have hL := (same_new (o := .tup [.int 0]) hp13) _ _ hL
    have hds := dxAll_same (same_new (o := .tup [.int 0]) hp13) hds
    have e13 : SqT K (upd H12 p13 (.tup [.int 0])) p13 [.int 0] := SqT.of upd_same
    have M := M.put (o := .tup [.int 0]) hp13
    generalize upd H12 p13 (.tup [.int 0]) = H13 at *
    refine catA_by rfl rfl (sqT_kf (KF.of_kp M.s B8) hsa) e13 (by rw [List.length_map]; simp only [List.length_cons, List.length_nil]; omega) fun c14 H14 s14 hc14 => ?_
    have hL := s14 _ _ hL
    have hds := dxAll_same s14 hds
    have M := (M.same s14).flat hc14 (flat_app flS (flat_sing (flat_int (z := 0) (by decide)))) (by rw [List.length_append, List.length_map]; simp only [List.length_cons, List.length_nil]; omega) pT
    have M := M.atom (v := .non) (.non) (⟨sz_non, trivial⟩)
    refine fun p15 hp15 => ?_
    have hL := (same_new (o := .dK []) hp15) _ _ hL
    have hds := dxAll_same (same_new (o := .dK []) hp15) hds
    have M := M.new (o := .dK []) hp15 (.dic (M.nn hp15) upd_same .nil) ⟨sz_dic0 (k := 7), trivial⟩
    generalize upd H14 p15 (.dK []) = H15 at *
    have M := M.atom (dp_dx _ stS (dp_kf (KF.of_kp M.s B8) _ stS hst)) ⟨szS, trivial⟩
    refine ⟨_, rfl, Nat.zero_le _, fun p16 hp16 => ?_⟩
    have hL := (same_new (o := .tup []) hp16) _ _ hL
    have hds := dxAll_same (same_new (o := .tup []) hp16) hds
    have M := M.new (o := .tup []) hp16 (.tup (SqT.of upd_same) .nil) ⟨(sz_tup (sza_nil (c := 0) (k := 0))).mono (by decide) (by decide), trivial⟩
    generalize upd H15 p16 (.tup []) = H16 at *
    refine ⟨by show 10 ≤ sizeLine; decide, fun lm hllm hslm => ?_⟩
    have hln := M.ne hllm
    have hM : (upd H16 lm (.lst [.ref p9, .ref p10, .ref p11, .ref lo, .ref c12, .ref c14, .non, .ref p15, .ref sa, .ref p16])) lm = some (.lst [.ref p9, .ref p10, .ref p11, .ref lo, .ref c12, .ref c14, .non, .ref p15, .ref sa, .ref p16]) := upd_same
    have M := M.put (o := .lst [.ref p9, .ref p10, .ref p11, .ref lo, .ref c12, .ref c14, .non, .ref p15, .ref sa, .ref p16]) hllm
    generalize upd H16 lm (.lst [.ref p9, .ref p10, .ref p11, .ref lo, .ref c12, .ref c14, .non, .ref p15, .ref sa, .ref p16]) = HL at *
    dsimp only [gName]
    refine at_st [some (.ref a), some (.ref b), some (.int (i : Nat)), some (.ref p), some (.ref sa), some (.int (j : Nat)), some dv, some (.ref lo), some (.ref lm), v9, none] rfl ?_
    refine tSeq_go ?_
    refine ⟨_, rfl, _, rfl, _, rfl, b, g, lm, _, rfl, SqL.of hM, hln.1, hln.2, by show 0 < 10; decide, by show 10 < 1000000; decide, M.bx, fun jj v H20 hjj kp20 B20 => ?_⟩
    obtain ⟨d, hd, hsz, _⟩ := (M.it v (by simpa using List.mem_of_getElem? hjj)).kp kp20 M.bx
    have kk := M.s.trans kp20
    have hdv20 := dp_kf (KF.of_kp kk B8) _ stD hdv
    refine ⟨_, rfl, _, rfl, _, rfl, b, g, .ref p, dv, n, ts, wd, t, z, rfl, B20, dp_kf (KF.of_kp kk B8) _ (still_web n ts) hw, hdv20, hDN, by omega, by omega, fun u H21 kp21 B21 hu => ?_⟩
    obtain ⟨du, hdu, hszu, hwsu⟩ := hu
    have kk2 := kk.trans kp21
    have hd := dx_kp kp21 B20 hd
    refine ⟨_, rfl, rfl, NB b g, .ref p, v, u, n, ts, d, du, _, rfl, dp_kf (KF.of_kp kk2 B8) _ (still_web n ts) hw, hd, hdu, hsz, hszu.mono (by decide) (by decide), hwsu, hends, by omega, by omega, fun H22 s22 => ?_⟩
    refine ⟨_, rfl, iteF ?_⟩
    dsimp only [tNext]
    have kk3 := kk2.trans (Kp.same s22)
    have B22 := B21.same s22
    refine ⟨_, rfl, _, rfl, sa, _, rfl, sqT_kf (KF.of_kp kk3 B8) hsa, fun p2 hp2 => ?_⟩
    have sp2 := same_new (o := .tup (zs.map V.int).reverse) hp2
    have kk4 := kk3.trans (Kp.same sp2)
    have B23 := B22.same sp2
    obtain ⟨dr, hr1, hr2, _⟩ := flat_tup (K := K) (N := NB b g) (SqT.of (upd_same (H := H22) (a := p2) (o := .tup (zs.map V.int).reverse))) (fun v hv => flS v (List.mem_reverse.mp hv)) 131 (by rw [List.length_reverse, List.length_map]; omega)
    refine ⟨_, rfl, _, rfl, b, g, NB b g, dv, _, _, _, rfl, B23, (fun _ h => h), box_al B23, dp_dx _ stD (dp_kf (KF.of_kp kk4 B8) _ stD hdv), szD, fun u2 du2 H24 kp24 B24 hdu2 hszu2 hwsu2 => ?_⟩
    have kk5 := kk4.trans kp24
    have hwsu2 : WS du2 := hwsu2.elim (fun e => e ▸ wsD) N3.ws
    refine ⟨NB b g, .ref p, .ref p2, u2, n, ts, _, du2, false, rfl, dp_kf (KF.of_kp kk5 B8) _ (still_web n ts) hw, dx_kp kp24 B23 hr1, hdu2, hr2.mono (by decide) (by decide), hszu2.mono (by decide) (by decide), hwsu2, hends, by omega, by omega, fun H25 s25 => ?_⟩
    refine ⟨_, rfl, iteF ?_⟩
    exact ⟨_, _, _, _, _, rfl, (kp48.trans kk5).trans (Kp.same s25), B24.same s25⟩
end
end BV

namespace BV
open PySem L2
section
variable {K : PySem.W.Frag} {mg : Str → Option Value}
theorem df_mk {x : String} {st : Stmt} {ps : List Str} {f : Addr} {oc : Value} {od an : Option Addr} {osl : Array (Option Value)} {kV doc pm cdv ct : Value} {h : Heap}
    (X : K.In h) (G : h.Ns mainGlobals mg)
    (a : PySem.W.nsIn K mainGlobals (Str.ofString x) = some (some (.ref f)))
    (l : K.lookup f = some ⟨oc, od, .func (PySem.W.fnOf (Str.ofString x) (Str.ofString x) (defArgs st) (defBody st) (defScope st) .none kV doc pm an cdv ct), osl⟩)
    (c : PySem.W.codeIn K cdv (Str.ofString x) = true) (k : PySem.W.keepIn K (.ref f) = true)
    (hb : ∀ (kV doc pm : Value) (an : Option Addr) (cdv ct : Value) (us : List Value), us.length = ps.length →
      bindArgs (PySem.W.fnOf (Str.ofString x) (Str.ofString x) (defArgs st) (defBody st) (defScope st) .none kV doc pm an cdv ct) ⟨us, []⟩ = pure (ps.zip us)) :
    Df K mg x st ps f (PySem.W.fnOf (Str.ofString x) (Str.ofString x) (defArgs st) (defBody st) (defScope st) .none kV doc pm an cdv ct) :=
  ⟨fun_mk (st := st) l c k, PySem.W.mg_of X G a, (fun_mk (st := st) l c k).binds hb⟩
theorem kbn_mk {x : Str} {params : Arguments} {body : List Stmt} {scope : Scope} {f : Addr} {ps ks : List Str} {g : List Value → List Value → List Value} {gV : List V → List V → List V}
    {oc : Value} {od an : Option Addr} {osl : Array (Option Value)} {kV doc pm cdv ct : Value}
    (_l : K.lookup f = some ⟨oc, od, .func (PySem.W.fnOf x x params body scope .none kV doc pm an cdv ct), osl⟩)
    (hb : ∀ us ws : List Value, us.length = 0 → ws.length = ks.length →
      bindArgs (PySem.W.fnOf x x params body scope .none kV doc pm an cdv ct) ⟨us, ks.zip ws⟩ = pure (ps.zip (g us ws)))
    (hr : ∀ {vs : List V} {us : List Value} {zs : List V} {ws : List Value}, Vals vs us → Vals zs ws → Vals (gV vs zs) (g us ws)) :
    KBn K (PySem.W.fnOf x x params body scope .none kV doc pm an cdv ct) ps 0 ks g gV :=
  ⟨fun _ us ws _ h1 h2 => .of_eq (hb us ws h1 h2), hr⟩
end
theorem all_mk {l : PySem.W.OpenLaw} {w : World} {K : PySem.W.Frag} {h : Heap} {mg : Str → Option Value} {fa : Addr} (X : K.In h) (G : h.Ns mainGlobals mg) (hfa : mg "law" = some (.ref fa))
    {f0 f1 f2 f3 f4 f5 f6 f7 f8 f9 f10 f11 f12 f13 f14 f15 f16 f17 f18 f19 f20 f21 f22 f23 f24 f25 f26 f27 f28 f29 f30 f31 f32 : Addr} {od0 an0 od1 an1 od2 an2 od3 an3 od4 an4 od5 an5 od6 an6 od7 an7 od8 an8 od9 an9 od10 an10 od11 an11 od12 an12 od13 an13 od14 an14 od15 an15 od16 an16 od17 an17 od18 an18 od19 an19 od20 an20 od21 an21 od22 an22 od23 an23 od24 an24 od25 an25 od26 an26 od27 an27 od28 an28 od29 an29 od30 an30 od31 an31 od32 an32 : Option Addr} {sl0 sl1 sl2 sl3 sl4 sl5 sl6 sl7 sl8 sl9 sl10 sl11 sl12 sl13 sl14 sl15 sl16 sl17 sl18 sl19 sl20 sl21 sl22 sl23 sl24 sl25 sl26 sl27 sl28 sl29 sl30 sl31 sl32 : Array (Option Value)}
    {oc0 kV0 dc0 pm0 cd0 ct0 oc1 kV1 dc1 pm1 cd1 ct1 oc2 kV2 dc2 pm2 cd2 ct2 oc3 kV3 dc3 pm3 cd3 ct3 oc4 kV4 dc4 pm4 cd4 ct4 oc5 kV5 dc5 pm5 cd5 ct5 oc6 kV6 dc6 pm6 cd6 ct6 oc7 kV7 dc7 pm7 cd7 ct7 oc8 kV8 dc8 pm8 cd8 ct8 oc9 kV9 dc9 pm9 cd9 ct9 oc10 kV10 dc10 pm10 cd10 ct10 oc11 kV11 dc11 pm11 cd11 ct11 oc12 kV12 dc12 pm12 cd12 ct12 oc13 kV13 dc13 pm13 cd13 ct13 oc14 kV14 dc14 pm14 cd14 ct14 oc15 kV15 dc15 pm15 cd15 ct15 oc16 kV16 dc16 pm16 cd16 ct16 oc17 kV17 dc17 pm17 cd17 ct17 oc18 kV18 dc18 pm18 cd18 ct18 oc19 kV19 dc19 pm19 cd19 ct19 oc20 kV20 dc20 pm20 cd20 ct20 oc21 kV21 dc21 pm21 cd21 ct21 oc22 kV22 dc22 pm22 cd22 ct22 oc23 kV23 dc23 pm23 cd23 ct23 oc24 kV24 dc24 pm24 cd24 ct24 oc25 kV25 dc25 pm25 cd25 ct25 oc26 kV26 dc26 pm26 cd26 ct26 oc27 kV27 dc27 pm27 cd27 ct27 oc28 kV28 dc28 pm28 cd28 ct28 oc29 kV29 dc29 pm29 cd29 ct29 oc30 kV30 dc30 pm30 cd30 ct30 oc31 kV31 dc31 pm31 cd31 ct31 oc32 kV32 dc32 pm32 cd32 ct32 : Value}
    (a0 : PySem.W.nsIn K mainGlobals "_law_box" = some (some (.ref f0)))
    (l0 : K.lookup f0 = some ⟨oc0, od0, .func (PySem.W.fnOf "_law_box" "_law_box" (defArgs sBox) (defBody sBox) (defScope sBox) .none kV0 dc0 pm0 an0 cd0 ct0), sl0⟩)
    (c0 : PySem.W.codeIn K cd0 "_law_box" = true) (k0 : PySem.W.keepIn K (.ref f0) = true)
    (a1 : PySem.W.nsIn K mainGlobals "_law_draw" = some (some (.ref f1)))
    (l1 : K.lookup f1 = some ⟨oc1, od1, .func (PySem.W.fnOf "_law_draw" "_law_draw" (defArgs sDraw) (defBody sDraw) (defScope sDraw) .none kV1 dc1 pm1 an1 cd1 ct1), sl1⟩)
    (c1 : PySem.W.codeIn K cd1 "_law_draw" = true) (k1 : PySem.W.keepIn K (.ref f1) = true)
    (a2 : PySem.W.nsIn K mainGlobals "_law_pick" = some (some (.ref f2)))
    (l2 : K.lookup f2 = some ⟨oc2, od2, .func (PySem.W.fnOf "_law_pick" "_law_pick" (defArgs sPick) (defBody sPick) (defScope sPick) .none kV2 dc2 pm2 an2 cd2 ct2), sl2⟩)
    (c2 : PySem.W.codeIn K cd2 "_law_pick" = true) (k2 : PySem.W.keepIn K (.ref f2) = true)
    (a3 : PySem.W.nsIn K mainGlobals "whole" = some (some (.ref f3)))
    (l3 : K.lookup f3 = some ⟨oc3, od3, .func (PySem.W.fnOf "whole" "whole" (defArgs sWhole) (defBody sWhole) (defScope sWhole) .none kV3 dc3 pm3 an3 cd3 ct3), sl3⟩)
    (c3 : PySem.W.codeIn K cd3 "whole" = true) (k3 : PySem.W.keepIn K (.ref f3) = true)
    (a4 : PySem.W.nsIn K mainGlobals "whole_within" = some (some (.ref f4)))
    (l4 : K.lookup f4 = some ⟨oc4, od4, .func (PySem.W.fnOf "whole_within" "whole_within" (defArgs sWithin) (defBody sWithin) (defScope sWithin) .none kV4 dc4 pm4 an4 cd4 ct4), sl4⟩)
    (c4 : PySem.W.codeIn K cd4 "whole_within" = true) (k4 : PySem.W.keepIn K (.ref f4) = true)
    (a5 : PySem.W.nsIn K mainGlobals "row_of" = some (some (.ref f5)))
    (l5 : K.lookup f5 = some ⟨oc5, od5, .func (PySem.W.fnOf "row_of" "row_of" (defArgs sRow) (defBody sRow) (defScope sRow) .none kV5 dc5 pm5 an5 cd5 ct5), sl5⟩)
    (c5 : PySem.W.codeIn K cd5 "row_of" = true) (k5 : PySem.W.keepIn K (.ref f5) = true)
    (a6 : PySem.W.nsIn K mainGlobals "far_end" = some (some (.ref f6)))
    (l6 : K.lookup f6 = some ⟨oc6, od6, .func (PySem.W.fnOf "far_end" "far_end" (defArgs sFar) (defBody sFar) (defScope sFar) .none kV6 dc6 pm6 an6 cd6 ct6), sl6⟩)
    (c6 : PySem.W.codeIn K cd6 "far_end" = true) (k6 : PySem.W.keepIn K (.ref f6) = true)
    (a7 : PySem.W.nsIn K mainGlobals "ways_from" = some (some (.ref f7)))
    (l7 : K.lookup f7 = some ⟨oc7, od7, .func (PySem.W.fnOf "ways_from" "ways_from" (defArgs sWays) (defBody sWays) (defScope sWays) .none kV7 dc7 pm7 an7 cd7 ct7), sl7⟩)
    (c7 : PySem.W.codeIn K cd7 "ways_from" = true) (k7 : PySem.W.keepIn K (.ref f7) = true)
    (a8 : PySem.W.nsIn K mainGlobals "lot_error" = some (some (.ref f8)))
    (l8 : K.lookup f8 = some ⟨oc8, od8, .func (PySem.W.fnOf "lot_error" "lot_error" (defArgs sLerr) (defBody sLerr) (defScope sLerr) .none kV8 dc8 pm8 an8 cd8 ct8), sl8⟩)
    (c8 : PySem.W.codeIn K cd8 "lot_error" = true) (k8 : PySem.W.keepIn K (.ref f8) = true)
    (a9 : PySem.W.nsIn K mainGlobals "odd_places" = some (some (.ref f9)))
    (l9 : K.lookup f9 = some ⟨oc9, od9, .func (PySem.W.fnOf "odd_places" "odd_places" (defArgs sOdd) (defBody sOdd) (defScope sOdd) .none kV9 dc9 pm9 an9 cd9 ct9), sl9⟩)
    (c9 : PySem.W.codeIn K cd9 "odd_places" = true) (k9 : PySem.W.keepIn K (.ref f9) = true)
    (a10 : PySem.W.nsIn K mainGlobals "is_even" = some (some (.ref f10)))
    (l10 : K.lookup f10 = some ⟨oc10, od10, .func (PySem.W.fnOf "is_even" "is_even" (defArgs sEven) (defBody sEven) (defScope sEven) .none kV10 dc10 pm10 an10 cd10 ct10), sl10⟩)
    (c10 : PySem.W.codeIn K cd10 "is_even" = true) (k10 : PySem.W.keepIn K (.ref f10) = true)
    (a11 : PySem.W.nsIn K mainGlobals "is_round" = some (some (.ref f11)))
    (l11 : K.lookup f11 = some ⟨oc11, od11, .func (PySem.W.fnOf "is_round" "is_round" (defArgs sIsround) (defBody sIsround) (defScope sIsround) .none kV11 dc11 pm11 an11 cd11 ct11), sl11⟩)
    (c11 : PySem.W.codeIn K cd11 "is_round" = true) (k11 : PySem.W.keepIn K (.ref f11) = true)
    (a12 : PySem.W.nsIn K mainGlobals "_first_round" = some (some (.ref f12)))
    (l12 : K.lookup f12 = some ⟨oc12, od12, .func (PySem.W.fnOf "_first_round" "_first_round" (defArgs sFround) (defBody sFround) (defScope sFround) .none kV12 dc12 pm12 an12 cd12 ct12), sl12⟩)
    (c12 : PySem.W.codeIn K cd12 "_first_round" = true) (k12 : PySem.W.keepIn K (.ref f12) = true)
    (a13 : PySem.W.nsIn K mainGlobals "deed_error" = some (some (.ref f13)))
    (l13 : K.lookup f13 = some ⟨oc13, od13, .func (PySem.W.fnOf "deed_error" "deed_error" (defArgs sDerr) (defBody sDerr) (defScope sDerr) .none kV13 dc13 pm13 an13 cd13 ct13), sl13⟩)
    (c13 : PySem.W.codeIn K cd13 "deed_error" = true) (k13 : PySem.W.keepIn K (.ref f13) = true)
    (a14 : PySem.W.nsIn K mainGlobals "standing_error" = some (some (.ref f14)))
    (l14 : K.lookup f14 = some ⟨oc14, od14, .func (PySem.W.fnOf "standing_error" "standing_error" (defArgs sSerr) (defBody sSerr) (defScope sSerr) .none kV14 dc14 pm14 an14 cd14 ct14), sl14⟩)
    (c14 : PySem.W.codeIn K cd14 "standing_error" = true) (k14 : PySem.W.keepIn K (.ref f14) = true)
    (a15 : PySem.W.nsIn K mainGlobals "_law_web" = some (some (.ref f15)))
    (l15 : K.lookup f15 = some ⟨oc15, od15, .func (PySem.W.fnOf "_law_web" "_law_web" (defArgs sWeb) (defBody sWeb) (defScope sWeb) .none kV15 dc15 pm15 an15 cd15 ct15), sl15⟩)
    (c15 : PySem.W.codeIn K cd15 "_law_web" = true) (k15 : PySem.W.keepIn K (.ref f15) = true)
    (a16 : PySem.W.nsIn K mainGlobals "_law_counts" = some (some (.ref f16)))
    (l16 : K.lookup f16 = some ⟨oc16, od16, .func (PySem.W.fnOf "_law_counts" "_law_counts" (defArgs sCounts) (defBody sCounts) (defScope sCounts) .none kV16 dc16 pm16 an16 cd16 ct16), sl16⟩)
    (c16 : PySem.W.codeIn K cd16 "_law_counts" = true) (k16 : PySem.W.keepIn K (.ref f16) = true)
    (a17 : PySem.W.nsIn K mainGlobals "_law_is_even" = some (some (.ref f17)))
    (l17 : K.lookup f17 = some ⟨oc17, od17, .func (PySem.W.fnOf "_law_is_even" "_law_is_even" (defArgs sLeven) (defBody sLeven) (defScope sLeven) .none kV17 dc17 pm17 an17 cd17 ct17), sl17⟩)
    (c17 : PySem.W.codeIn K cd17 "_law_is_even" = true) (k17 : PySem.W.keepIn K (.ref f17) = true)
    (a18 : PySem.W.nsIn K mainGlobals "_law_is_round" = some (some (.ref f18)))
    (l18 : K.lookup f18 = some ⟨oc18, od18, .func (PySem.W.fnOf "_law_is_round" "_law_is_round" (defArgs sIsr) (defBody sIsr) (defScope sIsr) .none kV18 dc18 pm18 an18 cd18 ct18), sl18⟩)
    (c18 : PySem.W.codeIn K cd18 "_law_is_round" = true) (k18 : PySem.W.keepIn K (.ref f18) = true)
    (a19 : PySem.W.nsIn K mainGlobals "_law_odd" = some (some (.ref f19)))
    (l19 : K.lookup f19 = some ⟨oc19, od19, .func (PySem.W.fnOf "_law_odd" "_law_odd" (defArgs sLodd) (defBody sLodd) (defScope sLodd) .none kV19 dc19 pm19 an19 cd19 ct19), sl19⟩)
    (c19 : PySem.W.codeIn K cd19 "_law_odd" = true) (k19 : PySem.W.keepIn K (.ref f19) = true)
    (a20 : PySem.W.nsIn K mainGlobals "_law_is_number" = some (some (.ref f20)))
    (l20 : K.lookup f20 = some ⟨oc20, od20, .func (PySem.W.fnOf "_law_is_number" "_law_is_number" (defArgs sNum) (defBody sNum) (defScope sNum) .none kV20 dc20 pm20 an20 cd20 ct20), sl20⟩)
    (c20 : PySem.W.codeIn K cd20 "_law_is_number" = true) (k20 : PySem.W.keepIn K (.ref f20) = true)
    (a21 : PySem.W.nsIn K mainGlobals "_law_standing_error" = some (some (.ref f21)))
    (l21 : K.lookup f21 = some ⟨oc21, od21, .func (PySem.W.fnOf "_law_standing_error" "_law_standing_error" (defArgs sLserr) (defBody sLserr) (defScope sLserr) .none kV21 dc21 pm21 an21 cd21 ct21), sl21⟩)
    (c21 : PySem.W.codeIn K cd21 "_law_standing_error" = true) (k21 : PySem.W.keepIn K (.ref f21) = true)
    (a22 : PySem.W.nsIn K mainGlobals "_law_is_lot" = some (some (.ref f22)))
    (l22 : K.lookup f22 = some ⟨oc22, od22, .func (PySem.W.fnOf "_law_is_lot" "_law_is_lot" (defArgs sIslot) (defBody sIslot) (defScope sIslot) .none kV22 dc22 pm22 an22 cd22 ct22), sl22⟩)
    (c22 : PySem.W.codeIn K cd22 "_law_is_lot" = true) (k22 : PySem.W.keepIn K (.ref f22) = true)
    (a23 : PySem.W.nsIn K mainGlobals "_law_deed_error" = some (some (.ref f23)))
    (l23 : K.lookup f23 = some ⟨oc23, od23, .func (PySem.W.fnOf "_law_deed_error" "_law_deed_error" (defArgs sLderr) (defBody sLderr) (defScope sLderr) .none kV23 dc23 pm23 an23 cd23 ct23), sl23⟩)
    (c23 : PySem.W.codeIn K cd23 "_law_deed_error" = true) (k23 : PySem.W.keepIn K (.ref f23) = true)
    (a24 : PySem.W.nsIn K mainGlobals "_law_number" = some (some (.ref f24)))
    (l24 : K.lookup f24 = some ⟨oc24, od24, .func (PySem.W.fnOf "_law_number" "_law_number" (defArgs sNumber) (defBody sNumber) (defScope sNumber) .none kV24 dc24 pm24 an24 cd24 ct24), sl24⟩)
    (c24 : PySem.W.codeIn K cd24 "_law_number" = true) (k24 : PySem.W.keepIn K (.ref f24) = true)
    (a25 : PySem.W.nsIn K mainGlobals "_law_about" = some (some (.ref f25)))
    (l25 : K.lookup f25 = some ⟨oc25, od25, .func (PySem.W.fnOf "_law_about" "_law_about" (defArgs sAbout) (defBody sAbout) (defScope sAbout) .none kV25 dc25 pm25 an25 cd25 ct25), sl25⟩)
    (c25 : PySem.W.codeIn K cd25 "_law_about" = true) (k25 : PySem.W.keepIn K (.ref f25) = true)
    (a26 : PySem.W.nsIn K mainGlobals "_law_deed" = some (some (.ref f26)))
    (l26 : K.lookup f26 = some ⟨oc26, od26, .func (PySem.W.fnOf "_law_deed" "_law_deed" (defArgs sDeed) (defBody sDeed) (defScope sDeed) .none kV26 dc26 pm26 an26 cd26 ct26), sl26⟩)
    (c26 : PySem.W.codeIn K cd26 "_law_deed" = true) (k26 : PySem.W.keepIn K (.ref f26) = true)
    (a27 : PySem.W.nsIn K mainGlobals "_law_odd_deed" = some (some (.ref f27)))
    (l27 : K.lookup f27 = some ⟨oc27, od27, .func (PySem.W.fnOf "_law_odd_deed" "_law_odd_deed" (defArgs sOdeed) (defBody sOdeed) (defScope sOdeed) .none kV27 dc27 pm27 an27 cd27 ct27), sl27⟩)
    (c27 : PySem.W.codeIn K cd27 "_law_odd_deed" = true) (k27 : PySem.W.keepIn K (.ref f27) = true)
    (a28 : PySem.W.nsIn K mainGlobals "_law_is_told" = some (some (.ref f28)))
    (l28 : K.lookup f28 = some ⟨oc28, od28, .func (PySem.W.fnOf "_law_is_told" "_law_is_told" (defArgs sTold) (defBody sTold) (defScope sTold) .none kV28 dc28 pm28 an28 cd28 ct28), sl28⟩)
    (c28 : PySem.W.codeIn K cd28 "_law_is_told" = true) (k28 : PySem.W.keepIn K (.ref f28) = true)
    (a29 : PySem.W.nsIn K mainGlobals "_law_two_rings" = some (some (.ref f29)))
    (l29 : K.lookup f29 = some ⟨oc29, od29, .func (PySem.W.fnOf "_law_two_rings" "_law_two_rings" (defArgs sRings) (defBody sRings) (defScope sRings) .none kV29 dc29 pm29 an29 cd29 ct29), sl29⟩)
    (c29 : PySem.W.codeIn K cd29 "_law_two_rings" = true) (k29 : PySem.W.keepIn K (.ref f29) = true)
    (a30 : PySem.W.nsIn K mainGlobals "_law_ring_lots" = some (some (.ref f30)))
    (l30 : K.lookup f30 = some ⟨oc30, od30, .func (PySem.W.fnOf "_law_ring_lots" "_law_ring_lots" (defArgs sRlots) (defBody sRlots) (defScope sRlots) .none kV30 dc30 pm30 an30 cd30 ct30), sl30⟩)
    (c30 : PySem.W.codeIn K cd30 "_law_ring_lots" = true) (k30 : PySem.W.keepIn K (.ref f30) = true)
    (a31 : PySem.W.nsIn K mainGlobals "_law_is_deep" = some (some (.ref f31)))
    (l31 : K.lookup f31 = some ⟨oc31, od31, .func (PySem.W.fnOf "_law_is_deep" "_law_is_deep" (defArgs sDeep) (defBody sDeep) (defScope sDeep) .none kV31 dc31 pm31 an31 cd31 ct31), sl31⟩)
    (c31 : PySem.W.codeIn K cd31 "_law_is_deep" = true) (k31 : PySem.W.keepIn K (.ref f31) = true)
    (a32 : PySem.W.nsIn K mainGlobals "law" = some (some (.ref f32)))
    (l32 : K.lookup f32 = some ⟨oc32, od32, .func (PySem.W.fnOf "law" "law" (defArgs sLaw) (defBody sLaw) (defScope sLaw) .none kV32 dc32 pm32 an32 cd32 ct32), sl32⟩)
    (c32 : PySem.W.codeIn K cd32 "law" = true) (k32 : PySem.W.keepIn K (.ref f32) = true)
    (z_int : PySem.W.nsIn K mainGlobals "int" = some none)
    (z_abs : PySem.W.nsIn K mainGlobals "abs" = some none)
    (z_len : PySem.W.nsIn K mainGlobals "len" = some none)
    (z_range : PySem.W.nsIn K mainGlobals "range" = some none)
    (z_enumerate : PySem.W.nsIn K mainGlobals "enumerate" = some none)
    (z_tuple : PySem.W.nsIn K mainGlobals "tuple" = some none)
    (z_min : PySem.W.nsIn K mainGlobals "min" = some none)
    (z_max : PySem.W.nsIn K mainGlobals "max" = some none)
    (z_sum : PySem.W.nsIn K mainGlobals "sum" = some none)
    (z_repr : PySem.W.nsIn K mainGlobals "repr" = some none)
    (z_list : PySem.W.nsIn K mainGlobals "list" = some none)
    (z_str : PySem.W.nsIn K mainGlobals "str" = some none)
    (z_isinstance : PySem.W.nsIn K mainGlobals "isinstance" = some none)
    (z_bool : PySem.W.nsIn K mainGlobals "bool" = some none)
    (z_sorted : PySem.W.nsIn K mainGlobals "sorted" = some none)
    (z_zip : PySem.W.nsIn K mainGlobals "zip" = some none)
    {tN tT : Tok} (mn : PySem.W.nsIn K mainGlobals "MAX_NUMBER" = some (some (.int 1000000000000 tN))) (mt : PySem.W.nsIn K mainGlobals "MAX_TIMES" = some (some (.int 1000000000000000000000000000000 tT))) :
    ∃ fd : FuncData, (∀ (s : Shared) (v : Value), BindsTo s fd ⟨[v], []⟩ [("_law_script", v)]) ∧
      ∀ base : Heap, K.In base → base.Ns mainGlobals mg → FnG l.prog w K mg base CX0 8 fa fd ["_law_script"] (spLaw K) := by
  have e := hfa.symm.trans (PySem.W.mg_of X G a32)
  cases e
  have T : Bl mg := ⟨PySem.W.mg_none_of X G z_int, PySem.W.mg_none_of X G z_abs, PySem.W.mg_none_of X G z_len, PySem.W.mg_none_of X G z_range, PySem.W.mg_none_of X G z_enumerate, PySem.W.mg_none_of X G z_tuple, PySem.W.mg_none_of X G z_min, PySem.W.mg_none_of X G z_max, PySem.W.mg_none_of X G z_sum, PySem.W.mg_none_of X G z_repr⟩
  have Zlist : mg "list" = none := PySem.W.mg_none_of X G z_list
  have Zstr : mg "str" = none := PySem.W.mg_none_of X G z_str
  have Zisinstance : mg "isinstance" = none := PySem.W.mg_none_of X G z_isinstance
  have Zbool : mg "bool" = none := PySem.W.mg_none_of X G z_bool
  have Zsorted : mg "sorted" = none := PySem.W.mg_none_of X G z_sorted
  have Zzip : mg "zip" = none := PySem.W.mg_none_of X G z_zip
  have MN : mg "MAX_NUMBER" = some (.int (10 ^ 12) tN) := PySem.W.mg_of X G mn
  have MT : mg "MAX_TIMES" = some (.int (10 ^ 30) tT) := PySem.W.mg_of X G mt
  have D0 : Df K mg "_law_box" sBox ["_law_script"] f0 _ := df_mk X G a0 l0 c0 k0 fun _ _ _ _ _ _ us hl => match us, hl with | [_], _ => rfl
  have D1 : Df K mg "_law_draw" sDraw ["_law_box_here", "_law_many"] f1 _ := df_mk X G a1 l1 c1 k1 fun _ _ _ _ _ _ us hl => match us, hl with | [_, _], _ => rfl
  have D2 : Df K mg "_law_pick" sPick ["_law_box_here", "_law_items"] f2 _ := df_mk X G a2 l2 c2 k2 fun _ _ _ _ _ _ us hl => match us, hl with | [_, _], _ => rfl
  have D3 : Df K mg "whole" sWhole ["value"] f3 _ := df_mk X G a3 l3 c3 k3 fun _ _ _ _ _ _ us hl => match us, hl with | [_], _ => rfl
  have D4 : Df K mg "whole_within" sWithin ["value", "low", "high"] f4 _ := df_mk X G a4 l4 c4 k4 fun _ _ _ _ _ _ us hl => match us, hl with | [_, _, _], _ => rfl
  have D5 : Df K mg "row_of" sRow ["value", "many"] f5 _ := df_mk X G a5 l5 c5 k5 fun _ _ _ _ _ _ us hl => match us, hl with | [_, _], _ => rfl
  have D6 : Df K mg "far_end" sFar ["web", "tie", "place"] f6 _ := df_mk X G a6 l6 c6 k6 fun _ _ _ _ _ _ us hl => match us, hl with | [_, _, _], _ => rfl
  have D7 : Df K mg "ways_from" sWays ["web", "ties", "start"] f7 _ := df_mk X G a7 l7 c7 k7 fun _ _ _ _ _ _ us hl => match us, hl with | [_, _, _], _ => rfl
  have D8 : Df K mg "lot_error" sLerr ["web", "value"] f8 _ := df_mk X G a8 l8 c8 k8 fun _ _ _ _ _ _ us hl => match us, hl with | [_, _], _ => rfl
  have D9 : Df K mg "odd_places" sOdd ["web", "lot"] f9 _ := df_mk X G a9 l9 c9 k9 fun _ _ _ _ _ _ us hl => match us, hl with | [_, _], _ => rfl
  have D10 : Df K mg "is_even" sEven ["web", "lot"] f10 _ := df_mk X G a10 l10 c10 k10 fun _ _ _ _ _ _ us hl => match us, hl with | [_, _], _ => rfl
  have D11 : Df K mg "is_round" sIsround ["web", "lot"] f11 _ := df_mk X G a11 l11 c11 k11 fun _ _ _ _ _ _ us hl => match us, hl with | [_, _], _ => rfl
  have D12 : Df K mg "_first_round" sFround ["web", "lot"] f12 _ := df_mk X G a12 l12 c12 k12 fun _ _ _ _ _ _ us hl => match us, hl with | [_, _], _ => rfl
  have D13 : Df K mg "deed_error" sDerr ["web", "value"] f13 _ := df_mk X G a13 l13 c13 k13 fun _ _ _ _ _ _ us hl => match us, hl with | [_, _], _ => rfl
  have D14 : Df K mg "standing_error" sSerr ["web", "value"] f14 _ := df_mk X G a14 l14 c14 k14 fun _ _ _ _ _ _ us hl => match us, hl with | [_, _], _ => rfl
  have D15 : Df K mg "_law_web" sWeb ["_law_box_here", "_law_most", "_law_more"] f15 _ := df_mk X G a15 l15 c15 k15 fun _ _ _ _ _ _ us hl => match us, hl with | [_, _, _], _ => rfl
  have D16 : Df K mg "_law_counts" sCounts ["_law_web_here", "_law_lot"] f16 _ := df_mk X G a16 l16 c16 k16 fun _ _ _ _ _ _ us hl => match us, hl with | [_, _], _ => rfl
  have D17 : Df K mg "_law_is_even" sLeven ["_law_web_here", "_law_lot"] f17 _ := df_mk X G a17 l17 c17 k17 fun _ _ _ _ _ _ us hl => match us, hl with | [_, _], _ => rfl
  have D18 : Df K mg "_law_is_round" sIsr ["_law_web_here", "_law_lot"] f18 _ := df_mk X G a18 l18 c18 k18 fun _ _ _ _ _ _ us hl => match us, hl with | [_, _], _ => rfl
  have D19 : Df K mg "_law_odd" sLodd ["_law_box_here", "_law_thing"] f19 _ := df_mk X G a19 l19 c19 k19 fun _ _ _ _ _ _ us hl => match us, hl with | [_, _], _ => rfl
  have D20 : Df K mg "_law_is_number" sNum ["_law_thing", "_law_most"] f20 _ := df_mk X G a20 l20 c20 k20 fun _ _ _ _ _ _ us hl => match us, hl with | [_, _], _ => rfl
  have D21 : Df K mg "_law_standing_error" sLserr ["_law_web_here", "_law_thing"] f21 _ := df_mk X G a21 l21 c21 k21 fun _ _ _ _ _ _ us hl => match us, hl with | [_, _], _ => rfl
  have D22 : Df K mg "_law_is_lot" sIslot ["_law_web_here", "_law_thing"] f22 _ := df_mk X G a22 l22 c22 k22 fun _ _ _ _ _ _ us hl => match us, hl with | [_, _], _ => rfl
  have D23 : Df K mg "_law_deed_error" sLderr ["_law_web_here", "_law_thing"] f23 _ := df_mk X G a23 l23 c23 k23 fun _ _ _ _ _ _ us hl => match us, hl with | [_, _], _ => rfl
  have D24 : Df K mg "_law_number" sNumber ["_law_box_here", "_law_most"] f24 _ := df_mk X G a24 l24 c24 k24 fun _ _ _ _ _ _ us hl => match us, hl with | [_, _], _ => rfl
  have D25 : Df K mg "_law_about" sAbout ["_law_box_here", "_law_web_here"] f25 _ := df_mk X G a25 l25 c25 k25 fun _ _ _ _ _ _ us hl => match us, hl with | [_, _], _ => rfl
  have D26 : Df K mg "_law_deed" sDeed ["_law_box_here", "_law_web_here"] f26 _ := df_mk X G a26 l26 c26 k26 fun _ _ _ _ _ _ us hl => match us, hl with | [_, _], _ => rfl
  have D27 : Df K mg "_law_odd_deed" sOdeed ["_law_box_here", "_law_web_here", "_law_own"] f27 _ := df_mk X G a27 l27 c27 k27 fun _ _ _ _ _ _ us hl => match us, hl with | [_, _, _], _ => rfl
  have D28 : Df K mg "_law_is_told" sTold ["_law_web_here", "_law_thing", "_law_deed_here", "_law_is_named"] f28 _ := df_mk X G a28 l28 c28 k28 fun _ _ _ _ _ _ us hl => match us, hl with | [_, _, _, _], _ => rfl
  have D29 : Df K mg "_law_two_rings" sRings ["_law_box_here"] f29 _ := df_mk X G a29 l29 c29 k29 fun _ _ _ _ _ _ us hl => match us, hl with | [_], _ => rfl
  have D30 : Df K mg "_law_ring_lots" sRlots ["_law_box_here"] f30 _ := df_mk X G a30 l30 c30 k30 fun _ _ _ _ _ _ us hl => match us, hl with | [_], _ => rfl
  have D31 : Df K mg "_law_is_deep" sDeep ["_law_box_here"] f31 _ := df_mk X G a31 l31 c31 k31 fun _ _ _ _ _ _ us hl => match us, hl with | [_], _ => rfl
  have D32 : Df K mg "law" sLaw ["_law_script"] fa _ := df_mk X G a32 l32 c32 k32 fun _ _ _ _ _ _ us hl => match us, hl with | [_], _ => rfl
  have Ks : KBn K _ ["web", "value"] 0 ["value", "web"] (fun _ ws => ws.reverse) (fun _ zs => zs.reverse) := kbn_mk l14 (fun us ws h1 h2 => match us, ws, h1, h2 with | [], [_, _], _, _ => rfl) (fun r1 r2 => r2.reverse)
  have Kd : KBn K _ ["web", "value"] 0 ["value", "web"] (fun _ ws => ws.reverse) (fun _ zs => zs.reverse) := kbn_mk l13 (fun us ws h1 h2 => match us, ws, h1, h2 with | [], [_, _], _, _ => rfl) (fun r1 r2 => r2.reverse)
  exact ⟨_, fun s v => .of_eq rfl, fun base _ _ => ok_law D32 T Zisinstance Zbool Zsorted Zlist Zzip Zstr MN MT D0 D1 D2 D3 D4 D5 D6 D7 D8 D9 D10 D11 D12 D13 D14 D15 D16 D17 D18 D19 D20 D21 D22 D23 D24 D25 D26 D27 D28 D29 D30 D31 Ks Kd⟩
end BV

open PySem PySem.W PyProof.Rows in
set_option maxRecDepth 100000 in
set_option maxHeartbeats 0 in
theorem PySem.Challenge.cw_botheven_k09_what_are_standings_and_deed_holds : PySem.Challenge.rw_botheven_k09_what_are_standings_and_deed.Holds := by
  w_on; o_law; k_head; (case hw => w_witness2)
  k_fill
  refine BV.walk_ofG (n := 63) (k := 8) (x := "_law_script") (CX := L2.CX0) (sp := BV.spLaw) (l := PySem.Challenge.rw_botheven_k09_what_are_standings_and_deed) rfl (by decide) rfl ⟨rfl, by decide, by decide⟩ (fun w h Y => PySem.W.kIn_of Y) ?F (fun _ _ a ns hl _ _ hS => ⟨a, ns, rfl, hS, hl, fun _ => rfl⟩) fun _ _ _ _ z => z
  case F =>
    intro w mg fa h KX G hmg
    refine' BV.all_mk KX G hmg ?a0 ?l0 ?c0 ?k0 ?a1 ?l1 ?c1 ?k1 ?a2 ?l2 ?c2 ?k2 ?a3 ?l3 ?c3 ?k3 ?a4 ?l4 ?c4 ?k4 ?a5 ?l5 ?c5 ?k5 ?a6 ?l6 ?c6 ?k6 ?a7 ?l7 ?c7 ?k7 ?a8 ?l8 ?c8 ?k8 ?a9 ?l9 ?c9 ?k9 ?a10 ?l10 ?c10 ?k10 ?a11 ?l11 ?c11 ?k11 ?a12 ?l12 ?c12 ?k12 ?a13 ?l13 ?c13 ?k13 ?a14 ?l14 ?c14 ?k14 ?a15 ?l15 ?c15 ?k15 ?a16 ?l16 ?c16 ?k16 ?a17 ?l17 ?c17 ?k17 ?a18 ?l18 ?c18 ?k18 ?a19 ?l19 ?c19 ?k19 ?a20 ?l20 ?c20 ?k20 ?a21 ?l21 ?c21 ?k21 ?a22 ?l22 ?c22 ?k22 ?a23 ?l23 ?c23 ?k23 ?a24 ?l24 ?c24 ?k24 ?a25 ?l25 ?c25 ?k25 ?a26 ?l26 ?c26 ?k26 ?a27 ?l27 ?c27 ?k27 ?a28 ?l28 ?c28 ?k28 ?a29 ?l29 ?c29 ?k29 ?a30 ?l30 ?c30 ?k30 ?a31 ?l31 ?c31 ?k31 ?a32 ?l32 ?c32 ?k32 ?z_int ?z_abs ?z_len ?z_range ?z_enumerate ?z_tuple ?z_min ?z_max ?z_sum ?z_repr ?z_list ?z_str ?z_isinstance ?z_bool ?z_sorted ?z_zip ?mn ?mt
    (case a0 => k_is)
    (case l0 => k_is)
    (case c0 => k_is)
    (case k0 => k_is)
    (case a1 => k_is)
    (case l1 => k_is)
    (case c1 => k_is)
    (case k1 => k_is)
    (case a2 => k_is)
    (case l2 => k_is)
    (case c2 => k_is)
    (case k2 => k_is)
    (case a3 => k_is)
    (case l3 => k_is)
    (case c3 => k_is)
    (case k3 => k_is)
    (case a4 => k_is)
    (case l4 => k_is)
    (case c4 => k_is)
    (case k4 => k_is)
    (case a5 => k_is)
    (case l5 => k_is)
    (case c5 => k_is)
    (case k5 => k_is)
    (case a6 => k_is)
    (case l6 => k_is)
    (case c6 => k_is)
    (case k6 => k_is)
    (case a7 => k_is)
    (case l7 => k_is)
    (case c7 => k_is)
    (case k7 => k_is)
    (case a8 => k_is)
    (case l8 => k_is)
    (case c8 => k_is)
    (case k8 => k_is)
    (case a9 => k_is)
    (case l9 => k_is)
    (case c9 => k_is)
    (case k9 => k_is)
    (case a10 => k_is)
    (case l10 => k_is)
    (case c10 => k_is)
    (case k10 => k_is)
    (case a11 => k_is)
    (case l11 => k_is)
    (case c11 => k_is)
    (case k11 => k_is)
    (case a12 => k_is)
    (case l12 => k_is)
    (case c12 => k_is)
    (case k12 => k_is)
    (case a13 => k_is)
    (case l13 => k_is)
    (case c13 => k_is)
    (case k13 => k_is)
    (case a14 => k_is)
    (case l14 => k_is)
    (case c14 => k_is)
    (case k14 => k_is)
    (case a15 => k_is)
    (case l15 => k_is)
    (case c15 => k_is)
    (case k15 => k_is)
    (case a16 => k_is)
    (case l16 => k_is)
    (case c16 => k_is)
    (case k16 => k_is)
    (case a17 => k_is)
    (case l17 => k_is)
    (case c17 => k_is)
    (case k17 => k_is)
    (case a18 => k_is)
    (case l18 => k_is)
    (case c18 => k_is)
    (case k18 => k_is)
    (case a19 => k_is)
    (case l19 => k_is)
    (case c19 => k_is)
    (case k19 => k_is)
    (case a20 => k_is)
    (case l20 => k_is)
    (case c20 => k_is)
    (case k20 => k_is)
    (case a21 => k_is)
    (case l21 => k_is)
    (case c21 => k_is)
    (case k21 => k_is)
    (case a22 => k_is)
    (case l22 => k_is)
    (case c22 => k_is)
    (case k22 => k_is)
    (case a23 => k_is)
    (case l23 => k_is)
    (case c23 => k_is)
    (case k23 => k_is)
    (case a24 => k_is)
    (case l24 => k_is)
    (case c24 => k_is)
    (case k24 => k_is)
    (case a25 => k_is)
    (case l25 => k_is)
    (case c25 => k_is)
    (case k25 => k_is)
    (case a26 => k_is)
    (case l26 => k_is)
    (case c26 => k_is)
    (case k26 => k_is)
    (case a27 => k_is)
    (case l27 => k_is)
    (case c27 => k_is)
    (case k27 => k_is)
    (case a28 => k_is)
    (case l28 => k_is)
    (case c28 => k_is)
    (case k28 => k_is)
    (case a29 => k_is)
    (case l29 => k_is)
    (case c29 => k_is)
    (case k29 => k_is)
    (case a30 => k_is)
    (case l30 => k_is)
    (case c30 => k_is)
    (case k30 => k_is)
    (case a31 => k_is)
    (case l31 => k_is)
    (case c31 => k_is)
    (case k31 => k_is)
    (case a32 => k_is)
    (case l32 => k_is)
    (case c32 => k_is)
    (case k32 => k_is)
    (case z_int => k_is)
    (case z_abs => k_is)
    (case z_len => k_is)
    (case z_range => k_is)
    (case z_enumerate => k_is)
    (case z_tuple => k_is)
    (case z_min => k_is)
    (case z_max => k_is)
    (case z_sum => k_is)
    (case z_repr => k_is)
    (case z_list => k_is)
    (case z_str => k_is)
    (case z_isinstance => k_is)
    (case z_bool => k_is)
    (case z_sorted => k_is)
    (case z_zip => k_is)
    (case mn => k_is)
    (case mt => k_is)

