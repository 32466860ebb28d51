import PyProof.Rows.All
import Wide.All
import OpenK.AllK
import Wide.FinOn
import HandS.Words
import HandS.WordsList
import HandS.Defaults
import HandS.List
import PyProof.ReprRoads
import HandS.Ends
import HandS.EndBits
import HandS.ForMost
import HandS.TupMul
import HandS.Walk
import HandS.Wide
import KE.GoesEnum
import KE.KTupSum
import KE.KRevSl
import HandS.Style
import PyProof.ReprLen
import HandS.TupAny
import HandS.Zip
import HandS.TupLe
import HandS.IsInst
import HandS.WordsExc
import HandS.ExcIs
import HandS.TryOnly
import HandS.Conv
import HandS.ForDict
import KE.KEqDeep
import PySem.Challenge.RW_botheven_k05_whole_even_lots_and_cuts
set_option Elab.async false
set_option maxRecDepth 100000
set_option maxHeartbeats 4000000
set_option linter.all false
namespace BV
open PySem PySem.Spec PyProof.Rows L2

/-! ### defs that may write texts of data: the same promise, asked only where nothing is being written -/
def CanRun (P : Program) (w : World) (K : PySem.W.Frag) (mg : Str → Option Value) (base : Heap)
    (CX : CXT) (k : Nat) (f : Addr) (fd : FuncData) (ps : List Str) (sp : Sp) : Prop :=
  ∀ (A : Around) (outer : List Env) (s : Shared) (H : Hp) (args : Args) (us : List Value) (vs : List V) (Q : VK) (E : XK),
    A.guards = some [] → Room k A → Env0 P w K mg base A outer s H → BindsTo s fd args (ps.zip us) →
    Vals vs us → sp vs H Q E →
      codeAny (model P w) A (.call (.ref f) args) (CR CX outer P w H s Q E) s

structure FnG (P : Program) (w : World) (K : PySem.W.Frag) (mg : Str → Option Value) (base : Heap)
    (CX : CXT) (k : Nat) (f : Addr) (fd : FuncData) (ps : List Str) (sp : Sp) : Prop where
  len : ∀ vs H Q E, sp vs H Q E → vs.length = ps.length
  run : CanRun P w K mg base CX k f fd ps sp

section
variable {P : Program} {w : World} {K : PySem.W.Frag} {mg : Str → Option Value} {base : Heap} {CX : CXT}

/-- a def's body keeps its promise, the guards told -/
theorem fn_ofG {k : Nat} {f : Addr} {name qual : Str} {params : Arguments} {body : List Stmt} {scope : Scope}
    {dV kV doc pm cdv ct oc : Value} {an od : Option Addr} {osl : Array (Option Value)} {N ps : List Str} {sp : Sp}
    (lk : K.lookup f = some ⟨oc, od, .func (PySem.W.fnOf name qual params body scope dV kV doc pm an cdv ct), osl⟩)
    (hcd : PySem.W.codeIn K cdv qual = true) (S : FnScope N ps scope)
    (len : ∀ vs H Q E, sp vs H Q E → vs.length = ps.length)
    (hbody : ∀ (A : Around) (outer : List Env) (s : Shared) (H : Hp) (vs : List V) (Q : VK) (E : XK), A.guards = some [] →
      Room k (A.deeper (envOfC qual scope s.heap.objs.size f cdv)) → sp vs H Q E →
      ∃ t, PSs (cxOf CX P w K mg base N qual scope f cdv A outer s H E) body t ∧
        t { nx := fun _ H' => Q .non H', rt := Q } (start N vs) H) :
    FnG P w K mg base CX (k + 1) f (PySem.W.fnOf name qual params body scope dV kV doc pm an cdv ct) ps sp := by
  constructor
  · exact len
  · intro A outer s H args us vs Q E hgd hr e0 hb r hsp
    have hl := len _ _ _ _ hsp
    have bk : ∀ b o, base.get? b = some o → s.heap.get? b = some o := fun b o e => (e0.bs b o e).1
    have KX : K.In s.heap := e0.mod.kin.keeps bk
    have hkind : ∀ y ∈ ps.zip us, scope.names.lookup y.1 = some .local ∨
        (scope.names.lookup y.1 = some .cell ∧
          ((cellsFrom (s.heap.objs.size + 1) scope.names []).lookup y.1).isSome = true) := by
      intro y hy
      obtain ⟨n, v⟩ := y
      cases S.par n (List.of_mem_zip hy).1 with
      | inl q => exact Or.inl q
      | inr q => exact Or.inr ⟨q, PySem.W.cellsFrom_some _ _ _ (.inl q)⟩
    refine codeAny_call_function hr.depth (KX _ _ lk) rfl S.co S.gen rfl
      (PySem.W.codeRec_of KX hcd) (hb _ _ _ _ ?_)
    refine wpAny_newFunctionEnv_cells S.kind hkind fun env he s1 x => ?_
    subst he
    refine ⟨(e0.mod.nolimit.keeps bk).keeps x.toInCall.keep, codeAny_func ?_⟩
    obtain ⟨t, ht, hq⟩ := hbody A outer s H vs Q E hgd (hr.deeper _) hsp
    have I := inv_start (CX := CX) (P := P) (w := w) (K := K) (mg := mg) (base := base) (E := E) S hr.hd e0 hl r x
    refine wpAny_mono (ht.run [] s1 (start N vs) H _ I hq) (fun fl s' hs => ?_) fun e s' hs => hs
    cases fl with
    | ret u =>
      obtain ⟨v, σ', H', J, rv, q⟩ := hs
      exact ⟨v, H', J.os, J.bare, J.base, J.hok, rv, q⟩
    | next =>
      obtain ⟨σ', H', J, q⟩ := hs
      exact ⟨V.non, H', J.os, J.bare, J.base, J.hok, rfl, q⟩
    | brk => exact hs.choose_spec.choose_spec.2.elim
    | cont => exact hs.choose_spec.choose_spec.2.elim

theorem okG {x qual : Str} {st : Stmt} {f : Addr} {fd : FuncData} {N ps : List Str} {k : Nat} {sp : Sp}
    (F : Fun K x qual st f fd) (S : FnScope N ps (defScope st)) (len : ∀ vs H Q E, sp vs H Q E → vs.length = ps.length)
    (hbody : ∀ (cdv : Value) (A : Around) (outer : List Env) (s : Shared) (H : Hp) (vs : List V) (Q : VK) (E : XK),
      A.guards = some [] → Room k (A.deeper (envOfC qual (defScope st) s.heap.objs.size f cdv)) → sp vs H Q E →
      ∃ t, PSs (cxOf CX0 P w K mg base N qual (defScope st) f cdv A outer s H E).nox (defBody st) t ∧
        t { nx := fun _ H' => Q .non H', rt := Q } (start N vs) H) :
    FnG P w K mg base CX0 (k + 1) f fd ps sp := by
  obtain ⟨oc, od, kV, doc, pm, an, cdv, ct, osl, e, lk, hcd⟩ := F.ex
  subst e
  refine fn_ofG lk hcd S len fun A outer s H vs Q E hg hr hsp => ?_
  obtain ⟨t, h, q⟩ := hbody cdv A outer s H vs Q E hg hr hsp
  exact ⟨t, h.nox, q⟩

theorem FnG.of {k : Nat} {f : Addr} {fd : FuncData} {ps : List Str} {sp : Sp} (F : FnOk P w K mg base CX k f fd ps sp) :
    FnG P w K mg base CX k f fd ps sp :=
  ⟨F.len, fun A outer s H args us vs Q E _ hr => F.run A outer s H args us vs Q E hr⟩
end

section
variable {X : Cx} {CX : CXT} {k n : Nat} {f : Addr} {fd : FuncData} {ps ks : List Str} {sp : Sp} {dvs : List V} {ds : List Value}
  {E : XK} {x : Str} {p pos : Pos} {e : Expr} {es : List Expr} {t tk : TA} {kws : List Keyword}
  {g : List Value → List Value → List Value} {gV : List V → List V → List V}

/-- the way out of a callee's run -/
theorem back_of {pins : List (Addr × Obj)} {σ : L2.St} {H : Hp} {s s' : Shared} {Q : VK} {r : Result}
    (hx : Passes CX X E) (I : Inv X pins σ H s) (hq : CR CX X.stack X.prog X.w H s Q E r s') :
    match r with
    | .ok (.ret u) => EP X pins σ Q u s'
    | .ok _ => False
    | .error e => X.xe e s' := by
  cases r with
  | error e => exact hx pins σ H s e s' I hq
  | ok fl =>
    cases fl with
    | ret u => exact I.after hq
    | next => exact hq
    | brk => exact hq
    | cont => exact hq

theorem run_fnG {pins : List (Addr × Obj)} {σ : L2.St} {H : Hp} {s : Shared} {Q : VK} {us : List Value} {vs : List V}
    (F : FnG X.prog X.w X.K X.mg X.base CX k f fd ps sp) (hgd : X.A.guards = some []) (hr : Room k X.A)
    (hb : Binds X.K fd ps ds) (hd : Vals dvs ds) (hx : Passes CX X E)
    (I : Inv X pins σ H s) (r : Vals vs us) (h : sp (vs ++ dvs) H Q E) :
    wpAny (model X.prog X.w) X.A (call (.ref f) us) (EP X pins σ Q) X.xe s := by
  have r2 : Vals (vs ++ dvs) (us ++ ds) := r.append hd
  have hl : (us ++ ds).length = ps.length := by
    rw [← r2.length]
    exact F.len _ _ _ _ h
  have c := F.run X.A X.stack s H ⟨us, []⟩ (us ++ ds) (vs ++ dvs) Q E hgd hr I.env0 (hb s us I.kIn hl) r2 h
  refine wpAny_call (codeAny_mono c fun r s' hq => ?_)
  have b := back_of hx I hq
  cases r with
  | error e => exact b
  | ok fl =>
    cases fl with
    | ret u => exact b
    | next => exact b.elim
    | brk => exact b.elim
    | cont => exact b.elim

theorem pe_callG (F : FnG X.prog X.w X.K X.mg X.base CX k f fd ps sp) (hgd : X.A.guards = some []) (hr : Room k X.A)
    (hg : Gl X x) (hm : X.mg x = some (.ref f)) (hk : PySem.W.keepIn X.K (.ref f) = true)
    (hb : Binds X.K fd ps ds) (hd : Vals dvs ds) (hx : Passes CX X E) (ha : PA X (e :: es) t)
    (hdb : (x == ("__debug__" : Str)) = false := by decide)
    (he : starEach (e :: es) X.env = (false, eval e X.env) :: starEach es X.env := by rfl)
    (hpl : (backTo pos (starEach es X.env)).any (·.1) = false := by rfl) :
    PE X (.Call (.Name x p) (e :: es) [] pos) (tCall sp dvs E t) := by
  constructor
  intro pins s σ H Q I h
  refine wpAny_Call_Name_kw (ld_glob I hg hm ?_ hdb)
  refine PySem.W.callWith_K (h₀ := X.base) I.ok.mod.kin hk ?_ he hpl
  refine thn (ha.run pos pins s σ H _ I h) fun us s1 hh => ?_
  obtain ⟨vs, H1, I1, r, q⟩ := hh
  exact ⟨I1.kIn, run_fnG F hgd hr hb hd hx I1 r q⟩

/-- f(k = v, ..), keywords alone -/
def tCallK0 (m : Nat) (sp : Sp) (gV : List V → List V → List V) (E : XK) (tk : TA) : TE :=
  fun σ H Q => tk σ H fun zs H2 => zs.length = m ∧ sp (gV [] zs) H2 Q E

theorem pe_callK0 (F : FnOk X.prog X.w X.K X.mg X.base CX k f fd ps sp) (hr : Room k X.A)
    (hg : Gl X x) (hm : X.mg x = some (.ref f)) (hk : PySem.W.keepIn X.K (.ref f) = true)
    (hb : KBn X.K fd ps 0 ks g gV) (hx : Passes CX X E) (hkw : PK X kws tk)
    (hall : (backToKw pos (keywordEach kws X.env)).all (·.1.isSome) = true := by rfl)
    (hks : (backToKw pos (keywordEach kws X.env)).filterMap (·.1) = ks := by rfl)
    (hdb : (x == ("__debug__" : Str)) = false := by decide)
    (hpl : ((backTo pos (starEach [] X.env)).any (·.1) || (backToKw pos (keywordEach kws X.env)).any (·.1.isNone)) = false := by rfl) :
    PE X (.Call (.Name x p) [] kws pos) (tCallK0 ks.length sp gV E tk) := by
  constructor
  intro pins s σ H Q I h
  refine wpAny_Call_Name_kw (ld_glob I hg hm ?_ hdb)
  refine PySem.W.callWith_KW0 (h₀ := X.base) I.ok.mod.kin hk hall ?_ hpl
  refine thn (hkw.run pos pins s σ H _ I h) fun ws s2 hh => ?_
  obtain ⟨zs, H2, I2, rz, l2, q2⟩ := hh
  refine ⟨I2.kIn, ?_⟩
  rw [hks]
  exact run_fnN (us := []) (vs := []) F hr hb hx I2 .nil rz rfl l2 q2

/-! ### repr of data -/
def Show (d : PyData) : Prop := d.showable = true ∧ d.hasDict = false ∧ d.depth ≤ 40 ∧ d.shown.length ≤ sizeLine

theorem call_reprD (hgd : X.A.guards = some []) (hu : X.A.units + 64 < cLine) :
    CallR X (.builtin "repr") (fun xs H Q => ∃ (x : V) (d : PyData), xs = [x] ∧ Dp X.K H x d ∧ Show d ∧ Q (.str d.shown) H) := by
  intro pins s σ H xs us Q I r h
  obtain ⟨x, d, rfl, hd, ⟨h1, h2, h3, h4⟩, q⟩ := h
  cases r with
  | cons r0 rr =>
    cases rr
    rename_i v
    obtain ⟨as, rd⟩ := Dp.reads I d x v hd r0
    cases rd with
    | list a b c dd =>
      refine repr_of_reads' (.list a b c dd) h1 (PyData.noDict_hsm h2) hgd (by omega) (fun _ _ e => e) (fun h' u tk hk => ?_) h4
      exact ⟨.str _, H, I.kept (t' := tk) hk, ⟨u, rfl⟩, q⟩
    | tuple a b c dd =>
      refine repr_of_reads' (.tuple a b c dd) h1 (PyData.noDict_hsm h2) hgd (by omega) (fun _ _ e => e) (fun h' u tk hk => ?_) h4
      exact ⟨.str _, H, I.kept (t' := tk) hk, ⟨u, rfl⟩, q⟩
    | int i t =>
      refine PySem.P.repr_of_int (by simpa [PyData.showable] using h1) ⟨.str _, H, I.tok _, ⟨_, rfl⟩, ?_⟩
      simpa only [PyData.shown] using q
    | none =>
      refine PySem.P.repr_of_none ⟨.str _, H, I.tok _, ⟨_, rfl⟩, ?_⟩
      simpa only [PyData.shown] using q
    | bool b =>
      refine PySem.P.repr_of_bool ⟨.str _, H, I.tok _, ⟨_, rfl⟩, ?_⟩
      simpa only [PyData.shown] using q
    | str z t =>
      refine PySem.P.repr_of_str ⟨.str _, H, I.tok _, ⟨_, rfl⟩, ?_⟩ (by simpa only [PyData.shown] using h4)
      simpa only [PyData.shown] using q
    | dict a b c dd ee => simp [PyData.hasDict] at h2
end
end BV

namespace BV
open PySem PySem.Spec PyProof.Rows L2

/-- the heap at the law's entry: the script alone is tracked, unless the module wrote it -/
def entryHp (K : PySem.W.Frag) (a : Addr) (vs : List Value) (ns : List Int) : Hp := fun b =>
  if b = a ∧ K.lookup a = none then some (.frz { cls := .type "list", data := .seq vs.toArray } (.lst (ns.map V.int))) else none

section
variable {P : Program} {w : World} {K : PySem.W.Frag} {mg mb : Str → Option Value} {CX : CXT} {k : Nat} {fa a : Addr} {fd : FuncData}
  {x : Str} {sp : Sp} {s₁ : Shared} {vs : List Value} {ns : List Int}

theorem entry_none {b : Addr} (h : ¬ (b = a ∧ K.lookup a = none)) : entryHp K a vs ns b = none := if_neg h
theorem entry_some (h : K.lookup a = none) : entryHp K a vs ns a =
    some (.frz { cls := .type "list", data := .seq vs.toArray } (.lst (ns.map V.int))) := if_pos ⟨rfl, h⟩
theorem entry_only : Only (entryHp K a vs ns) := fun b => by
  by_cases h : b = a ∧ K.lookup a = none
  · exact .inr ⟨_, _, if_pos h⟩
  · exact .inl (if_neg h)

theorem law_callG (KX : K.In s₁.heap) (hns : s₁.heap.Ns mainGlobals mg) (hb : s₁.heap.Ns builtinsNs mb)
    (hbb : ∀ x : Str, x ≠ "__name__" → mb x = bootBuiltins x) (hlim : s₁.heap.NoLimit) (hg : s₁.gens = #[])
    (ha : s₁.heap.get? a = some { cls := .type "list", data := .seq vs.toArray })
    (hi : IntsAre vs ns) (hl : ns.length ≤ sizeLine) (hr : Room k callerA)
    (F : ∀ base : Heap, K.In base → base.Ns mainGlobals mg → FnG P w K mg base CX k fa fd [x] sp)
    (hbind : ∀ (s : Shared) (u : Value), BindsTo s fd ⟨[u], []⟩ [(x, u)])
    (hsp : ∀ H : Hp, Only H → SqL K H a (ns.map V.int) → sp [.ref a] H (fun v _ => v = .bl true) fun _ _ _ => False)
    (hCX : ∀ H e s', CX [] H s₁ (fun _ _ _ => False) e s' → False) :
    codeAny (model P w) callerA (.call (.ref fa) ⟨[.ref a], []⟩)
      (fun r s' => r = .ok (.ret (.bool true)) ∧ OldK s₁.heap s'.heap ∧ s'.os = s₁.os ∧ AllBare s'.gens) s₁ := by
  have rv := vals_ints hi
  let H := entryHp K a vs ns
  have hO : Only H := entry_only
  have hS : SqL K H a (ns.map V.int) := by
    cases hk : K.lookup a with
    | none => exact .inl (.inr ⟨_, entry_some hk⟩)
    | some o =>
      have e := KX a o hk
      rw [ha] at e
      cases e
      refine .inr ⟨_, vs.toArray, _, hk, rfl, rfl, rfl, ?_, by simpa using rv⟩
      rw [List.size_toArray, hi.length]
      exact hl
  have hok : HOk P w H s₁.heap := by
    intro b u e
    by_cases h : b = a ∧ K.lookup a = none
    · have e2 := (if_pos h).symm.trans e
      cases e2
      obtain ⟨rfl, _⟩ := h
      exact ⟨ha, by rw [List.length_map]; exact hl, vs, _, rv, ha⟩
    · cases (entry_none h).symm.trans e
  have at_a : ∀ b, H b ≠ none → b = a ∧ K.lookup a = none := fun b h => by
    by_cases h2 : b = a ∧ K.lookup a = none
    · exact h2
    · exact absurd (entry_none h2) h
  have away : ∀ {b : Addr} {o : Obj}, s₁.heap.get? b = some o → (b = a → K.lookup a = none → False) → (hidT s₁.heap H).get? b = some o :=
    fun {b o} e n => hidT_get e (entry_none fun z => n z.1 z.2)
  have nsK : ∀ {b : Addr} {m : Str → Option Value}, s₁.heap.Ns b m → (hidT s₁.heap H).Ns b m := by
    intro b m h
    obtain ⟨o, es, ep, e, d, r⟩ := h
    refine ⟨o, es, ep, away e fun z _ => ?_, d, r⟩
    subst z
    rw [ha] at e
    cases e
    cases d
  have hKb : K.In (hidT s₁.heap H) := fun b o e => away (KX b o e) fun z n => by
    subst z
    rw [n] at e
    cases e
  obtain ⟨mc, l1, l2⟩ := hlim
  have hM : Mod K mg (hidT s₁.heap H) := ⟨hKb, nsK hns, ⟨mb, nsK hb, hbb⟩, ⟨mc, nsK l1, l2⟩⟩
  have e0 : Env0 P w K mg (hidT s₁.heap H) callerA [] s₁ H :=
    { frames := rfl, mod := hM, bs := fun b o e => of_hidT e, bsz := Nat.le_of_eq (hidT_size _ _), funs := trivial,
      frf := fun b hb => absurd (show b ∈ ([] : List Addr) from hb) (by simp), hok := hok, bare := .of_eq hg }
  have go := (F _ hKb (nsK hns)).run callerA [] s₁ H ⟨[.ref a], []⟩ [.ref a] [.ref a] _ _ rfl hr e0
    (hbind s₁ (.ref a)) (.cons rfl .nil) (hsp H hO hS)
  refine codeAny_mono go fun r s' h => ?_
  cases r with
  | error e => exact (hCX H e s' h).elim
  | ok fl =>
    cases fl with
    | next => exact h.elim
    | brk => exact h.elim
    | cont => exact h.elim
    | ret u =>
      obtain ⟨v, H', os, bare, un, hok', r', q⟩ := h
      have q' : v = .bl true := q
      subst q'
      obtain rfl : u = Value.bool true := r'
      refine ⟨rfl, OldK.of_keep fun b o e => ?_, os, bare⟩
      cases hq : H b with
      | none => exact un.keep b o e hq (fun z => absurd (show b ∈ ([] : List Addr) from z) (by simp)) (by simp)
      | some u =>
        rcases hO b with z | ⟨ob, xs, z⟩
        · rw [hq] at z
          cases z
        · obtain ⟨e1, _⟩ := hok b _ z
          obtain ⟨e2, _⟩ := hok' b _ (un.frzs b ob _ z)
          rw [e] at e1
          cases e1
          exact e2
end

theorem walk_ofG {l : PySem.W.OpenLaw} {n k : Nat} {q : Program} {loose : List Str} {XP : (Str → Option Value) → Heap → Prop}
    {YP : World → Heap → Prop} {d : DefRec} {K : Params → PySem.W.Frag} {CX : CXT} {sp : PySem.W.Frag → Sp} {x : Str}
    (hn : l.most = some n) (hn2 : n ≤ sizeLine) (hdf : d.params.defaults = []) (hr : Room k callerA)
    (hY : ∀ (w : World) (h : Heap), YP w h → (K w.params).In h)
    (F : ∀ (w : World) (mg : Str → Option Value) (fa : Addr) (h : Heap), (K w.params).In h → h.Ns mainGlobals mg → mg d.name = some (.ref fa) →
      ∃ fd : FuncData, (∀ (s : Shared) (u : Value), BindsTo s fd ⟨[u], []⟩ [(x, u)]) ∧
        ∀ base : Heap, (K w.params).In base → base.Ns mainGlobals mg →
          FnG l.prog w (K w.params) mg base CX k fa fd [x] (sp (K w.params)))
    (hsp : ∀ (K : PySem.W.Frag) (H : Hp) (a : Addr) (ns : List Int), ns.length ≤ n → (∀ z ∈ ns, Builtin.Int.intBits z ≤ 1048576) →
      Only H → SqL K H a (ns.map V.int) → sp K [.ref a] H (fun v _ => v = .bl true) fun _ _ _ => False)
    (hCX : ∀ (H : Hp) (s : Shared) (e : Value) (s' : Shared), CX [] H s (fun _ _ _ => False) e s' → False) :
    PySem.W.WalkO q loose XP YP l.row.toRowW d [] (fun f vs => PySem.call f vs) := by
  refine Att.attach_callB hn hdf fun w s₀ s₁ mg mb fa o pm cd doc a vs ns G Y ho hd hcd hmg hobj hints hlen hbits hg => ?_
  have KX := hY w _ Y
  obtain ⟨fd, hb, hF⟩ := F w mg fa _ KX G.T.g hmg
  refine law_callG KX G.T.g G.T.b G.T.builtins G.T.nolimit hg hobj hints (Nat.le_trans hlen hn2) hr hF hb ?_ ?_
  · exact fun H hO hS => hsp (K w.params) H a ns hlen hbits hO hS
  · exact fun H e s' => hCX H s₁ e s'
end BV

namespace BV
open PySem PySem.Spec PyProof.Rows L2
open AutoSeq1 (wpAny_loadPart')

/-! ### enumerate(tuple) -/
theorem meets_enumT (l : Addr) (items : Array Value) (n : Nat) (dct : Option Addr) (sl : Array (Option Value)) :
    Meets (Builtin.«enumerate.__new__» ⟨[.type "enumerate", .ref l], []⟩)
      (fun _ R s => s.heap.get? l = some { cls := .type "tuple", dict := dct, data := .seq items n, slots := sl } ∧
        R (.ok (.ret (.ref (s.heap.push { cls := .type "tuple_iterator", data := .fields #[.ref l, .int 0 0] }).objs.size)))
          { s with heap := ((s.heap.push { cls := .type "tuple_iterator", data := .fields #[.ref l, .int 0 0] }).push
              ({ cls := .type "enumerate", data := .fields #[.none, .bool false, .ref s.heap.objs.size, rawInt 0, .none, .none] } : Obj)) }) := by
  refine .of_wp fun prog w A R s h => ?_
  obtain ⟨hp, g, d, tk, os⟩ := s
  obtain ⟨hl, h⟩ := h
  have hsub := sub_enumerate
  have hL : Heap.IsTuple (Shared.heap ⟨hp, g, d, tk, os⟩) l items := ⟨_, hl, rfl, n, rfl⟩
  wp_walk using wpAny_loadPart' hl
  refine wpAny_stack_any fun st => wpAny_pure ?_
  split
  · rename_i c _ _ _ _ _
    cases (c == Value.type "enumerate") <;>
    · wp_walk using wpAny_loadPart' hl, wpAny_pyIter_tuple hL
      exact ⟨_, rfl, h⟩
  · wp_walk using wpAny_loadPart' hl, wpAny_pyIter_tuple hL
    exact ⟨_, rfl, h⟩

theorem call_enumT {prog : Program} {w : World} {A : Around} {E : Value → Shared → Prop} {s : Shared} {l : Addr} {items : Array Value}
    {Q : Value → Shared → Prop} (hL : s.heap.IsTuple l items)
    (h : ∀ h', IsEnum h' (s.heap.objs.size + 1) s.heap.objs.size 0 .none → h'.IsTupleIter s.heap.objs.size l 0 →
      (∀ b o, s.heap.get? b = some o → h'.get? b = some o) → Q (.ref (s.heap.objs.size + 1)) { s with heap := h' }) :
    wpAny (model prog w) A (call (.type "enumerate") [.ref l]) Q E s := by
  obtain ⟨⟨c, dct, dt, sl⟩, hl, hc, n, hd⟩ := hL
  obtain rfl : c = .type "tuple" := hc
  obtain rfl : dt = .seq items n := hd
  refine callType_new F.called_enumerate (by decide) (F.typeCall_enumerate_1 _) (F.newCall_enumerate_1 _)
    (fun obj => F.args_object_init_2 obj _) F.entry_enumerate_new (meets_enumT l items n dct sl) ⟨hl, ?_⟩
  have hz : (s.heap.push { cls := .type "tuple_iterator", data := .fields #[.ref l, .int 0 0] }).objs.size = s.heap.objs.size + 1 := Heap.size_push ..
  show _ ∧ _
  rw [hz]
  have he : IsEnum ((s.heap.push { cls := .type "tuple_iterator", data := .fields #[.ref l, .int 0 0] }).push
      { cls := .type "enumerate", data := .fields #[.none, .bool false, .ref s.heap.objs.size, rawInt 0, .none, .none] })
      (s.heap.objs.size + 1) s.heap.objs.size 0 .none := by
    have q := Heap.get?_push_size (s.heap.push { cls := .type "tuple_iterator", data := .fields #[.ref l, .int 0 0] })
      (o := { cls := .type "enumerate", data := .fields #[.none, .bool false, .ref s.heap.objs.size, rawInt 0, .none, .none] }) rfl
    rw [hz] at q
    exact q
  refine ⟨⟨_, he, rfl⟩, h _ he ⟨_, Heap.get?_push_of_some _ (Heap.get?_push_size _ rfl), rfl, rfl⟩ ?_⟩
  exact fun b o x => Heap.get?_push_of_some _ (Heap.get?_push_of_some _ x)

/-- the tuple at a, each item in a new pair -/
def ItE (K : PySem.W.Frag) (a : Addr) (xs : List V) : It :=
  ⟨fun i H => SqT K H a xs ∧ i < xs.length,
   fun i H v H' => ∃ T x, v = .ref T ∧ H T = none ∧ H' = upd H T (.tup [.int (i : Nat), x]) ∧ xs[i]? = some x,
   fun i H => SqT K H a xs ∧ i = xs.length⟩

theorem turn_enumT {P : Program} {w : World} {K : PySem.W.Frag} {elts : List Expr} {kk : Nat} {tpos : Pos} (a e it : Addr) (xs : List V)
    (hae : a ≠ it) :
    Turn P w K (.Tuple elts kk tpos) (ItE K a xs) [e, it] e
      (fun i h => (∃ old, IsEnum h e it ((i : Nat) : Int) old) ∧ h.IsTupleIter it a i ∧ e ≠ it ∧ e ≠ a) where
  mem := by simp
  obj := by
    intro i h st b hb
    obtain ⟨⟨old, he⟩, ⟨o, ho, hc, hd⟩, _⟩ := st
    rcases (show b = e ∨ b = it by simpa using hb) with rfl | rfl
    · exact ⟨_, he, fun v q => nomatch q⟩
    · exact ⟨o, ho, fun v q => by rw [hd] at q; cases q⟩
  keep := by
    intro i h h' st k
    obtain ⟨⟨old, he⟩, hi, h1, h2⟩ := st
    exact ⟨⟨old, k e (by simp) _ he⟩, hi.at fun o q => k it (by simp) o q, h1, h2⟩
  item := by
    intro X hP hw hK hc i pins s σ H E I hf st hg
    subst hP hw hK
    obtain ⟨⟨old, he⟩, hit, hne, hea⟩ := st
    obtain ⟨hq, hlt⟩ := hg
    obtain ⟨its, rv, p, hz⟩ := I.tuple hq
    have htu : s.heap.IsTuple a its.toArray := p
    have hlen := rv.length
    have hel : e < s.heap.objs.size := Heap.lt_size he
    have hil : it < s.heap.objs.size := by
      obtain ⟨_, q, _⟩ := hit
      exact Heap.lt_size q
    have D := Draws.tuple (prog := X.prog) (w := X.w) (A := X.A.in1) (I.ok.hd hc) it a hae its.toArray
    have hlt2 : i < its.toArray.size := by rw [List.size_toArray]; omega
    refine wpAny_pyNext_enum_itemD D he ⟨hit, htu⟩ hlt2 hne (by simp [hne, hea]) ?_
    intro u h' tk hu ho hit' hT hsz hk
    refine ⟨_, rfl, wpAny_letOwnedTupleGo_enum (s := { s with heap := h', toks := tk + 1 }) ho fun h'' he' sb => ?_⟩
    have hx : xs[i]? = some xs[i] := by simp [hlt]
    obtain ⟨u', hu', ru⟩ := rv.get hx
    have eu : u' = u := by
      have := hu
      simp only [List.getElem?_toArray] at this
      rw [hu'] at this
      exact Option.some.inj this
    subst eu
    have hT2 : h''.get? s.heap.objs.size = some { cls := .type "tuple", data := .seq #[.int i tk, u'] } := (sb.2 _ (Nat.ne_of_gt hel)).trans hT
    have new : ObjOk X.prog X.w (upd H s.heap.objs.size (.tup [.int (i : Nat), xs[i]])) h'' s.heap.objs.size (.tup [.int (i : Nat), xs[i]]) :=
      ⟨by show 2 ≤ sizeLine; decide, [.int i tk, u'], .cons ⟨_, rfl⟩ (.cons ru .nil), ⟨_, hT2, rfl, _, rfl⟩⟩
    have kk : ∀ b o, b ∉ [e, it] → s.heap.get? b = some o → h''.get? b = some o := by
      intro b ob hb q
      have b1 : b ≠ e := fun z => hb (by simp [z])
      have b2 : b ≠ it := fun z => hb (by simp [z])
      exact (sb.2 b b1).trans (hk b ob b1 b2 q)
    have I1 : Inv X pins σ (upd H s.heap.objs.size (.tup [.int (i : Nat), xs[i]])) { s with heap := h'', toks := tk + 1 } :=
      I.turnedNew (ch := [e, it]) kk hf (Nat.le_refl _) new
    refine ⟨.ref s.heap.objs.size, _, I1, rfl, ⟨_, xs[i], rfl, I.hok.fresh (Nat.le_refl _), rfl, hx⟩,
      ⟨⟨u', ?_⟩, hit'.1.at fun o q => (sb.2 it (Ne.symm hne)).trans q, hne, hea⟩, fun b hb => ?_⟩
    · have e1 : ((i + 1 : Nat) : Int) = (i : Int) + 1 := by omega
      rw [e1]
      exact he'
    · have hb' : b < s.heap.objs.size := by
        rcases (show b = e ∨ b = it by simpa using hb) with rfl | rfl
        · exact hel
        · exact hil
      rw [upd_ne (Nat.ne_of_lt hb')]
      exact (hf b hb).1
  done := by
    intro X hP hw hK hc i pins s σ H E I hf st hg
    subst hP hw hK
    obtain ⟨⟨old, he⟩, hit, hne, hea⟩ := st
    obtain ⟨hq, hlt⟩ := hg
    obtain ⟨its, rv, p, hz⟩ := I.tuple hq
    have htu : s.heap.IsTuple a its.toArray := p
    have hlen := rv.length
    obtain ⟨f0, f1, f2, f3, f4, f5⟩ := hf it (by simp)
    have D := Draws.tuple (prog := X.prog) (w := X.w) (A := X.A.in1) (I.ok.hd hc) it a hae its.toArray
    have e3 : its.toArray.size = i := by rw [List.size_toArray]; omega
    rw [e3] at D
    refine wpAny_pyNext_enum_endD D he ⟨hit, htu⟩ fun h' eb => ⟨rfl, ?_⟩
    exact I.turned (t' := s.toks) (fun b o hb q => eb b o hb q) f0 f1 f3 f4 f5
  self := fun A i s Q E st h => let ⟨⟨_, he⟩, _⟩ := st; wpAny_pyIter_enum he h

def iEnumT (K : PySem.W.Frag) (ta : TA) : TI := fun σ H R => ta σ H fun vs H1 => ∃ a xs, vs = [.ref a] ∧ SqT K H1 a xs ∧ R (ItE K a xs) H1
theorem pi_enumT {X : Cx} {e : Expr} {ta : TA} {p pos tpos : Pos} {elts : List Expr} {kk : Nat} (hg : Gl X "enumerate") (hm : X.mg "enumerate" = none)
    (ha : PA X [e] ta) (hs : starEach [e] X.env = [(false, eval e X.env)] := by rfl) :
    PI X (.Tuple elts kk tpos) (.Call (.Name "enumerate" p) [e] [] pos) (iEnumT X.K ta) := by
  constructor
  intro pins s σ H R I h
  refine Call_ (ld_blt I hg hm boot_enumerate (PyProof.Rows.callWith_type1 (thn (ha.run pos pins s σ H _ I h) fun us s1 hh => ?_) hs rfl))
  obtain ⟨vs, H1, I1, r1, a, xs, ex, hq, q⟩ := hh
  subst ex
  cases r1 with
  | cons r rr =>
    cases rr
    cases r
    obtain ⟨its, rv, p', hz⟩ := I1.tuple hq
    have htu : s1.heap.IsTuple a its.toArray := p'
    have hlt : a < s1.heap.objs.size := by
      obtain ⟨o, ho, _⟩ := htu
      exact Heap.lt_size ho
    refine call_enumT htu fun h' he hit hk => wpAny_pyIter_enum he ?_
    have I2 : Inv X pins σ H1 { s1 with heap := h' } := I1.kept (t' := s1.toks) hk
    refine ⟨s1.heap.objs.size + 1, [s1.heap.objs.size + 1, s1.heap.objs.size], _, _, H1, rfl, I2,
      turn_enumT a (s1.heap.objs.size + 1) s1.heap.objs.size xs (Nat.ne_of_lt hlt),
      ⟨⟨.none, he⟩, hit, Nat.succ_ne_self _, Nat.ne_of_gt (Nat.lt_succ_of_lt hlt)⟩, fun b hb => ?_, q⟩
    have hle : s1.heap.objs.size ≤ b := by
      rcases (show b = s1.heap.objs.size + 1 ∨ b = s1.heap.objs.size by simpa using hb) with z | z
      · rw [z]; exact Nat.le_add_right _ _
      · rw [z]; exact Nat.le_refl _
    exact I1.fpOk hle (I1.hok.fresh hle)
theorem walk_enumT {K : PySem.W.Frag} {a : Addr} {xs : List V} :
    Walk (ItE K a xs) xs.length (fun H => SqT K H a xs) (YPair (fun i => some (.int (i : Nat))) (fun i => xs[i]?)) := by
  refine ⟨fun i H hi q => ⟨q, hi⟩, fun H q => ⟨q, rfl⟩, fun i H v H' _ q y => ?_⟩
  obtain ⟨T, x, h1, h2, h3, h4⟩ := y
  exact ⟨T, .int (i : Nat), x, h1, h2, h3, rfl, h4⟩

/-! ### sum of a tuple of ints -/
theorem cr_sumT {X : Cx} (hc : X.calm = true) : CallR X (.builtin "sum")
    (fun vs H Q => ∃ (a : Addr) (ns : List Int), vs = [V.ref a] ∧ SqT X.K H a (ns.map V.int) ∧ Q (.int ns.sum) H) := by
  intro pins s σ H vs us Q I r h
  obtain ⟨a, ns, rfl, hs, q⟩ := h
  obtain ⟨its, rv, hl, _⟩ := I.tuple hs
  rw [Vals.ref1 r]
  have hi := rv.ints
  obtain ⟨xs, e⟩ := hi.allInts.items
  have hn : numsOf (intItems xs).toList = ns := by rw [← e]; exact hi.numsOf
  rw [nums_intItems] at hn
  have hl2 : s.heap.IsTuple a its.toArray := hl
  rw [e] at hl2
  refine PySem.W.ktm_sumG (I.ok.hd hc) hl2 fun h' tk t' hk => ?_
  rw [preSum_eq, List.take_of_length_le (by simp), hn]
  exact ⟨.int _, H, I.kept hk, ⟨_, rfl⟩, q⟩
end BV

namespace BV
open PySem PySem.Spec PyProof.Rows L2

/-! ### xs[i] of a list, by values, for xs[i] op= e -/
def rGetL (K : PySem.W.Frag) : V → V → Hp → VK → Prop := fun x y H Q => ∃ p xs j z,
  x = .ref p ∧ y = .int ((j : Nat) : Int) ∧ SqL K H p xs ∧ xs[j]? = some z ∧ Q z H
theorem get_list {X : Cx} : PGet X (rGetL X.K) := by
  intro pins s σ H x y v u Q I rx ry h
  obtain ⟨p, xs, j, z, rfl, rfl, hq, he, q⟩ := h
  cases rx
  obtain ⟨t, rfl⟩ := ry
  obtain ⟨its, r, pl, hz⟩ := I.list hq
  obtain ⟨w, ew, rw'⟩ := r.get he
  have hl := r.length
  have hn := line63
  have hj : j < xs.length := (List.getElem?_eq_some_iff.mp he).1
  refine wpAny_getItem_list pl.isList (by omega) (by omega) (by simpa using ew) ?_
  exact ⟨z, H, I, rw', q⟩

/-! ### t[::-1] of a tuple -/
theorem applied_rev {prog : Program} {w : World} {A : Around} {E : Value → Shared → Prop} {s : Shared} {sl : Addr} {vs : Value} {n : Nat}
    {Q : Int × Int × Nat → Shared → Prop} (hs : s.heap.IsSliceOf sl .none .none vs) (ps : IsPart vs (some (-1)))
    (h : Q ((n : Int) - 1, -1, n) s) : wpAny (model prog w) A (Builtin.Slice.sliceApplied (.ref sl) (pure (n : Int))) Q E s := by
  obtain ⟨os, hos, hcs, hds⟩ := id hs
  unfold Builtin.Slice.sliceApplied Builtin.Slice.sliceFields
  refine wpAny_bind (wpAny_bind (wpAny_field hos hds (x := .none) rfl ?_))
  refine wpAny_bind (wpAny_field hos hds (x := .none) rfl ?_)
  refine wpAny_bind (wpAny_field hos hds (x := vs) rfl (wpAny_pure ?_))
  refine wpAny_bind (HT.slicePart_ ps ?_)
  show wpAny _ _ (if ((-1 : Int) == 0) = true then _ else _) _ _ s
  rw [if_neg (by decide)]
  refine wpAny_bind (HT.slicePart_ .none (wpAny_bind (HT.slicePart_ .none (wpAny_bind (wpAny_pure ?_)))))
  have e1 : Builtin.Slice.sliceAdjust none none (-1) (n : Int) = ((n : Int) - 1, -1) := by
    unfold Builtin.Slice.sliceAdjust
    simp
  have e2 : Builtin.Slice.slicePlaces ((n : Int) - 1) (-1) (-1) = n := by
    unfold Builtin.Slice.slicePlaces
    simp
    try omega
  show wpAny _ _ (match Builtin.Slice.sliceAdjust none none (-1) (n : Int) with
    | (lo, hi) => pure (lo, (-1 : Int), Builtin.Slice.slicePlaces lo hi (-1))) _ _ s
  rw [e1]
  show wpAny _ _ (pure ((n : Int) - 1, (-1 : Int), Builtin.Slice.slicePlaces ((n : Int) - 1) (-1) (-1))) _ _ s
  rw [e2]
  exact wpAny_pure h

theorem getItem_rev {prog : Program} {w : World} {A : Around} {E : Value → Shared → Prop} {s : Shared} {t sl : Addr} {items : Array Value} {vs : Value}
    {Q : Value → Shared → Prop} (ht : IsTup s.heap t items) (hs : s.heap.IsSliceOf sl .none .none vs) (ps : IsPart vs (some (-1)))
    (h : Q (.ref s.heap.objs.size) { s with heap := s.heap.push { cls := .type "tuple", data := .seq items.toList.reverse.toArray } })
    (hsz : items.size ≤ sizeLine) : wpAny (model prog w) A (getItem (.ref t) (.ref sl)) Q E s := by
  have hsize : sizeOk (.seq items.toList.reverse.toArray) := by
    show items.toList.reverse.toArray.size ≤ sizeLine
    rw [List.size_toArray, List.length_reverse, Array.length_toList]
    exact hsz
  obtain ⟨os, hos, hcs, hds⟩ := id hs
  have hTs : s.TypeIs (.ref sl) "slice" := ⟨os, hos, hcs⟩
  unfold getItem
  try with_reducible refine wpAny_holding ?_
  first | refine wpAny_bind (wpAny_pure ?_) | skip
  refine wpAny_bind (wpAny_sequenceKey ht.typeIs (by decide) ?_)
  refine wpAny_bind (wpAny_callSpecial?_slot (name := Str.ofString "__getitem__") ht.typeIs PyProof.Rows.slot_tuple_getitem ?_)
  refine wpAny_call_entry PyProof.Rows.slot_tuple_getitem ht.typeIs entry_tuple_getitem ?_ (args_tuple_getitem _ _)
  show wpAny _ _ (Builtin.Tuple.tupleItemsOf (.ref t) >>= _) _ _ s
  refine wpAny_bind (tupleItemsOf_ ht ?_)
  refine wpAny_bind (wpAny_typeOf hTs ?_)
  rw [if_pos (by decide)]
  refine wpAny_bind (applied_rev hs ps ?_)
  have hno : ¬ ((((items.size : Int) - 1) == 0 && (-1 : Int) == 1 && items.size == items.size) = true) := by
    intro q
    rw [Bool.and_eq_true, Bool.and_eq_true] at q
    exact absurd (eq_of_beq q.1.2) (by decide)
  have pick : ((List.range items.size).filterMap fun (k : Nat) => items[(((items.size : Int) - 1) + (k : Int) * (-1)).toNat]?) = items.toList.reverse := by
    have e1 : (fun (k : Nat) => items[(((items.size : Int) - 1) + (k : Int) * (-1)).toNat]?) = fun k => (fun j => items[j]?) ((items.size - 1) - k) := by
      funext k
      have : (((items.size : Int) - 1) + (k : Int) * (-1)).toNat = (items.size - 1) - k := by omega
      rw [this]
    rw [e1]
    have e2 := PySem.W.krv_all items
    have e3 := PySem.W.krv_range items.size
    have e4 : (List.range items.size).filterMap (fun k => (fun j => items[j]?) ((items.size - 1) - k)) =
        ((List.range items.size).map fun k => items.size - 1 - k).filterMap (fun j => items[j]?) := by
      rw [List.filterMap_map]
      rfl
    rw [e4, e3, List.filterMap_reverse, e2]
  show wpAny _ _ (if (((items.size : Int) - 1) == 0 && (-1 : Int) == 1 && items.size == items.size) = true then _ else _) _ _ s
  rw [if_neg hno, pick]
  first
    | exact wpAny_bind (m := Builtin.Tuple.tupleExact _) (wpAny_newObj_type (wpAny_pure ⟨_, rfl, wpAny_pure h⟩) hsize)
    | exact wpAny_bind (m := Builtin.Tuple.tupleExact _) (wpAny_newObj_type (wpAny_bind (wpAny_pure (wpAny_pure ⟨_, rfl, wpAny_pure h⟩))) hsize)
    | exact wpAny_bind (wpAny_bind (m := Builtin.Tuple.tupleExact _) (wpAny_newObj_type (wpAny_pure (wpAny_pure ⟨_, rfl, wpAny_pure h⟩)) hsize))
    | exact wpAny_bind (wpAny_bind (m := Builtin.Tuple.tupleExact _) (wpAny_newObj_type (wpAny_pure ⟨_, rfl, wpAny_pure h⟩) hsize))

/-- t[::-1] -/
def tRevT (K : PySem.W.Frag) (te : TE) : TE := fun σ H Q => te σ H fun x H1 => ∃ a xs, x = .ref a ∧ SqT K H1 a xs ∧
  ∀ p, H1 p = none → Q (.ref p) (upd H1 p (.tup xs.reverse))
theorem pe_revT {X : Cx} {e : Expr} {te : TE} {k : Nat} {p1 p2 p3 pos : Pos} (he : PE X e te) :
    PE X (.Subscript e (.Slice none none (some (.UnaryOp .USub (.Constant (.int 1) k p1) p2)) p3) pos) (tRevT X.K te) := by
  constructor
  intro pins s σ H Q I h
  refine Subscript_ (thn (he.run pins s σ H _ I h) fun v s1 hh => ?_)
  obtain ⟨x, H1, I1, r1, a, xs, ex, hx, q⟩ := hh
  subst ex
  cases r1
  have hst : PO X (some (.UnaryOp .USub (.Constant (.int 1) k p1) p2)) (tPart (tUn (rU fun i => .int (-i)) (tC (.int 1)))) :=
    po_some (pe_un un_neg pe_int)
  refine wpAny_Slice ?_
  rw [evalPart_none]
  refine wpAny_pure (wpAny_pure ?_)
  refine thn (hst.run pins s1 σ H1 (fun o H4 => o = some (-1) ∧ H4 = H1) I1 ⟨1, rfl, -1, rfl, rfl, rfl⟩) fun vs s4 h4 => ?_
  obtain ⟨o, H4, I4, ps, eo, e4⟩ := h4
  subst eo e4
  have I5 : Inv X pins σ H4 { s4 with heap := s4.heap.push { cls := .type "slice", data := .fields #[.none, .none, vs] } } :=
    I4.kept (t' := s4.toks) fun b ob q => Heap.get?_push_of_some _ q
  obtain ⟨its, r, ht, hz⟩ := I5.tuple hx
  have hlen := r.length
  refine tail_any (T := "tuple") (ops := [.ref a, .ref s4.heap.objs.size]) ht.typeIs (PyProof.Rows.slot_tuple_getitem.lookup) ?_ (by with_unfolding_all rfl)
  refine getItem_rev ht (Heap.IsSliceOf.new _ .none .none vs) ps ?_ (by rw [List.size_toArray]; omega)
  refine ⟨.ref _, _, I5.laid (t' := s4.toks) (o := .tup xs.reverse) (fun b ob q => Heap.get?_push_of_some _ q) (Nat.le_refl _) ?_, rfl, q _ (I5.hok.fresh (Nat.le_refl _))⟩
  exact ⟨by rw [List.length_reverse]; exact hz, _, r.reverse, IsTup.new _ _⟩
end BV

namespace BV
open PySem L2

/-! ### a def of the text, by its name -/
structure Df (K : PySem.W.Frag) (mg : Str → Option Value) (x : String) (st : Stmt) (ps : List Str) (f : Addr) (fd : FuncData) : Prop where
  fn : Fun K (Str.ofString x) (Str.ofString x) st f fd
  ad : mg (Str.ofString x) = some (.ref f)
  bd : L2.Binds K fd ps []

/-- the built-in names that the text uses are not its own -/
structure Bl (mg : Str → Option Value) : Prop where
  int : mg "int" = none
  abs : mg "abs" = none
  len : mg "len" = none
  range : mg "range" = none
  enumerate : mg "enumerate" = none
  tuple : mg "tuple" = none
  min : mg "min" = none
  max : mg "max" = none
  sum : mg "sum" = none
  repr : mg "repr" = none

/-! ### heaps -/
theorem same_new {H : Hp} {p : Addr} {o : HO} (h : H p = none) : Same H (upd H p o) := fun b x e => by
  rw [upd_ne (ne_of_none e h)]
  exact e
/-- all but b and g as it was -/
def Kp (b g : Addr) (H H' : Hp) : Prop := ∀ a o, H a = some o → a ≠ b → a ≠ g → H' a = some o
theorem Kp.refl {b g : Addr} (H : Hp) : Kp b g H H := fun _ _ h _ _ => h
theorem Kp.trans {b g : Addr} {H H1 H2 : Hp} (x : Kp b g H H1) (y : Kp b g H1 H2) : Kp b g H H2 :=
  fun a o h n1 n2 => y a o (x a o h n1 n2) n1 n2
theorem Kp.same {b g : Addr} {H H' : Hp} (x : Same H H') : Kp b g H H' := fun a o h _ _ => x a o h
theorem Kp.setb {b g : Addr} {H : Hp} {o : HO} : Kp b g H (upd H b o) := fun a x h n _ => by
  rw [upd_ne n]
  exact h
theorem Kp.setg {b g : Addr} {H : Hp} {o : HO} : Kp b g H (upd H g o) := fun a x h _ n => by
  rw [upd_ne n]
  exact h
theorem Kp.new {b g p : Addr} {H : Hp} {o : HO} (h : H p = none) : Kp b g H (upd H p o) := Kp.same (same_new h)

/-! ### comprehensions that change nothing -/
def era (H : Hp) (D : Addr) : Hp := fun a => if a = D then none else H a
theorem era_at {H : Hp} {D : Addr} : era H D D = none := if_pos rfl
theorem era_ne {H : Hp} {D a : Addr} (h : a ≠ D) : era H D a = H a := if_neg h
theorem era_back {H : Hp} {D : Addr} : Same (era H D) H := fun a o e => by
  by_cases h : a = D
  · subst h
    rw [era_at] at e
    cases e
  · rw [era_ne h] at e
    exact e
theorem era_upd {H : Hp} {D : Addr} {o : HO} : era (upd H D o) D = era H D := by
  funext a
  by_cases h : a = D
  · subst h
    rw [era_at, era_at]
  · rw [era_ne h, era_ne h, upd_ne h]
theorem era_same {H H' : Hp} {D : Addr} (s : Same H H') : Same (era H D) (era H' D) := fun a o e => by
  by_cases h : a = D
  · subst h
    rw [era_at] at e
    cases e
  · rw [era_ne h] at e ⊢
    exact s _ _ e
theorem era_none {H : Hp} {D : Addr} (h : H D = none) : era H D = H := by
  funext a
  by_cases q : a = D
  · subst q
    rw [era_at, h]
  · exact era_ne q

/-- what stands between two turns: the list at D, all else an extension of H1, and R of the list over the heap without D -/
def LcI (H1 : Hp) (D : Addr) (R : Nat → List V → Hp → Prop) (i : Nat) (H : Hp) : Prop :=
  ∃ acc, H D = some (.lst acc) ∧ Same H1 (era H D) ∧ R i acc (era H D)
theorem lc_add {H1 H H4 : Hp} {D : Addr} {R : Nat → List V → Hp → Prop} {i : Nat} {acc : List V} {y : V} (ha : H D = some (.lst acc))
    (e : Same H1 (era H D)) (s : Same H H4) (hl : acc.length < 100000) (r : R i (acc ++ [y]) (era H4 D)) :
    ∃ acc, H4 D = some (.lst acc) ∧ acc.length < sizeLine ∧ LcI H1 D R i (upd H4 D (.lst (acc ++ [y]))) := by
  refine ⟨acc, s _ _ ha, Nat.lt_of_lt_of_le hl (by decide), acc ++ [y], upd_same, ?_, ?_⟩
  · rw [era_upd]
    exact Same.trans e (era_same s)
  · rw [era_upd]
    exact r
theorem lc_skip {H1 H H3 : Hp} {D : Addr} {R : Nat → List V → Hp → Prop} {i : Nat} {acc : List V} (ha : H D = some (.lst acc))
    (e : Same H1 (era H D)) (s : Same H H3) (r : R i acc (era H3 D)) : LcI H1 D R i H3 :=
  ⟨acc, s _ _ ha, Same.trans e (era_same s), r⟩
theorem lc_run {J : It} {n : Nat} {G : Hp → Prop} {Y : Nat → Hp → V → Hp → Prop} (w : Walk J n G Y) {g : TG} {tt : TT} {te : TE} {vs : List Nat}
    {σ : L2.St} {H1 : Hp} {D : Addr} {Qd : Hp → Prop} (hD : H1 D = none) (R : Nat → List V → Hp → Prop)
    (hG : ∀ H, Same H1 H → G H) (h0 : R 0 [] H1)
    (hs : ∀ i x acc H H', i < n → H D = some (.lst acc) → Same H1 (era H D) → Same H1 H → R i acc (era H D) → Y i H x H' →
      g x (wipe σ vs) H' fun σ2 H2 => wipe σ2 vs = wipe σ vs ∧ tt σ2 H2 fun b H3 =>
        if b = true then te σ2 H3 fun y H4 => ∃ acc, H4 D = some (.lst acc) ∧ acc.length < sizeLine ∧ LcI H1 D R (i + 1) (upd H4 D (.lst (acc ++ [y])))
        else LcI H1 D R (i + 1) H3)
    (hd : ∀ acc H, H D = some (.lst acc) → Same H1 H → R n acc (era H D) → Qd H) :
    ∃ W : Nat → Nat → Hp → Prop, (∃ m, W 0 m (upd H1 D (.lst []))) ∧ ∀ i m H, W i m H →
      (J.stop i H ∧ Qd H) ∨ (J.go i H ∧ ∃ Nx : Hp → Prop, (∀ H', Nx H' → ∃ m', m' < m ∧ W (i + 1) m' H') ∧
        ∀ x H', J.yld i H x H' → g x (wipe σ vs) H' fun σ2 H2 => wipe σ2 vs = wipe σ vs ∧ tt σ2 H2 fun b H3 =>
        if b = true then te σ2 H3 fun y H4 => ∃ acc, H4 D = some (.lst acc) ∧ acc.length < sizeLine ∧ Nx (upd H4 D (.lst (acc ++ [y]))) else Nx H3) := by
  refine lc_it w (LcI H1 D R) ?_ ?_ ?_ ?_
  · exact ⟨[], upd_same, by rw [era_upd, era_none hD]; exact Same.refl _, by rw [era_upd, era_none hD]; exact h0⟩
  · rintro i H _ ⟨acc, _, e, _⟩
    exact hG H (Same.trans e era_back)
  · rintro i x H H' hi ⟨acc, ha, e, r⟩ y
    exact hs i x acc H H' hi ha e (Same.trans e era_back) r y
  · rintro H ⟨acc, ha, e, r⟩
    exact hd acc H ha (Same.trans e era_back) r

theorem yes_go {σ : L2.St} {H : Hp} {A B : Hp → Prop} (h : A H) : tYes σ H (fun b H3 => if b = true then A H3 else B H3) := by
  show (if true = true then A H else B H)
  rw [if_pos rfl]
  exact h
/-! ### for loops: what is carried over a turn -/
theorem ints_at {ns : List Int} {i : Nat} {x : V} (h : (ns.map V.int)[i]? = some x) : ∃ z, ns[i]? = some z ∧ x = .int z := by
  rw [List.getElem?_map] at h
  cases e : ns[i]? with
  | none =>
    rw [e] at h
    cases h
  | some z =>
    rw [e] at h
    exact ⟨z, rfl, (Option.some.inj h).symm⟩

/-! ### the box of draws -/
def boxD (g : Addr) (st c : Int) : List (Key × V) :=
  [(Sum.inr "great", .ref g), (Sum.inr "stirred", .int st), (Sum.inr "count", .int c)]
structure Box (H : Hp) (b g : Addr) : Prop where
  bx : ∃ st c : Int, H b = some (.dK (boxD g st c))
  gr : ∃ ns : List Int, H g = some (.lst (ns.map V.int)) ∧ ns.length ≤ 63
theorem Box.ne {H : Hp} {b g : Addr} (x : Box H b g) : b ≠ g := by
  obtain ⟨⟨_, _, h1⟩, _, h2, _⟩ := x
  exact ne_of h1 h2 (by intro z; cases z)
theorem Box.same {H H' : Hp} {b g : Addr} (x : Box H b g) (s : Same H H') : Box H' b g := by
  obtain ⟨⟨st, c, h1⟩, ns, h2, h3⟩ := x
  exact ⟨⟨st, c, s _ _ h1⟩, ns, s _ _ h2, h3⟩

def spBox (K : PySem.W.Frag) : Sp := fun vs H Q _ => ∃ (a : Addr) (ns : List Int), vs = [.ref a] ∧ SqL K H a (ns.map V.int) ∧ ns.length ≤ 63 ∧
  ∀ (b g : Addr) (H' : Hp), H b = none → H g = none → Same H H' → Box H' b g → Q (.ref b) H'
def spDraw : Sp := fun vs H Q _ => ∃ (b g : Addr) (m : Int), vs = [.ref b, .int m] ∧ 0 < m ∧ m < 2 ^ 30 ∧ Box H b g ∧
  ∀ (r : Int) (H' : Hp), 0 ≤ r → r < m → Kp b g H H' → Box H' b g → Q (.int r) H'
end BV

namespace BV
open PySem L2
theorem get_great {H : Hp} {b g : Addr} {st c : Int} (h : H b = some (.dK (boxD g st c))) : DGet H b (.str "great") (some (.ref g)) :=
  DGet.k (k := Sum.inr "great") h
theorem get_stirred {H : Hp} {b g : Addr} {st c : Int} (h : H b = some (.dK (boxD g st c))) : DGet H b (.str "stirred") (some (.int st)) :=
  DGet.k (k := Sum.inr "stirred") h
theorem get_count {H : Hp} {b g : Addr} {st c : Int} (h : H b = some (.dK (boxD g st c))) : DGet H b (.str "count") (some (.int c)) :=
  DGet.k (k := Sum.inr "count") h
theorem put_count {H : Hp} {b g : Addr} {st c d : Int} (h : H b = some (.dK (boxD g st c))) :
    DPut H b (.str "count") (.int d) (upd H b (.dK (boxD g st d))) :=
  DPut.k (k := Sum.inr "count") h (by show 3 < sizeLine; decide)
theorem dpAll_ints {K : PySem.W.Frag} {H : Hp} : ∀ ns : List Int, DpAll K H (ns.map V.int) (ns.map PyData.int)
  | [] => .nil
  | n :: ns => .cons (.int n) (dpAll_ints ns)
theorem lay_ints : ∀ ns : List Int, PyData.canLayAll0 (ns.map PyData.int) = true
  | [] => by simp [PyData.canLayAll0]
  | n :: ns => by simp [PyData.canLayAll0, PyData.canLay0, lay_ints ns]
theorem deep_ints : ∀ ns : List Int, PyData.depthAll (ns.map PyData.int) ≤ 1
  | [] => by simp [PyData.depthAll]
  | n :: ns => by
    have := deep_ints ns
    simp only [List.map_cons, PyData.depthAll, PyData.depth]
    omega
theorem shaped_intsL (ns : List Int) : SeqAt.shaped (.list (ns.map PyData.int)) = true := by
  have h1 := lay_ints ns
  have h2 := deep_ints ns
  have h3 : PyData.depthAll (ns.map PyData.int) + 1 ≤ 64 := by omega
  simp [SeqAt.shaped, PyData.canLay0, PyData.depth, h1, h3]
end BV

namespace BV
open PySem L2
theorem ix_nat {n j : Nat} (h : j < n) : ixN n (j : Int) = some j := by
  unfold ixN
  rw [if_pos (by omega), if_pos (by omega), Int.toNat_natCast]
theorem seq_nat {n j : Nat} (h : j < n) : seqIndex? (j : Int) n = some j := (ixN_seq (ix_nat h)).1
end BV

namespace BV
open PySem L2
theorem Kp.seq {K : PySem.W.Frag} {b g l : Addr} {H H' : Hp} {xs : List V} (k : Kp b g H H') (h1 : l ≠ b) (h2 : l ≠ g) (h : SqL K H l xs) : SqL K H' l xs := by
  rcases h with (h | ⟨o, h⟩) | h
  · exact .inl (.inl (k _ _ h h1 h2))
  · exact .inl (.inr ⟨o, k _ _ h h1 h2⟩)
  · exact .inr h
def spPick (K : PySem.W.Frag) : Sp := fun vs H Q _ => ∃ (b g l : Addr) (xs : List V), vs = [.ref b, .ref l] ∧ SqL K H l xs ∧ l ≠ b ∧ l ≠ g ∧
  0 < xs.length ∧ xs.length < 1000000 ∧ Box H b g ∧ ∀ (j : Nat) (v : V) (H' : Hp), xs[j]? = some v → Kp b g H H' → Box H' b g → Q v H'
end BV

namespace BV
open PySem L2
/-- what follows is shown once, for all ways through -/
theorem tIf_by {t : TT} {ta tb : TE} {σ : L2.St} {H : Hp} {Q : VK} (P : V → Hp → Prop) (cont : ∀ v H', P v H' → Q v H')
    (h : (∀ v H', P v H' → Q v H') → tIf t ta tb σ H Q) : tIf t ta tb σ H Q := h cont
theorem tIfS_by {c : TT} {t u : TS} {D : Ends} {σ : L2.St} {H : Hp} (P : L2.St → Hp → Prop) (cont : ∀ σ' H', P σ' H' → D.nx σ' H')
    (h : (∀ σ' H', P σ' H' → D.nx σ' H') → tIfS c t u D σ H) : tIfS c t u D σ H := h cont
end BV

namespace BV
open PySem L2
theorem tSeq_go {t u : TS} {D : Ends} {σ : L2.St} {H : Hp} (h : t { D with nx := u D } σ H) : tSeq t u D σ H := h
/-- for .. in range(e): what follows e, once for all ways through e -/
def rngK (g : TG) (tb : TS) (D : Ends) (σ : L2.St) (v : V) (H1 : Hp) : Prop := ∃ j : Int, [v] = [V.int j] ∧ -(2 ^ 62) ≤ j ∧ j < 2 ^ 62 ∧
  ∃ W : Nat → Nat → L2.St → Hp → Prop, (∃ m, W 0 m σ H1) ∧ ∀ i m σ H, W i m σ H →
    ((Itr 0 j.toNat).stop i H ∧ D.nx σ H) ∨ ((Itr 0 j.toNat).go i H ∧ ∃ N : L2.St → Hp → Prop, (∀ σ' H', N σ' H' → ∃ m', m' < m ∧ W (i + 1) m' σ' H') ∧
      ∀ x H', (Itr 0 j.toNat).yld i H x H' → g x σ H' fun σ2 H2 => tb { D with nx := N, ct := N, bk := D.nx } σ2 H2)
theorem for_rng1_by {te : TE} {g : TG} {tb : TS} {D : Ends} {σ : L2.St} {H : Hp} (P : V → Hp → Prop)
    (loop : ∀ v H', P v H' → rngK g tb D σ v H') (h : (∀ v H', P v H' → rngK g tb D σ v H') → te σ H (rngK g tb D σ)) :
    tFor (iRng1 (tCons te tNil)) g tb D σ H := h loop
end BV

namespace BV
open PySem L2
theorem tIfS_t {c : TT} {t u : TS} {D : Ends} {σ : L2.St} {H : Hp} (R : Bool → Hp → Prop) (ht : ∀ H', R true H' → t D σ H') (hu : ∀ H', R false H' → u D σ H')
    (h : (∀ b H', R b H' → if b = true then t D σ H' else u D σ H') → c σ H fun b H' => if b = true then t D σ H' else u D σ H') : tIfS c t u D σ H := by
  refine h fun b H' r => ?_
  cases b with
  | true => exact iteT (ht H' r)
  | false => exact iteF (hu H' r)
end BV

namespace BV
open PySem L2

/-! ### webs as data -/
abbrev Tie := Nat × Nat
def tieD (t : Tie) : PyData := .tuple [.int t.1, .int t.2]
def tiesD (ts : List Tie) : PyData := .tuple (ts.map tieD)
def webD (n : Nat) (ts : List Tie) : PyData := .tuple [.int n, tiesD ts]
structure WebOk (n : Nat) (ts : List Tie) : Prop where
  pos : 1 ≤ n
  ends : ∀ t ∈ ts, t.1 < t.2 ∧ t.2 < n
  hang : ∀ p, 1 ≤ p → p < n → ∃ q, q < p ∧ (q, p) ∈ ts

/-- the ends of a tie stand at v -/
def TieAt (H : Hp) (v : V) (t : Tie) : Prop := ∃ p, v = .ref p ∧ H p = some (.tup [.int t.1, .int t.2])
/-- tuples stay -/
def KT (H H' : Hp) : Prop := ∀ a xs, H a = some (.tup xs) → H' a = some (.tup xs)
theorem KT.of_same {H H' : Hp} (s : Same H H') : KT H H' := fun a xs h => s _ _ h
theorem KT.of_kp {b g : Addr} {H H' : Hp} (k : Kp b g H H') (x : Box H b g) : KT H H' := fun a xs h => by
  obtain ⟨⟨_, _, h1⟩, _, h2, _⟩ := x
  exact k _ _ h (ne_of h h1 (by intro z; cases z)) (ne_of h h2 (by intro z; cases z))
theorem KT.of_upd {H : Hp} {l : Addr} {xs ys : List V} (h : H l = some (.lst xs)) : KT H (upd H l (.lst ys)) := fun a zs e => by
  rw [upd_ne (ne_of e h (by intro z; cases z))]
  exact e
theorem TieAt.kt {H H' : Hp} {v : V} {t : Tie} (h : TieAt H v t) (k : KT H H') : TieAt H' v t := by
  obtain ⟨p, e, hp⟩ := h
  exact ⟨p, e, k _ _ hp⟩

abbrev Ties (H : Hp) : List V → List Tie → Prop := Paired (TieAt H)
theorem Ties.kt {H H' : Hp} (k : KT H H') : ∀ {xs : List V} {ts : List Tie}, Ties H xs ts → Ties H' xs ts
  | _, _, .nil => .nil
  | _, _, .cons a r => .cons (a.kt k) (Ties.kt k r)
theorem Ties.app {H : Hp} : ∀ {xs : List V} {ts : List Tie} {v : V} {t : Tie}, Ties H xs ts → TieAt H v t → Ties H (xs ++ [v]) (ts ++ [t])
  | _, _, _, _, .nil, h => .cons h .nil
  | _, _, _, _, .cons a r, h => .cons a (Ties.app r h)
theorem Ties.era {H : Hp} : ∀ {xs : List V} {ts : List Tie} (j : Nat), Ties H xs ts → Ties H (xs.eraseIdx j) (ts.eraseIdx j)
  | _, _, _, .nil => .nil
  | _, _, 0, .cons a r => r
  | _, _, j + 1, .cons a r => .cons a (Ties.era j r)
theorem Ties.get {H : Hp} : ∀ {xs : List V} {ts : List Tie} {j : Nat} {t : Tie}, Ties H xs ts → ts[j]? = some t → ∃ v, xs[j]? = some v ∧ TieAt H v t
  | _, _, _, _, .nil, h => by simp at h
  | _, _, 0, _, .cons a r, h => by
    simp at h
    subst h
    exact ⟨_, rfl, a⟩
  | _, _, j + 1, t, .cons a r, h => by
    obtain ⟨v, h1, h2⟩ := Ties.get (j := j) (t := t) r (by simpa using h)
    exact ⟨v, by simpa using h1, h2⟩
theorem Ties.at {H : Hp} : ∀ {xs : List V} {ts : List Tie} {j : Nat} {v : V}, Ties H xs ts → xs[j]? = some v → ∃ t, ts[j]? = some t ∧ TieAt H v t
  | _, _, _, _, .nil, h => by simp at h
  | _, _, 0, _, .cons a r, h => by
    simp at h
    subst h
    exact ⟨_, rfl, a⟩
  | _, _, j + 1, v, .cons a r, h => by
    obtain ⟨t, h1, h2⟩ := Ties.at (j := j) (v := v) r (by simpa using h)
    exact ⟨t, by simpa using h1, h2⟩
theorem Ties.dp {K : PySem.W.Frag} {H : Hp} : ∀ {xs : List V} {ts : List Tie}, Ties H xs ts → DpAll K H xs (ts.map tieD)
  | _, _, .nil => .nil
  | _, _, .cons h r => by
    obtain ⟨p, rfl, hp⟩ := h
    exact .cons (.tup (SqT.of hp) (.cons (.int _) (.cons (.int _) .nil))) (Ties.dp r)

/-- taking one out and laying it behind -/
theorem perm_move : ∀ (ts fs : List Tie) (j : Nat) (t : Tie), ts[j]? = some t → (ts.eraseIdx j ++ (fs ++ [t])).Perm (ts ++ fs) := by
  intro ts fs j t h
  have h1 : (t :: ts.eraseIdx j).Perm ts := by
    induction ts generalizing j with
    | nil => simp at h
    | cons a r ih =>
      cases j with
      | zero =>
        simp at h
        subst h
        exact .refl _
      | succ j =>
        have := ih j (by simpa using h)
        simp only [List.eraseIdx_cons_succ]
        exact (List.Perm.swap a t _).trans (this.cons a)
  have h2 : (ts.eraseIdx j ++ (fs ++ [t])).Perm (t :: (ts.eraseIdx j ++ fs)) := by
    rw [← List.append_assoc]
    exact List.perm_append_comm
  exact h2.trans (by simpa using h1.append_right fs)

/-- two lists of ties that grow, new since H0 -/
structure WI (b g l l2 : Addr) (H0 H : Hp) (ts fs : List Tie) : Prop where
  kp : Kp b g H0 H
  bx : Box H b g
  n1 : H0 l = none
  n2 : H0 l2 = none
  d1 : l ≠ b
  d2 : l ≠ g
  d3 : l2 ≠ b
  d4 : l2 ≠ g
  d5 : l ≠ l2
  tl : ∃ xs, H l = some (.lst xs) ∧ Ties H xs ts
  fl : ∃ ys, H l2 = some (.lst ys) ∧ Ties H ys fs
section
variable {b g l l2 p : Addr} {H0 H H' : Hp} {ts fs : List Tie} {v : V} {t : Tie} {xs : List V}
theorem WI.draw (w : WI b g l l2 H0 H ts fs) (k : Kp b g H H') (x : Box H' b g) : WI b g l l2 H0 H' ts fs := by
  obtain ⟨kp, bx, n1, n2, d1, d2, d3, d4, d5, ⟨xs, h1, h2⟩, ⟨ys, h3, h4⟩⟩ := w
  have kt := KT.of_kp k bx
  exact ⟨kp.trans k, x, n1, n2, d1, d2, d3, d4, d5, ⟨xs, k _ _ h1 d1 d2, h2.kt kt⟩, ⟨ys, k _ _ h3 d3 d4, h4.kt kt⟩⟩
theorem WI.same (w : WI b g l l2 H0 H ts fs) (s : Same H H') : WI b g l l2 H0 H' ts fs := w.draw (Kp.same s) (w.bx.same s)
theorem WI.app (w : WI b g l l2 H0 H ts fs) (h : H l = some (.lst xs)) (hv : TieAt H v t) : WI b g l l2 H0 (upd H l (.lst (xs ++ [v]))) (ts ++ [t]) fs := by
  obtain ⟨kp, bx, n1, n2, d1, d2, d3, d4, d5, ⟨zs, h1, h2⟩, ⟨ys, h3, h4⟩⟩ := w
  rw [h] at h1
  cases h1
  have kt : KT H (upd H l (.lst (xs ++ [v]))) := KT.of_upd h
  refine ⟨fun a o q q1 q2 => ?_, ?_, n1, n2, d1, d2, d3, d4, d5, ⟨_, upd_same, (h2.kt kt).app (hv.kt kt)⟩, ⟨ys, ?_, h4.kt kt⟩⟩
  · rw [upd_ne (ne_of_none q n1)]
    exact kp _ _ q q1 q2
  · obtain ⟨⟨st, c, x1⟩, ns, x2, x3⟩ := bx
    exact ⟨⟨st, c, by rw [upd_ne d1.symm]; exact x1⟩, ns, by rw [upd_ne d2.symm]; exact x2, x3⟩
  · rw [upd_ne d5.symm]
    exact h3
theorem WI.swap (w : WI b g l l2 H0 H ts fs) : WI b g l2 l H0 H fs ts := by
  obtain ⟨kp, bx, n1, n2, d1, d2, d3, d4, d5, t1, t2⟩ := w
  exact ⟨kp, bx, n2, n1, d3, d4, d1, d2, d5.symm, t2, t1⟩
theorem WI.pop (w : WI b g l l2 H0 H ts fs) (h : H l = some (.lst xs)) (j : Nat) : WI b g l l2 H0 (upd H l (.lst (xs.eraseIdx j))) (ts.eraseIdx j) fs := by
  obtain ⟨kp, bx, n1, n2, d1, d2, d3, d4, d5, ⟨zs, h1, h2⟩, ⟨ys, h3, h4⟩⟩ := w
  rw [h] at h1
  cases h1
  have kt : KT H (upd H l (.lst (xs.eraseIdx j))) := KT.of_upd h
  refine ⟨fun a o q q1 q2 => ?_, ?_, n1, n2, d1, d2, d3, d4, d5, ⟨_, upd_same, (h2.kt kt).era j⟩, ⟨ys, ?_, h4.kt kt⟩⟩
  · rw [upd_ne (ne_of_none q n1)]
    exact kp _ _ q q1 q2
  · obtain ⟨⟨st, c, x1⟩, ns, x2, x3⟩ := bx
    exact ⟨⟨st, c, by rw [upd_ne d1.symm]; exact x1⟩, ns, by rw [upd_ne d2.symm]; exact x2, x3⟩
  · rw [upd_ne d5.symm]
    exact h3
end

def spWeb (K : PySem.W.Frag) : Sp := fun vs H Q _ => ∃ (b g : Addr) (most more : Nat), vs = [.ref b, .int most, .int more] ∧ 1 ≤ most ∧ most ≤ 1000 ∧ more ≤ 1000 ∧ Box H b g ∧
  ∀ (p : Addr) (n : Nat) (ts : List Tie) (H' : Hp), Kp b g H H' → Box H' b g → Dp K H' (.ref p) (webD n ts) → WebOk n ts → n ≤ most → ts.length + 1 ≤ n + more →
    (n = 1 → ts = []) → Q (.ref p) H'
end BV

namespace BV
open PySem L2

/-! ### data that is read -/
section
variable {K : PySem.W.Frag} {H H' : Hp}
theorem sqT_same {a : Addr} {xs : List V} (s : Same H H') (h : SqT K H a xs) : SqT K H' a xs := by
  rcases h with (h | ⟨o, h⟩) | h
  · exact .inl (.inl (s _ _ h))
  · exact .inl (.inr ⟨o, s _ _ h⟩)
  · exact .inr h
mutual
theorem dp_same (s : Same H H') : ∀ (d : PyData) {v : V}, Dp K H v d → Dp K H' v d
  | .none, _, h => by cases h; exact .non
  | .bool b, _, h => by cases h; exact .bl b
  | .int i, _, h => by cases h; exact .int i
  | .str x, _, h => by cases h; exact .str x
  | .list ds, _, h => by
    cases h with
    | lst h1 h2 => exact .lst (Same.seq s h1) (dpAll_same s ds h2)
  | .tuple ds, _, h => by
    cases h with
    | tup h1 h2 => exact .tup (sqT_same s h1) (dpAll_same s ds h2)
  | .dict _, _, h => by cases h
theorem dpAll_same (s : Same H H') : ∀ (ds : List PyData) {vs : List V}, DpAll K H vs ds → DpAll K H' vs ds
  | [], _, h => by cases h; exact .nil
  | d :: ds, _, h => by
    cases h with
    | cons h1 h2 => exact .cons (dp_same s d h1) (dpAll_same s ds h2)
end

/-- what is locked or a tuple stays -/
def KF (H H' : Hp) : Prop := ∀ a o, H a = some o → (∃ xs, o = .tup xs ∨ ∃ ob, o = .frz ob (.tup xs)) → H' a = some o
theorem KF.of_same (s : Same H H') : KF H H' := fun a o h _ => s a o h
theorem KF.of_kp {b g : Addr} (k : Kp b g H H') (x : Box H b g) : KF H H' := fun a o h q => by
  obtain ⟨⟨_, _, h1⟩, _, h2, _⟩ := x
  obtain ⟨xs, rfl | ⟨ob, rfl⟩⟩ := q
  · exact k _ _ h (ne_of h h1 (by intro z; cases z)) (ne_of h h2 (by intro z; cases z))
  · exact k _ _ h (ne_of h h1 (by intro z; cases z)) (ne_of h h2 (by intro z; cases z))
theorem KF.trans {H'' : Hp} (x : KF H H') (y : KF H' H'') : KF H H'' := fun a o h q => y a o (x a o h q) q
theorem KF.of_upd {l : Addr} {xs ys : List V} (h : H l = some (.lst xs)) : KF H (upd H l (.lst ys)) := fun a o e q => by
  obtain ⟨zs, rfl | ⟨ob, rfl⟩⟩ := q
  · rw [upd_ne (ne_of e h (by intro z; cases z))]
    exact e
  · rw [upd_ne (ne_of e h (by intro z; cases z))]
    exact e
theorem sqT_kf {a : Addr} {xs : List V} (s : KF H H') (h : SqT K H a xs) : SqT K H' a xs := by
  rcases h with (h | ⟨o, h⟩) | h
  · exact .inl (.inl (s _ _ h ⟨xs, .inl rfl⟩))
  · exact .inl (.inr ⟨o, s _ _ h ⟨xs, .inr ⟨o, rfl⟩⟩⟩)
  · exact .inr h
mutual
/-- data without a list in it -/
def still : PyData → Bool
  | .none | .bool _ | .int _ | .str _ => true
  | .list _ | .dict _ => false
  | .tuple ds => stillAll ds
def stillAll : List PyData → Bool
  | [] => true
  | d :: ds => still d && stillAll ds
end
mutual
theorem dp_kf (s : KF H H') : ∀ (d : PyData) {v : V}, still d = true → Dp K H v d → Dp K H' v d
  | .none, _, _, h => by cases h; exact .non
  | .bool b, _, _, h => by cases h; exact .bl b
  | .int i, _, _, h => by cases h; exact .int i
  | .str x, _, _, h => by cases h; exact .str x
  | .list ds, _, q, h => by simp [still] at q
  | .tuple ds, _, q, h => by
    cases h with
    | tup h1 h2 => exact .tup (sqT_kf s h1) (dpAll_kf s ds (by simpa [still] using q) h2)
  | .dict _, _, _, h => by cases h
theorem dpAll_kf (s : KF H H') : ∀ (ds : List PyData) {vs : List V}, stillAll ds = true → DpAll K H vs ds → DpAll K H' vs ds
  | [], _, _, h => by cases h; exact .nil
  | d :: ds, _, q, h => by
    have q' : still d = true ∧ stillAll ds = true := by simpa [stillAll] using q
    cases h with
    | cons h1 h2 => exact .cons (dp_kf s d q'.1 h1) (dpAll_kf s ds q'.2 h2)
end
theorem dpAll_len : ∀ {ds : List PyData} {vs : List V}, DpAll K H vs ds → vs.length = ds.length
  | [], _, h => by cases h; rfl
  | d :: ds, _, h => by
    cases h with
    | cons h1 h2 => exact congrArg Nat.succ (dpAll_len h2)
theorem dpAll_get : ∀ {ds : List PyData} {vs : List V} {i : Nat} {v : V}, DpAll K H vs ds → vs[i]? = some v → ∃ d, ds[i]? = some d ∧ Dp K H v d
  | [], _, _, _, h, e => by cases h; simp at e
  | d :: ds, _, 0, _, h, e => by
    cases h with
    | cons h1 h2 =>
      simp at e
      subst e
      exact ⟨d, rfl, h1⟩
  | d :: ds, _, i + 1, v, h, e => by
    cases h with
    | cons h1 h2 =>
      obtain ⟨d', a, b⟩ := dpAll_get (i := i) (v := v) h2 (by simpa using e)
      exact ⟨d', by simpa using a, b⟩
theorem dpAll_at : ∀ {ds : List PyData} {vs : List V} {i : Nat} {d : PyData}, DpAll K H vs ds → ds[i]? = some d → ∃ v, vs[i]? = some v ∧ Dp K H v d
  | [], _, _, _, h, e => by simp at e
  | d :: ds, _, 0, _, h, e => by
    cases h with
    | cons h1 h2 =>
      simp at e
      subst e
      exact ⟨_, rfl, h1⟩
  | d :: ds, _, i + 1, v, h, e => by
    cases h with
    | cons h1 h2 =>
      obtain ⟨d', a, b⟩ := dpAll_at (i := i) (d := v) h2 (by simpa using e)
      exact ⟨d', by simpa using a, b⟩
theorem dpAll_app : ∀ {ds es : List PyData} {vs us : List V}, DpAll K H vs ds → DpAll K H us es → DpAll K H (vs ++ us) (ds ++ es)
  | [], _, _, _, h, g => by cases h; exact g
  | d :: ds, _, _, _, h, g => by
    cases h with
    | cons h1 h2 => exact .cons h1 (dpAll_app h2 g)
theorem dpAll_ints' : ∀ {ns : List Int} {vs : List V}, DpAll K H vs (ns.map PyData.int) → vs = ns.map V.int
  | [], _, h => by cases h; rfl
  | n :: ns, _, h => by
    cases h with
    | cons h1 h2 =>
      cases h1
      rw [dpAll_ints' h2]
      rfl
theorem dp_tup {v : V} {ds : List PyData} (h : Dp K H v (.tuple ds)) : ∃ a xs, v = .ref a ∧ SqT K H a xs ∧ DpAll K H xs ds := by
  cases h with
  | tup h1 h2 => exact ⟨_, _, rfl, h1, h2⟩
theorem dp_lst {v : V} {ds : List PyData} (h : Dp K H v (.list ds)) : ∃ a xs, v = .ref a ∧ SqL K H a xs ∧ DpAll K H xs ds := by
  cases h with
  | lst h1 h2 => exact ⟨_, _, rfl, h1, h2⟩
theorem dp_tie {v : V} {t : Tie} (h : Dp K H v (tieD t)) : ∃ a, v = .ref a ∧ SqT K H a [.int t.1, .int t.2] := by
  obtain ⟨a, xs, e, h1, h2⟩ := dp_tup h
  have q : xs = [.int t.1, .int t.2] := dpAll_ints' (ns := [t.1, t.2]) h2
  subst q
  exact ⟨a, e, h1⟩
theorem dp_web {v : V} {n : Nat} {ts : List Tie} (h : Dp K H v (webD n ts)) :
    ∃ a c ys, v = .ref a ∧ SqT K H a [.int n, .ref c] ∧ SqT K H c ys ∧ DpAll K H ys (ts.map tieD) := by
  obtain ⟨a, xs, e, h1, h2⟩ := dp_tup h
  cases h2 with
  | cons q1 q2 =>
    cases q1
    cases q2 with
    | cons q3 q4 =>
      cases q4
      obtain ⟨c, ys, e3, h3, h4⟩ := dp_tup q3
      subst e3
      exact ⟨a, c, ys, e, h1, h3, h4⟩
theorem still_ties : ∀ ts : List Tie, stillAll (ts.map tieD) = true
  | [] => by simp [stillAll]
  | t :: ts => by simp [stillAll, tieD, still, still_ties ts]
theorem still_web (n : Nat) (ts : List Tie) : still (webD n ts) = true := by simp [webD, tiesD, still, stillAll, still_ties ts]
end

/-! ### lots -/
def lotD (ks : List Nat) : PyData := .tuple (ks.map fun (k : Nat) => .int k)
def hit (ts : List Tie) (p k : Nat) : Bool := match ts[k]? with
  | some t => t.1 == p || t.2 == p
  | none => false
def tiesAt (ts : List Tie) (p : Nat) : List Nat := (List.range ts.length).filter (hit ts p)
def spTies (K : PySem.W.Frag) : Sp := fun vs H Q _ => ∃ (v : V) (n p : Nat) (ts : List Tie), vs = [v, .int p] ∧ Dp K H v (webD n ts) ∧ ts.length ≤ 3000 ∧
  ∀ (u : V) (H' : Hp), Same H H' → Dp K H' u (lotD (tiesAt ts p)) → Q u H'
end BV

/-! ### rules that name the written part -/
namespace BV
open PySem L2
section
variable {X : Cx} (K : PySem.W.Frag)
theorem opIn (h : X.K = K := by rfl) : OpR X (compareOp .In) (rIn K false) := by
  subst h
  exact op_in_seq
theorem opNotIn (h : X.K = K := by rfl) : OpR X (compareOp .NotIn) (rIn K true) := by
  subst h
  exact op_notIn_seq
theorem opEqD (hu : X.A.units + 64 < cLine) (h : X.K = K := by rfl) : OpR X (compareOp .Eq) (rEqD K) := by
  subst h
  exact op_eqD hu
theorem opNeD (hu : X.A.units + 64 < cLine) (h : X.K = K := by rfl) : OpR X (compareOp .NotEq) (rNeD K) := by
  subst h
  exact op_neD hu
theorem ixL (h : X.K = K := by rfl) : IxR X (rIxL K) := by
  subst h
  exact ix_list
theorem ixT (h : X.K = K := by rfl) : IxR X (rIxT K) := by
  subst h
  exact ix_tup
def rLenK (K : PySem.W.Frag) : List V → Hp → VK → Prop := fun xs H Q => ∃ p ys, xs = [.ref p] ∧ (SqL K H p ys ∨ SqT K H p ys) ∧ Q (.int ys.length) H
theorem lenK (h : X.K = K := by rfl) : CallR X (.builtin "len") (rLenK K) := by
  subst h
  exact call_len_seq
def rTupK (K : PySem.W.Frag) : List V → Hp → VK → Prop := fun xs H Q => ∃ p ys, xs = [.ref p] ∧
  ((SqL K H p ys ∧ ∀ l, H l = none → Q (.ref l) (upd H l (.tup ys))) ∨ (SqT K H p ys ∧ Q (.ref p) H))
theorem tupleK (h : X.K = K := by rfl) : CallR X (.type "tuple") (rTupK K) := by
  subst h
  exact call_tuple_of
def rSumT (K : PySem.W.Frag) : List V → Hp → VK → Prop := fun vs H Q => ∃ (a : Addr) (ns : List Int), vs = [V.ref a] ∧ SqT K H a (ns.map V.int) ∧ Q (.int ns.sum) H
theorem sumTK (hc : X.calm = true := by rfl) (h : X.K = K := by rfl) : CallR X (.builtin "sum") (rSumT K) := by
  subst h
  exact cr_sumT hc
def rReprK (K : PySem.W.Frag) : List V → Hp → VK → Prop := fun xs H Q => ∃ (x : V) (d : PyData), xs = [x] ∧ Dp K H x d ∧ Show d ∧ Q (.str d.shown) H
theorem reprK (hgd : X.A.guards = some []) (hu : X.A.units + 64 < cLine) (h : X.K = K := by rfl) : CallR X (.builtin "repr") (rReprK K) := by
  subst h
  exact call_reprD hgd hu
theorem revT {e : Expr} {te : TE} {k : Nat} {p1 p2 p3 pos : Pos} (he : PE X e te) (h : X.K = K := by rfl) :
    PE X (.Subscript e (.Slice none none (some (.UnaryOp .USub (.Constant (.int 1) k p1) p2)) p3) pos) (tRevT K te) := by
  subst h
  exact pe_revT he
theorem enumT {e : Expr} {ta : TA} {p pos tpos : Pos} {elts : List Expr} {kk : Nat} (hg : Gl X "enumerate") (hm : X.mg "enumerate" = none)
    (ha : PA X [e] ta) (hs : starEach [e] X.env = [(false, eval e X.env)] := by rfl) (h : X.K = K := by rfl) :
    PI X (.Tuple elts kk tpos) (.Call (.Name "enumerate" p) [e] [] pos) (iEnumT K ta) := by
  subst h
  exact pi_enumT hg hm ha hs
theorem piL {l tg : Expr} {tl : TE} (hl : PE X l tl) (h : X.K = K := by rfl) : PI X tg l (iList K tl) := by
  subst h
  exact pi_list hl
theorem piT {l tg : Expr} {tl : TE} (hl : PE X l tl) (h : X.K = K := by rfl) : PI X tg l (iTup K tl) := by
  subst h
  exact pi_tup hl
theorem pgT {es : List Expr} {k : Nat} {t : TGs} {n : Nat} (hc : X.calm = true) (h : PGs X es t)
    (hn : (assignEach es X.env).length = n := by rfl) (hst : (assignEach es X.env).findIdx? (·.1) = none := by rfl) {pos : Pos} (hK : X.K = K := by rfl) :
    PG X (.Tuple es k pos) (gTup K n t) := by
  subst hK
  exact pg_tup hc h hn hst
theorem getL (h : X.K = K := by rfl) : PGet X (rGetL K) := by
  subst h
  exact get_list
theorem slL (h : X.K = K := by rfl) : SlR X (rSlL K) := by
  subst h
  exact sl_list
end
end BV

namespace BV
open PySem L2
theorem inv_tie (p : Nat) (t : Tie) : inV (.int (p : Int)) [.int t.1, .int t.2] = (t.1 == p || t.2 == p) := by
  have e : ∀ a : Nat, (((a : Nat) : Int) == (p : Int)) = (a == p) := fun a => by
    by_cases h : a = p
    · subst h
      simp
    · rw [beq_eq_false_iff_ne.mpr h]
      exact beq_eq_false_iff_ne.mpr fun z => h (by omega)
  show ((((t.1 : Nat) : Int) == (p : Int)) || ((((t.2 : Nat) : Int) == (p : Int)) || false)) = _
  rw [e, e, Bool.or_false]
theorem range_filter_succ {f : Nat → Bool} {i : Nat} : (List.range (i + 1)).filter f = (List.range i).filter f ++ if f i then [i] else [] := by
  rw [List.range_succ, List.filter_append]
  congr 1
  by_cases h : f i = true
  · rw [if_pos h, List.filter_cons_of_pos h, List.filter_nil]
  · rw [if_neg h, List.filter_cons_of_neg h, List.filter_nil]
theorem hit_at {ts : List Tie} {p i : Nat} {t : Tie} (h : ts[i]? = some t) : hit ts p i = (t.1 == p || t.2 == p) := by
  unfold hit
  rw [h]
end BV

namespace BV
open PySem L2

/-! ### the matrix of a web -/
def meets (p : Nat) (t : Tie) : Bool := t.1 == p || t.2 == p
def joins (p q : Nat) (t : Tie) : Bool := (t.1 == p && t.2 == q) || (t.1 == q && t.2 == p)
def entry (ts : List Tie) (p q : Nat) : Int := if p = q then (ts.countP (meets p) : Nat) else -((ts.countP (joins p q) : Nat) : Int)
def rowD (ts : List Tie) (n p : Nat) : PyData := .tuple ((List.range n).map fun q => .int (entry ts p q))
def matD (n : Nat) (ts : List Tie) : PyData := .tuple ((List.range n).map (rowD ts n))
def spMat (K : PySem.W.Frag) : Sp := fun vs H Q _ => ∃ (v : V) (n : Nat) (ts : List Tie), vs = [v] ∧ Dp K H v (webD n ts) ∧ (∀ t ∈ ts, t.1 < t.2 ∧ t.2 < n) ∧
  n ≤ 1000 ∧ ts.length ≤ 3000 ∧ ∀ (u : V) (H' : Hp), Same H H' → Dp K H' u (matD n ts) → Q u H'

/-- n rows of n numbers, lists of their own -/
structure Mat (H : Hp) (r : Addr) (as : List Addr) (n : Nat) (M : Nat → Nat → Int) : Prop where
  rows : H r = some (.lst (as.map V.ref))
  len : as.length = n
  nd : as.Nodup
  row : ∀ p a, as[p]? = some a → H a = some (.lst ((List.range n).map fun q => V.int (M p q)))
def bump (M : Nat → Nat → Int) (p q : Nat) (d : Int) : Nat → Nat → Int := fun i j => if i = p ∧ j = q then M p q + d else M i j
theorem range_set {α : Type} (f : Nat → α) (n q : Nat) (v : α) : ((List.range n).map f).set q v = (List.range n).map fun j => if j = q then v else f j := by
  apply List.ext_getElem?
  intro i
  by_cases hi : i < n
  · rw [List.getElem?_set]
    by_cases e : q = i
    · subst e
      simp [hi]
    · have e' : ¬ i = q := fun z => e z.symm
      simp [hi, e, e']
  · rw [List.getElem?_eq_none (by simp; omega), List.getElem?_eq_none (by simp; omega)]
theorem Mat.set {H : Hp} {r a : Addr} {as : List Addr} {n p q : Nat} {M : Nat → Nat → Int} {d : Int} (m : Mat H r as n M) (ha : as[p]? = some a) (hq : q < n) :
    Mat (upd H a (.lst (((List.range n).map fun q => V.int (M p q)).set q (.int (M p q + d))))) r as n (bump M p q d) := by
  obtain ⟨h1, h2, h3, h4⟩ := m
  have hpa := h4 p a ha
  have hp : p < as.length := (List.getElem?_eq_some_iff.mp ha).1
  have nra : r ≠ a := by
    intro e
    subst e
    rw [h1] at hpa
    have z := Option.some.inj hpa
    injection z with z
    cases as with
    | nil => simp at ha
    | cons x xs =>
      cases n with
      | zero => simp at h2
      | succ n =>
        rw [List.range_succ_eq_map] at z
        cases z
  refine ⟨by rw [upd_ne nra]; exact h1, h2, h3, fun p' a' ha' => ?_⟩
  by_cases e : p' = p
  · subst e
    rw [ha] at ha'
    cases ha'
    rw [upd_same, range_set]
    congr 2
    apply List.map_congr_left
    intro j hj
    unfold bump
    by_cases ej : j = q
    · subst ej
      simp
    · simp [ej]
  · have na : a' ≠ a := by
      rintro rfl
      have hp' : p' < as.length := (List.getElem?_eq_some_iff.mp ha').1
      have e1 : as[p'] = a' := (List.getElem?_eq_some_iff.mp ha').2
      have e2 : as[p] = a' := (List.getElem?_eq_some_iff.mp ha).2
      have pw := List.pairwise_iff_getElem.mp h3
      rcases Nat.lt_or_ge p' p with z | z
      · exact pw p' p hp' hp z (e1.trans e2.symm)
      · exact pw p p' hp hp' (by omega) (e2.trans e1.symm)
    rw [upd_ne na, h4 p' a' ha']
    congr 2
    apply List.map_congr_left
    intro j hj
    unfold bump
    simp [e]
theorem entry_app (ts : List Tie) (a b : Nat) (hab : a < b) (p q : Nat) :
    bump (bump (bump (bump (entry ts) a a 1) b b 1) a b (-1)) b a (-1) p q = entry (ts ++ [(a, b)]) p q := by
  have c1 : ∀ f : Tie → Bool, (ts ++ [(a, b)]).countP f = ts.countP f + (if f (a, b) = true then 1 else 0) := fun f => by
    rw [List.countP_append, List.countP_singleton]
  unfold entry
  rw [c1, c1]
  unfold bump meets joins
  by_cases e : p = q
  · subst e
    by_cases ea : p = a
    · subst ea
      have : ¬ p = b := by omega
      have : ¬ b = p := by omega
      simp_all
    · by_cases eb : p = b
      · subst eb
        have : ¬ a = p := by omega
        simp_all
      · have : ¬ a = p := fun z => ea z.symm
        have : ¬ b = p := fun z => eb z.symm
        simp_all
  · by_cases e1 : p = a ∧ q = b
    · obtain ⟨rfl, rfl⟩ := e1
      have h1 : ¬ q = p := fun z => e z.symm
      simp_all
      omega
    · by_cases e2 : p = b ∧ q = a
      · obtain ⟨rfl, rfl⟩ := e2
        have h1 : ¬ q = p := fun z => e z.symm
        simp_all
        omega
      · have h3 : ¬ (p = a ∧ q = a) := fun z => e (z.1.trans z.2.symm)
        have h4 : ¬ (p = b ∧ q = b) := fun z => e (z.1.trans z.2.symm)
        have h5 : ((a == p && b == q) || (a == q && b == p)) = false := by
          rw [Bool.or_eq_false_iff, Bool.and_eq_false_iff, Bool.and_eq_false_iff]
          simp only [beq_eq_false_iff_ne]
          omega
        simp only [e1, e2, h3, h4, if_false, e, h5, Bool.false_eq_true, Nat.add_zero]
end BV

namespace BV
open PySem L2
theorem Mat.row_get {H : Hp} {r a : Addr} {as : List Addr} {n p q : Nat} {M : Nat → Nat → Int} (m : Mat H r as n M) (ha : as[p]? = some a) (hq : q < n) :
    ((List.range n).map fun q => V.int (M p q))[q]? = some (.int (M p q)) := by
  rw [List.getElem?_map, List.getElem?_range hq]
  rfl
theorem mat_aug {K : PySem.W.Frag} {H : Hp} {r : Addr} {as : List Addr} {n p q ir ip iq : Nat} {M : Nat → Nat → Int} {d : Int} {f : Int → Int → Int} {σ : L2.St} {D : Ends}
    (m : Mat H r as n M) (hp : p < n) (hq : q < n) (h3 : σ[ir]? = some (some (.ref r))) (h4 : σ[ip]? = some (some (.int (p : Int)))) (h5 : σ[iq]? = some (some (.int (q : Int))))
    (hf : f (M p q) 1 = M p q + d)
    (h : ∀ a, as[p]? = some a → ∀ H', (∀ b, b ≠ a → H' b = H b) → Mat H' r as n (bump M p q d) → D.nx σ H') :
    tAugS (tOp (rIxL K) (tVar ir) (tVar ip)) (tVar iq) (tC (.int 1)) (rGetL K) (ipI f) rSetL D σ H := by
  have hpl : p < as.length := by rw [m.len]; exact hp
  have ha : as[p]? = some as[p] := by simp [hpl]
  have hrow := m.row p _ ha
  have hr : (as.map V.ref)[p]? = some (.ref as[p]) := by rw [List.getElem?_map, ha]; rfl
  refine ⟨_, h3, _, h4, r, _, _, _, rfl, rfl, SqL.of m.rows, atI_nat hr, ?_⟩
  refine ⟨_, h5, as[p], _, q, _, rfl, rfl, SqL.of hrow, m.row_get ha hq, ?_⟩
  refine ⟨_, _, rfl, rfl, as[p], _, (q : Int), q, rfl, rfl, hrow, ix_nat (by simpa using hq), ?_⟩
  rw [hf]
  exact h _ ha _ (fun b hb => upd_ne hb) (m.set ha hq)
theorem zeros (n : Nat) : (List.replicate n [V.int 0]).flatten = (List.range n).map fun _ => V.int 0 := by
  induction n with
  | zero => rfl
  | succ n ih =>
    rw [List.replicate_succ', List.flatten_append, ih, List.range_succ, List.map_append]
    rfl
end BV

namespace BV
open PySem L2
mutual
def tiny : PyData → Bool
  | .none | .bool _ => true
  | .int i => decide (i.natAbs.log2 < 300)
  | .str x => decide (x.length ≤ 100) && x.cps.toList.all fun c => decide (c < 16 ^ 8)
  | .list xs | .tuple xs => tinyAll xs
  | .dict _ => false
def tinyAll : List PyData → Bool
  | [] => true
  | x :: xs => tiny x && tinyAll xs
end
mutual
def nodes : PyData → Nat
  | .none | .bool _ | .int _ | .str _ | .dict _ => 1
  | .list xs | .tuple xs => nodesAll xs + 1
def nodesAll : List PyData → Nat
  | [] => 0
  | x :: xs => nodes x + nodesAll xs
end
theorem int_shown {i : Int} (h : i.natAbs.log2 < 300) : (PyData.shown (.int i)).length ≤ 301 := by
  have h1 := int_text_length_le (k := 300) (by decide) h
  have h2 : (PyData.shown (.int i)) = Str.ofString (toString i) := by simp only [PyData.shown]
  rw [h2]
  have h3 : (Str.ofString (toString i)).length = (toString i).length := ofString_length _
  omega
mutual
theorem tiny_facts : ∀ d : PyData, tiny d = true → d.showable = true ∧ d.hasDict = false ∧ d.shown.length + 2 ≤ 1100 * nodes d
  | .none, _ => ⟨by simp [PyData.showable], by simp [PyData.hasDict], by
      have e : (PyData.shown .none).length = 4 := rfl
      simp only [nodes]
      omega⟩
  | .bool b, _ => ⟨by simp [PyData.showable], by simp [PyData.hasDict], by
      have e : (PyData.shown (.bool b)).length ≤ 5 := by cases b <;> decide
      simp only [nodes]
      omega⟩
  | .int i, h => by
    have h' : i.natAbs.log2 < 300 := by simpa [tiny] using h
    refine ⟨?_, by simp [PyData.hasDict], ?_⟩
    · simp only [PyData.showable, decide_eq_true_eq]
      omega
    · have := int_shown h'
      simp only [nodes]
      omega
  | .str x, h => by
    have h' : x.length ≤ 100 ∧ ∀ c ∈ x.cps.toList, c < 16 ^ 8 := by
      simp only [tiny, Bool.and_eq_true, decide_eq_true_eq, List.all_eq_true] at h
      exact h
    refine ⟨by simp [PyData.showable], by simp [PyData.hasDict], ?_⟩
    have e := StrLaws.reprText_len x h'.2
    simp only [PyData.shown, nodes]
    omega
  | .list xs, h => by
    have h1 := tiny_all xs (by simpa [tiny] using h)
    refine ⟨by simpa [PyData.showable] using h1.1, by simpa [PyData.hasDict] using h1.2.1, ?_⟩
    have h2 := listText_len_le (PyData.shownAll xs)
    simp only [PyData.shown, nodes]
    omega
  | .tuple xs, h => by
    have h1 := tiny_all xs (by simpa [tiny] using h)
    refine ⟨by simpa [PyData.showable] using h1.1, by simpa [PyData.hasDict] using h1.2.1, ?_⟩
    have h2 := tupleText_len_le (PyData.shownAll xs)
    simp only [PyData.shown, nodes]
    omega
  | .dict _, h => by simp [tiny] at h
theorem tiny_all : ∀ xs : List PyData, tinyAll xs = true → PyData.showableAll xs = true ∧ PyData.hasDictAll xs = false ∧
    ((PyData.shownAll xs).map (·.length)).sum + 2 * (PyData.shownAll xs).length ≤ 1100 * nodesAll xs
  | [], _ => ⟨by simp [PyData.showableAll], by simp [PyData.hasDictAll], by simp [PyData.shownAll]⟩
  | x :: xs, h => by
    have h' : tiny x = true ∧ tinyAll xs = true := by simpa [tinyAll] using h
    obtain ⟨a1, a2, a3⟩ := tiny_facts x h'.1
    obtain ⟨b1, b2, b3⟩ := tiny_all xs h'.2
    refine ⟨by simp [PyData.showableAll, a1, b1], by simp [PyData.hasDictAll, a2, b2], ?_⟩
    simp only [PyData.shownAll, nodesAll, List.map_cons, List.sum_cons, List.length_cons]
    omega
end
theorem show_of {d : PyData} (h : tiny d = true) (hd : d.depth ≤ 40) (hn : nodes d ≤ 15000) : Show d := by
  obtain ⟨a, b, c⟩ := tiny_facts d h
  refine ⟨a, b, hd, Nat.le_trans (Nat.le_trans (Nat.le_add_right _ 2) c) (Nat.le_trans (Nat.mul_le_mul_left 1100 hn) (by decide))⟩
end BV

namespace BV
open PySem L2
/-! ### sums of a row -/
theorem sum_add (f g : Nat → Int) : ∀ l : List Nat, (l.map fun q => f q + g q).sum = (l.map f).sum + (l.map g).sum
  | [] => rfl
  | a :: l => by
    simp only [List.map_cons, List.sum_cons, sum_add f g l]
    omega
theorem sum_at (n x : Nat) (c : Int) : ((List.range n).map fun q => if q = x then c else (0 : Int)).sum = if x < n then c else 0 := by
  induction n with
  | zero => rfl
  | succ n ih =>
    rw [List.range_succ, List.map_append, List.sum_append, ih]
    simp only [List.map_cons, List.map_nil, List.sum_cons, List.sum_nil]
    by_cases h : n = x
    · subst h
      simp
    · by_cases h2 : x < n
      · have : x < n + 1 := by omega
        simp [h, h2, this]
      · have : ¬ x < n + 1 := by omega
        simp [h, h2, this]
theorem sum_none (n : Nat) : ((List.range n).map fun (_ : Nat) => (0 : Int)).sum = 0 := by
  induction n with
  | zero => rfl
  | succ n ih =>
    rw [List.range_succ, List.map_append, List.sum_append, ih]
    rfl
def delta (t : Tie) (p q : Nat) : Int :=
  (if p = t.1 then ((if q = t.1 then 1 else 0) + (if q = t.2 then -1 else 0)) else 0) + (if p = t.2 then ((if q = t.2 then 1 else 0) + (if q = t.1 then -1 else 0)) else 0)
theorem entry_cons (t : Tie) (ts : List Tie) (h : t.1 < t.2) (p q : Nat) : entry (t :: ts) p q = entry ts p q + delta t p q := by
  obtain ⟨a, b⟩ := t
  have h : a < b := h
  unfold entry delta
  rw [List.countP_cons, List.countP_cons]
  unfold meets joins
  by_cases e : p = q
  · subst e
    by_cases ea : p = a
    · subst ea
      have : ¬ p = b := by omega
      have : ¬ b = p := by omega
      simp_all
    · by_cases eb : p = b
      · subst eb
        have : ¬ a = p := by omega
        simp_all
      · have : ¬ a = p := fun z => ea z.symm
        have : ¬ b = p := fun z => eb z.symm
        simp_all
  · by_cases e1 : p = a ∧ q = b
    · obtain ⟨rfl, rfl⟩ := e1
      have h1 : ¬ q = p := fun z => e z.symm
      simp_all
      omega
    · by_cases e2 : p = b ∧ q = a
      · obtain ⟨rfl, rfl⟩ := e2
        have h1 : ¬ q = p := fun z => e z.symm
        simp_all
        omega
      · have h5 : ((a == p && b == q) || (a == q && b == p)) = false := by
          rw [Bool.or_eq_false_iff, Bool.and_eq_false_iff, Bool.and_eq_false_iff]
          simp only [beq_eq_false_iff_ne]
          omega
        simp only [e, if_false, h5, Bool.false_eq_true, Nat.add_zero]
        by_cases ea : p = a
        · subst ea
          have q1 : ¬ q = p := fun z => e z.symm
          have q2 : ¬ q = b := fun z => e1 ⟨rfl, z⟩
          have q3 : ¬ p = b := by omega
          simp [q1, q2, q3]
        · by_cases eb : p = b
          · subst eb
            have q1 : ¬ q = p := fun z => e z.symm
            have q2 : ¬ q = a := fun z => e2 ⟨rfl, z⟩
            simp [q1, q2, ea]
          · simp [ea, eb]
theorem delta_sum (t : Tie) (n p : Nat) (h : t.1 < t.2) (h2 : t.2 < n) : ((List.range n).map fun q => delta t p q).sum = 0 := by
  unfold delta
  rw [sum_add]
  have h1 : t.1 < n := by omega
  by_cases ea : p = t.1
  · have eb : ¬ p = t.2 := by omega
    simp only [if_pos ea, if_neg eb]
    rw [sum_add, sum_at, sum_at, sum_none, if_pos h1, if_pos h2]
    rfl
  · by_cases eb : p = t.2
    · simp only [if_neg ea, if_pos eb]
      rw [sum_add, sum_at, sum_at, sum_none, if_pos h1, if_pos h2]
      rfl
    · simp only [if_neg ea, if_neg eb]
      rw [sum_none]
      rfl
theorem entry_sum (n p : Nat) : ∀ ts : List Tie, (∀ t ∈ ts, t.1 < t.2 ∧ t.2 < n) → ((List.range n).map fun q => entry ts p q).sum = 0
  | [], _ => by
    have : (fun q => entry [] p q) = fun _ => (0 : Int) := by
      funext q
      unfold entry
      by_cases e : p = q <;> simp [e]
    rw [this]
    exact sum_none n
  | t :: ts, h => by
    have ht := h t (List.mem_cons_self ..)
    have : (fun q => entry (t :: ts) p q) = fun q => entry ts p q + delta t p q := by
      funext q
      exact entry_cons t ts ht.1 p q
    rw [this, sum_add, entry_sum n p ts fun u hu => h u (List.mem_cons_of_mem _ hu), delta_sum t n p ht.1 ht.2]
    rfl
theorem entry_symm (ts : List Tie) (p q : Nat) : entry ts p q = entry ts q p := by
  unfold entry
  by_cases e : p = q
  · subst e
    rfl
  · have e' : ¬ q = p := fun z => e z.symm
    rw [if_neg e, if_neg e']
    congr 2
    have : joins p q = joins q p := by
      funext t
      unfold joins
      rw [Bool.or_comm]
    rw [this]
theorem entry_perm {ts us : List Tie} (h : ts.Perm us) (p q : Nat) : entry ts p q = entry us p q := by
  unfold entry
  rw [h.countP_eq, h.countP_eq]
theorem deg_len : ∀ (ts : List Tie) (p : Nat), (tiesAt ts p).length = ts.countP (meets p) := by
  intro ts p
  have key : ∀ i, i ≤ ts.length → ((List.range i).filter (hit ts p)).length = (ts.take i).countP (meets p) := by
    intro i
    induction i with
    | zero => intro _; rfl
    | succ i ih =>
      intro hi
      have hg : ts[i]? = some ts[i] := by simp [show i < ts.length by omega]
      rw [range_filter_succ, List.length_append, ih (by omega), List.take_add_one, hg, List.countP_append, hit_at hg]
      show _ = _ + List.countP (meets p) [ts[i]]
      rw [List.countP_singleton]
      show _ + (if meets p ts[i] = true then [i] else []).length = _
      by_cases h : meets p ts[i] = true
      · rw [if_pos h, if_pos h]; rfl
      · rw [if_neg h, if_neg h]; rfl
  have := key ts.length (Nat.le_refl _)
  rw [List.take_of_length_le (Nat.le_refl _)] at this
  exact this
theorem joins_pair {p q : Nat} {t : Tie} (h : t.1 < t.2) (e : p ≠ q) : joins p q t = decide (t = (min p q, max p q)) := by
  obtain ⟨a, b⟩ := t
  have h : a < b := h
  unfold joins
  rcases Nat.lt_or_ge p q with z | z
  · have e1 : min p q = p := by omega
    have e2 : max p q = q := by omega
    rw [e1, e2]
    by_cases c : a = p ∧ b = q
    · obtain ⟨rfl, rfl⟩ := c
      simp
    · have c' : ¬ ((a, b) = (p, q)) := fun z => c (Prod.mk.inj z)
      rw [decide_eq_false c', Bool.or_eq_false_iff, Bool.and_eq_false_iff, Bool.and_eq_false_iff]
      simp only [beq_eq_false_iff_ne]
      omega
  · have e1 : min p q = q := by omega
    have e2 : max p q = p := by omega
    rw [e1, e2]
    by_cases c : a = q ∧ b = p
    · obtain ⟨rfl, rfl⟩ := c
      simp
    · have c' : ¬ ((a, b) = (q, p)) := fun z => c (Prod.mk.inj z)
      rw [decide_eq_false c', Bool.or_eq_false_iff, Bool.and_eq_false_iff, Bool.and_eq_false_iff]
      simp only [beq_eq_false_iff_ne]
      omega
/-! ### each tie is at two places -/
def seen (ts : List Tie) (i k : Nat) : Int := match ts[k]? with
  | some t => (if t.1 < i then 1 else 0) + (if t.2 < i then 1 else 0)
  | none => 0
theorem seen_zero (ts : List Tie) (k : Nat) : seen ts 0 k = 0 := by
  unfold seen
  split <;> simp
theorem seen_succ {ts : List Tie} {i k : Nat} (h : ∀ t ∈ ts, t.1 < t.2) : seen ts (i + 1) k = seen ts i k + if hit ts i k = true then 1 else 0 := by
  unfold seen hit
  cases e : ts[k]? with
  | none => simp
  | some t =>
    have ht := h t (List.mem_of_getElem? e)
    obtain ⟨a, b⟩ := t
    have ht : a < b := ht
    simp only [Bool.or_eq_true, beq_iff_eq]
    by_cases h1 : a = i
    · subst h1
      have c1 : ¬ b < a := by omega
      have c2 : ¬ b < a + 1 := by omega
      simp [c1, c2]
    · by_cases h2 : b = i
      · subst h2
        have c1 : a < b := ht
        have c2 : a < b + 1 := by omega
        simp [c1, c2]
      · simp only [h1, h2, or_self, if_false]
        have c1 : (a < i + 1) = (a < i) := by apply propext; omega
        have c2 : (b < i + 1) = (b < i) := by apply propext; omega
        simp only [c1, c2]
        omega
theorem seen_all {ts : List Tie} {n k : Nat} (h : ∀ t ∈ ts, t.1 < t.2 ∧ t.2 < n) (hk : k < ts.length) : seen ts n k = 2 := by
  unfold seen
  have e : ts[k]? = some ts[k] := by simp [hk]
  rw [e]
  have ht := h ts[k] (List.getElem_mem hk)
  have h1 : ts[k].1 < n := by omega
  simp [h1, ht.2]
theorem mem_tiesAt {ts : List Tie} {p k : Nat} : k ∈ tiesAt ts p ↔ k < ts.length ∧ hit ts p k = true := by
  unfold tiesAt
  rw [List.mem_filter, List.mem_range]
theorem tiesAt_nodup (ts : List Tie) (p : Nat) : (tiesAt ts p).Nodup := (List.nodup_range (n := ts.length)).sublist List.filter_sublist
end BV

namespace BV
open PySem L2
theorem tAsg_by {te : TE} {g : TG} {D : Ends} {σ : L2.St} {H : Hp} (P : V → Hp → Prop) (cont : ∀ v H', P v H' → g v σ H' D.nx)
    (h : (∀ v H', P v H' → g v σ H' D.nx) → te σ H (fun x H1 => g x σ H1 D.nx)) : tAsg te g D σ H := h cont
theorem get_map {α β : Type} {f : α → β} {l : List α} {i : Nat} {y : β} (h : (l.map f)[i]? = some y) : ∃ x, l[i]? = some x ∧ y = f x := by
  rw [List.getElem?_map] at h
  cases e : l[i]? with
  | none =>
    rw [e] at h
    cases h
  | some x =>
    rw [e] at h
    exact ⟨x, rfl, (Option.some.inj h).symm⟩
theorem still_ints : ∀ ns : List Int, stillAll (ns.map PyData.int) = true
  | [] => by simp [stillAll]
  | n :: ns => by simp [stillAll, still, still_ints ns]
theorem ints_row (f : Nat → Int) (n : Nat) : ((List.range n).map fun q => PyData.int (f q)) = ((List.range n).map f).map PyData.int := by rw [List.map_map]; rfl
theorem ints_rowV (f : Nat → Int) (n : Nat) : ((List.range n).map fun q => V.int (f q)) = ((List.range n).map f).map V.int := by rw [List.map_map]; rfl
theorem still_row (ts : List Tie) (n p : Nat) : still (rowD ts n p) = true := by
  have h := still_ints ((List.range n).map fun q => entry ts p q)
  rw [← ints_row] at h
  simpa [rowD, still] using h
theorem still_rows (ts : List Tie) (n : Nat) : ∀ l : List Nat, stillAll (l.map (rowD ts n)) = true
  | [] => by simp [stillAll]
  | p :: l => by simp [stillAll, still_row, still_rows ts n l]

/-! ### what may be written as a text -/
theorem tiny_ints : ∀ ns : List Int, (∀ n ∈ ns, n.natAbs < 2 ^ 200) → tinyAll (ns.map PyData.int) = true ∧ nodesAll (ns.map PyData.int) = ns.length ∧ PyData.depthAll (ns.map PyData.int) = 0
  | [], _ => by simp [tinyAll, nodesAll, PyData.depthAll]
  | n :: ns, h => by
    obtain ⟨a, b, c⟩ := tiny_ints ns fun m hm => h m (List.mem_cons_of_mem _ hm)
    have hn := h n (List.mem_cons_self ..)
    have hl : n.natAbs.log2 < 300 := Nat.lt_of_lt_of_le (PySem.Flt.log2_lt_of (by decide) hn) (by decide)
    refine ⟨by simp [tinyAll, tiny, hl, a], ?_, by simp [PyData.depthAll, PyData.depth, c]⟩
    simp only [List.map_cons, nodesAll, nodes, b, List.length_cons]
    omega
theorem tiny_row (f : Nat → Int) (n : Nat) (h : ∀ q, (f q).natAbs < 2 ^ 200) : tiny (.tuple ((List.range n).map fun q => .int (f q))) = true ∧
    nodes (.tuple ((List.range n).map fun q => .int (f q))) = n + 1 ∧ (PyData.tuple ((List.range n).map fun q => .int (f q))).depth = 1 := by
  rw [ints_row]
  obtain ⟨a, b, c⟩ := tiny_ints ((List.range n).map f) fun m hm => by
    obtain ⟨q, _, rfl⟩ := List.mem_map.mp hm
    exact h q
  refine ⟨by simp only [tiny, a], ?_, by simp only [PyData.depth, c]⟩
  simp only [nodes, b, List.length_map, List.length_range]
theorem show_lot (ks : List Nat) (h : ∀ k ∈ ks, k < 100000) (hl : ks.length ≤ 1000) : Show (lotD ks) := by
  have e : lotD ks = .tuple ((ks.map fun (k : Nat) => (k : Int)).map PyData.int) := by unfold lotD; rw [List.map_map]; rfl
  obtain ⟨a, b, c⟩ := tiny_ints (ks.map fun (k : Nat) => (k : Int)) fun m hm => by
    obtain ⟨q, hq, rfl⟩ := List.mem_map.mp hm
    have := h q hq
    have e2 : ((q : Int)).natAbs = q := by omega
    rw [e2]
    exact Nat.lt_of_lt_of_le this (by decide)
  rw [e]
  refine show_of (by simp only [tiny, a]) (by simp only [PyData.depth, c]; decide) ?_
  simp only [nodes, b, List.length_map]
  omega
theorem entry_small (ts : List Tie) (hl : ts.length ≤ 100000) (p q : Nat) : (entry ts p q).natAbs < 2 ^ 200 := by
  have h1 := List.countP_le_length (p := meets p) (l := ts)
  have h2 := List.countP_le_length (p := joins p q) (l := ts)
  have : (entry ts p q).natAbs ≤ 100000 := by
    unfold entry
    split <;> omega
  exact Nat.lt_of_le_of_lt this (by decide)
theorem tiny_rows (ts : List Tie) (n : Nat) (hl : ts.length ≤ 100000) : ∀ l : List Nat, tinyAll (l.map (rowD ts n)) = true ∧ nodesAll (l.map (rowD ts n)) = l.length * (n + 1) ∧ PyData.depthAll (l.map (rowD ts n)) ≤ 1
  | [] => by simp [tinyAll, nodesAll, PyData.depthAll]
  | p :: l => by
    obtain ⟨a, b, c⟩ := tiny_rows ts n hl l
    obtain ⟨a1, b1, c1⟩ := tiny_row (entry ts p) n fun q => entry_small ts hl p q
    refine ⟨?_, ?_, ?_⟩
    · simp only [List.map_cons, tinyAll, a, Bool.and_true]
      exact a1
    · simp only [List.map_cons, nodesAll, b, List.length_cons]
      have : nodes (rowD ts n p) = n + 1 := b1
      rw [this, Nat.succ_mul]
      omega
    · simp only [List.map_cons, PyData.depthAll]
      have : (rowD ts n p).depth = 1 := c1
      omega
theorem show_mat (n : Nat) (ts : List Tie) (hl : ts.length ≤ 100000) (hn : n ≤ 100) : Show (matD n ts) := by
  obtain ⟨a, b, c⟩ := tiny_rows ts n hl (List.range n)
  refine show_of (by simp [matD, tiny, a]) (by simp only [matD, PyData.depth]; omega) ?_
  simp only [matD, nodes, b, List.length_range]
  have := Nat.mul_le_mul hn (Nat.add_le_add_right hn 1)
  omega
theorem tiny_ties : ∀ ts : List Tie, (∀ t ∈ ts, t.1 < 100000 ∧ t.2 < 100000) → tinyAll (ts.map tieD) = true ∧ nodesAll (ts.map tieD) = 3 * ts.length ∧ PyData.depthAll (ts.map tieD) ≤ 1
  | [], _ => by simp [tinyAll, nodesAll, PyData.depthAll]
  | t :: ts, h => by
    obtain ⟨a, b, c⟩ := tiny_ties ts fun m hm => h m (List.mem_cons_of_mem _ hm)
    have ht := h t (List.mem_cons_self ..)
    obtain ⟨a1, b1, c1⟩ := tiny_ints [(t.1 : Int), (t.2 : Int)] fun m hm => by
      have e1 : (2 : Nat) ^ 200 > 100000 := by decide
      rcases List.mem_cons.mp hm with rfl | hm
      · omega
      · obtain rfl := List.mem_singleton.mp hm
        omega
    have e : tieD t = .tuple ([(t.1 : Int), (t.2 : Int)].map PyData.int) := rfl
    refine ⟨?_, ?_, ?_⟩
    · simp only [List.map_cons, tinyAll, a, Bool.and_true]
      rw [e]
      simp only [tiny]
      exact a1
    · have e2 : nodes (tieD t) = 3 := by
        rw [e]
        simp only [nodes, b1]
        rfl
      simp only [List.map_cons, nodesAll, b, e2, List.length_cons]
      omega
    · have e3 : (tieD t).depth = 1 := by
        rw [e]
        simp only [PyData.depth, c1]
      simp only [List.map_cons, PyData.depthAll, e3]
      omega
theorem show_web (n : Nat) (ts : List Tie) (h : ∀ t ∈ ts, t.1 < 100000 ∧ t.2 < 100000) (hn : n < 100000) (hl : ts.length ≤ 4000) : Show (webD n ts) := by
  obtain ⟨a, b, c⟩ := tiny_ties ts h
  have e : ((n : Int)).natAbs.log2 < 300 := by
    have : ((n : Int)).natAbs < 2 ^ 200 := Nat.lt_of_lt_of_le (show ((n : Int)).natAbs < 100000 by omega) (by decide)
    exact Nat.lt_of_lt_of_le (PySem.Flt.log2_lt_of (by decide) this) (by decide)
  refine show_of ?_ ?_ ?_
  · simp only [webD, tiesD, tiny, tinyAll, a, decide_eq_true e, Bool.and_self]
  · simp only [webD, tiesD, PyData.depth, PyData.depthAll]
    omega
  · simp only [webD, tiesD, nodes, nodesAll, b]
    omega

/-! ### the numbers of the ties at a place, by a comprehension -/
theorem lc_hits {K : PySem.W.Frag} {te : TE} {σ : L2.St} {H : Hp} {c : Addr} {ys : List V} {ts : List Tie} {p ik ie ip : Nat} {Q : VK}
    (hc : SqT K H c ys) (hys : DpAll K H ys (ts.map tieD)) (hl : ts.length ≤ 3000) (hte : ∀ Q : VK, Q (.ref c) H → te σ H Q)
    (hw : ∀ v u, wipe (((wipe σ [ik, ie]).set ik v).set ie u) [ik, ie] = wipe σ [ik, ie])
    (hk : ∀ v u, (((wipe σ [ik, ie]).set ik v).set ie u)[ik]? = some v) (he : ∀ v u, (((wipe σ [ik, ie]).set ik v).set ie u)[ie]? = some u)
    (hp : ∀ v u, (((wipe σ [ik, ie]).set ik v).set ie u)[ip]? = some (some (.int (p : Int))))
    (h : ∀ D H', H' D = some (.lst ((tiesAt ts p).map fun (k : Nat) => V.int k)) → Same H H' → H D = none → Q (.ref D) H') :
    tLc (iEnumT K (tCons te tNil)) (gTup K 2 (gCons (gName ik) (gCons (gName ie) gNil))) (tTest (tOp (rIn K false) (tVar ip) (tVar ie))) (tVar ik) [ik, ie] σ H Q := by
  have hyl : ys.length = ts.length := by rw [dpAll_len hys, List.length_map]
  refine hte _ ?_
  refine ⟨c, ys, rfl, hc, fun D hD => ?_⟩
  refine lc_run walk_enumT hD (fun i acc _ => acc = ((List.range i).filter (hit ts p)).map fun (k : Nat) => V.int k) ?_ ?_ ?_ ?_
  · exact fun H' s => sqT_same s hc
  · rfl
  · rintro i x acc H2 H' hi hacc e s r ⟨q, u, y, rfl, hq, rfl, hu, hy⟩
    cases hu
    obtain ⟨d, hd, hv⟩ := dpAll_get hys hy
    obtain ⟨t', ht', rfl⟩ := get_map hd
    have sq : Same H2 (upd H2 q (.tup [.int (i : Nat), y])) := same_new hq
    obtain ⟨pa, rfl, hpa⟩ := dp_tie (dp_same (s.trans sq) _ hv)
    refine ⟨q, _, rfl, SqT.of upd_same, rfl, _, _, rfl, _, _, rfl, rfl, hw _ _, ?_⟩
    refine ⟨_, hp _ _, _, he _ _, pa, _, rfl, .inr hpa, rfl, rfl, _, rfl, ?_⟩
    show (if inV (.int (p : Int)) [.int t'.1, .int t'.2] = true then _ else _)
    have hacc2 : ((List.range i).filter (hit ts p)).length ≤ i := Nat.le_trans (List.length_filter_le _ _) (by rw [List.length_range]; exact Nat.le_refl _)
    have hin : inV (.int (p : Int)) [.int t'.1, .int t'.2] = hit ts p i := by rw [inv_tie, hit_at ht']
    have r' : acc = ((List.range i).filter (hit ts p)).map fun (k : Nat) => V.int k := r
    rw [hin]
    refine ite2 (fun hh => ?_) (fun hh => ?_)
    · refine ⟨_, hk _ _, ?_⟩
      refine lc_add hacc e sq (by rw [r', List.length_map]; omega) ?_
      rw [range_filter_succ, if_pos hh, List.map_append, r']
      rfl
    · refine lc_skip hacc e sq ?_
      rw [range_filter_succ, if_neg hh, List.append_nil]
      exact r'
  · rintro acc H2 h1 s2 r
    have r' : acc = ((List.range ys.length).filter (hit ts p)).map fun (k : Nat) => V.int k := r
    rw [hyl] at r'
    refine h D H2 ?_ s2 hD
    rw [h1, r']
    rfl
theorem dp_lot {K : PySem.W.Frag} {H : Hp} {u : Addr} {ks : List Nat} (h : H u = some (.tup (ks.map fun (k : Nat) => V.int k))) : Dp K H (.ref u) (lotD ks) := by
  refine .tup (SqT.of h) ?_
  have e2 : (ks.map fun (k : Nat) => PyData.int k) = (ks.map fun (k : Nat) => (k : Int)).map PyData.int := by rw [List.map_map]; rfl
  have e3 : (ks.map fun (k : Nat) => V.int k) = (ks.map fun (k : Nat) => (k : Int)).map V.int := by rw [List.map_map]; rfl
  rw [e2, e3]
  exact dpAll_ints _
/-- the equal ones counted by a comprehension of ones -/
theorem lc_pairs {K : PySem.W.Frag} {tp : TE} {σ : L2.St} {H : Hp} {c : Addr} {ys : List V} {ts : List Tie} {x y ic ie : Nat} {Q : VK}
    (hc : SqT K H c ys) (hys : DpAll K H ys (ts.map tieD)) (hl : ts.length ≤ 3000) (hcs : σ[ic]? = some (some (.ref c)))
    (hw : ∀ u, wipe ((wipe σ [ie]).set ie u) [ie] = wipe σ [ie]) (he : ∀ u, ((wipe σ [ie]).set ie u)[ie]? = some u)
    (htp : ∀ u H' (Q : VK), (∀ p, H' p = none → Q (.ref p) (upd H' p (.tup [.int (x : Int), .int (y : Int)]))) → tp ((wipe σ [ie]).set ie u) H' Q)
    (h : ∀ D H', H' D = some (.lst (List.replicate (ts.countP fun t => decide (t = (x, y))) (V.int 1))) → Same H H' → H D = none → Q (.ref D) H') :
    tLc (iTup K (tVar ic)) (gName ie) (tTest (tOp (rEqD K) (tVar ie) tp)) (tC (.int 1)) [ie] σ H Q := by
  have hyl : ys.length = ts.length := by rw [dpAll_len hys, List.length_map]
  refine ⟨_, hcs, c, rfl, ⟨ys, hc⟩, fun D hD => ?_⟩
  refine lc_run (walk_tup (xs := ys)) hD (fun i acc _ => acc = List.replicate ((ts.take i).countP fun t => decide (t = (x, y))) (V.int 1)) ?_ ?_ ?_ ?_
  · exact fun H' s => sqT_same s hc
  · rfl
  · rintro i v acc H2 H' hi hacc e s r ⟨rfl, hv⟩
    obtain ⟨d, hd, hdp⟩ := dpAll_get hys hv
    obtain ⟨t, ht, rfl⟩ := get_map hd
    refine ⟨hw _, ?_⟩
    refine ⟨_, he _, htp _ _ _ fun q hq => ?_⟩
    have sq : Same H' (upd H' q (.tup [.int (x : Int), .int (y : Int)])) := same_new hq
    have s1 : SeqAt.shaped (tieD t) = true := by simp [SeqAt.shaped, tieD, PyData.canLay0, PyData.canLayAll0, PyData.depth, PyData.depthAll]
    have s2 : SeqAt.shaped (tieD (x, y)) = true := by simp [SeqAt.shaped, tieD, PyData.canLay0, PyData.canLayAll0, PyData.depth, PyData.depthAll]
    refine ⟨tieD t, tieD (x, y), dp_same (s.trans sq) _ hdp, .tup (SqT.of upd_same) (.cons (.int _) (.cons (.int _) .nil)), s1, s2, _, rfl, ?_⟩
    have r' : acc = List.replicate ((ts.take i).countP fun t => decide (t = (x, y))) (V.int 1) := r
    have hcl : (ts.take i).countP (fun t => decide (t = (x, y))) ≤ 3000 := Nat.le_trans List.countP_le_length (by rw [List.length_take]; omega)
    have hstep : (ts.take (i + 1)).countP (fun t => decide (t = (x, y))) = (ts.take i).countP (fun t => decide (t = (x, y))) + if t = (x, y) then 1 else 0 := by
      rw [List.take_add_one, ht, List.countP_append]
      show _ + List.countP _ [t] = _
      rw [List.countP_singleton]
      simp
    have heq : PyData.eqv (tieD t) (tieD (x, y)) = decide (t = (x, y)) := by
      obtain ⟨a, b⟩ := t
      have e1 : ∀ m n : Nat, (((m : Int)) == ((n : Int))) = decide (m = n) := fun m n => by
        by_cases z : m = n
        · subst z; simp
        · rw [decide_eq_false z]
          exact beq_eq_false_iff_ne.mpr fun w => z (by omega)
      have e2 : decide ((a, b) = (x, y)) = (decide (a = x) && decide (b = y)) := by
        rw [← Bool.decide_and]
        congr 1
        exact propext ⟨fun z => Prod.mk.inj z, fun z => by rw [z.1, z.2]⟩
      rw [e2]
      show (((a : Int) == (x : Int)) && (((b : Int) == (y : Int)) && true)) = _
      rw [e1, e1, Bool.and_true]
    rw [heq]
    refine ite2 (fun hh => ?_) (fun hh => ?_)
    · have hh' := of_decide_eq_true hh
      refine lc_add hacc e sq (by rw [r', List.length_replicate]; omega) ?_
      rw [hstep, if_pos hh', r', List.replicate_succ']
    · have hh' : ¬ t = (x, y) := fun z => hh (decide_eq_true z)
      refine lc_skip hacc e sq ?_
      rw [hstep, if_neg hh', Nat.add_zero]
      exact r'
  · rintro acc H2 h1 s2 r
    have r' : acc = List.replicate ((ts.take ys.length).countP fun t => decide (t = (x, y))) (V.int 1) := r
    rw [hyl, List.take_of_length_le (Nat.le_refl _)] at r'
    exact h D H2 (by rw [h1, r']) s2 hD
end BV

namespace BV
open PySem L2
theorem tupLc_by {K : PySem.W.Frag} {wi : TI} {g : TG} {tt : TT} {te : TE} {vs : List Nat} {σ : L2.St} {H : Hp} {i : Nat} {D : Ends}
    (h : tLc wi g tt te vs σ H (fun x H1 => rTupK K [x] H1 (fun v H2 => D.nx (σ.set i (some v)) H2))) :
    tAsg (tCB (rTupK K) (tCons (tLc wi g tt te vs) tNil)) (gName i) D σ H := h
theorem lenLc_by {K : PySem.W.Frag} {wi : TI} {g : TG} {tt : TT} {te : TE} {vs : List Nat} {σ : L2.St} {H : Hp} {i : Nat} {D : Ends}
    (h : tLc wi g tt te vs σ H (fun x H1 => rLenK K [x] H1 (fun v H2 => D.nx (σ.set i (some v)) H2))) :
    tAsg (tCB (rLenK K) (tCons (tLc wi g tt te vs) tNil)) (gName i) D σ H := h
end BV

namespace BV
open PySem L2
theorem reps (n : Nat) (v : V) : (List.replicate n [v]).flatten = (List.range n).map fun _ => v := by
  induction n with
  | zero => rfl
  | succ n ih =>
    rw [List.replicate_succ', List.flatten_append, ih, List.range_succ, List.map_append]
    rfl
theorem shaped_row (f : Nat → Int) (n : Nat) : SeqAt.shaped (.tuple ((List.range n).map fun q => .int (f q))) = true := by
  rw [ints_row]
  have h1 := lay_ints ((List.range n).map f)
  have h2 := deep_ints ((List.range n).map f)
  have h3 : PyData.depthAll (((List.range n).map f).map PyData.int) + 1 ≤ 64 := by omega
  simp only [SeqAt.shaped, PyData.canLay0, PyData.depth, h1, Bool.true_and]
  exact decide_eq_true h3
theorem dp_row {K : PySem.W.Frag} {H : Hp} {v : V} {f : Nat → Int} {n : Nat} (h : Dp K H v (.tuple ((List.range n).map fun q => .int (f q)))) :
    ∃ a, v = .ref a ∧ SqT K H a ((List.range n).map fun q => V.int (f q)) := by
  obtain ⟨a, xs, e, h1, h2⟩ := dp_tup h
  rw [ints_row] at h2
  rw [ints_rowV, ← dpAll_ints' h2]
  exact ⟨a, e, h1⟩
theorem eqv_self {d : PyData} (h : SeqAt.shaped d = true) : PyData.eqv d d = true := by
  have h1 : d.canLay0 = true := SeqAt.canLay_of_shaped h
  first | exact PySem.eqv_refl d h1 | exact PySem.P3.eqv_refl d h1 | exact PySem.SeqAt.eqv_refl d h1 | exact PyData.eqv_refl d h1
/-- nothing in it: two empty lists -/
theorem none_found {K : PySem.W.Frag} {H : Hp} {a b : Addr} (ha : H a = some (.lst [])) (hb : H b = some (.lst [])) :
    ∃ d e, Dp K H (.ref a) d ∧ Dp K H (.ref b) e ∧ SeqAt.shaped d = true ∧ SeqAt.shaped e = true ∧ PyData.eqv d e = true :=
  ⟨.list [], .list [], .lst (SqL.of ha) .nil, .lst (SqL.of hb) .nil, shaped_intsL [], shaped_intsL [], by rfl⟩
end BV

namespace BV
open PySem PySem.Spec PyProof.Rows L2

/-! ### t * k for k from 1 on: once is the tuple itself -/
theorem mul_once (l : Addr) (items : Array Value) (n : Nat) (dd : Option Addr) (sl : Array (Option Value)) (u : Tok) :
    Meets (Builtin.«tuple.__mul__» ⟨[.ref l, .int 1 u], []⟩) (fun _ R s => s.heap.get? l = some { cls := .type "tuple", dict := dd, data := .seq items n, slots := sl } ∧
      R (.ok (.ret (Value.ref l))) s) := by
  refine .of_wp fun prog w A R s h => ?_
  obtain ⟨hp, g, d, tk, os⟩ := s
  obtain ⟨hl, h⟩ := h
  have f1 := AutoSeq1.idx_int
  have c0 : (decide ((1 : Int) < -(2 ^ 63)) || decide ((1 : Int) ≥ 2 ^ 63)) = false := by decide
  have c1 : (items.isEmpty || (1 : Int) == 1) = true := by simp
  wp_walk using AutoSeq1.wpAny_loadPart' hl
  repeat (first
    | (refine wpAny_ite_false (decide_eq_false (by rw [c0]; exact Bool.false_ne_true)) ?_; wp_walk using AutoSeq1.wpAny_loadPart' hl)
    | (refine wpAny_ite_true (decide_eq_true c1) ?_; wp_walk using AutoSeq1.wpAny_loadPart' hl))
  exact ⟨_, rfl, h⟩
def rRepT1 (K : PySem.W.Frag) : R2 := fun x y H Q => ∃ l k xs, x = .ref l ∧ y = .int k ∧ SqT K H l xs ∧ xs ≠ [] ∧ 1 ≤ k ∧ k ≤ 1000 ∧ xs.length ≤ 1000 ∧
  (k = 1 → Q (.ref l) H) ∧ (2 ≤ k → ∀ p, H p = none → Q (.ref p) (upd H p (.tup (List.replicate k.toNat xs).flatten)))
theorem op_repT1 {X : Cx} (K : PySem.W.Frag) (hK : X.K = K := by rfl) : OpR X (binaryOp .Mult) (rRepT1 K) := by
  subst hK
  intro pins s σ H x y v u Q I rx ry h
  obtain ⟨l, k, xs, rfl, rfl, hT, hne, h1, h2, hz, q1, q2⟩ := h
  by_cases hk : k = 1
  · subst hk
    cases rx
    obtain ⟨t, rfl⟩ := ry
    obtain ⟨its, r, ⟨⟨cls, dd, data, sl⟩, ho, hc, n, hd⟩, hs⟩ := I.tuple hT
    simp only at hc hd
    subst hc hd
    refine wpAny_binaryOp_repeat_ref (T := "tuple") (U := "int") (by decide) ⟨_, ho, rfl⟩ (fun s' => typeIs_int s' 1 t) noFill_tuple_mul F.fills_int_mul F.slot_int_rmul repeat_tuple F.slot_int_index.lookup ?_
    refine call_meets F.slot_int_rmul (typeIs_int s 1 t) F.entry_int_rmul (F.args_int_rmul_2 _ _) (int_rmul_tuple 1 t l its.toArray n dd sl) ⟨ho, rfl, ⟨_, ho, rfl⟩, ?_⟩
    refine call_meets F.slot_tuple_mul ⟨_, ho, rfl⟩ F.entry_tuple_mul (F.args_tuple_mul_2 _ _) (mul_once l its.toArray n dd sl t) ⟨ho, ?_⟩
    exact ⟨.ref l, H, I, rfl, q1 rfl⟩
  · exact op_repT pins s σ H (.ref l) (.int k) v u Q I rx ry ⟨l, k, xs, rfl, rfl, hT, hne, by omega, h2, hz, q2 (by omega)⟩
end BV

namespace BV
open PySem L2
theorem mat_perm {ts us : List Tie} (h : ts.Perm us) (n : Nat) : matD n ts = matD n us := by
  unfold matD rowD
  congr 2
  funext p
  congr 2
  funext q
  rw [entry_perm h]
theorem dpAll_rev {K : PySem.W.Frag} {H : Hp} : ∀ {ds : List PyData} {vs : List V}, DpAll K H vs ds → DpAll K H vs.reverse ds.reverse
  | [], _, h => by cases h; exact .nil
  | d :: ds, _, h => by
    cases h with
    | cons h1 h2 =>
      rw [List.reverse_cons, List.reverse_cons]
      exact dpAll_app (dpAll_rev h2) (.cons h1 .nil)
theorem flat_one (k : Nat) (v : V) : (List.replicate k [v]).flatten = List.replicate k v := by
  induction k with
  | zero => rfl
  | succ k ih =>
    rw [List.replicate_succ, List.flatten_cons, ih, List.replicate_succ]
    rfl
theorem dp_fat {K : PySem.W.Frag} {H : Hp} {z t1 : Addr} {k : Nat} (hz : SqT K H z (List.replicate k (.ref t1))) (ht : SqT K H t1 [.int 0, .int 1]) :
    Dp K H (.ref z) (tiesD (List.replicate k (0, 1))) := by
  refine .tup hz ?_
  clear hz
  induction k with
  | zero => exact .nil
  | succ k ih =>
    rw [List.replicate_succ, List.replicate_succ, List.map_cons]
    exact .cons (.tup ht (.cons (.int _) (.cons (.int _) .nil))) ih
end BV

namespace BV
open PySem L2 RZ

/-! ### further rules that name the written part -/
section
variable {X : Cx} (K : PySem.W.Frag)
theorem slTA (h : X.K = K := by rfl) : SlR X (rSlA K) := by
  subst h
  exact sl_tupA
def rListK (K : PySem.W.Frag) : List V → Hp → VK → Prop := fun xs H Q => ∃ p ys, xs = [.ref p] ∧ (SqL K H p ys ∨ SqT K H p ys) ∧ ∀ l, H l = none → Q (.ref l) (upd H l (.lst ys))
theorem listK (h : X.K = K := by rfl) : CallR X (.type "list") (rListK K) := by
  subst h
  exact call_list_of
theorem revL {e : Expr} {te : TE} {k : Nat} {p1 p2 p3 pos : Pos} (he : PE X e te) (h : X.K = K := by rfl) :
    PE X (.Subscript e (.Slice none none (some (.UnaryOp .USub (.Constant (.int 1) k p1) p2)) p3) pos) (tRevL K te) := by
  subst h
  exact pe_revL he
theorem zipA {e e2 : Expr} {ta : TA} {p pos tpos : Pos} {elts : List Expr} {kk : Nat} (hg : Gl X "zip") (hm : X.mg "zip" = none) (ha : PA X [e, e2] ta)
    (hs : starEach [e, e2] X.env = (false, eval e X.env) :: starEach [e2] X.env := by rfl) (hpl : (backTo pos (starEach [e2] X.env)).any (·.1) = false := by rfl) (h : X.K = K := by rfl) :
    PI X (.Tuple elts kk tpos) (.Call (.Name "zip" p) [e, e2] [] pos) (iZipA K ta) := by
  subst h
  exact pi_zipA hg hm ha hs hpl
theorem rgc {a b c : Expr} {tg : Expr} {ta : TA} {p pos : Pos} (hg : Gl X "range") (hm : X.mg "range" = none) (ha : PA X [a, b, c] ta)
    (hs : starEach [a, b, c] X.env = (false, eval a X.env) :: starEach [b, c] X.env := by rfl) (hpl : (backTo pos (starEach [b, c] X.env)).any (·.1) = false := by rfl) :
    PI X tg (.Call (.Name "range" p) [a, b, c] [] pos) (iRng3 ta) := pi_range3 hg hm ha hs hpl
end
theorem walk_zipT {K : PySem.W.Frag} {a b : Addr} {xs ys : List V} (hl : xs.length = ys.length) :
    Walk (ItzT K a b) xs.length (fun H => SqT K H a xs ∧ SqT K H b ys) (YPair (fun i => xs[i]?) (fun i => ys[i]?)) := by
  refine ⟨fun i H hi q => ?_, fun H q => ⟨xs, ys, q.1, q.2, .inl (Nat.le_refl _)⟩, fun i H v H' _ q y => ?_⟩
  · have h2 : i < ys.length := by omega
    exact ⟨xs, ys, xs[i], ys[i], q.1, q.2, by simp [hi], by simp [h2]⟩
  · obtain ⟨T, x, z, h1, h2, h3, h4, h5⟩ := y
    exact ⟨T, x, z, h1, h2, h3, h4 xs q.1, h5 ys q.2⟩
theorem tAnd_by {ta : TT} {tb : TT} {σ : L2.St} {H : Hp} {Q : Bool → Hp → Prop} (h : tAnd ta tb σ H Q) : tAnd ta tb σ H Q := h

/-! ### numbers on ties -/
def numsD (L : Nat) (f : Nat → Int) : PyData := .tuple ((List.range L).map fun k => .int (f k))
def numsV (L : Nat) (f : Nat → Int) : List V := (List.range L).map fun k => V.int (f k)
theorem dp_nums {K : PySem.W.Frag} {H : Hp} {v : V} {L : Nat} {f : Nat → Int} (h : Dp K H v (numsD L f)) : ∃ a, v = .ref a ∧ SqT K H a (numsV L f) := dp_row h
theorem nums_dp {K : PySem.W.Frag} {H : Hp} {a : Addr} {L : Nat} {f : Nat → Int} (h : SqT K H a (numsV L f)) : Dp K H (.ref a) (numsD L f) := by
  refine .tup h ?_
  unfold numsV
  rw [ints_row, ints_rowV]
  exact dpAll_ints _
theorem numsV_len (L : Nat) (f : Nat → Int) : (numsV L f).length = L := by simp [numsV]
theorem numsV_get {L : Nat} {f : Nat → Int} {k : Nat} (h : k < L) : (numsV L f)[k]? = some (.int (f k)) := by
  unfold numsV
  rw [List.getElem?_map, List.getElem?_range h]
  rfl
theorem numsV_set (L : Nat) (f : Nat → Int) (k : Nat) (z : Int) : (numsV L f).set k (.int z) = numsV L (fun j => if j = k then z else f j) := by
  unfold numsV
  rw [range_set]
  apply List.map_congr_left
  intro j _
  by_cases h : j = k <;> simp [h]
theorem numsV_congr {L : Nat} {f g : Nat → Int} (h : ∀ k, k < L → f k = g k) : numsV L f = numsV L g :=
  List.map_congr_left fun k hk => by rw [h k (List.mem_range.mp hk)]
theorem numsD_congr {L : Nat} {f g : Nat → Int} (h : ∀ k, k < L → f k = g k) : numsD L f = numsD L g := by
  unfold numsD
  congr 1
  exact List.map_congr_left fun k hk => by rw [h k (List.mem_range.mp hk)]
theorem still_nums (L : Nat) (f : Nat → Int) : still (numsD L f) = true := by
  have h := still_ints ((List.range L).map f)
  rw [← ints_row] at h
  simpa [numsD, still] using h

/-! ### deeds -/
inductive Deed where
  | star (p : Nat) (t : Int) | round (ks : List Nat) (t : Int)
namespace Deed
def times : Deed → Int
  | star _ t => t
  | round _ t => t
def about : Deed → PyData
  | star p _ => .int p
  | round ks _ => lotD ks
def word : Deed → Str
  | star _ _ => "star"
  | round _ _ => "round"
def neg : Deed → Deed
  | star p t => star p (-t)
  | round ks t => round ks (-t)
def D (d : Deed) : PyData := .tuple [.str d.word, d.about, .int d.times]
def touch (ts : List Tie) : Deed → Nat → Bool
  | star p _, k => hit ts p k
  | round ks _, k => decide (k ∈ ks)
def part (ts : List Tie) (d : Deed) (k : Nat) : Int := if d.touch ts k = true then d.times else 0
def Ok (ts : List Tie) : Deed → Prop
  | star _ _ => True
  | round ks _ => (∀ k ∈ ks, k < ts.length) ∧ ks.Nodup
end Deed
/-- the numbers behind some deeds -/
def behind (ts : List Tie) (f : Nat → Int) : List Deed → Nat → Int
  | [] => f
  | d :: ds => behind ts (fun k => f k + d.part ts k) ds
def effect (ts : List Tie) (ds : List Deed) (k : Nat) : Int := (ds.map fun d => d.part ts k).sum
theorem behind_eq (ts : List Tie) : ∀ (ds : List Deed) (f : Nat → Int) (k : Nat), behind ts f ds k = f k + effect ts ds k
  | [], f, k => by simp [behind, effect]
  | d :: ds, f, k => by
    rw [behind, behind_eq ts ds]
    simp only [effect, List.map_cons, List.sum_cons]
    omega
theorem effect_perm {ts : List Tie} {ds es : List Deed} (h : ds.Perm es) (k : Nat) : effect ts ds k = effect ts es k := by
  induction h with
  | nil => rfl
  | cons d _ ih =>
    unfold effect at ih ⊢
    simp only [List.map_cons, List.sum_cons, ih]
  | swap a b l =>
    unfold effect
    simp only [List.map_cons, List.sum_cons]
    omega
  | trans _ _ ih1 ih2 => rw [ih1, ih2]
theorem effect_app (ts : List Tie) (ds es : List Deed) (k : Nat) : effect ts (ds ++ es) k = effect ts ds k + effect ts es k := by
  unfold effect
  rw [List.map_append, List.sum_append]
theorem touch_neg (ts : List Tie) (d : Deed) (k : Nat) : d.neg.touch ts k = d.touch ts k := by cases d <;> rfl
theorem part_neg (ts : List Tie) (d : Deed) (k : Nat) : d.neg.part ts k = -(d.part ts k) := by
  unfold Deed.part
  rw [touch_neg]
  split
  · cases d <;> rfl
  · rfl
theorem effect_neg (ts : List Tie) : ∀ (ds : List Deed) (k : Nat), effect ts (ds.map Deed.neg) k = -(effect ts ds k)
  | [], k => rfl
  | d :: ds, k => by
    have := effect_neg ts ds k
    unfold effect at this ⊢
    simp only [List.map_cons, List.sum_cons, this, part_neg]
    omega
theorem still_deed (d : Deed) : still d.D = true := by
  cases d with
  | star p t => simp [Deed.D, Deed.about, still, stillAll]
  | round ks t =>
    have h : stillAll (ks.map fun (k : Nat) => PyData.int k) = true := by
      have e : (ks.map fun (k : Nat) => PyData.int k) = (ks.map fun (k : Nat) => (k : Int)).map PyData.int := by rw [List.map_map]; rfl
      rw [e]
      exact still_ints _
    simp [Deed.D, Deed.about, still, stillAll, lotD, h]
theorem still_deeds : ∀ ds : List Deed, stillAll (ds.map Deed.D) = true
  | [] => by simp [stillAll]
  | d :: ds => by simp [stillAll, still_deed, still_deeds ds]
theorem still_lot (ks : List Nat) : still (lotD ks) = true := by
  have e : (ks.map fun (k : Nat) => PyData.int k) = (ks.map fun (k : Nat) => (k : Int)).map PyData.int := by rw [List.map_map]; rfl
  simp only [lotD, still, e]
  exact still_ints _
theorem dp_deed {K : PySem.W.Frag} {H : Hp} {v : V} {d : Deed} (h : Dp K H v d.D) :
    ∃ a va, v = .ref a ∧ SqT K H a [.str d.word, va, .int d.times] ∧ Dp K H va d.about := by
  obtain ⟨a, xs, e, h1, h2⟩ := dp_tup h
  cases h2 with
  | cons q1 q2 =>
    cases q1
    cases q2 with
    | cons q3 q4 =>
      cases q4 with
      | cons q5 q6 =>
        cases q5
        cases q6
        exact ⟨a, _, e, h1, q3⟩
theorem dp_lotI {K : PySem.W.Frag} {H : Hp} {v : V} {ks : List Nat} (h : Dp K H v (lotD ks)) : ∃ a, v = .ref a ∧ SqT K H a (ks.map fun (k : Nat) => V.int k) := by
  obtain ⟨a, xs, e, h1, h2⟩ := dp_tup h
  have e2 : (ks.map fun (k : Nat) => PyData.int k) = (ks.map fun (k : Nat) => (k : Int)).map PyData.int := by rw [List.map_map]; rfl
  have e3 : (ks.map fun (k : Nat) => V.int k) = (ks.map fun (k : Nat) => (k : Int)).map V.int := by rw [List.map_map]; rfl
  rw [e2] at h2
  rw [e3, ← dpAll_ints' h2]
  exact ⟨a, e, h1⟩
def spDo (K : PySem.W.Frag) : Sp := fun vs H Q _ => ∃ (v dv : V) (l : Addr) (n : Nat) (ts : List Tie) (d : Deed) (f : Nat → Int), vs = [v, .ref l, dv] ∧
  Dp K H v (webD n ts) ∧ Dp K H dv d.D ∧ d.Ok ts ∧ ts.length ≤ 3000 ∧ H l = some (.lst (numsV ts.length f)) ∧
  ∀ H', Kp l l H H' → H' l = some (.lst (numsV ts.length fun k => f k + d.part ts k)) → Q .non H'
def spDone (K : PySem.W.Frag) : Sp := fun vs H Q _ => ∃ (v sv dv : V) (n : Nat) (ts : List Tie) (f : Nat → Int) (ds : List Deed), vs = [v, sv, dv] ∧
  Dp K H v (webD n ts) ∧ Dp K H sv (numsD ts.length f) ∧ Dp K H dv (.tuple (ds.map Deed.D)) ∧ (∀ d ∈ ds, d.Ok ts) ∧ ts.length ≤ 3000 ∧
  ∀ u H', Same H H' → Dp K H' u (numsD ts.length (behind ts f ds)) → Q u H'
def spUndone (K : PySem.W.Frag) : Sp := fun vs H Q _ => ∃ (dv : V) (ds : List Deed), vs = [dv] ∧ Dp K H dv (.tuple (ds.map Deed.D)) ∧ ds.length ≤ 3000 ∧
  ∀ u H', Same H H' → Dp K H' u (.tuple ((ds.reverse.map Deed.neg).map Deed.D)) → Q u H'
def spDiff (K : PySem.W.Frag) : Sp := fun vs H Q _ => ∃ (v u : V) (L : Nat) (f g : Nat → Int), vs = [v, u] ∧ Dp K H v (numsD L f) ∧ Dp K H u (numsD L g) ∧ L ≤ 3000 ∧
  ∀ z H', Same H H' → Dp K H' z (numsD L fun k => g k - f k) → Q z H'
end BV

namespace BV
open PySem L2
/-! ### small data, that may be written as a text -/
structure Sm (d : PyData) (c k : Nat) : Prop where
  t : tiny d = true
  n : nodes d ≤ c
  p : d.depth ≤ k
theorem Sm.mono {d : PyData} {c k c' k' : Nat} (h : Sm d c k) (h1 : c ≤ c') (h2 : k ≤ k') : Sm d c' k' := ⟨h.t, Nat.le_trans h.n h1, Nat.le_trans h.p h2⟩
theorem sm_all {c k : Nat} : ∀ ds : List PyData, (∀ d ∈ ds, Sm d c k) → tinyAll ds = true ∧ nodesAll ds ≤ ds.length * c ∧ PyData.depthAll ds ≤ k
  | [], _ => by simp [tinyAll, nodesAll, PyData.depthAll]
  | d :: ds, h => by
    obtain ⟨a, b, e⟩ := sm_all ds fun m hm => h m (List.mem_cons_of_mem _ hm)
    obtain ⟨a1, b1, e1⟩ := h d (List.mem_cons_self ..)
    refine ⟨by simp only [tinyAll, a, a1, Bool.and_self], ?_, ?_⟩
    · simp only [nodesAll, List.length_cons]
      rw [Nat.succ_mul]
      omega
    · simp only [PyData.depthAll]
      omega
theorem sm_tup {ds : List PyData} {c k : Nat} (h : ∀ d ∈ ds, Sm d c k) : Sm (.tuple ds) (ds.length * c + 1) (k + 1) := by
  obtain ⟨a, b, e⟩ := sm_all ds h
  refine ⟨by simpa only [tiny] using a, by simp only [nodes]; omega, by simp only [PyData.depth]; omega⟩
theorem sm_lst {ds : List PyData} {c k : Nat} (h : ∀ d ∈ ds, Sm d c k) : Sm (.list ds) (ds.length * c + 1) (k + 1) := by
  obtain ⟨a, b, e⟩ := sm_all ds h
  refine ⟨by simpa only [tiny] using a, by simp only [nodes]; omega, by simp only [PyData.depth]; omega⟩
theorem sm_show {d : PyData} {c k : Nat} (h : Sm d c k) (hc : c ≤ 15000) (hk : k ≤ 40) : Show d := show_of h.t (Nat.le_trans h.p hk) (Nat.le_trans h.n hc)
theorem sm_int {z : Int} (h : z.natAbs < 2 ^ 200) : Sm (.int z) 1 0 := by
  have hl : z.natAbs.log2 < 300 := Nat.lt_of_lt_of_le (PySem.Flt.log2_lt_of (by decide) h) (by decide)
  exact ⟨by simp only [tiny, hl, decide_true], by simp only [nodes]; exact Nat.le_refl _, by simp only [PyData.depth]; exact Nat.le_refl _⟩
theorem sm_nat {k : Nat} (h : k < 100000) : Sm (.int (k : Int)) 1 0 := sm_int (Nat.lt_of_lt_of_le (show ((k : Int)).natAbs < 100000 by omega) (by decide))
theorem sm_lot {ks : List Nat} (h : ∀ k ∈ ks, k < 100000) : Sm (lotD ks) (ks.length + 1) 1 := by
  have := sm_tup (ds := ks.map fun (k : Nat) => PyData.int k) (c := 1) (k := 0) fun d hd => by
    obtain ⟨k, hk, rfl⟩ := List.mem_map.mp hd
    exact sm_nat (h k hk)
  rw [List.length_map, Nat.mul_one] at this
  exact this
theorem sm_nums {L : Nat} {f : Nat → Int} (h : ∀ k, (f k).natAbs < 2 ^ 200) : Sm (numsD L f) (L + 1) 1 := by
  have := sm_tup (ds := (List.range L).map fun k => PyData.int (f k)) (c := 1) (k := 0) fun d hd => by
    obtain ⟨k, hk, rfl⟩ := List.mem_map.mp hd
    exact sm_int (h k)
  rw [List.length_map, List.length_range, Nat.mul_one] at this
  exact this
theorem sm_tie {t : Tie} (h : t.1 < 100000 ∧ t.2 < 100000) : Sm (tieD t) 3 1 :=
  sm_tup (ds := [.int t.1, .int t.2]) (c := 1) (k := 0) fun d hd => by
    rcases List.mem_cons.mp hd with rfl | hd
    · exact sm_nat h.1
    · obtain rfl := List.mem_singleton.mp hd
      exact sm_nat h.2
theorem sm_web {n : Nat} {ts : List Tie} (h : ∀ t ∈ ts, t.1 < 100000 ∧ t.2 < 100000) (hn : n < 100000) : Sm (webD n ts) (6 * ts.length + 3) 3 := by
  have h1 : Sm (tiesD ts) (ts.length * 3 + 1) 2 := by
    have := sm_tup (ds := ts.map tieD) (c := 3) (k := 1) fun d hd => by
      obtain ⟨k, hk, rfl⟩ := List.mem_map.mp hd
      exact sm_tie (h k hk)
    rw [List.length_map] at this
    exact this
  have h2 := sm_tup (ds := [.int n, tiesD ts]) (c := ts.length * 3 + 1) (k := 2) fun d hd => by
    rcases List.mem_cons.mp hd with rfl | hd
    · exact (sm_nat hn).mono (by omega) (by omega)
    · obtain rfl := List.mem_singleton.mp hd
      exact h1
  exact h2.mono (by show 2 * (ts.length * 3 + 1) + 1 ≤ _; omega) (Nat.le_refl _)
theorem sm_deed {d : Deed} {m : Nat} (h1 : d.times.natAbs < 2 ^ 200) (h2 : Sm d.about m 1) (hm : 1 ≤ m) : Sm d.D (3 * m + 1) 2 := by
  refine sm_tup (ds := [.str d.word, d.about, .int d.times]) (c := m) (k := 1) fun e he => ?_
  rcases List.mem_cons.mp he with rfl | he
  · refine ⟨?_, by simp only [nodes]; exact hm, by simp only [PyData.depth]; omega⟩
    cases d with
    | star p t => show tiny (.str "star") = true; decide
    | round ks t => show tiny (.str "round") = true; decide
  · rcases List.mem_cons.mp he with rfl | he
    · exact h2
    · obtain rfl := List.mem_singleton.mp he
      exact (sm_int h1).mono hm (by omega)
theorem sm_deeds {ds : List Deed} {m : Nat} (h : ∀ d ∈ ds, d.times.natAbs < 2 ^ 200 ∧ Sm d.about m 1) (hm : 1 ≤ m) : Sm (.tuple (ds.map Deed.D)) (ds.length * (3 * m + 1) + 1) 3 := by
  have := sm_tup (ds := ds.map Deed.D) (c := 3 * m + 1) (k := 2) fun e he => by
    obtain ⟨d, hd, rfl⟩ := List.mem_map.mp he
    exact sm_deed (h d hd).1 (h d hd).2 hm
  rw [List.length_map] at this
  exact this
/-- how much some deeds can do -/
theorem effect_abs {ts : List Tie} {B : Nat} : ∀ (ds : List Deed) (k : Nat), (∀ d ∈ ds, d.times.natAbs ≤ B) → (effect ts ds k).natAbs ≤ ds.length * B
  | [], k, _ => by simp [effect]
  | d :: ds, k, h => by
    have ih := effect_abs (ts := ts) ds k fun m hm => h m (List.mem_cons_of_mem _ hm)
    have hd := h d (List.mem_cons_self ..)
    have hp : (d.part ts k).natAbs ≤ B := by
      unfold Deed.part
      split
      · exact hd
      · simp
    unfold effect at ih ⊢
    simp only [List.map_cons, List.sum_cons, List.length_cons]
    rw [Nat.succ_mul]
    omega
theorem behind_abs {ts : List Tie} {B M : Nat} {f : Nat → Int} (ds : List Deed) (k : Nat) (h : ∀ d ∈ ds, d.times.natAbs ≤ B) (hf : ∀ k, (f k).natAbs ≤ M) :
    (behind ts f ds k).natAbs ≤ M + ds.length * B := by
  rw [behind_eq]
  have h1 := effect_abs (ts := ts) ds k h
  have h2 := hf k
  omega
theorem neg_neg (d : Deed) : d.neg.neg = d := by
  cases d <;> simp [Deed.neg]
theorem map_neg_neg (ds : List Deed) : (ds.map Deed.neg).map Deed.neg = ds := by
  rw [List.map_map]
  have : Deed.neg ∘ Deed.neg = id := funext neg_neg
  rw [this, List.map_id]
end BV
namespace BV
open PySem L2
theorem atI_last {xs : List V} {v : V} (h0 : 0 < xs.length) (h : xs[xs.length - 1]? = some v) : atI xs (-1) = some v := by
  have e : ixN xs.length (-1) = some (xs.length - 1) := by
    unfold ixN
    rw [if_neg (by omega), if_pos (by omega)]
    congr 1
    omega
  unfold atI
  rw [e]
  exact h
end BV
namespace BV
open PySem L2
theorem dpAll_take {K : PySem.W.Frag} {H : Hp} : ∀ {ds : List PyData} {vs : List V} (j : Nat), DpAll K H vs ds → DpAll K H (vs.take j) (ds.take j)
  | [], _, j, h => by cases h; simpa using DpAll.nil
  | d :: ds, _, 0, h => .nil
  | d :: ds, _, j + 1, h => by
    cases h with
    | cons h1 h2 => exact .cons h1 (dpAll_take j h2)
theorem dpAll_drop {K : PySem.W.Frag} {H : Hp} : ∀ {ds : List PyData} {vs : List V} (j : Nat), DpAll K H vs ds → DpAll K H (vs.drop j) (ds.drop j)
  | [], _, j, h => by cases h; simpa using DpAll.nil
  | d :: ds, _, 0, h => h
  | d :: ds, _, j + 1, h => by
    cases h with
    | cons h1 h2 => exact dpAll_drop j h2
theorem sIx_nat (n d j : Nat) : HT.sIx n d (some (j : Int)) = min j n := by
  unfold HT.sIx
  show (if (j : Int) < 0 then _ else min (j : Int).toNat n) = _
  rw [if_neg (by omega), Int.toNat_natCast]
theorem cut_hi (xs : List V) (j : Nat) : cutV xs none (some (j : Int)) = xs.take j := by
  unfold cutV
  rw [sIx_nat]
  show List.take (min j xs.length - 0) (List.drop 0 xs) = _
  rw [Nat.sub_zero, List.drop_zero]
  by_cases h : j ≤ xs.length
  · rw [Nat.min_eq_left h]
  · rw [Nat.min_eq_right (by omega), List.take_of_length_le (Nat.le_refl _), List.take_of_length_le (by omega)]
theorem cut_lo (xs : List V) (j : Nat) : cutV xs (some (j : Int)) none = xs.drop j := by
  unfold cutV
  rw [sIx_nat]
  show List.take (xs.length - min j xs.length) (List.drop (min j xs.length) xs) = _
  by_cases h : j ≤ xs.length
  · rw [Nat.min_eq_left h]
    exact List.take_of_length_le (by rw [List.length_drop]; exact Nat.le_refl _)
  · rw [Nat.min_eq_right (by omega), List.drop_of_length_le (Nat.le_refl _), List.drop_of_length_le (by omega)]
    simp
theorem at_st {t : TS} {D : Ends} {σ : L2.St} {H : Hp} (σ' : L2.St) (e : σ = σ') (h : t D σ' H) : t D σ H := by
  subst e
  exact h
end BV
namespace BV
open PySem L2
theorem slA_by {K : PySem.W.Frag} {x : V} {lo hi : Option Int} {H : Hp} {Q : VK} {a : Addr} {xs : List V} (hx : x = .ref a) (h : SqT K H a xs)
    (k : ∀ (c : Addr) H', Same H H' → SqT K H' c (cutV xs lo hi) → Q (.ref c) H') : rSlA K x lo hi H Q := by
  refine ⟨a, xs, hx, h, fun z => k _ _ (Same.refl _) ?_, fun _ p hp => k _ _ (same_new hp) (SqT.of upd_same)⟩
  have e : cutV xs lo hi = xs := by
    unfold cutV
    rw [z.1, z.2, List.drop_zero, Nat.sub_zero, List.take_of_length_le (Nat.le_refl _)]
  rw [e]
  exact h
end BV

namespace BV
open PySem PySem.Spec PyProof.Rows L2
theorem cr_minT {X : Cx} (hc : X.calm = true) : CallR X (.builtin "min")
    (fun vs H Q => ∃ (a : Addr) (ns : List Int), vs = [V.ref a] ∧ SqT X.K H a (ns.map V.int) ∧ 0 < ns.length ∧ ∀ m, m ∈ ns → (∀ y ∈ ns, m ≤ y) → Q (.int m) H) := by
  intro pins s σ H vs us Q I r h
  obtain ⟨a, ns, rfl, hs, hpos, q⟩ := h
  obtain ⟨its, rv, hl, _⟩ := I.tuple hs
  rw [Vals.ref1 r]
  have hi := rv.ints
  obtain ⟨xs, e⟩ := hi.allInts.items
  have hn : numsOf (intItems xs).toList = ns := by rw [← e]; exact hi.numsOf
  rw [nums_intItems] at hn
  have hl2 : s.heap.IsTuple a its.toArray := hl
  rw [e] at hl2
  have hd := I.ok.hd hc
  have hsz : ns.length = xs.size := by rw [← hn]; simp
  have alt : a < s.heap.objs.size := by
    obtain ⟨o, h1, _⟩ := hl2
    exact Heap.lt_size h1
  have isz : (intItems xs).size = xs.size := by simp [intItems]
  refine call_min_walk (wpAny_pyIter_tuple hl2 ⟨_, _, _, _, _, _, _, rfl, Walks.tuple ?_ s.heap.objs.size a (Nat.ne_of_lt alt) (intItems xs), ⟨?_, ?_⟩, ?_, ?_, CmpOf.ints_lt (numAt xs) ?_, fun v h' tk hP hk => ?_⟩)
  · exact hd
  · exact ⟨_, Heap.get?_push_size _ rfl, rfl, rfl⟩
  · exact hl2.push _
  · intro b hb
    show b < (s.heap.objs.push _).size
    rw [Array.size_push]
    rcases List.mem_cons.mp hb with rfl | hb
    · exact Nat.lt_succ_self _
    · obtain rfl := List.mem_singleton.mp hb
      exact Nat.lt_succ_of_lt alt
  · rw [isz]
    omega
  · exact fun i v hv => intItems_at hv
  · rw [isz] at hP
    obtain ⟨t, rfl⟩ := intItems_at hP
    obtain ⟨b1, b2⟩ := argBest_lt (numAt xs) (xs.size - 1)
    refine ⟨.int _, H, I.kept fun b o hb => ?_, ⟨_, rfl⟩, ?_⟩
    · exact hk b o (fun z => by
        obtain rfl := List.mem_singleton.mp z
        exact Nat.lt_irrefl _ (Heap.lt_size hb)) (Heap.get?_push_of_some _ hb)
    · have nat : ∀ i, i < xs.size → numAt xs i ∈ ns ∧ True := fun i hi => by
        refine ⟨?_, trivial⟩
        rw [← hn]
        unfold numAt
        rw [Array.getElem?_eq_getElem hi]
        exact List.mem_map.mpr ⟨xs[i], by simp, rfl⟩
      refine q _ (nat _ (by omega)).1 fun y hy => ?_
      rw [← hn] at hy
      obtain ⟨p, hp, rfl⟩ := List.mem_map.mp hy
      obtain ⟨j, hj, rfl⟩ := List.mem_iff_getElem.mp hp
      have hj' : j < xs.size := by simpa using hj
      have := b2 j (by omega)
      have e2 : numAt xs j = (xs.toList[j]).1 := by
        unfold numAt
        rw [Array.getElem?_eq_getElem hj']
        simp
      rw [← e2]
      exact this
end BV
namespace BV
open PySem L2
section
variable {X : Cx} (K : PySem.W.Frag)
def rMinT (K : PySem.W.Frag) : List V → Hp → VK → Prop := fun vs H Q => ∃ (a : Addr) (ns : List Int), vs = [V.ref a] ∧ SqT K H a (ns.map V.int) ∧ 0 < ns.length ∧ ∀ m, m ∈ ns → (∀ y ∈ ns, m ≤ y) → Q (.int m) H
theorem minTK (hc : X.calm = true := by rfl) (h : X.K = K := by rfl) : CallR X (.builtin "min") (rMinT K) := by
  subst h
  exact cr_minT hc
theorem minLK (hc : X.calm = true := by rfl) (h : X.K = K := by rfl) : CallR X (.builtin "min") (rMin K) := by
  subst h
  exact cr_min hc
theorem anyLK (hc : X.calm = true := by rfl) (h : X.K = K := by rfl) : CallR X (.builtin "any") (rAny K) := by
  subst h
  exact cr_any hc
end
end BV

namespace BV
open PySem L2
/-! ### comprehensions that draw -/
theorem era_kp {b g D : Addr} {H H' : Hp} (s : Kp b g H H') : Kp b g (era H D) (era H' D) := fun a o e n1 n2 => by
  by_cases h : a = D
  · subst h
    rw [era_at] at e
    cases e
  · rw [era_ne h] at e ⊢
    exact s _ _ e n1 n2
theorem box_era {b g D : Addr} {H : Hp} (x : Box H b g) (h1 : D ≠ b) (h2 : D ≠ g) : Box (era H D) b g := by
  obtain ⟨⟨st, c, x1⟩, ns, x2, x3⟩ := x
  exact ⟨⟨st, c, by rw [era_ne h1.symm]; exact x1⟩, ns, by rw [era_ne h2.symm]; exact x2, x3⟩
theorem bx_set {b g l : Addr} {H : Hp} {o : HO} (x : Box H b g) (h1 : l ≠ b) (h2 : l ≠ g) : Box (upd H l o) b g := by
  obtain ⟨⟨st, c, x1⟩, ns, x2, x3⟩ := x
  exact ⟨⟨st, c, by rw [upd_ne h1.symm]; exact x1⟩, ns, by rw [upd_ne h2.symm]; exact x2, x3⟩
theorem bx_ne {b g l : Addr} {H : Hp} (x : Box H b g) (h : H l = none) : l ≠ b ∧ l ≠ g := by
  obtain ⟨⟨st, c, x1⟩, ns, x2, x3⟩ := x
  exact ⟨fun e => (by rw [e, x1] at h; cases h), fun e => (by rw [e, x2] at h; cases h)⟩
/-- as LcI, with the box of draws -/
def LcB (b g : Addr) (H1 : Hp) (D : Addr) (R : Nat → List V → Hp → Prop) (i : Nat) (H : Hp) : Prop :=
  ∃ acc, H D = some (.lst acc) ∧ Kp b g H1 (era H D) ∧ Box H b g ∧ R i acc (era H D)
theorem lc_addB {b g : Addr} {H1 H H4 : Hp} {D : Addr} {R : Nat → List V → Hp → Prop} {i : Nat} {acc : List V} {y : V} (nb : D ≠ b) (ng : D ≠ g) (ha : H D = some (.lst acc))
    (e : Kp b g H1 (era H D)) (s : Kp b g H H4) (x : Box H4 b g) (hl : acc.length < 100000) (r : R i (acc ++ [y]) (era H4 D)) :
    ∃ acc, H4 D = some (.lst acc) ∧ acc.length < sizeLine ∧ LcB b g H1 D R i (upd H4 D (.lst (acc ++ [y]))) := by
  refine ⟨acc, s _ _ ha nb ng, Nat.lt_of_lt_of_le hl (by decide), acc ++ [y], upd_same, ?_, bx_set x nb ng, ?_⟩
  · rw [era_upd]
    exact e.trans (era_kp s)
  · rw [era_upd]
    exact r
theorem lc_skipB {b g : Addr} {H1 H H3 : Hp} {D : Addr} {R : Nat → List V → Hp → Prop} {i : Nat} {acc : List V} (nb : D ≠ b) (ng : D ≠ g) (ha : H D = some (.lst acc))
    (e : Kp b g H1 (era H D)) (s : Kp b g H H3) (x : Box H3 b g) (r : R i acc (era H3 D)) : LcB b g H1 D R i H3 :=
  ⟨acc, s _ _ ha nb ng, e.trans (era_kp s), x, r⟩
theorem lc_runB {b g0 : Addr} {J : It} {n : Nat} {G : Hp → Prop} {Y : Nat → Hp → V → Hp → Prop} (w : Walk J n G Y) {g : TG} {tt : TT} {te : TE} {vs : List Nat}
    {σ : L2.St} {H1 : Hp} {D : Addr} {Qd : Hp → Prop} (hD : H1 D = none) (hB : Box H1 b g0) (R : Nat → List V → Hp → Prop)
    (hG : ∀ H, Kp b g0 H1 H → Box H b g0 → G H) (h0 : R 0 [] H1)
    (hs : ∀ i x acc H H', D ≠ b → D ≠ g0 → i < n → H D = some (.lst acc) → Kp b g0 H1 (era H D) → Kp b g0 H1 H → Box H b g0 → R i acc (era H D) → Y i H x H' →
      g x (wipe σ vs) H' fun σ2 H2 => wipe σ2 vs = wipe σ vs ∧ tt σ2 H2 fun t H3 =>
        if t = true then te σ2 H3 fun y H4 => ∃ acc, H4 D = some (.lst acc) ∧ acc.length < sizeLine ∧ LcB b g0 H1 D R (i + 1) (upd H4 D (.lst (acc ++ [y])))
        else LcB b g0 H1 D R (i + 1) H3)
    (hd : ∀ acc H, H D = some (.lst acc) → Kp b g0 H1 H → Box H b g0 → R n acc (era H D) → Qd H) :
    ∃ W : Nat → Nat → Hp → Prop, (∃ m, W 0 m (upd H1 D (.lst []))) ∧ ∀ i m H, W i m H →
      (J.stop i H ∧ Qd H) ∨ (J.go i H ∧ ∃ Nx : Hp → Prop, (∀ H', Nx H' → ∃ m', m' < m ∧ W (i + 1) m' H') ∧
        ∀ x H', J.yld i H x H' → g x (wipe σ vs) H' fun σ2 H2 => wipe σ2 vs = wipe σ vs ∧ tt σ2 H2 fun b H3 =>
        if b = true then te σ2 H3 fun y H4 => ∃ acc, H4 D = some (.lst acc) ∧ acc.length < sizeLine ∧ Nx (upd H4 D (.lst (acc ++ [y]))) else Nx H3) := by
  obtain ⟨nb, ng⟩ := bx_ne hB hD
  have back : ∀ {H : Hp}, Kp b g0 H1 (era H D) → Kp b g0 H1 H := fun e => e.trans (Kp.same era_back)
  refine lc_it w (LcB b g0 H1 D R) ?_ ?_ ?_ ?_
  · exact ⟨[], upd_same, by rw [era_upd, era_none hD]; exact Kp.refl _, bx_set hB nb ng, by rw [era_upd, era_none hD]; exact h0⟩
  · rintro i H _ ⟨acc, _, e, x, _⟩
    exact hG H (back e) x
  · rintro i x acc' H' hi ⟨acc, ha, e, bx, r⟩ y
    exact hs i x acc _ _ nb ng hi ha e (back e) bx r y
  · rintro H ⟨acc, ha, e, bx, r⟩
    exact hd acc H ha (back e) bx r
end BV

namespace BV
open PySem L2
/-! ### data, the empty dict among it -/
def Od (K : PySem.W.Frag) (H : Hp) (x : V) (d : PyData) : Prop := Dp K H x d ∨ (d = .dict [] ∧ ∃ a, x = .ref a ∧ H a = some (.dK []))
theorem Od.same {K : PySem.W.Frag} {H H' : Hp} {x : V} {d : PyData} (s : Same H H') (h : Od K H x d) : Od K H' x d := by
  rcases h with h | ⟨rfl, a, rfl, h⟩
  · exact .inl (dp_same s _ h)
  · exact .inr ⟨rfl, a, rfl, s _ _ h⟩
def tyN : PyData → String
  | .none => "NoneType"
  | .bool _ => "bool"
  | .int _ => "int"
  | .str _ => "str"
  | .list _ => "list"
  | .tuple _ => "tuple"
  | .dict _ => "dict"
theorem sq_list_ty {K : PySem.W.Frag} {H : Hp} {a : Addr} {xs : List V} (h : SqL K H a xs) : TyX K H (.ref a) (.type "list") := by
  rcases h with (h | ⟨o, h⟩) | h
  · exact .base (.lst h)
  · exact .base (.frz h)
  · obtain ⟨o, its, n, h1, h2, _⟩ := h
    exact .kList h1 h2
theorem sq_tup_ty {K : PySem.W.Frag} {H : Hp} {a : Addr} {xs : List V} (h : SqT K H a xs) : TyX K H (.ref a) (.type "tuple") := by
  rcases h with (h | ⟨o, h⟩) | h
  · exact .base (.tup h)
  · exact .fTuple h
  · obtain ⟨o, its, n, h1, h2, _⟩ := h
    exact .kTuple h1 h2
theorem ty_of {K : PySem.W.Frag} {H : Hp} {x : V} {d : PyData} (h : Od K H x d) : TyX K H x (.type (tyN d)) := by
  rcases h with h | ⟨rfl, a, rfl, h⟩
  · cases h with
    | non => exact .base .non
    | bl b => exact .base (.bl b)
    | int i => exact .base (.int i)
    | str s => exact .base (.str s)
    | lst h1 _ => exact sq_list_ty h1
    | tup h1 _ => exact sq_tup_ty h1
  · exact .base (.dK h)
def rIsiD (K : PySem.W.Frag) : List V → Hp → VK → Prop := fun xs H Q => ∃ (x : V) (d : PyData) (T : String) (b : Bool), xs = [x, .ty T] ∧ Od K H x d ∧ kitB (tyN d) T = some b ∧ Q (.bl b) H
theorem isiD {X : Cx} (K : PySem.W.Frag) (h : X.K = K := by rfl) : CallR X (.builtin "isinstance") (rIsiD K) := by
  subst h
  intro pins s σ H vs us Q I r h
  obtain ⟨x, d, T, b, rfl, hd, hk, q⟩ := h
  exact call_isi pins s σ H _ us Q I r ⟨x, _, _, _, b, rfl, .ty T, ty_of hd, kit_ty hk, q⟩
def isTup : PyData → Bool
  | .tuple _ => true
  | _ => false
def isInt : PyData → Bool
  | .int _ => true
  | _ => false
theorem kit_tup (d : PyData) : kitB (tyN d) "tuple" = some (isTup d) := by
  cases d <;> simp only [tyN, isTup] <;> decide +kernel
def isIntB : PyData → Bool
  | .int _ => true
  | .bool _ => true
  | _ => false
def isBool : PyData → Bool
  | .bool _ => true
  | _ => false
theorem kit_int (d : PyData) : kitB (tyN d) "int" = some (isIntB d) := by
  cases d <;> simp only [tyN, isIntB] <;> decide +kernel
theorem kit_bool (d : PyData) : kitB (tyN d) "bool" = some (isBool d) := by
  cases d <;> simp only [tyN, isBool] <;> decide +kernel
end BV

namespace BV
open PySem PySem.Spec PyProof.Rows L2
/-! ### an own error without arguments: raised, caught, looked at -/
section
variable {X : Cx} {C : Addr} {mr : List Value} {B n1 n2 : String}
theorem pmk_bare {x : Str} {p pos : Pos} (F : ExcBaseFacts B n1 n2 mr) (hq : PySem.W.excIn X.K C mr n1 = true) (hm : X.mg x = some (.ref C)) (hk : PySem.W.keepIn X.K (.ref C) = true) (hr : Raises X (.ref C)) (hg : Gl X x)
    (hdb : (x == ("__debug__" : Str)) = false := by decide) : PMk X (.Call (.Name x p) [] [] pos) (fun _ H Q => Q (.ref C) none H) := by
  intro pins ⟨hp, gn, dr, tk, os⟩ σ H Q J q0
  refine wpAny_Call_Name_kw (ld_glob J hg hm (PySem.W.callWith_K0 J.kIn hk ?_) hdb)
  have ⟨c1, c2, c3, c4, c5, c6, c7, c8, c9, d1, d2, d3, d4, d5, d6, d7, e1, e2, e3, e4, e5⟩ := exc_obj J.kIn hq
  exact wpAny_call_exc_subT F e5 e2 e3 e4 (fun _ _ made => mk_of J made hr q0 (J.hok.gone made.new)) (Nat.zero_le _)
end
/-- what is known of the class Unfit, under BothError -/
structure ErrU (K : PySem.W.Frag) (mg : Str → Option Value) (U B : Addr) : Prop where
  gU : mg "Unfit" = some (.ref U)
  gB : mg "BothError" = some (.ref B)
  gv : mg "ValueError" = none
  xU : PySem.W.excIn K U [.type "ValueError", .type "Exception", .type "BaseException", .type "object"] "ValueError.__new__" = true
  kU : PySem.W.keepIn K (.ref U) = true
  bU : PySem.W.subIn K (.ref U) (.type "BaseException") = some true
  tU : PySem.W.typeIn K (.ref U) = some (.type "type")
  te : PySem.W.exmOne K (.ref U) (.ref U) = some true
  ex : ExcC K U
  iv : PySem.W.kitOne K (.ref U) (.type "ValueError") = some true
  ib : PySem.W.kitOne K (.ref U) (.ref B) = some true
theorem ErrU.raises {X : Cx} {U B : Addr} (T : ErrU X.K X.mg U B) : Raises X (.ref U) := raises_own T.bU T.tU
theorem ps_unfit {X : Cx} {U B : Addr} {W : WX} {p pos pos2 : Pos} (hc : X.calm = true) (T : ErrU X.K X.mg U B) (tk : Takes X W) (hg : Gl X "Unfit" := by rfl) :
    PS X (.Raise (some (.Call (.Name "Unfit" p) [] [] pos)) none pos2) (fun _ σ H => W (.ref U) none σ H) :=
  ps_raise hc tk (pmk_bare PySem.F.excBase_ValueError T.xU T.gU T.kU T.raises hg)
/-- isinstance(e, c), e the error that the suite holds -/
def rIsX (K : PySem.W.Frag) (a : Addr) (cls : Value) (d : Option Addr) : List V → Hp → VK → Prop := fun xs H Q => ∃ U, ExcC K U ∧ cls = .ref U ∧ d = none ∧ rIsE K U a xs H Q
theorem isX {X : Cx} {a : Addr} {oe : Obj} {cls : Value} {d : Option Addr} {pn : List (Addr × Obj)} (hz : Zc cls d oe) (hf : ∃ vs, oe.data = .fields vs) : CallR (X.suite a ((a, oe) :: pn)) (.builtin "isinstance") (rIsX X.K a cls d) := by
  intro pins s σ H xs us Q J r h
  obtain ⟨U, hC, e1, e2, h⟩ := h
  subst e1 e2
  exact call_isE hC hz hf pins s σ H xs us Q J r h
section
variable {X : Cx} {CX : CXT} {k n : Nat} {f : Addr} {fd : FuncData} {ps ks : List Str} {sp : Sp} {dvs : List V} {ds : List Value}
  {E : L2.St → XK} {x : Str} {p pos : Pos} {tk : TA} {kws : List Keyword} {g : List Value → List Value → List Value} {gV : List V → List V → List V}
def tCallKS (m : Nat) (sp : Sp) (gV : List V → List V → List V) (E : L2.St → XK) (tk : TA) : TE := fun σ H Q => tk σ H fun zs H2 => zs.length = m ∧ sp (gV [] zs) H2 Q (E σ)
/-- f(k = v, ..), where what f raises is wished for at the slots -/
theorem pe_callKS (F : FnOk X.prog X.w X.K X.mg X.base CX k f fd ps sp) (hr : Room k X.A) (hg : Gl X x) (hm : X.mg x = some (.ref f)) (hk : PySem.W.keepIn X.K (.ref f) = true)
    (hb : KBn X.K fd ps 0 ks g gV) (hx : ∀ σ, PassesAt CX X σ (E σ)) (hkw : PK X kws tk)
    (hall : (backToKw pos (keywordEach kws X.env)).all (·.1.isSome) = true := by rfl) (hks : (backToKw pos (keywordEach kws X.env)).filterMap (·.1) = ks := by rfl)
    (hdb : (x == ("__debug__" : Str)) = false := by decide)
    (hpl : ((backTo pos (starEach [] X.env)).any (·.1) || (backToKw pos (keywordEach kws X.env)).any (·.1.isNone)) = false := by rfl) :
    PE X (.Call (.Name x p) [] kws pos) (tCallKS ks.length sp gV E tk) := by
  constructor
  intro pins s σ H Q J h
  refine wpAny_Call_Name_kw (ld_glob J hg hm ?_ hdb)
  refine PySem.W.callWith_KW0 (h₀ := X.base) J.ok.mod.kin hk hall (thn (hkw.run pos pins s σ H _ J h) fun ws s2 hh => ?_) hpl
  obtain ⟨zs, H2, J2, rz, l2, q2⟩ := hh
  refine ⟨J2.kIn, ?_⟩
  rw [hks]
  refine wpAny_call (codeAny_mono (F.run X.A X.stack s2 H2 ⟨[], ks.zip ws⟩ _ _ Q (E σ) hr J2.env0 (hb.to s2 [] ws J2.kIn rfl (by rw [← rz.length]; exact l2)) (hb.rel .nil rz) q2) fun r s' hq => ?_)
  cases r with
  | error e => exact hx σ pins H2 s2 e s' J2 hq
  | ok fl =>
    cases fl with
    | ret u => exact J2.after hq
    | next => exact hq.elim
    | brk => exact hq.elim
    | cont => exact hq.elim
end
end BV

namespace BV
open PySem L2
section
variable {X : Cx} (K : PySem.W.Frag)
theorem catA (h : X.K = K := by rfl) : OpR X (binaryOp .Add) (rCatA K) := by
  subst h
  exact op_catA
end
theorem catA_by {K : PySem.W.Frag} {x y : V} {H : Hp} {Q : VK} {a b : Addr} {xs ys : List V} (hx : x = .ref a) (hy : y = .ref b) (h1 : SqT K H a xs) (h2 : SqT K H b ys) (hl : xs.length + ys.length ≤ 100000)
    (k : ∀ (c : Addr) H', Same H H' → SqT K H' c (xs ++ ys) → Q (.ref c) H') : rCatA K x y H Q := by
  refine ⟨a, b, xs, ys, hx, hy, h1, h2, Nat.le_trans hl (by decide), fun e => ?_, fun _ e => ?_, fun _ _ p hp => ?_⟩
  · subst e
    exact k _ _ (Same.refl _) h2
  · subst e
    exact k _ _ (Same.refl _) (by rw [List.append_nil]; exact h1)
  · exact k _ _ (same_new hp) (SqT.of upd_same)
theorem sqL_same {K : PySem.W.Frag} {H H' : Hp} {a : Addr} {xs : List V} (s : Same H H') (h : SqL K H a xs) : SqL K H' a xs := by
  rcases h with (h | ⟨o, h⟩) | h
  · exact .inl (.inl (s _ _ h))
  · exact .inl (.inr ⟨o, s _ _ h⟩)
  · exact .inr h
/-- [1 for z in zs if z < 0], walked to the place i -/
def Ones (zs : List Int) (i : Nat) (acc : List V) : Prop := ∃ m : Nat, acc = (List.replicate m (1 : Int)).map V.int ∧ m ≤ i ∧ (m = 0 ↔ ∀ z ∈ zs.take i, 0 ≤ z)
theorem Ones.yes {zs : List Int} {i : Nat} {acc : List V} {z : Int} (h : Ones zs i acc) (hz : zs[i]? = some z) (hn : z < 0) : Ones zs (i + 1) (acc ++ [.int 1]) := by
  obtain ⟨m, rfl, h1, _⟩ := h
  refine ⟨m + 1, ?_, by omega, ?_⟩
  · rw [List.replicate_succ', List.map_append]
    rfl
  · constructor
    · intro e
      omega
    · intro e
      have := e z (by rw [List.take_add_one, hz]; simp)
      omega
theorem Ones.no {zs : List Int} {i : Nat} {acc : List V} {z : Int} (h : Ones zs i acc) (hz : zs[i]? = some z) (hn : ¬ z < 0) : Ones zs (i + 1) acc := by
  obtain ⟨m, rfl, h1, h2⟩ := h
  refine ⟨m, rfl, by omega, ?_⟩
  rw [h2, List.take_add_one, hz]
  constructor
  · intro e x hx
    rcases List.mem_append.mp hx with q | q
    · exact e x q
    · have : x = z := by simpa using q
      omega
  · intro e x hx
    exact e x (List.mem_append_left _ hx)
theorem ones_eqv (m : Nat) : (PyData.list ((List.replicate m (1 : Int)).map PyData.int)).eqv (.list []) = decide (m = 0) := by
  cases m with
  | zero => rfl
  | succ m => rfl
end BV

namespace BV
open PySem PySem.Spec PyProof.Rows L2
/-! ### (v,) * k for any k from 0 on -/
theorem mul_none (l : Addr) (items : Array Value) (n : Nat) (dd : Option Addr) (sl : Array (Option Value)) (u : Tok) (hi : items.isEmpty = false) :
    Meets (Builtin.«tuple.__mul__» ⟨[.ref l, .int 0 u], []⟩) (fun _ R s => s.heap.get? l = some { cls := .type "tuple", dict := dd, data := .seq items n, slots := sl } ∧
      R (.ok (.ret (Value.ref s.heap.objs.size))) { s with heap := s.heap.push { cls := Value.type "tuple", data := Data.seq #[] }, toks := s.toks }) := by
  refine .of_wp fun prog w A R s h => ?_
  obtain ⟨hp, g, d, tk, os⟩ := s
  obtain ⟨hl, h⟩ := h
  have f1 := AutoSeq1.idx_int
  have c0 : (decide ((0 : Int) < -(2 ^ 63)) || decide ((0 : Int) ≥ 2 ^ 63)) = false := by decide
  have c1 : (items.isEmpty || (0 : Int) == 1) = false := by rw [hi]; rfl
  have c2 : (decide ((0 : Int) ≤ 0) || items.isEmpty) = true := by simp
  wp_walk using AutoSeq1.wpAny_loadPart' hl
  repeat (first
    | (refine wpAny_ite_false (decide_eq_false (by rw [c0]; exact Bool.false_ne_true)) ?_; wp_walk using AutoSeq1.wpAny_loadPart' hl)
    | (refine wpAny_ite_false (decide_eq_false (by rw [c1]; exact Bool.false_ne_true)) ?_; wp_walk using AutoSeq1.wpAny_loadPart' hl)
    | (refine wpAny_ite_true (decide_eq_true c2) ?_; wp_walk using AutoSeq1.wpAny_loadPart' hl))
  exact ⟨_, rfl, h⟩
def rRepN (K : PySem.W.Frag) : R2 := fun x y H Q => ∃ (l : Addr) (k : Nat) (v : V), x = .ref l ∧ y = .int (k : Int) ∧ SqT K H l [v] ∧ k ≤ 1000 ∧ ∀ (p : Addr) H', Same H H' → SqT K H' p (List.replicate k v) → Q (.ref p) H'
theorem flat_rep (k : Nat) (v : V) : (List.replicate k [v]).flatten = List.replicate k v := by
  induction k with
  | zero => rfl
  | succ k ih => rw [List.replicate_succ, List.flatten_cons, ih, List.replicate_succ]; rfl
theorem op_repN {X : Cx} (K : PySem.W.Frag) (hK : X.K = K := by rfl) : OpR X (binaryOp .Mult) (rRepN K) := by
  subst hK
  intro pins s σ H x y v u Q I rx ry h
  obtain ⟨l, k, w0, rfl, rfl, hT, hk, q⟩ := h
  by_cases h0 : k = 0
  · subst h0
    cases rx
    obtain ⟨t, rfl⟩ := ry
    obtain ⟨its, r, ⟨⟨cls, dd, data, sl⟩, ho, hc, n, hd⟩, hs⟩ := I.tuple hT
    simp only at hc hd
    subst hc hd
    have hi : its.toArray.isEmpty = false := by
      have := r.length
      cases its with
      | nil => simp at this
      | cons a b => rfl
    refine wpAny_binaryOp_repeat_ref (T := "tuple") (U := "int") (by decide) ⟨_, ho, rfl⟩ (fun s' => typeIs_int s' _ t) noFill_tuple_mul F.fills_int_mul F.slot_int_rmul repeat_tuple F.slot_int_index.lookup ?_
    refine call_meets F.slot_int_rmul (typeIs_int s _ t) F.entry_int_rmul (F.args_int_rmul_2 _ _) (int_rmul_tuple _ t l its.toArray n dd sl) ⟨ho, rfl, ⟨_, ho, rfl⟩, ?_⟩
    refine call_meets F.slot_tuple_mul ⟨_, ho, rfl⟩ F.entry_tuple_mul (F.args_tuple_mul_2 _ _) (mul_none l its.toArray n dd sl t hi) ⟨ho, ?_⟩
    have fr := I.hok.fresh (Nat.le_refl s.heap.objs.size)
    refine ⟨.ref s.heap.objs.size, _, I.laid (t' := s.toks) (o := .tup []) (fun b ob z => Heap.get?_push_of_some _ z) (Nat.le_refl _) ⟨Nat.zero_le _, [], .nil, IsTup.new _ _⟩, rfl, q _ _ (same_new fr) (SqT.of upd_same)⟩
  · refine op_repT1 X.K rfl pins s σ H (.ref l) (.int k) v u Q I rx ry ⟨l, k, [w0], rfl, rfl, hT, by simp, by omega, by omega, by simp, fun e => ?_, fun _ p hp => ?_⟩
    · have : k = 1 := by omega
      subst this
      exact q _ _ (Same.refl _) hT
    · refine q _ _ (same_new hp) (SqT.of ?_)
      rw [upd_same, Int.toNat_natCast, flat_rep]
end BV

namespace BV
open PySem L2
/-! ### ways, cuts, what is reached -/
inductive Way (ts : List Tie) (a : Nat) : List Nat → Nat → Prop
  | nil : Way ts a [] a
  | snoc {w : List Nat} {p k q : Nat} {t : Tie} : Way ts a w p → ts[k]? = some t → (t.1 = p ∧ t.2 = q ∨ t.2 = p ∧ t.1 = q) → Way ts a (w ++ [k]) q
def oddIn (w lot : List Nat) : Bool := decide ((w.filter fun k => decide (k ∈ lot)).length % 2 = 1)
theorem oddIn_snoc (w : List Nat) (k : Nat) (lot : List Nat) : oddIn (w ++ [k]) lot = Bool.xor (oddIn w lot) (decide (k ∈ lot)) := by
  unfold oddIn
  rw [List.filter_append, List.length_append]
  by_cases h : k ∈ lot
  · have e : ([k].filter fun k => decide (k ∈ lot)).length = 1 := by simp [h]
    rw [e, decide_eq_true h, Bool.xor_true, Bool.eq_iff_iff]
    simp only [decide_eq_true_eq, Bool.not_eq_true', decide_eq_false_iff_not]
    omega
  · have e : ([k].filter fun k => decide (k ∈ lot)).length = 0 := by simp [h]
    rw [e, decide_eq_false h, Bool.xor_false, Nat.add_zero]
def side (S : List Nat) (p : Nat) : Bool := decide (p ∈ S)
/-- the ties of the lot are those between unlike sides -/
def IsCutOf (ts : List Tie) (lot S : List Nat) : Prop := ∀ k t, ts[k]? = some t → decide (k ∈ lot) = Bool.xor (side S t.1) (side S t.2)
theorem way_side {ts : List Tie} {lot S : List Nat} (h : IsCutOf ts lot S) {a p : Nat} {w : List Nat} (hw : Way ts a w p) : oddIn w lot = Bool.xor (side S a) (side S p) := by
  induction hw with
  | nil => simp [oddIn]
  | snoc hw ht hq ih =>
    rw [oddIn_snoc, ih, h _ _ ht]
    rcases hq with ⟨e1, e2⟩ | ⟨e1, e2⟩
    · rw [e1, e2]
      cases side S a <;> cases side S _ <;> cases side S _ <;> rfl
    · rw [e1, e2]
      cases side S a <;> cases side S _ <;> cases side S _ <;> rfl
def crosses (ps : List Nat) (t : Tie) : Bool := !decide (decide (t.1 ∈ ps) = decide (t.2 ∈ ps))
def cutL (ts : List Tie) (ps : List Nat) : List Nat := (List.range ts.length).filter fun k => match ts[k]? with
  | some t => crosses ps t
  | none => false
theorem crosses_xor (ps : List Nat) (t : Tie) : crosses ps t = Bool.xor (side ps t.1) (side ps t.2) := by
  unfold crosses side
  cases decide (t.1 ∈ ps) <;> cases decide (t.2 ∈ ps) <;> rfl
theorem mem_cutL {ts : List Tie} {ps : List Nat} {k : Nat} : k ∈ cutL ts ps ↔ ∃ t, ts[k]? = some t ∧ crosses ps t = true := by
  unfold cutL
  rw [List.mem_filter, List.mem_range]
  constructor
  · rintro ⟨h1, h2⟩
    have ht : ts[k]? = some ts[k] := by simp [h1]
    rw [ht] at h2
    exact ⟨_, ht, h2⟩
  · rintro ⟨t, ht, hc⟩
    refine ⟨(List.getElem?_eq_some_iff.mp ht).1, ?_⟩
    rw [ht]
    exact hc
theorem cut_of_cutL (ts : List Tie) (ps : List Nat) : IsCutOf ts (cutL ts ps) ps := fun k t ht => by
  rw [← crosses_xor, Bool.eq_iff_iff, decide_eq_true_eq, mem_cutL]
  constructor
  · rintro ⟨t2, e, h⟩
    rw [ht] at e
    cases e
    exact h
  · exact fun h => ⟨t, ht, h⟩
theorem cutL_asc (ts : List Tie) (ps : List Nat) : (cutL ts ps).Pairwise (· < ·) := List.pairwise_lt_range.filter _
theorem asc_uniq {l m : List Nat} (hl : l.Pairwise (· < ·)) (hm : m.Pairwise (· < ·)) (h : ∀ k, k ∈ l ↔ k ∈ m) : l = m :=
  ((List.perm_ext_iff_of_nodup (hl.imp fun z => Nat.ne_of_lt z) (hm.imp fun z => Nat.ne_of_lt z)).mpr h).eq_of_pairwise (le := (· < ·)) (fun a b _ _ x y => absurd x (Nat.lt_asymm y)) hl hm
/-- a lot of L ties -/
def LotA (L : Nat) (ks : List Nat) : Prop := ks.Pairwise (· < ·) ∧ ∀ k ∈ ks, k < L
theorem cutL_lot (ts : List Tie) (ps : List Nat) : LotA ts.length (cutL ts ps) := ⟨cutL_asc ts ps, fun k hk => List.mem_range.mp (List.mem_filter.mp hk).1⟩
theorem cutL_of {ts : List Tie} {lot S : List Nat} (hl : LotA ts.length lot) (h : IsCutOf ts lot S) : cutL ts S = lot := by
  refine asc_uniq (cutL_asc ts S) hl.1 fun k => ?_
  rw [mem_cutL]
  constructor
  · rintro ⟨t, ht, hc⟩
    rw [crosses_xor, ← h k t ht] at hc
    exact of_decide_eq_true hc
  · intro hk
    have hlt := hl.2 k hk
    have ht : ts[k]? = some ts[k] := List.getElem?_eq_getElem hlt
    refine ⟨_, ht, ?_⟩
    rw [crosses_xor, ← h k _ ht]
    exact decide_eq_true hk
/-- everything hangs together -/
theorem all_found {n : Nat} {ts : List Tie} (hok : WebOk n ts) {F : Nat → Prop} (h0 : F 0) (hcl : ∀ t ∈ ts, F t.1 → F t.2) : ∀ p, p < n → F p := by
  intro p
  induction p using Nat.strongRecOn with
  | _ p ih =>
    intro hp
    by_cases h : p = 0
    · rw [h]
      exact h0
    · obtain ⟨q, hq, hm⟩ := hok.hang p (by omega) hp
      exact hcl (q, p) hm (ih q hq (by omega))
/-- the places on the other side than 0, by ways -/
def farL (n : Nat) (ws : Nat → List Nat) (lot : List Nat) : List Nat := (List.range n).filter fun p => oddIn (ws p) lot
theorem far_side {n : Nat} {ts : List Tie} {ws : Nat → List Nat} {lot S : List Nat} (hw : ∀ p, p < n → Way ts 0 (ws p) p) (h : IsCutOf ts lot S) {p : Nat} (hp : p < n) :
    side (farL n ws lot) p = Bool.xor (side S 0) (side S p) := by
  rw [← way_side h (hw p hp)]
  unfold side farL
  rw [Bool.eq_iff_iff, decide_eq_true_eq, List.mem_filter, List.mem_range]
  exact ⟨fun z => z.2, fun z => ⟨hp, z⟩⟩
theorem far_cut {n : Nat} {ts : List Tie} (hends : ∀ t ∈ ts, t.1 < t.2 ∧ t.2 < n) {ws : Nat → List Nat} {lot S : List Nat} (hl : LotA ts.length lot) (hw : ∀ p, p < n → Way ts 0 (ws p) p) (h : IsCutOf ts lot S) :
    cutL ts (farL n ws lot) = lot := by
  refine cutL_of hl fun k t ht => ?_
  have hm := hends t (List.mem_of_getElem? ht)
  rw [far_side hw h (show t.1 < n by omega), far_side hw h hm.2, h k t ht]
  cases side S 0 <;> cases side S t.1 <;> cases side S t.2 <;> rfl
theorem far_iff {n : Nat} {ts : List Tie} (hends : ∀ t ∈ ts, t.1 < t.2 ∧ t.2 < n) {ws : Nat → List Nat} {lot : List Nat} (hl : LotA ts.length lot) (hw : ∀ p, p < n → Way ts 0 (ws p) p) :
    cutL ts (farL n ws lot) = lot ↔ ∃ S, IsCutOf ts lot S :=
  ⟨fun e => ⟨_, by have := cut_of_cutL ts (farL n ws lot); rwa [e] at this⟩, fun ⟨S, h⟩ => far_cut hends hl hw h⟩
end BV

namespace BV
open PySem L2
local macro_rules | `(tactic| walk_at "rd") => `(tactic| (repeat (first | refine ⟨_, rfl, ?_⟩ | refine ⟨_, _, rfl, rfl, ?_⟩ | refine Or.inl ⟨_, rfl, ?_⟩ | refine Or.inr ⟨_, rfl, ?_⟩ | refine ⟨_, _, rfl, ?_⟩)))
def top (i : Nat) : Stmt := PySem.Challenge.pw_botheven_k05_whole_even_lots_and_cuts.main.body.getD i (.Pass ⟨0, 0, 0, 0⟩)
abbrev sBox : Stmt := top 16
abbrev nBox : List Str := ["_law_script", "_law_marks", "_law_stirred", "_law_mark", "_law_cell"]
theorem scBox : FnScope nBox ["_law_script"] (defScope sBox) := ⟨rfl, rfl, rfl, by decide +kernel, rfl, by decide +kernel, by decide +kernel⟩
section
variable {P : Program} {w : World} {K : PySem.W.Frag} {mg : Str → Option Value} {base : Heap}
theorem ok_box {f : Addr} {fd : FuncData} (D : Df K mg "_law_box" sBox ["_law_script"] f fd) (T : Bl mg) : FnOk P w K mg base CX0 1 f fd ["_law_script"] (spBox K) := by
  refine D.fn.ok scBox (fun vs H Q E h => ?_) (fun cdv A outer s H vs Q E hr h => ?_)
  · obtain ⟨a, ns, rfl, _⟩ := h
    rfl
  · obtain ⟨a, ns, rfl, hS, hlen, k⟩ := h
    have hu := hu_of hr
    have nd := scBox.nd
    refine ⟨_, (pss_cons (ps_par (i := 1) (j := 2) (by rfl) nd rfl rfl (by decide) rfl rfl (pa_cons (pe_lc (own := [("_law_cell", 4)]) (g := gName 4) (tt := tYes) rfl nd (pi_list (pe_slice sl_list (pv 0) po_none (po_some pe_int))) (blkOk_by (own := [("_law_cell", 4)]) (N := nBox) (sc := defScope sBox) (by decide +kernel)) (fun _ _ _ _ _ => (pg_name (i := 4) nd rfl (by first | exact Or.inl rfl | exact Or.inr rfl))) (fun _ _ _ _ _ => pts_nil) (fun _ _ _ _ _ => (pe_op op_add (pe_op op_mul pe_int (pe_callB call_abs (by rfl) T.abs (by decide +kernel) (pa_cons (pv 4) pa_nil))) (pe_callTy call_int1 (by rfl) T.int (by decide +kernel) (pa_cons (pe_cmpR op_lt (pv 4) pe_int (nomark _)) pa_nil))))) (pa_cons (pe_op op_add pe_int (pe_callB call_len_seq (by rfl) T.len PySem.boot_len (pa_cons (pv 0) pa_nil))) pa_nil)) (by rfl))
      (pss_cons (ps_for PassesOwn.never rfl (pi_list (pv 1)) (pg_name (i := 3) nd rfl (by first | exact Or.inl rfl | exact Or.inr rfl)) (pss_one (ps_set (i := 2) nd rfl (by first | exact Or.inl rfl | exact Or.inr rfl) (pe_op op_mod (pe_callTy call_int1 (by rfl) T.int (by decide +kernel) (pa_cons (pe_op op_add (pe_op op_mul (pv 2) pe_int) (pv 3)) pa_nil)) pe_int))))
      (pss_one (ps_ret (pe_disp (pps_cons pe_str (pe_lc (own := [("_law_mark", 3)]) (g := gName 3) rfl nd (pi_list (pv 1)) (blkOk_by (own := [("_law_mark", 3)]) (N := nBox) (sc := defScope sBox) (by decide +kernel)) (fun _ _ _ _ _ => (pg_name (i := 3) nd rfl (by first | exact Or.inl rfl | exact Or.inr rfl))) (fun _ _ _ _ _ => (pts_one (pt_cmpR op_gt (pv 3) (pe_op op_pow pe_int pe_int) (nomark _)))) (fun _ _ _ _ _ => (pv 3))) (pps_cons pe_str (pv 2) (pps_cons pe_str pe_int pps_nil))) (by rfl) (by rfl) (fun z => by cases z) (by decide)))))), ?_⟩
    -- the comprehension over script[:63]
    refine ⟨_, rfl, 63, rfl, a, _, rfl, hS, fun p hp => ?_⟩
    refine ⟨p, rfl, ⟨_, SqL.of upd_same⟩, fun D hD => ?_⟩
    have s1 : Same H (upd H p (.lst (cutV (ns.map V.int) none (some 63)))) := same_new hp
    refine lc_run (walk_list (xs := cutV (ns.map V.int) none (some 63))) hD (fun i acc _ => acc.length = i ∧ ∃ ms : List Int, acc = ms.map V.int) ?_ ?_ ?_ ?_
    · exact fun H' s => SqL.of (s _ _ upd_same)
    · exact ⟨rfl, [], rfl⟩
    · rintro i x acc H2 H' hi ha e s ⟨hl, ms, rfl⟩ ⟨rfl, hx⟩
      obtain ⟨z, rfl⟩ : ∃ z : Int, x = .int z := by
        have h1 : x ∈ cutV (ns.map V.int) none (some 63) := List.mem_of_getElem? hx
        have h2 : x ∈ ns.map V.int := List.mem_of_mem_drop (List.mem_of_mem_take h1)
        obtain ⟨z, _, e⟩ := List.mem_map.mp h2
        exact ⟨z, e.symm⟩
      refine ⟨rfl, yes_go ?_⟩
      walk_at "rd"
      refine ⟨.inl ⟨by decide, by decide⟩, ?_⟩
      walk_at "rd"
      have hms : ms.length = i := by rw [← hl, List.length_map]
      have hb : cutV (ns.map V.int) none (some 63) = ns.map V.int := by
        rw [show cutV (ns.map V.int) none (some 63) = ((ns.map V.int).drop 0).take (min 63 (ns.map V.int).length - 0) from rfl, List.drop_zero, List.take_of_length_le]
        rw [List.length_map]
        omega
      have hi2 : i < 63 := by
        rw [hb, List.length_map] at hi
        omega
      refine lc_add ha e (Same.refl _) (by rw [hl]; omega) ⟨by rw [List.length_append, hl]; rfl, ms ++ [_], by rw [List.map_append]; rfl⟩
    · rintro acc H2 hD2 s2 ⟨hl, ms, rfl⟩
      have hS2 : SqL K H2 a (ns.map V.int) := Same.seq (Same.trans s1 s2) hS
      have hml : ms.length ≤ 63 := by
        have h0 := cutV_length (ns.map V.int) none (some 63)
        rw [List.length_map] at h0 hl
        omega
      walk_at "rd"
      refine ⟨_, _, rfl, .inl hS2, ?_⟩
      walk_at "rd"
      -- the stirring
      refine ⟨⟨_, SqL.of hD2⟩, for_it (walk_list (xs := ms.map V.int)) (fun i σ H' => ∃ (st : Int) (v : Option V),
        σ = [some (.ref a), some (.ref D), some (.int st), v, none] ∧ H' = H2 ∧ 0 ≤ st ∧ st < 2 ^ 33) ?_ ?_ ?_ ?_⟩
      · refine ⟨40961 + ((ns.map V.int).length : Int), none, rfl, rfl, by omega, ?_⟩
        rw [List.length_map]
        omega
      · rintro i σ H' _ ⟨st, v, rfl, rfl, _⟩
        exact SqL.of hD2
      · rintro i x σ H' H'' hi ⟨st, v, rfl, rfl, h0, h1⟩ ⟨rfl, hx⟩
        obtain ⟨z, hz, rfl⟩ := ints_at hx
        walk_at "rd"
        refine ⟨.inl ⟨by omega, by omega⟩, ?_⟩
        walk_at "rd"
        refine ⟨by show (0 : Int) < 4294967291; decide, ?_⟩
        refine ⟨_, some _, rfl, rfl, Int.emod_nonneg _ (by decide), Int.lt_of_lt_of_le (Int.emod_lt_of_pos _ (by decide)) (by decide)⟩
      · rintro σ H' ⟨st, v, rfl, rfl, h0, h1⟩
        intro b hb
        -- the great ones
        have nDb : D ≠ b := ne_of_none hD2 hb
        have hDb : upd H' b (.dK []) D = some (.lst (ms.map V.int)) := by rw [upd_ne nDb]; exact hD2
        have sb : Same H' (upd H' b (.dK [])) := same_new hb
        refine ⟨_, rfl, D, rfl, ⟨_, SqL.of hDb⟩, fun g hg => ?_⟩
        refine lc_run (walk_list (xs := ms.map V.int)) hg (fun i acc _ => acc.length ≤ i ∧ ∃ ms : List Int, acc = ms.map V.int) ?_ ?_ ?_ ?_
        · exact fun H3 s => SqL.of (s _ _ hDb)
        · exact ⟨Nat.le_refl _, [], rfl⟩
        · rintro i x acc H3 H4 hi ha e s3 ⟨hl, ms2, rfl⟩ ⟨rfl, hx⟩
          obtain ⟨z, hz, rfl⟩ := ints_at hx
          rw [List.length_map] at hi
          refine ⟨rfl, ?_⟩
          walk_at "rd"
          refine ⟨⟨by decide, by decide, by decide⟩, ?_⟩
          walk_at "rd"
          refine ite2 (fun _ => ?_) (fun _ => ?_)
          · walk_at "rd"
            refine lc_add ha e (Same.refl _) (by omega) ⟨?_, ms2 ++ [z], by rw [List.map_append]; rfl⟩
            rw [List.length_append]
            exact Nat.succ_le_succ hl
          · exact lc_skip ha e (Same.refl _) ⟨Nat.le_succ_of_le hl, ms2, rfl⟩
        · rintro acc H3 hg3 s3 ⟨hl, ms2, rfl⟩
          rw [List.length_map, List.length_map] at hl
          have hb3 : H3 b = some (.dK []) := s3 _ _ upd_same
          walk_at "rd"
          refine ⟨hb3, boxD g st 0, rfl, by show 3 ≤ 15; decide, ?_⟩
          have hbg : b ≠ g := ne_of_none upd_same hg
          have hg0 : H' g = none := Same.free sb hg
          have s4 : Same H H' := Same.trans s1 s2
          have s5 : Same H H3 := Same.trans s4 (Same.trans sb s3)
          have hb0 : H b = none := Same.free s4 hb
          refine k b g _ hb0 (Same.free s4 hg0) (fun c o q => ?_) ⟨⟨st, 0, ?_⟩, ms2, ?_, by omega⟩
          · rw [upd_ne (ne_of_none q hb0)]
            exact s5 _ _ q
          · rw [upd_same]
            rfl
          · rw [upd_ne hbg.symm]
            exact hg3
end
end BV

namespace BV
open PySem L2
local macro_rules | `(tactic| walk_at "rd") => `(tactic| (repeat (first | refine ⟨_, rfl, ?_⟩ | refine ⟨_, _, rfl, rfl, ?_⟩ | refine Or.inl ⟨_, rfl, ?_⟩ | refine Or.inr ⟨_, rfl, ?_⟩ | refine ⟨_, _, rfl, ?_⟩)))
abbrev sDraw : Stmt := top 17
abbrev nDraw : List Str := ["_law_box_here", "_law_many", "_law_great", "_law_count", "_law_found", "_law_mark"]
theorem scDraw : FnScope nDraw ["_law_box_here", "_law_many"] (defScope sDraw) := ⟨rfl, rfl, rfl, by decide +kernel, rfl, by decide +kernel, by decide +kernel⟩
section
variable {P : Program} {w : World} {K : PySem.W.Frag} {mg : Str → Option Value} {base : Heap}
theorem ok_draw {f : Addr} {fd : FuncData} (D : Df K mg "_law_draw" sDraw ["_law_box_here", "_law_many"] f fd) (T : Bl mg) :
    FnOk P w K mg base CX0 1 f fd ["_law_box_here", "_law_many"] spDraw := by
  refine D.fn.ok scDraw (fun vs H Q E h => ?_) (fun cdv A outer s H vs Q E hr h => ?_)
  · obtain ⟨b, g, m, rfl, _⟩ := h
    rfl
  · obtain ⟨b, g, m, rfl, hm0, hm1, hB, k⟩ := h
    have hu := hu_of hr
    have nd := scDraw.nd
    have hbg := hB.ne
    obtain ⟨⟨st, c, hb⟩, ns, hg, hns⟩ := hB
    refine ⟨_, (pss_cons (ps_set (i := 2) nd rfl (by first | exact Or.inl rfl | exact Or.inr rfl) (pe_dget hu (pv 0) pe_str (fun _ _ => rfl)))
      (pss_cons (ps_if (pt_cmpR (op_neD hr.units) (pv 2) (pe_lst pa_nil) (nomark _)) (pss_cons (ps_set (i := 5) nd rfl (by first | exact Or.inl rfl | exact Or.inr rfl) (pe_ix ix_list (pv 2) pe_int (fun _ _ => rfl)))
      (pss_cons (ps_asg (pe_op op_fdivW (pv 5) (pv 1)) (pg_sub (pv 2) pe_int set_list))
      (pss_cons (ps_if (pt_cmpR op_lt (pv 5) (pv 1) (nomark _)) (pss_one (ps_expr (pe_bm PySem.F.plainAttrs_list PySem.F.slot_list_pop PySem.F.type_list_pop mt_popAt (pv 2) (pa_cons pe_int pa_nil)))) pss_nil)
      (pss_one (ps_ret (pe_op op_mod (pe_callTy call_int1 (by rfl) T.int (by decide +kernel) (pa_cons (pv 5) pa_nil)) (pv 1))))))) pss_nil)
      (pss_cons (ps_set (i := 3) nd rfl (by first | exact Or.inl rfl | exact Or.inr rfl) (pe_op op_add (pe_dget hu (pv 0) pe_str (fun _ _ => rfl)) pe_int))
      (pss_cons (ps_dput hu (pv 0) pe_str (pv 3) rfl)
      (pss_cons (ps_set (i := 4) nd rfl (by first | exact Or.inl rfl | exact Or.inr rfl) (pe_op op_mod (pe_callTy call_int1 (by rfl) T.int (by decide +kernel) (pa_cons (pe_op op_add (pe_dget hu (pv 0) pe_str (fun _ _ => rfl)) (pe_op op_mul pe_int (pv 3))) pa_nil)) pe_int))
      (pss_cons (ps_set (i := 4) nd rfl (by first | exact Or.inl rfl | exact Or.inr rfl) (pe_op op_mod (pe_callTy call_int1 (by rfl) T.int (by decide +kernel) (pa_cons (pe_op op_add (pe_op op_add (pe_op op_mul (pv 4) (pv 4)) (pe_op op_mul pe_int (pv 3))) pe_int) pa_nil)) pe_int))
      (pss_cons (ps_set (i := 4) nd rfl (by first | exact Or.inl rfl | exact Or.inr rfl) (pe_op op_mod (pe_callTy call_int1 (by rfl) T.int (by decide +kernel) (pa_cons (pe_op op_add (pe_op op_mul (pv 4) (pv 4)) (pe_dget hu (pv 0) pe_str (fun _ _ => rfl))) pa_nil)) pe_int))
      (pss_one (ps_ret (pe_op op_mod (pe_callTy call_int1 (by rfl) T.int (by decide +kernel) (pa_cons (pe_op op_fdivW (pv 4) pe_int) pa_nil)) (pv 1))))))))))), ?_⟩
    refine ⟨_, rfl, b, _, rfl, get_great hb, ?_⟩
    refine ⟨_, rfl, Nat.zero_le _, fun p hp => ?_⟩
    have s1 : Same H (upd H p (.lst [])) := same_new hp
    have hb1 := s1 _ _ hb
    have hg1 := s1 _ _ hg
    have nbp : b ≠ p := ne_of_none hb hp
    have ngp : g ≠ p := ne_of_none hg hp
    refine ⟨.list (ns.map .int), .list [], .lst (SqL.of hg1) (dpAll_ints ns), .lst (SqL.of upd_same) .nil, shaped_intsL ns, shaped_intsL [], _, rfl, ?_⟩
    have kk : Kp b g H (upd H p (.lst [])) := Kp.same s1
    cases ns with
    | nil =>
      refine ite2 (fun z => absurd z (by decide)) (fun _ => ?_)
      refine ⟨_, rfl, b, _, rfl, get_count hb1, ?_⟩
      walk_at "rd"
      refine ⟨b, _, rfl, put_count hb1, ?_⟩
      have hb2 : upd (upd H p (.lst [])) b (.dK (boxD g st (c + 1))) b = some (.dK (boxD g st (c + 1))) := upd_same
      have gs : ∀ x : Int, 0 ≤ x % 4294967291 ∧ x % 4294967291 < 4294967291 := fun x => ⟨Int.emod_nonneg _ (by decide), Int.emod_lt_of_pos _ (by decide)⟩
      have gt : ∀ x : Int, 0 ≤ x % 4294967279 ∧ x % 4294967279 < 4294967279 := fun x => ⟨Int.emod_nonneg _ (by decide), Int.emod_lt_of_pos _ (by decide)⟩
      refine ⟨_, rfl, b, _, rfl, get_stirred hb2, ?_⟩
      walk_at "rd"
      refine ⟨.inl ⟨by decide, by decide⟩, ?_⟩
      walk_at "rd"
      refine ⟨by show (0 : Int) < 4294967291; decide, ?_⟩
      have g1 := gs (st + 2654435761 * (c + 1))
      walk_at "rd"
      refine ⟨.inl ⟨by omega, by omega⟩, ?_⟩
      walk_at "rd"
      refine ⟨.inl ⟨by decide, by decide⟩, ?_⟩
      walk_at "rd"
      refine ⟨by show (0 : Int) < 4294967279; decide, ?_⟩
      generalize (st + 2654435761 * (c + 1)) % 4294967291 = x1 at g1
      have g2 := gt (x1 * x1 + 40503 * (c + 1) + 7)
      generalize (x1 * x1 + 40503 * (c + 1) + 7) % 4294967279 = x2 at g2
      walk_at "rd"
      refine ⟨.inl ⟨by omega, by omega⟩, ?_⟩
      refine ⟨_, rfl, b, _, rfl, get_stirred hb2, ?_⟩
      walk_at "rd"
      refine ⟨by show (0 : Int) < 4294967231; decide, ?_⟩
      walk_at "rd"
      refine ⟨⟨by decide, by decide⟩, ?_⟩
      walk_at "rd"
      refine ⟨hm0, ?_⟩
      refine k _ _ (Int.emod_nonneg _ (by omega)) (Int.emod_lt_of_pos _ hm0) (Kp.trans kk Kp.setb) ⟨⟨st, c + 1, hb2⟩, [], ?_, by decide⟩
      rw [upd_ne hbg.symm]
      exact hg1
    | cons z rest =>
      refine ite2 (fun _ => ?_) (fun q => absurd (by rfl) q)
      refine ⟨_, rfl, g, _, 0, _, rfl, rfl, SqL.of hg1, atI_nat (j := 0) rfl, ?_⟩
      walk_at "rd"
      refine ⟨⟨hm0, ?_⟩, ?_⟩
      · have h30 : m.natAbs < 2 ^ 30 := by omega
        exact Nat.lt_of_lt_of_le (PySem.Flt.log2_lt_of (by decide) h30) (by decide)
      refine ⟨_, rfl, g, _, 0, 0, rfl, rfl, hg1, ix_nat (j := 0) (Nat.zero_lt_succ _), ?_⟩
      have hg2 : upd (upd H p (.lst [])) g (.lst (((z :: rest).map V.int).set 0 (.int (z / m)))) g = some (.lst (((z / m) :: rest).map V.int)) := upd_same
      have hb2 : upd (upd H p (.lst [])) g (.lst (((z :: rest).map V.int).set 0 (.int (z / m)))) b = some (.dK (boxD g st c)) := by
        rw [upd_ne hbg]
        exact hb1
      have k2 : Kp b g H (upd (upd H p (.lst [])) g (.lst (((z :: rest).map V.int).set 0 (.int (z / m))))) := Kp.trans kk Kp.setg
      walk_at "rd"
      refine ite2 (fun _ => ?_) (fun _ => ?_)
      · refine ⟨_, rfl, .inl ⟨rfl, _, SqL.of hg2⟩, ?_⟩
        refine ⟨g, _, 0, 0, _, rfl, rfl, hg2, by decide, by decide, seq_nat (j := 0) (Nat.zero_lt_succ _), rfl, ?_⟩
        walk_at "rd"
        refine ⟨hm0, ?_⟩
        refine k _ _ (Int.emod_nonneg _ (by omega)) (Int.emod_lt_of_pos _ hm0) (Kp.trans k2 Kp.setg) ⟨⟨st, c, ?_⟩, rest, ?_, ?_⟩
        · rw [upd_ne hbg]
          exact hb2
        · exact upd_same
        · exact Nat.le_of_succ_le hns
      · walk_at "rd"
        refine ⟨hm0, ?_⟩
        exact k _ _ (Int.emod_nonneg _ (by omega)) (Int.emod_lt_of_pos _ hm0) k2 ⟨⟨st, c, hb2⟩, _, hg2, hns⟩
end
end BV

namespace BV
open PySem L2
local macro_rules | `(tactic| walk_at "rd") => `(tactic| (repeat (first | refine ⟨_, rfl, ?_⟩ | refine ⟨_, _, rfl, rfl, ?_⟩ | refine Or.inl ⟨_, rfl, ?_⟩ | refine Or.inr ⟨_, rfl, ?_⟩ | refine ⟨_, _, rfl, ?_⟩)))
abbrev sPick : Stmt := top 18
abbrev nPick : List Str := ["_law_box_here", "_law_items"]
theorem scPick : FnScope nPick nPick (defScope sPick) := ⟨rfl, rfl, rfl, by decide +kernel, rfl, by decide +kernel, by decide +kernel⟩
section
variable {P : Program} {w : World} {K : PySem.W.Frag} {mg : Str → Option Value} {base : Heap}
theorem ok_pick {f fd1 : Addr} {fd fdd : FuncData} (D : Df K mg "_law_pick" sPick nPick f fd) (T : Bl mg)
    (D_draw : Df K mg "_law_draw" sDraw ["_law_box_here", "_law_many"] fd1 fdd) :
    FnOk P w K mg base CX0 2 f fd nPick (spPick K) := by
  have G_draw : FnOk P w K mg base CX0 1 fd1 fdd ["_law_box_here", "_law_many"] spDraw := ok_draw D_draw T
  refine D.fn.ok scPick (fun vs H Q E h => ?_) (fun cdv A outer s H vs Q E hr h => ?_)
  · obtain ⟨b, g, l, xs, rfl, _⟩ := h
    rfl
  · obtain ⟨b, g, l, xs, rfl, hl, n1, n2, h0, h1, hB, k⟩ := h
    have hr_draw : Room 1 _ := hr
    have nd := scPick.nd
    refine ⟨_, (pss_one (ps_ret (pe_ix ix_list (pv 1) (pe_call G_draw hr_draw (by rfl) D_draw.ad D_draw.fn.kp D_draw.bd .nil pass0 (pa_cons (pv 0) (pa_cons (pe_callB call_len_seq (by rfl) T.len PySem.boot_len (pa_cons (pv 1) pa_nil)) pa_nil))) (fun _ _ => rfl)))), ?_⟩
    walk_at "rd"
    refine ⟨_, _, rfl, .inl hl, ?_⟩
    refine ⟨b, g, (xs.length : Int), rfl, by omega, by omega, hB, fun r H' r0 r1 kp hB' => ?_⟩
    obtain ⟨j, rfl⟩ : ∃ j : Nat, r = (j : Int) := ⟨r.toNat, by omega⟩
    have hj : j < xs.length := by omega
    have hx : xs[j]? = some xs[j] := by simp [hj]
    exact ⟨l, xs, _, _, rfl, rfl, Kp.seq kp n1 n2 hl, atI_nat hx, k j _ H' hx kp hB'⟩
end
end BV

namespace BV
open PySem L2
local macro_rules | `(tactic| walk_at "rd") => `(tactic| (repeat (first | refine ⟨_, rfl, ?_⟩ | refine ⟨_, _, rfl, rfl, ?_⟩ | refine Or.inl ⟨_, rfl, ?_⟩ | refine Or.inr ⟨_, rfl, ?_⟩ | refine ⟨_, _, rfl, ?_⟩)))
abbrev sWeb : Stmt := top 19
abbrev nWeb : List Str := ["_law_box_here", "_law_most", "_law_more", "_law_many", "_law_ties", "_law_found", "_law_place", "_law_turn", "_law_one", "_law_other"]
abbrev pWeb : List Str := ["_law_box_here", "_law_most", "_law_more"]
theorem scWeb : FnScope nWeb pWeb (defScope sWeb) := ⟨rfl, rfl, rfl, by decide +kernel, rfl, by decide +kernel, by decide +kernel⟩
section
variable {P : Program} {w : World} {K : PySem.W.Frag} {mg : Str → Option Value} {base : Heap}
theorem ok_web {f f1 f2 : Addr} {fd fd1 fd2 : FuncData} (D : Df K mg "_law_web" sWeb pWeb f fd) (T : Bl mg)
    (D_draw : Df K mg "_law_draw" sDraw ["_law_box_here", "_law_many"] f1 fd1)
    (D_pick : Df K mg "_law_pick" sPick nPick f2 fd2) :
    FnOk P w K mg base CX0 3 f fd pWeb (spWeb K) := by
  have G_draw : FnOk P w K mg base CX0 1 f1 fd1 ["_law_box_here", "_law_many"] spDraw := ok_draw D_draw T
  have G_pick : FnOk P w K mg base CX0 2 f2 fd2 nPick (spPick K) := ok_pick D_pick T D_draw
  refine D.fn.ok scWeb (fun vs H Q E h => ?_) (fun cdv A outer s H vs Q E hr h => ?_)
  · obtain ⟨b, g, most, more, rfl, _⟩ := h
    rfl
  · obtain ⟨b, g, most, more, rfl, m1, m2, m3, hB, k⟩ := h
    have hr_pick : Room 2 _ := hr
    have hr_draw : Room 1 _ := hr.mono (by decide)
    have nd := scWeb.nd
    refine ⟨_, (pss_cons (ps_par3 (i := 3) (j := 4) (l := 5) (by rfl) nd rfl rfl rfl (by decide) (by decide) (by decide) rfl rfl rfl (pa_cons (pe_op op_add pe_int (pe_call G_draw hr_draw (by rfl) D_draw.ad D_draw.fn.kp D_draw.bd .nil pass0 (pa_cons (pv 0) (pa_cons (pv 1) pa_nil)))) (pa_cons (pe_lst pa_nil) (pa_cons (pe_lst pa_nil) pa_nil))) (by rfl))
      (pss_cons (ps_for PassesOwn.never rfl (pi_range2 rfl T.range (pa_cons pe_int (pa_cons (pv 3) pa_nil))) (pg_name (i := 6) nd rfl (by first | exact Or.inl rfl | exact Or.inr rfl)) (pss_one (ps_expr (pe_bm PySem.F.plainAttrs_list PySem.F.slot_list_append PySem.F.type_list_append mt_append (pv 4) (pa_cons (pe_tup (pa_cons (pe_call G_draw hr_draw (by rfl) D_draw.ad D_draw.fn.kp D_draw.bd .nil pass0 (pa_cons (pv 0) (pa_cons (pv 6) pa_nil))) (pa_cons (pv 6) pa_nil))) pa_nil)))))
      (pss_cons (ps_for PassesOwn.never rfl (pi_range1 rfl T.range (pa_cons (pe_ifExp (pt_cmpR op_gt (pv 3) pe_int (nomark _)) (pe_call G_draw hr_draw (by rfl) D_draw.ad D_draw.fn.kp D_draw.bd .nil pass0 (pa_cons (pv 0) (pa_cons (pe_op op_add (pv 2) pe_int) pa_nil))) pe_int) pa_nil)) (pg_name (i := 7) nd rfl (by first | exact Or.inl rfl | exact Or.inr rfl)) (pss_cons (ps_par (i := 8) (j := 9) (by rfl) nd rfl rfl (by decide) rfl rfl (pa_cons (pe_call G_draw hr_draw (by rfl) D_draw.ad D_draw.fn.kp D_draw.bd .nil pass0 (pa_cons (pv 0) (pa_cons (pv 3) pa_nil))) (pa_cons (pe_call G_draw hr_draw (by rfl) D_draw.ad D_draw.fn.kp D_draw.bd .nil pass0 (pa_cons (pv 0) (pa_cons (pv 3) pa_nil))) pa_nil)) (by rfl))
      (pss_cons (ps_if (PW.pt (pw_or (pt_cmpR op_eq (pv 8) (pv 9) (nomark _)) (pw_or1 (pt_cmpR op_eq (pe_call G_draw hr_draw (by rfl) D_draw.ad D_draw.fn.kp D_draw.bd .nil pass0 (pa_cons (pv 0) (pa_cons pe_int pa_nil))) pe_int (nomark _))))) (pss_one (ps_asg (pe_call G_pick hr_pick (by rfl) D_pick.ad D_pick.fn.kp D_pick.bd .nil pass0 (pa_cons (pv 0) (pa_cons (pv 4) pa_nil))) (pg_tup rfl (pgs_cons (pg_name (i := 8) nd rfl (by first | exact Or.inl rfl | exact Or.inr rfl)) (pgs_cons (pg_name (i := 9) nd rfl (by first | exact Or.inl rfl | exact Or.inr rfl)) pgs_nil))))) pss_nil)
      (pss_one (ps_expr (pe_bm PySem.F.plainAttrs_list PySem.F.slot_list_append PySem.F.type_list_append mt_append (pv 4) (pa_cons (pe_tup (pa_cons (pe_callB (call_min2 rfl) (by rfl) T.min (by decide +kernel) (pa_cons (pv 8) (pa_cons (pv 9) pa_nil))) (pa_cons (pe_callB (call_max2 rfl) (by rfl) T.max (by decide +kernel) (pa_cons (pv 8) (pa_cons (pv 9) pa_nil))) pa_nil))) pa_nil)))))))
      (pss_cons (ps_for PassesOwn.never rfl (pi_range1 rfl T.range (pa_cons (pe_callB call_len_seq (by rfl) T.len PySem.boot_len (pa_cons (pv 4) pa_nil)) pa_nil)) (pg_name (i := 7) nd rfl (by first | exact Or.inl rfl | exact Or.inr rfl)) (pss_one (ps_expr (pe_bm PySem.F.plainAttrs_list PySem.F.slot_list_append PySem.F.type_list_append mt_append (pv 5) (pa_cons (pe_bm PySem.F.plainAttrs_list PySem.F.slot_list_pop PySem.F.type_list_pop mt_popAt (pv 4) (pa_cons (pe_call G_draw hr_draw (by rfl) D_draw.ad D_draw.fn.kp D_draw.bd .nil pass0 (pa_cons (pv 0) (pa_cons (pe_callB call_len_seq (by rfl) T.len PySem.boot_len (pa_cons (pv 4) pa_nil)) pa_nil))) pa_nil)) pa_nil)))))
      (pss_one (ps_ret (pe_tup (pa_cons (pv 3) (pa_cons (pe_callTy call_tuple_of (by rfl) T.tuple (by decide +kernel) (pa_cons (pv 5) pa_nil)) pa_nil))))))))), ?_⟩
    -- _law_many, _law_ties, _law_found
    walk_at "rd"
    refine ⟨b, g, (most : Int), rfl, by omega, by omega, hB, fun r H1 r0 r1 kp1 hB1 => ?_⟩
    obtain ⟨n0, rfl⟩ : ∃ j : Nat, r = (j : Int) := ⟨r.toNat, by omega⟩
    walk_at "rd"
    refine ⟨Nat.zero_le _, fun l hl => ⟨Nat.zero_le _, fun l2 hl2 => ⟨_, _, _, rfl, ?_⟩⟩⟩
    have hll : upd H1 l (.lst []) l = some (.lst []) := upd_same
    have nll : l ≠ l2 := ne_of_none hll hl2
    have s1 : Same H1 (upd H1 l (.lst [])) := same_new hl
    have s2 : Same (upd H1 l (.lst [])) (upd (upd H1 l (.lst [])) l2 (.lst [])) := same_new hl2
    have hB2 := (hB1.same s1).same s2
    have lkeep : ∀ {a : Addr}, H1 a = none → a ≠ b → a ≠ g → H a = none := fun {a} h n1 n2 => by
      cases e : H a with
      | none => rfl
      | some o =>
        rw [kp1 _ _ e n1 n2] at h
        cases h
    have hBx := hB1
    obtain ⟨⟨bst, bc, hb1⟩, bns, hg1, _⟩ := hBx
    have lb : l ≠ b := (ne_of_none hb1 hl).symm
    have lg : l ≠ g := (ne_of_none hg1 hl).symm
    have l2b : l2 ≠ b := (ne_of_none (s1 _ _ hb1) hl2).symm
    have l2g : l2 ≠ g := (ne_of_none (s1 _ _ hg1) hl2).symm
    have W0 : WI b g l l2 H (upd (upd H1 l (.lst [])) l2 (.lst [])) [] [] :=
      ⟨kp1.trans ((Kp.same s1).trans (Kp.same s2)), hB2, lkeep hl lb lg, lkeep (Same.free s1 hl2) l2b l2g, lb, lg, l2b, l2g, nll,
        ⟨[], by rw [upd_ne nll]; exact upd_same, .nil⟩, ⟨[], upd_same, .nil⟩⟩
    generalize upd (upd H1 l (.lst [])) l2 (.lst []) = H2 at W0
    clear s1 s2 hB2 hl hl2 hll hb1 hg1 hB1 kp1
    -- each place behind an earlier one
    walk_at "rd"
    refine ⟨by omega, ?_⟩
    refine for_range (lo := 1) (n := (1 + (n0 : Int) - 1).toNat) (fun i σ Hc => ∃ (ts : List Tie) (v6 : Option V),
      σ = [some (.ref b), some (.int most), some (.int more), some (.int (1 + (n0 : Int))), some (.ref l), some (.ref l2), v6, none, none, none] ∧
      WI b g l l2 H Hc ts [] ∧ ts.length = i ∧ (∀ t ∈ ts, t.1 < t.2 ∧ t.2 ≤ i) ∧ ∀ p, 1 ≤ p → p ≤ i → ∃ q, q < p ∧ (q, p) ∈ ts) ?_ ?_ ?_
    · exact ⟨[], none, rfl, W0, rfl, by simp, fun p h1 h2 => by omega⟩
    · rintro i σ Hc hi ⟨ts, v6, rfl, W, e1, e2, e3⟩
      have hi2 : i < n0 := by omega
      obtain ⟨xs, hx, hxs⟩ := W.tl
      refine ⟨_, rfl, .inl ⟨rfl, _, SqL.of hx⟩, ?_⟩
      walk_at "rd"
      refine ⟨b, g, 1 + (i : Int), rfl, by omega, by omega, W.bx, fun r H3 r0 r1 kp3 hB3 => ?_⟩
      obtain ⟨q, rfl⟩ : ∃ j : Nat, r = (j : Int) := ⟨r.toNat, by omega⟩
      have W3 := W.draw kp3 hB3
      walk_at "rd"
      refine ⟨by show 2 ≤ sizeLine; decide, fun p hp => ?_⟩
      have W4 := W3.same (same_new (o := .tup [.int (q : Int), .int (1 + (i : Int))]) hp)
      obtain ⟨ys, hy, hys⟩ := W4.tl
      have hyl : ys.length = ts.length := hys.length
      refine ⟨l, ys, _, rfl, rfl, hy, Nat.lt_of_le_of_lt (show ys.length ≤ 1000 by omega) (by decide), ?_⟩
      have hv : TieAt (upd H3 p (.tup [.int (q : Int), .int (1 + (i : Int))])) (.ref p) (q, 1 + i) :=
        ⟨p, rfl, by rw [upd_same]; show some (HO.tup [V.int (q : Int), V.int (1 + (i : Int))]) = some (HO.tup [V.int (q : Int), V.int (((1 + i : Nat)) : Int)]); rw [Int.natCast_add]; rfl⟩
      refine ⟨ts ++ [(q, 1 + i)], _, rfl, W4.app hy hv, by rw [List.length_append, e1]; rfl, fun t ht => ?_, fun p' h1 h2 => ?_⟩
      · rcases List.mem_append.mp ht with ht | ht
        · have := e2 t ht
          omega
        · obtain rfl := List.mem_singleton.mp ht
          show q < 1 + i ∧ 1 + i ≤ i + 1
          omega
      · by_cases hp' : p' ≤ i
        · obtain ⟨q', a1, a2⟩ := e3 p' h1 hp'
          exact ⟨q', a1, List.mem_append_left _ a2⟩
        · obtain rfl : p' = 1 + i := by omega
          exact ⟨q, by omega, List.mem_append_right _ (List.mem_singleton.mpr rfl)⟩
    · rintro σ Hc ⟨ts, v6, rfl, W, e1, e2, e3⟩
      have e1' : ts.length = n0 := by omega
      have e2' : ∀ t ∈ ts, t.1 < t.2 ∧ t.2 < 1 + n0 := fun t ht => by
        have := e2 t ht
        omega
      have e3' : ∀ p, 1 ≤ p → p < 1 + n0 → ∃ q, q < p ∧ (q, p) ∈ ts := fun p h1 h2 => e3 p h1 (by omega)
      clear e1 e2 e3
      -- more ties
      dsimp only
      refine tSeq_go ?_
      refine for_rng1_by (fun v H' => ∃ m : Nat, v = .int (m : Int) ∧ m ≤ more ∧ (n0 = 0 → m = 0) ∧ WI b g l l2 H H' ts []) ?_ (fun cont => ?_)
      · rintro v H' ⟨m, rfl, hm, hz, W'⟩
        refine ⟨_, rfl, by omega, by omega, ?_⟩
        refine for_range (lo := 0) (n := (m : Int).toNat) (fun i σ Hc => ∃ (ts : List Tie) (v7 v8 v9 : Option V),
          σ = [some (.ref b), some (.int most), some (.int more), some (.int (1 + (n0 : Int))), some (.ref l), some (.ref l2), v6, v7, v8, v9] ∧
          WI b g l l2 H Hc ts [] ∧ ts.length = n0 + i ∧ (∀ t ∈ ts, t.1 < t.2 ∧ t.2 < 1 + n0) ∧ ∀ p, 1 ≤ p → p < 1 + n0 → ∃ q, q < p ∧ (q, p) ∈ ts) ?_ ?_ ?_
        · exact ⟨ts, none, none, none, rfl, W', e1', e2', e3'⟩
        · clear W W' e1' e2' e3'
          rintro i σ Hc hi ⟨ts, v7, v8, v9, rfl, W, e1, e2, e3⟩
          have hn0 : 0 < n0 := by
            rcases Nat.eq_zero_or_pos n0 with z | z
            · have := hz z
              omega
            · exact z
          walk_at "rd"
          refine ⟨b, g, 1 + (n0 : Int), rfl, by omega, by omega, W.bx, fun r H3 r0 r1 kp3 hB3 => ?_⟩
          obtain ⟨one, rfl⟩ : ∃ j : Nat, r = (j : Int) := ⟨r.toNat, by omega⟩
          have W3 := W.draw kp3 hB3
          walk_at "rd"
          refine ⟨b, g, 1 + (n0 : Int), rfl, by omega, by omega, W3.bx, fun r' H4 r0' r1' kp4 hB4 => ?_⟩
          obtain ⟨oth, rfl⟩ : ∃ j : Nat, r' = (j : Int) := ⟨r'.toNat, by omega⟩
          have W4 := W3.draw kp4 hB4
          refine ⟨_, _, rfl, ?_⟩
          dsimp only
          refine tSeq_go ?_
          refine tIfS_by (fun σ' H' => ∃ x y : Nat, x ≠ y ∧ x < 1 + n0 ∧ y < 1 + n0 ∧
            σ' = [some (.ref b), some (.int most), some (.int more), some (.int (1 + (n0 : Int))), some (.ref l), some (.ref l2), v6, some (.int (0 + (i : Int))), some (.int (x : Int)), some (.int (y : Int))] ∧
            WI b g l l2 H H' ts []) ?_ (fun cont => ?_)
          · rintro σ' H' ⟨x, y, nxy, hx, hy, rfl, W5⟩
            obtain ⟨xs, hl1, hl2⟩ := W5.tl
            refine ⟨_, rfl, .inl ⟨rfl, _, SqL.of hl1⟩, ?_⟩
            walk_at "rd"
            refine ⟨by show 2 ≤ sizeLine; decide, fun p hp => ?_⟩
            obtain ⟨lo, hi', e4, e5, hlt, hhi⟩ : ∃ lo hi' : Nat, (if (y : Int) < (x : Int) then (y : Int) else (x : Int)) = (lo : Int) ∧
                (if (y : Int) > (x : Int) then (y : Int) else (x : Int)) = (hi' : Int) ∧ lo < hi' ∧ hi' < 1 + n0 := by
              rcases Nat.lt_or_ge y x with z | z
              · exact ⟨y, x, if_pos (by omega), if_neg (by omega), z, hx⟩
              · exact ⟨x, y, if_neg (by omega), if_pos (by omega), by omega, hy⟩
            rw [e4, e5] at *
            have W6 := W5.same (same_new (o := .tup [.int (lo : Int), .int (hi' : Int)]) hp)
            obtain ⟨ys, hy1, hys⟩ := W6.tl
            have hyl : ys.length = ts.length := hys.length
            refine ⟨l, ys, _, rfl, rfl, hy1, Nat.lt_of_le_of_lt (show ys.length ≤ 3000 by omega) (by decide), ?_⟩
            refine ⟨ts ++ [(lo, hi')], _, _, _, rfl, W6.app hy1 ⟨p, rfl, upd_same⟩, by rw [List.length_append, e1]; rfl, fun t ht => ?_, fun p' h1 h2 => ?_⟩
            · rcases List.mem_append.mp ht with ht | ht
              · exact e2 t ht
              · obtain rfl := List.mem_singleton.mp ht
                exact ⟨hlt, hhi⟩
            · obtain ⟨q', a1, a2⟩ := e3 p' h1 h2
              exact ⟨q', a1, List.mem_append_left _ a2⟩
          · refine tIfS_t (fun c Hx => WI b g l l2 H Hx ts [] ∧ (c = false → one ≠ oth)) ?_ ?_ (fun both => ?_)
            · rintro Hx ⟨Wx, _⟩
              obtain ⟨xs, hl1, hl2⟩ := Wx.tl
              have hxl : xs.length = ts.length := hl2.length
              walk_at "rd"
              refine ⟨b, g, l, xs, rfl, SqL.of hl1, Wx.d1, Wx.d2, by omega, by omega, Wx.bx, fun j v Hy hj kpy hBy => ?_⟩
              have Wy := Wx.draw kpy hBy
              obtain ⟨t, ht, hv⟩ := hl2.at hj
              obtain ⟨p, rfl, hp⟩ := hv.kt (KT.of_kp kpy Wx.bx)
              refine ⟨p, _, rfl, SqT.of hp, rfl, _, _, rfl, _, _, rfl, rfl, ?_⟩
              have hm := e2 t (List.mem_of_getElem? ht)
              exact cont _ _ ⟨t.1, t.2, by omega, by omega, hm.2, rfl, Wy⟩
            · rintro Hx ⟨Wx, hne⟩
              exact cont _ _ ⟨one, oth, hne rfl, by omega, by omega, rfl, Wx⟩
            · refine ⟨_, rfl, _, rfl, rfl, _, rfl, ?_⟩
              refine ite2 (fun hc => ?_) (fun hc => ?_)
              · exact both _ _ ⟨W4, fun z => by cases z⟩
              · have hne : one ≠ oth := by
                  rintro rfl
                  exact hc (decide_eq_true rfl)
                walk_at "rd"
                refine ⟨b, g, 4, rfl, by decide, by decide, W4.bx, fun r Hx q0 q1 kpx hBx => ?_⟩
                refine ⟨rfl, _, rfl, ?_⟩
                exact both _ _ ⟨W4.draw kpx hBx, fun _ => hne⟩
        · clear W W' e1' e2' e3'
          rintro σ Hc ⟨ts, v7, v8, v9, rfl, W, e1, e2, e3⟩
          have e1 : ts.length = n0 + m := e1
          obtain ⟨xs, hl1, hl2⟩ := W.tl
          have hxl : xs.length = ts.length := hl2.length
          -- in another order
          refine ⟨_, rfl, _, _, rfl, .inl (SqL.of hl1), _, rfl, by omega, by omega, ?_⟩
          refine for_range (lo := 0) (n := (xs.length : Int).toNat) (fun i σ Hc => ∃ (us fs : List Tie) (v7 : Option V),
            σ = [some (.ref b), some (.int most), some (.int more), some (.int (1 + (n0 : Int))), some (.ref l), some (.ref l2), v6, v7, v8, v9] ∧
            WI b g l l2 H Hc us fs ∧ us.length + i = ts.length ∧ (us ++ fs).Perm ts) ?_ ?_ ?_
          · exact ⟨ts, [], v7, rfl, W, rfl, by simp⟩
          · rintro i σ Hd hi ⟨us, fs, v7', rfl, Wd, d1, d2⟩
            obtain ⟨xs', hu1, hu2⟩ := Wd.tl
            obtain ⟨ys', hf1, hf2⟩ := Wd.fl
            have hul : xs'.length = us.length := hu2.length
            have hfl : ys'.length = fs.length := hf2.length
            have hpl : us.length + fs.length = ts.length := by
              rw [← List.length_append]
              exact d2.length_eq
            have hi2 : i < xs.length := by omega
            refine ⟨_, rfl, .inl ⟨rfl, _, SqL.of hf1⟩, ?_⟩
            refine ⟨_, rfl, .inl ⟨rfl, _, SqL.of hu1⟩, ?_⟩
            walk_at "rd"
            refine ⟨_, _, rfl, .inl (SqL.of hu1), ?_⟩
            refine ⟨b, g, (xs'.length : Int), rfl, by omega, by omega, Wd.bx, fun r He r0 r1 kpe hBe => ?_⟩
            obtain ⟨j, rfl⟩ : ∃ j : Nat, r = (j : Int) := ⟨r.toNat, by omega⟩
            have hj : j < xs'.length := by omega
            have We := Wd.draw kpe hBe
            have hu1e := kpe _ _ hu1 Wd.d1 Wd.d2
            have hjx : xs'[j]? = some xs'[j] := by simp [hj]
            obtain ⟨t, ht, hv⟩ := hu2.at hjx
            have hve := hv.kt (KT.of_kp kpe Wd.bx)
            refine ⟨l, xs', _, j, _, rfl, rfl, hu1e, by omega, by omega, seq_nat hj, hjx, ?_⟩
            have Wf := We.pop hu1e j
            have hvf := hve.kt (KT.of_upd (ys := xs'.eraseIdx j) hu1e)
            have hf1f : upd He l (.lst (xs'.eraseIdx j)) l2 = some (.lst ys') := by
              rw [upd_ne Wd.d5.symm]
              exact kpe _ _ hf1 Wd.d3 Wd.d4
            refine ⟨l2, ys', _, rfl, rfl, hf1f, Nat.lt_of_le_of_lt (show ys'.length ≤ 3000 by omega) (by decide), ?_⟩
            have hjt : j < us.length := by omega
            refine ⟨us.eraseIdx j, fs ++ [t], _, rfl, (Wf.swap.app hf1f hvf).swap, ?_, (perm_move us fs j t ht).trans d2⟩
            rw [List.length_eraseIdx_of_lt hjt]
            omega
          · rintro σ Hd ⟨us, fs, v7', rfl, Wd, d1, d2⟩
            have hus : us = [] := List.eq_nil_of_length_eq_zero (by omega)
            subst hus
            have hp : fs.Perm ts := d2
            obtain ⟨ys', hf1, hf2⟩ := Wd.fl
            have hfl : ys'.length = fs.length := hf2.length
            have hpl : fs.length = ts.length := hp.length_eq
            refine ⟨_, rfl, _, rfl, l2, _, rfl, .inl ⟨SqL.of hf1, fun q hq => ?_⟩⟩
            refine ⟨by show 2 ≤ sizeLine; decide, fun p hp2 => ?_⟩
            have sq : Same Hd (upd Hd q (.tup ys')) := same_new hq
            have sp : Same (upd Hd q (.tup ys')) (upd (upd Hd q (.tup ys')) p (.tup [.int (1 + (n0 : Int)), .ref q])) := same_new hp2
            have Wz := (Wd.same sq).same sp
            refine k p (1 + n0) fs _ Wz.kp Wz.bx ?_ ⟨by omega, fun t ht => e2 t (hp.mem_iff.mp ht), fun p' h1 h2 => ?_⟩ (by omega) (by omega) fun z => ?_
            · have e : V.int (1 + (n0 : Int)) = V.int ((1 + n0 : Nat) : Int) := by rw [Int.natCast_add]; rfl
              refine .tup (SqT.of upd_same) (.cons ?_ (.cons (.tup (SqT.of (sp _ _ upd_same)) ((hf2.kt ((KT.of_same sq))).kt (KT.of_same sp)).dp) .nil))
              rw [e]
              exact .int _
            · obtain ⟨q', a1, a2⟩ := e3 p' h1 h2
              exact ⟨q', a1, hp.mem_iff.mpr a2⟩
            · have hm0 : m = 0 := hz (by omega)
              exact List.eq_nil_of_length_eq_zero (by omega)
      · walk_at "rd"
        refine ite2 (fun hc => ?_) (fun hc => ?_)
        · have hc' := of_decide_eq_true hc
          walk_at "rd"
          refine ⟨b, g, (more : Int) + 1, rfl, by omega, by omega, W.bx, fun r H3 r0 r1 kp3 hB3 => ?_⟩
          obtain ⟨m, rfl⟩ : ∃ j : Nat, r = (j : Int) := ⟨r.toNat, by omega⟩
          exact cont _ _ ⟨m, rfl, by omega, by omega, W.draw kp3 hB3⟩
        · have hc' : ¬ (1 : Int) < 1 + (n0 : Int) := fun z => hc (decide_eq_true z)
          exact cont _ _ ⟨0, rfl, Nat.zero_le _, fun _ => rfl, W⟩
end
end BV

namespace BV
open PySem L2
local macro_rules | `(tactic| walk_at "rd") => `(tactic| (repeat (first | refine ⟨_, rfl, ?_⟩ | refine ⟨_, _, rfl, rfl, ?_⟩ | refine Or.inl ⟨_, rfl, ?_⟩ | refine Or.inr ⟨_, rfl, ?_⟩ | refine ⟨_, _, rfl, ?_⟩)))
section
variable {P : Program} {w : World} {K : PySem.W.Frag} {mg : Str → Option Value} {base : Heap}
end
end BV


namespace BV
open PySem L2
theorem flat_ints : ∀ ms : List Int, (ms.map V.int).all flatV = true
  | [] => rfl
  | m :: ms => by
    rw [List.map_cons, List.all_cons, flat_ints ms]
    rfl
theorem flat_nats (ms : List Nat) : (ms.map fun (k : Nat) => V.int k).all flatV = true := by
  have e3 : (ms.map fun (k : Nat) => V.int k) = (ms.map fun (k : Nat) => (k : Int)).map V.int := by rw [List.map_map]; rfl
  rw [e3]
  exact flat_ints _
theorem inv_nats (k : Nat) : ∀ ks : List Nat, inV (.int (k : Int)) (ks.map fun (k : Nat) => V.int k) = decide (k ∈ ks)
  | [] => by simp [inV]
  | x :: ks => by
    have ih := inv_nats k ks
    have e : (((x : Nat) : Int) == (k : Int)) = decide (k = x) := by
      by_cases h : k = x
      · subst h
        simp
      · rw [decide_eq_false h]
        exact beq_eq_false_iff_ne.mpr fun z => h (by omega)
    show ((((x : Nat) : Int) == (k : Int)) || inV (.int (k : Int)) (ks.map fun (k : Nat) => V.int k)) = _
    rw [e, ih, ← Bool.decide_or]
    congr 1
    simp
theorem lot_dp {K : PySem.W.Frag} {H : Hp} {a : Addr} {ks : List Nat} (h : SqT K H a (ks.map fun (k : Nat) => V.int k)) : Dp K H (.ref a) (lotD ks) := by
  refine .tup h ?_
  have e2 : (ks.map fun (k : Nat) => PyData.int k) = (ks.map fun (k : Nat) => (k : Int)).map PyData.int := by rw [List.map_map]; rfl
  have e3 : (ks.map fun (k : Nat) => V.int k) = (ks.map fun (k : Nat) => (k : Int)).map V.int := by rw [List.map_map]; rfl
  rw [e2, e3]
  exact dpAll_ints _
def spCut (K : PySem.W.Frag) : Sp := fun vs H Q _ => ∃ (v pv : V) (n : Nat) (ts : List Tie) (ps : List Nat), vs = [v, pv] ∧ Dp K H v (webD n ts) ∧ Dp K H pv (lotD ps) ∧ ts.length ≤ 3000 ∧
  ∀ (u : V) H', Same H H' → Dp K H' u (lotD (cutL ts ps)) → Q u H'
abbrev sAll : Stmt := top 4
abbrev nAll : List Str := ["web"]
abbrev pAll : List Str := ["web"]
theorem scAll : FnScope nAll pAll (defScope sAll) := ⟨rfl, rfl, rfl, by decide +kernel, rfl, by decide +kernel, by decide +kernel⟩
abbrev sFar : Stmt := top 5
abbrev nFar : List Str := ["web", "tie", "place", "one", "other"]
abbrev pFar : List Str := ["web", "tie", "place"]
theorem scFar : FnScope nFar pFar (defScope sFar) := ⟨rfl, rfl, rfl, by decide +kernel, rfl, by decide +kernel, by decide +kernel⟩
abbrev sWays : Stmt := top 6
abbrev nWays : List Str := ["web", "ties", "start", "found", "queue", "place", "tie", "goal"]
abbrev pWays : List Str := ["web", "ties", "start"]
theorem scWays : FnScope nWays pWays (defScope sWays) := ⟨rfl, rfl, rfl, by decide +kernel, rfl, by decide +kernel, by decide +kernel⟩
abbrev sCodd : Stmt := top 8
abbrev nCodd : List Str := ["one", "other", "tie"]
abbrev pCodd : List Str := ["one", "other"]
theorem scCodd : FnScope nCodd pCodd (defScope sCodd) := ⟨rfl, rfl, rfl, by decide +kernel, rfl, by decide +kernel, by decide +kernel⟩
abbrev sCut : Stmt := top 9
abbrev nCut : List Str := ["web", "places", "tie", "one", "other"]
abbrev pCut : List Str := ["web", "places"]
theorem scCut : FnScope nCut pCut (defScope sCut) := ⟨rfl, rfl, rfl, by decide +kernel, rfl, by decide +kernel, by decide +kernel⟩

theorem bit1 (m : Nat) : decide (V.int (Builtin.bitAnd (m : Int) 1) = V.int 1) = decide (m % 2 = 1) := by
  have e : Builtin.bitAnd (m : Int) 1 = ((m % 2 : Nat) : Int) := by
    rw [PyProof.Rows.bitAnd_pp (by omega) (by omega)]
    rw [Int.toNat_natCast, show (1 : Int).toNat = 1 by rfl, Nat.and_one_is_mod]
  rw [e]
  exact decide_eq_decide.mpr ⟨fun z => by have := V.int.inj z; omega, fun z => by rw [z]; rfl⟩
def spAll (K : PySem.W.Frag) : Sp := fun vs H Q _ => ∃ (v : V) (n : Nat) (ts : List Tie), vs = [v] ∧ Dp K H v (webD n ts) ∧ ts.length ≤ 3000 ∧ ∀ (u : V) H', Same H H' → Dp K H' u (lotD (List.range ts.length)) → Q u H'
def farEnd (t : Tie) (p : Nat) : Nat := if p = t.1 then t.2 else t.1
def spFar (K : PySem.W.Frag) : Sp := fun vs H Q _ => ∃ (v : V) (n : Nat) (ts : List Tie) (k p : Nat) (t : Tie), vs = [v, .int k, .int p] ∧ Dp K H v (webD n ts) ∧ ts[k]? = some t ∧ Q (.int (farEnd t p : Nat)) H
def natsV (ks : List Nat) : List V := ks.map fun (k : Nat) => V.int k
/-- what is found: the places fnd, each with a way -/
def Found (K : PySem.W.Frag) (ts : List Tie) (es : List Nat) (n start : Nat) (H : Hp) (d : Addr) (fnd : List Nat) : Prop :=
  (∃ kvs : List (Key × V), H d = some (.dK kvs) ∧ kvs.map (·.1) = fnd.map (fun (p : Nat) => (Sum.inl (p : Int) : Key)) ∧
    ∀ p ∈ fnd, ∃ (a : Addr) (w : List Nat), valV kvs (Sum.inl (p : Int)) = some (.ref a) ∧ SqT K H a (natsV w) ∧ Way ts start w p ∧ (∀ k ∈ w, k ∈ es) ∧ w.length + 1 ≤ fnd.length) ∧
  fnd.Nodup ∧ (∀ p ∈ fnd, p < n) ∧ start ∈ fnd
/-- nothing leads on from p -/
def Shut (ts : List Tie) (es fnd : List Nat) (p : Nat) : Prop := ∀ k ∈ es, ∀ t, ts[k]? = some t → (t.1 = p → t.2 ∈ fnd) ∧ (t.2 = p → t.1 ∈ fnd)
theorem Shut.mono {ts : List Tie} {es fnd fnd2 : List Nat} {p : Nat} (h : Shut ts es fnd p) (m : ∀ x ∈ fnd, x ∈ fnd2) : Shut ts es fnd2 p := fun k hk t ht => ⟨fun e => m _ ((h k hk t ht).1 e), fun e => m _ ((h k hk t ht).2 e)⟩
def spWays (K : PySem.W.Frag) : Sp := fun vs H Q _ => ∃ (v ev : V) (n : Nat) (ts : List Tie) (es : List Nat) (start : Nat), vs = [v, ev, .int start] ∧ Dp K H v (webD n ts) ∧ Dp K H ev (lotD es) ∧
  (∀ t ∈ ts, t.1 < t.2 ∧ t.2 < n) ∧ (∀ k ∈ es, k < ts.length) ∧ start < n ∧ n ≤ 1000 ∧ es.length ≤ 3000 ∧
  ∀ (d : Addr) (fnd : List Nat) H', H d = none → Same H H' → Found K ts es n start H' d fnd → (∀ p ∈ fnd, Shut ts es fnd p) → Q (.ref d) H'
def spCodd (K : PySem.W.Frag) : Sp := fun vs H Q _ => ∃ (v u : V) (w lot : List Nat), vs = [v, u] ∧ Dp K H v (lotD w) ∧ Dp K H u (lotD lot) ∧ w.length ≤ 3000 ∧ ∀ H', Same H H' → Q (.bl (oddIn w lot)) H'
theorem dp_lotN {K : PySem.W.Frag} {H : Hp} {v : V} {ks : List Nat} (h : Dp K H v (lotD ks)) : ∃ a, v = .ref a ∧ SqT K H a (natsV ks) := dp_lotI h
section
variable {P : Program} {w : World} {K : PySem.W.Frag} {mg : Str → Option Value} {base : Heap}
theorem ok_all {f : Addr} {fd : FuncData} (D : Df K mg "all_ties" sAll pAll f fd) (T : Bl mg) : FnOk P w K mg base CX0 1 f fd pAll (spAll K) := by
  refine D.fn.ok scAll (fun vs H Q E h => ?_) (fun cdv A outer s H vs Q E hr h => ?_)
  · obtain ⟨v, n, ts, rfl, _⟩ := h
    rfl
  · obtain ⟨v, n, ts, rfl, hw, hl, k⟩ := h
    have nd := scAll.nd
    obtain ⟨a, c, ys, rfl, ha, hc, hys⟩ := dp_web hw
    have hyl : ys.length = ts.length := by rw [dpAll_len hys, List.length_map]
    refine ⟨_, (pss_one (ps_ret (pe_tupRg rfl (by rfl) T.tuple (prg_1 (by rfl) T.range (pe_callB (lenK K) (by rfl) T.len PySem.boot_len (pa_cons (pe_ix (ixT K) (pv 0) pe_int (fun _ _ => rfl)) pa_nil)))))), ?_⟩
    refine ⟨_, rfl, a, _, _, _, rfl, rfl, ha, atI_nat (j := 1) rfl, c, ys, rfl, .inr hc, _, rfl, .of_le (by omega) (by omega) (by omega) (by omega), fun q hq => ?_⟩
    refine k _ _ (same_new hq) (lot_dp (SqT.of ?_))
    rw [upd_same]
    unfold rgV
    rw [hyl, show ((ts.length : Int) - 0).toNat = ts.length by omega]
    congr 2
    exact List.map_congr_left fun i _ => by rw [Int.zero_add]
theorem ok_far {f : Addr} {fd : FuncData} (D : Df K mg "far_end" sFar pFar f fd) (T : Bl mg) : FnOk P w K mg base CX0 1 f fd pFar (spFar K) := by
  refine D.fn.ok scFar (fun vs H Q E h => ?_) (fun cdv A outer s H vs Q E hr h => ?_)
  · obtain ⟨v, n, ts, kk, p, t, rfl, _⟩ := h
    rfl
  · obtain ⟨v, n, ts, kk, p, t, rfl, hw, ht, k⟩ := h
    have nd := scFar.nd
    obtain ⟨a, c, ys, rfl, ha, hc, hys⟩ := dp_web hw
    obtain ⟨y, hy, hyd⟩ := dpAll_at hys (show (ts.map tieD)[kk]? = some (tieD t) by rw [List.getElem?_map, ht]; rfl)
    obtain ⟨az, rfl, haz⟩ := dp_tie hyd
    refine ⟨_, (pss_cons (ps_asg (pe_ix (ixT K) (pe_ix (ixT K) (pv 0) pe_int (fun _ _ => rfl)) (pv 1) (fun _ _ => rfl)) (pgT K rfl (pgs_cons (pg_name (i := 3) nd rfl (by first | exact Or.inl rfl | exact Or.inr rfl)) (pgs_cons (pg_name (i := 4) nd rfl (by first | exact Or.inl rfl | exact Or.inr rfl)) pgs_nil))))
      (pss_one (ps_ret (pe_ifExp (pt_cmpR op_eq (pv 2) (pv 3) (nomark _)) (pv 4) (pv 3))))), ?_⟩
    refine ⟨_, rfl, a, _, _, _, rfl, rfl, ha, atI_nat (j := 1) rfl, _, rfl, c, _, _, _, rfl, rfl, hc, atI_nat hy, az, _, rfl, haz, rfl, _, _, rfl, _, _, rfl, rfl, ?_⟩
    refine ⟨_, rfl, _, rfl, rfl, _, rfl, ?_⟩
    unfold farEnd at k
    refine ite2 (fun hh => ?_) (fun hh => ?_)
    · have e : p = t.1 := by
        have := V.int.inj (of_decide_eq_true hh)
        omega
      rw [if_pos e] at k
      exact ⟨_, rfl, k⟩
    · have e : ¬ p = t.1 := fun z => hh (by rw [z]; exact decide_eq_true rfl)
      rw [if_neg e] at k
      exact ⟨_, rfl, k⟩
theorem ok_codd {f : Addr} {fd : FuncData} (D : Df K mg "common_odd" sCodd pCodd f fd) (T : Bl mg) : FnOk P w K mg base CX0 1 f fd pCodd (spCodd K) := by
  refine D.fn.ok scCodd (fun vs H Q E h => ?_) (fun cdv A outer s H vs Q E hr h => ?_)
  · obtain ⟨v, u, w, lot, rfl, _⟩ := h
    rfl
  · obtain ⟨v, u, w, lot, rfl, hv, hu, hwl, k⟩ := h
    have nd := scCodd.nd
    obtain ⟨a, rfl, ha⟩ := dp_lotI hv
    obtain ⟨b, rfl, hb⟩ := dp_lotI hu
    refine ⟨_, (pss_one (ps_ret (pe_cmpR op_eq (pe_op op_and (pe_callB (lenK K) (by rfl) T.len PySem.boot_len (pa_cons (pe_lc (own := [("tie", 2)]) (g := (gName 2)) rfl nd (piT K (pv 0)) (blkOk_by (own := [("tie", 2)]) (N := nCodd) (sc := defScope sCodd) (by decide +kernel)) (fun _ _ _ _ _ => (pg_name (i := 2) nd rfl (by first | exact Or.inl rfl | exact Or.inr rfl))) (fun _ _ _ _ _ => (pts_one (pt_cmpR (opIn K) (pv 2) (pv 1) rfl))) (fun _ _ _ _ _ => (pv 2))) pa_nil)) pe_int) pe_int (nomark _)))), ?_⟩
    refine ⟨_, rfl, a, rfl, ⟨_, ha⟩, fun E1 hE1 => ?_⟩
    refine lc_run (walk_tup (xs := w.map fun (k : Nat) => V.int k)) hE1 (fun i acc _ => acc = ((w.take i).filter fun k => decide (k ∈ lot)).map fun (k : Nat) => V.int k) ?_ ?_ ?_ ?_
    · exact fun H' s => sqT_same s ha
    · rfl
    · rintro i x acc H2 H' hi hacc e s r ⟨rfl, hx⟩
      obtain ⟨z, hz, rfl⟩ := get_map hx
      have htk : w.take (i + 1) = w.take i ++ [z] := by
        rw [List.take_add_one, hz]
        rfl
      have r' : acc = ((w.take i).filter fun k => decide (k ∈ lot)).map fun (k : Nat) => V.int k := r
      have hal : acc.length ≤ 3000 := by
        rw [r', List.length_map]
        exact Nat.le_trans (List.length_filter_le _ _) (by rw [List.length_take]; omega)
      refine ⟨rfl, _, rfl, _, rfl, b, _, rfl, .inr (sqT_same s hb), rfl, flat_nats lot, _, rfl, ?_⟩
      have key : inV (V.int (z : Int)) (lot.map fun (k : Nat) => V.int k) = decide (z ∈ lot) := inv_nats z lot
      refine ite2 (fun hh => ?_) (fun hh => ?_)
      · refine ⟨_, rfl, ?_⟩
        refine lc_add hacc e (Same.refl _) (by omega) ?_
        show _ = _
        rw [htk, List.filter_append, List.filter_cons, if_pos (by rw [← key]; exact hh), List.map_append, r']
        rfl
      · refine lc_skip hacc e (Same.refl _) ?_
        show _ = _
        rw [htk, List.filter_append, List.filter_cons, if_neg (by rw [← key]; exact hh), r']
        simp
    · rintro acc H2 h1 s2 r
      have r' : acc = ((w.take (w.map fun (k : Nat) => V.int k).length).filter fun k => decide (k ∈ lot)).map fun (k : Nat) => V.int k := r
      rw [List.length_map, List.take_of_length_le (Nat.le_refl _)] at r'
      have k' := k H2 s2
      unfold oddIn at k'
      refine ⟨E1, _, rfl, .inl (SqL.of h1), _, _, rfl, rfl, rfl, ?_⟩
      rw [bit1, r', List.length_map]
      exact k'
theorem ok_cut {f : Addr} {fd : FuncData} (D : Df K mg "cut_of" sCut pCut f fd) (T : Bl mg) : FnOk P w K mg base CX0 1 f fd pCut (spCut K) := by
  refine D.fn.ok scCut (fun vs H Q E h => ?_) (fun cdv A outer s H vs Q E hr h => ?_)
  · obtain ⟨v, pv, n, ts, ps, rfl, _⟩ := h
    rfl
  · obtain ⟨v, pv, n, ts, ps, rfl, hw, hp, hl, k⟩ := h
    have nd := scCut.nd
    obtain ⟨a, c, ys, rfl, ha, hc, hys⟩ := dp_web hw
    have hyl : ys.length = ts.length := by rw [dpAll_len hys, List.length_map]
    obtain ⟨ap, rfl, hap⟩ := dp_lotI hp
    refine ⟨_, (pss_one (ps_ret (pe_callTy (tupleK K) (by rfl) T.tuple (by decide +kernel) (pa_cons (pe_lc (own := [("tie", 2), ("one", 3), ("other", 4)]) (g := (gTup K 2 (gCons (gName 2) (gCons (gTup K 2 (gCons (gName 3) (gCons (gName 4) gNil))) gNil)))) rfl nd (enumT K (by rfl) T.enumerate (pa_cons (pe_ix (ixT K) (pv 0) pe_int (fun _ _ => rfl)) pa_nil)) (blkOk_by (own := [("tie", 2), ("one", 3), ("other", 4)]) (N := nCut) (sc := defScope sCut) (by decide +kernel)) (fun _ _ _ _ _ => (pgT K rfl (pgs_cons (pg_name (i := 2) nd rfl (by first | exact Or.inl rfl | exact Or.inr rfl)) (pgs_cons (pgT K rfl (pgs_cons (pg_name (i := 3) nd rfl (by first | exact Or.inl rfl | exact Or.inr rfl)) (pgs_cons (pg_name (i := 4) nd rfl (by first | exact Or.inl rfl | exact Or.inr rfl)) pgs_nil))) pgs_nil)))) (fun _ _ _ _ _ => (pts_one (pt_cmpR op_ne (pe_cmpR (opIn K) (pv 3) (pv 1) rfl) (pe_cmpR (opIn K) (pv 4) (pv 1) rfl) (nomark _)))) (fun _ _ _ _ _ => (pv 2))) pa_nil)))), ?_⟩
    refine ⟨_, rfl, a, _, _, _, rfl, rfl, ha, atI_nat (j := 1) rfl, c, ys, rfl, hc, fun E1 hE1 => ?_⟩
    refine lc_run (walk_enumT (xs := ys)) hE1 (fun i acc _ => acc = ((List.range i).filter fun k => match ts[k]? with | some t => crosses ps t | none => false).map fun (k : Nat) => V.int k) ?_ ?_ ?_ ?_
    · exact fun H' s => sqT_same s hc
    · rfl
    · rintro i x acc H2 H' hi hacc e s r ⟨q, y, z, rfl, hq, rfl, hy, hz⟩
      have hit : i < ts.length := by omega
      have ht : ts[i]? = some ts[i] := by simp [hit]
      have hy' : some (V.int i) = some y := hy
      cases hy'
      have hz' : ys[i]? = some z := hz
      obtain ⟨dd, hdd, hzd⟩ := dpAll_get hys hz'
      rw [List.getElem?_map, ht] at hdd
      cases hdd
      obtain ⟨az, rfl, haz⟩ := dp_tie hzd
      have sq := same_new (o := .tup [.int i, .ref az]) hq
      refine ⟨q, _, rfl, SqT.of upd_same, rfl, _, _, rfl, _, _, rfl, az, _, rfl, sqT_same (s.trans sq) haz, rfl, _, _, rfl, _, _, rfl, rfl, rfl, rfl, ?_⟩
      refine ⟨_, rfl, _, rfl, ap, _, rfl, .inr (sqT_same (s.trans sq) hap), rfl, flat_nats ps, ?_⟩
      refine ⟨_, rfl, _, rfl, ap, _, rfl, .inr (sqT_same (s.trans sq) hap), rfl, flat_nats ps, rfl, _, rfl, ?_⟩
      have r' : acc = ((List.range i).filter fun k => match ts[k]? with | some t => crosses ps t | none => false).map fun (k : Nat) => V.int k := r
      have hal : acc.length ≤ i := by
        rw [r', List.length_map]
        exact Nat.le_trans (List.length_filter_le _ _) (by rw [List.length_range]; exact Nat.le_refl _)
      have hc2 : (match ts[i]? with | some t => crosses ps t | none => false) = crosses ps ts[i] := by rw [ht]
      have key : (!decide (V.bl (inV (V.int ((ts[i]).1 : Int)) (ps.map fun (k : Nat) => V.int k)) = V.bl (inV (V.int ((ts[i]).2 : Int)) (ps.map fun (k : Nat) => V.int k)))) = crosses ps ts[i] := by
        rw [inv_nats, inv_nats]
        unfold crosses
        congr 1
        exact decide_eq_decide.mpr ⟨fun z => V.bl.inj z, fun z => by rw [z]⟩
      refine ite2 (fun hh => ?_) (fun hh => ?_)
      · refine ⟨_, rfl, ?_⟩
        refine lc_add hacc e sq (by omega) ?_
        rw [range_filter_succ, if_pos (by rw [hc2, ← key]; exact hh), List.map_append, r']
        rfl
      · refine lc_skip hacc e sq ?_
        rw [range_filter_succ, if_neg (by rw [hc2, ← key]; exact hh), List.append_nil]
        exact r'
    · rintro acc H2 h1 s2 r
      have r' : acc = ((List.range ys.length).filter fun k => match ts[k]? with | some t => crosses ps t | none => false).map fun (k : Nat) => V.int k := r
      rw [hyl] at r'
      refine ⟨E1, _, rfl, .inl ⟨SqL.of h1, fun u hu => ?_⟩⟩
      refine k _ _ (s2.trans (same_new hu)) (lot_dp (SqT.of ?_))
      rw [upd_same, r']
      rfl

def muW (n : Nat) (d q : Addr) (H : Hp) : Nat := (match H d with | some (.dK kvs) => 2 * (n - kvs.length) | _ => 0) + (match H q with | some (.lst xs) => xs.length | _ => 0)
theorem muW_at {n : Nat} {d q : Addr} {H : Hp} {kvs : List (Key × V)} {xs : List V} (h1 : H d = some (.dK kvs)) (h2 : H q = some (.lst xs)) : muW n d q H = 2 * (n - kvs.length) + xs.length := by
  unfold muW
  rw [h1, h2]
theorem kv_len {kvs : List (Key × V)} {fnd : List Nat} (h : kvs.map (·.1) = fnd.map (fun (p : Nat) => (Sum.inl (p : Int) : Key))) : kvs.length = fnd.length := by
  have := congrArg List.length h
  rwa [List.length_map, List.length_map] at this
theorem val_none {kvs : List (Key × V)} {fnd : List Nat} {p : Nat} (h : kvs.map (·.1) = fnd.map (fun (p : Nat) => (Sum.inl (p : Int) : Key))) : (valV kvs (Sum.inl (p : Int))).isSome = decide (p ∈ fnd) := by
  rw [← valV_any, Bool.eq_iff_iff, decide_eq_true_eq, List.any_eq_true]
  constructor
  · rintro ⟨kv, hm, he⟩
    have hm2 : kv.1 ∈ kvs.map (·.1) := List.mem_map.mpr ⟨kv, hm, rfl⟩
    rw [h] at hm2
    obtain ⟨x, hx, e⟩ := List.mem_map.mp hm2
    have e2 := of_decide_eq_true he
    rw [← e] at e2
    have : x = p := by
      have := Sum.inl.inj e2
      omega
    exact this ▸ hx
  · intro hp
    have hm2 : (Sum.inl (p : Int) : Key) ∈ kvs.map (·.1) := by
      rw [h]
      exact List.mem_map.mpr ⟨p, hp, rfl⟩
    obtain ⟨kv, hm, e⟩ := List.mem_map.mp hm2
    exact ⟨kv, hm, decide_eq_true e⟩
theorem nodup_small : ∀ (L : Nat) (l : List Nat), l.Nodup → (∀ x ∈ l, x < L) → l.length ≤ L
  | 0, l, _, h => by
    cases l with
    | nil => exact Nat.le_refl _
    | cons a r => exact absurd (h a (List.mem_cons_self ..)) (Nat.not_lt_zero _)
  | L + 1, l, hn, h => by
    have h1 := nodup_small L (l.erase L) (hn.erase L) (fun x hx => by
      have h2 := h x (List.mem_of_mem_erase hx)
      have h3 : x ≠ L := fun e => by
        subst e
        exact (List.Nodup.not_mem_erase hn) hx
      omega)
    by_cases e : L ∈ l
    · rw [List.length_erase_of_mem e] at h1
      omega
    · rw [List.erase_of_not_mem e] at h1
      omega
/-- the state of the search -/
structure Bfs (K : PySem.W.Frag) (ts : List Tie) (es : List Nat) (n start : Nat) (H : Hp) (d q : Addr) (fnd que : List Nat) : Prop where
  fd : Found K ts es n start H d fnd
  qu : H q = some (.lst (natsV que))
  qf : ∀ p ∈ que, p ∈ fnd
  ql : que.length ≤ fnd.length
theorem Found.kf {K : PySem.W.Frag} {ts : List Tie} {es : List Nat} {n start : Nat} {H H' : Hp} {d : Addr} {fnd : List Nat} (h : Found K ts es n start H d fnd) (s : KF H H') (hd : H' d = H d) : Found K ts es n start H' d fnd := by
  obtain ⟨⟨kvs, h1, h2, h3⟩, r⟩ := h
  exact ⟨⟨kvs, by rw [hd, h1], h2, fun p hp => by
    obtain ⟨a, w, e1, e2, e3⟩ := h3 p hp
    exact ⟨a, w, e1, sqT_kf s e2, e3⟩⟩, r⟩
theorem Found.same {K : PySem.W.Frag} {ts : List Tie} {es : List Nat} {n start : Nat} {H H' : Hp} {d : Addr} {fnd : List Nat} (h : Found K ts es n start H d fnd) (s : Same H H') : Found K ts es n start H' d fnd := by
  have ⟨⟨kvs, h1, _⟩, _⟩ := h
  exact h.kf (fun a o e _ => s a o e) (by rw [s _ _ h1, h1])
theorem same_old {H H' : Hp} {l : Addr} {o : HO} (h : H l = none) (s : Same H H') : Same H (upd H' l o) := fun a x e => by
  rw [upd_ne (ne_of_none e h)]
  exact s _ _ e
theorem kf_upd {H : Hp} {l : Addr} {o x : HO} (h : H l = some o) (ho : (∀ xs, o ≠ .tup xs) ∧ ∀ od u, o ≠ .frz od u) : KF H (upd H l x) := fun z o2 hz q => by
  have nz : z ≠ l := by
    rintro rfl
    rw [h] at hz
    cases hz
    obtain ⟨xs, e | ⟨od, e⟩⟩ := q
    · exact ho.1 _ e
    · exact ho.2 _ _ e
  rw [upd_ne nz]
  exact hz
theorem farEnd_way {ts : List Tie} {start p k : Nat} {w : List Nat} {t : Tie} (hw : Way ts start w p) (ht : ts[k]? = some t) (hp : p = t.1 ∨ p = t.2) : Way ts start (w ++ [k]) (farEnd t p) := by
  refine .snoc hw ht ?_
  unfold farEnd
  by_cases e : p = t.1
  · rw [if_pos e]
    exact .inl ⟨e.symm, rfl⟩
  · rw [if_neg e]
    rcases hp with z | z
    · exact absurd z e
    · exact .inr ⟨z.symm, rfl⟩
theorem ok_ways {f f1 : Addr} {fd fd1 : FuncData} (D : Df K mg "ways_from" sWays pWays f fd) (T : Bl mg) (D_far : Df K mg "far_end" sFar pFar f1 fd1) : FnOk P w K mg base CX0 2 f fd pWays (spWays K) := by
  have G_far : FnOk P w K mg base CX0 1 f1 fd1 pFar (spFar K) := ok_far D_far T
  refine D.fn.ok scWays (fun vs H Q E h => ?_) (fun cdv A outer s H vs Q E hr h => ?_)
  · obtain ⟨v, ev, n, ts, es, start, rfl, _⟩ := h
    rfl
  · obtain ⟨v, ev, n, ts, es, start, rfl, hw, he, hends, hes, hst, hn, hel, k⟩ := h
    have hr_far : Room 1 _ := hr
    have hu := hu_of hr
    have nd := scWays.nd
    obtain ⟨a, c, ys, rfl, ha, hc, hys⟩ := dp_web hw
    have hyl : ys.length = ts.length := by rw [dpAll_len hys, List.length_map]
    obtain ⟨ae, rfl, hae⟩ := dp_lotN he
    refine ⟨_, (pss_cons (ps_set (i := 3) nd rfl (by first | exact Or.inl rfl | exact Or.inr rfl) (pe_disp (pps_cons (pv 2) (pe_tup pa_nil) pps_nil) (by rfl) (by rfl) (fun z => by cases z) (by decide)))
      (pss_cons (ps_set (i := 4) nd rfl (by first | exact Or.inl rfl | exact Or.inr rfl) (pe_lst (pa_cons (pv 2) pa_nil)))
      (pss_cons (ps_while PassesOwn.never (pt_truth (pv 4) (by intro _; rfl)) (pss_cons (ps_set (i := 5) nd rfl (by first | exact Or.inl rfl | exact Or.inr rfl) (pe_bm PySem.F.plainAttrs_list PySem.F.slot_list_pop PySem.F.type_list_pop mt_popAt (pv 4) (pa_cons pe_int pa_nil)))
      (pss_one (ps_for PassesOwn.never rfl (piT K (pv 1)) (pg_name (i := 6) nd rfl (by first | exact Or.inl rfl | exact Or.inr rfl)) (pss_cons (ps_if (pt_cmpR (opNotIn K) (pv 5) (pe_ix (ixT K) (pe_ix (ixT K) (pv 0) pe_int (fun _ _ => rfl)) (pv 6) (fun _ _ => rfl)) rfl) (pss_one ps_continue) pss_nil)
      (pss_cons (ps_set (i := 7) nd rfl (by first | exact Or.inl rfl | exact Or.inr rfl) (pe_call G_far hr_far (by rfl) D_far.ad D_far.fn.kp D_far.bd .nil pass0 (pa_cons (pv 0) (pa_cons (pv 6) (pa_cons (pv 5) pa_nil)))))
      (pss_one (ps_if (pt_cmp (pc_dnotin hu (pv 7) (pv 3))) (pss_cons (ps_dput hu (pv 3) (pv 7) (pe_op (catA K) (pe_dget hu (pv 3) (pv 5) (fun _ _ => rfl)) (pe_tup (pa_cons (pv 6) pa_nil))) rfl)
      (pss_one (ps_expr (pe_bm PySem.F.plainAttrs_list PySem.F.slot_list_append PySem.F.type_list_append mt_append (pv 4) (pa_cons (pv 7) pa_nil))))) pss_nil))))))))
      (pss_one (ps_ret (pv 3)))))), ?_⟩
    refine fun d hd => ?_
    have s1 := same_new (o := .dK []) hd
    refine ⟨_, rfl, Nat.zero_le _, fun t0 ht0 => ?_⟩
    have s2 := same_new (o := .tup []) ht0
    have hd2 := s2 _ _ (upd_same (H := H) (a := d) (o := .dK []))
    have nd0 : d ≠ t0 := by
      rintro rfl
      rw [upd_same] at ht0
      cases ht0
    refine ⟨hd2, [(Sum.inl (start : Int), .ref t0)], rfl, (by show 1 ≤ 15; decide), ?_⟩
    dsimp only [gName]
    refine at_st [some (.ref a), some (.ref ae), some (.int start), some (.ref d), none, none, none, none] rfl ?_
    refine tSeq_go ?_
    refine ⟨_, rfl, by show 1 ≤ sizeLine; decide, fun q hq => ?_⟩
    have h3d : (upd (upd (upd H d (.dK [])) t0 (.tup [])) d (.dK (mergeK [] [((Sum.inl (start : Int) : Key), V.ref t0)]))) d = some (.dK [((Sum.inl (start : Int) : Key), V.ref t0)]) := upd_same
    have h3t : (upd (upd (upd H d (.dK [])) t0 (.tup [])) d (.dK (mergeK [] [((Sum.inl (start : Int) : Key), V.ref t0)]))) t0 = some (.tup []) := by
      rw [upd_ne nd0.symm]
      exact upd_same
    have h3s : Same H (upd (upd (upd H d (.dK [])) t0 (.tup [])) d (.dK (mergeK [] [((Sum.inl (start : Int) : Key), V.ref t0)]))) := same_old hd (s1.trans s2)
    generalize (upd (upd (upd H d (.dK [])) t0 (.tup [])) d (.dK (mergeK [] [((Sum.inl (start : Int) : Key), V.ref t0)]))) = H3 at *
    have s3 := same_new (o := .lst [.int start]) hq
    have s4 := h3s.trans s3
    have dq : d ≠ q := by
      rintro rfl
      rw [h3d] at hq
      cases hq
    have b4 : Bfs K ts es n start (upd H3 q (.lst [.int start])) d q [start] [start] := by
      refine ⟨⟨⟨_, s3 _ _ h3d, rfl, fun p hp => ?_⟩, by simp, by simpa using hst, by simp⟩, upd_same, by simp, Nat.le_refl _⟩
      obtain rfl := List.mem_singleton.mp hp
      exact ⟨t0, [], by simp [valV], SqT.of (s3 _ _ h3t), .nil, by simp, by simp⟩
    have qn : H q = none := Same.free h3s hq
    clear s1 s2 hd2 h3d h3t h3s s3 hq
    generalize upd H3 q (.lst [.int start]) = H4 at *
    dsimp only [gName]
    refine at_st [some (.ref a), some (.ref ae), some (.int start), some (.ref d), some (.ref q), none, none, none] rfl ?_
    refine tSeq_go ?_
    refine while_by (fun σ H' => ∃ (v5 v6 v7 : Option V) (fnd que : List Nat), σ = [some (.ref a), some (.ref ae), some (.int start), some (.ref d), some (.ref q), v5, v6, v7] ∧ Same H H' ∧
      Bfs K ts es n start H' d q fnd que ∧ ∀ p ∈ fnd, p ∈ que ∨ Shut ts es fnd p) (fun _ H' => muW n d q H') ?_ ?_ ?_
    · exact ⟨none, none, none, [start], [start], rfl, s4, b4, fun p hp => .inl hp⟩
    · rintro σ H5 ⟨v5, v6, v7, fnd, que, rfl, s5, b5, hcl⟩
      refine ⟨_, rfl, !(natsV que).isEmpty, .inl ⟨_, SqL.of b5.qu, rfl⟩, ?_⟩
      cases que with
      | nil =>
        refine iteF ?_
        exact ⟨_, rfl, k d fnd H5 hd s5 b5.fd fun p hp => (hcl p hp).resolve_left (by simp)⟩
      | cons p rest =>
        refine iteT ?_
        refine tSeq_go ?_
        have hp5 : p ∈ fnd := b5.qf p (List.mem_cons_self ..)
        refine ⟨_, rfl, .inl ⟨rfl, _, SqL.of b5.qu⟩, q, _, 0, 0, .int p, rfl, rfl, b5.qu, by decide, by decide, by simp [seqIndex?, natsV], rfl, ?_⟩
        have e5 : (natsV (p :: rest)).eraseIdx 0 = natsV rest := rfl
        rw [e5]
        have b6 : Bfs K ts es n start (upd H5 q (.lst (natsV rest))) d q fnd rest :=
          ⟨b5.fd.kf (kf_upd b5.qu ⟨(fun _ e => nomatch e), (fun _ _ e => nomatch e)⟩) (upd_ne dq), upd_same, fun x hx => b5.qf x (List.mem_cons_of_mem _ hx), Nat.le_of_succ_le b5.ql⟩
        have s6 : Same H (upd H5 q (.lst (natsV rest))) := same_old qn s5
        have m6 : muW n d q (upd H5 q (.lst (natsV rest))) + 1 = muW n d q H5 := by
          obtain ⟨⟨⟨kvs, h1, h2, _⟩, _⟩, h4, _⟩ := b5
          rw [muW_at (d := d) (q := q) (by rw [upd_ne dq]; exact h1) upd_same, muW_at h1 h4]
          simp [natsV]
          omega
        clear e5
        generalize upd H5 q (.lst (natsV rest)) = H6 at *
        dsimp only [gName]
        refine at_st [some (.ref a), some (.ref ae), some (.int start), some (.ref d), some (.ref q), some (.int p), v6, v7] rfl ?_
        refine ⟨_, rfl, ae, rfl, ⟨_, sqT_same s6 hae⟩, for_it (walk_tup (xs := natsV es)) (fun i σ H' => ∃ (v6 v7 : Option V) (fnd2 que2 : List Nat), σ = [some (.ref a), some (.ref ae), some (.int start), some (.ref d), some (.ref q), some (.int p), v6, v7] ∧
          Same H H' ∧ Bfs K ts es n start H' d q fnd2 que2 ∧ (∀ x ∈ fnd2, x ∈ que2 ∨ x = p ∨ Shut ts es fnd2 x) ∧ p ∈ fnd2 ∧
          (∀ j, j < i → ∀ kk, es[j]? = some kk → ∀ t, ts[kk]? = some t → (t.1 = p → t.2 ∈ fnd2) ∧ (t.2 = p → t.1 ∈ fnd2)) ∧ muW n d q H' + 1 ≤ muW n d q H5) ?_ ?_ ?_ ?_⟩
        · refine ⟨v6, v7, fnd, rest, rfl, s6, b6, fun x hx => ?_, hp5, fun j hj => absurd hj (Nat.not_lt_zero _), by omega⟩
          rcases hcl x hx with z | z
          · rcases List.mem_cons.mp z with z | z
            · exact .inr (.inl z)
            · exact .inl z
          · exact .inr (.inr z)
        · rintro i σ H' _ ⟨v6, v7, fnd2, que2, rfl, sH, _⟩
          exact sqT_same sH hae
        · rintro i x σ H7 H'' hi ⟨v6, v7, fnd2, que2, rfl, s7, b7, c7, p7, j7, m7⟩ ⟨rfl, hx⟩
          obtain ⟨kk, hkk, rfl⟩ := get_map hx
          have hkl : kk < ts.length := hes kk (List.mem_of_getElem? hkk)
          have ht : ts[kk]? = some ts[kk] := List.getElem?_eq_getElem hkl
          generalize ts[kk] = t at ht
          have hmt := List.mem_of_getElem? ht
          obtain ⟨y, hy, hyd⟩ := dpAll_at hys (show (ts.map tieD)[kk]? = some (tieD t) by rw [List.getElem?_map, ht]; rfl)
          obtain ⟨az, rfl, haz⟩ := dp_tie (dp_same s7 _ hyd)
          have key : inV (V.int (p : Int)) [V.int t.1, V.int t.2] = decide (p ∈ [t.1, t.2]) := inv_nats p [t.1, t.2]
          show tSeq _ _ _ _ _
          refine tSeq_go ?_
          have ha7 := sqT_same s7 ha
          have hc7 := sqT_same s7 hc
          have j8 : ∀ {f3 : List Nat}, (∀ x ∈ fnd2, x ∈ f3) → ((t.1 = p → t.2 ∈ f3) ∧ (t.2 = p → t.1 ∈ f3)) → ∀ j, j < i + 1 → ∀ kk, es[j]? = some kk → ∀ t, ts[kk]? = some t → (t.1 = p → t.2 ∈ f3) ∧ (t.2 = p → t.1 ∈ f3) := fun m new j hj k2 hk2 t2 ht2 => by
            by_cases e : j = i
            · subst e
              rw [hkk] at hk2
              cases hk2
              rw [ht] at ht2
              cases ht2
              exact new
            · have z := j7 j (by omega) k2 hk2 t2 ht2
              exact ⟨fun q => m _ (z.1 q), fun q => m _ (z.2 q)⟩
          refine ⟨_, rfl, _, rfl, a, _, _, _, rfl, rfl, ha7, atI_nat (j := 1) rfl, _, rfl, c, _, _, _, rfl, rfl, hc7, atI_nat hy, az, _, rfl, .inr haz, rfl, rfl, _, rfl, ?_⟩
          refine ite2 (fun hh => ?_) (fun hh => ?_)
          · -- not at this end
            rw [key] at hh
            have hno : p ∉ [t.1, t.2] := by simpa using hh
            simp only [List.mem_cons, List.not_mem_nil, or_false, not_or] at hno
            exact ⟨_, v7, fnd2, que2, rfl, s7, b7, c7, p7, j8 (fun _ z => z) ⟨fun e => absurd e.symm hno.1, fun e => absurd e.symm hno.2⟩, m7⟩
          rw [key] at hh
          have hin : p = t.1 ∨ p = t.2 := by
            have : p ∈ [t.1, t.2] := Classical.byContradiction fun hn => hh (by rw [decide_eq_false hn]; rfl)
            simpa using this
          dsimp only [tNext]
          refine tSeq_go ?_
          refine ⟨_, rfl, _, rfl, _, rfl, .ref a, n, ts, kk, p, t, rfl, dp_same s7 _ hw, ht, ?_⟩
          dsimp only [gName]
          refine at_st [some (.ref a), some (.ref ae), some (.int start), some (.ref d), some (.ref q), some (.int p), some (.int kk), some (.int (farEnd t p : Nat))] rfl ?_
          have b7c := b7
          obtain ⟨⟨⟨kvs, h1, h2, h3⟩, hnd, hlt, hst2⟩, h4, h5, h6⟩ := b7
          have hmem := hends t hmt
          have hg : farEnd t p < n := by
            unfold farEnd
            split <;> omega
          have hnew : ∀ {f3 : List Nat}, farEnd t p ∈ f3 → (t.1 = p → t.2 ∈ f3) ∧ (t.2 = p → t.1 ∈ f3) := fun m => by
            unfold farEnd at m
            constructor
            · intro e
              rwa [if_pos e.symm] at m
            · intro e
              rwa [if_neg (by omega)] at m
          refine ⟨_, rfl, _, rfl, d, _, rfl, DGet.k (k := Sum.inl ((farEnd t p : Nat) : Int)) h1, _, rfl, ?_⟩
          rw [val_none h2]
          refine ite2 (fun hh2 => ?_) (fun hh2 => ?_)
          · have hnf : farEnd t p ∉ fnd2 := by simpa using hh2
            have hvn : valV kvs (Sum.inl ((farEnd t p : Nat) : Int)) = none := by
              have := val_none (p := farEnd t p) h2
              rw [decide_eq_false hnf] at this
              cases e : valV kvs (Sum.inl ((farEnd t p : Nat) : Int)) with
              | none => rfl
              | some x => rw [e] at this; cases this
            obtain ⟨aw, w0, e1, e2, e3, e4, e5⟩ := h3 p p7
            have hlen := kv_len h2
            have hfn : fnd2.length ≤ n := nodup_small n fnd2 hnd hlt
            refine tSeq_go ?_
            refine ⟨_, rfl, _, rfl, d, _, rfl, by rw [← e1]; exact DGet.k (k := Sum.inl (p : Int)) h1, ?_⟩
            refine ⟨_, rfl, by show 1 ≤ sizeLine; decide, fun t1 ht1 => ?_⟩
            have u1 := same_new (o := .tup [.int kk]) ht1
            refine catA_by rfl rfl (sqT_same u1 e2) (SqT.of upd_same) (by unfold natsV; rw [List.length_map]; show _ + 1 ≤ 100000; omega) fun cw H8 u2 hcw => ?_
            have u12 := u1.trans u2
            have h18 := u12 _ _ h1
            have h48 := u12 _ _ h4
            refine ⟨_, rfl, _, rfl, d, _, rfl, DPut.k (k := Sum.inl ((farEnd t p : Nat) : Int)) h18 (Nat.lt_of_lt_of_le (show kvs.length < 100000 by omega) (by decide)), ?_⟩
            have kd : KF H8 (upd H8 d (.dK (putK kvs (Sum.inl ((farEnd t p : Nat) : Int)) (.ref cw)))) := kf_upd h18 ⟨(fun _ e => nomatch e), (fun _ _ e => nomatch e)⟩
            have hq9 : (upd H8 d (.dK (putK kvs (Sum.inl ((farEnd t p : Nat) : Int)) (.ref cw)))) q = some (.lst (natsV que2)) := by
              rw [upd_ne dq.symm]
              exact h48
            refine ⟨_, rfl, .inl ⟨rfl, _, SqL.of hq9⟩, _, rfl, q, _, _, rfl, rfl, hq9, ?_, ?_⟩
            · unfold natsV
              rw [List.length_map]
              exact Nat.lt_of_lt_of_le (show que2.length < 100000 by omega) (by decide)
            have kq : KF (upd H8 d (.dK (putK kvs (Sum.inl ((farEnd t p : Nat) : Int)) (.ref cw)))) (upd (upd H8 d (.dK (putK kvs (Sum.inl ((farEnd t p : Nat) : Int)) (.ref cw)))) q (.lst (natsV que2 ++ [.int (farEnd t p : Nat)]))) := kf_upd hq9 ⟨(fun _ e => nomatch e), (fun _ _ e => nomatch e)⟩
            have hd10 : (upd (upd H8 d (.dK (putK kvs (Sum.inl ((farEnd t p : Nat) : Int)) (.ref cw)))) q (.lst (natsV que2 ++ [.int (farEnd t p : Nat)]))) d = some (.dK (kvs ++ [(Sum.inl ((farEnd t p : Nat) : Int), .ref cw)])) := by
              rw [upd_ne dq, upd_same, putK_new _ hvn]
            have hq10 : (upd (upd H8 d (.dK (putK kvs (Sum.inl ((farEnd t p : Nat) : Int)) (.ref cw)))) q (.lst (natsV que2 ++ [.int (farEnd t p : Nat)]))) q = some (.lst (natsV (que2 ++ [farEnd t p]))) := by
              rw [upd_same]
              unfold natsV
              rw [List.map_append]
              rfl
            refine ⟨some (.int kk), some (.int (farEnd t p : Nat)), fnd2 ++ [farEnd t p], que2 ++ [farEnd t p], rfl, same_old qn (same_old hd (s7.trans u12)), ⟨⟨⟨_, hd10, ?_, fun x hx => ?_⟩, ?_, fun x hx => ?_, List.mem_append_left _ hst2⟩, hq10, fun x hx => ?_, ?_⟩, fun x hx => ?_, List.mem_append_left _ p7, j8 (fun _ z => List.mem_append_left _ z) (hnew (List.mem_append_right _ (List.mem_singleton.mpr rfl))), ?_⟩
            · rw [List.map_append, List.map_append, h2]
              rfl
            · have vput : ∀ y : Nat, valV (kvs ++ [(Sum.inl ((farEnd t p : Nat) : Int), V.ref cw)]) (Sum.inl (y : Int)) = if y = farEnd t p then some (.ref cw) else valV kvs (Sum.inl (y : Int)) := fun y => by
                rw [← putK_new _ hvn, valV_put]
                by_cases e : y = farEnd t p
                · rw [if_pos e, if_pos (by rw [e])]
                · rw [if_neg e, if_neg (fun z => e (by have := Sum.inl.inj z; omega))]
              rw [List.length_append, List.length_singleton]
              rcases List.mem_append.mp hx with z | z
              · obtain ⟨ax, wx, f1, f2, f3, f4, f5⟩ := h3 x z
                refine ⟨ax, wx, ?_, sqT_kf kq (sqT_kf kd (sqT_same u12 f2)), f3, f4, by omega⟩
                rw [vput, if_neg (fun e : x = farEnd t p => hnf (e ▸ z)), f1]
              · obtain rfl := List.mem_singleton.mp z
                refine ⟨cw, w0 ++ [kk], ?_, sqT_kf kq (sqT_kf kd ?_), farEnd_way e3 ht hin, fun y hy => ?_, ?_⟩
                · rw [vput, if_pos rfl]
                · have : natsV (w0 ++ [kk]) = natsV w0 ++ [.int kk] := by unfold natsV; rw [List.map_append]; rfl
                  rw [this]
                  exact hcw
                · rcases List.mem_append.mp hy with z2 | z2
                  · exact e4 y z2
                  · rw [List.mem_singleton.mp z2]
                    exact List.mem_of_getElem? hkk
                · rw [List.length_append, List.length_singleton]
                  omega
            · rw [List.nodup_append]
              refine ⟨hnd, List.nodup_cons.mpr ⟨by simp, .nil⟩, fun x hx y hy => ?_⟩
              rw [List.mem_singleton.mp hy]
              exact fun z => hnf (z ▸ hx)
            · rcases List.mem_append.mp hx with z | z
              · exact hlt x z
              · rw [List.mem_singleton.mp z]
                exact hg
            · rcases List.mem_append.mp hx with z | z
              · exact List.mem_append_left _ (h5 x z)
              · exact List.mem_append_right _ z
            · rw [List.length_append, List.length_append]
              exact Nat.add_le_add_right h6 _
            · rcases List.mem_append.mp hx with z | z
              · rcases c7 x z with z | z | z
                · exact .inl (List.mem_append_left _ z)
                · exact .inr (.inl z)
                · exact .inr (.inr (z.mono fun _ m => List.mem_append_left _ m))
              · exact .inl (List.mem_append_right _ z)
            · rw [muW_at h1 h4] at m7
              rw [muW_at hd10 hq10]
              have hlt2 : kvs.length < n := by
                have hn1 : (fnd2 ++ [farEnd t p]).length ≤ n := nodup_small n _ (by
                  rw [List.nodup_append]
                  refine ⟨hnd, List.nodup_cons.mpr ⟨by simp, .nil⟩, fun x hx y hy => ?_⟩
                  rw [List.mem_singleton.mp hy]
                  exact fun z => hnf (z ▸ hx)) fun x hx => by
                    rcases List.mem_append.mp hx with z | z
                    · exact hlt x z
                    · rw [List.mem_singleton.mp z]
                      exact hg
                rw [List.length_append, List.length_singleton] at hn1
                omega
              unfold natsV at m7 ⊢
              rw [List.length_map] at m7 ⊢
              rw [List.length_append, List.length_append, List.length_singleton, List.length_singleton]
              omega
          · have hyf : farEnd t p ∈ fnd2 := by simpa using hh2
            exact ⟨some (.int kk), some (.int (farEnd t p : Nat)), fnd2, que2, rfl, s7, b7c, c7, p7, j8 (fun _ z => z) (hnew hyf), m7⟩
        · rintro σ H7 ⟨v6, v7, fnd2, que2, rfl, s7, b7, c7, p7, j7, m7⟩
          refine ⟨⟨_, _, _, fnd2, que2, rfl, s7, b7, fun x hx => ?_⟩, by omega⟩
          rcases c7 x hx with z | z | z
          · exact .inl z
          · refine .inr fun kk hk t ht => ?_
            subst z
            obtain ⟨j, hj⟩ := List.getElem?_of_mem hk
            have hjl := (List.getElem?_eq_some_iff.mp hj).1
            exact j7 j (by unfold natsV; rw [List.length_map]; exact hjl) kk hj t ht
          · exact .inr z
    · rintro σ H' Q1 Q2 hQ ⟨v, e, kb, tv, q1⟩
      exact ⟨v, e, kb, tv, hQ _ _ q1⟩

end
end BV

namespace BV
open PySem L2
abbrev sOdd : Stmt := top 10
abbrev nOdd : List Str := ["web", "lot", "odd", "tie", "place"]
abbrev pOdd : List Str := ["web", "lot"]
theorem scOdd : FnScope nOdd pOdd (defScope sOdd) := ⟨rfl, rfl, rfl, by decide +kernel, rfl, by decide +kernel, by decide +kernel⟩
abbrev sEven : Stmt := top 11
abbrev nEven : List Str := ["web", "lot"]
abbrev pEven : List Str := ["web", "lot"]
theorem scEven : FnScope nEven pEven (defScope sEven) := ⟨rfl, rfl, rfl, by decide +kernel, rfl, by decide +kernel, by decide +kernel⟩
abbrev sFside : Stmt := top 12
abbrev nFside : List Str := ["web", "lot", "found", "place"]
abbrev pFside : List Str := ["web", "lot"]
theorem scFside : FnScope nFside pFside (defScope sFside) := ⟨rfl, rfl, rfl, by decide +kernel, rfl, by decide +kernel, by decide +kernel⟩
abbrev sIscut : Stmt := top 13
abbrev nIscut : List Str := ["web", "lot"]
abbrev pIscut : List Str := ["web", "lot"]
theorem scIscut : FnScope nIscut pIscut (defScope sIscut) := ⟨rfl, rfl, rfl, by decide +kernel, rfl, by decide +kernel, by decide +kernel⟩
abbrev sPlaces : Stmt := top 14
abbrev nPlaces : List Str := ["web", "lot", "places"]
abbrev pPlaces : List Str := ["web", "lot"]
theorem scPlaces : FnScope nPlaces pPlaces (defScope sPlaces) := ⟨rfl, rfl, rfl, by decide +kernel, rfl, by decide +kernel, by decide +kernel⟩

theorem eqv_lots (ks ms : List Nat) : PyData.eqv (lotD ks) (lotD ms) = decide (ks = ms) := by
  have e : ∀ l : List Nat, (l.map fun (k : Nat) => PyData.int k) = (l.map fun (k : Nat) => (k : Int)).map PyData.int := fun l => by rw [List.map_map]; rfl
  unfold lotD
  rw [e, e, PyData.eqv, PySem.W.ked_eqvAll]
  refine decide_eq_decide.mpr ⟨fun h => ?_, fun h => by rw [h]⟩
  have := congrArg (List.map Int.toNat) h
  rw [List.map_map, List.map_map] at this
  have e2 : ∀ l : List Nat, l.map (Int.toNat ∘ fun (k : Nat) => (k : Int)) = l := fun l => (List.map_congr_left fun x _ => (by show ((x : Int)).toNat = x; omega)).trans (List.map_id l)
  rwa [e2, e2] at this
theorem shaped_lotN (ks : List Nat) : SeqAt.shaped (lotD ks) = true := by
  have h := shaped_intsL (ks.map fun (k : Nat) => (k : Int))
  rw [List.map_map] at h
  exact h
/-- how many ties of the lot are at p -/
def atEnd (ts : List Tie) (p k : Nat) : Bool := match ts[k]? with
  | some t => decide (t.1 = p) || decide (t.2 = p)
  | none => false
def deg (ts : List Tie) (lot : List Nat) (p : Nat) : Nat := (lot.filter (atEnd ts p)).length
theorem deg_snoc {ts : List Tie} (l : List Nat) {k p : Nat} {t : Tie} (ht : ts[k]? = some t) : deg ts (l ++ [k]) p = deg ts l p + if t.1 = p ∨ t.2 = p then 1 else 0 := by
  unfold deg
  rw [List.filter_append, List.length_append]
  congr 1
  have e : atEnd ts p k = (decide (t.1 = p) || decide (t.2 = p)) := by
    unfold atEnd
    rw [ht]
  rw [List.filter_cons, e]
  by_cases h : t.1 = p ∨ t.2 = p
  · rw [if_pos h, if_pos (by rw [← Bool.decide_or]; exact decide_eq_true h)]
    rfl
  · rw [if_neg h, if_neg (by rw [← Bool.decide_or, decide_eq_false h]; decide)]
    rfl
def oddPl (n : Nat) (ts : List Tie) (lot : List Nat) : List Nat := (List.range n).filter fun p => decide (deg ts lot p % 2 = 1)
def evenB (n : Nat) (ts : List Tie) (lot : List Nat) : Bool := decide (oddPl n ts lot = [])
theorem rng_get {α : Type} (n : Nat) (g : Nat → α) {i : Nat} (h : i < n) : ((List.range n).map g)[i]? = some (g i) := by
  rw [List.getElem?_map, List.getElem?_range h]
  rfl
theorem rng_set {α : Type} (n : Nat) (g : Nat → α) (i : Nat) (y : α) : ((List.range n).map g).set i y = (List.range n).map fun p => if p = i then y else g p := by
  refine List.ext_getElem? fun j => ?_
  by_cases hj : j < n
  · rw [rng_get n _ hj]
    by_cases e : i = j
    · subst e
      rw [List.getElem?_set_self (by rw [List.length_map, List.length_range]; exact hj), if_pos rfl]
    · rw [List.getElem?_set_ne e, rng_get n g hj, if_neg (fun z => e z.symm)]
  · rw [List.getElem?_eq_none (by rw [List.length_set, List.length_map, List.length_range]; omega), List.getElem?_eq_none (by rw [List.length_map, List.length_range]; omega)]
def boolsV (n : Nat) (f : Nat → Bool) : List V := (List.range n).map fun p => V.bl (f p)
theorem bools_congr {n : Nat} {f g : Nat → Bool} (h : ∀ p, p < n → f p = g p) : boolsV n f = boolsV n g := List.map_congr_left fun p hp => by rw [h p (List.mem_range.mp hp)]
def spOdd (K : PySem.W.Frag) : Sp := fun vs H Q _ => ∃ (v u : V) (n : Nat) (ts : List Tie) (lot : List Nat), vs = [v, u] ∧ Dp K H v (webD n ts) ∧ Dp K H u (lotD lot) ∧ (∀ t ∈ ts, t.1 < t.2 ∧ t.2 < n) ∧ (∀ k ∈ lot, k < ts.length) ∧ n ≤ 1000 ∧
  ∀ (z : V) H', Same H H' → Dp K H' z (lotD (oddPl n ts lot)) → Q z H'
def spEven (K : PySem.W.Frag) : Sp := fun vs H Q _ => ∃ (v u : V) (n : Nat) (ts : List Tie) (lot : List Nat), vs = [v, u] ∧ Dp K H v (webD n ts) ∧ Dp K H u (lotD lot) ∧ (∀ t ∈ ts, t.1 < t.2 ∧ t.2 < n) ∧ (∀ k ∈ lot, k < ts.length) ∧ n ≤ 1000 ∧
  ∀ H', Same H H' → Q (.bl (evenB n ts lot)) H'
/-- a lot that is the cut of far is told so -/
def spFside (K : PySem.W.Frag) : Sp := fun vs H Q _ => ∃ (v u : V) (n : Nat) (ts : List Tie) (lot : List Nat), vs = [v, u] ∧ Dp K H v (webD n ts) ∧ Dp K H u (lotD lot) ∧ WebOk n ts ∧ (∀ k ∈ lot, k < ts.length) ∧ n ≤ 1000 ∧ ts.length ≤ 3000 ∧
  ∀ (z : V) (ws : Nat → List Nat) H', Same H H' → (∀ p, p < n → Way ts 0 (ws p) p) → Dp K H' z (lotD (farL n ws lot)) → Q z H'
open Classical in
noncomputable def cutB (ts : List Tie) (lot : List Nat) : Bool := decide (∃ S, IsCutOf ts lot S)
open Classical in
theorem cutB_iff {ts : List Tie} {lot : List Nat} : cutB ts lot = true ↔ ∃ S, IsCutOf ts lot S := by
  unfold cutB
  exact decide_eq_true_iff
def spIscut (K : PySem.W.Frag) : Sp := fun vs H Q _ => ∃ (v u : V) (n : Nat) (ts : List Tie) (lot : List Nat), vs = [v, u] ∧ Dp K H v (webD n ts) ∧ Dp K H u (lotD lot) ∧ WebOk n ts ∧ LotA ts.length lot ∧ n ≤ 1000 ∧ ts.length ≤ 3000 ∧
  ∀ H', Same H H' → Q (.bl (cutB ts lot)) H'
/-- the places without 0 whose cut the lot is -/
def FarOf (n : Nat) (ts : List Tie) (lot far : List Nat) : Prop := IsCutOf ts lot far ∧ far.Pairwise (· < ·) ∧ 0 ∉ far ∧ ∀ p ∈ far, p < n
def spPlaces (K : PySem.W.Frag) (U : Addr) : Sp := fun vs H Q E => ∃ (v u : V) (n : Nat) (ts : List Tie) (lot : List Nat), vs = [v, u] ∧ Dp K H v (webD n ts) ∧ Dp K H u (lotD lot) ∧ WebOk n ts ∧ LotA ts.length lot ∧ n ≤ 1000 ∧ ts.length ≤ 3000 ∧
  (cutB ts lot = false → ∀ H', Same H H' → E (.ref U) none H') ∧ (cutB ts lot = true → ∀ (z : V) (far : List Nat) H', Same H H' → FarOf n ts lot far → Dp K H' z (lotD far) → Q z H')
section
variable {P : Program} {w : World} {K : PySem.W.Frag} {mg : Str → Option Value} {base : Heap}
theorem ok_odd {f : Addr} {fd : FuncData} (D : Df K mg "odd_places" sOdd pOdd f fd) (T : Bl mg) : FnOk P w K mg base CX0 1 f fd pOdd (spOdd K) := by
  refine D.fn.ok scOdd (fun vs H Q E h => ?_) (fun cdv A outer s H vs Q E hr h => ?_)
  · obtain ⟨v, u, n, ts, lot, rfl, _⟩ := h
    rfl
  · obtain ⟨v, u, n, ts, lot, rfl, hw, hu, hends, hlot, hn, k⟩ := h
    have nd := scOdd.nd
    obtain ⟨a, c, ys, rfl, ha, hc, hys⟩ := dp_web hw
    obtain ⟨al, rfl, hal⟩ := dp_lotN hu
    refine ⟨_, (pss_cons (ps_set (i := 2) nd rfl (by first | exact Or.inl rfl | exact Or.inr rfl) (pe_op op_rep (pe_lst (pa_cons pe_bl pa_nil)) (pe_ix (ixT K) (pv 0) pe_int (fun _ _ => rfl))))
      (pss_cons (ps_for PassesOwn.never rfl (piT K (pv 1)) (pg_name (i := 3) nd rfl (by first | exact Or.inl rfl | exact Or.inr rfl)) (pss_one (ps_for PassesOwn.never rfl (piT K (pe_ix (ixT K) (pe_ix (ixT K) (pv 0) pe_int (fun _ _ => rfl)) (pv 3) (fun _ _ => rfl))) (pg_name (i := 4) nd rfl (by first | exact Or.inl rfl | exact Or.inr rfl)) (pss_one (ps_asg (pe_not (pe_ix (ixL K) (pv 2) (pv 4) (fun _ _ => rfl))) (pg_sub (pv 2) (pv 4) set_list))))))
      (pss_one (ps_ret (pe_callTy (tupleK K) (by rfl) T.tuple (by decide +kernel) (pa_cons (pe_lc (own := [("place", 4)]) (g := (gName 4)) rfl nd (pi_range1 rfl T.range (pa_cons (pe_ix (ixT K) (pv 0) pe_int (fun _ _ => rfl)) pa_nil)) (blkOk_by (own := [("place", 4)]) (N := nOdd) (sc := defScope sOdd) (by decide +kernel)) (fun _ _ _ _ _ => (pg_name (i := 4) nd rfl (by first | exact Or.inl rfl | exact Or.inr rfl))) (fun _ _ _ _ _ => (pts_one (pt_val (pe_ix (ixL K) (pv 2) (pv 4) (fun _ _ => rfl))))) (fun _ _ _ _ _ => (pv 4))) pa_nil)))))), ?_⟩
    refine ⟨by decide, fun p0 hp0 => ?_⟩
    have s0 : Same H (upd H p0 (.lst [.bl false])) := same_new hp0
    refine ⟨_, rfl, a, _, _, _, rfl, rfl, sqT_same s0 ha, atI_nat (j := 0) rfl, ?_⟩
    refine ⟨p0, _, [.bl false], rfl, rfl, upd_same, by omega, by omega, ?_, fun m0 hm0 => ?_⟩
    · exact Nat.le_trans (show 1 * (n : Int).toNat ≤ 1000 by omega) (by decide)
    have s1 : Same (upd H p0 (.lst [.bl false])) (upd (upd H p0 (.lst [.bl false])) m0 (.lst (List.replicate (n : Int).toNat [V.bl false]).flatten)) := same_new hm0
    have hHm : H m0 = none := Same.free s0 hm0
    dsimp only [gName]
    refine at_st [some (.ref a), some (.ref al), some (.ref m0), none, none] rfl ?_
    refine tSeq_go ?_
    refine ⟨_, rfl, al, rfl, ⟨_, sqT_same (s0.trans s1) hal⟩, for_it (walk_tup (xs := natsV lot)) (fun j σ H' => ∃ (v3 v4 : Option V),
        σ = [some (.ref a), some (.ref al), some (.ref m0), v3, v4] ∧ Same H H' ∧ H' m0 = some (.lst (boolsV n fun p => decide (deg ts (lot.take j) p % 2 = 1)))) ?_ ?_ ?_ ?_⟩
    · refine ⟨none, none, rfl, s0.trans s1, ?_⟩
      rw [upd_same, reps, Int.toNat_natCast]
      rfl
    · rintro j σ H' _ ⟨v3, v4, rfl, h1, _⟩
      exact sqT_same h1 hal
    · rintro j x σ H' H'' hj ⟨v3, v4, rfl, h1, h3⟩ ⟨rfl, hx⟩
      obtain ⟨kk, hkk, rfl⟩ := get_map hx
      have hkm : kk < ts.length := hlot kk (List.mem_of_getElem? hkk)
      have ht : ts[kk]? = some ts[kk] := List.getElem?_eq_getElem hkm
      have hte := hends ts[kk] (List.getElem_mem hkm)
      obtain ⟨y, hy, hyd⟩ := dpAll_at hys (show (ts.map tieD)[kk]? = some (tieD ts[kk]) by rw [List.getElem?_map, ht]; rfl)
      obtain ⟨ay, rfl, hay⟩ := dp_tie hyd
      have htk : lot.take (j + 1) = lot.take j ++ [kk] := by
        rw [List.take_add_one, hkk]
        rfl
      refine ⟨_, rfl, a, _, _, _, rfl, rfl, sqT_same h1 ha, atI_nat (j := 1) rfl, ?_⟩
      refine ⟨_, rfl, c, _, _, _, rfl, rfl, sqT_same h1 hc, atI_nat hy, ?_⟩
      generalize ts[kk] = t at *
      refine ⟨ay, rfl, ⟨_, sqT_same h1 hay⟩, for_it (walk_tup (xs := [V.int t.1, V.int t.2])) (fun i σ H' => ∃ (v4 : Option V),
        σ = [some (.ref a), some (.ref al), some (.ref m0), some (.int kk), v4] ∧ Same H H' ∧ H' m0 = some (.lst (boolsV n fun p => Bool.xor (decide (deg ts (lot.take j) p % 2 = 1)) ((decide (1 ≤ i) && decide (t.1 = p)) || (decide (2 ≤ i) && decide (t.2 = p)))))) ?_ ?_ ?_ ?_⟩
      · refine ⟨v4, rfl, h1, ?_⟩
        rw [h3]
        congr 2
        exact bools_congr fun p _ => by simp
      · rintro i σ H' _ ⟨v4, rfl, h1, _⟩
        exact sqT_same h1 hay
      · rintro i x σ H2 H3 hi ⟨v4, rfl, h1, h3⟩ ⟨rfl, hx⟩
        obtain ⟨e, he, hen, hst⟩ : ∃ e : Nat, x = .int (e : Int) ∧ e < n ∧ ∀ p : Nat, (if p = e then !(Bool.xor (decide (deg ts (lot.take j) e % 2 = 1)) ((decide (1 ≤ i) && decide (t.1 = e)) || (decide (2 ≤ i) && decide (t.2 = e)))) else Bool.xor (decide (deg ts (lot.take j) p % 2 = 1)) ((decide (1 ≤ i) && decide (t.1 = p)) || (decide (2 ≤ i) && decide (t.2 = p)))) =
            Bool.xor (decide (deg ts (lot.take j) p % 2 = 1)) ((decide (1 ≤ i + 1) && decide (t.1 = p)) || (decide (2 ≤ i + 1) && decide (t.2 = p))) := by
          have hi2 : i < 2 := hi
          match i, hi2, hx with
          | 0, _, hx =>
            refine ⟨t.1, (Option.some.inj hx).symm, by omega, fun p => ?_⟩
            by_cases hp : p = t.1
            · subst hp
              simp
            · have : ¬ t.1 = p := fun z => hp z.symm
              simp [hp, this]
          | 1, _, hx =>
            refine ⟨t.2, (Option.some.inj hx).symm, by omega, fun p => ?_⟩
            by_cases hp : p = t.2
            · subst hp
              have : ¬ t.1 = t.2 := by omega
              simp [this]
            · have : ¬ t.2 = p := fun z => hp z.symm
              simp [hp, this]
        subst he
        refine ⟨_, rfl, _, rfl, m0, _, (e : Int), _, rfl, rfl, SqL.of h3, atI_nat (rng_get n _ hen), _, rfl, ?_⟩
        refine ⟨_, rfl, _, rfl, m0, _, (e : Int), e, rfl, rfl, h3, ix_nat (by unfold boolsV; rw [List.length_map, List.length_range]; exact hen), ?_⟩
        refine ⟨_, rfl, same_old hHm h1, ?_⟩
        rw [upd_same]
        unfold boolsV
        rw [rng_set]
        congr 2
        refine List.map_congr_left fun p _ => ?_
        dsimp only
        rw [← hst p]
        split <;> rfl
      · rintro σ H2 ⟨v4, rfl, h1, h3⟩
        refine ⟨_, _, rfl, h1, ?_⟩
        rw [h3]
        congr 2
        refine bools_congr fun p _ => ?_
        rw [htk, deg_snoc _ ht]
        by_cases hp : t.1 = p ∨ t.2 = p
        · rw [if_pos hp]
          have : ((decide (1 ≤ [V.int (t.1 : Int), V.int (t.2 : Int)].length) && decide (t.1 = p)) || (decide (2 ≤ [V.int (t.1 : Int), V.int (t.2 : Int)].length) && decide (t.2 = p))) = true := by
            rcases hp with e | e <;> simp [e]
          rw [this, Bool.xor_true, Bool.eq_iff_iff]
          simp only [Bool.not_eq_true', decide_eq_false_iff_not, decide_eq_true_eq]
          omega
        · rw [if_neg hp]
          have h4 : ¬ t.1 = p := fun z => hp (.inl z)
          have h5 : ¬ t.2 = p := fun z => hp (.inr z)
          simp [h4, h5]
    · rintro σ H2 ⟨v3, v4, rfl, h1, h3⟩
      unfold natsV at h3
      rw [List.length_map, List.take_of_length_le (Nat.le_refl _)] at h3
      refine ⟨_, rfl, a, _, _, _, rfl, rfl, sqT_same h1 ha, atI_nat (j := 0) rfl, _, rfl, by omega, by omega, fun E1 hE1 => ?_⟩
      refine lc_run (walk_range (lo := 0) (n := (n : Int).toNat)) hE1 (fun i acc _ => acc = natsV ((List.range i).filter fun p => decide (deg ts lot p % 2 = 1))) ?_ ?_ ?_ ?_
      · exact fun _ _ => trivial
      · rfl
      · rintro i x acc H4 H' hi hacc e s r ⟨rfl, rfl⟩
        dsimp only
        rw [Int.zero_add]
        have hin : i < n := by omega
        have r' : acc = natsV ((List.range i).filter fun p => decide (deg ts lot p % 2 = 1)) := r
        have hal : acc.length ≤ i := by
          rw [r']
          unfold natsV
          rw [List.length_map]
          exact Nat.le_trans (List.length_filter_le _ _) (by rw [List.length_range]; exact Nat.le_refl _)
        refine ⟨rfl, _, rfl, _, rfl, m0, _, (i : Int), _, rfl, rfl, SqL.of (s _ _ h3), atI_nat (rng_get n _ hin), _, rfl, ?_⟩
        refine ite2 (fun hh => ?_) (fun hh => ?_)
        · refine ⟨_, rfl, ?_⟩
          refine lc_add hacc e (Same.refl _) (by omega) ?_
          show _ = _
          rw [range_filter_succ, if_pos hh, r']
          unfold natsV
          rw [List.map_append]
          rfl
        · refine lc_skip hacc e (Same.refl _) ?_
          show _ = _
          rw [range_filter_succ, if_neg hh, List.append_nil]
          exact r'
      · rintro acc H4 h4 s2 r
        have r' : acc = natsV ((List.range (n : Int).toNat).filter fun p => decide (deg ts lot p % 2 = 1)) := r
        rw [Int.toNat_natCast] at r'
        refine ⟨E1, _, rfl, .inl ⟨SqL.of h4, fun u hu => ?_⟩⟩
        refine k _ _ (h1.trans (s2.trans (same_new hu))) (lot_dp (SqT.of ?_))
        rw [upd_same, r']
        rfl
theorem ok_even {f f1 : Addr} {fd fd1 : FuncData} (D : Df K mg "is_even" sEven pEven f fd) (T : Bl mg) (D_odd : Df K mg "odd_places" sOdd pOdd f1 fd1) : FnOk P w K mg base CX0 2 f fd pEven (spEven K) := by
  have G_odd : FnOk P w K mg base CX0 1 f1 fd1 pOdd (spOdd K) := ok_odd D_odd T
  refine D.fn.ok scEven (fun vs H Q E h => ?_) (fun cdv A outer s H vs Q E hr h => ?_)
  · obtain ⟨v, u, n, ts, lot, rfl, _⟩ := h
    rfl
  · obtain ⟨v, u, n, ts, lot, rfl, hw, hu, hends, hlot, hn, k⟩ := h
    have hr_odd : Room 1 _ := hr
    have nd := scEven.nd
    refine ⟨_, (pss_one (ps_ret (pe_cmpR (opEqD K hr.units) (pe_call G_odd hr_odd (by rfl) D_odd.ad D_odd.fn.kp D_odd.bd .nil pass0 (pa_cons (pv 0) (pa_cons (pv 1) pa_nil))) (pe_tup pa_nil) (nomark _)))), ?_⟩
    refine ⟨_, rfl, _, rfl, v, u, n, ts, lot, rfl, hw, hu, hends, hlot, hn, fun z H1 s1 hz => ?_⟩
    refine ⟨Nat.zero_le _, fun q hq => ?_⟩
    have s2 := same_new (o := .tup []) hq
    refine ⟨lotD (oddPl n ts lot), lotD [], dp_same s2 _ hz, lot_dp (ks := []) (SqT.of upd_same), shaped_lotN _, shaped_lotN [], ?_⟩
    rw [eqv_lots]
    exact k _ (s1.trans s2)
theorem ok_fside {f f1 f2 f3 f4 : Addr} {fd fd1 fd2 fd3 fd4 : FuncData} (D : Df K mg "_far_side" sFside pFside f fd) (T : Bl mg) (D_all : Df K mg "all_ties" sAll pAll f1 fd1) (D_far : Df K mg "far_end" sFar pFar f2 fd2)
    (D_ways : Df K mg "ways_from" sWays pWays f3 fd3) (D_codd : Df K mg "common_odd" sCodd pCodd f4 fd4) : FnOk P w K mg base CX0 3 f fd pFside (spFside K) := by
  have G_all : FnOk P w K mg base CX0 1 f1 fd1 pAll (spAll K) := ok_all D_all T
  have G_ways : FnOk P w K mg base CX0 2 f3 fd3 pWays (spWays K) := ok_ways D_ways T D_far
  have G_codd : FnOk P w K mg base CX0 1 f4 fd4 pCodd (spCodd K) := ok_codd D_codd T
  refine D.fn.ok scFside (fun vs H Q E h => ?_) (fun cdv A outer s H vs Q E hr h => ?_)
  · obtain ⟨v, u, n, ts, lot, rfl, _⟩ := h
    rfl
  · obtain ⟨v, u, n, ts, lot, rfl, hw, hul, hok, hlot, hn, hl, k⟩ := h
    have hr_ways : Room 2 _ := hr
    have hr_all : Room 1 _ := hr.mono (by decide)
    have hr_codd : Room 1 _ := hr.mono (by decide)
    have hu := hu_of hr
    have nd := scFside.nd
    refine ⟨_, (pss_cons (ps_set (i := 2) nd rfl (by first | exact Or.inl rfl | exact Or.inr rfl) (pe_call G_ways hr_ways (by rfl) D_ways.ad D_ways.fn.kp D_ways.bd .nil pass0 (pa_cons (pv 0) (pa_cons (pe_call G_all hr_all (by rfl) D_all.ad D_all.fn.kp D_all.bd .nil pass0 (pa_cons (pv 0) pa_nil)) (pa_cons pe_int pa_nil)))))
      (pss_one (ps_ret (pe_callTy (tupleK K) (by rfl) T.tuple (by decide +kernel) (pa_cons (pe_lc (own := [("place", 3)]) (g := (gName 3)) rfl nd (pi_range1 rfl T.range (pa_cons (pe_ix (ixT K) (pv 0) pe_int (fun _ _ => rfl)) pa_nil)) (blkOk_by (own := [("place", 3)]) (N := nFside) (sc := defScope sFside) (by decide +kernel)) (fun _ _ _ _ _ => (pg_name (i := 3) nd rfl (by first | exact Or.inl rfl | exact Or.inr rfl))) (fun _ _ _ _ _ => (pts_one (pt_val (pe_call G_codd hr_codd (by rfl) D_codd.ad D_codd.fn.kp D_codd.bd .nil pass0 (pa_cons (pe_dget hu (pv 2) (pv 3) (fun _ _ => rfl)) (pa_cons (pv 1) pa_nil)))))) (fun _ _ _ _ _ => (pv 3))) pa_nil))))), ?_⟩
    refine ⟨_, rfl, _, rfl, v, n, ts, rfl, hw, hl, fun ev H1 s1 hev => ?_⟩
    refine ⟨v, ev, n, ts, List.range ts.length, 0, rfl, dp_same s1 _ hw, hev, hok.ends, fun k hk => List.mem_range.mp hk, hok.pos, hn, by rw [List.length_range]; exact hl, fun d fnd H2 hd s2 hF hS => ?_⟩
    obtain ⟨⟨kvs, h1, h2, h3⟩, hnd, hlt, hst⟩ := hF
    have every : ∀ p, p < n → p ∈ fnd := all_found hok hst fun t ht z => by
      obtain ⟨kk, hkk⟩ := List.getElem?_of_mem ht
      exact (hS t.1 z kk (List.mem_range.mpr (List.getElem?_eq_some_iff.mp hkk).1) t hkk).1 rfl
    have hway : ∀ p, ∃ w, p < n → ∃ a, valV kvs (Sum.inl (p : Int)) = some (.ref a) ∧ SqT K H2 a (natsV w) ∧ Way ts 0 w p ∧ w.length + 1 ≤ fnd.length := fun p => by
      by_cases hp : p < n
      · obtain ⟨a, w, e1, e2, e3, _, e5⟩ := h3 p (every p hp)
        exact ⟨w, fun _ => ⟨a, e1, e2, e3, e5⟩⟩
      · exact ⟨[], fun z => absurd z hp⟩
    obtain ⟨ws, hws⟩ := Classical.axiomOfChoice hway
    have hfl : fnd.length ≤ n := nodup_small n fnd hnd hlt
    obtain ⟨a, c, ys, rfl, ha, hc, hys⟩ := dp_web hw
    have s12 := s1.trans s2
    have ha2 := sqT_same s12 ha
    have hul2 := dp_same s12 _ hul
    dsimp only [gName]
    refine at_st [some (.ref a), some u, some (.ref d), none] rfl ?_
    refine ⟨_, rfl, a, _, _, _, rfl, rfl, ha2, atI_nat (j := 0) rfl, _, rfl, by omega, by omega, fun E1 hE1 => ?_⟩
    refine lc_run (walk_range (lo := 0) (n := (n : Int).toNat)) hE1 (fun i acc _ => acc = natsV ((List.range i).filter fun p => oddIn (ws p) lot)) ?_ ?_ ?_ ?_
    · exact fun _ _ => trivial
    · rfl
    · rintro i x acc H4 H' hi hacc e s r ⟨rfl, rfl⟩
      dsimp only
      rw [Int.zero_add]
      have hin : i < n := by omega
      obtain ⟨aw, f1, f2, f3, f4⟩ := hws i hin
      have r' : acc = natsV ((List.range i).filter fun p => oddIn (ws p) lot) := r
      have hal : acc.length ≤ i := by
        rw [r']
        unfold natsV
        rw [List.length_map]
        exact Nat.le_trans (List.length_filter_le _ _) (by rw [List.length_range]; exact Nat.le_refl _)
      refine ⟨rfl, _, rfl, _, rfl, d, _, rfl, by rw [← f1]; exact DGet.k (k := Sum.inl (i : Int)) (s _ _ h1), _, rfl, .ref aw, u, ws i, lot, rfl, lot_dp (sqT_same s f2), dp_same s _ hul2, by omega, fun H5 s5 => ⟨_, rfl, ?_⟩⟩
      refine ite2 (fun hh => ?_) (fun hh => ?_)
      · refine ⟨_, rfl, ?_⟩
        refine lc_add hacc e s5 (by omega) ?_
        show _ = _
        rw [range_filter_succ, if_pos hh, r']
        unfold natsV
        rw [List.map_append]
        rfl
      · refine lc_skip hacc e s5 ?_
        show _ = _
        rw [range_filter_succ, if_neg hh, List.append_nil]
        exact r'
    · rintro acc H4 h4 s4 r
      have r' : acc = natsV ((List.range (n : Int).toNat).filter fun p => oddIn (ws p) lot) := r
      rw [Int.toNat_natCast] at r'
      refine ⟨E1, _, rfl, .inl ⟨SqL.of h4, fun u2 hu2 => ?_⟩⟩
      refine k _ ws _ (s12.trans (s4.trans (same_new hu2))) (fun p hp => (hws p hp).choose_spec.2.2.1) (lot_dp (SqT.of ?_))
      rw [upd_same, r']
      rfl
theorem ok_iscut {f f0 f1 f2 f3 f4 f5 : Addr} {fd fd0 fd1 fd2 fd3 fd4 fd5 : FuncData} (D : Df K mg "is_cut" sIscut pIscut f fd) (T : Bl mg) (D_cut : Df K mg "cut_of" sCut pCut f0 fd0) (D_all : Df K mg "all_ties" sAll pAll f1 fd1) (D_far : Df K mg "far_end" sFar pFar f2 fd2)
    (D_ways : Df K mg "ways_from" sWays pWays f3 fd3) (D_codd : Df K mg "common_odd" sCodd pCodd f4 fd4) (D_fside : Df K mg "_far_side" sFside pFside f5 fd5) : FnOk P w K mg base CX0 4 f fd pIscut (spIscut K) := by
  have G_cut : FnOk P w K mg base CX0 1 f0 fd0 pCut (spCut K) := ok_cut D_cut T
  have G_fside : FnOk P w K mg base CX0 3 f5 fd5 pFside (spFside K) := ok_fside D_fside T D_all D_far D_ways D_codd
  refine D.fn.ok scIscut (fun vs H Q E h => ?_) (fun cdv A outer s H vs Q E hr h => ?_)
  · obtain ⟨v, u, n, ts, lot, rfl, _⟩ := h
    rfl
  · obtain ⟨v, u, n, ts, lot, rfl, hw, hu, hok, hlot, hn, hl, k⟩ := h
    have hr_fside : Room 3 _ := hr
    have hr_cut : Room 1 _ := hr.mono (by decide)
    have nd := scIscut.nd
    refine ⟨_, (pss_one (ps_ret (pe_cmpR (opEqD K hr.units) (pe_call G_cut hr_cut (by rfl) D_cut.ad D_cut.fn.kp D_cut.bd .nil pass0 (pa_cons (pv 0) (pa_cons (pe_call G_fside hr_fside (by rfl) D_fside.ad D_fside.fn.kp D_fside.bd .nil pass0 (pa_cons (pv 0) (pa_cons (pv 1) pa_nil))) pa_nil))) (pv 1) (nomark _)))), ?_⟩
    refine ⟨_, rfl, _, rfl, _, rfl, v, u, n, ts, lot, rfl, hw, hu, hok, hlot.2, hn, hl, fun z ws H1 s1 hws hz => ?_⟩
    refine ⟨v, z, n, ts, farL n ws lot, rfl, dp_same s1 _ hw, hz, hl, fun c H2 s2 hc => ?_⟩
    refine ⟨_, rfl, lotD (cutL ts (farL n ws lot)), lotD lot, hc, dp_same (s1.trans s2) _ hu, shaped_lotN _, shaped_lotN _, ?_⟩
    rw [eqv_lots]
    have e : decide (cutL ts (farL n ws lot) = lot) = cutB ts lot := by
      rw [Bool.eq_iff_iff, decide_eq_true_eq, cutB_iff]
      exact far_iff hok.ends hlot hws
    rw [e]
    exact k _ (s1.trans s2)
theorem ok_places {f f0 f1 f2 f3 f4 f5 U B : Addr} {fd fd0 fd1 fd2 fd3 fd4 fd5 : FuncData} (D : Df K mg "places_of_cut" sPlaces pPlaces f fd) (T : Bl mg) (EU : ErrU K mg U B) (D_cut : Df K mg "cut_of" sCut pCut f0 fd0) (D_all : Df K mg "all_ties" sAll pAll f1 fd1) (D_far : Df K mg "far_end" sFar pFar f2 fd2)
    (D_ways : Df K mg "ways_from" sWays pWays f3 fd3) (D_codd : Df K mg "common_odd" sCodd pCodd f4 fd4) (D_fside : Df K mg "_far_side" sFside pFside f5 fd5) : FnOk P w K mg base (L2.CX P w) 4 f fd pPlaces (spPlaces K U) := by
  have G_cut : FnOk P w K mg base CX0 1 f0 fd0 pCut (spCut K) := ok_cut D_cut T
  have G_fside : FnOk P w K mg base CX0 3 f5 fd5 pFside (spFside K) := ok_fside D_fside T D_all D_far D_ways D_codd
  refine D.fn.okX scPlaces (fun vs H Q E h => ?_) (fun cdv A outer s H vs Q E hr h => ?_)
  · obtain ⟨v, u, n, ts, lot, rfl, _⟩ := h
    rfl
  · obtain ⟨v, u, n, ts, lot, rfl, hw, hu, hok, hlot, hn, hl, kx, k⟩ := h
    have hr_fside : Room 3 _ := hr
    have hr_cut : Room 1 _ := hr.mono (by decide)
    have nd := scPlaces.nd
    refine ⟨_, (pss_cons (ps_set (i := 2) nd rfl (by first | exact Or.inl rfl | exact Or.inr rfl) (pe_call G_fside hr_fside (by rfl) D_fside.ad D_fside.fn.kp D_fside.bd .nil pass0 (pa_cons (pv 0) (pa_cons (pv 1) pa_nil))))
      (pss_cons (ps_if (pt_cmpR (opNeD K hr.units) (pe_call G_cut hr_cut (by rfl) D_cut.ad D_cut.fn.kp D_cut.bd .nil pass0 (pa_cons (pv 0) (pa_cons (pv 2) pa_nil))) (pv 1) (nomark _)) (pss_one (ps_unfit rfl EU (takes_of rfl rfl rfl rfl))) pss_nil)
      (pss_one (ps_ret (pv 2))))), ?_⟩
    refine tSeq_go ?_
    refine ⟨_, rfl, _, rfl, v, u, n, ts, lot, rfl, hw, hu, hok, hlot.2, hn, hl, fun z ws H1 s1 hws hz => ?_⟩
    dsimp only [gName]
    refine at_st [some v, some u, some z] rfl ?_
    refine tSeq_go ?_
    refine ⟨_, rfl, _, rfl, v, z, n, ts, farL n ws lot, rfl, dp_same s1 _ hw, hz, hl, fun c H2 s2 hc => ?_⟩
    have s12 := s1.trans s2
    refine ⟨_, rfl, lotD (cutL ts (farL n ws lot)), lotD lot, hc, dp_same s12 _ hu, shaped_lotN _, shaped_lotN _, _, rfl, ?_⟩
    rw [eqv_lots]
    have e : cutB ts lot = decide (cutL ts (farL n ws lot) = lot) := by
      rw [Bool.eq_iff_iff, decide_eq_true_eq, cutB_iff]
      exact (far_iff hok.ends hlot hws).symm
    refine ite2 (fun hh => ?_) (fun hh => ?_)
    · exact kx (by rw [e]; simpa using hh) _ s12
    · have hc : cutL ts (farL n ws lot) = lot := by simpa using hh
      refine ⟨_, rfl, k (by rw [e, hc]; simp) z (farL n ws lot) H2 s12 ⟨?_, List.pairwise_lt_range.filter _, fun hm => ?_, fun p hp => List.mem_range.mp (List.mem_filter.mp hp).1⟩ (dp_same s2 _ hz)⟩
      · have := cut_of_cutL ts (farL n ws lot)
        rwa [hc] at this
      · have h0 := cut_of_cutL ts (farL n ws lot)
        rw [hc] at h0
        have h1 := way_side h0 (hws 0 hok.pos)
        have h2 := (List.mem_filter.mp hm).2
        rw [h2] at h1
        cases hs : side (farL n ws lot) 0 <;> rw [hs] at h1 <;> cases h1
end
end BV

namespace BV
open PySem L2
abbrev sCounts : Stmt := top 20
abbrev nCounts : List Str := ["_law_web_here", "_law_lot", "_law_found", "_law_tie", "_law_one", "_law_other"]
abbrev pCounts : List Str := ["_law_web_here", "_law_lot"]
theorem scCounts : FnScope nCounts pCounts (defScope sCounts) := ⟨rfl, rfl, rfl, by decide +kernel, rfl, by decide +kernel, by decide +kernel⟩
abbrev sLeven : Stmt := top 21
abbrev nLeven : List Str := ["_law_web_here", "_law_lot", "_law_many"]
abbrev pLeven : List Str := ["_law_web_here", "_law_lot"]
theorem scLeven : FnScope nLeven pLeven (defScope sLeven) := ⟨rfl, rfl, rfl, by decide +kernel, rfl, by decide +kernel, by decide +kernel⟩
abbrev sLsum : Stmt := top 22
abbrev nLsum : List Str := ["_law_one", "_law_other", "_law_tie"]
abbrev pLsum : List Str := ["_law_one", "_law_other"]
theorem scLsum : FnScope nLsum pLsum (defScope sLsum) := ⟨rfl, rfl, rfl, by decide +kernel, rfl, by decide +kernel, by decide +kernel⟩
abbrev sCol : Stmt := top 23
abbrev nCol : List Str := ["_law_web_here", "_law_lot", "_law_found", "_law_turn", "_law_k", "_law_one", "_law_other", "_law_change"]
abbrev pCol : List Str := ["_law_web_here", "_law_lot"]
theorem scCol : FnScope nCol pCol (defScope sCol) := ⟨rfl, rfl, rfl, by decide +kernel, rfl, by decide +kernel, by decide +kernel⟩

def degV (n : Nat) (ts : List Tie) (lot : List Nat) : List V := (List.range n).map fun p => V.int (deg ts lot p : Nat)
def spCounts (K : PySem.W.Frag) : Sp := fun vs H Q _ => ∃ (v u : V) (n : Nat) (ts : List Tie) (lot : List Nat), vs = [v, u] ∧ Dp K H v (webD n ts) ∧ Dp K H u (lotD lot) ∧ (∀ t ∈ ts, t.1 < t.2 ∧ t.2 < n) ∧ (∀ k ∈ lot, k < ts.length) ∧ n ≤ 1000 ∧
  ∀ (l : Addr) H', Same H H' → H' l = some (.lst (degV n ts lot)) → Q (.ref l) H'
theorem even_iff {n : Nat} {ts : List Tie} {lot : List Nat} : evenB n ts lot = true ↔ ∀ p, p < n → ¬ deg ts lot p % 2 = 1 := by
  unfold evenB oddPl
  rw [decide_eq_true_eq, List.filter_eq_nil_iff]
  constructor
  · intro h p hp e
    exact h p (List.mem_range.mpr hp) (decide_eq_true e)
  · intro h p hp e
    exact h p (List.mem_range.mp hp) (of_decide_eq_true e)
theorem eqv_rep (m : Nat) : (PyData.list ((List.replicate m (1 : Int)).map PyData.int)).eqv (.list []) = decide (m = 0) := by
  cases m with
  | zero => rfl
  | succ m => rfl
theorem sorted_nats {ys : List Int} {l : List Nat} (hperm : ys.Perm (l.map fun (k : Nat) => (k : Int))) (hsort : ys.Pairwise (· ≤ ·)) (hn : l.Nodup) : ∃ ns : List Nat, ys = ns.map (fun (k : Nat) => (k : Int)) ∧ ns.Perm l ∧ ns.Pairwise (· < ·) := by
  obtain ⟨ns, rfl⟩ : ∃ ns : List Nat, ys = ns.map fun (k : Nat) => (k : Int) := ⟨ys.map Int.toNat, by
    rw [List.map_map]
    refine (List.map_id ys).symm.trans (List.map_congr_left fun y hy => ?_)
    obtain ⟨j, _, rfl⟩ := List.mem_map.mp (hperm.mem_iff.mp hy)
    show ((j : Int)) = (((j : Int)).toNat : Int)
    omega⟩
  have hnp : ns.Perm l := by
    have h := hperm.map Int.toNat
    rw [List.map_map, List.map_map] at h
    have e : ∀ l : List Nat, l.map (Int.toNat ∘ fun (k : Nat) => (k : Int)) = l := fun l => by
      refine (List.map_congr_left fun x _ => ?_).trans (List.map_id l)
      show ((x : Int)).toNat = x
      omega
    rw [e, e] at h
    exact h
  refine ⟨ns, rfl, hnp, ?_⟩
  have h6 : ns.Pairwise (· ≤ ·) := (List.pairwise_map.mp hsort).imp fun {x y} z => by omega
  refine (h6.and (hnp.nodup_iff.mpr hn)).imp fun {x y} z => ?_
  obtain ⟨z1, z2⟩ := z
  omega
theorem asc_nodup {l : List Nat} (h : l.Pairwise (· < ·)) : l.Nodup := h.imp fun z => Nat.ne_of_lt z
def spLsum (K : PySem.W.Frag) : Sp := fun vs H Q _ => ∃ (v u : V) (L : Nat) (one two : List Nat), vs = [v, u] ∧ Dp K H v (lotD one) ∧ Dp K H u (lotD two) ∧ LotA L one ∧ LotA L two ∧ L ≤ 60 ∧
  ∀ (z : V) (r : List Nat) H', Same H H' → LotA L r → Dp K H' z (lotD r) → Q z H'
section
variable {P : Program} {w : World} {K : PySem.W.Frag} {mg : Str → Option Value} {base : Heap}
theorem ok_counts {f : Addr} {fd : FuncData} (D : Df K mg "_law_counts" sCounts pCounts f fd) (T : Bl mg) : FnOk P w K mg base CX0 1 f fd pCounts (spCounts K) := by
  refine D.fn.ok scCounts (fun vs H Q E h => ?_) (fun cdv A outer s H vs Q E hr h => ?_)
  · obtain ⟨v, u, n, ts, lot, rfl, _⟩ := h
    rfl
  · obtain ⟨v, u, n, ts, lot, rfl, hw, hu, hends, hlot, hn, k⟩ := h
    have nd := scCounts.nd
    obtain ⟨a, c, ys, rfl, ha, hc, hys⟩ := dp_web hw
    obtain ⟨al, rfl, hal⟩ := dp_lotN hu
    refine ⟨_, (pss_cons (ps_set (i := 2) nd rfl (by first | exact Or.inl rfl | exact Or.inr rfl) (pe_op op_rep (pe_lst (pa_cons pe_int pa_nil)) (pe_ix (ixT K) (pv 0) pe_int (fun _ _ => rfl))))
      (pss_cons (ps_for PassesOwn.never rfl (piT K (pv 1)) (pg_name (i := 3) nd rfl (by first | exact Or.inl rfl | exact Or.inr rfl)) (pss_cons (ps_asg (pe_ix (ixT K) (pe_ix (ixT K) (pv 0) pe_int (fun _ _ => rfl)) (pv 3) (fun _ _ => rfl)) (pgT K rfl (pgs_cons (pg_name (i := 4) nd rfl (by first | exact Or.inl rfl | exact Or.inr rfl)) (pgs_cons (pg_name (i := 5) nd rfl (by first | exact Or.inl rfl | exact Or.inr rfl)) pgs_nil))))
      (pss_cons (ps_asg (pe_op op_add (pe_ix (ixL K) (pv 2) (pv 4) (fun _ _ => rfl)) pe_int) (pg_sub (pv 2) (pv 4) set_list))
      (pss_one (ps_asg (pe_op op_add (pe_ix (ixL K) (pv 2) (pv 5) (fun _ _ => rfl)) pe_int) (pg_sub (pv 2) (pv 5) set_list))))))
      (pss_one (ps_ret (pv 2))))), ?_⟩
    refine ⟨by decide, fun p0 hp0 => ?_⟩
    have s0 : Same H (upd H p0 (.lst [.int 0])) := same_new hp0
    refine ⟨_, rfl, a, _, _, _, rfl, rfl, sqT_same s0 ha, atI_nat (j := 0) rfl, ?_⟩
    refine ⟨p0, _, [.int 0], rfl, rfl, upd_same, by omega, by omega, ?_, fun m0 hm0 => ?_⟩
    · exact Nat.le_trans (show 1 * (n : Int).toNat ≤ 1000 by omega) (by decide)
    have s1 : Same (upd H p0 (.lst [.int 0])) (upd (upd H p0 (.lst [.int 0])) m0 (.lst (List.replicate (n : Int).toNat [V.int 0]).flatten)) := same_new hm0
    have hHm : H m0 = none := Same.free s0 hm0
    refine ⟨_, rfl, al, rfl, ⟨_, sqT_same (s0.trans s1) hal⟩, for_it (walk_tup (xs := natsV lot)) (fun j σ H' => ∃ (v3 v4 v5 : Option V),
        σ = [some (.ref a), some (.ref al), some (.ref m0), v3, v4, v5] ∧ Same H H' ∧ H' m0 = some (.lst (degV n ts (lot.take j)))) ?_ ?_ ?_ ?_⟩
    · refine ⟨none, none, none, rfl, s0.trans s1, ?_⟩
      rw [upd_same, reps, Int.toNat_natCast]
      rfl
    · rintro j σ H' _ ⟨v3, v4, v5, rfl, h1, _⟩
      exact sqT_same h1 hal
    · rintro j x σ H' H'' hj ⟨v3, v4, v5, rfl, h1, h3⟩ ⟨rfl, hx⟩
      obtain ⟨kk, hkk, rfl⟩ := get_map hx
      have hkm : kk < ts.length := hlot kk (List.mem_of_getElem? hkk)
      have ht : ts[kk]? = some ts[kk] := List.getElem?_eq_getElem hkm
      have hte := hends ts[kk] (List.getElem_mem hkm)
      obtain ⟨y, hy, hyd⟩ := dpAll_at hys (show (ts.map tieD)[kk]? = some (tieD ts[kk]) by rw [List.getElem?_map, ht]; rfl)
      obtain ⟨ay, rfl, hay⟩ := dp_tie hyd
      have htk : lot.take (j + 1) = lot.take j ++ [kk] := by
        rw [List.take_add_one, hkk]
        rfl
      refine ⟨_, rfl, a, _, _, _, rfl, rfl, sqT_same h1 ha, atI_nat (j := 1) rfl, ?_⟩
      refine ⟨_, rfl, c, _, _, _, rfl, rfl, sqT_same h1 hc, atI_nat hy, ?_⟩
      refine ⟨ay, _, rfl, sqT_same h1 hay, rfl, _, _, rfl, _, _, rfl, rfl, ?_⟩
      generalize ts[kk] = t at *
      have h3' : H'' m0 = some (.lst ((List.range n).map fun p => V.int (deg ts (lot.take j) p : Nat))) := h3
      refine ⟨_, rfl, _, rfl, m0, _, (t.1 : Int), _, rfl, rfl, SqL.of h3', atI_nat (rng_get n _ (show t.1 < n by omega)), ?_⟩
      refine ⟨_, _, rfl, rfl, ?_⟩
      refine ⟨_, rfl, _, rfl, m0, _, (t.1 : Int), t.1, rfl, rfl, h3', ix_nat (by rw [List.length_map, List.length_range]; omega), ?_⟩
      rw [rng_set]
      refine ⟨_, rfl, _, rfl, m0, _, (t.2 : Int), _, rfl, rfl, SqL.of upd_same, atI_nat (rng_get n _ hte.2), ?_⟩
      rw [if_neg (show ¬ t.2 = t.1 by omega)]
      refine ⟨_, _, rfl, rfl, ?_⟩
      refine ⟨_, rfl, _, rfl, m0, _, (t.2 : Int), t.2, rfl, rfl, upd_same, ix_nat (by rw [List.length_map, List.length_range]; omega), ?_⟩
      rw [rng_set]
      refine ⟨_, _, _, rfl, same_old hHm (same_old hHm h1), ?_⟩
      rw [upd_same]
      unfold degV
      congr 2
      refine List.map_congr_left fun p _ => ?_
      rw [htk, deg_snoc _ ht]
      by_cases e2 : p = t.2
      · subst e2
        rw [if_pos rfl, if_pos (.inr rfl)]
        rfl
      · rw [if_neg e2]
        by_cases e1 : p = t.1
        · subst e1
          rw [if_pos rfl, if_pos (.inl rfl)]
          rfl
        · rw [if_neg e1, if_neg (fun z => z.elim (fun q => e1 q.symm) (fun q => e2 q.symm))]
          rfl
    · rintro σ H' ⟨v3, v4, v5, rfl, h1, h3⟩
      unfold natsV at h3
      rw [List.length_map, List.take_of_length_le (Nat.le_refl _)] at h3
      exact ⟨_, rfl, k _ _ h1 h3⟩
theorem ok_leven {f f1 : Addr} {fd fd1 : FuncData} (D : Df K mg "_law_is_even" sLeven pLeven f fd) (T : Bl mg) (D_counts : Df K mg "_law_counts" sCounts pCounts f1 fd1) : FnOk P w K mg base CX0 2 f fd pLeven (spEven K) := by
  have G_counts : FnOk P w K mg base CX0 1 f1 fd1 pCounts (spCounts K) := ok_counts D_counts T
  refine D.fn.ok scLeven (fun vs H Q E h => ?_) (fun cdv A outer s H vs Q E hr h => ?_)
  · obtain ⟨v, u, n, ts, lot, rfl, _⟩ := h
    rfl
  · obtain ⟨v, u, n, ts, lot, rfl, hw, hu, hends, hlot, hn, k⟩ := h
    have hr_counts : Room 1 _ := hr
    have nd := scLeven.nd
    refine ⟨_, (pss_one (ps_ret (pe_cmpR (opEqD K hr.units) (pe_lc (own := [("_law_many", 2)]) (g := (gName 2)) rfl nd (piL K (pe_call G_counts hr_counts (by rfl) D_counts.ad D_counts.fn.kp D_counts.bd .nil pass0 (pa_cons (pv 0) (pa_cons (pv 1) pa_nil)))) (blkOk_by (own := [("_law_many", 2)]) (N := nLeven) (sc := defScope sLeven) (by decide +kernel)) (fun _ _ _ _ _ => (pg_name (i := 2) nd rfl (by first | exact Or.inl rfl | exact Or.inr rfl))) (fun _ _ _ _ _ => (pts_one (pt_cmpR op_eq (pe_op op_mod (pe_callTy call_int1 (by rfl) T.int (by decide +kernel) (pa_cons (pv 2) pa_nil)) pe_int) pe_int (nomark _)))) (fun _ _ _ _ _ => pe_int)) (pe_lst pa_nil) (nomark _)))), ?_⟩
    refine ⟨_, rfl, _, rfl, v, u, n, ts, lot, rfl, hw, hu, hends, hlot, hn, fun l H1 s1 hl => ?_⟩
    refine ⟨l, rfl, ⟨_, SqL.of hl⟩, fun E1 hE1 => ?_⟩
    refine lc_run (walk_list (xs := degV n ts lot)) hE1 (fun i acc _ => ∃ m : Nat, acc = (List.replicate m (1 : Int)).map V.int ∧ m ≤ i ∧ (m = 0 ↔ ∀ p, p < i → ¬ deg ts lot p % 2 = 1)) ?_ ?_ ?_ ?_
    · exact fun H' s => SqL.of (s _ _ hl)
    · exact ⟨0, rfl, Nat.le_refl _, by simp⟩
    · rintro i x acc H2 H' hi hacc e s ⟨m, rfl, hm, hm2⟩ ⟨rfl, hx⟩
      unfold degV at hi
      rw [List.length_map, List.length_range] at hi
      have hx' : some (V.int (deg ts lot i : Nat)) = some x := by
        rw [← hx]
        exact (rng_get n (fun p => V.int (deg ts lot p : Nat)) hi).symm
      cases hx'
      refine ⟨rfl, _, rfl, .inl ⟨_, rfl, _, _, rfl, rfl, (by show (0 : Int) < 2; decide), rfl, _, rfl, ?_⟩⟩
      have key : ((deg ts lot i : Nat) : Int) % 2 = 1 ↔ deg ts lot i % 2 = 1 := by omega
      refine ite2 (fun hh => ?_) (fun hh => ?_)
      · have h1 : deg ts lot i % 2 = 1 := key.mp (V.int.inj (of_decide_eq_true hh))
        refine lc_add hacc e (Same.refl _) (by rw [List.length_map, List.length_replicate]; omega) ⟨m + 1, ?_, by omega, ?_⟩
        · rw [List.replicate_succ', List.map_append]
          rfl
        · constructor
          · intro z
            omega
          · intro z
            exact absurd h1 (z i (by omega))
      · have h1 : ¬ deg ts lot i % 2 = 1 := fun z => hh (decide_eq_true (congrArg V.int (key.mpr z)))
        refine lc_skip hacc e (Same.refl _) ⟨m, rfl, by omega, ?_⟩
        rw [hm2]
        constructor
        · intro z p hp
          by_cases e : p = i
          · rw [e]
            exact h1
          · exact z p (by omega)
        · intro z p hp
          exact z p (by omega)
    · rintro acc H2 h1 s2 ⟨m, rfl, hm, hm2⟩
      unfold degV at hm2
      rw [List.length_map, List.length_range, ← even_iff] at hm2
      refine ⟨Nat.zero_le _, fun p hp => ?_⟩
      have sp : Same H2 (upd H2 p (.lst [])) := same_new hp
      refine ⟨.list ((List.replicate m (1 : Int)).map PyData.int), .list [], .lst (SqL.of (sp _ _ h1)) (dpAll_ints _), .lst (SqL.of upd_same) .nil, shaped_intsL _, shaped_intsL [], ?_⟩
      rw [eqv_rep]
      have e : decide (m = 0) = evenB n ts lot := by
        rw [Bool.eq_iff_iff, decide_eq_true_eq, hm2]
      rw [e]
      exact k _ (s1.trans (s2.trans sp))
theorem ok_lsum {f : Addr} {fd : FuncData} (D : Df K mg "_law_sum" sLsum pLsum f fd) (T : Bl mg) (hsorted : mg "sorted" = none) : FnOk P w K mg base CX0 1 f fd pLsum (spLsum K) := by
  refine D.fn.ok scLsum (fun vs H Q E h => ?_) (fun cdv A outer s H vs Q E hr h => ?_)
  · obtain ⟨v, u, L, one, two, rfl, _⟩ := h
    rfl
  · obtain ⟨v, u, L, one, two, rfl, hv, hu, h1, h2, hL, k⟩ := h
    have nd := scLsum.nd
    have hnd : (one.filter (fun k => !decide (k ∈ two)) ++ two.filter fun k => !decide (k ∈ one)).Nodup := by
      rw [List.nodup_append]
      refine ⟨(asc_nodup h1.1).filter _, (asc_nodup h2.1).filter _, fun x hx y hy e => ?_⟩
      subst e
      have z1 := (List.mem_filter.mp hx).1
      have z2 := (List.mem_filter.mp hy).2
      simp [z1] at z2
    have hlen : (one.filter (fun k => !decide (k ∈ two)) ++ two.filter fun k => !decide (k ∈ one)).length ≤ 60 := Nat.le_trans (nodup_small L _ hnd fun x hx => by
      rcases List.mem_append.mp hx with z | z
      · exact h1.2 x (List.mem_filter.mp z).1
      · exact h2.2 x (List.mem_filter.mp z).1) hL
    have o1 : one.length ≤ 60 := Nat.le_trans (nodup_small L _ (asc_nodup h1.1) h1.2) hL
    have o2 : two.length ≤ 60 := Nat.le_trans (nodup_small L _ (asc_nodup h2.1) h2.2) hL
    obtain ⟨a, rfl, ha⟩ := dp_lotN hv
    obtain ⟨b, rfl, hb⟩ := dp_lotN hu
    refine ⟨_, (pss_one (ps_ret (pe_callTy (tupleK K) (by rfl) T.tuple (by decide +kernel) (pa_cons (pe_callB cr_sorted (by rfl) hsorted (by decide +kernel) (pa_cons (pe_op op_cat (pe_lc (own := [("_law_tie", 2)]) (g := (gName 2)) rfl nd (piT K (pv 0)) (blkOk_by (own := [("_law_tie", 2)]) (N := nLsum) (sc := defScope sLsum) (by decide +kernel)) (fun _ _ _ _ _ => (pg_name (i := 2) nd rfl (by first | exact Or.inl rfl | exact Or.inr rfl))) (fun _ _ _ _ _ => (pts_one (pt_cmpR (opNotIn K) (pv 2) (pv 1) rfl))) (fun _ _ _ _ _ => (pv 2))) (pe_lc (own := [("_law_tie", 2)]) (g := (gName 2)) rfl nd (piT K (pv 1)) (blkOk_by (own := [("_law_tie", 2)]) (N := nLsum) (sc := defScope sLsum) (by decide +kernel)) (fun _ _ _ _ _ => (pg_name (i := 2) nd rfl (by first | exact Or.inl rfl | exact Or.inr rfl))) (fun _ _ _ _ _ => (pts_one (pt_cmpR (opNotIn K) (pv 2) (pv 0) rfl))) (fun _ _ _ _ _ => (pv 2)))) pa_nil)) pa_nil)))), ?_⟩
    refine ⟨_, rfl, a, rfl, ⟨_, ha⟩, fun E1 hE1 => ?_⟩
    refine lc_run (walk_tup (xs := natsV one)) hE1 (fun i acc _ => acc = natsV ((one.take i).filter fun k => !decide (k ∈ two))) ?_ ?_ ?_ ?_
    · exact fun H' s => sqT_same s ha
    · rfl
    · rintro i x acc H2 H' hi hacc e s r ⟨rfl, hx⟩
      obtain ⟨z, hz, rfl⟩ := get_map hx
      have htk : one.take (i + 1) = one.take i ++ [z] := by
        rw [List.take_add_one, hz]
        rfl
      have r' : acc = natsV ((one.take i).filter fun k => !decide (k ∈ two)) := r
      have hal : acc.length ≤ 60 := by
        rw [r']
        unfold natsV
        rw [List.length_map]
        exact Nat.le_trans (List.length_filter_le _ _) (by rw [List.length_take]; omega)
      refine ⟨rfl, _, rfl, _, rfl, b, _, rfl, .inr (sqT_same s hb), rfl, flat_nats two, _, rfl, ?_⟩
      have key : (!inV (V.int (z : Int)) (two.map fun (k : Nat) => V.int k)) = !decide (z ∈ two) := by rw [inv_nats]
      refine ite2 (fun hh => ?_) (fun hh => ?_)
      · refine ⟨_, rfl, ?_⟩
        refine lc_add hacc e (Same.refl _) (by omega) ?_
        show _ = _
        rw [htk, List.filter_append, List.filter_cons, if_pos (by rw [← key]; exact hh), r']
        unfold natsV
        rw [List.map_append]
        rfl
      · refine lc_skip hacc e (Same.refl _) ?_
        show _ = _
        rw [htk, List.filter_append, List.filter_cons, if_neg (by rw [← key]; exact hh), r']
        simp
    · rintro acc1 H2 g1 s2 r
      have r1 : acc1 = natsV ((one.take (natsV one).length).filter fun k => !decide (k ∈ two)) := r
      unfold natsV at r1
      rw [List.length_map, List.take_of_length_le (Nat.le_refl _)] at r1
      refine ⟨_, rfl, b, rfl, ⟨_, sqT_same s2 hb⟩, fun E2 hE2 => ?_⟩
      refine lc_run (walk_tup (xs := natsV two)) hE2 (fun i acc _ => acc = natsV ((two.take i).filter fun k => !decide (k ∈ one))) ?_ ?_ ?_ ?_
      · exact fun H' s => sqT_same (s2.trans s) hb
      · rfl
      · rintro i x acc H3 H' hi hacc e s r ⟨rfl, hx⟩
        obtain ⟨z, hz, rfl⟩ := get_map hx
        have htk : two.take (i + 1) = two.take i ++ [z] := by
          rw [List.take_add_one, hz]
          rfl
        have r' : acc = natsV ((two.take i).filter fun k => !decide (k ∈ one)) := r
        have hal : acc.length ≤ 60 := by
          rw [r']
          unfold natsV
          rw [List.length_map]
          exact Nat.le_trans (List.length_filter_le _ _) (by rw [List.length_take]; omega)
        refine ⟨rfl, _, rfl, _, rfl, a, _, rfl, .inr (sqT_same (s2.trans s) ha), rfl, flat_nats one, _, rfl, ?_⟩
        have key : (!inV (V.int (z : Int)) (one.map fun (k : Nat) => V.int k)) = !decide (z ∈ one) := by rw [inv_nats]
        refine ite2 (fun hh => ?_) (fun hh => ?_)
        · refine ⟨_, rfl, ?_⟩
          refine lc_add hacc e (Same.refl _) (by omega) ?_
          show _ = _
          rw [htk, List.filter_append, List.filter_cons, if_pos (by rw [← key]; exact hh), r']
          unfold natsV
          rw [List.map_append]
          rfl
        · refine lc_skip hacc e (Same.refl _) ?_
          show _ = _
          rw [htk, List.filter_append, List.filter_cons, if_neg (by rw [← key]; exact hh), r']
          simp
      · rintro acc2 H3 g2 s3 r
        have r2 : acc2 = natsV ((two.take (natsV two).length).filter fun k => !decide (k ∈ one)) := r
        unfold natsV at r2
        rw [List.length_map, List.take_of_length_le (Nat.le_refl _)] at r2
        have hl3 : acc1.length + acc2.length ≤ 60 := by
          rw [List.length_append] at hlen
          rw [r1, r2, List.length_map, List.length_map]
          exact hlen
        refine ⟨E1, E2, _, _, rfl, rfl, s3 _ _ g1, g2, Nat.le_trans (show _ ≤ 60 by omega) (by decide), fun p hp => ?_⟩
        have s4 := same_new (o := .lst (acc1 ++ acc2)) hp
        have el : acc1 ++ acc2 = ((one.filter (fun k => !decide (k ∈ two)) ++ two.filter fun k => !decide (k ∈ one)).map fun (k : Nat) => (k : Int)).map V.int := by
          rw [r1, r2, ← List.map_append, List.map_map]
          rfl
        refine ⟨p, _, rfl, SqL.of (by rw [upd_same, el]), by rw [List.length_map]; omega, fun ys q hperm hsort hq => ?_⟩
        obtain ⟨ns, rfl, hnp, hasc⟩ := sorted_nats hperm hsort hnd
        have s5 := same_new (o := .lst ((ns.map fun (k : Nat) => (k : Int)).map V.int)) hq
        refine ⟨q, _, rfl, .inl ⟨SqL.of upd_same, fun u2 hu2 => ?_⟩⟩
        refine k _ ns _ (s2.trans (s3.trans (s4.trans (s5.trans (same_new hu2))))) ⟨hasc, fun x hx => ?_⟩ (lot_dp (SqT.of ?_))
        · rcases List.mem_append.mp (hnp.mem_iff.mp hx) with z | z
          · exact h1.2 x (List.mem_filter.mp z).1
          · exact h2.2 x (List.mem_filter.mp z).1
        · rw [upd_same, List.map_map]
          rfl
end
end BV

namespace BV
open PySem L2
abbrev sTold : Stmt := top 24
abbrev nTold : List Str := ["_law_web_here", "_law_lot", "_law_is_named", "bad_lot"]
abbrev pTold : List Str := ["_law_web_here", "_law_lot", "_law_is_named"]
theorem scTold : FnScope nTold pTold (defScope sTold) := ⟨rfl, rfl, rfl, by decide +kernel, rfl, by decide +kernel, by decide +kernel⟩

def colV : Option Nat → V
  | none => .non
  | some c => .int c
def colsV (n : Nat) (col : Nat → Option Nat) : List V := (List.range n).map fun p => colV (col p)
/-- colours told by ways from 0 -/
def GoodC (ts : List Tie) (lot : List Nat) (col : Nat → Option Nat) : Prop := col 0 = some 0 ∧ ∀ p c, col p = some c → ∃ w, Way ts 0 w p ∧ c = if oddIn w lot = true then 1 else 0
def setC (col : Nat → Option Nat) (q c : Nat) (p : Nat) : Option Nat := if p = q then some c else col p
theorem setC_same (col : Nat → Option Nat) (q c : Nat) : setC col q c q = some c := if_pos rfl
theorem setC_ne {col : Nat → Option Nat} {q c p : Nat} (h : p ≠ q) : setC col q c p = col p := if_neg h
theorem GoodC.set {ts : List Tie} {lot : List Nat} {col : Nat → Option Nat} (h : GoodC ts lot col) {p q c k : Nat} {t : Tie} (ht : ts[k]? = some t) (hp : col p = some c) (hq : col q = none) (he : t.1 = p ∧ t.2 = q ∨ t.2 = p ∧ t.1 = q) :
    GoodC ts lot (setC col q ((c + if k ∈ lot then 1 else 0) % 2)) := by
  constructor
  · have : (0 : Nat) ≠ q := fun e => by
      rw [← e, h.1] at hq
      cases hq
    rw [setC_ne this]
    exact h.1
  · intro x c2 hx
    by_cases e : x = q
    · subst e
      rw [setC_same] at hx
      cases hx
      obtain ⟨w, hw, hc⟩ := h.2 p c hp
      refine ⟨w ++ [k], .snoc hw ht he, ?_⟩
      rw [oddIn_snoc, hc]
      by_cases hk : k ∈ lot
      · rw [if_pos hk, decide_eq_true hk]
        cases oddIn w lot <;> rfl
      · rw [if_neg hk, decide_eq_false hk]
        cases oddIn w lot <;> rfl
    · rw [setC_ne e] at hx
      exact h.2 x c2 hx
theorem GoodC.two {ts : List Tie} {lot : List Nat} {col : Nat → Option Nat} (h : GoodC ts lot col) {p c : Nat} (hp : col p = some c) : c = 0 ∨ c = 1 := by
  obtain ⟨w, _, e⟩ := h.2 p c hp
  rw [e]
  split
  · exact .inr rfl
  · exact .inl rfl
theorem GoodC.side {ts : List Tie} {lot S : List Nat} {col : Nat → Option Nat} (h : GoodC ts lot col) (hS : IsCutOf ts lot S) {p c : Nat} (hp : col p = some c) : decide (c = 1) = Bool.xor (BV.side S 0) (BV.side S p) := by
  obtain ⟨w, hw, e⟩ := h.2 p c hp
  rw [e, ← way_side hS hw]
  cases oddIn w lot <;> rfl
/-- the answer -/
def shadesV (n : Nat) (far : List Nat) : List V := (List.range n).map fun p => V.int (if p ∈ far then 1 else 0)
def spCol (K : PySem.W.Frag) : Sp := fun vs H Q _ => ∃ (v u : V) (n : Nat) (ts : List Tie) (lot : List Nat), vs = [v, u] ∧ Dp K H v (webD n ts) ∧ Dp K H u (lotD lot) ∧ WebOk n ts ∧ LotA ts.length lot ∧ n ≤ 1000 ∧ ts.length ≤ 3000 ∧
  (cutB ts lot = false → ∀ (l : Addr) H', Same H H' → H' l = some (.lst []) → Q (.ref l) H') ∧
  (cutB ts lot = true → ∀ (l : Addr) (far : List Nat) H', Same H H' → FarOf n ts lot far → H' l = some (.lst (shadesV n far)) → Q (.ref l) H')
section
variable {P : Program} {w : World} {K : PySem.W.Frag} {mg : Str → Option Value} {base : Heap}
theorem ok_col {f : Addr} {fd : FuncData} (D : Df K mg "_law_colours" sCol pCol f fd) (T : Bl mg) : FnOk P w K mg base CX0 1 f fd pCol (spCol K) := by
  refine D.fn.ok scCol (fun vs H Q E h => ?_) (fun cdv A outer s H vs Q E hr h => ?_)
  · obtain ⟨v, u, n, ts, lot, rfl, _⟩ := h
    rfl
  · obtain ⟨v, u, n, ts, lot, rfl, hw, hu, hok, hlot, hn, hl, kf, kt⟩ := h
    have nd := scCol.nd
    have hends := hok.ends
    have hpos := hok.pos
    obtain ⟨a, c, ys, rfl, ha, hc, hys⟩ := dp_web hw
    have hyl : ys.length = ts.length := by rw [dpAll_len hys, List.length_map]
    obtain ⟨al, rfl, hal⟩ := dp_lotI hu
    refine ⟨_, (pss_cons (ps_set (i := 2) nd rfl (by first | exact Or.inl rfl | exact Or.inr rfl) (pe_op op_cat (pe_lst (pa_cons pe_int pa_nil)) (pe_op op_rep (pe_lst (pa_cons pe_non pa_nil)) (pe_op op_sub (pe_ix (ixT K) (pv 0) pe_int (fun _ _ => rfl)) pe_int))))
      (pss_cons (ps_for PassesOwn.never rfl (pi_range1 rfl T.range (pa_cons (pe_ix (ixT K) (pv 0) pe_int (fun _ _ => rfl)) pa_nil)) (pg_name (i := 3) nd rfl (by first | exact Or.inl rfl | exact Or.inr rfl)) (pss_one (ps_for PassesOwn.never rfl (enumT K (by rfl) T.enumerate (pa_cons (pe_ix (ixT K) (pv 0) pe_int (fun _ _ => rfl)) pa_nil)) (pgT K rfl (pgs_cons (pg_name (i := 4) nd rfl (by first | exact Or.inl rfl | exact Or.inr rfl)) (pgs_cons (pgT K rfl (pgs_cons (pg_name (i := 5) nd rfl (by first | exact Or.inl rfl | exact Or.inr rfl)) (pgs_cons (pg_name (i := 6) nd rfl (by first | exact Or.inl rfl | exact Or.inr rfl)) pgs_nil))) pgs_nil))) (pss_cons (ps_set (i := 7) nd rfl (by first | exact Or.inl rfl | exact Or.inr rfl) (pe_callTy call_int1 (by rfl) T.int (by decide +kernel) (pa_cons (pe_cmpR (opIn K) (pv 4) (pv 1) rfl) pa_nil)))
      (pss_one (ps_if (PW.pt (pw_and (pt_cmpR op_notN (pe_ix (ixL K) (pv 2) (pv 5) (fun _ _ => rfl)) pe_non (nomark _)) (pw_and1 (pt_cmpR op_isN (pe_ix (ixL K) (pv 2) (pv 6) (fun _ _ => rfl)) pe_non (nomark _))))) (pss_one (ps_asg (pe_op op_mod (pe_op op_add (pe_ix (ixL K) (pv 2) (pv 5) (fun _ _ => rfl)) (pv 7)) pe_int) (pg_sub (pv 2) (pv 6) set_list))) (pss_one (ps_if (PW.pt (pw_and (pt_cmpR op_notN (pe_ix (ixL K) (pv 2) (pv 6) (fun _ _ => rfl)) pe_non (nomark _)) (pw_and1 (pt_cmpR op_isN (pe_ix (ixL K) (pv 2) (pv 5) (fun _ _ => rfl)) pe_non (nomark _))))) (pss_one (ps_asg (pe_op op_mod (pe_op op_add (pe_ix (ixL K) (pv 2) (pv 6) (fun _ _ => rfl)) (pv 7)) pe_int) (pg_sub (pv 2) (pv 5) set_list))) pss_nil))))))))
      (pss_cons (ps_for PassesOwn.never rfl (enumT K (by rfl) T.enumerate (pa_cons (pe_ix (ixT K) (pv 0) pe_int (fun _ _ => rfl)) pa_nil)) (pgT K rfl (pgs_cons (pg_name (i := 4) nd rfl (by first | exact Or.inl rfl | exact Or.inr rfl)) (pgs_cons (pgT K rfl (pgs_cons (pg_name (i := 5) nd rfl (by first | exact Or.inl rfl | exact Or.inr rfl)) (pgs_cons (pg_name (i := 6) nd rfl (by first | exact Or.inl rfl | exact Or.inr rfl)) pgs_nil))) pgs_nil))) (pss_one (ps_if (pt_cmpR op_ne (pe_cmpR op_ne (pe_ix (ixL K) (pv 2) (pv 5) (fun _ _ => rfl)) (pe_ix (ixL K) (pv 2) (pv 6) (fun _ _ => rfl)) (nomark _)) (pe_cmpR (opIn K) (pv 4) (pv 1) rfl) (nomark _)) (pss_one (ps_ret (pe_lst pa_nil))) pss_nil)))
      (pss_one (ps_ret (pv 2)))))), ?_⟩
    refine ⟨by decide, fun p0 hp0 => ⟨by decide, fun p1 hp1 => ?_⟩⟩
    have s0 := same_new (o := .lst [.int 0]) hp0
    have s1 := same_new (o := .lst [.non]) hp1
    have s01 := s0.trans s1
    refine ⟨_, rfl, a, _, _, _, rfl, rfl, sqT_same s01 ha, atI_nat (j := 0) rfl, _, _, rfl, rfl, ?_⟩
    refine ⟨p1, _, [.non], rfl, rfl, upd_same, by omega, by omega, ?_, fun m0 hm0 => ?_⟩
    · exact Nat.le_trans (show 1 * ((n : Int) - 1).toNat ≤ 1000 by omega) (by decide)
    have s2 := same_new (o := .lst (List.replicate ((n : Int) - 1).toNat [V.non]).flatten) hm0
    refine ⟨p0, m0, _, _, rfl, rfl, s2 _ _ (s1 _ _ upd_same), upd_same, ?_, fun m hm => ?_⟩
    · rw [reps, List.length_map, List.length_range]
      exact Nat.le_trans (show 1 + ((n : Int) - 1).toNat ≤ 1000 by omega) (by decide)
    have s02 := s01.trans s2
    have hHm : H m = none := Same.free s02 hm
    have s3 := same_new (o := .lst ([V.int 0] ++ (List.replicate ((n : Int) - 1).toNat [V.non]).flatten)) hm
    have s03 := s02.trans s3
    have e3 : [V.int 0] ++ (List.replicate ((n : Int) - 1).toNat [V.non]).flatten = colsV n fun p => if p = 0 then some 0 else none := by
      rw [reps, show ((n : Int) - 1).toNat = n - 1 by omega]
      unfold colsV
      obtain ⟨n1, rfl⟩ : ∃ n1, n = n1 + 1 := ⟨n - 1, by omega⟩
      rw [List.range_succ_eq_map, List.map_cons, List.map_map]
      rfl
    have h3 : (upd (upd (upd (upd H p0 (.lst [.int 0])) p1 (.lst [.non])) m0 (.lst (List.replicate ((n : Int) - 1).toNat [V.non]).flatten)) m (.lst ([V.int 0] ++ (List.replicate ((n : Int) - 1).toNat [V.non]).flatten))) m = some (.lst (colsV n fun p => if p = 0 then some 0 else none)) := by
      rw [upd_same, e3]
    generalize upd (upd (upd (upd H p0 (.lst [.int 0])) p1 (.lst [.non])) m0 (.lst (List.replicate ((n : Int) - 1).toNat [V.non]).flatten)) m (.lst ([V.int 0] ++ (List.replicate ((n : Int) - 1).toNat [V.non]).flatten)) = H3 at *
    clear s0 s1 s01 s2 s02 s3 hp0 hp1 hm0 hm
    dsimp only [gName]
    refine at_st [some (.ref a), some (.ref al), some (.ref m), none, none, none, none, none] rfl ?_
    refine tSeq_go ?_
    refine ⟨_, rfl, a, _, _, _, rfl, rfl, sqT_same s03 ha, atI_nat (j := 0) rfl, (n : Int), rfl, by omega, by omega, ?_⟩
    refine for_range (lo := 0) (n := (n : Int).toNat) (fun i σ H' => ∃ (v3 v4 v5 v6 v7 : Option V) (col : Nat → Option Nat), σ = [some (.ref a), some (.ref al), some (.ref m), v3, v4, v5, v6, v7] ∧ Same H H' ∧
      H' m = some (.lst (colsV n col)) ∧ GoodC ts lot col ∧ ∀ p, p ≤ i → p < n → (col p).isSome = true) ?_ ?_ ?_
    · refine ⟨none, none, none, none, none, _, rfl, s03, h3, ⟨rfl, fun p c hp => ?_⟩, fun p hp _ => ?_⟩
      · by_cases e : p = 0
        · subst e
          have : c = 0 := by simpa using hp.symm
          exact ⟨[], .nil, by rw [this]; rfl⟩
        · simp [e] at hp
      · obtain rfl : p = 0 := by omega
        rfl
    · rintro i σ H5 hi ⟨v3, v4, v5, v6, v7, col, rfl, s5, h5, g5, c5⟩
      have hin : i < n := by omega
      rw [Int.zero_add]
      refine ⟨_, rfl, a, _, _, _, rfl, rfl, sqT_same s5 ha, atI_nat (j := 1) rfl, c, ys, rfl, sqT_same s5 hc, ?_⟩
      refine for_it (walk_enumT (xs := ys)) (fun j σ H' => ∃ (v4 v5 v6 v7 : Option V) (col : Nat → Option Nat), σ = [some (.ref a), some (.ref al), some (.ref m), some (.int (i : Nat)), v4, v5, v6, v7] ∧ Same H H' ∧
        H' m = some (.lst (colsV n col)) ∧ GoodC ts lot col ∧ (∀ p, p ≤ i → p < n → (col p).isSome = true) ∧ ∀ k, k < j → ∀ t, ts[k]? = some t → t.1 ≤ i → (col t.2).isSome = true) ?_ ?_ ?_ ?_
      · exact ⟨v4, v5, v6, v7, col, rfl, s5, h5, g5, c5, fun k hk => absurd hk (Nat.not_lt_zero _)⟩
      · rintro j σ H' _ ⟨v4, v5, v6, v7, col, rfl, sH, _⟩
        exact sqT_same sH hc
      · rintro j x σ H6 H'' hj ⟨v4, v5, v6, v7, col, rfl, s6, h6, g6, c6, d6⟩ ⟨q, y, z, rfl, hq, rfl, hy, hz⟩
        have hjt : j < ts.length := by omega
        have ht : ts[j]? = some ts[j] := List.getElem?_eq_getElem hjt
        have hte := hends ts[j] (List.getElem_mem hjt)
        generalize ts[j] = t at ht hte
        have hy' : some (V.int j) = some y := hy
        cases hy'
        have hz' : ys[j]? = some z := hz
        obtain ⟨dd, hdd, hzd⟩ := dpAll_get hys hz'
        rw [List.getElem?_map, ht] at hdd
        cases hdd
        obtain ⟨az, rfl, haz⟩ := dp_tie hzd
        have sq := same_new (o := .tup [.int j, .ref az]) hq
        have s7 := s6.trans sq
        have h7 : (upd H6 q (.tup [.int (j : Nat), .ref az])) m = some (.lst (colsV n col)) := sq _ _ h6
        have hqt := upd_same (H := H6) (a := q) (o := .tup [.int (j : Nat), .ref az])
        generalize upd H6 q (.tup [.int (j : Nat), .ref az]) = H7 at *
        refine ⟨q, _, rfl, SqT.of hqt, rfl, _, _, rfl, _, _, rfl, az, _, rfl, sqT_same s7 haz, rfl, _, _, rfl, _, _, rfl, rfl, rfl, ?_⟩
        show tSeq _ _ _ _ _
        refine tSeq_go ?_
        refine ⟨_, rfl, _, rfl, al, _, rfl, .inr (sqT_same s7 hal), rfl, flat_nats lot, .inr ⟨decide (j ∈ lot), congrArg (fun b => [V.bl b]) (inv_nats j lot), ?_⟩⟩
        have key : inV (V.int (j : Int)) (lot.map fun (k : Nat) => V.int k) = decide (j ∈ lot) := inv_nats j lot
        have ech : (if decide (j ∈ lot) = true then (1 : Int) else 0) = ((if j ∈ lot then 1 else 0 : Nat) : Int) := by
          by_cases hj : j ∈ lot
          · rw [if_pos (decide_eq_true hj), if_pos hj]
            rfl
          · rw [if_neg (by rw [decide_eq_false hj]; decide), if_neg hj]
            rfl
        show gName 7 (V.int (if decide (j ∈ lot) = true then 1 else 0)) _ _ _
        rw [ech]
        generalize hch : (if j ∈ lot then 1 else 0 : Nat) = ch at *
        dsimp only [gName]
        refine at_st [some (.ref a), some (.ref al), some (.ref m), some (.int (i : Nat)), some (.int (j : Nat)), some (.int (t.1 : Nat)), some (.int (t.2 : Nat)), some (.int (ch : Nat))] rfl ?_
        have fin : ∀ (col2 : Nat → Option Nat) (H8 : Hp), Same H H8 → H8 m = some (.lst (colsV n col2)) → GoodC ts lot col2 → (∀ p, (col p).isSome = true → (col2 p).isSome = true) → (t.1 ≤ i → (col2 t.2).isSome = true) →
            ∃ (v4 v5 v6 v7 : Option V) (col : Nat → Option Nat), [some (.ref a), some (.ref al), some (.ref m), some (.int (i : Nat)), some (.int (j : Nat)), some (.int (t.1 : Nat)), some (.int (t.2 : Nat)), some (.int (ch : Nat))] = [some (.ref a), some (.ref al), some (.ref m), some (.int (i : Nat)), v4, v5, v6, v7] ∧ Same H H8 ∧
              H8 m = some (.lst (colsV n col)) ∧ GoodC ts lot col ∧ (∀ p, p ≤ i → p < n → (col p).isSome = true) ∧ ∀ k, k < j + 1 → ∀ t, ts[k]? = some t → t.1 ≤ i → (col t.2).isSome = true := fun col2 H8 s8 h8 g8 mono new =>
          ⟨_, _, _, _, col2, rfl, s8, h8, g8, fun p hp hpn => mono p (c6 p hp hpn), fun k hk t2 ht2 ht2i => by
            by_cases e : k = j
            · subst e
              rw [ht] at ht2
              cases ht2
              exact new ht2i
            · exact mono _ (d6 k (by omega) t2 ht2 ht2i)⟩
        have h1n : t.1 < n := by omega
        have hne : t.1 ≠ t.2 := by omega
        have r1 : atI (colsV n col) ((t.1 : Nat) : Int) = some (colV (col t.1)) := atI_nat (by unfold colsV; rw [rng_get n _ h1n])
        have r2 : atI (colsV n col) ((t.2 : Nat) : Int) = some (colV (col t.2)) := atI_nat (by unfold colsV; rw [rng_get n _ hte.2])
        have h7' : H7 m = some (.lst ((List.range n).map fun p => colV (col p))) := h7
        have setcol : ∀ q c, ((List.range n).map fun p => colV (col p)).set q (.int (c : Nat)) = colsV n (setC col q c) := fun q c => by
          rw [rng_set]
          unfold colsV
          refine List.map_congr_left fun p _ => ?_
          unfold setC
          split <;> rfl
        have monoS : ∀ q c p, (col p).isSome = true → (setC col q c p).isSome = true := fun q c p hp => by
          unfold setC
          split
          · rfl
          · exact hp
        refine ⟨_, rfl, _, rfl, m, _, _, _, rfl, rfl, SqL.of h7, r1, rfl, _, rfl, ?_⟩
        cases e1 : col t.1 with
        | none =>
          rw [e1] at r1
          have hni : ¬ t.1 ≤ i := fun z => by
            have := c6 t.1 z h1n
            rw [e1] at this
            cases this
          refine iteF ?_
          refine ⟨_, rfl, _, rfl, m, _, _, _, rfl, rfl, SqL.of h7, r2, rfl, _, rfl, ?_⟩
          cases e2 : col t.2 with
          | none =>
            refine iteF ?_
            exact fin col H7 s7 h7 g6 (fun _ z => z) (fun z => absurd z hni)
          | some c2 =>
            rw [e2] at r2
            refine iteT ?_
            refine ⟨_, rfl, _, rfl, m, _, _, _, rfl, rfl, SqL.of h7, r1, rfl, _, rfl, ?_⟩
            refine iteT ?_
            refine ⟨_, rfl, _, rfl, m, _, _, _, rfl, rfl, SqL.of h7, r2, _, rfl, _, _, rfl, rfl, _, _, rfl, rfl, (by show (0 : Int) < 2; decide), _, rfl, _, rfl, m, _, (t.1 : Int), t.1, rfl, rfl, h7', ix_nat (by rw [List.length_map, List.length_range]; exact h1n), ?_⟩
            have em : ((c2 : Nat) : Int) + ((ch : Nat) : Int) = ((c2 + ch : Nat) : Int) := by omega
            have em2 : ((c2 + ch : Nat) : Int) % 2 = (((c2 + ch) % 2 : Nat) : Int) := by omega
            refine fin (setC col t.1 ((c2 + ch) % 2)) _ (same_old hHm s7) ?_ ?_ (monoS _ _) (fun z => absurd z hni)
            · rw [upd_same]
              show some (HO.lst (List.set _ _ (V.int (((c2 + ch : Nat) : Int) % 2)))) = _
              rw [em2, setcol]
            · rw [← hch]
              exact g6.set ht e2 e1 (.inr ⟨rfl, rfl⟩)
        | some c1 =>
          rw [e1] at r1
          refine iteT ?_
          refine ⟨_, rfl, _, rfl, m, _, _, _, rfl, rfl, SqL.of h7, r2, rfl, _, rfl, ?_⟩
          cases e2 : col t.2 with
          | none =>
            rw [e2] at r2
            refine iteT ?_
            refine ⟨_, rfl, _, rfl, m, _, _, _, rfl, rfl, SqL.of h7, r1, _, rfl, _, _, rfl, rfl, _, _, rfl, rfl, (by show (0 : Int) < 2; decide), _, rfl, _, rfl, m, _, (t.2 : Int), t.2, rfl, rfl, h7', ix_nat (by rw [List.length_map, List.length_range]; exact hte.2), ?_⟩
            have em : ((c1 : Nat) : Int) + ((ch : Nat) : Int) = ((c1 + ch : Nat) : Int) := by omega
            have em2 : ((c1 + ch : Nat) : Int) % 2 = (((c1 + ch) % 2 : Nat) : Int) := by omega
            refine fin (setC col t.2 ((c1 + ch) % 2)) _ (same_old hHm s7) ?_ ?_ (monoS _ _) (fun _ => by rw [setC_same]; rfl)
            · rw [upd_same]
              show some (HO.lst (List.set _ _ (V.int (((c1 + ch : Nat) : Int) % 2)))) = _
              rw [em2, setcol]
            · rw [← hch]
              exact g6.set ht e1 e2 (.inl ⟨rfl, rfl⟩)
          | some c2 =>
            rw [e2] at r2
            refine iteF ?_
            refine ⟨_, rfl, _, rfl, m, _, _, _, rfl, rfl, SqL.of h7, r2, rfl, _, rfl, ?_⟩
            refine iteT ?_
            refine ⟨_, rfl, _, rfl, m, _, _, _, rfl, rfl, SqL.of h7, r1, rfl, _, rfl, ?_⟩
            refine iteF ?_
            exact fin col H7 s7 h7 g6 (fun _ z => z) (fun _ => by rw [e2]; rfl)
      · rintro σ H6 ⟨v4, v5, v6, v7, col, rfl, s6, h6, g6, c6, d6⟩
        refine ⟨_, _, _, _, _, col, rfl, s6, h6, g6, fun p hp hpn => ?_⟩
        by_cases e : p ≤ i
        · exact c6 p e hpn
        · obtain ⟨q, hq, hm⟩ := hok.hang p (by omega) hpn
          obtain ⟨k, hk⟩ := List.getElem?_of_mem hm
          exact d6 k (by rw [hyl]; exact (List.getElem?_eq_some_iff.mp hk).1) (q, p) hk (show q ≤ i by omega)
    · rintro σ H5 ⟨v3, v4, v5, v6, v7, col, rfl, s5, h5, g5, c5⟩
      have all : ∀ p, p < n → ∃ c, col p = some c := fun p hp => Option.isSome_iff_exists.mp (c5 p (by omega) hp)
      dsimp only
      refine tSeq_go ?_
      refine ⟨_, rfl, a, _, _, _, rfl, rfl, sqT_same s5 ha, atI_nat (j := 1) rfl, c, ys, rfl, sqT_same s5 hc, ?_⟩
      refine for_it (walk_enumT (xs := ys)) (fun j σ H' => ∃ (v4 v5 v6 : Option V), σ = [some (.ref a), some (.ref al), some (.ref m), v3, v4, v5, v6, v7] ∧ Same H H' ∧
        H' m = some (.lst (colsV n col)) ∧ ∀ k, k < j → ∀ t, ts[k]? = some t → decide (k ∈ lot) = !decide (col t.1 = col t.2)) ?_ ?_ ?_ ?_
      · exact ⟨v4, v5, v6, rfl, s5, h5, fun k hk => absurd hk (Nat.not_lt_zero _)⟩
      · rintro j σ H' _ ⟨v4, v5, v6, rfl, sH, _⟩
        exact sqT_same sH hc
      · rintro j x σ H6 H'' hj ⟨v4, v5, v6, rfl, s6, h6, d6⟩ ⟨q, y, z, rfl, hq, rfl, hy, hz⟩
        have hjt : j < ts.length := by omega
        have ht : ts[j]? = some ts[j] := List.getElem?_eq_getElem hjt
        have hte := hends ts[j] (List.getElem_mem hjt)
        generalize ts[j] = t at ht hte
        have hy' : some (V.int j) = some y := hy
        cases hy'
        have hz' : ys[j]? = some z := hz
        obtain ⟨dd, hdd, hzd⟩ := dpAll_get hys hz'
        rw [List.getElem?_map, ht] at hdd
        cases hdd
        obtain ⟨az, rfl, haz⟩ := dp_tie hzd
        have sq := same_new (o := .tup [.int j, .ref az]) hq
        have s7 := s6.trans sq
        have h7 : (upd H6 q (.tup [.int (j : Nat), .ref az])) m = some (.lst (colsV n col)) := sq _ _ h6
        have hqt := upd_same (H := H6) (a := q) (o := .tup [.int (j : Nat), .ref az])
        generalize upd H6 q (.tup [.int (j : Nat), .ref az]) = H7 at *
        refine ⟨q, _, rfl, SqT.of hqt, rfl, _, _, rfl, _, _, rfl, az, _, rfl, sqT_same s7 haz, rfl, _, _, rfl, _, _, rfl, rfl, rfl, ?_⟩
        obtain ⟨c1, e1⟩ := all t.1 (by omega)
        obtain ⟨c2, e2⟩ := all t.2 hte.2
        have r1 : atI (colsV n col) ((t.1 : Nat) : Int) = some (.int c1) := atI_nat (by unfold colsV; rw [rng_get n _ (show t.1 < n by omega), e1]; rfl)
        have r2 : atI (colsV n col) ((t.2 : Nat) : Int) = some (.int c2) := atI_nat (by unfold colsV; rw [rng_get n _ hte.2, e2]; rfl)
        refine ⟨_, rfl, _, rfl, m, _, _, _, rfl, rfl, SqL.of h7, r1, _, rfl, _, rfl, m, _, _, _, rfl, rfl, SqL.of h7, r2, rfl, ?_⟩
        refine ⟨_, rfl, _, rfl, al, _, rfl, .inr (sqT_same s7 hal), rfl, flat_nats lot, rfl, _, rfl, ?_⟩
        have key : inV (V.int (j : Int)) (lot.map fun (k : Nat) => V.int k) = decide (j ∈ lot) := inv_nats j lot
        have dc : decide (V.int (c1 : Int) = V.int (c2 : Int)) = decide (c1 = c2) := decide_eq_decide.mpr ⟨fun z => by have := V.int.inj z; omega, fun z => by rw [z]⟩
        have de : decide (col t.1 = col t.2) = decide (c1 = c2) := by
          rw [e1, e2]
          exact decide_eq_decide.mpr ⟨fun z => Option.some.inj z, fun z => by rw [z]⟩
        rw [key, dc]
        refine ite2 (fun hh => ?_) (fun hh => ?_)
        · have hno : cutB ts lot = false := by
            refine Bool.eq_false_iff.mpr fun hb => ?_
            obtain ⟨S, hS⟩ := cutB_iff.mp hb
            have z1 := g5.side hS e1
            have z2 := g5.side hS e2
            have z3 := hS j t ht
            have w1 := g5.two e1
            have w2 := g5.two e2
            have z4 : decide (j ∈ lot) = !decide (c1 = c2) := by
              rw [z3]
              have y1 : Bool.xor (side S t.1) (side S t.2) = Bool.xor (decide (c1 = 1)) (decide (c2 = 1)) := by
                rw [z1, z2]
                cases side S 0 <;> cases side S t.1 <;> cases side S t.2 <;> rfl
              rw [y1]
              rcases w1 with rfl | rfl <;> rcases w2 with rfl | rfl <;> rfl
            rw [z4] at hh
            simp at hh
          refine ⟨Nat.zero_le _, fun l hl => ?_⟩
          exact kf hno l _ (s7.trans (same_new hl)) upd_same
        · refine ⟨_, _, _, rfl, s7, h7, fun k hk t2 ht2 => ?_⟩
          by_cases e : k = j
          · subst e
            rw [ht] at ht2
            cases ht2
            rw [de]
            have : decide (V.bl (!decide (c1 = c2)) = V.bl (decide (k ∈ lot))) = true := by
              have : ¬ (c1 = c2 ↔ k ∈ lot) := by simpa using hh
              by_cases hc : c1 = c2 <;> by_cases hk2 : k ∈ lot <;> simp [hc, hk2] at this ⊢
            exact (V.bl.inj (of_decide_eq_true this)).symm
          · exact d6 k (by omega) t2 ht2
      · rintro σ H6 ⟨v4, v5, v6, rfl, s6, h6, d6⟩
        have hF : FarOf n ts lot ((List.range n).filter fun p => decide (col p = some 1)) := by
          refine ⟨fun k t ht => ?_, List.pairwise_lt_range.filter _, fun hm => ?_, fun p hp => List.mem_range.mp (List.mem_filter.mp hp).1⟩
          · have hk := (List.getElem?_eq_some_iff.mp ht).1
            have hte := hends t (List.mem_of_getElem? ht)
            rw [d6 k (by omega) t ht]
            obtain ⟨c1, e1⟩ := all t.1 (by omega)
            obtain ⟨c2, e2⟩ := all t.2 hte.2
            have sd : ∀ p c, p < n → col p = some c → side ((List.range n).filter fun p => decide (col p = some 1)) p = decide (c = 1) := fun p c hp e => by
              unfold side
              rw [Bool.eq_iff_iff, decide_eq_true_eq, decide_eq_true_eq, List.mem_filter, List.mem_range, decide_eq_true_eq, e]
              exact ⟨fun z => Option.some.inj z.2, fun z => ⟨hp, by rw [z]⟩⟩
            rw [sd _ _ (show t.1 < n by omega) e1, sd _ _ hte.2 e2, e1, e2]
            rcases g5.two e1 with rfl | rfl <;> rcases g5.two e2 with rfl | rfl <;> rfl
          · have z := of_decide_eq_true (List.mem_filter.mp hm).2
            rw [g5.1] at z
            cases z
        have hb : cutB ts lot = true := cutB_iff.mpr ⟨_, hF.1⟩
        refine ⟨_, rfl, kt hb m _ _ s6 hF ?_⟩
        rw [h6]
        unfold colsV shadesV
        congr 2
        refine List.map_congr_left fun p hp => ?_
        obtain ⟨c1, e1⟩ := all p (List.mem_range.mp hp)
        rw [e1]
        have hm : (p ∈ (List.range n).filter fun p => decide (col p = some 1)) ↔ c1 = 1 := by
          rw [List.mem_filter, decide_eq_true_eq, e1]
          exact ⟨fun z => Option.some.inj z.2, fun z => ⟨hp, by rw [z]⟩⟩
        rcases g5.two e1 with rfl | rfl
        · rw [if_neg (fun z => by cases hm.mp z)]
          rfl
        · rw [if_pos (hm.mpr rfl)]
          rfl
end
end BV

namespace BV
open PySem L2
abbrev sRight : Stmt := top 25
abbrev nRight : List Str := ["_law_web_here", "_law_lot", "_law_is_named", "_law_shades", "_law_told_here", "_law_due", "_law_place", "_law_colour"]
abbrev pRight : List Str := ["_law_web_here", "_law_lot", "_law_is_named"]
theorem scRight : FnScope nRight pRight (defScope sRight) := ⟨rfl, rfl, rfl, by decide +kernel, rfl, by decide +kernel, by decide +kernel⟩

def spTold (K : PySem.W.Frag) : Sp := fun vs H Q _ => ∃ (v u : V) (n : Nat) (ts : List Tie) (lot : List Nat) (nm : Bool), vs = [v, u, .bl nm] ∧ Dp K H v (webD n ts) ∧ Dp K H u (lotD lot) ∧ WebOk n ts ∧ LotA ts.length lot ∧ n ≤ 1000 ∧ ts.length ≤ 3000 ∧
  (cutB ts lot = false → ∀ (z : V) H', Same H H' → Dp K H' z (.list [.str "Unfit", .bool true]) → Q z H') ∧
  (cutB ts lot = true → ∀ (z : V) (far : List Nat) H', Same H H' → FarOf n ts lot far → Dp K H' z (.list [.str "told", lotD far]) → Q z H')
def spRight (K : PySem.W.Frag) : Sp := fun vs H Q _ => ∃ (v u : V) (n : Nat) (ts : List Tie) (lot : List Nat) (nm : Bool), vs = [v, u, .bl nm] ∧ Dp K H v (webD n ts) ∧ Dp K H u (lotD lot) ∧ WebOk n ts ∧ LotA ts.length lot ∧ n ≤ 100 ∧ ts.length ≤ 100 ∧
  ∀ H', Same H H' → Q (.bl true) H'
def cellsI (n : Nat) (b : Bool) (far : List Nat) : List Int := if b = true then (List.range n).map fun p => if p ∈ far then 1 else 0 else []
theorem cells_no (n : Nat) (far : List Nat) : cellsI n false far = [] := rfl
theorem cells_yes (n : Nat) (far : List Nat) : (cellsI n true far).map V.int = shadesV n far := by
  unfold cellsI shadesV
  rw [if_pos rfl, List.map_map]
  exact List.map_congr_left fun p _ => rfl
theorem cells_len (n : Nat) (b : Bool) (far : List Nat) : (cellsI n b far).length ≤ n := by
  unfold cellsI
  split
  · rw [List.length_map, List.length_range]
    exact Nat.le_refl _
  · exact Nat.zero_le _
theorem cells_eqv {n : Nat} (hn : 1 ≤ n) (b : Bool) (far : List Nat) : (PyData.list ((cellsI n b far).map PyData.int)).eqv (.list []) = !b := by
  cases b
  · rfl
  · obtain ⟨m, rfl⟩ : ∃ m, n = m + 1 := ⟨n - 1, by omega⟩
    unfold cellsI
    rw [if_pos rfl, List.range_succ_eq_map]
    rfl
def dueL (n : Nat) (b : Bool) (far : List Nat) (i : Nat) : List Nat := (List.range i).filter fun p => decide ((cellsI n b far)[p]? = some 1)
theorem due_all {n : Nat} {ts : List Tie} {lot far : List Nat} (h : FarOf n ts lot far) : dueL n true far (cellsI n true far).length = far := by
  have e : (cellsI n true far).length = n := by
    unfold cellsI
    rw [if_pos rfl, List.length_map, List.length_range]
  rw [e]
  refine asc_uniq (List.pairwise_lt_range.filter _) h.2.1 fun k => ?_
  unfold dueL
  rw [List.mem_filter, List.mem_range, decide_eq_true_eq]
  constructor
  · rintro ⟨hk, z⟩
    unfold cellsI at z
    rw [if_pos rfl, rng_get n _ hk] at z
    by_cases hm : k ∈ far
    · exact hm
    · rw [if_neg hm] at z
      cases z
  · intro hm
    have hk := h.2.2.2 k hm
    refine ⟨hk, ?_⟩
    unfold cellsI
    rw [if_pos rfl, rng_get n _ hk, if_pos hm]
theorem far_same {n : Nat} {ts : List Tie} {lot f1 f2 : List Nat} (hok : WebOk n ts) (h1 : FarOf n ts lot f1) (h2 : FarOf n ts lot f2) : f1 = f2 := by
  have key : ∀ p, p < n → side f1 p = side f2 p := all_found hok (F := fun p => side f1 p = side f2 p) (by
    unfold side
    rw [decide_eq_false h1.2.2.1, decide_eq_false h2.2.2.1]) (fun t ht e => by
    obtain ⟨k, hk⟩ := List.mem_iff_getElem?.mp ht
    have z1 := h1.1 k t hk
    have z2 := h2.1 k t hk
    rw [z1, e] at z2
    generalize side f2 t.1 = x at z2
    generalize side f1 t.2 = y at z2 ⊢
    generalize side f2 t.2 = z at z2 ⊢
    revert z2
    cases x <;> cases y <;> cases z <;> decide)
  refine asc_uniq h1.2.1 h2.2.1 fun k => ?_
  constructor
  · intro hk
    have := key k (h1.2.2.2 k hk)
    unfold side at this
    rw [decide_eq_true hk] at this
    exact of_decide_eq_true this.symm
  · intro hk
    have := key k (h2.2.2.2 k hk)
    unfold side at this
    rw [decide_eq_true hk] at this
    exact of_decide_eq_true this
theorem sm_boolR (b : Bool) : Sm (.bool b) 1 0 := ⟨by simp only [tiny], by simp only [nodes]; exact Nat.le_refl _, by simp only [PyData.depth]; exact Nat.le_refl _⟩
section
variable {P : Program} {w : World} {K : PySem.W.Frag} {mg : Str → Option Value} {base : Heap}
theorem ok_told {f f0 f1 f2 f3 f4 f5 f6 U B : Addr} {fd fd0 fd1 fd2 fd3 fd4 fd5 fd6 : FuncData} (D : Df K mg "_law_told" sTold pTold f fd) (T : Bl mg) (hisinstance : mg "isinstance" = none) (EU : ErrU K mg U B) (D_cut : Df K mg "cut_of" sCut pCut f0 fd0) (D_all : Df K mg "all_ties" sAll pAll f1 fd1) (D_far : Df K mg "far_end" sFar pFar f2 fd2)
    (D_ways : Df K mg "ways_from" sWays pWays f3 fd3) (D_codd : Df K mg "common_odd" sCodd pCodd f4 fd4) (D_fside : Df K mg "_far_side" sFside pFside f5 fd5) (D_places_x : Df K mg "places_of_cut" sPlaces pPlaces f6 fd6)
    (K_places_x : KBn K fd6 pPlaces 0 ["lot", "web"] (fun _ ws => ws.reverse) (fun _ zs => zs.reverse)) : FnOk P w K mg base CX0 5 f fd pTold (spTold K) := by
  have G_places_x : FnOk P w K mg base (L2.CX P w) 4 f6 fd6 pPlaces (spPlaces K U) := ok_places D_places_x T EU D_cut D_all D_far D_ways D_codd D_fside
  refine D.fn.ok scTold (fun vs H Q E h => ?_) (fun cdv A outer s H vs Q E hr h => ?_)
  · obtain ⟨v, u, n, ts, lot, nm, rfl, _⟩ := h
    rfl
  · obtain ⟨v, u, n, ts, lot, nm, rfl, hw, hu, hok, hlot, hn, hl, kx, k⟩ := h
    have hr_places_x : Room 4 _ := hr
    have nd := scTold.nd
    refine ⟨_, (pss_one (ps_try_as (i := 3) rfl rfl nd rfl rfl ⟨rfl, by decide, .inl EU.gU⟩ takes0 (fun W pn xe tk _ => (pss_one (ps_ret (pe_lst (pa_cons pe_str (pa_cons (pe_ifExp (pt_val (pv 2)) (pe_callKS G_places_x hr_places_x (by rfl) D_places_x.ad D_places_x.fn.kp K_places_x (fun σ => passAt tk σ) (pk_cons (pv 1) (pk_cons (pv 0) pk_nil))) (pe_callS G_places_x hr_places_x (by rfl) D_places_x.ad D_places_x.fn.kp D_places_x.bd (fun σ => passAt tk σ) (pa_cons (pv 0) (pa_cons (pv 1) pa_nil)))) pa_nil)))))) (fun a oe cls d pn hz hf => (pss_one (ps_ret (pe_lst (pa_cons pe_str (pa_cons (pe_and (pe_callB (isX hz hf) (by rfl) hisinstance (by decide +kernel) (pa_cons (pv 3) (pa_cons (pe_bltn (v := .ty "ValueError") (by rfl) EU.gv (by decide +kernel) rfl) pa_nil))) (pe_one (pe_callB (isX hz hf) (by rfl) hisinstance (by decide +kernel) (pa_cons (pv 3) (pa_cons (pe_glob (by rfl) EU.gB (show RelV (.ref B) (.ref B) from rfl)) pa_nil))))) pa_nil)))))))), ?_⟩
    have exc : ∀ (cls : Value) (H1 : Hp), Same H H1 → cutB ts lot = false → cls = .ref U → ∀ (q : Addr), H1 q = none → Q (.ref q) (upd H1 q (.lst [.str "Unfit", .bl true])) := fun cls H1 s1 hb _ q hq =>
      kx hb _ _ (s1.trans (same_new hq)) (.lst (SqL.of upd_same) (.cons (.str _) (.cons (.bl _) .nil)))
    have fine : ∀ (z : V) (far : List Nat) (H1 : Hp), Same H H1 → cutB ts lot = true → FarOf n ts lot far → Dp K H1 z (lotD far) → ∀ (q : Addr), H1 q = none → Q (.ref q) (upd H1 q (.lst [.str "told", z])) := fun z far H1 s1 hb hF hz q hq =>
      k hb _ far _ (s1.trans (same_new hq)) hF (.lst (SqL.of upd_same) (.cons (.str _) (.cons (dp_same (same_new hq) _ hz) .nil)))
    refine ⟨_, rfl, nm, rfl, ?_⟩
    refine ite2 (fun hh => ?_) (fun hh => ?_)
    · refine ⟨_, rfl, _, rfl, rfl, v, u, n, ts, lot, rfl, hw, hu, hok, hlot, hn, hl, fun hb H1 s1 => ⟨true, EU.te, fun _ a ha => ?_, fun z => nomatch z⟩, fun hb z far H1 s1 hF hz => ⟨by show 2 ≤ sizeLine; decide, fun q hq => fine z far H1 s1 hb hF hz q hq⟩⟩
      refine ⟨_, rfl, U, EU.ex, rfl, rfl, .ty "ValueError", .type "ValueError", true, rfl, fun _ h => h, EU.iv, ?_⟩
      refine ⟨true, rfl, iteT ⟨_, rfl, U, EU.ex, rfl, rfl, .ref B, .ref B, true, rfl, fun _ h => h, EU.ib, ?_⟩⟩
      exact ⟨by show 2 ≤ sizeLine; decide, fun q hq => exc _ H1 s1 hb rfl q hq⟩
    · refine ⟨_, rfl, _, rfl, v, u, n, ts, lot, rfl, hw, hu, hok, hlot, hn, hl, fun hb H1 s1 => ⟨true, EU.te, fun _ a ha => ?_, fun z => nomatch z⟩, fun hb z far H1 s1 hF hz => ⟨by show 2 ≤ sizeLine; decide, fun q hq => fine z far H1 s1 hb hF hz q hq⟩⟩
      refine ⟨_, rfl, U, EU.ex, rfl, rfl, .ty "ValueError", .type "ValueError", true, rfl, fun _ h => h, EU.iv, ?_⟩
      refine ⟨true, rfl, iteT ⟨_, rfl, U, EU.ex, rfl, rfl, .ref B, .ref B, true, rfl, fun _ h => h, EU.ib, ?_⟩⟩
      exact ⟨by show 2 ≤ sizeLine; decide, fun q hq => exc _ H1 s1 hb rfl q hq⟩
theorem ok_right {f f0 f1 f2 f3 f4 f5 f6 f7 f8 f9 g1 g2 g3 g4 U B : Addr} {fd fd0 fd1 fd2 fd3 fd4 fd5 fd6 fd7 fd8 fd9 gd1 gd2 gd3 gd4 : FuncData} (D : Df K mg "_law_is_right" sRight pRight f fd) (T : Bl mg) (hisinstance : mg "isinstance" = none) (EU : ErrU K mg U B) (D_cut : Df K mg "cut_of" sCut pCut f0 fd0) (D_all : Df K mg "all_ties" sAll pAll f1 fd1) (D_far : Df K mg "far_end" sFar pFar f2 fd2)
    (D_ways : Df K mg "ways_from" sWays pWays f3 fd3) (D_codd : Df K mg "common_odd" sCodd pCodd f4 fd4) (D_fside : Df K mg "_far_side" sFside pFside f5 fd5) (D_places_x : Df K mg "places_of_cut" sPlaces pPlaces f6 fd6)
    (K_places_x : KBn K fd6 pPlaces 0 ["lot", "web"] (fun _ ws => ws.reverse) (fun _ zs => zs.reverse)) (D_odd : Df K mg "odd_places" sOdd pOdd f7 fd7) (D_even : Df K mg "is_even" sEven pEven f8 fd8) (K_even : KBn K fd8 pEven 0 ["lot", "web"] (fun _ ws => ws.reverse) (fun _ zs => zs.reverse))
    (D_iscut : Df K mg "is_cut" sIscut pIscut f9 fd9) (K_iscut : KBn K fd9 pIscut 0 ["lot", "web"] (fun _ ws => ws.reverse) (fun _ zs => zs.reverse)) (D_counts : Df K mg "_law_counts" sCounts pCounts g1 gd1) (D_leven : Df K mg "_law_is_even" sLeven pLeven g2 gd2)
    (D_col : Df K mg "_law_colours" sCol pCol g3 gd3) (D_told : Df K mg "_law_told" sTold pTold g4 gd4) : FnG P w K mg base CX0 6 f fd pRight (spRight K) := by
  have G_told : FnOk P w K mg base CX0 5 g4 gd4 pTold (spTold K) := ok_told D_told T hisinstance EU D_cut D_all D_far D_ways D_codd D_fside D_places_x K_places_x
  have G_cut : FnOk P w K mg base CX0 1 f0 fd0 pCut (spCut K) := ok_cut D_cut T
  have G_even : FnOk P w K mg base CX0 2 f8 fd8 pEven (spEven K) := ok_even D_even T D_odd
  have G_iscut : FnOk P w K mg base CX0 4 f9 fd9 pIscut (spIscut K) := ok_iscut D_iscut T D_cut D_all D_far D_ways D_codd D_fside
  have G_leven : FnOk P w K mg base CX0 2 g2 gd2 pLeven (spEven K) := ok_leven D_leven T D_counts
  have G_col : FnOk P w K mg base CX0 1 g3 gd3 pCol (spCol K) := ok_col D_col T
  refine okG D.fn scRight (fun vs H Q E h => ?_) (fun cdv A outer s H vs Q E hgd hr h => ?_)
  · obtain ⟨v, u, n, ts, lot, nm, rfl, _⟩ := h
    rfl
  · obtain ⟨v, u, n, ts, lot, nm, rfl, hw, hu, hok, hlot, hn, hl, k⟩ := h
    have hr_told : Room 5 _ := hr
    have hr_iscut : Room 4 _ := hr.mono (by decide)
    have hr_even : Room 2 _ := hr.mono (by decide)
    have hr_leven : Room 2 _ := hr.mono (by decide)
    have hr_cut : Room 1 _ := hr.mono (by decide)
    have hr_col : Room 1 _ := hr.mono (by decide)
    have hu64 := hr.units
    have nd := scRight.nd
    have hends : ∀ t ∈ ts, t.1 < t.2 ∧ t.2 < n := hok.ends
    have hpos : 1 ≤ n := hok.pos
    have hlk : ∀ j ∈ lot, j < ts.length := hlot.2
    have hll : lot.length ≤ 100 := Nat.le_trans (nodup_small _ _ (asc_nodup hlot.1) hlot.2) hl
    have smL : ∀ ks : List Nat, ks.Pairwise (· < ·) → (∀ j ∈ ks, j < 100) → Sm (lotD ks) 1000 4 := fun ks h1 h2 => by
      have h3 := nodup_small 100 ks (asc_nodup h1) h2
      exact (sm_lot fun j hj => by have := h2 j hj; omega).mono (by omega) (by omega)
    have smX : ∀ x : Str, x.length ≤ 100 → (x.cps.toList.all fun c => decide (c < 16 ^ 8)) = true → Sm (.str x) 1 0 := fun x h1 h2 => ⟨by simp only [tiny, h2, decide_eq_true h1, Bool.and_self], by simp only [nodes]; exact Nat.le_refl _, by simp only [PyData.depth]; exact Nat.le_refl _⟩
    have showU : Show (.list [.str "Unfit", .bool true]) := sm_show (sm_lst (c := 1) (k := 0) (by
      intro d hd
      simp only [List.mem_cons, List.not_mem_nil, or_false] at hd
      rcases hd with rfl | rfl
      · exact smX _ (by decide) (by decide)
      · exact sm_boolR _)) (by show 2 * 1 + 1 ≤ 15000; decide) (by decide)
    have showB : ∀ b1 b2 : Bool, Show (.list [.bool b1, .bool b2]) := fun b1 b2 => sm_show (sm_lst (c := 1) (k := 0) (by
      intro d hd
      simp only [List.mem_cons, List.not_mem_nil, or_false] at hd
      rcases hd with rfl | rfl
      · exact sm_boolR _
      · exact sm_boolR _)) (by show 2 * 1 + 1 ≤ 15000; decide) (by decide)
    have showL : ∀ ks : List Nat, ks.Pairwise (· < ·) → (∀ j ∈ ks, j < 100) → Show (.list [.str "told", lotD ks]) := fun ks h1 h2 => sm_show (sm_lst (c := 1000) (k := 4) (by
      intro d hd
      simp only [List.mem_cons, List.not_mem_nil, or_false] at hd
      rcases hd with rfl | rfl
      · exact (smX _ (by decide) (by decide)).mono (by decide) (by decide)
      · exact smL ks h1 h2)) (by show 2 * 1000 + 1 ≤ 15000; decide) (by decide)
    have showK : ∀ ks : List Nat, ks.Pairwise (· < ·) → (∀ j ∈ ks, j < 100) → Show (lotD ks) := fun ks h1 h2 => sm_show (smL ks h1 h2) (by decide) (by decide)
    have hlot100 : ∀ j ∈ lot, j < 100 := fun j hj => by have := hlot.2 j hj; omega
    refine ⟨_, (pss_cons (ps_set (i := 3) nd rfl (by first | exact Or.inl rfl | exact Or.inr rfl) (pe_call G_col hr_col (by rfl) D_col.ad D_col.fn.kp D_col.bd .nil pass0 (pa_cons (pv 0) (pa_cons (pv 1) pa_nil))))
      (pss_cons (ps_set (i := 4) nd rfl (by first | exact Or.inl rfl | exact Or.inr rfl) (pe_ifExp (pt_val (pv 2)) (pe_lst (pa_cons (pe_callK0 G_even hr_even (by rfl) D_even.ad D_even.fn.kp K_even pass0 (pk_cons (pv 1) (pk_cons (pv 0) pk_nil))) (pa_cons (pe_callK0 G_iscut hr_iscut (by rfl) D_iscut.ad D_iscut.fn.kp K_iscut pass0 (pk_cons (pv 1) (pk_cons (pv 0) pk_nil))) pa_nil))) (pe_lst (pa_cons (pe_call G_even hr_even (by rfl) D_even.ad D_even.fn.kp D_even.bd .nil pass0 (pa_cons (pv 0) (pa_cons (pv 1) pa_nil))) (pa_cons (pe_call G_iscut hr_iscut (by rfl) D_iscut.ad D_iscut.fn.kp D_iscut.bd .nil pass0 (pa_cons (pv 0) (pa_cons (pv 1) pa_nil))) pa_nil)))))
      (pss_cons (ps_if (pt_cmpR op_ne (pe_callB (reprK K hgd hu64) (by rfl) T.repr (by decide +kernel) (pa_cons (pv 4) pa_nil)) (pe_callB (reprK K hgd hu64) (by rfl) T.repr (by decide +kernel) (pa_cons (pe_lst (pa_cons (pe_call G_leven hr_leven (by rfl) D_leven.ad D_leven.fn.kp D_leven.bd .nil pass0 (pa_cons (pv 0) (pa_cons (pv 1) pa_nil))) (pa_cons (pe_cmpR (opNeD K hr.units) (pv 3) (pe_lst pa_nil) (nomark _)) pa_nil))) pa_nil)) (nomark _)) (pss_one (ps_ret pe_bl)) pss_nil)
      (pss_cons (ps_set (i := 5) nd rfl (by first | exact Or.inl rfl | exact Or.inr rfl) (pe_callTy (tupleK K) (by rfl) T.tuple (by decide +kernel) (pa_cons (pe_lc (own := [("_law_place", 6), ("_law_colour", 7)]) (g := (gTup K 2 (gCons (gName 6) (gCons (gName 7) gNil)))) rfl nd (pi_enum (by rfl) T.enumerate (pa_cons (pv 3) pa_nil)) (blkOk_by (own := [("_law_place", 6), ("_law_colour", 7)]) (N := nRight) (sc := defScope sRight) (by decide +kernel)) (fun _ _ _ _ _ => (pgT K rfl (pgs_cons (pg_name (i := 6) nd rfl (by first | exact Or.inl rfl | exact Or.inr rfl)) (pgs_cons (pg_name (i := 7) nd rfl (by first | exact Or.inl rfl | exact Or.inr rfl)) pgs_nil)))) (fun _ _ _ _ _ => (pts_one (pt_cmpR op_eq (pv 7) pe_int (nomark _)))) (fun _ _ _ _ _ => (pv 6))) pa_nil)))
      (pss_cons (ps_if (pt_cmpR op_ne (pe_callB (reprK K hgd hu64) (by rfl) T.repr (by decide +kernel) (pa_cons (pe_call G_told hr_told (by rfl) D_told.ad D_told.fn.kp D_told.bd .nil pass0 (pa_cons (pv 0) (pa_cons (pv 1) (pa_cons (pv 2) pa_nil)))) pa_nil)) (pe_callB (reprK K hgd hu64) (by rfl) T.repr (by decide +kernel) (pa_cons (pe_ifExp (pt_cmpR (opEqD K hr.units) (pv 3) (pe_lst pa_nil) (nomark _)) (pe_lst (pa_cons pe_str (pa_cons pe_bl pa_nil))) (pe_lst (pa_cons pe_str (pa_cons (pv 5) pa_nil)))) pa_nil)) (nomark _)) (pss_one (ps_ret pe_bl)) pss_nil)
      (pss_one (ps_ret (pe_or (pe_cmpR (opEqD K hr.units) (pv 3) (pe_lst pa_nil) (nomark _)) (pe_one (pe_cmpR op_eq (pe_callB (reprK K hgd hu64) (by rfl) T.repr (by decide +kernel) (pa_cons (pe_call G_cut hr_cut (by rfl) D_cut.ad D_cut.fn.kp D_cut.bd .nil pass0 (pa_cons (pv 0) (pa_cons (pv 5) pa_nil))) pa_nil)) (pe_callB (reprK K hgd hu64) (by rfl) T.repr (by decide +kernel) (pa_cons (pv 1) pa_nil)) (nomark _))))))))))), ?_⟩
    refine tSeq_go ?_
    refine tAsg_by (fun z H' => ∃ (l : Addr) (far : List Nat), z = .ref l ∧ Same H H' ∧ H' l = some (.lst ((cellsI n (cutB ts lot) far).map V.int)) ∧ (cutB ts lot = true → FarOf n ts lot far)) ?_ (fun cont => ?_)
    rotate_left
    · refine ⟨_, rfl, _, rfl, v, u, n, ts, lot, rfl, hw, hu, hok, hlot, by omega, by omega, fun hb l H1 s1 h1 => cont _ _ ⟨l, [], rfl, s1, by rw [h1, hb]; rfl, fun z => by rw [hb] at z; cases z⟩, fun hb l far H1 s1 hF h1 => cont _ _ ⟨l, far, rfl, s1, by rw [h1, hb, cells_yes], fun _ => hF⟩⟩
    rintro z1 H1 ⟨l, far, rfl, s1, h1, hF⟩
    dsimp only [gName]
    refine at_st [some v, some u, some (.bl nm), some (.ref l), none, none, none, none] rfl ?_
    refine tSeq_go ?_
    refine tAsg_by (fun z H' => ∃ (l2 : Addr), z = .ref l2 ∧ Same H1 H' ∧ H' l2 = some (.lst [.bl (evenB n ts lot), .bl (cutB ts lot)])) ?_ (fun cont => ?_)
    rotate_left
    · refine ⟨_, rfl, nm, rfl, ?_⟩
      refine ite2 (fun hh => ?_) (fun hh => ?_)
      · refine ⟨_, rfl, _, rfl, rfl, v, u, n, ts, lot, rfl, dp_same s1 _ hw, dp_same s1 _ hu, hends, hlk, by omega, fun H2 s2 => ?_⟩
        refine ⟨_, rfl, _, rfl, rfl, v, u, n, ts, lot, rfl, dp_same (s1.trans s2) _ hw, dp_same (s1.trans s2) _ hu, hok, hlot, by omega, by omega, fun H3 s3 => ?_⟩
        exact ⟨by show 2 ≤ sizeLine; decide, fun q hq => cont _ _ ⟨q, rfl, s2.trans (s3.trans (same_new hq)), upd_same⟩⟩
      · refine ⟨_, rfl, _, rfl, v, u, n, ts, lot, rfl, dp_same s1 _ hw, dp_same s1 _ hu, hends, hlk, by omega, fun H2 s2 => ?_⟩
        refine ⟨_, rfl, _, rfl, v, u, n, ts, lot, rfl, dp_same (s1.trans s2) _ hw, dp_same (s1.trans s2) _ hu, hok, hlot, by omega, by omega, fun H3 s3 => ?_⟩
        exact ⟨by show 2 ≤ sizeLine; decide, fun q hq => cont _ _ ⟨q, rfl, s2.trans (s3.trans (same_new hq)), upd_same⟩⟩
    rintro z2 H2 ⟨l2, rfl, s2, h2⟩
    dsimp only [gName]
    refine at_st [some v, some u, some (.bl nm), some (.ref l), some (.ref l2), none, none, none] rfl ?_
    have s02 := s1.trans s2
    have hcl : ∀ H', Same H1 H' → Dp K H' (.ref l) (.list ((cellsI n (cutB ts lot) far).map PyData.int)) := fun H' s => .lst (SqL.of (s _ _ h1)) (dpAll_ints _)
    refine tSeq_go ?_
    refine tIfS_t (fun t H' => Same H2 H' ∧ t = false) ?_ ?_ (fun cont2 => ?_)
    · rintro H' ⟨_, z⟩
      cases z
    · rintro H3 ⟨s3, _⟩
      have s13 := s2.trans s3
      have s03 := s02.trans s3
      dsimp only [tNext]
      refine tSeq_go ?_
      refine tAsg_by (fun z H' => ∃ (l3 : Addr), z = .ref l3 ∧ Same H3 H' ∧ SqT K H' l3 (natsV (dueL n (cutB ts lot) far (cellsI n (cutB ts lot) far).length))) ?_ (fun cont => ?_)
      rotate_left
      · refine ⟨_, rfl, l, _, rfl, SqL.of (s13 _ _ h1), fun E1 hE1 => ?_⟩
        refine lc_run (walk_enum (xs := (cellsI n (cutB ts lot) far).map V.int)) hE1 (fun i acc _ => acc = natsV (dueL n (cutB ts lot) far i)) ?_ ?_ ?_ ?_
        · exact fun H' s => SqL.of ((s13.trans s) _ _ h1)
        · rfl
        · rintro i x acc H5 H' hi hacc e s r ⟨q, y, z, rfl, hq, rfl, hy, hz⟩
          have hy' : some (V.int i) = some y := hy
          cases hy'
          have hz' : ((cellsI n (cutB ts lot) far).map V.int)[i]? = some z := hz
          obtain ⟨c, hc, rfl⟩ := get_map hz'
          have sq := same_new (o := .tup [.int i, .int c]) hq
          refine ⟨q, _, rfl, SqT.of upd_same, rfl, _, _, rfl, _, _, rfl, rfl, rfl, ?_⟩
          refine ⟨_, rfl, rfl, _, rfl, ?_⟩
          have r' : acc = natsV (dueL n (cutB ts lot) far i) := r
          have hal : acc.length ≤ i := by
            rw [r']
            unfold natsV dueL
            rw [List.length_map]
            exact Nat.le_trans (List.length_filter_le _ _) (by rw [List.length_range]; exact Nat.le_refl _)
          have hi2 : i < n := by
            have := cells_len n (cutB ts lot) far
            rw [List.length_map] at hi
            omega
          have key : decide (V.int c = V.int 1) = decide ((cellsI n (cutB ts lot) far)[i]? = some 1) := by
            rw [hc]
            exact decide_eq_decide.mpr ⟨fun z => by cases z; rfl, fun z => by cases z; rfl⟩
          refine ite2 (fun hh => ?_) (fun hh => ?_)
          · refine ⟨_, rfl, ?_⟩
            refine lc_add hacc e sq (by omega) ?_
            show _ = _
            unfold dueL natsV
            rw [range_filter_succ, if_pos (by rw [← key]; exact hh), List.map_append, r']
            rfl
          · refine lc_skip hacc e sq ?_
            show _ = _
            unfold dueL natsV
            rw [range_filter_succ, if_neg (by rw [← key]; exact hh), List.append_nil]
            exact r'
        · rintro acc H5 g5 s5 r
          rw [List.length_map] at r
          have r' : acc = natsV (dueL n (cutB ts lot) far (cellsI n (cutB ts lot) far).length) := r
          refine ⟨E1, _, rfl, .inl ⟨SqL.of g5, fun q hq => ?_⟩⟩
          exact cont _ _ ⟨q, rfl, s5.trans (same_new hq), SqT.of (by rw [upd_same, r'])⟩
      rintro z3 H4 ⟨l3, rfl, s4, h4⟩
      have s04 := s03.trans s4
      have s14 := s13.trans s4
      dsimp only [gName]
      refine at_st [some v, some u, some (.bl nm), some (.ref l), some (.ref l2), some (.ref l3), none, none] rfl ?_
      refine tSeq_go ?_
      refine tIfS_t (fun t H' => Same H4 H' ∧ t = false) ?_ ?_ (fun cont3 => ?_)
      · rintro H' ⟨_, z⟩
        cases z
      · rintro H5 ⟨s5, _⟩
        have s05 := s04.trans s5
        dsimp only [tNext]
        refine ⟨_, rfl, Nat.zero_le _, fun p hp => ?_⟩
        have sp : Same H5 (upd H5 p (.lst [])) := same_new hp
        refine ⟨_, .list [], hcl _ (s14.trans (s5.trans sp)), .lst (SqL.of upd_same) .nil, shaped_intsL _, shaped_intsL [], _, rfl, ?_⟩
        rw [cells_eqv hpos]
        cases hb : cutB ts lot with
        | false => exact iteT (k _ (s05.trans sp))
        | true =>
          refine iteF ?_
          have hF2 := hF hb
          rw [hb, due_all hF2] at h4
          have s6 := s05.trans sp
          refine ⟨_, rfl, _, rfl, v, .ref l3, n, ts, far, rfl, dp_same s6 _ hw, lot_dp (sqT_same (s5.trans sp) h4), by omega, fun z H7 s7 hz => ?_⟩
          rw [cutL_of hlot hF2.1] at hz
          refine ⟨z, _, rfl, hz, showK lot hlot.1 hlot100, ?_⟩
          refine ⟨_, rfl, u, _, rfl, dp_same (s6.trans s7) _ hu, showK lot hlot.1 hlot100, rfl, ?_⟩
          rw [decide_eq_true rfl]
          exact k _ (s6.trans s7)
      · refine ⟨_, rfl, _, rfl, _, rfl, v, u, n, ts, lot, nm, rfl, dp_same s04 _ hw, dp_same s04 _ hu, hok, hlot, by omega, by omega, ?_, ?_⟩
        · intro hb z H5 s5 hz
          refine ⟨z, _, rfl, hz, showU, ?_⟩
          refine ⟨_, rfl, Nat.zero_le _, fun p hp => ?_⟩
          have sp : Same H5 (upd H5 p (.lst [])) := same_new hp
          refine ⟨_, .list [], hcl _ (s14.trans (s5.trans sp)), .lst (SqL.of upd_same) .nil, shaped_intsL _, shaped_intsL [], ?_⟩
          rw [cells_eqv hpos, hb]
          refine ⟨_, rfl, iteT ?_⟩
          refine ⟨by show 2 ≤ sizeLine; decide, fun q hq => ?_⟩
          refine ⟨.ref q, .list [.str "Unfit", .bool true], rfl, .lst (SqL.of upd_same) (.cons (.str _) (.cons (.bl _) .nil)), showU, rfl, _, rfl, ?_⟩
          exact cont3 _ _ ⟨s5.trans (sp.trans (same_new hq)), by simp⟩
        · intro hb z far2 H5 s5 hF2 hz
          obtain rfl := far_same hok (hF hb) hF2
          have hfar : ∀ j ∈ far, j < 100 := fun j hj => by have := hF2.2.2.2 j hj; omega
          refine ⟨z, _, rfl, hz, showL far hF2.2.1 hfar, ?_⟩
          refine ⟨_, rfl, Nat.zero_le _, fun p hp => ?_⟩
          have sp : Same H5 (upd H5 p (.lst [])) := same_new hp
          refine ⟨_, .list [], hcl _ (s14.trans (s5.trans sp)), .lst (SqL.of upd_same) .nil, shaped_intsL _, shaped_intsL [], ?_⟩
          rw [cells_eqv hpos, hb]
          refine ⟨_, rfl, iteF ?_⟩
          rw [hb, due_all hF2] at h4
          refine ⟨_, rfl, by show 2 ≤ sizeLine; decide, fun q hq => ?_⟩
          have sq := same_new (o := .lst [.str "told", .ref l3]) hq
          refine ⟨.ref q, .list [.str "told", lotD far], rfl, .lst (SqL.of upd_same) (.cons (.str _) (.cons (lot_dp (sqT_same (s5.trans (sp.trans sq)) h4)) .nil)), showL far hF2.2.1 hfar, rfl, _, rfl, ?_⟩
          exact cont3 _ _ ⟨s5.trans (sp.trans sq), by simp⟩
    · refine ⟨_, rfl, .ref l2, .list [.bool (evenB n ts lot), .bool (cutB ts lot)], rfl, .lst (SqL.of h2) (.cons (.bl _) (.cons (.bl _) .nil)), showB _ _, ?_⟩
      refine ⟨_, rfl, _, rfl, v, u, n, ts, lot, rfl, dp_same s02 _ hw, dp_same s02 _ hu, hends, hlk, by omega, fun H3 s3 => ?_⟩
      refine ⟨_, rfl, Nat.zero_le _, fun p hp => ?_⟩
      have sp : Same H3 (upd H3 p (.lst [])) := same_new hp
      refine ⟨_, .list [], hcl _ (s2.trans (s3.trans sp)), .lst (SqL.of upd_same) .nil, shaped_intsL _, shaped_intsL [], ?_⟩
      rw [cells_eqv hpos, Bool.not_not]
      refine ⟨by show 2 ≤ sizeLine; decide, fun q hq => ?_⟩
      refine ⟨.ref q, .list [.bool (evenB n ts lot), .bool (cutB ts lot)], rfl, .lst (SqL.of upd_same) (.cons (.bl _) (.cons (.bl _) .nil)), showB _ _, rfl, _, rfl, ?_⟩
      exact cont2 _ _ ⟨s3.trans (sp.trans (same_new hq)), by simp⟩
end
end BV

namespace BV
open PySem L2
abbrev sWalk : Stmt := top 26
abbrev nWalk : List Str := ["_law_box_here", "_law_web_here", "_law_place", "_law_found", "_law_met", "_law_turn", "_law_some", "_law_tie", "_law_one", "_law_other", "_law_lot", "_law_step", "_law_k"]
abbrev pWalk : List Str := ["_law_box_here", "_law_web_here"]
theorem scWalk : FnScope nWalk pWalk (defScope sWalk) := ⟨rfl, rfl, rfl, by decide +kernel, rfl, by decide +kernel, by decide +kernel⟩

theorem kp_old {b g l : Addr} {H H1 : Hp} (kp : Kp b g H H1) (h : H1 l = none) (n1 : l ≠ b) (n2 : l ≠ g) : H l = none := by
  cases e : H l with
  | none => rfl
  | some o =>
    have := kp _ _ e n1 n2
    rw [h] at this
    cases this
theorem kp_upd {b g l : Addr} {H H1 : Hp} {o : HO} (h : H l = none) (kp : Kp b g H H1) : Kp b g H (upd H1 l o) := fun a x e n1 n2 => by
  rw [upd_ne (ne_of_none e h)]
  exact kp _ _ e n1 n2
theorem box_upd {b g l : Addr} {H : Hp} {o : HO} (x : Box H b g) (n1 : l ≠ b) (n2 : l ≠ g) : Box (upd H l o) b g := by
  obtain ⟨⟨st, c, x1⟩, ns, x2, x3⟩ := x
  exact ⟨⟨st, c, by rw [upd_ne n1.symm]; exact x1⟩, ns, by rw [upd_ne n2.symm]; exact x2, x3⟩
theorem first_at {p : Nat} : ∀ {ms : List Nat}, p ∈ ms → ∃ j : Nat, ms[j]? = some p ∧ ∀ m q : Nat, m < j → ms[m]? = some q → q ≠ p
  | [], h => nomatch h
  | q :: ms, h => by
    by_cases e : q = p
    · exact ⟨0, by rw [e]; rfl, fun m _ hm => absurd hm (Nat.not_lt_zero m)⟩
    · obtain ⟨j, h1, h2⟩ := first_at ((List.mem_cons.mp h).resolve_left fun z => e z.symm)
      refine ⟨j + 1, h1, fun m x hm hx => ?_⟩
      cases m with
      | zero =>
        cases hx
        exact e
      | succ m => exact h2 m x (by omega) hx
theorem eqv_nats (ks : List Nat) : (PyData.list ((ks.map fun (k : Nat) => (k : Int)).map PyData.int)).eqv (.list []) = decide (ks = []) := by
  cases ks with
  | nil => rfl
  | cons k ks => rfl
theorem natsV_ints (ks : List Nat) : natsV ks = (ks.map fun (k : Nat) => (k : Int)).map V.int := by
  unfold natsV
  rw [List.map_map]
  rfl
theorem natsV_snoc (ks : List Nat) (k : Nat) : natsV ks ++ [V.int k] = natsV (ks ++ [k]) := by
  unfold natsV
  rw [List.map_append]
  rfl
theorem cutV_mem {xs : List V} {lo hi : Option Int} {v : V} (h : v ∈ cutV xs lo hi) : v ∈ xs := by
  unfold cutV at h
  exact List.mem_of_mem_drop (List.mem_of_mem_take h)
def spWalk (K : PySem.W.Frag) : Sp := fun vs H Q _ => ∃ (b g : Addr) (v : V) (n : Nat) (ts : List Tie), vs = [.ref b, v] ∧ Dp K H v (webD n ts) ∧ Box H b g ∧ (∀ t ∈ ts, t.1 < t.2 ∧ t.2 < n) ∧ 1 ≤ n ∧ n ≤ 1000 ∧ ts.length ≤ 60 ∧
  ∀ (z : V) (r : List Nat) H', Kp b g H H' → Box H' b g → LotA ts.length r → Dp K H' z (lotD r) → Q z H'
section
variable {P : Program} {w : World} {K : PySem.W.Frag} {mg : Str → Option Value} {base : Heap}
theorem ok_walk {f f1 f2 f3 : Addr} {fd fd1 fd2 fd3 : FuncData} (D : Df K mg "_law_walk" sWalk pWalk f fd) (T : Bl mg) (hsorted : mg "sorted" = none)
    (D_draw : Df K mg "_law_draw" sDraw ["_law_box_here", "_law_many"] f1 fd1) (D_pick : Df K mg "_law_pick" sPick nPick f2 fd2) (D_lsum : Df K mg "_law_sum" sLsum pLsum f3 fd3) : FnOk P w K mg base CX0 3 f fd pWalk (spWalk K) := by
  have G_draw : FnOk P w K mg base CX0 1 f1 fd1 ["_law_box_here", "_law_many"] spDraw := ok_draw D_draw T
  have G_pick : FnOk P w K mg base CX0 2 f2 fd2 nPick (spPick K) := ok_pick D_pick T D_draw
  have G_lsum : FnOk P w K mg base CX0 1 f3 fd3 pLsum (spLsum K) := ok_lsum D_lsum T hsorted
  refine D.fn.ok scWalk (fun vs H Q E h => ?_) (fun cdv A outer s H vs Q E hr h => ?_)
  · obtain ⟨b, g, v, n, ts, rfl, _⟩ := h
    rfl
  · obtain ⟨b, g, v, n, ts, rfl, hw, hB, hends, hpos, hn, hl, k⟩ := h
    have hr_pick : Room 2 _ := hr
    have hr_draw : Room 1 _ := hr.mono (by decide)
    have hr_lsum : Room 1 _ := hr.mono (by decide)
    have nd := scWalk.nd
    obtain ⟨a, c, ys, rfl, ha, hc, hys⟩ := dp_web hw
    have empty : ∀ H', Kp b g H H' → Box H' b g → ∀ q, H' q = none → Q (.ref q) (upd H' q (.tup [])) := fun H' kp hB' q hq => k _ [] _ (kp.trans (Kp.new hq)) (hB'.same (same_new hq)) ⟨List.Pairwise.nil, (fun _ h => nomatch h)⟩ (lot_dp (SqT.of upd_same))
    refine ⟨_, (pss_cons (ps_asg (pe_tup (pa_cons (pe_call G_draw hr_draw (by rfl) D_draw.ad D_draw.fn.kp D_draw.bd .nil pass0 (pa_cons (pv 0) (pa_cons (pe_ix (ixT K) (pv 1) pe_int (fun _ _ => rfl)) pa_nil))) (pa_cons (pe_lst pa_nil) (pa_cons (pe_lst pa_nil) pa_nil)))) (pgT K rfl (pgs_cons (pg_name (i := 2) nd rfl (by first | exact Or.inl rfl | exact Or.inr rfl)) (pgs_cons (pg_name (i := 3) nd rfl (by first | exact Or.inl rfl | exact Or.inr rfl)) (pgs_cons (pg_name (i := 4) nd rfl (by first | exact Or.inl rfl | exact Or.inr rfl)) pgs_nil)))))
      (pss_cons (ps_for PassesOwn.never rfl (pi_range1 rfl T.range (pa_cons (pe_op op_mul pe_int (pe_ix (ixT K) (pv 1) pe_int (fun _ _ => rfl))) pa_nil)) (pg_name (i := 5) nd rfl (by first | exact Or.inl rfl | exact Or.inr rfl)) (pss_cons (ps_setLc (i := 6) (own := [("_law_k", 12), ("_law_tie", 7)]) (g := (gTup K 2 (gCons (gName 12) (gCons (gName 7) gNil)))) rfl nd rfl rfl (sw_true rfl rfl rfl (by decide +kernel)) (enumT K (by rfl) T.enumerate (pa_cons (pe_ix (ixT K) (pv 1) pe_int (fun _ _ => rfl)) pa_nil)) (blkOk_by (own := [("_law_k", 12), ("_law_tie", 7)]) (N := nWalk) (sc := defScope sWalk) (by decide +kernel)) (fun _ _ _ _ _ => (pgT K rfl (pgs_cons (pg_name (i := 12) nd rfl (by first | exact Or.inl rfl | exact Or.inr rfl)) (pgs_cons (pg_name (i := 7) nd rfl (by first | exact Or.inl rfl | exact Or.inr rfl)) pgs_nil)))) (fun _ _ _ _ _ => (pts_one (pt_cmpR (opIn K) (pv 2) (pv 7) rfl))) (fun _ _ _ _ _ => (pv 12)))
      (pss_cons (ps_if (pt_cmpR (opEqD K hr.units) (pv 6) (pe_lst pa_nil) (nomark _)) (pss_one (ps_ret (pe_tup pa_nil))) pss_nil)
      (pss_cons (ps_set (i := 7) nd rfl (by first | exact Or.inl rfl | exact Or.inr rfl) (pe_call G_pick hr_pick (by rfl) D_pick.ad D_pick.fn.kp D_pick.bd .nil pass0 (pa_cons (pv 0) (pa_cons (pv 6) pa_nil))))
      (pss_cons (ps_asg (pe_ix (ixT K) (pe_ix (ixT K) (pv 1) pe_int (fun _ _ => rfl)) (pv 7) (fun _ _ => rfl)) (pgT K rfl (pgs_cons (pg_name (i := 8) nd rfl (by first | exact Or.inl rfl | exact Or.inr rfl)) (pgs_cons (pg_name (i := 9) nd rfl (by first | exact Or.inl rfl | exact Or.inr rfl)) pgs_nil))))
      (pss_cons (ps_expr (pe_bm PySem.F.plainAttrs_list PySem.F.slot_list_append PySem.F.type_list_append mt_append (pv 4) (pa_cons (pv 2) pa_nil)))
      (pss_cons (ps_expr (pe_bm PySem.F.plainAttrs_list PySem.F.slot_list_append PySem.F.type_list_append mt_append (pv 3) (pa_cons (pv 7) pa_nil)))
      (pss_cons (ps_set (i := 2) nd rfl (by first | exact Or.inl rfl | exact Or.inr rfl) (pe_ifExp (pt_cmpR op_eq (pv 2) (pv 8) (nomark _)) (pv 9) (pv 8)))
      (pss_one (ps_if (pt_cmpR (opIn K) (pv 2) (pv 4) rfl) (pss_cons (ps_set (i := 10) nd rfl (by first | exact Or.inl rfl | exact Or.inr rfl) (pe_tup pa_nil))
      (pss_cons (ps_for PassesOwn.never rfl (piL K (pe_slice (slL K) (pv 3) (po_some (pe_bm PySem.F.plainAttrs_list PySem.F.slot_list_index PySem.F.type_list_index mt_index (pv 4) (pa_cons (pv 2) pa_nil))) po_none)) (pg_name (i := 11) nd rfl (by first | exact Or.inl rfl | exact Or.inr rfl)) (pss_one (ps_set (i := 10) nd rfl (by first | exact Or.inl rfl | exact Or.inr rfl) (pe_call G_lsum hr_lsum (by rfl) D_lsum.ad D_lsum.fn.kp D_lsum.bd .nil pass0 (pa_cons (pv 10) (pa_cons (pe_tup (pa_cons (pv 11) pa_nil)) pa_nil))))))
      (pss_one (ps_ret (pv 10))))) pss_nil))))))))))
      (pss_one (ps_ret (pe_tup pa_nil))))), ?_⟩
    refine tSeq_go ?_
    refine ⟨_, rfl, _, rfl, a, _, _, _, rfl, rfl, ha, atI_nat (j := 0) rfl, b, g, (n : Int), rfl, by omega, by omega, hB, fun r H1 r0 r1 kp1 hB1 => ?_⟩
    obtain ⟨p0, rfl⟩ : ∃ j : Nat, r = (j : Int) := ⟨r.toNat, by omega⟩
    refine ⟨Nat.zero_le _, fun lf hlf => ⟨Nat.zero_le _, fun lm hlm => ⟨by show 3 ≤ sizeLine; decide, fun tq htq => ?_⟩⟩⟩
    have s1 := same_new (o := .lst []) hlf
    have s2 := same_new (o := .lst []) hlm
    obtain ⟨fb, fg⟩ := bx_ne hB1 hlf
    obtain ⟨mb, mg2⟩ := bx_ne (hB1.same s1) hlm
    have nfm : lf ≠ lm := by
      rintro rfl
      rw [upd_same] at hlm
      cases hlm
    have hfH : H lf = none := kp_old kp1 hlf fb fg
    have hmH : H lm = none := kp_old kp1 (Same.free s1 hlm) mb mg2
    have s3 := same_new (o := .tup [.int (p0 : Nat), .ref lf, .ref lm]) htq
    refine ⟨tq, _, rfl, SqT.of upd_same, rfl, _, _, rfl, _, _, rfl, _, _, rfl, rfl, ?_⟩
    dsimp only [gName]
    refine at_st [some (.ref b), some (.ref a), some (.int (p0 : Nat)), some (.ref lf), some (.ref lm), none, none, none, none, none, none, none, none] rfl ?_
    refine tSeq_go ?_
    have kp2 := kp1.trans (Kp.same (s1.trans (s2.trans s3)))
    have hB2 := hB1.same (s1.trans (s2.trans s3))
    refine ⟨_, rfl, a, _, _, _, rfl, rfl, sqT_kf (KF.of_kp kp2 hB) ha, atI_nat (j := 0) rfl, _, _, rfl, rfl, (.inl ⟨by decide, by decide⟩), (2 * (n : Int)), rfl, by omega, by omega, ?_⟩
    refine for_range (lo := 0) (n := (2 * (n : Int)).toNat) (fun i σ H' => ∃ (p : Nat) (fs ms : List Nat) (v5 v6 v7 v8 v9 v10 v11 v12 : Option V), σ = [some (.ref b), some (.ref a), some (.int (p : Nat)), some (.ref lf), some (.ref lm), v5, v6, v7, v8, v9, v10, v11, v12] ∧
      Kp b g H H' ∧ Box H' b g ∧ H' lf = some (.lst (natsV fs)) ∧ H' lm = some (.lst (natsV ms)) ∧ p < n ∧ fs.length ≤ i ∧ ms.length ≤ i ∧ ∀ k ∈ fs, k < ts.length) ?_ ?_ ?_
    · refine ⟨p0, [], [], none, none, none, none, none, none, none, none, rfl, kp2, hB2, (s2.trans s3) _ _ upd_same, s3 _ _ upd_same, by omega, Nat.le_refl _, Nat.le_refl _, (fun _ h => nomatch h)⟩
    · rintro i σ H3 hi ⟨p, fs, ms, v5, v6, v7, v8, v9, v10, v11, v12, rfl, kp3, hB3, hf3, hm3, hp, hfl, hml, hfs⟩
      rw [Int.zero_add]
      have ha3 := sqT_kf (KF.of_kp kp3 hB) ha
      have hc3 := sqT_kf (KF.of_kp kp3 hB) hc
      have hys3 := dpAll_kf (KF.of_kp kp3 hB) _ (still_ties ts) hys
      have hi2 : i < 2000 := by omega
      show tSeq _ _ _ _ _
      refine tSeq_go ?_
      refine lc_hits hc3 hys3 (by omega) (fun Q q => ⟨_, rfl, a, _, _, _, rfl, rfl, ha3, atI_nat (j := 1) rfl, q⟩) (fun _ _ => rfl) (fun _ _ => rfl) (fun _ _ => rfl) (fun _ _ => rfl) (fun ls H4 hls s4 hlsn => ?_)
      dsimp only [gName]
      refine at_st [some (.ref b), some (.ref a), some (.int (p : Nat)), some (.ref lf), some (.ref lm), some (.int (i : Nat)), some (.ref ls), v7, v8, v9, v10, v11, v12] rfl ?_
      obtain ⟨lb, lg⟩ := bx_ne hB3 hlsn
      have hls' : H4 ls = some (.lst (natsV (tiesAt ts p))) := hls
      refine tSeq_go ?_
      refine ⟨_, rfl, Nat.zero_le _, fun q0 hq0 => ?_⟩
      have s5 := same_new (o := .lst []) hq0
      have s35 := s4.trans s5
      have kp5 := kp3.trans (Kp.same s35)
      have hB5 := hB3.same s35
      refine ⟨.list (((tiesAt ts p).map fun (k : Nat) => (k : Int)).map PyData.int), .list [], .lst (SqL.of (by rw [s5 _ _ hls', natsV_ints])) (dpAll_ints _), .lst (SqL.of upd_same) .nil, shaped_intsL _, shaped_intsL [], _, rfl, ?_⟩
      rw [eqv_nats]
      refine ite2 (fun hh => ?_) (fun hh => ?_)
      · exact ⟨Nat.zero_le _, fun q hq => empty _ kp5 hB5 q hq⟩
      have hne : tiesAt ts p ≠ [] := fun e => hh (decide_eq_true e)
      have hlen0 : 0 < (natsV (tiesAt ts p)).length := by
        unfold natsV
        rw [List.length_map]
        exact List.length_pos_iff.mpr hne
      have hlen1 : (natsV (tiesAt ts p)).length ≤ 60 := by
        unfold natsV tiesAt
        rw [List.length_map]
        exact Nat.le_trans (List.length_filter_le _ _) (by rw [List.length_range]; exact hl)
      have hls5 := s5 _ _ hls'
      have hf5 := s35 _ _ hf3
      have hm5 := s35 _ _ hm3
      generalize upd H4 q0 (.lst []) = H5 at *
      dsimp only [tNext]
      refine tSeq_go ?_
      refine ⟨_, rfl, _, rfl, b, g, ls, natsV (tiesAt ts p), rfl, SqL.of hls5, lb, lg, hlen0, by omega, hB5, fun j v H6 hv kp56 hB6 => ?_⟩
      obtain ⟨kk, hkk, rfl⟩ := get_map hv
      have hkl : kk < ts.length := List.mem_range.mp (List.mem_filter.mp (List.mem_of_getElem? hkk)).1
      have ht : ts[kk]? = some ts[kk] := List.getElem?_eq_getElem hkl
      generalize ts[kk] = t at ht
      have hte := hends t (List.mem_of_getElem? ht)
      have kp6 := kp5.trans kp56
      have hf6 := kp56 _ _ hf5 fb fg
      have hm6 := kp56 _ _ hm5 mb mg2
      dsimp only [gName]
      refine at_st [some (.ref b), some (.ref a), some (.int (p : Nat)), some (.ref lf), some (.ref lm), some (.int (i : Nat)), some (.ref ls), some (.int (kk : Nat)), v8, v9, v10, v11, v12] rfl ?_
      have ha6 := sqT_kf (KF.of_kp kp6 hB) ha
      have hc6 := sqT_kf (KF.of_kp kp6 hB) hc
      have hys6 := dpAll_kf (KF.of_kp kp6 hB) _ (still_ties ts) hys
      obtain ⟨y, hy, hyd⟩ := dpAll_at hys6 (show (ts.map tieD)[kk]? = some (tieD t) by rw [List.getElem?_map, ht]; rfl)
      obtain ⟨az, rfl, haz⟩ := dp_tie hyd
      refine tSeq_go ?_
      refine ⟨_, rfl, a, _, _, _, rfl, rfl, ha6, atI_nat (j := 1) rfl, _, rfl, c, _, _, _, rfl, rfl, hc6, atI_nat hy, az, _, rfl, haz, rfl, _, _, rfl, _, _, rfl, rfl, ?_⟩
      dsimp only [gName]
      refine at_st [some (.ref b), some (.ref a), some (.int (p : Nat)), some (.ref lf), some (.ref lm), some (.int (i : Nat)), some (.ref ls), some (.int (kk : Nat)), some (.int (t.1 : Nat)), some (.int (t.2 : Nat)), v10, v11, v12] rfl ?_
      refine tSeq_go ?_
      refine ⟨_, rfl, .inl ⟨rfl, _, SqL.of hm6⟩, _, rfl, lm, _, _, rfl, rfl, hm6, ?_, ?_⟩
      · unfold natsV
        rw [List.length_map]
        exact Nat.lt_of_lt_of_le (show ms.length < 100000 by omega) (by decide)
      rw [natsV_snoc]
      have kp7 := kp_upd (o := .lst (natsV (ms ++ [p]))) hmH kp6
      have hB7 := box_upd (o := .lst (natsV (ms ++ [p]))) hB6 mb mg2
      have hm7 : (upd H6 lm (.lst (natsV (ms ++ [p])))) lm = some (.lst (natsV (ms ++ [p]))) := upd_same
      have hf7 : (upd H6 lm (.lst (natsV (ms ++ [p])))) lf = some (.lst (natsV fs)) := by
        rw [upd_ne nfm]
        exact hf6
      generalize upd H6 lm (.lst (natsV (ms ++ [p]))) = H7 at *
      dsimp only
      refine tSeq_go ?_
      refine ⟨_, rfl, .inl ⟨rfl, _, SqL.of hf7⟩, _, rfl, lf, _, _, rfl, rfl, hf7, ?_, ?_⟩
      · unfold natsV
        rw [List.length_map]
        exact Nat.lt_of_lt_of_le (show fs.length < 100000 by omega) (by decide)
      rw [natsV_snoc]
      have kp8 := kp_upd (o := .lst (natsV (fs ++ [kk]))) hfH kp7
      have hB8 := box_upd (o := .lst (natsV (fs ++ [kk]))) hB7 fb fg
      have hf8 : (upd H7 lf (.lst (natsV (fs ++ [kk])))) lf = some (.lst (natsV (fs ++ [kk]))) := upd_same
      have hm8 : (upd H7 lf (.lst (natsV (fs ++ [kk])))) lm = some (.lst (natsV (ms ++ [p]))) := by
        rw [upd_ne nfm.symm]
        exact hm7
      generalize upd H7 lf (.lst (natsV (fs ++ [kk]))) = H8 at *
      dsimp only
      refine tSeq_go ?_
      refine tAsg_by (fun z H' => ∃ p2 : Nat, p2 < n ∧ z = .int (p2 : Nat) ∧ H8 = H') ?_ (fun cont => ?_)
      rotate_left
      · refine ⟨_, rfl, _, rfl, rfl, _, rfl, ?_⟩
        refine ite2 (fun hh => ?_) (fun hh => ?_)
        · exact ⟨_, rfl, cont _ _ ⟨t.2, hte.2, rfl, rfl⟩⟩
        · exact ⟨_, rfl, cont _ _ ⟨t.1, by omega, rfl, rfl⟩⟩
      rintro z8 H8' ⟨p2, hp2, rfl, rfl⟩
      dsimp only [gName]
      refine at_st [some (.ref b), some (.ref a), some (.int (p2 : Nat)), some (.ref lf), some (.ref lm), some (.int (i : Nat)), some (.ref ls), some (.int (kk : Nat)), some (.int (t.1 : Nat)), some (.int (t.2 : Nat)), v10, v11, v12] rfl ?_
      have hfs2 : ∀ k ∈ fs ++ [kk], k < ts.length := fun x hx => by
        rcases List.mem_append.mp hx with z | z
        · exact hfs x z
        · rw [List.mem_singleton.mp z]
          exact hkl
      refine ⟨_, rfl, _, rfl, lm, _, rfl, .inl (SqL.of hm8), rfl, flat_nats _, _, rfl, ?_⟩
      have key : inV (V.int (p2 : Int)) ((ms ++ [p]).map fun (k : Nat) => V.int k) = decide (p2 ∈ ms ++ [p]) := inv_nats p2 _
      refine ite2 (fun hh => ?_) (fun hh => ?_)
      · have hh2 : inV (V.int (p2 : Int)) ((ms ++ [p]).map fun (k : Nat) => V.int k) = true := hh
        rw [key] at hh2
        obtain ⟨j2, hj2, hno⟩ := first_at (of_decide_eq_true hh2)
        refine tSeq_go ?_
        refine ⟨Nat.zero_le _, fun q hq => ?_⟩
        have s9 := same_new (o := .tup []) hq
        have kp9 := kp8.trans (Kp.same s9)
        have hB9 := hB8.same s9
        have hf9 := s9 _ _ hf8
        have hm9 := s9 _ _ hm8
        have hq9 : (upd H8 q (.tup [])) q = some (.tup []) := upd_same
        generalize upd H8 q (.tup []) = H9 at *
        dsimp only [gName]
        refine at_st [some (.ref b), some (.ref a), some (.int (p2 : Nat)), some (.ref lf), some (.ref lm), some (.int (i : Nat)), some (.ref ls), some (.int (kk : Nat)), some (.int (t.1 : Nat)), some (.int (t.2 : Nat)), some (.ref q), v11, v12] rfl ?_
        refine tSeq_go ?_
        refine ⟨_, rfl, _, rfl, .inl ⟨rfl, _, SqL.of hm9⟩, _, rfl, lm, _, .int (p2 : Nat), j2, .int (p2 : Nat), rfl, rfl, SqL.of hm9, rfl, flat_nats _, ?_, ?_, ?_, ?_⟩
        · unfold natsV
          rw [List.getElem?_map, hj2]
          rfl
        · simp [eqV]
        · intro m z' hm hz'
          obtain ⟨x, hx, rfl⟩ := get_map hz'
          have := hno m x hm hx
          simp [eqV]
          omega
        refine ⟨_, rfl, lf, _, rfl, SqL.of hf9, fun ps hps => ?_⟩
        have s10 := same_new (o := .lst (cutV (natsV (fs ++ [kk])) (some (j2 : Int)) none)) hps
        refine ⟨ps, rfl, ⟨_, SqL.of upd_same⟩, for_it (walk_list (xs := cutV (natsV (fs ++ [kk])) (some (j2 : Int)) none)) (fun _ σ H' => ∃ (z : V) (r : List Nat) (v11 : Option V), σ = [some (.ref b), some (.ref a), some (.int (p2 : Nat)), some (.ref lf), some (.ref lm), some (.int (i : Nat)), some (.ref ls), some (.int (kk : Nat)), some (.int (t.1 : Nat)), some (.int (t.2 : Nat)), some z, v11, v12] ∧
          Same (upd H9 ps (.lst (cutV (natsV (fs ++ [kk])) (some (j2 : Int)) none))) H' ∧ LotA ts.length r ∧ Dp K H' z (lotD r)) ?_ ?_ ?_ ?_⟩
        · exact ⟨.ref q, [], v11, rfl, Same.refl _, ⟨List.Pairwise.nil, (fun _ h => nomatch h)⟩, lot_dp (SqT.of (s10 _ _ hq9))⟩
        · rintro _ σ H' _ ⟨z, r, w11, rfl, sH, _⟩
          exact SqL.of (sH _ _ upd_same)
        · rintro i3 x σ H10 H'' hi3 ⟨z, r, w11, rfl, sH, hr2, hz⟩ ⟨rfl, hx⟩
          obtain ⟨kx, hkx, rfl⟩ := List.mem_map.mp (cutV_mem (List.mem_of_getElem? hx))
          have hkx2 := hfs2 kx hkx
          refine ⟨_, rfl, _, rfl, by show 1 ≤ sizeLine; decide, fun q3 hq3 => ?_⟩
          have s11 := same_new (o := .tup [.int (kx : Nat)]) hq3
          refine ⟨z, .ref q3, ts.length, r, [kx], rfl, dp_same s11 _ hz, lot_dp (SqT.of upd_same), hr2, ⟨List.pairwise_singleton _ _, fun y hy => by rw [List.mem_singleton.mp hy]; exact hkx2⟩, hl, fun z2 r2 H12 s12 hr3 hz2 => ?_⟩
          exact ⟨z2, r2, _, rfl, sH.trans (s11.trans s12), hr3, hz2⟩
        · rintro σ H10 ⟨z, r, w11, rfl, sH, hr2, hz⟩
          exact ⟨_, rfl, k z r H10 (kp9.trans (Kp.same (s10.trans sH))) (hB9.same (s10.trans sH)) hr2 hz⟩
      · refine ⟨p2, fs ++ [kk], ms ++ [p], _, _, _, _, _, _, _, _, rfl, kp8, hB8, hf8, hm8, hp2, ?_, ?_, hfs2⟩
        · rw [List.length_append, List.length_singleton]
          omega
        · rw [List.length_append, List.length_singleton]
          omega
    · rintro σ H3 ⟨p, fs, ms, v5, v6, v7, v8, v9, v10, v11, v12, rfl, kp3, hB3, _⟩
      exact ⟨Nat.zero_le _, fun q hq => empty _ kp3 hB3 q hq⟩
end
end BV

namespace BV
open PySem L2
abbrev sLots : Stmt := top 27
abbrev nLots : List Str := ["_law_box_here", "_law_web_here", "_law_size", "_law_found", "_law_turn", "_law_drawn", "_law_places", "_law_cut", "_law_even", "_law_one", "_law_place", "_law_tie", "_law_k"]
abbrev pLots : List Str := ["_law_box_here", "_law_web_here"]
theorem scLots : FnScope nLots pLots (defScope sLots) := ⟨rfl, rfl, rfl, by decide +kernel, rfl, by decide +kernel, by decide +kernel⟩

theorem lotA_nil (L : Nat) : LotA L [] := ⟨List.Pairwise.nil, fun _ h => nomatch h⟩
theorem lotA_len {L : Nat} {ks : List Nat} (h : LotA L ks) : ks.length ≤ L := nodup_small L _ (asc_nodup h.1) h.2
theorem lotA_up {L : Nat} {ks : List Nat} (h : LotA L ks) : LotA (L + 1) ks := ⟨h.1, fun k hk => Nat.lt_succ_of_lt (h.2 k hk)⟩
theorem lotA_snoc {L : Nat} {ks : List Nat} (h : LotA L ks) : LotA (L + 1) (ks ++ [L]) := by
  refine ⟨?_, fun k hk => ?_⟩
  · rw [List.pairwise_append]
    refine ⟨h.1, List.pairwise_singleton _ _, fun x hx y hy => ?_⟩
    rw [List.mem_singleton.mp hy]
    exact h.2 x hx
  · rcases List.mem_append.mp hk with z | z
    · exact Nat.lt_succ_of_lt (h.2 k z)
    · rw [List.mem_singleton.mp z]
      exact Nat.lt_succ_self L
theorem natsV_len (ks : List Nat) : (natsV ks).length = ks.length := by
  unfold natsV
  rw [List.length_map]
theorem still_lotsL : ∀ ls : List (List Nat), stillAll (ls.map lotD) = true
  | [] => rfl
  | l :: ls => by
    have h := still_lotsL ls
    simp only [List.map_cons, stillAll, still_lot, h, Bool.and_self]
def spLots (K : PySem.W.Frag) : Sp := fun vs H Q _ => ∃ (b g : Addr) (v : V) (n : Nat) (ts : List Tie), vs = [.ref b, v] ∧ Dp K H v (webD n ts) ∧ Box H b g ∧ (∀ t ∈ ts, t.1 < t.2 ∧ t.2 < n) ∧ 1 ≤ n ∧ n ≤ 1000 ∧ ts.length ≤ 60 ∧
  ∀ (l : Addr) (xs : List V) (lots : List (List Nat)) H', Kp b g H H' → Box H' b g → H' l = some (.lst xs) → l ≠ b → l ≠ g → DpAll K H' xs (lots.map lotD) → (∀ r ∈ lots, LotA ts.length r) → Q (.ref l) H'
section
variable {P : Program} {w : World} {K : PySem.W.Frag} {mg : Str → Option Value} {base : Heap}
theorem ok_lots {f f1 f2 f3 f4 : Addr} {fd fd1 fd2 fd3 fd4 : FuncData} (D : Df K mg "_law_lots" sLots pLots f fd) (T : Bl mg) (hsorted : mg "sorted" = none)
    (D_draw : Df K mg "_law_draw" sDraw ["_law_box_here", "_law_many"] f1 fd1) (D_pick : Df K mg "_law_pick" sPick nPick f2 fd2) (D_lsum : Df K mg "_law_sum" sLsum pLsum f3 fd3) (D_walk : Df K mg "_law_walk" sWalk pWalk f4 fd4) : FnOk P w K mg base CX0 4 f fd pLots (spLots K) := by
  have G_draw : FnOk P w K mg base CX0 1 f1 fd1 ["_law_box_here", "_law_many"] spDraw := ok_draw D_draw T
  have G_walk : FnOk P w K mg base CX0 3 f4 fd4 pWalk (spWalk K) := ok_walk D_walk T hsorted D_draw D_pick D_lsum
  have G_lsum : FnOk P w K mg base CX0 1 f3 fd3 pLsum (spLsum K) := ok_lsum D_lsum T hsorted
  refine D.fn.ok scLots (fun vs H Q E h => ?_) (fun cdv A outer s H vs Q E hr h => ?_)
  · obtain ⟨b, g, v, n, ts, rfl, _⟩ := h
    rfl
  · obtain ⟨b, g, v, n, ts, rfl, hw, hB, hends, hpos, hn, hl, k⟩ := h
    have hr_walk : Room 3 _ := hr
    have hr_draw : Room 1 _ := hr.mono (by decide)
    have hr_lsum : Room 1 _ := hr.mono (by decide)
    have nd := scLots.nd
    obtain ⟨a, c, ys, rfl, ha, hc, hys⟩ := dp_web hw
    have hyl : ys.length = ts.length := by rw [dpAll_len hys, List.length_map]
    have dpk : ∀ {H1 H2 : Hp} {u : V} {ks : List Nat}, Box H1 b g → Kp b g H1 H2 → Dp K H1 u (lotD ks) → Dp K H2 u (lotD ks) := fun B kp d => dp_kf (KF.of_kp kp B) _ (still_lot _) d
    refine ⟨_, (pss_cons (ps_par (i := 2) (j := 3) (by rfl) nd rfl rfl (by decide) rfl rfl (pa_cons (pe_callB (lenK K) (by rfl) T.len PySem.boot_len (pa_cons (pe_ix (ixT K) (pv 1) pe_int (fun _ _ => rfl)) pa_nil)) (pa_cons (pe_lst (pa_cons (pe_tup pa_nil) (pa_cons (pe_tupRg rfl (by rfl) T.tuple (prg_1 (by rfl) T.range (pe_callB (lenK K) (by rfl) T.len PySem.boot_len (pa_cons (pe_ix (ixT K) (pv 1) pe_int (fun _ _ => rfl)) pa_nil)))) pa_nil))) pa_nil)) (by rfl))
      (pss_cons (ps_for PassesOwn.never rfl (pi_range1 rfl T.range (pa_cons pe_int pa_nil)) (pg_name (i := 4) nd rfl (by first | exact Or.inl rfl | exact Or.inr rfl)) (pss_cons (ps_set (i := 5) nd rfl (by first | exact Or.inl rfl | exact Or.inr rfl) (pe_callTy (tupleK K) (by rfl) T.tuple (by decide +kernel) (pa_cons (pe_lc (own := [("_law_tie", 11)]) (g := (gName 11)) rfl nd (pi_range1 rfl T.range (pa_cons (pv 2) pa_nil)) (blkOk_by (own := [("_law_tie", 11)]) (N := nLots) (sc := defScope sLots) (by decide +kernel)) (fun _ _ _ _ _ => (pg_name (i := 11) nd rfl (by first | exact Or.inl rfl | exact Or.inr rfl))) (fun _ _ _ _ _ => (pts_one (pt_cmpR op_eq (pe_call G_draw hr_draw (by rfl) D_draw.ad D_draw.fn.kp D_draw.bd .nil pass0 (pa_cons (pv 0) (pa_cons pe_int pa_nil))) pe_int (nomark _)))) (fun _ _ _ _ _ => (pv 11))) pa_nil)))
      (pss_cons (ps_set (i := 6) nd rfl (by first | exact Or.inl rfl | exact Or.inr rfl) (pe_lc (own := [("_law_place", 10)]) (g := (gName 10)) rfl nd (pi_range1 rfl T.range (pa_cons (pe_ix (ixT K) (pv 1) pe_int (fun _ _ => rfl)) pa_nil)) (blkOk_by (own := [("_law_place", 10)]) (N := nLots) (sc := defScope sLots) (by decide +kernel)) (fun _ _ _ _ _ => (pg_name (i := 10) nd rfl (by first | exact Or.inl rfl | exact Or.inr rfl))) (fun _ _ _ _ _ => (pts_one (pt_cmpR op_eq (pe_call G_draw hr_draw (by rfl) D_draw.ad D_draw.fn.kp D_draw.bd .nil pass0 (pa_cons (pv 0) (pa_cons pe_int pa_nil))) pe_int (nomark _)))) (fun _ _ _ _ _ => (pv 10))))
      (pss_cons (ps_set (i := 7) nd rfl (by first | exact Or.inl rfl | exact Or.inr rfl) (pe_callTy (tupleK K) (by rfl) T.tuple (by decide +kernel) (pa_cons (pe_lc (own := [("_law_k", 12), ("_law_tie", 11)]) (g := (gTup K 2 (gCons (gName 12) (gCons (gName 11) gNil)))) rfl nd (enumT K (by rfl) T.enumerate (pa_cons (pe_ix (ixT K) (pv 1) pe_int (fun _ _ => rfl)) pa_nil)) (blkOk_by (own := [("_law_k", 12), ("_law_tie", 11)]) (N := nLots) (sc := defScope sLots) (by decide +kernel)) (fun _ _ _ _ _ => (pgT K rfl (pgs_cons (pg_name (i := 12) nd rfl (by first | exact Or.inl rfl | exact Or.inr rfl)) (pgs_cons (pg_name (i := 11) nd rfl (by first | exact Or.inl rfl | exact Or.inr rfl)) pgs_nil)))) (fun _ _ _ _ _ => (pts_one (pt_cmpR op_ne (pe_cmpR (opIn K) (pe_ix (ixT K) (pv 11) pe_int (fun _ _ => rfl)) (pv 6) rfl) (pe_cmpR (opIn K) (pe_ix (ixT K) (pv 11) pe_int (fun _ _ => rfl)) (pv 6) rfl) (nomark _)))) (fun _ _ _ _ _ => (pv 12))) pa_nil)))
      (pss_cons (ps_set (i := 8) nd rfl (by first | exact Or.inl rfl | exact Or.inr rfl) (pe_call G_lsum hr_lsum (by rfl) D_lsum.ad D_lsum.fn.kp D_lsum.bd .nil pass0 (pa_cons (pe_call G_walk hr_walk (by rfl) D_walk.ad D_walk.fn.kp D_walk.bd .nil pass0 (pa_cons (pv 0) (pa_cons (pv 1) pa_nil))) (pa_cons (pe_call G_walk hr_walk (by rfl) D_walk.ad D_walk.fn.kp D_walk.bd .nil pass0 (pa_cons (pv 0) (pa_cons (pv 1) pa_nil))) pa_nil))))
      (pss_cons (ps_set (i := 9) nd rfl (by first | exact Or.inl rfl | exact Or.inr rfl) (pe_ifExp (pt_cmpR op_gt (pv 2) pe_int (nomark _)) (pe_tup (pa_cons (pe_call G_draw hr_draw (by rfl) D_draw.ad D_draw.fn.kp D_draw.bd .nil pass0 (pa_cons (pv 0) (pa_cons (pv 2) pa_nil))) pa_nil)) (pe_tup pa_nil)))
      (pss_one (ps_set (i := 3) nd rfl (by first | exact Or.inl rfl | exact Or.inr rfl) (pe_op op_cat (pv 3) (pe_lst (pa_cons (pv 5) (pa_cons (pv 7) (pa_cons (pv 8) (pa_cons (pe_call G_lsum hr_lsum (by rfl) D_lsum.ad D_lsum.fn.kp D_lsum.bd .nil pass0 (pa_cons (pv 7) (pa_cons (pv 9) pa_nil))) (pa_cons (pe_call G_lsum hr_lsum (by rfl) D_lsum.ad D_lsum.fn.kp D_lsum.bd .nil pass0 (pa_cons (pv 8) (pa_cons (pv 9) pa_nil))) pa_nil)))))))))))))))
      (pss_one (ps_ret (pv 3))))), ?_⟩
    refine tSeq_go ?_
    refine ⟨_, rfl, a, _, _, _, rfl, rfl, ha, atI_nat (j := 1) rfl, c, ys, rfl, .inr hc, ?_⟩
    rw [hyl]
    refine ⟨Nat.zero_le _, fun q0 hq0 => ?_⟩
    have s0 := same_new (o := .tup []) hq0
    refine ⟨_, rfl, a, _, _, _, rfl, rfl, sqT_same s0 ha, atI_nat (j := 1) rfl, c, ys, rfl, .inr (sqT_same s0 hc), _, rfl, .of_le (by omega) (by omega) (by omega) (by omega), fun q1 hq1 => ?_⟩
    refine ⟨by show 2 ≤ sizeLine; decide, fun lf hlf => ⟨_, _, rfl, ?_⟩⟩
    have e1 : rgV 0 (ys.length : Int) = natsV (List.range ts.length) := by
      unfold rgV natsV
      rw [hyl, show ((ts.length : Int) - 0).toNat = ts.length by omega]
      refine List.map_congr_left fun k _ => ?_
      rw [Int.zero_add]
    rw [e1] at hlf ⊢
    have s1 := same_new (o := .tup (natsV (List.range ts.length))) hq1
    have s2 := same_new (o := .lst [.ref q0, .ref q1]) hlf
    obtain ⟨fb, fg⟩ := bx_ne ((hB.same s0).same s1) hlf
    have s02 := s0.trans (s1.trans s2)
    have d2 : DpAll K (upd (upd (upd H q0 (.tup [])) q1 (.tup (natsV (List.range ts.length)))) lf (.lst [.ref q0, .ref q1])) [.ref q0, .ref q1] ([[], List.range ts.length].map lotD) :=
      .cons (lot_dp (SqT.of ((s1.trans s2) _ _ upd_same))) (.cons (lot_dp (SqT.of (s2 _ _ upd_same))) .nil)
    have h2 : (upd (upd (upd H q0 (.tup [])) q1 (.tup (natsV (List.range ts.length)))) lf (.lst [.ref q0, .ref q1])) lf = some (.lst [.ref q0, .ref q1]) := upd_same
    generalize upd (upd (upd H q0 (.tup [])) q1 (.tup (natsV (List.range ts.length)))) lf (.lst [.ref q0, .ref q1]) = H2 at *
    dsimp only
    refine at_st [some (.ref b), some (.ref a), some (.int (ts.length : Nat)), some (.ref lf), none, none, none, none, none, none, none, none, none] rfl ?_
    refine tSeq_go ?_
    refine ⟨3, rfl, by decide, by decide, ?_⟩
    refine for_range (lo := 0) (n := (3 : Int).toNat) (fun i σ H' => ∃ (lf : Addr) (xs : List V) (lots : List (List Nat)) (v4 v5 v6 v7 v8 v9 v10 v11 v12 : Option V), σ = [some (.ref b), some (.ref a), some (.int (ts.length : Nat)), some (.ref lf), v4, v5, v6, v7, v8, v9, v10, v11, v12] ∧
      Kp b g H H' ∧ Box H' b g ∧ H' lf = some (.lst xs) ∧ lf ≠ b ∧ lf ≠ g ∧ DpAll K H' xs (lots.map lotD) ∧ (∀ r ∈ lots, LotA ts.length r) ∧ xs.length ≤ 2 + 5 * i) ?_ ?_ ?_
    · refine ⟨lf, _, [[], List.range ts.length], none, none, none, none, none, none, none, none, none, rfl, Kp.same s02, hB.same s02, h2, fb, fg, d2, fun r hr => ?_, by show 2 ≤ 2; decide⟩
      simp only [List.mem_cons, List.not_mem_nil, or_false] at hr
      rcases hr with rfl | rfl
      · exact lotA_nil _
      · exact ⟨List.pairwise_lt_range, fun k hk => List.mem_range.mp hk⟩
    · clear hlf hq1 hq0 fb fg s02 d2 h2 s2 s1 s0 e1
      rintro i σ H3 hi ⟨lf, xs, lots, v4, v5, v6, v7, v8, v9, v10, v11, v12, rfl, kp3, B3, hf3, fb, fg, hxs3, hlots, hxl⟩
      rw [Int.zero_add]
      have hi3 : i < 3 := hi
      show tSeq _ _ _ _ _
      refine tSeq_go ?_
      refine tAsg_by (fun u H' => ∃ ks : List Nat, Kp b g H3 H' ∧ Box H' b g ∧ LotA ts.length ks ∧ Dp K H' u (lotD ks)) ?_ (fun cont => ?_)
      rotate_left
      · refine ⟨_, rfl, (ts.length : Int), rfl, by omega, by omega, fun E1 hE1 => ?_⟩
        refine lc_runB (walk_range (lo := 0) (n := (ts.length : Int).toNat)) hE1 B3 (fun i acc _ => ∃ ks : List Nat, acc = natsV ks ∧ LotA i ks) ?_ ?_ ?_ ?_
        · exact fun _ _ _ => trivial
        · exact ⟨[], rfl, lotA_nil 0⟩
        · rintro i2 x acc H4 H' nb ng hi2 hacc e kk hBx ⟨ks, rfl, hks⟩ ⟨rfl, rfl⟩
          dsimp only
          rw [Int.zero_add]
          have hkl := lotA_len hks
          refine ⟨rfl, ?_⟩
          refine ⟨_, rfl, b, g, 3, rfl, by decide, by decide, hBx, fun r H5 r0 r1 kp4 hB4 => ?_⟩
          refine ⟨rfl, _, rfl, ?_⟩
          refine ite2 (fun hh => ?_) (fun hh => ?_)
          · refine ⟨_, rfl, ?_⟩
            exact lc_addB nb ng hacc e kp4 hB4 (by rw [natsV_len]; omega) ⟨ks ++ [i2], natsV_snoc _ _, lotA_snoc hks⟩
          · exact lc_skipB nb ng hacc e kp4 hB4 ⟨ks, rfl, lotA_up hks⟩
        · rintro acc H4 h1 kk hBx ⟨ks, rfl, hks⟩
          rw [show ((ts.length : Int)).toNat = ts.length by omega] at hks
          refine ⟨E1, _, rfl, .inl ⟨SqL.of h1, fun u hu => ?_⟩⟩
          have su := same_new (o := .tup (natsV ks)) hu
          exact cont _ _ ⟨ks, kk.trans (Kp.same su), hBx.same su, hks, lot_dp (SqT.of upd_same)⟩
      rintro u5 H4 ⟨l5, kp34, B4, hA5, hd5⟩
      dsimp only [gName]
      refine at_st [some (.ref b), some (.ref a), some (.int (ts.length : Nat)), some (.ref lf), some (.int (i : Nat)), some u5, v6, v7, v8, v9, v10, v11, v12] rfl ?_
      have kp4 := kp3.trans kp34
      refine tSeq_go ?_
      refine tAsg_by (fun u H' => ∃ (lp : Addr) (ps : List Nat), u = .ref lp ∧ Kp b g H4 H' ∧ Box H' b g ∧ H' lp = some (.lst (natsV ps))) ?_ (fun cont => ?_)
      rotate_left
      · refine ⟨_, rfl, a, _, _, _, rfl, rfl, sqT_kf (KF.of_kp kp4 hB) ha, atI_nat (j := 0) rfl, (n : Int), rfl, by omega, by omega, fun E1 hE1 => ?_⟩
        refine lc_runB (walk_range (lo := 0) (n := (n : Int).toNat)) hE1 B4 (fun i acc _ => ∃ ks : List Nat, acc = natsV ks ∧ LotA i ks) ?_ ?_ ?_ ?_
        · exact fun _ _ _ => trivial
        · exact ⟨[], rfl, lotA_nil 0⟩
        · rintro i2 x acc H5 H' nb ng hi2 hacc e kk hBx ⟨ks, rfl, hks⟩ ⟨rfl, rfl⟩
          dsimp only
          rw [Int.zero_add]
          have hkl := lotA_len hks
          refine ⟨rfl, ?_⟩
          refine ⟨_, rfl, b, g, 2, rfl, by decide, by decide, hBx, fun r H6 r0 r1 kp6 hB6 => ?_⟩
          refine ⟨rfl, _, rfl, ?_⟩
          refine ite2 (fun hh => ?_) (fun hh => ?_)
          · refine ⟨_, rfl, ?_⟩
            exact lc_addB nb ng hacc e kp6 hB6 (by rw [natsV_len]; omega) ⟨ks ++ [i2], natsV_snoc _ _, lotA_snoc hks⟩
          · exact lc_skipB nb ng hacc e kp6 hB6 ⟨ks, rfl, lotA_up hks⟩
        · rintro acc H5 h1 kk hBx ⟨ks, rfl, hks⟩
          exact cont _ _ ⟨E1, ks, rfl, kk, hBx, h1⟩
      rintro u6 H5 ⟨lp, ps, rfl, kp45, B5, hp5⟩
      dsimp only [gName]
      refine at_st [some (.ref b), some (.ref a), some (.int (ts.length : Nat)), some (.ref lf), some (.int (i : Nat)), some u5, some (.ref lp), v7, v8, v9, v10, v11, v12] rfl ?_
      have kp5 := kp4.trans kp45
      have ha5 := sqT_kf (KF.of_kp kp5 hB) ha
      have hc5 := sqT_kf (KF.of_kp kp5 hB) hc
      have hys5 := dpAll_kf (KF.of_kp kp5 hB) _ (still_ties ts) hys
      refine tSeq_go ?_
      refine tAsg_by (fun u H' => ∃ ks : List Nat, Same H5 H' ∧ LotA ts.length ks ∧ Dp K H' u (lotD ks)) ?_ (fun cont => ?_)
      rotate_left
      · refine ⟨_, rfl, a, _, _, _, rfl, rfl, ha5, atI_nat (j := 1) rfl, c, ys, rfl, hc5, fun E1 hE1 => ?_⟩
        refine lc_run (walk_enumT (xs := ys)) hE1 (fun i acc _ => ∃ ks : List Nat, acc = natsV ks ∧ LotA i ks) ?_ ?_ ?_ ?_
        · exact fun H' s => sqT_same s hc5
        · exact ⟨[], rfl, lotA_nil 0⟩
        · rintro i2 x acc H6 H' hi2 hacc e s ⟨ks, rfl, hks⟩ ⟨q, y, z, rfl, hq, rfl, hy, hz⟩
          have ht : ts[i2]? = some ts[i2] := by simp [show i2 < ts.length by omega]
          have hkl := lotA_len hks
          generalize ts[i2] = t at ht
          have hy' : some (V.int i2) = some y := hy
          cases hy'
          have hz' : ys[i2]? = some z := hz
          obtain ⟨dd, hdd, hzd⟩ := dpAll_get hys5 hz'
          rw [List.getElem?_map, ht] at hdd
          cases hdd
          obtain ⟨az, rfl, haz⟩ := dp_tie hzd
          have sq := same_new (o := .tup [.int i2, .ref az]) hq
          have haz2 := sqT_same (s.trans sq) haz
          have hp2 := SqL.of (K := K) ((s.trans sq) _ _ hp5)
          refine ⟨q, _, rfl, SqT.of upd_same, rfl, _, _, rfl, _, _, rfl, rfl, rfl, ?_⟩
          refine ⟨_, rfl, az, _, _, _, rfl, rfl, haz2, atI_nat (j := 0) rfl, _, rfl, lp, _, rfl, .inl hp2, rfl, flat_nats ps, ?_⟩
          refine ⟨_, rfl, az, _, _, _, rfl, rfl, haz2, atI_nat (j := 1) rfl, _, rfl, lp, _, rfl, .inl hp2, rfl, flat_nats ps, rfl, _, rfl, ?_⟩
          refine ite2 (fun hh => ?_) (fun hh => ?_)
          · refine ⟨_, rfl, ?_⟩
            exact lc_add hacc e sq (by rw [natsV_len]; omega) ⟨ks ++ [i2], natsV_snoc _ _, lotA_snoc hks⟩
          · exact lc_skip hacc e sq ⟨ks, rfl, lotA_up hks⟩
        · rintro acc H6 h1 s6 ⟨ks, rfl, hks⟩
          rw [hyl] at hks
          refine ⟨E1, _, rfl, .inl ⟨SqL.of h1, fun u hu => ?_⟩⟩
          have su := same_new (o := .tup (natsV ks)) hu
          exact cont _ _ ⟨ks, s6.trans su, hks, lot_dp (SqT.of upd_same)⟩
      rintro u7 H6 ⟨l7, s56, hA7, hd7⟩
      dsimp only [gName]
      refine at_st [some (.ref b), some (.ref a), some (.int (ts.length : Nat)), some (.ref lf), some (.int (i : Nat)), some u5, some (.ref lp), some u7, v8, v9, v10, v11, v12] rfl ?_
      have kp6 := kp5.trans (Kp.same s56)
      have B6 := B5.same s56
      refine tSeq_go ?_
      refine ⟨_, rfl, _, rfl, b, g, .ref a, n, ts, rfl, dp_kf (KF.of_kp kp6 hB) _ (still_web n ts) hw, B6, hends, hpos, hn, hl, fun z1 r1 H7 kp67 B7 hA1 hd1 => ?_⟩
      have kp7 := kp6.trans kp67
      refine ⟨_, rfl, _, rfl, b, g, .ref a, n, ts, rfl, dp_kf (KF.of_kp kp7 hB) _ (still_web n ts) hw, B7, hends, hpos, hn, hl, fun z2 r2 H8 kp78 B8 hA2 hd2 => ?_⟩
      have kp8 := kp7.trans kp78
      refine ⟨z1, z2, ts.length, r1, r2, rfl, dpk B7 kp78 hd1, hd2, hA1, hA2, hl, fun u8 l8 H9 s89 hA8 hd8 => ?_⟩
      have kp9 := kp8.trans (Kp.same s89)
      have B9 := B8.same s89
      have kp69 := kp67.trans (kp78.trans (Kp.same s89))
      dsimp only [gName]
      refine at_st [some (.ref b), some (.ref a), some (.int (ts.length : Nat)), some (.ref lf), some (.int (i : Nat)), some u5, some (.ref lp), some u7, some u8, v9, v10, v11, v12] rfl ?_
      refine tSeq_go ?_
      refine tAsg_by (fun u H' => ∃ ks : List Nat, Kp b g H9 H' ∧ Box H' b g ∧ LotA ts.length ks ∧ Dp K H' u (lotD ks)) ?_ (fun cont => ?_)
      rotate_left
      · refine ⟨_, rfl, _, _, rfl, rfl, _, rfl, ?_⟩
        refine ite2 (fun hh => ?_) (fun hh => ?_)
        · have hpos2 : 0 < ts.length := by simpa using hh
          refine ⟨_, rfl, _, rfl, b, g, (ts.length : Int), rfl, by omega, by omega, B9, fun r H10 r0 r1 kp10 B10 => ?_⟩
          obtain ⟨j, rfl⟩ : ∃ j : Nat, r = (j : Int) := ⟨r.toNat, by omega⟩
          refine ⟨by show 1 ≤ sizeLine; decide, fun q hq => ?_⟩
          have sq := same_new (o := .tup [.int (j : Nat)]) hq
          exact cont _ _ ⟨[j], kp10.trans (Kp.same sq), B10.same sq, ⟨List.pairwise_singleton _ _, fun y hy => by rw [List.mem_singleton.mp hy]; omega⟩, lot_dp (SqT.of upd_same)⟩
        · refine ⟨Nat.zero_le _, fun q hq => ?_⟩
          have sq := same_new (o := .tup []) hq
          exact cont _ _ ⟨[], Kp.same sq, B9.same sq, lotA_nil _, lot_dp (SqT.of upd_same)⟩
      rintro u9 H10 ⟨l9, kp910, B10, hA9, hd9⟩
      dsimp only [gName]
      refine at_st [some (.ref b), some (.ref a), some (.int (ts.length : Nat)), some (.ref lf), some (.int (i : Nat)), some u5, some (.ref lp), some u7, some u8, some u9, v10, v11, v12] rfl ?_
      have kp610 := kp69.trans kp910
      have kp410 := kp45.trans ((Kp.same s56).trans kp610)
      have kp310 := kp34.trans kp410
      have d5 := dpk B4 kp410 hd5
      have d7 := dpk B6 kp610 hd7
      have d8 := dpk B9 kp910 hd8
      refine ⟨_, rfl, _, rfl, _, rfl, _, rfl, _, rfl, _, rfl, u7, u9, ts.length, l7, l9, rfl, d7, hd9, hA7, hA9, hl, fun y1 m1 H11 s11 hB1 hy1 => ?_⟩
      refine ⟨_, rfl, _, rfl, u8, u9, ts.length, l8, l9, rfl, dp_same s11 _ d8, dp_same s11 _ hd9, hA8, hA9, hl, fun y2 m2 H12 s12 hB2 hy2 => ?_⟩
      refine ⟨by show 5 ≤ sizeLine; decide, fun m0 hm0 => ?_⟩
      have s13 := same_new (o := .lst [u5, u7, u8, y1, y2]) hm0
      have s1013 := s11.trans (s12.trans s13)
      have hf13 := s1013 _ _ (kp310 _ _ hf3 fb fg)
      refine ⟨lf, m0, _, _, rfl, rfl, hf13, upd_same, Nat.le_trans (show xs.length + 5 ≤ 1000 by omega) (by decide), fun m hm => ?_⟩
      have s14 := same_new (o := .lst (xs ++ [u5, u7, u8, y1, y2])) hm
      have s1014 := s1013.trans s14
      obtain ⟨mb, mg2⟩ := bx_ne (B10.same s1013) hm
      have kp314 := kp310.trans (Kp.same s1014)
      refine ⟨m, _, lots ++ [l5, l7, l8, m1, m2], _, _, _, _, _, _, _, _, _, rfl, kp3.trans kp314, B10.same s1014, upd_same, mb, mg2, ?_, fun r hr => ?_, ?_⟩
      · rw [List.map_append]
        refine dpAll_app (dpAll_kf (KF.of_kp kp314 B3) _ (still_lotsL lots) hxs3) ?_
        exact .cons (dp_same s1014 _ d5) (.cons (dp_same s1014 _ d7) (.cons (dp_same s1014 _ d8) (.cons (dp_same (s12.trans (s13.trans s14)) _ hy1) (.cons (dp_same (s13.trans s14) _ hy2) .nil))))
      · rcases List.mem_append.mp hr with z | z
        · exact hlots r z
        · simp only [List.mem_cons, List.not_mem_nil, or_false] at z
          rcases z with rfl | rfl | rfl | rfl | rfl
          · exact hA5
          · exact hA7
          · exact hA8
          · exact hB1
          · exact hB2
      · rw [List.length_append]
        show xs.length + 5 ≤ _
        omega
    · rintro σ H3 ⟨lf, xs, lots, v4, v5, v6, v7, v8, v9, v10, v11, v12, rfl, kp3, B3, hf3, fb, fg, hxs3, hlots, hxl⟩
      exact ⟨_, rfl, k lf xs lots H3 kp3 B3 hf3 fb fg hxs3 hlots⟩
end
end BV

namespace BV
open PySem L2
abbrev sLaw : Stmt := top 28
abbrev nLaw : List Str := ["_law_script", "_law_box_here", "_law_turn", "_law_web_here", "_law_step", "_law_lot"]
abbrev pLaw : List Str := ["_law_script"]
theorem scLaw : FnScope nLaw pLaw (defScope sLaw) := ⟨rfl, rfl, rfl, by decide +kernel, rfl, by decide +kernel, by decide +kernel⟩

def spLaw (K : PySem.W.Frag) : Sp := fun vs H Q _ => ∃ (a : Addr) (ns : List Int), vs = [.ref a] ∧ SqL K H a (ns.map V.int) ∧ ns.length ≤ 63 ∧ ∀ H', Q (.bl true) H'
theorem most4 : ∀ i, i < 4 → ∃ m : Nat, [V.int 2, V.int 5, V.int 7, V.int 7][i]? = some (V.int (m : Int)) ∧ 1 ≤ m ∧ m ≤ 12
  | 0, _ => ⟨2, rfl, by decide, by decide⟩
  | 1, _ => ⟨5, rfl, by decide, by decide⟩
  | 2, _ => ⟨7, rfl, by decide, by decide⟩
  | 3, _ => ⟨7, rfl, by decide, by decide⟩
theorem more4 : ∀ i, i < 4 → ∃ m : Nat, [V.int 2, V.int 4, V.int 4, V.int 4][i]? = some (V.int (m : Int)) ∧ m ≤ 28
  | 0, _ => ⟨2, rfl, by decide⟩
  | 1, _ => ⟨4, rfl, by decide⟩
  | 2, _ => ⟨4, rfl, by decide⟩
  | 3, _ => ⟨4, rfl, by decide⟩
section
variable {P : Program} {w : World} {K : PySem.W.Frag} {mg : Str → Option Value} {base : Heap}
theorem ok_law {f a0 a1 a2 a3 a4 a5 a6 a7 a8 a9 b0 b1 b2 b3 b4 b5 b6 b7 b8 b9 U B : Addr} {fd d0 d1 d2 d3 d4 d5 d6 d7 d8 d9 e0 e1 e2 e3 e4 e5 e6 e7 e8 e9 : FuncData}
    (D : Df K mg "law" sLaw pLaw f fd) (T : Bl mg) (hsorted : mg "sorted" = none) (hisinstance : mg "isinstance" = none) (EU : ErrU K mg U B) (D_cut : Df K mg "cut_of" sCut pCut a0 d0) (D_all : Df K mg "all_ties" sAll pAll a1 d1) (D_far : Df K mg "far_end" sFar pFar a2 d2)
    (D_ways : Df K mg "ways_from" sWays pWays a3 d3) (D_codd : Df K mg "common_odd" sCodd pCodd a4 d4) (D_fside : Df K mg "_far_side" sFside pFside a5 d5) (D_places_x : Df K mg "places_of_cut" sPlaces pPlaces a6 d6)
    (K_places_x : KBn K d6 pPlaces 0 ["lot", "web"] (fun _ ws => ws.reverse) (fun _ zs => zs.reverse)) (D_odd : Df K mg "odd_places" sOdd pOdd a7 d7) (D_even : Df K mg "is_even" sEven pEven a8 d8) (K_even : KBn K d8 pEven 0 ["lot", "web"] (fun _ ws => ws.reverse) (fun _ zs => zs.reverse))
    (D_iscut : Df K mg "is_cut" sIscut pIscut a9 d9) (K_iscut : KBn K d9 pIscut 0 ["lot", "web"] (fun _ ws => ws.reverse) (fun _ zs => zs.reverse)) (D_counts : Df K mg "_law_counts" sCounts pCounts b1 e1) (D_leven : Df K mg "_law_is_even" sLeven pLeven b2 e2)
    (D_col : Df K mg "_law_colours" sCol pCol b3 e3) (D_told : Df K mg "_law_told" sTold pTold b4 e4) (D_right_g : Df K mg "_law_is_right" sRight pRight b5 e5)
    (D_box : Df K mg "_law_box" sBox ["_law_script"] b6 e6) (D_draw : Df K mg "_law_draw" sDraw ["_law_box_here", "_law_many"] b7 e7) (D_pick : Df K mg "_law_pick" sPick nPick b8 e8) (D_web : Df K mg "_law_web" sWeb pWeb b9 e9)
    (D_lsum : Df K mg "_law_sum" sLsum pLsum b0 e0) {c1 c2 : Addr} {x1 x2 : FuncData} (D_walk : Df K mg "_law_walk" sWalk pWalk c1 x1) (D_lots : Df K mg "_law_lots" sLots pLots c2 x2) :
    FnG P w K mg base CX0 7 f fd ["_law_script"] (spLaw K) := by
  have G_box : FnOk P w K mg base CX0 1 b6 e6 ["_law_script"] (spBox K) := ok_box D_box T
  have G_draw : FnOk P w K mg base CX0 1 b7 e7 ["_law_box_here", "_law_many"] spDraw := ok_draw D_draw T
  have G_web : FnOk P w K mg base CX0 3 b9 e9 pWeb (spWeb K) := ok_web D_web T D_draw D_pick
  have G_lots : FnOk P w K mg base CX0 4 c2 x2 pLots (spLots K) := ok_lots D_lots T hsorted D_draw D_pick D_lsum D_walk
  have G_right_g : FnG P w K mg base CX0 6 b5 e5 pRight (spRight K) := ok_right D_right_g T hisinstance EU D_cut D_all D_far D_ways D_codd D_fside D_places_x K_places_x D_odd D_even K_even D_iscut K_iscut D_counts D_leven D_col D_told
  refine okG D.fn scLaw (fun vs H Q E h => ?_) (fun cdv A outer s H vs Q E hgd hr h => ?_)
  · obtain ⟨a, ns, rfl, _⟩ := h
    rfl
  · obtain ⟨a, ns, rfl, hS, hlen, k⟩ := h
    have hr_box : Room 1 _ := hr.mono (by decide)
    have hr_draw : Room 1 _ := hr.mono (by decide)
    have hr_web : Room 3 _ := hr.mono (by decide)
    have hr_lots : Room 4 _ := hr.mono (by decide)
    have hr_right_g : Room 6 _ := hr
    have hu64 := hr.units
    have nd := scLaw.nd
    refine ⟨_, (pss_cons (ps_set (i := 1) nd rfl (by first | exact Or.inl rfl | exact Or.inr rfl) (pe_call G_box hr_box (by rfl) D_box.ad D_box.fn.kp D_box.bd .nil pass0 (pa_cons (pv 0) pa_nil)))
      (pss_cons (ps_for PassesOwn.never rfl (pi_range1 rfl T.range (pa_cons pe_int pa_nil)) (pg_name (i := 2) nd rfl (by first | exact Or.inl rfl | exact Or.inr rfl)) (pss_cons (ps_set (i := 3) nd rfl (by first | exact Or.inl rfl | exact Or.inr rfl) (pe_call G_web hr_web (by rfl) D_web.ad D_web.fn.kp D_web.bd .nil pass0 (pa_cons (pv 1) (pa_cons (pe_ix (ixL K) (pe_lst (pa_cons pe_int (pa_cons pe_int (pa_cons pe_int (pa_cons pe_int pa_nil))))) (pv 2) (fun _ _ => rfl)) (pa_cons (pe_ix (ixL K) (pe_lst (pa_cons pe_int (pa_cons pe_int (pa_cons pe_int (pa_cons pe_int pa_nil))))) (pv 2) (fun _ _ => rfl)) pa_nil)))))
      (pss_cons (ps_if (PW.pt (pw_and (pt_cmpR op_eq (pv 2) pe_int (nomark _)) (pw_and1 (pt_cmpR op_eq (pe_call G_draw hr_draw (by rfl) D_draw.ad D_draw.fn.kp D_draw.bd .nil pass0 (pa_cons (pv 1) (pa_cons pe_int pa_nil))) pe_int (nomark _))))) (pss_one (ps_set (i := 3) nd rfl (by first | exact Or.inl rfl | exact Or.inr rfl) (pe_call G_web hr_web (by rfl) D_web.ad D_web.fn.kp D_web.bd .nil pass0 (pa_cons (pv 1) (pa_cons pe_int (pa_cons pe_int pa_nil)))))) pss_nil)
      (pss_one (ps_for PassesOwn.never rfl (pi_enum (by rfl) T.enumerate (pa_cons (pe_call G_lots hr_lots (by rfl) D_lots.ad D_lots.fn.kp D_lots.bd .nil pass0 (pa_cons (pv 1) (pa_cons (pv 3) pa_nil))) pa_nil)) (pgT K rfl (pgs_cons (pg_name (i := 4) nd rfl (by first | exact Or.inl rfl | exact Or.inr rfl)) (pgs_cons (pg_name (i := 5) nd rfl (by first | exact Or.inl rfl | exact Or.inr rfl)) pgs_nil))) (pss_one (ps_if (pt_not (pt_val (pe_callG G_right_g hgd hr_right_g (by rfl) D_right_g.ad D_right_g.fn.kp D_right_g.bd .nil pass0 (pa_cons (pv 3) (pa_cons (pv 5) (pa_cons (pe_cmpR op_eq (pv 4) (pv 2) (nomark _)) pa_nil)))))) (pss_one (ps_ret pe_bl)) pss_nil)))))))
      (pss_one (ps_ret (pe_callG G_right_g hgd hr_right_g (by rfl) D_right_g.ad D_right_g.fn.kp D_right_g.bd .nil pass0 (pa_cons (pe_tup (pa_cons pe_int (pa_cons (pe_tup pa_nil) pa_nil))) (pa_cons (pe_tup pa_nil) (pa_cons pe_bl pa_nil)))))))), ?_⟩
    refine tSeq_go ?_
    refine ⟨_, rfl, a, ns, rfl, hS, hlen, fun b g H1 _ _ _ hB => ?_⟩
    show tSeq _ _ _ _ _
    refine tSeq_go ?_
    refine ⟨4, rfl, by decide, by decide, ?_⟩
    refine for_range (lo := 0) (n := (4 : Int).toNat) (fun i σ Hc => ∃ (v2 v3 v4 v5 : Option V), σ = [some (.ref a), some (.ref b), v2, v3, v4, v5] ∧ Box Hc b g) ?_ ?_ ?_
    · exact ⟨none, none, none, none, rfl, hB⟩
    · rintro i σ Hc hi ⟨v2, v3, v4, v5, rfl, hBc⟩
      have hi4 : i < 4 := hi
      rw [Int.zero_add]
      obtain ⟨m1, e1, q1, q2⟩ := most4 i hi4
      obtain ⟨m2, e2, q3⟩ := more4 i hi4
      show tSeq _ _ _ _ _
      refine tSeq_go ?_
      refine ⟨_, rfl, by decide, fun l1 hl1 => ?_⟩
      have s1 := same_new (o := .lst [.int 2, .int 5, .int 7, .int 7]) hl1
      refine ⟨_, rfl, l1, _, _, _, rfl, rfl, SqL.of upd_same, atI_nat e1, by decide, fun l2 hl2 => ?_⟩
      have s2 := same_new (o := .lst [.int 2, .int 4, .int 4, .int 4]) hl2
      refine ⟨_, rfl, l2, _, _, _, rfl, rfl, SqL.of upd_same, atI_nat e2, ?_⟩
      refine ⟨b, g, m1, m2, rfl, q1, by omega, by omega, (hBc.same s1).same s2, fun p n ts H3 _ hB3 hdp hok hn hl _ => ?_⟩
      dsimp only [gName]
      refine at_st [some (.ref a), some (.ref b), some (.int (i : Nat)), some (.ref p), v4, v5] rfl ?_
      refine tSeq_go ?_
      refine tIfS_by (fun σ' H' => ∃ (p : Addr) (n : Nat) (ts : List Tie), σ' = [some (.ref a), some (.ref b), some (.int (i : Nat)), some (.ref p), v4, v5] ∧ Box H' b g ∧ Dp K H' (.ref p) (webD n ts) ∧ WebOk n ts ∧ n ≤ 12 ∧ ts.length ≤ 40) ?_ (fun cont => ?_)
      rotate_left
      · refine ⟨_, rfl, rfl, _, rfl, ?_⟩
        refine ite2 (fun hh => ?_) (fun hh => ?_)
        · refine ⟨_, rfl, b, g, 4, rfl, by decide, by decide, hB3, fun r8 H8 r80 r81 kp8 B8 => ?_⟩
          refine ⟨rfl, _, rfl, ?_⟩
          refine ite2 (fun hh => ?_) (fun hh => ?_)
          · refine ⟨_, rfl, b, g, 12, 28, rfl, by decide, by decide, by decide, B8, fun p2 n2 ts2 H9 _ hB9 hdp2 hok2 hn2 hl2 _ => ?_⟩
            exact cont _ _ ⟨p2, n2, ts2, rfl, hB9, hdp2, hok2, hn2, by omega⟩
          · exact cont _ _ ⟨p, n, ts, rfl, B8, dp_kf (KF.of_kp kp8 hB3) _ (still_web n ts) hdp, hok, by omega, by omega⟩
        · exact cont _ _ ⟨p, n, ts, rfl, hB3, hdp, hok, by omega, by omega⟩
      clear hok hdp hB3 hl hn s1 s2 hl1 hl2
      rintro σ' H4 ⟨p, n, ts, rfl, B4, hdp, hok, hn, hl⟩
      have hends := hok.ends
      have hpos := hok.pos
      refine ⟨_, rfl, _, rfl, b, g, .ref p, n, ts, rfl, hdp, B4, hends, hpos, by omega, by omega, fun l xs lots H5 kp5 B5 hl5 lb lg hxs hlots => ?_⟩
      have w5 := dp_kf (KF.of_kp kp5 B4) _ (still_web n ts) hdp
      refine ⟨l, _, rfl, SqL.of hl5, for_it (walk_enum (xs := xs)) (fun j σ H' => ∃ (v4 v5 : Option V), σ = [some (.ref a), some (.ref b), some (.int (i : Nat)), some (.ref p), v4, v5] ∧ Same H5 H') ?_ ?_ ?_ ?_⟩
      · exact ⟨v4, v5, rfl, Same.refl _⟩
      · rintro j σ H' _ ⟨v4, v5, rfl, sH⟩
        exact SqL.of (sH _ _ hl5)
      · rintro j x σ H6 H'' hj ⟨v4, v5, rfl, sH⟩ ⟨q, y, z, rfl, hq, rfl, hy, hz⟩
        have sq := same_new (o := .tup [y, z]) hq
        refine ⟨q, _, rfl, SqT.of upd_same, rfl, _, _, rfl, _, _, rfl, rfl, ?_⟩
        have hy' : some (V.int j) = some y := hy
        cases hy'
        have hz' : xs[j]? = some z := hz
        obtain ⟨dd, hdd, hzd⟩ := dpAll_get hxs hz'
        obtain ⟨r, hr5, rfl⟩ := get_map hdd
        have sA := sH.trans sq
        refine ⟨_, rfl, _, rfl, _, rfl, _, rfl, rfl, .ref p, z, n, ts, r, _, rfl, dp_same sA _ w5, dp_same sA _ hzd, hok, hlots r (List.mem_of_getElem? hr5), by omega, by omega, fun H7 s7 => ⟨true, rfl, iteF ?_⟩⟩
        exact ⟨_, _, rfl, sA.trans s7⟩
      · rintro σ H6 ⟨v4, v5, rfl, sH⟩
        exact ⟨_, _, _, _, rfl, B5.same sH⟩
    · rintro σ Hc ⟨v2, v3, v4, v5, rfl, hBc⟩
      refine ⟨Nat.zero_le _, fun q0 hq0 => ⟨by show 2 ≤ sizeLine; decide, fun q1 hq1 => ⟨Nat.zero_le _, fun q2 hq2 => ?_⟩⟩⟩
      have s1 := same_new (o := .tup [.int 1, .ref q0]) hq1
      have s2 := same_new (o := .tup []) hq2
      refine ⟨.ref q1, .ref q2, 1, [], [], true, rfl, .tup (SqT.of (s2 _ _ upd_same)) (.cons (.int _) (.cons (.tup (SqT.of ((s1.trans s2) _ _ upd_same)) .nil) .nil)), lot_dp (SqT.of upd_same), ⟨Nat.le_refl 1, (fun t h => nomatch h), fun p h1 h2 => by omega⟩, lotA_nil _, by decide, by decide, fun H7 s7 => k _⟩
end
end BV

namespace BV
open PySem L2
theorem kit_ve {K : PySem.W.Frag} {S : Addr} (h : PySem.W.subIn K (.ref S) (.type "ValueError") = some true) : PySem.W.kitOne K (.ref S) (.type "ValueError") = some true := by
  have m : PySem.W.kitMeta "ValueError" = true := by decide +kernel
  have e : PySem.W.kitCls K (.ref S) (.type "ValueError") = (if PySem.W.kitMeta "ValueError" = true then PySem.W.subIn K (.ref S) (.type "ValueError") else none) := rfl
  unfold PySem.W.kitOne
  rw [e, m, if_pos rfl, h]
  split <;> rfl
theorem kit_own {K : PySem.W.Frag} {S B : Addr} (h2 : PySem.W.isClsIn K B = true) (h3 : PySem.W.typeIn K (.ref B) = some (.type "type")) (h : PySem.W.subIn K (.ref S) (.ref B) = some true) : PySem.W.kitOne K (.ref S) (.ref B) = some true := by
  have q : (PySem.W.clsIn K B).isSome = true := h2
  have e : PySem.W.kitCls K (.ref S) (.ref B) = (if ((PySem.W.clsIn K B).isSome && PySem.W.typeIn K (.ref B) == some (.type "type")) = true then PySem.W.subIn K (.ref S) (.ref B) else none) := rfl
  have z : ((PySem.W.clsIn K B).isSome && PySem.W.typeIn K (.ref B) == some (.type "type")) = true := by rw [q, h3]; rfl
  unfold PySem.W.kitOne
  rw [e, if_pos z, h]
  split <;> rfl
theorem exm_self {K : PySem.W.Frag} {S : Addr} (h1 : PySem.W.subIn K (.ref S) (.type "BaseException") = some true) (h2 : PySem.W.isClsIn K S = true) (h3 : PySem.W.typeIn K (.ref S) = some (.type "type")) (h4 : PySem.W.subIn K (.ref S) (.ref S) = some true) :
    PySem.W.exmOne K (.ref S) (.ref S) = some true := by
  have q : (PySem.W.clsIn K S).isSome = true := h2
  have e : PySem.W.exmOne K (.ref S) (.ref S) = (if (PySem.W.subIn K (.ref S) (.type "BaseException") == some true) = true then (if ((PySem.W.clsIn K S).isSome && PySem.W.typeIn K (.ref S) == some (.type "type")) = true then PySem.W.subIn K (.ref S) (.ref S) else none) else none) := rfl
  rw [e, h1, h3, q, h4]
  rfl
section
variable {K : PySem.W.Frag} {mg : Str → Option Value}
theorem df_mk {x : String} {st : Stmt} {ps : List Str} {f : Addr} {oc : Value} {od an : Option Addr} {osl : Array (Option Value)} {kV doc pm cdv ct : Value} {h : Heap}
    (X : K.In h) (G : h.Ns mainGlobals mg)
    (a : PySem.W.nsIn K mainGlobals (Str.ofString x) = some (some (.ref f)))
    (l : K.lookup f = some ⟨oc, od, .func (PySem.W.fnOf (Str.ofString x) (Str.ofString x) (defArgs st) (defBody st) (defScope st) .none kV doc pm an cdv ct), osl⟩)
    (c : PySem.W.codeIn K cdv (Str.ofString x) = true) (k : PySem.W.keepIn K (.ref f) = true)
    (hb : ∀ (kV doc pm : Value) (an : Option Addr) (cdv ct : Value) (us : List Value), us.length = ps.length →
      bindArgs (PySem.W.fnOf (Str.ofString x) (Str.ofString x) (defArgs st) (defBody st) (defScope st) .none kV doc pm an cdv ct) ⟨us, []⟩ = pure (ps.zip us)) :
    Df K mg x st ps f (PySem.W.fnOf (Str.ofString x) (Str.ofString x) (defArgs st) (defBody st) (defScope st) .none kV doc pm an cdv ct) :=
  ⟨fun_mk (st := st) l c k, PySem.W.mg_of X G a, (fun_mk (st := st) l c k).binds hb⟩
theorem kbn_mk {x : Str} {params : Arguments} {body : List Stmt} {scope : Scope} {f : Addr} {ps ks : List Str} {g : List Value → List Value → List Value} {gV : List V → List V → List V}
    {oc : Value} {od an : Option Addr} {osl : Array (Option Value)} {kV doc pm cdv ct : Value}
    (_l : K.lookup f = some ⟨oc, od, .func (PySem.W.fnOf x x params body scope .none kV doc pm an cdv ct), osl⟩)
    (hb : ∀ us ws : List Value, us.length = 0 → ws.length = ks.length →
      bindArgs (PySem.W.fnOf x x params body scope .none kV doc pm an cdv ct) ⟨us, ks.zip ws⟩ = pure (ps.zip (g us ws)))
    (hr : ∀ {vs : List V} {us : List Value} {zs : List V} {ws : List Value}, Vals vs us → Vals zs ws → Vals (gV vs zs) (g us ws)) :
    KBn K (PySem.W.fnOf x x params body scope .none kV doc pm an cdv ct) ps 0 ks g gV :=
  ⟨fun _ us ws _ h1 h2 => .of_eq (hb us ws h1 h2), hr⟩
end
theorem all_mk {l : PySem.W.OpenLaw} {w : World} {K : PySem.W.Frag} {h : Heap} {mg : Str → Option Value} {fa : Addr} (X : K.In h) (G : h.Ns mainGlobals mg) (hfa : mg "law" = some (.ref fa))
    {f0 f1 f2 f3 f4 f5 f6 f7 f8 f9 f10 f11 f12 f13 f14 f15 f16 f17 f18 f19 f20 f21 f22 : Addr} {od0 an0 od1 an1 od2 an2 od3 an3 od4 an4 od5 an5 od6 an6 od7 an7 od8 an8 od9 an9 od10 an10 od11 an11 od12 an12 od13 an13 od14 an14 od15 an15 od16 an16 od17 an17 od18 an18 od19 an19 od20 an20 od21 an21 od22 an22 : Option Addr} {sl0 sl1 sl2 sl3 sl4 sl5 sl6 sl7 sl8 sl9 sl10 sl11 sl12 sl13 sl14 sl15 sl16 sl17 sl18 sl19 sl20 sl21 sl22 : Array (Option Value)}
    {oc0 kV0 dc0 pm0 cd0 ct0 oc1 kV1 dc1 pm1 cd1 ct1 oc2 kV2 dc2 pm2 cd2 ct2 oc3 kV3 dc3 pm3 cd3 ct3 oc4 kV4 dc4 pm4 cd4 ct4 oc5 kV5 dc5 pm5 cd5 ct5 oc6 kV6 dc6 pm6 cd6 ct6 oc7 kV7 dc7 pm7 cd7 ct7 oc8 kV8 dc8 pm8 cd8 ct8 oc9 kV9 dc9 pm9 cd9 ct9 oc10 kV10 dc10 pm10 cd10 ct10 oc11 kV11 dc11 pm11 cd11 ct11 oc12 kV12 dc12 pm12 cd12 ct12 oc13 kV13 dc13 pm13 cd13 ct13 oc14 kV14 dc14 pm14 cd14 ct14 oc15 kV15 dc15 pm15 cd15 ct15 oc16 kV16 dc16 pm16 cd16 ct16 oc17 kV17 dc17 pm17 cd17 ct17 oc18 kV18 dc18 pm18 cd18 ct18 oc19 kV19 dc19 pm19 cd19 ct19 oc20 kV20 dc20 pm20 cd20 ct20 oc21 kV21 dc21 pm21 cd21 ct21 oc22 kV22 dc22 pm22 cd22 ct22 : Value}
    {U0 B0 : Addr} (gU : PySem.W.nsIn K mainGlobals "Unfit" = some (some (.ref U0))) (gB : PySem.W.nsIn K mainGlobals "BothError" = some (some (.ref B0)))
    (xU : PySem.W.excIn K U0 [.type "ValueError", .type "Exception", .type "BaseException", .type "object"] "ValueError.__new__" = true) (kU : PySem.W.keepIn K (.ref U0) = true) (bU : PySem.W.subIn K (.ref U0) (.type "BaseException") = some true)
    (tU : PySem.W.typeIn K (.ref U0) = some (.type "type")) (iU : PySem.W.isClsIn K U0 = true) (sU : PySem.W.subIn K (.ref U0) (.ref U0) = some true)
    (hgU : PySem.W.findIn K (.ref U0) "__getattribute__" = some (some (.builtin "BaseException.__getattribute__"))) (hkU : PySem.W.findIn K (.ref U0) "__getattr__" = some none) (hdU : PySem.W.hasDictIn K U0 = true)
    (haU : PySem.W.findIn K (.ref U0) "__class__" = some (some (.builtin "object.__class__"))) (hnU : PySem.W.specialIn K (.builtin "object.__class__") "__get__" = some (some (.builtin "getset_descriptor.__get__")))
    (htU : PySem.W.takesIn K (.builtin "object.__class__") = some true) (hmU : PySem.W.mroIn K U0 (.type "object") = some true)
    (ivU : PySem.W.subIn K (.ref U0) (.type "ValueError") = some true) (ibU : PySem.W.subIn K (.ref U0) (.ref B0) = some true) (iB : PySem.W.isClsIn K B0 = true) (tB : PySem.W.typeIn K (.ref B0) = some (.type "type"))
    (a0 : PySem.W.nsIn K mainGlobals "all_ties" = some (some (.ref f0)))
    (l0 : K.lookup f0 = some ⟨oc0, od0, .func (PySem.W.fnOf "all_ties" "all_ties" (defArgs sAll) (defBody sAll) (defScope sAll) .none kV0 dc0 pm0 an0 cd0 ct0), sl0⟩)
    (c0 : PySem.W.codeIn K cd0 "all_ties" = true) (k0 : PySem.W.keepIn K (.ref f0) = true)
    (a1 : PySem.W.nsIn K mainGlobals "far_end" = some (some (.ref f1)))
    (l1 : K.lookup f1 = some ⟨oc1, od1, .func (PySem.W.fnOf "far_end" "far_end" (defArgs sFar) (defBody sFar) (defScope sFar) .none kV1 dc1 pm1 an1 cd1 ct1), sl1⟩)
    (c1 : PySem.W.codeIn K cd1 "far_end" = true) (k1 : PySem.W.keepIn K (.ref f1) = true)
    (a2 : PySem.W.nsIn K mainGlobals "ways_from" = some (some (.ref f2)))
    (l2 : K.lookup f2 = some ⟨oc2, od2, .func (PySem.W.fnOf "ways_from" "ways_from" (defArgs sWays) (defBody sWays) (defScope sWays) .none kV2 dc2 pm2 an2 cd2 ct2), sl2⟩)
    (c2 : PySem.W.codeIn K cd2 "ways_from" = true) (k2 : PySem.W.keepIn K (.ref f2) = true)
    (a3 : PySem.W.nsIn K mainGlobals "common_odd" = some (some (.ref f3)))
    (l3 : K.lookup f3 = some ⟨oc3, od3, .func (PySem.W.fnOf "common_odd" "common_odd" (defArgs sCodd) (defBody sCodd) (defScope sCodd) .none kV3 dc3 pm3 an3 cd3 ct3), sl3⟩)
    (c3 : PySem.W.codeIn K cd3 "common_odd" = true) (k3 : PySem.W.keepIn K (.ref f3) = true)
    (a4 : PySem.W.nsIn K mainGlobals "cut_of" = some (some (.ref f4)))
    (l4 : K.lookup f4 = some ⟨oc4, od4, .func (PySem.W.fnOf "cut_of" "cut_of" (defArgs sCut) (defBody sCut) (defScope sCut) .none kV4 dc4 pm4 an4 cd4 ct4), sl4⟩)
    (c4 : PySem.W.codeIn K cd4 "cut_of" = true) (k4 : PySem.W.keepIn K (.ref f4) = true)
    (a5 : PySem.W.nsIn K mainGlobals "odd_places" = some (some (.ref f5)))
    (l5 : K.lookup f5 = some ⟨oc5, od5, .func (PySem.W.fnOf "odd_places" "odd_places" (defArgs sOdd) (defBody sOdd) (defScope sOdd) .none kV5 dc5 pm5 an5 cd5 ct5), sl5⟩)
    (c5 : PySem.W.codeIn K cd5 "odd_places" = true) (k5 : PySem.W.keepIn K (.ref f5) = true)
    (a6 : PySem.W.nsIn K mainGlobals "is_even" = some (some (.ref f6)))
    (l6 : K.lookup f6 = some ⟨oc6, od6, .func (PySem.W.fnOf "is_even" "is_even" (defArgs sEven) (defBody sEven) (defScope sEven) .none kV6 dc6 pm6 an6 cd6 ct6), sl6⟩)
    (c6 : PySem.W.codeIn K cd6 "is_even" = true) (k6 : PySem.W.keepIn K (.ref f6) = true)
    (a7 : PySem.W.nsIn K mainGlobals "_far_side" = some (some (.ref f7)))
    (l7 : K.lookup f7 = some ⟨oc7, od7, .func (PySem.W.fnOf "_far_side" "_far_side" (defArgs sFside) (defBody sFside) (defScope sFside) .none kV7 dc7 pm7 an7 cd7 ct7), sl7⟩)
    (c7 : PySem.W.codeIn K cd7 "_far_side" = true) (k7 : PySem.W.keepIn K (.ref f7) = true)
    (a8 : PySem.W.nsIn K mainGlobals "is_cut" = some (some (.ref f8)))
    (l8 : K.lookup f8 = some ⟨oc8, od8, .func (PySem.W.fnOf "is_cut" "is_cut" (defArgs sIscut) (defBody sIscut) (defScope sIscut) .none kV8 dc8 pm8 an8 cd8 ct8), sl8⟩)
    (c8 : PySem.W.codeIn K cd8 "is_cut" = true) (k8 : PySem.W.keepIn K (.ref f8) = true)
    (a9 : PySem.W.nsIn K mainGlobals "places_of_cut" = some (some (.ref f9)))
    (l9 : K.lookup f9 = some ⟨oc9, od9, .func (PySem.W.fnOf "places_of_cut" "places_of_cut" (defArgs sPlaces) (defBody sPlaces) (defScope sPlaces) .none kV9 dc9 pm9 an9 cd9 ct9), sl9⟩)
    (c9 : PySem.W.codeIn K cd9 "places_of_cut" = true) (k9 : PySem.W.keepIn K (.ref f9) = true)
    (a10 : PySem.W.nsIn K mainGlobals "_law_box" = some (some (.ref f10)))
    (l10 : K.lookup f10 = some ⟨oc10, od10, .func (PySem.W.fnOf "_law_box" "_law_box" (defArgs sBox) (defBody sBox) (defScope sBox) .none kV10 dc10 pm10 an10 cd10 ct10), sl10⟩)
    (c10 : PySem.W.codeIn K cd10 "_law_box" = true) (k10 : PySem.W.keepIn K (.ref f10) = true)
    (a11 : PySem.W.nsIn K mainGlobals "_law_draw" = some (some (.ref f11)))
    (l11 : K.lookup f11 = some ⟨oc11, od11, .func (PySem.W.fnOf "_law_draw" "_law_draw" (defArgs sDraw) (defBody sDraw) (defScope sDraw) .none kV11 dc11 pm11 an11 cd11 ct11), sl11⟩)
    (c11 : PySem.W.codeIn K cd11 "_law_draw" = true) (k11 : PySem.W.keepIn K (.ref f11) = true)
    (a12 : PySem.W.nsIn K mainGlobals "_law_pick" = some (some (.ref f12)))
    (l12 : K.lookup f12 = some ⟨oc12, od12, .func (PySem.W.fnOf "_law_pick" "_law_pick" (defArgs sPick) (defBody sPick) (defScope sPick) .none kV12 dc12 pm12 an12 cd12 ct12), sl12⟩)
    (c12 : PySem.W.codeIn K cd12 "_law_pick" = true) (k12 : PySem.W.keepIn K (.ref f12) = true)
    (a13 : PySem.W.nsIn K mainGlobals "_law_web" = some (some (.ref f13)))
    (l13 : K.lookup f13 = some ⟨oc13, od13, .func (PySem.W.fnOf "_law_web" "_law_web" (defArgs sWeb) (defBody sWeb) (defScope sWeb) .none kV13 dc13 pm13 an13 cd13 ct13), sl13⟩)
    (c13 : PySem.W.codeIn K cd13 "_law_web" = true) (k13 : PySem.W.keepIn K (.ref f13) = true)
    (a14 : PySem.W.nsIn K mainGlobals "_law_counts" = some (some (.ref f14)))
    (l14 : K.lookup f14 = some ⟨oc14, od14, .func (PySem.W.fnOf "_law_counts" "_law_counts" (defArgs sCounts) (defBody sCounts) (defScope sCounts) .none kV14 dc14 pm14 an14 cd14 ct14), sl14⟩)
    (c14 : PySem.W.codeIn K cd14 "_law_counts" = true) (k14 : PySem.W.keepIn K (.ref f14) = true)
    (a15 : PySem.W.nsIn K mainGlobals "_law_is_even" = some (some (.ref f15)))
    (l15 : K.lookup f15 = some ⟨oc15, od15, .func (PySem.W.fnOf "_law_is_even" "_law_is_even" (defArgs sLeven) (defBody sLeven) (defScope sLeven) .none kV15 dc15 pm15 an15 cd15 ct15), sl15⟩)
    (c15 : PySem.W.codeIn K cd15 "_law_is_even" = true) (k15 : PySem.W.keepIn K (.ref f15) = true)
    (a16 : PySem.W.nsIn K mainGlobals "_law_sum" = some (some (.ref f16)))
    (l16 : K.lookup f16 = some ⟨oc16, od16, .func (PySem.W.fnOf "_law_sum" "_law_sum" (defArgs sLsum) (defBody sLsum) (defScope sLsum) .none kV16 dc16 pm16 an16 cd16 ct16), sl16⟩)
    (c16 : PySem.W.codeIn K cd16 "_law_sum" = true) (k16 : PySem.W.keepIn K (.ref f16) = true)
    (a17 : PySem.W.nsIn K mainGlobals "_law_colours" = some (some (.ref f17)))
    (l17 : K.lookup f17 = some ⟨oc17, od17, .func (PySem.W.fnOf "_law_colours" "_law_colours" (defArgs sCol) (defBody sCol) (defScope sCol) .none kV17 dc17 pm17 an17 cd17 ct17), sl17⟩)
    (c17 : PySem.W.codeIn K cd17 "_law_colours" = true) (k17 : PySem.W.keepIn K (.ref f17) = true)
    (a18 : PySem.W.nsIn K mainGlobals "_law_told" = some (some (.ref f18)))
    (l18 : K.lookup f18 = some ⟨oc18, od18, .func (PySem.W.fnOf "_law_told" "_law_told" (defArgs sTold) (defBody sTold) (defScope sTold) .none kV18 dc18 pm18 an18 cd18 ct18), sl18⟩)
    (c18 : PySem.W.codeIn K cd18 "_law_told" = true) (k18 : PySem.W.keepIn K (.ref f18) = true)
    (a19 : PySem.W.nsIn K mainGlobals "_law_is_right" = some (some (.ref f19)))
    (l19 : K.lookup f19 = some ⟨oc19, od19, .func (PySem.W.fnOf "_law_is_right" "_law_is_right" (defArgs sRight) (defBody sRight) (defScope sRight) .none kV19 dc19 pm19 an19 cd19 ct19), sl19⟩)
    (c19 : PySem.W.codeIn K cd19 "_law_is_right" = true) (k19 : PySem.W.keepIn K (.ref f19) = true)
    (a20 : PySem.W.nsIn K mainGlobals "_law_walk" = some (some (.ref f20)))
    (l20 : K.lookup f20 = some ⟨oc20, od20, .func (PySem.W.fnOf "_law_walk" "_law_walk" (defArgs sWalk) (defBody sWalk) (defScope sWalk) .none kV20 dc20 pm20 an20 cd20 ct20), sl20⟩)
    (c20 : PySem.W.codeIn K cd20 "_law_walk" = true) (k20 : PySem.W.keepIn K (.ref f20) = true)
    (a21 : PySem.W.nsIn K mainGlobals "_law_lots" = some (some (.ref f21)))
    (l21 : K.lookup f21 = some ⟨oc21, od21, .func (PySem.W.fnOf "_law_lots" "_law_lots" (defArgs sLots) (defBody sLots) (defScope sLots) .none kV21 dc21 pm21 an21 cd21 ct21), sl21⟩)
    (c21 : PySem.W.codeIn K cd21 "_law_lots" = true) (k21 : PySem.W.keepIn K (.ref f21) = true)
    (a22 : PySem.W.nsIn K mainGlobals "law" = some (some (.ref f22)))
    (l22 : K.lookup f22 = some ⟨oc22, od22, .func (PySem.W.fnOf "law" "law" (defArgs sLaw) (defBody sLaw) (defScope sLaw) .none kV22 dc22 pm22 an22 cd22 ct22), sl22⟩)
    (c22 : PySem.W.codeIn K cd22 "law" = true) (k22 : PySem.W.keepIn K (.ref f22) = true)
    (z_int : PySem.W.nsIn K mainGlobals "int" = some none)
    (z_abs : PySem.W.nsIn K mainGlobals "abs" = some none)
    (z_len : PySem.W.nsIn K mainGlobals "len" = some none)
    (z_range : PySem.W.nsIn K mainGlobals "range" = some none)
    (z_enumerate : PySem.W.nsIn K mainGlobals "enumerate" = some none)
    (z_tuple : PySem.W.nsIn K mainGlobals "tuple" = some none)
    (z_min : PySem.W.nsIn K mainGlobals "min" = some none)
    (z_max : PySem.W.nsIn K mainGlobals "max" = some none)
    (z_sum : PySem.W.nsIn K mainGlobals "sum" = some none)
    (z_repr : PySem.W.nsIn K mainGlobals "repr" = some none)
    (z_sorted : PySem.W.nsIn K mainGlobals "sorted" = some none)
    (z_isinstance : PySem.W.nsIn K mainGlobals "isinstance" = some none)
    (z_ValueError : PySem.W.nsIn K mainGlobals "ValueError" = some none) :
    ∃ fd : FuncData, (∀ (s : Shared) (v : Value), BindsTo s fd ⟨[v], []⟩ [("_law_script", v)]) ∧
      ∀ base : Heap, K.In base → base.Ns mainGlobals mg → FnG l.prog w K mg base CX0 7 fa fd ["_law_script"] (spLaw K) := by
  have e := hfa.symm.trans (PySem.W.mg_of X G a22)
  cases e
  have T : Bl mg := ⟨PySem.W.mg_none_of X G z_int, PySem.W.mg_none_of X G z_abs, PySem.W.mg_none_of X G z_len, PySem.W.mg_none_of X G z_range, PySem.W.mg_none_of X G z_enumerate, PySem.W.mg_none_of X G z_tuple, PySem.W.mg_none_of X G z_min, PySem.W.mg_none_of X G z_max, PySem.W.mg_none_of X G z_sum, PySem.W.mg_none_of X G z_repr⟩
  have Zsorted : mg "sorted" = none := PySem.W.mg_none_of X G z_sorted
  have Zisi : mg "isinstance" = none := PySem.W.mg_none_of X G z_isinstance
  have D0 : Df K mg "all_ties" sAll ["web"] f0 _ := df_mk X G a0 l0 c0 k0 fun _ _ _ _ _ _ us hl => match us, hl with | [_], _ => rfl
  have D1 : Df K mg "far_end" sFar ["web", "tie", "place"] f1 _ := df_mk X G a1 l1 c1 k1 fun _ _ _ _ _ _ us hl => match us, hl with | [_, _, _], _ => rfl
  have D2 : Df K mg "ways_from" sWays ["web", "ties", "start"] f2 _ := df_mk X G a2 l2 c2 k2 fun _ _ _ _ _ _ us hl => match us, hl with | [_, _, _], _ => rfl
  have D3 : Df K mg "common_odd" sCodd ["one", "other"] f3 _ := df_mk X G a3 l3 c3 k3 fun _ _ _ _ _ _ us hl => match us, hl with | [_, _], _ => rfl
  have D4 : Df K mg "cut_of" sCut ["web", "places"] f4 _ := df_mk X G a4 l4 c4 k4 fun _ _ _ _ _ _ us hl => match us, hl with | [_, _], _ => rfl
  have D5 : Df K mg "odd_places" sOdd ["web", "lot"] f5 _ := df_mk X G a5 l5 c5 k5 fun _ _ _ _ _ _ us hl => match us, hl with | [_, _], _ => rfl
  have D6 : Df K mg "is_even" sEven ["web", "lot"] f6 _ := df_mk X G a6 l6 c6 k6 fun _ _ _ _ _ _ us hl => match us, hl with | [_, _], _ => rfl
  have D7 : Df K mg "_far_side" sFside ["web", "lot"] f7 _ := df_mk X G a7 l7 c7 k7 fun _ _ _ _ _ _ us hl => match us, hl with | [_, _], _ => rfl
  have D8 : Df K mg "is_cut" sIscut ["web", "lot"] f8 _ := df_mk X G a8 l8 c8 k8 fun _ _ _ _ _ _ us hl => match us, hl with | [_, _], _ => rfl
  have D9 : Df K mg "places_of_cut" sPlaces ["web", "lot"] f9 _ := df_mk X G a9 l9 c9 k9 fun _ _ _ _ _ _ us hl => match us, hl with | [_, _], _ => rfl
  have D10 : Df K mg "_law_box" sBox ["_law_script"] f10 _ := df_mk X G a10 l10 c10 k10 fun _ _ _ _ _ _ us hl => match us, hl with | [_], _ => rfl
  have D11 : Df K mg "_law_draw" sDraw ["_law_box_here", "_law_many"] f11 _ := df_mk X G a11 l11 c11 k11 fun _ _ _ _ _ _ us hl => match us, hl with | [_, _], _ => rfl
  have D12 : Df K mg "_law_pick" sPick ["_law_box_here", "_law_items"] f12 _ := df_mk X G a12 l12 c12 k12 fun _ _ _ _ _ _ us hl => match us, hl with | [_, _], _ => rfl
  have D13 : Df K mg "_law_web" sWeb ["_law_box_here", "_law_most", "_law_more"] f13 _ := df_mk X G a13 l13 c13 k13 fun _ _ _ _ _ _ us hl => match us, hl with | [_, _, _], _ => rfl
  have D14 : Df K mg "_law_counts" sCounts ["_law_web_here", "_law_lot"] f14 _ := df_mk X G a14 l14 c14 k14 fun _ _ _ _ _ _ us hl => match us, hl with | [_, _], _ => rfl
  have D15 : Df K mg "_law_is_even" sLeven ["_law_web_here", "_law_lot"] f15 _ := df_mk X G a15 l15 c15 k15 fun _ _ _ _ _ _ us hl => match us, hl with | [_, _], _ => rfl
  have D16 : Df K mg "_law_sum" sLsum ["_law_one", "_law_other"] f16 _ := df_mk X G a16 l16 c16 k16 fun _ _ _ _ _ _ us hl => match us, hl with | [_, _], _ => rfl
  have D17 : Df K mg "_law_colours" sCol ["_law_web_here", "_law_lot"] f17 _ := df_mk X G a17 l17 c17 k17 fun _ _ _ _ _ _ us hl => match us, hl with | [_, _], _ => rfl
  have D18 : Df K mg "_law_told" sTold ["_law_web_here", "_law_lot", "_law_is_named"] f18 _ := df_mk X G a18 l18 c18 k18 fun _ _ _ _ _ _ us hl => match us, hl with | [_, _, _], _ => rfl
  have D19 : Df K mg "_law_is_right" sRight ["_law_web_here", "_law_lot", "_law_is_named"] f19 _ := df_mk X G a19 l19 c19 k19 fun _ _ _ _ _ _ us hl => match us, hl with | [_, _, _], _ => rfl
  have D20 : Df K mg "_law_walk" sWalk ["_law_box_here", "_law_web_here"] f20 _ := df_mk X G a20 l20 c20 k20 fun _ _ _ _ _ _ us hl => match us, hl with | [_, _], _ => rfl
  have D21 : Df K mg "_law_lots" sLots ["_law_box_here", "_law_web_here"] f21 _ := df_mk X G a21 l21 c21 k21 fun _ _ _ _ _ _ us hl => match us, hl with | [_, _], _ => rfl
  have D22 : Df K mg "law" sLaw ["_law_script"] fa _ := df_mk X G a22 l22 c22 k22 fun _ _ _ _ _ _ us hl => match us, hl with | [_], _ => rfl
  have Kp : KBn K _ ["web", "lot"] 0 ["lot", "web"] (fun _ ws => ws.reverse) (fun _ zs => zs.reverse) := kbn_mk l9 (fun us ws h1 h2 => match us, ws, h1, h2 with | [], [_, _], _, _ => rfl) (fun r1 r2 => r2.reverse)
  have Ke : KBn K _ ["web", "lot"] 0 ["lot", "web"] (fun _ ws => ws.reverse) (fun _ zs => zs.reverse) := kbn_mk l6 (fun us ws h1 h2 => match us, ws, h1, h2 with | [], [_, _], _, _ => rfl) (fun r1 r2 => r2.reverse)
  have Kc : KBn K _ ["web", "lot"] 0 ["lot", "web"] (fun _ ws => ws.reverse) (fun _ zs => zs.reverse) := kbn_mk l8 (fun us ws h1 h2 => match us, ws, h1, h2 with | [], [_, _], _, _ => rfl) (fun r1 r2 => r2.reverse)
  have EU : ErrU K mg U0 B0 := { gU := PySem.W.mg_of X G gU, gB := PySem.W.mg_of X G gB, gv := PySem.W.mg_none_of X G z_ValueError, xU := xU, kU := kU, bU := bU, tU := tU, te := exm_self bU iU tU sU, ex := ⟨hgU, hkU, bU, hdU, haU, hnU, htU, hmU⟩, iv := kit_ve ivU, ib := kit_own iB tB ibU }
  exact ⟨_, fun s v => .of_eq rfl, fun base _ _ => ok_law D22 T Zsorted Zisi EU D4 D0 D1 D2 D3 D7 D9 Kp D5 D6 Ke D8 Kc D14 D15 D17 D18 D19 D10 D11 D12 D13 D16 D20 D21⟩
end BV

open PySem PySem.W PyProof.Rows in
set_option maxRecDepth 100000 in
set_option maxHeartbeats 0 in
theorem PySem.Challenge.cw_botheven_k05_whole_even_lots_and_cuts_holds : PySem.Challenge.rw_botheven_k05_whole_even_lots_and_cuts.Holds := by
  w_on; o_law; k_head; (case hw => w_witness2)
  k_fill
  refine BV.walk_ofG (n := 63) (k := 7) (x := "_law_script") (CX := L2.CX0) (sp := BV.spLaw) (l := PySem.Challenge.rw_botheven_k05_whole_even_lots_and_cuts) rfl (by decide) rfl ⟨rfl, by decide, by decide⟩ (fun w h Y => PySem.W.kIn_of Y) ?F (fun _ _ a ns hl _ _ hS => ⟨a, ns, rfl, hS, hl, fun _ => rfl⟩) fun _ _ _ _ z => z
  case F =>
    intro w mg fa h KX G hmg
    refine' BV.all_mk KX G hmg ?gU ?gB ?xU ?kU ?bU ?tU ?iU ?sU ?hgU ?hkU ?hdU ?haU ?hnU ?htU ?hmU ?ivU ?ibU ?iB ?tB ?a0 ?l0 ?c0 ?k0 ?a1 ?l1 ?c1 ?k1 ?a2 ?l2 ?c2 ?k2 ?a3 ?l3 ?c3 ?k3 ?a4 ?l4 ?c4 ?k4 ?a5 ?l5 ?c5 ?k5 ?a6 ?l6 ?c6 ?k6 ?a7 ?l7 ?c7 ?k7 ?a8 ?l8 ?c8 ?k8 ?a9 ?l9 ?c9 ?k9 ?a10 ?l10 ?c10 ?k10 ?a11 ?l11 ?c11 ?k11 ?a12 ?l12 ?c12 ?k12 ?a13 ?l13 ?c13 ?k13 ?a14 ?l14 ?c14 ?k14 ?a15 ?l15 ?c15 ?k15 ?a16 ?l16 ?c16 ?k16 ?a17 ?l17 ?c17 ?k17 ?a18 ?l18 ?c18 ?k18 ?a19 ?l19 ?c19 ?k19 ?a20 ?l20 ?c20 ?k20 ?a21 ?l21 ?c21 ?k21 ?a22 ?l22 ?c22 ?k22 ?z_int ?z_abs ?z_len ?z_range ?z_enumerate ?z_tuple ?z_min ?z_max ?z_sum ?z_repr ?z_sorted ?z_isinstance ?z_ValueError
    (case gU => k_is)
    (case gB => k_is)
    (case xU => k_exc)
    (case kU => k_is)
    (case bU => k_is)
    (case tU => k_is)
    (case iU => k_is)
    (case sU => first | rfl | k_is)
    (case hgU => k_is)
    (case hkU => k_is)
    (case hdU => k_is)
    (case haU => k_is)
    (case hnU => k_is)
    (case htU => k_is)
    (case hmU => k_is)
    (case ivU => k_is)
    (case ibU => k_is)
    (case iB => k_is)
    (case tB => k_is)
    (case a0 => k_is)
    (case l0 => k_is)
    (case c0 => k_is)
    (case k0 => k_is)
    (case a1 => k_is)
    (case l1 => k_is)
    (case c1 => k_is)
    (case k1 => k_is)
    (case a2 => k_is)
    (case l2 => k_is)
    (case c2 => k_is)
    (case k2 => k_is)
    (case a3 => k_is)
    (case l3 => k_is)
    (case c3 => k_is)
    (case k3 => k_is)
    (case a4 => k_is)
    (case l4 => k_is)
    (case c4 => k_is)
    (case k4 => k_is)
    (case a5 => k_is)
    (case l5 => k_is)
    (case c5 => k_is)
    (case k5 => k_is)
    (case a6 => k_is)
    (case l6 => k_is)
    (case c6 => k_is)
    (case k6 => k_is)
    (case a7 => k_is)
    (case l7 => k_is)
    (case c7 => k_is)
    (case k7 => k_is)
    (case a8 => k_is)
    (case l8 => k_is)
    (case c8 => k_is)
    (case k8 => k_is)
    (case a9 => k_is)
    (case l9 => k_is)
    (case c9 => k_is)
    (case k9 => k_is)
    (case a10 => k_is)
    (case l10 => k_is)
    (case c10 => k_is)
    (case k10 => k_is)
    (case a11 => k_is)
    (case l11 => k_is)
    (case c11 => k_is)
    (case k11 => k_is)
    (case a12 => k_is)
    (case l12 => k_is)
    (case c12 => k_is)
    (case k12 => k_is)
    (case a13 => k_is)
    (case l13 => k_is)
    (case c13 => k_is)
    (case k13 => k_is)
    (case a14 => k_is)
    (case l14 => k_is)
    (case c14 => k_is)
    (case k14 => k_is)
    (case a15 => k_is)
    (case l15 => k_is)
    (case c15 => k_is)
    (case k15 => k_is)
    (case a16 => k_is)
    (case l16 => k_is)
    (case c16 => k_is)
    (case k16 => k_is)
    (case a17 => k_is)
    (case l17 => k_is)
    (case c17 => k_is)
    (case k17 => k_is)
    (case a18 => k_is)
    (case l18 => k_is)
    (case c18 => k_is)
    (case k18 => k_is)
    (case a19 => k_is)
    (case l19 => k_is)
    (case c19 => k_is)
    (case k19 => k_is)
    (case a20 => k_is)
    (case l20 => k_is)
    (case c20 => k_is)
    (case k20 => k_is)
    (case a21 => k_is)
    (case l21 => k_is)
    (case c21 => k_is)
    (case k21 => k_is)
    (case a22 => k_is)
    (case l22 => k_is)
    (case c22 => k_is)
    (case k22 => k_is)
    (case z_int => k_is)
    (case z_abs => k_is)
    (case z_len => k_is)
    (case z_range => k_is)
    (case z_enumerate => k_is)
    (case z_tuple => k_is)
    (case z_min => k_is)
    (case z_max => k_is)
    (case z_sum => k_is)
    (case z_repr => k_is)
    (case z_sorted => k_is)
    (case z_isinstance => k_is)
    (case z_ValueError => k_is)

