import PyProof.Rows.All
import Wide.All
import OpenK.AllK
import Wide.FinOn
import HandS.ForMost
import HandS.ForExc
import HandS.TryMany
import HandS.IsInst
import HandS.TupAny
import HandS.TupMul
import HandS.Flow
import HandS.Small
import HandS.ExcIs
import HandS.Wide
import PyProof.WalksMore
import HandS.Dict
import PySem.Challenge.RW_fullbelts_k21_holdings_and_carries_refus
set_option Elab.async false
set_option linter.all false
set_option maxRecDepth 100000
set_option maxHeartbeats 4000000
/-! Readings over plain data: slots that hold data (frozen trees), own lists, the tape. -/
namespace DS
open PySem PySem.Spec PyProof.Rows L2

inductive D where
  | non | bl (b : Bool) | int (i : Int) | str (x : Str) | ty (n : String)
  | lst (ds : List D) | tup (ds : List D)
  | ins (C : Addr) (fs : List (Str × D))
  | dct (kvs : List (D × D))
  | tape

def keyD : Key → D
  | .inl i => .int i
  | .inr s => .str s

mutual
inductive Rp (t : Addr) (H : Hp) : V → D → Prop
  | non : Rp t H .non .non
  | bl (b : Bool) : Rp t H (.bl b) (.bl b)
  | int (i : Int) : Rp t H (.int i) (.int i)
  | str (x : Str) : Rp t H (.str x) (.str x)
  | ty (n : String) : Rp t H (.ty n) (.ty n)
  | tape : Rp t H (.ref t) .tape
  | lst {a : Addr} {vs : List V} {ds : List D} : H a = some (.lst vs) → RpL t H vs ds → Rp t H (.ref a) (.lst ds)
  | tup {a : Addr} {vs : List V} {ds : List D} : H a = some (.tup vs) → RpL t H vs ds → Rp t H (.ref a) (.tup ds)
  | ins {a C dx : Addr} {fs : List (Str × V)} {ds : List (Str × D)} : H a = some (.ins C dx fs) → RpF t H fs ds → Rp t H (.ref a) (.ins C ds)
  | dct {a : Addr} {kvs : List (Key × V)} {ds : List (D × D)} : H a = some (.dK kvs) → RpK t H kvs ds → Rp t H (.ref a) (.dct ds)
  | dctT {a : Addr} {kvs : List (List Key × V)} {ds : List (D × D)} : H a = some (.dT kvs) → RpT t H kvs ds → Rp t H (.ref a) (.dct ds)
inductive RpL (t : Addr) (H : Hp) : List V → List D → Prop
  | nil : RpL t H [] []
  | cons {v : V} {vs : List V} {d : D} {ds : List D} : Rp t H v d → RpL t H vs ds → RpL t H (v :: vs) (d :: ds)
inductive RpF (t : Addr) (H : Hp) : List (Str × V) → List (Str × D) → Prop
  | nil : RpF t H [] []
  | cons {x : Str} {v : V} {vs : List (Str × V)} {d : D} {ds : List (Str × D)} : Rp t H v d → RpF t H vs ds → RpF t H ((x, v) :: vs) ((x, d) :: ds)
inductive RpK (t : Addr) (H : Hp) : List (Key × V) → List (D × D) → Prop
  | nil : RpK t H [] []
  | cons {k : Key} {v : V} {vs : List (Key × V)} {d : D} {ds : List (D × D)} : Rp t H v d → RpK t H vs ds → RpK t H ((k, v) :: vs) ((keyD k, d) :: ds)
inductive RpT (t : Addr) (H : Hp) : List (List Key × V) → List (D × D) → Prop
  | nil : RpT t H [] []
  | cons {k : List Key} {v : V} {vs : List (List Key × V)} {d : D} {ds : List (D × D)} : Rp t H v d → RpT t H vs ds → RpT t H ((k, v) :: vs) ((D.tup (k.map keyD), d) :: ds)
end

mutual
theorem Rp.mono {t : Addr} {H H' : Hp} (e : Same H H') : ∀ {v : V} {d : D}, Rp t H v d → Rp t H' v d
  | _, _, .non => .non
  | _, _, .bl b => .bl b
  | _, _, .int b => .int b
  | _, _, .str b => .str b
  | _, _, .ty b => .ty b
  | _, _, .tape => .tape
  | _, _, .lst h r => .lst (e _ _ h) (RpL.mono e r)
  | _, _, .tup h r => .tup (e _ _ h) (RpL.mono e r)
  | _, _, .ins h r => .ins (e _ _ h) (RpF.mono e r)
  | _, _, .dct h r => .dct (e _ _ h) (RpK.mono e r)
  | _, _, .dctT h r => .dctT (e _ _ h) (RpT.mono e r)
theorem RpL.mono {t : Addr} {H H' : Hp} (e : Same H H') : ∀ {v : List V} {d : List D}, RpL t H v d → RpL t H' v d
  | _, _, .nil => .nil
  | _, _, .cons h r => .cons (Rp.mono e h) (RpL.mono e r)
theorem RpF.mono {t : Addr} {H H' : Hp} (e : Same H H') : ∀ {v : List (Str × V)} {d : List (Str × D)}, RpF t H v d → RpF t H' v d
  | _, _, .nil => .nil
  | _, _, .cons h r => .cons (Rp.mono e h) (RpF.mono e r)
theorem RpK.mono {t : Addr} {H H' : Hp} (e : Same H H') : ∀ {v : List (Key × V)} {d : List (D × D)}, RpK t H v d → RpK t H' v d
  | _, _, .nil => .nil
  | _, _, .cons h r => .cons (Rp.mono e h) (RpK.mono e r)
theorem RpT.mono {t : Addr} {H H' : Hp} (e : Same H H') : ∀ {v : List (List Key × V)} {d : List (D × D)}, RpT t H v d → RpT t H' v d
  | _, _, .nil => .nil
  | _, _, .cons h r => .cons (Rp.mono e h) (RpT.mono e r)
end

/-- what an object's content is -/
inductive Ct (t : Addr) (H : Hp) : HO → D → Prop
  | lst {vs : List V} {ds : List D} : RpL t H vs ds → Ct t H (.lst vs) (.lst ds)
  | dct {kvs : List (Key × V)} {ds : List (D × D)} : RpK t H kvs ds → Ct t H (.dK kvs) (.dct ds)
  | dctT {kvs : List (List Key × V)} {ds : List (D × D)} : RpT t H kvs ds → Ct t H (.dT kvs) (.dct ds)
theorem Ct.mono {t : Addr} {H H' : Hp} (e : Same H H') {o : HO} {d : D} : Ct t H o d → Ct t H' o d
  | .lst r => .lst (r.mono e)
  | .dct r => .dct (r.mono e)
  | .dctT r => .dctT (r.mono e)
theorem Ct.rp {t : Addr} {H : Hp} {o : HO} {d : D} {a : Addr} (h : H a = some o) : Ct t H o d → Rp t H (.ref a) d
  | .lst r => .lst h r
  | .dct r => .dct h r
  | .dctT r => .dctT h r

/-- the heap without the addresses of O -/
def hd (O : List Addr) (H : Hp) : Hp := fun a => if a ∈ O then none else H a
theorem hd_in {O : List Addr} {H : Hp} {a : Addr} (h : a ∈ O) : hd O H a = none := by
  unfold hd
  rw [if_pos h]
theorem hd_out {O : List Addr} {H : Hp} {a : Addr} (h : a ∉ O) : hd O H a = H a := by
  unfold hd
  rw [if_neg h]
theorem hd_some {O : List Addr} {H : Hp} {a : Addr} {o : HO} (h : hd O H a = some o) : a ∉ O ∧ H a = some o := by
  by_cases e : a ∈ O
  · rw [hd_in e] at h
    cases h
  · rw [hd_out e] at h
    exact ⟨e, h⟩
theorem hd_sub {O O' : List Addr} {H : Hp} (h : ∀ a ∈ O', a ∈ O) : Same (hd O H) (hd O' H) := fun a o e => by
  obtain ⟨n, e⟩ := hd_some e
  rw [hd_out fun z => n (h a z)]
  exact e
theorem hd_le {O : List Addr} {H : Hp} : Same (hd O H) H := fun a o e => (hd_some e).2

/-- the tape at t, its numbers at l, under I -/
abbrev TI' := List Int → Int → Int → Int → Int → Prop
def Tp (t l : Addr) (I : TI') (H : Hp) : Prop := ∃ ns i j k m, H t = some (.lst [.ref l, .int i, .int j, .int k, .int m]) ∧ H l = some (.lst (ns.map V.int)) ∧ I ns i j k m
def Kept (t l : Addr) (I : TI') (H H' : Hp) : Prop := (∀ a o, a ≠ t → H a = some o → H' a = some o) ∧ Tp t l I H'

inductive Slot where
  | no | d (x : D) | own (x : D)

structure EnvB (t l : Addr) (I : TI') (H0 : Hp) (O0 O : List Addr) (H : Hp) : Prop where
  tp : Tp t l I H
  t0 : t ∈ O0
  l0 : l ∈ O0
  sub : ∀ a ∈ O0, a ∈ O
  all0 : ∀ a ∈ O0, H0 a ≠ none
  all : ∀ a ∈ O, H a ≠ none
  kept : ∀ a o, a ≠ t → H0 a = some o → H a = some o
  ownO : ∀ a ∈ O, a ∈ O0 ∨ H0 a = none
def SlotOk (t : Addr) (H0 : Hp) (O : List Addr) (H : Hp) (v : Option (Option V)) : Slot → Prop
  | .no => True
  | .d x => ∃ u, v = some (some u) ∧ Rp t (hd O H) u x
  | .own x => ∃ p o, v = some (some (.ref p)) ∧ p ∈ O ∧ H0 p = none ∧ H p = some o ∧ Ct t (hd O H) o x
structure Env (t l : Addr) (I : TI') (H0 : Hp) (O0 O : List Addr) (H : Hp) (σ : L2.St) (ρ : List Slot) : Prop extends EnvB t l I H0 O0 O H where
  len : σ.length = ρ.length
  slot : ∀ (i : Nat) s, ρ[i]? = some s → SlotOk t H0 O H σ[i]? s
  dist : ∀ (i j : Nat) p xi xj, ρ[i]? = some (.own xi) → ρ[j]? = some (.own xj) → σ[i]? = some (some (.ref p)) → σ[j]? = some (some (.ref p)) → i = j

section
variable {t l : Addr} {I : TI'} {H0 H H' H'' : Hp} {O0 O : List Addr} {σ : L2.St} {ρ : List Slot}
theorem Tp.lt (h : Tp t l I H) : t ≠ l := fun e => by
  obtain ⟨ns, i, j, k, m, h1, h2, _⟩ := h
  subst e
  rw [h1] at h2
  have e := HO.lst.inj (Option.some.inj h2)
  cases ns with
  | nil => cases e
  | cons a r =>
    rw [List.map_cons] at e
    cases (List.cons.inj e).1
theorem Kept.refl (h : Tp t l I H) : Kept t l I H H := ⟨fun _ _ _ e => e, h⟩
theorem Kept.trans (a : Kept t l I H H') (b : Kept t l I H' H'') : Kept t l I H H'' := ⟨fun c o n e => b.1 c o n (a.1 c o n e), b.2⟩
theorem Kept.same (k : Kept t l I H H') (ht : t ∈ O) : Same (hd O H) (hd O H') := fun a o e => by
  obtain ⟨n, e⟩ := hd_some e
  rw [hd_out n]
  exact k.1 a o (fun z => n (z ▸ ht)) e
theorem Kept.there (k : Kept t l I H H') (ht : H' t ≠ none) {a : Addr} (h : H a ≠ none) : H' a ≠ none := by
  by_cases e : a = t
  · rw [e]
    exact ht
  · cases q : H a with
    | none => exact absurd q h
    | some o =>
      rw [k.1 a o e q]
      exact fun z => nomatch z
theorem Tp.t_some (h : Tp t l I H) : H t ≠ none := by
  obtain ⟨ns, i, j, k, m, h1, h2, _⟩ := h
  rw [h1]
  exact fun z => nomatch z
/-- a new object -/
theorem Kept.new (h : Tp t l I H) {p : Addr} {o : HO} (n : H p = none) : Kept t l I H (upd H p o) := by
  have k : ∀ a u, H a = some u → upd H p o a = some u := fun a u e => by
    rw [upd_ne (ne_of_none e n)]
    exact e
  obtain ⟨ns, i, j, kk, m, h1, h2, h3⟩ := h
  exact ⟨fun a u _ e => k a u e, ns, i, j, kk, m, k _ _ h1, k _ _ h2, h3⟩
theorem EnvB.t1 (E : EnvB t l I H0 O0 O H) : t ∈ O := E.sub _ E.t0
theorem EnvB.l1 (E : EnvB t l I H0 O0 O H) : l ∈ O := E.sub _ E.l0
theorem EnvB.keep (E : EnvB t l I H0 O0 O H) (k : Kept t l I H H') : EnvB t l I H0 O0 O H' :=
  ⟨k.2, E.t0, E.l0, E.sub, E.all0, fun a h => k.there k.2.t_some (E.all a h), fun a o n e => k.1 a o n (E.kept a o n e), E.ownO⟩
theorem own_ne (E : EnvB t l I H0 O0 O H) {p : Addr} (h : H0 p = none) : p ∉ O0 := fun z => E.all0 p z h
theorem SlotOk.keep (E : EnvB t l I H0 O0 O H) (k : Kept t l I H H') {v : Option (Option V)} : ∀ {s : Slot}, SlotOk t H0 O H v s → SlotOk t H0 O H' v s
  | .no, _ => True.intro
  | .d x, ⟨u, e, r⟩ => ⟨u, e, r.mono (k.same E.t1)⟩
  | .own x, ⟨p, o, e, hp, h0, hh, c⟩ => ⟨p, o, e, hp, h0, k.1 p o (fun z => own_ne E h0 (z ▸ E.t0)) hh, c.mono (k.same E.t1)⟩
theorem Env.keep (E : Env t l I H0 O0 O H σ ρ) (k : Kept t l I H H') : Env t l I H0 O0 O H' σ ρ :=
  ⟨E.toEnvB.keep k, E.len, fun i s h => (E.slot i s h).keep E.toEnvB k, E.dist⟩
end

/-! ### meanings -/
structure XD where
  C : Addr
  fs : List (Str × D)
abbrev SE := List Slot → (D → Prop) → (XD → Prop) → Prop
abbrev SB := List Slot → (Bool → Prop) → (XD → Prop) → Prop
abbrev SL := List Slot → (List D → Prop) → (XD → Prop) → Prop
structure EndS where
  nx : List Slot → Prop
  rt : D → Prop
  bk : List Slot → Prop
  ct : List Slot → Prop
  ex : XD → List Slot → Prop
abbrev SS := List Slot → EndS → Prop
abbrev SF := List D → (D → Prop) → (XD → Prop) → Prop

def RpX (t : Addr) (H : Hp) (x : XD) (cls : Value) (dd : Option Addr) : Prop :=
  cls = .ref x.C ∧ ((x.fs = [] ∧ dd = none) ∨ ∃ d us, dd = some d ∧ H d = some (.xd us) ∧ RpF t H us x.fs)
theorem RpX.mono {t : Addr} {H H' : Hp} (e : Same H H') {x : XD} {cls : Value} {dd : Option Addr} (h : RpX t H x cls dd) : RpX t H' x cls dd := by
  obtain ⟨h1, h2 | ⟨d, us, h2, h3, h4⟩⟩ := h
  · exact ⟨h1, .inl h2⟩
  · exact ⟨h1, .inr ⟨d, us, h2, e _ _ h3, h4.mono e⟩⟩

section
variable (t l : Addr) (I : TI')
/-- what is wanted of a value, of an exception -/
def OKQ (O : List Addr) (H : Hp) (P : D → Prop) (Q : VK) : Prop := ∀ d v H', P d → Kept t l I H H' → Rp t (hd O H') v d → Q v H'
def OKX (W : WX) (O : List Addr) (σ : L2.St) (H : Hp) (PX : XD → Prop) : Prop := ∀ x cls dd H', PX x → Kept t l I H H' → RpX t (hd O H') x cls dd → W cls dd σ H'
def rdE (W : WX) (se : SE) : TE := fun σ H Q => ∃ H0 O0 O ρ P PX, Env t l I H0 O0 O H σ ρ ∧ se ρ P PX ∧ OKQ t l I O H P Q ∧ OKX t l I W O σ H PX
/-- a value that may be an own object (read at once, not kept) -/
def rdB (W : WX) (se : SE) : TE := fun σ H Q => ∃ H0 O0 O ρ P PX, Env t l I H0 O0 O H σ ρ ∧ se ρ P PX ∧
  (∀ d v H', P d → Kept t l I H H' → (Rp t (hd O H') v d ∨ ∃ p o, v = .ref p ∧ H' p = some o ∧ Ct t (hd O H') o d) → Q v H') ∧ OKX t l I W O σ H PX
/-- a new list, dict -/
def rdF (W : WX) (se : SE) : TE := fun σ H Q => ∃ H0 O0 O ρ P PX, Env t l I H0 O0 O H σ ρ ∧ se ρ P PX ∧
  (∀ d p o H', P d → Kept t l I H H' → H p = none → H' p = some o → Ct t (hd (p :: O) H') o d → Q (.ref p) H') ∧ OKX t l I W O σ H PX
def rdT (W : WX) (st : SB) : TT := fun σ H Q => ∃ H0 O0 O ρ P PX, Env t l I H0 O0 O H σ ρ ∧ st ρ P PX ∧
  (∀ b H', P b → Kept t l I H H' → Q b H') ∧ OKX t l I W O σ H PX
def rdA (W : WX) (sa : SL) : TA := fun σ H Q => ∃ H0 O0 O ρ P PX, Env t l I H0 O0 O H σ ρ ∧ sa ρ P PX ∧
  (∀ ds vs H', P ds → Kept t l I H H' → RpL t (hd O H') vs ds → Q vs H') ∧ OKX t l I W O σ H PX
structure EndsOk (H0 : Hp) (O0 : List Addr) (W : WX) (S : EndS) (E : Ends) : Prop where
  nx : ∀ O σ ρ H, Env t l I H0 O0 O H σ ρ → S.nx ρ → E.nx σ H
  bk : ∀ O σ ρ H, Env t l I H0 O0 O H σ ρ → S.bk ρ → E.bk σ H
  ct : ∀ O σ ρ H, Env t l I H0 O0 O H σ ρ → S.ct ρ → E.ct σ H
  rt : ∀ d v O H, EnvB t l I H0 O0 O H → S.rt d → Rp t (hd O H) v d → E.rt v H
  ex : ∀ x ρ cls dd O σ H, Env t l I H0 O0 O H σ ρ → S.ex x ρ → RpX t (hd O H) x cls dd → W cls dd σ H
def rdS (W : WX) (ss : SS) : TS := fun E σ H => ∃ H0 O0 O ρ S, Env t l I H0 O0 O H σ ρ ∧ ss ρ S ∧ EndsOk t l I H0 O0 W S E
/-- what a def promises -/
def spD (sf : SF) : Sp := fun vs H Q E => ∃ O ds P PX, Tp t l I H ∧ t ∈ O ∧ l ∈ O ∧ (∀ a ∈ O, H a ≠ none) ∧ RpL t (hd O H) vs ds ∧ sf ds P PX ∧ OKQ t l I O H P Q ∧
  (∀ x cls dd H', PX x → Kept t l I H H' → RpX t (hd O H') x cls dd → E cls dd H')
end
theorem RpL.length {t : Addr} {H : Hp} {vs : List V} {ds : List D} (h : RpL t H vs ds) : vs.length = ds.length := by
  induction vs generalizing ds with
  | nil =>
    cases h
    rfl
  | cons v vs ih =>
    cases h with
    | cons a b =>
      rw [List.length_cons, List.length_cons, ih b]
theorem RpL.get {t : Addr} {H : Hp} {vs : List V} {ds : List D} (h : RpL t H vs ds) {i : Nat} {d : D} (e : ds[i]? = some d) : ∃ v, vs[i]? = some v ∧ Rp t H v d := by
  induction vs generalizing ds i with
  | nil =>
    cases h
    simp at e
  | cons v vs ih =>
    cases h with
    | cons a b =>
      cases i with
      | zero =>
        simp at e
        subst e
        exact ⟨v, rfl, a⟩
      | succ i => exact ih b (by simpa using e)
end DS

namespace DS
open PySem PySem.Spec PyProof.Rows L2

section
variable {X : Cx} {e : Expr}
theorem PE_imp {u u' : TE} (h : PE X e u) (k : ∀ σ H Q, u' σ H Q → u σ H Q) : PE X e u' := ⟨fun pins s σ H Q I q => h.run pins s σ H Q I (k σ H Q q)⟩
theorem PT_imp {u u' : TT} (h : PT X e u) (k : ∀ σ H Q, u' σ H Q → u σ H Q) : PT X e u' := ⟨fun pins s σ H Q I q => h.run pins s σ H Q I (k σ H Q q)⟩
theorem PW_imp {u u' : TT} (h : PW X e u) (k : ∀ σ H Q, u' σ H Q → u σ H Q) : PW X e u' := ⟨fun wh pins s σ H Q I q => h.run wh pins s σ H Q I (k σ H Q q)⟩
theorem PA_imp {es : List Expr} {u u' : TA} (h : PA X es u) (k : ∀ σ H Q, u' σ H Q → u σ H Q) : PA X es u' := ⟨fun pos pins s σ H Q I q => h.run pos pins s σ H Q I (k σ H Q q)⟩
theorem PS_imp {st : Stmt} {u u' : TS} (h : PS X st u) (k : ∀ E σ H, u' E σ H → u E σ H) : PS X st u' := ⟨fun pins s σ H E I q => h.run pins s σ H E I (k E σ H q)⟩
theorem PSs_imp {st : List Stmt} {u u' : TS} (h : PSs X st u) (k : ∀ E σ H, u' E σ H → u E σ H) : PSs X st u' := ⟨fun pins s σ H E I q => h.run pins s σ H E I (k E σ H q)⟩
end

/-- what a borrowed value is -/
def Bor (t : Addr) (O : List Addr) (H : Hp) (v : V) (d : D) : Prop := Rp t (hd O H) v d ∨ ∃ p o, v = .ref p ∧ p ≠ t ∧ H p = some o ∧ Ct t (hd O H) o d
section
variable {t l : Addr} {I : TI'} {H0 H H' H'' : Hp} {O0 O : List Addr} {σ : L2.St} {ρ : List Slot} {W : WX} {P : D → Prop} {PX : XD → Prop} {Q : VK}
theorem Bor.keep (k : Kept t l I H H') (ht : t ∈ O) {v : V} {d : D} (h : Bor t O H v d) : Bor t O H' v d := by
  rcases h with h | ⟨p, o, e, n, h, c⟩
  · exact .inl (h.mono (k.same ht))
  · exact .inr ⟨p, o, e, n, k.1 p o n h, c.mono (k.same ht)⟩
theorem OKX.keep (k : Kept t l I H H') (h : OKX t l I W O σ H PX) : OKX t l I W O σ H' PX := fun x cls dd H'' p k' r => h x cls dd H'' p (k.trans k') r
theorem OKQ.keep (k : Kept t l I H H') (h : OKQ t l I O H P Q) : OKQ t l I O H' P Q := fun x cls H'' p k' r => h x cls H'' p (k.trans k') r
end

variable {t l : Addr} {I : TI'} {W : WX} {X : Cx} {pos : Pos}
section
variable {e : Expr} {se : SE}
/-- the reading of a borrowed value -/
def rdB' (t l : Addr) (I : TI') (W : WX) (se : SE) : TE := fun σ H Q => ∃ H0 O0 O ρ P PX, Env t l I H0 O0 O H σ ρ ∧ se ρ P PX ∧
  (∀ d v H', P d → Kept t l I H H' → Bor t O H' v d → Q v H') ∧ OKX t l I W O σ H PX
theorem e_b (h : PE X e (rdE t l I W se)) : PE X e (rdB' t l I W se) := PE_imp h fun σ H Q ⟨H0, O0, O, ρ, P, PX, E, hs, q, qx⟩ =>
  ⟨H0, O0, O, ρ, P, PX, E, hs, fun d v H' p k r => q d v H' p k (.inl r), qx⟩
theorem f_e (h : PE X e (rdF t l I W se)) : PE X e (rdE t l I W se) := PE_imp h fun σ H Q ⟨H0, O0, O, ρ, P, PX, E, hs, q, qx⟩ =>
  ⟨H0, O0, O, ρ, P, PX, E, hs, fun d p o H' pd k hn hp c => q d (.ref p) H' pd k ((c.mono (hd_sub fun a z => List.mem_cons_of_mem _ z)).rp (by
    rw [hd_out fun z => E.all p z hn]
    exact hp)), qx⟩
theorem f_b (h : PE X e (rdF t l I W se)) : PE X e (rdB' t l I W se) := e_b (f_e h)
end

/-! ### names and constants -/
def sVar (i : Nat) : SE := fun ρ P _ => match ρ[i]? with
  | some (.d x) => P x
  | _ => False
def sVarB (i : Nat) : SE := fun ρ P _ => match ρ[i]? with
  | some (.d x) => P x
  | some (.own x) => P x
  | _ => False
def sC (d : D) : SE := fun _ P _ => P d
theorem e_var (i : Nat) {x : Str} (hN : X.N[i]? = some x := by rfl) (hv : Vis X.env.scope x := by first | exact Or.inl rfl | exact Or.inr (Or.inl rfl) | exact Or.inr (Or.inr rfl)) (hd : (x == ("__debug__" : Str)) = false := by decide)
    (hcd : (x == ("__classdict__" : Str)) = false := by decide) : PE X (.Name x pos) (rdE t l I W (sVar i)) := PE_imp (pe_var hN hv hd hcd) fun σ H Q ⟨H0, O0, O, ρ, P, PX, E, hs, q, qx⟩ => by
  unfold sVar at hs
  split at hs
  · rename_i x' e'
    obtain ⟨u, e1, r⟩ := E.slot i _ e'
    exact ⟨u, e1, q _ _ H hs (.refl E.tp) r⟩
  · exact hs.elim
theorem b_var (i : Nat) {x : Str} (hN : X.N[i]? = some x := by rfl) (hv : Vis X.env.scope x := by first | exact Or.inl rfl | exact Or.inr (Or.inl rfl) | exact Or.inr (Or.inr rfl)) (hd : (x == ("__debug__" : Str)) = false := by decide)
    (hcd : (x == ("__classdict__" : Str)) = false := by decide) : PE X (.Name x pos) (rdB' t l I W (sVarB i)) := PE_imp (pe_var hN hv hd hcd) fun σ H Q ⟨H0, O0, O, ρ, P, PX, E, hs, q, qx⟩ => by
  unfold sVarB at hs
  split at hs
  · rename_i x' e'
    obtain ⟨u, e1, r⟩ := E.slot i _ e'
    exact ⟨u, e1, q _ _ H hs (.refl E.tp) (.inl r)⟩
  · rename_i x' e'
    obtain ⟨p, o, e1, hp, h0, hh, c⟩ := E.slot i _ e'
    exact ⟨_, e1, q _ _ H hs (.refl E.tp) (.inr ⟨p, o, rfl, fun z => own_ne E.toEnvB h0 (z ▸ E.t0), hh, c⟩)⟩
  · exact hs.elim
theorem c_of {e : Expr} {v : V} {d : D} (h : PE X e (tC v)) (r : ∀ H, Rp t H v d) : PE X e (rdE t l I W (sC d)) := PE_imp h fun σ H Q ⟨H0, O0, O, ρ, P, PX, E, hs, q, qx⟩ => q _ _ H hs (.refl E.tp) (r _)
theorem e_int {i j} : PE X (.Constant (.int i) j pos) (rdE t l I W (sC (.int i))) := c_of pe_int fun _ => .int i
theorem e_bl {b j} : PE X (.Constant (.bool b) j pos) (rdE t l I W (sC (.bl b))) := c_of pe_bl fun _ => .bl b
theorem e_non {j} : PE X (.Constant .none j pos) (rdE t l I W (sC .non)) := c_of pe_non fun _ => .non
theorem e_str {x j} : PE X (.Constant (.str x) j pos) (rdE t l I W (sC (.str x))) := c_of pe_str fun _ => .str x
theorem e_glob {x : Str} {v : V} {u : Value} {d : D} (hg : Gl X x) (hm : X.mg x = some u) (r : RelV v u) (r2 : ∀ H, Rp t H v d) (hd : (x == ("__debug__" : Str)) = false := by decide) : PE X (.Name x pos) (rdE t l I W (sC d)) := c_of (pe_glob hg hm r hd) r2
theorem e_bltn {x : Str} {v : V} {u : Value} {d : D} (hg : Gl X x) (hm : X.mg x = none) (hv : bootBuiltins x = some u) (r : RelV v u) (r2 : ∀ H, Rp t H v d) (hn : x ≠ "__name__" := by decide) (hd : (x == ("__debug__" : Str)) = false := by decide) :
    PE X (.Name x pos) (rdE t l I W (sC d)) := c_of (pe_bltn hg hm hv r hn hd) r2

theorem e_ty {x : Str} (n : String) (hg : Gl X x) (hm : X.mg x = none) (hv : bootBuiltins x = some (.type n)) (hn : x ≠ "__name__" := by decide) (hd : (x == ("__debug__" : Str)) = false := by decide) : PE X (.Name x pos) (rdE t l I W (sC (.ty n))) := e_bltn hg hm hv (v := .ty n) rfl (fun _ => .ty n) hn hd
/-! ### operations on two values -/
/-- f tells what the operation makes of the data -/
def OpSem (t l : Addr) (I : TI') (r : R2) (f : D → D → (D → Prop) → Prop) : Prop := ∀ (O : List Addr) (H : Hp) (x y : V) (dx dy : D) (P : D → Prop) (Q : VK),
  Tp t l I H → (∀ a ∈ O, H a ≠ none) → Bor t O H x dx → Bor t O H y dy → f dx dy P → OKQ t l I O H P Q → r x y H Q
def sOp (f : D → D → (D → Prop) → Prop) (sa sb : SE) : SE := fun ρ P PX => sa ρ (fun x => sb ρ (fun y => f x y P) PX) PX
section
variable {a b c : Expr} {sa sb sc : SE} {r : R2} {f : D → D → (D → Prop) → Prop}
theorem op_rd (hf : OpSem t l I r f) {σ : L2.St} {H : Hp} {Q : VK} (h : rdE t l I W (sOp f sa sb) σ H Q) : rdB' t l I W sa σ H (fun x H1 => rdB' t l I W sb σ H1 fun y H2 => r x y H2 Q) := by
  obtain ⟨H0, O0, O, ρ, P, PX, E, hs, q, qx⟩ := h
  refine ⟨H0, O0, O, ρ, _, PX, E, hs, fun d v H1 p1 k1 b1 => ?_, qx⟩
  refine ⟨H0, O0, O, ρ, _, PX, E.keep k1, p1, fun d2 v2 H2 p2 k2 b2 => ?_, qx.keep k1⟩
  exact hf O H2 v v2 d d2 P Q k2.2 ((E.keep k1).keep k2).all (b1.keep k2 E.t1) b2 p2 (q.keep (k1.trans k2))
theorem e_bin {op : Operator} (hf : OpSem t l I r f) (ho : OpR X (binaryOp op) r) (ha : PE X a (rdB' t l I W sa)) (hb : PE X b (rdB' t l I W sb)) : PE X (.BinOp a op b pos) (rdE t l I W (sOp f sa sb)) :=
  PE_imp (pe_op ho ha hb) fun σ H Q h => op_rd hf h
theorem e_cmp {op : CmpOp} (hf : OpSem t l I r f) (ho : OpR X (compareOp op) r) (ha : PE X a (rdB' t l I W sa)) (hb : PE X b (rdB' t l I W sb)) (hm : behindInMarks op b = false) : PE X (.Compare a [op] [b] pos) (rdE t l I W (sOp f sa sb)) :=
  PE_imp (pe_cmpR ho ha hb hm) fun σ H Q h => op_rd hf h
theorem OpR_or {f : Value → Value → Sem Value} {r r' : R2} (h : OpR X f r) (h' : OpR X f r') : OpR X f (fun x y H Q => r x y H Q ∨ r' x y H Q) := fun pins s σ H x y v u Q I rx ry q =>
  q.elim (h pins s σ H x y v u Q I rx ry) (h' pins s σ H x y v u Q I rx ry)
theorem CallR_or {f : Value} {r r' : List V → Hp → VK → Prop} (h : CallR X f r) (h' : CallR X f r') : CallR X f (fun xs H Q => r xs H Q ∨ r' xs H Q) := fun pins s σ H xs us Q I rx q =>
  q.elim (h pins s σ H xs us Q I rx) (h' pins s σ H xs us Q I rx)
end

/-! what is behind a borrowed value -/
section
variable {O : List Addr} {H : Hp} {v : V}
theorem Bor.int {i : Int} (h : Bor t O H v (.int i)) : v = .int i := by
  rcases h with h | ⟨p, o, e, n, h, c⟩
  · cases h
    rfl
  · cases c
theorem Bor.bl {i : Bool} (h : Bor t O H v (.bl i)) : v = .bl i := by
  rcases h with h | ⟨p, o, e, n, h, c⟩
  · cases h
    rfl
  · cases c
theorem Bor.non (h : Bor t O H v .non) : v = .non := by
  rcases h with h | ⟨p, o, e, n, h, c⟩
  · cases h
    rfl
  · cases c
theorem Bor.str {i : Str} (h : Bor t O H v (.str i)) : v = .str i := by
  rcases h with h | ⟨p, o, e, n, h, c⟩
  · cases h
    rfl
  · cases c
theorem Bor.lst {ds : List D} (h : Bor t O H v (.lst ds)) : ∃ p vs, v = .ref p ∧ H p = some (.lst vs) ∧ RpL t (hd O H) vs ds := by
  rcases h with h | ⟨p, o, e, n, h, c⟩
  · cases h with
    | lst h r => exact ⟨_, _, rfl, (hd_some h).2, r⟩
  · cases c with
    | lst r => exact ⟨_, _, e, h, r⟩
theorem Bor.tup {ds : List D} (h : Bor t O H v (.tup ds)) : ∃ p vs, v = .ref p ∧ hd O H p = some (.tup vs) ∧ RpL t (hd O H) vs ds := by
  rcases h with h | ⟨p, o, e, n, h, c⟩
  · cases h with
    | tup h r => exact ⟨_, _, rfl, h, r⟩
  · cases c
theorem RpL.append {t : Addr} {H : Hp} : ∀ {vs ws : List V} {ds es : List D}, RpL t H vs ds → RpL t H ws es → RpL t H (vs ++ ws) (ds ++ es)
  | _, _, _, _, .nil, h => h
  | _, _, _, _, .cons a b, h => .cons a (RpL.append b h)
/-- a new tuple, a new list -/
theorem new_tup (T : Tp t l I H) (ha : ∀ a ∈ O, H a ≠ none) {p : Addr} {vs : List V} {ds : List D} (n : H p = none) (r : RpL t (hd O H) vs ds) : Rp t (hd O (upd H p (.tup vs))) (.ref p) (.tup ds) := by
  refine .tup ?_ (r.mono fun a o e => ?_)
  · rw [hd_out fun z => ha p z n, upd_same]
  · obtain ⟨x, y⟩ := hd_some e
    rw [hd_out x, upd_ne (ne_of_none y n)]
    exact y
theorem new_lst (T : Tp t l I H) (ha : ∀ a ∈ O, H a ≠ none) {p : Addr} {vs : List V} {ds : List D} (n : H p = none) (r : RpL t (hd O H) vs ds) : Rp t (hd O (upd H p (.lst vs))) (.ref p) (.lst ds) := by
  refine .lst ?_ (r.mono fun a o e => ?_)
  · rw [hd_out fun z => ha p z n, upd_same]
  · obtain ⟨x, y⟩ := hd_some e
    rw [hd_out x, upd_ne (ne_of_none y n)]
    exact y
theorem hd_new {p : Addr} {o : HO} (n : H p = none) : Same (hd O H) (hd (p :: O) (upd H p o)) := fun a u e => by
  obtain ⟨x, y⟩ := hd_some e
  have ne := ne_of_none y n
  rw [hd_out (by
    intro z
    rcases List.mem_cons.mp z with z | z
    · exact ne z
    · exact x z), upd_ne ne]
  exact y
end

def maxLen : Nat := 16000000
theorem maxLen_le {n : Nat} (h : n ≤ maxLen) : n ≤ sizeLine := Nat.le_trans h (by decide)
theorem maxLen_lt {n : Nat} (h : n < maxLen) : n < sizeLine := Nat.lt_of_lt_of_le h (by decide)
theorem OKQ.c {O : List Addr} {H : Hp} {P : D → Prop} {Q : VK} (q : OKQ t l I O H P Q) (T : Tp t l I H) {d : D} {v : V} (p : P d) (r : ∀ H, Rp t H v d) : Q v H := q d v H p (.refl T) (r _)

/-- + -/
def addD : D → D → (D → Prop) → Prop
  | .int i, .int j, P => P (.int (i + j))
  | .str i, .str j, P => i.length + j.length ≤ maxLen ∧ P (.str (i ++ j))
  | .tup a, .tup b, P => a.length + b.length ≤ maxLen ∧ P (.tup (a ++ b))
  | .lst a, .lst b, P => a.length + b.length ≤ maxLen ∧ P (.lst (a ++ b))
  | _, _, _ => False
def rAddU (K : PySem.W.Frag) : R2 := fun x y H Q => (((∃ i j, x = .int i ∧ y = .int j ∧ Q (.int (i + j)) H) ∨ (∃ i j, x = .str i ∧ y = .str j ∧ i.length + j.length ≤ sizeLine ∧ Q (.str (i ++ j)) H)) ∨ rCatA K x y H Q) ∨ rCat x y H Q
theorem op_addU : OpR X (binaryOp .Add) (rAddU X.K) := OpR_or (OpR_or (OpR_or op_add op_add_str) op_catA) op_cat
theorem sem_add {K : PySem.W.Frag} : OpSem t l I (rAddU K) addD := by
  intro O H x y dx dy P Q T ha hx hy hf q
  unfold addD at hf
  split at hf
  · exact .inl (.inl (.inl ⟨_, _, hx.int, hy.int, q.c T hf fun _ => .int _⟩))
  · exact .inl (.inl (.inr ⟨_, _, hx.str, hy.str, maxLen_le hf.1, q.c T hf.2 fun _ => .str _⟩))
  · obtain ⟨p, vs, rfl, hp, rp⟩ := hx.tup
    obtain ⟨p', vs', rfl, hp', rp'⟩ := hy.tup
    obtain ⟨hl, hf⟩ := hf
    refine .inl (.inr ⟨p, p', vs, vs', rfl, rfl, SqT.of (hd_some hp).2, SqT.of (hd_some hp').2, by rw [rp.length, rp'.length]; exact maxLen_le hl, fun e => ?_, fun _ e => ?_, fun _ _ p2 n => ?_⟩)
    · subst e
      cases rp
      exact q _ _ H hf (.refl T) (.tup hp' rp')
    · subst e
      cases rp'
      rw [List.append_nil] at hf
      exact q _ _ H hf (.refl T) (.tup hp rp)
    · exact q _ _ _ hf (.new T n) (new_tup T ha n (rp.append rp'))
  · obtain ⟨p, vs, rfl, hp, rp⟩ := hx.lst
    obtain ⟨p', vs', rfl, hp', rp'⟩ := hy.lst
    obtain ⟨hl, hf⟩ := hf
    refine .inr ⟨p, p', vs, vs', rfl, rfl, hp, hp', by rw [rp.length, rp'.length]; exact maxLen_le hl, fun p2 n => ?_⟩
    exact q _ _ _ hf (.new T n) (new_lst T ha n (rp.append rp'))
  · exact hf.elim
theorem e_add {a b : Expr} {sa sb : SE} (ha : PE X a (rdB' t l I W sa)) (hb : PE X b (rdB' t l I W sb)) : PE X (.BinOp a .Add b pos) (rdE t l I W (sOp addD sa sb)) := e_bin sem_add op_addU ha hb

def intD (g : Int → Int → Int) : D → D → (D → Prop) → Prop
  | .int i, .int j, P => P (.int (g i j))
  | _, _, _ => False
def intCD (C : Int → Int → Prop) (g : Int → Int → Int) : D → D → (D → Prop) → Prop
  | .int i, .int j, P => C i j ∧ P (.int (g i j))
  | _, _, _ => False
def cmpD (g : Int → Int → Bool) : D → D → (D → Prop) → Prop
  | .int i, .int j, P => P (.bl (g i j))
  | _, _, _ => False
theorem sem_int {g : Int → Int → Int} : OpSem t l I (rI0 fun i j => .int (g i j)) (intD g) := by
  intro O H x y dx dy P Q T ha hx hy hf q
  unfold intD at hf
  split at hf
  · exact ⟨_, _, hx.int, hy.int, q.c T hf fun _ => .int _⟩
  · exact hf.elim
theorem sem_intC {C : Int → Int → Prop} {g : Int → Int → Int} : OpSem t l I (rI C fun i j => .int (g i j)) (intCD C g) := by
  intro O H x y dx dy P Q T ha hx hy hf q
  unfold intCD at hf
  split at hf
  · exact ⟨_, _, hx.int, hy.int, hf.1, q.c T hf.2 fun _ => .int _⟩
  · exact hf.elim
theorem sem_cmp {g : Int → Int → Bool} : OpSem t l I (rI0 fun i j => .bl (g i j)) (cmpD g) := by
  intro O H x y dx dy P Q T ha hx hy hf q
  unfold cmpD at hf
  split at hf
  · exact ⟨_, _, hx.int, hy.int, q.c T hf fun _ => .bl _⟩
  · exact hf.elim
section
variable {a b c : Expr} {sa sb sc : SE} (ha : PE X a (rdB' t l I W sa)) (hb : PE X b (rdB' t l I W sb))
include ha hb
theorem e_sub : PE X (.BinOp a .Sub b pos) (rdE t l I W (sOp (intD fun i j => i - j) sa sb)) := e_bin sem_int op_sub ha hb
theorem e_mod : PE X (.BinOp a .Mod b pos) (rdE t l I W (sOp (intCD (fun _ j => 0 < j) fun i j => i % j) sa sb)) := e_bin sem_intC op_mod ha hb
theorem e_fdiv : PE X (.BinOp a .FloorDiv b pos) (rdE t l I W (sOp (intCD CDiv fun i j => i / j) sa sb)) := e_bin sem_intC op_fdiv ha hb
theorem e_pow : PE X (.BinOp a .Pow b pos) (rdE t l I W (sOp (intCD CPow fun i j => i ^ j.toNat) sa sb)) := e_bin sem_intC op_pow ha hb
theorem e_lt : PE X (.Compare a [.Lt] [b] pos) (rdE t l I W (sOp (cmpD fun i j => decide (i < j)) sa sb)) := e_cmp sem_cmp op_lt ha hb (nomark _)
theorem e_le : PE X (.Compare a [.LtE] [b] pos) (rdE t l I W (sOp (cmpD fun i j => decide (i ≤ j)) sa sb)) := e_cmp sem_cmp op_le ha hb (nomark _)
theorem e_gt : PE X (.Compare a [.Gt] [b] pos) (rdE t l I W (sOp (cmpD fun i j => decide (j < i)) sa sb)) := e_cmp sem_cmp op_gt ha hb (nomark _)
theorem e_ge : PE X (.Compare a [.GtE] [b] pos) (rdE t l I W (sOp (cmpD fun i j => decide (j ≤ i)) sa sb)) := e_cmp sem_cmp op_ge ha hb (nomark _)
end

/-- * : ints (one small), list or tuple by int -/
def mulD : D → D → (D → Prop) → Prop
  | .int i, .int j, P => CMul i j ∧ P (.int (i * j))
  | .lst a, .int k, P => -(2 ^ 63) ≤ k ∧ k < 2 ^ 63 ∧ a.length * k.toNat ≤ maxLen ∧ P (.lst (List.replicate k.toNat a).flatten)
  | .tup a, .int k, P => a ≠ [] ∧ 2 ≤ k ∧ k ≤ 1000 ∧ a.length ≤ 1000 ∧ P (.tup (List.replicate k.toNat a).flatten)
  | _, _, _ => False
theorem RpL.rep {t : Addr} {H : Hp} {vs : List V} {ds : List D} (h : RpL t H vs ds) : ∀ n : Nat, RpL t H (List.replicate n vs).flatten (List.replicate n ds).flatten
  | 0 => .nil
  | n + 1 => by
    rw [List.replicate_succ, List.replicate_succ, List.flatten_cons, List.flatten_cons]
    exact h.append (RpL.rep h n)
def rMulU (K : PySem.W.Frag) : R2 := fun x y H Q => (rI CMul (fun i j => .int (i * j)) x y H Q ∨ rRep x y H Q) ∨ rRepT K x y H Q
theorem op_mulU : OpR X (binaryOp .Mult) (rMulU X.K) := OpR_or (OpR_or op_mul op_rep) op_repT
theorem sem_mul {K : PySem.W.Frag} : OpSem t l I (rMulU K) mulD := by
  intro O H x y dx dy P Q T ha hx hy hf q
  unfold mulD at hf
  split at hf
  · exact .inl (.inl ⟨_, _, hx.int, hy.int, hf.1, q.c T hf.2 fun _ => .int _⟩)
  · obtain ⟨p, vs, rfl, hp, rp⟩ := hx.lst
    obtain ⟨h1, h2, h3, h4⟩ := hf
    refine .inl (.inr ⟨p, _, vs, rfl, hy.int, hp, h1, h2, by rw [rp.length]; exact maxLen_le h3, fun p2 n => ?_⟩)
    exact q _ _ _ h4 (.new T n) (new_lst T ha n (rp.rep _))
  · obtain ⟨p, vs, rfl, hp, rp⟩ := hx.tup
    obtain ⟨h0, h1, h2, h3, h4⟩ := hf
    refine .inr ⟨p, _, vs, rfl, hy.int, SqT.of (hd_some hp).2, fun e => ?_, h1, h2, by rw [rp.length]; exact h3, fun p2 n => ?_⟩
    · subst e
      cases rp
      exact h0 rfl
    · exact q _ _ _ h4 (.new T n) (new_tup T ha n (rp.rep _))
  · exact hf.elim
theorem e_mul {a b : Expr} {sa sb : SE} (ha : PE X a (rdB' t l I W sa)) (hb : PE X b (rdB' t l I W sb)) : PE X (.BinOp a .Mult b pos) (rdE t l I W (sOp mulD sa sb)) := e_bin sem_mul op_mulU ha hb

/-! ### == of data -/
mutual
def toP : D → PyData
  | .non => .none
  | .bl b => .bool b
  | .int i => .int i
  | .str s => .str s
  | .lst ds => .list (toPs ds)
  | .tup ds => .tuple (toPs ds)
  | .ty _ => .none
  | .ins _ _ => .none
  | .dct _ => .none
  | .tape => .none
def toPs : List D → List PyData
  | [] => []
  | d :: ds => toP d :: toPs ds
end
mutual
/-- plain data of nesting up to n -/
def okD : Nat → D → Bool
  | _, .non => true
  | _, .bl _ => true
  | _, .int _ => true
  | _, .str s => PyData.canLay0 (.str s)
  | 0, .lst _ => false
  | 0, .tup _ => false
  | n + 1, .lst ds => okDs n ds
  | n + 1, .tup ds => okDs n ds
  | _, .ty _ => false
  | _, .ins _ _ => false
  | _, .dct _ => false
  | _, .tape => false
def okDs : Nat → List D → Bool
  | _, [] => true
  | n, d :: ds => okD n d && okDs n ds
end
mutual
theorem Rp.dp {K : PySem.W.Frag} {t : Addr} {H H' : Hp} (le : Same H H') : ∀ (n : Nat) (d : D) (v : V), okD n d = true → Rp t H v d → Dp K H' v (toP d)
  | _, .non, _, _, h => by
    cases h
    exact .non
  | _, .bl _, _, _, h => by
    cases h
    exact .bl _
  | _, .int _, _, _, h => by
    cases h
    exact .int _
  | _, .str _, _, _, h => by
    cases h
    exact .str _
  | 0, .lst _, _, e, _ => by simp [okD] at e
  | 0, .tup _, _, e, _ => by simp [okD] at e
  | n + 1, .lst ds, _, e, h => by
    cases h with
    | lst h r => exact .lst (SqL.of (le _ _ h)) (Rp.dps le n ds _ (by simpa [okD] using e) r)
  | n + 1, .tup ds, _, e, h => by
    cases h with
    | tup h r => exact .tup (SqT.of (le _ _ h)) (Rp.dps le n ds _ (by simpa [okD] using e) r)
  | _, .ty _, _, e, _ => by simp [okD] at e
  | _, .ins _ _, _, e, _ => by simp [okD] at e
  | _, .dct _, _, e, _ => by simp [okD] at e
  | _, .tape, _, e, _ => by simp [okD] at e
theorem Rp.dps {K : PySem.W.Frag} {t : Addr} {H H' : Hp} (le : Same H H') : ∀ (n : Nat) (ds : List D) (vs : List V), okDs n ds = true → RpL t H vs ds → DpAll K H' vs (toPs ds)
  | _, [], _, _, h => by
    cases h
    exact .nil
  | n, d :: ds, _, e, h => by
    cases h with
    | cons a b =>
      have e' : okD n d = true ∧ okDs n ds = true := by simpa [okDs] using e
      exact .cons (Rp.dp le n d _ e'.1 a) (Rp.dps le n ds _ e'.2 b)
end
mutual
theorem okD_lay : ∀ (n : Nat) (d : D), okD n d = true → (toP d).canLay0 = true ∧ (toP d).depth ≤ n
  | _, .non, _ => ⟨rfl, Nat.zero_le _⟩
  | _, .bl _, _ => ⟨rfl, Nat.zero_le _⟩
  | _, .int _, _ => ⟨rfl, Nat.zero_le _⟩
  | _, .str s, e => ⟨by simpa [okD, toP] using e, Nat.zero_le _⟩
  | 0, .lst _, e => by simp [okD] at e
  | 0, .tup _, e => by simp [okD] at e
  | n + 1, .lst ds, e => by
    obtain ⟨h1, h2⟩ := okDs_lay n ds (by simpa [okD] using e)
    exact ⟨by simpa [toP, PyData.canLay0] using h1, by simp only [toP, PyData.depth]; omega⟩
  | n + 1, .tup ds, e => by
    obtain ⟨h1, h2⟩ := okDs_lay n ds (by simpa [okD] using e)
    exact ⟨by simpa [toP, PyData.canLay0] using h1, by simp only [toP, PyData.depth]; omega⟩
  | _, .ty _, e => by simp [okD] at e
  | _, .ins _ _, e => by simp [okD] at e
  | _, .dct _, e => by simp [okD] at e
  | _, .tape, e => by simp [okD] at e
theorem okDs_lay : ∀ (n : Nat) (ds : List D), okDs n ds = true → PyData.canLayAll0 (toPs ds) = true ∧ PyData.depthAll (toPs ds) ≤ n
  | _, [], _ => ⟨rfl, Nat.zero_le _⟩
  | n, d :: ds, e => by
    have e' : okD n d = true ∧ okDs n ds = true := by simpa [okDs] using e
    obtain ⟨h1, h2⟩ := okD_lay n d e'.1
    obtain ⟨h3, h4⟩ := okDs_lay n ds e'.2
    exact ⟨by simp [toPs, PyData.canLayAll0, h1, h3], by simp only [toPs, PyData.depthAll]; omega⟩
end
theorem okD_shaped {d : D} (h : okD 60 d = true) : SeqAt.shaped (toP d) = true := by
  obtain ⟨h1, h2⟩ := okD_lay 60 d h
  unfold SeqAt.shaped
  rw [h1, decide_eq_true (by omega : (toP d).depth ≤ 64)]
  rfl
theorem Bor.dp {K : PySem.W.Frag} {O : List Addr} {H : Hp} {v : V} {d : D} (h : Bor t O H v d) (e : okD 60 d = true) : Dp K H v (toP d) := by
  rcases h with h | ⟨p, o, rfl, n, h, c⟩
  · exact h.dp hd_le 60 d v e
  · cases c with
    | lst r => exact .lst (SqL.of h) (r |> Rp.dps hd_le 59 _ _ (by simpa [okD] using e))
    | dct r => simp [okD] at e
    | dctT r => simp [okD] at e
def eqB (d e : D) : Bool := PyData.eqv (toP d) (toP e)
@[irreducible] def eqD (neg : Bool) : D → D → (D → Prop) → Prop := fun d e P => okD 60 d = true ∧ okD 60 e = true ∧ P (.bl (if neg then !eqB d e else eqB d e))
theorem sem_eq {K : PySem.W.Frag} : OpSem t l I (rEqD K) (eqD false) := by
  intro O H x y dx dy P Q T ha hx hy hf q
  unfold eqD at hf
  obtain ⟨h1, h2, h3⟩ := hf
  exact ⟨_, _, hx.dp h1, hy.dp h2, okD_shaped h1, okD_shaped h2, q.c T h3 fun _ => .bl _⟩
theorem sem_ne {K : PySem.W.Frag} : OpSem t l I (rNeD K) (eqD true) := by
  intro O H x y dx dy P Q T ha hx hy hf q
  unfold eqD at hf
  obtain ⟨h1, h2, h3⟩ := hf
  exact ⟨_, _, hx.dp h1, hy.dp h2, okD_shaped h1, okD_shaped h2, q.c T h3 fun _ => .bl _⟩
theorem eqB_refl {n : Nat} {d : D} (h : okD n d = true) : eqB d d = true := SeqAt.eqv_refl _ (okD_lay n d h).1
section
variable {a b c : Expr} {sa sb sc : SE} (hu : X.A.units + 64 < cLine) (ha : PE X a (rdB' t l I W sa)) (hb : PE X b (rdB' t l I W sb))
include ha hb hu
theorem e_eq : PE X (.Compare a [.Eq] [b] pos) (rdE t l I W (sOp (eqD false) sa sb)) := e_cmp sem_eq (op_eqD hu) ha hb (nomark _)
theorem e_ne : PE X (.Compare a [.NotEq] [b] pos) (rdE t l I W (sOp (eqD true) sa sb)) := e_cmp sem_ne (op_neD hu) ha hb (nomark _)
end
/-- is None -/
def isNonD (neg : Bool) : D → D → (D → Prop) → Prop := fun d e P => match e with
  | .non => P (.bl (match d with | .non => !neg | _ => neg))
  | _ => False
theorem Bor.isNon {O : List Addr} {H : Hp} {v : V} {d : D} (h : Bor t O H v d) : decide (v = .non) = (match d with | .non => true | _ => false) := by
  rcases h with h | ⟨p, o, rfl, n, h, c⟩
  · cases h <;> rfl
  · cases c <;> rfl
theorem sem_isN : OpSem t l I (fun x y H Q => y = .non ∧ Q (.bl (decide (x = .non))) H) (isNonD false) := by
  intro O H x y dx dy P Q T ha hx hy hf q
  unfold isNonD at hf
  split at hf
  · refine ⟨hy.non, ?_⟩
    rw [hx.isNon]
    cases dx <;> exact q.c T hf fun _ => .bl _
  · exact hf.elim
theorem sem_notN : OpSem t l I (fun x y H Q => y = .non ∧ Q (.bl (!decide (x = .non))) H) (isNonD true) := by
  intro O H x y dx dy P Q T ha hx hy hf q
  unfold isNonD at hf
  split at hf
  · refine ⟨hy.non, ?_⟩
    rw [hx.isNon]
    cases dx <;> exact q.c T hf fun _ => .bl _
  · exact hf.elim
section
variable {a b c : Expr} {sa sb sc : SE} (ha : PE X a (rdB' t l I W sa)) (hb : PE X b (rdB' t l I W sb))
include ha hb
theorem e_is : PE X (.Compare a [.Is] [b] pos) (rdE t l I W (sOp (isNonD false) sa sb)) := e_cmp sem_isN op_isN ha hb (nomark _)
theorem e_isnot : PE X (.Compare a [.IsNot] [b] pos) (rdE t l I W (sOp (isNonD true) sa sb)) := e_cmp sem_notN op_notN ha hb (nomark _)
end
end DS

namespace DS
open PySem PySem.Spec PyProof.Rows L2
variable {t l : Addr} {I : TI'} {W : WX} {X : Cx} {pos : Pos}
/-! ### tests -/
def boolD (d : D) (P : Bool → Prop) : Prop := match d with
  | .bl b => P b
  | _ => False
def sB (se : SE) : SB := fun ρ P PX => se ρ (fun d => boolD d P) PX
theorem boolD_of {d : D} {P : Bool → Prop} (h : boolD d P) : ∃ b, d = .bl b ∧ P b := by
  cases d with
  | bl b => exact ⟨b, rfl, h⟩
  | _ => exact (show False from h).elim
theorem t_val {e : Expr} {se : SE} (h : PE X e (rdE t l I W se)) (he : ∀ whole, isTrue e X.env whole = (do let v ← whole; standAt e.pos; holding [v] (truthy v)) := by intro _; rfl) : PT X e (rdT t l I W (sB se)) :=
  PT_imp (pt_val h he) fun σ H Q ⟨H0, O0, O, ρ, P, PX, E, hs, q, qx⟩ => ⟨H0, O0, O, ρ, _, PX, E, hs, fun d v H' p k r => by
    obtain ⟨b, rfl, p⟩ := boolD_of p
    cases r
    exact ⟨b, rfl, q b H' p k⟩, qx⟩
theorem t_cmp {a b : Expr} {sa sb : SE} {r : R2} {f : D → D → (D → Prop) → Prop} {op : CmpOp} (hf : OpSem t l I r f) (ho : OpR X (compareOp op) r) (ha : PE X a (rdB' t l I W sa)) (hb : PE X b (rdB' t l I W sb)) (hm : behindInMarks op b = false) :
    PT X (.Compare a [op] [b] pos) (rdT t l I W (sB (sOp f sa sb))) := PT_imp (pt_cmpR ho ha hb hm) fun σ H Q ⟨H0, O0, O, ρ, P, PX, E, hs, q, qx⟩ =>
  op_rd hf ⟨H0, O0, O, ρ, _, PX, E, hs, fun d v H' p k r => by
    obtain ⟨b, rfl, p⟩ := boolD_of p
    cases r
    exact ⟨b, rfl, q b H' p k⟩, qx⟩
section
variable {a b c : Expr} {sa sb sc : SE} (ha : PE X a (rdB' t l I W sa)) (hb : PE X b (rdB' t l I W sb))
include ha hb
theorem t_lt : PT X (.Compare a [.Lt] [b] pos) (rdT t l I W (sB (sOp (cmpD fun i j => decide (i < j)) sa sb))) := t_cmp sem_cmp op_lt ha hb (nomark _)
theorem t_le : PT X (.Compare a [.LtE] [b] pos) (rdT t l I W (sB (sOp (cmpD fun i j => decide (i ≤ j)) sa sb))) := t_cmp sem_cmp op_le ha hb (nomark _)
theorem t_gt : PT X (.Compare a [.Gt] [b] pos) (rdT t l I W (sB (sOp (cmpD fun i j => decide (j < i)) sa sb))) := t_cmp sem_cmp op_gt ha hb (nomark _)
theorem t_ge : PT X (.Compare a [.GtE] [b] pos) (rdT t l I W (sB (sOp (cmpD fun i j => decide (j ≤ i)) sa sb))) := t_cmp sem_cmp op_ge ha hb (nomark _)
theorem t_is : PT X (.Compare a [.Is] [b] pos) (rdT t l I W (sB (sOp (isNonD false) sa sb))) := t_cmp sem_isN op_isN ha hb (nomark _)
theorem t_isnot : PT X (.Compare a [.IsNot] [b] pos) (rdT t l I W (sB (sOp (isNonD true) sa sb))) := t_cmp sem_notN op_notN ha hb (nomark _)
theorem t_eq (hu : X.A.units + 64 < cLine) : PT X (.Compare a [.Eq] [b] pos) (rdT t l I W (sB (sOp (eqD false) sa sb))) := t_cmp sem_eq (op_eqD hu) ha hb (nomark _)
theorem t_ne (hu : X.A.units + 64 < cLine) : PT X (.Compare a [.NotEq] [b] pos) (rdT t l I W (sB (sOp (eqD true) sa sb))) := t_cmp sem_ne (op_neD hu) ha hb (nomark _)
end
/-- a op b op' c of ints -/
def sCh (g g' : Int → Int → Bool) (sa sb sc : SE) : SE := fun ρ P PX => sa ρ (fun x => sb ρ (fun y => cmpD g x y fun z => boolD z fun k => match k with
  | true => sc ρ (fun w => cmpD g' y w P) PX
  | false => P (.bl false)) PX) PX
section
variable {a b c : Expr} {sa sb sc : SE} {g g' : Int → Int → Bool}
theorem cmpD_of {g : Int → Int → Bool} {x y : D} {P : D → Prop} (h : cmpD g x y P) : ∃ i j, x = .int i ∧ y = .int j ∧ P (.bl (g i j)) := by
  unfold cmpD at h
  split at h
  · exact ⟨_, _, rfl, rfl, h⟩
  · exact h.elim
theorem ch_rd {σ : L2.St} {H : Hp} {Q : VK} (h : rdE t l I W (sCh g g' sa sb sc) σ H Q) :
    tChain (rI0 fun i j => .bl (g i j)) (rI0 fun i j => .bl (g' i j)) (rdB' t l I W sa) (rdB' t l I W sb) (rdB' t l I W sc) σ H Q := by
  obtain ⟨H0, O0, O, ρ, P, PX, E, hs, q, qx⟩ := h
  refine ⟨H0, O0, O, ρ, _, PX, E, hs, fun d v H1 p1 k1 b1 => ?_, qx⟩
  refine ⟨H0, O0, O, ρ, _, PX, E.keep k1, p1, fun d2 v2 H2 p2 k2 b2 => ?_, qx.keep k1⟩
  obtain ⟨i, j, rfl, rfl, p2⟩ := cmpD_of p2
  refine ⟨i, j, (b1.keep k2 E.t1).int, b2.int, g i j, rfl, ?_⟩
  have E2 := (E.keep k1).keep k2
  cases hg : g i j with
  | true =>
    rw [hg] at p2
    rw [if_pos rfl]
    refine ⟨H0, O0, O, ρ, _, PX, E2, p2, fun d3 v3 H3 p3 k3 b3 => ?_, (qx.keep k1).keep k2⟩
    obtain ⟨i', j', e1, rfl, p3⟩ := cmpD_of p3
    cases e1
    exact ⟨_, _, b2.int, b3.int, q _ _ H3 p3 ((k1.trans k2).trans k3) (.bl _)⟩
  | false =>
    rw [hg] at p2
    rw [if_neg Bool.false_ne_true]
    exact q _ _ H2 p2 (k1.trans k2) (.bl _)
theorem e_ch {op op' : CmpOp} (ho : OpR X (compareOp op) (rI0 fun i j => .bl (g i j))) (ho' : OpR X (compareOp op') (rI0 fun i j => .bl (g' i j))) (ha : PE X a (rdB' t l I W sa)) (hb : PE X b (rdB' t l I W sb)) (hc : PE X c (rdB' t l I W sc))
    (hm : lastMarks [op, op'] [b, c] = false := by with_unfolding_all rfl) : PE X (.Compare a [op, op'] [b, c] pos) (rdE t l I W (sCh g g' sa sb sc)) := PE_imp (pe_chain ho ho' ha hb hc hm) fun σ H Q h => ch_rd h
theorem t_ch {op op' : CmpOp} (ho : OpR X (compareOp op) (rI0 fun i j => .bl (g i j))) (ho' : OpR X (compareOp op') (rI0 fun i j => .bl (g' i j))) (ha : PE X a (rdB' t l I W sa)) (hb : PE X b (rdB' t l I W sb)) (hc : PE X c (rdB' t l I W sc))
    (hm : lastMarks [op, op'] [b, c] = false := by with_unfolding_all rfl) : PT X (.Compare a [op, op'] [b, c] pos) (rdT t l I W (sB (sCh g g' sa sb sc))) := PT_imp (pt_chain ho ho' ha hb hc hm) fun σ H Q ⟨H0, O0, O, ρ, P, PX, E, hs, q, qx⟩ =>
  ch_rd ⟨H0, O0, O, ρ, _, PX, E, hs, fun d v H' p k r => by
    obtain ⟨b, rfl, p⟩ := boolD_of p
    cases r
    exact ⟨b, rfl, q b H' p k⟩, qx⟩
end

def sAnd (s u : SB) : SB := fun ρ P PX => s ρ (fun b => match b with | true => u ρ P PX | false => P false) PX
def sOr (s u : SB) : SB := fun ρ P PX => s ρ (fun b => match b with | true => P true | false => u ρ P PX) PX
def sNot (s : SB) : SB := fun ρ P PX => s ρ (fun b => P (!b)) PX
section
variable {a b c : Expr} {rest : List Expr} {s u : SB}
theorem w_and1 (ha : PT X a (rdT t l I W s)) : PW X (.BoolOp .And [a] pos) (rdT t l I W s) := pw_and1 ha
theorem w_or1 (ha : PT X a (rdT t l I W s)) : PW X (.BoolOp .Or [a] pos) (rdT t l I W s) := pw_or1 ha
theorem w_and (ha : PT X a (rdT t l I W s)) (hb : PW X (.BoolOp .And (b :: rest) pos) (rdT t l I W u)) : PW X (.BoolOp .And (a :: b :: rest) pos) (rdT t l I W (sAnd s u)) :=
  PW_imp (pw_and ha hb) fun σ H Q ⟨H0, O0, O, ρ, P, PX, E, hs, q, qx⟩ => ⟨H0, O0, O, ρ, _, PX, E, hs, fun b H' p k => by
    cases b with
    | true =>
      rw [if_pos rfl]
      exact ⟨H0, O0, O, ρ, P, PX, E.keep k, p, fun b2 H2 p2 k2 => q b2 H2 p2 (k.trans k2), qx.keep k⟩
    | false =>
      rw [if_neg Bool.false_ne_true]
      exact q false H' p k, qx⟩
theorem w_or (ha : PT X a (rdT t l I W s)) (hb : PW X (.BoolOp .Or (b :: rest) pos) (rdT t l I W u)) : PW X (.BoolOp .Or (a :: b :: rest) pos) (rdT t l I W (sOr s u)) :=
  PW_imp (pw_or ha hb) fun σ H Q ⟨H0, O0, O, ρ, P, PX, E, hs, q, qx⟩ => ⟨H0, O0, O, ρ, _, PX, E, hs, fun b H' p k => by
    cases b with
    | false =>
      rw [if_neg Bool.false_ne_true]
      exact ⟨H0, O0, O, ρ, P, PX, E.keep k, p, fun b2 H2 p2 k2 => q b2 H2 p2 (k.trans k2), qx.keep k⟩
    | true =>
      rw [if_pos rfl]
      exact q true H' p k, qx⟩
theorem t_not (ha : PT X a (rdT t l I W s)) : PT X (.UnaryOp .Not a pos) (rdT t l I W (sNot s)) :=
  PT_imp (pt_not ha) fun σ H Q ⟨H0, O0, O, ρ, P, PX, E, hs, q, qx⟩ => ⟨H0, O0, O, ρ, _, PX, E, hs, fun b H' p k => q _ H' p k, qx⟩
end
def sAndV (sa sb : SE) : SE := fun ρ P PX => sa ρ (fun d => boolD d fun b => match b with | true => sb ρ P PX | false => P (.bl false)) PX
def sOrV (sa sb : SE) : SE := fun ρ P PX => sa ρ (fun d => boolD d fun b => match b with | true => P (.bl true) | false => sb ρ P PX) PX
def sNotV (sa : SE) : SE := fun ρ P PX => sa ρ (fun d => boolD d fun b => P (.bl (!b))) PX
def sIf (s : SB) (sa sb : SE) : SE := fun ρ P PX => s ρ (fun b => match b with | true => sa ρ P PX | false => sb ρ P PX) PX
section
variable {a b c : Expr} {rest : List Expr} {sa sb : SE} {s : SB}
theorem e_one {op} (h : PE X a (rdE t l I W sa)) : PE X (.BoolOp op [a] pos) (rdE t l I W sa) := pe_one h
theorem e_and (ha : PE X a (rdE t l I W sa)) (hb : PE X (.BoolOp .And (b :: rest) pos) (rdE t l I W sb)) : PE X (.BoolOp .And (a :: b :: rest) pos) (rdE t l I W (sAndV sa sb)) :=
  PE_imp (pe_and ha hb) fun σ H Q ⟨H0, O0, O, ρ, P, PX, E, hs, q, qx⟩ => ⟨H0, O0, O, ρ, _, PX, E, hs, fun d v H' p k r => by
    obtain ⟨b, rfl, p⟩ := boolD_of p
    cases r
    refine ⟨b, rfl, ?_⟩
    cases b with
    | true =>
      rw [if_pos rfl]
      exact ⟨H0, O0, O, ρ, P, PX, E.keep k, p, q.keep k, qx.keep k⟩
    | false =>
      rw [if_neg Bool.false_ne_true]
      exact q _ _ H' p k (.bl _), qx⟩
theorem e_or (ha : PE X a (rdE t l I W sa)) (hb : PE X (.BoolOp .Or (b :: rest) pos) (rdE t l I W sb)) : PE X (.BoolOp .Or (a :: b :: rest) pos) (rdE t l I W (sOrV sa sb)) :=
  PE_imp (pe_or ha hb) fun σ H Q ⟨H0, O0, O, ρ, P, PX, E, hs, q, qx⟩ => ⟨H0, O0, O, ρ, _, PX, E, hs, fun d v H' p k r => by
    obtain ⟨b, rfl, p⟩ := boolD_of p
    cases r
    refine ⟨b, rfl, ?_⟩
    cases b with
    | false =>
      rw [if_neg Bool.false_ne_true]
      exact ⟨H0, O0, O, ρ, P, PX, E.keep k, p, q.keep k, qx.keep k⟩
    | true =>
      rw [if_pos rfl]
      exact q _ _ H' p k (.bl _), qx⟩
theorem e_not (ha : PE X a (rdE t l I W sa)) : PE X (.UnaryOp .Not a pos) (rdE t l I W (sNotV sa)) :=
  PE_imp (pe_not ha) fun σ H Q ⟨H0, O0, O, ρ, P, PX, E, hs, q, qx⟩ => ⟨H0, O0, O, ρ, _, PX, E, hs, fun d v H' p k r => by
    obtain ⟨b, rfl, p⟩ := boolD_of p
    cases r
    exact ⟨b, rfl, q _ _ H' p k (.bl _)⟩, qx⟩
theorem e_if (hc : PT X c (rdT t l I W s)) (ha : PE X a (rdE t l I W sa)) (hb : PE X b (rdE t l I W sb)) : PE X (.IfExp c a b pos) (rdE t l I W (sIf s sa sb)) :=
  PE_imp (pe_ifExp hc ha hb) fun σ H Q ⟨H0, O0, O, ρ, P, PX, E, hs, q, qx⟩ => ⟨H0, O0, O, ρ, _, PX, E, hs, fun b H' p k => by
    cases b with
    | false =>
      rw [if_neg Bool.false_ne_true]
      exact ⟨H0, O0, O, ρ, P, PX, E.keep k, p, q.keep k, qx.keep k⟩
    | true =>
      rw [if_pos rfl]
      exact ⟨H0, O0, O, ρ, P, PX, E.keep k, p, q.keep k, qx.keep k⟩, qx⟩
def sNeg (sa : SE) : SE := fun ρ P PX => sa ρ (fun d => match d with | .int i => P (.int (-i)) | _ => False) PX
theorem e_neg (ha : PE X a (rdE t l I W sa)) : PE X (.UnaryOp .USub a pos) (rdE t l I W (sNeg sa)) :=
  PE_imp (pe_un un_neg ha) fun σ H Q ⟨H0, O0, O, ρ, P, PX, E, hs, q, qx⟩ => ⟨H0, O0, O, ρ, _, PX, E, hs, fun d v H' p k r => by
    cases d with
    | int i =>
      cases r
      exact ⟨i, rfl, q _ _ H' p k (.int _)⟩
    | _ => exact (show False from p).elim, qx⟩
end

/-! ### subscripts, slices -/
def atD (ds : List D) (i : Int) (P : D → Prop) : Prop := match atI ds i with
  | some d => P d
  | none => False
/-- a[b] -/
def ixD : D → D → (D → Prop) → Prop
  | .lst ds, .int i, P => atD ds i P
  | .tup ds, .int i, P => atD ds i P
  | .str s, .int i, P => s.length ≤ maxLen ∧ (match atI s.cps.toList i with
      | some c => P (.str ⟨#[c]⟩)
      | none => False)
  | _, _, _ => False
def rIxU (K : PySem.W.Frag) : R2 := fun x y H Q => (rIxL K x y H Q ∨ rIxT K x y H Q) ∨ rIxS x y H Q
theorem IxR_or {r r' : R2} (h : IxR X r) (h' : IxR X r') : IxR X (fun x y H Q => r x y H Q ∨ r' x y H Q) := fun value slice pins s σ H x y v u Q I rx ry q hs =>
  q.elim (fun q => h value slice pins s σ H x y v u Q I rx ry q hs) (fun q => h' value slice pins s σ H x y v u Q I rx ry q hs)
theorem RpL.atI {t : Addr} {H : Hp} {vs : List V} {ds : List D} (h : RpL t H vs ds) {i : Int} {d : D} (e : atI ds i = some d) : ∃ v, L2.atI vs i = some v ∧ Rp t H v d := by
  unfold L2.atI at e ⊢
  rw [h.length]
  cases q : ixN ds.length i with
  | none =>
    rw [q] at e
    cases e
  | some j =>
    rw [q] at e
    exact h.get e
theorem sem_ix {K : PySem.W.Frag} : OpSem t l I (rIxU K) ixD := by
  intro O H x y dx dy P Q T ha hx hy hf q
  unfold ixD at hf
  split at hf
  · obtain ⟨p, vs, rfl, hp, rp⟩ := hx.lst
    unfold atD at hf
    split at hf
    · rename_i d e
      obtain ⟨v, e2, r⟩ := rp.atI e
      exact .inl (.inl ⟨p, vs, _, v, rfl, hy.int, SqL.of hp, e2, q _ _ H hf (.refl T) r⟩)
    · exact hf.elim
  · obtain ⟨p, vs, rfl, hp, rp⟩ := hx.tup
    unfold atD at hf
    split at hf
    · rename_i d e
      obtain ⟨v, e2, r⟩ := rp.atI e
      exact .inl (.inr ⟨p, vs, _, v, rfl, hy.int, SqT.of (hd_some hp).2, e2, q _ _ H hf (.refl T) r⟩)
    · exact hf.elim
  · obtain ⟨hl, hf⟩ := hf
    split at hf
    · rename_i c e
      exact .inr ⟨_, _, _, hx.str, hy.int, maxLen_le hl, e, q.c T hf fun _ => .str _⟩
    · exact hf.elim
  · exact hf.elim
theorem ix_str0 : IxR X rIxS := by first | exact ix_str | exact ix_strI | exact ix_textI | exact ix_txt
theorem e_ix {a b : Expr} {sa sb : SE} (ha : PE X a (rdB' t l I W sa)) (hb : PE X b (rdB' t l I W sb)) (hs : PlainIx b := by exact fun _ _ => rfl) : PE X (.Subscript a b pos) (rdE t l I W (sOp ixD sa sb)) :=
  PE_imp (pe_ix (IxR_or (IxR_or ix_list ix_tup) ix_str0) ha hb hs) fun σ H Q h => op_rd sem_ix h

abbrev SO := List Slot → (Option Int → Prop) → (XD → Prop) → Prop
def rdO (t l : Addr) (I : TI') (W : WX) (so : SO) : TO := fun σ H Q => ∃ H0 O0 O ρ P PX, Env t l I H0 O0 O H σ ρ ∧ so ρ P PX ∧ (∀ o H', P o → Kept t l I H H' → Q o H') ∧ OKX t l I W O σ H PX
def soN : SO := fun _ P _ => P none
def soI (se : SE) : SO := fun ρ P PX => se ρ (fun d => match d with | .int i => P (some i) | _ => False) PX
theorem PO_imp {e : Option Expr} {u u' : TO} (h : PO X e u) (k : ∀ σ H Q, u' σ H Q → u σ H Q) : PO X e u' := ⟨fun pins s σ H Q I q => h.run pins s σ H Q I (k σ H Q q)⟩
theorem o_none : PO X none (rdO t l I W soN) := PO_imp po_none fun σ H Q ⟨H0, O0, O, ρ, P, PX, E, hs, q, qx⟩ => q _ H hs (.refl E.tp)
theorem o_some {e : Expr} {se : SE} (h : PE X e (rdE t l I W se)) : PO X (some e) (rdO t l I W (soI se)) := PO_imp (po_some h) fun σ H Q ⟨H0, O0, O, ρ, P, PX, E, hs, q, qx⟩ =>
  ⟨H0, O0, O, ρ, _, PX, E, hs, fun d v H' p k r => by
    cases d with
    | int i =>
      cases r
      exact ⟨i, rfl, q _ H' p k⟩
    | _ => exact (show False from p).elim, qx⟩
def cutD {α : Type} (xs : List α) (lo hi : Option Int) : List α := (xs.drop (HT.sIx xs.length 0 lo)).take (HT.sIx xs.length xs.length hi - HT.sIx xs.length 0 lo)
theorem RpL.take {t : Addr} {H : Hp} : ∀ {vs : List V} {ds : List D} (n : Nat), RpL t H vs ds → RpL t H (vs.take n) (ds.take n)
  | _, _, 0, _ => .nil
  | _, _, _ + 1, .nil => .nil
  | _, _, n + 1, .cons a b => .cons a (RpL.take n b)
theorem RpL.drop {t : Addr} {H : Hp} : ∀ {vs : List V} {ds : List D} (n : Nat), RpL t H vs ds → RpL t H (vs.drop n) (ds.drop n)
  | _, _, 0, h => h
  | _, _, _ + 1, .nil => .nil
  | _, _, n + 1, .cons a b => RpL.drop n b
theorem RpL.cut {t : Addr} {H : Hp} {vs : List V} {ds : List D} (h : RpL t H vs ds) (lo hi : Option Int) : RpL t H (cutV vs lo hi) (cutD ds lo hi) := by
  unfold cutV cutD
  rw [h.length]
  exact (h.drop _).take _
def slD (d : D) (lo hi : Option Int) (P : D → Prop) : Prop := match d with
  | .lst ds => P (.lst (cutD ds lo hi))
  | .tup ds => P (.tup (cutD ds lo hi))
  | .str s => s.length ≤ maxLen ∧ P (.str (cutS s lo hi))
  | _ => False
def rSlS : V → Option Int → Option Int → Hp → VK → Prop := fun x lo hi H Q => ∃ z, x = .str z ∧ z.length ≤ sizeLine ∧ Q (.str (cutS z lo hi)) H
theorem sl_str0 : SlR X rSlS := sl_str
def sSl (sa : SE) (so so2 : SO) : SE := fun ρ P PX => sa ρ (fun d => so ρ (fun lo => so2 ρ (fun hi => slD d lo hi P) PX) PX) PX
theorem e_sl {e : Expr} {lo hi : Option Expr} {sa : SE} {so so2 : SO} {p2 : Pos} (he : PE X e (rdB' t l I W sa)) (hl : PO X lo (rdO t l I W so)) (hh : PO X hi (rdO t l I W so2)) : PE X (.Subscript e (.Slice lo hi none p2) pos) (rdE t l I W (sSl sa so so2)) :=
  PE_imp (pe_slice (SlR.or (SlR.or sl_list sl_tupA) sl_str0) he hl hh) fun σ H Q ⟨H0, O0, O, ρ, P, PX, E, hs, q, qx⟩ => by
    refine ⟨H0, O0, O, ρ, _, PX, E, hs, fun d v H1 p1 k1 b1 => ?_, qx⟩
    refine ⟨H0, O0, O, ρ, _, PX, E.keep k1, p1, fun lo H2 p2 k2 => ?_, qx.keep k1⟩
    refine ⟨H0, O0, O, ρ, _, PX, (E.keep k1).keep k2, p2, fun hi H3 p3 k3 => ?_, (qx.keep k1).keep k2⟩
    have E3 := ((E.keep k1).keep k2).keep k3
    have k := (k1.trans k2).trans k3
    have b3 := (b1.keep k2 E.t1).keep k3 E.t1
    unfold slD at p3
    split at p3
    · obtain ⟨p, vs, rfl, hp, rp⟩ := b3.lst
      exact .inl (.inl ⟨p, vs, rfl, SqL.of hp, fun p' n => q _ _ _ p3 (k.trans (.new k3.2 n)) (new_lst k3.2 E3.all n (rp.cut lo hi))⟩)
    · obtain ⟨p, vs, rfl, hp, rp⟩ := b3.tup
      refine .inl (.inr ⟨p, vs, rfl, SqT.of (hd_some hp).2, fun e => ?_, fun _ p' n => q _ _ _ p3 (k.trans (.new k3.2 n)) (new_tup k3.2 E3.all n (rp.cut lo hi))⟩)
      refine q _ _ _ p3 k (.tup hp ?_)
      have r := rp.cut lo hi
      have e2 : cutV vs lo hi = vs := by
        unfold cutV
        rw [e.1, e.2, List.drop_zero, Nat.sub_zero, List.take_length]
      rw [e2] at r
      exact r
    · exact .inr ⟨_, b3.str, maxLen_le p3.1, q _ _ _ p3.2 k (.str _)⟩
    · exact p3.elim
end DS

namespace DS
open PySem PySem.Spec PyProof.Rows L2
variable {t l : Addr} {I : TI'} {W : WX} {X : Cx} {pos : Pos}
/-! ### argument lists -/
def rdAB (t l : Addr) (I : TI') (W : WX) (sa : SL) : TA := fun σ H Q => ∃ H0 O0 O ρ P PX, Env t l I H0 O0 O H σ ρ ∧ sa ρ P PX ∧
  (∀ ds vs H', P ds → Kept t l I H H' → Paired (Bor t O H') vs ds → Q vs H') ∧ OKX t l I W O σ H PX
def saN : SL := fun _ P _ => P []
def saC (se : SE) (sa : SL) : SL := fun ρ P PX => se ρ (fun d => sa ρ (fun ds => P (d :: ds)) PX) PX
section
variable {e : Expr} {es : List Expr} {se : SE} {sa : SL}
theorem a_nil : PA X [] (rdA t l I W saN) := PA_imp pa_nil fun σ H Q ⟨H0, O0, O, ρ, P, PX, E, hs, q, qx⟩ => q _ _ H hs (.refl E.tp) .nil
theorem a_cons (he : PE X e (rdE t l I W se)) (hr : PA X es (rdA t l I W sa)) (hs : starEach (e :: es) X.env = (false, eval e X.env) :: starEach es X.env := by rfl) : PA X (e :: es) (rdA t l I W (saC se sa)) :=
  PA_imp (pa_cons he hr hs) fun σ H Q ⟨H0, O0, O, ρ, P, PX, E, hs, q, qx⟩ => ⟨H0, O0, O, ρ, _, PX, E, hs, fun d v H1 p1 k1 r1 =>
    ⟨H0, O0, O, ρ, _, PX, E.keep k1, p1, fun ds vs H2 p2 k2 r2 => q _ _ H2 p2 (k1.trans k2) (.cons (r1.mono (k2.same E.t1)) r2), qx.keep k1⟩, qx⟩
theorem ab_nil : PA X [] (rdAB t l I W saN) := PA_imp pa_nil fun σ H Q ⟨H0, O0, O, ρ, P, PX, E, hs, q, qx⟩ => q _ _ H hs (.refl E.tp) .nil
theorem ab_cons (he : PE X e (rdB' t l I W se)) (hr : PA X es (rdAB t l I W sa)) (hs : starEach (e :: es) X.env = (false, eval e X.env) :: starEach es X.env := by rfl) : PA X (e :: es) (rdAB t l I W (saC se sa)) :=
  PA_imp (pa_cons he hr hs) fun σ H Q ⟨H0, O0, O, ρ, P, PX, E, hs, q, qx⟩ => ⟨H0, O0, O, ρ, _, PX, E, hs, fun d v H1 p1 k1 r1 =>
    ⟨H0, O0, O, ρ, _, PX, E.keep k1, p1, fun ds vs H2 p2 k2 r2 => q _ _ H2 p2 (k1.trans k2) (.cons (r1.keep k2 E.t1) r2), qx.keep k1⟩, qx⟩
/-! ### displays -/
def sTup (sa : SL) : SE := fun ρ P PX => sa ρ (fun ds => ds.length ≤ maxLen ∧ P (.tup ds)) PX
def sLst (sa : SL) : SE := fun ρ P PX => sa ρ (fun ds => ds.length ≤ maxLen ∧ P (.lst ds)) PX
theorem e_tup {x1} (h : PA X es (rdA t l I W sa)) : PE X (.Tuple es x1 pos) (rdE t l I W (sTup sa)) := PE_imp (pe_tup h) fun σ H Q ⟨H0, O0, O, ρ, P, PX, E, hs, q, qx⟩ => ⟨H0, O0, O, ρ, _, PX, E, hs, fun ds vs H1 p1 k1 r1 =>
  ⟨by rw [r1.length]; exact maxLen_le p1.1, fun p n => q _ _ _ p1.2 (k1.trans (.new k1.2 n)) (new_tup k1.2 (E.keep k1).all n r1)⟩, qx⟩
theorem f_lst (h : PA X es (rdA t l I W sa)) : PE X (.List es pos) (rdF t l I W (sLst sa)) := PE_imp (pe_lst h) fun σ H Q ⟨H0, O0, O, ρ, P, PX, E, hs, q, qx⟩ => ⟨H0, O0, O, ρ, _, PX, E, hs, fun ds vs H1 p1 k1 r1 =>
  ⟨by rw [r1.length]; exact maxLen_le p1.1, fun p n => q _ _ _ _ p1.2 (k1.trans (.new k1.2 n)) (by
    cases z : H p with
    | none => rfl
    | some o => exact absurd n (k1.there k1.2.t_some (by rw [z]; exact fun z => nomatch z))) upd_same (.lst (r1.mono (hd_new n)))⟩, qx⟩
end

/-! ### built-ins by values -/
def CallSem (t l : Addr) (I : TI') (r : List V → Hp → VK → Prop) (f : List D → (D → Prop) → Prop) : Prop := ∀ (O : List Addr) (H : Hp) (vs : List V) (ds : List D) (P : D → Prop) (Q : VK),
  Tp t l I H → (∀ a ∈ O, H a ≠ none) → Paired (Bor t O H) vs ds → f ds P → OKQ t l I O H P Q → r vs H Q
def sCB (f : List D → (D → Prop) → Prop) (sa : SL) : SE := fun ρ P PX => sa ρ (fun ds => f ds P) PX
section
variable {r : List V → Hp → VK → Prop} {f : List D → (D → Prop) → Prop} {e : Expr} {es : List Expr} {sa : SL} {id : String} {x : Str} {p : Pos}
theorem cb_rd (hf : CallSem t l I r f) {σ : L2.St} {H : Hp} {Q : VK} (h : rdE t l I W (sCB f sa) σ H Q) : tCB r (rdAB t l I W sa) σ H Q := by
  obtain ⟨H0, O0, O, ρ, P, PX, E, hs, q, qx⟩ := h
  exact ⟨H0, O0, O, ρ, _, PX, E, hs, fun ds vs H1 p1 k1 b1 => hf O H1 vs ds P Q k1.2 (E.keep k1).all b1 p1 (q.keep k1), qx⟩
theorem e_cb (hf : CallSem t l I r f) (hc : CallR X (.builtin id) r) (hg : Gl X x) (hm : X.mg x = none) (hv : bootBuiltins x = some (.builtin id)) (ha : PA X (e :: es) (rdAB t l I W sa)) (hn : x ≠ "__name__" := by decide) (hdb : (x == ("__debug__" : Str)) = false := by decide)
    (he : starEach (e :: es) X.env = (false, eval e X.env) :: starEach es X.env := by rfl) (hpl : (backTo pos (starEach es X.env)).any (·.1) = false := by rfl) : PE X (.Call (.Name x p) (e :: es) [] pos) (rdE t l I W (sCB f sa)) :=
  PE_imp (pe_callB hc hg hm hv ha hn hdb he hpl) fun σ H Q h => cb_rd hf h
theorem e_cty (hf : CallSem t l I r f) (hc : CallR X (.type id) r) (hg : Gl X x) (hm : X.mg x = none) (hv : bootBuiltins x = some (.type id)) (ha : PA X (e :: es) (rdAB t l I W sa)) (hn : x ≠ "__name__" := by decide) (hdb : (x == ("__debug__" : Str)) = false := by decide)
    (he : starEach (e :: es) X.env = (false, eval e X.env) :: starEach es X.env := by rfl) (hpl : (backTo pos (starEach es X.env)).any (·.1) = false := by rfl) : PE X (.Call (.Name x p) (e :: es) [] pos) (rdE t l I W (sCB f sa)) :=
  PE_imp (pe_callTy hc hg hm hv ha hn hdb he hpl) fun σ H Q h => cb_rd hf h
end
def lenD : List D → (D → Prop) → Prop
  | [.lst ds], P => P (.int ds.length)
  | [.tup ds], P => P (.int ds.length)
  | [.str s], P => s.length ≤ maxLen ∧ P (.int s.length)
  | _, _ => False
theorem pr1 {R : V → D → Prop} {vs : List V} {d : D} (h : Paired R vs [d]) : ∃ v, vs = [v] ∧ R v d := by
  cases h with
  | cons a b =>
    cases b
    exact ⟨_, rfl, a⟩
theorem pr2 {R : V → D → Prop} {vs : List V} {d e : D} (h : Paired R vs [d, e]) : ∃ v w, vs = [v, w] ∧ R v d ∧ R w e := by
  cases h with
  | cons a b =>
    obtain ⟨w, rfl, c⟩ := pr1 b
    exact ⟨_, w, rfl, a, c⟩
theorem sem_len {K : PySem.W.Frag} : CallSem t l I (fun xs H Q => ∃ x n, xs = [x] ∧ LenV K x H n ∧ Q (.int n) H) lenD := by
  intro O H vs ds P Q T ha hb hf q
  unfold lenD at hf
  split at hf
  · obtain ⟨v, rfl, b⟩ := pr1 hb
    obtain ⟨p, vs, rfl, hp, rp⟩ := b.lst
    exact ⟨_, _, rfl, .inl ⟨vs, SqL.of hp, rp.length.symm⟩, q.c T hf fun _ => .int _⟩
  · obtain ⟨v, rfl, b⟩ := pr1 hb
    obtain ⟨p, vs, rfl, hp, rp⟩ := b.tup
    exact ⟨_, _, rfl, .inr ⟨vs, SqT.of (hd_some hp).2, rp.length.symm⟩, q.c T hf fun _ => .int _⟩
  · obtain ⟨v, rfl, b⟩ := pr1 hb
    have e := b.str
    subst e
    exact ⟨_, _, rfl, ⟨maxLen_le hf.1, rfl⟩, q.c T hf.2 fun _ => .int _⟩
  · exact hf.elim
/-! isinstance -/
def tyN : D → String
  | .non => "NoneType" | .bl _ => "bool" | .int _ => "int" | .str _ => "str" | .lst _ => "list" | .tup _ => "tuple" | .dct _ => "dict" | .ty _ => "" | .ins _ _ => "" | .tape => ""
def isB (d : D) (n : String) : Bool := tyN d == n || (tyN d == "bool" && n == "int")
def tyL : List String := ["int", "bool", "str", "tuple", "list", "dict"]
theorem kit_all : (tyL.all fun n => (["NoneType", "bool", "int", "str", "list", "tuple", "dict"] : List String).all fun a => decide (kitB a n = some (a == n || (a == "bool" && n == "int")))) = true := by decide +kernel
theorem kit_of {a n : String} (hn : n ∈ tyL) (ha : a ∈ (["NoneType", "bool", "int", "str", "list", "tuple", "dict"] : List String)) : kitB a n = some (a == n || (a == "bool" && n == "int")) := by
  have h := kit_all
  rw [List.all_eq_true] at h
  have h2 := h n hn
  rw [List.all_eq_true] at h2
  exact of_decide_eq_true (h2 a ha)
theorem Bor.ty {K : PySem.W.Frag} {O : List Addr} {H : Hp} {v : V} {d : D} (h : Bor t O H v d) (hd : tyN d ≠ "") : ∃ a, TyX K H v (.type a) ∧ a = tyN d ∧ a ∈ (["NoneType", "bool", "int", "str", "list", "tuple", "dict"] : List String) := by
  rcases h with h | ⟨p, o, rfl, n, h, c⟩
  · cases h with
    | non => exact ⟨_, .base .non, rfl, by decide⟩
    | bl b => exact ⟨_, .base (.bl b), rfl, by decide⟩
    | int b => exact ⟨_, .base (.int b), rfl, by decide⟩
    | str b => exact ⟨_, .base (.str b), rfl, by decide⟩
    | ty n => exact absurd rfl hd
    | tape => exact absurd rfl hd
    | lst h r => exact ⟨_, .base (.lst (hd_some h).2), rfl, by decide⟩
    | tup h r => exact ⟨_, .base (.tup (hd_some h).2), rfl, by decide⟩
    | ins h r => exact absurd rfl hd
    | dct h r => exact ⟨_, .base (.dK (hd_some h).2), rfl, by decide⟩
    | dctT h r => exact ⟨_, .base (.dT (hd_some h).2), rfl, by decide⟩
  · cases c with
    | lst r => exact ⟨_, .base (.lst h), rfl, by decide⟩
    | dct r => exact ⟨_, .base (.dK h), rfl, by decide⟩
    | dctT r => exact ⟨_, .base (.dT h), rfl, by decide⟩
def plainTy (d : D) : Bool := tyN d != ""
def isiD : List D → (D → Prop) → Prop
  | [d, .ty n], P => plainTy d = true ∧ n ∈ tyL ∧ P (.bl (isB d n))
  | _, _ => False
theorem sem_isi {K : PySem.W.Frag} : CallSem t l I (rIsi K) isiD := by
  intro O H vs ds P Q T ha hb hf q
  unfold isiD at hf
  split at hf
  · rename_i d n
    obtain ⟨h1, h2, h3⟩ := hf
    obtain ⟨v, w, rfl, b1, b2⟩ := pr2 hb
    obtain ⟨a, ht, rfl, hm⟩ := b1.ty (K := K) (by simpa [plainTy] using h1)
    have ew : w = .ty n := by
      rcases b2 with z | ⟨_, _, _, _, _, c⟩
      · cases z
        rfl
      · cases c
    subst ew
    exact ⟨v, .ty n, _, _, _, rfl, .ty n, ht, kit_ty (kit_of h2 hm), q.c T h3 fun _ => .bl _⟩
  · exact hf.elim
def isAny (d : D) : List D → Bool
  | .ty n :: r => isB d n || isAny d r
  | _ => false
def tysOk : List D → Bool
  | [] => true
  | .ty n :: r => decide (n ∈ tyL) && tysOk r
  | _ => false
def isiTD : List D → (D → Prop) → Prop
  | [d, .tup ts], P => plainTy d = true ∧ tysOk ts = true ∧ P (.bl (isAny d ts))
  | _, _ => False
theorem tys_of {K : PySem.W.Frag} {H : Hp} {a : String} {d : D} (ha : a = tyN d) (hm : a ∈ (["NoneType", "bool", "int", "str", "list", "tuple", "dict"] : List String)) : ∀ {vs : List V} {ts : List D}, RpL t H vs ts → tysOk ts = true →
    ∃ us, Paired ClsV vs us ∧ PySem.W.kitAny K (.type a) us = some (isAny d ts)
  | _, _, .nil, _ => ⟨[], .nil, kitAny_nil⟩
  | _, .ty n :: ts', .cons z r, h => by
    cases z
    have h' : n ∈ tyL ∧ tysOk ts' = true := by
      have q := h
      unfold tysOk at q
      rw [Bool.and_eq_true] at q
      exact ⟨of_decide_eq_true q.1, q.2⟩
    obtain ⟨us, h1, h2⟩ := tys_of (K := K) ha hm r h'.2
    refine ⟨.type n :: us, .cons (.ty n) h1, ?_⟩
    have hk := kit_ty (K := K) (kit_of h'.1 hm)
    have e : (a == n || (a == "bool" && n == "int")) = isB d n := by
      rw [ha]
      rfl
    rw [e] at hk
    unfold isAny
    cases hb : isB d n with
    | true =>
      rw [hb] at hk
      exact kitAny_cons hk (fun z => nomatch z) (fun _ => rfl)
    | false =>
      rw [hb] at hk
      exact kitAny_cons hk (fun _ => h2) (fun z => nomatch z)
  | _, .non :: _, _, h => by simp [tysOk] at h
  | _, .bl _ :: _, _, h => by simp [tysOk] at h
  | _, .int _ :: _, _, h => by simp [tysOk] at h
  | _, .str _ :: _, _, h => by simp [tysOk] at h
  | _, .lst _ :: _, _, h => by simp [tysOk] at h
  | _, .tup _ :: _, _, h => by simp [tysOk] at h
  | _, .ins _ _ :: _, _, h => by simp [tysOk] at h
  | _, .dct _ :: _, _, h => by simp [tysOk] at h
  | _, .tape :: _, _, h => by simp [tysOk] at h
theorem sem_isiT {K : PySem.W.Frag} : CallSem t l I (rIsiT K) isiTD := by
  intro O H vs ds P Q T ha hb hf q
  unfold isiTD at hf
  split at hf
  · rename_i d ts
    obtain ⟨h1, h2, h3⟩ := hf
    obtain ⟨v, w, rfl, b1, b2⟩ := pr2 hb
    obtain ⟨a, ht, e, hm⟩ := b1.ty (K := K) (by simpa [plainTy] using h1)
    obtain ⟨p, vs, rfl, hp, rp⟩ := b2.tup
    obtain ⟨us, c1, c2⟩ := tys_of (K := K) e hm rp h2
    exact ⟨v, p, vs, _, us, _, rfl, (hd_some hp).2, c1, ht, c2, q.c T h3 fun _ => .bl _⟩
  · exact hf.elim
/-! int, min, max, abs -/
def intFD : List D → (D → Prop) → Prop
  | [.int i], P => P (.int i)
  | [.bl b], P => P (.int (if b then 1 else 0))
  | _, _ => False
theorem sem_intF : CallSem t l I (fun xs H Q => (∃ i, xs = [.int i] ∧ Q (.int i) H) ∨ ∃ k, xs = [.bl k] ∧ Q (.int (if k then 1 else 0)) H) intFD := by
  intro O H vs ds P Q T ha hb hf q
  unfold intFD at hf
  split at hf
  · obtain ⟨v, rfl, b⟩ := pr1 hb
    exact .inl ⟨_, by rw [b.int], q.c T hf fun _ => .int _⟩
  · obtain ⟨v, rfl, b⟩ := pr1 hb
    exact .inr ⟨_, by rw [b.bl], q.c T hf fun _ => .int _⟩
  · exact hf.elim
def int2D (g : Int → Int → Int) : List D → (D → Prop) → Prop
  | [.int i, .int j], P => P (.int (g i j))
  | _, _ => False
theorem sem_int2 {g : Int → Int → Int} : CallSem t l I (fun xs H Q => ∃ i j, xs = [.int i, .int j] ∧ Q (.int (g i j)) H) (int2D g) := by
  intro O H vs ds P Q T ha hb hf q
  unfold int2D at hf
  split at hf
  · obtain ⟨v, w, rfl, b, b2⟩ := pr2 hb
    exact ⟨_, _, by rw [b.int, b2.int], q.c T hf fun _ => .int _⟩
  · exact hf.elim
def absD : List D → (D → Prop) → Prop
  | [.int i], P => P (.int (if i < 0 then -i else i))
  | _, _ => False
theorem sem_abs : CallSem t l I (fun xs H Q => ∃ i, xs = [.int i] ∧ Q (.int (if i < 0 then -i else i)) H) absD := by
  intro O H vs ds P Q T ha hb hf q
  unfold absD at hf
  split at hf
  · obtain ⟨v, rfl, b⟩ := pr1 hb
    exact ⟨_, by rw [b.int], q.c T hf fun _ => .int _⟩
  · exact hf.elim
/-! all, any, sum over a list or a tuple -/
def blsD : List D → Option (List Bool)
  | [] => some []
  | .bl b :: r => (blsD r).map (b :: ·)
  | _ => none
theorem bls_of {H : Hp} : ∀ {vs : List V} {ds : List D} {bs : List Bool}, RpL t H vs ds → blsD ds = some bs → vs = bs.map V.bl
  | _, _, _, .nil, h => by
    cases h
    rfl
  | _, .bl b :: r, bs, .cons z rr, h => by
    cases z
    unfold blsD at h
    cases q : blsD r with
    | none =>
      rw [q] at h
      cases h
    | some bs' =>
      rw [q] at h
      cases h
      rw [List.map_cons, bls_of rr q]
  | _, .non :: _, _, _, h => by simp [blsD] at h
  | _, .int _ :: _, _, _, h => by simp [blsD] at h
  | _, .str _ :: _, _, _, h => by simp [blsD] at h
  | _, .lst _ :: _, _, _, h => by simp [blsD] at h
  | _, .tup _ :: _, _, _, h => by simp [blsD] at h
  | _, .ins _ _ :: _, _, _, h => by simp [blsD] at h
  | _, .dct _ :: _, _, _, h => by simp [blsD] at h
  | _, .tape :: _, _, _, h => by simp [blsD] at h
  | _, .ty _ :: _, _, _, h => by simp [blsD] at h
def allD : List D → (D → Prop) → Prop
  | [.lst ds], P => match blsD ds with
    | some bs => P (.bl (bs.all id))
    | none => False
  | _, _ => False
theorem sem_allB {K : PySem.W.Frag} : CallSem t l I (rAll K) allD := by
  intro O H vs ds P Q T ha hb hf q
  unfold allD at hf
  split at hf
  · obtain ⟨v, rfl, b⟩ := pr1 hb
    obtain ⟨p, vs, rfl, hp, rp⟩ := b.lst
    split at hf
    · rename_i bs e
      have ev := bls_of rp e
      subst ev
      exact ⟨p, bs, rfl, SqL.of hp, q.c T hf fun _ => .bl _⟩
    · exact hf.elim
  · exact hf.elim
def anyD : List D → (D → Prop) → Prop
  | [.lst ds], P => match blsD ds with
    | some bs => P (.bl (bs.any id))
    | none => False
  | _, _ => False
theorem sem_anyB {K : PySem.W.Frag} : CallSem t l I (rAny K) anyD := by
  intro O H vs ds P Q T ha hb hf q
  unfold anyD at hf
  split at hf
  · obtain ⟨v, rfl, b⟩ := pr1 hb
    obtain ⟨p, vs, rfl, hp, rp⟩ := b.lst
    split at hf
    · rename_i bs e
      have ev := bls_of rp e
      subst ev
      exact ⟨p, bs, rfl, SqL.of hp, q.c T hf fun _ => .bl _⟩
    · exact hf.elim
  · exact hf.elim
def intsD : List D → Option (List Int)
  | [] => some []
  | .int b :: r => (intsD r).map (b :: ·)
  | _ => none
theorem ints_of {H : Hp} : ∀ {vs : List V} {ds : List D} {bs : List Int}, RpL t H vs ds → intsD ds = some bs → vs = bs.map V.int
  | _, _, _, .nil, h => by
    cases h
    rfl
  | _, .int b :: r, bs, .cons z rr, h => by
    cases z
    unfold intsD at h
    cases q : intsD r with
    | none =>
      rw [q] at h
      cases h
    | some bs' =>
      rw [q] at h
      cases h
      rw [List.map_cons, ints_of rr q]
  | _, .non :: _, _, _, h => by simp [intsD] at h
  | _, .bl _ :: _, _, _, h => by simp [intsD] at h
  | _, .str _ :: _, _, _, h => by simp [intsD] at h
  | _, .lst _ :: _, _, _, h => by simp [intsD] at h
  | _, .tup _ :: _, _, _, h => by simp [intsD] at h
  | _, .ins _ _ :: _, _, _, h => by simp [intsD] at h
  | _, .dct _ :: _, _, _, h => by simp [intsD] at h
  | _, .tape :: _, _, _, h => by simp [intsD] at h
  | _, .ty _ :: _, _, _, h => by simp [intsD] at h
theorem sum_tupRaw {prog : Program} {w : World} {A : Around} {E : Value → Shared → Prop} {s : Shared} {a : Addr} {its : List Value} {ns : List Int} {Q : Value → Shared → Prop} (hh : A.handled = none) (hl : IsTup s.heap a its.toArray) (hi : IntsAre its ns)
    (h : ∀ h' tk t', (∀ b o, s.heap.get? b = some o → h'.get? b = some o) → Q (.int ns.sum t') { s with heap := h', toks := tk }) : wpAny (model prog w) A (call (.builtin "sum") [.ref a]) Q E s := by
  obtain ⟨xs, e⟩ := hi.allInts.items
  have hn : numsOf (intItems xs).toList = ns := by rw [← e]; exact hi.numsOf
  rw [nums_intItems] at hn
  rw [e] at hl
  have hlt : a < s.heap.objs.size := hl.lt
  refine call_sum_walkG (wpAny_pyIter_tuple (show s.heap.IsTuple a (intItems xs) from hl) ?_)
  refine ⟨_, _, _, _, _, _, numAt xs, rfl, Walks.tuple (A := A.in1) hh s.heap.objs.size a (Nat.ne_of_lt hlt) (intItems xs), ⟨⟨_, Heap.get?_push_size _ rfl, rfl, rfl⟩, ?_⟩, fun b hb => ?_, (fun _ _ => intItems_at), fun h' tk t' hk => ?_⟩
  · obtain ⟨o, e1, e2⟩ := (show s.heap.IsTuple a (intItems xs) from hl)
    exact ⟨o, Heap.get?_push_of_some _ e1, e2⟩
  · have hb' : b = s.heap.objs.size ∨ b = a := by simpa using hb
    show b < (s.heap.push _).objs.size
    rw [Heap.size_push]
    rcases hb' with rfl | rfl
    · exact Nat.lt_succ_self _
    · exact Nat.lt_succ_of_lt hlt
  · have := h h' tk t' (fun b o eo => hk b o (fun hm => by
      have e0 : b = s.heap.objs.size := by simpa using hm
      exact absurd (e0 ▸ Heap.lt_size eo) (Nat.lt_irrefl _)) (Heap.get?_push_of_some _ eo))
    have e3 : preSum (numAt xs) (intItems xs).size = ns.sum := by
      have e4 : (intItems xs).size = xs.size := by simp [intItems]
      rw [e4, preSum_eq, List.take_of_length_le (by simp), hn]
    rw [e3]
    exact this
def rSumT (K : PySem.W.Frag) : List V → Hp → VK → Prop := fun vs H Q => ∃ (a : Addr) (ns : List Int), vs = [V.ref a] ∧ SqT K H a (ns.map V.int) ∧ Q (.int ns.sum) H
theorem cr_sumT (hc : X.calm = true) : CallR X (.builtin "sum") (rSumT X.K) := by
  intro pins s σ H vs us Q I r h
  obtain ⟨a, ns, rfl, hs, q⟩ := h
  obtain ⟨its, rv, hl, _⟩ := I.tuple hs
  rw [Vals.ref1 r]
  exact sum_tupRaw (I.ok.hd hc) hl rv.ints fun h' tk t' hk => ⟨.int _, H, I.kept hk, ⟨_, rfl⟩, q⟩
def sumD : List D → (D → Prop) → Prop
  | [.lst ds], P => match intsD ds with
    | some bs => P (.int bs.sum)
    | none => False
  | [.tup ds], P => match intsD ds with
    | some bs => P (.int bs.sum)
    | none => False
  | _, _ => False
theorem sem_sum {K : PySem.W.Frag} : CallSem t l I (fun vs H Q => rSum K vs H Q ∨ rSumT K vs H Q) sumD := by
  intro O H vs ds P Q T ha hb hf q
  unfold sumD at hf
  split at hf
  · obtain ⟨v, rfl, b⟩ := pr1 hb
    obtain ⟨p, vs, rfl, hp, rp⟩ := b.lst
    split at hf
    · rename_i bs e
      have ev := ints_of rp e
      subst ev
      exact .inl ⟨p, bs, rfl, SqL.of hp, q.c T hf fun _ => .int _⟩
    · exact hf.elim
  · obtain ⟨v, rfl, b⟩ := pr1 hb
    obtain ⟨p, vs, rfl, hp, rp⟩ := b.tup
    split at hf
    · rename_i bs e
      have ev := ints_of rp e
      subst ev
      exact .inr ⟨p, bs, rfl, SqT.of (hd_some hp).2, q.c T hf fun _ => .int _⟩
    · exact hf.elim
  · exact hf.elim
/-! tuple(..), list(..) -/
def tupFD : List D → (D → Prop) → Prop
  | [.lst ds], P => P (.tup ds)
  | [.tup ds], P => P (.tup ds)
  | _, _ => False
theorem sem_tupF {K : PySem.W.Frag} : CallSem t l I (fun xs H Q => ∃ p ys, xs = [.ref p] ∧ ((SqL K H p ys ∧ ∀ l, H l = none → Q (.ref l) (upd H l (.tup ys))) ∨ (SqT K H p ys ∧ Q (.ref p) H))) tupFD := by
  intro O H vs ds P Q T ha hb hf q
  unfold tupFD at hf
  split at hf
  · obtain ⟨v, rfl, b⟩ := pr1 hb
    obtain ⟨p, vs, rfl, hp, rp⟩ := b.lst
    exact ⟨p, vs, rfl, .inl ⟨SqL.of hp, fun p2 n => q _ _ _ hf (.new T n) (new_tup T ha n rp)⟩⟩
  · obtain ⟨v, rfl, b⟩ := pr1 hb
    obtain ⟨p, vs, rfl, hp, rp⟩ := b.tup
    exact ⟨p, vs, rfl, .inr ⟨SqT.of (hd_some hp).2, q _ _ H hf (.refl T) (.tup hp rp)⟩⟩
  · exact hf.elim
def lstFD : List D → (D → Prop) → Prop
  | [.lst ds], P => P (.lst ds)
  | [.tup ds], P => P (.lst ds)
  | _, _ => False
theorem f_list {e : Expr} {sa : SL} {p : Pos} (hg : Gl X "list") (hm : X.mg "list" = none) (hv : bootBuiltins "list" = some (.type "list")) (ha : PA X [e] (rdAB t l I W sa))
    (he : starEach [e] X.env = (false, eval e X.env) :: starEach [] X.env := by rfl) (hpl : (backTo pos (starEach [] X.env)).any (·.1) = false := by rfl) : PE X (.Call (.Name "list" p) [e] [] pos) (rdF t l I W (sCB lstFD sa)) :=
  PE_imp (pe_callTy call_list_of hg hm hv ha (by decide) (by decide) he hpl) fun σ H Q ⟨H0, O0, O, ρ, P, PX, E, hs, q, qx⟩ => by
    refine ⟨H0, O0, O, ρ, _, PX, E, hs, fun ds vs H1 p1 k1 b1 => ?_, qx⟩
    have E1 := E.keep k1
    have fr : ∀ p, H1 p = none → H p = none := fun p n => by
      cases z : H p with
      | none => rfl
      | some o => exact absurd n (k1.there k1.2.t_some (by rw [z]; exact fun z => nomatch z))
    unfold lstFD at p1
    split at p1
    · obtain ⟨v, rfl, b⟩ := pr1 b1
      obtain ⟨p, vs, rfl, hp, rp⟩ := b.lst
      exact ⟨p, vs, rfl, .inl (SqL.of hp), fun p2 n => q _ _ _ _ p1 (k1.trans (.new k1.2 n)) (fr _ n) upd_same (.lst (rp.mono (hd_new n)))⟩
    · obtain ⟨v, rfl, b⟩ := pr1 b1
      obtain ⟨p, vs, rfl, hp, rp⟩ := b.tup
      exact ⟨p, vs, rfl, .inr (SqT.of (hd_some hp).2), fun p2 n => q _ _ _ _ p1 (k1.trans (.new k1.2 n)) (fr _ n) upd_same (.lst (rp.mono (hd_new n)))⟩
    · exact p1.elim
/-! ### calls of the text's own defs -/
def sCall (sf : SF) (sa : SL) : SE := fun ρ P PX => sa ρ (fun ds => sf ds P PX) PX
theorem e_call {k : Nat} {f : Addr} {fd : FuncData} {ps : List Str} {sf : SF} {x : Str} {p : Pos} {e : Expr} {es : List Expr} {sa : SL} (tk : Takes X W) (F : FnOk X.prog X.w X.K X.mg X.base (L2.CX X.prog X.w) k f fd ps (spD t l I sf)) (hr : Room k X.A) (hm : X.mg x = some (.ref f))
    (hk : PySem.W.keepIn X.K (.ref f) = true) (hb : Binds X.K fd ps []) (ha : PA X (e :: es) (rdA t l I W sa)) (hg : Gl X x := by rfl) (hdb : (x == ("__debug__" : Str)) = false := by decide)
    (he : starEach (e :: es) X.env = (false, eval e X.env) :: starEach es X.env := by rfl) (hpl : (backTo pos (starEach es X.env)).any (·.1) = false := by rfl) : PE X (.Call (.Name x p) (e :: es) [] pos) (rdE t l I W (sCall sf sa)) :=
  PE_imp (pe_callS F hr hg hm hk hb (fun σ => passAt tk σ) ha hdb he hpl) fun σ H Q ⟨H0, O0, O, ρ, P, PX, E, hs, q, qx⟩ =>
    ⟨H0, O0, O, ρ, _, PX, E, hs, fun ds vs H1 p1 k1 r1 => ⟨O, ds, P, PX, k1.2, E.t1, E.l1, (E.keep k1).all, r1, p1, q.keep k1, qx.keep k1⟩, qx⟩
end DS

namespace DS
open PySem PySem.Spec PyProof.Rows L2
variable {t l : Addr} {I : TI'} {W : WX} {X : Cx} {pos : Pos}
/-! ### slots -/
section
variable {H0 H H' : Hp} {O0 O : List Addr} {σ : L2.St} {ρ : List Slot}
theorem Env.set (E : Env t l I H0 O0 O H σ ρ) {i : Nat} {v : V} {d : D} (r : Rp t (hd O H) v d) : Env t l I H0 O0 O H (σ.set i (some v)) (ρ.set i (.d d)) := by
  refine ⟨E.toEnvB, by rw [List.length_set, List.length_set, E.len], fun j s h => ?_, fun j k p xi xj h1 h2 h3 h4 => ?_⟩
  · by_cases e : i = j
    · subst e
      have hl : i < ρ.length := by
        have z := (List.getElem?_eq_some_iff.mp h).1
        rw [List.length_set] at z
        exact z
      rw [List.getElem?_set_self hl] at h
      cases h
      refine ⟨v, ?_, r⟩
      rw [List.getElem?_set_self (by rw [E.len]; exact hl)]
    · rw [List.getElem?_set_ne e] at h
      rw [List.getElem?_set_ne e]
      exact E.slot j s h
  · have n1 : i ≠ j := fun e => by
      subst e
      by_cases hl : i < ρ.length
      · rw [List.getElem?_set_self hl] at h1
        cases h1
      · rw [List.getElem?_eq_none (by rw [List.length_set]; omega)] at h1
        cases h1
    have n2 : i ≠ k := fun e => by
      subst e
      by_cases hl : i < ρ.length
      · rw [List.getElem?_set_self hl] at h2
        cases h2
      · rw [List.getElem?_eq_none (by rw [List.length_set]; omega)] at h2
        cases h2
    rw [List.getElem?_set_ne n1] at h1 h3
    rw [List.getElem?_set_ne n2] at h2 h4
    exact E.dist j k p xi xj h1 h2 h3 h4
theorem Env.setNo (E : Env t l I H0 O0 O H σ ρ) (i : Nat) (v : Option V) : Env t l I H0 O0 O H (σ.set i v) (ρ.set i .no) := by
  refine ⟨E.toEnvB, by rw [List.length_set, List.length_set, E.len], fun j s h => ?_, fun j k p xi xj h1 h2 h3 h4 => ?_⟩
  · by_cases e : i = j
    · subst e
      have hl : i < ρ.length := by
        have z := (List.getElem?_eq_some_iff.mp h).1
        rw [List.length_set] at z
        exact z
      rw [List.getElem?_set_self hl] at h
      cases h
      exact True.intro
    · rw [List.getElem?_set_ne e] at h
      rw [List.getElem?_set_ne e]
      exact E.slot j s h
  · have n1 : i ≠ j := fun e => by
      subst e
      by_cases hl : i < ρ.length
      · rw [List.getElem?_set_self hl] at h1
        cases h1
      · rw [List.getElem?_eq_none (by rw [List.length_set]; omega)] at h1
        cases h1
    have n2 : i ≠ k := fun e => by
      subst e
      by_cases hl : i < ρ.length
      · rw [List.getElem?_set_self hl] at h2
        cases h2
      · rw [List.getElem?_eq_none (by rw [List.length_set]; omega)] at h2
        cases h2
    rw [List.getElem?_set_ne n1] at h1 h3
    rw [List.getElem?_set_ne n2] at h2 h4
    exact E.dist j k p xi xj h1 h2 h3 h4
def wipeS (ρ : List Slot) : List Nat → List Slot
  | [] => ρ
  | v :: vs => (wipeS ρ vs).set v .no
theorem Env.wipe (E : Env t l I H0 O0 O H σ ρ) : ∀ vs : List Nat, Env t l I H0 O0 O H (wipe σ vs) (wipeS ρ vs)
  | [] => E
  | v :: vs => (Env.wipe E vs).setNo v none
theorem free_back (h : EnvB t l I H0 O0 O H) {p : Addr} (n : H p = none) : H0 p = none := by
  cases z : H0 p with
  | none => rfl
  | some o =>
    by_cases e : p = t
    · subst e
      exact absurd n h.tp.t_some
    · rw [h.kept p o e z] at n
      cases n
/-- a new hidden object at p, all else kept -/
theorem Env.reown (E : Env t l I H0 O0 O H σ ρ) {p : Addr} (n : H p = none) (T : Tp t l I H') (k : ∀ a o, a ≠ t → H a = some o → H' a = some o) (hp : H' p ≠ none) : Env t l I H0 O0 (p :: O) H' σ ρ := by
  have hs : Same (hd O H) (hd (p :: O) H') := fun a o e => by
    obtain ⟨x, y⟩ := hd_some e
    have ne := ne_of_none y n
    rw [hd_out (by
      intro z
      rcases List.mem_cons.mp z with z | z
      · exact ne z
      · exact x z)]
    exact k a o (fun z => x (z ▸ E.t1)) y
  refine ⟨⟨T, E.t0, E.l0, fun a h => List.mem_cons_of_mem _ (E.sub a h), E.all0, fun a h => ?_, fun a o ne e => k a o ne (E.kept a o ne e), fun a h => ?_⟩, E.len, fun i s h => ?_, E.dist⟩
  · rcases List.mem_cons.mp h with rfl | h
    · exact hp
    · by_cases e : a = t
      · rw [e]
        exact T.t_some
      · cases z : H a with
        | none => exact absurd z (E.all a h)
        | some o =>
          rw [k a o e z]
          exact fun z => nomatch z
  · rcases List.mem_cons.mp h with rfl | h
    · exact .inr (free_back E.toEnvB n)
    · exact E.ownO a h
  · have q := E.slot i s h
    cases s with
    | no => exact True.intro
    | d x =>
      obtain ⟨u, e, r⟩ := q
      exact ⟨u, e, r.mono hs⟩
    | own x =>
      obtain ⟨p', o, e, hm, h0, hh, c⟩ := q
      exact ⟨p', o, e, List.mem_cons_of_mem _ hm, h0, k p' o (fun z => own_ne E.toEnvB h0 (z ▸ E.t0)) hh, c.mono hs⟩
/-- an own object at p goes to slot i -/
theorem Env.setOwn (E : Env t l I H0 O0 O H σ ρ) {i : Nat} {p : Addr} {o : HO} {d : D} (hm : p ∈ O) (h0 : H0 p = none) (hp : H p = some o) (c : Ct t (hd O H) o d)
    (hn : ∀ (j : Nat) x, j ≠ i → ρ[j]? = some (.own x) → σ[j]? ≠ some (some (.ref p))) : Env t l I H0 O0 O H (σ.set i (some (.ref p))) (ρ.set i (.own d)) := by
  refine ⟨E.toEnvB, by rw [List.length_set, List.length_set, E.len], fun j s h => ?_, fun j k q xi xj h1 h2 h3 h4 => ?_⟩
  · by_cases e : i = j
    · subst e
      have hl : i < ρ.length := by
        have z := (List.getElem?_eq_some_iff.mp h).1
        rw [List.length_set] at z
        exact z
      rw [List.getElem?_set_self hl] at h
      cases h
      refine ⟨p, o, ?_, hm, h0, hp, c⟩
      rw [List.getElem?_set_self (by rw [E.len]; exact hl)]
    · rw [List.getElem?_set_ne e] at h
      rw [List.getElem?_set_ne e]
      exact E.slot j s h
  · by_cases e1 : i = j
    · subst e1
      by_cases e2 : i = k
      · exact e2
      · exfalso
        rw [List.getElem?_set_ne e2] at h2 h4
        have hl : i < σ.length := by
          have z := (List.getElem?_eq_some_iff.mp h3).1
          rw [List.length_set] at z
          exact z
        rw [List.getElem?_set_self hl] at h3
        cases h3
        exact hn k xj (Ne.symm e2) h2 h4
    · by_cases e2 : i = k
      · subst e2
        exfalso
        rw [List.getElem?_set_ne e1] at h1 h3
        have hl : i < σ.length := by
          have z := (List.getElem?_eq_some_iff.mp h4).1
          rw [List.length_set] at z
          exact z
        rw [List.getElem?_set_self hl] at h4
        cases h4
        exact hn j xi (Ne.symm e1) h1 h3
      · rw [List.getElem?_set_ne e1] at h1 h3
        rw [List.getElem?_set_ne e2] at h2 h4
        exact E.dist j k q xi xj h1 h2 h3 h4
end
theorem wipe_in {σ : L2.St} {i : Nat} : ∀ {vs : List Nat}, i ∈ vs → (wipe σ vs)[i]? = if i < σ.length then some none else none
  | v :: vs, h => by
    unfold wipe
    by_cases e : v = i
    · subst e
      by_cases hl : v < σ.length
      · rw [List.getElem?_set_self (by rw [wipe_length]; exact hl), if_pos hl]
      · rw [List.getElem?_eq_none (by rw [List.length_set, wipe_length]; omega), if_neg hl]
    · rw [List.getElem?_set_ne e]
      rcases List.mem_cons.mp h with h | h
      · exact absurd h.symm e
      · exact wipe_in h
theorem wipe_ext {σ σ' : L2.St} {vs : List Nat} (hl : σ.length = σ'.length) (h : ∀ i, i ∉ vs → σ[i]? = σ'[i]?) : wipe σ vs = wipe σ' vs := by
  apply List.ext_getElem?
  intro i
  by_cases hi : i ∈ vs
  · rw [wipe_in hi, wipe_in hi, hl]
  · rw [wipe_out hi, wipe_out hi, h i hi]
theorem wipe_wipe {σ : L2.St} {vs : List Nat} : wipe (wipe σ vs) vs = wipe σ vs := wipe_ext (wipe_length _ _) fun i hi => wipe_out hi

/-! ### targets -/
def OwnSub (σ : L2.St) (ρ : List Slot) (σ' : L2.St) (ρ' : List Slot) : Prop := ∀ (j : Nat) x, ρ'[j]? = some (.own x) → ρ[j]? = some (.own x) ∧ σ'[j]? = σ[j]?
theorem OwnSub.refl (σ : L2.St) (ρ : List Slot) : OwnSub σ ρ σ ρ := fun _ _ h => ⟨h, rfl⟩
theorem OwnSub.trans {σ σ' σ'' : L2.St} {ρ ρ' ρ'' : List Slot} (a : OwnSub σ ρ σ' ρ') (b : OwnSub σ' ρ' σ'' ρ'') : OwnSub σ ρ σ'' ρ'' := fun j x h =>
  have h1 := b j x h
  have h2 := a j x h1.1
  ⟨h2.1, h1.2.trans h2.2⟩
theorem ownSub_set {σ : L2.St} {ρ : List Slot} {i : Nat} {v : Option V} {s : Slot} (hs : ∀ x, s ≠ .own x) : OwnSub σ ρ (σ.set i v) (ρ.set i s) := fun j x h => by
  by_cases e : i = j
  · subst e
    by_cases hl : i < ρ.length
    · rw [List.getElem?_set_self hl] at h
      exact absurd (Option.some.inj h) (hs x)
    · rw [List.getElem?_eq_none (by rw [List.length_set]; omega)] at h
      cases h
  · rw [List.getElem?_set_ne e] at h ⊢
    exact ⟨h, rfl⟩
theorem ownSub_wipe {σ : L2.St} {ρ : List Slot} : ∀ vs : List Nat, OwnSub σ ρ (wipe σ vs) (wipeS ρ vs)
  | [] => .refl _ _
  | _ :: vs => (ownSub_wipe vs).trans (ownSub_set (by intro _ z; cases z))
abbrev SG := D → List Slot → (List Slot → Prop) → Prop
def rdG (t l : Addr) (I : TI') (gs : SG) (is : List Nat) : TG := fun v σ H R => ∃ H0 O0 O ρ d P, Env t l I H0 O0 O H σ ρ ∧ Rp t (hd O H) v d ∧ gs d ρ P ∧
  ∀ σ' ρ', Env t l I H0 O0 O H σ' ρ' → P ρ' → (∀ vs, (∀ i ∈ is, i ∈ vs) → wipe σ' vs = wipe σ vs) → OwnSub σ ρ σ' ρ' → R σ' H
theorem PG_imp {e : Expr} {u u' : TG} (h : PG X e u) (k : ∀ v σ H R, u' v σ H R → u v σ H R) : PG X e u' := ⟨fun pins s σ H v uu R I r q => h.run pins s σ H v uu R I r (k v σ H R q)⟩
def gsN (i : Nat) : SG := fun d ρ P => P (ρ.set i (.d d))
theorem wipe_set {σ : L2.St} {i : Nat} {x : Option V} {vs : List Nat} (h : i ∈ vs) : wipe (σ.set i x) vs = wipe σ vs := wipe_ext (List.length_set ..) fun j hj => List.getElem?_set_ne (by
  intro e
  subst e
  exact hj h)
theorem g_name (i : Nat) {x : Str} (hN : X.N.Nodup) (hi : X.N[i]? = some x) (hx : Loc X.env.scope x) (hf : X.fn x = true ∨ X.env.scope.names.lookup x = some .local := by first | exact .inl rfl | exact .inr rfl | assumption) : PG X (.Name x pos) (rdG t l I (gsN i) [i]) :=
  PG_imp (pg_name hN hi hx hf) fun v σ H R ⟨H0, O0, O, ρ, d, P, E, r, hs, q⟩ => q _ _ (E.set r) hs (fun vs hv => wipe_set (hv i (by simp))) (ownSub_set (by intro _ z; cases z))
def gNm : List Nat → TGs
  | [] => gNil
  | i :: r => gCons (gName i) (gNm r)
def setAll : List Nat → List D → List Slot → List Slot
  | i :: is, d :: ds, ρ => setAll is ds (ρ.set i (.d d))
  | _, _, ρ => ρ
def gsT (is : List Nat) : SG := fun d ρ P => match d with
  | .tup ds => ds.length = is.length ∧ P (setAll is ds ρ)
  | _ => False
theorem gNm_ok {H0 H : Hp} {O0 O : List Addr} : ∀ (is : List Nat) {vs : List V} {ds : List D} {σ : L2.St} {ρ : List Slot} {R : L2.St → Hp → Prop}, Env t l I H0 O0 O H σ ρ → RpL t (hd O H) vs ds → ds.length = is.length →
    (∀ σ', Env t l I H0 O0 O H σ' (setAll is ds ρ) → (∀ vs, (∀ i ∈ is, i ∈ vs) → wipe σ' vs = wipe σ vs) → OwnSub σ ρ σ' (setAll is ds ρ) → R σ' H) → gNm is vs σ H R
  | [], _, _, σ, ρ, R, E, .nil, _, q => ⟨rfl, q σ E (fun _ _ => rfl) (.refl _ _)⟩
  | i :: is, _, _, σ, ρ, R, E, .cons a b, hl, q => ⟨_, _, rfl, gNm_ok is (E.set a) b (by simpa using hl) fun σ' E' hw ho => q σ' E' (fun vs hv => (hw vs fun j hj => hv j (List.mem_cons_of_mem _ hj)).trans (wipe_set (hv i List.mem_cons_self))) ((ownSub_set (by intro _ z; cases z)).trans ho)⟩
theorem g_tup {es : List Expr} {k : Nat} {is : List Nat} (hc : X.calm = true) (h : PGs X es (gNm is)) (hn : (assignEach es X.env).length = is.length := by rfl) (hst : (assignEach es X.env).findIdx? (·.1) = none := by rfl) : PG X (.Tuple es k pos) (rdG t l I (gsT is) is) :=
  PG_imp (pg_tup hc h hn hst) fun v σ H R ⟨H0, O0, O, ρ, d, P, E, r, hs, q⟩ => by
    unfold gsT at hs
    split at hs
    · cases r with
      | tup h r => exact ⟨_, _, rfl, SqT.of (hd_some h).2, by rw [r.length]; exact hs.1, gNm_ok is E r hs.1 fun σ' E' hw ho => q σ' _ E' hs.2 hw ho⟩
    · exact hs.elim

/-! ### what loops walk -/
def ItOk (t l : Addr) (I : TI') (B : Hp) (J : It) (ds : List D) : Prop := ∀ (i : Nat) (O : List Addr) (H : Hp), Same B (hd O H) → Tp t l I H → (∀ a ∈ O, H a ≠ none) →
  (i < ds.length → J.go i H) ∧ (ds.length ≤ i → J.stop i H) ∧ ∀ x H', i < ds.length → J.yld i H x H' → ∃ d, ds[i]? = some d ∧ Kept t l I H H' ∧ Rp t (hd O H') x d
def rdI (t l : Addr) (I : TI') (W : WX) (si : SL) : TI := fun σ H R => ∃ H0 O0 O ρ P PX, Env t l I H0 O0 O H σ ρ ∧ si ρ P PX ∧
  (∀ ds J H', P ds → Kept t l I H H' → ItOk t l I (hd O H') J ds → R J H') ∧ OKX t l I W O σ H PX
theorem PI_imp {tg e : Expr} {u u' : TI} (h : PI X tg e u) (k : ∀ σ H R, u' σ H R → u σ H R) : PI X tg e u' := ⟨fun pins s σ H R I q => h.run pins s σ H R I (k σ H R q)⟩
/-- a list or a tuple -/
def iSeq (K : PySem.W.Frag) (tl : TE) : TI := fun σ H R => tl σ H fun x H1 => ∃ a, x = .ref a ∧ ((∃ xs, SqL K H1 a xs ∧ R (Itl K a) H1) ∨ ∃ xs, SqT K H1 a xs ∧ R (Itt K a) H1)
theorem pi_seq {tg e : Expr} {tl : TE} (hl : PE X e tl) : PI X tg e (iSeq X.K tl) := by
  refine ⟨fun pins s σ H R I h => ?_⟩
  refine thn (hl.run pins s σ H _ I h) fun v s1 ⟨x, H1, I1, r1, q1⟩ => ?_
  obtain ⟨a, e, ⟨xs, hq, q⟩ | ⟨xs, hq, q⟩⟩ := q1
  · subst e
    cases r1
    obtain ⟨its, rv, p, hz⟩ := I1.list hq
    refine wpAny_pyIter_list p.isList ?_
    refine ⟨s1.heap.objs.size, [s1.heap.objs.size], _, _, H1, rfl, I1.kept (t' := s1.toks) fun b o e => Heap.get?_push_of_some _ e, turn_list a _, ⟨_, Heap.get?_push_size _ rfl, rfl, rfl⟩, fun b hb => ?_, q⟩
    have e : b = s1.heap.objs.size := by simpa using hb
    subst e
    exact I1.fpOk (Nat.le_refl _) (I1.hok.fresh (Nat.le_refl _))
  · subst e
    cases r1
    obtain ⟨its, rv, p, hz⟩ := I1.tuple hq
    refine wpAny_pyIter_tuple (show s1.heap.IsTuple a its.toArray from p) ?_
    refine ⟨s1.heap.objs.size, [s1.heap.objs.size], _, _, H1, rfl, I1.kept (t' := s1.toks) fun b o e => Heap.get?_push_of_some _ e, turn_tuple a _, ⟨_, Heap.get?_push_size _ rfl, rfl, rfl⟩, fun b hb => ?_, q⟩
    have e : b = s1.heap.objs.size := by simpa using hb
    subst e
    exact I1.fpOk (Nat.le_refl _) (I1.hok.fresh (Nat.le_refl _))
theorem RpL.out {t : Addr} {H : Hp} {vs : List V} {ds : List D} (h : RpL t H vs ds) {i : Nat} {v : V} (e : vs[i]? = some v) : ∃ d, ds[i]? = some d ∧ Rp t H v d := by
  induction vs generalizing ds i with
  | nil => simp at e
  | cons w vs ih =>
    cases h with
    | cons a b =>
      cases i with
      | zero =>
        simp at e
        subst e
        exact ⟨_, rfl, a⟩
      | succ i => exact ih b (by simpa using e)
theorem itl_ok {K : PySem.W.Frag} {B : Hp} {a : Addr} {vs : List V} {ds : List D} (h : B a = some (.lst vs)) (r : RpL t B vs ds) : ItOk t l I B (Itl K a) ds := fun i O H hs T _ => by
  have ha : SqL K H a vs := SqL.of (hd_le _ _ (hs _ _ h))
  have hl := r.length
  refine ⟨fun hi => ⟨vs, vs[i], ha, by rw [List.getElem?_eq_getElem (by omega)]⟩, fun hi => ⟨vs, ha, by omega⟩, fun x H' _ y => ?_⟩
  obtain ⟨rfl, y⟩ := y
  obtain ⟨d, e, rr⟩ := r.out (y vs ha)
  exact ⟨d, e, .refl T, rr.mono hs⟩
theorem itt_ok {K : PySem.W.Frag} {B : Hp} {a : Addr} {vs : List V} {ds : List D} (h : B a = some (.tup vs)) (r : RpL t B vs ds) : ItOk t l I B (Itt K a) ds := fun i O H hs T _ => by
  have ha : SqT K H a vs := SqT.of (hd_le _ _ (hs _ _ h))
  have hl := r.length
  refine ⟨fun hi => ⟨vs, vs[i], ha, by rw [List.getElem?_eq_getElem (by omega)]⟩, fun hi => ⟨vs, ha, by omega⟩, fun x H' _ y => ?_⟩
  obtain ⟨rfl, y⟩ := y
  obtain ⟨d, e, rr⟩ := r.out (y vs ha)
  exact ⟨d, e, .refl T, rr.mono hs⟩
def seqD (d : D) (P : List D → Prop) : Prop := match d with
  | .lst ds => P ds
  | .tup ds => P ds
  | _ => False
theorem seqD_of {d : D} {P : List D → Prop} (h : seqD d P) : (∃ ds, d = .lst ds ∧ P ds) ∨ ∃ ds, d = .tup ds ∧ P ds := by
  unfold seqD at h
  split at h
  · exact .inl ⟨_, rfl, h⟩
  · exact .inr ⟨_, rfl, h⟩
  · exact h.elim
def siS (se : SE) : SL := fun ρ P PX => se ρ (fun d => seqD d P) PX
theorem i_seq {tg e : Expr} {se : SE} (h : PE X e (rdE t l I W se)) : PI X tg e (rdI t l I W (siS se)) := PI_imp (pi_seq h) fun σ H R ⟨H0, O0, O, ρ, P, PX, E, hs, q, qx⟩ =>
  ⟨H0, O0, O, ρ, _, PX, E, hs, fun d v H1 p1 k1 r1 => by
    rcases seqD_of p1 with ⟨ds, rfl, p1⟩ | ⟨ds, rfl, p1⟩
    · cases r1 with
      | lst h r => exact ⟨_, rfl, .inl ⟨_, SqL.of (hd_some h).2, q _ _ H1 p1 k1 (itl_ok h r)⟩⟩
    · cases r1 with
      | tup h r => exact ⟨_, rfl, .inr ⟨_, SqT.of (hd_some h).2, q _ _ H1 p1 k1 (itt_ok h r)⟩⟩, qx⟩
def rangeL (lo : Int) (n : Nat) : List D := (List.range n).map fun k => D.int (lo + (k : Nat))
theorem itr_ok {B : Hp} {lo : Int} {n : Nat} : ItOk t l I B (Itr lo n) (rangeL lo n) := fun i O H hs T _ => by
  have hl : (rangeL lo n).length = n := by simp [rangeL]
  refine ⟨fun hi => by rw [hl] at hi; exact hi, fun hi => by rw [hl] at hi; exact hi, fun x H' hi y => ?_⟩
  obtain ⟨rfl, rfl⟩ := y
  rw [hl] at hi
  exact ⟨.int (lo + i), by simp [rangeL, hi], .refl T, .int _⟩
def rng1D : List D → (List D → Prop) → Prop
  | [.int j], P => -(2 ^ 62) ≤ j ∧ j < 2 ^ 62 ∧ P (rangeL 0 j.toNat)
  | _, _ => False
def rng2D : List D → (List D → Prop) → Prop
  | [.int i, .int j], P => (-(2 ^ 62) ≤ i ∧ i < 2 ^ 62 ∧ -(2 ^ 62) ≤ j ∧ j < 2 ^ 62) ∧ P (rangeL i (j - i).toNat)
  | _, _ => False
def siR1 (sa : SL) : SL := fun ρ P PX => sa ρ (fun ds => rng1D ds P) PX
def siR2 (sa : SL) : SL := fun ρ P PX => sa ρ (fun ds => rng2D ds P) PX
theorem i_rng1 {tg a : Expr} {sa : SL} {p : Pos} (hg : Gl X "range") (hm : X.mg "range" = none) (ha : PA X [a] (rdA t l I W sa)) (hs : starEach [a] X.env = [(false, eval a X.env)] := by rfl) : PI X tg (.Call (.Name "range" p) [a] [] pos) (rdI t l I W (siR1 sa)) :=
  PI_imp (pi_range1 hg hm ha hs) fun σ H R ⟨H0, O0, O, ρ, P, PX, E, hs, q, qx⟩ => ⟨H0, O0, O, ρ, _, PX, E, hs, fun ds vs H1 p1 k1 r1 => by
    unfold rng1D at p1
    split at p1
    · cases r1 with
      | cons a b =>
        cases a
        cases b
        exact ⟨_, rfl, p1.1, p1.2.1, q _ _ H1 p1.2.2 k1 itr_ok⟩
    · exact p1.elim, qx⟩
theorem i_rng2 {tg a b : Expr} {sa : SL} {p : Pos} (hg : Gl X "range") (hm : X.mg "range" = none) (ha : PA X [a, b] (rdA t l I W sa)) (hs : starEach [a, b] X.env = [(false, eval a X.env), (false, eval b X.env)] := by rfl) (hs2 : starEach [b] X.env = [(false, eval b X.env)] := by rfl) :
    PI X tg (.Call (.Name "range" p) [a, b] [] pos) (rdI t l I W (siR2 sa)) :=
  PI_imp (pi_range2 hg hm ha hs hs2) fun σ H R ⟨H0, O0, O, ρ, P, PX, E, hs, q, qx⟩ => ⟨H0, O0, O, ρ, _, PX, E, hs, fun ds vs H1 p1 k1 r1 => by
    unfold rng2D at p1
    split at p1
    · cases r1 with
      | cons a b =>
        cases a
        cases b with
        | cons c d =>
          cases c
          cases d
          exact ⟨_, _, rfl, p1.1, q _ _ H1 p1.2 k1 itr_ok⟩
    · exact p1.elim, qx⟩
end DS

namespace DS
open PySem PySem.Spec PyProof.Rows L2
variable {t l : Addr} {I : TI'} {W : WX} {X : Cx} {pos : Pos}
abbrev W0 : WX := fun _ _ _ _ => False
/-! ### comprehensions -/
theorem PTs_imp {ifs : List Expr} {u u' : TT} (h : PTs X ifs u) (k : ∀ σ H Q, u' σ H Q → u σ H Q) : PTs X ifs u' := ⟨fun pins s σ H Q I q => h.run pins s σ H Q I (k σ H Q q)⟩
def sYes : SB := fun _ P _ => P true
theorem ts_nil : PTs X [] (rdT t l I W sYes) := PTs_imp pts_nil fun σ H Q ⟨H0, O0, O, ρ, P, PX, E, hs, q, qx⟩ => q true H hs (.refl E.tp)
theorem ts_one {c : Expr} {s : SB} (h : PT X c (rdT t l I W s)) : PTs X [c] (rdT t l I W s) := pts_one h
def lcL (gs : SG) (st : SB) (se : SE) (vs : List Nat) (ρ : List Slot) : List D → (List D → Prop) → Prop
  | [], Kc => Kc []
  | d :: ds, Kc => gs d (wipeS ρ vs) (fun ρ2 => st ρ2 (fun b => match b with
    | true => se ρ2 (fun y => lcL gs st se vs ρ ds (fun ys => Kc (y :: ys))) (fun _ => False)
    | false => lcL gs st se vs ρ ds Kc) (fun _ => False))
def sLc (gs : SG) (si : SL) (st : SB) (se : SE) (vs : List Nat) : SE := fun ρ P PX => si ρ (fun ds => ds.length ≤ maxLen ∧ lcL gs st se vs ρ ds (fun ys => P (.lst ys))) PX
theorem w0X {σ : L2.St} {H : Hp} {O : List Addr} : OKX t l I W0 O σ H (fun _ => False) := fun _ _ _ _ p _ _ => p
theorem tp_hidden {H : Hp} {D : Addr} {o : HO} (T : Tp t l I H) (h1 : D ≠ t) (h2 : D ≠ l) : Tp t l I (upd H D o) := by
  obtain ⟨ns, i, j, k, m, a, b, c⟩ := T
  exact ⟨ns, i, j, k, m, by rw [upd_ne h1.symm]; exact a, by rw [upd_ne h2.symm]; exact b, c⟩
theorem Tp.l_some {H : Hp} (h : Tp t l I H) : H l ≠ none := by
  obtain ⟨ns, i, j, k, m, h1, h2, _⟩ := h
  rw [h2]
  exact fun z => nomatch z
theorem hd_upd_in {O : List Addr} {H : Hp} {p : Addr} {o : HO} (hp : p ∈ O) : Same (hd O H) (hd O (upd H p o)) := fun a u e => by
  obtain ⟨x, y⟩ := hd_some e
  rw [hd_out x, upd_ne (by
    intro z
    subst z
    exact x hp)]
  exact y
theorem drop_cons {α : Type} {ds : List α} {i : Nat} {d : α} (e : ds[i]? = some d) : ds.drop i = d :: ds.drop (i + 1) := by
  obtain ⟨h, e⟩ := List.getElem?_eq_some_iff.mp e
  rw [List.drop_eq_getElem_cons h, e]
theorem lc_rd {gs : SG} {is : List Nat} {si : SL} {st : SB} {se : SE} {vs : List Nat} (hv : ∀ i ∈ is, i ∈ vs) {σ : L2.St} {H : Hp} {Q : VK} (h : rdF t l I W (sLc gs si st se vs) σ H Q) :
    tLc (rdI t l I W si) (rdG t l I gs is) (rdT t l I W0 st) (rdE t l I W0 se) vs σ H Q := by
  obtain ⟨H0, O0, O, ρ, P, PX, E, hs, q, qx⟩ := h
  refine ⟨H0, O0, O, ρ, _, PX, E, hs, fun ds J H1 p1 k1 ok => ?_, qx⟩
  obtain ⟨hlen, p1⟩ := p1
  intro D nD
  have E1 := E.keep k1
  have Dt : D ≠ t := fun e => by
    rw [e] at nD
    exact k1.2.t_some nD
  have Dl : D ≠ l := fun e => by
    rw [e] at nD
    exact k1.2.l_some nD
  refine ⟨fun i m H => m = ds.length - i ∧ i ≤ ds.length ∧ Tp t l I H ∧ (∀ a o, a ≠ t → H1 a = some o → H a = some o) ∧ ∃ acc accV Kc, H D = some (.lst accV) ∧ RpL t (hd (D :: O) H) accV acc ∧ acc.length ≤ i ∧ lcL gs st se vs ρ (ds.drop i) Kc ∧ ∀ ys, Kc ys → P (.lst (acc ++ ys)),
    ⟨ds.length, rfl, Nat.zero_le _, tp_hidden k1.2 Dt Dl, fun a o _ e => by rw [upd_ne (ne_of_none e nD)]; exact e, [], [], _, upd_same, .nil, Nat.le_refl _, p1, fun ys h => h⟩, ?_⟩
  rintro i m H2 ⟨rfl, hi, T2, k2, acc, accV, Kc, hD, hr, ha, hl, hk⟩
  have E2 := E1.reown nD T2 k2 (by rw [hD]; exact fun z => nomatch z)
  have hB : Same (hd O H1) (hd (D :: O) H2) := fun a o e => by
    obtain ⟨x, y⟩ := hd_some e
    have ne := ne_of_none y nD
    rw [hd_out (by
      intro z
      rcases List.mem_cons.mp z with z | z
      · exact ne z
      · exact x z)]
    exact k2 a o (fun z => x (z ▸ E1.t1)) y
  obtain ⟨o1, o2, o3⟩ := ok i (D :: O) H2 hB T2 E2.all
  by_cases hlt : i < ds.length
  · refine .inr ⟨o1 hlt, fun H' => ∃ m', m' < ds.length - i ∧ (m' = ds.length - (i + 1) ∧ i + 1 ≤ ds.length ∧ Tp t l I H' ∧ (∀ a o, a ≠ t → H1 a = some o → H' a = some o) ∧ ∃ acc accV Kc, H' D = some (.lst accV) ∧ RpL t (hd (D :: O) H') accV acc ∧ acc.length ≤ i + 1 ∧ lcL gs st se vs ρ (ds.drop (i + 1)) Kc ∧ ∀ ys, Kc ys → P (.lst (acc ++ ys))), fun H' z => z, fun x H3 y => ?_⟩
    obtain ⟨d, ed, k3, rx⟩ := o3 x H3 hlt y
    rw [drop_cons ed] at hl
    have E3 := E2.keep k3
    refine ⟨H0, O0, D :: O, wipeS ρ vs, d, _, E3.wipe vs, rx, hl, fun σ4 ρ4 E4 p4 hw ho => ⟨by rw [hw vs hv, wipe_wipe], ?_⟩⟩
    refine ⟨H0, O0, D :: O, ρ4, _, _, E4, p4, fun b H5 p5 k5 => ?_, w0X⟩
    have k15 : ∀ a o, a ≠ t → H1 a = some o → H5 a = some o := fun a o n e => k5.1 a o n (k3.1 a o n (k2 a o n e))
    have D5 : H5 D = some (.lst accV) := k5.1 D _ Dt (k3.1 D _ Dt hD)
    have r5 : RpL t (hd (D :: O) H5) accV acc := hr.mono fun a o e => (k5.same E3.t1) a o ((k3.same E2.t1) a o e)
    cases b with
    | false =>
      refine iteF ?_
      exact ⟨_, by omega, rfl, hlt, k5.2, k15, acc, accV, Kc, D5, r5, by omega, p5, hk⟩
    | true =>
      refine iteT ?_
      refine ⟨H0, O0, D :: O, ρ4, _, _, E4.keep k5, p5, fun yv v H6 p6 k6 r6 => ?_, w0X⟩
      have D6 : H6 D = some (.lst accV) := k6.1 D _ Dt D5
      have rr : RpL t (hd (D :: O) H6) accV acc := r5.mono (k6.same (E4.keep k5).t1)
      refine ⟨accV, D6, ?_, ?_⟩
      · rw [rr.length]
        exact maxLen_lt (by omega)
      · have hh : Same (hd (D :: O) H6) (hd (D :: O) (upd H6 D (.lst (accV ++ [v])))) := hd_upd_in List.mem_cons_self
        exact ⟨_, by omega, rfl, hlt, tp_hidden k6.2 Dt Dl, fun a o n e => by rw [upd_ne (ne_of_none e nD)]; exact k6.1 a o n (k15 a o n e), acc ++ [yv], accV ++ [v], _, upd_same,
          (rr.append (.cons r6 .nil)).mono hh, by rw [List.length_append]; show acc.length + 1 ≤ i + 1; omega, p6, fun ys h => by
            have := hk _ h
            rw [List.append_assoc]
            exact this⟩
  · have e : i = ds.length := by omega
    subst e
    rw [List.drop_length] at hl
    refine .inl ⟨o2 (Nat.le_refl _), ?_⟩
    have hp := hk _ hl
    rw [List.append_nil] at hp
    exact q _ D _ H2 hp ⟨fun a o n e => k2 a o n (k1.1 a o n e), T2⟩ (by
      cases z : H D with
      | none => rfl
      | some o =>
        rw [k1.1 D o Dt z] at nD
        cases nD) hD (.lst hr)
section
variable {elt tg iter : Expr} {ifs : List Expr} {scope : Scope} {own : List (Str × Nat)} {gs : SG} {is : List Nat} {si : SL} {st : SB} {se : SE}
theorem f_lc {vs : List Nat} (hc : X.calm = true) (hN : X.N.Nodup) (hi : PI X tg iter (rdI t l I W si)) (ok : BlkOk X.N X.env.scope scope own) (hv : ∀ i ∈ is, i ∈ vs)
    (hg : ∀ (s : Shared) (H : Hp) (C : Addr) (cl : List (Str × Addr)) (fp : List Addr), PG (X.blk s H scope (compEnvC scope cl C X.env) fp) tg (rdG t l I gs is)) (ht : ∀ (s : Shared) (H : Hp) (C : Addr) (cl : List (Str × Addr)) (fp : List Addr), PTs (X.blk s H scope (compEnvC scope cl C X.env) fp) ifs (rdT t l I W0 st))
    (he : ∀ (s : Shared) (H : Hp) (C : Addr) (cl : List (Str × Addr)) (fp : List Addr), PE (X.blk s H scope (compEnvC scope cl C X.env) fp) elt (rdE t l I W0 se)) (hvs : own.map (·.2) = vs := by rfl) (hs : ∀ x, foldedSetIterable iter X.env x = pure x := by intro _; rfl) :
    PE X (.ListComp elt [⟨tg, iter, ifs, 0⟩] scope pos) (rdF t l I W (sLc gs si st se vs)) := by
  subst hvs
  exact PE_imp (pe_lc hc hN hi ok hg ht he hs) fun σ H Q h => lc_rd hv h
end
/-! two clauses -/
def lcL2 (gs : SG) (st : SB) (si1 : SL) (gs1 : SG) (st1 : SB) (se : SE) (vs vs1 : List Nat) (ρ : List Slot) : List D → (List D → Prop) → Prop
  | [], Kc => Kc []
  | d :: ds, Kc => gs d (wipeS ρ vs) (fun ρ2 => st ρ2 (fun b => match b with
    | true => si1 ρ2 (fun es => es.length ≤ 1000 ∧ lcL gs1 st1 se vs1 ρ2 es (fun ys => lcL2 gs st si1 gs1 st1 se vs vs1 ρ ds (fun zs => Kc (ys ++ zs)))) (fun _ => False)
    | false => lcL2 gs st si1 gs1 st1 se vs vs1 ρ ds Kc) (fun _ => False))
def sLc2 (gs : SG) (si : SL) (st : SB) (si1 : SL) (gs1 : SG) (st1 : SB) (se : SE) (vs vs1 : List Nat) : SE := fun ρ P PX => si ρ (fun ds => ds.length ≤ 10000 ∧ lcL2 gs st si1 gs1 st1 se vs vs1 ρ ds (fun ys => P (.lst ys))) PX
theorem lc2_rd {gs gs1 : SG} {is is1 : List Nat} {si si1 : SL} {st st1 : SB} {se : SE} {vs vs1 : List Nat} (hv : ∀ i ∈ is, i ∈ vs) (hv1 : ∀ i ∈ is1, i ∈ vs1) {σ : L2.St} {H : Hp} {Q : VK} (h : rdF t l I W (sLc2 gs si st si1 gs1 st1 se vs vs1) σ H Q) :
    tLc2 (rdI t l I W si) (rdG t l I gs is) (rdT t l I W0 st) (rdI t l I W0 si1) (rdG t l I gs1 is1) (rdT t l I W0 st1) (rdE t l I W0 se) vs vs1 σ H Q := by
  obtain ⟨H0, O0, O, ρ, P, PX, E, hs, q, qx⟩ := h
  refine ⟨H0, O0, O, ρ, _, PX, E, hs, fun ds J H1 p1 k1 ok => ?_, qx⟩
  obtain ⟨hlen, p1⟩ := p1
  intro D nD
  have E1 := E.keep k1
  have Dt : D ≠ t := fun e => by
    rw [e] at nD
    exact k1.2.t_some nD
  have Dl : D ≠ l := fun e => by
    rw [e] at nD
    exact k1.2.l_some nD
  refine ⟨fun i m H => m = ds.length - i ∧ i ≤ ds.length ∧ Tp t l I H ∧ (∀ a o, a ≠ t → H1 a = some o → H a = some o) ∧ ∃ acc accV Kc, H D = some (.lst accV) ∧ RpL t (hd (D :: O) H) accV acc ∧ acc.length ≤ i * 1000 ∧ lcL2 gs st si1 gs1 st1 se vs vs1 ρ (ds.drop i) Kc ∧ ∀ ys, Kc ys → P (.lst (acc ++ ys)),
    ⟨ds.length, rfl, Nat.zero_le _, tp_hidden k1.2 Dt Dl, fun a o _ e => by rw [upd_ne (ne_of_none e nD)]; exact e, [], [], _, upd_same, .nil, Nat.zero_le _, p1, fun ys h => h⟩, ?_⟩
  rintro i m H2 ⟨rfl, hi, T2, k2, acc, accV, Kc, hD, hr, ha, hl, hk⟩
  have E2 := E1.reown nD T2 k2 (by rw [hD]; exact fun z => nomatch z)
  have hB : ∀ H2 : Hp, (∀ a o, a ≠ t → H1 a = some o → H2 a = some o) → Same (hd O H1) (hd (D :: O) H2) := fun H2 k2 a o e => by
    obtain ⟨x, y⟩ := hd_some e
    have ne := ne_of_none y nD
    rw [hd_out (by
      intro z
      rcases List.mem_cons.mp z with z | z
      · exact ne z
      · exact x z)]
    exact k2 a o (fun z => x (z ▸ E1.t1)) y
  obtain ⟨o1, o2, o3⟩ := ok i (D :: O) H2 (hB H2 k2) T2 E2.all
  by_cases hlt : i < ds.length
  · refine .inr ⟨o1 hlt, fun H' => ∃ m', m' < ds.length - i ∧ (m' = ds.length - (i + 1) ∧ i + 1 ≤ ds.length ∧ Tp t l I H' ∧ (∀ a o, a ≠ t → H1 a = some o → H' a = some o) ∧ ∃ acc accV Kc, H' D = some (.lst accV) ∧ RpL t (hd (D :: O) H') accV acc ∧ acc.length ≤ (i + 1) * 1000 ∧ lcL2 gs st si1 gs1 st1 se vs vs1 ρ (ds.drop (i + 1)) Kc ∧ ∀ ys, Kc ys → P (.lst (acc ++ ys))), fun H' z => z, fun x H3 y => ?_⟩
    obtain ⟨d, ed, k3, rx⟩ := o3 x H3 hlt y
    rw [drop_cons ed] at hl
    have E3 := E2.keep k3
    refine ⟨H0, O0, D :: O, wipeS ρ vs, d, _, E3.wipe vs, rx, hl, fun σ4 ρ4 E4 p4 hw ho => ⟨by rw [hw vs hv, wipe_wipe], ?_⟩⟩
    refine ⟨H0, O0, D :: O, ρ4, _, _, E4, p4, fun b H5 p5 k5 => ?_, w0X⟩
    have k15 : ∀ a o, a ≠ t → H1 a = some o → H5 a = some o := fun a o n e => k5.1 a o n (k3.1 a o n (k2 a o n e))
    have D5 : H5 D = some (.lst accV) := k5.1 D _ Dt (k3.1 D _ Dt hD)
    have r5 : RpL t (hd (D :: O) H5) accV acc := hr.mono fun a o e => (k5.same E3.t1) a o ((k3.same E2.t1) a o e)
    cases b with
    | false =>
      refine iteF ?_
      exact ⟨_, by omega, rfl, hlt, k5.2, k15, acc, accV, Kc, D5, r5, by omega, p5, hk⟩
    | true =>
      refine iteT ?_
      refine ⟨H0, O0, D :: O, ρ4, _, _, E4.keep k5, p5, fun es J1 H6 p6 k6 ok6 => ?_, w0X⟩
      obtain ⟨hle, p6⟩ := p6
      have E6 := (E4.keep k5).keep k6
      have k16 : ∀ a o, a ≠ t → H1 a = some o → H6 a = some o := fun a o n e => k6.1 a o n (k15 a o n e)
      have D6 : H6 D = some (.lst accV) := k6.1 D _ Dt D5
      have r6 : RpL t (hd (D :: O) H6) accV acc := r5.mono (k6.same (E4.keep k5).t1)
      refine ⟨fun j k H => k = es.length - j ∧ j ≤ es.length ∧ Tp t l I H ∧ (∀ a o, a ≠ t → a ≠ D → H6 a = some o → H a = some o) ∧ ∃ ac2 ac2V K2, H D = some (.lst ac2V) ∧ RpL t (hd (D :: O) H) ac2V ac2 ∧ ac2.length ≤ i * 1000 + j ∧ lcL gs1 st1 se vs1 ρ4 (es.drop j) K2 ∧
          ∀ ys, K2 ys → ∃ K3, lcL2 gs st si1 gs1 st1 se vs vs1 ρ (ds.drop (i + 1)) K3 ∧ ∀ zs, K3 zs → P (.lst ((ac2 ++ ys) ++ zs)),
        ⟨es.length, rfl, Nat.zero_le _, k6.2, fun a o _ _ e => e, acc, accV, _, D6, r6, by omega, p6, fun ys hy => ⟨_, hy, fun zs hz => by
          have := hk _ hz
          rw [List.append_assoc]
          exact this⟩⟩, ?_⟩
      rintro j k H7 ⟨rfl, hj, T7, k7, ac2, ac2V, K2, hD7, hr7, ha7, hl7, hk7⟩
      have k17 : ∀ a o, a ≠ t → H1 a = some o → H7 a = some o := fun a o n e => k7 a o n (ne_of_none e nD) (k16 a o n e)
      have B7 : Same (hd (D :: O) H6) (hd (D :: O) H7) := fun a o e => by
        obtain ⟨x, y⟩ := hd_some e
        rw [hd_out x]
        exact k7 a o (fun z => x (z ▸ E6.t1)) (fun z => x (z ▸ List.mem_cons_self)) y
      have all7 : ∀ a ∈ D :: O, H7 a ≠ none := (E1.reown nD T7 k17 (by rw [hD7]; exact fun z => nomatch z)).all
      obtain ⟨u1, u2, u3⟩ := ok6 j (D :: O) H7 B7 T7 all7
      -- the slots of the outer turn at H7
      have E7 : Env t l I H0 O0 (D :: O) H7 σ4 ρ4 := by
        refine ⟨⟨T7, E6.t0, E6.l0, E6.sub, E6.all0, all7, fun a o n e => ?_, E6.ownO⟩, E6.len, fun i' s' h' => ?_, E6.dist⟩
        · exact k7 a o n (fun z => by
            rw [z] at e
            have z2 := E.kept D o Dt e
            rw [k1.1 D o Dt z2] at nD
            cases nD) (E6.kept a o n e)
        · have q' := E6.slot i' s' h'
          cases s' with
          | no => exact True.intro
          | d x' =>
            obtain ⟨u', e', r'⟩ := q'
            exact ⟨u', e', r'.mono B7⟩
          | own x' =>
            obtain ⟨p', o', e', hm, h0, hh, c⟩ := q'
            refine ⟨p', o', e', hm, h0, k7 p' o' (fun z => own_ne E6.toEnvB h0 (z ▸ E6.t0)) (fun z => ?_) hh, c.mono B7⟩
            rw [z] at e'
            obtain ⟨w1, w2⟩ := (ownSub_wipe vs).trans ho i' x' h'
            rw [w2] at e'
            obtain ⟨p2, o2', e2, hm2, _⟩ := E1.slot i' _ w1
            rw [e'] at e2
            cases e2
            exact E1.all _ hm2 nD
      by_cases hlj : j < es.length
      · refine .inr ⟨u1 hlj, fun H' => ∃ k', k' < es.length - j ∧ (k' = es.length - (j + 1) ∧ j + 1 ≤ es.length ∧ Tp t l I H' ∧ (∀ a o, a ≠ t → a ≠ D → H6 a = some o → H' a = some o) ∧ ∃ ac2 ac2V K2, H' D = some (.lst ac2V) ∧ RpL t (hd (D :: O) H') ac2V ac2 ∧ ac2.length ≤ i * 1000 + (j + 1) ∧ lcL gs1 st1 se vs1 ρ4 (es.drop (j + 1)) K2 ∧
          ∀ ys, K2 ys → ∃ K3, lcL2 gs st si1 gs1 st1 se vs vs1 ρ (ds.drop (i + 1)) K3 ∧ ∀ zs, K3 zs → P (.lst ((ac2 ++ ys) ++ zs))), fun H' z => z, fun x8 H8 y8 => ?_⟩
        obtain ⟨d8, ed8, k8, rx8⟩ := u3 x8 H8 hlj y8
        rw [drop_cons ed8] at hl7
        have E8 := E7.keep k8
        refine ⟨H0, O0, D :: O, wipeS ρ4 vs1, d8, _, E8.wipe vs1, rx8, hl7, fun σ9 ρ9 E9 p9 hw9 ho9 => ⟨by rw [hw9 vs1 hv1, wipe_wipe], ?_⟩⟩
        refine ⟨H0, O0, D :: O, ρ9, _, _, E9, p9, fun b H10 p10 k10 => ?_, w0X⟩
        have k110 : ∀ a o, a ≠ t → a ≠ D → H6 a = some o → H10 a = some o := fun a o n n2 e => k10.1 a o n (k8.1 a o n (k7 a o n n2 e))
        have D10 : H10 D = some (.lst ac2V) := k10.1 D _ Dt (k8.1 D _ Dt hD7)
        have r10 : RpL t (hd (D :: O) H10) ac2V ac2 := hr7.mono fun a o e => (k10.same E8.t1) a o ((k8.same E7.t1) a o e)
        cases b with
        | false =>
          refine iteF ?_
          exact ⟨_, by omega, rfl, hlj, k10.2, k110, ac2, ac2V, K2, D10, r10, by omega, p10, hk7⟩
        | true =>
          refine iteT ?_
          refine ⟨H0, O0, D :: O, ρ9, _, _, E9.keep k10, p10, fun yv v H11 p11 k11 r11 => ?_, w0X⟩
          have D11 : H11 D = some (.lst ac2V) := k11.1 D _ Dt D10
          have rr : RpL t (hd (D :: O) H11) ac2V ac2 := r10.mono (k11.same (E9.keep k10).t1)
          refine ⟨ac2V, D11, ?_, ?_⟩
          · rw [rr.length]
            refine maxLen_lt ?_
            unfold maxLen
            omega
          · have hh : Same (hd (D :: O) H11) (hd (D :: O) (upd H11 D (.lst (ac2V ++ [v])))) := hd_upd_in List.mem_cons_self
            exact ⟨_, by omega, rfl, hlj, tp_hidden k11.2 Dt Dl, fun a o n n2 e => by rw [upd_ne n2]; exact k11.1 a o n (k110 a o n n2 e), ac2 ++ [yv], ac2V ++ [v], _, upd_same,
              (rr.append (.cons r11 .nil)).mono hh, by rw [List.length_append]; show ac2.length + 1 ≤ i * 1000 + (j + 1); omega, p11, fun ys h => by
                obtain ⟨K3, w1, w2⟩ := hk7 _ h
                refine ⟨K3, w1, fun zs hz => ?_⟩
                have := w2 zs hz
                rw [List.append_assoc ac2 [yv] ys]
                exact this⟩
      · have ej : j = es.length := by omega
        subst ej
        rw [List.drop_length] at hl7
        refine .inl ⟨u2 (Nat.le_refl _), ?_⟩
        obtain ⟨K3, w1, w2⟩ := hk7 [] hl7
        exact ⟨_, by omega, rfl, hlt, T7, k17, ac2, ac2V, K3, hD7, hr7, by omega, w1, fun ys hy => by
          have := w2 ys hy
          rw [List.append_nil] at this
          exact this⟩
  · have e : i = ds.length := by omega
    subst e
    rw [List.drop_length] at hl
    refine .inl ⟨o2 (Nat.le_refl _), ?_⟩
    have hp := hk _ hl
    rw [List.append_nil] at hp
    exact q _ D _ H2 hp ⟨fun a o n e => k2 a o n (k1.1 a o n e), T2⟩ (by
      cases z : H D with
      | none => rfl
      | some o =>
        rw [k1.1 D o Dt z] at nD
        cases nD) hD (.lst hr)
section
variable {elt tg iter tg1 iter1 : Expr} {ifs ifs1 : List Expr} {scope : Scope} {own : List (Str × Nat)} {vs1 : List Nat} {gs gs1 : SG} {is is1 : List Nat} {si si1 : SL} {st st1 : SB} {se : SE}
theorem f_lc2 {vs : List Nat} (hc : X.calm = true) (hN : X.N.Nodup) (hi : PI X tg iter (rdI t l I W si)) (ok : BlkOk X.N X.env.scope scope own) (hv : ∀ i ∈ is, i ∈ vs) (hv1 : ∀ i ∈ is1, i ∈ vs1) (hvv : ∀ i ∈ vs1, i ∈ vs)
    (hg : ∀ (s : Shared) (H : Hp) (C : Addr) (cl : List (Str × Addr)) (fp : List Addr), PG (X.blk s H scope (compEnvC scope cl C X.env) fp) tg (rdG t l I gs is)) (ht : ∀ (s : Shared) (H : Hp) (C : Addr) (cl : List (Str × Addr)) (fp : List Addr), PTs (X.blk s H scope (compEnvC scope cl C X.env) fp) ifs (rdT t l I W0 st))
    (hi1 : ∀ (s : Shared) (H : Hp) (C : Addr) (cl : List (Str × Addr)) (fp : List Addr), PI (X.blk s H scope (compEnvC scope cl C X.env) fp) tg1 iter1 (rdI t l I W0 si1))
    (hg1 : ∀ (s : Shared) (H : Hp) (C : Addr) (cl : List (Str × Addr)) (fp : List Addr), PG (X.blk s H scope (compEnvC scope cl C X.env) fp) tg1 (rdG t l I gs1 is1)) (ht1 : ∀ (s : Shared) (H : Hp) (C : Addr) (cl : List (Str × Addr)) (fp : List Addr), PTs (X.blk s H scope (compEnvC scope cl C X.env) fp) ifs1 (rdT t l I W0 st1))
    (he : ∀ (s : Shared) (H : Hp) (C : Addr) (cl : List (Str × Addr)) (fp : List Addr), PE (X.blk s H scope (compEnvC scope cl C X.env) fp) elt (rdE t l I W0 se)) (hvs : own.map (·.2) = vs := by rfl) (hs : ∀ x, foldedSetIterable iter X.env x = pure x := by intro _; rfl) (hs1 : ∀ env x, foldedSetIterable iter1 env x = pure x := by intro _ _; rfl) :
    PE X (.ListComp elt [⟨tg, iter, ifs, 0⟩, ⟨tg1, iter1, ifs1, 0⟩] scope pos) (rdF t l I W (sLc2 gs si st si1 gs1 st1 se vs vs1)) := by
  subst hvs
  exact PE_imp (pe_lc2 hc hN hi ok hvv hg ht hi1 hg1 ht1 he hs hs1) fun σ H Q h => lc2_rd hv hv1 h
end
end DS

namespace DS
open PySem PySem.Spec PyProof.Rows L2
variable {t l : Addr} {I : TI'} {W : WX} {X : Cx} {pos : Pos}
/-! ### statements -/
def sSeq (s u : SS) : SS := fun ρ S => s ρ { S with nx := fun ρ' => u ρ' S }
def sNext : SS := fun ρ S => S.nx ρ
def sBreak : SS := fun ρ S => S.bk ρ
def sCont : SS := fun ρ S => S.ct ρ
def sSet (i : Nat) (se : SE) : SS := fun ρ S => se ρ (fun d => S.nx (ρ.set i (.d d))) (fun x => S.ex x ρ)
def sSetG (gs : SG) (se : SE) : SS := fun ρ S => se ρ (fun d => gs d ρ S.nx) (fun x => S.ex x ρ)
def sSetO (i : Nat) (se : SE) : SS := fun ρ S => se ρ (fun d => S.nx (ρ.set i (.own d))) (fun x => S.ex x ρ)
def sDrop (se : SE) : SS := fun ρ S => se ρ (fun _ => S.nx ρ) (fun x => S.ex x ρ)
def sRet (se : SE) : SS := fun ρ S => se ρ S.rt (fun x => S.ex x ρ)
def sRetN : SS := fun _ S => S.rt .non
def sIfS (c : SB) (s u : SS) : SS := fun ρ S => c ρ (fun b => match b with | true => s ρ S | false => u ρ S) (fun x => S.ex x ρ)
def frz (i : Nat) (ρ : List Slot) : List Slot := match ρ[i]? with
  | some (.own x) => ρ.set i (.d x)
  | _ => ρ
def sFrz (i : Nat) (ss : SS) : SS := fun ρ S => ss (frz i ρ) S
def sApp (i : Nat) (se : SE) : SS := fun ρ S => match ρ[i]? with
  | some (.own (.lst xs)) => xs.length < maxLen ∧ se ρ (fun d => S.nx (ρ.set i (.own (.lst (xs ++ [d]))))) (fun x => S.ex x ρ)
  | _ => False
def setIx (xs : List D) (d j : D) (P : List D → Prop) : Prop := match j with
  | .int k => (match ixN xs.length k with
    | some n => P (xs.set n d)
    | none => False)
  | _ => False
def sSetI (i : Nat) (sv si : SE) : SS := fun ρ S => match ρ[i]? with
  | some (.own (.lst xs)) => sv ρ (fun d => si ρ (fun j => setIx xs d j fun ys => S.nx (ρ.set i (.own (.lst ys)))) (fun x => S.ex x ρ)) (fun x => S.ex x ρ)
  | _ => False
def sAug (i : Nat) (g : Int → Int → Int) (se : SE) : SS := fun ρ S => match ρ[i]? with
  | some (.d (.int a)) => se ρ (fun d => match d with
    | .int b => S.nx (ρ.set i (.d (.int (g a b))))
    | _ => False) (fun x => S.ex x ρ)
  | _ => False
def forL (gs : SG) (sb : SS) (S : EndS) : List D → List Slot → Prop
  | [], ρ => S.nx ρ
  | d :: ds, ρ => gs d ρ (fun ρ1 => sb ρ1 { nx := forL gs sb S ds, rt := S.rt, bk := S.nx, ct := forL gs sb S ds, ex := S.ex })
def sFor (gs : SG) (si : SL) (sb : SS) : SS := fun ρ S => si ρ (fun ds => forL gs sb S ds ρ) (fun x => S.ex x ρ)
def whileN (c : SB) (sb : SS) (S : EndS) : Nat → List Slot → Prop
  | 0, _ => False
  | n + 1, ρ => c ρ (fun b => match b with
    | true => sb ρ { nx := whileN c sb S n, rt := S.rt, bk := S.nx, ct := whileN c sb S n, ex := S.ex }
    | false => S.nx ρ) (fun x => S.ex x ρ)
def sWhile (c : SB) (sb : SS) : SS := fun ρ S => ∃ n, whileN c sb S n ρ
def sRaise (C : Addr) (fs : List (Str × SE)) : SS := fun _ _ => False

section
variable {st : Stmt} {rest : List Stmt} {s u : SS} {e : Expr} {se : SE} {H0 H H' : Hp} {O0 O : List Addr} {σ : L2.St} {ρ : List Slot} {S : EndS} {E' : Ends}
theorem b_nil : PSs X [] (rdS t l I W sNext) := PSs_imp pss_nil fun D σ H ⟨H0, O0, O, ρ, S, E, hs, q⟩ => q.nx _ _ _ _ E hs
theorem b_cons (h1 : PS X st (rdS t l I W s)) (h2 : PSs X rest (rdS t l I W u)) : PSs X (st :: rest) (rdS t l I W (sSeq s u)) := PSs_imp (pss_cons h1 h2) fun D σ H ⟨H0, O0, O, ρ, S, E, hs, q⟩ =>
  ⟨H0, O0, O, ρ, _, E, hs, ⟨fun O' σ' ρ' H' E' hn => ⟨H0, O0, O', ρ', S, E', hn, q⟩, q.bk, q.ct, q.rt, q.ex⟩⟩
theorem b_one (h1 : PS X st (rdS t l I W s)) : PSs X [st] (rdS t l I W s) := pss_one h1
theorem s_pass : PS X (.Pass pos) (rdS t l I W sNext) := PS_imp ps_pass fun D σ H ⟨H0, O0, O, ρ, S, E, hs, q⟩ => q.nx _ _ _ _ E hs
theorem s_break : PS X (.Break pos) (rdS t l I W sBreak) := PS_imp ps_break fun D σ H ⟨H0, O0, O, ρ, S, E, hs, q⟩ => q.bk _ _ _ _ E hs
theorem s_cont : PS X (.Continue pos) (rdS t l I W sCont) := PS_imp ps_continue fun D σ H ⟨H0, O0, O, ρ, S, E, hs, q⟩ => q.ct _ _ _ _ E hs
theorem ends_x (q : EndsOk t l I H0 O0 W S E') (E : Env t l I H0 O0 O H σ ρ) : OKX t l I W O σ H (fun x => S.ex x ρ) := fun x cls dd H' p k r => q.ex x ρ cls dd O σ H' (E.keep k) p r
theorem s_set {i : Nat} {x : Str} {p' : Pos} (hN : X.N.Nodup) (hi : X.N[i]? = some x) (hx : Loc X.env.scope x) (he : PE X e (rdE t l I W se)) (hs : swapsWith e (some (.Name x p')) pos.line X.env = pure false := by rfl)
    (hf : X.fn x = true ∨ X.env.scope.names.lookup x = some .local := by first | exact .inl rfl | exact .inr rfl | assumption) : PS X (.Assign [.Name x p'] e pos) (rdS t l I W (sSet i se)) :=
  PS_imp (ps_set hN hi hx he hs hf) fun D σ H ⟨H0, O0, O, ρ, S, E, hs, q⟩ => ⟨H0, O0, O, ρ, _, _, E, hs, fun d v H1 p1 k1 r1 => q.nx _ _ _ _ ((E.keep k1).set r1) p1, ends_x q E⟩
theorem fresh_out (E : Env t l I H0 O0 O H σ ρ) (k : Kept t l I H H') {p : Addr} {o : HO} {d : D} (n : H p = none) (hp : H' p = some o) (c : Ct t (hd (p :: O) H') o d) (i : Nat) :
    Env t l I H0 O0 (p :: O) H' (σ.set i (some (.ref p))) (ρ.set i (.own d)) := by
  have E2 := E.reown n k.2 k.1 (by rw [hp]; exact fun z => nomatch z)
  refine E2.setOwn List.mem_cons_self (free_back E.toEnvB n) hp c fun j x ne h e => ?_
  obtain ⟨p', o', e', hm, h0, hh, c⟩ := E.slot j _ h
  rw [e] at e'
  cases e'
  rw [n] at hh
  cases hh
theorem s_setO {i : Nat} {x : Str} {p' : Pos} (hN : X.N.Nodup) (hi : X.N[i]? = some x) (hx : Loc X.env.scope x) (he : PE X e (rdF t l I W se)) (hs : swapsWith e (some (.Name x p')) pos.line X.env = pure false := by rfl)
    (hf : X.fn x = true ∨ X.env.scope.names.lookup x = some .local := by first | exact .inl rfl | exact .inr rfl | assumption) : PS X (.Assign [.Name x p'] e pos) (rdS t l I W (sSetO i se)) :=
  PS_imp (ps_set hN hi hx he hs hf) fun D σ H ⟨H0, O0, O, ρ, S, E, hs, q⟩ => ⟨H0, O0, O, ρ, _, _, E, hs, fun d p o H1 p1 k1 n hp c => q.nx _ _ _ _ (fresh_out E k1 n hp c i) p1, ends_x q E⟩
/-- name = [..]: the list's own rule of a name -/
theorem s_setC {i : Nat} {x : Str} {p' : Pos} {te : TE} (h : PS X (.Assign [.Name x p'] e pos) (tAsg te (gName i))) (k : ∀ σ H Q, rdF t l I W se σ H Q → te σ H Q) : PS X (.Assign [.Name x p'] e pos) (rdS t l I W (sSet i se)) :=
  PS_imp h fun D σ H ⟨H0, O0, O, ρ, S, E, hs, q⟩ => k _ _ _ ⟨H0, O0, O, ρ, _, _, E, hs, fun d p o H1 p1 k1 n hp c => q.nx _ _ _ _ ((E.keep k1).set (((c.mono (hd_sub fun a z => List.mem_cons_of_mem _ z)).rp (by
    rw [hd_out fun z => E.all p z n]
    exact hp)))) p1, ends_x q E⟩
theorem s_setCO {i : Nat} {x : Str} {p' : Pos} {te : TE} (h : PS X (.Assign [.Name x p'] e pos) (tAsg te (gName i))) (k : ∀ σ H Q, rdF t l I W se σ H Q → te σ H Q) : PS X (.Assign [.Name x p'] e pos) (rdS t l I W (sSetO i se)) :=
  PS_imp h fun D σ H ⟨H0, O0, O, ρ, S, E, hs, q⟩ => k _ _ _ ⟨H0, O0, O, ρ, _, _, E, hs, fun d p o H1 p1 k1 n hp c => q.nx _ _ _ _ (fresh_out E k1 n hp c i) p1, ends_x q E⟩
theorem s_setG {tg : Expr} {gs : SG} {is : List Nat} (he : PE X e (rdE t l I W se)) (hg : PG X tg (rdG t l I gs is)) (hs : swapsWithSole [tg] e pos.line X.env = pure false := by rfl) (hw : swappedStores [tg] e X.env = pure none := by rfl)
    (h1 : (assignEach [tg] X.env).map (·.2) = [assign tg X.env] := by rfl) : PS X (.Assign [tg] e pos) (rdS t l I W (sSetG gs se)) :=
  PS_imp (ps_asg he hg hs hw h1) fun D σ H ⟨H0, O0, O, ρ, S, E, hs, q⟩ => ⟨H0, O0, O, ρ, _, _, E, hs, fun d v H1 p1 k1 r1 => ⟨H0, O0, O, ρ, d, S.nx, E.keep k1, r1, p1, fun σ' ρ' E' hn _ _ => q.nx _ _ _ _ E' hn⟩, ends_x q E⟩
theorem s_expr (he : PE X e (rdE t l I W se)) (hs : swapsWith e none pos.line X.env = pure false := by rfl) : PS X (.Expr e pos) (rdS t l I W (sDrop se)) :=
  PS_imp (ps_expr he hs) fun D σ H ⟨H0, O0, O, ρ, S, E, hs, q⟩ => ⟨H0, O0, O, ρ, _, _, E, hs, fun d v H1 p1 k1 r1 => q.nx _ _ _ _ (E.keep k1) p1, ends_x q E⟩
theorem s_ret (he : PE X e (rdE t l I W se)) : PS X (.Return (some e) pos) (rdS t l I W (sRet se)) :=
  PS_imp (ps_ret he) fun D σ H ⟨H0, O0, O, ρ, S, E, hs, q⟩ => ⟨H0, O0, O, ρ, _, _, E, hs, fun d v H1 p1 k1 r1 => q.rt _ _ _ _ (E.toEnvB.keep k1) p1 r1, ends_x q E⟩
theorem s_retN : PS X (.Return none pos) (rdS t l I W sRetN) := PS_imp ps_retN fun D σ H ⟨H0, O0, O, ρ, S, E, hs, q⟩ => q.rt _ _ _ _ E.toEnvB hs .non
theorem s_if {c : Expr} {a b : List Stmt} {sc : SB} (hc : PT X c (rdT t l I W sc)) (ha : PSs X a (rdS t l I W s)) (hb : PSs X b (rdS t l I W u)) : PS X (.If c a b pos) (rdS t l I W (sIfS sc s u)) :=
  PS_imp (ps_if hc ha hb) fun D σ H ⟨H0, O0, O, ρ, S, E, hs, q⟩ => ⟨H0, O0, O, ρ, _, _, E, hs, fun b H1 p1 k1 => by
    cases b with
    | true => exact iteT ⟨H0, O0, O, ρ, S, E.keep k1, p1, q⟩
    | false => exact iteF ⟨H0, O0, O, ρ, S, E.keep k1, p1, q⟩, ends_x q E⟩
/-- an own object becomes data -/
theorem frz_ok (E : Env t l I H0 O0 O H σ ρ) (i : Nat) : ∃ O', Env t l I H0 O0 O' H σ (frz i ρ) := by
  unfold frz
  split
  · rename_i x hx
    obtain ⟨p, o, e, hm, h0, hp, c⟩ := E.slot i _ hx
    have hl := (List.getElem?_eq_some_iff.mp hx).1
    have np : p ∉ O0 := own_ne E.toEnvB h0
    have sb : ∀ a ∈ O.filter (fun a => decide (a ≠ p)), a ∈ O := fun a h => (List.mem_filter.mp h).1
    refine ⟨O.filter (fun a => decide (a ≠ p)), ⟨E.tp, E.t0, E.l0, fun a h => List.mem_filter.mpr ⟨E.sub a h, decide_eq_true fun z => np (z ▸ h)⟩, E.all0, fun a h => E.all a (sb a h), E.kept, fun a h => E.ownO a (sb a h)⟩, by rw [List.length_set]; exact E.len, fun j s h => ?_, fun j k q xi xj h1 h2 h3 h4 => ?_⟩
    · by_cases e1 : i = j
      · subst e1
        rw [List.getElem?_set_self hl] at h
        cases h
        refine ⟨_, e, (c.mono (hd_sub sb)).rp ?_⟩
        rw [hd_out fun z => (of_decide_eq_true (List.mem_filter.mp z).2) rfl]
        exact hp
      · rw [List.getElem?_set_ne e1] at h
        have q := E.slot j s h
        cases s with
        | no => exact True.intro
        | d x =>
          obtain ⟨u, e, r⟩ := q
          exact ⟨u, e, r.mono (hd_sub sb)⟩
        | own y =>
          obtain ⟨p2, o2, e2, hm2, h02, hp2, c2⟩ := q
          refine ⟨p2, o2, e2, List.mem_filter.mpr ⟨hm2, decide_eq_true fun z => ?_⟩, h02, hp2, c2.mono (hd_sub sb)⟩
          subst z
          exact e1 (E.dist i j p2 x y hx h e e2)
    · have n1 : i ≠ j := fun z => by
        subst z
        rw [List.getElem?_set_self hl] at h1
        cases h1
      have n2 : i ≠ k := fun z => by
        subst z
        rw [List.getElem?_set_self hl] at h2
        cases h2
      rw [List.getElem?_set_ne n1] at h1
      rw [List.getElem?_set_ne n2] at h2
      exact E.dist j k q xi xj h1 h2 h3 h4
  · exact ⟨O, E⟩
theorem s_frz (i : Nat) (h : PS X st (rdS t l I W s)) : PS X st (rdS t l I W (sFrz i s)) := PS_imp h fun D σ H ⟨H0, O0, O, ρ, S, E, hs, q⟩ => by
  obtain ⟨O', E'⟩ := frz_ok E i
  exact ⟨H0, O0, O', _, S, E', hs, q⟩
/-- an own list is changed -/
theorem Env.mut (E : Env t l I H0 O0 O H σ ρ) {i : Nat} {x d : D} {p : Addr} {o' : HO} (hx : ρ[i]? = some (.own x)) (e : σ[i]? = some (some (.ref p))) (c : Ct t (hd O H) o' d) : Env t l I H0 O0 O (upd H p o') σ (ρ.set i (.own d)) := by
  obtain ⟨p1, o1, e1, hm, h0, hp, c1⟩ := E.slot i _ hx
  rw [e] at e1
  cases e1
  have np : p ∉ O0 := own_ne E.toEnvB h0
  have hl := (List.getElem?_eq_some_iff.mp hx).1
  have hs : Same (hd O H) (hd O (upd H p o')) := hd_upd_in hm
  refine ⟨⟨tp_hidden E.tp (fun z => np (z ▸ E.t0)) (fun z => np (z ▸ E.l0)), E.t0, E.l0, E.sub, E.all0, fun a h => ?_, fun a u n z => ?_, E.ownO⟩, by rw [List.length_set]; exact E.len, fun j s h => ?_, fun j k q xi xj h1 h2 h3 h4 => ?_⟩
  · by_cases z : a = p
    · subst z
      rw [upd_same]
      exact fun z => nomatch z
    · rw [upd_ne z]
      exact E.all a h
  · rw [upd_ne (ne_of_none z h0)]
    exact E.kept a u n z
  · by_cases e1 : i = j
    · subst e1
      rw [List.getElem?_set_self hl] at h
      cases h
      exact ⟨p, o', e, hm, h0, upd_same, c.mono hs⟩
    · rw [List.getElem?_set_ne e1] at h
      have q := E.slot j s h
      cases s with
      | no => exact True.intro
      | d x =>
        obtain ⟨u, e, r⟩ := q
        exact ⟨u, e, r.mono hs⟩
      | own y =>
        obtain ⟨p2, o2, e2, hm2, h02, hp2, c2⟩ := q
        refine ⟨p2, o2, e2, hm2, h02, ?_, c2.mono hs⟩
        rw [upd_ne (by
          intro z
          rw [z] at e2
          exact e1 (E.dist i j p x y hx h e e2))]
        exact hp2
  · have g : ∀ {j : Nat} {xi : DS.D}, (ρ.set i (Slot.own d))[j]? = some (Slot.own xi) → ∃ xj, ρ[j]? = some (Slot.own xj) := fun {j xi} h => by
      by_cases z : i = j
      · subst z
        exact ⟨x, hx⟩
      · rw [List.getElem?_set_ne z] at h
        exact ⟨xi, h⟩
    obtain ⟨x1, h1⟩ := g h1
    obtain ⟨x2, h2⟩ := g h2
    exact E.dist j k q x1 x2 h1 h2 h3 h4
theorem s_app (i : Nat) {x : Str} {px apos cpos : Pos} (he : PE X e (rdE t l I W se)) (hN : X.N[i]? = some x := by rfl) (hv : Vis X.env.scope x := by first | exact Or.inl rfl | exact Or.inr (Or.inl rfl) | exact Or.inr (Or.inr rfl)) (hd : (x == ("__debug__" : Str)) = false := by decide)
    (hcd : (x == ("__classdict__" : Str)) = false := by decide) (hs1 : starEach [e] X.env = (false, eval e X.env) :: starEach [] X.env := by rfl)
    (hbase : attributeBase (.Name x px) "append" X.env (eval (.Name x px) X.env) = eval (.Name x px) X.env := by rfl)
    (hfew : ((backTo cpos (starEach [e] X.env)).all (fun x => !x.1) && (backToKw cpos (keywordEach [] X.env)).all (fun x => x.1.isSome)
      && decide ([e].length + ([] : List Keyword).length + (if ([] : List Keyword).isEmpty then 0 else 1) < 30)) = true := by rfl)
    (hline : (apos.endLine == cpos.line) = true := by rfl) (hplain : (backTo cpos (starEach [] X.env)).any (·.1) = false := by rfl)
    (hs : swapsWith (.Call (.Attribute (.Name x px) "append" apos) [e] [] cpos) none pos.line X.env = pure false := by rfl) : PS X (.Expr (.Call (.Attribute (.Name x px) "append" apos) [e] [] cpos) pos) (rdS t l I W (sApp i se)) :=
  PS_imp (ps_expr (pe_bm PySem.F.plainAttrs_list PySem.F.slot_list_append PySem.F.type_list_append mt_append (pe_var hN hv hd hcd) (pa_cons he pa_nil hs1) hbase hfew hline hs1 hplain) hs) fun D σ H ⟨H0, O0, O, ρ, S, E, hs, q⟩ => by
    unfold sApp at hs
    split at hs
    · rename_i xs hx
      obtain ⟨hl, hs⟩ := hs
      obtain ⟨p, o, e, hm, h0, hp, c⟩ := E.slot i _ hx
      cases c with
      | lst r =>
        refine ⟨_, e, .inl ⟨rfl, _, SqL.of hp⟩, H0, O0, O, ρ, _, _, E, hs, fun d v H1 p1 k1 r1 => ?_, ends_x q E⟩
        have E1 := E.keep k1
        have pt : p ≠ t := fun z => own_ne E.toEnvB h0 (z ▸ E.t0)
        have hp1 := k1.1 p _ pt hp
        have rr := r.mono (k1.same E.t1)
        refine ⟨p, _, v, rfl, rfl, hp1, by rw [rr.length]; exact maxLen_lt hl, q.nx _ _ _ _ (E1.mut hx e (.lst (rr.append (.cons r1 .nil)))) p1⟩
    · exact hs.elim
end
end DS

namespace DS
open PySem PySem.Spec PyProof.Rows L2
variable {t l : Addr} {I : TI'} {W : WX} {X : Cx} {pos : Pos}
section
variable {st : Stmt} {rest : List Stmt} {s u : SS} {e : Expr} {se sv si : SE} {H0 H H' : Hp} {O0 O O' : List Addr} {σ σ' : L2.St} {ρ ρ' : List Slot} {S : EndS} {E' : Ends}
theorem RpL.setAt {t : Addr} {H : Hp} : ∀ {vs : List V} {ds : List D} (n : Nat) {v : V} {d : D}, RpL t H vs ds → Rp t H v d → RpL t H (vs.set n v) (ds.set n d)
  | _, _, _, _, _, .nil, _ => .nil
  | _, _, 0, _, _, .cons a b, r => .cons r b
  | _, _, n + 1, _, _, .cons a b, r => .cons a (RpL.setAt n b r)
theorem s_setI (i : Nat) {x : Str} {px p2 : Pos} {e2 : Expr} (he : PE X e (rdE t l I W sv)) (hi : PE X e2 (rdE t l I W si)) (hN : X.N[i]? = some x := by rfl) (hv : Vis X.env.scope x := by first | exact Or.inl rfl | exact Or.inr (Or.inl rfl) | exact Or.inr (Or.inr rfl)) (hd : (x == ("__debug__" : Str)) = false := by decide)
    (hcd : (x == ("__classdict__" : Str)) = false := by decide) (ha : ∀ v, assign (.Subscript (.Name x px) e2 p2) X.env v = (do
      let ov ← holding [v] (eval (.Name x px) X.env)
      let iv ← holding [v, ov] (eval e2 X.env)
      standAt p2
      holding [v, ov, iv] (setItem ov iv v)
      release [v, ov, iv] []) := by intro _; rfl)
    (hs : swapsWithSole [.Subscript (.Name x px) e2 p2] e pos.line X.env = pure false := by rfl) (hw : swappedStores [.Subscript (.Name x px) e2 p2] e X.env = pure none := by rfl)
    (h1 : (assignEach [.Subscript (.Name x px) e2 p2] X.env).map (·.2) = [assign (.Subscript (.Name x px) e2 p2) X.env] := by rfl) :
    PS X (.Assign [.Subscript (.Name x px) e2 p2] e pos) (rdS t l I W (sSetI i sv si)) :=
  PS_imp (ps_asg he (pg_sub (pe_var hN hv hd hcd) hi set_list ha) hs hw h1) fun D σ H ⟨H0, O0, O, ρ, S, E, hs, q⟩ => by
    unfold sSetI at hs
    split at hs
    · rename_i xs hx
      obtain ⟨p, o, ep, hm, h0, hp, c⟩ := E.slot i _ hx
      cases c with
      | lst r =>
        refine ⟨H0, O0, O, ρ, _, _, E, hs, fun d v H1 p1 k1 r1 => ?_, ends_x q E⟩
        refine ⟨_, ep, H0, O0, O, ρ, _, _, E.keep k1, p1, fun j w H2 p2 k2 r2 => ?_, (ends_x q E).keep k1⟩
        have E2 := (E.keep k1).keep k2
        have pt : p ≠ t := fun z => own_ne E.toEnvB h0 (z ▸ E.t0)
        have hp2 := k2.1 p _ pt (k1.1 p _ pt hp)
        have rr := (r.mono (k1.same E.t1)).mono (k2.same E.t1)
        dsimp only at p2
        unfold setIx at p2
        split at p2
        · rename_i k
          cases r2
          split at p2
          · rename_i n en
            refine ⟨p, _, k, n, rfl, rfl, hp2, by rw [rr.length]; exact en, q.nx _ _ _ _ (E2.mut hx ep (.lst (rr.setAt n (r1.mono (k2.same E.t1))))) p2⟩
          · exact p2.elim
        · exact p2.elim
    · exact hs.elim
theorem s_aug {i : Nat} {x : Str} {p' : Pos} {op : Operator} {g : Int → Int → Int} (hN : X.N.Nodup) (hi : X.N[i]? = some x) (hx : Loc X.env.scope x) (he : PE X e (rdE t l I W se)) (ho : PIp X op (ipI g)) (hf : X.fn x = true ∨ X.env.scope.names.lookup x = some .local := by first | exact .inl rfl | exact .inr rfl | assumption) :
    PS X (.AugAssign (.Name x p') op e pos) (rdS t l I W (sAug i g se)) := PS_imp (ps_aug hN hi hx he ho hf) fun D σ H ⟨H0, O0, O, ρ, S, E, hs, q⟩ => by
  unfold sAug at hs
  split at hs
  · rename_i a hx
    obtain ⟨u, eu, r⟩ := E.slot i _ hx
    cases r
    refine ⟨_, eu, H0, O0, O, ρ, _, _, E, hs, fun d v H1 p1 k1 r1 => ?_, ends_x q E⟩
    dsimp only at p1
    split at p1
    · cases r1
      exact ⟨_, _, rfl, rfl, q.nx _ _ _ _ ((E.keep k1).set (.int _)) p1⟩
    · exact p1.elim
  · exact hs.elim
/-! ### loops -/
def H0b (O0 O : List Addr) (H : Hp) : Hp := fun a => if a ∈ O ∧ a ∉ O0 then none else H a
theorem H0b_some {a : Addr} {o : HO} (h : H0b O0 O H a = some o) : ¬ (a ∈ O ∧ a ∉ O0) ∧ H a = some o := by
  unfold H0b at h
  split at h
  · cases h
  · rename_i n
    exact ⟨n, h⟩
theorem H0b_none {a : Addr} (h : H0b O0 O H a = none) : (a ∈ O ∧ a ∉ O0) ∨ H a = none := by
  unfold H0b at h
  split at h
  · rename_i n
    exact .inl n
  · exact .inr h
theorem Env.rebase (E : Env t l I H0 O0 O H σ ρ) : Env t l I (H0b O0 O H) O0 O H σ ρ := by
  refine ⟨⟨E.tp, E.t0, E.l0, E.sub, fun a h => ?_, E.all, fun a o _ e => (H0b_some e).2, fun a h => ?_⟩, E.len, fun i s h => ?_, E.dist⟩
  · unfold H0b
    rw [if_neg fun z => z.2 h]
    exact E.all a (E.sub a h)
  · by_cases z : a ∈ O0
    · exact .inl z
    · refine .inr ?_
      unfold H0b
      rw [if_pos ⟨h, z⟩]
  · have q := E.slot i s h
    cases s with
    | no => exact True.intro
    | d x => exact q
    | own x =>
      obtain ⟨p, o, e, hm, h0, hp, c⟩ := q
      refine ⟨p, o, e, hm, ?_, hp, c⟩
      unfold H0b
      rw [if_pos ⟨hm, own_ne E.toEnvB h0⟩]
theorem H0b_back (E : EnvB t l I H0 O0 O H) {a : Addr} (h : H0b O0 O H a = none) : H0 a = none := by
  rcases H0b_none h with z | z
  · rcases E.ownO a z.1 with y | y
    · exact absurd y z.2
    · exact y
  · exact free_back E z
theorem EnvB.back (E : EnvB t l I H0 O0 O H) (E' : EnvB t l I (H0b O0 O H) O0 O' H') : EnvB t l I H0 O0 O' H' := by
  refine ⟨E'.tp, E.t0, E.l0, E'.sub, E.all0, E'.all, fun a o n e => E'.kept a o n ?_, fun a h => ?_⟩
  · unfold H0b
    rw [if_neg fun z => by
      rcases E.ownO a z.1 with y | y
      · exact z.2 y
      · rw [y] at e
        cases e]
    exact E.kept a o n e
  · rcases E'.ownO a h with y | y
    · exact .inl y
    · exact .inr (H0b_back E y)
theorem Env.back (E : EnvB t l I H0 O0 O H) (E' : Env t l I (H0b O0 O H) O0 O' H' σ ρ) : Env t l I H0 O0 O' H' σ ρ := by
  refine ⟨E.back E'.toEnvB, E'.len, fun i s h => ?_, E'.dist⟩
  have q := E'.slot i s h
  cases s with
  | no => exact True.intro
  | d x => exact q
  | own x =>
    obtain ⟨p, o, e, hm, h0, hp, c⟩ := q
    exact ⟨p, o, e, hm, H0b_back E h0, hp, c⟩
theorem base_same (E : EnvB t l I H0 O0 O H) (E' : EnvB t l I (H0b O0 O H) O0 O' H') : Same (hd O H) (hd O' H') := fun a o e => by
  obtain ⟨x, y⟩ := hd_some e
  have z : H0b O0 O H a = some o := by
    unfold H0b
    rw [if_neg fun z => x z.1]
    exact y
  rw [hd_out (fun w => by
    rcases E'.ownO a w with w | w
    · exact x (E.sub a w)
    · rw [z] at w
      cases w)]
  exact E'.kept a o (fun w => x (w ▸ E.t1)) z
theorem EndsOk.back {D : Ends} (E : EnvB t l I H0 O0 O H) (q : EndsOk t l I H0 O0 W S D) : EndsOk t l I (H0b O0 O H) O0 W S D :=
  ⟨fun O' σ ρ H' E' h => q.nx _ _ _ _ (Env.back E E') h, fun O' σ ρ H' E' h => q.bk _ _ _ _ (Env.back E E') h, fun O' σ ρ H' E' h => q.ct _ _ _ _ (Env.back E E') h,
    fun d v O' H' E' h r => q.rt _ _ _ _ (E.back E') h r, fun x ρ cls dd O' σ H' E' h r => q.ex _ _ _ _ _ _ _ (Env.back E E') h r⟩
theorem s_for {tg iter : Expr} {body : List Stmt} {gs : SG} {is : List Nat} {si : SL} {sb : SS} (po : PassesOwn (model X.prog X.w) X.A X.env X.xe) (hc : X.calm = true) (hi : PI X tg iter (rdI t l I W si)) (hg : PG X tg (rdG t l I gs is)) (hb : PSs X body (rdS t l I W sb))
    (hs : ∀ x, foldedSetIterable iter X.env x = pure x := by intro _; rfl) : PS X (.For tg iter body [] pos) (rdS t l I W (sFor gs si sb)) :=
  PS_imp (ps_for po hc hi hg hb hs) fun D σ H ⟨H0, O0, O, ρ, S, E, hs, q⟩ => by
    refine ⟨H0, O0, O, ρ, _, _, E, hs, fun ds J H1 p1 k1 ok => ?_, ends_x q E⟩
    have E1 := E.keep k1
    have q1 := q.back (t := t) (l := l) (I := I) E1.toEnvB
    refine ⟨fun i m σ H => m = ds.length - i ∧ i ≤ ds.length ∧ ∃ O' ρ', Env t l I (H0b O0 O H1) O0 O' H σ ρ' ∧ forL gs sb S (ds.drop i) ρ', ⟨ds.length, rfl, Nat.zero_le _, O, ρ, E1.rebase, p1⟩, ?_⟩
    rintro i m σ2 H2 ⟨rfl, hi, O2, ρ2, E2, f2⟩
    obtain ⟨o1, o2, o3⟩ := ok i O2 H2 (base_same E1.toEnvB E2.toEnvB) E2.tp E2.all
    by_cases hlt : i < ds.length
    · refine .inr ⟨o1 hlt, fun σ' H' => ∃ m', m' < ds.length - i ∧ (m' = ds.length - (i + 1) ∧ i + 1 ≤ ds.length ∧ ∃ O' ρ', Env t l I (H0b O0 O H1) O0 O' H' σ' ρ' ∧ forL gs sb S (ds.drop (i + 1)) ρ'), fun σ' H' z => z, fun x H3 y => ?_⟩
      obtain ⟨d, ed, k3, rx⟩ := o3 x H3 hlt y
      rw [drop_cons ed] at f2
      refine ⟨_, O0, O2, ρ2, d, _, E2.keep k3, rx, f2, fun σ4 ρ4 E4 p4 _ _ => ?_⟩
      refine ⟨_, O0, O2, ρ4, _, E4, p4, ⟨fun O' σ' ρ' H' E' h => ⟨_, by omega, rfl, hlt, O', ρ', E', h⟩, fun O' σ' ρ' H' E' h => q1.nx _ _ _ _ E' h, fun O' σ' ρ' H' E' h => ⟨_, by omega, rfl, hlt, O', ρ', E', h⟩, q1.rt, q1.ex⟩⟩
    · have e : i = ds.length := by omega
      subst e
      rw [List.drop_length] at f2
      exact .inl ⟨o2 (Nat.le_refl _), q1.nx _ _ _ _ E2 f2⟩
theorem s_while {c : Expr} {body : List Stmt} {sc : SB} {sb : SS} (po : PassesOwn (model X.prog X.w) X.A X.env X.xe) (hc : PT X c (rdT t l I W sc)) (hb : PSs X body (rdS t l I W sb)) : PS X (.While c body [] pos) (rdS t l I W (sWhile sc sb)) :=
  PS_imp (ps_while po hc hb) fun D σ H ⟨H0, O0, O, ρ, S, E, hs, q⟩ => by
    obtain ⟨n, hn⟩ := hs
    refine ⟨fun m σ H => ∃ O' ρ', Env t l I H0 O0 O' H σ ρ' ∧ whileN sc sb S m ρ', ⟨n, O, ρ, E, hn⟩, ?_⟩
    rintro m σ2 H2 ⟨O2, ρ2, E2, w2⟩
    cases m with
    | zero => exact (show False from w2).elim
    | succ m =>
      refine ⟨H0, O0, O2, ρ2, _, _, E2, w2, fun b H3 p3 k3 => ?_, ends_x q E2⟩
      cases b with
      | false => exact iteF (q.nx _ _ _ _ (E2.keep k3) p3)
      | true =>
        refine iteT ⟨fun σ' H' => ∃ m', m' < m + 1 ∧ ∃ O' ρ', Env t l I H0 O0 O' H' σ' ρ' ∧ whileN sc sb S m' ρ', fun σ' H' z => z, ?_⟩
        exact ⟨H0, O0, O2, ρ2, _, E2.keep k3, p3, ⟨fun O' σ' ρ' H' E' h => ⟨m, Nat.lt_succ_self _, O', ρ', E', h⟩, fun O' σ' ρ' H' E' h => q.nx _ _ _ _ E' h, fun O' σ' ρ' H' E' h => ⟨m, Nat.lt_succ_self _, O', ρ', E', h⟩, q.rt, q.ex⟩⟩
/-! ### raise, try -/
theorem pmk_own0 {C : Addr} {bmB : List Value} {B newId initId : String} {x : Str} {p : Pos} (F : ExcBaseFacts B newId initId bmB) (q : PySem.W.excIn X.K C bmB newId = true) (gC : X.mg x = some (.ref C)) (kC : PySem.W.keepIn X.K (.ref C) = true) (r : Raises X (.ref C)) (hg : Gl X x)
    (hdb : (x == ("__debug__" : Str)) = false := by decide) : PMk X (.Call (.Name x p) [] [] pos) (fun _ H Q => Q (.ref C) none H) := by
  intro pins s σ H Q I h
  refine wpAny_Call_Name_kw (ld_glob I hg gC ?_ hdb)
  obtain ⟨hp1, g1, d1, tk1, os1⟩ := s
  refine PySem.W.callWith_K0 (first := []) I.kIn kC ?_
  show wpAny _ _ (call (.ref C) []) _ _ _
  obtain ⟨bm, N, nm, qn, bs, hdct, sn, sub, ab, col, dd, k0, k1, k2, k3, k5, mN, hC, hN, hni, T⟩ := exc_obj I.kIn q
  refine wpAny_call_exc_subT F T hC hN hni (fun h' e hm => ?_) (Nat.zero_le _)
  exact mk_of I hm r h (I.hok.gone hm.new)
def sRaise0 (C : Addr) : SS := fun ρ S => S.ex ⟨C, []⟩ ρ
theorem s_raise0 {C : Addr} {x : Str} {p : Pos} (hc : X.calm = true) (tk : Takes X W) (q : PySem.W.excIn X.K C [.type "ValueError", .type "Exception", .type "BaseException", .type "object"] "ValueError.__new__" = true) (gC : X.mg x = some (.ref C)) (kC : PySem.W.keepIn X.K (.ref C) = true)
    (b : PySem.W.subIn X.K (.ref C) (.type "BaseException") = some true) (ty : PySem.W.typeIn X.K (.ref C) = some (.type "type")) {pos2 : Pos} (hg : Gl X x := by rfl) (hdb : (x == ("__debug__" : Str)) = false := by decide) :
    PS X (.Raise (some (.Call (.Name x p) [] [] pos)) none pos2) (rdS t l I W (sRaise0 C)) :=
  PS_imp (ps_raise hc tk (pmk_own0 PySem.F.excBase_ValueError q gC kC (raises_own b ty) hg hdb)) fun D σ H ⟨H0, O0, O, ρ, S, E, hs, q⟩ => q.ex _ _ _ _ _ _ _ E hs ⟨rfl, .inl ⟨rfl, rfl⟩⟩
def hdL (K : PySem.W.Frag) (S : EndS) : List (Addr × SS) → XD → List Slot → Prop
  | [], x, ρ => S.ex x ρ
  | (C, s) :: r, x, ρ => match PySem.W.exmOne K (.ref x.C) (.ref C) with
    | some true => s ρ { S with ex := fun _ _ => False }
    | some false => hdL K S r x ρ
    | none => False
def sTry (K : PySem.W.Frag) (sb : SS) (cs : List (Addr × SS)) : SS := fun ρ S => sb ρ { S with ex := hdL K S cs }
def hds (t l : Addr) (I : TI') (cs : List (Addr × SS)) : List (Value × (Addr → Value → Option Addr → TS)) := cs.map fun c => (.ref c.1, fun _ _ _ => rdS t l I W0 c.2)
theorem EndsOk.w0 {D : Ends} (q : EndsOk t l I H0 O0 W S D) : EndsOk t l I H0 O0 W0 { S with ex := fun _ _ => False } D := ⟨q.nx, q.bk, q.ct, q.rt, fun _ _ _ _ _ _ _ _ h _ => h⟩
theorem s_try {body : List Stmt} {h₀ : ExceptHandler} {hs' : List ExceptHandler} {sb : SS} {cs : List (Addr × SS)} (hs : X.stack = X.env :: X.outer) (hf : X.env.frame = some X.env.locals) (tk : Takes X W)
    (hb : ∀ (W : WX) (pn : List (Addr × Obj)) (xe : Value → Shared → Prop), Takes (X.tr pn xe) W → PassesOwn (model X.prog X.w) X.A X.env xe → PSs (X.tr pn xe) body (rdS t l I W sb)) (hh : HdsOk X (h₀ :: hs') (hds t l I cs)) :
    PS X (.Try body (h₀ :: hs') [] [] pos) (rdS t l I W (sTry X.K sb cs)) :=
  PS_imp (ps_try_many (tb := fun W => rdS t l I W sb) hs hf tk hb hh) fun D σ H ⟨H0, O0, O, ρ, S, E, hs, q⟩ => by
    refine ⟨H0, O0, O, ρ, _, E, hs, ⟨q.nx, q.bk, q.ct, q.rt, ?_⟩⟩
    have go : ∀ (cs : List (Addr × SS)) (x : XD) (ρ : List Slot) (cls : Value) (dd : Option Addr) (O : List Addr) (σ : L2.St) (H : Hp), Env t l I H0 O0 O H σ ρ → hdL X.K S cs x ρ → RpX t (hd O H) x cls dd → wMany X.K W D (hds t l I cs) cls dd σ H := by
      intro cs
      induction cs with
      | nil => exact fun x ρ cls dd O σ H E h r => q.ex _ _ _ _ _ _ _ E h r
      | cons c cs ih =>
        intro x ρ cls dd O σ H E h r
        obtain ⟨C, s⟩ := c
        have ec : cls = .ref x.C := r.1
        unfold hdL at h
        split at h
        · rename_i e
          exact ⟨true, by rw [ec]; exact e, fun _ a _ => ⟨H0, O0, O, ρ, _, E, h, q.w0⟩, fun z => nomatch z⟩
        · rename_i e
          exact ⟨false, by rw [ec]; exact e, (fun z => nomatch z), fun _ => ih x ρ cls dd O σ H E h r⟩
        · exact h.elim
    exact fun x ρ cls dd O σ H E h r => go cs x ρ cls dd O σ H E h r
/-! ### a def -/
def fnS (n m : Nat) (ss : SS) : SF := fun ds P PX => ds.length = m ∧ ss (ds.map Slot.d ++ List.replicate (n - m) Slot.no) { nx := fun _ => P .non, rt := P, bk := fun _ => False, ct := fun _ => False, ex := fun x _ => PX x }
theorem start_env {N : List Str} {vs : List V} {ds : List D} {n : Nat} (hn : n = N.length - vs.length) (T : Tp t l I H) (t1 : t ∈ O) (l1 : l ∈ O) (ha : ∀ a ∈ O, H a ≠ none) (r : RpL t (hd O H) vs ds) :
    Env t l I H O O H (L2.start N vs) (ds.map Slot.d ++ List.replicate n Slot.no) := by
  subst hn
  have key : ∀ (i : Nat) s, (ds.map Slot.d ++ List.replicate (N.length - vs.length) Slot.no)[i]? = some s → SlotOk t H O H (L2.start N vs)[i]? s ∧ ∀ x, s ≠ .own x := fun i s h => by
    unfold L2.start
    by_cases hi : i < ds.length
    · rw [List.getElem?_append_left (by rw [List.length_map]; exact hi), List.getElem?_map] at h
      rw [List.getElem?_append_left (by rw [List.length_map, r.length]; exact hi), List.getElem?_map]
      have e : ds[i]? = some ds[i] := List.getElem?_eq_getElem hi
      rw [e] at h
      cases h
      obtain ⟨v, ev, rv⟩ := r.get e
      rw [ev]
      exact ⟨⟨v, rfl, rv⟩, fun x z => nomatch z⟩
    · rw [List.getElem?_append_right (by rw [List.length_map]; omega)] at h
      have e := List.mem_of_getElem? h
      have e2 := (List.mem_replicate.mp e).2
      subst e2
      exact ⟨True.intro, fun x z => nomatch z⟩
  refine ⟨⟨T, t1, l1, fun _ h => h, ha, ha, fun _ _ _ e => e, fun _ h => .inl h⟩, ?_, fun i s h => (key i s h).1, fun i j p xi xj h1 _ _ _ => absurd rfl ((key i _ h1).2 xi)⟩
  unfold L2.start
  rw [List.length_append, List.length_append, List.length_map, List.length_map, List.length_replicate, List.length_replicate, r.length]
theorem fn_ok {P : Program} {w : World} {K : PySem.W.Frag} {mg : Str → Option Value} {base : Heap} {x qual : Str} {st : Stmt} {f : Addr} {fd : FuncData} {N ps : List Str} {k : Nat} {ss : SS} (F : Fun K x qual st f fd) (S : FnScope N ps (defScope st))
    (hbody : ∀ (cdv : Value) (A : Around) (outer : List PySem.Env) (s : Shared) (H : Hp) (E : XK), Room k (A.deeper (envOfC qual (defScope st) s.heap.objs.size f cdv)) →
      Takes (cxOf (L2.CX P w) P w K mg base N qual (defScope st) f cdv A outer s H E) (fun cls d _ H => E cls d H) →
      PSs (cxOf (L2.CX P w) P w K mg base N qual (defScope st) f cdv A outer s H E) (defBody st) (rdS t l I (fun cls d _ H => E cls d H) ss)) :
    FnOk P w K mg base (L2.CX P w) (k + 1) f fd ps (spD t l I (fnS N.length ps.length ss)) := by
  refine F.okX S (fun vs H Q E h => ?_) (fun cdv A outer s H vs Q E hr h => ⟨_, hbody cdv A outer s H E hr (takes_of rfl rfl rfl rfl), ?_⟩)
  · obtain ⟨O, ds, P, PX, T, t1, l1, ha, r, ⟨hl, _⟩, _⟩ := h
    rw [r.length]
    exact hl
  · obtain ⟨O, ds, P, PX, T, t1, l1, ha, r, ⟨hl, hs⟩, q, qx⟩ := h
    have hn : N.length - ps.length = N.length - vs.length := by rw [r.length, hl]
    refine ⟨H, O, O, _, _, start_env hn T t1 l1 ha r, hs, ⟨fun O' σ' ρ' H' E' h => ?_, fun _ _ _ _ _ h => h.elim, fun _ _ _ _ _ h => h.elim, fun d v O' H' E' h r => ?_, fun x ρ cls dd O' σ' H' E' h r => ?_⟩⟩
    · exact q _ _ H' h ⟨E'.kept, E'.tp⟩ .non
    · exact q _ _ H' h ⟨E'.kept, E'.tp⟩ (r.mono (hd_sub E'.sub))
    · exact qx _ _ _ H' h ⟨E'.kept, E'.tp⟩ (r.mono (hd_sub E'.sub))
end
end DS

namespace DS
open PySem PySem.Spec PyProof.Rows L2
/-- an except clause's class by a plain subclass fact -/
theorem exm_of2 {K : PySem.W.Frag} {C r : Addr} {b : Bool} (h1 : PySem.W.subIn K (.ref C) (.type "BaseException") = some true) (hh : PySem.W.hasDictIn K C = true) (h3 : PySem.W.typeIn K (.ref C) = some (.type "type")) (h4 : PySem.W.subIn K (.ref r) (.ref C) = some b) :
    PySem.W.exmOne K (.ref r) (.ref C) = some b := PySem.W.exm_ref h1 hh h3 h4
/-- the dice: no number below nought, the mixed one small -/
def Ti : TI' := fun ns i j k m => (∀ n ∈ ns, 0 ≤ n) ∧ 0 ≤ i ∧ 0 ≤ j ∧ (0 ≤ k ∧ k < 2147483647) ∧ 0 ≤ m
/-- a draw: any number below the sides -/
def drawS : SF := fun ds P _ => match ds with
  | [.tape, .int n] => 0 < n ∧ n < 1000000 ∧ ∀ d, 0 ≤ d → d < n → P (.int d)
  | _ => False
end DS

/-! reckoning with meanings -/
namespace DS
open PySem PySem.Spec PyProof.Rows L2
section
variable {se : SE} {vs : List Nat} {ρ : List Slot} {i : Nat} {Kc : List D → Prop}
theorem lcL_rel {R : D → D → Prop} : ∀ {ds : List D} {Kc : List D → Prop}, (∀ d ∈ ds, ∀ P : D → Prop, (∀ y, R d y → P y) → se ((wipeS ρ vs).set i (.d d)) P (fun _ => False)) → (∀ ys, Paired R ds ys → Kc ys) → lcL (gsN i) sYes se vs ρ ds Kc
  | [], Kc, _, hk => hk [] .nil
  | d :: ds, Kc, h, hk => h d List.mem_cons_self _ fun y r => lcL_rel (fun d' hd => h d' (List.mem_cons_of_mem _ hd)) fun ys p => hk _ (.cons r p)
theorem lcL_map (g : D → D) {ds : List D} {Kc : List D → Prop} (h : ∀ d ∈ ds, ∀ P : D → Prop, P (g d) → se ((wipeS ρ vs).set i (.d d)) P (fun _ => False)) (hk : Kc (ds.map g)) : lcL (gsN i) sYes se vs ρ ds Kc :=
  lcL_rel (R := fun d y => y = g d) (fun d hd P hp => h d hd P (hp _ rfl)) fun ys p => by
    have : ys = ds.map g := by
      clear h hk
      induction p with
      | nil => rfl
      | cons r _ ih => rw [r, ih]; rfl
    rw [this]
    exact hk
theorem lcL2_map (g : D → D) {si1 : SL} {j : Nat} {vs1 : List Nat} (f : D → List D) : ∀ {ds : List D} {Kc : List D → Prop}, (∀ d ∈ ds, (f d).length ≤ 1000) → (∀ d ∈ ds, ∀ P : List D → Prop, P (f d) → si1 ((wipeS ρ vs).set i (.d d)) P (fun _ => False)) →
    (∀ d ∈ ds, ∀ e ∈ f d, ∀ P : D → Prop, P (g e) → se ((wipeS ((wipeS ρ vs).set i (.d d)) vs1).set j (.d e)) P (fun _ => False)) → Kc ((ds.map fun d => (f d).map g).flatten) → lcL2 (gsN i) sYes si1 (gsN j) sYes se vs vs1 ρ ds Kc
  | [], Kc, _, _, _, hk => hk
  | d :: ds, Kc, hl, h1, h2, hk => h1 d List.mem_cons_self _ ⟨hl d List.mem_cons_self, lcL_map g (h2 d List.mem_cons_self) (lcL2_map g f (fun d' hd => hl d' (List.mem_cons_of_mem _ hd)) (fun d' hd => h1 d' (List.mem_cons_of_mem _ hd)) (fun d' hd => h2 d' (List.mem_cons_of_mem _ hd)) (by
      rw [List.map_cons, List.flatten_cons] at hk
      exact hk))⟩
end
/-- a loop with its word -/
theorem forL_inv {gs : SG} {sb : SS} {S : EndS} (ds : List D) (Iv : Nat → List Slot → Prop) (hs : ∀ (i : Nat) (d : D) (ρ : List Slot), ds[i]? = some d → Iv i ρ → gs d ρ fun ρ1 => ∀ S' : EndS, (∀ ρ', Iv (i + 1) ρ' → S'.nx ρ') → S'.rt = S.rt → S'.bk = S.nx → S'.ct = S'.nx → S'.ex = S.ex → sb ρ1 S')
    (gm : ∀ d ρ (P Q : List Slot → Prop), (∀ ρ', P ρ' → Q ρ') → gs d ρ P → gs d ρ Q) (hd : ∀ ρ, Iv ds.length ρ → S.nx ρ) : ∀ (k i : Nat) (ρ : List Slot), i + k = ds.length → Iv i ρ → forL gs sb S (ds.drop i) ρ
  | 0, i, ρ, e, h => by
    have ei : i = ds.length := by omega
    subst ei
    rw [List.drop_length]
    exact hd ρ h
  | k + 1, i, ρ, e, h => by
    have hi : i < ds.length := by omega
    have hx : ds[i]? = some ds[i] := List.getElem?_eq_getElem hi
    rw [drop_cons hx]
    refine gm _ _ _ _ (fun ρ1 q => ?_) (hs i _ ρ hx h)
    exact q _ (fun ρ' h' => forL_inv ds Iv hs gm hd k (i + 1) ρ' (by omega) h') rfl rfl rfl rfl
theorem gsN_mono {i : Nat} : ∀ d ρ (P Q : List Slot → Prop), (∀ ρ', P ρ' → Q ρ') → gsN i d ρ P → gsN i d ρ Q := fun _ _ _ _ h p => h _ p
theorem gsT_mono {is : List Nat} : ∀ d ρ (P Q : List Slot → Prop), (∀ ρ', P ρ' → Q ρ') → gsT is d ρ P → gsT is d ρ Q := fun d _ _ _ h p => by
  cases d with
  | tup ds => exact ⟨p.1, h _ p.2⟩
  | _ => exact (show False from p).elim
/-- a loop from its start -/
theorem for_inv {gs : SG} {sb : SS} {S : EndS} {ds : List D} (Iv : Nat → List Slot → Prop) {ρ : List Slot} (h0 : Iv 0 ρ) (hs : ∀ (i : Nat) (d : D) (ρ : List Slot), ds[i]? = some d → Iv i ρ → gs d ρ fun ρ1 => ∀ S' : EndS, (∀ ρ', Iv (i + 1) ρ' → S'.nx ρ') → S'.rt = S.rt → S'.bk = S.nx → S'.ct = S'.nx → S'.ex = S.ex → sb ρ1 S')
    (gm : ∀ d ρ (P Q : List Slot → Prop), (∀ ρ', P ρ' → Q ρ') → gs d ρ P → gs d ρ Q) (hd : ∀ ρ, Iv ds.length ρ → S.nx ρ) : forL gs sb S ds ρ := forL_inv ds Iv hs gm hd ds.length 0 ρ (by omega) h0
/-! slices, places -/
theorem cutD_all {α : Type} (xs : List α) : cutD xs none none = xs := by
  unfold cutD
  rw [HT.sIx_none, HT.sIx_none, List.drop_zero, Nat.sub_zero, List.take_length]
theorem cutD_to {α : Type} (xs : List α) (n : Nat) : cutD xs none (some (n : Int)) = xs.take n := by
  unfold cutD
  rw [HT.sIx_none, HT.sIx_nat, List.drop_zero, Nat.sub_zero]
  by_cases h : n ≤ xs.length
  · rw [Nat.min_eq_left h]
  · rw [Nat.min_eq_right (by omega), List.take_length, List.take_of_length_le (by omega)]
theorem cutD_from {α : Type} (xs : List α) (n : Nat) : cutD xs (some (n : Int)) none = xs.drop n := by
  unfold cutD
  rw [HT.sIx_none, HT.sIx_nat]
  by_cases h : n ≤ xs.length
  · rw [Nat.min_eq_left h, List.take_of_length_le (by rw [List.length_drop]; omega)]
  · rw [Nat.min_eq_right (by omega), Nat.sub_self, List.take_zero, List.drop_eq_nil_of_le (by omega)]
theorem cutD_last {α : Type} (xs : List α) : cutD xs none (some (-1)) = xs.dropLast := by
  unfold cutD
  rw [HT.sIx_none, List.drop_zero, Nat.sub_zero, List.dropLast_eq_take]
  have e : HT.sIx xs.length xs.length (some (-1)) = xs.length - 1 := by
    show (if (-1 : Int) < 0 then ((-1 : Int) + (xs.length : Int)).toNat else min (-1 : Int).toNat xs.length) = xs.length - 1
    rw [if_pos (by decide)]
    omega
  rw [e]
theorem atD_nat {ds : List D} {n : Nat} {d : D} {P : D → Prop} (h : ds[n]? = some d) (p : P d) : atD ds (n : Int) P := by
  unfold atD
  rw [atI_nat h]
  exact p
end DS

/-! reckoning with meanings, where all tests are true -/
namespace DS
open PySem PySem.Spec PyProof.Rows L2
theorem pD {P : D → Prop} {b c : Bool} (h : b = c) (p : P (.bl c)) : P (.bl b) := h ▸ p
theorem pB {P : Bool → Prop} {b c : Bool} (h : b = c) (p : P c) : P b := h ▸ p
section
variable {g g' : Int → Int → Bool} {sa sb sc : SE} {c : SB} {s u : SS} {ρ : List Slot} {P : D → Prop} {PX : XD → Prop} {S : EndS}
theorem sCh_t {i j k : Int} (ha : ∀ Q : D → Prop, Q (.int i) → sa ρ Q PX) (hb : ∀ Q : D → Prop, Q (.int j) → sb ρ Q PX) (hc : ∀ Q : D → Prop, Q (.int k) → sc ρ Q PX) (h1 : g i j = true) (h2 : g' j k = true) (p : P (.bl true)) : sCh g g' sa sb sc ρ P PX :=
  ha _ (hb _ (pB (P := fun z => match z with
    | true => sc ρ (fun w => cmpD g' (.int j) w P) PX
    | false => P (.bl false)) h1 (hc _ (pD h2 p))))
theorem sIfS_t (hc : ∀ Q : Bool → Prop, Q true → c ρ Q (fun x => S.ex x ρ)) (hs : s ρ S) : sIfS c s u ρ S := hc _ hs
theorem sIfS_f (hc : ∀ Q : Bool → Prop, Q false → c ρ Q (fun x => S.ex x ρ)) (hs : u ρ S) : sIfS c s u ρ S := hc _ hs
end
theorem blsD_map {α : Type} (f : α → Bool) : ∀ xs : List α, blsD (xs.map fun x => D.bl (f x)) = some (xs.map f)
  | [] => rfl
  | x :: xs => by
    show (blsD (xs.map fun x => D.bl (f x))).map (f x :: ·) = _
    rw [blsD_map f xs]
    rfl
theorem allD_t {α : Type} {xs : List α} {P : D → Prop} (p : P (.bl true)) : allD [.lst (xs.map fun _ => D.bl true)] P := by
  show (match blsD (xs.map fun _ => D.bl true) with
    | some bs => P (.bl (bs.all id))
    | none => False)
  rw [blsD_map (fun _ => true) xs]
  show P (.bl ((xs.map fun _ => true).all id))
  rw [show ((xs.map fun _ => true).all id) = true by simp]
  exact p
theorem intsD_map : ∀ ns : List Int, intsD (ns.map D.int) = some ns
  | [] => rfl
  | n :: ns => by
    show (intsD (ns.map D.int)).map (n :: ·) = _
    rw [intsD_map ns]
    rfl
theorem sumD_tup {ns : List Int} {P : D → Prop} (p : P (.int ns.sum)) : sumD [.tup (ns.map D.int)] P := by
  show (match intsD (ns.map D.int) with
    | some bs => P (.int bs.sum)
    | none => False)
  rw [intsD_map]
  exact p
theorem sumD_lst {ns : List Int} {P : D → Prop} (p : P (.int ns.sum)) : sumD [.lst (ns.map D.int)] P := by
  show (match intsD (ns.map D.int) with
    | some bs => P (.int bs.sum)
    | none => False)
  rw [intsD_map]
  exact p
theorem eqD_refl {d : D} {P : D → Prop} (h : okD 60 d = true) (p : P (.bl true)) : eqD false d d P := by
  unfold eqD
  refine ⟨h, h, ?_⟩
  show P (.bl (eqB d d))
  rw [eqB_refl h]
  exact p
theorem eqD_ne {d : D} {P : D → Prop} (h : okD 60 d = true) (p : P (.bl false)) : eqD true d d P := by
  unfold eqD
  refine ⟨h, h, ?_⟩
  show P (.bl (!eqB d d))
  rw [eqB_refl h]
  exact p
theorem eqD_of {neg : Bool} {d e : D} {P : D → Prop} (h : okD 60 d = true) (h' : okD 60 e = true) (p : P (.bl (if neg then !eqB d e else eqB d e))) : eqD neg d e P := by
  unfold eqD
  exact ⟨h, h', p⟩
theorem atD_any {ds : List D} {i : Int} {P : D → Prop} (h0 : 0 ≤ i) (h1 : i < ds.length) (h : ∀ x ∈ ds, P x) : atD ds i P := by
  obtain ⟨n, rfl⟩ := Int.eq_ofNat_of_zero_le h0
  have hn : n < ds.length := by omega
  exact atD_nat (List.getElem?_eq_getElem hn) (h _ (List.getElem_mem hn))
theorem okDs_of {n : Nat} : ∀ {ds : List D}, (∀ d ∈ ds, okD n d = true) → okDs n ds = true
  | [], _ => by unfold okDs; rfl
  | d :: ds, h => by
    unfold okDs
    rw [h d List.mem_cons_self, okDs_of fun x m => h x (List.mem_cons_of_mem _ m)]
    rfl
theorem okD_tup {n : Nat} {ds : List D} (h : ∀ d ∈ ds, okD n d = true) : okD (n + 1) (.tup ds) = true := by
  unfold okD
  exact okDs_of h
theorem okD_lst {n : Nat} {ds : List D} (h : ∀ d ∈ ds, okD n d = true) : okD (n + 1) (.lst ds) = true := by
  unfold okD
  exact okDs_of h
theorem paired_rel {α : Type} {f : α → D} {Q : α → Prop} {ds : List D} : ∀ {ys : List D}, Paired (fun _ y => ∃ c, y = f c ∧ Q c) ds ys → ∃ cs : List α, ys = cs.map f ∧ (∀ c ∈ cs, Q c) ∧ cs.length = ds.length := by
  intro ys p
  induction p with
  | nil => exact ⟨[], rfl, fun _ z => (List.not_mem_nil z).elim, rfl⟩
  | cons r _ ih =>
    obtain ⟨c, rfl, q⟩ := r
    obtain ⟨cs, rfl, qs, hl⟩ := ih
    refine ⟨c :: cs, rfl, fun x m => ?_, by simp [hl]⟩
    rcases List.mem_cons.mp m with rfl | m
    · exact q
    · exact qs x m
theorem rangeL_len (lo : Int) (n : Nat) : (rangeL lo n).length = n := by simp [rangeL]
theorem ch_m {P : D → Prop} {b c : Bool} (h1 : b = true) (h2 : c = true) (p : P (.bl true)) : (match (generalizing := false) b with
    | true => P (.bl c)
    | false => P (.bl false)) := by
  subst h1 h2
  exact p
theorem sVar_d {i : Nat} {ρ : List Slot} {x : D} {P : D → Prop} {PX : XD → Prop} (h : ρ[i]? = some (.d x)) (p : P x) : sVar i ρ P PX := by
  unfold sVar
  rw [h]
  exact p
theorem setIx_nat {xs : List D} {d : D} {b : Nat} {Q : List D → Prop} (hb : b < xs.length) (q : Q (xs.set b d)) : setIx xs d (.int (b : Int)) Q := by
  show (match ixN xs.length (b : Int) with
    | some n => Q (xs.set n d)
    | none => False)
  have e5 : ixN xs.length (b : Int) = some b := by
    unfold ixN
    rw [if_pos (by omega), if_pos (by omega)]
    rfl
  rw [e5]
  exact q
end DS

namespace DS
open PySem PySem.Spec PyProof.Rows L2
section
variable {X : Cx} {t l : Addr} {I : TI'} {W : WX} {pos : Pos}
def sDct0 : SE := fun _ P _ => P (.dct [])
theorem f_dct0 : PE X (.Dict [] [] pos) (rdF t l I W sDct0) := PE_imp pe_dnewK fun σ H Q ⟨H0, O0, O, ρ, P, PX, E, hs, q, qx⟩ => by
  intro p n
  refine q _ _ _ _ hs (.new E.tp n) ?_ upd_same (.dct .nil)
  cases z : H p with
  | none => rfl
  | some o => rw [z] at n; exact absurd n (by intro y; cases y)
end
end DS


namespace Dice
open PySem PySem.Spec PyProof.Rows L2 DS
section
variable {K : PySem.W.Frag} {t L : Addr} {σ : L2.St} {H : Hp} {xs : List V} {v : V} {Q : VK}
theorem ixn {n j : Nat} (h : j < n) : ixN n (j : Int) = some j := by
  have h1 : (0 : Int) ≤ (j : Int) := by omega
  have h2 : (j : Int) < (n : Int) := by omega
  simp [ixN, h1, h2]
theorem ix (hT : H t = some (.lst xs)) {j : Nat} (hx : xs[j]? = some v) (q : Q v H) (h0 : σ[0]? = some (some (.ref t)) := by rfl) : tOp (rIxL K) (tVar 0) (tC (.int (j : Int))) σ H Q :=
  ⟨_, h0, t, xs, (j : Int), v, rfl, rfl, SqL.of hT, atI_nat hx, q⟩
theorem seq_by {S1 R : TS} {D : Ends} (N : L2.St → Hp → Prop) (hR : ∀ σ H, N σ H → R D σ H) (h1 : ∀ nx : L2.St → Hp → Prop, (∀ σ H, N σ H → nx σ H) → S1 { D with nx := nx } σ H) : tSeq S1 R D σ H := h1 _ hR
theorem set (hT : H t = some (.lst xs)) {j : Nat} {R : L2.St → Hp → Prop} (hj : j < xs.length) (q : R σ (upd H t (.lst (xs.set j v)))) (h0 : σ[0]? = some (some (.ref t)) := by rfl) : gSub (tVar 0) (tC (.int (j : Int))) rSetL v σ H R :=
  ⟨_, h0, t, xs, (j : Int), j, rfl, rfl, hT, ixn hj, q⟩
end
end Dice
namespace Lw
open PySem PySem.Spec PyProof.Rows L2 DS
def top (i : Nat) : Stmt := PySem.Challenge.pw_fullbelts_k21_holdings_and_carries_refus.main.body.getD i (.Pass ⟨0, 0, 0, 0⟩)
abbrev f_is_integer_st : Stmt := top 6
abbrev f_is_integer_N : List Str := ["thing"]
theorem f_is_integer_sc : FnScope f_is_integer_N ["thing"] (defScope f_is_integer_st) := ⟨rfl, rfl, rfl, by decide +kernel, rfl, by decide +kernel, by decide +kernel⟩
abbrev f_is_number_st : Stmt := top 7
abbrev f_is_number_N : List Str := ["thing", "many"]
theorem f_is_number_sc : FnScope f_is_number_N ["thing", "many"] (defScope f_is_number_st) := ⟨rfl, rfl, rfl, by decide +kernel, rfl, by decide +kernel, by decide +kernel⟩
abbrev f_is_tuple_st : Stmt := top 8
abbrev f_is_tuple_N : List Str := ["thing", "least", "most"]
theorem f_is_tuple_sc : FnScope f_is_tuple_N ["thing", "least", "most"] (defScope f_is_tuple_st) := ⟨rfl, rfl, rfl, by decide +kernel, rfl, by decide +kernel, by decide +kernel⟩
abbrev f_are_lengths_st : Stmt := top 14
abbrev f_are_lengths_N : List Str := ["thing", "length"]
theorem f_are_lengths_sc : FnScope f_are_lengths_N ["thing"] (defScope f_are_lengths_st) := ⟨rfl, rfl, rfl, by decide +kernel, rfl, by decide +kernel, by decide +kernel⟩
abbrev f_is_room_st : Stmt := top 15
abbrev f_is_room_N : List Str := ["lengths", "thing"]
theorem f_is_room_sc : FnScope f_is_room_N ["lengths", "thing"] (defScope f_is_room_st) := ⟨rfl, rfl, rfl, by decide +kernel, rfl, by decide +kernel, by decide +kernel⟩
abbrev f_is_holding_st : Stmt := top 16
abbrev f_is_holding_N : List Str := ["thing", "row", "item"]
theorem f_is_holding_sc : FnScope f_is_holding_N ["thing"] (defScope f_is_holding_st) := ⟨rfl, rfl, rfl, by decide +kernel, rfl, by decide +kernel, by decide +kernel⟩
abbrev f_lengths_of_st : Stmt := top 17
abbrev f_lengths_of_N : List Str := ["holding", "row"]
theorem f_lengths_of_sc : FnScope f_lengths_of_N ["holding"] (defScope f_lengths_of_st) := ⟨rfl, rfl, rfl, by decide +kernel, rfl, by decide +kernel, by decide +kernel⟩
abbrev f_put_st : Stmt := top 18
abbrev f_put_N : List Str := ["holding", "belt", "thing"]
theorem f_put_sc : FnScope f_put_N ["holding", "belt", "thing"] (defScope f_put_st) := ⟨rfl, rfl, rfl, by decide +kernel, rfl, by decide +kernel, by decide +kernel⟩
abbrev f_pushed_st : Stmt := top 19
abbrev f_pushed_N : List Str := ["holding", "belt", "thing", "row"]
theorem f_pushed_sc : FnScope f_pushed_N ["holding", "belt", "thing"] (defScope f_pushed_st) := ⟨rfl, rfl, rfl, by decide +kernel, rfl, by decide +kernel, by decide +kernel⟩
abbrev f_carried_st : Stmt := top 20
abbrev f_carried_N : List Str := ["holding", "carries"]
theorem f_carried_sc : FnScope f_carried_N ["holding", "carries"] (defScope f_carried_st) := ⟨rfl, rfl, rfl, by decide +kernel, rfl, by decide +kernel, by decide +kernel⟩
abbrev f_are_carries_st : Stmt := top 21
abbrev f_are_carries_N : List Str := ["lengths", "things", "thing"]
theorem f_are_carries_sc : FnScope f_are_carries_N ["lengths", "things"] (defScope f_are_carries_st) := ⟨rfl, rfl, rfl, by decide +kernel, rfl, by decide +kernel, by decide +kernel⟩
abbrev f_is_carry_st : Stmt := top 22
abbrev f_is_carry_N : List Str := ["lengths", "thing"]
theorem f_is_carry_sc : FnScope f_is_carry_N ["lengths", "thing"] (defScope f_is_carry_st) := ⟨rfl, rfl, rfl, by decide +kernel, rfl, by decide +kernel, by decide +kernel⟩
abbrev f_moved_st : Stmt := top 23
abbrev f_moved_N : List Str := ["holding", "carries", "behind", "room", "belt"]
theorem f_moved_sc : FnScope f_moved_N ["holding", "carries"] (defScope f_moved_st) := ⟨rfl, rfl, rfl, by decide +kernel, rfl, by decide +kernel, by decide +kernel⟩
abbrev f_law_dice_st : Stmt := top 25
abbrev f_law_dice_N : List Str := ["_law_script", "_law_cell"]
theorem f_law_dice_sc : FnScope f_law_dice_N ["_law_script"] (defScope f_law_dice_st) := ⟨rfl, rfl, rfl, by decide +kernel, rfl, by decide +kernel, by decide +kernel⟩
abbrev f_law_draw_st : Stmt := top 26
abbrev f_law_draw_N : List Str := ["_law_dice_here", "_law_sides", "_law_mixed", "_law_cell", "_law_digit"]
theorem f_law_draw_sc : FnScope f_law_draw_N ["_law_dice_here", "_law_sides"] (defScope f_law_draw_st) := ⟨rfl, rfl, rfl, by decide +kernel, rfl, by decide +kernel, by decide +kernel⟩
abbrev f_law_lengths_st : Stmt := top 27
abbrev f_law_lengths_N : List Str := ["_law_dice_here", "_law_low", "_law_high", "_law_left", "_law_found", "_law_k", "_law_length"]
theorem f_law_lengths_sc : FnScope f_law_lengths_N ["_law_dice_here", "_law_low", "_law_high"] (defScope f_law_lengths_st) := ⟨rfl, rfl, rfl, by decide +kernel, rfl, by decide +kernel, by decide +kernel⟩
abbrev f_law_room_st : Stmt := top 28
abbrev f_law_room_N : List Str := ["_law_dice_here", "_law_lengths_here", "_law_belt"]
theorem f_law_room_sc : FnScope f_law_room_N ["_law_dice_here", "_law_lengths_here"] (defScope f_law_room_st) := ⟨rfl, rfl, rfl, by decide +kernel, rfl, by decide +kernel, by decide +kernel⟩
abbrev f_law_holding_st : Stmt := top 29
abbrev f_law_holding_N : List Str := ["_law_dice_here", "_law_lengths_here", "_law_rows", "_law_length", "_law_items", "_law_k"]
theorem f_law_holding_sc : FnScope f_law_holding_N ["_law_dice_here", "_law_lengths_here"] (defScope f_law_holding_st) := ⟨rfl, rfl, rfl, by decide +kernel, rfl, by decide +kernel, by decide +kernel⟩
abbrev f_law_put_told_st : Stmt := top 30
abbrev f_law_put_told_N : List Str := ["_law_holding_here", "_law_belt", "_law_told"]
theorem f_law_put_told_sc : FnScope f_law_put_told_N ["_law_holding_here", "_law_belt"] (defScope f_law_put_told_st) := ⟨rfl, rfl, rfl, by decide +kernel, rfl, by decide +kernel, by decide +kernel⟩
abbrev f_law_carried_told_st : Stmt := top 31
abbrev f_law_carried_told_N : List Str := ["_law_holding_here", "_law_carries", "_law_told"]
theorem f_law_carried_told_sc : FnScope f_law_carried_told_N ["_law_holding_here", "_law_carries"] (defScope f_law_carried_told_st) := ⟨rfl, rfl, rfl, by decide +kernel, rfl, by decide +kernel, by decide +kernel⟩
abbrev f_law_no_holding_st : Stmt := top 32
abbrev f_law_no_holding_N : List Str := ["_law_dice_here", "_law_holding_here", "_law_spot", "_law_odd", "_law_row", "_law_room_here", "_law_things"]
theorem f_law_no_holding_sc : FnScope f_law_no_holding_N ["_law_dice_here", "_law_holding_here"] (defScope f_law_no_holding_st) := ⟨rfl, rfl, rfl, by decide +kernel, rfl, by decide +kernel, by decide +kernel⟩
abbrev f_law_no_carry_st : Stmt := top 33
abbrev f_law_no_carry_N : List Str := ["_law_dice_here", "_law_lengths_here", "_law_belt", "_law_wrong", "_law_things"]
theorem f_law_no_carry_sc : FnScope f_law_no_carry_N ["_law_dice_here", "_law_lengths_here"] (defScope f_law_no_carry_st) := ⟨rfl, rfl, rfl, by decide +kernel, rfl, by decide +kernel, by decide +kernel⟩
abbrev f_law_st : Stmt := top 34
abbrev f_law_N : List Str := ["_law_script", "_law_dice_here", "_law_lengths_here", "_law_holding_here", "_law_turn", "_law_wrong", "_law_belt", "_law_carries", "_law_spot", "_law_bent", "_law_thing", "_law_k"]
theorem f_law_sc : FnScope f_law_N ["_law_script"] (defScope f_law_st) := ⟨rfl, rfl, rfl, by decide +kernel, rfl, by decide +kernel, by decide +kernel⟩
structure Ad where
  c_NoBelt : Addr
  c_NoCarries : Addr
  c_NoHolding : Addr
  v_LONGEST : Value
  v_MOST_BELTS : Value
  v_MOST_CARRIES : Value
  v_MOST_ROOMS : Value
  p_f_is_integer : Addr
  d_f_is_integer : FuncData
  p_f_is_number : Addr
  d_f_is_number : FuncData
  p_f_is_tuple : Addr
  d_f_is_tuple : FuncData
  p_f_are_lengths : Addr
  d_f_are_lengths : FuncData
  p_f_is_room : Addr
  d_f_is_room : FuncData
  p_f_is_holding : Addr
  d_f_is_holding : FuncData
  p_f_lengths_of : Addr
  d_f_lengths_of : FuncData
  p_f_put : Addr
  d_f_put : FuncData
  p_f_pushed : Addr
  d_f_pushed : FuncData
  p_f_carried : Addr
  d_f_carried : FuncData
  p_f_are_carries : Addr
  d_f_are_carries : FuncData
  p_f_is_carry : Addr
  d_f_is_carry : FuncData
  p_f_moved : Addr
  d_f_moved : FuncData
  p_f_law_dice : Addr
  d_f_law_dice : FuncData
  p_f_law_draw : Addr
  d_f_law_draw : FuncData
  p_f_law_lengths : Addr
  d_f_law_lengths : FuncData
  p_f_law_room : Addr
  d_f_law_room : FuncData
  p_f_law_holding : Addr
  d_f_law_holding : FuncData
  p_f_law_put_told : Addr
  d_f_law_put_told : FuncData
  p_f_law_carried_told : Addr
  d_f_law_carried_told : FuncData
  p_f_law_no_holding : Addr
  d_f_law_no_holding : FuncData
  p_f_law_no_carry : Addr
  d_f_law_no_carry : FuncData
  p_f_law : Addr
  d_f_law : FuncData
structure Txt (K : PySem.W.Frag) (mg : Str → Option Value) (a : Ad) : Prop where
  n_abs : mg "abs" = none
  n_all : mg "all" = none
  n_bool : mg "bool" = none
  n_int : mg "int" = none
  n_isinstance : mg "isinstance" = none
  n_len : mg "len" = none
  n_list : mg "list" = none
  n_min : mg "min" = none
  n_range : mg "range" = none
  n_str : mg "str" = none
  n_sum : mg "sum" = none
  n_tuple : mg "tuple" = none
  c_LONGEST : mg "LONGEST" = some a.v_LONGEST ∧ RelV (.int 8) a.v_LONGEST
  c_MOST_BELTS : mg "MOST_BELTS" = some a.v_MOST_BELTS ∧ RelV (.int 6) a.v_MOST_BELTS
  c_MOST_CARRIES : mg "MOST_CARRIES" = some a.v_MOST_CARRIES ∧ RelV (.int 1000) a.v_MOST_CARRIES
  c_MOST_ROOMS : mg "MOST_ROOMS" = some a.v_MOST_ROOMS ∧ RelV (.int 12) a.v_MOST_ROOMS
  g_NoBelt : mg "NoBelt" = some (.ref a.c_NoBelt)
  x_NoBelt : PySem.W.excIn K a.c_NoBelt [.type "ValueError", .type "Exception", .type "BaseException", .type "object"] "ValueError.__new__" = true
  k_NoBelt : PySem.W.keepIn K (.ref a.c_NoBelt) = true
  b_NoBelt : PySem.W.subIn K (.ref a.c_NoBelt) (.type "BaseException") = some true
  t_NoBelt : PySem.W.typeIn K (.ref a.c_NoBelt) = some (.type "type")
  g_NoCarries : mg "NoCarries" = some (.ref a.c_NoCarries)
  x_NoCarries : PySem.W.excIn K a.c_NoCarries [.type "ValueError", .type "Exception", .type "BaseException", .type "object"] "ValueError.__new__" = true
  k_NoCarries : PySem.W.keepIn K (.ref a.c_NoCarries) = true
  b_NoCarries : PySem.W.subIn K (.ref a.c_NoCarries) (.type "BaseException") = some true
  t_NoCarries : PySem.W.typeIn K (.ref a.c_NoCarries) = some (.type "type")
  g_NoHolding : mg "NoHolding" = some (.ref a.c_NoHolding)
  x_NoHolding : PySem.W.excIn K a.c_NoHolding [.type "ValueError", .type "Exception", .type "BaseException", .type "object"] "ValueError.__new__" = true
  k_NoHolding : PySem.W.keepIn K (.ref a.c_NoHolding) = true
  b_NoHolding : PySem.W.subIn K (.ref a.c_NoHolding) (.type "BaseException") = some true
  t_NoHolding : PySem.W.typeIn K (.ref a.c_NoHolding) = some (.type "type")
  m_NoBelt_NoBelt : PySem.W.exmOne K (.ref a.c_NoBelt) (.ref a.c_NoBelt) = some true
  m_NoBelt_NoCarries : PySem.W.exmOne K (.ref a.c_NoBelt) (.ref a.c_NoCarries) = some false
  m_NoBelt_NoHolding : PySem.W.exmOne K (.ref a.c_NoBelt) (.ref a.c_NoHolding) = some false
  m_NoCarries_NoBelt : PySem.W.exmOne K (.ref a.c_NoCarries) (.ref a.c_NoBelt) = some false
  m_NoCarries_NoCarries : PySem.W.exmOne K (.ref a.c_NoCarries) (.ref a.c_NoCarries) = some true
  m_NoCarries_NoHolding : PySem.W.exmOne K (.ref a.c_NoCarries) (.ref a.c_NoHolding) = some false
  m_NoHolding_NoBelt : PySem.W.exmOne K (.ref a.c_NoHolding) (.ref a.c_NoBelt) = some false
  m_NoHolding_NoCarries : PySem.W.exmOne K (.ref a.c_NoHolding) (.ref a.c_NoCarries) = some false
  m_NoHolding_NoHolding : PySem.W.exmOne K (.ref a.c_NoHolding) (.ref a.c_NoHolding) = some true
  g_f_is_integer : mg "is_integer" = some (.ref a.p_f_is_integer)
  F_f_is_integer : Fun K "is_integer" "is_integer" f_is_integer_st a.p_f_is_integer a.d_f_is_integer
  g_f_is_number : mg "is_number" = some (.ref a.p_f_is_number)
  F_f_is_number : Fun K "is_number" "is_number" f_is_number_st a.p_f_is_number a.d_f_is_number
  g_f_is_tuple : mg "is_tuple" = some (.ref a.p_f_is_tuple)
  F_f_is_tuple : Fun K "is_tuple" "is_tuple" f_is_tuple_st a.p_f_is_tuple a.d_f_is_tuple
  g_f_are_lengths : mg "are_lengths" = some (.ref a.p_f_are_lengths)
  F_f_are_lengths : Fun K "are_lengths" "are_lengths" f_are_lengths_st a.p_f_are_lengths a.d_f_are_lengths
  g_f_is_room : mg "is_room" = some (.ref a.p_f_is_room)
  F_f_is_room : Fun K "is_room" "is_room" f_is_room_st a.p_f_is_room a.d_f_is_room
  g_f_is_holding : mg "is_holding" = some (.ref a.p_f_is_holding)
  F_f_is_holding : Fun K "is_holding" "is_holding" f_is_holding_st a.p_f_is_holding a.d_f_is_holding
  g_f_lengths_of : mg "lengths_of" = some (.ref a.p_f_lengths_of)
  F_f_lengths_of : Fun K "lengths_of" "lengths_of" f_lengths_of_st a.p_f_lengths_of a.d_f_lengths_of
  g_f_put : mg "put" = some (.ref a.p_f_put)
  F_f_put : Fun K "put" "put" f_put_st a.p_f_put a.d_f_put
  g_f_pushed : mg "pushed" = some (.ref a.p_f_pushed)
  F_f_pushed : Fun K "pushed" "pushed" f_pushed_st a.p_f_pushed a.d_f_pushed
  g_f_carried : mg "carried" = some (.ref a.p_f_carried)
  F_f_carried : Fun K "carried" "carried" f_carried_st a.p_f_carried a.d_f_carried
  g_f_are_carries : mg "are_carries" = some (.ref a.p_f_are_carries)
  F_f_are_carries : Fun K "are_carries" "are_carries" f_are_carries_st a.p_f_are_carries a.d_f_are_carries
  g_f_is_carry : mg "is_carry" = some (.ref a.p_f_is_carry)
  F_f_is_carry : Fun K "is_carry" "is_carry" f_is_carry_st a.p_f_is_carry a.d_f_is_carry
  g_f_moved : mg "moved" = some (.ref a.p_f_moved)
  F_f_moved : Fun K "moved" "moved" f_moved_st a.p_f_moved a.d_f_moved
  g_f_law_dice : mg "_law_dice" = some (.ref a.p_f_law_dice)
  F_f_law_dice : Fun K "_law_dice" "_law_dice" f_law_dice_st a.p_f_law_dice a.d_f_law_dice
  g_f_law_draw : mg "_law_draw" = some (.ref a.p_f_law_draw)
  F_f_law_draw : Fun K "_law_draw" "_law_draw" f_law_draw_st a.p_f_law_draw a.d_f_law_draw
  g_f_law_lengths : mg "_law_lengths" = some (.ref a.p_f_law_lengths)
  F_f_law_lengths : Fun K "_law_lengths" "_law_lengths" f_law_lengths_st a.p_f_law_lengths a.d_f_law_lengths
  g_f_law_room : mg "_law_room" = some (.ref a.p_f_law_room)
  F_f_law_room : Fun K "_law_room" "_law_room" f_law_room_st a.p_f_law_room a.d_f_law_room
  g_f_law_holding : mg "_law_holding" = some (.ref a.p_f_law_holding)
  F_f_law_holding : Fun K "_law_holding" "_law_holding" f_law_holding_st a.p_f_law_holding a.d_f_law_holding
  g_f_law_put_told : mg "_law_put_told" = some (.ref a.p_f_law_put_told)
  F_f_law_put_told : Fun K "_law_put_told" "_law_put_told" f_law_put_told_st a.p_f_law_put_told a.d_f_law_put_told
  g_f_law_carried_told : mg "_law_carried_told" = some (.ref a.p_f_law_carried_told)
  F_f_law_carried_told : Fun K "_law_carried_told" "_law_carried_told" f_law_carried_told_st a.p_f_law_carried_told a.d_f_law_carried_told
  g_f_law_no_holding : mg "_law_no_holding" = some (.ref a.p_f_law_no_holding)
  F_f_law_no_holding : Fun K "_law_no_holding" "_law_no_holding" f_law_no_holding_st a.p_f_law_no_holding a.d_f_law_no_holding
  g_f_law_no_carry : mg "_law_no_carry" = some (.ref a.p_f_law_no_carry)
  F_f_law_no_carry : Fun K "_law_no_carry" "_law_no_carry" f_law_no_carry_st a.p_f_law_no_carry a.d_f_law_no_carry
  g_f_law : mg "law" = some (.ref a.p_f_law)
  F_f_law : Fun K "law" "law" f_law_st a.p_f_law a.d_f_law
theorem Txt.B_f_is_integer {K : PySem.W.Frag} {mg : Str → Option Value} {a : Ad} (T : Txt K mg a) : Binds K a.d_f_is_integer ["thing"] [] := T.F_f_is_integer.binds fun _ _ _ _ _ _ us hl => match us, hl with | [_], _ => rfl
theorem Txt.B_f_is_number {K : PySem.W.Frag} {mg : Str → Option Value} {a : Ad} (T : Txt K mg a) : Binds K a.d_f_is_number ["thing", "many"] [] := T.F_f_is_number.binds fun _ _ _ _ _ _ us hl => match us, hl with | [_, _], _ => rfl
theorem Txt.B_f_is_tuple {K : PySem.W.Frag} {mg : Str → Option Value} {a : Ad} (T : Txt K mg a) : Binds K a.d_f_is_tuple ["thing", "least", "most"] [] := T.F_f_is_tuple.binds fun _ _ _ _ _ _ us hl => match us, hl with | [_, _, _], _ => rfl
theorem Txt.B_f_are_lengths {K : PySem.W.Frag} {mg : Str → Option Value} {a : Ad} (T : Txt K mg a) : Binds K a.d_f_are_lengths ["thing"] [] := T.F_f_are_lengths.binds fun _ _ _ _ _ _ us hl => match us, hl with | [_], _ => rfl
theorem Txt.B_f_is_room {K : PySem.W.Frag} {mg : Str → Option Value} {a : Ad} (T : Txt K mg a) : Binds K a.d_f_is_room ["lengths", "thing"] [] := T.F_f_is_room.binds fun _ _ _ _ _ _ us hl => match us, hl with | [_, _], _ => rfl
theorem Txt.B_f_is_holding {K : PySem.W.Frag} {mg : Str → Option Value} {a : Ad} (T : Txt K mg a) : Binds K a.d_f_is_holding ["thing"] [] := T.F_f_is_holding.binds fun _ _ _ _ _ _ us hl => match us, hl with | [_], _ => rfl
theorem Txt.B_f_lengths_of {K : PySem.W.Frag} {mg : Str → Option Value} {a : Ad} (T : Txt K mg a) : Binds K a.d_f_lengths_of ["holding"] [] := T.F_f_lengths_of.binds fun _ _ _ _ _ _ us hl => match us, hl with | [_], _ => rfl
theorem Txt.B_f_put {K : PySem.W.Frag} {mg : Str → Option Value} {a : Ad} (T : Txt K mg a) : Binds K a.d_f_put ["holding", "belt", "thing"] [] := T.F_f_put.binds fun _ _ _ _ _ _ us hl => match us, hl with | [_, _, _], _ => rfl
theorem Txt.B_f_pushed {K : PySem.W.Frag} {mg : Str → Option Value} {a : Ad} (T : Txt K mg a) : Binds K a.d_f_pushed ["holding", "belt", "thing"] [] := T.F_f_pushed.binds fun _ _ _ _ _ _ us hl => match us, hl with | [_, _, _], _ => rfl
theorem Txt.B_f_carried {K : PySem.W.Frag} {mg : Str → Option Value} {a : Ad} (T : Txt K mg a) : Binds K a.d_f_carried ["holding", "carries"] [] := T.F_f_carried.binds fun _ _ _ _ _ _ us hl => match us, hl with | [_, _], _ => rfl
theorem Txt.B_f_are_carries {K : PySem.W.Frag} {mg : Str → Option Value} {a : Ad} (T : Txt K mg a) : Binds K a.d_f_are_carries ["lengths", "things"] [] := T.F_f_are_carries.binds fun _ _ _ _ _ _ us hl => match us, hl with | [_, _], _ => rfl
theorem Txt.B_f_is_carry {K : PySem.W.Frag} {mg : Str → Option Value} {a : Ad} (T : Txt K mg a) : Binds K a.d_f_is_carry ["lengths", "thing"] [] := T.F_f_is_carry.binds fun _ _ _ _ _ _ us hl => match us, hl with | [_, _], _ => rfl
theorem Txt.B_f_moved {K : PySem.W.Frag} {mg : Str → Option Value} {a : Ad} (T : Txt K mg a) : Binds K a.d_f_moved ["holding", "carries"] [] := T.F_f_moved.binds fun _ _ _ _ _ _ us hl => match us, hl with | [_, _], _ => rfl
theorem Txt.B_f_law_dice {K : PySem.W.Frag} {mg : Str → Option Value} {a : Ad} (T : Txt K mg a) : Binds K a.d_f_law_dice ["_law_script"] [] := T.F_f_law_dice.binds fun _ _ _ _ _ _ us hl => match us, hl with | [_], _ => rfl
theorem Txt.B_f_law_draw {K : PySem.W.Frag} {mg : Str → Option Value} {a : Ad} (T : Txt K mg a) : Binds K a.d_f_law_draw ["_law_dice_here", "_law_sides"] [] := T.F_f_law_draw.binds fun _ _ _ _ _ _ us hl => match us, hl with | [_, _], _ => rfl
theorem Txt.B_f_law_lengths {K : PySem.W.Frag} {mg : Str → Option Value} {a : Ad} (T : Txt K mg a) : Binds K a.d_f_law_lengths ["_law_dice_here", "_law_low", "_law_high"] [] := T.F_f_law_lengths.binds fun _ _ _ _ _ _ us hl => match us, hl with | [_, _, _], _ => rfl
theorem Txt.B_f_law_room {K : PySem.W.Frag} {mg : Str → Option Value} {a : Ad} (T : Txt K mg a) : Binds K a.d_f_law_room ["_law_dice_here", "_law_lengths_here"] [] := T.F_f_law_room.binds fun _ _ _ _ _ _ us hl => match us, hl with | [_, _], _ => rfl
theorem Txt.B_f_law_holding {K : PySem.W.Frag} {mg : Str → Option Value} {a : Ad} (T : Txt K mg a) : Binds K a.d_f_law_holding ["_law_dice_here", "_law_lengths_here"] [] := T.F_f_law_holding.binds fun _ _ _ _ _ _ us hl => match us, hl with | [_, _], _ => rfl
theorem Txt.B_f_law_put_told {K : PySem.W.Frag} {mg : Str → Option Value} {a : Ad} (T : Txt K mg a) : Binds K a.d_f_law_put_told ["_law_holding_here", "_law_belt"] [] := T.F_f_law_put_told.binds fun _ _ _ _ _ _ us hl => match us, hl with | [_, _], _ => rfl
theorem Txt.B_f_law_carried_told {K : PySem.W.Frag} {mg : Str → Option Value} {a : Ad} (T : Txt K mg a) : Binds K a.d_f_law_carried_told ["_law_holding_here", "_law_carries"] [] := T.F_f_law_carried_told.binds fun _ _ _ _ _ _ us hl => match us, hl with | [_, _], _ => rfl
theorem Txt.B_f_law_no_holding {K : PySem.W.Frag} {mg : Str → Option Value} {a : Ad} (T : Txt K mg a) : Binds K a.d_f_law_no_holding ["_law_dice_here", "_law_holding_here"] [] := T.F_f_law_no_holding.binds fun _ _ _ _ _ _ us hl => match us, hl with | [_, _], _ => rfl
theorem Txt.B_f_law_no_carry {K : PySem.W.Frag} {mg : Str → Option Value} {a : Ad} (T : Txt K mg a) : Binds K a.d_f_law_no_carry ["_law_dice_here", "_law_lengths_here"] [] := T.F_f_law_no_carry.binds fun _ _ _ _ _ _ us hl => match us, hl with | [_, _], _ => rfl

@[irreducible] def f_law_draw_sf (_ : PySem.W.Frag) (_ : Ad) : SF := drawS
section
variable {P : Program} {w : World} {K : PySem.W.Frag} {mg : Str → Option Value} {base : Heap} {a : Ad} {t l : Addr}
theorem f_law_draw_ok (T : Txt K mg a) : FnOk P w K mg base (L2.CX P w) 1 a.p_f_law_draw a.d_f_law_draw ["_law_dice_here", "_law_sides"] (spD t l Ti (f_law_draw_sf K a)) := by
  refine T.F_f_law_draw.okX f_law_draw_sc (fun vs H Q E h => ?_) (fun cdv A outer s H vs Q E hr h => ?_)
  · obtain ⟨O, ds, PD, PX, _, _, _, _, r, hs, _⟩ := h
    unfold f_law_draw_sf drawS at hs
    split at hs
    · rw [r.length]
      rfl
    · exact hs.elim
  · obtain ⟨O, ds, PD, PX, T0, t1, l1, ha, r, hs, q, _⟩ := h
    unfold f_law_draw_sf drawS at hs
    split at hs
    · rename_i n
      obtain ⟨n0, n1, hs⟩ := hs
      cases r with
      | cons r0 r1 =>
        cases r0
        cases r1 with
        | cons r2 r3 =>
          cases r2
          cases r3
          obtain ⟨ns, i, j, k, m, hT, hL, hI⟩ := id T0
          have tl := T0.lt
          refine ⟨_, pss_cons (ps_if (PW.pt (pw_and (pt_cmpR op_eq (pe_ix ix_list (pv 0) pe_int (fun _ _ => rfl)) pe_int (nomark _)) (pw_and1 (pt_cmpR op_lt (pe_ix ix_list (pv 0) pe_int (fun _ _ => rfl)) (pe_callB call_len_seq (by rfl) T.n_len (by decide +kernel) (pa_cons (pe_ix ix_list (pv 0) pe_int (fun _ _ => rfl)) pa_nil)) (nomark _)))))
      (pss_cons (ps_set (i := 3) f_law_draw_sc.nd rfl (by first | exact Or.inl rfl | exact Or.inr rfl) (pe_ix ix_list (pe_ix ix_list (pv 0) pe_int (fun _ _ => rfl)) (pe_ix ix_list (pv 0) pe_int (fun _ _ => rfl)) (fun _ _ => rfl)))
      (pss_cons (ps_asg (pe_op op_add (pe_ix ix_list (pv 0) pe_int (fun _ _ => rfl)) pe_int) (pg_sub (pv 0) pe_int set_list))
      (pss_one (ps_if (pt_cmpR op_ge (pv 3) (pe_op op_pow pe_int pe_int) (nomark _)) (pss_one (ps_asg (pv 3) (pg_sub (pv 0) pe_int set_list))) (pss_one (ps_asg (pe_op op_mod (pe_callTy call_int1 (by rfl) T.n_int (by decide +kernel) (pa_cons (pe_op op_add (pe_op op_add (pe_op op_mul (pe_ix ix_list (pv 0) pe_int (fun _ _ => rfl)) pe_int) (pe_op op_mul (pv 3) pe_int)) (pe_ix ix_list (pv 0) pe_int (fun _ _ => rfl))) pa_nil)) pe_int) (pg_sub (pv 0) pe_int set_list))))))) pss_nil)
    (pss_cons (ps_if (pt_cmpR op_gt (pe_ix ix_list (pv 0) pe_int (fun _ _ => rfl)) pe_int (nomark _)) (pss_cons (ps_set (i := 4) f_law_draw_sc.nd rfl (by first | exact Or.inl rfl | exact Or.inr rfl) (pe_op op_mod (pe_callTy call_int1 (by rfl) T.n_int (by decide +kernel) (pa_cons (pe_ix ix_list (pv 0) pe_int (fun _ _ => rfl)) pa_nil)) (pv 1))) (pss_cons (ps_asg (pe_op op_fdiv (pe_callTy call_int1 (by rfl) T.n_int (by decide +kernel) (pa_cons (pe_ix ix_list (pv 0) pe_int (fun _ _ => rfl)) pa_nil)) (pv 1)) (pg_sub (pv 0) pe_int set_list)) (pss_one (ps_ret (pv 4))))) pss_nil)
    (pss_cons (ps_asg (pe_op op_add (pe_ix ix_list (pv 0) pe_int (fun _ _ => rfl)) pe_int) (pg_sub (pv 0) pe_int set_list))
    (pss_cons (ps_asg (pe_op op_mod (pe_callTy call_int1 (by rfl) T.n_int (by decide +kernel) (pa_cons (pe_op op_add (pe_op op_add (pe_op op_mul (pe_ix ix_list (pv 0) pe_int (fun _ _ => rfl)) pe_int) (pe_op op_mul (pe_ix ix_list (pv 0) pe_int (fun _ _ => rfl)) pe_int)) pe_int) pa_nil)) pe_int) (pg_sub (pv 0) pe_int set_list))
    (pss_cons (ps_set (i := 2) f_law_draw_sc.nd rfl (by first | exact Or.inl rfl | exact Or.inr rfl) (pe_op op_mod (pe_callTy call_int1 (by rfl) T.n_int (by decide +kernel) (pa_cons (pe_op op_mul (pe_ix ix_list (pv 0) pe_int (fun _ _ => rfl)) (pe_op op_add (pe_op op_fdiv (pe_ix ix_list (pv 0) pe_int (fun _ _ => rfl)) pe_int) pe_int)) pa_nil)) pe_int))
    (pss_cons (ps_set (i := 2) f_law_draw_sc.nd rfl (by first | exact Or.inl rfl | exact Or.inr rfl) (pe_op op_mod (pe_callTy call_int1 (by rfl) T.n_int (by decide +kernel) (pa_cons (pe_op op_mul (pv 2) (pe_op op_add (pe_op op_fdiv (pv 2) pe_int) pe_int)) pa_nil)) pe_int))
    (pss_one (ps_ret (pe_op op_mod (pe_callTy call_int1 (by rfl) T.n_int (by decide +kernel) (pa_cons (pe_op op_fdiv (pv 2) pe_int) pa_nil)) (pv 1))))))))), ?_⟩
          have fin : ∀ (H' : Hp) (i j k m d : Int), (∀ a o, a ≠ t → H a = some o → H' a = some o) → H' t = some (.lst [.ref l, .int i, .int j, .int k, .int m]) → 0 ≤ i → 0 ≤ j → (0 ≤ k ∧ k < 2147483647) → 0 ≤ m → 0 ≤ d → d < n → Q (.int d) H' :=
            fun H' i j k m d hk hT hi hj hk1 hm d0 d1 => q (.int d) (.int d) H' (hs d d0 d1) ⟨hk, ns, i, j, k, m, hT, hk l _ (Ne.symm tl) hL, hI.1, hi, hj, hk1, hm⟩ (.int d)
          have kp : ∀ (H' : Hp) (o : HO), (∀ a o, a ≠ t → H a = some o → H' a = some o) → ∀ a u, a ≠ t → H a = some u → upd H' t o a = some u := fun H' o hk a u ne e => by
            rw [upd_ne ne]
            exact hk a u ne e
          have n2 : n ≠ 0 := by omega
          refine Dice.seq_by (fun σ' H' => ∃ (i j k : Int) (x3 : Option V), σ' = [some (.ref t), some (.int n), none, x3, none] ∧ (∀ a o, a ≠ t → H a = some o → H' a = some o) ∧ H' t = some (.lst [.ref l, .int i, .int j, .int k, .int m]) ∧ 0 ≤ i ∧ 0 ≤ j ∧ (0 ≤ k ∧ k < 2147483647)) ?_ ?_
          rotate_left
          · intro nx hN
            refine ⟨_, rfl, t, _, 2, _, rfl, rfl, SqL.of hT, atI_nat (j := 2) rfl, ?_⟩
            refine ⟨rfl, _, rfl, ite2 (fun e => ?_) (fun e => ?_)⟩
            · refine ⟨_, rfl, t, _, 1, _, rfl, rfl, SqL.of hT, atI_nat (j := 1) rfl, ?_⟩
              refine ⟨_, rfl, t, _, 0, _, rfl, rfl, SqL.of hT, atI_nat (j := 0) rfl, ?_⟩
              refine ⟨l, ns.map V.int, rfl, .inl (SqL.of hL), ?_⟩
              refine ⟨_, _, rfl, rfl, _, rfl, ite2 (fun e => ?_) (fun e => ?_)⟩
              · have hi := of_decide_eq_true e
                rw [List.length_map] at hi
                obtain ⟨i', rfl⟩ := Int.eq_ofNat_of_zero_le hI.2.1
                have hi' : i' < ns.length := by omega
                have hv : (ns.map V.int)[i']? = some (.int ns[i']) := by rw [List.getElem?_map, List.getElem?_eq_getElem hi']; rfl
                have hv0 : 0 ≤ ns[i'] := hI.1 _ (List.getElem_mem hi')
                refine ⟨_, rfl, t, _, 0, _, rfl, rfl, SqL.of hT, atI_nat (j := 0) rfl, ?_⟩
                refine ⟨_, rfl, t, _, 1, _, rfl, rfl, SqL.of hT, atI_nat (j := 1) rfl, ?_⟩
                refine ⟨l, _, _, _, rfl, rfl, SqL.of hL, atI_nat hv, ?_⟩
                generalize ns[i'] = cell at hv0 ⊢
                refine ⟨_, rfl, t, _, 1, _, rfl, rfl, SqL.of hT, atI_nat (j := 1) rfl, ?_⟩
                refine ⟨_, _, rfl, rfl, ?_⟩
                refine Dice.set hT (j := 1) (by simp) ?_
                have hT1 : upd H t (.lst [.ref l, .int ((i' : Int) + 1), .int j, .int k, .int m]) t = some (.lst [.ref l, .int ((i' : Int) + 1), .int j, .int k, .int m]) := upd_same
                refine ⟨_, rfl, ?_⟩
                refine ⟨_, _, rfl, rfl, ⟨by decide, by decide, by decide⟩, ?_⟩
                refine ⟨_, _, rfl, rfl, _, rfl, ite2 (fun e => ?_) (fun e => ?_)⟩
                · refine ⟨_, rfl, ?_⟩
                  refine Dice.set hT1 (j := 2) (by simp) ?_
                  exact hN _ _ ⟨_, cell, k, _, rfl, kp _ _ (kp _ _ (fun _ _ _ e => e)), upd_same, by omega, hv0, hI.2.2.2.1⟩
                · refine ⟨_, rfl, t, _, 3, _, rfl, rfl, SqL.of hT1, atI_nat (j := 3) rfl, ?_⟩
                  refine ⟨_, _, rfl, rfl, .inr ⟨by decide, by decide⟩, ?_⟩
                  refine ⟨_, rfl, _, _, rfl, rfl, .inr ⟨by decide, by decide⟩, ?_⟩
                  refine ⟨_, _, rfl, rfl, ?_⟩
                  refine ⟨_, rfl, t, _, 1, _, rfl, rfl, SqL.of hT1, atI_nat (j := 1) rfl, ?_⟩
                  refine ⟨_, _, rfl, rfl, ?_⟩
                  refine .inl ⟨_, rfl, ?_⟩
                  refine ⟨_, _, rfl, rfl, (by decide : (0 : Int) < 2147483647), ?_⟩
                  refine Dice.set hT1 (j := 3) (by simp) ?_
                  exact hN _ _ ⟨_, j, _, _, rfl, kp _ _ (kp _ _ (fun _ _ _ e => e)), upd_same, by omega, hI.2.2.1, Int.emod_nonneg _ (by decide), Int.emod_lt_of_pos _ (by decide)⟩
              · exact hN _ _ ⟨i, j, k, none, rfl, fun _ _ _ e => e, hT, hI.2.1, hI.2.2.1, hI.2.2.2.1⟩
            · exact hN _ _ ⟨i, j, k, none, rfl, fun _ _ _ e => e, hT, hI.2.1, hI.2.2.1, hI.2.2.2.1⟩
          rintro _ H1 ⟨i, j, k, x3, rfl, hk1, hT1, i1, j1, k1⟩
          -- if dice[2] > 0
          refine ⟨_, rfl, t, _, 2, _, rfl, rfl, SqL.of hT1, atI_nat (j := 2) rfl, ?_⟩
          refine ⟨_, _, rfl, rfl, _, rfl, ite2 (fun e => ?_) (fun e => ?_)⟩
          · -- digit
            refine ⟨_, rfl, t, _, 2, _, rfl, rfl, SqL.of hT1, atI_nat (j := 2) rfl, ?_⟩
            refine .inl ⟨_, rfl, ?_⟩
            refine ⟨_, rfl, _, _, rfl, rfl, n0, ?_⟩
            refine ⟨_, rfl, t, _, 2, _, rfl, rfl, SqL.of hT1, atI_nat (j := 2) rfl, ?_⟩
            refine .inl ⟨_, rfl, ?_⟩
            refine ⟨_, rfl, _, _, rfl, rfl, ⟨n0, by omega⟩, ?_⟩
            refine Dice.set hT1 (j := 2) (by simp) ?_
            refine ⟨_, rfl, ?_⟩
            exact fin _ i (j / n) k m _ (kp _ _ hk1) upd_same i1 (Int.ediv_nonneg j1 (by omega)) k1 hI.2.2.2.2 (Int.emod_nonneg _ n2) (Int.emod_lt_of_pos _ n0)
          · refine ⟨_, rfl, t, _, 4, _, rfl, rfl, SqL.of hT1, atI_nat (j := 4) rfl, ?_⟩
            refine ⟨_, _, rfl, rfl, ?_⟩
            refine Dice.set hT1 (j := 4) (by simp) ?_
            have hT2 : upd H1 t (.lst [.ref l, .int i, .int j, .int k, .int (m + 1)]) t = some (.lst [.ref l, .int i, .int j, .int k, .int (m + 1)]) := upd_same
            show _
            refine ⟨_, rfl, t, _, 3, _, rfl, rfl, SqL.of hT2, atI_nat (j := 3) rfl, ?_⟩
            refine ⟨_, _, rfl, rfl, .inr ⟨by decide, by decide⟩, ?_⟩
            refine ⟨_, rfl, t, _, 4, _, rfl, rfl, SqL.of hT2, atI_nat (j := 4) rfl, ?_⟩
            refine ⟨_, _, rfl, rfl, .inr ⟨by decide, by decide⟩, ?_⟩
            refine ⟨_, _, rfl, rfl, ?_⟩
            refine ⟨_, _, rfl, rfl, ?_⟩
            refine .inl ⟨_, rfl, ?_⟩
            refine ⟨_, _, rfl, rfl, (by decide : (0 : Int) < 2147483647), ?_⟩
            refine Dice.set hT2 (j := 3) (by simp) ?_
            have z0 := Int.emod_nonneg (k * 48271 + (m + 1) * 7919 + 1) (by decide : (2147483647 : Int) ≠ 0)
            have z1 := Int.emod_lt_of_pos (k * 48271 + (m + 1) * 7919 + 1) (by decide : (0 : Int) < 2147483647)
            dsimp only
            generalize (k * 48271 + (m + 1) * 7919 + 1) % 2147483647 = k2 at z0 z1 ⊢
            have hT3 : upd (upd H1 t (.lst [.ref l, .int i, .int j, .int k, .int (m + 1)])) t (.lst [.ref l, .int i, .int j, .int k2, .int (m + 1)]) t = some (.lst [.ref l, .int i, .int j, .int k2, .int (m + 1)]) := upd_same
            refine ⟨_, rfl, t, _, 3, _, rfl, rfl, SqL.of hT3, atI_nat (j := 3) rfl, ?_⟩
            refine ⟨_, rfl, t, _, 3, _, rfl, rfl, SqL.of hT3, atI_nat (j := 3) rfl, ?_⟩
            refine ⟨_, _, rfl, rfl, ⟨by decide, by decide⟩, ?_⟩
            refine ⟨_, _, rfl, rfl, ?_⟩
            refine ⟨_, _, rfl, rfl, .inl ⟨by omega, by omega⟩, ?_⟩
            refine .inl ⟨_, rfl, ?_⟩
            refine ⟨_, _, rfl, rfl, (by decide : (0 : Int) < 2147483399), ?_⟩
            have y0 := Int.emod_nonneg (k2 * (k2 / 1009 + 69623)) (by decide : (2147483399 : Int) ≠ 0)
            have y1 := Int.emod_lt_of_pos (k2 * (k2 / 1009 + 69623)) (by decide : (0 : Int) < 2147483399)
            dsimp only
            generalize (k2 * (k2 / 1009 + 69623)) % 2147483399 = mx at y0 y1 ⊢
            refine ⟨_, rfl, _, rfl, ?_⟩
            refine ⟨_, _, rfl, rfl, ⟨by decide, by decide⟩, ?_⟩
            refine ⟨_, _, rfl, rfl, ?_⟩
            refine ⟨_, _, rfl, rfl, .inl ⟨by omega, by omega⟩, ?_⟩
            refine .inl ⟨_, rfl, ?_⟩
            refine ⟨_, _, rfl, rfl, (by decide : (0 : Int) < 2147483563), ?_⟩
            refine ⟨_, rfl, ?_⟩
            refine ⟨_, _, rfl, rfl, ⟨by decide, by decide⟩, ?_⟩
            refine .inl ⟨_, rfl, ?_⟩
            refine ⟨_, rfl, _, _, rfl, rfl, n0, ?_⟩
            exact fin _ i j k2 (m + 1) _ (kp _ _ (kp _ _ hk1)) upd_same i1 j1 ⟨z0, z1⟩ (by have := hI.2.2.2.2; omega) (Int.emod_nonneg _ n2) (Int.emod_lt_of_pos _ n0)
    · exact hs.elim
end
def f_is_integer_ss (K : PySem.W.Frag) (a : Ad) : SS :=
  (sRet (sAndV (sCB isiD (saC (sVarB 0) (saC (sC (.ty "int")) saN))) (sNotV (sCB isiD (saC (sVarB 0) (saC (sC (.ty "bool")) saN))))))
@[irreducible] def f_is_integer_sf (K : PySem.W.Frag) (a : Ad) : SF := fnS 1 1 (f_is_integer_ss K a)
def f_is_number_ss (K : PySem.W.Frag) (a : Ad) : SS :=
  (sRet (sAndV (sCall (f_is_integer_sf K a) (saC (sVar 0) saN)) (sCh (fun i j => decide (i ≤ j)) (fun i j => decide (i < j)) (sC (.int 0)) (sVarB 0) (sVarB 1))))
@[irreducible] def f_is_number_sf (K : PySem.W.Frag) (a : Ad) : SF := fnS 2 2 (f_is_number_ss K a)
def f_is_tuple_ss (K : PySem.W.Frag) (a : Ad) : SS :=
  (sRet (sAndV (sCB isiD (saC (sVarB 0) (saC (sC (.ty "tuple")) saN))) (sCh (fun i j => decide (i ≤ j)) (fun i j => decide (i ≤ j)) (sVarB 1) (sCB lenD (saC (sVarB 0) saN)) (sVarB 2))))
@[irreducible] def f_is_tuple_sf (K : PySem.W.Frag) (a : Ad) : SF := fnS 3 3 (f_is_tuple_ss K a)
def f_are_lengths_ss (K : PySem.W.Frag) (a : Ad) : SS :=
  (sSeq (sIfS (sNot (sB (sCall (f_is_tuple_sf K a) (saC (sVar 0) (saC (sC (.int 1)) (saC (sC (.int 6)) saN)))))) (sRet (sC (.bl false))) sNext)
  (sSeq (sIfS (sNot (sB (sCB allD (saC (sLc (gsN 1) (siS (sVar 0)) sYes (sAndV (sCall (f_is_integer_sf K a) (saC (sVar 1) saN)) (sCh (fun i j => decide (i ≤ j)) (fun i j => decide (i ≤ j)) (sC (.int 1)) (sVarB 1) (sC (.int 8)))) [1]) saN)))) (sRet (sC (.bl false))) sNext)
  (sRet (sOp (cmpD fun i j => decide (i ≤ j)) (sCB sumD (saC (sVarB 0) saN)) (sC (.int 12))))))
@[irreducible] def f_are_lengths_sf (K : PySem.W.Frag) (a : Ad) : SF := fnS 2 1 (f_are_lengths_ss K a)
def f_is_room_ss (K : PySem.W.Frag) (a : Ad) : SS :=
  (sSeq (sIfS (sOr (sNot (sB (sCall (f_is_tuple_sf K a) (saC (sVar 1) (saC (sC (.int 2)) (saC (sC (.int 2)) saN)))))) (sNot (sB (sCall (f_is_number_sf K a) (saC (sOp ixD (sVarB 1) (sC (.int 0))) (saC (sCB lenD (saC (sVarB 0) saN)) saN)))))) (sRet (sC (.bl false))) sNext)
  (sRet (sCall (f_is_number_sf K a) (saC (sOp ixD (sVarB 1) (sC (.int 1))) (saC (sOp ixD (sVarB 0) (sOp ixD (sVarB 1) (sC (.int 0)))) saN)))))
@[irreducible] def f_is_room_sf (K : PySem.W.Frag) (a : Ad) : SF := fnS 2 2 (f_is_room_ss K a)
def f_lengths_of_ss (K : PySem.W.Frag) (a : Ad) : SS :=
  (sRet (sCB tupFD (saC (sLc (gsN 1) (siS (sVar 0)) sYes (sCB lenD (saC (sVarB 1) saN)) [1]) saN)))
@[irreducible] def f_lengths_of_sf (K : PySem.W.Frag) (a : Ad) : SF := fnS 2 1 (f_lengths_of_ss K a)
def f_is_holding_ss (K : PySem.W.Frag) (a : Ad) : SS :=
  (sSeq (sIfS (sOr (sNot (sB (sCB isiD (saC (sVarB 0) (saC (sC (.ty "tuple")) saN))))) (sNot (sB (sCB allD (saC (sLc (gsN 1) (siS (sVar 0)) sYes (sCB isiD (saC (sVarB 1) (saC (sC (.ty "tuple")) saN))) [1]) saN))))) (sRet (sC (.bl false))) sNext)
  (sSeq (sIfS (sNot (sB (sCall (f_are_lengths_sf K a) (saC (sCall (f_lengths_of_sf K a) (saC (sVar 0) saN)) saN)))) (sRet (sC (.bl false))) sNext)
  (sRet (sCB allD (saC (sLc2 (gsN 1) (siS (sVar 0)) sYes (siS (sVar 1)) (gsN 2) sYes (sOrV (sOp (isNonD false) (sVarB 2) (sC .non)) (sOrV (sCB isiD (saC (sVarB 2) (saC (sC (.ty "str")) saN))) (sCall (f_is_integer_sf K a) (saC (sVar 2) saN)))) [1, 2] [2]) saN)))))
@[irreducible] def f_is_holding_sf (K : PySem.W.Frag) (a : Ad) : SF := fnS 3 1 (f_is_holding_ss K a)
def f_pushed_ss (K : PySem.W.Frag) (a : Ad) : SS :=
  (sSeq (sSet 3 (sOp addD (sTup (saC (sVar 2) saN)) (sSl (sOp ixD (sVarB 0) (sVarB 1)) soN (soI (sNeg (sC (.int 1)))))))
  (sRet (sOp addD (sOp addD (sSl (sVarB 0) soN (soI (sVar 1))) (sTup (saC (sVar 3) saN))) (sSl (sVarB 0) (soI (sOp addD (sVarB 1) (sC (.int 1)))) soN))))
@[irreducible] def f_pushed_sf (K : PySem.W.Frag) (a : Ad) : SF := fnS 4 3 (f_pushed_ss K a)
def f_put_ss (K : PySem.W.Frag) (a : Ad) : SS :=
  (sSeq (sIfS (sNot (sB (sCall (f_is_holding_sf K a) (saC (sVar 0) saN)))) (sRaise0 a.c_NoHolding) sNext)
  (sSeq (sIfS (sNot (sB (sCall (f_is_number_sf K a) (saC (sVar 1) (saC (sCB lenD (saC (sVarB 0) saN)) saN))))) (sRaise0 a.c_NoBelt) sNext)
  (sRet (sCall (f_pushed_sf K a) (saC (sVar 0) (saC (sVar 1) (saC (sVar 2) saN)))))))
@[irreducible] def f_put_sf (K : PySem.W.Frag) (a : Ad) : SF := fnS 3 3 (f_put_ss K a)
def f_is_carry_ss (K : PySem.W.Frag) (a : Ad) : SS :=
  (sRet (sAndV (sCall (f_is_tuple_sf K a) (saC (sVar 1) (saC (sC (.int 2)) (saC (sC (.int 2)) saN)))) (sAndV (sCall (f_is_room_sf K a) (saC (sVar 0) (saC (sOp ixD (sVarB 1) (sC (.int 0))) saN))) (sCall (f_is_number_sf K a) (saC (sOp ixD (sVarB 1) (sC (.int 1))) (saC (sCB lenD (saC (sVarB 0) saN)) saN))))))
@[irreducible] def f_is_carry_sf (K : PySem.W.Frag) (a : Ad) : SF := fnS 2 2 (f_is_carry_ss K a)
def f_are_carries_ss (K : PySem.W.Frag) (a : Ad) : SS :=
  (sSeq (sIfS (sB (sOp (cmpD fun i j => decide (j < i)) (sCB lenD (saC (sVarB 1) saN)) (sC (.int 1000)))) (sRet (sC (.bl false))) sNext)
  (sRet (sCB allD (saC (sLc (gsN 2) (siS (sVar 1)) sYes (sCall (f_is_carry_sf K a) (saC (sVar 0) (saC (sVar 2) saN))) [2]) saN))))
@[irreducible] def f_are_carries_sf (K : PySem.W.Frag) (a : Ad) : SF := fnS 3 2 (f_are_carries_ss K a)
def f_moved_ss (K : PySem.W.Frag) (a : Ad) : SS :=
  (sSeq (sSet 2 (sVar 0))
  (sSeq (sFor (gsT [3, 4]) (siS (sVar 1)) (sSet 2 (sCall (f_pushed_sf K a) (saC (sVar 2) (saC (sVar 4) (saC (sOp ixD (sOp ixD (sVarB 2) (sOp ixD (sVarB 3) (sC (.int 0)))) (sOp ixD (sVarB 3) (sC (.int 1)))) saN))))))
  (sRet (sVar 2))))
@[irreducible] def f_moved_sf (K : PySem.W.Frag) (a : Ad) : SF := fnS 5 2 (f_moved_ss K a)
def f_carried_ss (K : PySem.W.Frag) (a : Ad) : SS :=
  (sSeq (sIfS (sNot (sB (sCall (f_is_holding_sf K a) (saC (sVar 0) saN)))) (sRaise0 a.c_NoHolding) sNext)
  (sSeq (sIfS (sOr (sNot (sB (sCB isiTD (saC (sVarB 1) (saC (sTup (saC (sC (.ty "list")) (saC (sC (.ty "tuple")) saN))) saN))))) (sNot (sB (sCall (f_are_carries_sf K a) (saC (sCall (f_lengths_of_sf K a) (saC (sVar 0) saN)) (saC (sVar 1) saN)))))) (sRaise0 a.c_NoCarries) sNext)
  (sRet (sCall (f_moved_sf K a) (saC (sVar 0) (saC (sVar 1) saN))))))
@[irreducible] def f_carried_sf (K : PySem.W.Frag) (a : Ad) : SF := fnS 2 2 (f_carried_ss K a)
def f_law_lengths_ss (K : PySem.W.Frag) (a : Ad) : SS :=
  (sSeq (sSet 3 (sOp addD (sVarB 1) (sCall (f_law_draw_sf K a) (saC (sVar 0) (saC (sOp addD (sOp (intD fun i j => i - j) (sVarB 2) (sVarB 1)) (sC (.int 1))) saN)))))
  (sSeq (sSetO 4 (sLst saN))
  (sSeq (sFor (gsN 5) (siR1 (saC (sC (.int 5)) saN)) (sIfS (sB (sOp (cmpD fun i j => decide (j < i)) (sVarB 3) (sC (.int 0)))) (sSeq (sSet 6 (sOp addD (sC (.int 1)) (sCall (f_law_draw_sf K a) (saC (sVar 0) (saC (sCB (int2D fun i j => if j < i then j else i) (saC (sVarB 3) (saC (sC (.int 8)) saN))) saN)))))
  (sSeq (sApp 4 (sVar 6))
  (sSet 3 (sOp (intD fun i j => i - j) (sVarB 3) (sVarB 6))))) sNext))
  (sSeq (sIfS (sB (sOp (cmpD fun i j => decide (j < i)) (sVarB 3) (sC (.int 0)))) (sApp 4 (sCB (int2D fun i j => if j < i then j else i) (saC (sVarB 3) (saC (sC (.int 8)) saN)))) sNext)
  (sRet (sCB tupFD (saC (sVarB 4) saN)))))))
@[irreducible] def f_law_lengths_sf (K : PySem.W.Frag) (a : Ad) : SF := fnS 7 3 (f_law_lengths_ss K a)
def f_law_room_ss (K : PySem.W.Frag) (a : Ad) : SS :=
  (sSeq (sSet 2 (sCall (f_law_draw_sf K a) (saC (sVar 0) (saC (sCB lenD (saC (sVarB 1) saN)) saN))))
  (sRet (sTup (saC (sVar 2) (saC (sCall (f_law_draw_sf K a) (saC (sVar 0) (saC (sOp ixD (sVarB 1) (sVarB 2)) saN))) saN)))))
@[irreducible] def f_law_room_sf (K : PySem.W.Frag) (a : Ad) : SF := fnS 3 2 (f_law_room_ss K a)
def f_law_holding_ss (K : PySem.W.Frag) (a : Ad) : SS :=
  (sSeq (sSetO 2 (sLst saN))
  (sSeq (sFor (gsN 3) (siS (sVar 1)) (sSeq (sSetO 4 (sLst saN))
  (sSeq (sFor (gsN 5) (siR1 (saC (sVar 3) saN)) (sApp 4 (sOp ixD (sLst (saC (sC .non) (saC (sC (.str "x")) (saC (sC (.str "y")) (saC (sC (.str "zz")) (saC (sC (.str "")) (saC (sC (.int 0)) (saC (sC (.int 1)) (saC (sNeg (sC (.int 5))) (saC (sOp (intCD CPow fun i j => i ^ j.toNat) (sC (.int 10)) (sC (.int 40))) (saC (sC (.str "X 1")) saN))))))))))) (sCall (f_law_draw_sf K a) (saC (sVar 0) (saC (sC (.int 10)) saN))))))
  (sApp 2 (sCB tupFD (saC (sVarB 4) saN))))))
  (sRet (sCB tupFD (saC (sVarB 2) saN)))))
@[irreducible] def f_law_holding_sf (K : PySem.W.Frag) (a : Ad) : SF := fnS 6 2 (f_law_holding_ss K a)
def f_law_put_told_ss (K : PySem.W.Frag) (a : Ad) : SS :=
  (sSeq (sSet 2 (sC (.str "let")))
  (sSeq (sTry K (sDrop (sCall (f_put_sf K a) (saC (sVar 0) (saC (sVar 1) (saC (sC (.str "x")) saN))))) [(a.c_NoHolding, (sSet 2 (sC (.str "holding")))), (a.c_NoBelt, (sSet 2 (sC (.str "belt"))))])
  (sRet (sVar 2))))
@[irreducible] def f_law_put_told_sf (K : PySem.W.Frag) (a : Ad) : SF := fnS 3 2 (f_law_put_told_ss K a)
def f_law_carried_told_ss (K : PySem.W.Frag) (a : Ad) : SS :=
  (sSeq (sSet 2 (sC (.str "let")))
  (sSeq (sTry K (sDrop (sCall (f_carried_sf K a) (saC (sVar 0) (saC (sVar 1) saN)))) [(a.c_NoHolding, (sSet 2 (sC (.str "holding")))), (a.c_NoCarries, (sSet 2 (sC (.str "carries"))))])
  (sRet (sVar 2))))
@[irreducible] def f_law_carried_told_sf (K : PySem.W.Frag) (a : Ad) : SF := fnS 3 2 (f_law_carried_told_ss K a)
def f_law_no_holding_ss (K : PySem.W.Frag) (a : Ad) : SS :=
  (sSeq (sSet 2 (sCall (f_law_draw_sf K a) (saC (sVar 0) (saC (sCB lenD (saC (sVarB 1) saN)) saN))))
  (sSeq (sSet 3 (sOp ixD (sLst (saC (sC (.bl true)) (saC (sTup saN) (saC (sLst (saC (sC (.int 1)) saN)) (saC sDct0 (saC (sTup (saC (sC (.str "x")) saN)) (saC (sC (.bl false)) saN))))))) (sCall (f_law_draw_sf K a) (saC (sVar 0) (saC (sC (.int 6)) saN)))))
  (sSeq (sSet 4 (sOp ixD (sVarB 1) (sVarB 2)))
  (sSeq (sSet 5 (sCall (f_law_draw_sf K a) (saC (sVar 0) (saC (sCB lenD (saC (sVarB 4) saN)) saN))))
  (sSeq (sSet 6 (sLst (saC (sCB lstFD (saC (sVarB 1) saN)) (saC (sTup saN) (saC (sC .non) (saC (sC (.str "xy")) (saC sDct0 (saC (sC (.int 0)) (saC (sOp addD (sOp addD (sSl (sVarB 1) soN (soI (sVar 2))) (sTup (saC (sCB lstFD (saC (sVarB 4) saN)) saN))) (sSl (sVarB 1) (soI (sOp addD (sVarB 2) (sC (.int 1)))) soN)) saN)))))))))
  (sSeq (sSet 6 (sOp addD (sVarB 6) (sLst (saC (sOp addD (sOp addD (sSl (sVarB 1) soN (soI (sVar 2))) (sTup (saC (sOp addD (sOp addD (sSl (sVarB 4) soN (soI (sVar 5))) (sTup (saC (sVar 3) saN))) (sSl (sVarB 4) (soI (sOp addD (sVarB 5) (sC (.int 1)))) soN)) saN))) (sSl (sVarB 1) (soI (sOp addD (sVarB 2) (sC (.int 1)))) soN)) saN))))
  (sSeq (sSet 6 (sOp addD (sVarB 6) (sLst (saC (sOp addD (sOp addD (sSl (sVarB 1) soN (soI (sVar 2))) (sTup (saC (sTup saN) saN))) (sSl (sVarB 1) (soI (sOp addD (sVarB 2) (sC (.int 1)))) soN)) (saC (sTup (saC (sOp mulD (sTup (saC (sC .non) saN)) (sC (.int 9))) saN)) (saC (sTup (saC (sOp mulD (sTup (saC (sC .non) saN)) (sC (.int 7))) (saC (sOp mulD (sTup (saC (sC .non) saN)) (sC (.int 6))) saN))) (saC (sOp mulD (sTup (saC (sTup (saC (sC .non) saN)) saN)) (sC (.int 7))) saN)))))))
  (sRet (sOp ixD (sVarB 6) (sCall (f_law_draw_sf K a) (saC (sVar 0) (saC (sCB lenD (saC (sVarB 6) saN)) saN))))))))))))
@[irreducible] def f_law_no_holding_sf (K : PySem.W.Frag) (a : Ad) : SF := fnS 7 2 (f_law_no_holding_ss K a)
def f_law_no_carry_ss (K : PySem.W.Frag) (a : Ad) : SS :=
  (sSeq (sSet 2 (sCall (f_law_draw_sf K a) (saC (sVar 0) (saC (sCB lenD (saC (sVarB 1) saN)) saN))))
  (sSeq (sSet 3 (sOp ixD (sLst (saC (sCB lenD (saC (sVarB 1) saN)) (saC (sNeg (sC (.int 1))) (saC (sC (.bl true)) (saC (sC .non) (saC (sC (.str "0")) (saC (sTup (saC (sC (.int 0)) saN)) saN))))))) (sCall (f_law_draw_sf K a) (saC (sVar 0) (saC (sC (.int 6)) saN)))))
  (sSeq (sSet 4 (sLst (saC (sTup (saC (sTup (saC (sVar 2) (saC (sOp ixD (sVarB 1) (sVarB 2)) saN))) (saC (sC (.int 0)) saN))) (saC (sTup (saC (sTup (saC (sVar 2) (saC (sNeg (sC (.int 1))) saN))) (saC (sC (.int 0)) saN))) (saC (sTup (saC (sTup (saC (sVar 2) (saC (sC (.int 0)) saN))) (saC (sVar 3) saN))) (saC (sTup (saC (sTup (saC (sVar 3) (saC (sC (.int 0)) saN))) (saC (sC (.int 0)) saN))) (saC (sTup (saC (sTup (saC (sVar 2) (saC (sC (.int 0)) saN))) saN)) (saC (sLst (saC (sTup (saC (sVar 2) (saC (sC (.int 0)) saN))) (saC (sC (.int 0)) saN))) saN))))))))
  (sSeq (sSet 4 (sOp addD (sVarB 4) (sLst (saC (sTup (saC (sLst (saC (sVar 2) (saC (sC (.int 0)) saN))) (saC (sC (.int 0)) saN))) (saC (sTup (saC (sTup (saC (sVar 2) (saC (sC (.bl true)) saN))) (saC (sC (.int 0)) saN))) (saC (sTup (saC (sTup (saC (sVar 2) (saC (sC (.int 0)) (saC (sC (.int 0)) saN)))) (saC (sC (.int 0)) saN))) (saC (sC .non) (saC (sC (.str "00")) (saC (sTup (saC (sTup (saC (sVar 2) (saC (sC (.int 0)) saN))) (saC (sC (.int 0)) (saC (sC (.int 0)) saN)))) (saC (sTup (saC (sC (.int 0)) (saC (sC (.int 0)) saN))) saN))))))))))
  (sRet (sOp ixD (sVarB 4) (sCall (f_law_draw_sf K a) (saC (sVar 0) (saC (sCB lenD (saC (sVarB 4) saN)) saN)))))))))
@[irreducible] def f_law_no_carry_sf (K : PySem.W.Frag) (a : Ad) : SF := fnS 5 2 (f_law_no_carry_ss K a)
def law_ss (K : PySem.W.Frag) (a : Ad) : SS :=
  (sSeq (sSet 2 (sCall (f_law_lengths_sf K a) (saC (sVar 1) (saC (sC (.int 1)) (saC (sC (.int 12)) saN)))))
  (sSeq (sSet 3 (sCall (f_law_holding_sf K a) (saC (sVar 1) (saC (sVar 2) saN))))
  (sSeq (sFor (gsN 4) (siR1 (saC (sC (.int 6)) saN)) (sSeq (sSet 5 (sCall (f_law_no_holding_sf K a) (saC (sVar 1) (saC (sVar 3) saN))))
  (sSeq (sIfS (sOr (sB (sOp (eqD true) (sCall (f_law_put_told_sf K a) (saC (sVar 5) (saC (sC .non) saN))) (sC (.str "holding")))) (sB (sOp (eqD true) (sCall (f_law_carried_told_sf K a) (saC (sVar 5) (saC (sC .non) saN))) (sC (.str "holding"))))) (sRet (sC (.bl false))) sNext)
  (sSeq (sSet 6 (sOp ixD (sLst (saC (sCB lenD (saC (sVarB 2) saN)) (saC (sNeg (sC (.int 1))) (saC (sC (.bl true)) (saC (sC .non) (saC (sC (.str "0")) (saC (sTup (saC (sC (.int 0)) saN)) (saC (sLst (saC (sC (.int 0)) saN)) (saC (sOp (intCD CPow fun i j => i ^ j.toNat) (sC (.int 10)) (sC (.int 20))) (saC (sC (.bl false)) saN)))))))))) (sCall (f_law_draw_sf K a) (saC (sVar 1) (saC (sC (.int 9)) saN)))))
  (sSeq (sIfS (sOr (sB (sOp (eqD true) (sCall (f_law_put_told_sf K a) (saC (sVar 3) (saC (sVar 6) saN))) (sC (.str "belt")))) (sB (sOp (eqD true) (sCall (f_law_put_told_sf K a) (saC (sVar 3) (saC (sCall (f_law_draw_sf K a) (saC (sVar 1) (saC (sCB lenD (saC (sVarB 2) saN)) saN))) saN))) (sC (.str "let"))))) (sRet (sC (.bl false))) sNext)
  (sSeq (sSet 7 (sLc (gsN 11) (siR1 (saC (sCall (f_law_draw_sf K a) (saC (sVar 1) (saC (sC (.int 5)) saN))) saN)) sYes (sTup (saC (sCall (f_law_room_sf K a) (saC (sVar 1) (saC (sVar 2) saN))) (saC (sCall (f_law_draw_sf K a) (saC (sVar 1) (saC (sCB lenD (saC (sVarB 2) saN)) saN))) saN))) [11]))
  (sSeq (sSet 8 (sCall (f_law_draw_sf K a) (saC (sVar 1) (saC (sOp addD (sCB lenD (saC (sVarB 7) saN)) (sC (.int 1))) saN))))
  (sSeq (sSet 9 (sOp addD (sOp addD (sSl (sVarB 7) soN (soI (sVar 8))) (sLst (saC (sCall (f_law_no_carry_sf K a) (saC (sVar 1) (saC (sVar 2) saN))) saN))) (sSl (sVarB 7) (soI (sVar 8)) soN)))
  (sSeq (sSet 10 (sOp ixD (sLst (saC (sVar 9) (saC (sCB tupFD (saC (sVarB 9) saN)) (saC (sC .non) (saC (sC (.str "")) (saC sDct0 (saC (sC (.int 0)) (saC (sC (.bl true)) (saC (sOp mulD (sLst (saC (sTup (saC (sTup (saC (sC (.int 0)) (saC (sC (.int 0)) saN))) (saC (sC (.int 0)) saN))) saN)) (sC (.int 1001))) saN))))))))) (sCall (f_law_draw_sf K a) (saC (sVar 1) (saC (sC (.int 8)) saN)))))
  (sIfS (sOr (sB (sOp (eqD true) (sCall (f_law_carried_told_sf K a) (saC (sVar 3) (saC (sVar 10) saN))) (sC (.str "carries")))) (sB (sOp (eqD true) (sCall (f_law_carried_told_sf K a) (saC (sVar 3) (saC (sVar 7) saN))) (sC (.str "let"))))) (sRet (sC (.bl false))) sNext))))))))))
  (sRet (sAndV (sOp (eqD false) (sCall (f_law_carried_told_sf K a) (saC (sVar 3) (saC (sOp mulD (sLst (saC (sTup (saC (sTup (saC (sC (.int 0)) (saC (sC (.int 0)) saN))) (saC (sC (.int 0)) saN))) saN)) (sC (.int 1000))) saN))) (sC (.str "let"))) (sOp (eqD false) (sCall (f_law_carried_told_sf K a) (saC (sVar 3) (saC (sTup saN) saN))) (sC (.str "let"))))))))
section
variable {P : Program} {w : World} {K : PySem.W.Frag} {mg : Str → Option Value} {base : Heap} {a : Ad} {t l : Addr}
theorem f_is_integer_ok (T : Txt K mg a) : FnOk P w K mg base (L2.CX P w) 1 a.p_f_is_integer a.d_f_is_integer ["thing"] (spD t l Ti (f_is_integer_sf K a)) := by
  unfold f_is_integer_sf
  refine fn_ok T.F_f_is_integer f_is_integer_sc fun cdv A outer s H E hr tk => ?_
  unfold f_is_integer_ss
  exact (b_one (s_ret (e_and (e_cb sem_isi call_isi (by rfl) T.n_isinstance (by decide +kernel) (ab_cons (b_var 0) (ab_cons (e_b (e_ty "int" (by rfl) T.n_int (by decide +kernel))) ab_nil))) (e_one (e_not (e_cb sem_isi call_isi (by rfl) T.n_isinstance (by decide +kernel) (ab_cons (b_var 0) (ab_cons (e_b (e_ty "bool" (by rfl) T.n_bool (by decide +kernel))) ab_nil))))))))
theorem f_is_number_ok (T : Txt K mg a) : FnOk P w K mg base (L2.CX P w) 2 a.p_f_is_number a.d_f_is_number ["thing", "many"] (spD t l Ti (f_is_number_sf K a)) := by
  have G_f_is_integer := f_is_integer_ok (P := P) (w := w) (base := base) (t := t) (l := l) T
  have B_f_is_integer := T.B_f_is_integer
  unfold f_is_number_sf
  refine fn_ok T.F_f_is_number f_is_number_sc fun cdv A outer s H E hr tk => ?_
  unfold f_is_number_ss
  exact (b_one (s_ret (e_and (e_call tk G_f_is_integer (hr.mono (by decide)) T.g_f_is_integer T.F_f_is_integer.kp B_f_is_integer (a_cons (e_var 0) a_nil)) (e_one (e_ch op_le op_lt (e_b e_int) (b_var 0) (b_var 1))))))
theorem f_is_tuple_ok (T : Txt K mg a) : FnOk P w K mg base (L2.CX P w) 1 a.p_f_is_tuple a.d_f_is_tuple ["thing", "least", "most"] (spD t l Ti (f_is_tuple_sf K a)) := by
  unfold f_is_tuple_sf
  refine fn_ok T.F_f_is_tuple f_is_tuple_sc fun cdv A outer s H E hr tk => ?_
  unfold f_is_tuple_ss
  exact (b_one (s_ret (e_and (e_cb sem_isi call_isi (by rfl) T.n_isinstance (by decide +kernel) (ab_cons (b_var 0) (ab_cons (e_b (e_ty "tuple" (by rfl) T.n_tuple (by decide +kernel))) ab_nil))) (e_one (e_ch op_le op_le (b_var 1) (e_b (e_cb sem_len call_len (by rfl) T.n_len (by decide +kernel) (ab_cons (b_var 0) ab_nil))) (b_var 2))))))
theorem f_are_lengths_ok (T : Txt K mg a) : FnOk P w K mg base (L2.CX P w) 2 a.p_f_are_lengths a.d_f_are_lengths ["thing"] (spD t l Ti (f_are_lengths_sf K a)) := by
  have G_f_is_integer := f_is_integer_ok (P := P) (w := w) (base := base) (t := t) (l := l) T
  have B_f_is_integer := T.B_f_is_integer
  have G_f_is_tuple := f_is_tuple_ok (P := P) (w := w) (base := base) (t := t) (l := l) T
  have B_f_is_tuple := T.B_f_is_tuple
  unfold f_are_lengths_sf
  refine fn_ok T.F_f_are_lengths f_are_lengths_sc fun cdv A outer s H E hr tk => ?_
  unfold f_are_lengths_ss
  exact (b_cons (s_if (t_not (t_val (e_call tk G_f_is_tuple (hr.mono (by decide)) T.g_f_is_tuple T.F_f_is_tuple.kp B_f_is_tuple (a_cons (e_var 0) (a_cons e_int (a_cons (e_glob (by rfl) T.c_MOST_BELTS.1 T.c_MOST_BELTS.2 (fun _ => .int _)) a_nil)))))) (b_one (s_ret e_bl)) b_nil)
  (b_cons (s_if (t_not (t_val (e_cb sem_allB (cr_all rfl) (by rfl) T.n_all (by decide +kernel) (ab_cons (f_b (f_lc rfl f_are_lengths_sc.nd (i_seq (e_var 0)) (blkOk_by (own := [("length", 1)]) (N := f_are_lengths_N) (sc := defScope f_are_lengths_st) (by decide +kernel)) (by decide) (fun _ _ _ _ _ => (g_name 1 f_are_lengths_sc.nd rfl (by first | exact .inl rfl | exact .inr rfl))) (fun _ _ _ _ _ => ts_nil) (fun _ _ _ _ _ => (e_and (e_call takes0 G_f_is_integer (hr.mono (by decide)) T.g_f_is_integer T.F_f_is_integer.kp B_f_is_integer (a_cons (e_var 1) a_nil)) (e_one (e_ch op_le op_le (e_b e_int) (b_var 1) (e_b (e_glob (by rfl) T.c_LONGEST.1 T.c_LONGEST.2 (fun _ => .int _))))))))) ab_nil)))) (b_one (s_ret e_bl)) b_nil)
  (b_one (s_ret (e_le (e_b (e_cb sem_sum (CallR_or (cr_sum rfl) (cr_sumT rfl)) (by rfl) T.n_sum (by decide +kernel) (ab_cons (b_var 0) ab_nil))) (e_b (e_glob (by rfl) T.c_MOST_ROOMS.1 T.c_MOST_ROOMS.2 (fun _ => .int _))))))))
theorem f_is_room_ok (T : Txt K mg a) : FnOk P w K mg base (L2.CX P w) 3 a.p_f_is_room a.d_f_is_room ["lengths", "thing"] (spD t l Ti (f_is_room_sf K a)) := by
  have G_f_is_number := f_is_number_ok (P := P) (w := w) (base := base) (t := t) (l := l) T
  have B_f_is_number := T.B_f_is_number
  have G_f_is_tuple := f_is_tuple_ok (P := P) (w := w) (base := base) (t := t) (l := l) T
  have B_f_is_tuple := T.B_f_is_tuple
  unfold f_is_room_sf
  refine fn_ok T.F_f_is_room f_is_room_sc fun cdv A outer s H E hr tk => ?_
  unfold f_is_room_ss
  exact (b_cons (s_if (PW.pt (w_or (t_not (t_val (e_call tk G_f_is_tuple (hr.mono (by decide)) T.g_f_is_tuple T.F_f_is_tuple.kp B_f_is_tuple (a_cons (e_var 1) (a_cons e_int (a_cons e_int a_nil)))))) (w_or1 (t_not (t_val (e_call tk G_f_is_number (hr.mono (by decide)) T.g_f_is_number T.F_f_is_number.kp B_f_is_number (a_cons (e_ix (b_var 1) (e_b e_int)) (a_cons (e_cb sem_len call_len (by rfl) T.n_len (by decide +kernel) (ab_cons (b_var 0) ab_nil)) a_nil)))))))) (b_one (s_ret e_bl)) b_nil)
  (b_one (s_ret (e_call tk G_f_is_number (hr.mono (by decide)) T.g_f_is_number T.F_f_is_number.kp B_f_is_number (a_cons (e_ix (b_var 1) (e_b e_int)) (a_cons (e_ix (b_var 0) (e_b (e_ix (b_var 1) (e_b e_int)))) a_nil))))))
theorem f_lengths_of_ok (T : Txt K mg a) : FnOk P w K mg base (L2.CX P w) 1 a.p_f_lengths_of a.d_f_lengths_of ["holding"] (spD t l Ti (f_lengths_of_sf K a)) := by
  unfold f_lengths_of_sf
  refine fn_ok T.F_f_lengths_of f_lengths_of_sc fun cdv A outer s H E hr tk => ?_
  unfold f_lengths_of_ss
  exact (b_one (s_ret (e_cty sem_tupF call_tuple_of (by rfl) T.n_tuple (by decide +kernel) (ab_cons (f_b (f_lc rfl f_lengths_of_sc.nd (i_seq (e_var 0)) (blkOk_by (own := [("row", 1)]) (N := f_lengths_of_N) (sc := defScope f_lengths_of_st) (by decide +kernel)) (by decide) (fun _ _ _ _ _ => (g_name 1 f_lengths_of_sc.nd rfl (by first | exact .inl rfl | exact .inr rfl))) (fun _ _ _ _ _ => ts_nil) (fun _ _ _ _ _ => (e_cb sem_len call_len (by rfl) T.n_len (by decide +kernel) (ab_cons (b_var 1) ab_nil))))) ab_nil))))
theorem f_is_holding_ok (T : Txt K mg a) : FnOk P w K mg base (L2.CX P w) 3 a.p_f_is_holding a.d_f_is_holding ["thing"] (spD t l Ti (f_is_holding_sf K a)) := by
  have G_f_are_lengths := f_are_lengths_ok (P := P) (w := w) (base := base) (t := t) (l := l) T
  have B_f_are_lengths := T.B_f_are_lengths
  have G_f_is_integer := f_is_integer_ok (P := P) (w := w) (base := base) (t := t) (l := l) T
  have B_f_is_integer := T.B_f_is_integer
  have G_f_lengths_of := f_lengths_of_ok (P := P) (w := w) (base := base) (t := t) (l := l) T
  have B_f_lengths_of := T.B_f_lengths_of
  unfold f_is_holding_sf
  refine fn_ok T.F_f_is_holding f_is_holding_sc fun cdv A outer s H E hr tk => ?_
  unfold f_is_holding_ss
  exact (b_cons (s_if (PW.pt (w_or (t_not (t_val (e_cb sem_isi call_isi (by rfl) T.n_isinstance (by decide +kernel) (ab_cons (b_var 0) (ab_cons (e_b (e_ty "tuple" (by rfl) T.n_tuple (by decide +kernel))) ab_nil))))) (w_or1 (t_not (t_val (e_cb sem_allB (cr_all rfl) (by rfl) T.n_all (by decide +kernel) (ab_cons (f_b (f_lc rfl f_is_holding_sc.nd (i_seq (e_var 0)) (blkOk_by (own := [("row", 1)]) (N := f_is_holding_N) (sc := defScope f_is_holding_st) (by decide +kernel)) (by decide) (fun _ _ _ _ _ => (g_name 1 f_is_holding_sc.nd rfl (by first | exact .inl rfl | exact .inr rfl))) (fun _ _ _ _ _ => ts_nil) (fun _ _ _ _ _ => (e_cb sem_isi call_isi (by rfl) T.n_isinstance (by decide +kernel) (ab_cons (b_var 1) (ab_cons (e_b (e_ty "tuple" (by rfl) T.n_tuple (by decide +kernel))) ab_nil)))))) ab_nil))))))) (b_one (s_ret e_bl)) b_nil)
  (b_cons (s_if (t_not (t_val (e_call tk G_f_are_lengths (hr.mono (by decide)) T.g_f_are_lengths T.F_f_are_lengths.kp B_f_are_lengths (a_cons (e_call tk G_f_lengths_of (hr.mono (by decide)) T.g_f_lengths_of T.F_f_lengths_of.kp B_f_lengths_of (a_cons (e_var 0) a_nil)) a_nil)))) (b_one (s_ret e_bl)) b_nil)
  (b_one (s_ret (e_cb sem_allB (cr_all rfl) (by rfl) T.n_all (by decide +kernel) (ab_cons (f_b (f_lc2 rfl f_is_holding_sc.nd (i_seq (e_var 0)) (blkOk_by (own := [("row", 1), ("item", 2)]) (N := f_is_holding_N) (sc := defScope f_is_holding_st) (by decide +kernel)) (by decide) (by decide) (by decide) (fun _ _ _ _ _ => (g_name 1 f_is_holding_sc.nd rfl (by first | exact .inl rfl | exact .inr rfl))) (fun _ _ _ _ _ => ts_nil) (fun _ _ _ _ _ => (i_seq (e_var 1))) (fun _ _ _ _ _ => (g_name 2 f_is_holding_sc.nd rfl (by first | exact .inl rfl | exact .inr rfl))) (fun _ _ _ _ _ => ts_nil) (fun _ _ _ _ _ => (e_or (e_is (b_var 2) (e_b e_non)) (e_or (e_cb sem_isi call_isi (by rfl) T.n_isinstance (by decide +kernel) (ab_cons (b_var 2) (ab_cons (e_b (e_ty "str" (by rfl) T.n_str (by decide +kernel))) ab_nil))) (e_one (e_call takes0 G_f_is_integer (hr.mono (by decide)) T.g_f_is_integer T.F_f_is_integer.kp B_f_is_integer (a_cons (e_var 2) a_nil)))))))) ab_nil))))))
theorem f_pushed_ok (T : Txt K mg a) : FnOk P w K mg base (L2.CX P w) 1 a.p_f_pushed a.d_f_pushed ["holding", "belt", "thing"] (spD t l Ti (f_pushed_sf K a)) := by
  unfold f_pushed_sf
  refine fn_ok T.F_f_pushed f_pushed_sc fun cdv A outer s H E hr tk => ?_
  unfold f_pushed_ss
  exact (b_cons (s_set (i := 3) f_pushed_sc.nd rfl (by first | exact .inl rfl | exact .inr rfl) (e_add (e_b (e_tup (a_cons (e_var 2) a_nil))) (e_b (e_sl (e_b (e_ix (b_var 0) (b_var 1))) o_none (o_some (e_neg e_int))))))
  (b_one (s_ret (e_add (e_b (e_add (e_b (e_sl (b_var 0) o_none (o_some (e_var 1)))) (e_b (e_tup (a_cons (e_var 3) a_nil))))) (e_b (e_sl (b_var 0) (o_some (e_add (b_var 1) (e_b e_int))) o_none))))))
theorem f_put_ok (T : Txt K mg a) : FnOk P w K mg base (L2.CX P w) 4 a.p_f_put a.d_f_put ["holding", "belt", "thing"] (spD t l Ti (f_put_sf K a)) := by
  have G_f_is_holding := f_is_holding_ok (P := P) (w := w) (base := base) (t := t) (l := l) T
  have B_f_is_holding := T.B_f_is_holding
  have G_f_is_number := f_is_number_ok (P := P) (w := w) (base := base) (t := t) (l := l) T
  have B_f_is_number := T.B_f_is_number
  have G_f_pushed := f_pushed_ok (P := P) (w := w) (base := base) (t := t) (l := l) T
  have B_f_pushed := T.B_f_pushed
  unfold f_put_sf
  refine fn_ok T.F_f_put f_put_sc fun cdv A outer s H E hr tk => ?_
  unfold f_put_ss
  exact (b_cons (s_if (t_not (t_val (e_call tk G_f_is_holding (hr.mono (by decide)) T.g_f_is_holding T.F_f_is_holding.kp B_f_is_holding (a_cons (e_var 0) a_nil)))) (b_one (s_raise0 rfl tk T.x_NoHolding T.g_NoHolding T.k_NoHolding T.b_NoHolding T.t_NoHolding)) b_nil)
  (b_cons (s_if (t_not (t_val (e_call tk G_f_is_number (hr.mono (by decide)) T.g_f_is_number T.F_f_is_number.kp B_f_is_number (a_cons (e_var 1) (a_cons (e_cb sem_len call_len (by rfl) T.n_len (by decide +kernel) (ab_cons (b_var 0) ab_nil)) a_nil))))) (b_one (s_raise0 rfl tk T.x_NoBelt T.g_NoBelt T.k_NoBelt T.b_NoBelt T.t_NoBelt)) b_nil)
  (b_one (s_ret (e_call tk G_f_pushed (hr.mono (by decide)) T.g_f_pushed T.F_f_pushed.kp B_f_pushed (a_cons (e_var 0) (a_cons (e_var 1) (a_cons (e_var 2) a_nil))))))))
theorem f_is_carry_ok (T : Txt K mg a) : FnOk P w K mg base (L2.CX P w) 4 a.p_f_is_carry a.d_f_is_carry ["lengths", "thing"] (spD t l Ti (f_is_carry_sf K a)) := by
  have G_f_is_number := f_is_number_ok (P := P) (w := w) (base := base) (t := t) (l := l) T
  have B_f_is_number := T.B_f_is_number
  have G_f_is_room := f_is_room_ok (P := P) (w := w) (base := base) (t := t) (l := l) T
  have B_f_is_room := T.B_f_is_room
  have G_f_is_tuple := f_is_tuple_ok (P := P) (w := w) (base := base) (t := t) (l := l) T
  have B_f_is_tuple := T.B_f_is_tuple
  unfold f_is_carry_sf
  refine fn_ok T.F_f_is_carry f_is_carry_sc fun cdv A outer s H E hr tk => ?_
  unfold f_is_carry_ss
  exact (b_one (s_ret (e_and (e_call tk G_f_is_tuple (hr.mono (by decide)) T.g_f_is_tuple T.F_f_is_tuple.kp B_f_is_tuple (a_cons (e_var 1) (a_cons e_int (a_cons e_int a_nil)))) (e_and (e_call tk G_f_is_room (hr.mono (by decide)) T.g_f_is_room T.F_f_is_room.kp B_f_is_room (a_cons (e_var 0) (a_cons (e_ix (b_var 1) (e_b e_int)) a_nil))) (e_one (e_call tk G_f_is_number (hr.mono (by decide)) T.g_f_is_number T.F_f_is_number.kp B_f_is_number (a_cons (e_ix (b_var 1) (e_b e_int)) (a_cons (e_cb sem_len call_len (by rfl) T.n_len (by decide +kernel) (ab_cons (b_var 0) ab_nil)) a_nil))))))))
theorem f_are_carries_ok (T : Txt K mg a) : FnOk P w K mg base (L2.CX P w) 5 a.p_f_are_carries a.d_f_are_carries ["lengths", "things"] (spD t l Ti (f_are_carries_sf K a)) := by
  have G_f_is_carry := f_is_carry_ok (P := P) (w := w) (base := base) (t := t) (l := l) T
  have B_f_is_carry := T.B_f_is_carry
  unfold f_are_carries_sf
  refine fn_ok T.F_f_are_carries f_are_carries_sc fun cdv A outer s H E hr tk => ?_
  unfold f_are_carries_ss
  exact (b_cons (s_if (t_gt (e_b (e_cb sem_len call_len (by rfl) T.n_len (by decide +kernel) (ab_cons (b_var 1) ab_nil))) (e_b (e_glob (by rfl) T.c_MOST_CARRIES.1 T.c_MOST_CARRIES.2 (fun _ => .int _)))) (b_one (s_ret e_bl)) b_nil)
  (b_one (s_ret (e_cb sem_allB (cr_all rfl) (by rfl) T.n_all (by decide +kernel) (ab_cons (f_b (f_lc rfl f_are_carries_sc.nd (i_seq (e_var 1)) (blkOk_by (own := [("thing", 2)]) (N := f_are_carries_N) (sc := defScope f_are_carries_st) (by decide +kernel)) (by decide) (fun _ _ _ _ _ => (g_name 2 f_are_carries_sc.nd rfl (by first | exact .inl rfl | exact .inr rfl))) (fun _ _ _ _ _ => ts_nil) (fun _ _ _ _ _ => (e_call takes0 G_f_is_carry (hr.mono (by decide)) T.g_f_is_carry T.F_f_is_carry.kp B_f_is_carry (a_cons (e_var 0) (a_cons (e_var 2) a_nil)))))) ab_nil)))))
theorem f_moved_ok (T : Txt K mg a) : FnOk P w K mg base (L2.CX P w) 2 a.p_f_moved a.d_f_moved ["holding", "carries"] (spD t l Ti (f_moved_sf K a)) := by
  have G_f_pushed := f_pushed_ok (P := P) (w := w) (base := base) (t := t) (l := l) T
  have B_f_pushed := T.B_f_pushed
  unfold f_moved_sf
  refine fn_ok T.F_f_moved f_moved_sc fun cdv A outer s H E hr tk => ?_
  unfold f_moved_ss
  exact (b_cons (s_set (i := 2) f_moved_sc.nd rfl (by first | exact .inl rfl | exact .inr rfl) (e_var 0))
  (b_cons (s_for (passes_of rfl) rfl (i_seq (e_var 1)) (g_tup (is := [3, 4]) rfl (pgs_cons (pg_name (i := 3) f_moved_sc.nd rfl (by first | exact .inl rfl | exact .inr rfl)) (pgs_cons (pg_name (i := 4) f_moved_sc.nd rfl (by first | exact .inl rfl | exact .inr rfl)) pgs_nil))) (b_one (s_set (i := 2) f_moved_sc.nd rfl (by first | exact .inl rfl | exact .inr rfl) (e_call tk G_f_pushed (hr.mono (by decide)) T.g_f_pushed T.F_f_pushed.kp B_f_pushed (a_cons (e_var 2) (a_cons (e_var 4) (a_cons (e_ix (e_b (e_ix (b_var 2) (e_b (e_ix (b_var 3) (e_b e_int))))) (e_b (e_ix (b_var 3) (e_b e_int)))) a_nil)))))))
  (b_one (s_ret (e_var 2)))))
theorem f_carried_ok (T : Txt K mg a) : FnOk P w K mg base (L2.CX P w) 6 a.p_f_carried a.d_f_carried ["holding", "carries"] (spD t l Ti (f_carried_sf K a)) := by
  have G_f_are_carries := f_are_carries_ok (P := P) (w := w) (base := base) (t := t) (l := l) T
  have B_f_are_carries := T.B_f_are_carries
  have G_f_is_holding := f_is_holding_ok (P := P) (w := w) (base := base) (t := t) (l := l) T
  have B_f_is_holding := T.B_f_is_holding
  have G_f_lengths_of := f_lengths_of_ok (P := P) (w := w) (base := base) (t := t) (l := l) T
  have B_f_lengths_of := T.B_f_lengths_of
  have G_f_moved := f_moved_ok (P := P) (w := w) (base := base) (t := t) (l := l) T
  have B_f_moved := T.B_f_moved
  unfold f_carried_sf
  refine fn_ok T.F_f_carried f_carried_sc fun cdv A outer s H E hr tk => ?_
  unfold f_carried_ss
  exact (b_cons (s_if (t_not (t_val (e_call tk G_f_is_holding (hr.mono (by decide)) T.g_f_is_holding T.F_f_is_holding.kp B_f_is_holding (a_cons (e_var 0) a_nil)))) (b_one (s_raise0 rfl tk T.x_NoHolding T.g_NoHolding T.k_NoHolding T.b_NoHolding T.t_NoHolding)) b_nil)
  (b_cons (s_if (PW.pt (w_or (t_not (t_val (e_cb sem_isiT call_isiT (by rfl) T.n_isinstance (by decide +kernel) (ab_cons (b_var 1) (ab_cons (e_b (e_tup (a_cons (e_ty "list" (by rfl) T.n_list (by decide +kernel)) (a_cons (e_ty "tuple" (by rfl) T.n_tuple (by decide +kernel)) a_nil)))) ab_nil))))) (w_or1 (t_not (t_val (e_call tk G_f_are_carries (hr.mono (by decide)) T.g_f_are_carries T.F_f_are_carries.kp B_f_are_carries (a_cons (e_call tk G_f_lengths_of (hr.mono (by decide)) T.g_f_lengths_of T.F_f_lengths_of.kp B_f_lengths_of (a_cons (e_var 0) a_nil)) (a_cons (e_var 1) a_nil)))))))) (b_one (s_raise0 rfl tk T.x_NoCarries T.g_NoCarries T.k_NoCarries T.b_NoCarries T.t_NoCarries)) b_nil)
  (b_one (s_ret (e_call tk G_f_moved (hr.mono (by decide)) T.g_f_moved T.F_f_moved.kp B_f_moved (a_cons (e_var 0) (a_cons (e_var 1) a_nil)))))))
theorem f_law_lengths_ok (T : Txt K mg a) : FnOk P w K mg base (L2.CX P w) 2 a.p_f_law_lengths a.d_f_law_lengths ["_law_dice_here", "_law_low", "_law_high"] (spD t l Ti (f_law_lengths_sf K a)) := by
  have G_f_law_draw := f_law_draw_ok (P := P) (w := w) (base := base) (t := t) (l := l) T
  have B_f_law_draw := T.B_f_law_draw
  unfold f_law_lengths_sf
  refine fn_ok T.F_f_law_lengths f_law_lengths_sc fun cdv A outer s H E hr tk => ?_
  unfold f_law_lengths_ss
  exact (b_cons (s_set (i := 3) f_law_lengths_sc.nd rfl (by first | exact .inl rfl | exact .inr rfl) (e_add (b_var 1) (e_b (e_call tk G_f_law_draw (hr.mono (by decide)) T.g_f_law_draw T.F_f_law_draw.kp B_f_law_draw (a_cons (e_var 0) (a_cons (e_add (e_b (e_sub (b_var 2) (b_var 1))) (e_b e_int)) a_nil))))))
  (b_cons (s_setO (i := 4) f_law_lengths_sc.nd rfl (by first | exact .inl rfl | exact .inr rfl) (f_lst a_nil))
  (b_cons (s_for (passes_of rfl) rfl (i_rng1 (by rfl) T.n_range (a_cons e_int a_nil)) (g_name 5 f_law_lengths_sc.nd rfl (by first | exact .inl rfl | exact .inr rfl)) (b_one (s_if (t_gt (b_var 3) (e_b e_int)) (b_cons (s_set (i := 6) f_law_lengths_sc.nd rfl (by first | exact .inl rfl | exact .inr rfl) (e_add (e_b e_int) (e_b (e_call tk G_f_law_draw (hr.mono (by decide)) T.g_f_law_draw T.F_f_law_draw.kp B_f_law_draw (a_cons (e_var 0) (a_cons (e_cb sem_int2 (call_min2 rfl) (by rfl) T.n_min (by decide +kernel) (ab_cons (b_var 3) (ab_cons (e_b e_int) ab_nil))) a_nil))))))
  (b_cons (s_app 4 (e_var 6))
  (b_one (s_set (i := 3) f_law_lengths_sc.nd rfl (by first | exact .inl rfl | exact .inr rfl) (e_sub (b_var 3) (b_var 6)))))) b_nil)))
  (b_cons (s_if (t_gt (b_var 3) (e_b e_int)) (b_one (s_app 4 (e_cb sem_int2 (call_min2 rfl) (by rfl) T.n_min (by decide +kernel) (ab_cons (b_var 3) (ab_cons (e_b e_int) ab_nil))))) b_nil)
  (b_one (s_ret (e_cty sem_tupF call_tuple_of (by rfl) T.n_tuple (by decide +kernel) (ab_cons (b_var 4) ab_nil))))))))
theorem f_law_room_ok (T : Txt K mg a) : FnOk P w K mg base (L2.CX P w) 2 a.p_f_law_room a.d_f_law_room ["_law_dice_here", "_law_lengths_here"] (spD t l Ti (f_law_room_sf K a)) := by
  have G_f_law_draw := f_law_draw_ok (P := P) (w := w) (base := base) (t := t) (l := l) T
  have B_f_law_draw := T.B_f_law_draw
  unfold f_law_room_sf
  refine fn_ok T.F_f_law_room f_law_room_sc fun cdv A outer s H E hr tk => ?_
  unfold f_law_room_ss
  exact (b_cons (s_set (i := 2) f_law_room_sc.nd rfl (by first | exact .inl rfl | exact .inr rfl) (e_call tk G_f_law_draw (hr.mono (by decide)) T.g_f_law_draw T.F_f_law_draw.kp B_f_law_draw (a_cons (e_var 0) (a_cons (e_cb sem_len call_len (by rfl) T.n_len (by decide +kernel) (ab_cons (b_var 1) ab_nil)) a_nil))))
  (b_one (s_ret (e_tup (a_cons (e_var 2) (a_cons (e_call tk G_f_law_draw (hr.mono (by decide)) T.g_f_law_draw T.F_f_law_draw.kp B_f_law_draw (a_cons (e_var 0) (a_cons (e_ix (b_var 1) (b_var 2)) a_nil))) a_nil))))))
theorem f_law_holding_ok (T : Txt K mg a) : FnOk P w K mg base (L2.CX P w) 2 a.p_f_law_holding a.d_f_law_holding ["_law_dice_here", "_law_lengths_here"] (spD t l Ti (f_law_holding_sf K a)) := by
  have G_f_law_draw := f_law_draw_ok (P := P) (w := w) (base := base) (t := t) (l := l) T
  have B_f_law_draw := T.B_f_law_draw
  unfold f_law_holding_sf
  refine fn_ok T.F_f_law_holding f_law_holding_sc fun cdv A outer s H E hr tk => ?_
  unfold f_law_holding_ss
  exact (b_cons (s_setO (i := 2) f_law_holding_sc.nd rfl (by first | exact .inl rfl | exact .inr rfl) (f_lst a_nil))
  (b_cons (s_for (passes_of rfl) rfl (i_seq (e_var 1)) (g_name 3 f_law_holding_sc.nd rfl (by first | exact .inl rfl | exact .inr rfl)) (b_cons (s_setO (i := 4) f_law_holding_sc.nd rfl (by first | exact .inl rfl | exact .inr rfl) (f_lst a_nil))
  (b_cons (s_for (passes_of rfl) rfl (i_rng1 (by rfl) T.n_range (a_cons (e_var 3) a_nil)) (g_name 5 f_law_holding_sc.nd rfl (by first | exact .inl rfl | exact .inr rfl)) (b_one (s_app 4 (e_ix (f_b (f_lst (a_cons e_non (a_cons e_str (a_cons e_str (a_cons e_str (a_cons e_str (a_cons e_int (a_cons e_int (a_cons (e_neg e_int) (a_cons (e_pow (e_b e_int) (e_b e_int)) (a_cons e_str a_nil)))))))))))) (e_b (e_call tk G_f_law_draw (hr.mono (by decide)) T.g_f_law_draw T.F_f_law_draw.kp B_f_law_draw (a_cons (e_var 0) (a_cons e_int a_nil))))))))
  (b_one (s_app 2 (e_cty sem_tupF call_tuple_of (by rfl) T.n_tuple (by decide +kernel) (ab_cons (b_var 4) ab_nil)))))))
  (b_one (s_ret (e_cty sem_tupF call_tuple_of (by rfl) T.n_tuple (by decide +kernel) (ab_cons (b_var 2) ab_nil))))))
theorem f_law_put_told_ok (T : Txt K mg a) : FnOk P w K mg base (L2.CX P w) 5 a.p_f_law_put_told a.d_f_law_put_told ["_law_holding_here", "_law_belt"] (spD t l Ti (f_law_put_told_sf K a)) := by
  have G_f_put := f_put_ok (P := P) (w := w) (base := base) (t := t) (l := l) T
  have B_f_put := T.B_f_put
  unfold f_law_put_told_sf
  refine fn_ok T.F_f_law_put_told f_law_put_told_sc fun cdv A outer s H E hr tk => ?_
  unfold f_law_put_told_ss
  exact (b_cons (s_set (i := 2) f_law_put_told_sc.nd rfl (by first | exact .inl rfl | exact .inr rfl) e_str)
  (b_cons (s_try (cs := [(a.c_NoHolding, (sSet 2 (sC (.str "holding")))), (a.c_NoBelt, (sSet 2 (sC (.str "belt"))))]) rfl rfl tk (fun _ _ _ tk1 po1 => (b_one (s_expr (e_call tk1 G_f_put (hr.mono (by decide)) T.g_f_put T.F_f_put.kp B_f_put (a_cons (e_var 0) (a_cons (e_var 1) (a_cons e_str a_nil))))))) (HdsOk.cons ⟨rfl, by decide, .inl T.g_NoHolding⟩ (fun _ _ _ _ _ _ _ => (b_one (s_set (i := 2) f_law_put_told_sc.nd rfl (by first | exact .inl rfl | exact .inr rfl) e_str))) (HdsOk.cons ⟨rfl, by decide, .inl T.g_NoBelt⟩ (fun _ _ _ _ _ _ _ => (b_one (s_set (i := 2) f_law_put_told_sc.nd rfl (by first | exact .inl rfl | exact .inr rfl) e_str))) HdsOk.nil)))
  (b_one (s_ret (e_var 2)))))
theorem f_law_carried_told_ok (T : Txt K mg a) : FnOk P w K mg base (L2.CX P w) 7 a.p_f_law_carried_told a.d_f_law_carried_told ["_law_holding_here", "_law_carries"] (spD t l Ti (f_law_carried_told_sf K a)) := by
  have G_f_carried := f_carried_ok (P := P) (w := w) (base := base) (t := t) (l := l) T
  have B_f_carried := T.B_f_carried
  unfold f_law_carried_told_sf
  refine fn_ok T.F_f_law_carried_told f_law_carried_told_sc fun cdv A outer s H E hr tk => ?_
  unfold f_law_carried_told_ss
  exact (b_cons (s_set (i := 2) f_law_carried_told_sc.nd rfl (by first | exact .inl rfl | exact .inr rfl) e_str)
  (b_cons (s_try (cs := [(a.c_NoHolding, (sSet 2 (sC (.str "holding")))), (a.c_NoCarries, (sSet 2 (sC (.str "carries"))))]) rfl rfl tk (fun _ _ _ tk1 po1 => (b_one (s_expr (e_call tk1 G_f_carried (hr.mono (by decide)) T.g_f_carried T.F_f_carried.kp B_f_carried (a_cons (e_var 0) (a_cons (e_var 1) a_nil)))))) (HdsOk.cons ⟨rfl, by decide, .inl T.g_NoHolding⟩ (fun _ _ _ _ _ _ _ => (b_one (s_set (i := 2) f_law_carried_told_sc.nd rfl (by first | exact .inl rfl | exact .inr rfl) e_str))) (HdsOk.cons ⟨rfl, by decide, .inl T.g_NoCarries⟩ (fun _ _ _ _ _ _ _ => (b_one (s_set (i := 2) f_law_carried_told_sc.nd rfl (by first | exact .inl rfl | exact .inr rfl) e_str))) HdsOk.nil)))
  (b_one (s_ret (e_var 2)))))
theorem f_law_no_holding_ok (T : Txt K mg a) : FnOk P w K mg base (L2.CX P w) 2 a.p_f_law_no_holding a.d_f_law_no_holding ["_law_dice_here", "_law_holding_here"] (spD t l Ti (f_law_no_holding_sf K a)) := by
  have G_f_law_draw := f_law_draw_ok (P := P) (w := w) (base := base) (t := t) (l := l) T
  have B_f_law_draw := T.B_f_law_draw
  unfold f_law_no_holding_sf
  refine fn_ok T.F_f_law_no_holding f_law_no_holding_sc fun cdv A outer s H E hr tk => ?_
  unfold f_law_no_holding_ss
  exact (b_cons (s_set (i := 2) f_law_no_holding_sc.nd rfl (by first | exact .inl rfl | exact .inr rfl) (e_call tk G_f_law_draw (hr.mono (by decide)) T.g_f_law_draw T.F_f_law_draw.kp B_f_law_draw (a_cons (e_var 0) (a_cons (e_cb sem_len call_len (by rfl) T.n_len (by decide +kernel) (ab_cons (b_var 1) ab_nil)) a_nil))))
  (b_cons (s_set (i := 3) f_law_no_holding_sc.nd rfl (by first | exact .inl rfl | exact .inr rfl) (e_ix (f_b (f_lst (a_cons e_bl (a_cons (e_tup a_nil) (a_cons (f_e (f_lst (a_cons e_int a_nil))) (a_cons (f_e f_dct0) (a_cons (e_tup (a_cons e_str a_nil)) (a_cons e_bl a_nil)))))))) (e_b (e_call tk G_f_law_draw (hr.mono (by decide)) T.g_f_law_draw T.F_f_law_draw.kp B_f_law_draw (a_cons (e_var 0) (a_cons e_int a_nil))))))
  (b_cons (s_set (i := 4) f_law_no_holding_sc.nd rfl (by first | exact .inl rfl | exact .inr rfl) (e_ix (b_var 1) (b_var 2)))
  (b_cons (s_set (i := 5) f_law_no_holding_sc.nd rfl (by first | exact .inl rfl | exact .inr rfl) (e_call tk G_f_law_draw (hr.mono (by decide)) T.g_f_law_draw T.F_f_law_draw.kp B_f_law_draw (a_cons (e_var 0) (a_cons (e_cb sem_len call_len (by rfl) T.n_len (by decide +kernel) (ab_cons (b_var 4) ab_nil)) a_nil))))
  (b_cons (s_set (i := 6) f_law_no_holding_sc.nd rfl (by first | exact .inl rfl | exact .inr rfl) (f_e (f_lst (a_cons (f_e (f_list (by rfl) T.n_list (by decide +kernel) (ab_cons (b_var 1) ab_nil))) (a_cons (e_tup a_nil) (a_cons e_non (a_cons e_str (a_cons (f_e f_dct0) (a_cons e_int (a_cons (e_add (e_b (e_add (e_b (e_sl (b_var 1) o_none (o_some (e_var 2)))) (e_b (e_tup (a_cons (f_e (f_list (by rfl) T.n_list (by decide +kernel) (ab_cons (b_var 4) ab_nil))) a_nil))))) (e_b (e_sl (b_var 1) (o_some (e_add (b_var 2) (e_b e_int))) o_none))) a_nil))))))))))
  (b_cons (s_set (i := 6) f_law_no_holding_sc.nd rfl (by first | exact .inl rfl | exact .inr rfl) (e_add (b_var 6) (f_b (f_lst (a_cons (e_add (e_b (e_add (e_b (e_sl (b_var 1) o_none (o_some (e_var 2)))) (e_b (e_tup (a_cons (e_add (e_b (e_add (e_b (e_sl (b_var 4) o_none (o_some (e_var 5)))) (e_b (e_tup (a_cons (e_var 3) a_nil))))) (e_b (e_sl (b_var 4) (o_some (e_add (b_var 5) (e_b e_int))) o_none))) a_nil))))) (e_b (e_sl (b_var 1) (o_some (e_add (b_var 2) (e_b e_int))) o_none))) a_nil)))))
  (b_cons (s_set (i := 6) f_law_no_holding_sc.nd rfl (by first | exact .inl rfl | exact .inr rfl) (e_add (b_var 6) (f_b (f_lst (a_cons (e_add (e_b (e_add (e_b (e_sl (b_var 1) o_none (o_some (e_var 2)))) (e_b (e_tup (a_cons (e_tup a_nil) a_nil))))) (e_b (e_sl (b_var 1) (o_some (e_add (b_var 2) (e_b e_int))) o_none))) (a_cons (e_tup (a_cons (e_mul (e_b (e_tup (a_cons e_non a_nil))) (e_b e_int)) a_nil)) (a_cons (e_tup (a_cons (e_mul (e_b (e_tup (a_cons e_non a_nil))) (e_b e_int)) (a_cons (e_mul (e_b (e_tup (a_cons e_non a_nil))) (e_b e_int)) a_nil))) (a_cons (e_mul (e_b (e_tup (a_cons (e_tup (a_cons e_non a_nil)) a_nil))) (e_b e_int)) a_nil))))))))
  (b_one (s_ret (e_ix (b_var 6) (e_b (e_call tk G_f_law_draw (hr.mono (by decide)) T.g_f_law_draw T.F_f_law_draw.kp B_f_law_draw (a_cons (e_var 0) (a_cons (e_cb sem_len call_len (by rfl) T.n_len (by decide +kernel) (ab_cons (b_var 6) ab_nil)) a_nil))))))))))))))
theorem f_law_no_carry_ok (T : Txt K mg a) : FnOk P w K mg base (L2.CX P w) 2 a.p_f_law_no_carry a.d_f_law_no_carry ["_law_dice_here", "_law_lengths_here"] (spD t l Ti (f_law_no_carry_sf K a)) := by
  have G_f_law_draw := f_law_draw_ok (P := P) (w := w) (base := base) (t := t) (l := l) T
  have B_f_law_draw := T.B_f_law_draw
  unfold f_law_no_carry_sf
  refine fn_ok T.F_f_law_no_carry f_law_no_carry_sc fun cdv A outer s H E hr tk => ?_
  unfold f_law_no_carry_ss
  exact (b_cons (s_set (i := 2) f_law_no_carry_sc.nd rfl (by first | exact .inl rfl | exact .inr rfl) (e_call tk G_f_law_draw (hr.mono (by decide)) T.g_f_law_draw T.F_f_law_draw.kp B_f_law_draw (a_cons (e_var 0) (a_cons (e_cb sem_len call_len (by rfl) T.n_len (by decide +kernel) (ab_cons (b_var 1) ab_nil)) a_nil))))
  (b_cons (s_set (i := 3) f_law_no_carry_sc.nd rfl (by first | exact .inl rfl | exact .inr rfl) (e_ix (f_b (f_lst (a_cons (e_cb sem_len call_len (by rfl) T.n_len (by decide +kernel) (ab_cons (b_var 1) ab_nil)) (a_cons (e_neg e_int) (a_cons e_bl (a_cons e_non (a_cons e_str (a_cons (e_tup (a_cons e_int a_nil)) a_nil)))))))) (e_b (e_call tk G_f_law_draw (hr.mono (by decide)) T.g_f_law_draw T.F_f_law_draw.kp B_f_law_draw (a_cons (e_var 0) (a_cons e_int a_nil))))))
  (b_cons (s_set (i := 4) f_law_no_carry_sc.nd rfl (by first | exact .inl rfl | exact .inr rfl) (f_e (f_lst (a_cons (e_tup (a_cons (e_tup (a_cons (e_var 2) (a_cons (e_ix (b_var 1) (b_var 2)) a_nil))) (a_cons e_int a_nil))) (a_cons (e_tup (a_cons (e_tup (a_cons (e_var 2) (a_cons (e_neg e_int) a_nil))) (a_cons e_int a_nil))) (a_cons (e_tup (a_cons (e_tup (a_cons (e_var 2) (a_cons e_int a_nil))) (a_cons (e_var 3) a_nil))) (a_cons (e_tup (a_cons (e_tup (a_cons (e_var 3) (a_cons e_int a_nil))) (a_cons e_int a_nil))) (a_cons (e_tup (a_cons (e_tup (a_cons (e_var 2) (a_cons e_int a_nil))) a_nil)) (a_cons (f_e (f_lst (a_cons (e_tup (a_cons (e_var 2) (a_cons e_int a_nil))) (a_cons e_int a_nil)))) a_nil)))))))))
  (b_cons (s_set (i := 4) f_law_no_carry_sc.nd rfl (by first | exact .inl rfl | exact .inr rfl) (e_add (b_var 4) (f_b (f_lst (a_cons (e_tup (a_cons (f_e (f_lst (a_cons (e_var 2) (a_cons e_int a_nil)))) (a_cons e_int a_nil))) (a_cons (e_tup (a_cons (e_tup (a_cons (e_var 2) (a_cons e_bl a_nil))) (a_cons e_int a_nil))) (a_cons (e_tup (a_cons (e_tup (a_cons (e_var 2) (a_cons e_int (a_cons e_int a_nil)))) (a_cons e_int a_nil))) (a_cons e_non (a_cons e_str (a_cons (e_tup (a_cons (e_tup (a_cons (e_var 2) (a_cons e_int a_nil))) (a_cons e_int (a_cons e_int a_nil)))) (a_cons (e_tup (a_cons e_int (a_cons e_int a_nil))) a_nil)))))))))))
  (b_one (s_ret (e_ix (b_var 4) (e_b (e_call tk G_f_law_draw (hr.mono (by decide)) T.g_f_law_draw T.F_f_law_draw.kp B_f_law_draw (a_cons (e_var 0) (a_cons (e_cb sem_len call_len (by rfl) T.n_len (by decide +kernel) (ab_cons (b_var 4) ab_nil)) a_nil)))))))))))
theorem law_rest (T : Txt K mg a) (cdv : Value) (A : Around) (outer : List PySem.Env) (s : Shared) (H : Hp) (E : XK) (hr : Room 7 (A.deeper (envOfC "law" (defScope f_law_st) s.heap.objs.size a.p_f_law cdv))) (tk : Takes (cxOf (L2.CX P w) P w K mg base f_law_N "law" (defScope f_law_st) a.p_f_law cdv A outer s H E) (fun cls d _ H => E cls d H)) :
    PSs (cxOf (L2.CX P w) P w K mg base f_law_N "law" (defScope f_law_st) a.p_f_law cdv A outer s H E) ((defBody f_law_st).drop 1) (rdS t l Ti (fun cls d _ H => E cls d H) (law_ss K a)) := by
  have G_f_law_carried_told := f_law_carried_told_ok (P := P) (w := w) (base := base) (t := t) (l := l) T
  have B_f_law_carried_told := T.B_f_law_carried_told
  have G_f_law_draw := f_law_draw_ok (P := P) (w := w) (base := base) (t := t) (l := l) T
  have B_f_law_draw := T.B_f_law_draw
  have G_f_law_holding := f_law_holding_ok (P := P) (w := w) (base := base) (t := t) (l := l) T
  have B_f_law_holding := T.B_f_law_holding
  have G_f_law_lengths := f_law_lengths_ok (P := P) (w := w) (base := base) (t := t) (l := l) T
  have B_f_law_lengths := T.B_f_law_lengths
  have G_f_law_no_carry := f_law_no_carry_ok (P := P) (w := w) (base := base) (t := t) (l := l) T
  have B_f_law_no_carry := T.B_f_law_no_carry
  have G_f_law_no_holding := f_law_no_holding_ok (P := P) (w := w) (base := base) (t := t) (l := l) T
  have B_f_law_no_holding := T.B_f_law_no_holding
  have G_f_law_put_told := f_law_put_told_ok (P := P) (w := w) (base := base) (t := t) (l := l) T
  have B_f_law_put_told := T.B_f_law_put_told
  have G_f_law_room := f_law_room_ok (P := P) (w := w) (base := base) (t := t) (l := l) T
  have B_f_law_room := T.B_f_law_room
  unfold law_ss
  exact (b_cons (s_set (i := 2) f_law_sc.nd rfl (by first | exact .inl rfl | exact .inr rfl) (e_call tk G_f_law_lengths (hr.mono (by decide)) T.g_f_law_lengths T.F_f_law_lengths.kp B_f_law_lengths (a_cons (e_var 1) (a_cons e_int (a_cons e_int a_nil)))))
  (b_cons (s_set (i := 3) f_law_sc.nd rfl (by first | exact .inl rfl | exact .inr rfl) (e_call tk G_f_law_holding (hr.mono (by decide)) T.g_f_law_holding T.F_f_law_holding.kp B_f_law_holding (a_cons (e_var 1) (a_cons (e_var 2) a_nil))))
  (b_cons (s_for (passes_of rfl) rfl (i_rng1 (by rfl) T.n_range (a_cons e_int a_nil)) (g_name 4 f_law_sc.nd rfl (by first | exact .inl rfl | exact .inr rfl)) (b_cons (s_set (i := 5) f_law_sc.nd rfl (by first | exact .inl rfl | exact .inr rfl) (e_call tk G_f_law_no_holding (hr.mono (by decide)) T.g_f_law_no_holding T.F_f_law_no_holding.kp B_f_law_no_holding (a_cons (e_var 1) (a_cons (e_var 3) a_nil))))
  (b_cons (s_if (PW.pt (w_or (t_ne (e_b (e_call tk G_f_law_put_told (hr.mono (by decide)) T.g_f_law_put_told T.F_f_law_put_told.kp B_f_law_put_told (a_cons (e_var 5) (a_cons e_non a_nil)))) (e_b e_str) hr.units) (w_or1 (t_ne (e_b (e_call tk G_f_law_carried_told (hr.mono (by decide)) T.g_f_law_carried_told T.F_f_law_carried_told.kp B_f_law_carried_told (a_cons (e_var 5) (a_cons e_non a_nil)))) (e_b e_str) hr.units)))) (b_one (s_ret e_bl)) b_nil)
  (b_cons (s_set (i := 6) f_law_sc.nd rfl (by first | exact .inl rfl | exact .inr rfl) (e_ix (f_b (f_lst (a_cons (e_cb sem_len call_len (by rfl) T.n_len (by decide +kernel) (ab_cons (b_var 2) ab_nil)) (a_cons (e_neg e_int) (a_cons e_bl (a_cons e_non (a_cons e_str (a_cons (e_tup (a_cons e_int a_nil)) (a_cons (f_e (f_lst (a_cons e_int a_nil))) (a_cons (e_pow (e_b e_int) (e_b e_int)) (a_cons e_bl a_nil))))))))))) (e_b (e_call tk G_f_law_draw (hr.mono (by decide)) T.g_f_law_draw T.F_f_law_draw.kp B_f_law_draw (a_cons (e_var 1) (a_cons e_int a_nil))))))
  (b_cons (s_if (PW.pt (w_or (t_ne (e_b (e_call tk G_f_law_put_told (hr.mono (by decide)) T.g_f_law_put_told T.F_f_law_put_told.kp B_f_law_put_told (a_cons (e_var 3) (a_cons (e_var 6) a_nil)))) (e_b e_str) hr.units) (w_or1 (t_ne (e_b (e_call tk G_f_law_put_told (hr.mono (by decide)) T.g_f_law_put_told T.F_f_law_put_told.kp B_f_law_put_told (a_cons (e_var 3) (a_cons (e_call tk G_f_law_draw (hr.mono (by decide)) T.g_f_law_draw T.F_f_law_draw.kp B_f_law_draw (a_cons (e_var 1) (a_cons (e_cb sem_len call_len (by rfl) T.n_len (by decide +kernel) (ab_cons (b_var 2) ab_nil)) a_nil))) a_nil)))) (e_b e_str) hr.units)))) (b_one (s_ret e_bl)) b_nil)
  (b_cons (by first | exact (s_setC (ps_setLc (i := 7) rfl f_law_sc.nd rfl rfl (sw_true rfl rfl rfl (by decide +kernel)) (i_rng1 (by rfl) T.n_range (a_cons (e_call tk G_f_law_draw (hr.mono (by decide)) T.g_f_law_draw T.F_f_law_draw.kp B_f_law_draw (a_cons (e_var 1) (a_cons e_int a_nil))) a_nil)) (blkOk_by (own := [("_law_k", 11)]) (N := f_law_N) (sc := defScope f_law_st) (by decide +kernel)) (fun _ _ _ _ _ => (g_name 11 f_law_sc.nd rfl (by first | exact .inl rfl | exact .inr rfl))) (fun _ _ _ _ _ => ts_nil) (fun _ _ _ _ _ => (e_tup (a_cons (e_call takes0 G_f_law_room (hr.mono (by decide)) T.g_f_law_room T.F_f_law_room.kp B_f_law_room (a_cons (e_var 1) (a_cons (e_var 2) a_nil))) (a_cons (e_call takes0 G_f_law_draw (hr.mono (by decide)) T.g_f_law_draw T.F_f_law_draw.kp B_f_law_draw (a_cons (e_var 1) (a_cons (e_cb sem_len call_len (by rfl) T.n_len (by decide +kernel) (ab_cons (b_var 2) ab_nil)) a_nil))) a_nil))))) (fun _ _ _ h => lc_rd (is := [11]) (by decide) h)) | exact (s_set (i := 7) f_law_sc.nd rfl (by first | exact .inl rfl | exact .inr rfl) (f_e (f_lc rfl f_law_sc.nd (i_rng1 (by rfl) T.n_range (a_cons (e_call tk G_f_law_draw (hr.mono (by decide)) T.g_f_law_draw T.F_f_law_draw.kp B_f_law_draw (a_cons (e_var 1) (a_cons e_int a_nil))) a_nil)) (blkOk_by (own := [("_law_k", 11)]) (N := f_law_N) (sc := defScope f_law_st) (by decide +kernel)) (by decide) (fun _ _ _ _ _ => (g_name 11 f_law_sc.nd rfl (by first | exact .inl rfl | exact .inr rfl))) (fun _ _ _ _ _ => ts_nil) (fun _ _ _ _ _ => (e_tup (a_cons (e_call takes0 G_f_law_room (hr.mono (by decide)) T.g_f_law_room T.F_f_law_room.kp B_f_law_room (a_cons (e_var 1) (a_cons (e_var 2) a_nil))) (a_cons (e_call takes0 G_f_law_draw (hr.mono (by decide)) T.g_f_law_draw T.F_f_law_draw.kp B_f_law_draw (a_cons (e_var 1) (a_cons (e_cb sem_len call_len (by rfl) T.n_len (by decide +kernel) (ab_cons (b_var 2) ab_nil)) a_nil))) a_nil))))))))
  (b_cons (s_set (i := 8) f_law_sc.nd rfl (by first | exact .inl rfl | exact .inr rfl) (e_call tk G_f_law_draw (hr.mono (by decide)) T.g_f_law_draw T.F_f_law_draw.kp B_f_law_draw (a_cons (e_var 1) (a_cons (e_add (e_b (e_cb sem_len call_len (by rfl) T.n_len (by decide +kernel) (ab_cons (b_var 7) ab_nil))) (e_b e_int)) a_nil))))
  (b_cons (s_set (i := 9) f_law_sc.nd rfl (by first | exact .inl rfl | exact .inr rfl) (e_add (e_b (e_add (e_b (e_sl (b_var 7) o_none (o_some (e_var 8)))) (f_b (f_lst (a_cons (e_call tk G_f_law_no_carry (hr.mono (by decide)) T.g_f_law_no_carry T.F_f_law_no_carry.kp B_f_law_no_carry (a_cons (e_var 1) (a_cons (e_var 2) a_nil))) a_nil))))) (e_b (e_sl (b_var 7) (o_some (e_var 8)) o_none))))
  (b_cons (s_set (i := 10) f_law_sc.nd rfl (by first | exact .inl rfl | exact .inr rfl) (e_ix (f_b (f_lst (a_cons (e_var 9) (a_cons (e_cty sem_tupF call_tuple_of (by rfl) T.n_tuple (by decide +kernel) (ab_cons (b_var 9) ab_nil)) (a_cons e_non (a_cons e_str (a_cons (f_e f_dct0) (a_cons e_int (a_cons e_bl (a_cons (e_mul (f_b (f_lst (a_cons (e_tup (a_cons (e_tup (a_cons e_int (a_cons e_int a_nil))) (a_cons e_int a_nil))) a_nil))) (e_b e_int)) a_nil)))))))))) (e_b (e_call tk G_f_law_draw (hr.mono (by decide)) T.g_f_law_draw T.F_f_law_draw.kp B_f_law_draw (a_cons (e_var 1) (a_cons e_int a_nil))))))
  (b_one (s_if (PW.pt (w_or (t_ne (e_b (e_call tk G_f_law_carried_told (hr.mono (by decide)) T.g_f_law_carried_told T.F_f_law_carried_told.kp B_f_law_carried_told (a_cons (e_var 3) (a_cons (e_var 10) a_nil)))) (e_b e_str) hr.units) (w_or1 (t_ne (e_b (e_call tk G_f_law_carried_told (hr.mono (by decide)) T.g_f_law_carried_told T.F_f_law_carried_told.kp B_f_law_carried_told (a_cons (e_var 3) (a_cons (e_var 7) a_nil)))) (e_b e_str) hr.units)))) (b_one (s_ret e_bl)) b_nil)))))))))))
  (b_one (s_ret (e_and (e_eq hr.units (e_b (e_call tk G_f_law_carried_told (hr.mono (by decide)) T.g_f_law_carried_told T.F_f_law_carried_told.kp B_f_law_carried_told (a_cons (e_var 3) (a_cons (e_mul (f_b (f_lst (a_cons (e_tup (a_cons (e_tup (a_cons e_int (a_cons e_int a_nil))) (a_cons e_int a_nil))) a_nil))) (e_b e_int)) a_nil)))) (e_b e_str)) (e_one (e_eq hr.units (e_b (e_call tk G_f_law_carried_told (hr.mono (by decide)) T.g_f_law_carried_told T.F_f_law_carried_told.kp B_f_law_carried_told (a_cons (e_var 3) (a_cons (e_tup a_nil) a_nil)))) (e_b e_str)))))))))
end

section
variable {P : Program} {w : World} {K : PySem.W.Frag} {mg : Str → Option Value} {base : Heap} {a : Ad}
def spDice (K : PySem.W.Frag) : Sp := fun vs H Q _ => ∃ (p : Addr) (ns : List Int), vs = [.ref p] ∧ SqL K H p (ns.map V.int) ∧ ns.length ≤ 63 ∧ ∀ H' t l, Same H H' → H t = none → H l = none → Tp t l Ti H' → Q (.ref t) H'
theorem f_law_dice_ok (T : Txt K mg a) : FnOk P w K mg base (L2.CX P w) 1 a.p_f_law_dice a.d_f_law_dice ["_law_script"] (spDice K) := by
  refine T.F_f_law_dice.okX f_law_dice_sc (fun vs H Q E h => ?_) (fun cdv A outer s H vs Q E hr h => ?_)
  · obtain ⟨p, ns, rfl, _⟩ := h
    rfl
  · obtain ⟨p, ns, rfl, hS, hlen, q⟩ := h
    refine ⟨_, pss_one (ps_ret (pe_lst (pa_cons (pe_lc (own := [("_law_cell", 1)]) (g := gName 1) (tt := tYes) rfl f_law_dice_sc.nd (pi_list (pe_slice sl_list (pv 0) po_none (po_some pe_int)))
      (blkOk_by (own := [("_law_cell", 1)]) (N := f_law_dice_N) (sc := defScope f_law_dice_st) (by decide +kernel)) (fun _ _ _ _ _ => pg_name (i := 1) f_law_dice_sc.nd rfl (by first | exact .inl rfl | exact .inr rfl)) (fun _ _ _ _ _ => pts_nil)
      (fun _ _ _ _ _ => pe_callB call_abs (by rfl) T.n_abs (by decide +kernel) (pa_cons (pe_callTy call_int1 (by rfl) T.n_int (by decide +kernel) (pa_cons (pv 1) pa_nil)) pa_nil)))
      (pa_cons pe_int (pa_cons pe_int (pa_cons pe_int (pa_cons pe_int pa_nil))))))), ?_⟩
    refine ⟨_, rfl, 63, rfl, p, _, rfl, hS, fun c nc => ?_⟩
    obtain ⟨ms, hms, hml⟩ : ∃ ms : List Int, cutV (ns.map V.int) none (some 63) = ms.map V.int ∧ ms.length ≤ 63 := by
      refine ⟨(ns.drop (HT.sIx (ns.map V.int).length 0 none)).take (HT.sIx (ns.map V.int).length (ns.map V.int).length (some 63) - HT.sIx (ns.map V.int).length 0 none), ?_, ?_⟩
      · unfold cutV
        rw [List.map_take, List.map_drop]
      · rw [List.length_take, List.length_drop]
        omega
    rw [hms]
    refine ⟨c, rfl, ⟨_, SqL.of upd_same⟩, fun D nD => ?_⟩
    have ncD : c ≠ D := fun e => by
      rw [← e, upd_same] at nD
      cases nD
    have nD0 : H D = none := by
      rw [upd_ne ncD.symm] at nD
      exact nD
    refine lc_list (K := K) (a := c) (xs := ms.map V.int) (fun i H' => Same H H' ∧ H' c = some (.lst (ms.map V.int)) ∧ H' D = some (.lst (((ms.take i).map fun z => if z < 0 then -z else z).map V.int))) ⟨fun b o e => ?_, ?_, upd_same⟩ (fun i H' _ h => SqL.of h.2.1) ?_ ?_
    · rw [upd_ne (ne_of_none e nD0), upd_ne (ne_of_none e nc)]
      exact e
    · rw [upd_ne ncD, upd_same]
    · rintro i y H' hi ⟨h1, h2, h3⟩
      rw [List.getElem?_map] at hi
      cases em : ms[i]? with
      | none =>
        rw [em] at hi
        cases hi
      | some z =>
        rw [em] at hi
        cases hi
        have hil := (List.getElem?_eq_some_iff.mp em).1
        refine ⟨rfl, _, rfl, .inl ⟨z, rfl, z, rfl, _, h3, ?_, fun b o e => ?_, ?_, ?_⟩⟩
        · rw [List.length_map, List.length_map, List.length_take]
          exact small1000 (by omega)
        · rw [upd_ne (ne_of_none e nD0)]
          exact h1 b o e
        · rw [upd_ne ncD]
          exact h2
        · rw [upd_same, List.take_add_one, em]
          simp
    · rintro H' ⟨h1, h2, h3⟩
      refine ⟨by show 5 ≤ sizeLine; decide, fun t nt => ?_⟩
      have nt0 := h1.free nt
      have tD : D ≠ t := ne_of_none h3 nt
      refine q _ t D (fun b o e => ?_) nt0 nD0 ⟨(ms.take (ms.map V.int).length).map fun z => if z < 0 then -z else z, 0, 0, 1, 0, upd_same, ?_, ?_, by decide, by decide, by decide, by decide⟩
      · rw [upd_ne (ne_of_none e nt0)]
        exact h1 b o e
      · rw [upd_ne tD]
        exact h3
      · intro n hn
        obtain ⟨z, _, rfl⟩ := List.mem_map.mp hn
        split <;> omega
def spLaw (K : PySem.W.Frag) : Sp := fun vs H Q _ => ∃ (p : Addr) (ns : List Int), vs = [.ref p] ∧ SqL K H p (ns.map V.int) ∧ ns.length ≤ 63 ∧ ∀ H', Q (.bl true) H'
/-- what is left to be shown: plain reckoning -/
def LawMath (K : PySem.W.Frag) (a : Ad) : Prop := ∀ S : EndS, S.rt (.bl true) → (law_ss K a) [.no, .d .tape, .no, .no, .no, .no, .no, .no, .no, .no, .no, .no] S
theorem law_ok (T : Txt K mg a) (M : LawMath K a) : FnOk P w K mg base (L2.CX P w) 8 a.p_f_law a.d_f_law ["_law_script"] (spLaw K) := by
  have GD := f_law_dice_ok (P := P) (w := w) (base := base) T
  refine T.F_f_law.okX f_law_sc (fun vs H Q E h => ?_) (fun cdv A outer s H vs Q E hr h => ?_)
  · obtain ⟨p, ns, rfl, _⟩ := h
    rfl
  · obtain ⟨p, ns, rfl, hS, hlen, q⟩ := h
    have tk := takes_of (X := cxOf (L2.CX P w) P w K mg base f_law_N "law" (defScope f_law_st) a.p_f_law cdv A outer s H E) rfl rfl rfl rfl
    have rest : PSs (cxOf (L2.CX P w) P w K mg base f_law_N "law" (defScope f_law_st) a.p_f_law cdv A outer s H E) ((defBody f_law_st).drop 1) (fun D σ H' => ∃ t l, rdS t l Ti (fun cls d _ H => E cls d H) (law_ss K a) D σ H') :=
      ⟨fun pins s' σ H' D I ⟨t, l, h⟩ => (law_rest (t := t) (l := l) T cdv A outer s H E hr tk).run pins s' σ H' D I h⟩
    refine ⟨_, pss_cons (ps_set (i := 1) f_law_sc.nd rfl (by first | exact Or.inl rfl | exact Or.inr rfl) (pe_callS GD (hr.mono (by decide)) (by rfl) T.g_f_law_dice T.F_f_law_dice.kp T.B_f_law_dice (fun σ => passAt tk σ) (pa_cons (pv 0) pa_nil))) rest, ?_⟩
    refine ⟨_, rfl, p, ns, rfl, hS, hlen, fun H' t l hs nt nl T' => ?_⟩
    refine ⟨t, l, H', [t, l], [t, l], [.no, .d .tape, .no, .no, .no, .no, .no, .no, .no, .no, .no, .no], { nx := fun _ => False, rt := fun d => d = .bl true, bk := fun _ => False, ct := fun _ => False, ex := fun _ _ => False }, ⟨⟨T', by simp, by simp, fun _ h => h, fun b hb => ?_, fun b hb => ?_, fun _ _ _ e => e, fun _ h => .inl h⟩, rfl, fun i s' hi => ?_, fun i j p xi xj h1 _ _ _ => ?_⟩, M _ rfl, ⟨fun _ _ _ _ _ h => h.elim, fun _ _ _ _ _ h => h.elim, fun _ _ _ _ _ h => h.elim, fun d v O'' H'' E'' h r => ?_, fun _ _ _ _ _ _ _ _ h => h.elim⟩⟩
    · rcases List.mem_cons.mp hb with rfl | hb
      · exact T'.t_some
      · rcases List.mem_cons.mp hb with rfl | hb
        · exact T'.l_some
        · cases hb
    · rcases List.mem_cons.mp hb with rfl | hb
      · exact T'.t_some
      · rcases List.mem_cons.mp hb with rfl | hb
        · exact T'.l_some
        · cases hb
    · match i with
      | 0 =>
        cases hi
        exact True.intro
      | 1 =>
        cases hi
        exact ⟨_, rfl, .tape⟩
      | (i + 2) =>
        have h2 : ([.no, .no, .no, .no, .no, .no, .no, .no, .no, .no] : List Slot)[i]? = some s' := hi
        have h3 := List.mem_of_getElem? h2
        have h4 : s' = .no := by simpa using h3
        subst h4
        exact True.intro
    · match i with
      | 0 => cases h1
      | 1 => cases h1
      | (i + 2) =>
        have h2 : ([.no, .no, .no, .no, .no, .no, .no, .no, .no, .no] : List Slot)[i]? = some (.own xi) := h1
        have h3 := List.mem_of_getElem? h2
        simp at h3
    · subst h
      cases r
      exact q _
end
/-! the mathematics -/
section
variable {K : PySem.W.Frag} {a : Ad} {P : D → Prop} {PX : XD → Prop}
def itB : D → Bool
  | .non => true
  | .int _ => true
  | .str s => PyData.canLay0 (.str s)
  | _ => false
abbrev hold (rows : List (List D)) : D := .tup (rows.map D.tup)
def lensN (rows : List (List D)) : List Int := rows.map fun r => (r.length : Int)
structure GoodH (rows : List (List D)) : Prop where
  n1 : 1 ≤ rows.length
  n6 : rows.length ≤ 6
  l1 : ∀ r ∈ rows, 1 ≤ r.length
  l8 : ∀ r ∈ rows, r.length ≤ 8
  sm : (lensN rows).sum ≤ 12
  it : ∀ r ∈ rows, ∀ x ∈ r, itB x = true
theorem itB_ok {n : Nat} {d : D} (h : itB d = true) : okD n d = true := by
  cases d with
  | non => unfold okD; rfl
  | int i => unfold okD; rfl
  | str s =>
    unfold okD
    exact h
  | _ => cases h
theorem hold_ok {rows : List (List D)} (h : ∀ r ∈ rows, ∀ x ∈ r, itB x = true) : okD 60 (hold rows) = true := by
  refine okD_tup fun d m => ?_
  obtain ⟨r, hr, rfl⟩ := List.mem_map.mp m
  exact okD_tup fun x hx => itB_ok (h r hr x hx)
theorem is_integer_t {i : Int} (p : P (.bl true)) : f_is_integer_sf K a [.int i] P PX := by
  unfold f_is_integer_sf
  exact ⟨rfl, rfl, by decide, rfl, by decide, p⟩
theorem is_number_t {i n : Int} (h0 : 0 ≤ i) (h1 : i < n) (p : P (.bl true)) : f_is_number_sf K a [.int i, .int n] P PX := by
  unfold f_is_number_sf
  refine ⟨rfl, is_integer_t ?_⟩
  exact ch_m (P := P) (decide_eq_true h0) (decide_eq_true h1) p
theorem is_tuple_t {ds : List D} {lo hi : Int} (h0 : lo ≤ ds.length) (h1 : (ds.length : Int) ≤ hi) (p : P (.bl true)) : f_is_tuple_sf K a [.tup ds, .int lo, .int hi] P PX := by
  unfold f_is_tuple_sf
  refine ⟨rfl, rfl, by decide, ?_⟩
  exact ch_m (P := P) (decide_eq_true h0) (decide_eq_true h1) p
theorem are_lengths_t {ns : List Int} (h1 : 1 ≤ ns.length) (h6 : ns.length ≤ 6) (hn : ∀ n ∈ ns, 1 ≤ n ∧ n ≤ 8) (hs : ns.sum ≤ 12) (p : P (.bl true)) : f_are_lengths_sf K a [.tup (ns.map D.int)] P PX := by
  unfold f_are_lengths_sf
  have hl : (ns.map D.int).length = ns.length := List.length_map ..
  refine ⟨rfl, is_tuple_t (by rw [hl]; omega) (by rw [hl]; omega) ?_⟩
  dsimp only [fnS, sSeq, sSet, sSetG, sSetO, sDrop, sRet, sRetN, sIfS, sNext, sBreak, sCont, frz, sFrz, sApp, sSetI, setIx, sAug, sFor, sRaise0, sVar, sVarB, sC, sOp, sB, boolD, sCh, cmpD, DS.intD, intCD, sAnd, sOr, sNot, sAndV, sOrV, sNotV, sIf, sNeg, saN, saC, sTup, sLst, sCB, sCall, siS, seqD, siR1, siR2, rng1D, rng2D, gsN, gsT, setAll, wipeS, sYes, sLc, sLc2, soN, soI, sSl, slD, isNonD, isiD, isiTD, lenD, tupFD, lstFD, int2D, intFD, absD, addD, mulD, ixD, List.map_cons, List.map_nil, List.replicate, List.cons_append, List.nil_append, List.getElem?_cons_zero, List.getElem?_cons_succ, List.set_cons_zero, List.set_cons_succ, Bool.not_true, Bool.not_false]
  refine ⟨by rw [hl]; unfold maxLen; omega, lcL_map (fun _ => .bl true) (fun d m P' p' => ?_) (allD_t ?_)⟩
  · obtain ⟨n, hm, rfl⟩ := List.mem_map.mp m
    refine is_integer_t ?_
    exact ch_m (P := P') (decide_eq_true (hn n hm).1) (decide_eq_true (hn n hm).2) p'
  · dsimp only [fnS, sSeq, sSet, sSetG, sSetO, sDrop, sRet, sRetN, sIfS, sNext, sBreak, sCont, frz, sFrz, sApp, sSetI, setIx, sAug, sFor, sRaise0, sVar, sVarB, sC, sOp, sB, boolD, sCh, cmpD, DS.intD, intCD, sAnd, sOr, sNot, sAndV, sOrV, sNotV, sIf, sNeg, saN, saC, sTup, sLst, sCB, sCall, siS, seqD, siR1, siR2, rng1D, rng2D, gsN, gsT, setAll, wipeS, sYes, sLc, sLc2, soN, soI, sSl, slD, isNonD, isiD, isiTD, lenD, tupFD, lstFD, int2D, intFD, absD, addD, mulD, ixD, List.map_cons, List.map_nil, List.replicate, List.cons_append, List.nil_append, List.getElem?_cons_zero, List.getElem?_cons_succ, List.set_cons_zero, List.set_cons_succ, Bool.not_true, Bool.not_false]
    refine sumD_tup ?_
    exact pD (by exact decide_eq_true hs) p
theorem is_room_t {ns : List Int} {b : Nat} {k n : Int} (hb : ns[b]? = some n) (k0 : 0 ≤ k) (kn : k < n) (p : P (.bl true)) : f_is_room_sf K a [.tup (ns.map D.int), .tup [.int b, .int k]] P PX := by
  unfold f_is_room_sf
  have hbl : b < ns.length := (List.getElem?_eq_some_iff.mp hb).1
  refine ⟨rfl, is_tuple_t (by simp) (by simp) ?_⟩
  refine is_number_t (n := ((ns.map D.int).length : Nat)) (by omega) (by rw [List.length_map]; omega) ?_
  refine atD_nat (n := b) (d := .int n) (by rw [List.getElem?_map, hb]; rfl) ?_
  exact is_number_t k0 kn p
theorem lengths_of_t {rows : List (List D)} (hl : rows.length ≤ 6) (p : P (.tup ((lensN rows).map D.int))) : f_lengths_of_sf K a [hold rows] P PX := by
  unfold f_lengths_of_sf
  refine ⟨rfl, show (rows.map D.tup).length ≤ maxLen by rw [List.length_map]; unfold maxLen; omega, lcL_map (fun d => match d with | .tup ds => .int ds.length | _ => .non) (fun d m P' p' => ?_) ?_⟩
  · obtain ⟨r, hm, rfl⟩ := List.mem_map.mp m
    exact p'
  · show P (.tup ((rows.map D.tup).map _))
    have e : (rows.map D.tup).map (fun d => match d with | D.tup ds => D.int ds.length | _ => D.non) = (lensN rows).map D.int := by
      unfold lensN
      rw [List.map_map, List.map_map]
      rfl
    rw [e]
    exact p
theorem lensN_b {rows : List (List D)} (h1 : ∀ r ∈ rows, 1 ≤ r.length) (h8 : ∀ r ∈ rows, r.length ≤ 8) : ∀ n ∈ lensN rows, 1 ≤ n ∧ n ≤ 8 := fun n m => by
  obtain ⟨r, hr, rfl⟩ := List.mem_map.mp m
  have := h1 r hr
  have := h8 r hr
  omega
theorem lensN_len (rows : List (List D)) : (lensN rows).length = rows.length := List.length_map ..
theorem is_holding_t {rows : List (List D)} (G : GoodH rows) (p : P (.bl true)) : f_is_holding_sf K a [hold rows] P PX := by
  unfold f_is_holding_sf
  have hl : (rows.map D.tup).length = rows.length := List.length_map ..
  have h6 := G.n6
  refine ⟨rfl, rfl, by decide, ?_⟩
  dsimp only [fnS, sSeq, sSet, sSetG, sSetO, sDrop, sRet, sRetN, sIfS, sNext, sBreak, sCont, frz, sFrz, sApp, sSetI, setIx, sAug, sFor, sRaise0, sVar, sVarB, sC, sOp, sB, boolD, sCh, cmpD, DS.intD, intCD, sAnd, sOr, sNot, sAndV, sOrV, sNotV, sIf, sNeg, saN, saC, sTup, sLst, sCB, sCall, siS, seqD, siR1, siR2, rng1D, rng2D, gsN, gsT, setAll, wipeS, sYes, sLc, sLc2, soN, soI, sSl, slD, isNonD, isiD, isiTD, lenD, tupFD, lstFD, int2D, intFD, absD, addD, mulD, ixD, List.map_cons, List.map_nil, List.replicate, List.cons_append, List.nil_append, List.getElem?_cons_zero, List.getElem?_cons_succ, List.set_cons_zero, List.set_cons_succ, Bool.not_true, Bool.not_false, isB, tyN]
  refine ⟨show (rows.map D.tup).length ≤ maxLen by rw [hl]; unfold maxLen; omega, lcL_map (fun _ => .bl true) (fun d m P' p' => ?_) (allD_t ?_)⟩
  · obtain ⟨r, hr, rfl⟩ := List.mem_map.mp m
    exact ⟨rfl, by decide, p'⟩
  · refine lengths_of_t h6 (are_lengths_t (by rw [lensN_len]; exact G.n1) (by rw [lensN_len]; exact h6) (lensN_b G.l1 G.l8) G.sm ?_)
    refine ⟨show (rows.map D.tup).length ≤ 10000 by rw [hl]; omega, lcL2_map (fun _ => .bl true) (fun d => match d with | .tup ds => ds | _ => []) (fun d m => ?_) (fun d m P' p' => ?_) (fun d m e me P' p' => ?_) ?_⟩
    · obtain ⟨r, hr, rfl⟩ := List.mem_map.mp m
      have := G.l8 r hr
      show r.length ≤ 1000
      omega
    · obtain ⟨r, hr, rfl⟩ := List.mem_map.mp m
      exact p'
    · obtain ⟨r, hr, rfl⟩ := List.mem_map.mp m
      have hx := G.it r hr e me
      cases e with
      | non => exact p'
      | int i => exact ⟨rfl, by decide, is_integer_t p'⟩
      | str s => exact ⟨rfl, by decide, p'⟩
      | _ => cases hx
    · rw [List.map_map]
      show allD [.lst (rows.map fun r => r.map fun _ => D.bl true).flatten] P
      rw [← List.map_flatten]
      exact allD_t p
/-! pushing -/
theorem one_le : 1 ≤ maxLen := by decide
theorem zero_le : 0 ≤ maxLen := by decide
theorem two_le : 2 ≤ maxLen := by decide
theorem four_le : 4 ≤ maxLen := by decide
def pushR (rows : List (List D)) (b : Nat) (x : D) : List (List D) := rows.set b (x :: (rows.getD b []).dropLast)
theorem pushR_len {rows : List (List D)} {b : Nat} {x : D} : (pushR rows b x).length = rows.length := List.length_set ..
theorem set_take_drop {α : Type} : ∀ (xs : List α) (b : Nat) (y : α), b < xs.length → xs.take b ++ [y] ++ xs.drop (b + 1) = xs.set b y
  | [], _, _, h => by cases h
  | x :: xs, 0, y, _ => rfl
  | x :: xs, b + 1, y, h => by
    show x :: (xs.take b ++ [y] ++ xs.drop (b + 1)) = x :: xs.set b y
    rw [set_take_drop xs b y (by simpa using h)]
theorem pushed_t {rows : List (List D)} {b : Nat} {x : D} (hb : b < rows.length) (h6 : rows.length ≤ 6) (h8 : ∀ r ∈ rows, r.length ≤ 8) (p : P (hold (pushR rows b x))) : f_pushed_sf K a [hold rows, .int b, x] P PX := by
  unfold f_pushed_sf
  have hr : rows[b]? = some rows[b] := List.getElem?_eq_getElem hb
  have hl8 := h8 _ (List.getElem_mem hb)
  refine ⟨rfl, one_le, atD_nat (n := b) (d := .tup rows[b]) (by rw [List.getElem?_map, hr]; rfl) ⟨?_, ?_⟩⟩
  · show 1 + (cutD rows[b] none (some (-1))).length ≤ maxLen
    rw [cutD_last, List.length_dropLast]
    unfold maxLen
    omega
  · show _ ∧ _
    have e1 : (x :: cutD rows[b] none (some (-1))) = x :: (rows.getD b []).dropLast := by
      rw [cutD_last, List.getD_eq_getElem?_getD, hr]
      rfl
    have e2 : cutD (rows.map D.tup) none (some (b : Int)) = (rows.map D.tup).take b := cutD_to _ b
    have e3 : cutD (rows.map D.tup) (some ((b : Int) + 1)) none = (rows.map D.tup).drop (b + 1) := cutD_from _ (b + 1)
    refine ⟨one_le, ?_⟩
    show (cutD (rows.map D.tup) none (some (b : Int))).length + 1 ≤ maxLen ∧ (cutD (rows.map D.tup) none (some (b : Int)) ++ [D.tup (x :: cutD rows[b] none (some (-1)))]).length + (cutD (rows.map D.tup) (some ((b : Int) + 1)) none).length ≤ maxLen ∧
      P (.tup (cutD (rows.map D.tup) none (some (b : Int)) ++ [D.tup (x :: cutD rows[b] none (some (-1)))] ++ cutD (rows.map D.tup) (some ((b : Int) + 1)) none))
    rw [e1, e2, e3]
    refine ⟨?_, ?_, ?_⟩
    · rw [List.length_take, List.length_map]
      unfold maxLen
      omega
    · rw [List.length_append, List.length_take, List.length_drop, List.length_map]
      unfold maxLen
      simp only [List.length_cons, List.length_nil]
      omega
    · rw [set_take_drop _ _ _ (by rw [List.length_map]; exact hb), ← List.map_set]
      exact p
theorem pushR_good {rows : List (List D)} {b : Nat} {x : D} (G : GoodH rows) (hb : b < rows.length) (hx : itB x = true) : GoodH (pushR rows b x) ∧ lensN (pushR rows b x) = lensN rows := by
  have hr : rows[b]? = some rows[b] := List.getElem?_eq_getElem hb
  have hm : rows[b] ∈ rows := List.getElem_mem hb
  have h1 := G.l1 _ hm
  have e : (rows.getD b []) = rows[b] := by
    rw [List.getD_eq_getElem?_getD, hr]
    rfl
  have hl : (x :: (rows.getD b []).dropLast).length = rows[b].length := by
    rw [e, List.length_cons, List.length_dropLast]
    omega
  have hn : lensN (pushR rows b x) = lensN rows := by
    unfold lensN pushR
    rw [List.map_set, hl]
    apply List.ext_getElem?
    intro i
    rw [List.getElem?_set]
    by_cases hi : b = i
    · subst hi
      rw [if_pos rfl, List.length_map, if_pos hb, List.getElem?_map, hr]
      rfl
    · rw [if_neg hi]
  refine ⟨⟨by rw [pushR_len]; exact G.n1, by rw [pushR_len]; exact G.n6, fun r m => ?_, fun r m => ?_, by rw [hn]; exact G.sm, fun r m y my => ?_⟩, hn⟩
  · rcases List.mem_or_eq_of_mem_set m with m | rfl
    · exact G.l1 r m
    · rw [hl]
      exact h1
  · rcases List.mem_or_eq_of_mem_set m with m | rfl
    · exact G.l8 r m
    · rw [hl]
      exact G.l8 _ hm
  · rcases List.mem_or_eq_of_mem_set m with m | rfl
    · exact G.it r m y my
    · rcases List.mem_cons.mp my with rfl | my
      · exact hx
      · rw [e] at my
        exact G.it _ hm y (List.mem_of_mem_take (by rw [List.dropLast_eq_take] at my; exact my))
theorem put_t {rows : List (List D)} {b : Nat} {x : D} (G : GoodH rows) (hb : b < rows.length) (p : P (hold (pushR rows b x))) : f_put_sf K a [hold rows, .int b, x] P PX := by
  unfold f_put_sf
  refine ⟨rfl, is_holding_t G ?_⟩
  refine is_number_t (n := ((rows.map D.tup).length : Nat)) (by omega) (by rw [List.length_map]; omega) ?_
  exact pushed_t hb G.n6 G.l8 p
/-! carries -/
abbrev Car := Nat × Nat × Nat
def cD (c : Car) : D := .tup [.tup [.int c.1, .int c.2.1], .int c.2.2]
structure CarOk (ns : List Int) (c : Car) : Prop where
  n : ∃ n, ns[c.1]? = some n ∧ (c.2.1 : Int) < n
  b : c.2.2 < ns.length
def moveR (rows : List (List D)) (cs : List Car) : List (List D) := cs.foldl (fun r c => pushR r c.2.2 ((r.getD c.1 []).getD c.2.1 .non)) rows
theorem car_at {rows : List (List D)} {c : Car} (h : CarOk (lensN rows) c) : ∃ r, rows[c.1]? = some r ∧ r[c.2.1]? = some ((rows.getD c.1 []).getD c.2.1 .non) ∧ r ∈ rows ∧ c.2.2 < rows.length := by
  obtain ⟨n, hn, hk⟩ := h.n
  unfold lensN at hn
  rw [List.getElem?_map] at hn
  cases hr : rows[c.1]? with
  | none =>
    rw [hr] at hn
    cases hn
  | some r =>
    rw [hr] at hn
    cases hn
    have hk' : c.2.1 < r.length := Int.ofNat_lt.mp hk
    refine ⟨r, rfl, ?_, List.mem_of_getElem? hr, by have := h.b; rw [lensN_len] at this; exact this⟩
    rw [show rows.getD c.1 [] = r by rw [List.getD_eq_getElem?_getD, hr]; rfl, List.getD_eq_getElem?_getD, List.getElem?_eq_getElem hk']
    rfl
theorem moveR_good : ∀ {cs : List Car} {rows : List (List D)}, GoodH rows → (∀ c ∈ cs, CarOk (lensN rows) c) → GoodH (moveR rows cs) ∧ lensN (moveR rows cs) = lensN rows
  | [], rows, G, _ => ⟨G, rfl⟩
  | c :: cs, rows, G, h => by
    obtain ⟨r, h1, h2, h3, h4⟩ := car_at (h c List.mem_cons_self)
    have g := pushR_good (x := (rows.getD c.1 []).getD c.2.1 .non) G h4 (G.it r h3 _ (List.mem_of_getElem? h2))
    have i := moveR_good (cs := cs) g.1 fun c' m => by
      rw [g.2]
      exact h c' (List.mem_cons_of_mem _ m)
    exact ⟨i.1, i.2.trans g.2⟩
theorem is_carry_t {ns : List Int} {c : Car} (h : CarOk ns c) (p : P (.bl true)) : f_is_carry_sf K a [.tup (ns.map D.int), cD c] P PX := by
  unfold f_is_carry_sf
  obtain ⟨n, hn, hk⟩ := h.n
  have hb := h.b
  refine ⟨rfl, is_tuple_t (ds := [.tup [.int c.1, .int c.2.1], .int c.2.2]) (by simp) (by simp) ?_⟩
  refine is_room_t hn (by omega) hk ?_
  exact is_number_t (n := ((ns.map D.int).length : Nat)) (by omega) (by rw [List.length_map]; omega) p
theorem are_carries_t {ns : List Int} {cs : List Car} {q : D} (hq : q = .lst (cs.map cD) ∨ q = .tup (cs.map cD)) (hl : cs.length ≤ 1000) (h : ∀ c ∈ cs, CarOk ns c) (p : P (.bl true)) : f_are_carries_sf K a [.tup (ns.map D.int), q] P PX := by
  unfold f_are_carries_sf
  have hm : (cs.map cD).length = cs.length := List.length_map ..
  have hc : decide ((1000 : Int) < ((cs.map cD).length : Int)) = false := decide_eq_false (by rw [hm]; omega)
  have key : lcL (gsN 2) sYes (sCall (f_is_carry_sf K a) (saC (sVar 0) (saC (sVar 2) saN))) [2] [.d (.tup (ns.map D.int)), .d q, .no] (cs.map cD) (fun ys => allD [.lst ys] P) := by
    refine lcL_map (fun _ => .bl true) (fun d m P' p' => ?_) (allD_t p)
    obtain ⟨c, hcm, rfl⟩ := List.mem_map.mp m
    exact is_carry_t (h c hcm) p'
  rcases hq with rfl | rfl
  · refine ⟨rfl, ?_⟩
    refine sIfS_f (fun Q q => pB hc q) ?_
    exact ⟨show (cs.map cD).length ≤ maxLen by rw [hm]; unfold maxLen; omega, key⟩
  · refine ⟨rfl, ?_⟩
    refine sIfS_f (fun Q q => pB hc q) ?_
    exact ⟨show (cs.map cD).length ≤ maxLen by rw [hm]; unfold maxLen; omega, key⟩
theorem moved_go {S : EndS} {h0 cs0 : D} : ∀ {cs : List Car} {rows : List (List D)} {x y : Slot}, GoodH rows → (∀ c ∈ cs, CarOk (lensN rows) c) → (∀ x y, S.nx [.d h0, .d cs0, .d (hold (moveR rows cs)), x, y]) →
    forL (gsT [3, 4]) (sSet 2 (sCall (f_pushed_sf K a) (saC (sVar 2) (saC (sVar 4) (saC (sOp ixD (sOp ixD (sVarB 2) (sOp ixD (sVarB 3) (sC (.int 0)))) (sOp ixD (sVarB 3) (sC (.int 1)))) saN))))) S (cs.map cD) [.d h0, .d cs0, .d (hold rows), x, y]
  | [], rows, x, y, G, h, p => p x y
  | c :: cs, rows, x, y, G, h, p => by
    obtain ⟨r, h1, h2, h3, h4⟩ := car_at (h c List.mem_cons_self)
    have g := pushR_good (x := (rows.getD c.1 []).getD c.2.1 .non) G h4 (G.it r h3 _ (List.mem_of_getElem? h2))
    refine ⟨rfl, ?_⟩
    refine atD_nat (n := c.1) (d := .tup r) (by rw [List.getElem?_map, h1]; rfl) ?_
    refine atD_nat (n := c.2.1) h2 ?_
    refine pushed_t h4 G.n6 G.l8 ?_
    refine moved_go g.1 (fun c' m => ?_) p
    rw [g.2]
    exact h c' (List.mem_cons_of_mem _ m)
theorem moved_t {rows : List (List D)} {cs : List Car} {q : D} (G : GoodH rows) (hq : q = .lst (cs.map cD) ∨ q = .tup (cs.map cD)) (h : ∀ c ∈ cs, CarOk (lensN rows) c) (p : P (hold (moveR rows cs))) : f_moved_sf K a [hold rows, q] P PX := by
  unfold f_moved_sf
  rcases hq with rfl | rfl
  · exact ⟨rfl, moved_go G h fun x y => p⟩
  · exact ⟨rfl, moved_go G h fun x y => p⟩
theorem carried_t {rows : List (List D)} {cs : List Car} {q : D} (G : GoodH rows) (hq : q = .lst (cs.map cD) ∨ q = .tup (cs.map cD)) (hl : cs.length ≤ 1000) (h : ∀ c ∈ cs, CarOk (lensN rows) c) (p : P (hold (moveR rows cs))) : f_carried_sf K a [hold rows, q] P PX := by
  unfold f_carried_sf
  rcases hq with rfl | rfl
  · refine ⟨rfl, is_holding_t G ?_⟩
    refine ⟨by decide, rfl, by decide, lengths_of_t G.n6 (are_carries_t (.inl rfl) hl h (moved_t G (.inl rfl) h p))⟩
  · refine ⟨rfl, is_holding_t G ?_⟩
    refine ⟨by decide, rfl, by decide, lengths_of_t G.n6 (are_carries_t (.inr rfl) hl h (moved_t G (.inr rfl) h p))⟩
end
/-! the law's own parts -/
section
variable {K : PySem.W.Frag} {a : Ad} {P : D → Prop} {PX : XD → Prop}
theorem draw_t {n : Int} (h0 : 0 < n) (h1 : n < 1000000) (p : ∀ d, 0 ≤ d → d < n → P (.int d)) : f_law_draw_sf K a [.tape, .int n] P PX := by
  unfold f_law_draw_sf
  exact ⟨h0, h1, p⟩
structure GoodL (ns : List Int) : Prop where
  n1 : 1 ≤ ns.length
  n6 : ns.length ≤ 6
  b : ∀ n ∈ ns, 1 ≤ n ∧ n ≤ 8
  sm : ns.sum ≤ 12
theorem law_room_t {ns : List Int} (G : GoodL ns) (p : ∀ (b k : Nat), (∃ n, ns[b]? = some n ∧ (k : Int) < n) → P (.tup [.int b, .int k])) : f_law_room_sf K a [.tape, .tup (ns.map D.int)] P PX := by
  unfold f_law_room_sf
  have hl : (ns.map D.int).length = ns.length := List.length_map ..
  have h1 := G.n1
  have h6 := G.n6
  refine ⟨rfl, draw_t (n := ((ns.map D.int).length : Nat)) (by omega) (by omega) fun d d0 d1 => ?_⟩
  obtain ⟨b, rfl⟩ := Int.eq_ofNat_of_zero_le d0
  have hb : b < ns.length := by omega
  have hn := G.b _ (List.getElem_mem hb)
  have hx : ns[b]? = some ns[b] := List.getElem?_eq_getElem hb
  refine atD_nat (n := b) (d := .int ns[b]) (by rw [List.getElem?_map, hx]; rfl) ?_
  refine draw_t (by omega) (by omega) fun k k0 k1 => ?_
  obtain ⟨k, rfl⟩ := Int.eq_ofNat_of_zero_le k0
  exact ⟨two_le, p b k ⟨_, hx, k1⟩⟩
/-! lengths -/
theorem law_lengths_t (p : ∀ ns, GoodL ns → P (.tup (ns.map D.int))) : f_law_lengths_sf K a [.tape, .int 1, .int 12] P PX := by
  unfold f_law_lengths_sf
  refine ⟨rfl, draw_t (n := 12) (by decide) (by decide) fun d d0 d1 => ?_⟩
  refine ⟨by decide, by decide, by decide, ?_⟩
  refine for_inv (fun i ρ => ∃ (left : Int) (ns : List Int) (x y : Slot), ρ = [.d .tape, .d (.int 1), .d (.int 12), .d (.int left), .own (.lst (ns.map D.int)), x, y] ∧ 0 ≤ left ∧ ns.length ≤ i ∧ (∀ n ∈ ns, 1 ≤ n ∧ n ≤ 8) ∧ 1 ≤ ns.sum + left ∧ ns.sum + left ≤ 12) ?_ ?_ gsN_mono ?_
  · exact ⟨1 + d, [], .no, .no, rfl, by omega, by simp, by simp, by simp; omega, by simp; omega⟩
  · rintro i e ρ hi ⟨left, ns, x, y, rfl, l0, hn, hb, s1, s2⟩
    intro S' hnx _ _ _ _
    by_cases hp : 0 < left
    · refine pB (P := fun z => match z with
        | true => _
        | false => _) (decide_eq_true hp) ?_
      refine draw_t (n := if (8 : Int) < left then 8 else left) (by split <;> omega) (by split <;> omega) fun k k0 k1 => ?_
      have hk8 : k < 8 ∧ k < left := by
        split at k1 <;> omega
      refine ⟨?_, ?_⟩
      · show (ns.map D.int).length < maxLen
        have : i < 5 := by
          have := List.getElem?_eq_some_iff.mp hi
          have := this.1
          simpa [rangeL] using this
        rw [List.length_map]
        unfold maxLen
        omega
      · refine hnx _ ⟨left - (1 + k), ns ++ [1 + k], _, _, by rw [List.map_append]; rfl, by omega, by rw [List.length_append]; simp; omega, fun n m => ?_, by rw [List.sum_append]; simp; omega, by rw [List.sum_append]; simp; omega⟩
        rcases List.mem_append.mp m with m | m
        · exact hb n m
        · have := List.mem_singleton.mp m
          omega
    · refine pB (P := fun z => match z with
        | true => _
        | false => _) (decide_eq_false hp) ?_
      exact hnx _ ⟨left, ns, _, _, rfl, l0, by omega, hb, s1, s2⟩
  · rintro ρ ⟨left, ns, x, y, rfl, l0, hn, hb, s1, s2⟩
    have hn5 : ns.length ≤ 5 := by simpa [rangeL] using hn
    by_cases hp : 0 < left
    · refine pB (P := fun z => match z with
        | true => _
        | false => _) (decide_eq_true hp) ?_
      refine ⟨?_, ?_⟩
      · show (ns.map D.int).length < maxLen
        rw [List.length_map]
        unfold maxLen
        omega
      · show P (.tup (ns.map D.int ++ [.int (if (8 : Int) < left then 8 else left)]))
        have := p (ns ++ [if (8 : Int) < left then 8 else left]) ⟨by simp, by simp; omega, fun n m => ?_, ?_⟩
        · rw [List.map_append] at this
          exact this
        · rcases List.mem_append.mp m with m | m
          · exact hb n m
          · have := List.mem_singleton.mp m
            subst this
            split <;> omega
        · rw [List.sum_append]
          simp
          split <;> omega
    · refine pB (P := fun z => match z with
        | true => _
        | false => _) (decide_eq_false hp) ?_
      refine p ns ⟨?_, by omega, hb, by omega⟩
      cases ns with
      | nil =>
        exfalso
        simp at s1
        omega
      | cons n r => simp
end
section
variable {K : PySem.W.Frag} {a : Ad} {P : D → Prop} {PX : XD → Prop}
def itemsL : List D := [.non, .str "x", .str "y", .str "zz", .str "", .int 0, .int 1, .int (-5), .int (10 ^ 40), .str "X 1"]
theorem itemsL_ok : ∀ x ∈ itemsL, itB x = true := by
  unfold itemsL
  decide +kernel
theorem law_holding_t {ns : List Int} (G : GoodL ns) (p : ∀ rows, GoodH rows → lensN rows = ns → P (hold rows)) : f_law_holding_sf K a [.tape, .tup (ns.map D.int)] P PX := by
  unfold f_law_holding_sf
  have h6 := G.n6
  refine ⟨rfl, zero_le, ?_⟩
  refine for_inv (fun i ρ => ∃ (rows : List (List D)) (x y z : Slot), ρ = [.d .tape, .d (.tup (ns.map D.int)), .own (.lst (rows.map D.tup)), x, y, z] ∧ lensN rows = ns.take i ∧ ∀ r ∈ rows, ∀ x ∈ r, itB x = true) ?_ ?_ gsN_mono ?_
  · exact ⟨[], .no, .no, .no, rfl, rfl, fun r z => (List.not_mem_nil z).elim⟩
  · rintro i e ρ hi ⟨rows, x, y, z, rfl, hl, hit⟩
    rw [List.getElem?_map] at hi
    cases hn : ns[i]? with
    | none =>
      rw [hn] at hi
      cases hi
    | some n =>
      rw [hn] at hi
      cases hi
      have hb := G.b n (List.mem_of_getElem? hn)
      intro S' hnx _ _ _ _
      refine ⟨zero_le, by omega, by omega, ?_⟩
      refine for_inv (fun j ρ => ∃ (its : List D) (z : Slot), ρ = [.d .tape, .d (.tup (ns.map D.int)), .own (.lst (rows.map D.tup)), .d (.int n), .own (.lst its), z] ∧ its.length = j ∧ ∀ x ∈ its, itB x = true) ?_ ?_ gsN_mono ?_
      · exact ⟨[], z, rfl, rfl, fun r z => (List.not_mem_nil z).elim⟩
      · rintro j e' ρ hj ⟨its, z, rfl, rfl, ho⟩
        have hj8 : its.length < n.toNat := by
          have := (List.getElem?_eq_some_iff.mp hj).1
          simpa [rangeL] using this
        intro S'' hnx' _ _ _ _
        refine ⟨show its.length < maxLen by unfold maxLen; omega, ⟨by decide, by decide⟩, ?_⟩
        refine ⟨by decide, ?_⟩
        refine draw_t (n := 10) (by decide) (by decide) fun d d0 d1 => ?_
        refine atD_any (ds := itemsL) d0 d1 fun x m => ?_
        refine hnx' _ ⟨its ++ [x], _, rfl, by simp, fun y my => ?_⟩
        rcases List.mem_append.mp my with my | my
        · exact ho y my
        · rw [List.mem_singleton.mp my]
          exact itemsL_ok x m
      · rintro ρ ⟨its, z, rfl, hlen, ho⟩
        have hlen : its.length = n.toNat := by simpa [rangeL] using hlen
        have hrl : rows.length = (ns.take i).length := by
          rw [← hl]
          exact (lensN_len rows).symm
        have hrl2 := List.length_take_le i ns
        have hrl3 : (ns.take i).length ≤ ns.length := by
          rw [List.length_take]
          omega
        refine ⟨show (rows.map D.tup).length < maxLen by rw [List.length_map]; unfold maxLen; omega, ?_⟩
        refine hnx _ ⟨rows ++ [its], _, _, _, by rw [List.map_append]; rfl, ?_, fun r m => ?_⟩
        · rw [List.take_succ, hn]
          unfold lensN at hl ⊢
          rw [List.map_append, hl]
          simp
          omega
        · rcases List.mem_append.mp m with m | m
          · exact hit r m
          · rw [List.mem_singleton.mp m]
            exact ho
  · rintro ρ ⟨rows, x, y, z, rfl, hl, hit⟩
    rw [List.length_map, List.take_length] at hl
    have hn := lensN_len rows
    rw [hl] at hn
    have hb : ∀ r ∈ rows, 1 ≤ r.length ∧ r.length ≤ 8 := fun r m => by
      have := G.b (r.length : Int) (by rw [← hl]; exact List.mem_map_of_mem m)
      omega
    exact p rows ⟨by rw [← hn]; exact G.n1, by rw [← hn]; exact G.n6, fun r m => (hb r m).1, fun r m => (hb r m).2, by rw [hl]; exact G.sm, hit⟩ hl
end
/-! judging what is not right -/
section
variable {K : PySem.W.Frag} {a : Ad} {P : D → Prop} {PX : XD → Prop}
theorem lm {n : Nat} (h : Nat.ble n 1000000 = true) : n ≤ maxLen := by
  have := Nat.le_of_ble_eq_true h
  unfold maxLen
  omega
theorem nopl {d : D} (h : plainTy d = true) (e : plainTy d = false) : False := by
  rw [e] at h
  cases h
def intB : D → Bool
  | .int _ => true
  | _ => false
theorem is_integer_v {d : D} (h : plainTy d = true) (p : P (.bl (intB d))) : f_is_integer_sf K a [d] P PX := by
  unfold f_is_integer_sf
  cases d with
  | int i => exact ⟨rfl, rfl, by decide, rfl, by decide, p⟩
  | bl i => exact ⟨rfl, rfl, by decide, rfl, by decide, p⟩
  | non => exact ⟨rfl, rfl, by decide, p⟩
  | str x => exact ⟨rfl, rfl, by decide, p⟩
  | lst x => exact ⟨rfl, rfl, by decide, p⟩
  | tup x => exact ⟨rfl, rfl, by decide, p⟩
  | dct x => exact ⟨rfl, rfl, by decide, p⟩
  | ty n => exact (nopl h rfl).elim
  | ins C fs => exact (nopl h rfl).elim
  | tape => exact (nopl h rfl).elim
def numB (d : D) (n : Int) : Bool := match d with
  | .int i => decide (0 ≤ i) && decide (i < n)
  | _ => false
theorem ch_v {P : D → Prop} {b c : Bool} (p : P (.bl (b && c))) : (match (generalizing := false) b with
    | true => P (.bl c)
    | false => P (.bl false)) := by
  cases b
  · exact p
  · exact p
theorem is_number_v {d : D} {n : Int} (h : plainTy d = true) (p : P (.bl (numB d n))) : f_is_number_sf K a [d, .int n] P PX := by
  unfold f_is_number_sf
  refine ⟨rfl, is_integer_v h ?_⟩
  cases d with
  | int i => exact ch_v (P := P) p
  | ty n => exact (nopl h rfl).elim
  | ins C fs => exact (nopl h rfl).elim
  | tape => exact (nopl h rfl).elim
  | _ => exact p
def tupB (d : D) (lo hi : Int) : Bool := match d with
  | .tup ds => decide (lo ≤ ds.length) && decide ((ds.length : Int) ≤ hi)
  | _ => false
theorem is_tuple_v {d : D} {lo hi : Int} (h : plainTy d = true) (p : P (.bl (tupB d lo hi))) : f_is_tuple_sf K a [d, .int lo, .int hi] P PX := by
  unfold f_is_tuple_sf
  cases d with
  | tup ds => exact ⟨rfl, rfl, by decide, ch_v (P := P) p⟩
  | ty n => exact (nopl h rfl).elim
  | ins C fs => exact (nopl h rfl).elim
  | tape => exact (nopl h rfl).elim
  | _ => exact ⟨rfl, rfl, by decide, p⟩
theorem okD_plain {n : Nat} {d : D} (h : okD n d = true) : plainTy d = true := by
  cases d with
  | ty n => unfold okD at h; cases h
  | ins C fs => unfold okD at h; cases h
  | tape => unfold okD at h; cases h
  | _ => rfl
theorem okDs_all {n : Nat} : ∀ {ds : List D}, okDs n ds = true → ∀ d ∈ ds, okD n d = true
  | [], _, d, m => (List.not_mem_nil m).elim
  | e :: ds, h, d, m => by
    unfold okDs at h
    rw [Bool.and_eq_true] at h
    rcases List.mem_cons.mp m with rfl | m
    · exact h.1
    · exact okDs_all h.2 d m
theorem okD_in {n : Nat} {ds : List D} (h : okD (n + 1) (.tup ds) = true) : ∀ d ∈ ds, okD n d = true := by
  unfold okD at h
  exact okDs_all h
/-! rooms, carries -/
def roomB (ns : List Int) (x : D) : Bool := match x with
  | .tup [.int b, k] => numB (.int b) ns.length && (match ns[b.toNat]? with
    | some n => numB k n
    | none => false)
  | _ => false
theorem is_room_v {ns : List Int} {x : D} {n : Nat} (h : okD (n + 1) x = true) (p : P (.bl (roomB ns x))) : f_is_room_sf K a [.tup (ns.map D.int), x] P PX := by
  unfold f_is_room_sf
  have hl : (ns.map D.int).length = ns.length := List.length_map ..
  refine ⟨rfl, is_tuple_v (okD_plain h) ?_⟩
  cases x with
  | tup ds =>
    have hin := okD_in h
    match ds, hin, p with
    | [], hin, p => exact p
    | [x], hin, p =>
      rw [show roomB ns (.tup [x]) = false by cases x <;> rfl] at p
      exact p
    | [b, k], hin, p =>
      have hb := okD_plain (hin b (by simp))
      have hk := okD_plain (hin k (by simp))
      refine is_number_v (n := ((ns.map D.int).length : Nat)) hb ?_
      cases b with
      | int b =>
        cases hq : numB (.int b) ((ns.map D.int).length : Nat) with
        | false =>
          rw [show roomB ns (.tup [.int b, k]) = (numB (.int b) ns.length && _) from rfl, ← hl, hq] at p
          exact p
        | true =>
          rw [show roomB ns (.tup [.int b, k]) = (numB (.int b) ns.length && (match ns[b.toNat]? with
            | some n => numB k n
            | none => false)) from rfl, ← hl, hq] at p
          have hq2 : (decide (0 ≤ b) && decide (b < ((ns.map D.int).length : Nat))) = true := hq
          rw [Bool.and_eq_true, decide_eq_true_iff, decide_eq_true_iff, hl] at hq2
          obtain ⟨b, rfl⟩ := Int.eq_ofNat_of_zero_le hq2.1
          have hbl : b < ns.length := by omega
          have hx : ns[b]? = some ns[b] := List.getElem?_eq_getElem hbl
          rw [Int.toNat_natCast, hx] at p
          refine atD_nat (n := b) (d := .int ns[b]) (by rw [List.getElem?_map, hx]; rfl) ?_
          exact is_number_v hk p
      | ty n => exact (nopl hb rfl).elim
      | ins C fs => exact (nopl hb rfl).elim
      | tape => exact (nopl hb rfl).elim
      | _ => exact p
    | x :: y :: z :: r, hin, p =>
      have e : tupB (.tup (x :: y :: z :: r)) 2 2 = false := by
        show (decide _ && decide _) = false
        rw [Bool.and_eq_false_iff]
        right
        rw [decide_eq_false_iff_not]
        simp
        omega
      rw [e]
      rw [show roomB ns (.tup (x :: y :: z :: r)) = false by cases x <;> rfl] at p
      exact p
  | ty n => unfold okD at h; cases h
  | ins C fs => unfold okD at h; cases h
  | tape => unfold okD at h; cases h
  | _ => exact p
def carB (ns : List Int) (d : D) : Bool := match d with
  | .tup [x, y] => roomB ns x && numB y ns.length
  | _ => false
theorem is_carry_v {ns : List Int} {d : D} {n : Nat} (h : okD (n + 2) d = true) (p : P (.bl (carB ns d))) : f_is_carry_sf K a [.tup (ns.map D.int), d] P PX := by
  unfold f_is_carry_sf
  have hl : (ns.map D.int).length = ns.length := List.length_map ..
  refine ⟨rfl, is_tuple_v (okD_plain h) ?_⟩
  cases d with
  | tup ds =>
    have hin := okD_in h
    match ds, hin, p with
    | [], hin, p => exact p
    | [_], hin, p => exact p
    | [x, y], hin, p =>
      have hx := hin x (by simp)
      have hy := okD_plain (hin y (by simp))
      have p : P (.bl (roomB ns x && numB y ns.length)) := p
      refine is_room_v hx ?_
      cases hr : roomB ns x with
      | false =>
        rw [hr] at p
        exact p
      | true =>
        rw [hr] at p
        refine is_number_v (n := ((ns.map D.int).length : Nat)) hy ?_
        rw [hl]
        exact p
    | x :: y :: z :: r, hin, p =>
      have e : tupB (.tup (x :: y :: z :: r)) 2 2 = false := by
        show (decide _ && decide _) = false
        rw [Bool.and_eq_false_iff]
        right
        rw [decide_eq_false_iff_not]
        simp
        omega
      rw [e]
      exact p
  | ty n => unfold okD at h; cases h
  | ins C fs => unfold okD at h; cases h
  | tape => unfold okD at h; cases h
  | _ => exact p
theorem allD_g {α : Type} {f : α → Bool} {ds : List α} {P : D → Prop} (p : P (.bl (ds.all f))) : allD [.lst (ds.map fun d => D.bl (f d))] P := by
  show (match blsD (ds.map fun d => D.bl (f d)) with
    | some bs => P (.bl (bs.all id))
    | none => False)
  rw [blsD_map f ds]
  show P (.bl ((ds.map f).all id))
  rw [show ((ds.map f).all id) = ds.all f by rw [List.all_map]; rfl]
  exact p
theorem allD_v {f : D → Bool} {ds : List D} {P : D → Prop} (p : P (.bl (ds.all f))) : allD [.lst (ds.map fun d => D.bl (f d))] P := by
  show (match blsD (ds.map fun d => D.bl (f d)) with
    | some bs => P (.bl (bs.all id))
    | none => False)
  rw [blsD_map f ds]
  show P (.bl ((ds.map f).all id))
  rw [show ((ds.map f).all id) = ds.all f by rw [List.all_map]; rfl]
  exact p
theorem are_carries_v {ns : List Int} {ds : List D} {q : D} {n : Nat} (hq : q = .lst ds ∨ q = .tup ds) (h : ∀ d ∈ ds, okD (n + 2) d = true) (hl : ds.length ≤ maxLen) (p : P (.bl (decide (ds.length ≤ 1000) && ds.all (carB ns)))) : f_are_carries_sf K a [.tup (ns.map D.int), q] P PX := by
  unfold f_are_carries_sf
  by_cases h1000 : ds.length ≤ 1000
  · have hc : decide ((1000 : Int) < (ds.length : Int)) = false := decide_eq_false (by omega)
    rw [decide_eq_true h1000] at p
    have key : lcL (gsN 2) sYes (sCall (f_is_carry_sf K a) (saC (sVar 0) (saC (sVar 2) saN))) [2] [.d (.tup (ns.map D.int)), .d q, .no] ds (fun ys => allD [.lst ys] P) := by
      refine lcL_map (fun d => .bl (carB ns d)) (fun d m P' p' => ?_) (allD_v p)
      exact is_carry_v (h d m) p'
    rcases hq with rfl | rfl
    · refine ⟨rfl, ?_⟩
      refine sIfS_f (fun Q q => pB hc q) ?_
      exact ⟨hl, key⟩
    · refine ⟨rfl, ?_⟩
      refine sIfS_f (fun Q q => pB hc q) ?_
      exact ⟨hl, key⟩
  · have hc : decide ((1000 : Int) < (ds.length : Int)) = true := decide_eq_true (by omega)
    rw [decide_eq_false h1000] at p
    rcases hq with rfl | rfl
    · refine ⟨rfl, ?_⟩
      exact sIfS_t (fun Q q => pB hc q) p
    · refine ⟨rfl, ?_⟩
      exact sIfS_t (fun Q q => pB hc q) p
/-! holdings -/
def tyB (d : D) : Bool := isB d "tuple"
abbrev HNo (K : PySem.W.Frag) (a : Ad) (d : D) : Prop := ∀ (P : D → Prop) (PX : XD → Prop), P (.bl false) → f_is_holding_sf K a [d] P PX
theorem hold_no1 {d : D} (h : plainTy d = true) (ht : isB d "tuple" = false) : HNo K a d := fun P PX p => by
  unfold f_is_holding_sf
  refine ⟨rfl, h, by decide, ?_⟩
  rw [ht]
  exact p
theorem hold_no2 {ds : List D} (hl : ds.length ≤ maxLen) (h : ∀ d ∈ ds, plainTy d = true) (ht : ds.all (fun d => isB d "tuple") = false) : HNo K a (.tup ds) := fun P PX p => by
  unfold f_is_holding_sf
  refine ⟨rfl, rfl, by decide, ?_⟩
  dsimp only [fnS, sSeq, sSet, sSetG, sSetO, sDrop, sRet, sRetN, sIfS, sNext, sBreak, sCont, frz, sFrz, sApp, sSetI, setIx, sAug, sFor, sRaise0, sVar, sVarB, sC, sOp, sB, boolD, sCh, cmpD, DS.intD, intCD, sAnd, sOr, sNot, sAndV, sOrV, sNotV, sIf, sNeg, saN, saC, sTup, sLst, sCB, sCall, siS, seqD, siR1, siR2, rng1D, rng2D, gsN, gsT, setAll, wipeS, sYes, sLc, sLc2, soN, soI, sSl, slD, isNonD, isiD, isiTD, lenD, tupFD, lstFD, int2D, intFD, absD, addD, mulD, ixD, List.map_cons, List.map_nil, List.replicate, List.cons_append, List.nil_append, List.getElem?_cons_zero, List.getElem?_cons_succ, List.set_cons_zero, List.set_cons_succ, Bool.not_true, Bool.not_false, isB, tyN]
  refine ⟨hl, lcL_map (fun d => .bl (isB d "tuple")) (fun d m P' p' => ?_) (allD_v (f := fun d => isB d "tuple") ?_)⟩
  · exact ⟨h d m, by decide, p'⟩
  · rw [ht]
    exact p
def lensB (ns : List Int) : Bool := (decide ((1 : Int) ≤ ns.length) && decide ((ns.length : Int) ≤ 6)) && (ns.all (fun n => decide (1 ≤ n) && decide (n ≤ 8)) && decide (ns.sum ≤ 12))
theorem are_lengths_v {ns : List Int} (p : P (.bl (lensB ns))) : f_are_lengths_sf K a [.tup (ns.map D.int)] P PX := by
  unfold f_are_lengths_sf
  have hl : (ns.map D.int).length = ns.length := List.length_map ..
  refine ⟨rfl, is_tuple_v rfl ?_⟩
  have p : P (.bl ((decide ((1 : Int) ≤ ns.length) && decide ((ns.length : Int) ≤ 6)) && (ns.all (fun n => decide (1 ≤ n) && decide (n ≤ 8)) && decide (ns.sum ≤ 12)))) := p
  have e : tupB (.tup (ns.map D.int)) 1 6 = (decide ((1 : Int) ≤ ns.length) && decide ((ns.length : Int) ≤ 6)) := by
    show (decide ((1 : Int) ≤ (ns.map D.int).length) && decide (((ns.map D.int).length : Int) ≤ 6)) = _
    rw [hl]
  rw [e]
  cases hq : (decide ((1 : Int) ≤ ns.length) && decide ((ns.length : Int) ≤ 6)) with
  | false =>
    rw [hq] at p
    exact p
  | true =>
    rw [hq] at p
    rw [Bool.and_eq_true, decide_eq_true_iff, decide_eq_true_iff] at hq
    dsimp only [fnS, sSeq, sSet, sSetG, sSetO, sDrop, sRet, sRetN, sIfS, sNext, sBreak, sCont, frz, sFrz, sApp, sSetI, setIx, sAug, sFor, sRaise0, sVar, sVarB, sC, sOp, sB, boolD, sCh, cmpD, DS.intD, intCD, sAnd, sOr, sNot, sAndV, sOrV, sNotV, sIf, sNeg, saN, saC, sTup, sLst, sCB, sCall, siS, seqD, siR1, siR2, rng1D, rng2D, gsN, gsT, setAll, wipeS, sYes, sLc, sLc2, soN, soI, sSl, slD, isNonD, isiD, isiTD, lenD, tupFD, lstFD, int2D, intFD, absD, addD, mulD, ixD, List.map_cons, List.map_nil, List.replicate, List.cons_append, List.nil_append, List.getElem?_cons_zero, List.getElem?_cons_succ, List.set_cons_zero, List.set_cons_succ, Bool.not_true, Bool.not_false]
    refine ⟨by rw [hl]; unfold maxLen; omega, lcL_map (fun d => match d with | .int n => .bl (decide (1 ≤ n) && decide (n ≤ 8)) | _ => .non) (fun d m P' p' => ?_) ?_⟩
    · obtain ⟨n, hm, rfl⟩ := List.mem_map.mp m
      refine is_integer_v rfl ?_
      exact ch_v (P := P') p'
    · rw [List.map_map]
      show allD [.lst (ns.map fun n => .bl (decide (1 ≤ n) && decide (n ≤ 8)))] _
      refine allD_g (f := fun n : Int => decide (1 ≤ n) && decide (n ≤ 8)) ?_
      cases ha : ns.all (fun n => decide (1 ≤ n) && decide (n ≤ 8)) with
      | false =>
        rw [ha] at p
        exact p
      | true =>
        rw [ha] at p
        exact sumD_tup p
theorem lengths_of_v {rows : List (List D)} (hl : rows.length ≤ 1000) (p : P (.tup ((lensN rows).map D.int))) : f_lengths_of_sf K a [hold rows] P PX := by
  unfold f_lengths_of_sf
  refine ⟨rfl, show (rows.map D.tup).length ≤ maxLen by rw [List.length_map]; unfold maxLen; omega, lcL_map (fun d => match d with | .tup ds => .int ds.length | _ => .non) (fun d m P' p' => ?_) ?_⟩
  · obtain ⟨r, hm, rfl⟩ := List.mem_map.mp m
    exact p'
  · show P (.tup ((rows.map D.tup).map _))
    have e : (rows.map D.tup).map (fun d => match d with | D.tup ds => D.int ds.length | _ => D.non) = (lensN rows).map D.int := by
      unfold lensN
      rw [List.map_map, List.map_map]
      rfl
    rw [e]
    exact p
theorem hold_no3 {rows : List (List D)} (hl : rows.length ≤ 1000) (ht : lensB (lensN rows) = false) : HNo K a (hold rows) := fun P PX p => by
  unfold f_is_holding_sf
  have hm : (rows.map D.tup).length = rows.length := List.length_map ..
  refine ⟨rfl, rfl, by decide, ?_⟩
  dsimp only [fnS, sSeq, sSet, sSetG, sSetO, sDrop, sRet, sRetN, sIfS, sNext, sBreak, sCont, frz, sFrz, sApp, sSetI, setIx, sAug, sFor, sRaise0, sVar, sVarB, sC, sOp, sB, boolD, sCh, cmpD, DS.intD, intCD, sAnd, sOr, sNot, sAndV, sOrV, sNotV, sIf, sNeg, saN, saC, sTup, sLst, sCB, sCall, siS, seqD, siR1, siR2, rng1D, rng2D, gsN, gsT, setAll, wipeS, sYes, sLc, sLc2, soN, soI, sSl, slD, isNonD, isiD, isiTD, lenD, tupFD, lstFD, int2D, intFD, absD, addD, mulD, ixD, List.map_cons, List.map_nil, List.replicate, List.cons_append, List.nil_append, List.getElem?_cons_zero, List.getElem?_cons_succ, List.set_cons_zero, List.set_cons_succ, Bool.not_true, Bool.not_false, isB, tyN]
  refine ⟨show (rows.map D.tup).length ≤ maxLen by rw [hm]; unfold maxLen; omega, lcL_map (fun _ => .bl true) (fun d m P' p' => ?_) (allD_t ?_)⟩
  · obtain ⟨r, hr, rfl⟩ := List.mem_map.mp m
    exact ⟨rfl, by decide, p'⟩
  · refine lengths_of_v hl (are_lengths_v ?_)
    rw [ht]
    exact p
def itI : D → Bool
  | .non => true
  | .str _ => true
  | .int _ => true
  | _ => false
theorem hold_no4 {rows : List (List D)} (n1 : 1 ≤ rows.length) (n6 : rows.length ≤ 6) (l1 : ∀ r ∈ rows, 1 ≤ r.length) (l8 : ∀ r ∈ rows, r.length ≤ 8) (sm : (lensN rows).sum ≤ 12) (pl : ∀ r ∈ rows, ∀ x ∈ r, plainTy x = true) (bad : rows.flatten.all itI = false) : HNo K a (hold rows) := fun P PX p => by
  unfold f_is_holding_sf
  have hl : (rows.map D.tup).length = rows.length := List.length_map ..
  refine ⟨rfl, rfl, by decide, ?_⟩
  dsimp only [fnS, sSeq, sSet, sSetG, sSetO, sDrop, sRet, sRetN, sIfS, sNext, sBreak, sCont, frz, sFrz, sApp, sSetI, setIx, sAug, sFor, sRaise0, sVar, sVarB, sC, sOp, sB, boolD, sCh, cmpD, DS.intD, intCD, sAnd, sOr, sNot, sAndV, sOrV, sNotV, sIf, sNeg, saN, saC, sTup, sLst, sCB, sCall, siS, seqD, siR1, siR2, rng1D, rng2D, gsN, gsT, setAll, wipeS, sYes, sLc, sLc2, soN, soI, sSl, slD, isNonD, isiD, isiTD, lenD, tupFD, lstFD, int2D, intFD, absD, addD, mulD, ixD, List.map_cons, List.map_nil, List.replicate, List.cons_append, List.nil_append, List.getElem?_cons_zero, List.getElem?_cons_succ, List.set_cons_zero, List.set_cons_succ, Bool.not_true, Bool.not_false, isB, tyN]
  refine ⟨show (rows.map D.tup).length ≤ maxLen by rw [hl]; unfold maxLen; omega, lcL_map (fun _ => .bl true) (fun d m P' p' => ?_) (allD_t ?_)⟩
  · obtain ⟨r, hr, rfl⟩ := List.mem_map.mp m
    exact ⟨rfl, by decide, p'⟩
  · refine lengths_of_v (by omega) (are_lengths_t (by rw [lensN_len]; exact n1) (by rw [lensN_len]; exact n6) (lensN_b l1 l8) sm ?_)
    refine ⟨show (rows.map D.tup).length ≤ 10000 by rw [hl]; omega, lcL2_map (fun d => .bl (itI d)) (fun d => match d with | .tup ds => ds | _ => []) (fun d m => ?_) (fun d m P' p' => ?_) (fun d m e me P' p' => ?_) ?_⟩
    · obtain ⟨r, hr, rfl⟩ := List.mem_map.mp m
      have := l8 r hr
      show r.length ≤ 1000
      omega
    · obtain ⟨r, hr, rfl⟩ := List.mem_map.mp m
      exact p'
    · obtain ⟨r, hr, rfl⟩ := List.mem_map.mp m
      have hx := pl r hr e me
      cases e with
      | non => exact p'
      | ty n => exact (nopl hx rfl).elim
      | ins C fs => exact (nopl hx rfl).elim
      | tape => exact (nopl hx rfl).elim
      | str s => exact ⟨rfl, by decide, p'⟩
      | _ => exact ⟨rfl, by decide, is_integer_v hx p'⟩
    · rw [List.map_map]
      show allD [.lst (rows.map fun r => r.map fun x => D.bl (itI x)).flatten] P
      rw [← List.map_flatten]
      refine allD_g (f := itI) ?_
      rw [bad]
      exact p
/-! what is told -/
theorem hdL_t {S : EndS} {C : Addr} {s : SS} {r : List (Addr × SS)} {x : XD} {ρ : List Slot} (h : PySem.W.exmOne K (.ref x.C) (.ref C) = some true) (p : s ρ { S with ex := fun _ _ => False }) : hdL K S ((C, s) :: r) x ρ := by
  unfold hdL
  rw [h]
  exact p
theorem hdL_f {S : EndS} {C : Addr} {s : SS} {r : List (Addr × SS)} {x : XD} {ρ : List Slot} (h : PySem.W.exmOne K (.ref x.C) (.ref C) = some false) (p : hdL K S r x ρ) : hdL K S ((C, s) :: r) x ρ := by
  unfold hdL
  rw [h]
  exact p
theorem put_no {h b x : D} (hh : HNo K a h) (p : PX ⟨a.c_NoHolding, []⟩) : f_put_sf K a [h, b, x] P PX := by
  unfold f_put_sf
  exact ⟨rfl, hh _ _ p⟩
theorem carried_no {h b : D} (hh : HNo K a h) (p : PX ⟨a.c_NoHolding, []⟩) : f_carried_sf K a [h, b] P PX := by
  unfold f_carried_sf
  exact ⟨rfl, hh _ _ p⟩
theorem put_nob {rows : List (List D)} {b x : D} (G : GoodH rows) (hb : plainTy b = true) (hn : numB b rows.length = false) (p : PX ⟨a.c_NoBelt, []⟩) : f_put_sf K a [hold rows, b, x] P PX := by
  unfold f_put_sf
  refine ⟨rfl, is_holding_t G ?_⟩
  refine is_number_v (n := ((rows.map D.tup).length : Nat)) hb ?_
  rw [List.length_map, hn]
  exact p
abbrev CNo (K : PySem.W.Frag) (a : Ad) (ns : List Int) (q : D) : Prop := (plainTy q = true ∧ isB q "list" = false ∧ isB q "tuple" = false) ∨ (∃ ds, (q = .lst ds ∨ q = .tup ds) ∧ (∀ d ∈ ds, okD 58 d = true) ∧ ds.length ≤ maxLen ∧ (decide (ds.length ≤ 1000) && ds.all (carB ns)) = false)
theorem carried_noc {rows : List (List D)} {q : D} (G : GoodH rows) (hq : CNo K a (lensN rows) q) (p : PX ⟨a.c_NoCarries, []⟩) : f_carried_sf K a [hold rows, q] P PX := by
  unfold f_carried_sf
  refine ⟨rfl, is_holding_t G ?_⟩
  rcases hq with ⟨h1, h2, h3⟩ | ⟨ds, hd, h1, h2, h3⟩
  · refine ⟨by decide, h1, rfl, ?_⟩
    have e : isAny q [.ty "list", .ty "tuple"] = false := by
      show (isB q "list" || (isB q "tuple" || false)) = false
      rw [h2, h3]
      rfl
    show boolD (.bl (isAny q [.ty "list", .ty "tuple"])) _
    rw [e]
    exact p
  · have key : ∀ (P' : D → Prop) (PX' : XD → Prop), P' (.bl false) → f_are_carries_sf K a [.tup ((lensN rows).map D.int), q] P' PX' := fun P' PX' p' => are_carries_v (n := 56) hd h1 h2 (by rw [h3]; exact p')
    rcases hd with rfl | rfl
    · exact ⟨by decide, rfl, rfl, lengths_of_t G.n6 (key _ _ p)⟩
    · exact ⟨by decide, rfl, rfl, lengths_of_t G.n6 (key _ _ p)⟩
variable {mg : Str → Option Value}
theorem put_told_h (T : Txt K mg a) {h b : D} (hh : HNo K a h) (p : P (.str "holding")) : f_law_put_told_sf K a [h, b] P PX := by
  unfold f_law_put_told_sf
  exact ⟨rfl, put_no hh (hdL_t T.m_NoHolding_NoHolding p)⟩
theorem put_told_b (T : Txt K mg a) {rows : List (List D)} {b : D} (G : GoodH rows) (hb : plainTy b = true) (hn : numB b rows.length = false) (p : P (.str "belt")) : f_law_put_told_sf K a [hold rows, b] P PX := by
  unfold f_law_put_told_sf
  exact ⟨rfl, put_nob G hb hn (hdL_f T.m_NoBelt_NoHolding (hdL_t T.m_NoBelt_NoBelt p))⟩
theorem put_told_l {rows : List (List D)} {b : Nat} (G : GoodH rows) (hb : b < rows.length) (p : P (.str "let")) : f_law_put_told_sf K a [hold rows, .int b] P PX := by
  unfold f_law_put_told_sf
  exact ⟨rfl, put_t G hb p⟩
theorem carried_told_h (T : Txt K mg a) {h b : D} (hh : HNo K a h) (p : P (.str "holding")) : f_law_carried_told_sf K a [h, b] P PX := by
  unfold f_law_carried_told_sf
  exact ⟨rfl, carried_no hh (hdL_t T.m_NoHolding_NoHolding p)⟩
theorem carried_told_c (T : Txt K mg a) {rows : List (List D)} {q : D} (G : GoodH rows) (hq : CNo K a (lensN rows) q) (p : P (.str "carries")) : f_law_carried_told_sf K a [hold rows, q] P PX := by
  unfold f_law_carried_told_sf
  exact ⟨rfl, carried_noc G hq (hdL_f T.m_NoCarries_NoHolding (hdL_t T.m_NoCarries_NoCarries p))⟩
theorem carried_told_l {rows : List (List D)} {cs : List Car} {q : D} (G : GoodH rows) (hq : q = .lst (cs.map cD) ∨ q = .tup (cs.map cD)) (hl : cs.length ≤ 1000) (h : ∀ c ∈ cs, CarOk (lensN rows) c) (p : P (.str "let")) : f_law_carried_told_sf K a [hold rows, q] P PX := by
  unfold f_law_carried_told_sf
  exact ⟨rfl, carried_t G hq hl h p⟩
end
section
variable {K : PySem.W.Frag} {a : Ad} {P : D → Prop} {PX : XD → Prop}
theorem splice_t {A B B' Y : SE} {ρ : List Slot} {ds : List D} {s : Nat} {y : D} (hA : ∀ Q : D → Prop, Q (.tup ds) → A ρ Q PX) (hB : ∀ Q : D → Prop, Q (.int s) → B ρ Q PX) (hB' : ∀ Q : D → Prop, Q (.int s) → B' ρ Q PX) (hY : ∀ Q : D → Prop, Q y → Y ρ Q PX) (hs : s < ds.length) (hl : ds.length ≤ 1000) (p : P (.tup (ds.set s y))) :
    (sOp addD (sOp addD (sSl A soN (soI B)) (sTup (saC Y saN))) (sSl A (soI (sOp addD B' (sC (.int 1)))) soN)) ρ P PX := by
  have e2 : cutD ds none (some (s : Int)) = ds.take s := cutD_to _ s
  have e3 : cutD ds (some ((s : Int) + 1)) none = ds.drop (s + 1) := cutD_from _ (s + 1)
  refine hA _ (hB _ (hY _ ⟨one_le, ?_, ?_⟩))
  · show (cutD ds none (some (s : Int))).length + 1 ≤ maxLen
    rw [e2, List.length_take]
    unfold maxLen
    omega
  · refine hA _ (hB' _ ?_)
    show (cutD ds none (some (s : Int)) ++ [y]).length + (cutD ds (some ((s : Int) + 1)) none).length ≤ maxLen ∧ P (.tup (cutD ds none (some (s : Int)) ++ [y] ++ cutD ds (some ((s : Int) + 1)) none))
    rw [e2, e3, set_take_drop _ _ _ hs]
    refine ⟨?_, p⟩
    rw [List.length_append, List.length_take, List.length_drop]
    unfold maxLen
    simp only [List.length_cons, List.length_nil]
    omega
theorem sOp_go {f : D → D → (D → Prop) → Prop} {sa sb : SE} {ρ : List Slot} {x : D} (ha : ∀ Q : D → Prop, Q x → sa ρ Q PX) (h : sb ρ (fun y => f x y P) PX) : sOp f sa sb ρ P PX := ha _ h
theorem lensN_set {rows : List (List D)} {s : Nat} {r : List D} : lensN (rows.set s r) = (lensN rows).set s r.length := by
  unfold lensN
  rw [List.map_set]
theorem no_list {rows : List (List D)} {s : Nat} {r : List D} (G : GoodH rows) (hs : s < rows.length) : HNo K a (.tup ((rows.map D.tup).set s (.lst r))) := by
  have h6 := G.n6
  refine hold_no2 (by rw [List.length_set, List.length_map]; unfold maxLen; omega) (fun d m => ?_) ?_
  · rcases List.mem_or_eq_of_mem_set m with m | rfl
    · obtain ⟨r, _, rfl⟩ := List.mem_map.mp m
      rfl
    · rfl
  · rw [List.all_eq_false]
    exact ⟨.lst r, List.mem_set (by rw [List.length_map]; exact hs) _, fun z => by cases z⟩
theorem no_odd {rows : List (List D)} {s k : Nat} {x : D} (G : GoodH rows) {r : List D} (hr : rows[s]? = some r) (hk : k < r.length) (hx : plainTy x = true) (hi : itI x = false) : HNo K a (.tup ((rows.map D.tup).set s (.tup (r.set k x)))) := by
  have hs := (List.getElem?_eq_some_iff.mp hr).1
  have hm : r ∈ rows := List.mem_of_getElem? hr
  rw [← List.map_set]
  have hnl : lensN (rows.set s (r.set k x)) = lensN rows := by
    rw [lensN_set, List.length_set]
    apply List.ext_getElem?
    intro i
    rw [List.getElem?_set]
    by_cases hi : s = i
    · subst hi
      unfold lensN
      rw [if_pos rfl, List.length_map, if_pos hs, List.getElem?_map, hr]
      rfl
    · rw [if_neg hi]
  refine hold_no4 (by rw [List.length_set]; exact G.n1) (by rw [List.length_set]; exact G.n6) (fun r' m => ?_) (fun r' m => ?_) (by rw [hnl]; exact G.sm) (fun r' m y my => ?_) ?_
  · rcases List.mem_or_eq_of_mem_set m with m | rfl
    · exact G.l1 _ m
    · rw [List.length_set]
      exact G.l1 _ hm
  · rcases List.mem_or_eq_of_mem_set m with m | rfl
    · exact G.l8 _ m
    · rw [List.length_set]
      exact G.l8 _ hm
  · have hgood : ∀ y, itB y = true → plainTy y = true := fun y h => by
      cases y with
      | non => rfl
      | int i => rfl
      | str s => rfl
      | _ => cases h
    rcases List.mem_or_eq_of_mem_set m with m | rfl
    · exact hgood y (G.it _ m y my)
    · rcases List.mem_or_eq_of_mem_set my with my | rfl
      · exact hgood y (G.it _ hm y my)
      · exact hx
  · rw [List.all_eq_false]
    exact ⟨x, List.mem_flatten.mpr ⟨r.set k x, List.mem_set hs _, List.mem_set hk _⟩, by rw [hi]; decide⟩
theorem no_empty {rows : List (List D)} {s : Nat} (G : GoodH rows) (hs : s < rows.length) : HNo K a (.tup ((rows.map D.tup).set s (.tup []))) := by
  have h6 := G.n6
  rw [← List.map_set]
  refine hold_no3 (by rw [List.length_set]; omega) ?_
  rw [lensN_set]
  unfold lensB
  have : ((lensN rows).set s ((([] : List D).length : Nat) : Int)).all (fun n => decide (1 ≤ n) && decide (n ≤ 8)) = false := by
    rw [List.all_eq_false]
    exact ⟨0, List.mem_set (by rw [lensN_len]; exact hs) _, by decide⟩
  rw [this]
  simp
def oddL : List D := [.bl true, .tup [], .lst [.int 1], .dct [], .tup [.str "x"], .bl false]
theorem oddL_ok : ∀ x ∈ oddL, plainTy x = true ∧ itI x = false := by
  unfold oddL
  intro x m
  simp only [List.mem_cons, List.not_mem_nil, or_false] at m
  rcases m with rfl | rfl | rfl | rfl | rfl | rfl <;> exact ⟨rfl, rfl⟩
theorem law_no_holding_t {rows : List (List D)} (G : GoodH rows) (p : ∀ d, HNo K a d → P d) : f_law_no_holding_sf K a [.tape, hold rows] P PX := by
  unfold f_law_no_holding_sf
  have hl : (rows.map D.tup).length = rows.length := List.length_map ..
  have n1 := G.n1
  have h6 := G.n6
  refine ⟨rfl, draw_t (n := ((rows.map D.tup).length : Nat)) (by omega) (by omega) fun s s0 s1 => ?_⟩
  obtain ⟨s, rfl⟩ := Int.eq_ofNat_of_zero_le s0
  have hs : s < rows.length := by omega
  have hr : rows[s]? = some rows[s] := List.getElem?_eq_getElem hs
  have hrm : rows[s] ∈ rows := List.getElem_mem hs
  have r1 := G.l1 _ hrm
  have r8 := G.l8 _ hrm
  refine ⟨zero_le, one_le, one_le, lm rfl, ?_⟩
  refine draw_t (n := 6) (by decide) (by decide) fun o o0 o1 => ?_
  refine atD_any (ds := oddL) o0 o1 fun x hx => ?_
  have hox := oddL_ok x hx
  refine atD_nat (n := s) (d := .tup rows[s]) (by rw [List.getElem?_map, hr]; rfl) ?_
  refine draw_t (n := (rows[s].length : Nat)) (by omega) (by omega) fun k k0 k1 => ?_
  obtain ⟨k, rfl⟩ := Int.eq_ofNat_of_zero_le k0
  have hk : k < rows[s].length := by omega
  have hml : s < (rows.map D.tup).length := by omega
  refine ⟨zero_le, ?_⟩
  refine splice_t (ds := rows.map D.tup) (s := s) (y := .lst rows[s]) (fun _ q => q) (fun _ q => q) (fun _ q => q) (fun _ q => q) hml (by omega) ?_
  refine ⟨lm rfl, ?_⟩
  dsimp only [sSeq, sSet]
  refine sOp_go (x := .lst [.lst (rows.map D.tup), .tup [], .non, .str "xy", .dct [], .int 0, .tup ((rows.map D.tup).set s (.lst rows[s]))]) (fun _ q => q) ?_
  refine splice_t (ds := rows.map D.tup) (s := s) (y := .tup (rows[s].set k x)) (fun _ q => q) (fun _ q => q) (fun _ q => q) (fun _ q => by exact splice_t (ds := rows[s]) (s := k) (y := x) (fun _ q => q) (fun _ q => q) (fun _ q => q) (fun _ q => q) hk (by omega) q) hml (by omega) ?_
  refine ⟨lm rfl, lm rfl, ?_⟩
  refine splice_t (ds := rows.map D.tup) (s := s) (y := .tup []) (fun _ q => q) (fun _ q => q) (fun _ q => q) (fun _ q => ⟨zero_le, q⟩) hml (by omega) ?_
  refine ⟨one_le, (fun z => nomatch z), by decide, by decide, by decide, one_le, ?_⟩
  refine ⟨one_le, (fun z => nomatch z), by decide, by decide, by decide, one_le, (fun z => nomatch z), by decide, by decide, by decide, two_le, ?_⟩
  refine ⟨one_le, one_le, (fun z => nomatch z), by decide, by decide, by decide, ?_⟩
  refine ⟨lm rfl, lm rfl, ?_⟩
  refine draw_t (n := 12) (by decide) (by decide) fun d d0 d1 => ?_
  refine atD_any (ds := [.lst (rows.map D.tup), .tup [], .non, .str "xy", .dct [], .int 0, .tup ((rows.map D.tup).set s (.lst rows[s])), .tup ((rows.map D.tup).set s (.tup (rows[s].set k x))), .tup ((rows.map D.tup).set s (.tup [])), hold [List.replicate 9 .non], hold [List.replicate 7 .non, List.replicate 6 .non], hold (List.replicate 7 [.non])]) d0 d1 fun y m => p y ?_
  simp only [List.mem_cons, List.not_mem_nil, or_false] at m
  rcases m with rfl | rfl | rfl | rfl | rfl | rfl | rfl | rfl | rfl | rfl | rfl | rfl
  · exact hold_no1 rfl rfl
  · exact hold_no3 (rows := []) (by decide) (by decide)
  · exact hold_no1 rfl rfl
  · exact hold_no1 rfl rfl
  · exact hold_no1 rfl rfl
  · exact hold_no1 rfl rfl
  · exact no_list G hs
  · exact no_odd G hr hk hox.1 hox.2
  · exact no_empty G hs
  · exact hold_no3 (by decide) (by decide)
  · exact hold_no3 (by decide) (by decide)
  · exact hold_no3 (by decide) (by decide)
/-! carries that are none -/
def wrongL (n : Int) : List D := [.int n, .int (-1), .bl true, .non, .str "0", .tup [.int 0]]
theorem okD_int' {n : Nat} (i : Int) : okD n (.int i) = true := by
  unfold okD
  rfl
theorem okD_bl' {n : Nat} (i : Bool) : okD n (.bl i) = true := by
  unfold okD
  rfl
theorem okD_non' {n : Nat} : okD n .non = true := by
  unfold okD
  rfl
theorem okD_str' {n : Nat} {s : Str} (h : PyData.canLay0 (.str s) = true) : okD n (.str s) = true := by
  unfold okD
  exact h
theorem okT1 {n : Nat} {x : D} (h : okD n x = true) : okD (n + 1) (.tup [x]) = true := okD_tup fun d m => by
  rw [List.mem_singleton.mp m]
  exact h
theorem okT2 {n : Nat} {x y : D} (h : okD n x = true) (h2 : okD n y = true) : okD (n + 1) (.tup [x, y]) = true := okD_tup fun d m => by
  simp only [List.mem_cons, List.not_mem_nil, or_false] at m
  rcases m with rfl | rfl
  · exact h
  · exact h2
theorem okT3 {n : Nat} {x y z : D} (h : okD n x = true) (h2 : okD n y = true) (h3 : okD n z = true) : okD (n + 1) (.tup [x, y, z]) = true := okD_tup fun d m => by
  simp only [List.mem_cons, List.not_mem_nil, or_false] at m
  rcases m with rfl | rfl | rfl
  · exact h
  · exact h2
  · exact h3
theorem okL2 {n : Nat} {x y : D} (h : okD n x = true) (h2 : okD n y = true) : okD (n + 1) (.lst [x, y]) = true := okD_lst fun d m => by
  simp only [List.mem_cons, List.not_mem_nil, or_false] at m
  rcases m with rfl | rfl
  · exact h
  · exact h2
theorem wrongL_ok {n : Int} : ∀ x ∈ wrongL n, numB x n = false ∧ ∀ m, okD (m + 1) x = true := by
  unfold wrongL
  intro x m
  simp only [List.mem_cons, List.not_mem_nil, or_false] at m
  rcases m with rfl | rfl | rfl | rfl | rfl | rfl
  · refine ⟨?_, fun m => okD_int' _⟩
    show (decide _ && decide _) = false
    simp
  · exact ⟨rfl, fun m => okD_int' _⟩
  · exact ⟨rfl, fun m => okD_bl' _⟩
  · exact ⟨rfl, fun m => okD_non'⟩
  · exact ⟨rfl, fun m => okD_str' (by decide +kernel)⟩
  · exact ⟨rfl, fun m => okT1 (okD_int' _)⟩
theorem car_f {ns : List Int} {x y : D} (h : roomB ns x = false) : carB ns (.tup [x, y]) = false := by
  show (roomB ns x && numB y ns.length) = false
  rw [h]
  rfl
theorem car_g {ns : List Int} {x y : D} (h : numB y ns.length = false) : carB ns (.tup [x, y]) = false := by
  show (roomB ns x && numB y ns.length) = false
  rw [h, Bool.and_false]
theorem room_k {ns : List Int} {b : Nat} {n : Int} {k : D} (hx : ns[b]? = some n) (h : numB k n = false) : roomB ns (.tup [.int b, k]) = false := by
  show (numB (.int b) ns.length && (match ns[(b : Int).toNat]? with
    | some n => numB k n
    | none => false)) = false
  rw [Int.toNat_natCast, hx]
  show (_ && numB k n) = false
  rw [h, Bool.and_false]
theorem room_b {ns : List Int} {x k : D} (h : numB x ns.length = false) : roomB ns (.tup [x, k]) = false := by
  cases x with
  | int b =>
    show (numB (.int b) ns.length && _) = false
    rw [h]
    rfl
  | _ => rfl
theorem law_no_carry_t {ns : List Int} (G : GoodL ns) (p : ∀ d, okD 58 d = true → carB ns d = false → P d) : f_law_no_carry_sf K a [.tape, .tup (ns.map D.int)] P PX := by
  unfold f_law_no_carry_sf
  have hl : (ns.map D.int).length = ns.length := List.length_map ..
  have n1 := G.n1
  have n6 := G.n6
  refine ⟨rfl, draw_t (n := ((ns.map D.int).length : Nat)) (by omega) (by omega) fun b b0 b1 => ?_⟩
  obtain ⟨b, rfl⟩ := Int.eq_ofNat_of_zero_le b0
  have hb : b < ns.length := by omega
  have hx : ns[b]? = some ns[b] := List.getElem?_eq_getElem hb
  refine ⟨one_le, lm rfl, ?_⟩
  refine draw_t (n := 6) (by decide) (by decide) fun o o0 o1 => ?_
  refine atD_any (ds := wrongL ((ns.map D.int).length : Nat)) o0 o1 fun w hw => ?_
  have how := wrongL_ok w hw
  rw [hl] at how
  refine atD_nat (n := b) (d := .int ns[b]) (by rw [List.getElem?_map, hx]; rfl) ?_
  refine ⟨lm rfl, lm rfl, lm rfl, lm rfl, lm rfl, lm rfl, lm rfl, lm rfl, lm rfl, lm rfl, lm rfl, lm rfl, lm rfl, ?_⟩
  refine ⟨lm rfl, lm rfl, lm rfl, lm rfl, lm rfl, lm rfl, lm rfl, lm rfl, lm rfl, lm rfl, lm rfl, ?_⟩
  refine draw_t (n := 13) (by decide) (by decide) fun d d0 d1 => ?_
  refine atD_any (ds := [.tup [.tup [.int b, .int ns[b]], .int 0], .tup [.tup [.int b, .int (-1)], .int 0], .tup [.tup [.int b, .int 0], w], .tup [.tup [w, .int 0], .int 0], .tup [.tup [.int b, .int 0]], .lst [.tup [.int b, .int 0], .int 0],
    .tup [.lst [.int b, .int 0], .int 0], .tup [.tup [.int b, .bl true], .int 0], .tup [.tup [.int b, .int 0, .int 0], .int 0], .non, .str "00", .tup [.tup [.int b, .int 0], .int 0, .int 0], .tup [.int 0, .int 0]]) d0 d1 fun y m => ?_
  simp only [List.mem_cons, List.not_mem_nil, or_false] at m
  rcases m with rfl | rfl | rfl | rfl | rfl | rfl | rfl | rfl | rfl | rfl | rfl | rfl | rfl
  · exact p _ (okT2 (okT2 (okD_int' _) (okD_int' _)) (okD_int' _)) (car_f (room_k hx (by show (decide _ && decide _) = false; simp)))
  · exact p _ (okT2 (okT2 (okD_int' _) (okD_int' _)) (okD_int' _)) (car_f (room_k hx rfl))
  · exact p _ (okT2 (okT2 (okD_int' _) (okD_int' _)) (how.2 56)) (car_g how.1)
  · exact p _ (okT2 (okT2 (how.2 55) (okD_int' _)) (okD_int' _)) (car_f (room_b how.1))
  · exact p _ (okT1 (okT2 (okD_int' _) (okD_int' _))) rfl
  · exact p _ (okL2 (okT2 (okD_int' _) (okD_int' _)) (okD_int' _)) rfl
  · exact p _ (okT2 (okL2 (okD_int' _) (okD_int' _)) (okD_int' _)) (car_f rfl)
  · exact p _ (okT2 (okT2 (okD_int' _) (okD_bl' _)) (okD_int' _)) (car_f (room_k hx rfl))
  · exact p _ (okT2 (okT3 (okD_int' _) (okD_int' _) (okD_int' _)) (okD_int' _)) (car_f rfl)
  · exact p _ okD_non' rfl
  · exact p _ (okD_str' (by decide +kernel)) rfl
  · exact p _ (okT3 (okT2 (okD_int' _) (okD_int' _)) (okD_int' _) (okD_int' _)) rfl
  · exact p _ (okT2 (okD_int' _) (okD_int' _)) (car_f rfl)
/-! the law -/
theorem okD_cD {n : Nat} (c : Car) : okD (n + 2) (cD c) = true := okT2 (okT2 (okD_int' _) (okD_int' _)) (okD_int' _)
variable {mg : Str → Option Value}
theorem ok_words : okD 60 (.str "holding") = true ∧ okD 60 (.str "belt") = true ∧ okD 60 (.str "let") = true ∧ okD 60 (.str "carries") = true := ⟨okD_str' (by decide +kernel), okD_str' (by decide +kernel), okD_str' (by decide +kernel), okD_str' (by decide +kernel)⟩
theorem flat_one {α : Type} (x : α) : ∀ n : Nat, (List.replicate n [x]).flatten = List.replicate n x
  | 0 => rfl
  | n + 1 => by
    rw [List.replicate_succ, List.flatten_cons, flat_one x n]
    rfl
def beltsL (n : Int) : List D := [.int n, .int (-1), .bl true, .non, .str "0", .tup [.int 0], .lst [.int 0], .int (10 ^ 20), .bl false]
theorem beltsL_ok {n : Int} (hn : n ≤ 6) : ∀ x ∈ beltsL n, numB x n = false ∧ plainTy x = true := by
  unfold beltsL
  intro x m
  simp only [List.mem_cons, List.not_mem_nil, or_false] at m
  rcases m with rfl | rfl | rfl | rfl | rfl | rfl | rfl | rfl | rfl
  · refine ⟨?_, rfl⟩
    show (decide _ && decide _) = false
    simp
  · exact ⟨rfl, rfl⟩
  · exact ⟨rfl, rfl⟩
  · exact ⟨rfl, rfl⟩
  · exact ⟨rfl, rfl⟩
  · exact ⟨rfl, rfl⟩
  · exact ⟨rfl, rfl⟩
  · refine ⟨?_, rfl⟩
    show (decide ((0 : Int) ≤ 10 ^ 20) && decide ((10 : Int) ^ 20 < n)) = false
    rw [show decide ((10 : Int) ^ 20 < n) = false from decide_eq_false (by omega), Bool.and_false]
  · exact ⟨rfl, rfl⟩
theorem law_math0 (T : Txt K mg a) : ∀ S : EndS, S.rt (.bl true) → law_ss K a [.no, .d .tape, .no, .no, .no, .no, .no, .no, .no, .no, .no, .no] S := by
  intro S hS
  refine law_lengths_t fun ns G => ?_
  refine law_holding_t G fun rows GH hl => ?_
  have hlr : (rows.map D.tup).length = rows.length := List.length_map ..
  have h1 := GH.n1
  have h6 := GH.n6
  have hnl : ns.length = rows.length := by rw [← hl]; exact lensN_len rows
  have hml : (ns.map D.int).length = rows.length := by rw [List.length_map]; exact hnl
  obtain ⟨w1, w2, w3, w4⟩ := ok_words
  refine ⟨by decide, by decide, ?_⟩
  refine for_inv (fun i ρ => ∃ (s4 s5 s6 s7 s8 s9 s10 s11 : Slot), ρ = [.no, .d .tape, .d (.tup (ns.map D.int)), .d (hold rows), s4, s5, s6, s7, s8, s9, s10, s11]) ?_ ?_ gsN_mono ?_
  · exact ⟨_, _, _, _, _, _, _, _, rfl⟩
  · rintro i d ρ hi ⟨s4, s5, s6, s7, s8, s9, s10, s11, rfl⟩
    intro S' hnx hrt _ _ _
    refine law_no_holding_t GH fun wrong hw => ?_
    refine put_told_h T hw ?_
    refine eqD_ne w1 ?_
    refine carried_told_h T hw ?_
    refine eqD_ne w1 ?_
    refine ⟨one_le, one_le, ⟨by decide, by decide⟩, lm rfl, ?_⟩
    refine draw_t (n := 9) (by decide) (by decide) fun d d0 d1 => ?_
    refine atD_any (ds := beltsL ((ns.map D.int).length : Nat)) d0 d1 fun x hx => ?_
    have hxo := beltsL_ok (by omega) x hx
    rw [hml] at hxo
    refine put_told_b T GH hxo.2 hxo.1 ?_
    refine eqD_ne w2 ?_
    refine draw_t (n := ((ns.map D.int).length : Nat)) (by omega) (by omega) fun b b0 b1 => ?_
    obtain ⟨b, rfl⟩ := Int.eq_ofNat_of_zero_le b0
    refine put_told_l GH (by omega) ?_
    refine eqD_ne w3 ?_
    refine draw_t (n := 5) (by decide) (by decide) fun k k0 k1 => ?_
    refine ⟨by omega, by omega, ?_⟩
    refine ⟨by
      rw [rangeL_len]
      unfold maxLen
      omega, lcL_rel (R := fun _ y => ∃ c : Car, y = cD c ∧ CarOk ns c) (fun d m P' p' => ?_) fun ys hys => ?_⟩
    · refine law_room_t G fun b k hbk => ?_
      refine draw_t (n := ((ns.map D.int).length : Nat)) (by omega) (by omega) fun e e0 e1 => ?_
      obtain ⟨e, rfl⟩ := Int.eq_ofNat_of_zero_le e0
      rw [List.length_map] at e1
      exact ⟨two_le, p' _ ⟨(b, k, e), rfl, hbk, by show e < ns.length; omega⟩⟩
    obtain ⟨cs, rfl, hcs, hcl⟩ := paired_rel hys
    have hcl' : cs.length ≤ 4 := by
      rw [hcl, rangeL_len]
      omega
    have hcm : (cs.map cD).length = cs.length := List.length_map ..
    refine draw_t (n := ((cs.map cD).length : Int) + 1) (by omega) (by omega) fun s s0 s1 => ?_
    obtain ⟨s, rfl⟩ := Int.eq_ofNat_of_zero_le s0
    have c1 : cutD (cs.map cD) none (some (s : Int)) = (cs.map cD).take s := cutD_to _ s
    have c2 : cutD (cs.map cD) (some (s : Int)) none = (cs.map cD).drop s := cutD_from _ s
    refine law_no_carry_t G fun y hy1 hy2 => ?_
    refine ⟨one_le, ?_⟩
    refine ⟨?_, ?_, ?_⟩
    · show (cutD (cs.map cD) none (some (s : Int))).length + 1 ≤ maxLen
      rw [c1, List.length_take]
      unfold maxLen
      omega
    · show (cutD (cs.map cD) none (some (s : Int)) ++ [y]).length + (cutD (cs.map cD) (some (s : Int)) none).length ≤ maxLen
      rw [c1, c2, List.length_append, List.length_take, List.length_drop]
      simp only [List.length_cons, List.length_nil]
      unfold maxLen
      omega
    have hok : ∀ d ∈ cutD (cs.map cD) none (some (s : Int)) ++ [y] ++ cutD (cs.map cD) (some (s : Int)) none, okD 58 d = true := fun d m => by
      have hc : ∀ d ∈ cs.map cD, okD 58 d = true := fun d m => by
        obtain ⟨c, _, rfl⟩ := List.mem_map.mp m
        exact okD_cD c
      rw [c1, c2] at m
      rcases List.mem_append.mp m with m | m
      · rcases List.mem_append.mp m with m | m
        · exact hc d (List.mem_of_mem_take m)
        · rw [List.mem_singleton.mp m]
          exact hy1
      · exact hc d (List.mem_of_mem_drop m)
    have hbad : (cutD (cs.map cD) none (some (s : Int)) ++ [y] ++ cutD (cs.map cD) (some (s : Int)) none).all (carB (lensN rows)) = false := by
      rw [List.all_eq_false]
      exact ⟨y, by simp, by rw [hl, hy2]; decide⟩
    have hlen : (cutD (cs.map cD) none (some (s : Int)) ++ [y] ++ cutD (cs.map cD) (some (s : Int)) none).length ≤ maxLen := by
      rw [c1, c2, List.length_append, List.length_append, List.length_take, List.length_drop]
      simp only [List.length_cons, List.length_nil]
      unfold maxLen
      omega
    generalize hB : cutD (cs.map cD) none (some (s : Int)) ++ [y] ++ cutD (cs.map cD) (some (s : Int)) none = B at hok hbad hlen ⊢
    have hbad2 : (decide (B.length ≤ 1000) && B.all (carB (lensN rows))) = false := by rw [hbad, Bool.and_false]
    refine ⟨two_le, two_le, one_le, by decide, by decide, lm rfl, lm rfl, ?_⟩
    refine draw_t (n := 8) (by decide) (by decide) fun e e0 e1 => ?_
    refine atD_any (ds := [.lst B, .tup B, .non, .str "", .dct [], .int 0, .bl true, .lst (List.replicate 1001 [cD (0, 0, 0)]).flatten]) e0 e1 fun q hq => ?_
    have hno : CNo K a (lensN rows) q := by
      simp only [List.mem_cons, List.not_mem_nil, or_false] at hq
      rcases hq with rfl | rfl | rfl | rfl | rfl | rfl | rfl | rfl
      · exact .inr ⟨B, .inl rfl, hok, hlen, hbad2⟩
      · exact .inr ⟨B, .inr rfl, hok, hlen, hbad2⟩
      · exact .inl ⟨rfl, rfl, rfl⟩
      · exact .inl ⟨rfl, rfl, rfl⟩
      · exact .inl ⟨rfl, rfl, rfl⟩
      · exact .inl ⟨rfl, rfl, rfl⟩
      · exact .inl ⟨rfl, rfl, rfl⟩
      · refine .inr ⟨_, .inl rfl, fun d m => ?_, ?_, ?_⟩
        · rw [flat_one] at m
          rw [(List.mem_replicate.mp m).2]
          exact okD_cD _
        · rw [flat_one, List.length_replicate]
          unfold maxLen
          omega
        · rw [flat_one, List.length_replicate]
          rfl
    refine carried_told_c T GH hno ?_
    refine eqD_ne w4 ?_
    refine carried_told_l (cs := cs) GH (.inl rfl) (by omega) (by rw [hl]; exact hcs) ?_
    refine eqD_ne w3 ?_
    exact hnx _ ⟨_, _, _, _, _, _, _, _, rfl⟩
  · rintro ρ ⟨s4, s5, s6, s7, s8, s9, s10, s11, rfl⟩
    have hc0 : CarOk (lensN rows) (0, 0, 0) := by
      have hr : rows[0]? = some rows[0] := List.getElem?_eq_getElem (by omega)
      have := GH.l1 _ (List.getElem_mem (show 0 < rows.length by omega))
      refine ⟨⟨rows[0].length, ?_, ?_⟩, ?_⟩
      · unfold lensN
        rw [List.getElem?_map, hr]
        rfl
      · show ((0 : Nat) : Int) < _
        omega
      · rw [lensN_len]
        exact h1
    have hrep : (List.replicate 1000 [cD (0, 0, 0)]).flatten = (List.replicate 1000 (0, 0, 0)).map cD := by
      rw [flat_one, List.map_replicate]
    refine ⟨two_le, two_le, one_le, by decide, by decide, lm rfl, ?_⟩
    refine carried_told_l (cs := List.replicate 1000 (0, 0, 0)) GH (.inl (congrArg D.lst hrep)) (by rw [List.length_replicate]; omega) (fun c m => by rw [(List.mem_replicate.mp m).2]; exact hc0) ?_
    refine eqD_refl w3 ?_
    refine ⟨zero_le, ?_⟩
    refine carried_told_l (cs := []) GH (.inr rfl) (by decide) (fun c m => (List.not_mem_nil m).elim) ?_
    exact eqD_refl w3 hS
end
theorem law_math {K : PySem.W.Frag} {mg : Str → Option Value} {a : Ad} (T : Txt K mg a) : LawMath K a := law_math0 T
theorem all_mk {l : PySem.W.OpenLaw} {w : World} {K : PySem.W.Frag} {h : Heap} {mg : Str → Option Value} {fa : Addr} (X : K.In h) (G : h.Ns mainGlobals mg) (hfa : mg "law" = some (.ref fa))
    {c_NoBelt : Addr}
    {c_NoCarries : Addr}
    {c_NoHolding : Addr}
    {k_LONGEST : Tok}
    {k_MOST_BELTS : Tok}
    {k_MOST_CARRIES : Tok}
    {k_MOST_ROOMS : Tok}
    {p0 : Addr} {od0 an0 : Option Addr} {sl0 : Array (Option Value)} {oc0 kV0 dc0 pm0 cd0 ct0 : Value}
    {p1 : Addr} {od1 an1 : Option Addr} {sl1 : Array (Option Value)} {oc1 kV1 dc1 pm1 cd1 ct1 : Value}
    {p2 : Addr} {od2 an2 : Option Addr} {sl2 : Array (Option Value)} {oc2 kV2 dc2 pm2 cd2 ct2 : Value}
    {p3 : Addr} {od3 an3 : Option Addr} {sl3 : Array (Option Value)} {oc3 kV3 dc3 pm3 cd3 ct3 : Value}
    {p4 : Addr} {od4 an4 : Option Addr} {sl4 : Array (Option Value)} {oc4 kV4 dc4 pm4 cd4 ct4 : Value}
    {p5 : Addr} {od5 an5 : Option Addr} {sl5 : Array (Option Value)} {oc5 kV5 dc5 pm5 cd5 ct5 : Value}
    {p6 : Addr} {od6 an6 : Option Addr} {sl6 : Array (Option Value)} {oc6 kV6 dc6 pm6 cd6 ct6 : Value}
    {p7 : Addr} {od7 an7 : Option Addr} {sl7 : Array (Option Value)} {oc7 kV7 dc7 pm7 cd7 ct7 : Value}
    {p8 : Addr} {od8 an8 : Option Addr} {sl8 : Array (Option Value)} {oc8 kV8 dc8 pm8 cd8 ct8 : Value}
    {p9 : Addr} {od9 an9 : Option Addr} {sl9 : Array (Option Value)} {oc9 kV9 dc9 pm9 cd9 ct9 : Value}
    {p10 : Addr} {od10 an10 : Option Addr} {sl10 : Array (Option Value)} {oc10 kV10 dc10 pm10 cd10 ct10 : Value}
    {p11 : Addr} {od11 an11 : Option Addr} {sl11 : Array (Option Value)} {oc11 kV11 dc11 pm11 cd11 ct11 : Value}
    {p12 : Addr} {od12 an12 : Option Addr} {sl12 : Array (Option Value)} {oc12 kV12 dc12 pm12 cd12 ct12 : Value}
    {p13 : Addr} {od13 an13 : Option Addr} {sl13 : Array (Option Value)} {oc13 kV13 dc13 pm13 cd13 ct13 : Value}
    {p14 : Addr} {od14 an14 : Option Addr} {sl14 : Array (Option Value)} {oc14 kV14 dc14 pm14 cd14 ct14 : Value}
    {p15 : Addr} {od15 an15 : Option Addr} {sl15 : Array (Option Value)} {oc15 kV15 dc15 pm15 cd15 ct15 : Value}
    {p16 : Addr} {od16 an16 : Option Addr} {sl16 : Array (Option Value)} {oc16 kV16 dc16 pm16 cd16 ct16 : Value}
    {p17 : Addr} {od17 an17 : Option Addr} {sl17 : Array (Option Value)} {oc17 kV17 dc17 pm17 cd17 ct17 : Value}
    {p18 : Addr} {od18 an18 : Option Addr} {sl18 : Array (Option Value)} {oc18 kV18 dc18 pm18 cd18 ct18 : Value}
    {p19 : Addr} {od19 an19 : Option Addr} {sl19 : Array (Option Value)} {oc19 kV19 dc19 pm19 cd19 ct19 : Value}
    {p20 : Addr} {od20 an20 : Option Addr} {sl20 : Array (Option Value)} {oc20 kV20 dc20 pm20 cd20 ct20 : Value}
    {p21 : Addr} {od21 an21 : Option Addr} {sl21 : Array (Option Value)} {oc21 kV21 dc21 pm21 cd21 ct21 : Value}
    {p22 : Addr} {od22 an22 : Option Addr} {sl22 : Array (Option Value)} {oc22 kV22 dc22 pm22 cd22 ct22 : Value}
    (z_abs : PySem.W.nsIn K mainGlobals "abs" = some none)
    (z_all : PySem.W.nsIn K mainGlobals "all" = some none)
    (z_bool : PySem.W.nsIn K mainGlobals "bool" = some none)
    (z_int : PySem.W.nsIn K mainGlobals "int" = some none)
    (z_isinstance : PySem.W.nsIn K mainGlobals "isinstance" = some none)
    (z_len : PySem.W.nsIn K mainGlobals "len" = some none)
    (z_list : PySem.W.nsIn K mainGlobals "list" = some none)
    (z_min : PySem.W.nsIn K mainGlobals "min" = some none)
    (z_range : PySem.W.nsIn K mainGlobals "range" = some none)
    (z_str : PySem.W.nsIn K mainGlobals "str" = some none)
    (z_sum : PySem.W.nsIn K mainGlobals "sum" = some none)
    (z_tuple : PySem.W.nsIn K mainGlobals "tuple" = some none)
    (q_LONGEST : PySem.W.nsIn K mainGlobals "LONGEST" = some (some (.int 8 k_LONGEST)))
    (q_MOST_BELTS : PySem.W.nsIn K mainGlobals "MOST_BELTS" = some (some (.int 6 k_MOST_BELTS)))
    (q_MOST_CARRIES : PySem.W.nsIn K mainGlobals "MOST_CARRIES" = some (some (.int 1000 k_MOST_CARRIES)))
    (q_MOST_ROOMS : PySem.W.nsIn K mainGlobals "MOST_ROOMS" = some (some (.int 12 k_MOST_ROOMS)))
    (g_NoBelt : PySem.W.nsIn K mainGlobals "NoBelt" = some (some (.ref c_NoBelt)))
    (x_NoBelt : PySem.W.excIn K c_NoBelt [.type "ValueError", .type "Exception", .type "BaseException", .type "object"] "ValueError.__new__" = true)
    (k_NoBelt : PySem.W.keepIn K (.ref c_NoBelt) = true)
    (b_NoBelt : PySem.W.subIn K (.ref c_NoBelt) (.type "BaseException") = some true)
    (t_NoBelt : PySem.W.typeIn K (.ref c_NoBelt) = some (.type "type"))
    (g_NoCarries : PySem.W.nsIn K mainGlobals "NoCarries" = some (some (.ref c_NoCarries)))
    (x_NoCarries : PySem.W.excIn K c_NoCarries [.type "ValueError", .type "Exception", .type "BaseException", .type "object"] "ValueError.__new__" = true)
    (k_NoCarries : PySem.W.keepIn K (.ref c_NoCarries) = true)
    (b_NoCarries : PySem.W.subIn K (.ref c_NoCarries) (.type "BaseException") = some true)
    (t_NoCarries : PySem.W.typeIn K (.ref c_NoCarries) = some (.type "type"))
    (g_NoHolding : PySem.W.nsIn K mainGlobals "NoHolding" = some (some (.ref c_NoHolding)))
    (x_NoHolding : PySem.W.excIn K c_NoHolding [.type "ValueError", .type "Exception", .type "BaseException", .type "object"] "ValueError.__new__" = true)
    (k_NoHolding : PySem.W.keepIn K (.ref c_NoHolding) = true)
    (b_NoHolding : PySem.W.subIn K (.ref c_NoHolding) (.type "BaseException") = some true)
    (t_NoHolding : PySem.W.typeIn K (.ref c_NoHolding) = some (.type "type"))
    (h_NoBelt : PySem.W.hasDictIn K c_NoBelt = true)
    (h_NoCarries : PySem.W.hasDictIn K c_NoCarries = true)
    (h_NoHolding : PySem.W.hasDictIn K c_NoHolding = true)
    (s_NoBelt_NoBelt : PySem.W.subIn K (.ref c_NoBelt) (.ref c_NoBelt) = some true)
    (s_NoBelt_NoCarries : PySem.W.subIn K (.ref c_NoBelt) (.ref c_NoCarries) = some false)
    (s_NoBelt_NoHolding : PySem.W.subIn K (.ref c_NoBelt) (.ref c_NoHolding) = some false)
    (s_NoCarries_NoBelt : PySem.W.subIn K (.ref c_NoCarries) (.ref c_NoBelt) = some false)
    (s_NoCarries_NoCarries : PySem.W.subIn K (.ref c_NoCarries) (.ref c_NoCarries) = some true)
    (s_NoCarries_NoHolding : PySem.W.subIn K (.ref c_NoCarries) (.ref c_NoHolding) = some false)
    (s_NoHolding_NoBelt : PySem.W.subIn K (.ref c_NoHolding) (.ref c_NoBelt) = some false)
    (s_NoHolding_NoCarries : PySem.W.subIn K (.ref c_NoHolding) (.ref c_NoCarries) = some false)
    (s_NoHolding_NoHolding : PySem.W.subIn K (.ref c_NoHolding) (.ref c_NoHolding) = some true)
    (a0 : PySem.W.nsIn K mainGlobals "is_integer" = some (some (.ref p0)))
    (l0 : K.lookup p0 = some ⟨oc0, od0, .func (PySem.W.fnOf "is_integer" "is_integer" (defArgs f_is_integer_st) (defBody f_is_integer_st) (defScope f_is_integer_st) .none kV0 dc0 pm0 an0 cd0 ct0), sl0⟩)
    (i0 : PySem.W.codeIn K cd0 "is_integer" = true)
    (k0 : PySem.W.keepIn K (.ref p0) = true)
    (a1 : PySem.W.nsIn K mainGlobals "is_number" = some (some (.ref p1)))
    (l1 : K.lookup p1 = some ⟨oc1, od1, .func (PySem.W.fnOf "is_number" "is_number" (defArgs f_is_number_st) (defBody f_is_number_st) (defScope f_is_number_st) .none kV1 dc1 pm1 an1 cd1 ct1), sl1⟩)
    (i1 : PySem.W.codeIn K cd1 "is_number" = true)
    (k1 : PySem.W.keepIn K (.ref p1) = true)
    (a2 : PySem.W.nsIn K mainGlobals "is_tuple" = some (some (.ref p2)))
    (l2 : K.lookup p2 = some ⟨oc2, od2, .func (PySem.W.fnOf "is_tuple" "is_tuple" (defArgs f_is_tuple_st) (defBody f_is_tuple_st) (defScope f_is_tuple_st) .none kV2 dc2 pm2 an2 cd2 ct2), sl2⟩)
    (i2 : PySem.W.codeIn K cd2 "is_tuple" = true)
    (k2 : PySem.W.keepIn K (.ref p2) = true)
    (a3 : PySem.W.nsIn K mainGlobals "are_lengths" = some (some (.ref p3)))
    (l3 : K.lookup p3 = some ⟨oc3, od3, .func (PySem.W.fnOf "are_lengths" "are_lengths" (defArgs f_are_lengths_st) (defBody f_are_lengths_st) (defScope f_are_lengths_st) .none kV3 dc3 pm3 an3 cd3 ct3), sl3⟩)
    (i3 : PySem.W.codeIn K cd3 "are_lengths" = true)
    (k3 : PySem.W.keepIn K (.ref p3) = true)
    (a4 : PySem.W.nsIn K mainGlobals "is_room" = some (some (.ref p4)))
    (l4 : K.lookup p4 = some ⟨oc4, od4, .func (PySem.W.fnOf "is_room" "is_room" (defArgs f_is_room_st) (defBody f_is_room_st) (defScope f_is_room_st) .none kV4 dc4 pm4 an4 cd4 ct4), sl4⟩)
    (i4 : PySem.W.codeIn K cd4 "is_room" = true)
    (k4 : PySem.W.keepIn K (.ref p4) = true)
    (a5 : PySem.W.nsIn K mainGlobals "is_holding" = some (some (.ref p5)))
    (l5 : K.lookup p5 = some ⟨oc5, od5, .func (PySem.W.fnOf "is_holding" "is_holding" (defArgs f_is_holding_st) (defBody f_is_holding_st) (defScope f_is_holding_st) .none kV5 dc5 pm5 an5 cd5 ct5), sl5⟩)
    (i5 : PySem.W.codeIn K cd5 "is_holding" = true)
    (k5 : PySem.W.keepIn K (.ref p5) = true)
    (a6 : PySem.W.nsIn K mainGlobals "lengths_of" = some (some (.ref p6)))
    (l6 : K.lookup p6 = some ⟨oc6, od6, .func (PySem.W.fnOf "lengths_of" "lengths_of" (defArgs f_lengths_of_st) (defBody f_lengths_of_st) (defScope f_lengths_of_st) .none kV6 dc6 pm6 an6 cd6 ct6), sl6⟩)
    (i6 : PySem.W.codeIn K cd6 "lengths_of" = true)
    (k6 : PySem.W.keepIn K (.ref p6) = true)
    (a7 : PySem.W.nsIn K mainGlobals "put" = some (some (.ref p7)))
    (l7 : K.lookup p7 = some ⟨oc7, od7, .func (PySem.W.fnOf "put" "put" (defArgs f_put_st) (defBody f_put_st) (defScope f_put_st) .none kV7 dc7 pm7 an7 cd7 ct7), sl7⟩)
    (i7 : PySem.W.codeIn K cd7 "put" = true)
    (k7 : PySem.W.keepIn K (.ref p7) = true)
    (a8 : PySem.W.nsIn K mainGlobals "pushed" = some (some (.ref p8)))
    (l8 : K.lookup p8 = some ⟨oc8, od8, .func (PySem.W.fnOf "pushed" "pushed" (defArgs f_pushed_st) (defBody f_pushed_st) (defScope f_pushed_st) .none kV8 dc8 pm8 an8 cd8 ct8), sl8⟩)
    (i8 : PySem.W.codeIn K cd8 "pushed" = true)
    (k8 : PySem.W.keepIn K (.ref p8) = true)
    (a9 : PySem.W.nsIn K mainGlobals "carried" = some (some (.ref p9)))
    (l9 : K.lookup p9 = some ⟨oc9, od9, .func (PySem.W.fnOf "carried" "carried" (defArgs f_carried_st) (defBody f_carried_st) (defScope f_carried_st) .none kV9 dc9 pm9 an9 cd9 ct9), sl9⟩)
    (i9 : PySem.W.codeIn K cd9 "carried" = true)
    (k9 : PySem.W.keepIn K (.ref p9) = true)
    (a10 : PySem.W.nsIn K mainGlobals "are_carries" = some (some (.ref p10)))
    (l10 : K.lookup p10 = some ⟨oc10, od10, .func (PySem.W.fnOf "are_carries" "are_carries" (defArgs f_are_carries_st) (defBody f_are_carries_st) (defScope f_are_carries_st) .none kV10 dc10 pm10 an10 cd10 ct10), sl10⟩)
    (i10 : PySem.W.codeIn K cd10 "are_carries" = true)
    (k10 : PySem.W.keepIn K (.ref p10) = true)
    (a11 : PySem.W.nsIn K mainGlobals "is_carry" = some (some (.ref p11)))
    (l11 : K.lookup p11 = some ⟨oc11, od11, .func (PySem.W.fnOf "is_carry" "is_carry" (defArgs f_is_carry_st) (defBody f_is_carry_st) (defScope f_is_carry_st) .none kV11 dc11 pm11 an11 cd11 ct11), sl11⟩)
    (i11 : PySem.W.codeIn K cd11 "is_carry" = true)
    (k11 : PySem.W.keepIn K (.ref p11) = true)
    (a12 : PySem.W.nsIn K mainGlobals "moved" = some (some (.ref p12)))
    (l12 : K.lookup p12 = some ⟨oc12, od12, .func (PySem.W.fnOf "moved" "moved" (defArgs f_moved_st) (defBody f_moved_st) (defScope f_moved_st) .none kV12 dc12 pm12 an12 cd12 ct12), sl12⟩)
    (i12 : PySem.W.codeIn K cd12 "moved" = true)
    (k12 : PySem.W.keepIn K (.ref p12) = true)
    (a13 : PySem.W.nsIn K mainGlobals "_law_dice" = some (some (.ref p13)))
    (l13 : K.lookup p13 = some ⟨oc13, od13, .func (PySem.W.fnOf "_law_dice" "_law_dice" (defArgs f_law_dice_st) (defBody f_law_dice_st) (defScope f_law_dice_st) .none kV13 dc13 pm13 an13 cd13 ct13), sl13⟩)
    (i13 : PySem.W.codeIn K cd13 "_law_dice" = true)
    (k13 : PySem.W.keepIn K (.ref p13) = true)
    (a14 : PySem.W.nsIn K mainGlobals "_law_draw" = some (some (.ref p14)))
    (l14 : K.lookup p14 = some ⟨oc14, od14, .func (PySem.W.fnOf "_law_draw" "_law_draw" (defArgs f_law_draw_st) (defBody f_law_draw_st) (defScope f_law_draw_st) .none kV14 dc14 pm14 an14 cd14 ct14), sl14⟩)
    (i14 : PySem.W.codeIn K cd14 "_law_draw" = true)
    (k14 : PySem.W.keepIn K (.ref p14) = true)
    (a15 : PySem.W.nsIn K mainGlobals "_law_lengths" = some (some (.ref p15)))
    (l15 : K.lookup p15 = some ⟨oc15, od15, .func (PySem.W.fnOf "_law_lengths" "_law_lengths" (defArgs f_law_lengths_st) (defBody f_law_lengths_st) (defScope f_law_lengths_st) .none kV15 dc15 pm15 an15 cd15 ct15), sl15⟩)
    (i15 : PySem.W.codeIn K cd15 "_law_lengths" = true)
    (k15 : PySem.W.keepIn K (.ref p15) = true)
    (a16 : PySem.W.nsIn K mainGlobals "_law_room" = some (some (.ref p16)))
    (l16 : K.lookup p16 = some ⟨oc16, od16, .func (PySem.W.fnOf "_law_room" "_law_room" (defArgs f_law_room_st) (defBody f_law_room_st) (defScope f_law_room_st) .none kV16 dc16 pm16 an16 cd16 ct16), sl16⟩)
    (i16 : PySem.W.codeIn K cd16 "_law_room" = true)
    (k16 : PySem.W.keepIn K (.ref p16) = true)
    (a17 : PySem.W.nsIn K mainGlobals "_law_holding" = some (some (.ref p17)))
    (l17 : K.lookup p17 = some ⟨oc17, od17, .func (PySem.W.fnOf "_law_holding" "_law_holding" (defArgs f_law_holding_st) (defBody f_law_holding_st) (defScope f_law_holding_st) .none kV17 dc17 pm17 an17 cd17 ct17), sl17⟩)
    (i17 : PySem.W.codeIn K cd17 "_law_holding" = true)
    (k17 : PySem.W.keepIn K (.ref p17) = true)
    (a18 : PySem.W.nsIn K mainGlobals "_law_put_told" = some (some (.ref p18)))
    (l18 : K.lookup p18 = some ⟨oc18, od18, .func (PySem.W.fnOf "_law_put_told" "_law_put_told" (defArgs f_law_put_told_st) (defBody f_law_put_told_st) (defScope f_law_put_told_st) .none kV18 dc18 pm18 an18 cd18 ct18), sl18⟩)
    (i18 : PySem.W.codeIn K cd18 "_law_put_told" = true)
    (k18 : PySem.W.keepIn K (.ref p18) = true)
    (a19 : PySem.W.nsIn K mainGlobals "_law_carried_told" = some (some (.ref p19)))
    (l19 : K.lookup p19 = some ⟨oc19, od19, .func (PySem.W.fnOf "_law_carried_told" "_law_carried_told" (defArgs f_law_carried_told_st) (defBody f_law_carried_told_st) (defScope f_law_carried_told_st) .none kV19 dc19 pm19 an19 cd19 ct19), sl19⟩)
    (i19 : PySem.W.codeIn K cd19 "_law_carried_told" = true)
    (k19 : PySem.W.keepIn K (.ref p19) = true)
    (a20 : PySem.W.nsIn K mainGlobals "_law_no_holding" = some (some (.ref p20)))
    (l20 : K.lookup p20 = some ⟨oc20, od20, .func (PySem.W.fnOf "_law_no_holding" "_law_no_holding" (defArgs f_law_no_holding_st) (defBody f_law_no_holding_st) (defScope f_law_no_holding_st) .none kV20 dc20 pm20 an20 cd20 ct20), sl20⟩)
    (i20 : PySem.W.codeIn K cd20 "_law_no_holding" = true)
    (k20 : PySem.W.keepIn K (.ref p20) = true)
    (a21 : PySem.W.nsIn K mainGlobals "_law_no_carry" = some (some (.ref p21)))
    (l21 : K.lookup p21 = some ⟨oc21, od21, .func (PySem.W.fnOf "_law_no_carry" "_law_no_carry" (defArgs f_law_no_carry_st) (defBody f_law_no_carry_st) (defScope f_law_no_carry_st) .none kV21 dc21 pm21 an21 cd21 ct21), sl21⟩)
    (i21 : PySem.W.codeIn K cd21 "_law_no_carry" = true)
    (k21 : PySem.W.keepIn K (.ref p21) = true)
    (a22 : PySem.W.nsIn K mainGlobals "law" = some (some (.ref p22)))
    (l22 : K.lookup p22 = some ⟨oc22, od22, .func (PySem.W.fnOf "law" "law" (defArgs f_law_st) (defBody f_law_st) (defScope f_law_st) .none kV22 dc22 pm22 an22 cd22 ct22), sl22⟩)
    (i22 : PySem.W.codeIn K cd22 "law" = true)
    (k22 : PySem.W.keepIn K (.ref p22) = true)
    : ∃ fd : FuncData, (∀ (s : Shared) (v : Value), BindsTo s fd ⟨[v], []⟩ [("_law_script", v)]) ∧ ∀ base : Heap, K.In base → base.Ns mainGlobals mg → FnOk l.prog w K mg base (L2.CX l.prog w) 8 fa fd ["_law_script"] (spLaw K) := by
  have e := hfa.symm.trans (PySem.W.mg_of X G a22)
  cases e
  have T : Txt K mg ⟨c_NoBelt, c_NoCarries, c_NoHolding, (.int 8 k_LONGEST), (.int 6 k_MOST_BELTS), (.int 1000 k_MOST_CARRIES), (.int 12 k_MOST_ROOMS), p0, (PySem.W.fnOf "is_integer" "is_integer" (defArgs f_is_integer_st) (defBody f_is_integer_st) (defScope f_is_integer_st) .none kV0 dc0 pm0 an0 cd0 ct0), p1, (PySem.W.fnOf "is_number" "is_number" (defArgs f_is_number_st) (defBody f_is_number_st) (defScope f_is_number_st) .none kV1 dc1 pm1 an1 cd1 ct1), p2, (PySem.W.fnOf "is_tuple" "is_tuple" (defArgs f_is_tuple_st) (defBody f_is_tuple_st) (defScope f_is_tuple_st) .none kV2 dc2 pm2 an2 cd2 ct2), p3, (PySem.W.fnOf "are_lengths" "are_lengths" (defArgs f_are_lengths_st) (defBody f_are_lengths_st) (defScope f_are_lengths_st) .none kV3 dc3 pm3 an3 cd3 ct3), p4, (PySem.W.fnOf "is_room" "is_room" (defArgs f_is_room_st) (defBody f_is_room_st) (defScope f_is_room_st) .none kV4 dc4 pm4 an4 cd4 ct4), p5, (PySem.W.fnOf "is_holding" "is_holding" (defArgs f_is_holding_st) (defBody f_is_holding_st) (defScope f_is_holding_st) .none kV5 dc5 pm5 an5 cd5 ct5), p6, (PySem.W.fnOf "lengths_of" "lengths_of" (defArgs f_lengths_of_st) (defBody f_lengths_of_st) (defScope f_lengths_of_st) .none kV6 dc6 pm6 an6 cd6 ct6), p7, (PySem.W.fnOf "put" "put" (defArgs f_put_st) (defBody f_put_st) (defScope f_put_st) .none kV7 dc7 pm7 an7 cd7 ct7), p8, (PySem.W.fnOf "pushed" "pushed" (defArgs f_pushed_st) (defBody f_pushed_st) (defScope f_pushed_st) .none kV8 dc8 pm8 an8 cd8 ct8), p9, (PySem.W.fnOf "carried" "carried" (defArgs f_carried_st) (defBody f_carried_st) (defScope f_carried_st) .none kV9 dc9 pm9 an9 cd9 ct9), p10, (PySem.W.fnOf "are_carries" "are_carries" (defArgs f_are_carries_st) (defBody f_are_carries_st) (defScope f_are_carries_st) .none kV10 dc10 pm10 an10 cd10 ct10), p11, (PySem.W.fnOf "is_carry" "is_carry" (defArgs f_is_carry_st) (defBody f_is_carry_st) (defScope f_is_carry_st) .none kV11 dc11 pm11 an11 cd11 ct11), p12, (PySem.W.fnOf "moved" "moved" (defArgs f_moved_st) (defBody f_moved_st) (defScope f_moved_st) .none kV12 dc12 pm12 an12 cd12 ct12), p13, (PySem.W.fnOf "_law_dice" "_law_dice" (defArgs f_law_dice_st) (defBody f_law_dice_st) (defScope f_law_dice_st) .none kV13 dc13 pm13 an13 cd13 ct13), p14, (PySem.W.fnOf "_law_draw" "_law_draw" (defArgs f_law_draw_st) (defBody f_law_draw_st) (defScope f_law_draw_st) .none kV14 dc14 pm14 an14 cd14 ct14), p15, (PySem.W.fnOf "_law_lengths" "_law_lengths" (defArgs f_law_lengths_st) (defBody f_law_lengths_st) (defScope f_law_lengths_st) .none kV15 dc15 pm15 an15 cd15 ct15), p16, (PySem.W.fnOf "_law_room" "_law_room" (defArgs f_law_room_st) (defBody f_law_room_st) (defScope f_law_room_st) .none kV16 dc16 pm16 an16 cd16 ct16), p17, (PySem.W.fnOf "_law_holding" "_law_holding" (defArgs f_law_holding_st) (defBody f_law_holding_st) (defScope f_law_holding_st) .none kV17 dc17 pm17 an17 cd17 ct17), p18, (PySem.W.fnOf "_law_put_told" "_law_put_told" (defArgs f_law_put_told_st) (defBody f_law_put_told_st) (defScope f_law_put_told_st) .none kV18 dc18 pm18 an18 cd18 ct18), p19, (PySem.W.fnOf "_law_carried_told" "_law_carried_told" (defArgs f_law_carried_told_st) (defBody f_law_carried_told_st) (defScope f_law_carried_told_st) .none kV19 dc19 pm19 an19 cd19 ct19), p20, (PySem.W.fnOf "_law_no_holding" "_law_no_holding" (defArgs f_law_no_holding_st) (defBody f_law_no_holding_st) (defScope f_law_no_holding_st) .none kV20 dc20 pm20 an20 cd20 ct20), p21, (PySem.W.fnOf "_law_no_carry" "_law_no_carry" (defArgs f_law_no_carry_st) (defBody f_law_no_carry_st) (defScope f_law_no_carry_st) .none kV21 dc21 pm21 an21 cd21 ct21), fa, (PySem.W.fnOf "law" "law" (defArgs f_law_st) (defBody f_law_st) (defScope f_law_st) .none kV22 dc22 pm22 an22 cd22 ct22)⟩ := ⟨PySem.W.mg_none_of X G z_abs, PySem.W.mg_none_of X G z_all, PySem.W.mg_none_of X G z_bool, PySem.W.mg_none_of X G z_int, PySem.W.mg_none_of X G z_isinstance, PySem.W.mg_none_of X G z_len, PySem.W.mg_none_of X G z_list, PySem.W.mg_none_of X G z_min, PySem.W.mg_none_of X G z_range, PySem.W.mg_none_of X G z_str, PySem.W.mg_none_of X G z_sum, PySem.W.mg_none_of X G z_tuple, ⟨PySem.W.mg_of X G q_LONGEST, _, rfl⟩, ⟨PySem.W.mg_of X G q_MOST_BELTS, _, rfl⟩, ⟨PySem.W.mg_of X G q_MOST_CARRIES, _, rfl⟩, ⟨PySem.W.mg_of X G q_MOST_ROOMS, _, rfl⟩, PySem.W.mg_of X G g_NoBelt, x_NoBelt, k_NoBelt, b_NoBelt, t_NoBelt, PySem.W.mg_of X G g_NoCarries, x_NoCarries, k_NoCarries, b_NoCarries, t_NoCarries, PySem.W.mg_of X G g_NoHolding, x_NoHolding, k_NoHolding, b_NoHolding, t_NoHolding, exm_of2 b_NoBelt h_NoBelt t_NoBelt s_NoBelt_NoBelt, exm_of2 b_NoCarries h_NoCarries t_NoCarries s_NoBelt_NoCarries, exm_of2 b_NoHolding h_NoHolding t_NoHolding s_NoBelt_NoHolding, exm_of2 b_NoBelt h_NoBelt t_NoBelt s_NoCarries_NoBelt, exm_of2 b_NoCarries h_NoCarries t_NoCarries s_NoCarries_NoCarries, exm_of2 b_NoHolding h_NoHolding t_NoHolding s_NoCarries_NoHolding, exm_of2 b_NoBelt h_NoBelt t_NoBelt s_NoHolding_NoBelt, exm_of2 b_NoCarries h_NoCarries t_NoCarries s_NoHolding_NoCarries, exm_of2 b_NoHolding h_NoHolding t_NoHolding s_NoHolding_NoHolding, PySem.W.mg_of X G a0, fun_mk (st := f_is_integer_st) l0 i0 k0, PySem.W.mg_of X G a1, fun_mk (st := f_is_number_st) l1 i1 k1, PySem.W.mg_of X G a2, fun_mk (st := f_is_tuple_st) l2 i2 k2, PySem.W.mg_of X G a3, fun_mk (st := f_are_lengths_st) l3 i3 k3, PySem.W.mg_of X G a4, fun_mk (st := f_is_room_st) l4 i4 k4, PySem.W.mg_of X G a5, fun_mk (st := f_is_holding_st) l5 i5 k5, PySem.W.mg_of X G a6, fun_mk (st := f_lengths_of_st) l6 i6 k6, PySem.W.mg_of X G a7, fun_mk (st := f_put_st) l7 i7 k7, PySem.W.mg_of X G a8, fun_mk (st := f_pushed_st) l8 i8 k8, PySem.W.mg_of X G a9, fun_mk (st := f_carried_st) l9 i9 k9, PySem.W.mg_of X G a10, fun_mk (st := f_are_carries_st) l10 i10 k10, PySem.W.mg_of X G a11, fun_mk (st := f_is_carry_st) l11 i11 k11, PySem.W.mg_of X G a12, fun_mk (st := f_moved_st) l12 i12 k12, PySem.W.mg_of X G a13, fun_mk (st := f_law_dice_st) l13 i13 k13, PySem.W.mg_of X G a14, fun_mk (st := f_law_draw_st) l14 i14 k14, PySem.W.mg_of X G a15, fun_mk (st := f_law_lengths_st) l15 i15 k15, PySem.W.mg_of X G a16, fun_mk (st := f_law_room_st) l16 i16 k16, PySem.W.mg_of X G a17, fun_mk (st := f_law_holding_st) l17 i17 k17, PySem.W.mg_of X G a18, fun_mk (st := f_law_put_told_st) l18 i18 k18, PySem.W.mg_of X G a19, fun_mk (st := f_law_carried_told_st) l19 i19 k19, PySem.W.mg_of X G a20, fun_mk (st := f_law_no_holding_st) l20 i20 k20, PySem.W.mg_of X G a21, fun_mk (st := f_law_no_carry_st) l21 i21 k21, PySem.W.mg_of X G a22, fun_mk (st := f_law_st) l22 i22 k22⟩
  exact ⟨_, fun s v => .of_eq rfl, fun base _ _ => law_ok T (law_math T)⟩
end Lw

open PySem PySem.W PyProof.Rows in
set_option maxRecDepth 100000 in
set_option maxHeartbeats 0 in
theorem PySem.Challenge.cw_fullbelts_k21_holdings_and_carries_refus_holds : PySem.Challenge.rw_fullbelts_k21_holdings_and_carries_refus.Holds := by
  w_on; o_law; k_head; (case hw => w_witness2)
  k_fill
  refine L2.walk_of (l := PySem.Challenge.rw_fullbelts_k21_holdings_and_carries_refus) (n := 63) (k := 8) (x := "_law_script") (CX := fun w => L2.CX PySem.Challenge.rw_fullbelts_k21_holdings_and_carries_refus.prog w) (sp := fun w => Lw.spLaw _) rfl (by decide) rfl ⟨rfl, by decide, by decide⟩ (fun w h Y => PySem.W.kIn_of Y) ?F (fun _ _ a ns hl _ hS => ⟨a, ns, rfl, hS, hl, fun _ => rfl⟩) (fun _ _ _ _ _ h => by obtain ⟨_, _, _, _, _, _, _, _, _, _, _, _, z⟩ := h; exact z)
  case F =>
    intro w mg fa h KX G hmg
    refine' Lw.all_mk KX G hmg ?z_abs ?z_all ?z_bool ?z_int ?z_isinstance ?z_len ?z_list ?z_min ?z_range ?z_str ?z_sum ?z_tuple ?q_LONGEST ?q_MOST_BELTS ?q_MOST_CARRIES ?q_MOST_ROOMS ?g_NoBelt ?x_NoBelt ?k_NoBelt ?b_NoBelt ?t_NoBelt ?g_NoCarries ?x_NoCarries ?k_NoCarries ?b_NoCarries ?t_NoCarries ?g_NoHolding ?x_NoHolding ?k_NoHolding ?b_NoHolding ?t_NoHolding ?h_NoBelt ?h_NoCarries ?h_NoHolding ?s_NoBelt_NoBelt ?s_NoBelt_NoCarries ?s_NoBelt_NoHolding ?s_NoCarries_NoBelt ?s_NoCarries_NoCarries ?s_NoCarries_NoHolding ?s_NoHolding_NoBelt ?s_NoHolding_NoCarries ?s_NoHolding_NoHolding ?a0 ?l0 ?i0 ?k0 ?a1 ?l1 ?i1 ?k1 ?a2 ?l2 ?i2 ?k2 ?a3 ?l3 ?i3 ?k3 ?a4 ?l4 ?i4 ?k4 ?a5 ?l5 ?i5 ?k5 ?a6 ?l6 ?i6 ?k6 ?a7 ?l7 ?i7 ?k7 ?a8 ?l8 ?i8 ?k8 ?a9 ?l9 ?i9 ?k9 ?a10 ?l10 ?i10 ?k10 ?a11 ?l11 ?i11 ?k11 ?a12 ?l12 ?i12 ?k12 ?a13 ?l13 ?i13 ?k13 ?a14 ?l14 ?i14 ?k14 ?a15 ?l15 ?i15 ?k15 ?a16 ?l16 ?i16 ?k16 ?a17 ?l17 ?i17 ?k17 ?a18 ?l18 ?i18 ?k18 ?a19 ?l19 ?i19 ?k19 ?a20 ?l20 ?i20 ?k20 ?a21 ?l21 ?i21 ?k21 ?a22 ?l22 ?i22 ?k22
    (case z_abs => first | k_is | rfl)
    (case z_all => first | k_is | rfl)
    (case z_bool => first | k_is | rfl)
    (case z_int => first | k_is | rfl)
    (case z_isinstance => first | k_is | rfl)
    (case z_len => first | k_is | rfl)
    (case z_list => first | k_is | rfl)
    (case z_min => first | k_is | rfl)
    (case z_range => first | k_is | rfl)
    (case z_str => first | k_is | rfl)
    (case z_sum => first | k_is | rfl)
    (case z_tuple => first | k_is | rfl)
    (case q_LONGEST => first | k_is | rfl)
    (case q_MOST_BELTS => first | k_is | rfl)
    (case q_MOST_CARRIES => first | k_is | rfl)
    (case q_MOST_ROOMS => first | k_is | rfl)
    (case g_NoBelt => first | k_is | rfl)
    (case x_NoBelt => first | k_exc | k_is | rfl)
    (case k_NoBelt => first | k_is | rfl)
    (case b_NoBelt => first | k_is | rfl)
    (case t_NoBelt => first | k_is | rfl)
    (case g_NoCarries => first | k_is | rfl)
    (case x_NoCarries => first | k_exc | k_is | rfl)
    (case k_NoCarries => first | k_is | rfl)
    (case b_NoCarries => first | k_is | rfl)
    (case t_NoCarries => first | k_is | rfl)
    (case g_NoHolding => first | k_is | rfl)
    (case x_NoHolding => first | k_exc | k_is | rfl)
    (case k_NoHolding => first | k_is | rfl)
    (case b_NoHolding => first | k_is | rfl)
    (case t_NoHolding => first | k_is | rfl)
    (case h_NoBelt => first | k_is | rfl)
    (case h_NoCarries => first | k_is | rfl)
    (case h_NoHolding => first | k_is | rfl)
    (case s_NoBelt_NoBelt => first | k_is | rfl)
    (case s_NoBelt_NoCarries => first | k_is | rfl)
    (case s_NoBelt_NoHolding => first | k_is | rfl)
    (case s_NoCarries_NoBelt => first | k_is | rfl)
    (case s_NoCarries_NoCarries => first | k_is | rfl)
    (case s_NoCarries_NoHolding => first | k_is | rfl)
    (case s_NoHolding_NoBelt => first | k_is | rfl)
    (case s_NoHolding_NoCarries => first | k_is | rfl)
    (case s_NoHolding_NoHolding => first | k_is | rfl)
    (case a0 => first | k_is | rfl)
    (case l0 => first | k_is | rfl)
    (case i0 => first | k_is | rfl)
    (case k0 => first | k_is | rfl)
    (case a1 => first | k_is | rfl)
    (case l1 => first | k_is | rfl)
    (case i1 => first | k_is | rfl)
    (case k1 => first | k_is | rfl)
    (case a2 => first | k_is | rfl)
    (case l2 => first | k_is | rfl)
    (case i2 => first | k_is | rfl)
    (case k2 => first | k_is | rfl)
    (case a3 => first | k_is | rfl)
    (case l3 => first | k_is | rfl)
    (case i3 => first | k_is | rfl)
    (case k3 => first | k_is | rfl)
    (case a4 => first | k_is | rfl)
    (case l4 => first | k_is | rfl)
    (case i4 => first | k_is | rfl)
    (case k4 => first | k_is | rfl)
    (case a5 => first | k_is | rfl)
    (case l5 => first | k_is | rfl)
    (case i5 => first | k_is | rfl)
    (case k5 => first | k_is | rfl)
    (case a6 => first | k_is | rfl)
    (case l6 => first | k_is | rfl)
    (case i6 => first | k_is | rfl)
    (case k6 => first | k_is | rfl)
    (case a7 => first | k_is | rfl)
    (case l7 => first | k_is | rfl)
    (case i7 => first | k_is | rfl)
    (case k7 => first | k_is | rfl)
    (case a8 => first | k_is | rfl)
    (case l8 => first | k_is | rfl)
    (case i8 => first | k_is | rfl)
    (case k8 => first | k_is | rfl)
    (case a9 => first | k_is | rfl)
    (case l9 => first | k_is | rfl)
    (case i9 => first | k_is | rfl)
    (case k9 => first | k_is | rfl)
    (case a10 => first | k_is | rfl)
    (case l10 => first | k_is | rfl)
    (case i10 => first | k_is | rfl)
    (case k10 => first | k_is | rfl)
    (case a11 => first | k_is | rfl)
    (case l11 => first | k_is | rfl)
    (case i11 => first | k_is | rfl)
    (case k11 => first | k_is | rfl)
    (case a12 => first | k_is | rfl)
    (case l12 => first | k_is | rfl)
    (case i12 => first | k_is | rfl)
    (case k12 => first | k_is | rfl)
    (case a13 => first | k_is | rfl)
    (case l13 => first | k_is | rfl)
    (case i13 => first | k_is | rfl)
    (case k13 => first | k_is | rfl)
    (case a14 => first | k_is | rfl)
    (case l14 => first | k_is | rfl)
    (case i14 => first | k_is | rfl)
    (case k14 => first | k_is | rfl)
    (case a15 => first | k_is | rfl)
    (case l15 => first | k_is | rfl)
    (case i15 => first | k_is | rfl)
    (case k15 => first | k_is | rfl)
    (case a16 => first | k_is | rfl)
    (case l16 => first | k_is | rfl)
    (case i16 => first | k_is | rfl)
    (case k16 => first | k_is | rfl)
    (case a17 => first | k_is | rfl)
    (case l17 => first | k_is | rfl)
    (case i17 => first | k_is | rfl)
    (case k17 => first | k_is | rfl)
    (case a18 => first | k_is | rfl)
    (case l18 => first | k_is | rfl)
    (case i18 => first | k_is | rfl)
    (case k18 => first | k_is | rfl)
    (case a19 => first | k_is | rfl)
    (case l19 => first | k_is | rfl)
    (case i19 => first | k_is | rfl)
    (case k19 => first | k_is | rfl)
    (case a20 => first | k_is | rfl)
    (case l20 => first | k_is | rfl)
    (case i20 => first | k_is | rfl)
    (case k20 => first | k_is | rfl)
    (case a21 => first | k_is | rfl)
    (case l21 => first | k_is | rfl)
    (case i21 => first | k_is | rfl)
    (case k21 => first | k_is | rfl)
    (case a22 => first | k_is | rfl)
    (case l22 => first | k_is | rfl)
    (case i22 => first | k_is | rfl)
    (case k22 => first | k_is | rfl)
