import PyProof.Rows.All
import Wide.All
import OpenK.AllK
import Wide.FinOn
import HandS.ForMost
import HandS.ForExc
import HandS.TryMany
import HandS.IsInst
import HandS.TupAny
import HandS.TupMul
import HandS.Flow
import HandS.Small
import HandS.ExcIs
import HandS.Wide
import HandS.ExcInit
import PyProof.WalksMore
import HandS.Dict
import HandS.Property
import HandS.Iter
import HandS.Text
import HandS.More
import HandS.OwnEq
import HandS.ExcField
import HandS.ExcValue
import HandS.DictEq
import HandS.ListEq
import PySem.Challenge.RW_fullbelts_k00_errors_and_their_fields
set_option Elab.async false
set_option linter.all false
set_option maxRecDepth 100000
set_option maxHeartbeats 4000000
/-! Readings over plain data: slots that hold data (frozen trees), own lists, the tape. -/
namespace DS
open PySem PySem.Spec PyProof.Rows L2

inductive D where
  | non | bl (b : Bool) | int (i : Int) | str (x : Str) | ty (n : String)
  | lst (ds : List D) | tup (ds : List D)
  | ins (C : Addr) (fs : List (Str × D))
  | exc (C : Addr) (fs : List (Str × D))
  | dct (kvs : List (D × D))
  | tape

def keyD : Key → D
  | .inl i => .int i
  | .inr s => .str s

mutual
inductive Rp (t : Addr) (H : Hp) : V → D → Prop
  | non : Rp t H .non .non
  | bl (b : Bool) : Rp t H (.bl b) (.bl b)
  | int (i : Int) : Rp t H (.int i) (.int i)
  | str (x : Str) : Rp t H (.str x) (.str x)
  | ty (n : String) : Rp t H (.ty n) (.ty n)
  | tape : Rp t H (.ref t) .tape
  | lst {a : Addr} {vs : List V} {ds : List D} : H a = some (.lst vs) → RpL t H vs ds → Rp t H (.ref a) (.lst ds)
  | tup {a : Addr} {vs : List V} {ds : List D} : H a = some (.tup vs) → RpL t H vs ds → Rp t H (.ref a) (.tup ds)
  | ins {a C dx : Addr} {fs : List (Str × V)} {ds : List (Str × D)} : H a = some (.ins C dx fs) → RpF t H fs ds → Rp t H (.ref a) (.ins C ds)
  | exc {a C : Addr} : H a = some (exo a C none) → Rp t H (.ref a) (.exc C [])
  | excF {a C dx : Addr} {fs : List (Str × V)} {ds : List (Str × D)} : H a = some (exo a C (some dx)) → H dx = some (exd dx fs) → RpF t H fs ds → Rp t H (.ref a) (.exc C ds)
  | dct {a : Addr} {kvs : List (Key × V)} {ds : List (D × D)} : H a = some (.dK kvs) → RpK t H kvs ds → Rp t H (.ref a) (.dct ds)
  | dctT {a : Addr} {kvs : List (List Key × V)} {ds : List (D × D)} : H a = some (.dT kvs) → RpT t H kvs ds → Rp t H (.ref a) (.dct ds)
inductive RpL (t : Addr) (H : Hp) : List V → List D → Prop
  | nil : RpL t H [] []
  | cons {v : V} {vs : List V} {d : D} {ds : List D} : Rp t H v d → RpL t H vs ds → RpL t H (v :: vs) (d :: ds)
inductive RpF (t : Addr) (H : Hp) : List (Str × V) → List (Str × D) → Prop
  | nil : RpF t H [] []
  | cons {x : Str} {v : V} {vs : List (Str × V)} {d : D} {ds : List (Str × D)} : Rp t H v d → RpF t H vs ds → RpF t H ((x, v) :: vs) ((x, d) :: ds)
inductive RpK (t : Addr) (H : Hp) : List (Key × V) → List (D × D) → Prop
  | nil : RpK t H [] []
  | cons {k : Key} {v : V} {vs : List (Key × V)} {d : D} {ds : List (D × D)} : Rp t H v d → RpK t H vs ds → RpK t H ((k, v) :: vs) ((keyD k, d) :: ds)
inductive RpT (t : Addr) (H : Hp) : List (List Key × V) → List (D × D) → Prop
  | nil : RpT t H [] []
  | cons {k : List Key} {v : V} {vs : List (List Key × V)} {d : D} {ds : List (D × D)} : Rp t H v d → RpT t H vs ds → RpT t H ((k, v) :: vs) ((D.tup (k.map keyD), d) :: ds)
end

mutual
theorem Rp.mono {t : Addr} {H H' : Hp} (e : Same H H') : ∀ {v : V} {d : D}, Rp t H v d → Rp t H' v d
  | _, _, .non => .non
  | _, _, .bl b => .bl b
  | _, _, .int b => .int b
  | _, _, .str b => .str b
  | _, _, .ty b => .ty b
  | _, _, .tape => .tape
  | _, _, .lst h r => .lst (e _ _ h) (RpL.mono e r)
  | _, _, .tup h r => .tup (e _ _ h) (RpL.mono e r)
  | _, _, .ins h r => .ins (e _ _ h) (RpF.mono e r)
  | _, _, .exc h => .exc (e _ _ h)
  | _, _, .excF h h2 r => .excF (e _ _ h) (e _ _ h2) (RpF.mono e r)
  | _, _, .dct h r => .dct (e _ _ h) (RpK.mono e r)
  | _, _, .dctT h r => .dctT (e _ _ h) (RpT.mono e r)
theorem RpL.mono {t : Addr} {H H' : Hp} (e : Same H H') : ∀ {v : List V} {d : List D}, RpL t H v d → RpL t H' v d
  | _, _, .nil => .nil
  | _, _, .cons h r => .cons (Rp.mono e h) (RpL.mono e r)
theorem RpF.mono {t : Addr} {H H' : Hp} (e : Same H H') : ∀ {v : List (Str × V)} {d : List (Str × D)}, RpF t H v d → RpF t H' v d
  | _, _, .nil => .nil
  | _, _, .cons h r => .cons (Rp.mono e h) (RpF.mono e r)
theorem RpK.mono {t : Addr} {H H' : Hp} (e : Same H H') : ∀ {v : List (Key × V)} {d : List (D × D)}, RpK t H v d → RpK t H' v d
  | _, _, .nil => .nil
  | _, _, .cons h r => .cons (Rp.mono e h) (RpK.mono e r)
theorem RpT.mono {t : Addr} {H H' : Hp} (e : Same H H') : ∀ {v : List (List Key × V)} {d : List (D × D)}, RpT t H v d → RpT t H' v d
  | _, _, .nil => .nil
  | _, _, .cons h r => .cons (Rp.mono e h) (RpT.mono e r)
end

/-- what an object's content is -/
inductive Ct (t : Addr) (H : Hp) : HO → D → Prop
  | lst {vs : List V} {ds : List D} : RpL t H vs ds → Ct t H (.lst vs) (.lst ds)
  | dct {kvs : List (Key × V)} {ds : List (D × D)} : RpK t H kvs ds → Ct t H (.dK kvs) (.dct ds)
  | dctT {kvs : List (List Key × V)} {ds : List (D × D)} : RpT t H kvs ds → Ct t H (.dT kvs) (.dct ds)
theorem Ct.mono {t : Addr} {H H' : Hp} (e : Same H H') {o : HO} {d : D} : Ct t H o d → Ct t H' o d
  | .lst r => .lst (r.mono e)
  | .dct r => .dct (r.mono e)
  | .dctT r => .dctT (r.mono e)
theorem Ct.rp {t : Addr} {H : Hp} {o : HO} {d : D} {a : Addr} (h : H a = some o) : Ct t H o d → Rp t H (.ref a) d
  | .lst r => .lst h r
  | .dct r => .dct h r
  | .dctT r => .dctT h r

/-- the heap without the addresses of O -/
def hd (O : List Addr) (H : Hp) : Hp := fun a => if a ∈ O then none else H a
theorem hd_in {O : List Addr} {H : Hp} {a : Addr} (h : a ∈ O) : hd O H a = none := by
  unfold hd
  rw [if_pos h]
theorem hd_out {O : List Addr} {H : Hp} {a : Addr} (h : a ∉ O) : hd O H a = H a := by
  unfold hd
  rw [if_neg h]
theorem hd_some {O : List Addr} {H : Hp} {a : Addr} {o : HO} (h : hd O H a = some o) : a ∉ O ∧ H a = some o := by
  by_cases e : a ∈ O
  · rw [hd_in e] at h
    cases h
  · rw [hd_out e] at h
    exact ⟨e, h⟩
theorem hd_sub {O O' : List Addr} {H : Hp} (h : ∀ a ∈ O', a ∈ O) : Same (hd O H) (hd O' H) := fun a o e => by
  obtain ⟨n, e⟩ := hd_some e
  rw [hd_out fun z => n (h a z)]
  exact e
theorem hd_le {O : List Addr} {H : Hp} : Same (hd O H) H := fun a o e => (hd_some e).2

/-- the tape at t, its numbers at l, under I -/
abbrev TI' := List Int → Int → Int → Int → Int → Prop
def Tp (t l : Addr) (I : TI') (H : Hp) : Prop := ∃ ns i j k m, H t = some (.lst [.ref l, .int i, .int j, .int k, .int m]) ∧ H l = some (.lst (ns.map V.int)) ∧ I ns i j k m
def Kept (t l : Addr) (I : TI') (H H' : Hp) : Prop := (∀ a o, a ≠ t → H a = some o → H' a = some o) ∧ Tp t l I H'

inductive Slot where
  | no | d (x : D) | own (x : D) | me (p C : Addr) (fs : List (Str × D)) | lk (p : Addr)

structure EnvB (t l : Addr) (I : TI') (H0 : Hp) (O0 O : List Addr) (H : Hp) : Prop where
  tp : Tp t l I H
  t0 : t ∈ O0
  l0 : l ∈ O0
  sub : ∀ a ∈ O0, a ∈ O
  all0 : ∀ a ∈ O0, H0 a ≠ none
  all : ∀ a ∈ O, H a ≠ none
  kept : ∀ a o, a ≠ t → H0 a = some o → H a = some o
  ownO : ∀ a ∈ O, a ∈ O0 ∨ H0 a = none
def SlotOk (t : Addr) (H0 : Hp) (O : List Addr) (H : Hp) (v : Option (Option V)) : Slot → Prop
  | .no => True
  | .d x => ∃ u, v = some (some u) ∧ Rp t (hd O H) u x
  | .own x => ∃ p o, v = some (some (.ref p)) ∧ p ∈ O ∧ H0 p = none ∧ H p = some o ∧ Ct t (hd O H) o x
  | .me p C fs => v = some (some (.ref p)) ∧ p ∈ O ∧ H0 p = none ∧ ∃ dx us, H p = some (.ins C dx us) ∧ RpF t (hd O H) us fs
  | .lk p => v = some (some (.ref p))
structure Env (t l : Addr) (I : TI') (H0 : Hp) (O0 O : List Addr) (H : Hp) (σ : L2.St) (ρ : List Slot) : Prop extends EnvB t l I H0 O0 O H where
  len : σ.length = ρ.length
  slot : ∀ (i : Nat) s, ρ[i]? = some s → SlotOk t H0 O H σ[i]? s
  dist : ∀ (i j : Nat) p xi xj, ρ[i]? = some (.own xi) → ρ[j]? = some (.own xj) → σ[i]? = some (some (.ref p)) → σ[j]? = some (some (.ref p)) → i = j

section
variable {t l : Addr} {I : TI'} {H0 H H' H'' : Hp} {O0 O : List Addr} {σ : L2.St} {ρ : List Slot}
theorem Tp.lt (h : Tp t l I H) : t ≠ l := fun e => by
  obtain ⟨ns, i, j, k, m, h1, h2, _⟩ := h
  subst e
  rw [h1] at h2
  have e := HO.lst.inj (Option.some.inj h2)
  cases ns with
  | nil => cases e
  | cons a r =>
    rw [List.map_cons] at e
    cases (List.cons.inj e).1
theorem Kept.refl (h : Tp t l I H) : Kept t l I H H := ⟨fun _ _ _ e => e, h⟩
theorem Kept.trans (a : Kept t l I H H') (b : Kept t l I H' H'') : Kept t l I H H'' := ⟨fun c o n e => b.1 c o n (a.1 c o n e), b.2⟩
theorem Kept.same (k : Kept t l I H H') (ht : t ∈ O) : Same (hd O H) (hd O H') := fun a o e => by
  obtain ⟨n, e⟩ := hd_some e
  rw [hd_out n]
  exact k.1 a o (fun z => n (z ▸ ht)) e
theorem Kept.there (k : Kept t l I H H') (ht : H' t ≠ none) {a : Addr} (h : H a ≠ none) : H' a ≠ none := by
  by_cases e : a = t
  · rw [e]
    exact ht
  · cases q : H a with
    | none => exact absurd q h
    | some o =>
      rw [k.1 a o e q]
      exact fun z => nomatch z
theorem Tp.t_some (h : Tp t l I H) : H t ≠ none := by
  obtain ⟨ns, i, j, k, m, h1, h2, _⟩ := h
  rw [h1]
  exact fun z => nomatch z
/-- a new object -/
theorem Kept.new (h : Tp t l I H) {p : Addr} {o : HO} (n : H p = none) : Kept t l I H (upd H p o) := by
  have k : ∀ a u, H a = some u → upd H p o a = some u := fun a u e => by
    rw [upd_ne (ne_of_none e n)]
    exact e
  obtain ⟨ns, i, j, kk, m, h1, h2, h3⟩ := h
  exact ⟨fun a u _ e => k a u e, ns, i, j, kk, m, k _ _ h1, k _ _ h2, h3⟩
theorem EnvB.t1 (E : EnvB t l I H0 O0 O H) : t ∈ O := E.sub _ E.t0
theorem EnvB.l1 (E : EnvB t l I H0 O0 O H) : l ∈ O := E.sub _ E.l0
theorem EnvB.keep (E : EnvB t l I H0 O0 O H) (k : Kept t l I H H') : EnvB t l I H0 O0 O H' :=
  ⟨k.2, E.t0, E.l0, E.sub, E.all0, fun a h => k.there k.2.t_some (E.all a h), fun a o n e => k.1 a o n (E.kept a o n e), E.ownO⟩
theorem own_ne (E : EnvB t l I H0 O0 O H) {p : Addr} (h : H0 p = none) : p ∉ O0 := fun z => E.all0 p z h
theorem SlotOk.keep (E : EnvB t l I H0 O0 O H) (k : Kept t l I H H') {v : Option (Option V)} : ∀ {s : Slot}, SlotOk t H0 O H v s → SlotOk t H0 O H' v s
  | .no, _ => True.intro
  | .lk _, e => e
  | .d x, ⟨u, e, r⟩ => ⟨u, e, r.mono (k.same E.t1)⟩
  | .own x, ⟨p, o, e, hp, h0, hh, c⟩ => ⟨p, o, e, hp, h0, k.1 p o (fun z => own_ne E h0 (z ▸ E.t0)) hh, c.mono (k.same E.t1)⟩
  | .me p C fs, ⟨e, hp, h0, dx, us, hh, r⟩ => ⟨e, hp, h0, dx, us, k.1 p _ (fun z => own_ne E h0 (z ▸ E.t0)) hh, r.mono (k.same E.t1)⟩
theorem Env.keep (E : Env t l I H0 O0 O H σ ρ) (k : Kept t l I H H') : Env t l I H0 O0 O H' σ ρ :=
  ⟨E.toEnvB.keep k, E.len, fun i s h => (E.slot i s h).keep E.toEnvB k, E.dist⟩
end

/-! ### meanings -/
structure XD where
  C : Addr
  fs : List (Str × D)
abbrev SE := List Slot → (D → Prop) → (XD → Prop) → Prop
abbrev SB := List Slot → (Bool → Prop) → (XD → Prop) → Prop
abbrev SL := List Slot → (List D → Prop) → (XD → Prop) → Prop
structure EndS where
  nx : List Slot → Prop
  rt : D → Prop
  bk : List Slot → Prop
  ct : List Slot → Prop
  ex : XD → List Slot → Prop
  ro : D → Prop := fun _ => False
abbrev SS := List Slot → EndS → Prop
abbrev SF := List D → (D → Prop) → (XD → Prop) → Prop

def RpX (t : Addr) (H : Hp) (x : XD) (cls : Value) (dd : Option Addr) : Prop :=
  cls = .ref x.C ∧ ((x.fs = [] ∧ dd = none) ∨ ∃ d us, dd = some d ∧ H d = some (.xd us) ∧ RpF t H us x.fs)
theorem RpX.mono {t : Addr} {H H' : Hp} (e : Same H H') {x : XD} {cls : Value} {dd : Option Addr} (h : RpX t H x cls dd) : RpX t H' x cls dd := by
  obtain ⟨h1, h2 | ⟨d, us, h2, h3, h4⟩⟩ := h
  · exact ⟨h1, .inl h2⟩
  · exact ⟨h1, .inr ⟨d, us, h2, e _ _ h3, h4.mono e⟩⟩

section
variable (t l : Addr) (I : TI')
/-- what is wanted of a value, of an exception -/
def OKQ (O : List Addr) (H : Hp) (P : D → Prop) (Q : VK) : Prop := ∀ d v H', P d → Kept t l I H H' → Rp t (hd O H') v d → Q v H'
def OKX (W : WX) (O : List Addr) (σ : L2.St) (H : Hp) (PX : XD → Prop) : Prop := ∀ x cls dd H', PX x → Kept t l I H H' → RpX t (hd O H') x cls dd → W cls dd σ H'
def rdE (W : WX) (se : SE) : TE := fun σ H Q => ∃ H0 O0 O ρ P PX, Env t l I H0 O0 O H σ ρ ∧ se ρ P PX ∧ OKQ t l I O H P Q ∧ OKX t l I W O σ H PX
/-- a value that may be an own object (read at once, not kept) -/
def rdB (W : WX) (se : SE) : TE := fun σ H Q => ∃ H0 O0 O ρ P PX, Env t l I H0 O0 O H σ ρ ∧ se ρ P PX ∧
  (∀ d v H', P d → Kept t l I H H' → (Rp t (hd O H') v d ∨ ∃ p o, v = .ref p ∧ H' p = some o ∧ Ct t (hd O H') o d) → Q v H') ∧ OKX t l I W O σ H PX
/-- a new list, dict -/
def rdF (W : WX) (se : SE) : TE := fun σ H Q => ∃ H0 O0 O ρ P PX, Env t l I H0 O0 O H σ ρ ∧ se ρ P PX ∧
  (∀ d p o H', P d → Kept t l I H H' → H p = none → H' p = some o → Ct t (hd (p :: O) H') o d → Q (.ref p) H') ∧ OKX t l I W O σ H PX
def rdT (W : WX) (st : SB) : TT := fun σ H Q => ∃ H0 O0 O ρ P PX, Env t l I H0 O0 O H σ ρ ∧ st ρ P PX ∧
  (∀ b H', P b → Kept t l I H H' → Q b H') ∧ OKX t l I W O σ H PX
def rdA (W : WX) (sa : SL) : TA := fun σ H Q => ∃ H0 O0 O ρ P PX, Env t l I H0 O0 O H σ ρ ∧ sa ρ P PX ∧
  (∀ ds vs H', P ds → Kept t l I H H' → RpL t (hd O H') vs ds → Q vs H') ∧ OKX t l I W O σ H PX
structure EndsOk (H0 : Hp) (O0 : List Addr) (W : WX) (S : EndS) (E : Ends) : Prop where
  nx : ∀ O σ ρ H, Env t l I H0 O0 O H σ ρ → S.nx ρ → E.nx σ H
  bk : ∀ O σ ρ H, Env t l I H0 O0 O H σ ρ → S.bk ρ → E.bk σ H
  ct : ∀ O σ ρ H, Env t l I H0 O0 O H σ ρ → S.ct ρ → E.ct σ H
  rt : ∀ d v O H, EnvB t l I H0 O0 O H → S.rt d → Rp t (hd O H) v d → E.rt v H
  ex : ∀ x ρ cls dd O σ H, Env t l I H0 O0 O H σ ρ → S.ex x ρ → RpX t (hd O H) x cls dd → W cls dd σ H
  ro : ∀ d p o O H, EnvB t l I H0 O0 O H → S.ro d → p ∈ O → H0 p = none → H p = some o → Ct t (hd O H) o d → E.rt (.ref p) H
def rdS (W : WX) (ss : SS) : TS := fun E σ H => ∃ H0 O0 O ρ S, Env t l I H0 O0 O H σ ρ ∧ ss ρ S ∧ EndsOk t l I H0 O0 W S E
/-- what a def promises -/
def spD (sf : SF) : Sp := fun vs H Q E => ∃ O ds P PX, Tp t l I H ∧ t ∈ O ∧ l ∈ O ∧ (∀ a ∈ O, H a ≠ none) ∧ RpL t (hd O H) vs ds ∧ sf ds P PX ∧ OKQ t l I O H P Q ∧
  (∀ x cls dd H', PX x → Kept t l I H H' → RpX t (hd O H') x cls dd → E cls dd H')
end
theorem RpL.length {t : Addr} {H : Hp} {vs : List V} {ds : List D} (h : RpL t H vs ds) : vs.length = ds.length := by
  induction vs generalizing ds with
  | nil =>
    cases h
    rfl
  | cons v vs ih =>
    cases h with
    | cons a b =>
      rw [List.length_cons, List.length_cons, ih b]
theorem RpL.get {t : Addr} {H : Hp} {vs : List V} {ds : List D} (h : RpL t H vs ds) {i : Nat} {d : D} (e : ds[i]? = some d) : ∃ v, vs[i]? = some v ∧ Rp t H v d := by
  induction vs generalizing ds i with
  | nil =>
    cases h
    simp at e
  | cons v vs ih =>
    cases h with
    | cons a b =>
      cases i with
      | zero =>
        simp at e
        subst e
        exact ⟨v, rfl, a⟩
      | succ i => exact ih b (by simpa using e)
end DS

namespace DS
open PySem PySem.Spec PyProof.Rows L2

section
variable {X : Cx} {e : Expr}
theorem PE_imp {u u' : TE} (h : PE X e u) (k : ∀ σ H Q, u' σ H Q → u σ H Q) : PE X e u' := ⟨fun pins s σ H Q I q => h.run pins s σ H Q I (k σ H Q q)⟩
theorem PT_imp {u u' : TT} (h : PT X e u) (k : ∀ σ H Q, u' σ H Q → u σ H Q) : PT X e u' := ⟨fun pins s σ H Q I q => h.run pins s σ H Q I (k σ H Q q)⟩
theorem PW_imp {u u' : TT} (h : PW X e u) (k : ∀ σ H Q, u' σ H Q → u σ H Q) : PW X e u' := ⟨fun wh pins s σ H Q I q => h.run wh pins s σ H Q I (k σ H Q q)⟩
theorem PA_imp {es : List Expr} {u u' : TA} (h : PA X es u) (k : ∀ σ H Q, u' σ H Q → u σ H Q) : PA X es u' := ⟨fun pos pins s σ H Q I q => h.run pos pins s σ H Q I (k σ H Q q)⟩
theorem PS_imp {st : Stmt} {u u' : TS} (h : PS X st u) (k : ∀ E σ H, u' E σ H → u E σ H) : PS X st u' := ⟨fun pins s σ H E I q => h.run pins s σ H E I (k E σ H q)⟩
theorem PSs_imp {st : List Stmt} {u u' : TS} (h : PSs X st u) (k : ∀ E σ H, u' E σ H → u E σ H) : PSs X st u' := ⟨fun pins s σ H E I q => h.run pins s σ H E I (k E σ H q)⟩
end

/-- what a borrowed value is -/
def Bor (t : Addr) (O : List Addr) (H : Hp) (v : V) (d : D) : Prop := Rp t (hd O H) v d ∨ ∃ p o, v = .ref p ∧ p ≠ t ∧ H p = some o ∧ Ct t (hd O H) o d
section
variable {t l : Addr} {I : TI'} {H0 H H' H'' : Hp} {O0 O : List Addr} {σ : L2.St} {ρ : List Slot} {W : WX} {P : D → Prop} {PX : XD → Prop} {Q : VK}
theorem Bor.keep (k : Kept t l I H H') (ht : t ∈ O) {v : V} {d : D} (h : Bor t O H v d) : Bor t O H' v d := by
  rcases h with h | ⟨p, o, e, n, h, c⟩
  · exact .inl (h.mono (k.same ht))
  · exact .inr ⟨p, o, e, n, k.1 p o n h, c.mono (k.same ht)⟩
theorem OKX.keep (k : Kept t l I H H') (h : OKX t l I W O σ H PX) : OKX t l I W O σ H' PX := fun x cls dd H'' p k' r => h x cls dd H'' p (k.trans k') r
theorem OKQ.keep (k : Kept t l I H H') (h : OKQ t l I O H P Q) : OKQ t l I O H' P Q := fun x cls H'' p k' r => h x cls H'' p (k.trans k') r
end

variable {t l : Addr} {I : TI'} {W : WX} {X : Cx} {pos : Pos}
section
variable {e : Expr} {se : SE}
/-- the reading of a borrowed value -/
def rdB' (t l : Addr) (I : TI') (W : WX) (se : SE) : TE := fun σ H Q => ∃ H0 O0 O ρ P PX, Env t l I H0 O0 O H σ ρ ∧ se ρ P PX ∧
  (∀ d v H', P d → Kept t l I H H' → Bor t O H' v d → Q v H') ∧ OKX t l I W O σ H PX
theorem e_b (h : PE X e (rdE t l I W se)) : PE X e (rdB' t l I W se) := PE_imp h fun σ H Q ⟨H0, O0, O, ρ, P, PX, E, hs, q, qx⟩ =>
  ⟨H0, O0, O, ρ, P, PX, E, hs, fun d v H' p k r => q d v H' p k (.inl r), qx⟩
theorem f_e (h : PE X e (rdF t l I W se)) : PE X e (rdE t l I W se) := PE_imp h fun σ H Q ⟨H0, O0, O, ρ, P, PX, E, hs, q, qx⟩ =>
  ⟨H0, O0, O, ρ, P, PX, E, hs, fun d p o H' pd k hn hp c => q d (.ref p) H' pd k ((c.mono (hd_sub fun a z => List.mem_cons_of_mem _ z)).rp (by
    rw [hd_out fun z => E.all p z hn]
    exact hp)), qx⟩
theorem f_b (h : PE X e (rdF t l I W se)) : PE X e (rdB' t l I W se) := e_b (f_e h)
end

/-! ### names and constants -/
def sVar (i : Nat) : SE := fun ρ P _ => match ρ[i]? with
  | some (.d x) => P x
  | _ => False
def sVarB (i : Nat) : SE := fun ρ P _ => match ρ[i]? with
  | some (.d x) => P x
  | some (.own x) => P x
  | _ => False
def sC (d : D) : SE := fun _ P _ => P d
theorem e_var (i : Nat) {x : Str} (hN : X.N[i]? = some x := by rfl) (hv : Vis X.env.scope x := by first | exact Or.inl rfl | exact Or.inr (Or.inl rfl) | exact Or.inr (Or.inr rfl)) (hd : (x == ("__debug__" : Str)) = false := by decide)
    (hcd : (x == ("__classdict__" : Str)) = false := by decide) : PE X (.Name x pos) (rdE t l I W (sVar i)) := PE_imp (pe_var hN hv hd hcd) fun σ H Q ⟨H0, O0, O, ρ, P, PX, E, hs, q, qx⟩ => by
  unfold sVar at hs
  split at hs
  · rename_i x' e'
    obtain ⟨u, e1, r⟩ := E.slot i _ e'
    exact ⟨u, e1, q _ _ H hs (.refl E.tp) r⟩
  · exact hs.elim
theorem b_var (i : Nat) {x : Str} (hN : X.N[i]? = some x := by rfl) (hv : Vis X.env.scope x := by first | exact Or.inl rfl | exact Or.inr (Or.inl rfl) | exact Or.inr (Or.inr rfl)) (hd : (x == ("__debug__" : Str)) = false := by decide)
    (hcd : (x == ("__classdict__" : Str)) = false := by decide) : PE X (.Name x pos) (rdB' t l I W (sVarB i)) := PE_imp (pe_var hN hv hd hcd) fun σ H Q ⟨H0, O0, O, ρ, P, PX, E, hs, q, qx⟩ => by
  unfold sVarB at hs
  split at hs
  · rename_i x' e'
    obtain ⟨u, e1, r⟩ := E.slot i _ e'
    exact ⟨u, e1, q _ _ H hs (.refl E.tp) (.inl r)⟩
  · rename_i x' e'
    obtain ⟨p, o, e1, hp, h0, hh, c⟩ := E.slot i _ e'
    exact ⟨_, e1, q _ _ H hs (.refl E.tp) (.inr ⟨p, o, rfl, fun z => own_ne E.toEnvB h0 (z ▸ E.t0), hh, c⟩)⟩
  · exact hs.elim
theorem c_of {e : Expr} {v : V} {d : D} (h : PE X e (tC v)) (r : ∀ H, Rp t H v d) : PE X e (rdE t l I W (sC d)) := PE_imp h fun σ H Q ⟨H0, O0, O, ρ, P, PX, E, hs, q, qx⟩ => q _ _ H hs (.refl E.tp) (r _)
theorem e_int {i j} : PE X (.Constant (.int i) j pos) (rdE t l I W (sC (.int i))) := c_of pe_int fun _ => .int i
theorem e_bl {b j} : PE X (.Constant (.bool b) j pos) (rdE t l I W (sC (.bl b))) := c_of pe_bl fun _ => .bl b
theorem e_non {j} : PE X (.Constant .none j pos) (rdE t l I W (sC .non)) := c_of pe_non fun _ => .non
theorem e_str {x j} : PE X (.Constant (.str x) j pos) (rdE t l I W (sC (.str x))) := c_of pe_str fun _ => .str x
theorem e_glob {x : Str} {v : V} {u : Value} {d : D} (hg : Gl X x) (hm : X.mg x = some u) (r : RelV v u) (r2 : ∀ H, Rp t H v d) (hd : (x == ("__debug__" : Str)) = false := by decide) : PE X (.Name x pos) (rdE t l I W (sC d)) := c_of (pe_glob hg hm r hd) r2
theorem e_bltn {x : Str} {v : V} {u : Value} {d : D} (hg : Gl X x) (hm : X.mg x = none) (hv : bootBuiltins x = some u) (r : RelV v u) (r2 : ∀ H, Rp t H v d) (hn : x ≠ "__name__" := by decide) (hd : (x == ("__debug__" : Str)) = false := by decide) :
    PE X (.Name x pos) (rdE t l I W (sC d)) := c_of (pe_bltn hg hm hv r hn hd) r2

theorem e_ty {x : Str} (n : String) (hg : Gl X x) (hm : X.mg x = none) (hv : bootBuiltins x = some (.type n)) (hn : x ≠ "__name__" := by decide) (hd : (x == ("__debug__" : Str)) = false := by decide) : PE X (.Name x pos) (rdE t l I W (sC (.ty n))) := e_bltn hg hm hv (v := .ty n) rfl (fun _ => .ty n) hn hd
/-! ### operations on two values -/
/-- f tells what the operation makes of the data -/
def OpSem (t l : Addr) (I : TI') (r : R2) (f : D → D → (D → Prop) → Prop) : Prop := ∀ (O : List Addr) (H : Hp) (x y : V) (dx dy : D) (P : D → Prop) (Q : VK),
  Tp t l I H → (∀ a ∈ O, H a ≠ none) → Bor t O H x dx → Bor t O H y dy → f dx dy P → OKQ t l I O H P Q → r x y H Q
def sOp (f : D → D → (D → Prop) → Prop) (sa sb : SE) : SE := fun ρ P PX => sa ρ (fun x => sb ρ (fun y => f x y P) PX) PX
section
variable {a b c : Expr} {sa sb sc : SE} {r : R2} {f : D → D → (D → Prop) → Prop}
theorem op_rd (hf : OpSem t l I r f) {σ : L2.St} {H : Hp} {Q : VK} (h : rdE t l I W (sOp f sa sb) σ H Q) : rdB' t l I W sa σ H (fun x H1 => rdB' t l I W sb σ H1 fun y H2 => r x y H2 Q) := by
  obtain ⟨H0, O0, O, ρ, P, PX, E, hs, q, qx⟩ := h
  refine ⟨H0, O0, O, ρ, _, PX, E, hs, fun d v H1 p1 k1 b1 => ?_, qx⟩
  refine ⟨H0, O0, O, ρ, _, PX, E.keep k1, p1, fun d2 v2 H2 p2 k2 b2 => ?_, qx.keep k1⟩
  exact hf O H2 v v2 d d2 P Q k2.2 ((E.keep k1).keep k2).all (b1.keep k2 E.t1) b2 p2 (q.keep (k1.trans k2))
theorem e_bin {op : Operator} (hf : OpSem t l I r f) (ho : OpR X (binaryOp op) r) (ha : PE X a (rdB' t l I W sa)) (hb : PE X b (rdB' t l I W sb)) : PE X (.BinOp a op b pos) (rdE t l I W (sOp f sa sb)) :=
  PE_imp (pe_op ho ha hb) fun σ H Q h => op_rd hf h
theorem e_cmp {op : CmpOp} (hf : OpSem t l I r f) (ho : OpR X (compareOp op) r) (ha : PE X a (rdB' t l I W sa)) (hb : PE X b (rdB' t l I W sb)) (hm : behindInMarks op b = false) : PE X (.Compare a [op] [b] pos) (rdE t l I W (sOp f sa sb)) :=
  PE_imp (pe_cmpR ho ha hb hm) fun σ H Q h => op_rd hf h
theorem OpR_or {f : Value → Value → Sem Value} {r r' : R2} (h : OpR X f r) (h' : OpR X f r') : OpR X f (fun x y H Q => r x y H Q ∨ r' x y H Q) := fun pins s σ H x y v u Q I rx ry q =>
  q.elim (h pins s σ H x y v u Q I rx ry) (h' pins s σ H x y v u Q I rx ry)
theorem CallR_or {f : Value} {r r' : List V → Hp → VK → Prop} (h : CallR X f r) (h' : CallR X f r') : CallR X f (fun xs H Q => r xs H Q ∨ r' xs H Q) := fun pins s σ H xs us Q I rx q =>
  q.elim (h pins s σ H xs us Q I rx) (h' pins s σ H xs us Q I rx)
end

/-! what is behind a borrowed value -/
section
variable {O : List Addr} {H : Hp} {v : V}
theorem Bor.int {i : Int} (h : Bor t O H v (.int i)) : v = .int i := by
  rcases h with h | ⟨p, o, e, n, h, c⟩
  · cases h
    rfl
  · cases c
theorem Bor.bl {i : Bool} (h : Bor t O H v (.bl i)) : v = .bl i := by
  rcases h with h | ⟨p, o, e, n, h, c⟩
  · cases h
    rfl
  · cases c
theorem Bor.non (h : Bor t O H v .non) : v = .non := by
  rcases h with h | ⟨p, o, e, n, h, c⟩
  · cases h
    rfl
  · cases c
theorem Bor.str {i : Str} (h : Bor t O H v (.str i)) : v = .str i := by
  rcases h with h | ⟨p, o, e, n, h, c⟩
  · cases h
    rfl
  · cases c
theorem Bor.lst {ds : List D} (h : Bor t O H v (.lst ds)) : ∃ p vs, v = .ref p ∧ H p = some (.lst vs) ∧ RpL t (hd O H) vs ds := by
  rcases h with h | ⟨p, o, e, n, h, c⟩
  · cases h with
    | lst h r => exact ⟨_, _, rfl, (hd_some h).2, r⟩
  · cases c with
    | lst r => exact ⟨_, _, e, h, r⟩
theorem Bor.tup {ds : List D} (h : Bor t O H v (.tup ds)) : ∃ p vs, v = .ref p ∧ hd O H p = some (.tup vs) ∧ RpL t (hd O H) vs ds := by
  rcases h with h | ⟨p, o, e, n, h, c⟩
  · cases h with
    | tup h r => exact ⟨_, _, rfl, h, r⟩
  · cases c
theorem RpL.append {t : Addr} {H : Hp} : ∀ {vs ws : List V} {ds es : List D}, RpL t H vs ds → RpL t H ws es → RpL t H (vs ++ ws) (ds ++ es)
  | _, _, _, _, .nil, h => h
  | _, _, _, _, .cons a b, h => .cons a (RpL.append b h)
/-- a new tuple, a new list -/
theorem new_tup (T : Tp t l I H) (ha : ∀ a ∈ O, H a ≠ none) {p : Addr} {vs : List V} {ds : List D} (n : H p = none) (r : RpL t (hd O H) vs ds) : Rp t (hd O (upd H p (.tup vs))) (.ref p) (.tup ds) := by
  refine .tup ?_ (r.mono fun a o e => ?_)
  · rw [hd_out fun z => ha p z n, upd_same]
  · obtain ⟨x, y⟩ := hd_some e
    rw [hd_out x, upd_ne (ne_of_none y n)]
    exact y
theorem new_lst (T : Tp t l I H) (ha : ∀ a ∈ O, H a ≠ none) {p : Addr} {vs : List V} {ds : List D} (n : H p = none) (r : RpL t (hd O H) vs ds) : Rp t (hd O (upd H p (.lst vs))) (.ref p) (.lst ds) := by
  refine .lst ?_ (r.mono fun a o e => ?_)
  · rw [hd_out fun z => ha p z n, upd_same]
  · obtain ⟨x, y⟩ := hd_some e
    rw [hd_out x, upd_ne (ne_of_none y n)]
    exact y
theorem hd_new {p : Addr} {o : HO} (n : H p = none) : Same (hd O H) (hd (p :: O) (upd H p o)) := fun a u e => by
  obtain ⟨x, y⟩ := hd_some e
  have ne := ne_of_none y n
  rw [hd_out (by
    intro z
    rcases List.mem_cons.mp z with z | z
    · exact ne z
    · exact x z), upd_ne ne]
  exact y
end

def maxLen : Nat := 16000000
theorem maxLen_le {n : Nat} (h : n ≤ maxLen) : n ≤ sizeLine := Nat.le_trans h (by decide)
theorem maxLen_lt {n : Nat} (h : n < maxLen) : n < sizeLine := Nat.lt_of_lt_of_le h (by decide)
theorem OKQ.c {O : List Addr} {H : Hp} {P : D → Prop} {Q : VK} (q : OKQ t l I O H P Q) (T : Tp t l I H) {d : D} {v : V} (p : P d) (r : ∀ H, Rp t H v d) : Q v H := q d v H p (.refl T) (r _)

/-- + -/
def addD : D → D → (D → Prop) → Prop
  | .int i, .int j, P => P (.int (i + j))
  | .str i, .str j, P => i.length + j.length ≤ maxLen ∧ P (.str (i ++ j))
  | .tup a, .tup b, P => a.length + b.length ≤ maxLen ∧ P (.tup (a ++ b))
  | .lst a, .lst b, P => a.length + b.length ≤ maxLen ∧ P (.lst (a ++ b))
  | _, _, _ => False
def rAddU (K : PySem.W.Frag) : R2 := fun x y H Q => (((∃ i j, x = .int i ∧ y = .int j ∧ Q (.int (i + j)) H) ∨ (∃ i j, x = .str i ∧ y = .str j ∧ i.length + j.length ≤ sizeLine ∧ Q (.str (i ++ j)) H)) ∨ rCatA K x y H Q) ∨ rCat x y H Q
theorem op_addU : OpR X (binaryOp .Add) (rAddU X.K) := OpR_or (OpR_or (OpR_or op_add op_add_str) op_catA) op_cat
theorem sem_add {K : PySem.W.Frag} : OpSem t l I (rAddU K) addD := by
  intro O H x y dx dy P Q T ha hx hy hf q
  unfold addD at hf
  split at hf
  · exact .inl (.inl (.inl ⟨_, _, hx.int, hy.int, q.c T hf fun _ => .int _⟩))
  · exact .inl (.inl (.inr ⟨_, _, hx.str, hy.str, maxLen_le hf.1, q.c T hf.2 fun _ => .str _⟩))
  · obtain ⟨p, vs, rfl, hp, rp⟩ := hx.tup
    obtain ⟨p', vs', rfl, hp', rp'⟩ := hy.tup
    obtain ⟨hl, hf⟩ := hf
    refine .inl (.inr ⟨p, p', vs, vs', rfl, rfl, SqT.of (hd_some hp).2, SqT.of (hd_some hp').2, by rw [rp.length, rp'.length]; exact maxLen_le hl, fun e => ?_, fun _ e => ?_, fun _ _ p2 n => ?_⟩)
    · subst e
      cases rp
      exact q _ _ H hf (.refl T) (.tup hp' rp')
    · subst e
      cases rp'
      rw [List.append_nil] at hf
      exact q _ _ H hf (.refl T) (.tup hp rp)
    · exact q _ _ _ hf (.new T n) (new_tup T ha n (rp.append rp'))
  · obtain ⟨p, vs, rfl, hp, rp⟩ := hx.lst
    obtain ⟨p', vs', rfl, hp', rp'⟩ := hy.lst
    obtain ⟨hl, hf⟩ := hf
    refine .inr ⟨p, p', vs, vs', rfl, rfl, hp, hp', by rw [rp.length, rp'.length]; exact maxLen_le hl, fun p2 n => ?_⟩
    exact q _ _ _ hf (.new T n) (new_lst T ha n (rp.append rp'))
  · exact hf.elim
theorem e_add {a b : Expr} {sa sb : SE} (ha : PE X a (rdB' t l I W sa)) (hb : PE X b (rdB' t l I W sb)) : PE X (.BinOp a .Add b pos) (rdE t l I W (sOp addD sa sb)) := e_bin sem_add op_addU ha hb

def intD (g : Int → Int → Int) : D → D → (D → Prop) → Prop
  | .int i, .int j, P => P (.int (g i j))
  | _, _, _ => False
def intCD (C : Int → Int → Prop) (g : Int → Int → Int) : D → D → (D → Prop) → Prop
  | .int i, .int j, P => C i j ∧ P (.int (g i j))
  | _, _, _ => False
def cmpD (g : Int → Int → Bool) : D → D → (D → Prop) → Prop
  | .int i, .int j, P => P (.bl (g i j))
  | _, _, _ => False
theorem sem_int {g : Int → Int → Int} : OpSem t l I (rI0 fun i j => .int (g i j)) (intD g) := by
  intro O H x y dx dy P Q T ha hx hy hf q
  unfold intD at hf
  split at hf
  · exact ⟨_, _, hx.int, hy.int, q.c T hf fun _ => .int _⟩
  · exact hf.elim
theorem sem_intC {C : Int → Int → Prop} {g : Int → Int → Int} : OpSem t l I (rI C fun i j => .int (g i j)) (intCD C g) := by
  intro O H x y dx dy P Q T ha hx hy hf q
  unfold intCD at hf
  split at hf
  · exact ⟨_, _, hx.int, hy.int, hf.1, q.c T hf.2 fun _ => .int _⟩
  · exact hf.elim
theorem sem_cmp {g : Int → Int → Bool} : OpSem t l I (rI0 fun i j => .bl (g i j)) (cmpD g) := by
  intro O H x y dx dy P Q T ha hx hy hf q
  unfold cmpD at hf
  split at hf
  · exact ⟨_, _, hx.int, hy.int, q.c T hf fun _ => .bl _⟩
  · exact hf.elim
section
variable {a b c : Expr} {sa sb sc : SE} (ha : PE X a (rdB' t l I W sa)) (hb : PE X b (rdB' t l I W sb))
include ha hb
theorem e_sub : PE X (.BinOp a .Sub b pos) (rdE t l I W (sOp (intD fun i j => i - j) sa sb)) := e_bin sem_int op_sub ha hb
theorem e_mod : PE X (.BinOp a .Mod b pos) (rdE t l I W (sOp (intCD (fun _ j => 0 < j) fun i j => i % j) sa sb)) := e_bin sem_intC op_mod ha hb
theorem e_fdiv : PE X (.BinOp a .FloorDiv b pos) (rdE t l I W (sOp (intCD CDiv fun i j => i / j) sa sb)) := e_bin sem_intC op_fdiv ha hb
theorem e_pow : PE X (.BinOp a .Pow b pos) (rdE t l I W (sOp (intCD CPow fun i j => i ^ j.toNat) sa sb)) := e_bin sem_intC op_pow ha hb
theorem e_lt : PE X (.Compare a [.Lt] [b] pos) (rdE t l I W (sOp (cmpD fun i j => decide (i < j)) sa sb)) := e_cmp sem_cmp op_lt ha hb (nomark _)
theorem e_le : PE X (.Compare a [.LtE] [b] pos) (rdE t l I W (sOp (cmpD fun i j => decide (i ≤ j)) sa sb)) := e_cmp sem_cmp op_le ha hb (nomark _)
theorem e_gt : PE X (.Compare a [.Gt] [b] pos) (rdE t l I W (sOp (cmpD fun i j => decide (j < i)) sa sb)) := e_cmp sem_cmp op_gt ha hb (nomark _)
theorem e_ge : PE X (.Compare a [.GtE] [b] pos) (rdE t l I W (sOp (cmpD fun i j => decide (j ≤ i)) sa sb)) := e_cmp sem_cmp op_ge ha hb (nomark _)
end

/-- * : ints (one small), list or tuple by int -/
def mulD : D → D → (D → Prop) → Prop
  | .int i, .int j, P => CMul i j ∧ P (.int (i * j))
  | .lst a, .int k, P => -(2 ^ 63) ≤ k ∧ k < 2 ^ 63 ∧ a.length * k.toNat ≤ maxLen ∧ P (.lst (List.replicate k.toNat a).flatten)
  | .tup a, .int k, P => a ≠ [] ∧ 2 ≤ k ∧ k ≤ 1000 ∧ a.length ≤ 1000 ∧ P (.tup (List.replicate k.toNat a).flatten)
  | _, _, _ => False
theorem RpL.rep {t : Addr} {H : Hp} {vs : List V} {ds : List D} (h : RpL t H vs ds) : ∀ n : Nat, RpL t H (List.replicate n vs).flatten (List.replicate n ds).flatten
  | 0 => .nil
  | n + 1 => by
    rw [List.replicate_succ, List.replicate_succ, List.flatten_cons, List.flatten_cons]
    exact h.append (RpL.rep h n)
def rMulU (K : PySem.W.Frag) : R2 := fun x y H Q => (rI CMul (fun i j => .int (i * j)) x y H Q ∨ rRep x y H Q) ∨ rRepT K x y H Q
theorem op_mulU : OpR X (binaryOp .Mult) (rMulU X.K) := OpR_or (OpR_or op_mul op_rep) op_repT
theorem sem_mul {K : PySem.W.Frag} : OpSem t l I (rMulU K) mulD := by
  intro O H x y dx dy P Q T ha hx hy hf q
  unfold mulD at hf
  split at hf
  · exact .inl (.inl ⟨_, _, hx.int, hy.int, hf.1, q.c T hf.2 fun _ => .int _⟩)
  · obtain ⟨p, vs, rfl, hp, rp⟩ := hx.lst
    obtain ⟨h1, h2, h3, h4⟩ := hf
    refine .inl (.inr ⟨p, _, vs, rfl, hy.int, hp, h1, h2, by rw [rp.length]; exact maxLen_le h3, fun p2 n => ?_⟩)
    exact q _ _ _ h4 (.new T n) (new_lst T ha n (rp.rep _))
  · obtain ⟨p, vs, rfl, hp, rp⟩ := hx.tup
    obtain ⟨h0, h1, h2, h3, h4⟩ := hf
    refine .inr ⟨p, _, vs, rfl, hy.int, SqT.of (hd_some hp).2, fun e => ?_, h1, h2, by rw [rp.length]; exact h3, fun p2 n => ?_⟩
    · subst e
      cases rp
      exact h0 rfl
    · exact q _ _ _ h4 (.new T n) (new_tup T ha n (rp.rep _))
  · exact hf.elim
theorem e_mul {a b : Expr} {sa sb : SE} (ha : PE X a (rdB' t l I W sa)) (hb : PE X b (rdB' t l I W sb)) : PE X (.BinOp a .Mult b pos) (rdE t l I W (sOp mulD sa sb)) := e_bin sem_mul op_mulU ha hb

/-! ### == of data -/
mutual
def toP : D → PyData
  | .non => .none
  | .bl b => .bool b
  | .int i => .int i
  | .str s => .str s
  | .lst ds => .list (toPs ds)
  | .tup ds => .tuple (toPs ds)
  | .ty _ => .none
  | .ins _ _ => .none
  | .dct _ => .none
  | .tape => .none
  | .exc _ _ => .none
def toPs : List D → List PyData
  | [] => []
  | d :: ds => toP d :: toPs ds
end
mutual
/-- plain data of nesting up to n -/
def okD : Nat → D → Bool
  | _, .non => true
  | _, .bl _ => true
  | _, .int _ => true
  | _, .str s => PyData.canLay0 (.str s)
  | 0, .lst _ => false
  | 0, .tup _ => false
  | n + 1, .lst ds => okDs n ds
  | n + 1, .tup ds => okDs n ds
  | _, .ty _ => false
  | _, .ins _ _ => false
  | _, .dct _ => false
  | _, .tape => false
  | _, .exc _ _ => false
def okDs : Nat → List D → Bool
  | _, [] => true
  | n, d :: ds => okD n d && okDs n ds
end
mutual
theorem Rp.dp {K : PySem.W.Frag} {t : Addr} {H H' : Hp} (le : Same H H') : ∀ (n : Nat) (d : D) (v : V), okD n d = true → Rp t H v d → Dp K H' v (toP d)
  | _, .non, _, _, h => by
    cases h
    exact .non
  | _, .bl _, _, _, h => by
    cases h
    exact .bl _
  | _, .int _, _, _, h => by
    cases h
    exact .int _
  | _, .str _, _, _, h => by
    cases h
    exact .str _
  | 0, .lst _, _, e, _ => by simp [okD] at e
  | 0, .tup _, _, e, _ => by simp [okD] at e
  | n + 1, .lst ds, _, e, h => by
    cases h with
    | lst h r => exact .lst (SqL.of (le _ _ h)) (Rp.dps le n ds _ (by simpa [okD] using e) r)
  | n + 1, .tup ds, _, e, h => by
    cases h with
    | tup h r => exact .tup (SqT.of (le _ _ h)) (Rp.dps le n ds _ (by simpa [okD] using e) r)
  | _, .ty _, _, e, _ => by simp [okD] at e
  | _, .ins _ _, _, e, _ => by simp [okD] at e
  | _, .dct _, _, e, _ => by simp [okD] at e
  | _, .tape, _, e, _ => by simp [okD] at e
  | _, .exc _ _, _, e, _ => by simp [okD] at e
theorem Rp.dps {K : PySem.W.Frag} {t : Addr} {H H' : Hp} (le : Same H H') : ∀ (n : Nat) (ds : List D) (vs : List V), okDs n ds = true → RpL t H vs ds → DpAll K H' vs (toPs ds)
  | _, [], _, _, h => by
    cases h
    exact .nil
  | n, d :: ds, _, e, h => by
    cases h with
    | cons a b =>
      have e' : okD n d = true ∧ okDs n ds = true := by simpa [okDs] using e
      exact .cons (Rp.dp le n d _ e'.1 a) (Rp.dps le n ds _ e'.2 b)
end
mutual
theorem okD_lay : ∀ (n : Nat) (d : D), okD n d = true → (toP d).canLay0 = true ∧ (toP d).depth ≤ n
  | _, .non, _ => ⟨rfl, Nat.zero_le _⟩
  | _, .bl _, _ => ⟨rfl, Nat.zero_le _⟩
  | _, .int _, _ => ⟨rfl, Nat.zero_le _⟩
  | _, .str s, e => ⟨by simpa [okD, toP] using e, Nat.zero_le _⟩
  | 0, .lst _, e => by simp [okD] at e
  | 0, .tup _, e => by simp [okD] at e
  | n + 1, .lst ds, e => by
    obtain ⟨h1, h2⟩ := okDs_lay n ds (by simpa [okD] using e)
    exact ⟨by simpa [toP, PyData.canLay0] using h1, by simp only [toP, PyData.depth]; omega⟩
  | n + 1, .tup ds, e => by
    obtain ⟨h1, h2⟩ := okDs_lay n ds (by simpa [okD] using e)
    exact ⟨by simpa [toP, PyData.canLay0] using h1, by simp only [toP, PyData.depth]; omega⟩
  | _, .ty _, e => by simp [okD] at e
  | _, .ins _ _, e => by simp [okD] at e
  | _, .dct _, e => by simp [okD] at e
  | _, .tape, e => by simp [okD] at e
  | _, .exc _ _, e => by simp [okD] at e
theorem okDs_lay : ∀ (n : Nat) (ds : List D), okDs n ds = true → PyData.canLayAll0 (toPs ds) = true ∧ PyData.depthAll (toPs ds) ≤ n
  | _, [], _ => ⟨rfl, Nat.zero_le _⟩
  | n, d :: ds, e => by
    have e' : okD n d = true ∧ okDs n ds = true := by simpa [okDs] using e
    obtain ⟨h1, h2⟩ := okD_lay n d e'.1
    obtain ⟨h3, h4⟩ := okDs_lay n ds e'.2
    exact ⟨by simp [toPs, PyData.canLayAll0, h1, h3], by simp only [toPs, PyData.depthAll]; omega⟩
end
theorem okD_shaped {d : D} (h : okD 60 d = true) : SeqAt.shaped (toP d) = true := by
  obtain ⟨h1, h2⟩ := okD_lay 60 d h
  unfold SeqAt.shaped
  rw [h1, decide_eq_true (by omega : (toP d).depth ≤ 64)]
  rfl
theorem Bor.dp {K : PySem.W.Frag} {O : List Addr} {H : Hp} {v : V} {d : D} (h : Bor t O H v d) (e : okD 60 d = true) : Dp K H v (toP d) := by
  rcases h with h | ⟨p, o, rfl, n, h, c⟩
  · exact h.dp hd_le 60 d v e
  · cases c with
    | lst r => exact .lst (SqL.of h) (r |> Rp.dps hd_le 59 _ _ (by simpa [okD] using e))
    | dct r => simp [okD] at e
    | dctT r => simp [okD] at e
def eqB (d e : D) : Bool := PyData.eqv (toP d) (toP e)
@[irreducible] def eqD (neg : Bool) : D → D → (D → Prop) → Prop := fun d e P => okD 60 d = true ∧ okD 60 e = true ∧ P (.bl (if neg then !eqB d e else eqB d e))
theorem sem_eq {K : PySem.W.Frag} : OpSem t l I (rEqD K) (eqD false) := by
  intro O H x y dx dy P Q T ha hx hy hf q
  unfold eqD at hf
  obtain ⟨h1, h2, h3⟩ := hf
  exact ⟨_, _, hx.dp h1, hy.dp h2, okD_shaped h1, okD_shaped h2, q.c T h3 fun _ => .bl _⟩
theorem sem_ne {K : PySem.W.Frag} : OpSem t l I (rNeD K) (eqD true) := by
  intro O H x y dx dy P Q T ha hx hy hf q
  unfold eqD at hf
  obtain ⟨h1, h2, h3⟩ := hf
  exact ⟨_, _, hx.dp h1, hy.dp h2, okD_shaped h1, okD_shaped h2, q.c T h3 fun _ => .bl _⟩
theorem eqB_refl {n : Nat} {d : D} (h : okD n d = true) : eqB d d = true := SeqAt.eqv_refl _ (okD_lay n d h).1
section
variable {a b c : Expr} {sa sb sc : SE} (hu : X.A.units + 64 < cLine) (ha : PE X a (rdB' t l I W sa)) (hb : PE X b (rdB' t l I W sb))
include ha hb hu
theorem e_eq : PE X (.Compare a [.Eq] [b] pos) (rdE t l I W (sOp (eqD false) sa sb)) := e_cmp sem_eq (op_eqD hu) ha hb (nomark _)
theorem e_ne : PE X (.Compare a [.NotEq] [b] pos) (rdE t l I W (sOp (eqD true) sa sb)) := e_cmp sem_ne (op_neD hu) ha hb (nomark _)
end
/-- is None -/
def isNonD (neg : Bool) : D → D → (D → Prop) → Prop := fun d e P => match e with
  | .non => P (.bl (match d with | .non => !neg | _ => neg))
  | _ => False
theorem Bor.isNon {O : List Addr} {H : Hp} {v : V} {d : D} (h : Bor t O H v d) : decide (v = .non) = (match d with | .non => true | _ => false) := by
  rcases h with h | ⟨p, o, rfl, n, h, c⟩
  · cases h <;> rfl
  · cases c <;> rfl
theorem sem_isN : OpSem t l I (fun x y H Q => y = .non ∧ Q (.bl (decide (x = .non))) H) (isNonD false) := by
  intro O H x y dx dy P Q T ha hx hy hf q
  unfold isNonD at hf
  split at hf
  · refine ⟨hy.non, ?_⟩
    rw [hx.isNon]
    cases dx <;> exact q.c T hf fun _ => .bl _
  · exact hf.elim
theorem sem_notN : OpSem t l I (fun x y H Q => y = .non ∧ Q (.bl (!decide (x = .non))) H) (isNonD true) := by
  intro O H x y dx dy P Q T ha hx hy hf q
  unfold isNonD at hf
  split at hf
  · refine ⟨hy.non, ?_⟩
    rw [hx.isNon]
    cases dx <;> exact q.c T hf fun _ => .bl _
  · exact hf.elim
section
variable {a b c : Expr} {sa sb sc : SE} (ha : PE X a (rdB' t l I W sa)) (hb : PE X b (rdB' t l I W sb))
include ha hb
theorem e_is : PE X (.Compare a [.Is] [b] pos) (rdE t l I W (sOp (isNonD false) sa sb)) := e_cmp sem_isN op_isN ha hb (nomark _)
theorem e_isnot : PE X (.Compare a [.IsNot] [b] pos) (rdE t l I W (sOp (isNonD true) sa sb)) := e_cmp sem_notN op_notN ha hb (nomark _)
end
end DS

namespace DS
open PySem PySem.Spec PyProof.Rows L2
variable {t l : Addr} {I : TI'} {W : WX} {X : Cx} {pos : Pos}
/-! ### tests -/
def boolD (d : D) (P : Bool → Prop) : Prop := match d with
  | .bl b => P b
  | _ => False
def sB (se : SE) : SB := fun ρ P PX => se ρ (fun d => boolD d P) PX
theorem boolD_of {d : D} {P : Bool → Prop} (h : boolD d P) : ∃ b, d = .bl b ∧ P b := by
  cases d with
  | bl b => exact ⟨b, rfl, h⟩
  | _ => exact (show False from h).elim
theorem t_val {e : Expr} {se : SE} (h : PE X e (rdE t l I W se)) (he : ∀ whole, isTrue e X.env whole = (do let v ← whole; standAt e.pos; holding [v] (truthy v)) := by intro _; rfl) : PT X e (rdT t l I W (sB se)) :=
  PT_imp (pt_val h he) fun σ H Q ⟨H0, O0, O, ρ, P, PX, E, hs, q, qx⟩ => ⟨H0, O0, O, ρ, _, PX, E, hs, fun d v H' p k r => by
    obtain ⟨b, rfl, p⟩ := boolD_of p
    cases r
    exact ⟨b, rfl, q b H' p k⟩, qx⟩
theorem t_cmp {a b : Expr} {sa sb : SE} {r : R2} {f : D → D → (D → Prop) → Prop} {op : CmpOp} (hf : OpSem t l I r f) (ho : OpR X (compareOp op) r) (ha : PE X a (rdB' t l I W sa)) (hb : PE X b (rdB' t l I W sb)) (hm : behindInMarks op b = false) :
    PT X (.Compare a [op] [b] pos) (rdT t l I W (sB (sOp f sa sb))) := PT_imp (pt_cmpR ho ha hb hm) fun σ H Q ⟨H0, O0, O, ρ, P, PX, E, hs, q, qx⟩ =>
  op_rd hf ⟨H0, O0, O, ρ, _, PX, E, hs, fun d v H' p k r => by
    obtain ⟨b, rfl, p⟩ := boolD_of p
    cases r
    exact ⟨b, rfl, q b H' p k⟩, qx⟩
section
variable {a b c : Expr} {sa sb sc : SE} (ha : PE X a (rdB' t l I W sa)) (hb : PE X b (rdB' t l I W sb))
include ha hb
theorem t_lt : PT X (.Compare a [.Lt] [b] pos) (rdT t l I W (sB (sOp (cmpD fun i j => decide (i < j)) sa sb))) := t_cmp sem_cmp op_lt ha hb (nomark _)
theorem t_le : PT X (.Compare a [.LtE] [b] pos) (rdT t l I W (sB (sOp (cmpD fun i j => decide (i ≤ j)) sa sb))) := t_cmp sem_cmp op_le ha hb (nomark _)
theorem t_gt : PT X (.Compare a [.Gt] [b] pos) (rdT t l I W (sB (sOp (cmpD fun i j => decide (j < i)) sa sb))) := t_cmp sem_cmp op_gt ha hb (nomark _)
theorem t_ge : PT X (.Compare a [.GtE] [b] pos) (rdT t l I W (sB (sOp (cmpD fun i j => decide (j ≤ i)) sa sb))) := t_cmp sem_cmp op_ge ha hb (nomark _)
theorem t_is : PT X (.Compare a [.Is] [b] pos) (rdT t l I W (sB (sOp (isNonD false) sa sb))) := t_cmp sem_isN op_isN ha hb (nomark _)
theorem t_isnot : PT X (.Compare a [.IsNot] [b] pos) (rdT t l I W (sB (sOp (isNonD true) sa sb))) := t_cmp sem_notN op_notN ha hb (nomark _)
theorem t_eq (hu : X.A.units + 64 < cLine) : PT X (.Compare a [.Eq] [b] pos) (rdT t l I W (sB (sOp (eqD false) sa sb))) := t_cmp sem_eq (op_eqD hu) ha hb (nomark _)
theorem t_ne (hu : X.A.units + 64 < cLine) : PT X (.Compare a [.NotEq] [b] pos) (rdT t l I W (sB (sOp (eqD true) sa sb))) := t_cmp sem_ne (op_neD hu) ha hb (nomark _)
end
/-- a op b op' c of ints -/
def sCh (g g' : Int → Int → Bool) (sa sb sc : SE) : SE := fun ρ P PX => sa ρ (fun x => sb ρ (fun y => cmpD g x y fun z => boolD z fun k => match k with
  | true => sc ρ (fun w => cmpD g' y w P) PX
  | false => P (.bl false)) PX) PX
section
variable {a b c : Expr} {sa sb sc : SE} {g g' : Int → Int → Bool}
theorem cmpD_of {g : Int → Int → Bool} {x y : D} {P : D → Prop} (h : cmpD g x y P) : ∃ i j, x = .int i ∧ y = .int j ∧ P (.bl (g i j)) := by
  unfold cmpD at h
  split at h
  · exact ⟨_, _, rfl, rfl, h⟩
  · exact h.elim
theorem ch_rd {σ : L2.St} {H : Hp} {Q : VK} (h : rdE t l I W (sCh g g' sa sb sc) σ H Q) :
    tChain (rI0 fun i j => .bl (g i j)) (rI0 fun i j => .bl (g' i j)) (rdB' t l I W sa) (rdB' t l I W sb) (rdB' t l I W sc) σ H Q := by
  obtain ⟨H0, O0, O, ρ, P, PX, E, hs, q, qx⟩ := h
  refine ⟨H0, O0, O, ρ, _, PX, E, hs, fun d v H1 p1 k1 b1 => ?_, qx⟩
  refine ⟨H0, O0, O, ρ, _, PX, E.keep k1, p1, fun d2 v2 H2 p2 k2 b2 => ?_, qx.keep k1⟩
  obtain ⟨i, j, rfl, rfl, p2⟩ := cmpD_of p2
  refine ⟨i, j, (b1.keep k2 E.t1).int, b2.int, g i j, rfl, ?_⟩
  have E2 := (E.keep k1).keep k2
  cases hg : g i j with
  | true =>
    rw [hg] at p2
    rw [if_pos rfl]
    refine ⟨H0, O0, O, ρ, _, PX, E2, p2, fun d3 v3 H3 p3 k3 b3 => ?_, (qx.keep k1).keep k2⟩
    obtain ⟨i', j', e1, rfl, p3⟩ := cmpD_of p3
    cases e1
    exact ⟨_, _, b2.int, b3.int, q _ _ H3 p3 ((k1.trans k2).trans k3) (.bl _)⟩
  | false =>
    rw [hg] at p2
    rw [if_neg Bool.false_ne_true]
    exact q _ _ H2 p2 (k1.trans k2) (.bl _)
theorem e_ch {op op' : CmpOp} (ho : OpR X (compareOp op) (rI0 fun i j => .bl (g i j))) (ho' : OpR X (compareOp op') (rI0 fun i j => .bl (g' i j))) (ha : PE X a (rdB' t l I W sa)) (hb : PE X b (rdB' t l I W sb)) (hc : PE X c (rdB' t l I W sc))
    (hm : lastMarks [op, op'] [b, c] = false := by with_unfolding_all rfl) : PE X (.Compare a [op, op'] [b, c] pos) (rdE t l I W (sCh g g' sa sb sc)) := PE_imp (pe_chain ho ho' ha hb hc hm) fun σ H Q h => ch_rd h
theorem t_ch {op op' : CmpOp} (ho : OpR X (compareOp op) (rI0 fun i j => .bl (g i j))) (ho' : OpR X (compareOp op') (rI0 fun i j => .bl (g' i j))) (ha : PE X a (rdB' t l I W sa)) (hb : PE X b (rdB' t l I W sb)) (hc : PE X c (rdB' t l I W sc))
    (hm : lastMarks [op, op'] [b, c] = false := by with_unfolding_all rfl) : PT X (.Compare a [op, op'] [b, c] pos) (rdT t l I W (sB (sCh g g' sa sb sc))) := PT_imp (pt_chain ho ho' ha hb hc hm) fun σ H Q ⟨H0, O0, O, ρ, P, PX, E, hs, q, qx⟩ =>
  ch_rd ⟨H0, O0, O, ρ, _, PX, E, hs, fun d v H' p k r => by
    obtain ⟨b, rfl, p⟩ := boolD_of p
    cases r
    exact ⟨b, rfl, q b H' p k⟩, qx⟩
end

def sAnd (s u : SB) : SB := fun ρ P PX => s ρ (fun b => match b with | true => u ρ P PX | false => P false) PX
def sOr (s u : SB) : SB := fun ρ P PX => s ρ (fun b => match b with | true => P true | false => u ρ P PX) PX
def sNot (s : SB) : SB := fun ρ P PX => s ρ (fun b => P (!b)) PX
section
variable {a b c : Expr} {rest : List Expr} {s u : SB}
theorem w_and1 (ha : PT X a (rdT t l I W s)) : PW X (.BoolOp .And [a] pos) (rdT t l I W s) := pw_and1 ha
theorem w_or1 (ha : PT X a (rdT t l I W s)) : PW X (.BoolOp .Or [a] pos) (rdT t l I W s) := pw_or1 ha
theorem w_and (ha : PT X a (rdT t l I W s)) (hb : PW X (.BoolOp .And (b :: rest) pos) (rdT t l I W u)) : PW X (.BoolOp .And (a :: b :: rest) pos) (rdT t l I W (sAnd s u)) :=
  PW_imp (pw_and ha hb) fun σ H Q ⟨H0, O0, O, ρ, P, PX, E, hs, q, qx⟩ => ⟨H0, O0, O, ρ, _, PX, E, hs, fun b H' p k => by
    cases b with
    | true =>
      rw [if_pos rfl]
      exact ⟨H0, O0, O, ρ, P, PX, E.keep k, p, fun b2 H2 p2 k2 => q b2 H2 p2 (k.trans k2), qx.keep k⟩
    | false =>
      rw [if_neg Bool.false_ne_true]
      exact q false H' p k, qx⟩
theorem w_or (ha : PT X a (rdT t l I W s)) (hb : PW X (.BoolOp .Or (b :: rest) pos) (rdT t l I W u)) : PW X (.BoolOp .Or (a :: b :: rest) pos) (rdT t l I W (sOr s u)) :=
  PW_imp (pw_or ha hb) fun σ H Q ⟨H0, O0, O, ρ, P, PX, E, hs, q, qx⟩ => ⟨H0, O0, O, ρ, _, PX, E, hs, fun b H' p k => by
    cases b with
    | false =>
      rw [if_neg Bool.false_ne_true]
      exact ⟨H0, O0, O, ρ, P, PX, E.keep k, p, fun b2 H2 p2 k2 => q b2 H2 p2 (k.trans k2), qx.keep k⟩
    | true =>
      rw [if_pos rfl]
      exact q true H' p k, qx⟩
theorem t_not (ha : PT X a (rdT t l I W s)) : PT X (.UnaryOp .Not a pos) (rdT t l I W (sNot s)) :=
  PT_imp (pt_not ha) fun σ H Q ⟨H0, O0, O, ρ, P, PX, E, hs, q, qx⟩ => ⟨H0, O0, O, ρ, _, PX, E, hs, fun b H' p k => q _ H' p k, qx⟩
end
def sAndV (sa sb : SE) : SE := fun ρ P PX => sa ρ (fun d => boolD d fun b => match b with | true => sb ρ P PX | false => P (.bl false)) PX
def sOrV (sa sb : SE) : SE := fun ρ P PX => sa ρ (fun d => boolD d fun b => match b with | true => P (.bl true) | false => sb ρ P PX) PX
def sNotV (sa : SE) : SE := fun ρ P PX => sa ρ (fun d => boolD d fun b => P (.bl (!b))) PX
def sIf (s : SB) (sa sb : SE) : SE := fun ρ P PX => s ρ (fun b => match b with | true => sa ρ P PX | false => sb ρ P PX) PX
section
variable {a b c : Expr} {rest : List Expr} {sa sb : SE} {s : SB}
theorem e_one {op} (h : PE X a (rdE t l I W sa)) : PE X (.BoolOp op [a] pos) (rdE t l I W sa) := pe_one h
theorem e_and (ha : PE X a (rdE t l I W sa)) (hb : PE X (.BoolOp .And (b :: rest) pos) (rdE t l I W sb)) : PE X (.BoolOp .And (a :: b :: rest) pos) (rdE t l I W (sAndV sa sb)) :=
  PE_imp (pe_and ha hb) fun σ H Q ⟨H0, O0, O, ρ, P, PX, E, hs, q, qx⟩ => ⟨H0, O0, O, ρ, _, PX, E, hs, fun d v H' p k r => by
    obtain ⟨b, rfl, p⟩ := boolD_of p
    cases r
    refine ⟨b, rfl, ?_⟩
    cases b with
    | true =>
      rw [if_pos rfl]
      exact ⟨H0, O0, O, ρ, P, PX, E.keep k, p, q.keep k, qx.keep k⟩
    | false =>
      rw [if_neg Bool.false_ne_true]
      exact q _ _ H' p k (.bl _), qx⟩
theorem e_or (ha : PE X a (rdE t l I W sa)) (hb : PE X (.BoolOp .Or (b :: rest) pos) (rdE t l I W sb)) : PE X (.BoolOp .Or (a :: b :: rest) pos) (rdE t l I W (sOrV sa sb)) :=
  PE_imp (pe_or ha hb) fun σ H Q ⟨H0, O0, O, ρ, P, PX, E, hs, q, qx⟩ => ⟨H0, O0, O, ρ, _, PX, E, hs, fun d v H' p k r => by
    obtain ⟨b, rfl, p⟩ := boolD_of p
    cases r
    refine ⟨b, rfl, ?_⟩
    cases b with
    | false =>
      rw [if_neg Bool.false_ne_true]
      exact ⟨H0, O0, O, ρ, P, PX, E.keep k, p, q.keep k, qx.keep k⟩
    | true =>
      rw [if_pos rfl]
      exact q _ _ H' p k (.bl _), qx⟩
theorem e_not (ha : PE X a (rdE t l I W sa)) : PE X (.UnaryOp .Not a pos) (rdE t l I W (sNotV sa)) :=
  PE_imp (pe_not ha) fun σ H Q ⟨H0, O0, O, ρ, P, PX, E, hs, q, qx⟩ => ⟨H0, O0, O, ρ, _, PX, E, hs, fun d v H' p k r => by
    obtain ⟨b, rfl, p⟩ := boolD_of p
    cases r
    exact ⟨b, rfl, q _ _ H' p k (.bl _)⟩, qx⟩
theorem e_if (hc : PT X c (rdT t l I W s)) (ha : PE X a (rdE t l I W sa)) (hb : PE X b (rdE t l I W sb)) : PE X (.IfExp c a b pos) (rdE t l I W (sIf s sa sb)) :=
  PE_imp (pe_ifExp hc ha hb) fun σ H Q ⟨H0, O0, O, ρ, P, PX, E, hs, q, qx⟩ => ⟨H0, O0, O, ρ, _, PX, E, hs, fun b H' p k => by
    cases b with
    | false =>
      rw [if_neg Bool.false_ne_true]
      exact ⟨H0, O0, O, ρ, P, PX, E.keep k, p, q.keep k, qx.keep k⟩
    | true =>
      rw [if_pos rfl]
      exact ⟨H0, O0, O, ρ, P, PX, E.keep k, p, q.keep k, qx.keep k⟩, qx⟩
def sNeg (sa : SE) : SE := fun ρ P PX => sa ρ (fun d => match d with | .int i => P (.int (-i)) | _ => False) PX
theorem e_neg (ha : PE X a (rdE t l I W sa)) : PE X (.UnaryOp .USub a pos) (rdE t l I W (sNeg sa)) :=
  PE_imp (pe_un un_neg ha) fun σ H Q ⟨H0, O0, O, ρ, P, PX, E, hs, q, qx⟩ => ⟨H0, O0, O, ρ, _, PX, E, hs, fun d v H' p k r => by
    cases d with
    | int i =>
      cases r
      exact ⟨i, rfl, q _ _ H' p k (.int _)⟩
    | _ => exact (show False from p).elim, qx⟩
end

/-! ### subscripts, slices -/
def atD (ds : List D) (i : Int) (P : D → Prop) : Prop := match atI ds i with
  | some d => P d
  | none => False
/-- a[b] -/
def ixD : D → D → (D → Prop) → Prop
  | .lst ds, .int i, P => atD ds i P
  | .tup ds, .int i, P => atD ds i P
  | .str s, .int i, P => s.length ≤ maxLen ∧ (match atI s.cps.toList i with
      | some c => P (.str ⟨#[c]⟩)
      | none => False)
  | _, _, _ => False
def rIxU (K : PySem.W.Frag) : R2 := fun x y H Q => (rIxL K x y H Q ∨ rIxT K x y H Q) ∨ rIxS x y H Q
theorem IxR_or {r r' : R2} (h : IxR X r) (h' : IxR X r') : IxR X (fun x y H Q => r x y H Q ∨ r' x y H Q) := fun value slice pins s σ H x y v u Q I rx ry q hs =>
  q.elim (fun q => h value slice pins s σ H x y v u Q I rx ry q hs) (fun q => h' value slice pins s σ H x y v u Q I rx ry q hs)
theorem RpL.atI {t : Addr} {H : Hp} {vs : List V} {ds : List D} (h : RpL t H vs ds) {i : Int} {d : D} (e : atI ds i = some d) : ∃ v, L2.atI vs i = some v ∧ Rp t H v d := by
  unfold L2.atI at e ⊢
  rw [h.length]
  cases q : ixN ds.length i with
  | none =>
    rw [q] at e
    cases e
  | some j =>
    rw [q] at e
    exact h.get e
theorem sem_ix {K : PySem.W.Frag} : OpSem t l I (rIxU K) ixD := by
  intro O H x y dx dy P Q T ha hx hy hf q
  unfold ixD at hf
  split at hf
  · obtain ⟨p, vs, rfl, hp, rp⟩ := hx.lst
    unfold atD at hf
    split at hf
    · rename_i d e
      obtain ⟨v, e2, r⟩ := rp.atI e
      exact .inl (.inl ⟨p, vs, _, v, rfl, hy.int, SqL.of hp, e2, q _ _ H hf (.refl T) r⟩)
    · exact hf.elim
  · obtain ⟨p, vs, rfl, hp, rp⟩ := hx.tup
    unfold atD at hf
    split at hf
    · rename_i d e
      obtain ⟨v, e2, r⟩ := rp.atI e
      exact .inl (.inr ⟨p, vs, _, v, rfl, hy.int, SqT.of (hd_some hp).2, e2, q _ _ H hf (.refl T) r⟩)
    · exact hf.elim
  · obtain ⟨hl, hf⟩ := hf
    split at hf
    · rename_i c e
      exact .inr ⟨_, _, _, hx.str, hy.int, maxLen_le hl, e, q.c T hf fun _ => .str _⟩
    · exact hf.elim
  · exact hf.elim
theorem ix_str0 : IxR X rIxS := by first | exact ix_str | exact ix_strI | exact ix_textI | exact ix_txt
theorem e_ix {a b : Expr} {sa sb : SE} (ha : PE X a (rdB' t l I W sa)) (hb : PE X b (rdB' t l I W sb)) (hs : PlainIx b := by exact fun _ _ => rfl) : PE X (.Subscript a b pos) (rdE t l I W (sOp ixD sa sb)) :=
  PE_imp (pe_ix (IxR_or (IxR_or ix_list ix_tup) ix_str0) ha hb hs) fun σ H Q h => op_rd sem_ix h

abbrev SO := List Slot → (Option Int → Prop) → (XD → Prop) → Prop
def rdO (t l : Addr) (I : TI') (W : WX) (so : SO) : TO := fun σ H Q => ∃ H0 O0 O ρ P PX, Env t l I H0 O0 O H σ ρ ∧ so ρ P PX ∧ (∀ o H', P o → Kept t l I H H' → Q o H') ∧ OKX t l I W O σ H PX
def soN : SO := fun _ P _ => P none
def soI (se : SE) : SO := fun ρ P PX => se ρ (fun d => match d with | .int i => P (some i) | _ => False) PX
theorem PO_imp {e : Option Expr} {u u' : TO} (h : PO X e u) (k : ∀ σ H Q, u' σ H Q → u σ H Q) : PO X e u' := ⟨fun pins s σ H Q I q => h.run pins s σ H Q I (k σ H Q q)⟩
theorem o_none : PO X none (rdO t l I W soN) := PO_imp po_none fun σ H Q ⟨H0, O0, O, ρ, P, PX, E, hs, q, qx⟩ => q _ H hs (.refl E.tp)
theorem o_some {e : Expr} {se : SE} (h : PE X e (rdE t l I W se)) : PO X (some e) (rdO t l I W (soI se)) := PO_imp (po_some h) fun σ H Q ⟨H0, O0, O, ρ, P, PX, E, hs, q, qx⟩ =>
  ⟨H0, O0, O, ρ, _, PX, E, hs, fun d v H' p k r => by
    cases d with
    | int i =>
      cases r
      exact ⟨i, rfl, q _ H' p k⟩
    | _ => exact (show False from p).elim, qx⟩
def cutD {α : Type} (xs : List α) (lo hi : Option Int) : List α := (xs.drop (HT.sIx xs.length 0 lo)).take (HT.sIx xs.length xs.length hi - HT.sIx xs.length 0 lo)
theorem RpL.take {t : Addr} {H : Hp} : ∀ {vs : List V} {ds : List D} (n : Nat), RpL t H vs ds → RpL t H (vs.take n) (ds.take n)
  | _, _, 0, _ => .nil
  | _, _, _ + 1, .nil => .nil
  | _, _, n + 1, .cons a b => .cons a (RpL.take n b)
theorem RpL.drop {t : Addr} {H : Hp} : ∀ {vs : List V} {ds : List D} (n : Nat), RpL t H vs ds → RpL t H (vs.drop n) (ds.drop n)
  | _, _, 0, h => h
  | _, _, _ + 1, .nil => .nil
  | _, _, n + 1, .cons a b => RpL.drop n b
theorem RpL.cut {t : Addr} {H : Hp} {vs : List V} {ds : List D} (h : RpL t H vs ds) (lo hi : Option Int) : RpL t H (cutV vs lo hi) (cutD ds lo hi) := by
  unfold cutV cutD
  rw [h.length]
  exact (h.drop _).take _
def slD (d : D) (lo hi : Option Int) (P : D → Prop) : Prop := match d with
  | .lst ds => P (.lst (cutD ds lo hi))
  | .tup ds => P (.tup (cutD ds lo hi))
  | .str s => s.length ≤ maxLen ∧ P (.str (cutS s lo hi))
  | _ => False
def rSlS : V → Option Int → Option Int → Hp → VK → Prop := fun x lo hi H Q => ∃ z, x = .str z ∧ z.length ≤ sizeLine ∧ Q (.str (cutS z lo hi)) H
theorem sl_str0 : SlR X rSlS := sl_str
def sSl (sa : SE) (so so2 : SO) : SE := fun ρ P PX => sa ρ (fun d => so ρ (fun lo => so2 ρ (fun hi => slD d lo hi P) PX) PX) PX
theorem e_sl {e : Expr} {lo hi : Option Expr} {sa : SE} {so so2 : SO} {p2 : Pos} (he : PE X e (rdB' t l I W sa)) (hl : PO X lo (rdO t l I W so)) (hh : PO X hi (rdO t l I W so2)) : PE X (.Subscript e (.Slice lo hi none p2) pos) (rdE t l I W (sSl sa so so2)) :=
  PE_imp (pe_slice (SlR.or (SlR.or sl_list sl_tupA) sl_str0) he hl hh) fun σ H Q ⟨H0, O0, O, ρ, P, PX, E, hs, q, qx⟩ => by
    refine ⟨H0, O0, O, ρ, _, PX, E, hs, fun d v H1 p1 k1 b1 => ?_, qx⟩
    refine ⟨H0, O0, O, ρ, _, PX, E.keep k1, p1, fun lo H2 p2 k2 => ?_, qx.keep k1⟩
    refine ⟨H0, O0, O, ρ, _, PX, (E.keep k1).keep k2, p2, fun hi H3 p3 k3 => ?_, (qx.keep k1).keep k2⟩
    have E3 := ((E.keep k1).keep k2).keep k3
    have k := (k1.trans k2).trans k3
    have b3 := (b1.keep k2 E.t1).keep k3 E.t1
    unfold slD at p3
    split at p3
    · obtain ⟨p, vs, rfl, hp, rp⟩ := b3.lst
      exact .inl (.inl ⟨p, vs, rfl, SqL.of hp, fun p' n => q _ _ _ p3 (k.trans (.new k3.2 n)) (new_lst k3.2 E3.all n (rp.cut lo hi))⟩)
    · obtain ⟨p, vs, rfl, hp, rp⟩ := b3.tup
      refine .inl (.inr ⟨p, vs, rfl, SqT.of (hd_some hp).2, fun e => ?_, fun _ p' n => q _ _ _ p3 (k.trans (.new k3.2 n)) (new_tup k3.2 E3.all n (rp.cut lo hi))⟩)
      refine q _ _ _ p3 k (.tup hp ?_)
      have r := rp.cut lo hi
      have e2 : cutV vs lo hi = vs := by
        unfold cutV
        rw [e.1, e.2, List.drop_zero, Nat.sub_zero, List.take_length]
      rw [e2] at r
      exact r
    · exact .inr ⟨_, b3.str, maxLen_le p3.1, q _ _ _ p3.2 k (.str _)⟩
    · exact p3.elim
end DS

namespace DS
open PySem PySem.Spec PyProof.Rows L2
variable {t l : Addr} {I : TI'} {W : WX} {X : Cx} {pos : Pos}
/-! ### argument lists -/
def rdAB (t l : Addr) (I : TI') (W : WX) (sa : SL) : TA := fun σ H Q => ∃ H0 O0 O ρ P PX, Env t l I H0 O0 O H σ ρ ∧ sa ρ P PX ∧
  (∀ ds vs H', P ds → Kept t l I H H' → Paired (Bor t O H') vs ds → Q vs H') ∧ OKX t l I W O σ H PX
def saN : SL := fun _ P _ => P []
def saC (se : SE) (sa : SL) : SL := fun ρ P PX => se ρ (fun d => sa ρ (fun ds => P (d :: ds)) PX) PX
section
variable {e : Expr} {es : List Expr} {se : SE} {sa : SL}
theorem a_nil : PA X [] (rdA t l I W saN) := PA_imp pa_nil fun σ H Q ⟨H0, O0, O, ρ, P, PX, E, hs, q, qx⟩ => q _ _ H hs (.refl E.tp) .nil
theorem a_cons (he : PE X e (rdE t l I W se)) (hr : PA X es (rdA t l I W sa)) (hs : starEach (e :: es) X.env = (false, eval e X.env) :: starEach es X.env := by rfl) : PA X (e :: es) (rdA t l I W (saC se sa)) :=
  PA_imp (pa_cons he hr hs) fun σ H Q ⟨H0, O0, O, ρ, P, PX, E, hs, q, qx⟩ => ⟨H0, O0, O, ρ, _, PX, E, hs, fun d v H1 p1 k1 r1 =>
    ⟨H0, O0, O, ρ, _, PX, E.keep k1, p1, fun ds vs H2 p2 k2 r2 => q _ _ H2 p2 (k1.trans k2) (.cons (r1.mono (k2.same E.t1)) r2), qx.keep k1⟩, qx⟩
theorem ab_nil : PA X [] (rdAB t l I W saN) := PA_imp pa_nil fun σ H Q ⟨H0, O0, O, ρ, P, PX, E, hs, q, qx⟩ => q _ _ H hs (.refl E.tp) .nil
theorem ab_cons (he : PE X e (rdB' t l I W se)) (hr : PA X es (rdAB t l I W sa)) (hs : starEach (e :: es) X.env = (false, eval e X.env) :: starEach es X.env := by rfl) : PA X (e :: es) (rdAB t l I W (saC se sa)) :=
  PA_imp (pa_cons he hr hs) fun σ H Q ⟨H0, O0, O, ρ, P, PX, E, hs, q, qx⟩ => ⟨H0, O0, O, ρ, _, PX, E, hs, fun d v H1 p1 k1 r1 =>
    ⟨H0, O0, O, ρ, _, PX, E.keep k1, p1, fun ds vs H2 p2 k2 r2 => q _ _ H2 p2 (k1.trans k2) (.cons (r1.keep k2 E.t1) r2), qx.keep k1⟩, qx⟩
/-! ### displays -/
def sTup (sa : SL) : SE := fun ρ P PX => sa ρ (fun ds => ds.length ≤ maxLen ∧ P (.tup ds)) PX
def sLst (sa : SL) : SE := fun ρ P PX => sa ρ (fun ds => ds.length ≤ maxLen ∧ P (.lst ds)) PX
theorem e_tup {x1} (h : PA X es (rdA t l I W sa)) : PE X (.Tuple es x1 pos) (rdE t l I W (sTup sa)) := PE_imp (pe_tup h) fun σ H Q ⟨H0, O0, O, ρ, P, PX, E, hs, q, qx⟩ => ⟨H0, O0, O, ρ, _, PX, E, hs, fun ds vs H1 p1 k1 r1 =>
  ⟨by rw [r1.length]; exact maxLen_le p1.1, fun p n => q _ _ _ p1.2 (k1.trans (.new k1.2 n)) (new_tup k1.2 (E.keep k1).all n r1)⟩, qx⟩
theorem f_lst (h : PA X es (rdA t l I W sa)) : PE X (.List es pos) (rdF t l I W (sLst sa)) := PE_imp (pe_lst h) fun σ H Q ⟨H0, O0, O, ρ, P, PX, E, hs, q, qx⟩ => ⟨H0, O0, O, ρ, _, PX, E, hs, fun ds vs H1 p1 k1 r1 =>
  ⟨by rw [r1.length]; exact maxLen_le p1.1, fun p n => q _ _ _ _ p1.2 (k1.trans (.new k1.2 n)) (by
    cases z : H p with
    | none => rfl
    | some o => exact absurd n (k1.there k1.2.t_some (by rw [z]; exact fun z => nomatch z))) upd_same (.lst (r1.mono (hd_new n)))⟩, qx⟩
end

/-! ### built-ins by values -/
def CallSem (t l : Addr) (I : TI') (r : List V → Hp → VK → Prop) (f : List D → (D → Prop) → Prop) : Prop := ∀ (O : List Addr) (H : Hp) (vs : List V) (ds : List D) (P : D → Prop) (Q : VK),
  Tp t l I H → (∀ a ∈ O, H a ≠ none) → Paired (Bor t O H) vs ds → f ds P → OKQ t l I O H P Q → r vs H Q
def sCB (f : List D → (D → Prop) → Prop) (sa : SL) : SE := fun ρ P PX => sa ρ (fun ds => f ds P) PX
section
variable {r : List V → Hp → VK → Prop} {f : List D → (D → Prop) → Prop} {e : Expr} {es : List Expr} {sa : SL} {id : String} {x : Str} {p : Pos}
theorem cb_rd (hf : CallSem t l I r f) {σ : L2.St} {H : Hp} {Q : VK} (h : rdE t l I W (sCB f sa) σ H Q) : tCB r (rdAB t l I W sa) σ H Q := by
  obtain ⟨H0, O0, O, ρ, P, PX, E, hs, q, qx⟩ := h
  exact ⟨H0, O0, O, ρ, _, PX, E, hs, fun ds vs H1 p1 k1 b1 => hf O H1 vs ds P Q k1.2 (E.keep k1).all b1 p1 (q.keep k1), qx⟩
theorem e_cb (hf : CallSem t l I r f) (hc : CallR X (.builtin id) r) (hg : Gl X x) (hm : X.mg x = none) (hv : bootBuiltins x = some (.builtin id)) (ha : PA X (e :: es) (rdAB t l I W sa)) (hn : x ≠ "__name__" := by decide) (hdb : (x == ("__debug__" : Str)) = false := by decide)
    (he : starEach (e :: es) X.env = (false, eval e X.env) :: starEach es X.env := by rfl) (hpl : (backTo pos (starEach es X.env)).any (·.1) = false := by rfl) : PE X (.Call (.Name x p) (e :: es) [] pos) (rdE t l I W (sCB f sa)) :=
  PE_imp (pe_callB hc hg hm hv ha hn hdb he hpl) fun σ H Q h => cb_rd hf h
theorem e_cty (hf : CallSem t l I r f) (hc : CallR X (.type id) r) (hg : Gl X x) (hm : X.mg x = none) (hv : bootBuiltins x = some (.type id)) (ha : PA X (e :: es) (rdAB t l I W sa)) (hn : x ≠ "__name__" := by decide) (hdb : (x == ("__debug__" : Str)) = false := by decide)
    (he : starEach (e :: es) X.env = (false, eval e X.env) :: starEach es X.env := by rfl) (hpl : (backTo pos (starEach es X.env)).any (·.1) = false := by rfl) : PE X (.Call (.Name x p) (e :: es) [] pos) (rdE t l I W (sCB f sa)) :=
  PE_imp (pe_callTy hc hg hm hv ha hn hdb he hpl) fun σ H Q h => cb_rd hf h
end
def lenD : List D → (D → Prop) → Prop
  | [.lst ds], P => P (.int ds.length)
  | [.tup ds], P => P (.int ds.length)
  | [.str s], P => s.length ≤ maxLen ∧ P (.int s.length)
  | _, _ => False
theorem pr1 {R : V → D → Prop} {vs : List V} {d : D} (h : Paired R vs [d]) : ∃ v, vs = [v] ∧ R v d := by
  cases h with
  | cons a b =>
    cases b
    exact ⟨_, rfl, a⟩
theorem pr2 {R : V → D → Prop} {vs : List V} {d e : D} (h : Paired R vs [d, e]) : ∃ v w, vs = [v, w] ∧ R v d ∧ R w e := by
  cases h with
  | cons a b =>
    obtain ⟨w, rfl, c⟩ := pr1 b
    exact ⟨_, w, rfl, a, c⟩
theorem sem_len {K : PySem.W.Frag} : CallSem t l I (fun xs H Q => ∃ x n, xs = [x] ∧ LenV K x H n ∧ Q (.int n) H) lenD := by
  intro O H vs ds P Q T ha hb hf q
  unfold lenD at hf
  split at hf
  · obtain ⟨v, rfl, b⟩ := pr1 hb
    obtain ⟨p, vs, rfl, hp, rp⟩ := b.lst
    exact ⟨_, _, rfl, .inl ⟨vs, SqL.of hp, rp.length.symm⟩, q.c T hf fun _ => .int _⟩
  · obtain ⟨v, rfl, b⟩ := pr1 hb
    obtain ⟨p, vs, rfl, hp, rp⟩ := b.tup
    exact ⟨_, _, rfl, .inr ⟨vs, SqT.of (hd_some hp).2, rp.length.symm⟩, q.c T hf fun _ => .int _⟩
  · obtain ⟨v, rfl, b⟩ := pr1 hb
    have e := b.str
    subst e
    exact ⟨_, _, rfl, ⟨maxLen_le hf.1, rfl⟩, q.c T hf.2 fun _ => .int _⟩
  · exact hf.elim
/-! isinstance -/
def tyN : D → String
  | .non => "NoneType" | .bl _ => "bool" | .int _ => "int" | .str _ => "str" | .lst _ => "list" | .tup _ => "tuple" | .dct _ => "dict" | .ty _ => "" | .ins _ _ => "" | .tape => "" | .exc _ _ => ""
def isB (d : D) (n : String) : Bool := tyN d == n || (tyN d == "bool" && n == "int")
def tyL : List String := ["int", "bool", "str", "tuple", "list", "dict"]
theorem kit_all : (tyL.all fun n => (["NoneType", "bool", "int", "str", "list", "tuple", "dict"] : List String).all fun a => decide (kitB a n = some (a == n || (a == "bool" && n == "int")))) = true := by decide +kernel
theorem kit_of {a n : String} (hn : n ∈ tyL) (ha : a ∈ (["NoneType", "bool", "int", "str", "list", "tuple", "dict"] : List String)) : kitB a n = some (a == n || (a == "bool" && n == "int")) := by
  have h := kit_all
  rw [List.all_eq_true] at h
  have h2 := h n hn
  rw [List.all_eq_true] at h2
  exact of_decide_eq_true (h2 a ha)
theorem Bor.ty {K : PySem.W.Frag} {O : List Addr} {H : Hp} {v : V} {d : D} (h : Bor t O H v d) (hd : tyN d ≠ "") : ∃ a, TyX K H v (.type a) ∧ a = tyN d ∧ a ∈ (["NoneType", "bool", "int", "str", "list", "tuple", "dict"] : List String) := by
  rcases h with h | ⟨p, o, rfl, n, h, c⟩
  · cases h with
    | non => exact ⟨_, .base .non, rfl, by decide⟩
    | bl b => exact ⟨_, .base (.bl b), rfl, by decide⟩
    | int b => exact ⟨_, .base (.int b), rfl, by decide⟩
    | str b => exact ⟨_, .base (.str b), rfl, by decide⟩
    | ty n => exact absurd rfl hd
    | tape => exact absurd rfl hd
    | exc h => exact absurd rfl hd
    | excF h h2 r => exact absurd rfl hd
    | lst h r => exact ⟨_, .base (.lst (hd_some h).2), rfl, by decide⟩
    | tup h r => exact ⟨_, .base (.tup (hd_some h).2), rfl, by decide⟩
    | ins h r => exact absurd rfl hd
    | dct h r => exact ⟨_, .base (.dK (hd_some h).2), rfl, by decide⟩
    | dctT h r => exact ⟨_, .base (.dT (hd_some h).2), rfl, by decide⟩
  · cases c with
    | lst r => exact ⟨_, .base (.lst h), rfl, by decide⟩
    | dct r => exact ⟨_, .base (.dK h), rfl, by decide⟩
    | dctT r => exact ⟨_, .base (.dT h), rfl, by decide⟩
def plainTy (d : D) : Bool := tyN d != ""
def isiD : List D → (D → Prop) → Prop
  | [d, .ty n], P => plainTy d = true ∧ n ∈ tyL ∧ P (.bl (isB d n))
  | _, _ => False
theorem sem_isi {K : PySem.W.Frag} : CallSem t l I (rIsi K) isiD := by
  intro O H vs ds P Q T ha hb hf q
  unfold isiD at hf
  split at hf
  · rename_i d n
    obtain ⟨h1, h2, h3⟩ := hf
    obtain ⟨v, w, rfl, b1, b2⟩ := pr2 hb
    obtain ⟨a, ht, rfl, hm⟩ := b1.ty (K := K) (by simpa [plainTy] using h1)
    have ew : w = .ty n := by
      rcases b2 with z | ⟨_, _, _, _, _, c⟩
      · cases z
        rfl
      · cases c
    subst ew
    exact ⟨v, .ty n, _, _, _, rfl, .ty n, ht, kit_ty (kit_of h2 hm), q.c T h3 fun _ => .bl _⟩
  · exact hf.elim
def isAny (d : D) : List D → Bool
  | .ty n :: r => isB d n || isAny d r
  | _ => false
def tysOk : List D → Bool
  | [] => true
  | .ty n :: r => decide (n ∈ tyL) && tysOk r
  | _ => false
def isiTD : List D → (D → Prop) → Prop
  | [d, .tup ts], P => plainTy d = true ∧ tysOk ts = true ∧ P (.bl (isAny d ts))
  | _, _ => False
theorem tys_of {K : PySem.W.Frag} {H : Hp} {a : String} {d : D} (ha : a = tyN d) (hm : a ∈ (["NoneType", "bool", "int", "str", "list", "tuple", "dict"] : List String)) : ∀ {vs : List V} {ts : List D}, RpL t H vs ts → tysOk ts = true →
    ∃ us, Paired ClsV vs us ∧ PySem.W.kitAny K (.type a) us = some (isAny d ts)
  | _, _, .nil, _ => ⟨[], .nil, kitAny_nil⟩
  | _, .ty n :: ts', .cons z r, h => by
    cases z
    have h' : n ∈ tyL ∧ tysOk ts' = true := by
      have q := h
      unfold tysOk at q
      rw [Bool.and_eq_true] at q
      exact ⟨of_decide_eq_true q.1, q.2⟩
    obtain ⟨us, h1, h2⟩ := tys_of (K := K) ha hm r h'.2
    refine ⟨.type n :: us, .cons (.ty n) h1, ?_⟩
    have hk := kit_ty (K := K) (kit_of h'.1 hm)
    have e : (a == n || (a == "bool" && n == "int")) = isB d n := by
      rw [ha]
      rfl
    rw [e] at hk
    unfold isAny
    cases hb : isB d n with
    | true =>
      rw [hb] at hk
      exact kitAny_cons hk (fun z => nomatch z) (fun _ => rfl)
    | false =>
      rw [hb] at hk
      exact kitAny_cons hk (fun _ => h2) (fun z => nomatch z)
  | _, .non :: _, _, h => by simp [tysOk] at h
  | _, .bl _ :: _, _, h => by simp [tysOk] at h
  | _, .int _ :: _, _, h => by simp [tysOk] at h
  | _, .str _ :: _, _, h => by simp [tysOk] at h
  | _, .lst _ :: _, _, h => by simp [tysOk] at h
  | _, .tup _ :: _, _, h => by simp [tysOk] at h
  | _, .ins _ _ :: _, _, h => by simp [tysOk] at h
  | _, .dct _ :: _, _, h => by simp [tysOk] at h
  | _, .tape :: _, _, h => by simp [tysOk] at h
  | _, .exc _ _ :: _, _, h => by simp [tysOk] at h
theorem sem_isiT {K : PySem.W.Frag} : CallSem t l I (rIsiT K) isiTD := by
  intro O H vs ds P Q T ha hb hf q
  unfold isiTD at hf
  split at hf
  · rename_i d ts
    obtain ⟨h1, h2, h3⟩ := hf
    obtain ⟨v, w, rfl, b1, b2⟩ := pr2 hb
    obtain ⟨a, ht, e, hm⟩ := b1.ty (K := K) (by simpa [plainTy] using h1)
    obtain ⟨p, vs, rfl, hp, rp⟩ := b2.tup
    obtain ⟨us, c1, c2⟩ := tys_of (K := K) e hm rp h2
    exact ⟨v, p, vs, _, us, _, rfl, (hd_some hp).2, c1, ht, c2, q.c T h3 fun _ => .bl _⟩
  · exact hf.elim
/-! int, min, max, abs -/
def intFD : List D → (D → Prop) → Prop
  | [.int i], P => P (.int i)
  | [.bl b], P => P (.int (if b then 1 else 0))
  | _, _ => False
theorem sem_intF : CallSem t l I (fun xs H Q => (∃ i, xs = [.int i] ∧ Q (.int i) H) ∨ ∃ k, xs = [.bl k] ∧ Q (.int (if k then 1 else 0)) H) intFD := by
  intro O H vs ds P Q T ha hb hf q
  unfold intFD at hf
  split at hf
  · obtain ⟨v, rfl, b⟩ := pr1 hb
    exact .inl ⟨_, by rw [b.int], q.c T hf fun _ => .int _⟩
  · obtain ⟨v, rfl, b⟩ := pr1 hb
    exact .inr ⟨_, by rw [b.bl], q.c T hf fun _ => .int _⟩
  · exact hf.elim
def int2D (g : Int → Int → Int) : List D → (D → Prop) → Prop
  | [.int i, .int j], P => P (.int (g i j))
  | _, _ => False
theorem sem_int2 {g : Int → Int → Int} : CallSem t l I (fun xs H Q => ∃ i j, xs = [.int i, .int j] ∧ Q (.int (g i j)) H) (int2D g) := by
  intro O H vs ds P Q T ha hb hf q
  unfold int2D at hf
  split at hf
  · obtain ⟨v, w, rfl, b, b2⟩ := pr2 hb
    exact ⟨_, _, by rw [b.int, b2.int], q.c T hf fun _ => .int _⟩
  · exact hf.elim
def absD : List D → (D → Prop) → Prop
  | [.int i], P => P (.int (if i < 0 then -i else i))
  | _, _ => False
theorem sem_abs : CallSem t l I (fun xs H Q => ∃ i, xs = [.int i] ∧ Q (.int (if i < 0 then -i else i)) H) absD := by
  intro O H vs ds P Q T ha hb hf q
  unfold absD at hf
  split at hf
  · obtain ⟨v, rfl, b⟩ := pr1 hb
    exact ⟨_, by rw [b.int], q.c T hf fun _ => .int _⟩
  · exact hf.elim
/-! all, any, sum over a list or a tuple -/
def blsD : List D → Option (List Bool)
  | [] => some []
  | .bl b :: r => (blsD r).map (b :: ·)
  | _ => none
theorem bls_of {H : Hp} : ∀ {vs : List V} {ds : List D} {bs : List Bool}, RpL t H vs ds → blsD ds = some bs → vs = bs.map V.bl
  | _, _, _, .nil, h => by
    cases h
    rfl
  | _, .bl b :: r, bs, .cons z rr, h => by
    cases z
    unfold blsD at h
    cases q : blsD r with
    | none =>
      rw [q] at h
      cases h
    | some bs' =>
      rw [q] at h
      cases h
      rw [List.map_cons, bls_of rr q]
  | _, .non :: _, _, _, h => by simp [blsD] at h
  | _, .int _ :: _, _, _, h => by simp [blsD] at h
  | _, .str _ :: _, _, _, h => by simp [blsD] at h
  | _, .lst _ :: _, _, _, h => by simp [blsD] at h
  | _, .tup _ :: _, _, _, h => by simp [blsD] at h
  | _, .ins _ _ :: _, _, _, h => by simp [blsD] at h
  | _, .dct _ :: _, _, _, h => by simp [blsD] at h
  | _, .tape :: _, _, _, h => by simp [blsD] at h
  | _, .exc _ _ :: _, _, _, h => by simp [blsD] at h
  | _, .ty _ :: _, _, _, h => by simp [blsD] at h
def allD : List D → (D → Prop) → Prop
  | [.lst ds], P => match blsD ds with
    | some bs => P (.bl (bs.all id))
    | none => False
  | _, _ => False
theorem sem_allB {K : PySem.W.Frag} : CallSem t l I (rAll K) allD := by
  intro O H vs ds P Q T ha hb hf q
  unfold allD at hf
  split at hf
  · obtain ⟨v, rfl, b⟩ := pr1 hb
    obtain ⟨p, vs, rfl, hp, rp⟩ := b.lst
    split at hf
    · rename_i bs e
      have ev := bls_of rp e
      subst ev
      exact ⟨p, bs, rfl, SqL.of hp, q.c T hf fun _ => .bl _⟩
    · exact hf.elim
  · exact hf.elim
def anyD : List D → (D → Prop) → Prop
  | [.lst ds], P => match blsD ds with
    | some bs => P (.bl (bs.any id))
    | none => False
  | _, _ => False
theorem sem_anyB {K : PySem.W.Frag} : CallSem t l I (rAny K) anyD := by
  intro O H vs ds P Q T ha hb hf q
  unfold anyD at hf
  split at hf
  · obtain ⟨v, rfl, b⟩ := pr1 hb
    obtain ⟨p, vs, rfl, hp, rp⟩ := b.lst
    split at hf
    · rename_i bs e
      have ev := bls_of rp e
      subst ev
      exact ⟨p, bs, rfl, SqL.of hp, q.c T hf fun _ => .bl _⟩
    · exact hf.elim
  · exact hf.elim
def intsD : List D → Option (List Int)
  | [] => some []
  | .int b :: r => (intsD r).map (b :: ·)
  | _ => none
theorem ints_of {H : Hp} : ∀ {vs : List V} {ds : List D} {bs : List Int}, RpL t H vs ds → intsD ds = some bs → vs = bs.map V.int
  | _, _, _, .nil, h => by
    cases h
    rfl
  | _, .int b :: r, bs, .cons z rr, h => by
    cases z
    unfold intsD at h
    cases q : intsD r with
    | none =>
      rw [q] at h
      cases h
    | some bs' =>
      rw [q] at h
      cases h
      rw [List.map_cons, ints_of rr q]
  | _, .non :: _, _, _, h => by simp [intsD] at h
  | _, .bl _ :: _, _, _, h => by simp [intsD] at h
  | _, .str _ :: _, _, _, h => by simp [intsD] at h
  | _, .lst _ :: _, _, _, h => by simp [intsD] at h
  | _, .tup _ :: _, _, _, h => by simp [intsD] at h
  | _, .ins _ _ :: _, _, _, h => by simp [intsD] at h
  | _, .dct _ :: _, _, _, h => by simp [intsD] at h
  | _, .tape :: _, _, _, h => by simp [intsD] at h
  | _, .exc _ _ :: _, _, _, h => by simp [intsD] at h
  | _, .ty _ :: _, _, _, h => by simp [intsD] at h
theorem sum_tupRaw {prog : Program} {w : World} {A : Around} {E : Value → Shared → Prop} {s : Shared} {a : Addr} {its : List Value} {ns : List Int} {Q : Value → Shared → Prop} (hh : A.handled = none) (hl : IsTup s.heap a its.toArray) (hi : IntsAre its ns)
    (h : ∀ h' tk t', (∀ b o, s.heap.get? b = some o → h'.get? b = some o) → Q (.int ns.sum t') { s with heap := h', toks := tk }) : wpAny (model prog w) A (call (.builtin "sum") [.ref a]) Q E s := by
  obtain ⟨xs, e⟩ := hi.allInts.items
  have hn : numsOf (intItems xs).toList = ns := by rw [← e]; exact hi.numsOf
  rw [nums_intItems] at hn
  rw [e] at hl
  have hlt : a < s.heap.objs.size := hl.lt
  refine call_sum_walkG (wpAny_pyIter_tuple (show s.heap.IsTuple a (intItems xs) from hl) ?_)
  refine ⟨_, _, _, _, _, _, numAt xs, rfl, Walks.tuple (A := A.in1) hh s.heap.objs.size a (Nat.ne_of_lt hlt) (intItems xs), ⟨⟨_, Heap.get?_push_size _ rfl, rfl, rfl⟩, ?_⟩, fun b hb => ?_, (fun _ _ => intItems_at), fun h' tk t' hk => ?_⟩
  · obtain ⟨o, e1, e2⟩ := (show s.heap.IsTuple a (intItems xs) from hl)
    exact ⟨o, Heap.get?_push_of_some _ e1, e2⟩
  · have hb' : b = s.heap.objs.size ∨ b = a := by simpa using hb
    show b < (s.heap.push _).objs.size
    rw [Heap.size_push]
    rcases hb' with rfl | rfl
    · exact Nat.lt_succ_self _
    · exact Nat.lt_succ_of_lt hlt
  · have := h h' tk t' (fun b o eo => hk b o (fun hm => by
      have e0 : b = s.heap.objs.size := by simpa using hm
      exact absurd (e0 ▸ Heap.lt_size eo) (Nat.lt_irrefl _)) (Heap.get?_push_of_some _ eo))
    have e3 : preSum (numAt xs) (intItems xs).size = ns.sum := by
      have e4 : (intItems xs).size = xs.size := by simp [intItems]
      rw [e4, preSum_eq, List.take_of_length_le (by simp), hn]
    rw [e3]
    exact this
def rSumT (K : PySem.W.Frag) : List V → Hp → VK → Prop := fun vs H Q => ∃ (a : Addr) (ns : List Int), vs = [V.ref a] ∧ SqT K H a (ns.map V.int) ∧ Q (.int ns.sum) H
theorem cr_sumT (hc : X.calm = true) : CallR X (.builtin "sum") (rSumT X.K) := by
  intro pins s σ H vs us Q I r h
  obtain ⟨a, ns, rfl, hs, q⟩ := h
  obtain ⟨its, rv, hl, _⟩ := I.tuple hs
  rw [Vals.ref1 r]
  exact sum_tupRaw (I.ok.hd hc) hl rv.ints fun h' tk t' hk => ⟨.int _, H, I.kept hk, ⟨_, rfl⟩, q⟩
def sumD : List D → (D → Prop) → Prop
  | [.lst ds], P => match intsD ds with
    | some bs => P (.int bs.sum)
    | none => False
  | [.tup ds], P => match intsD ds with
    | some bs => P (.int bs.sum)
    | none => False
  | _, _ => False
theorem sem_sum {K : PySem.W.Frag} : CallSem t l I (fun vs H Q => rSum K vs H Q ∨ rSumT K vs H Q) sumD := by
  intro O H vs ds P Q T ha hb hf q
  unfold sumD at hf
  split at hf
  · obtain ⟨v, rfl, b⟩ := pr1 hb
    obtain ⟨p, vs, rfl, hp, rp⟩ := b.lst
    split at hf
    · rename_i bs e
      have ev := ints_of rp e
      subst ev
      exact .inl ⟨p, bs, rfl, SqL.of hp, q.c T hf fun _ => .int _⟩
    · exact hf.elim
  · obtain ⟨v, rfl, b⟩ := pr1 hb
    obtain ⟨p, vs, rfl, hp, rp⟩ := b.tup
    split at hf
    · rename_i bs e
      have ev := ints_of rp e
      subst ev
      exact .inr ⟨p, bs, rfl, SqT.of (hd_some hp).2, q.c T hf fun _ => .int _⟩
    · exact hf.elim
  · exact hf.elim
/-! tuple(..), list(..) -/
def tupFD : List D → (D → Prop) → Prop
  | [.lst ds], P => P (.tup ds)
  | [.tup ds], P => P (.tup ds)
  | _, _ => False
theorem sem_tupF {K : PySem.W.Frag} : CallSem t l I (fun xs H Q => ∃ p ys, xs = [.ref p] ∧ ((SqL K H p ys ∧ ∀ l, H l = none → Q (.ref l) (upd H l (.tup ys))) ∨ (SqT K H p ys ∧ Q (.ref p) H))) tupFD := by
  intro O H vs ds P Q T ha hb hf q
  unfold tupFD at hf
  split at hf
  · obtain ⟨v, rfl, b⟩ := pr1 hb
    obtain ⟨p, vs, rfl, hp, rp⟩ := b.lst
    exact ⟨p, vs, rfl, .inl ⟨SqL.of hp, fun p2 n => q _ _ _ hf (.new T n) (new_tup T ha n rp)⟩⟩
  · obtain ⟨v, rfl, b⟩ := pr1 hb
    obtain ⟨p, vs, rfl, hp, rp⟩ := b.tup
    exact ⟨p, vs, rfl, .inr ⟨SqT.of (hd_some hp).2, q _ _ H hf (.refl T) (.tup hp rp)⟩⟩
  · exact hf.elim
def lstFD : List D → (D → Prop) → Prop
  | [.lst ds], P => P (.lst ds)
  | [.tup ds], P => P (.lst ds)
  | _, _ => False
theorem f_list {e : Expr} {sa : SL} {p : Pos} (hg : Gl X "list") (hm : X.mg "list" = none) (hv : bootBuiltins "list" = some (.type "list")) (ha : PA X [e] (rdAB t l I W sa))
    (he : starEach [e] X.env = (false, eval e X.env) :: starEach [] X.env := by rfl) (hpl : (backTo pos (starEach [] X.env)).any (·.1) = false := by rfl) : PE X (.Call (.Name "list" p) [e] [] pos) (rdF t l I W (sCB lstFD sa)) :=
  PE_imp (pe_callTy call_list_of hg hm hv ha (by decide) (by decide) he hpl) fun σ H Q ⟨H0, O0, O, ρ, P, PX, E, hs, q, qx⟩ => by
    refine ⟨H0, O0, O, ρ, _, PX, E, hs, fun ds vs H1 p1 k1 b1 => ?_, qx⟩
    have E1 := E.keep k1
    have fr : ∀ p, H1 p = none → H p = none := fun p n => by
      cases z : H p with
      | none => rfl
      | some o => exact absurd n (k1.there k1.2.t_some (by rw [z]; exact fun z => nomatch z))
    unfold lstFD at p1
    split at p1
    · obtain ⟨v, rfl, b⟩ := pr1 b1
      obtain ⟨p, vs, rfl, hp, rp⟩ := b.lst
      exact ⟨p, vs, rfl, .inl (SqL.of hp), fun p2 n => q _ _ _ _ p1 (k1.trans (.new k1.2 n)) (fr _ n) upd_same (.lst (rp.mono (hd_new n)))⟩
    · obtain ⟨v, rfl, b⟩ := pr1 b1
      obtain ⟨p, vs, rfl, hp, rp⟩ := b.tup
      exact ⟨p, vs, rfl, .inr (SqT.of (hd_some hp).2), fun p2 n => q _ _ _ _ p1 (k1.trans (.new k1.2 n)) (fr _ n) upd_same (.lst (rp.mono (hd_new n)))⟩
    · exact p1.elim
/-! ### calls of the text's own defs -/
def sCall (sf : SF) (sa : SL) : SE := fun ρ P PX => sa ρ (fun ds => sf ds P PX) PX
theorem e_call {k : Nat} {f : Addr} {fd : FuncData} {ps : List Str} {sf : SF} {x : Str} {p : Pos} {e : Expr} {es : List Expr} {sa : SL} (tk : Takes X W) (F : FnOk X.prog X.w X.K X.mg X.base (L2.CX X.prog X.w) k f fd ps (spD t l I sf)) (hr : Room k X.A) (hm : X.mg x = some (.ref f))
    (hk : PySem.W.keepIn X.K (.ref f) = true) (hb : Binds X.K fd ps []) (ha : PA X (e :: es) (rdA t l I W sa)) (hg : Gl X x := by rfl) (hdb : (x == ("__debug__" : Str)) = false := by decide)
    (he : starEach (e :: es) X.env = (false, eval e X.env) :: starEach es X.env := by rfl) (hpl : (backTo pos (starEach es X.env)).any (·.1) = false := by rfl) : PE X (.Call (.Name x p) (e :: es) [] pos) (rdE t l I W (sCall sf sa)) :=
  PE_imp (pe_callS F hr hg hm hk hb (fun σ => passAt tk σ) ha hdb he hpl) fun σ H Q ⟨H0, O0, O, ρ, P, PX, E, hs, q, qx⟩ =>
    ⟨H0, O0, O, ρ, _, PX, E, hs, fun ds vs H1 p1 k1 r1 => ⟨O, ds, P, PX, k1.2, E.t1, E.l1, (E.keep k1).all, r1, p1, q.keep k1, qx.keep k1⟩, qx⟩
end DS

namespace DS
open PySem PySem.Spec PyProof.Rows L2
variable {t l : Addr} {I : TI'} {W : WX} {X : Cx} {pos : Pos}
/-! ### slots -/
section
variable {H0 H H' : Hp} {O0 O : List Addr} {σ : L2.St} {ρ : List Slot}
theorem Env.set (E : Env t l I H0 O0 O H σ ρ) {i : Nat} {v : V} {d : D} (r : Rp t (hd O H) v d) : Env t l I H0 O0 O H (σ.set i (some v)) (ρ.set i (.d d)) := by
  refine ⟨E.toEnvB, by rw [List.length_set, List.length_set, E.len], fun j s h => ?_, fun j k p xi xj h1 h2 h3 h4 => ?_⟩
  · by_cases e : i = j
    · subst e
      have hl : i < ρ.length := by
        have z := (List.getElem?_eq_some_iff.mp h).1
        rw [List.length_set] at z
        exact z
      rw [List.getElem?_set_self hl] at h
      cases h
      refine ⟨v, ?_, r⟩
      rw [List.getElem?_set_self (by rw [E.len]; exact hl)]
    · rw [List.getElem?_set_ne e] at h
      rw [List.getElem?_set_ne e]
      exact E.slot j s h
  · have n1 : i ≠ j := fun e => by
      subst e
      by_cases hl : i < ρ.length
      · rw [List.getElem?_set_self hl] at h1
        cases h1
      · rw [List.getElem?_eq_none (by rw [List.length_set]; omega)] at h1
        cases h1
    have n2 : i ≠ k := fun e => by
      subst e
      by_cases hl : i < ρ.length
      · rw [List.getElem?_set_self hl] at h2
        cases h2
      · rw [List.getElem?_eq_none (by rw [List.length_set]; omega)] at h2
        cases h2
    rw [List.getElem?_set_ne n1] at h1 h3
    rw [List.getElem?_set_ne n2] at h2 h4
    exact E.dist j k p xi xj h1 h2 h3 h4
theorem Env.setNo (E : Env t l I H0 O0 O H σ ρ) (i : Nat) (v : Option V) : Env t l I H0 O0 O H (σ.set i v) (ρ.set i .no) := by
  refine ⟨E.toEnvB, by rw [List.length_set, List.length_set, E.len], fun j s h => ?_, fun j k p xi xj h1 h2 h3 h4 => ?_⟩
  · by_cases e : i = j
    · subst e
      have hl : i < ρ.length := by
        have z := (List.getElem?_eq_some_iff.mp h).1
        rw [List.length_set] at z
        exact z
      rw [List.getElem?_set_self hl] at h
      cases h
      exact True.intro
    · rw [List.getElem?_set_ne e] at h
      rw [List.getElem?_set_ne e]
      exact E.slot j s h
  · have n1 : i ≠ j := fun e => by
      subst e
      by_cases hl : i < ρ.length
      · rw [List.getElem?_set_self hl] at h1
        cases h1
      · rw [List.getElem?_eq_none (by rw [List.length_set]; omega)] at h1
        cases h1
    have n2 : i ≠ k := fun e => by
      subst e
      by_cases hl : i < ρ.length
      · rw [List.getElem?_set_self hl] at h2
        cases h2
      · rw [List.getElem?_eq_none (by rw [List.length_set]; omega)] at h2
        cases h2
    rw [List.getElem?_set_ne n1] at h1 h3
    rw [List.getElem?_set_ne n2] at h2 h4
    exact E.dist j k p xi xj h1 h2 h3 h4
def wipeS (ρ : List Slot) : List Nat → List Slot
  | [] => ρ
  | v :: vs => (wipeS ρ vs).set v .no
theorem Env.wipe (E : Env t l I H0 O0 O H σ ρ) : ∀ vs : List Nat, Env t l I H0 O0 O H (wipe σ vs) (wipeS ρ vs)
  | [] => E
  | v :: vs => (Env.wipe E vs).setNo v none
theorem free_back (h : EnvB t l I H0 O0 O H) {p : Addr} (n : H p = none) : H0 p = none := by
  cases z : H0 p with
  | none => rfl
  | some o =>
    by_cases e : p = t
    · subst e
      exact absurd n h.tp.t_some
    · rw [h.kept p o e z] at n
      cases n
/-- a new hidden object at p, all else kept -/
theorem Env.reown (E : Env t l I H0 O0 O H σ ρ) {p : Addr} (n : H p = none) (T : Tp t l I H') (k : ∀ a o, a ≠ t → H a = some o → H' a = some o) (hp : H' p ≠ none) : Env t l I H0 O0 (p :: O) H' σ ρ := by
  have hs : Same (hd O H) (hd (p :: O) H') := fun a o e => by
    obtain ⟨x, y⟩ := hd_some e
    have ne := ne_of_none y n
    rw [hd_out (by
      intro z
      rcases List.mem_cons.mp z with z | z
      · exact ne z
      · exact x z)]
    exact k a o (fun z => x (z ▸ E.t1)) y
  refine ⟨⟨T, E.t0, E.l0, fun a h => List.mem_cons_of_mem _ (E.sub a h), E.all0, fun a h => ?_, fun a o ne e => k a o ne (E.kept a o ne e), fun a h => ?_⟩, E.len, fun i s h => ?_, E.dist⟩
  · rcases List.mem_cons.mp h with rfl | h
    · exact hp
    · by_cases e : a = t
      · rw [e]
        exact T.t_some
      · cases z : H a with
        | none => exact absurd z (E.all a h)
        | some o =>
          rw [k a o e z]
          exact fun z => nomatch z
  · rcases List.mem_cons.mp h with rfl | h
    · exact .inr (free_back E.toEnvB n)
    · exact E.ownO a h
  · have q := E.slot i s h
    cases s with
    | no => exact True.intro
    | d x =>
      obtain ⟨u, e, r⟩ := q
      exact ⟨u, e, r.mono hs⟩
    | own x =>
      obtain ⟨p', o, e, hm, h0, hh, c⟩ := q
      exact ⟨p', o, e, List.mem_cons_of_mem _ hm, h0, k p' o (fun z => own_ne E.toEnvB h0 (z ▸ E.t0)) hh, c.mono hs⟩
    | lk p0 => exact q
    | me p' C fs =>
      obtain ⟨e, hm, h0, dx, us, hh, r⟩ := q
      exact ⟨e, List.mem_cons_of_mem _ hm, h0, dx, us, k p' _ (fun z => own_ne E.toEnvB h0 (z ▸ E.t0)) hh, r.mono hs⟩
/-- an own object at p goes to slot i -/
theorem Env.setOwn (E : Env t l I H0 O0 O H σ ρ) {i : Nat} {p : Addr} {o : HO} {d : D} (hm : p ∈ O) (h0 : H0 p = none) (hp : H p = some o) (c : Ct t (hd O H) o d)
    (hn : ∀ (j : Nat) x, j ≠ i → ρ[j]? = some (.own x) → σ[j]? ≠ some (some (.ref p))) : Env t l I H0 O0 O H (σ.set i (some (.ref p))) (ρ.set i (.own d)) := by
  refine ⟨E.toEnvB, by rw [List.length_set, List.length_set, E.len], fun j s h => ?_, fun j k q xi xj h1 h2 h3 h4 => ?_⟩
  · by_cases e : i = j
    · subst e
      have hl : i < ρ.length := by
        have z := (List.getElem?_eq_some_iff.mp h).1
        rw [List.length_set] at z
        exact z
      rw [List.getElem?_set_self hl] at h
      cases h
      refine ⟨p, o, ?_, hm, h0, hp, c⟩
      rw [List.getElem?_set_self (by rw [E.len]; exact hl)]
    · rw [List.getElem?_set_ne e] at h
      rw [List.getElem?_set_ne e]
      exact E.slot j s h
  · by_cases e1 : i = j
    · subst e1
      by_cases e2 : i = k
      · exact e2
      · exfalso
        rw [List.getElem?_set_ne e2] at h2 h4
        have hl : i < σ.length := by
          have z := (List.getElem?_eq_some_iff.mp h3).1
          rw [List.length_set] at z
          exact z
        rw [List.getElem?_set_self hl] at h3
        cases h3
        exact hn k xj (Ne.symm e2) h2 h4
    · by_cases e2 : i = k
      · subst e2
        exfalso
        rw [List.getElem?_set_ne e1] at h1 h3
        have hl : i < σ.length := by
          have z := (List.getElem?_eq_some_iff.mp h4).1
          rw [List.length_set] at z
          exact z
        rw [List.getElem?_set_self hl] at h4
        cases h4
        exact hn j xi (Ne.symm e1) h1 h3
      · rw [List.getElem?_set_ne e1] at h1 h3
        rw [List.getElem?_set_ne e2] at h2 h4
        exact E.dist j k q xi xj h1 h2 h3 h4
end
theorem wipe_in {σ : L2.St} {i : Nat} : ∀ {vs : List Nat}, i ∈ vs → (wipe σ vs)[i]? = if i < σ.length then some none else none
  | v :: vs, h => by
    unfold wipe
    by_cases e : v = i
    · subst e
      by_cases hl : v < σ.length
      · rw [List.getElem?_set_self (by rw [wipe_length]; exact hl), if_pos hl]
      · rw [List.getElem?_eq_none (by rw [List.length_set, wipe_length]; omega), if_neg hl]
    · rw [List.getElem?_set_ne e]
      rcases List.mem_cons.mp h with h | h
      · exact absurd h.symm e
      · exact wipe_in h
theorem wipe_ext {σ σ' : L2.St} {vs : List Nat} (hl : σ.length = σ'.length) (h : ∀ i, i ∉ vs → σ[i]? = σ'[i]?) : wipe σ vs = wipe σ' vs := by
  apply List.ext_getElem?
  intro i
  by_cases hi : i ∈ vs
  · rw [wipe_in hi, wipe_in hi, hl]
  · rw [wipe_out hi, wipe_out hi, h i hi]
theorem wipe_wipe {σ : L2.St} {vs : List Nat} : wipe (wipe σ vs) vs = wipe σ vs := wipe_ext (wipe_length _ _) fun i hi => wipe_out hi

/-! ### targets -/
def OwnSub (σ : L2.St) (ρ : List Slot) (σ' : L2.St) (ρ' : List Slot) : Prop := ∀ (j : Nat) x, ρ'[j]? = some (.own x) → ρ[j]? = some (.own x) ∧ σ'[j]? = σ[j]?
theorem OwnSub.refl (σ : L2.St) (ρ : List Slot) : OwnSub σ ρ σ ρ := fun _ _ h => ⟨h, rfl⟩
theorem OwnSub.trans {σ σ' σ'' : L2.St} {ρ ρ' ρ'' : List Slot} (a : OwnSub σ ρ σ' ρ') (b : OwnSub σ' ρ' σ'' ρ'') : OwnSub σ ρ σ'' ρ'' := fun j x h =>
  have h1 := b j x h
  have h2 := a j x h1.1
  ⟨h2.1, h1.2.trans h2.2⟩
theorem ownSub_set {σ : L2.St} {ρ : List Slot} {i : Nat} {v : Option V} {s : Slot} (hs : ∀ x, s ≠ .own x) : OwnSub σ ρ (σ.set i v) (ρ.set i s) := fun j x h => by
  by_cases e : i = j
  · subst e
    by_cases hl : i < ρ.length
    · rw [List.getElem?_set_self hl] at h
      exact absurd (Option.some.inj h) (hs x)
    · rw [List.getElem?_eq_none (by rw [List.length_set]; omega)] at h
      cases h
  · rw [List.getElem?_set_ne e] at h ⊢
    exact ⟨h, rfl⟩
theorem ownSub_wipe {σ : L2.St} {ρ : List Slot} : ∀ vs : List Nat, OwnSub σ ρ (wipe σ vs) (wipeS ρ vs)
  | [] => .refl _ _
  | _ :: vs => (ownSub_wipe vs).trans (ownSub_set (by intro _ z; cases z))
abbrev SG := D → List Slot → (List Slot → Prop) → Prop
def rdG (t l : Addr) (I : TI') (gs : SG) (is : List Nat) : TG := fun v σ H R => ∃ H0 O0 O ρ d P, Env t l I H0 O0 O H σ ρ ∧ Rp t (hd O H) v d ∧ gs d ρ P ∧
  ∀ σ' ρ', Env t l I H0 O0 O H σ' ρ' → P ρ' → (∀ vs, (∀ i ∈ is, i ∈ vs) → wipe σ' vs = wipe σ vs) → OwnSub σ ρ σ' ρ' → R σ' H
theorem PG_imp {e : Expr} {u u' : TG} (h : PG X e u) (k : ∀ v σ H R, u' v σ H R → u v σ H R) : PG X e u' := ⟨fun pins s σ H v uu R I r q => h.run pins s σ H v uu R I r (k v σ H R q)⟩
def gsN (i : Nat) : SG := fun d ρ P => P (ρ.set i (.d d))
theorem wipe_set {σ : L2.St} {i : Nat} {x : Option V} {vs : List Nat} (h : i ∈ vs) : wipe (σ.set i x) vs = wipe σ vs := wipe_ext (List.length_set ..) fun j hj => List.getElem?_set_ne (by
  intro e
  subst e
  exact hj h)
theorem g_name (i : Nat) {x : Str} (hN : X.N.Nodup) (hi : X.N[i]? = some x) (hx : Loc X.env.scope x) (hf : X.fn x = true ∨ X.env.scope.names.lookup x = some .local := by first | exact .inl rfl | exact .inr rfl | assumption) : PG X (.Name x pos) (rdG t l I (gsN i) [i]) :=
  PG_imp (pg_name hN hi hx hf) fun v σ H R ⟨H0, O0, O, ρ, d, P, E, r, hs, q⟩ => q _ _ (E.set r) hs (fun vs hv => wipe_set (hv i (by simp))) (ownSub_set (by intro _ z; cases z))
def gNm : List Nat → TGs
  | [] => gNil
  | i :: r => gCons (gName i) (gNm r)
def setAll : List Nat → List D → List Slot → List Slot
  | i :: is, d :: ds, ρ => setAll is ds (ρ.set i (.d d))
  | _, _, ρ => ρ
def gsT (is : List Nat) : SG := fun d ρ P => match d with
  | .tup ds => ds.length = is.length ∧ P (setAll is ds ρ)
  | _ => False
theorem gNm_ok {H0 H : Hp} {O0 O : List Addr} : ∀ (is : List Nat) {vs : List V} {ds : List D} {σ : L2.St} {ρ : List Slot} {R : L2.St → Hp → Prop}, Env t l I H0 O0 O H σ ρ → RpL t (hd O H) vs ds → ds.length = is.length →
    (∀ σ', Env t l I H0 O0 O H σ' (setAll is ds ρ) → (∀ vs, (∀ i ∈ is, i ∈ vs) → wipe σ' vs = wipe σ vs) → OwnSub σ ρ σ' (setAll is ds ρ) → R σ' H) → gNm is vs σ H R
  | [], _, _, σ, ρ, R, E, .nil, _, q => ⟨rfl, q σ E (fun _ _ => rfl) (.refl _ _)⟩
  | i :: is, _, _, σ, ρ, R, E, .cons a b, hl, q => ⟨_, _, rfl, gNm_ok is (E.set a) b (by simpa using hl) fun σ' E' hw ho => q σ' E' (fun vs hv => (hw vs fun j hj => hv j (List.mem_cons_of_mem _ hj)).trans (wipe_set (hv i List.mem_cons_self))) ((ownSub_set (by intro _ z; cases z)).trans ho)⟩
theorem g_tup {es : List Expr} {k : Nat} {is : List Nat} (hc : X.calm = true) (h : PGs X es (gNm is)) (hn : (assignEach es X.env).length = is.length := by rfl) (hst : (assignEach es X.env).findIdx? (·.1) = none := by rfl) : PG X (.Tuple es k pos) (rdG t l I (gsT is) is) :=
  PG_imp (pg_tup hc h hn hst) fun v σ H R ⟨H0, O0, O, ρ, d, P, E, r, hs, q⟩ => by
    unfold gsT at hs
    split at hs
    · cases r with
      | tup h r => exact ⟨_, _, rfl, SqT.of (hd_some h).2, by rw [r.length]; exact hs.1, gNm_ok is E r hs.1 fun σ' E' hw ho => q σ' _ E' hs.2 hw ho⟩
    · exact hs.elim

/-! ### what loops walk -/
def ItOk (t l : Addr) (I : TI') (B : Hp) (J : It) (ds : List D) : Prop := ∀ (i : Nat) (O : List Addr) (H : Hp), Same B (hd O H) → Tp t l I H → (∀ a ∈ O, H a ≠ none) →
  (i < ds.length → J.go i H) ∧ (ds.length ≤ i → J.stop i H) ∧ ∀ x H', i < ds.length → J.yld i H x H' → ∃ d, ds[i]? = some d ∧ Kept t l I H H' ∧ Rp t (hd O H') x d
def rdI (t l : Addr) (I : TI') (W : WX) (si : SL) : TI := fun σ H R => ∃ H0 O0 O ρ P PX, Env t l I H0 O0 O H σ ρ ∧ si ρ P PX ∧
  (∀ ds J H', P ds → Kept t l I H H' → ItOk t l I (hd O H') J ds → R J H') ∧ OKX t l I W O σ H PX
theorem PI_imp {tg e : Expr} {u u' : TI} (h : PI X tg e u) (k : ∀ σ H R, u' σ H R → u σ H R) : PI X tg e u' := ⟨fun pins s σ H R I q => h.run pins s σ H R I (k σ H R q)⟩
/-- a list or a tuple -/
def iSeq (K : PySem.W.Frag) (tl : TE) : TI := fun σ H R => tl σ H fun x H1 => ∃ a, x = .ref a ∧ ((∃ xs, SqL K H1 a xs ∧ R (Itl K a) H1) ∨ ∃ xs, SqT K H1 a xs ∧ R (Itt K a) H1)
theorem pi_seq {tg e : Expr} {tl : TE} (hl : PE X e tl) : PI X tg e (iSeq X.K tl) := by
  refine ⟨fun pins s σ H R I h => ?_⟩
  refine thn (hl.run pins s σ H _ I h) fun v s1 ⟨x, H1, I1, r1, q1⟩ => ?_
  obtain ⟨a, e, ⟨xs, hq, q⟩ | ⟨xs, hq, q⟩⟩ := q1
  · subst e
    cases r1
    obtain ⟨its, rv, p, hz⟩ := I1.list hq
    refine wpAny_pyIter_list p.isList ?_
    refine ⟨s1.heap.objs.size, [s1.heap.objs.size], _, _, H1, rfl, I1.kept (t' := s1.toks) fun b o e => Heap.get?_push_of_some _ e, turn_list a _, ⟨_, Heap.get?_push_size _ rfl, rfl, rfl⟩, fun b hb => ?_, q⟩
    have e : b = s1.heap.objs.size := by simpa using hb
    subst e
    exact I1.fpOk (Nat.le_refl _) (I1.hok.fresh (Nat.le_refl _))
  · subst e
    cases r1
    obtain ⟨its, rv, p, hz⟩ := I1.tuple hq
    refine wpAny_pyIter_tuple (show s1.heap.IsTuple a its.toArray from p) ?_
    refine ⟨s1.heap.objs.size, [s1.heap.objs.size], _, _, H1, rfl, I1.kept (t' := s1.toks) fun b o e => Heap.get?_push_of_some _ e, turn_tuple a _, ⟨_, Heap.get?_push_size _ rfl, rfl, rfl⟩, fun b hb => ?_, q⟩
    have e : b = s1.heap.objs.size := by simpa using hb
    subst e
    exact I1.fpOk (Nat.le_refl _) (I1.hok.fresh (Nat.le_refl _))
theorem RpL.out {t : Addr} {H : Hp} {vs : List V} {ds : List D} (h : RpL t H vs ds) {i : Nat} {v : V} (e : vs[i]? = some v) : ∃ d, ds[i]? = some d ∧ Rp t H v d := by
  induction vs generalizing ds i with
  | nil => simp at e
  | cons w vs ih =>
    cases h with
    | cons a b =>
      cases i with
      | zero =>
        simp at e
        subst e
        exact ⟨_, rfl, a⟩
      | succ i => exact ih b (by simpa using e)
theorem itl_ok {K : PySem.W.Frag} {B : Hp} {a : Addr} {vs : List V} {ds : List D} (h : B a = some (.lst vs)) (r : RpL t B vs ds) : ItOk t l I B (Itl K a) ds := fun i O H hs T _ => by
  have ha : SqL K H a vs := SqL.of (hd_le _ _ (hs _ _ h))
  have hl := r.length
  refine ⟨fun hi => ⟨vs, vs[i], ha, by rw [List.getElem?_eq_getElem (by omega)]⟩, fun hi => ⟨vs, ha, by omega⟩, fun x H' _ y => ?_⟩
  obtain ⟨rfl, y⟩ := y
  obtain ⟨d, e, rr⟩ := r.out (y vs ha)
  exact ⟨d, e, .refl T, rr.mono hs⟩
theorem itt_ok {K : PySem.W.Frag} {B : Hp} {a : Addr} {vs : List V} {ds : List D} (h : B a = some (.tup vs)) (r : RpL t B vs ds) : ItOk t l I B (Itt K a) ds := fun i O H hs T _ => by
  have ha : SqT K H a vs := SqT.of (hd_le _ _ (hs _ _ h))
  have hl := r.length
  refine ⟨fun hi => ⟨vs, vs[i], ha, by rw [List.getElem?_eq_getElem (by omega)]⟩, fun hi => ⟨vs, ha, by omega⟩, fun x H' _ y => ?_⟩
  obtain ⟨rfl, y⟩ := y
  obtain ⟨d, e, rr⟩ := r.out (y vs ha)
  exact ⟨d, e, .refl T, rr.mono hs⟩
def seqD (d : D) (P : List D → Prop) : Prop := match d with
  | .lst ds => P ds
  | .tup ds => P ds
  | _ => False
theorem seqD_of {d : D} {P : List D → Prop} (h : seqD d P) : (∃ ds, d = .lst ds ∧ P ds) ∨ ∃ ds, d = .tup ds ∧ P ds := by
  unfold seqD at h
  split at h
  · exact .inl ⟨_, rfl, h⟩
  · exact .inr ⟨_, rfl, h⟩
  · exact h.elim
def siS (se : SE) : SL := fun ρ P PX => se ρ (fun d => seqD d P) PX
theorem i_seq {tg e : Expr} {se : SE} (h : PE X e (rdE t l I W se)) : PI X tg e (rdI t l I W (siS se)) := PI_imp (pi_seq h) fun σ H R ⟨H0, O0, O, ρ, P, PX, E, hs, q, qx⟩ =>
  ⟨H0, O0, O, ρ, _, PX, E, hs, fun d v H1 p1 k1 r1 => by
    rcases seqD_of p1 with ⟨ds, rfl, p1⟩ | ⟨ds, rfl, p1⟩
    · cases r1 with
      | lst h r => exact ⟨_, rfl, .inl ⟨_, SqL.of (hd_some h).2, q _ _ H1 p1 k1 (itl_ok h r)⟩⟩
    · cases r1 with
      | tup h r => exact ⟨_, rfl, .inr ⟨_, SqT.of (hd_some h).2, q _ _ H1 p1 k1 (itt_ok h r)⟩⟩, qx⟩
def rangeL (lo : Int) (n : Nat) : List D := (List.range n).map fun k => D.int (lo + (k : Nat))
theorem itr_ok {B : Hp} {lo : Int} {n : Nat} : ItOk t l I B (Itr lo n) (rangeL lo n) := fun i O H hs T _ => by
  have hl : (rangeL lo n).length = n := by simp [rangeL]
  refine ⟨fun hi => by rw [hl] at hi; exact hi, fun hi => by rw [hl] at hi; exact hi, fun x H' hi y => ?_⟩
  obtain ⟨rfl, rfl⟩ := y
  rw [hl] at hi
  exact ⟨.int (lo + i), by simp [rangeL, hi], .refl T, .int _⟩
def rng1D : List D → (List D → Prop) → Prop
  | [.int j], P => -(2 ^ 62) ≤ j ∧ j < 2 ^ 62 ∧ P (rangeL 0 j.toNat)
  | _, _ => False
def rng2D : List D → (List D → Prop) → Prop
  | [.int i, .int j], P => (-(2 ^ 62) ≤ i ∧ i < 2 ^ 62 ∧ -(2 ^ 62) ≤ j ∧ j < 2 ^ 62) ∧ P (rangeL i (j - i).toNat)
  | _, _ => False
def siR1 (sa : SL) : SL := fun ρ P PX => sa ρ (fun ds => rng1D ds P) PX
def siR2 (sa : SL) : SL := fun ρ P PX => sa ρ (fun ds => rng2D ds P) PX
theorem i_rng1 {tg a : Expr} {sa : SL} {p : Pos} (hg : Gl X "range") (hm : X.mg "range" = none) (ha : PA X [a] (rdA t l I W sa)) (hs : starEach [a] X.env = [(false, eval a X.env)] := by rfl) : PI X tg (.Call (.Name "range" p) [a] [] pos) (rdI t l I W (siR1 sa)) :=
  PI_imp (pi_range1 hg hm ha hs) fun σ H R ⟨H0, O0, O, ρ, P, PX, E, hs, q, qx⟩ => ⟨H0, O0, O, ρ, _, PX, E, hs, fun ds vs H1 p1 k1 r1 => by
    unfold rng1D at p1
    split at p1
    · cases r1 with
      | cons a b =>
        cases a
        cases b
        exact ⟨_, rfl, p1.1, p1.2.1, q _ _ H1 p1.2.2 k1 itr_ok⟩
    · exact p1.elim, qx⟩
theorem i_rng2 {tg a b : Expr} {sa : SL} {p : Pos} (hg : Gl X "range") (hm : X.mg "range" = none) (ha : PA X [a, b] (rdA t l I W sa)) (hs : starEach [a, b] X.env = [(false, eval a X.env), (false, eval b X.env)] := by rfl) (hs2 : starEach [b] X.env = [(false, eval b X.env)] := by rfl) :
    PI X tg (.Call (.Name "range" p) [a, b] [] pos) (rdI t l I W (siR2 sa)) :=
  PI_imp (pi_range2 hg hm ha hs hs2) fun σ H R ⟨H0, O0, O, ρ, P, PX, E, hs, q, qx⟩ => ⟨H0, O0, O, ρ, _, PX, E, hs, fun ds vs H1 p1 k1 r1 => by
    unfold rng2D at p1
    split at p1
    · cases r1 with
      | cons a b =>
        cases a
        cases b with
        | cons c d =>
          cases c
          cases d
          exact ⟨_, _, rfl, p1.1, q _ _ H1 p1.2 k1 itr_ok⟩
    · exact p1.elim, qx⟩
end DS

namespace DS
open PySem PySem.Spec PyProof.Rows L2
variable {t l : Addr} {I : TI'} {W : WX} {X : Cx} {pos : Pos}
abbrev W0 : WX := fun _ _ _ _ => False
/-! ### comprehensions -/
theorem PTs_imp {ifs : List Expr} {u u' : TT} (h : PTs X ifs u) (k : ∀ σ H Q, u' σ H Q → u σ H Q) : PTs X ifs u' := ⟨fun pins s σ H Q I q => h.run pins s σ H Q I (k σ H Q q)⟩
def sYes : SB := fun _ P _ => P true
theorem ts_nil : PTs X [] (rdT t l I W sYes) := PTs_imp pts_nil fun σ H Q ⟨H0, O0, O, ρ, P, PX, E, hs, q, qx⟩ => q true H hs (.refl E.tp)
theorem ts_one {c : Expr} {s : SB} (h : PT X c (rdT t l I W s)) : PTs X [c] (rdT t l I W s) := pts_one h
def lcL (gs : SG) (st : SB) (se : SE) (vs : List Nat) (ρ : List Slot) : List D → (List D → Prop) → Prop
  | [], Kc => Kc []
  | d :: ds, Kc => gs d (wipeS ρ vs) (fun ρ2 => st ρ2 (fun b => match b with
    | true => se ρ2 (fun y => lcL gs st se vs ρ ds (fun ys => Kc (y :: ys))) (fun _ => False)
    | false => lcL gs st se vs ρ ds Kc) (fun _ => False))
def sLc (gs : SG) (si : SL) (st : SB) (se : SE) (vs : List Nat) : SE := fun ρ P PX => si ρ (fun ds => ds.length ≤ maxLen ∧ lcL gs st se vs ρ ds (fun ys => P (.lst ys))) PX
theorem w0X {σ : L2.St} {H : Hp} {O : List Addr} : OKX t l I W0 O σ H (fun _ => False) := fun _ _ _ _ p _ _ => p
theorem tp_hidden {H : Hp} {D : Addr} {o : HO} (T : Tp t l I H) (h1 : D ≠ t) (h2 : D ≠ l) : Tp t l I (upd H D o) := by
  obtain ⟨ns, i, j, k, m, a, b, c⟩ := T
  exact ⟨ns, i, j, k, m, by rw [upd_ne h1.symm]; exact a, by rw [upd_ne h2.symm]; exact b, c⟩
theorem Tp.l_some {H : Hp} (h : Tp t l I H) : H l ≠ none := by
  obtain ⟨ns, i, j, k, m, h1, h2, _⟩ := h
  rw [h2]
  exact fun z => nomatch z
theorem hd_upd_in {O : List Addr} {H : Hp} {p : Addr} {o : HO} (hp : p ∈ O) : Same (hd O H) (hd O (upd H p o)) := fun a u e => by
  obtain ⟨x, y⟩ := hd_some e
  rw [hd_out x, upd_ne (by
    intro z
    subst z
    exact x hp)]
  exact y
theorem drop_cons {α : Type} {ds : List α} {i : Nat} {d : α} (e : ds[i]? = some d) : ds.drop i = d :: ds.drop (i + 1) := by
  obtain ⟨h, e⟩ := List.getElem?_eq_some_iff.mp e
  rw [List.drop_eq_getElem_cons h, e]
theorem lc_rd {gs : SG} {is : List Nat} {si : SL} {st : SB} {se : SE} {vs : List Nat} (hv : ∀ i ∈ is, i ∈ vs) {σ : L2.St} {H : Hp} {Q : VK} (h : rdF t l I W (sLc gs si st se vs) σ H Q) :
    tLc (rdI t l I W si) (rdG t l I gs is) (rdT t l I W0 st) (rdE t l I W0 se) vs σ H Q := by
  obtain ⟨H0, O0, O, ρ, P, PX, E, hs, q, qx⟩ := h
  refine ⟨H0, O0, O, ρ, _, PX, E, hs, fun ds J H1 p1 k1 ok => ?_, qx⟩
  obtain ⟨hlen, p1⟩ := p1
  intro D nD
  have E1 := E.keep k1
  have Dt : D ≠ t := fun e => by
    rw [e] at nD
    exact k1.2.t_some nD
  have Dl : D ≠ l := fun e => by
    rw [e] at nD
    exact k1.2.l_some nD
  refine ⟨fun i m H => m = ds.length - i ∧ i ≤ ds.length ∧ Tp t l I H ∧ (∀ a o, a ≠ t → H1 a = some o → H a = some o) ∧ ∃ acc accV Kc, H D = some (.lst accV) ∧ RpL t (hd (D :: O) H) accV acc ∧ acc.length ≤ i ∧ lcL gs st se vs ρ (ds.drop i) Kc ∧ ∀ ys, Kc ys → P (.lst (acc ++ ys)),
    ⟨ds.length, rfl, Nat.zero_le _, tp_hidden k1.2 Dt Dl, fun a o _ e => by rw [upd_ne (ne_of_none e nD)]; exact e, [], [], _, upd_same, .nil, Nat.le_refl _, p1, fun ys h => h⟩, ?_⟩
  rintro i m H2 ⟨rfl, hi, T2, k2, acc, accV, Kc, hD, hr, ha, hl, hk⟩
  have E2 := E1.reown nD T2 k2 (by rw [hD]; exact fun z => nomatch z)
  have hB : Same (hd O H1) (hd (D :: O) H2) := fun a o e => by
    obtain ⟨x, y⟩ := hd_some e
    have ne := ne_of_none y nD
    rw [hd_out (by
      intro z
      rcases List.mem_cons.mp z with z | z
      · exact ne z
      · exact x z)]
    exact k2 a o (fun z => x (z ▸ E1.t1)) y
  obtain ⟨o1, o2, o3⟩ := ok i (D :: O) H2 hB T2 E2.all
  by_cases hlt : i < ds.length
  · refine .inr ⟨o1 hlt, fun H' => ∃ m', m' < ds.length - i ∧ (m' = ds.length - (i + 1) ∧ i + 1 ≤ ds.length ∧ Tp t l I H' ∧ (∀ a o, a ≠ t → H1 a = some o → H' a = some o) ∧ ∃ acc accV Kc, H' D = some (.lst accV) ∧ RpL t (hd (D :: O) H') accV acc ∧ acc.length ≤ i + 1 ∧ lcL gs st se vs ρ (ds.drop (i + 1)) Kc ∧ ∀ ys, Kc ys → P (.lst (acc ++ ys))), fun H' z => z, fun x H3 y => ?_⟩
    obtain ⟨d, ed, k3, rx⟩ := o3 x H3 hlt y
    rw [drop_cons ed] at hl
    have E3 := E2.keep k3
    refine ⟨H0, O0, D :: O, wipeS ρ vs, d, _, E3.wipe vs, rx, hl, fun σ4 ρ4 E4 p4 hw ho => ⟨by rw [hw vs hv, wipe_wipe], ?_⟩⟩
    refine ⟨H0, O0, D :: O, ρ4, _, _, E4, p4, fun b H5 p5 k5 => ?_, w0X⟩
    have k15 : ∀ a o, a ≠ t → H1 a = some o → H5 a = some o := fun a o n e => k5.1 a o n (k3.1 a o n (k2 a o n e))
    have D5 : H5 D = some (.lst accV) := k5.1 D _ Dt (k3.1 D _ Dt hD)
    have r5 : RpL t (hd (D :: O) H5) accV acc := hr.mono fun a o e => (k5.same E3.t1) a o ((k3.same E2.t1) a o e)
    cases b with
    | false =>
      refine iteF ?_
      exact ⟨_, by omega, rfl, hlt, k5.2, k15, acc, accV, Kc, D5, r5, by omega, p5, hk⟩
    | true =>
      refine iteT ?_
      refine ⟨H0, O0, D :: O, ρ4, _, _, E4.keep k5, p5, fun yv v H6 p6 k6 r6 => ?_, w0X⟩
      have D6 : H6 D = some (.lst accV) := k6.1 D _ Dt D5
      have rr : RpL t (hd (D :: O) H6) accV acc := r5.mono (k6.same (E4.keep k5).t1)
      refine ⟨accV, D6, ?_, ?_⟩
      · rw [rr.length]
        exact maxLen_lt (by omega)
      · have hh : Same (hd (D :: O) H6) (hd (D :: O) (upd H6 D (.lst (accV ++ [v])))) := hd_upd_in List.mem_cons_self
        exact ⟨_, by omega, rfl, hlt, tp_hidden k6.2 Dt Dl, fun a o n e => by rw [upd_ne (ne_of_none e nD)]; exact k6.1 a o n (k15 a o n e), acc ++ [yv], accV ++ [v], _, upd_same,
          (rr.append (.cons r6 .nil)).mono hh, by rw [List.length_append]; show acc.length + 1 ≤ i + 1; omega, p6, fun ys h => by
            have := hk _ h
            rw [List.append_assoc]
            exact this⟩
  · have e : i = ds.length := by omega
    subst e
    rw [List.drop_length] at hl
    refine .inl ⟨o2 (Nat.le_refl _), ?_⟩
    have hp := hk _ hl
    rw [List.append_nil] at hp
    exact q _ D _ H2 hp ⟨fun a o n e => k2 a o n (k1.1 a o n e), T2⟩ (by
      cases z : H D with
      | none => rfl
      | some o =>
        rw [k1.1 D o Dt z] at nD
        cases nD) hD (.lst hr)
section
variable {elt tg iter : Expr} {ifs : List Expr} {scope : Scope} {own : List (Str × Nat)} {gs : SG} {is : List Nat} {si : SL} {st : SB} {se : SE}
theorem f_lc {vs : List Nat} (hc : X.calm = true) (hN : X.N.Nodup) (hi : PI X tg iter (rdI t l I W si)) (ok : BlkOk X.N X.env.scope scope own) (hv : ∀ i ∈ is, i ∈ vs)
    (hg : ∀ (s : Shared) (H : Hp) (C : Addr) (cl : List (Str × Addr)) (fp : List Addr), PG (X.blk s H scope (compEnvC scope cl C X.env) fp) tg (rdG t l I gs is)) (ht : ∀ (s : Shared) (H : Hp) (C : Addr) (cl : List (Str × Addr)) (fp : List Addr), PTs (X.blk s H scope (compEnvC scope cl C X.env) fp) ifs (rdT t l I W0 st))
    (he : ∀ (s : Shared) (H : Hp) (C : Addr) (cl : List (Str × Addr)) (fp : List Addr), PE (X.blk s H scope (compEnvC scope cl C X.env) fp) elt (rdE t l I W0 se)) (hvs : own.map (·.2) = vs := by rfl) (hs : ∀ x, foldedSetIterable iter X.env x = pure x := by intro _; rfl) :
    PE X (.ListComp elt [⟨tg, iter, ifs, 0⟩] scope pos) (rdF t l I W (sLc gs si st se vs)) := by
  subst hvs
  exact PE_imp (pe_lc hc hN hi ok hg ht he hs) fun σ H Q h => lc_rd hv h
end
/-! two clauses -/
def lcL2 (gs : SG) (st : SB) (si1 : SL) (gs1 : SG) (st1 : SB) (se : SE) (vs vs1 : List Nat) (ρ : List Slot) : List D → (List D → Prop) → Prop
  | [], Kc => Kc []
  | d :: ds, Kc => gs d (wipeS ρ vs) (fun ρ2 => st ρ2 (fun b => match b with
    | true => si1 ρ2 (fun es => es.length ≤ 1000 ∧ lcL gs1 st1 se vs1 ρ2 es (fun ys => lcL2 gs st si1 gs1 st1 se vs vs1 ρ ds (fun zs => Kc (ys ++ zs)))) (fun _ => False)
    | false => lcL2 gs st si1 gs1 st1 se vs vs1 ρ ds Kc) (fun _ => False))
def sLc2 (gs : SG) (si : SL) (st : SB) (si1 : SL) (gs1 : SG) (st1 : SB) (se : SE) (vs vs1 : List Nat) : SE := fun ρ P PX => si ρ (fun ds => ds.length ≤ 10000 ∧ lcL2 gs st si1 gs1 st1 se vs vs1 ρ ds (fun ys => P (.lst ys))) PX
theorem lc2_rd {gs gs1 : SG} {is is1 : List Nat} {si si1 : SL} {st st1 : SB} {se : SE} {vs vs1 : List Nat} (hv : ∀ i ∈ is, i ∈ vs) (hv1 : ∀ i ∈ is1, i ∈ vs1) {σ : L2.St} {H : Hp} {Q : VK} (h : rdF t l I W (sLc2 gs si st si1 gs1 st1 se vs vs1) σ H Q) :
    tLc2 (rdI t l I W si) (rdG t l I gs is) (rdT t l I W0 st) (rdI t l I W0 si1) (rdG t l I gs1 is1) (rdT t l I W0 st1) (rdE t l I W0 se) vs vs1 σ H Q := by
  obtain ⟨H0, O0, O, ρ, P, PX, E, hs, q, qx⟩ := h
  refine ⟨H0, O0, O, ρ, _, PX, E, hs, fun ds J H1 p1 k1 ok => ?_, qx⟩
  obtain ⟨hlen, p1⟩ := p1
  intro D nD
  have E1 := E.keep k1
  have Dt : D ≠ t := fun e => by
    rw [e] at nD
    exact k1.2.t_some nD
  have Dl : D ≠ l := fun e => by
    rw [e] at nD
    exact k1.2.l_some nD
  refine ⟨fun i m H => m = ds.length - i ∧ i ≤ ds.length ∧ Tp t l I H ∧ (∀ a o, a ≠ t → H1 a = some o → H a = some o) ∧ ∃ acc accV Kc, H D = some (.lst accV) ∧ RpL t (hd (D :: O) H) accV acc ∧ acc.length ≤ i * 1000 ∧ lcL2 gs st si1 gs1 st1 se vs vs1 ρ (ds.drop i) Kc ∧ ∀ ys, Kc ys → P (.lst (acc ++ ys)),
    ⟨ds.length, rfl, Nat.zero_le _, tp_hidden k1.2 Dt Dl, fun a o _ e => by rw [upd_ne (ne_of_none e nD)]; exact e, [], [], _, upd_same, .nil, Nat.zero_le _, p1, fun ys h => h⟩, ?_⟩
  rintro i m H2 ⟨rfl, hi, T2, k2, acc, accV, Kc, hD, hr, ha, hl, hk⟩
  have E2 := E1.reown nD T2 k2 (by rw [hD]; exact fun z => nomatch z)
  have hB : ∀ H2 : Hp, (∀ a o, a ≠ t → H1 a = some o → H2 a = some o) → Same (hd O H1) (hd (D :: O) H2) := fun H2 k2 a o e => by
    obtain ⟨x, y⟩ := hd_some e
    have ne := ne_of_none y nD
    rw [hd_out (by
      intro z
      rcases List.mem_cons.mp z with z | z
      · exact ne z
      · exact x z)]
    exact k2 a o (fun z => x (z ▸ E1.t1)) y
  obtain ⟨o1, o2, o3⟩ := ok i (D :: O) H2 (hB H2 k2) T2 E2.all
  by_cases hlt : i < ds.length
  · refine .inr ⟨o1 hlt, fun H' => ∃ m', m' < ds.length - i ∧ (m' = ds.length - (i + 1) ∧ i + 1 ≤ ds.length ∧ Tp t l I H' ∧ (∀ a o, a ≠ t → H1 a = some o → H' a = some o) ∧ ∃ acc accV Kc, H' D = some (.lst accV) ∧ RpL t (hd (D :: O) H') accV acc ∧ acc.length ≤ (i + 1) * 1000 ∧ lcL2 gs st si1 gs1 st1 se vs vs1 ρ (ds.drop (i + 1)) Kc ∧ ∀ ys, Kc ys → P (.lst (acc ++ ys))), fun H' z => z, fun x H3 y => ?_⟩
    obtain ⟨d, ed, k3, rx⟩ := o3 x H3 hlt y
    rw [drop_cons ed] at hl
    have E3 := E2.keep k3
    refine ⟨H0, O0, D :: O, wipeS ρ vs, d, _, E3.wipe vs, rx, hl, fun σ4 ρ4 E4 p4 hw ho => ⟨by rw [hw vs hv, wipe_wipe], ?_⟩⟩
    refine ⟨H0, O0, D :: O, ρ4, _, _, E4, p4, fun b H5 p5 k5 => ?_, w0X⟩
    have k15 : ∀ a o, a ≠ t → H1 a = some o → H5 a = some o := fun a o n e => k5.1 a o n (k3.1 a o n (k2 a o n e))
    have D5 : H5 D = some (.lst accV) := k5.1 D _ Dt (k3.1 D _ Dt hD)
    have r5 : RpL t (hd (D :: O) H5) accV acc := hr.mono fun a o e => (k5.same E3.t1) a o ((k3.same E2.t1) a o e)
    cases b with
    | false =>
      refine iteF ?_
      exact ⟨_, by omega, rfl, hlt, k5.2, k15, acc, accV, Kc, D5, r5, by omega, p5, hk⟩
    | true =>
      refine iteT ?_
      refine ⟨H0, O0, D :: O, ρ4, _, _, E4.keep k5, p5, fun es J1 H6 p6 k6 ok6 => ?_, w0X⟩
      obtain ⟨hle, p6⟩ := p6
      have E6 := (E4.keep k5).keep k6
      have k16 : ∀ a o, a ≠ t → H1 a = some o → H6 a = some o := fun a o n e => k6.1 a o n (k15 a o n e)
      have D6 : H6 D = some (.lst accV) := k6.1 D _ Dt D5
      have r6 : RpL t (hd (D :: O) H6) accV acc := r5.mono (k6.same (E4.keep k5).t1)
      refine ⟨fun j k H => k = es.length - j ∧ j ≤ es.length ∧ Tp t l I H ∧ (∀ a o, a ≠ t → a ≠ D → H6 a = some o → H a = some o) ∧ ∃ ac2 ac2V K2, H D = some (.lst ac2V) ∧ RpL t (hd (D :: O) H) ac2V ac2 ∧ ac2.length ≤ i * 1000 + j ∧ lcL gs1 st1 se vs1 ρ4 (es.drop j) K2 ∧
          ∀ ys, K2 ys → ∃ K3, lcL2 gs st si1 gs1 st1 se vs vs1 ρ (ds.drop (i + 1)) K3 ∧ ∀ zs, K3 zs → P (.lst ((ac2 ++ ys) ++ zs)),
        ⟨es.length, rfl, Nat.zero_le _, k6.2, fun a o _ _ e => e, acc, accV, _, D6, r6, by omega, p6, fun ys hy => ⟨_, hy, fun zs hz => by
          have := hk _ hz
          rw [List.append_assoc]
          exact this⟩⟩, ?_⟩
      rintro j k H7 ⟨rfl, hj, T7, k7, ac2, ac2V, K2, hD7, hr7, ha7, hl7, hk7⟩
      have k17 : ∀ a o, a ≠ t → H1 a = some o → H7 a = some o := fun a o n e => k7 a o n (ne_of_none e nD) (k16 a o n e)
      have B7 : Same (hd (D :: O) H6) (hd (D :: O) H7) := fun a o e => by
        obtain ⟨x, y⟩ := hd_some e
        rw [hd_out x]
        exact k7 a o (fun z => x (z ▸ E6.t1)) (fun z => x (z ▸ List.mem_cons_self)) y
      have all7 : ∀ a ∈ D :: O, H7 a ≠ none := (E1.reown nD T7 k17 (by rw [hD7]; exact fun z => nomatch z)).all
      obtain ⟨u1, u2, u3⟩ := ok6 j (D :: O) H7 B7 T7 all7
      -- the slots of the outer turn at H7
      have E7 : Env t l I H0 O0 (D :: O) H7 σ4 ρ4 := by
        refine ⟨⟨T7, E6.t0, E6.l0, E6.sub, E6.all0, all7, fun a o n e => ?_, E6.ownO⟩, E6.len, fun i' s' h' => ?_, E6.dist⟩
        · exact k7 a o n (fun z => by
            rw [z] at e
            have z2 := E.kept D o Dt e
            rw [k1.1 D o Dt z2] at nD
            cases nD) (E6.kept a o n e)
        · have q' := E6.slot i' s' h'
          cases s' with
          | no => exact True.intro
          | d x' =>
            obtain ⟨u', e', r'⟩ := q'
            exact ⟨u', e', r'.mono B7⟩
          | own x' =>
            obtain ⟨p', o', e', hm, h0, hh, c⟩ := q'
            refine ⟨p', o', e', hm, h0, k7 p' o' (fun z => own_ne E6.toEnvB h0 (z ▸ E6.t0)) (fun z => ?_) hh, c.mono B7⟩
            rw [z] at e'
            obtain ⟨w1, w2⟩ := (ownSub_wipe vs).trans ho i' x' h'
            rw [w2] at e'
            obtain ⟨p2, o2', e2, hm2, _⟩ := E1.slot i' _ w1
            rw [e'] at e2
            cases e2
            exact E1.all _ hm2 nD
          | lk p0 => exact q'
          | me p' C' fs' =>
            obtain ⟨e', hm, h0, dx', us', hh, r'⟩ := q'
            refine ⟨e', hm, h0, dx', us', k7 p' _ (fun z => own_ne E6.toEnvB h0 (z ▸ E6.t0)) (fun z => ?_) hh, r'.mono B7⟩
            rw [z, D6] at hh
            cases hh
      by_cases hlj : j < es.length
      · refine .inr ⟨u1 hlj, fun H' => ∃ k', k' < es.length - j ∧ (k' = es.length - (j + 1) ∧ j + 1 ≤ es.length ∧ Tp t l I H' ∧ (∀ a o, a ≠ t → a ≠ D → H6 a = some o → H' a = some o) ∧ ∃ ac2 ac2V K2, H' D = some (.lst ac2V) ∧ RpL t (hd (D :: O) H') ac2V ac2 ∧ ac2.length ≤ i * 1000 + (j + 1) ∧ lcL gs1 st1 se vs1 ρ4 (es.drop (j + 1)) K2 ∧
          ∀ ys, K2 ys → ∃ K3, lcL2 gs st si1 gs1 st1 se vs vs1 ρ (ds.drop (i + 1)) K3 ∧ ∀ zs, K3 zs → P (.lst ((ac2 ++ ys) ++ zs))), fun H' z => z, fun x8 H8 y8 => ?_⟩
        obtain ⟨d8, ed8, k8, rx8⟩ := u3 x8 H8 hlj y8
        rw [drop_cons ed8] at hl7
        have E8 := E7.keep k8
        refine ⟨H0, O0, D :: O, wipeS ρ4 vs1, d8, _, E8.wipe vs1, rx8, hl7, fun σ9 ρ9 E9 p9 hw9 ho9 => ⟨by rw [hw9 vs1 hv1, wipe_wipe], ?_⟩⟩
        refine ⟨H0, O0, D :: O, ρ9, _, _, E9, p9, fun b H10 p10 k10 => ?_, w0X⟩
        have k110 : ∀ a o, a ≠ t → a ≠ D → H6 a = some o → H10 a = some o := fun a o n n2 e => k10.1 a o n (k8.1 a o n (k7 a o n n2 e))
        have D10 : H10 D = some (.lst ac2V) := k10.1 D _ Dt (k8.1 D _ Dt hD7)
        have r10 : RpL t (hd (D :: O) H10) ac2V ac2 := hr7.mono fun a o e => (k10.same E8.t1) a o ((k8.same E7.t1) a o e)
        cases b with
        | false =>
          refine iteF ?_
          exact ⟨_, by omega, rfl, hlj, k10.2, k110, ac2, ac2V, K2, D10, r10, by omega, p10, hk7⟩
        | true =>
          refine iteT ?_
          refine ⟨H0, O0, D :: O, ρ9, _, _, E9.keep k10, p10, fun yv v H11 p11 k11 r11 => ?_, w0X⟩
          have D11 : H11 D = some (.lst ac2V) := k11.1 D _ Dt D10
          have rr : RpL t (hd (D :: O) H11) ac2V ac2 := r10.mono (k11.same (E9.keep k10).t1)
          refine ⟨ac2V, D11, ?_, ?_⟩
          · rw [rr.length]
            refine maxLen_lt ?_
            unfold maxLen
            omega
          · have hh : Same (hd (D :: O) H11) (hd (D :: O) (upd H11 D (.lst (ac2V ++ [v])))) := hd_upd_in List.mem_cons_self
            exact ⟨_, by omega, rfl, hlj, tp_hidden k11.2 Dt Dl, fun a o n n2 e => by rw [upd_ne n2]; exact k11.1 a o n (k110 a o n n2 e), ac2 ++ [yv], ac2V ++ [v], _, upd_same,
              (rr.append (.cons r11 .nil)).mono hh, by rw [List.length_append]; show ac2.length + 1 ≤ i * 1000 + (j + 1); omega, p11, fun ys h => by
                obtain ⟨K3, w1, w2⟩ := hk7 _ h
                refine ⟨K3, w1, fun zs hz => ?_⟩
                have := w2 zs hz
                rw [List.append_assoc ac2 [yv] ys]
                exact this⟩
      · have ej : j = es.length := by omega
        subst ej
        rw [List.drop_length] at hl7
        refine .inl ⟨u2 (Nat.le_refl _), ?_⟩
        obtain ⟨K3, w1, w2⟩ := hk7 [] hl7
        exact ⟨_, by omega, rfl, hlt, T7, k17, ac2, ac2V, K3, hD7, hr7, by omega, w1, fun ys hy => by
          have := w2 ys hy
          rw [List.append_nil] at this
          exact this⟩
  · have e : i = ds.length := by omega
    subst e
    rw [List.drop_length] at hl
    refine .inl ⟨o2 (Nat.le_refl _), ?_⟩
    have hp := hk _ hl
    rw [List.append_nil] at hp
    exact q _ D _ H2 hp ⟨fun a o n e => k2 a o n (k1.1 a o n e), T2⟩ (by
      cases z : H D with
      | none => rfl
      | some o =>
        rw [k1.1 D o Dt z] at nD
        cases nD) hD (.lst hr)
section
variable {elt tg iter tg1 iter1 : Expr} {ifs ifs1 : List Expr} {scope : Scope} {own : List (Str × Nat)} {vs1 : List Nat} {gs gs1 : SG} {is is1 : List Nat} {si si1 : SL} {st st1 : SB} {se : SE}
theorem f_lc2 {vs : List Nat} (hc : X.calm = true) (hN : X.N.Nodup) (hi : PI X tg iter (rdI t l I W si)) (ok : BlkOk X.N X.env.scope scope own) (hv : ∀ i ∈ is, i ∈ vs) (hv1 : ∀ i ∈ is1, i ∈ vs1) (hvv : ∀ i ∈ vs1, i ∈ vs)
    (hg : ∀ (s : Shared) (H : Hp) (C : Addr) (cl : List (Str × Addr)) (fp : List Addr), PG (X.blk s H scope (compEnvC scope cl C X.env) fp) tg (rdG t l I gs is)) (ht : ∀ (s : Shared) (H : Hp) (C : Addr) (cl : List (Str × Addr)) (fp : List Addr), PTs (X.blk s H scope (compEnvC scope cl C X.env) fp) ifs (rdT t l I W0 st))
    (hi1 : ∀ (s : Shared) (H : Hp) (C : Addr) (cl : List (Str × Addr)) (fp : List Addr), PI (X.blk s H scope (compEnvC scope cl C X.env) fp) tg1 iter1 (rdI t l I W0 si1))
    (hg1 : ∀ (s : Shared) (H : Hp) (C : Addr) (cl : List (Str × Addr)) (fp : List Addr), PG (X.blk s H scope (compEnvC scope cl C X.env) fp) tg1 (rdG t l I gs1 is1)) (ht1 : ∀ (s : Shared) (H : Hp) (C : Addr) (cl : List (Str × Addr)) (fp : List Addr), PTs (X.blk s H scope (compEnvC scope cl C X.env) fp) ifs1 (rdT t l I W0 st1))
    (he : ∀ (s : Shared) (H : Hp) (C : Addr) (cl : List (Str × Addr)) (fp : List Addr), PE (X.blk s H scope (compEnvC scope cl C X.env) fp) elt (rdE t l I W0 se)) (hvs : own.map (·.2) = vs := by rfl) (hs : ∀ x, foldedSetIterable iter X.env x = pure x := by intro _; rfl) (hs1 : ∀ env x, foldedSetIterable iter1 env x = pure x := by intro _ _; rfl) :
    PE X (.ListComp elt [⟨tg, iter, ifs, 0⟩, ⟨tg1, iter1, ifs1, 0⟩] scope pos) (rdF t l I W (sLc2 gs si st si1 gs1 st1 se vs vs1)) := by
  subst hvs
  exact PE_imp (pe_lc2 hc hN hi ok hvv hg ht hi1 hg1 ht1 he hs hs1) fun σ H Q h => lc2_rd hv hv1 h
end
end DS

namespace DS
open PySem PySem.Spec PyProof.Rows L2
variable {t l : Addr} {I : TI'} {W : WX} {X : Cx} {pos : Pos}
/-! ### statements -/
def sSeq (s u : SS) : SS := fun ρ S => s ρ { S with nx := fun ρ' => u ρ' S }
def sNext : SS := fun ρ S => S.nx ρ
def sBreak : SS := fun ρ S => S.bk ρ
def sCont : SS := fun ρ S => S.ct ρ
def sSet (i : Nat) (se : SE) : SS := fun ρ S => se ρ (fun d => S.nx (ρ.set i (.d d))) (fun x => S.ex x ρ)
def sSetG (gs : SG) (se : SE) : SS := fun ρ S => se ρ (fun d => gs d ρ S.nx) (fun x => S.ex x ρ)
def sSetO (i : Nat) (se : SE) : SS := fun ρ S => se ρ (fun d => S.nx (ρ.set i (.own d))) (fun x => S.ex x ρ)
def sDrop (se : SE) : SS := fun ρ S => se ρ (fun _ => S.nx ρ) (fun x => S.ex x ρ)
def sRet (se : SE) : SS := fun ρ S => se ρ S.rt (fun x => S.ex x ρ)
def sRetN : SS := fun _ S => S.rt .non
def sIfS (c : SB) (s u : SS) : SS := fun ρ S => c ρ (fun b => match b with | true => s ρ S | false => u ρ S) (fun x => S.ex x ρ)
def frz (i : Nat) (ρ : List Slot) : List Slot := match ρ[i]? with
  | some (.own x) => ρ.set i (.d x)
  | _ => ρ
def sFrz (i : Nat) (ss : SS) : SS := fun ρ S => ss (frz i ρ) S
def sApp (i : Nat) (se : SE) : SS := fun ρ S => match ρ[i]? with
  | some (.own (.lst xs)) => xs.length < maxLen ∧ se ρ (fun d => S.nx (ρ.set i (.own (.lst (xs ++ [d]))))) (fun x => S.ex x ρ)
  | _ => False
def setIx (xs : List D) (d j : D) (P : List D → Prop) : Prop := match j with
  | .int k => (match ixN xs.length k with
    | some n => P (xs.set n d)
    | none => False)
  | _ => False
def sSetI (i : Nat) (sv si : SE) : SS := fun ρ S => match ρ[i]? with
  | some (.own (.lst xs)) => sv ρ (fun d => si ρ (fun j => setIx xs d j fun ys => S.nx (ρ.set i (.own (.lst ys)))) (fun x => S.ex x ρ)) (fun x => S.ex x ρ)
  | _ => False
def sAug (i : Nat) (g : Int → Int → Int) (se : SE) : SS := fun ρ S => match ρ[i]? with
  | some (.d (.int a)) => se ρ (fun d => match d with
    | .int b => S.nx (ρ.set i (.d (.int (g a b))))
    | _ => False) (fun x => S.ex x ρ)
  | _ => False
def forL (gs : SG) (sb : SS) (S : EndS) : List D → List Slot → Prop
  | [], ρ => S.nx ρ
  | d :: ds, ρ => gs d ρ (fun ρ1 => sb ρ1 { nx := forL gs sb S ds, rt := S.rt, bk := S.nx, ct := forL gs sb S ds, ex := S.ex, ro := S.ro })
def sFor (gs : SG) (si : SL) (sb : SS) : SS := fun ρ S => si ρ (fun ds => forL gs sb S ds ρ) (fun x => S.ex x ρ)
def whileN (c : SB) (sb : SS) (S : EndS) : Nat → List Slot → Prop
  | 0, _ => False
  | n + 1, ρ => c ρ (fun b => match b with
    | true => sb ρ { nx := whileN c sb S n, rt := S.rt, bk := S.nx, ct := whileN c sb S n, ex := S.ex, ro := S.ro }
    | false => S.nx ρ) (fun x => S.ex x ρ)
def sWhile (c : SB) (sb : SS) : SS := fun ρ S => ∃ n, whileN c sb S n ρ
def sRaise (C : Addr) (fs : List (Str × SE)) : SS := fun _ _ => False

section
variable {st : Stmt} {rest : List Stmt} {s u : SS} {e : Expr} {se : SE} {H0 H H' : Hp} {O0 O : List Addr} {σ : L2.St} {ρ : List Slot} {S : EndS} {E' : Ends}
theorem b_nil : PSs X [] (rdS t l I W sNext) := PSs_imp pss_nil fun D σ H ⟨H0, O0, O, ρ, S, E, hs, q⟩ => q.nx _ _ _ _ E hs
theorem b_cons (h1 : PS X st (rdS t l I W s)) (h2 : PSs X rest (rdS t l I W u)) : PSs X (st :: rest) (rdS t l I W (sSeq s u)) := PSs_imp (pss_cons h1 h2) fun D σ H ⟨H0, O0, O, ρ, S, E, hs, q⟩ =>
  ⟨H0, O0, O, ρ, _, E, hs, ⟨fun O' σ' ρ' H' E' hn => ⟨H0, O0, O', ρ', S, E', hn, q⟩, q.bk, q.ct, q.rt, q.ex, q.ro⟩⟩
theorem b_one (h1 : PS X st (rdS t l I W s)) : PSs X [st] (rdS t l I W s) := pss_one h1
theorem s_pass : PS X (.Pass pos) (rdS t l I W sNext) := PS_imp ps_pass fun D σ H ⟨H0, O0, O, ρ, S, E, hs, q⟩ => q.nx _ _ _ _ E hs
theorem s_break : PS X (.Break pos) (rdS t l I W sBreak) := PS_imp ps_break fun D σ H ⟨H0, O0, O, ρ, S, E, hs, q⟩ => q.bk _ _ _ _ E hs
theorem s_cont : PS X (.Continue pos) (rdS t l I W sCont) := PS_imp ps_continue fun D σ H ⟨H0, O0, O, ρ, S, E, hs, q⟩ => q.ct _ _ _ _ E hs
theorem ends_x (q : EndsOk t l I H0 O0 W S E') (E : Env t l I H0 O0 O H σ ρ) : OKX t l I W O σ H (fun x => S.ex x ρ) := fun x cls dd H' p k r => q.ex x ρ cls dd O σ H' (E.keep k) p r
theorem s_set {i : Nat} {x : Str} {p' : Pos} (hN : X.N.Nodup) (hi : X.N[i]? = some x) (hx : Loc X.env.scope x) (he : PE X e (rdE t l I W se)) (hs : swapsWith e (some (.Name x p')) pos.line X.env = pure false := by rfl)
    (hf : X.fn x = true ∨ X.env.scope.names.lookup x = some .local := by first | exact .inl rfl | exact .inr rfl | assumption) : PS X (.Assign [.Name x p'] e pos) (rdS t l I W (sSet i se)) :=
  PS_imp (ps_set hN hi hx he hs hf) fun D σ H ⟨H0, O0, O, ρ, S, E, hs, q⟩ => ⟨H0, O0, O, ρ, _, _, E, hs, fun d v H1 p1 k1 r1 => q.nx _ _ _ _ ((E.keep k1).set r1) p1, ends_x q E⟩
theorem fresh_out (E : Env t l I H0 O0 O H σ ρ) (k : Kept t l I H H') {p : Addr} {o : HO} {d : D} (n : H p = none) (hp : H' p = some o) (c : Ct t (hd (p :: O) H') o d) (i : Nat) :
    Env t l I H0 O0 (p :: O) H' (σ.set i (some (.ref p))) (ρ.set i (.own d)) := by
  have E2 := E.reown n k.2 k.1 (by rw [hp]; exact fun z => nomatch z)
  refine E2.setOwn List.mem_cons_self (free_back E.toEnvB n) hp c fun j x ne h e => ?_
  obtain ⟨p', o', e', hm, h0, hh, c⟩ := E.slot j _ h
  rw [e] at e'
  cases e'
  rw [n] at hh
  cases hh
theorem s_setO {i : Nat} {x : Str} {p' : Pos} (hN : X.N.Nodup) (hi : X.N[i]? = some x) (hx : Loc X.env.scope x) (he : PE X e (rdF t l I W se)) (hs : swapsWith e (some (.Name x p')) pos.line X.env = pure false := by rfl)
    (hf : X.fn x = true ∨ X.env.scope.names.lookup x = some .local := by first | exact .inl rfl | exact .inr rfl | assumption) : PS X (.Assign [.Name x p'] e pos) (rdS t l I W (sSetO i se)) :=
  PS_imp (ps_set hN hi hx he hs hf) fun D σ H ⟨H0, O0, O, ρ, S, E, hs, q⟩ => ⟨H0, O0, O, ρ, _, _, E, hs, fun d p o H1 p1 k1 n hp c => q.nx _ _ _ _ (fresh_out E k1 n hp c i) p1, ends_x q E⟩
/-- name = [..]: the list's own rule of a name -/
theorem s_setC {i : Nat} {x : Str} {p' : Pos} {te : TE} (h : PS X (.Assign [.Name x p'] e pos) (tAsg te (gName i))) (k : ∀ σ H Q, rdF t l I W se σ H Q → te σ H Q) : PS X (.Assign [.Name x p'] e pos) (rdS t l I W (sSet i se)) :=
  PS_imp h fun D σ H ⟨H0, O0, O, ρ, S, E, hs, q⟩ => k _ _ _ ⟨H0, O0, O, ρ, _, _, E, hs, fun d p o H1 p1 k1 n hp c => q.nx _ _ _ _ ((E.keep k1).set (((c.mono (hd_sub fun a z => List.mem_cons_of_mem _ z)).rp (by
    rw [hd_out fun z => E.all p z n]
    exact hp)))) p1, ends_x q E⟩
theorem s_setCO {i : Nat} {x : Str} {p' : Pos} {te : TE} (h : PS X (.Assign [.Name x p'] e pos) (tAsg te (gName i))) (k : ∀ σ H Q, rdF t l I W se σ H Q → te σ H Q) : PS X (.Assign [.Name x p'] e pos) (rdS t l I W (sSetO i se)) :=
  PS_imp h fun D σ H ⟨H0, O0, O, ρ, S, E, hs, q⟩ => k _ _ _ ⟨H0, O0, O, ρ, _, _, E, hs, fun d p o H1 p1 k1 n hp c => q.nx _ _ _ _ (fresh_out E k1 n hp c i) p1, ends_x q E⟩
theorem s_setG {tg : Expr} {gs : SG} {is : List Nat} (he : PE X e (rdE t l I W se)) (hg : PG X tg (rdG t l I gs is)) (hs : swapsWithSole [tg] e pos.line X.env = pure false := by rfl) (hw : swappedStores [tg] e X.env = pure none := by rfl)
    (h1 : (assignEach [tg] X.env).map (·.2) = [assign tg X.env] := by rfl) : PS X (.Assign [tg] e pos) (rdS t l I W (sSetG gs se)) :=
  PS_imp (ps_asg he hg hs hw h1) fun D σ H ⟨H0, O0, O, ρ, S, E, hs, q⟩ => ⟨H0, O0, O, ρ, _, _, E, hs, fun d v H1 p1 k1 r1 => ⟨H0, O0, O, ρ, d, S.nx, E.keep k1, r1, p1, fun σ' ρ' E' hn _ _ => q.nx _ _ _ _ E' hn⟩, ends_x q E⟩
theorem s_expr (he : PE X e (rdE t l I W se)) (hs : swapsWith e none pos.line X.env = pure false := by rfl) : PS X (.Expr e pos) (rdS t l I W (sDrop se)) :=
  PS_imp (ps_expr he hs) fun D σ H ⟨H0, O0, O, ρ, S, E, hs, q⟩ => ⟨H0, O0, O, ρ, _, _, E, hs, fun d v H1 p1 k1 r1 => q.nx _ _ _ _ (E.keep k1) p1, ends_x q E⟩
theorem s_ret (he : PE X e (rdE t l I W se)) : PS X (.Return (some e) pos) (rdS t l I W (sRet se)) :=
  PS_imp (ps_ret he) fun D σ H ⟨H0, O0, O, ρ, S, E, hs, q⟩ => ⟨H0, O0, O, ρ, _, _, E, hs, fun d v H1 p1 k1 r1 => q.rt _ _ _ _ (E.toEnvB.keep k1) p1 r1, ends_x q E⟩
theorem s_retN : PS X (.Return none pos) (rdS t l I W sRetN) := PS_imp ps_retN fun D σ H ⟨H0, O0, O, ρ, S, E, hs, q⟩ => q.rt _ _ _ _ E.toEnvB hs .non
theorem s_if {c : Expr} {a b : List Stmt} {sc : SB} (hc : PT X c (rdT t l I W sc)) (ha : PSs X a (rdS t l I W s)) (hb : PSs X b (rdS t l I W u)) : PS X (.If c a b pos) (rdS t l I W (sIfS sc s u)) :=
  PS_imp (ps_if hc ha hb) fun D σ H ⟨H0, O0, O, ρ, S, E, hs, q⟩ => ⟨H0, O0, O, ρ, _, _, E, hs, fun b H1 p1 k1 => by
    cases b with
    | true => exact iteT ⟨H0, O0, O, ρ, S, E.keep k1, p1, q⟩
    | false => exact iteF ⟨H0, O0, O, ρ, S, E.keep k1, p1, q⟩, ends_x q E⟩
/-- an own object becomes data -/
theorem frz_ok (E : Env t l I H0 O0 O H σ ρ) (i : Nat) : ∃ O', Env t l I H0 O0 O' H σ (frz i ρ) := by
  unfold frz
  split
  · rename_i x hx
    obtain ⟨p, o, e, hm, h0, hp, c⟩ := E.slot i _ hx
    have hl := (List.getElem?_eq_some_iff.mp hx).1
    have np : p ∉ O0 := own_ne E.toEnvB h0
    have sb : ∀ a ∈ O.filter (fun a => decide (a ≠ p)), a ∈ O := fun a h => (List.mem_filter.mp h).1
    refine ⟨O.filter (fun a => decide (a ≠ p)), ⟨E.tp, E.t0, E.l0, fun a h => List.mem_filter.mpr ⟨E.sub a h, decide_eq_true fun z => np (z ▸ h)⟩, E.all0, fun a h => E.all a (sb a h), E.kept, fun a h => E.ownO a (sb a h)⟩, by rw [List.length_set]; exact E.len, fun j s h => ?_, fun j k q xi xj h1 h2 h3 h4 => ?_⟩
    · by_cases e1 : i = j
      · subst e1
        rw [List.getElem?_set_self hl] at h
        cases h
        refine ⟨_, e, (c.mono (hd_sub sb)).rp ?_⟩
        rw [hd_out fun z => (of_decide_eq_true (List.mem_filter.mp z).2) rfl]
        exact hp
      · rw [List.getElem?_set_ne e1] at h
        have q := E.slot j s h
        cases s with
        | no => exact True.intro
        | d x =>
          obtain ⟨u, e, r⟩ := q
          exact ⟨u, e, r.mono (hd_sub sb)⟩
        | own y =>
          obtain ⟨p2, o2, e2, hm2, h02, hp2, c2⟩ := q
          refine ⟨p2, o2, e2, List.mem_filter.mpr ⟨hm2, decide_eq_true fun z => ?_⟩, h02, hp2, c2.mono (hd_sub sb)⟩
          subst z
          exact e1 (E.dist i j p2 x y hx h e e2)
        | lk p0 => exact q
        | me p2 C2 fs2 =>
          obtain ⟨e2, hm2, h02, dx2, us2, hp2, r2⟩ := q
          refine ⟨e2, List.mem_filter.mpr ⟨hm2, decide_eq_true fun z => ?_⟩, h02, dx2, us2, hp2, r2.mono (hd_sub sb)⟩
          rw [z, hp] at hp2
          cases hp2
          cases c
    · have n1 : i ≠ j := fun z => by
        subst z
        rw [List.getElem?_set_self hl] at h1
        cases h1
      have n2 : i ≠ k := fun z => by
        subst z
        rw [List.getElem?_set_self hl] at h2
        cases h2
      rw [List.getElem?_set_ne n1] at h1
      rw [List.getElem?_set_ne n2] at h2
      exact E.dist j k q xi xj h1 h2 h3 h4
  · exact ⟨O, E⟩
theorem s_frz (i : Nat) (h : PS X st (rdS t l I W s)) : PS X st (rdS t l I W (sFrz i s)) := PS_imp h fun D σ H ⟨H0, O0, O, ρ, S, E, hs, q⟩ => by
  obtain ⟨O', E'⟩ := frz_ok E i
  exact ⟨H0, O0, O', _, S, E', hs, q⟩
/-- an own list is changed -/
theorem Env.mut (E : Env t l I H0 O0 O H σ ρ) {i : Nat} {x d : D} {p : Addr} {o' : HO} (hx : ρ[i]? = some (.own x)) (e : σ[i]? = some (some (.ref p))) (c : Ct t (hd O H) o' d) : Env t l I H0 O0 O (upd H p o') σ (ρ.set i (.own d)) := by
  obtain ⟨p1, o1, e1, hm, h0, hp, c1⟩ := E.slot i _ hx
  rw [e] at e1
  cases e1
  have np : p ∉ O0 := own_ne E.toEnvB h0
  have hl := (List.getElem?_eq_some_iff.mp hx).1
  have hs : Same (hd O H) (hd O (upd H p o')) := hd_upd_in hm
  refine ⟨⟨tp_hidden E.tp (fun z => np (z ▸ E.t0)) (fun z => np (z ▸ E.l0)), E.t0, E.l0, E.sub, E.all0, fun a h => ?_, fun a u n z => ?_, E.ownO⟩, by rw [List.length_set]; exact E.len, fun j s h => ?_, fun j k q xi xj h1 h2 h3 h4 => ?_⟩
  · by_cases z : a = p
    · subst z
      rw [upd_same]
      exact fun z => nomatch z
    · rw [upd_ne z]
      exact E.all a h
  · rw [upd_ne (ne_of_none z h0)]
    exact E.kept a u n z
  · by_cases e1 : i = j
    · subst e1
      rw [List.getElem?_set_self hl] at h
      cases h
      exact ⟨p, o', e, hm, h0, upd_same, c.mono hs⟩
    · rw [List.getElem?_set_ne e1] at h
      have q := E.slot j s h
      cases s with
      | no => exact True.intro
      | d x =>
        obtain ⟨u, e, r⟩ := q
        exact ⟨u, e, r.mono hs⟩
      | own y =>
        obtain ⟨p2, o2, e2, hm2, h02, hp2, c2⟩ := q
        refine ⟨p2, o2, e2, hm2, h02, ?_, c2.mono hs⟩
        rw [upd_ne (by
          intro z
          rw [z] at e2
          exact e1 (E.dist i j p x y hx h e e2))]
        exact hp2
      | lk p0 => exact q
      | me p2 C2 fs2 =>
        obtain ⟨e2, hm2, h02, dx2, us2, hp2, r2⟩ := q
        refine ⟨e2, hm2, h02, dx2, us2, ?_, r2.mono hs⟩
        rw [upd_ne (by
          intro z
          rw [z, hp] at hp2
          cases hp2
          cases c1)]
        exact hp2
  · have g : ∀ {j : Nat} {xi : DS.D}, (ρ.set i (Slot.own d))[j]? = some (Slot.own xi) → ∃ xj, ρ[j]? = some (Slot.own xj) := fun {j xi} h => by
      by_cases z : i = j
      · subst z
        exact ⟨x, hx⟩
      · rw [List.getElem?_set_ne z] at h
        exact ⟨xi, h⟩
    obtain ⟨x1, h1⟩ := g h1
    obtain ⟨x2, h2⟩ := g h2
    exact E.dist j k q x1 x2 h1 h2 h3 h4
theorem s_app (i : Nat) {x : Str} {px apos cpos : Pos} (he : PE X e (rdE t l I W se)) (hN : X.N[i]? = some x := by rfl) (hv : Vis X.env.scope x := by first | exact Or.inl rfl | exact Or.inr (Or.inl rfl) | exact Or.inr (Or.inr rfl)) (hd : (x == ("__debug__" : Str)) = false := by decide)
    (hcd : (x == ("__classdict__" : Str)) = false := by decide) (hs1 : starEach [e] X.env = (false, eval e X.env) :: starEach [] X.env := by rfl)
    (hbase : attributeBase (.Name x px) "append" X.env (eval (.Name x px) X.env) = eval (.Name x px) X.env := by rfl)
    (hfew : ((backTo cpos (starEach [e] X.env)).all (fun x => !x.1) && (backToKw cpos (keywordEach [] X.env)).all (fun x => x.1.isSome)
      && decide ([e].length + ([] : List Keyword).length + (if ([] : List Keyword).isEmpty then 0 else 1) < 30)) = true := by rfl)
    (hline : (apos.endLine == cpos.line) = true := by rfl) (hplain : (backTo cpos (starEach [] X.env)).any (·.1) = false := by rfl)
    (hs : swapsWith (.Call (.Attribute (.Name x px) "append" apos) [e] [] cpos) none pos.line X.env = pure false := by rfl) : PS X (.Expr (.Call (.Attribute (.Name x px) "append" apos) [e] [] cpos) pos) (rdS t l I W (sApp i se)) :=
  PS_imp (ps_expr (pe_bm PySem.F.plainAttrs_list PySem.F.slot_list_append PySem.F.type_list_append mt_append (pe_var hN hv hd hcd) (pa_cons he pa_nil hs1) hbase hfew hline hs1 hplain) hs) fun D σ H ⟨H0, O0, O, ρ, S, E, hs, q⟩ => by
    unfold sApp at hs
    split at hs
    · rename_i xs hx
      obtain ⟨hl, hs⟩ := hs
      obtain ⟨p, o, e, hm, h0, hp, c⟩ := E.slot i _ hx
      cases c with
      | lst r =>
        refine ⟨_, e, .inl ⟨rfl, _, SqL.of hp⟩, H0, O0, O, ρ, _, _, E, hs, fun d v H1 p1 k1 r1 => ?_, ends_x q E⟩
        have E1 := E.keep k1
        have pt : p ≠ t := fun z => own_ne E.toEnvB h0 (z ▸ E.t0)
        have hp1 := k1.1 p _ pt hp
        have rr := r.mono (k1.same E.t1)
        refine ⟨p, _, v, rfl, rfl, hp1, by rw [rr.length]; exact maxLen_lt hl, q.nx _ _ _ _ (E1.mut hx e (.lst (rr.append (.cons r1 .nil)))) p1⟩
    · exact hs.elim
end
end DS

namespace DS
open PySem PySem.Spec PyProof.Rows L2
variable {t l : Addr} {I : TI'} {W : WX} {X : Cx} {pos : Pos}
section
variable {st : Stmt} {rest : List Stmt} {s u : SS} {e : Expr} {se sv si : SE} {H0 H H' : Hp} {O0 O O' : List Addr} {σ σ' : L2.St} {ρ ρ' : List Slot} {S : EndS} {E' : Ends}
theorem RpL.setAt {t : Addr} {H : Hp} : ∀ {vs : List V} {ds : List D} (n : Nat) {v : V} {d : D}, RpL t H vs ds → Rp t H v d → RpL t H (vs.set n v) (ds.set n d)
  | _, _, _, _, _, .nil, _ => .nil
  | _, _, 0, _, _, .cons a b, r => .cons r b
  | _, _, n + 1, _, _, .cons a b, r => .cons a (RpL.setAt n b r)
theorem s_setI (i : Nat) {x : Str} {px p2 : Pos} {e2 : Expr} (he : PE X e (rdE t l I W sv)) (hi : PE X e2 (rdE t l I W si)) (hN : X.N[i]? = some x := by rfl) (hv : Vis X.env.scope x := by first | exact Or.inl rfl | exact Or.inr (Or.inl rfl) | exact Or.inr (Or.inr rfl)) (hd : (x == ("__debug__" : Str)) = false := by decide)
    (hcd : (x == ("__classdict__" : Str)) = false := by decide) (ha : ∀ v, assign (.Subscript (.Name x px) e2 p2) X.env v = (do
      let ov ← holding [v] (eval (.Name x px) X.env)
      let iv ← holding [v, ov] (eval e2 X.env)
      standAt p2
      holding [v, ov, iv] (setItem ov iv v)
      release [v, ov, iv] []) := by intro _; rfl)
    (hs : swapsWithSole [.Subscript (.Name x px) e2 p2] e pos.line X.env = pure false := by rfl) (hw : swappedStores [.Subscript (.Name x px) e2 p2] e X.env = pure none := by rfl)
    (h1 : (assignEach [.Subscript (.Name x px) e2 p2] X.env).map (·.2) = [assign (.Subscript (.Name x px) e2 p2) X.env] := by rfl) :
    PS X (.Assign [.Subscript (.Name x px) e2 p2] e pos) (rdS t l I W (sSetI i sv si)) :=
  PS_imp (ps_asg he (pg_sub (pe_var hN hv hd hcd) hi set_list ha) hs hw h1) fun D σ H ⟨H0, O0, O, ρ, S, E, hs, q⟩ => by
    unfold sSetI at hs
    split at hs
    · rename_i xs hx
      obtain ⟨p, o, ep, hm, h0, hp, c⟩ := E.slot i _ hx
      cases c with
      | lst r =>
        refine ⟨H0, O0, O, ρ, _, _, E, hs, fun d v H1 p1 k1 r1 => ?_, ends_x q E⟩
        refine ⟨_, ep, H0, O0, O, ρ, _, _, E.keep k1, p1, fun j w H2 p2 k2 r2 => ?_, (ends_x q E).keep k1⟩
        have E2 := (E.keep k1).keep k2
        have pt : p ≠ t := fun z => own_ne E.toEnvB h0 (z ▸ E.t0)
        have hp2 := k2.1 p _ pt (k1.1 p _ pt hp)
        have rr := (r.mono (k1.same E.t1)).mono (k2.same E.t1)
        dsimp only at p2
        unfold setIx at p2
        split at p2
        · rename_i k
          cases r2
          split at p2
          · rename_i n en
            refine ⟨p, _, k, n, rfl, rfl, hp2, by rw [rr.length]; exact en, q.nx _ _ _ _ (E2.mut hx ep (.lst (rr.setAt n (r1.mono (k2.same E.t1))))) p2⟩
          · exact p2.elim
        · exact p2.elim
    · exact hs.elim
theorem s_aug {i : Nat} {x : Str} {p' : Pos} {op : Operator} {g : Int → Int → Int} (hN : X.N.Nodup) (hi : X.N[i]? = some x) (hx : Loc X.env.scope x) (he : PE X e (rdE t l I W se)) (ho : PIp X op (ipI g)) (hf : X.fn x = true ∨ X.env.scope.names.lookup x = some .local := by first | exact .inl rfl | exact .inr rfl | assumption) :
    PS X (.AugAssign (.Name x p') op e pos) (rdS t l I W (sAug i g se)) := PS_imp (ps_aug hN hi hx he ho hf) fun D σ H ⟨H0, O0, O, ρ, S, E, hs, q⟩ => by
  unfold sAug at hs
  split at hs
  · rename_i a hx
    obtain ⟨u, eu, r⟩ := E.slot i _ hx
    cases r
    refine ⟨_, eu, H0, O0, O, ρ, _, _, E, hs, fun d v H1 p1 k1 r1 => ?_, ends_x q E⟩
    dsimp only at p1
    split at p1
    · cases r1
      exact ⟨_, _, rfl, rfl, q.nx _ _ _ _ ((E.keep k1).set (.int _)) p1⟩
    · exact p1.elim
  · exact hs.elim
/-! ### loops -/
def H0b (O0 O : List Addr) (H : Hp) : Hp := fun a => if a ∈ O ∧ a ∉ O0 then none else H a
theorem H0b_some {a : Addr} {o : HO} (h : H0b O0 O H a = some o) : ¬ (a ∈ O ∧ a ∉ O0) ∧ H a = some o := by
  unfold H0b at h
  split at h
  · cases h
  · rename_i n
    exact ⟨n, h⟩
theorem H0b_none {a : Addr} (h : H0b O0 O H a = none) : (a ∈ O ∧ a ∉ O0) ∨ H a = none := by
  unfold H0b at h
  split at h
  · rename_i n
    exact .inl n
  · exact .inr h
theorem Env.rebase (E : Env t l I H0 O0 O H σ ρ) : Env t l I (H0b O0 O H) O0 O H σ ρ := by
  refine ⟨⟨E.tp, E.t0, E.l0, E.sub, fun a h => ?_, E.all, fun a o _ e => (H0b_some e).2, fun a h => ?_⟩, E.len, fun i s h => ?_, E.dist⟩
  · unfold H0b
    rw [if_neg fun z => z.2 h]
    exact E.all a (E.sub a h)
  · by_cases z : a ∈ O0
    · exact .inl z
    · refine .inr ?_
      unfold H0b
      rw [if_pos ⟨h, z⟩]
  · have q := E.slot i s h
    cases s with
    | no => exact True.intro
    | d x => exact q
    | own x =>
      obtain ⟨p, o, e, hm, h0, hp, c⟩ := q
      refine ⟨p, o, e, hm, ?_, hp, c⟩
      unfold H0b
      rw [if_pos ⟨hm, own_ne E.toEnvB h0⟩]
    | lk p0 => exact q
    | me p C fs =>
      obtain ⟨e, hm, h0, dx, us, hp, r⟩ := q
      refine ⟨e, hm, ?_, dx, us, hp, r⟩
      unfold H0b
      rw [if_pos ⟨hm, own_ne E.toEnvB h0⟩]
theorem H0b_back (E : EnvB t l I H0 O0 O H) {a : Addr} (h : H0b O0 O H a = none) : H0 a = none := by
  rcases H0b_none h with z | z
  · rcases E.ownO a z.1 with y | y
    · exact absurd y z.2
    · exact y
  · exact free_back E z
theorem EnvB.back (E : EnvB t l I H0 O0 O H) (E' : EnvB t l I (H0b O0 O H) O0 O' H') : EnvB t l I H0 O0 O' H' := by
  refine ⟨E'.tp, E.t0, E.l0, E'.sub, E.all0, E'.all, fun a o n e => E'.kept a o n ?_, fun a h => ?_⟩
  · unfold H0b
    rw [if_neg fun z => by
      rcases E.ownO a z.1 with y | y
      · exact z.2 y
      · rw [y] at e
        cases e]
    exact E.kept a o n e
  · rcases E'.ownO a h with y | y
    · exact .inl y
    · exact .inr (H0b_back E y)
theorem Env.back (E : EnvB t l I H0 O0 O H) (E' : Env t l I (H0b O0 O H) O0 O' H' σ ρ) : Env t l I H0 O0 O' H' σ ρ := by
  refine ⟨E.back E'.toEnvB, E'.len, fun i s h => ?_, E'.dist⟩
  have q := E'.slot i s h
  cases s with
  | no => exact True.intro
  | d x => exact q
  | own x =>
    obtain ⟨p, o, e, hm, h0, hp, c⟩ := q
    exact ⟨p, o, e, hm, H0b_back E h0, hp, c⟩
  | lk p0 => exact q
  | me p C fs =>
    obtain ⟨e, hm, h0, dx, us, hp, r⟩ := q
    exact ⟨e, hm, H0b_back E h0, dx, us, hp, r⟩
theorem base_same (E : EnvB t l I H0 O0 O H) (E' : EnvB t l I (H0b O0 O H) O0 O' H') : Same (hd O H) (hd O' H') := fun a o e => by
  obtain ⟨x, y⟩ := hd_some e
  have z : H0b O0 O H a = some o := by
    unfold H0b
    rw [if_neg fun z => x z.1]
    exact y
  rw [hd_out (fun w => by
    rcases E'.ownO a w with w | w
    · exact x (E.sub a w)
    · rw [z] at w
      cases w)]
  exact E'.kept a o (fun w => x (w ▸ E.t1)) z
theorem EndsOk.back {D : Ends} (E : EnvB t l I H0 O0 O H) (q : EndsOk t l I H0 O0 W S D) : EndsOk t l I (H0b O0 O H) O0 W S D :=
  ⟨fun O' σ ρ H' E' h => q.nx _ _ _ _ (Env.back E E') h, fun O' σ ρ H' E' h => q.bk _ _ _ _ (Env.back E E') h, fun O' σ ρ H' E' h => q.ct _ _ _ _ (Env.back E E') h,
    fun d v O' H' E' h r => q.rt _ _ _ _ (E.back E') h r, fun x ρ cls dd O' σ H' E' h r => q.ex _ _ _ _ _ _ _ (Env.back E E') h r, fun d p o O' H' E' h hm h0 hp c => q.ro d p o _ _ (E.back E') h hm (H0b_back E h0) hp c⟩
theorem s_for {tg iter : Expr} {body : List Stmt} {gs : SG} {is : List Nat} {si : SL} {sb : SS} (po : PassesOwn (model X.prog X.w) X.A X.env X.xe) (hc : X.calm = true) (hi : PI X tg iter (rdI t l I W si)) (hg : PG X tg (rdG t l I gs is)) (hb : PSs X body (rdS t l I W sb))
    (hs : ∀ x, foldedSetIterable iter X.env x = pure x := by intro _; rfl) : PS X (.For tg iter body [] pos) (rdS t l I W (sFor gs si sb)) :=
  PS_imp (ps_for po hc hi hg hb hs) fun D σ H ⟨H0, O0, O, ρ, S, E, hs, q⟩ => by
    refine ⟨H0, O0, O, ρ, _, _, E, hs, fun ds J H1 p1 k1 ok => ?_, ends_x q E⟩
    have E1 := E.keep k1
    have q1 := q.back (t := t) (l := l) (I := I) E1.toEnvB
    refine ⟨fun i m σ H => m = ds.length - i ∧ i ≤ ds.length ∧ ∃ O' ρ', Env t l I (H0b O0 O H1) O0 O' H σ ρ' ∧ forL gs sb S (ds.drop i) ρ', ⟨ds.length, rfl, Nat.zero_le _, O, ρ, E1.rebase, p1⟩, ?_⟩
    rintro i m σ2 H2 ⟨rfl, hi, O2, ρ2, E2, f2⟩
    obtain ⟨o1, o2, o3⟩ := ok i O2 H2 (base_same E1.toEnvB E2.toEnvB) E2.tp E2.all
    by_cases hlt : i < ds.length
    · refine .inr ⟨o1 hlt, fun σ' H' => ∃ m', m' < ds.length - i ∧ (m' = ds.length - (i + 1) ∧ i + 1 ≤ ds.length ∧ ∃ O' ρ', Env t l I (H0b O0 O H1) O0 O' H' σ' ρ' ∧ forL gs sb S (ds.drop (i + 1)) ρ'), fun σ' H' z => z, fun x H3 y => ?_⟩
      obtain ⟨d, ed, k3, rx⟩ := o3 x H3 hlt y
      rw [drop_cons ed] at f2
      refine ⟨_, O0, O2, ρ2, d, _, E2.keep k3, rx, f2, fun σ4 ρ4 E4 p4 _ _ => ?_⟩
      refine ⟨_, O0, O2, ρ4, _, E4, p4, ⟨fun O' σ' ρ' H' E' h => ⟨_, by omega, rfl, hlt, O', ρ', E', h⟩, fun O' σ' ρ' H' E' h => q1.nx _ _ _ _ E' h, fun O' σ' ρ' H' E' h => ⟨_, by omega, rfl, hlt, O', ρ', E', h⟩, q1.rt, q1.ex, q1.ro⟩⟩
    · have e : i = ds.length := by omega
      subst e
      rw [List.drop_length] at f2
      exact .inl ⟨o2 (Nat.le_refl _), q1.nx _ _ _ _ E2 f2⟩
theorem s_while {c : Expr} {body : List Stmt} {sc : SB} {sb : SS} (po : PassesOwn (model X.prog X.w) X.A X.env X.xe) (hc : PT X c (rdT t l I W sc)) (hb : PSs X body (rdS t l I W sb)) : PS X (.While c body [] pos) (rdS t l I W (sWhile sc sb)) :=
  PS_imp (ps_while po hc hb) fun D σ H ⟨H0, O0, O, ρ, S, E, hs, q⟩ => by
    obtain ⟨n, hn⟩ := hs
    refine ⟨fun m σ H => ∃ O' ρ', Env t l I H0 O0 O' H σ ρ' ∧ whileN sc sb S m ρ', ⟨n, O, ρ, E, hn⟩, ?_⟩
    rintro m σ2 H2 ⟨O2, ρ2, E2, w2⟩
    cases m with
    | zero => exact (show False from w2).elim
    | succ m =>
      refine ⟨H0, O0, O2, ρ2, _, _, E2, w2, fun b H3 p3 k3 => ?_, ends_x q E2⟩
      cases b with
      | false => exact iteF (q.nx _ _ _ _ (E2.keep k3) p3)
      | true =>
        refine iteT ⟨fun σ' H' => ∃ m', m' < m + 1 ∧ ∃ O' ρ', Env t l I H0 O0 O' H' σ' ρ' ∧ whileN sc sb S m' ρ', fun σ' H' z => z, ?_⟩
        exact ⟨H0, O0, O2, ρ2, _, E2.keep k3, p3, ⟨fun O' σ' ρ' H' E' h => ⟨m, Nat.lt_succ_self _, O', ρ', E', h⟩, fun O' σ' ρ' H' E' h => q.nx _ _ _ _ E' h, fun O' σ' ρ' H' E' h => ⟨m, Nat.lt_succ_self _, O', ρ', E', h⟩, q.rt, q.ex, q.ro⟩⟩
/-! ### raise, try -/
theorem pmk_own0 {C : Addr} {bmB : List Value} {B newId initId : String} {x : Str} {p : Pos} (F : ExcBaseFacts B newId initId bmB) (q : PySem.W.excIn X.K C bmB newId = true) (gC : X.mg x = some (.ref C)) (kC : PySem.W.keepIn X.K (.ref C) = true) (r : Raises X (.ref C)) (hg : Gl X x)
    (hdb : (x == ("__debug__" : Str)) = false := by decide) : PMk X (.Call (.Name x p) [] [] pos) (fun _ H Q => Q (.ref C) none H) := by
  intro pins s σ H Q I h
  refine wpAny_Call_Name_kw (ld_glob I hg gC ?_ hdb)
  obtain ⟨hp1, g1, d1, tk1, os1⟩ := s
  refine PySem.W.callWith_K0 (first := []) I.kIn kC ?_
  show wpAny _ _ (call (.ref C) []) _ _ _
  obtain ⟨bm, N, nm, qn, bs, hdct, sn, sub, ab, col, dd, k0, k1, k2, k3, k5, mN, hC, hN, hni, T⟩ := exc_obj I.kIn q
  refine wpAny_call_exc_subT F T hC hN hni (fun h' e hm => ?_) (Nat.zero_le _)
  exact mk_of I hm r h (I.hok.gone hm.new)
def sRaise0 (C : Addr) : SS := fun ρ S => S.ex ⟨C, []⟩ ρ
theorem s_raise0 {C : Addr} {x : Str} {p : Pos} (hc : X.calm = true) (tk : Takes X W) (q : PySem.W.excIn X.K C [.type "ValueError", .type "Exception", .type "BaseException", .type "object"] "ValueError.__new__" = true) (gC : X.mg x = some (.ref C)) (kC : PySem.W.keepIn X.K (.ref C) = true)
    (b : PySem.W.subIn X.K (.ref C) (.type "BaseException") = some true) (ty : PySem.W.typeIn X.K (.ref C) = some (.type "type")) {pos2 : Pos} (hg : Gl X x := by rfl) (hdb : (x == ("__debug__" : Str)) = false := by decide) :
    PS X (.Raise (some (.Call (.Name x p) [] [] pos)) none pos2) (rdS t l I W (sRaise0 C)) :=
  PS_imp (ps_raise hc tk (pmk_own0 PySem.F.excBase_ValueError q gC kC (raises_own b ty) hg hdb)) fun D σ H ⟨H0, O0, O, ρ, S, E, hs, q⟩ => q.ex _ _ _ _ _ _ _ E hs ⟨rfl, .inl ⟨rfl, rfl⟩⟩
def hdL (K : PySem.W.Frag) (S : EndS) : List (Addr × SS) → XD → List Slot → Prop
  | [], x, ρ => S.ex x ρ
  | (C, s) :: r, x, ρ => match PySem.W.exmOne K (.ref x.C) (.ref C) with
    | some true => s ρ { S with ex := fun _ _ => False }
    | some false => hdL K S r x ρ
    | none => False
def sTry (K : PySem.W.Frag) (sb : SS) (cs : List (Addr × SS)) : SS := fun ρ S => sb ρ { S with ex := hdL K S cs }
def hds (t l : Addr) (I : TI') (cs : List (Addr × SS)) : List (Value × (Addr → Value → Option Addr → TS)) := cs.map fun c => (.ref c.1, fun _ _ _ => rdS t l I W0 c.2)
theorem EndsOk.w0 {D : Ends} (q : EndsOk t l I H0 O0 W S D) : EndsOk t l I H0 O0 W0 { S with ex := fun _ _ => False } D := ⟨q.nx, q.bk, q.ct, q.rt, fun _ _ _ _ _ _ _ _ h _ => h, q.ro⟩
theorem s_try {body : List Stmt} {h₀ : ExceptHandler} {hs' : List ExceptHandler} {sb : SS} {cs : List (Addr × SS)} (hs : X.stack = X.env :: X.outer) (hf : X.env.frame = some X.env.locals) (tk : Takes X W)
    (hb : ∀ (W : WX) (pn : List (Addr × Obj)) (xe : Value → Shared → Prop), Takes (X.tr pn xe) W → PassesOwn (model X.prog X.w) X.A X.env xe → PSs (X.tr pn xe) body (rdS t l I W sb)) (hh : HdsOk X (h₀ :: hs') (hds t l I cs)) :
    PS X (.Try body (h₀ :: hs') [] [] pos) (rdS t l I W (sTry X.K sb cs)) :=
  PS_imp (ps_try_many (tb := fun W => rdS t l I W sb) hs hf tk hb hh) fun D σ H ⟨H0, O0, O, ρ, S, E, hs, q⟩ => by
    refine ⟨H0, O0, O, ρ, _, E, hs, ⟨q.nx, q.bk, q.ct, q.rt, ?_, q.ro⟩⟩
    have go : ∀ (cs : List (Addr × SS)) (x : XD) (ρ : List Slot) (cls : Value) (dd : Option Addr) (O : List Addr) (σ : L2.St) (H : Hp), Env t l I H0 O0 O H σ ρ → hdL X.K S cs x ρ → RpX t (hd O H) x cls dd → wMany X.K W D (hds t l I cs) cls dd σ H := by
      intro cs
      induction cs with
      | nil => exact fun x ρ cls dd O σ H E h r => q.ex _ _ _ _ _ _ _ E h r
      | cons c cs ih =>
        intro x ρ cls dd O σ H E h r
        obtain ⟨C, s⟩ := c
        have ec : cls = .ref x.C := r.1
        unfold hdL at h
        split at h
        · rename_i e
          exact ⟨true, by rw [ec]; exact e, fun _ a _ => ⟨H0, O0, O, ρ, _, E, h, q.w0⟩, fun z => nomatch z⟩
        · rename_i e
          exact ⟨false, by rw [ec]; exact e, (fun z => nomatch z), fun _ => ih x ρ cls dd O σ H E h r⟩
        · exact h.elim
    exact fun x ρ cls dd O σ H E h r => go cs x ρ cls dd O σ H E h r
/-! ### a def -/
def fnS (n m : Nat) (ss : SS) : SF := fun ds P PX => ds.length = m ∧ ss (ds.map Slot.d ++ List.replicate (n - m) Slot.no) { nx := fun _ => P .non, rt := P, bk := fun _ => False, ct := fun _ => False, ex := fun x _ => PX x }
theorem start_env {N : List Str} {vs : List V} {ds : List D} {n : Nat} (hn : n = N.length - vs.length) (T : Tp t l I H) (t1 : t ∈ O) (l1 : l ∈ O) (ha : ∀ a ∈ O, H a ≠ none) (r : RpL t (hd O H) vs ds) :
    Env t l I H O O H (L2.start N vs) (ds.map Slot.d ++ List.replicate n Slot.no) := by
  subst hn
  have key : ∀ (i : Nat) s, (ds.map Slot.d ++ List.replicate (N.length - vs.length) Slot.no)[i]? = some s → SlotOk t H O H (L2.start N vs)[i]? s ∧ ∀ x, s ≠ .own x := fun i s h => by
    unfold L2.start
    by_cases hi : i < ds.length
    · rw [List.getElem?_append_left (by rw [List.length_map]; exact hi), List.getElem?_map] at h
      rw [List.getElem?_append_left (by rw [List.length_map, r.length]; exact hi), List.getElem?_map]
      have e : ds[i]? = some ds[i] := List.getElem?_eq_getElem hi
      rw [e] at h
      cases h
      obtain ⟨v, ev, rv⟩ := r.get e
      rw [ev]
      exact ⟨⟨v, rfl, rv⟩, fun x z => nomatch z⟩
    · rw [List.getElem?_append_right (by rw [List.length_map]; omega)] at h
      have e := List.mem_of_getElem? h
      have e2 := (List.mem_replicate.mp e).2
      subst e2
      exact ⟨True.intro, fun x z => nomatch z⟩
  refine ⟨⟨T, t1, l1, fun _ h => h, ha, ha, fun _ _ _ e => e, fun _ h => .inl h⟩, ?_, fun i s h => (key i s h).1, fun i j p xi xj h1 _ _ _ => absurd rfl ((key i _ h1).2 xi)⟩
  unfold L2.start
  rw [List.length_append, List.length_append, List.length_map, List.length_map, List.length_replicate, List.length_replicate, r.length]
theorem fn_ok {P : Program} {w : World} {K : PySem.W.Frag} {mg : Str → Option Value} {base : Heap} {x qual : Str} {st : Stmt} {f : Addr} {fd : FuncData} {N ps : List Str} {k : Nat} {ss : SS} (F : Fun K x qual st f fd) (S : FnScope N ps (defScope st))
    (hbody : ∀ (cdv : Value) (A : Around) (outer : List PySem.Env) (s : Shared) (H : Hp) (E : XK), Room k (A.deeper (envOfC qual (defScope st) s.heap.objs.size f cdv)) →
      Takes (cxOf (L2.CX P w) P w K mg base N qual (defScope st) f cdv A outer s H E) (fun cls d _ H => E cls d H) →
      PSs (cxOf (L2.CX P w) P w K mg base N qual (defScope st) f cdv A outer s H E) (defBody st) (rdS t l I (fun cls d _ H => E cls d H) ss)) :
    FnOk P w K mg base (L2.CX P w) (k + 1) f fd ps (spD t l I (fnS N.length ps.length ss)) := by
  refine F.okX S (fun vs H Q E h => ?_) (fun cdv A outer s H vs Q E hr h => ⟨_, hbody cdv A outer s H E hr (takes_of rfl rfl rfl rfl), ?_⟩)
  · obtain ⟨O, ds, P, PX, T, t1, l1, ha, r, ⟨hl, _⟩, _⟩ := h
    rw [r.length]
    exact hl
  · obtain ⟨O, ds, P, PX, T, t1, l1, ha, r, ⟨hl, hs⟩, q, qx⟩ := h
    have hn : N.length - ps.length = N.length - vs.length := by rw [r.length, hl]
    refine ⟨H, O, O, _, _, start_env hn T t1 l1 ha r, hs, ⟨fun O' σ' ρ' H' E' h => ?_, fun _ _ _ _ _ h => h.elim, fun _ _ _ _ _ h => h.elim, fun d v O' H' E' h r => ?_, fun x ρ cls dd O' σ' H' E' h r => ?_, fun _ _ _ _ _ _ h => h.elim⟩⟩
    · exact q _ _ H' h ⟨E'.kept, E'.tp⟩ .non
    · exact q _ _ H' h ⟨E'.kept, E'.tp⟩ (r.mono (hd_sub E'.sub))
    · exact qx _ _ _ H' h ⟨E'.kept, E'.tp⟩ (r.mono (hd_sub E'.sub))
end
end DS

namespace DS
open PySem PySem.Spec PyProof.Rows L2
/-- an except clause's class by a plain subclass fact -/
theorem exm_of2 {K : PySem.W.Frag} {C r : Addr} {b : Bool} (h1 : PySem.W.subIn K (.ref C) (.type "BaseException") = some true) (hh : PySem.W.hasDictIn K C = true) (h3 : PySem.W.typeIn K (.ref C) = some (.type "type")) (h4 : PySem.W.subIn K (.ref r) (.ref C) = some b) :
    PySem.W.exmOne K (.ref r) (.ref C) = some b := PySem.W.exm_ref h1 hh h3 h4
/-- the dice: no number below nought, the mixed one small -/
def Ti : TI' := fun _ i j k m => True ∧ 0 ≤ i ∧ 0 ≤ j ∧ (0 ≤ k ∧ k < 2147483647) ∧ 0 ≤ m
/-- a draw: any number below the sides -/
def drawS : SF := fun ds P _ => match ds with
  | [.tape, .int n] => 0 < n ∧ n < 1000000 ∧ ∀ d, 0 ≤ d → d < n → P (.int d)
  | _ => False
end DS

/-! reckoning with meanings -/
namespace DS
open PySem PySem.Spec PyProof.Rows L2
section
variable {se : SE} {vs : List Nat} {ρ : List Slot} {i : Nat} {Kc : List D → Prop}
theorem lcL_rel {R : D → D → Prop} : ∀ {ds : List D} {Kc : List D → Prop}, (∀ d ∈ ds, ∀ P : D → Prop, (∀ y, R d y → P y) → se ((wipeS ρ vs).set i (.d d)) P (fun _ => False)) → (∀ ys, Paired R ds ys → Kc ys) → lcL (gsN i) sYes se vs ρ ds Kc
  | [], Kc, _, hk => hk [] .nil
  | d :: ds, Kc, h, hk => h d List.mem_cons_self _ fun y r => lcL_rel (fun d' hd => h d' (List.mem_cons_of_mem _ hd)) fun ys p => hk _ (.cons r p)
theorem lcL_map (g : D → D) {ds : List D} {Kc : List D → Prop} (h : ∀ d ∈ ds, ∀ P : D → Prop, P (g d) → se ((wipeS ρ vs).set i (.d d)) P (fun _ => False)) (hk : Kc (ds.map g)) : lcL (gsN i) sYes se vs ρ ds Kc :=
  lcL_rel (R := fun d y => y = g d) (fun d hd P hp => h d hd P (hp _ rfl)) fun ys p => by
    have : ys = ds.map g := by
      clear h hk
      induction p with
      | nil => rfl
      | cons r _ ih => rw [r, ih]; rfl
    rw [this]
    exact hk
theorem lcL2_map (g : D → D) {si1 : SL} {j : Nat} {vs1 : List Nat} (f : D → List D) : ∀ {ds : List D} {Kc : List D → Prop}, (∀ d ∈ ds, (f d).length ≤ 1000) → (∀ d ∈ ds, ∀ P : List D → Prop, P (f d) → si1 ((wipeS ρ vs).set i (.d d)) P (fun _ => False)) →
    (∀ d ∈ ds, ∀ e ∈ f d, ∀ P : D → Prop, P (g e) → se ((wipeS ((wipeS ρ vs).set i (.d d)) vs1).set j (.d e)) P (fun _ => False)) → Kc ((ds.map fun d => (f d).map g).flatten) → lcL2 (gsN i) sYes si1 (gsN j) sYes se vs vs1 ρ ds Kc
  | [], Kc, _, _, _, hk => hk
  | d :: ds, Kc, hl, h1, h2, hk => h1 d List.mem_cons_self _ ⟨hl d List.mem_cons_self, lcL_map g (h2 d List.mem_cons_self) (lcL2_map g f (fun d' hd => hl d' (List.mem_cons_of_mem _ hd)) (fun d' hd => h1 d' (List.mem_cons_of_mem _ hd)) (fun d' hd => h2 d' (List.mem_cons_of_mem _ hd)) (by
      rw [List.map_cons, List.flatten_cons] at hk
      exact hk))⟩
end
/-- a loop with its word -/
theorem forL_inv {gs : SG} {sb : SS} {S : EndS} (ds : List D) (Iv : Nat → List Slot → Prop) (hs : ∀ (i : Nat) (d : D) (ρ : List Slot), ds[i]? = some d → Iv i ρ → gs d ρ fun ρ1 => ∀ S' : EndS, (∀ ρ', Iv (i + 1) ρ' → S'.nx ρ') → S'.rt = S.rt → S'.bk = S.nx → S'.ct = S'.nx → S'.ex = S.ex → sb ρ1 S')
    (gm : ∀ d ρ (P Q : List Slot → Prop), (∀ ρ', P ρ' → Q ρ') → gs d ρ P → gs d ρ Q) (hd : ∀ ρ, Iv ds.length ρ → S.nx ρ) : ∀ (k i : Nat) (ρ : List Slot), i + k = ds.length → Iv i ρ → forL gs sb S (ds.drop i) ρ
  | 0, i, ρ, e, h => by
    have ei : i = ds.length := by omega
    subst ei
    rw [List.drop_length]
    exact hd ρ h
  | k + 1, i, ρ, e, h => by
    have hi : i < ds.length := by omega
    have hx : ds[i]? = some ds[i] := List.getElem?_eq_getElem hi
    rw [drop_cons hx]
    refine gm _ _ _ _ (fun ρ1 q => ?_) (hs i _ ρ hx h)
    exact q _ (fun ρ' h' => forL_inv ds Iv hs gm hd k (i + 1) ρ' (by omega) h') rfl rfl rfl rfl
theorem gsN_mono {i : Nat} : ∀ d ρ (P Q : List Slot → Prop), (∀ ρ', P ρ' → Q ρ') → gsN i d ρ P → gsN i d ρ Q := fun _ _ _ _ h p => h _ p
theorem gsT_mono {is : List Nat} : ∀ d ρ (P Q : List Slot → Prop), (∀ ρ', P ρ' → Q ρ') → gsT is d ρ P → gsT is d ρ Q := fun d _ _ _ h p => by
  cases d with
  | tup ds => exact ⟨p.1, h _ p.2⟩
  | _ => exact (show False from p).elim
/-- a loop from its start -/
theorem for_inv {gs : SG} {sb : SS} {S : EndS} {ds : List D} (Iv : Nat → List Slot → Prop) {ρ : List Slot} (h0 : Iv 0 ρ) (hs : ∀ (i : Nat) (d : D) (ρ : List Slot), ds[i]? = some d → Iv i ρ → gs d ρ fun ρ1 => ∀ S' : EndS, (∀ ρ', Iv (i + 1) ρ' → S'.nx ρ') → S'.rt = S.rt → S'.bk = S.nx → S'.ct = S'.nx → S'.ex = S.ex → sb ρ1 S')
    (gm : ∀ d ρ (P Q : List Slot → Prop), (∀ ρ', P ρ' → Q ρ') → gs d ρ P → gs d ρ Q) (hd : ∀ ρ, Iv ds.length ρ → S.nx ρ) : forL gs sb S ds ρ := forL_inv ds Iv hs gm hd ds.length 0 ρ (by omega) h0
/-! slices, places -/
theorem cutD_all {α : Type} (xs : List α) : cutD xs none none = xs := by
  unfold cutD
  rw [HT.sIx_none, HT.sIx_none, List.drop_zero, Nat.sub_zero, List.take_length]
theorem cutD_to {α : Type} (xs : List α) (n : Nat) : cutD xs none (some (n : Int)) = xs.take n := by
  unfold cutD
  rw [HT.sIx_none, HT.sIx_nat, List.drop_zero, Nat.sub_zero]
  by_cases h : n ≤ xs.length
  · rw [Nat.min_eq_left h]
  · rw [Nat.min_eq_right (by omega), List.take_length, List.take_of_length_le (by omega)]
theorem cutD_from {α : Type} (xs : List α) (n : Nat) : cutD xs (some (n : Int)) none = xs.drop n := by
  unfold cutD
  rw [HT.sIx_none, HT.sIx_nat]
  by_cases h : n ≤ xs.length
  · rw [Nat.min_eq_left h, List.take_of_length_le (by rw [List.length_drop]; omega)]
  · rw [Nat.min_eq_right (by omega), Nat.sub_self, List.take_zero, List.drop_eq_nil_of_le (by omega)]
theorem cutD_last {α : Type} (xs : List α) : cutD xs none (some (-1)) = xs.dropLast := by
  unfold cutD
  rw [HT.sIx_none, List.drop_zero, Nat.sub_zero, List.dropLast_eq_take]
  have e : HT.sIx xs.length xs.length (some (-1)) = xs.length - 1 := by
    show (if (-1 : Int) < 0 then ((-1 : Int) + (xs.length : Int)).toNat else min (-1 : Int).toNat xs.length) = xs.length - 1
    rw [if_pos (by decide)]
    omega
  rw [e]
theorem atD_nat {ds : List D} {n : Nat} {d : D} {P : D → Prop} (h : ds[n]? = some d) (p : P d) : atD ds (n : Int) P := by
  unfold atD
  rw [atI_nat h]
  exact p
end DS

/-! reckoning with meanings, where all tests are true -/
namespace DS
open PySem PySem.Spec PyProof.Rows L2
theorem pD {P : D → Prop} {b c : Bool} (h : b = c) (p : P (.bl c)) : P (.bl b) := h ▸ p
theorem pB {P : Bool → Prop} {b c : Bool} (h : b = c) (p : P c) : P b := h ▸ p
section
variable {g g' : Int → Int → Bool} {sa sb sc : SE} {c : SB} {s u : SS} {ρ : List Slot} {P : D → Prop} {PX : XD → Prop} {S : EndS}
theorem sCh_t {i j k : Int} (ha : ∀ Q : D → Prop, Q (.int i) → sa ρ Q PX) (hb : ∀ Q : D → Prop, Q (.int j) → sb ρ Q PX) (hc : ∀ Q : D → Prop, Q (.int k) → sc ρ Q PX) (h1 : g i j = true) (h2 : g' j k = true) (p : P (.bl true)) : sCh g g' sa sb sc ρ P PX :=
  ha _ (hb _ (pB (P := fun z => match z with
    | true => sc ρ (fun w => cmpD g' (.int j) w P) PX
    | false => P (.bl false)) h1 (hc _ (pD h2 p))))
theorem sIfS_t (hc : ∀ Q : Bool → Prop, Q true → c ρ Q (fun x => S.ex x ρ)) (hs : s ρ S) : sIfS c s u ρ S := hc _ hs
theorem sIfS_f (hc : ∀ Q : Bool → Prop, Q false → c ρ Q (fun x => S.ex x ρ)) (hs : u ρ S) : sIfS c s u ρ S := hc _ hs
end
theorem blsD_map {α : Type} (f : α → Bool) : ∀ xs : List α, blsD (xs.map fun x => D.bl (f x)) = some (xs.map f)
  | [] => rfl
  | x :: xs => by
    show (blsD (xs.map fun x => D.bl (f x))).map (f x :: ·) = _
    rw [blsD_map f xs]
    rfl
theorem allD_t {α : Type} {xs : List α} {P : D → Prop} (p : P (.bl true)) : allD [.lst (xs.map fun _ => D.bl true)] P := by
  show (match blsD (xs.map fun _ => D.bl true) with
    | some bs => P (.bl (bs.all id))
    | none => False)
  rw [blsD_map (fun _ => true) xs]
  show P (.bl ((xs.map fun _ => true).all id))
  rw [show ((xs.map fun _ => true).all id) = true by simp]
  exact p
theorem intsD_map : ∀ ns : List Int, intsD (ns.map D.int) = some ns
  | [] => rfl
  | n :: ns => by
    show (intsD (ns.map D.int)).map (n :: ·) = _
    rw [intsD_map ns]
    rfl
theorem sumD_tup {ns : List Int} {P : D → Prop} (p : P (.int ns.sum)) : sumD [.tup (ns.map D.int)] P := by
  show (match intsD (ns.map D.int) with
    | some bs => P (.int bs.sum)
    | none => False)
  rw [intsD_map]
  exact p
theorem sumD_lst {ns : List Int} {P : D → Prop} (p : P (.int ns.sum)) : sumD [.lst (ns.map D.int)] P := by
  show (match intsD (ns.map D.int) with
    | some bs => P (.int bs.sum)
    | none => False)
  rw [intsD_map]
  exact p
theorem eqD_refl {d : D} {P : D → Prop} (h : okD 60 d = true) (p : P (.bl true)) : eqD false d d P := by
  unfold eqD
  refine ⟨h, h, ?_⟩
  show P (.bl (eqB d d))
  rw [eqB_refl h]
  exact p
theorem eqD_ne {d : D} {P : D → Prop} (h : okD 60 d = true) (p : P (.bl false)) : eqD true d d P := by
  unfold eqD
  refine ⟨h, h, ?_⟩
  show P (.bl (!eqB d d))
  rw [eqB_refl h]
  exact p
theorem eqD_of {neg : Bool} {d e : D} {P : D → Prop} (h : okD 60 d = true) (h' : okD 60 e = true) (p : P (.bl (if neg then !eqB d e else eqB d e))) : eqD neg d e P := by
  unfold eqD
  exact ⟨h, h', p⟩
theorem atD_any {ds : List D} {i : Int} {P : D → Prop} (h0 : 0 ≤ i) (h1 : i < ds.length) (h : ∀ x ∈ ds, P x) : atD ds i P := by
  obtain ⟨n, rfl⟩ := Int.eq_ofNat_of_zero_le h0
  have hn : n < ds.length := by omega
  exact atD_nat (List.getElem?_eq_getElem hn) (h _ (List.getElem_mem hn))
theorem okDs_of {n : Nat} : ∀ {ds : List D}, (∀ d ∈ ds, okD n d = true) → okDs n ds = true
  | [], _ => by unfold okDs; rfl
  | d :: ds, h => by
    unfold okDs
    rw [h d List.mem_cons_self, okDs_of fun x m => h x (List.mem_cons_of_mem _ m)]
    rfl
theorem okD_tup {n : Nat} {ds : List D} (h : ∀ d ∈ ds, okD n d = true) : okD (n + 1) (.tup ds) = true := by
  unfold okD
  exact okDs_of h
theorem okD_lst {n : Nat} {ds : List D} (h : ∀ d ∈ ds, okD n d = true) : okD (n + 1) (.lst ds) = true := by
  unfold okD
  exact okDs_of h
theorem paired_rel {α : Type} {f : α → D} {Q : α → Prop} {ds : List D} : ∀ {ys : List D}, Paired (fun _ y => ∃ c, y = f c ∧ Q c) ds ys → ∃ cs : List α, ys = cs.map f ∧ (∀ c ∈ cs, Q c) ∧ cs.length = ds.length := by
  intro ys p
  induction p with
  | nil => exact ⟨[], rfl, fun _ z => (List.not_mem_nil z).elim, rfl⟩
  | cons r _ ih =>
    obtain ⟨c, rfl, q⟩ := r
    obtain ⟨cs, rfl, qs, hl⟩ := ih
    refine ⟨c :: cs, rfl, fun x m => ?_, by simp [hl]⟩
    rcases List.mem_cons.mp m with rfl | m
    · exact q
    · exact qs x m
theorem rangeL_len (lo : Int) (n : Nat) : (rangeL lo n).length = n := by simp [rangeL]
theorem ch_m {P : D → Prop} {b c : Bool} (h1 : b = true) (h2 : c = true) (p : P (.bl true)) : (match (generalizing := false) b with
    | true => P (.bl c)
    | false => P (.bl false)) := by
  subst h1 h2
  exact p
theorem sVar_d {i : Nat} {ρ : List Slot} {x : D} {P : D → Prop} {PX : XD → Prop} (h : ρ[i]? = some (.d x)) (p : P x) : sVar i ρ P PX := by
  unfold sVar
  rw [h]
  exact p
theorem setIx_nat {xs : List D} {d : D} {b : Nat} {Q : List D → Prop} (hb : b < xs.length) (q : Q (xs.set b d)) : setIx xs d (.int (b : Int)) Q := by
  show (match ixN xs.length (b : Int) with
    | some n => Q (xs.set n d)
    | none => False)
  have e5 : ixN xs.length (b : Int) = some b := by
    unfold ixN
    rw [if_pos (by omega), if_pos (by omega)]
    rfl
  rw [e5]
  exact q
end DS

namespace DS
open PySem PySem.Spec PyProof.Rows L2
section
variable {X : Cx} {t l : Addr} {I : TI'} {W : WX} {pos : Pos}
def sDct0 : SE := fun _ P _ => P (.dct [])
theorem f_dct0 : PE X (.Dict [] [] pos) (rdF t l I W sDct0) := PE_imp pe_dnewK fun σ H Q ⟨H0, O0, O, ρ, P, PX, E, hs, q, qx⟩ => by
  intro p n
  refine q _ _ _ _ hs (.new E.tp n) ?_ upd_same (.dct .nil)
  cases z : H p with
  | none => rfl
  | some o => rw [z] at n; exact absurd n (by intro y; cases y)
end
end DS

/-! own instances: fields, making, properties -/
namespace DS
open PySem PySem.Spec PyProof.Rows L2
section
variable {t l : Addr} {I : TI'} {H0 H H' : Hp} {O0 O : List Addr} {σ : L2.St} {ρ : List Slot} {W : WX}
def putD (f : Str) (d : D) : List (Str × D) → List (Str × D)
  | [] => [(f, d)]
  | (g, x) :: r => if g = f then (g, d) :: r else (g, x) :: putD f d r
theorem RpF.put {f : Str} {v : V} {d : D} (r : Rp t H v d) : ∀ {us : List (Str × V)} {fs : List (Str × D)}, RpF t H us fs → RpF t H (putF f v us) (putD f d fs)
  | _, _, .nil => .cons r .nil
  | _, _, .cons (x := x) a b => by
    unfold putF putD
    by_cases e : x = f
    · rw [if_pos e, if_pos e]
      exact .cons r b
    · rw [if_neg e, if_neg e]
      exact .cons a (RpF.put r b)
theorem RpF.look {f : Str} {d : D} : ∀ {us : List (Str × V)} {fs : List (Str × D)}, RpF t H us fs → fs.lookup f = some d → ∃ v, us.lookup f = some v ∧ Rp t H v d
  | _, _, .cons (x := x) (v := v) a b, e => by
    unfold List.lookup at e ⊢
    split at e
    · rename_i q
      cases e
      exact ⟨v, rfl, a⟩
    · exact RpF.look b e
theorem RpF.len : ∀ {us : List (Str × V)} {fs : List (Str × D)}, RpF t H us fs → us.length = fs.length
  | _, _, .nil => rfl
  | _, _, .cons _ b => by
    rw [List.length_cons, List.length_cons, RpF.len b]
/-- a field is read -/
def fldD (K : PySem.W.Frag) (f : Str) (d : D) (P : D → Prop) : Prop := match d with
  | .ins C fs => Cls K C ∧ NoAttr K C f ∧ (match fs.lookup f with
    | some x => P x
    | none => False)
  | _ => False
def sFldE (K : PySem.W.Frag) (f : Str) (se : SE) : SE := fun ρ P PX => se ρ (fun d => fldD K f d P) PX
variable {X : Cx} {pos : Pos}
theorem e_fld {e : Expr} {f : Str} {se : SE} (he : PE X e (rdE t l I W se)) (hb : attributeBase e f X.env (eval e X.env) = eval e X.env := by rfl) : PE X (.Attribute e f pos) (rdE t l I W (sFldE X.K f se)) :=
  PE_imp (pe_fld he hb) fun σ H Q ⟨H0, O0, O, ρ, P, PX, E, hs, q, qx⟩ => ⟨H0, O0, O, ρ, _, PX, E, hs, fun d v H1 p1 k1 r1 => by
    cases d with
    | ins C fs =>
      obtain ⟨c, n, p1⟩ := p1
      cases r1 with
      | ins h r =>
        cases z : fs.lookup f with
        | none =>
          rw [z] at p1
          exact p1.elim
        | some x =>
          rw [z] at p1
          obtain ⟨v, ev, rv⟩ := r.look z
          exact ⟨_, C, _, _, v, rfl, (hd_some h).2, c, n, ev, q _ _ H1 p1 k1 rv⟩
    | _ => exact (show False from p1).elim, qx⟩
/-- in its own __init__ -/
def notMe : Slot → Bool
  | .me _ _ _ => false
  | _ => true
def noMe : Nat → List Slot → Bool
  | _, [] => true
  | 0, _ :: r => r.all notMe
  | i + 1, s :: r => notMe s && noMe i r
theorem noMe_at : ∀ {i : Nat} {ρ : List Slot}, noMe i ρ = true → ∀ (j : Nat) s, j ≠ i → ρ[j]? = some s → notMe s = true
  | _, [], _, j, s, _, h => by cases h
  | 0, x :: r, e, 0, s, n, h => absurd rfl n
  | 0, x :: r, e, j + 1, s, n, h => by
    unfold noMe at e
    exact List.all_eq_true.mp e s (List.mem_of_getElem? h)
  | i + 1, x :: r, e, 0, s, n, h => by
    unfold noMe at e
    rw [Bool.and_eq_true] at e
    cases h
    exact e.1
  | i + 1, x :: r, e, j + 1, s, n, h => by
    unfold noMe at e
    rw [Bool.and_eq_true] at e
    exact noMe_at e.2 j s (fun z => n (by rw [z])) h
theorem Env.mutMe (E : Env t l I H0 O0 O H σ ρ) {i : Nat} {p C dx : Addr} {fs fs' : List (Str × D)} {us' : List (Str × V)} (hx : ρ[i]? = some (.me p C fs)) (hn : noMe i ρ = true) (r : RpF t (hd O H) us' fs') :
    Env t l I H0 O0 O (upd H p (.ins C dx us')) σ (ρ.set i (.me p C fs')) := by
  obtain ⟨e, hm, h0, dx0, us0, hp, c1⟩ := E.slot i _ hx
  have np : p ∉ O0 := own_ne E.toEnvB h0
  have hl := (List.getElem?_eq_some_iff.mp hx).1
  have hs : Same (hd O H) (hd O (upd H p (.ins C dx us'))) := hd_upd_in hm
  refine ⟨⟨tp_hidden E.tp (fun z => np (z ▸ E.t0)) (fun z => np (z ▸ E.l0)), E.t0, E.l0, E.sub, E.all0, fun a h => ?_, fun a u n z => ?_, E.ownO⟩, by rw [List.length_set]; exact E.len, fun j s h => ?_, fun j k q xi xj h1 h2 h3 h4 => ?_⟩
  · by_cases z : a = p
    · rw [z, upd_same]
      exact fun z => nomatch z
    · rw [upd_ne z]
      exact E.all a h
  · rw [upd_ne (ne_of_none z h0)]
    exact E.kept a u n z
  · by_cases e1 : i = j
    · subst e1
      rw [List.getElem?_set_self hl] at h
      cases h
      exact ⟨e, hm, h0, dx, us', upd_same, r.mono hs⟩
    · rw [List.getElem?_set_ne e1] at h
      have q := E.slot j s h
      have nm := noMe_at hn j s (Ne.symm e1) h
      cases s with
      | no => exact True.intro
      | d x =>
        obtain ⟨u, e, r⟩ := q
        exact ⟨u, e, r.mono hs⟩
      | own y =>
        obtain ⟨p2, o2, e2, hm2, h02, hp2, c2⟩ := q
        refine ⟨p2, o2, e2, hm2, h02, ?_, c2.mono hs⟩
        rw [upd_ne (by
          intro z
          rw [z, hp] at hp2
          cases hp2
          cases c2)]
        exact hp2
      | lk p0 => exact q
      | me p2 C2 fs2 => cases nm
  · have g : ∀ {j : Nat} {xi : DS.D}, (ρ.set i (Slot.me p C fs'))[j]? = some (Slot.own xi) → ρ[j]? = some (Slot.own xi) := fun {j xi} h => by
      by_cases z : i = j
      · subst z
        rw [List.getElem?_set_self hl] at h
        cases h
      · rw [List.getElem?_set_ne z] at h
        exact h
    exact E.dist j k q xi xj (g h1) (g h2) h3 h4
def sSetF (K : PySem.W.Frag) (i : Nat) (f : Str) (se : SE) : SS := fun ρ S => se ρ (fun d => match ρ[i]? with
  | some (.me p C fs) => Cls K C ∧ NoAttr K C f ∧ fs.length < 1000 ∧ noMe i ρ = true ∧ S.nx (ρ.set i (.me p C (putD f d fs)))
  | _ => False) (fun x => S.ex x ρ)
theorem s_setF (i : Nat) {x f : Str} {px p2 : Pos} {e : Expr} {se : SE} (he : PE X e (rdE t l I W se)) (hN : X.N[i]? = some x := by rfl) (hv : Vis X.env.scope x := by first | exact Or.inl rfl | exact Or.inr (Or.inl rfl) | exact Or.inr (Or.inr rfl)) (hs : swapsWith e (some (.Attribute (.Name x px) f p2)) pos.line X.env = pure false := by rfl)
    (hd' : (x == ("__debug__" : Str)) = false := by decide) (hcd : (x == ("__classdict__" : Str)) = false := by decide) : PS X (.Assign [.Attribute (.Name x px) f p2] e pos) (rdS t l I W (sSetF X.K i f se)) :=
  PS_imp (ps_fld (pe_var hN hv hd' hcd) he hs) fun D σ H ⟨H0, O0, O, ρ, S, E, hs, q⟩ => ⟨H0, O0, O, ρ, _, _, E, hs, fun d v H1 p1 k1 r1 => by
    have E1 := E.keep k1
    split at p1
    · rename_i p C fs hx
      obtain ⟨c, n, hl, hn, p1⟩ := p1
      obtain ⟨ep, hm, h0, dx, us, hp, r⟩ := E1.slot i _ hx
      exact ⟨_, ep, p, C, dx, us, rfl, hp, c, n, by rw [r.len]; exact hl, q.nx _ _ _ _ (E1.mutMe hx hn (RpF.put r1 r)) p1⟩
    · exact p1.elim, ends_x q E⟩
end
end DS

/-! making an own instance: what its __init__ promises -/
namespace DS
open PySem PySem.Spec PyProof.Rows L2
def KeptX (t l : Addr) (I : TI') (x : Addr) (H H' : Hp) : Prop := (∀ a o, a ≠ t → a ≠ x → H a = some o → H' a = some o) ∧ Tp t l I H'
abbrev SI := List D → (List (Str × D) → Prop) → (XD → Prop) → Prop
def spI (t l : Addr) (I : TI') (C : Addr) (sf : SI) : Sp := fun vs H Q E => ∃ x dx vs' O ds P PX, vs = .ref x :: vs' ∧ H x = some (.ins C dx []) ∧ x ∉ O ∧ Tp t l I H ∧ t ∈ O ∧ l ∈ O ∧ (∀ a ∈ O, H a ≠ none) ∧ RpL t (hd (x :: O) H) vs' ds ∧ sf ds P PX ∧
  (∀ fs dx' us H', P fs → KeptX t l I x H H' → H' x = some (.ins C dx' us) → RpF t (hd (x :: O) H') us fs → Q .non H') ∧
  (∀ xx cls dd H', PX xx → KeptX t l I x H H' → RpX t (hd O H') xx cls dd → E cls dd H')
def fnI (C : Addr) (n m : Nat) (ss : SS) : SI := fun ds P PX => ds.length + 1 = m ∧ ∀ x : Addr, ss (.me x C [] :: (ds.map Slot.d ++ List.replicate (n - m) Slot.no))
  { nx := fun ρ => match ρ[0]? with
      | some (Slot.me p C' fs) => p = x ∧ C' = C ∧ P fs
      | _ => False,
    rt := fun _ => False, bk := fun _ => False, ct := fun _ => False, ex := fun x _ => PX x }
section
variable {t l : Addr} {I : TI'} {H : Hp} {O : List Addr}
theorem start_me {N : List Str} {vs : List V} {ds : List D} {n : Nat} {x C dx : Addr} (hn : n = N.length - (vs.length + 1)) (T : Tp t l I H) (t1 : t ∈ O) (l1 : l ∈ O) (ha : ∀ a ∈ O, H a ≠ none) (hx : H x = some (.ins C dx [])) (xO : x ∉ O) (r : RpL t (hd (x :: O) H) vs ds) :
    Env t l I (fun a => if a = x then none else H a) O (x :: O) H (L2.start N (.ref x :: vs)) (.me x C [] :: (ds.map Slot.d ++ List.replicate n Slot.no)) := by
  subst hn
  have hne : ∀ a ∈ O, a ≠ x := fun a h z => xO (z ▸ h)
  have key : ∀ (i : Nat) s, (Slot.me x C [] :: (ds.map Slot.d ++ List.replicate (N.length - (vs.length + 1)) Slot.no))[i]? = some s → SlotOk t (fun a => if a = x then none else H a) (x :: O) H (L2.start N (.ref x :: vs))[i]? s ∧ ∀ y, s ≠ .own y := fun i s h => by
    cases i with
    | zero =>
      cases h
      exact ⟨⟨rfl, List.mem_cons_self, if_pos rfl, dx, [], hx, .nil⟩, fun y z => nomatch z⟩
    | succ i =>
      have h : (ds.map Slot.d ++ List.replicate (N.length - (vs.length + 1)) Slot.no)[i]? = some s := h
      have ha' : ∀ a ∈ x :: O, H a ≠ none := fun a h => by
        rcases List.mem_cons.mp h with z | h
        · rw [z, hx]
          exact fun z => nomatch z
        · exact ha a h
      have E0 := start_env (N := N.tail) (n := N.length - (vs.length + 1)) (by rw [List.length_tail]; omega) T (List.mem_cons_of_mem x t1) (List.mem_cons_of_mem x l1) ha' r
      have q := E0.slot i s h
      have e1 : (L2.start N (.ref x :: vs))[i + 1]? = (L2.start N.tail vs)[i]? := by
        unfold L2.start
        rw [List.length_tail, List.length_cons, Nat.sub_sub, Nat.add_comm 1 vs.length]
        rfl
      rw [e1]
      rcases List.mem_append.mp (List.mem_of_getElem? h) with m | m
      · obtain ⟨d, _, rfl⟩ := List.mem_map.mp m
        exact ⟨q, fun y z => nomatch z⟩
      · rw [(List.mem_replicate.mp m).2]
        exact ⟨True.intro, fun y z => nomatch z⟩
  refine ⟨⟨T, t1, l1, fun a h => List.mem_cons_of_mem _ h, fun a h => ?_, fun a h => ?_, fun a o _ e => ?_, fun a h => ?_⟩, ?_, fun i s h => (key i s h).1, fun i j p xi xj h1 _ _ _ => absurd rfl ((key i _ h1).2 xi)⟩
  · show (if a = x then none else H a) ≠ none
    rw [if_neg (hne a h)]
    exact ha a h
  · rcases List.mem_cons.mp h with z | h
    · rw [z, hx]
      exact fun z => nomatch z
    · exact ha a h
  · have e : (if a = x then none else H a) = some o := e
    split at e
    · cases e
    · exact e
  · rcases List.mem_cons.mp h with z | h
    · exact .inr (if_pos z)
    · exact .inl h
  · unfold L2.start
    simp only [List.length_cons, List.length_append, List.length_map, List.length_replicate]
    rw [r.length]
    omega
theorem init_ok {C : Addr} {P : Program} {w : World} {K : PySem.W.Frag} {mg : Str → Option Value} {base : Heap} {x qual : Str} {st : Stmt} {f : Addr} {fd : FuncData} {N ps : List Str} {k : Nat} {ss : SS} (F : Fun K x qual st f fd) (S : FnScope N ps (defScope st))
    (hbody : ∀ (cdv : Value) (A : Around) (outer : List PySem.Env) (s : Shared) (H : Hp) (E : XK), Room k (A.deeper (envOfC qual (defScope st) s.heap.objs.size f cdv)) →
      Takes (cxOf (L2.CX P w) P w K mg base N qual (defScope st) f cdv A outer s H E) (fun cls d _ H => E cls d H) →
      PSs (cxOf (L2.CX P w) P w K mg base N qual (defScope st) f cdv A outer s H E) (defBody st) (rdS t l I (fun cls d _ H => E cls d H) ss)) :
    FnOk P w K mg base (L2.CX P w) (k + 1) f fd ps (spI t l I C (fnI C N.length ps.length ss)) := by
  refine F.okX S (fun vs H Q E h => ?_) (fun cdv A outer s H vs Q E hr h => ⟨_, hbody cdv A outer s H E hr (takes_of rfl rfl rfl rfl), ?_⟩)
  · obtain ⟨x, dx, vs', O, ds, P, PX, rfl, hx, xO, T, t1, l1, ha, r, ⟨hl, _⟩, _⟩ := h
    rw [List.length_cons, r.length]
    exact hl
  · obtain ⟨x, dx, vs', O, ds, P, PX, rfl, hx, xO, T, t1, l1, ha, r, ⟨hl, hs⟩, q, qx⟩ := h
    have hn : N.length - ps.length = N.length - (vs'.length + 1) := by rw [r.length, hl]
    have kx : ∀ {O' : List Addr} {H' : Hp}, EnvB t l I (fun a => if a = x then none else H a) O O' H' → KeptX t l I x H H' := fun E' => ⟨fun a o n1 n2 e => E'.kept a o n1 (by
      show (if a = x then none else H a) = some o
      rw [if_neg n2]
      exact e), E'.tp⟩
    refine ⟨_, O, x :: O, _, _, start_me hn T t1 l1 ha hx xO r, hs x, ⟨fun O' σ' ρ' H' E' h => ?_, fun _ _ _ _ _ h => h.elim, fun _ _ _ _ _ h => h.elim, fun d v O' H' E' h r => h.elim, fun x ρ cls dd O' σ' H' E' h r => ?_, fun _ _ _ _ _ _ h => h.elim⟩⟩
    · dsimp only at h
      split at h
      · rename_i p C' fs e0
        obtain ⟨rfl, rfl, h⟩ := h
        obtain ⟨_, hm, _, dx', us, hp, rf⟩ := E'.slot 0 _ e0
        refine q fs dx' us H' h (kx E'.toEnvB) hp (rf.mono (hd_sub fun a z => ?_))
        rcases List.mem_cons.mp z with z | z
        · rw [z]
          exact hm
        · exact E'.sub a z
      · exact h.elim
    · exact qx _ _ _ H' h (kx E'.toEnvB) (r.mono (hd_sub E'.sub))
end
section
variable {t l : Addr} {I : TI'} {W : WX} {X : Cx} {k : Nat} {f C : Addr} {fd : FuncData} {ps : List Str} {sp : Sp} {Ex : L2.St → XK} {x : Str} {p pos : Pos} {e : Expr} {es : List Expr} {ta : TA}
/-- a make that may let something out, at the slots of the call -/
def tMk (C : Addr) (sp : Sp) (Ex : L2.St → XK) (ta : TA) : TE := fun σ H Q => ta σ H fun vs H1 => ∀ y dy, H1 y = none → H1 dy = none → dy ≠ y → sp (.ref y :: vs) (upd (upd H1 dy (.own y)) y (.ins C dy [])) (fun v H2 => v = .non ∧ Q (.ref y) H2) (Ex σ)
theorem run_mk {pn : List (Addr × Obj)} {σ : L2.St} {H : Hp} {s : Shared} {Q : VK} {us : List Value} {vs : List V} (M : Mk X.K C f) (F : FnOk X.prog X.w X.K X.mg X.base (L2.CX X.prog X.w) k f fd ps sp) (hr : Room (k + 1) X.A) (hb : Binds X.K fd ps [])
    (hx : PassesAt (L2.CX X.prog X.w) X σ (Ex σ)) (J : Inv X pn σ H s) (r : Vals vs us)
    (hq : ∀ y dy, H y = none → H dy = none → dy ≠ y → sp (.ref y :: vs) (upd (upd H dy (.own y)) y (.ins C dy [])) (fun v H2 => v = .non ∧ Q (.ref y) H2) (Ex σ)) : wpAny (model X.prog X.w) X.A (call (.ref C) us) (EP X pn σ Q) X.xe s := by
  have hy := hq (s.heap.objs.size + 1) s.heap.objs.size (J.hok.fresh (Nat.le_succ _)) (J.hok.fresh (Nat.le_refl _)) (Nat.ne_of_lt (Nat.lt_succ_self _))
  have J2 := Inv.made (C := C) J
  have rr : Vals (V.ref (s.heap.objs.size + 1) :: vs) (Value.ref (s.heap.objs.size + 1) :: us) := .cons rfl r
  have hl : ((Value.ref (s.heap.objs.size + 1) :: us) ++ ([] : List Value)).length = ps.length := by
    rw [List.append_nil, ← rr.length]
    exact F.len _ _ _ _ hy
  have bd := hb _ (Value.ref (s.heap.objs.size + 1) :: us) J2.kIn hl
  rw [List.append_nil] at bd
  refine wpAny_call (make_map (f := f) J.kIn M.makes M.init (beq_iff_eq.mp M.fn) (codeAny_mono (F.run _ X.stack _ _ ⟨Value.ref (s.heap.objs.size + 1) :: us, []⟩ _ _ _ (Ex σ) (hr.make C us []) (J2.env0.make C us []) bd rr hy) fun z s' hz => ?_))
  cases z with
  | error ee => exact hx pn _ _ ee s' J2 hz
  | ok fl =>
    cases fl with
    | ret u =>
      obtain ⟨v, H', J3, rv, ev, q3⟩ := J2.after hz
      rw [ev] at rv
      exact ⟨rv, V.ref (s.heap.objs.size + 1), H', J3, rfl, q3⟩
    | next => exact hz.elim
    | brk => exact hz.elim
    | cont => exact hz.elim
theorem pe_mk (M : Mk X.K C f) (F : FnOk X.prog X.w X.K X.mg X.base (L2.CX X.prog X.w) k f fd ps sp) (hr : Room (k + 1) X.A) (hg : Gl X x) (hm : X.mg x = some (.ref C)) (hb : Binds X.K fd ps []) (hx : ∀ σ, PassesAt (L2.CX X.prog X.w) X σ (Ex σ))
    (ha : PA X (e :: es) ta) (hdb : (x == ("__debug__" : Str)) = false) (he : starEach (e :: es) X.env = (false, eval e X.env) :: starEach es X.env) (hpl : (backTo pos (starEach es X.env)).any (·.1) = false) : PE X (.Call (.Name x p) (e :: es) [] pos) (tMk C sp Ex ta) :=
  ⟨fun pn s σ H Q J h => wpAny_Call_Name_kw (ld_glob J hg hm (PySem.W.callWith_K (h₀ := X.base) J.ok.mod.kin M.kp (thn (ha.run pos pn s σ H _ J h) fun us s1 ⟨vs, H1, J1, r, q⟩ => ⟨J1.kIn, run_mk M F hr hb (hx σ) J1 r q⟩) he hpl) hdb)⟩
def sMake (C : Addr) (sf : SI) (sa : SL) : SE := fun ρ P PX => sa ρ (fun ds => sf ds (fun fs => P (.ins C fs)) PX) PX
theorem e_make {sf : SI} {sa : SL} (tk : Takes X W) (M : Mk X.K C f) (F : FnOk X.prog X.w X.K X.mg X.base (L2.CX X.prog X.w) k f fd ps (spI t l I C sf)) (hr : Room (k + 1) X.A) (hm : X.mg x = some (.ref C)) (hb : Binds X.K fd ps []) (ha : PA X (e :: es) (rdA t l I W sa)) (hg : Gl X x := by rfl)
    (hdb : (x == ("__debug__" : Str)) = false := by decide) (he : starEach (e :: es) X.env = (false, eval e X.env) :: starEach es X.env := by rfl) (hpl : (backTo pos (starEach es X.env)).any (·.1) = false := by rfl) : PE X (.Call (.Name x p) (e :: es) [] pos) (rdE t l I W (sMake C sf sa)) :=
  PE_imp (pe_mk M F hr hg hm hb (fun σ => passAt tk σ) ha hdb he hpl) fun σ H Q ⟨H0, O0, O, ρ, P, PX, E, hs, q, qx⟩ => ⟨H0, O0, O, ρ, _, PX, E, hs, fun ds vs H1 p1 k1 r1 y dy ny ndy nyd => by
    have E1 := E.keep k1
    have T1 := k1.2
    have yt : y ≠ t := fun z => T1.t_some (z ▸ ny)
    have yl : y ≠ l := fun z => T1.l_some (z ▸ ny)
    have dt : dy ≠ t := fun z => T1.t_some (z ▸ ndy)
    have dl : dy ≠ l := fun z => T1.l_some (z ▸ ndy)
    have yO : y ∉ O := fun z => E1.all y z ny
    have up : ∀ a o, H1 a = some o → upd (upd H1 dy (.own y)) y (.ins C dy []) a = some o := fun a o z => by
      rw [upd_ne (ne_of_none z ny), upd_ne (ne_of_none z ndy)]
      exact z
    have T2 : Tp t l I (upd (upd H1 dy (.own y)) y (.ins C dy [])) := tp_hidden (tp_hidden T1 dt dl) yt yl
    refine ⟨y, dy, vs, O, ds, _, PX, rfl, upd_same, yO, T2, E1.t1, E1.l1, fun a h => ?_, r1.mono fun a o z => ?_, p1, fun fs dx' us H' pf kx hy rf => ⟨rfl, ?_⟩, fun xx cls dd H' px kx rx => ?_⟩
    · cases z : H1 a with
      | none => exact absurd z (E1.all a h)
      | some o =>
        rw [up a o z]
        exact fun z => nomatch z
    · obtain ⟨z1, z2⟩ := hd_some z
      rw [hd_out (by
        intro w
        rcases List.mem_cons.mp w with w | w
        · rw [w, ny] at z2
          cases z2
        · exact z1 w)]
      exact up a o z2
    · have kk : Kept t l I H1 H' := ⟨fun a o n z => kx.1 a o n (fun w => by rw [w, ny] at z; cases z) (up a o z), kx.2⟩
      refine q _ _ H' pf (k1.trans kk) (.ins (dx := dx') (fs := us) ?_ (rf.mono (hd_sub fun a z => List.mem_cons_of_mem _ z)))
      rw [hd_out yO]
      exact hy
    · have kk : Kept t l I H1 H' := ⟨fun a o n z => kx.1 a o n (fun w => by rw [w, ny] at z; cases z) (up a o z), kx.2⟩
      exact qx xx cls dd H' px (k1.trans kk) rx, qx⟩
/-- a property, whose getter lets nothing out -/
def sProp (C : Addr) (sf : SF) (se : SE) : SE := fun ρ P PX => se ρ (fun d => match d with
  | .ins C' fs => C' = C ∧ sf [.ins C' fs] P (fun _ => False)
  | _ => False) PX
theorem e_prop {g pr : Addr} {fn : Str} {sf : SF} {se : SE} (he : PE X e (rdE t l I W se)) (c : Cls X.K C) (hp : PropOf X.K C fn pr g) (F : FnOk X.prog X.w X.K X.mg X.base (L2.CX X.prog X.w) k g fd ps (spD t l I sf)) (hr : Room (k + 1) X.A) (hb : Binds X.K fd ps [])
    (hx : Passes (L2.CX X.prog X.w) X.nox (fun _ _ _ => False)) (hab : attributeBase e fn X.env (eval e X.env) = eval e X.env := by rfl) : PE X (.Attribute e fn pos) (rdE t l I W (sProp C sf se)) :=
  PE_imp (pe_prop he c hp F hr hb .nil hx hab) fun σ H Q ⟨H0, O0, O, ρ, P, PX, E, hs, q, qx⟩ => ⟨H0, O0, O, ρ, _, PX, E, hs, fun d v H1 p1 k1 r1 => by
    cases d with
    | ins C' fs =>
      obtain ⟨rfl, p1⟩ := p1
      cases r1 with
      | ins h r =>
        refine ⟨_, _, _, rfl, (hd_some h).2, O, [.ins C' fs], P, _, k1.2, E.t1, E.l1, (E.keep k1).all, .cons (.ins h r) .nil, p1, fun d v H' pd k' rd => q d v H' pd (k1.trans k') rd, fun x cls dd H' h _ _ => h⟩
    | _ => exact (show False from p1).elim, qx⟩
end
end DS

/-! membership, two names at once -/
namespace DS
open PySem PySem.Spec PyProof.Rows L2
section
variable {t l : Addr} {I : TI'} {H H' : Hp} {O : List Addr} {W : WX} {X : Cx} {pos : Pos}
def flatB : D → Bool
  | .non => true
  | .bl _ => true
  | .int _ => true
  | .str _ => true
  | _ => false
/-- == of flat values -/
def eqF : D → D → Bool
  | .non, .non => true
  | .bl x, .bl y => x == y
  | .bl x, .int y => (if x then 1 else 0) == y
  | .int x, .bl y => x == (if y then 1 else 0)
  | .int x, .int y => x == y
  | .str x, .str y => x == y
  | _, _ => false
theorem Rp.flat {v : V} {d : D} (r : Rp t H v d) (h : flatB d = true) : flatV v = true := by
  cases r with
  | non => rfl
  | bl b => rfl
  | int b => rfl
  | str b => rfl
  | _ => cases h
theorem Rp.eqF {v w : V} {d e : D} (r : Rp t H v d) (q : Rp t H w e) (h : flatB d = true) (h2 : flatB e = true) : eqV v w = DS.eqF d e := by
  cases r <;> first | (cases h; done) | (cases q <;> first | (cases h2; done) | rfl)
theorem RpL.flat : ∀ {vs : List V} {ds : List D}, RpL t H vs ds → ds.all flatB = true → vs.all flatV = true
  | _, _, .nil, _ => rfl
  | _, _, .cons a b, h => by
    rw [List.all_cons, Bool.and_eq_true] at h
    rw [List.all_cons, a.flat h.1, RpL.flat b h.2]
    rfl
theorem RpL.inF {v : V} {d : D} (r : Rp t H v d) (hd : flatB d = true) : ∀ {vs : List V} {ds : List D}, RpL t H vs ds → ds.all flatB = true → (vs.any fun y => eqV y v) = ds.any fun y => eqF y d
  | _, _, .nil, _ => rfl
  | _, _, .cons a b, h => by
    rw [List.all_cons, Bool.and_eq_true] at h
    rw [List.any_cons, List.any_cons, a.eqF r h.1 hd, RpL.inF r hd b h.2]
/-- x in y -/
@[irreducible] def inD (neg : Bool) : D → D → (D → Prop) → Prop := fun x y P => match y with
  | .lst ys => flatB x = true ∧ ys.all flatB = true ∧ P (.bl (if neg then !(ys.any fun z => eqF z x) else ys.any fun z => eqF z x))
  | .tup ys => flatB x = true ∧ ys.all flatB = true ∧ P (.bl (if neg then !(ys.any fun z => eqF z x) else ys.any fun z => eqF z x))
  | .str z => match x with
    | .str s => (match s.cps.toList with
      | [c] => P (.bl (if neg then !decide (c ∈ z.cps.toList) else decide (c ∈ z.cps.toList)))
      | _ => False)
    | _ => False
  | _ => False
def rSg (neg : Bool) : R2 := fun x y H Q => ∃ (c : Nat) (z : Str), x = .str ⟨#[c]⟩ ∧ y = .str z ∧ Q (.bl (if neg then !decide (c ∈ z.cps.toList) else decide (c ∈ z.cps.toList))) H
theorem sem_in {K : PySem.W.Frag} {neg : Bool} : OpSem t l I (fun x y H Q => rIn K neg x y H Q ∨ rSg neg x y H Q) (inD neg) := by
  intro O H x y dx dy P Q T ha hx hy hf q
  unfold inD at hf
  have flat : ∀ {d : D}, Bor t O H x d → flatB d = true → Rp t (hd O H) x d := fun {d} b h => by
    rcases b with b | ⟨p, o, rfl, n, hp, c⟩
    · exact b
    · cases c <;> cases h
  cases dy with
  | lst ys =>
    obtain ⟨h1, h2, p1⟩ := hf
    obtain ⟨p, vs, rfl, hp, rp⟩ := hy.lst
    have rx := flat hx h1
    refine .inl ⟨p, vs, rfl, .inl (SqL.of hp), rx.flat h1, rp.flat h2, q.c T ?_ fun _ => .bl _⟩
    unfold inV
    rw [rp.inF rx h1 h2]
    exact p1
  | tup ys =>
    obtain ⟨h1, h2, p1⟩ := hf
    obtain ⟨p, vs, rfl, hp, rp⟩ := hy.tup
    have rx := flat hx h1
    refine .inl ⟨p, vs, rfl, .inr (SqT.of (hd_some hp).2), rx.flat h1, rp.flat h2, q.c T ?_ fun _ => .bl _⟩
    unfold inV
    rw [rp.inF rx h1 h2]
    exact p1
  | str z =>
    cases dx with
    | str s =>
      dsimp only at hf
      split at hf
      · rename_i c hc
        have ex := hx.str
        have ey := hy.str
        subst ex ey
        have es : s = ⟨#[c]⟩ := by
          obtain ⟨⟨ls⟩⟩ := s
          simp only at hc
          rw [hc]
        subst es
        exact .inr ⟨c, z, rfl, rfl, q.c T hf fun _ => .bl _⟩
      · exact hf.elim
    | _ => exact (show False from hf).elim
  | _ => exact (show False from hf).elim
section
variable {a b : Expr} {sa sb : SE}
theorem op_inU : OpR X (compareOp .In) (fun x y H Q => rIn X.K false x y H Q ∨ rSg false x y H Q) := OpR_or op_in_seq fun pins s σ H x y v u Q J rx ry ⟨c, z, ex, ey, q⟩ => op_in_sign pins s σ H x y v u Q J rx ry ⟨c, z, ex, ey, q⟩
theorem op_ninU : OpR X (compareOp .NotIn) (fun x y H Q => rIn X.K true x y H Q ∨ rSg true x y H Q) := OpR_or op_notIn_seq fun pins s σ H x y v u Q J rx ry ⟨c, z, ex, ey, q⟩ => op_notIn_sign pins s σ H x y v u Q J rx ry ⟨c, z, ex, ey, q⟩
theorem e_in (ha : PE X a (rdB' t l I W sa)) (hb : PE X b (rdB' t l I W sb)) (hm : behindInMarks .In b = false := by rfl) : PE X (.Compare a [.In] [b] pos) (rdE t l I W (sOp (inD false) sa sb)) := e_cmp sem_in op_inU ha hb hm
theorem e_notin (ha : PE X a (rdB' t l I W sa)) (hb : PE X b (rdB' t l I W sb)) (hm : behindInMarks .NotIn b = false := by rfl) : PE X (.Compare a [.NotIn] [b] pos) (rdE t l I W (sOp (inD true) sa sb)) := e_cmp sem_in op_ninU ha hb hm
theorem t_in (ha : PE X a (rdB' t l I W sa)) (hb : PE X b (rdB' t l I W sb)) (hm : behindInMarks .In b = false := by rfl) : PT X (.Compare a [.In] [b] pos) (rdT t l I W (sB (sOp (inD false) sa sb))) := t_cmp sem_in op_inU ha hb hm
theorem t_notin (ha : PE X a (rdB' t l I W sa)) (hb : PE X b (rdB' t l I W sb)) (hm : behindInMarks .NotIn b = false := by rfl) : PT X (.Compare a [.NotIn] [b] pos) (rdT t l I W (sB (sOp (inD true) sa sb))) := t_cmp sem_in op_ninU ha hb hm
end
/-- a, b = x, y -/
def sPar (i j : Nat) (sa : SL) : SS := fun ρ S => sa ρ (fun ds => match ds with
  | [x, y] => S.nx ((ρ.set i (.d x)).set j (.d y))
  | _ => False) (fun x => S.ex x ρ)
theorem s_par {i j : Nat} {x y : Str} {a b : Expr} {sa : SL} {px py pt : Pos} {kt k2 pt2} (hc : X.calm = true) (hN : X.N.Nodup) (hi : X.N[i]? = some x) (hj : X.N[j]? = some y) (hij : i ≠ j)
    (hx : X.env.scope.names.lookup x = some .local) (hy : X.env.scope.names.lookup y = some .local) (ha : PA X [a, b] (rdA t l I W sa))
    (hw : swappedStores [.Tuple [.Name x px, .Name y py] kt pt] (.Tuple [a, b] k2 pt2) X.env = pure (some [x, y])) :
    PS X (.Assign [.Tuple [.Name x px, .Name y py] kt pt] (.Tuple [a, b] k2 pt2) pos) (rdS t l I W (sPar i j sa)) :=
  PS_imp (ps_par hc hN hi hj hij hx hy ha hw) fun D σ H ⟨H0, O0, O, ρ, S, E, hs, q⟩ => ⟨H0, O0, O, ρ, _, _, E, hs, fun ds vs H1 p1 k1 r1 => by
    split at p1
    · cases r1 with
      | cons r1 r2 =>
        cases r2 with
        | cons r2 r3 =>
          cases r3
          exact ⟨_, _, rfl, q.nx _ _ _ _ (((E.keep k1).set r1).set r2) p1⟩
    · exact p1.elim, ends_x q E⟩
end
end DS

/-! a def that gives back a new list, which the caller may change -/
namespace DS
open PySem PySem.Spec PyProof.Rows L2
def spO (t l : Addr) (I : TI') (sf : SF) : Sp := fun vs H Q E => ∃ O ds P PX, Tp t l I H ∧ t ∈ O ∧ l ∈ O ∧ (∀ a ∈ O, H a ≠ none) ∧ RpL t (hd O H) vs ds ∧ sf ds P PX ∧
  (∀ d p o H', P d → Kept t l I H H' → H p = none → H' p = some o → Ct t (hd (p :: O) H') o d → Q (.ref p) H') ∧
  (∀ x cls dd H', PX x → Kept t l I H H' → RpX t (hd O H') x cls dd → E cls dd H')
def fnSO (n m : Nat) (ss : SS) : SF := fun ds P PX => ds.length = m ∧ ss (ds.map Slot.d ++ List.replicate (n - m) Slot.no) { nx := fun _ => False, rt := fun _ => False, bk := fun _ => False, ct := fun _ => False, ex := fun x _ => PX x, ro := P }
def sRetO (i : Nat) : SS := fun ρ S => match ρ[i]? with
  | some (.own x) => S.ro x
  | _ => False
def sRetF (se : SE) : SS := fun ρ S => se ρ S.ro (fun x => S.ex x ρ)
section
variable {t l : Addr} {I : TI'} {W : WX} {X : Cx} {pos : Pos}
theorem s_retO (i : Nat) {x : Str} {px : Pos} (hN : X.N[i]? = some x := by rfl) (hv : Vis X.env.scope x := by first | exact Or.inl rfl | exact Or.inr (Or.inl rfl) | exact Or.inr (Or.inr rfl)) (hd' : (x == ("__debug__" : Str)) = false := by decide) (hcd : (x == ("__classdict__" : Str)) = false := by decide) :
    PS X (.Return (some (.Name x px)) pos) (rdS t l I W (sRetO i)) := PS_imp (ps_ret (pe_var hN hv hd' hcd)) fun D σ H ⟨H0, O0, O, ρ, S, E, hs, q⟩ => by
  unfold sRetO at hs
  split at hs
  · rename_i x hx
    obtain ⟨p, o, e, hm, h0, hp, c⟩ := E.slot i _ hx
    exact ⟨_, e, q.ro x p o O H E.toEnvB hs hm h0 hp c⟩
  · exact hs.elim
theorem s_retF {e : Expr} {se : SE} (he : PE X e (rdF t l I W se)) : PS X (.Return (some e) pos) (rdS t l I W (sRetF se)) :=
  PS_imp (ps_ret he) fun D σ H ⟨H0, O0, O, ρ, S, E, hs, q⟩ => ⟨H0, O0, O, ρ, _, _, E, hs, fun d p o H1 p1 k1 n hp c =>
    q.ro d p o (p :: O) H1 (E.reown n k1.2 k1.1 (by rw [hp]; exact fun z => nomatch z)).toEnvB p1 List.mem_cons_self (free_back E.toEnvB n) hp c, ends_x q E⟩
theorem fn_okO {P : Program} {w : World} {K : PySem.W.Frag} {mg : Str → Option Value} {base : Heap} {x qual : Str} {st : Stmt} {f : Addr} {fd : FuncData} {N ps : List Str} {k : Nat} {ss : SS} (F : Fun K x qual st f fd) (S : FnScope N ps (defScope st))
    (hbody : ∀ (cdv : Value) (A : Around) (outer : List PySem.Env) (s : Shared) (H : Hp) (E : XK), Room k (A.deeper (envOfC qual (defScope st) s.heap.objs.size f cdv)) →
      Takes (cxOf (L2.CX P w) P w K mg base N qual (defScope st) f cdv A outer s H E) (fun cls d _ H => E cls d H) →
      PSs (cxOf (L2.CX P w) P w K mg base N qual (defScope st) f cdv A outer s H E) (defBody st) (rdS t l I (fun cls d _ H => E cls d H) ss)) :
    FnOk P w K mg base (L2.CX P w) (k + 1) f fd ps (spO t l I (fnSO N.length ps.length ss)) := by
  refine F.okX S (fun vs H Q E h => ?_) (fun cdv A outer s H vs Q E hr h => ⟨_, hbody cdv A outer s H E hr (takes_of rfl rfl rfl rfl), ?_⟩)
  · obtain ⟨O, ds, P, PX, T, t1, l1, ha, r, ⟨hl, _⟩, _⟩ := h
    rw [r.length]
    exact hl
  · obtain ⟨O, ds, P, PX, T, t1, l1, ha, r, ⟨hl, hs⟩, q, qx⟩ := h
    have hn : N.length - ps.length = N.length - vs.length := by rw [r.length, hl]
    refine ⟨H, O, O, _, _, start_env hn T t1 l1 ha r, hs, ⟨fun _ _ _ _ _ h => h.elim, fun _ _ _ _ _ h => h.elim, fun _ _ _ _ _ h => h.elim, fun _ _ _ _ _ h _ => h.elim, fun x ρ cls dd O' σ' H' E' h r => qx _ _ _ H' h ⟨E'.kept, E'.tp⟩ (r.mono (hd_sub E'.sub)), fun d p o O' H' E' h hm h0 hp c => ?_⟩⟩
    refine q d p o H' h ⟨E'.kept, E'.tp⟩ h0 hp (c.mono (hd_sub fun a z => ?_))
    rcases List.mem_cons.mp z with z | z
    · rw [z]
      exact hm
    · exact E'.sub a z
theorem e_callO {k : Nat} {f : Addr} {fd : FuncData} {ps : List Str} {sf : SF} {x : Str} {p : Pos} {e : Expr} {es : List Expr} {sa : SL} (tk : Takes X W) (F : FnOk X.prog X.w X.K X.mg X.base (L2.CX X.prog X.w) k f fd ps (spO t l I sf)) (hr : Room k X.A) (hm : X.mg x = some (.ref f))
    (hk : PySem.W.keepIn X.K (.ref f) = true) (hb : Binds X.K fd ps []) (ha : PA X (e :: es) (rdA t l I W sa)) (hg : Gl X x := by rfl) (hdb : (x == ("__debug__" : Str)) = false := by decide)
    (he : starEach (e :: es) X.env = (false, eval e X.env) :: starEach es X.env := by rfl) (hpl : (backTo pos (starEach es X.env)).any (·.1) = false := by rfl) : PE X (.Call (.Name x p) (e :: es) [] pos) (rdF t l I W (sCall sf sa)) :=
  PE_imp (pe_callS F hr hg hm hk hb (fun σ => passAt tk σ) ha hdb he hpl) fun σ H Q ⟨H0, O0, O, ρ, P, PX, E, hs, q, qx⟩ =>
    ⟨H0, O0, O, ρ, _, PX, E, hs, fun ds vs H1 p1 k1 r1 => ⟨O, ds, P, PX, k1.2, E.t1, E.l1, (E.keep k1).all, r1, p1, fun d p o H' pd k' n hp c => q d p o H' pd (k1.trans k') (by
      cases z : H p with
      | none => rfl
      | some u => exact absurd n (k1.there k1.2.t_some (by rw [z]; exact fun z => nomatch z))) hp c, qx.keep k1⟩, qx⟩
end
end DS

/-! enumerate, join -/
namespace DS
open PySem PySem.Spec PyProof.Rows L2
section
variable {t l : Addr} {I : TI'} {W : WX} {X : Cx} {pos : Pos} {O : List Addr} {H : Hp}
def enumL (ds : List D) : List D := ds.mapIdx fun i d => .tup [.int (i : Nat), d]
theorem ite_ok {K : PySem.W.Frag} {B : Hp} {a : Addr} {vs : List V} {ds : List D} (h : B a = some (.lst vs)) (r : RpL t B vs ds) : ItOk t l I B (Ite K a) (enumL ds) := fun i O H hs T all => by
  have ha : SqL K H a vs := SqL.of (hd_le _ _ (hs _ _ h))
  have hl := r.length
  have hm : (enumL ds).length = ds.length := List.length_mapIdx ..
  refine ⟨fun hi => ⟨vs, vs[i], ha, by rw [List.getElem?_eq_getElem (by omega)]⟩, fun hi => ⟨vs, ha, by omega⟩, fun x H' _ y => ?_⟩
  obtain ⟨q, w, rfl, nq, rfl, y⟩ := y
  obtain ⟨d, e, rr⟩ := r.out (y vs ha)
  refine ⟨.tup [.int (i : Nat), d], ?_, .new T nq, new_tup T all nq (.cons (.int _) (.cons (rr.mono hs) .nil))⟩
  unfold enumL
  rw [List.getElem?_mapIdx, e]
  rfl
def enD : List D → (List D → Prop) → Prop
  | [.lst ds], P => P (enumL ds)
  | _, _ => False
def siE (sa : SL) : SL := fun ρ P PX => sa ρ (fun ds => enD ds P) PX
theorem i_enum {e : Expr} {sa : SL} {p tpos : Pos} {elts : List Expr} {kk : Nat} (hg : Gl X "enumerate") (hm : X.mg "enumerate" = none) (ha : PA X [e] (rdA t l I W sa)) (hs : starEach [e] X.env = [(false, eval e X.env)] := by rfl) :
    PI X (.Tuple elts kk tpos) (.Call (.Name "enumerate" p) [e] [] pos) (rdI t l I W (siE sa)) :=
  PI_imp (pi_enum hg hm ha hs) fun σ H R ⟨H0, O0, O, ρ, P, PX, E, hs, q, qx⟩ => ⟨H0, O0, O, ρ, _, PX, E, hs, fun ds vs H1 p1 k1 r1 => by
    unfold enD at p1
    split at p1
    · cases r1 with
      | cons a b =>
        cases b
        cases a with
        | lst h r => exact ⟨_, _, rfl, SqL.of (hd_some h).2, q _ _ H1 p1 k1 (ite_ok h r)⟩
    · exact p1.elim, qx⟩
/-- texts of a list -/
def strsD : List D → Option (List Str)
  | [] => some []
  | .str s :: r => (strsD r).map (s :: ·)
  | _ => none
theorem strsD_rel : ∀ {vs : List V} {ds : List D} {ss : List Str}, RpL t H vs ds → strsD ds = some ss → vs = ss.map V.str
  | _, _, _, .nil, h => by
    cases h
    rfl
  | _, .str s :: ds, ss, .cons a b, h => by
    cases z : strsD ds with
    | none =>
      rw [strsD, z] at h
      cases h
    | some ts =>
      rw [strsD, z] at h
      cases h
      cases a
      rw [strsD_rel b z]
      rfl
def joinD : D → D → (D → Prop) → Prop := fun x y P => match x with
  | .str a => (match y with
    | .lst ds => (match strsD ds with
      | some ss => (ss.map (·.length)).sum + ss.length * a.length ≤ 16777216 ∧ P (.str (Txt.join a ss))
      | none => False)
    | .tup ds => (match strsD ds with
      | some ss => (ss.map (·.length)).sum + ss.length * a.length ≤ 16777216 ∧ P (.str (Txt.join a ss))
      | none => False)
    | _ => False)
  | _ => False
def sJoin (sa sb : SE) : SE := fun ρ P PX => sa ρ (fun x => (∃ a, x = .str a) ∧ sb ρ (fun y => joinD x y P) PX) PX
theorem e_join {o e : Expr} {sa sb : SE} {apos : Pos} (ho : PE X o (rdE t l I W sa)) (he : PE X e (rdB' t l I W sb)) (hs : starEach [e] X.env = [(false, eval e X.env)] := by rfl) (hbase : attributeBase o "join" X.env (eval o X.env) = eval o X.env := by rfl) (hline : (apos.endLine == pos.line) = true := by rfl) :
    PE X (.Call (.Attribute o "join" apos) [e] [] pos) (rdE t l I W (sJoin sa sb)) :=
  PE_imp (pe_join ho he hs hbase hline) fun σ H Q ⟨H0, O0, O, ρ, P, PX, E, hs, q, qx⟩ => ⟨H0, O0, O, ρ, _, PX, E, hs, fun d v H1 p1 k1 r1 => by
    obtain ⟨⟨a, rfl⟩, p1⟩ := p1
    cases r1
    refine ⟨⟨a, rfl⟩, H0, O0, O, ρ, _, PX, E.keep k1, p1, fun y w H2 p2 k2 b2 => ?_, qx.keep k1⟩
    unfold joinD at p2
    dsimp only at p2
    cases y with
    | lst ds =>
      obtain ⟨p, vs, rfl, hp, rp⟩ := b2.lst
      dsimp only at p2
      cases z : strsD ds with
      | none =>
        rw [z] at p2
        exact p2.elim
      | some ss =>
        rw [z] at p2
        have es := strsD_rel rp z
        subst es
        exact ⟨a, p, ss, rfl, rfl, .inl (SqL.of hp), p2.1, q _ _ H2 p2.2 (k1.trans k2) (.str _)⟩
    | tup ds =>
      obtain ⟨p, vs, rfl, hp, rp⟩ := b2.tup
      dsimp only at p2
      cases z : strsD ds with
      | none =>
        rw [z] at p2
        exact p2.elim
      | some ss =>
        rw [z] at p2
        have es := strsD_rel rp z
        subst es
        exact ⟨a, p, ss, rfl, rfl, .inr (SqT.of (hd_some hp).2), p2.1, q _ _ H2 p2.2 (k1.trans k2) (.str _)⟩
    | _ => exact (show False from p2).elim, qx⟩
end
end DS

/-! insert and pop of an own list -/
namespace DS
open PySem PySem.Spec PyProof.Rows L2
theorem RpL.erase {t : Addr} {H : Hp} : ∀ {vs : List V} {ds : List D} (n : Nat), RpL t H vs ds → RpL t H (vs.eraseIdx n) (ds.eraseIdx n)
  | _, _, _, .nil => .nil
  | _, _, 0, .cons a b => b
  | _, _, n + 1, .cons a b => .cons a (RpL.erase n b)
def sIns (i : Nat) (sa : SL) : SS := fun ρ S => match ρ[i]? with
  | some (.own (.lst xs)) => xs.length < maxLen ∧ sa ρ (fun ds => match ds with
    | [.int k, d] => 0 ≤ k ∧ k < 2 ^ 63 ∧ S.nx (ρ.set i (.own (.lst (xs.take k.toNat ++ [d] ++ xs.drop k.toNat))))
    | _ => False) (fun x => S.ex x ρ)
  | _ => False
def sPopAt (i : Nat) (sa : SL) : SS := fun ρ S => match ρ[i]? with
  | some (.own (.lst xs)) => sa ρ (fun ds => match ds with
    | [.int k] => -(2 ^ 63) ≤ k ∧ k < 2 ^ 63 ∧ (match seqIndex? k xs.length with
      | some j => j < xs.length ∧ S.nx (ρ.set i (.own (.lst (xs.eraseIdx j))))
      | none => False)
    | _ => False) (fun x => S.ex x ρ)
  | _ => False
section
variable {t l : Addr} {I : TI'} {W : WX} {X : Cx} {pos : Pos} {e : Expr} {es : List Expr} {sa : SL}
theorem s_ins (i : Nat) {x : Str} {px ap cp : Pos} (ha : PA X (e :: es) (rdA t l I W sa)) (hN : X.N[i]? = some x := by rfl) (hv : Vis X.env.scope x := by first | exact Or.inl rfl | exact Or.inr (Or.inl rfl) | exact Or.inr (Or.inr rfl)) (hd' : (x == ("__debug__" : Str)) = false := by decide)
    (hcd : (x == ("__classdict__" : Str)) = false := by decide) (h1 : starEach (e :: es) X.env = (false, eval e X.env) :: starEach es X.env := by rfl)
    (h2 : attributeBase (.Name x px) "insert" X.env (eval (.Name x px) X.env) = eval (.Name x px) X.env := by rfl)
    (h3 : ((backTo cp (starEach (e :: es) X.env)).all (fun z => !z.1) && (backToKw cp (keywordEach [] X.env)).all (fun z => z.1.isSome)
      && decide ((e :: es).length + ([] : List Keyword).length + (if ([] : List Keyword).isEmpty then 0 else 1) < 30)) = true := by rfl)
    (h4 : (ap.endLine == cp.line) = true := by rfl) (h5 : (backTo cp (starEach es X.env)).any (·.1) = false := by rfl)
    (h6 : swapsWith (.Call (.Attribute (.Name x px) "insert" ap) (e :: es) [] cp) none pos.line X.env = pure false := by rfl) : PS X (.Expr (.Call (.Attribute (.Name x px) "insert" ap) (e :: es) [] cp) pos) (rdS t l I W (sIns i sa)) :=
  PS_imp (ps_expr (pe_bm PySem.F.plainAttrs_list PySem.F.slot_list_insert PySem.F.type_list_insert mt_insert (pe_var hN hv hd' hcd) ha h2 h3 h4 h1 h5) h6) fun D σ H ⟨H0, O0, O, ρ, S, E, hs, q⟩ => by
    unfold sIns at hs
    split at hs
    · rename_i xs hx
      obtain ⟨hl, hs⟩ := hs
      obtain ⟨p, o, ee, hm, h0, hp, c⟩ := E.slot i _ hx
      cases c with
      | lst r =>
        refine ⟨_, ee, .inl ⟨rfl, _, SqL.of hp⟩, H0, O0, O, ρ, _, _, E, hs, fun ds vs H1 p1 k1 r1 => ?_, ends_x q E⟩
        have E1 := E.keep k1
        have pt : p ≠ t := fun z => own_ne E.toEnvB h0 (z ▸ E.t0)
        have hp1 := k1.1 p _ pt hp
        have rr := r.mono (k1.same E.t1)
        split at p1
        · rename_i k d
          obtain ⟨g1, g2, p1⟩ := p1
          cases r1 with
          | cons ra rb =>
            cases ra
            cases rb with
            | cons rc rd =>
              cases rd
              refine ⟨p, _, k, _, rfl, rfl, hp1, by rw [rr.length]; exact maxLen_lt hl, g1, g2, q.nx _ _ _ _ (E1.mut hx ee (.lst (((rr.take _).append (.cons rc .nil)).append (rr.drop _)))) p1⟩
        · exact p1.elim
    · exact hs.elim
theorem s_popAt (i : Nat) {x : Str} {px ap cp : Pos} (ha : PA X (e :: es) (rdA t l I W sa)) (hN : X.N[i]? = some x := by rfl) (hv : Vis X.env.scope x := by first | exact Or.inl rfl | exact Or.inr (Or.inl rfl) | exact Or.inr (Or.inr rfl)) (hd' : (x == ("__debug__" : Str)) = false := by decide)
    (hcd : (x == ("__classdict__" : Str)) = false := by decide) (h1 : starEach (e :: es) X.env = (false, eval e X.env) :: starEach es X.env := by rfl)
    (h2 : attributeBase (.Name x px) "pop" X.env (eval (.Name x px) X.env) = eval (.Name x px) X.env := by rfl)
    (h3 : ((backTo cp (starEach (e :: es) X.env)).all (fun z => !z.1) && (backToKw cp (keywordEach [] X.env)).all (fun z => z.1.isSome)
      && decide ((e :: es).length + ([] : List Keyword).length + (if ([] : List Keyword).isEmpty then 0 else 1) < 30)) = true := by rfl)
    (h4 : (ap.endLine == cp.line) = true := by rfl) (h5 : (backTo cp (starEach es X.env)).any (·.1) = false := by rfl)
    (h6 : swapsWith (.Call (.Attribute (.Name x px) "pop" ap) (e :: es) [] cp) none pos.line X.env = pure false := by rfl) : PS X (.Expr (.Call (.Attribute (.Name x px) "pop" ap) (e :: es) [] cp) pos) (rdS t l I W (sPopAt i sa)) :=
  PS_imp (ps_expr (pe_bm PySem.F.plainAttrs_list PySem.F.slot_list_pop PySem.F.type_list_pop mt_popAt (pe_var hN hv hd' hcd) ha h2 h3 h4 h1 h5) h6) fun D σ H ⟨H0, O0, O, ρ, S, E, hs, q⟩ => by
    unfold sPopAt at hs
    split at hs
    · rename_i xs hx
      obtain ⟨p, o, ee, hm, h0, hp, c⟩ := E.slot i _ hx
      cases c with
      | lst r =>
        refine ⟨_, ee, .inl ⟨rfl, _, SqL.of hp⟩, H0, O0, O, ρ, _, _, E, hs, fun ds vs H1 p1 k1 r1 => ?_, ends_x q E⟩
        have E1 := E.keep k1
        have pt : p ≠ t := fun z => own_ne E.toEnvB h0 (z ▸ E.t0)
        have hp1 := k1.1 p _ pt hp
        have rr := r.mono (k1.same E.t1)
        split at p1
        · rename_i k
          obtain ⟨g1, g2, p1⟩ := p1
          cases r1 with
          | cons ra rb =>
            cases ra
            cases rb
            split at p1
            · rename_i j hj
              obtain ⟨jl, p1⟩ := p1
              have jl' := jl
              rw [← rr.length] at jl'
              exact ⟨p, _, k, j, _, rfl, rfl, hp1, g1, g2, by rw [rr.length]; exact hj, List.getElem?_eq_getElem jl', q.nx _ _ _ _ (E1.mut hx ee (.lst (rr.erase j))) p1⟩
            · exact p1.elim
        · exact p1.elim
    · exact hs.elim
end
end DS

/-! own classes: isinstance, own ==, the == that a tuple hands on, the inherited != -/
namespace DS
open PySem PySem.Spec PyProof.Rows L2

structure OwnC (K : PySem.W.Frag) (C : Addr) : Prop where
  cl : Cls K C
  ha : PySem.W.findIn K (.ref C) "__class__" = some (some (.builtin "object.__class__"))
  hn : PySem.W.specialIn K (.builtin "object.__class__") "__get__" = some (some (.builtin "getset_descriptor.__get__"))
  htk : PySem.W.takesIn K (.builtin "object.__class__") = some true
  hm : PySem.W.mroIn K C (.type "object") = some true
  ty : PySem.W.typeIn K (.ref C) = some (.type "type")
  tu : PySem.W.mroIn K C (.type "tuple") = some false
theorem OwnC.ci {K : PySem.W.Frag} {C : Addr} (c : OwnC K C) : (PySem.W.clsIn K C).isSome = true := by
  obtain ⟨cd, hc, _⟩ := PySem.W.any_some c.cl.hd
  rw [hc]
  rfl
/-- the type of plain data, and that it is no class of one's own -/
theorem sub_plain {K : PySem.W.Frag} {C : Addr} {a : String} (h : a ∈ (["NoneType", "bool", "int", "str", "list", "tuple", "dict"] : List String)) : PySem.W.subIn K (.type a) (.ref C) = some false := by
  have key : ∀ l : List Value, fastBuiltinMro a = some l → l.contains (.ref C) = false → PySem.W.subIn K (.type a) (.ref C) = some false := fun l e z => by
    show (fastBuiltinMro a).map (·.contains (.ref C)) = some false
    rw [e, Option.map_some, z]
  simp only [List.mem_cons, List.not_mem_nil, or_false] at h
  rcases h with rfl | rfl | rfl | rfl | rfl | rfl | rfl
  · exact key [.type "NoneType", .type "object"] (by decide +kernel) (by rfl)
  · exact key [.type "bool", .type "int", .type "object"] (by decide +kernel) (by rfl)
  · exact key [.type "int", .type "object"] (by decide +kernel) (by rfl)
  · exact key [.type "str", .type "object"] (by decide +kernel) (by rfl)
  · exact key [.type "list", .type "object"] (by decide +kernel) (by rfl)
  · exact key [.type "tuple", .type "object"] (by decide +kernel) (by rfl)
  · exact key [.type "dict", .type "object"] (by decide +kernel) (by rfl)
theorem kit_own {K : PySem.W.Frag} {C : Addr} {t : Value} {b : Bool} (c : OwnC K C) (ne : (t == .ref C) = false) (h : PySem.W.subIn K t (.ref C) = some b) : PySem.W.kitOne K t (.ref C) = some b := by
  unfold PySem.W.kitOne
  rw [if_neg (by rw [ne]; exact fun z => nomatch z)]
  unfold PySem.W.kitCls
  dsimp only
  rw [if_pos (by rw [c.ci, c.ty]; rfl)]
  exact h
theorem kit_self {K : PySem.W.Frag} {C : Addr} : PySem.W.kitOne K (.ref C) (.ref C) = some true := by
  unfold PySem.W.kitOne
  rw [if_pos (by simp)]
variable {t l : Addr} {I : TI'} {W : WX} {X : Cx} {pos : Pos} {O : List Addr} {H : Hp} {v : V}
theorem Bor.ins {C : Addr} {fs : List (Str × D)} (h : Bor t O H v (.ins C fs)) : ∃ p dx us, v = .ref p ∧ hd O H p = some (.ins C dx us) ∧ RpF t (hd O H) us fs := by
  rcases h with h | ⟨p, o, e, n, h, c⟩
  · cases h with
    | ins h r => exact ⟨_, _, _, rfl, h, r⟩
  · cases c
/-- isinstance(x, C) -/
def isCD (K : PySem.W.Frag) (C : Addr) (d : D) (P : D → Prop) : Prop := match d with
  | .ins C' _ => OwnC K C' ∧ ∃ b, PySem.W.kitOne K (.ref C') (.ref C) = some b ∧ P (.bl b)
  | d => plainTy d = true ∧ P (.bl false)
def sIsC (K : PySem.W.Frag) (C : Addr) (sa : SE) : SE := fun ρ P PX => sa ρ (fun d => isCD K C d P) PX
theorem e_isC {a : Expr} {x : Str} {p p2 : Pos} {C : Addr} {sa : SE} (c : OwnC X.K C) (ha : PE X a (rdB' t l I W sa)) (hm : X.mg x = some (.ref C)) (hmI : X.mg "isinstance" = none) (hg : Gl X x := by rfl) (hgI : Gl X "isinstance" := by rfl) (hd : (x == ("__debug__" : Str)) = false := by decide)
    (hv : bootBuiltins "isinstance" = some (.builtin "isinstance") := by decide +kernel)
    (he : starEach [a, .Name x p2] X.env = (false, eval a X.env) :: starEach [.Name x p2] X.env := by rfl) (hpl : (backTo pos (starEach [.Name x p2] X.env)).any (·.1) = false := by rfl) :
    PE X (.Call (.Name "isinstance" p) [a, .Name x p2] [] pos) (rdE t l I W (sIsC X.K C sa)) :=
  PE_imp (pe_callB call_isi hgI hmI hv (pa_cons (hs := he) ha (pa_cons (pe_glob (v := .ref C) hg hm rfl hd) pa_nil)) (by decide) (by decide) he hpl) fun σ H Q ⟨H0, O0, O, ρ, P, PX, E, hs, q, qx⟩ => ⟨H0, O0, O, ρ, _, PX, E, hs, fun d v H1 p1 k1 b1 => by
    have T1 := k1.2
    show rIsi X.K [v, .ref C] H1 Q
    have q' : ∀ b, P (.bl b) → Q (.bl b) H1 := fun b pb => q _ _ H1 pb k1 (.bl b)
    cases d with
    | ins C' fs =>
      obtain ⟨c', b, kb, pb⟩ := p1
      obtain ⟨pp, dx, us, rfl, hp, _⟩ := b1.ins
      exact ⟨_, _, _, _, b, rfl, .own C, .base (.ins (hd_some hp).2 c'.cl c'.ha c'.hn c'.htk c'.hm), kb, q' b pb⟩
    | _ =>
      obtain ⟨p1, p2⟩ := (show plainTy _ = true ∧ P (.bl false) from p1)
      obtain ⟨a, ht, e, hm⟩ := b1.ty (K := X.K) (by simpa [plainTy] using p1)
      exact ⟨_, _, _, _, false, rfl, .own C, ht, kit_own c (by rfl) (sub_plain (e ▸ hm)), q' false p2⟩, qx⟩

/-! ### == by an own __eq__ -/
structure EqOf (K : PySem.W.Frag) (C f : Addr) : Prop where
  at_ : PySem.W.findIn K (.ref C) "__eq__" = some (some (.ref f))
  fn : PySem.W.isFn K (.ref f) = true
  ne : PySem.W.findIn K (.ref C) "__ne__" = some (some (.builtin "object.__ne__"))
section
variable {k : Nat} {f C : Addr} {fd : FuncData} {ps : List Str} {sf : SF}
theorem run_own (F : FnOk X.prog X.w X.K X.mg X.base (L2.CX X.prog X.w) k f fd ps (spD t l I sf)) (hb : Binds X.K fd ps []) {A : Around} (sb : Sub X k A) {pins : List (Addr × Obj)} {σ : L2.St} {H : Hp} {s : Shared} (J : Inv X pins σ H s) {x y : V} {u v : Value}
    (rx : RelV x u) (ry : RelV y v) {Q : VK} {E' : Value → Shared → Prop} (h : spD t l I sf [x, y] H Q (fun _ _ _ => False)) : wpAny (model X.prog X.w) A (call (.ref f) [u, v]) (EP X pins σ Q) E' s := by
  have e0 : Env0 X.prog X.w X.K X.mg X.base A X.stack s H := by
    have e := J.env0
    exact ⟨by rw [sb.fr]; exact e.frames, e.mod, e.bs, e.bsz, e.funs, e.frf, e.hok, e.bare⟩
  have hl := F.len _ _ _ _ h
  have r2 : Vals [x, y] [u, v] := .cons rx (.cons ry .nil)
  refine wpAny_call (codeAny_mono (F.run A X.stack s H ⟨[u, v], []⟩ [u, v] [x, y] _ (fun _ _ _ => False) sb.room e0 (by
    have := hb s [u, v] J.kIn (by simpa using hl)
    simpa using this) r2 h) fun r s' hq => ?_)
  cases r with
  | error e =>
    obtain ⟨_, _, _, _, _, _, _, _, _, _, _, _, z⟩ := hq
    exact z.elim
  | ok fl =>
    cases fl with
    | ret w =>
      obtain ⟨z, H', I', rz, ez⟩ := J.after hq
      exact ⟨z, H', I', rz, ez⟩
    | next => exact False.elim hq
    | brk => exact False.elim hq
    | cont => exact False.elim hq
end
section
open PySem.W
variable {prog : Program} {w : World} {A : Around} {E : Value → Shared → Prop} {s : Shared} {K : Frag} {x y C L f : Addr} {h₀ : Heap} {m : Str → Option Value} {ox oy : Obj} {od : Option Obj} {b tb : Value}
theorem ifBound_ne {M : Model} {args : List Value} {Q : Option Value → Shared → Prop} (X : K.In s.heap) (I : InstAt s.heap x ox C od) (hs : findIn K (.ref C) "__ne__" = some (some (.builtin "object.__ne__")))
    (h : wpAny M A (call (.builtin "object.__ne__") (.ref x :: args)) (fun v => Q (some v)) E s) : wpAny M A (callSpecialIfBound? (.ref x) "__ne__" args) Q E s := by
  simp only [callSpecialIfBound?, bindSpecialIfBound?]
  refine wpAny_holding (wpAny_bind (wpAny_bind (wpAny_bind (I.type.here ((looks_findIn X hs).here ?_)))))
  refine wpAny_bind (wpAny_askSetting (wpAny_ite ?_))
  have fin : wpAny M A (call (.builtin "object.__ne__") ([.ref x] ++ args) >>= fun v => pure (some v)) Q E s := wpAny_bind (wpAny_mono h (fun v s' h' => wpAny_pure h') fun _ _ h' => h')
  split
  · exact wpAny_bind (wpAny_of_eq (F.cmp_object.ne.bind _) (wpAny_pure (by exact fin)))
  · exact wpAny_tryCatch (wpAny_bind (wpAny_of_eq (F.cmp_object.ne.bind _) (wpAny_pure (by exact fin))))
theorem entry_ne (hu : A.units < cLine) (X : K.In s.heap) (I : InstAt s.heap x ox C od) (hs : findIn K (.ref C) "__eq__" = some (some (.ref f))) (hf : isFn K (.ref f) = true) {Q : Fin → Shared → Prop}
    (hcall : wpAny (model prog w) A (call (.ref f) [.ref x, b]) (fun v s' => ∃ b, v = .bool b ∧ Q (.done (.ret (.bool (!b)))) s') E s) :
    wpAny (model prog w) A (Builtin.«object.__ne__» ⟨[.ref x, b], []⟩) Q E s := by
  unfold Builtin.«object.__ne__»
  repeat (first
    | with_reducible refine wpAny_cRoomFor hu ?_
    | (refine wpAny_bind (m := callSpecialIfBound? (.ref x) (Str.ofString "__eq__") [b])
        (ifBound_K X I hs hf (wpAny_mono hcall (fun v s' hr => by
          obtain ⟨b, rfl, hq⟩ := hr
          repeat (first | exact hq | exact wpAny_pure hq | exact wpAny_truthy_bool hq | (refine wpAny_bind (m := truthy (.bool _)) (wpAny_truthy_bool ?_)) | wp_step)) fun _ _ e => e)))
    | wp_step)
theorem cmpNe_K {Q : Value → Shared → Prop} (hu : A.units + 1 < cLine) (FR : Fr h₀ L s.heap m) (X₀ : K.In h₀) (I : InstAt s.heap x ox C od) (hb : Looks (model prog w) s.heap (typeOf b) tb) (hn : notFirst K C tb = true)
    (hne : findIn K (.ref C) "__ne__" = some (some (.builtin "object.__ne__"))) (hs : findIn K (.ref C) "__eq__" = some (some (.ref f))) (hf : isFn K (.ref f) = true) (hm : mroIn K C (.type "object") = some true)
    (h : wpAny (model prog w) A.in1 (call (.ref f) [.ref x, b]) (fun v s' => ∃ b, v = .bool b ∧ Q (.bool (!b)) s') E s) : wpAny (model prog w) A (richCompare .NotEq (.ref x) b) Q E s := by
  have X := X₀.keeps FR.keep
  have hu' : A.in1.units < cLine := hu
  have one : wpAny (model prog w) A (tryCompare (.ref x) "__ne__" b) (fun r s' => ∃ v, r = some v ∧ Q v s') E s := by
    unfold tryCompare
    refine wpAny_bind (ifBound_ne X I hne (wpAny_call (codeAny_call_builtin F.cmp_object.ne.plain F.cmpEntry_ne (check_slot F.cmpKind_ne F.cmpSplit_ne (I.type.andThen (looks_mroIn X hm)) (F.cmpArgs_ne _ _)
      (entry_ne (A := A.in1) hu' X I hs hf (wpAny_mono h (fun v s' hv => ?_) fun _ _ e => e))))))
    obtain ⟨b, rfl, hq⟩ := hv
    exact ⟨b, rfl, wpAny_pure ⟨_, rfl, hq⟩⟩
  unfold richCompare
  simp only [oneThing_ref]
  refine wpAny_holding (wpAny_bind (wpAny_cRoomFor (Nat.lt_of_succ_lt hu) ?_))
  refine wpAny_bind (I.type.here (wpAny_bind (hb.here ?_)))
  rw [cmpInfo_NotEq]
  dsimp only
  split
  · rename_i q
    have e : subIn K tb (.ref C) = some false := by
      rcases Bool.or_eq_true_iff.mp hn with e | e
      · rw [beq_iff_eq.mp e] at q; simp at q
      · exact beq_iff_eq.mp e
    refine wpAny_bind ((looks_subIn X e).here ?_)
    simp only [Bool.false_eq_true, if_false]
    refine wpAny_bind (wpAny_mono one (fun r s' z => ?_) fun _ _ e => e)
    obtain ⟨v, rfl, hq⟩ := z
    exact wpAny_pure hq
  · refine wpAny_bind (wpAny_pure ?_)
    simp only [Bool.false_eq_true, if_false]
    refine wpAny_bind (wpAny_mono one (fun r s' z => ?_) fun _ _ e => e)
    obtain ⟨v, rfl, hq⟩ := z
    exact wpAny_pure hq
/-- a tuple on the left, an instance on the right -/
theorem cmpRefl_K {items : Array Value} {n : Nat} {dd : Option Addr} {sl : Array (Option Value)} {Q : Value → Shared → Prop} (hu : A.units < cLine) (FR : Fr h₀ L s.heap m) (X₀ : K.In h₀) (ht : s.heap.get? y = some { cls := .type "tuple", dict := dd, data := .seq items n, slots := sl })
    (I : InstAt s.heap x ox C od) (hmt : mroIn K C (.type "tuple") = some false) (hs : findIn K (.ref C) "__eq__" = some (some (.ref f))) (hf : isFn K (.ref f) = true)
    (h : wpAny (model prog w) A (call (.ref f) [.ref x, .ref y]) (PySem.W.CmpBack Q) E s) : wpAny (model prog w) A (richCompare .Eq (.ref y) (.ref x)) Q E s := by
  have X := X₀.keeps FR.keep
  have hT : s.TypeIs (.ref y) "tuple" := ⟨_, ht, rfl⟩
  have sub : subIn K (.ref C) (.type "tuple") = some false := hmt
  have one : wpAny (model prog w) A (tryCompare (.ref y) "__eq__" (.ref x)) (fun r s' => r = none ∧ s' = s) E s :=
    wpAny_tryCompare_declines hT F.slot_tuple_eq (wpAny_call (codeAny_call_builtin F.slot_tuple_eq.plain F.entry_tuple_eq (F.slot_tuple_eq.check _ _ _ _ _ _ _ _ hT (F.args_tuple_eq_2 _ _) (by
      show wpAny _ _ (isInstance (.ref x) (.type "tuple") >>= _) _ _ s
      have lk : Looks (model prog w) s.heap (isInstance (.ref x) (.type "tuple")) false := I.type.andThen (looks_mroIn X hmt)
      refine wpAny_bind (lk.here ?_)
      simp only [Bool.not_false, if_true]
      exact wpAny_pure ⟨rfl, by trivial, rfl⟩))))
  have two : wpAny (model prog w) A (tryCompare (.ref x) "__eq__" (.ref y)) (fun r s' => ∃ v, r = some v ∧ Q v s') E s := by
    unfold tryCompare
    refine wpAny_bind (ifBound_K X I hs hf (wpAny_mono h (fun v s' hv => ?_) fun _ _ e => e))
    cases v <;> first | exact hv.elim | exact wpAny_pure ⟨_, rfl, hv⟩
  simp only [richCompare, cmpInfo_Eq, oneThing_ref]
  refine wpAny_holding (wpAny_bind (wpAny_cRoomFor hu ?_))
  refine wpAny_bind (wpAny_typeOf hT ?_)
  refine wpAny_bind (I.type.here ?_)
  split
  · refine wpAny_bind ((looks_subIn X sub).here ?_)
    simp only [Bool.false_eq_true, if_false, Bool.not_false, if_true]
    refine wpAny_bind (wpAny_mono one (fun r s1 z => ?_) fun _ _ e => e)
    obtain ⟨z1, z2⟩ := z
    subst z1
    subst z2
    refine wpAny_bind (wpAny_mono two (fun r s' z => ?_) fun _ _ e => e)
    obtain ⟨v, rfl, hq⟩ := z
    exact wpAny_pure hq
  · rename_i q
    exact absurd (by simp) q
end
section
variable {k : Nat} {f C : Addr} {fd : FuncData} {ps : List Str} {sf : SF}
def yOk (C : Addr) : D → Prop
  | .ins C2 _ => C2 = C
  | d => plainTy d = true
/-- == (or !=) where an instance of C stands on the left, or on the right of a tuple -/
def eqIns (C : Addr) (sf : SF) (neg : Bool) (x y : D) (P : D → Prop) : Prop := match x with
  | .ins C' _ => C' = C ∧ yOk C y ∧ sf [x, y] (fun r => ∃ b, r = .bl b ∧ P (.bl (if neg then !b else b))) (fun _ => False)
  | .tup _ => (match y with
    | .ins C' _ => C' = C ∧ neg = false ∧ sf [y, x] (fun r => ∃ b, r = .bl b ∧ P (.bl b)) (fun _ => False)
    | _ => False)
  | _ => False
def rEqI (t l : Addr) (I : TI') (C : Addr) (sf : SF) (neg : Bool) : R2 := fun x y H Q => ∃ O dx dy P, Tp t l I H ∧ t ∈ O ∧ l ∈ O ∧ (∀ a ∈ O, H a ≠ none) ∧ Rp t (hd O H) x dx ∧ Rp t (hd O H) y dy ∧ eqIns C sf neg dx dy P ∧ OKQ t l I O H P Q
theorem bl_of {O : List Addr} {H H' : Hp} {r : V} {b : Bool} (h : Rp t (hd O H') r (.bl b)) : r = .bl b := by
  cases h
  rfl
theorem looks_y (oc : OwnC X.K C) {pins : List (Addr × Obj)} {σ : L2.St} {H : Hp} {s : Shared} (J : Inv X pins σ H s) {O : List Addr} {y : V} {u : Value} (ry : RelV y u) {d : D} (r : Rp t (hd O H) y d) (h : yOk C d) : ∃ tb, PySem.W.Looks (model X.prog X.w) s.heap (typeOf u) tb ∧ PySem.W.notFirst X.K C tb = true := by
  cases d with
  | ins C' fs =>
    cases (show C' = C from h)
    obtain ⟨pp, dx, us, rfl, hp, _⟩ := Bor.ins (.inl r)
    obtain ⟨P, Z, p, _⟩ := L2.kit_of J ry (.base (.ins (hd_some hp).2 oc.cl oc.ha oc.hn oc.htk oc.hm))
    exact ⟨_, Z.ty _ _ J.kIn p, by simp [PySem.W.notFirst]⟩
  | _ =>
    obtain ⟨a, ht, e, hm⟩ := Bor.ty (K := X.K) (.inl r) (by simpa [plainTy] using (show plainTy _ = true from h))
    obtain ⟨P, Z, p, _⟩ := L2.kit_of J ry ht
    refine ⟨_, Z.ty _ _ J.kIn p, ?_⟩
    unfold PySem.W.notFirst
    rw [sub_plain (K := X.K) (C := C) (e ▸ hm)]
    simp
theorem op_eqI (oc : OwnC X.K C) (eo : EqOf X.K C f) (F : FnOk X.prog X.w X.K X.mg X.base (L2.CX X.prog X.w) k f fd ps (spD t l I sf)) (hr : Room (k + 1) X.A) (hb : Binds X.K fd ps []) : OpR X (compareOp .Eq) (rEqI t l I C sf false) := by
  intro pins s σ H x y v u Q J rx ry h
  obtain ⟨O, dx, dy, P, T, t1, l1, ha, r1, r2, h, q⟩ := h
  show wpAny (model X.prog X.w) X.A (richCompare .Eq v u) (EP X pins σ Q) X.xe s
  obtain ⟨m, hF⟩ := J.fr
  have hu : X.A.units < cLine := by have := hr.un; omega
  have go : ∀ {z1 z2 : V} {w1 w2 : Value} {d1 d2 : D}, RelV z1 w1 → RelV z2 w2 → Rp t (hd O H) z1 d1 → Rp t (hd O H) z2 d2 → sf [d1, d2] (fun r => ∃ b, r = .bl b ∧ P (.bl b)) (fun _ => False) →
      wpAny (model X.prog X.w) X.A (call (.ref f) [w1, w2]) (PySem.W.CmpBack (EP X pins σ Q)) X.xe s := fun q1 q2 p1 p2 hs =>
    wpAny_mono (run_own (Q := fun r H' => ∃ b, r = .bl b ∧ Q (.bl b) H') F hb ⟨hr.mono (Nat.le_succ _), rfl⟩ J q1 q2 ⟨O, _, _, _, T, t1, l1, ha, .cons p1 (.cons p2 .nil), hs, fun d v H' ⟨b, e, pb⟩ kk rr => by
      subst e
      cases rr
      exact ⟨b, rfl, q (.bl b) (.bl b) H' pb kk (.bl b)⟩, fun _ _ _ _ z => z.elim⟩) (fun r s' ⟨z, H', I', rz, b, ez, qb⟩ => by
      subst ez
      cases (show r = Value.bool b from rz)
      exact ⟨.bl b, H', I', rfl, qb⟩) fun _ _ e => e
  cases dx with
  | ins C' fs =>
    obtain ⟨rfl, h2, h3⟩ := h
    obtain ⟨p, ddx, us, rfl, hp, _⟩ := Bor.ins (.inl r1)
    cases (show v = Value.ref p from rx)
    obtain ⟨mA, J1, _⟩ := ins_get J.hok (hd_some hp).2
    obtain ⟨od, J1, _⟩ := J1.look
    obtain ⟨tb, lk, nf⟩ := looks_y oc J ry r2 h2
    exact PySem.W.cmp_K (op := .Eq) (tb := tb) hu hF J.ok.mod.kin J1 lk nf eo.at_ eo.fn (go rx ry r1 r2 (by simpa using h3))
  | tup ds =>
    cases dy with
    | ins C' fs =>
      obtain ⟨rfl, _, h3⟩ := h
      obtain ⟨p, ddx, us, rfl, hp, _⟩ := Bor.ins (.inl r2)
      cases (show u = Value.ref p from ry)
      obtain ⟨mA, J1, _⟩ := ins_get J.hok (hd_some hp).2
      obtain ⟨od, J1, _⟩ := J1.look
      obtain ⟨pt, vs, rfl, hpt, _⟩ := Bor.tup (.inl r1)
      cases (show v = Value.ref pt from rx)
      obtain ⟨_, its, rv, o, g1, g2, n, g3⟩ := (show ObjOk X.prog X.w H s.heap pt (.tup vs) from J.hok pt _ (hd_some hpt).2)
      obtain ⟨oc1, od1, dt, sl⟩ := o
      simp only at g2 g3
      subst g2 g3
      exact cmpRefl_K hu hF J.ok.mod.kin g1 J1 oc.tu eo.at_ eo.fn (go ry rx r2 r1 h3)
    | _ => exact (show False from h).elim
  | _ => exact (show False from h).elim
theorem op_neI (oc : OwnC X.K C) (eo : EqOf X.K C f) (F : FnOk X.prog X.w X.K X.mg X.base (L2.CX X.prog X.w) k f fd ps (spD t l I sf)) (hr : Room (k + 1) X.A) (hb : Binds X.K fd ps []) : OpR X (compareOp .NotEq) (rEqI t l I C sf true) := by
  intro pins s σ H x y v u Q J rx ry h
  obtain ⟨O, dx, dy, P, T, t1, l1, ha, r1, r2, h, q⟩ := h
  show wpAny (model X.prog X.w) X.A (richCompare .NotEq v u) (EP X pins σ Q) X.xe s
  obtain ⟨m, hF⟩ := J.fr
  have hu : X.A.units + 1 < cLine := by have := hr.un; omega
  cases dx with
  | ins C' fs =>
    obtain ⟨rfl, h2, h3⟩ := h
    obtain ⟨p, ddx, us, rfl, hp, _⟩ := Bor.ins (.inl r1)
    cases (show v = Value.ref p from rx)
    obtain ⟨mA, J1, _⟩ := ins_get J.hok (hd_some hp).2
    obtain ⟨od, J1, _⟩ := J1.look
    obtain ⟨tb, lk, nf⟩ := looks_y oc J ry r2 h2
    refine cmpNe_K (tb := tb) hu hF J.ok.mod.kin J1 lk nf eo.ne eo.at_ eo.fn oc.hm (wpAny_mono (run_own (Q := fun r H' => ∃ b, r = .bl b ∧ Q (.bl (!b)) H') F hb (Sub.in1 ⟨hr, rfl⟩) J rx ry ⟨O, _, _, _, T, t1, l1, ha, .cons r1 (.cons r2 .nil), h3, fun d v H' ⟨b, e, pb⟩ kk rr => by
      subst e
      cases rr
      exact ⟨b, rfl, q (.bl (!b)) (.bl (!b)) H' pb kk (.bl _)⟩, fun _ _ _ _ z => z.elim⟩) (fun r s' ⟨z, H', I', rz, b, ez, qb⟩ => by
      subst ez
      cases (show r = Value.bool b from rz)
      exact ⟨b, rfl, .bl (!b), H', I', rfl, qb⟩) fun _ _ e => e)
  | tup ds =>
    cases dy with
    | ins C' fs => exact absurd h.2.1 (fun z => nomatch z)
    | _ => exact (show False from h).elim
  | _ => exact (show False from h).elim
def sEqI (C : Addr) (sf : SF) (neg : Bool) (sa sb : SE) : SE := fun ρ P PX => sa ρ (fun x => sb ρ (fun y => eqIns C sf neg x y P) PX) PX
theorem eqI_rd {neg : Bool} {sa sb : SE} {σ : L2.St} {H : Hp} {Q : VK} (h : rdE t l I W (sEqI C sf neg sa sb) σ H Q) : rdE t l I W sa σ H (fun x H1 => rdE t l I W sb σ H1 fun y H2 => rEqI t l I C sf neg x y H2 Q) := by
  obtain ⟨H0, O0, O, ρ, P, PX, E, hs, q, qx⟩ := h
  refine ⟨H0, O0, O, ρ, _, PX, E, hs, fun d v H1 p1 k1 b1 => ?_, qx⟩
  refine ⟨H0, O0, O, ρ, _, PX, E.keep k1, p1, fun d2 v2 H2 p2 k2 b2 => ?_, qx.keep k1⟩
  exact ⟨O, d, d2, P, k2.2, E.t1, E.l1, ((E.keep k1).keep k2).all, b1.mono (k2.same E.t1), b2, p2, q.keep (k1.trans k2)⟩
theorem t_rdI {neg : Bool} {sa sb : SE} {σ : L2.St} {H : Hp} {Q : Bool → Hp → Prop} (h : rdT t l I W (sB (sEqI C sf neg sa sb)) σ H Q) : tOp (rEqI t l I C sf neg) (rdE t l I W sa) (rdE t l I W sb) σ H (fun z H3 => ∃ k, z = .bl k ∧ Q k H3) := by
  obtain ⟨H0, O0, O, ρ, P, PX, E, hs, q, qx⟩ := h
  exact eqI_rd ⟨H0, O0, O, ρ, _, PX, E, hs, fun d v H' p k r => by
    obtain ⟨b, rfl, p⟩ := boolD_of p
    cases r
    exact ⟨b, rfl, q b H' p k⟩, qx⟩
section
variable {a b : Expr} {sa sb : SE} (oc : OwnC X.K C) (eo : EqOf X.K C f) (F : FnOk X.prog X.w X.K X.mg X.base (L2.CX X.prog X.w) k f fd ps (spD t l I sf)) (hr : Room (k + 1) X.A) (hb : Binds X.K fd ps []) (ha : PE X a (rdE t l I W sa)) (hbb : PE X b (rdE t l I W sb))
include oc eo F hr hb ha hbb
theorem e_eqI : PE X (.Compare a [.Eq] [b] pos) (rdE t l I W (sEqI C sf false sa sb)) := PE_imp (pe_cmpR (op_eqI oc eo F hr hb) ha hbb (nomark _)) fun σ H Q h => eqI_rd h
theorem e_neI : PE X (.Compare a [.NotEq] [b] pos) (rdE t l I W (sEqI C sf true sa sb)) := PE_imp (pe_cmpR (op_neI oc eo F hr hb) ha hbb (nomark _)) fun σ H Q h => eqI_rd h
theorem t_eqI : PT X (.Compare a [.Eq] [b] pos) (rdT t l I W (sB (sEqI C sf false sa sb))) := PT_imp (pt_cmpR (op_eqI oc eo F hr hb) ha hbb (nomark _)) fun σ H Q h => t_rdI h
theorem t_neI : PT X (.Compare a [.NotEq] [b] pos) (rdT t l I W (sB (sEqI C sf true sa sb))) := PT_imp (pt_cmpR (op_neI oc eo F hr hb) ha hbb (nomark _)) fun σ H Q h => t_rdI h
end
end
end DS

/-! a loop over an own list that the loop leaves alone -/
namespace DS
open PySem PySem.Spec PyProof.Rows L2
variable {t l : Addr} {I : TI'} {W : WX} {X : Cx} {pos : Pos} {H0 H H' : Hp} {O0 O O' : List Addr} {σ σ' : L2.St} {ρ ρ' : List Slot} {p : Addr} {x : D} {o : HO} {i : Nat}
theorem passF : Passes (L2.CX X.prog X.w) X (fun _ _ _ => False) := fun _ _ _ _ _ _ _ hq => by
  obtain ⟨_, _, _, _, _, _, _, _, _, _, _, _, z⟩ := hq
  exact z.elim
def unlk (i : Nat) (p : Addr) (x : D) (P : List Slot → Prop) (ρ : List Slot) : Prop := ρ[i]? = some (.lk p) ∧ P (ρ.set i (.own x))
def forLk (i : Nat) (p : Addr) (x : D) (gs : SG) (sb : SS) (S : EndS) : List D → List Slot → Prop
  | [], ρ => unlk i p x S.nx ρ
  | d :: ds, ρ => gs d ρ (fun ρ1 => sb ρ1 { nx := forLk i p x gs sb S ds, rt := S.rt, bk := unlk i p x S.nx, ct := forLk i p x gs sb S ds, ex := fun z => unlk i p x (S.ex z), ro := S.ro })
def sForO (i : Nat) (gs : SG) (sb : SS) : SS := fun ρ S => match ρ[i]? with
  | some (.own (.lst ds)) => ∀ p, forLk i p (.lst ds) gs sb S ds (ρ.set i (.lk p))
  | _ => False
theorem Env.lock (E : Env t l I H0 O0 O H σ ρ) (hx : ρ[i]? = some (.own x)) (ep : σ[i]? = some (some (.ref p))) (hm : p ∈ O) (h0 : H0 p = none) (hp : H p = some o) (c : Ct t (hd O H) o x) :
    Env t l I (H0b (p :: O0) O H) (p :: O0) O H σ (ρ.set i (.lk p)) := by
  have hl := (List.getElem?_eq_some_iff.mp hx).1
  have z0 : ∀ q, q ∈ O → H0 q = none → q ≠ p → H0b (p :: O0) O H q = none := fun q m n ne => by
    unfold H0b
    exact if_pos ⟨m, fun z => (List.mem_cons.mp z).elim ne (own_ne E.toEnvB n)⟩
  refine ⟨⟨E.tp, List.mem_cons_of_mem _ E.t0, List.mem_cons_of_mem _ E.l0, fun a h => ?_, fun a h => ?_, E.all, fun a o _ e => (H0b_some e).2, fun a h => ?_⟩, by rw [List.length_set]; exact E.len, fun j s h => ?_, fun j k q xi xj h1 h2 h3 h4 => ?_⟩
  · rcases List.mem_cons.mp h with rfl | h
    · exact hm
    · exact E.sub a h
  · unfold H0b
    rw [if_neg fun z => z.2 h]
    rcases List.mem_cons.mp h with rfl | h
    · rw [hp]
      exact fun z => nomatch z
    · exact E.all a (E.sub a h)
  · by_cases z : a ∈ p :: O0
    · exact .inl z
    · refine .inr ?_
      unfold H0b
      rw [if_pos ⟨h, z⟩]
  · by_cases e1 : i = j
    · subst e1
      rw [List.getElem?_set_self hl] at h
      cases h
      exact ep
    · rw [List.getElem?_set_ne e1] at h
      have q := E.slot j s h
      cases s with
      | no => exact True.intro
      | lk p0 => exact q
      | d x => exact q
      | own y =>
        obtain ⟨p2, o2, e2, hm2, h02, hp2, c2⟩ := q
        refine ⟨p2, o2, e2, hm2, z0 p2 hm2 h02 fun z => ?_, hp2, c2⟩
        subst z
        exact e1 (E.dist i j p2 x y hx h ep e2)
      | me p2 C fs =>
        obtain ⟨e2, hm2, h02, dx, us, hp2, r⟩ := q
        refine ⟨e2, hm2, z0 p2 hm2 h02 fun z => ?_, dx, us, hp2, r⟩
        subst z
        rw [hp] at hp2
        cases hp2
        cases c
  · have g : ∀ {j : Nat} {xi : DS.D}, (ρ.set i (Slot.lk p))[j]? = some (Slot.own xi) → ρ[j]? = some (Slot.own xi) := fun {j xi} h => by
      by_cases z : i = j
      · subst z
        rw [List.getElem?_set_self hl] at h
        cases h
      · rw [List.getElem?_set_ne z] at h
        exact h
    exact E.dist j k q xi xj (g h1) (g h2) h3 h4
section
variable (E : EnvB t l I H0 O0 O H) (hm : p ∈ O) (h0 : H0 p = none) (hp : H p = some o) (c : Ct t (hd O H) o x)
include E
theorem lk_back {a : Addr} (h : H0b (p :: O0) O H a = none) : H0 a = none := by
  rcases H0b_none h with z | z
  · rcases E.ownO a z.1 with y | y
    · exact absurd (List.mem_cons_of_mem _ y) z.2
    · exact y
  · exact free_back E z
include h0
theorem EnvB.unlock (E' : EnvB t l I (H0b (p :: O0) O H) (p :: O0) O' H') : EnvB t l I H0 O0 O' H' := by
  refine ⟨E'.tp, E.t0, E.l0, fun a h => E'.sub a (List.mem_cons_of_mem _ h), E.all0, E'.all, fun a o n e => E'.kept a o n ?_, fun a h => ?_⟩
  · unfold H0b
    rw [if_neg fun z => by
      rcases E.ownO a z.1 with y | y
      · exact z.2 (List.mem_cons_of_mem _ y)
      · rw [y] at e
        cases e]
    exact E.kept a o n e
  · rcases E'.ownO a h with y | y
    · rcases List.mem_cons.mp y with rfl | y
      · exact .inr h0
      · exact .inl y
    · exact .inr (lk_back E y)
include hm hp
theorem lk_at (E' : EnvB t l I (H0b (p :: O0) O H) (p :: O0) O' H') : H' p = some o := by
  refine E'.kept p o (fun z => own_ne E h0 (z ▸ E.t0)) ?_
  unfold H0b
  rw [if_neg fun z => z.2 List.mem_cons_self]
  exact hp
omit h0 hp in
theorem lk_same (E' : EnvB t l I (H0b (p :: O0) O H) (p :: O0) O' H') : Same (hd O H) (hd O' H') := fun a o e => by
  obtain ⟨x, y⟩ := hd_some e
  have z : H0b (p :: O0) O H a = some o := by
    unfold H0b
    rw [if_neg fun z => x z.1]
    exact y
  rw [hd_out (fun w => by
    rcases E'.ownO a w with w | w
    · rcases List.mem_cons.mp w with rfl | w
      · exact x hm
      · exact x (E.sub a w)
    · rw [z] at w
      cases w)]
  exact E'.kept a o (fun w => x (w ▸ E.t1)) z
include c
theorem Env.unlock (E' : Env t l I (H0b (p :: O0) O H) (p :: O0) O' H' σ' ρ') (hi : ρ'[i]? = some (.lk p)) : Env t l I H0 O0 O' H' σ' (ρ'.set i (.own x)) := by
  have hl := (List.getElem?_eq_some_iff.mp hi).1
  have ep : σ'[i]? = some (some (.ref p)) := E'.slot i _ hi
  have ne : ∀ {q : Addr}, H0b (p :: O0) O H q = none → q ≠ p := fun h z => by
    subst z
    unfold H0b at h
    rw [if_neg fun z => z.2 List.mem_cons_self, hp] at h
    cases h
  have own_at : ∀ {j : Nat} {y : D} {q : Addr}, j ≠ i → ρ'[j]? = some (.own y) → σ'[j]? = some (some (.ref q)) → q ≠ p := fun n h e => by
    obtain ⟨p2, o2, e2, hm2, h02, hp2, c2⟩ := E'.slot _ _ h
    rw [e] at e2
    cases e2
    exact ne h02
  refine ⟨E.unlock h0 E'.toEnvB, by rw [List.length_set]; exact E'.len, fun j s h => ?_, fun j k q xi xj h1 h2 h3 h4 => ?_⟩
  · by_cases e1 : i = j
    · subst e1
      rw [List.getElem?_set_self hl] at h
      cases h
      exact ⟨p, o, ep, E'.sub p List.mem_cons_self, h0, lk_at E hm h0 hp E'.toEnvB, c.mono (lk_same E hm E'.toEnvB)⟩
    · rw [List.getElem?_set_ne e1] at h
      have q := E'.slot j s h
      cases s with
      | no => exact True.intro
      | lk p0 => exact q
      | d x => exact q
      | own y =>
        obtain ⟨p2, o2, e2, hm2, h02, hp2, c2⟩ := q
        exact ⟨p2, o2, e2, hm2, lk_back E h02, hp2, c2⟩
      | me p2 C fs =>
        obtain ⟨e2, hm2, h02, dx, us, hp2, r⟩ := q
        exact ⟨e2, hm2, lk_back E h02, dx, us, hp2, r⟩
  · by_cases e1 : i = j
    · by_cases e2 : i = k
      · rw [← e1, ← e2]
      · subst e1
        rw [List.getElem?_set_ne e2] at h2
        rw [ep] at h3
        cases h3
        exact absurd rfl (own_at (Ne.symm e2) h2 h4)
    · by_cases e2 : i = k
      · subst e2
        rw [List.getElem?_set_ne e1] at h1
        rw [ep] at h4
        cases h4
        exact absurd rfl (own_at (Ne.symm e1) h1 h3)
      · rw [List.getElem?_set_ne e1] at h1
        rw [List.getElem?_set_ne e2] at h2
        exact E'.dist j k q xi xj h1 h2 h3 h4
end
theorem s_forO (i : Nat) {tg : Expr} {y : Str} {p1 : Pos} {body : List Stmt} {gs : SG} {is : List Nat} {sb : SS} (po : PassesOwn (model X.prog X.w) X.A X.env X.xe) (hc : X.calm = true) (hg : PG X tg (rdG t l I gs is)) (hb : PSs X body (rdS t l I W sb))
    (hN : X.N[i]? = some y := by rfl) (hv : Vis X.env.scope y := by first | exact Or.inl rfl | exact Or.inr (Or.inl rfl) | exact Or.inr (Or.inr rfl)) (hd' : (y == ("__debug__" : Str)) = false := by decide) (hcd : (y == ("__classdict__" : Str)) = false := by decide)
    (hs : ∀ x, foldedSetIterable (.Name y p1) X.env x = pure x := by intro _; rfl) : PS X (.For tg (.Name y p1) body [] pos) (rdS t l I W (sForO i gs sb)) :=
  PS_imp (ps_for po hc (pi_seq (pe_var hN hv hd' hcd)) hg hb hs) fun D σ H ⟨H0, O0, O, ρ, S, E, hs, q⟩ => by
    unfold sForO at hs
    split at hs
    · rename_i ds hx
      obtain ⟨p, o, ep, hm, h0, hp, c⟩ := E.slot i _ hx
      have hp' := hp
      have c' := c
      cases c with
      | @lst vs _ rl =>
      refine ⟨_, ep, p, rfl, .inl ⟨vs, SqL.of hp, ?_⟩⟩
      have E1 := E.lock hx ep hm h0 hp c'
      have hB := E.toEnvB
      refine ⟨fun j m σ H' => m = ds.length - j ∧ j ≤ ds.length ∧ ∃ O' ρ', Env t l I (H0b (p :: O0) O H) (p :: O0) O' H' σ ρ' ∧ forLk i p (.lst ds) gs sb S (ds.drop j) ρ', ⟨ds.length, rfl, Nat.zero_le _, O, _, E1, hs p⟩, ?_⟩
      rintro j m σ2 H2 ⟨rfl, hj, O2, ρ2, E2, f2⟩
      have hL : H2 p = some (.lst vs) := lk_at hB hm h0 hp E2.toEnvB
      have sm := lk_same hB hm E2.toEnvB
      have hlen := rl.length
      by_cases hlt : j < ds.length
      · refine .inr ⟨⟨vs, vs[j], SqL.of hL, by rw [List.getElem?_eq_getElem (by omega)]⟩, fun σ' H' => ∃ m', m' < ds.length - j ∧ (m' = ds.length - (j + 1) ∧ j + 1 ≤ ds.length ∧ ∃ O' ρ', Env t l I (H0b (p :: O0) O H) (p :: O0) O' H' σ' ρ' ∧ forLk i p (.lst ds) gs sb S (ds.drop (j + 1)) ρ'), fun σ' H' z => z, fun x H3 y => ?_⟩
        obtain ⟨rfl, y⟩ := y
        obtain ⟨d, ed, rx⟩ := rl.out (y vs (SqL.of hL))
        rw [drop_cons ed] at f2
        refine ⟨_, _, O2, ρ2, d, _, E2, rx.mono sm, f2, fun σ4 ρ4 E4 p4 _ _ => ?_⟩
        refine ⟨_, _, O2, ρ4, _, E4, p4, ⟨fun O' σ' ρ' H' E' h => ⟨_, by omega, rfl, hlt, O', ρ', E', h⟩, fun O' σ' ρ' H' E' h => q.nx _ _ _ _ (Env.unlock hB hm h0 hp c' E' h.1) h.2, fun O' σ' ρ' H' E' h => ⟨_, by omega, rfl, hlt, O', ρ', E', h⟩,
          fun d v O' H' E' h r => q.rt _ _ _ _ (EnvB.unlock hB h0 E') h r, fun z ρ cls dd O' σ H' E' h r => q.ex _ _ _ _ _ _ _ (Env.unlock hB hm h0 hp c' E' h.1) h.2 r, fun d pp oo O' H' E' h hm1 h01 hp1 cc => q.ro _ _ _ _ _ (EnvB.unlock hB h0 E') h hm1 (lk_back hB h01) hp1 cc⟩⟩
      · have e : j = ds.length := by omega
        subst e
        rw [List.drop_length] at f2
        exact .inl ⟨⟨vs, SqL.of hL, by omega⟩, q.nx _ _ _ _ (Env.unlock hB hm h0 hp c' E2 f2.1) f2.2⟩
    · exact hs.elim
end DS

/-! a tuple times 1 -/
namespace DS
open PySem PySem.Spec PyProof.Rows L2 SeqAt AutoSeq1 MeetsSeq
theorem tuple_mul1 (l : Addr) (items : Array Value) (n : Nat) (dd : Option Addr) (sl : Array (Option Value)) (x : Int) (u : Tok) (c0 : (decide (x < -(2 ^ 63)) || decide (x ≥ 2 ^ 63)) = false) (c1 : (items.isEmpty || x == 1) = true) :
    Meets (Builtin.«tuple.__mul__» ⟨[.ref l, .int x u], []⟩) (fun _ R s => s.heap.get? l = some { cls := .type "tuple", dict := dd, data := .seq items n, slots := sl } ∧
      R (.ok (.ret (Value.ref l))) s) :=
  .of_wp fun prog w A R s h => by
    obtain ⟨hp, g, d, tk, os⟩ := s
    obtain ⟨hl, h⟩ := h
    have f1 := AutoSeq1.idx_int
    wp_walk using wpAny_loadPart' hl
    repeat (first
      | (refine wpAny_ite_false (decide_eq_false (by rw [c0]; exact Bool.false_ne_true)) ?_; wp_walk using wpAny_loadPart' hl)
      | (refine wpAny_ite_true (decide_eq_true (by rw [c1])) ?_; wp_walk using wpAny_loadPart' hl))
    exact ⟨_, rfl, h⟩
def rRep1 (K : PySem.W.Frag) : R2 := fun x y H Q => ∃ l xs, x = .ref l ∧ y = .int 1 ∧ SqT K H l xs ∧ Q (.ref l) H
theorem op_rep1 {X : Cx} : OpR X (binaryOp .Mult) (rRep1 X.K) := by
  intro pins s σ H x y v u Q I rx ry h
  obtain ⟨l, xs, rfl, rfl, hT, q⟩ := h
  cases rx
  obtain ⟨t, rfl⟩ := ry
  obtain ⟨its, r, ⟨⟨cls, dd, data, sl⟩, ho, hc, n, hd⟩, hs⟩ := I.tuple hT
  simp only at hc hd
  subst hc hd
  refine wpAny_binaryOp_repeat_ref (T := "tuple") (U := "int") (by decide) ⟨_, ho, rfl⟩ (fun s' => typeIs_int s' 1 t) noFill_tuple_mul F.fills_int_mul F.slot_int_rmul repeat_tuple F.slot_int_index.lookup
    (call_meets F.slot_int_rmul (typeIs_int s 1 t) F.entry_int_rmul (F.args_int_rmul_2 _ _) (int_rmul_tuple 1 t l its.toArray n dd sl)
      ⟨ho, rfl, ⟨_, ho, rfl⟩, call_meets F.slot_tuple_mul ⟨_, ho, rfl⟩ F.entry_tuple_mul (F.args_tuple_mul_2 _ _) (tuple_mul1 l its.toArray n dd sl 1 t (by decide) (by simp)) ⟨ho, ?_⟩⟩)
  exact ⟨.ref l, H, I, rfl, q⟩
/-- a tuple, not empty, times a small number above nought -/
def mulT : D → D → (D → Prop) → Prop
  | .tup a, .int k, P => a ≠ [] ∧ 1 ≤ k ∧ k ≤ 1000 ∧ a.length ≤ 1000 ∧ P (.tup (List.replicate k.toNat a).flatten)
  | _, _, _ => False
variable {t l : Addr} {I : TI'} {W : WX} {X : Cx} {pos : Pos}
theorem sem_mulT {K : PySem.W.Frag} : OpSem t l I (fun x y H Q => rRep1 K x y H Q ∨ rRepT K x y H Q) mulT := by
  intro O H x y dx dy P Q T ha hx hy hf q
  unfold mulT at hf
  split at hf
  · rename_i a k
    obtain ⟨p, vs, rfl, hp, rp⟩ := hx.tup
    obtain ⟨h0, h1, h2, h3, h4⟩ := hf
    by_cases e : k = 1
    · subst e
      refine .inl ⟨p, vs, rfl, hy.int, SqT.of (hd_some hp).2, q _ _ H h4 (.refl T) ?_⟩
      rw [show (List.replicate (1 : Int).toNat a).flatten = a by simp]
      exact .tup hp rp
    · refine .inr ⟨p, _, vs, rfl, hy.int, SqT.of (hd_some hp).2, fun e => ?_, by omega, h2, by rw [rp.length]; exact h3, fun p2 n => ?_⟩
      · subst e
        cases rp
        exact h0 rfl
      · exact q _ _ _ h4 (.new T n) (new_tup T ha n (rp.rep _))
  · exact hf.elim
theorem e_mulT {a b : Expr} {sa sb : SE} (ha : PE X a (rdB' t l I W sa)) (hb : PE X b (rdB' t l I W sb)) : PE X (.BinOp a .Mult b pos) (rdE t l I W (sOp mulT sa sb)) := e_bin sem_mulT (OpR_or op_rep1 op_repT) ha hb
end DS

/-! own exceptions as values -/
namespace DS
open PySem PySem.Spec PyProof.Rows L2
variable {t l : Addr} {I : TI'} {W : WX} {X : Cx} {pos : Pos} {O : List Addr} {H : Hp} {v : V}
/-- C(), a class without an __init__ of its own -/
theorem pe_exc0 {C : Addr} {x : Str} {p : Pos} (q : PySem.W.excIn X.K C [.type "ValueError", .type "Exception", .type "BaseException", .type "object"] "ValueError.__new__" = true) (gC : X.mg x = some (.ref C)) (kC : PySem.W.keepIn X.K (.ref C) = true) (hg : Gl X x) (hdb : (x == ("__debug__" : Str)) = false := by decide) :
    PE X (.Call (.Name x p) [] [] pos) (fun σ H Q => ∀ a, H a = none → Q (.ref a) (upd H a (exo a C none))) := by
  refine ⟨fun pins s σ H Q I h => ?_⟩
  refine wpAny_Call_Name_kw (ld_glob I hg gC ?_ hdb)
  refine PySem.W.callWith_K0 (first := []) I.kIn kC ?_
  show wpAny _ _ (call (.ref C) []) _ _ _
  obtain ⟨bm, N, nm, qn, bs, hdct, sn, sub, ab, col, dd, k0, k1, k2, k3, k5, mN, hC, hN, hni, T⟩ := exc_obj I.kIn q
  refine wpAny_call_exc_subT PySem.F.excBase_ValueError T hC hN hni (fun h' a hm => ?_) (Nat.zero_le _)
  have hn : H a = none := I.hok.gone hm.new
  obtain ⟨t, ht, _, _⟩ := hm.there
  exact ⟨.ref a, upd H a (exo a C none), I.laidN hm.keeps hm.new hn (exo_ok ht), rfl, h a hn⟩
/-- C(e, ..), C's own __init__ keeping sp, as a value -/
def tMkV (C : Addr) (sp : Sp) (ta : TA) : TE := fun σ H Q => ta σ H fun vs H1 => vs.length ≤ 1000 ∧ ∀ a, H1 a = none → sp (.ref a :: vs) (upd H1 a (exo a C none)) (fun v H2 => v = .non ∧ Q (.ref a) H2) (fun _ _ _ => False)
theorem pe_oex {x : Str} {C fI : Addr} {k : Nat} {fd : FuncData} {ps : List Str} {sp : Sp} {p : Pos} {e : Expr} {es : List Expr} {ta : TA} (T : OexC X.K C) (iC : PySem.W.findIn X.K (.ref C) "__init__" = some (some (.ref fI))) (tI : PySem.W.typeIn X.K (.ref fI) = some (.type "function"))
    (F1 : FnOk X.prog X.w X.K X.mg X.base (L2.CX X.prog X.w) k fI fd ps sp) (hr : Room (k + 1) X.A) (hb : Binds X.K fd ps []) (hg : Gl X x) (hm : X.mg x = some (.ref C)) (ha : PA X (e :: es) ta)
    (hdb : (x == ("__debug__" : Str)) = false := by decide) (he : starEach (e :: es) X.env = (false, eval e X.env) :: starEach es X.env := by rfl) (hpl : (backTo pos (starEach es X.env)).any (·.1) = false := by rfl) :
    PE X (.Call (.Name x p) (e :: es) [] pos) (tMkV C sp ta) := by
  refine ⟨fun pins s σ H Q I h => ?_⟩
  obtain ⟨nm, q, N, bs, bm, sn, sub, ab, col, dd, k0, k1, k2, k3, k5, hC, hbm⟩ := T.cls
  refine wpAny_Call_Name_kw (ld_glob I hg hm ?_ hdb)
  refine PySem.W.callWith_K (h₀ := X.base) I.ok.mod.kin T.kC (thn (ha.run pos pins s σ H _ I h) fun us s1 ⟨vs, H1, I1, r1, hz, q1⟩ => ⟨I1.kIn, ?_⟩) he hpl
  show wpAny _ _ (call (.ref C) us) _ _ _
  obtain ⟨hp, g, dr, tk, os⟩ := s1
  have hsz : hp.objs.size ≤ hp.objs.size + 1 := Nat.le_succ _
  have hn : H1 (hp.objs.size + 1) = none := I1.hok.fresh hsz
  have hq := q1 (hp.objs.size + 1) hn
  have kk : ∀ b o, hp.get? b = some o → ((hp.push (PySem.W.kdv_tup us)).push (PySem.HandSPX.excO C hp.objs.size)).get? b = some o := fun b o e => Heap.get?_push_of_some _ (Heap.get?_push_of_some _ e)
  have hget : ((hp.push (PySem.W.kdv_tup us)).push (PySem.HandSPX.excO C hp.objs.size)).get? (hp.objs.size + 1) = some (PySem.HandSPX.excO C hp.objs.size) := by heap_get
  have I2 : Inv X pins σ (upd H1 (hp.objs.size + 1) (exo (hp.objs.size + 1) C none)) ⟨(hp.push (PySem.W.kdv_tup us)).push (PySem.HandSPX.excO C hp.objs.size), g, dr, tk, os⟩ :=
    I1.laid (t' := tk) (a := hp.objs.size + 1) (o := exo (hp.objs.size + 1) C none) (h' := (hp.push (PySem.W.kdv_tup us)).push (PySem.HandSPX.excO C hp.objs.size)) kk hsz (exo_ok hget)
  have r2 : Vals (V.ref (hp.objs.size + 1) :: vs) (Value.ref (hp.objs.size + 1) :: us) := .cons rfl r1
  have hl : (Value.ref (hp.objs.size + 1) :: us).length = ps.length := by
    have e := r2.length
    rw [F1.len _ _ _ _ hq] at e
    exact e.symm
  have hus : us.length ≤ sizeLine := by
    rw [← Paired.length r1, sizeLine_eq]
    omega
  have bd := hb _ (Value.ref (hp.objs.size + 1) :: us) I2.kIn (by rw [List.append_nil]; exact hl)
  rw [List.append_nil] at bd
  refine wpAny_call (PySem.HandSPX.call_own F.excBase_ValueError (fun Y => PySem.HandSPX.refsVE_contains Y bm hbm) (I1.kIn _ _ hC) (PySem.W.looks_findIn I1.kIn iC) (fun self => PySem.W.bind_fn I1.kIn self tI) hus
    (codeAny_mono (F1.run _ X.stack _ _ ⟨Value.ref (hp.objs.size + 1) :: us, []⟩ (Value.ref (hp.objs.size + 1) :: us) _ _ (fun _ _ _ => False) (hr.make C us []) (I2.env0.make C us []) bd r2 hq) fun r s' hq' => ?_))
  cases r with
  | error er =>
    obtain ⟨_, _, _, _, _, _, _, _, _, _, _, _, z⟩ := hq'
    exact z.elim
  | ok fl =>
    cases fl with
    | ret u =>
      obtain ⟨v, H', J3, rv, ev, q3⟩ := I2.after hq'
      subst ev
      exact ⟨rv, .ref (hp.objs.size + 1), H', J3, rfl, q3⟩
    | next => exact False.elim hq'
    | brk => exact False.elim hq'
    | cont => exact False.elim hq'
/-- e.f, e an exception held as a value -/
theorem pe_xfv {e : Expr} {te : TE} {n : Str} (he : PE X e te) (hb : attributeBase e n X.env (eval e X.env) = eval e X.env) :
    PE X (.Attribute e n pos) (fun σ H Q => te σ H fun x H1 => ∃ a C dd fs v, x = .ref a ∧ XfC X.K C ∧ PySem.W.findIn X.K (.ref C) n = some none ∧ H1 a = some (exo a C (some dd)) ∧ H1 dd = some (exd dd fs) ∧ fs.lookup n = some v ∧ Q v H1) := by
  refine ⟨fun pins s σ H Q I h => ?_⟩
  refine attr_of hb (thn (he.run pins s σ H _ I h) fun u s1 ⟨x, H1, I1, rx, a, C, dd, fs, v, ex, T, hno, ea, ed, l, q⟩ => ?_)
  subst ex
  obtain rfl : u = Value.ref a := rx
  obtain ⟨t1, ho1⟩ := exo_at I1.hok ea
  obtain ⟨mA, hns, hr⟩ := exd_at I1.hok ed
  obtain ⟨od, ho, hl⟩ := lookIn_ns hns
  obtain ⟨u, hu, ru⟩ := RelO.some_of (v := v) (o := mA n) (by rw [← l]; exact hr n)
  have J : PySem.W.InstAt s1.heap a _ C (some od) := ⟨ho1, rfl, rfl, ho⟩
  exact HandSPX.exc_get I1.kIn J T.ga T.gg T.exC (PySem.W.findObj_own T.hdC hno rfl (by rw [hl, hu])) (handed_of ru) ⟨v, H1, I1.tok _, ru, q⟩
/-- the object of an exception's data -/
theorem Bor.exc {C : Addr} {fs : List (Str × D)} (h : Bor t O H v (.exc C fs)) : ∃ p, v = .ref p ∧ ((H p = some (exo p C none) ∧ fs = []) ∨ ∃ dx us, hd O H p = some (exo p C (some dx)) ∧ hd O H dx = some (exd dx us) ∧ RpF t (hd O H) us fs) := by
  rcases h with h | ⟨p, o, e, n, h, c⟩
  · cases h with
    | exc h => exact ⟨_, rfl, .inl ⟨(hd_some h).2, rfl⟩⟩
    | excF h h2 r => exact ⟨_, rfl, .inr ⟨_, _, h, h2, r⟩⟩
  · cases c
/-- a field is read -/
def fldX (K : PySem.W.Frag) (f : Str) (d : D) (P : D → Prop) : Prop := match d with
  | .exc C fs => XfC K C ∧ PySem.W.findIn K (.ref C) f = some none ∧ (match fs.lookup f with
    | some x => P x
    | none => False)
  | _ => False
def sFldX (K : PySem.W.Frag) (f : Str) (se : SE) : SE := fun ρ P PX => se ρ (fun d => fldX K f d P) PX
theorem e_fldX {e : Expr} {f : Str} {se : SE} (he : PE X e (rdE t l I W se)) (hb : attributeBase e f X.env (eval e X.env) = eval e X.env := by rfl) : PE X (.Attribute e f pos) (rdE t l I W (sFldX X.K f se)) :=
  PE_imp (pe_xfv he hb) fun σ H Q ⟨H0, O0, O, ρ, P, PX, E, hs, q, qx⟩ => ⟨H0, O0, O, ρ, _, PX, E, hs, fun d v H1 p1 k1 r1 => by
    cases d with
    | exc C fs =>
      obtain ⟨c, n, p1⟩ := p1
      cases z : fs.lookup f with
      | none =>
        rw [z] at p1
        exact p1.elim
      | some x =>
        rw [z] at p1
        obtain ⟨p, rfl, ⟨_, rfl⟩ | ⟨dx, us, h1, h2, r⟩⟩ := Bor.exc (.inl r1)
        · cases z
        · obtain ⟨v, ev, rv⟩ := r.look z
          exact ⟨p, C, dx, us, v, rfl, c, n, (hd_some h1).2, (hd_some h2).2, ev, q _ _ H1 p1 k1 rv⟩
    | _ => exact (show False from p1).elim, qx⟩
/-! making -/
def sExc0 (C : Addr) : SE := fun _ P _ => P (.exc C [])
theorem e_exc0 {C : Addr} {x : Str} {p : Pos} (q : PySem.W.excIn X.K C [.type "ValueError", .type "Exception", .type "BaseException", .type "object"] "ValueError.__new__" = true) (gC : X.mg x = some (.ref C)) (kC : PySem.W.keepIn X.K (.ref C) = true) (hg : Gl X x := by rfl) (hdb : (x == ("__debug__" : Str)) = false := by decide) :
    PE X (.Call (.Name x p) [] [] pos) (rdE t l I W (sExc0 C)) := PE_imp (pe_exc0 q gC kC hg hdb) fun σ H Q ⟨H0, O0, O, ρ, P, PX, E, hs, qq, qx⟩ => fun a na => by
  refine qq _ _ _ hs (.new E.tp na) (.exc ?_)
  rw [hd_out fun z => E.all a z na]
  exact upd_same
def spX1 (C : Addr) (f : Str) : Sp := fun vs H Q _ => ∃ a y, vs = [.ref a, y] ∧ H a = some (exo a C none) ∧ ∀ dx, H dx = none → dx ≠ a → Q .non (upd (upd H dx (exd dx [(f, y)])) a (exo a C (some dx)))
def spX2 (C : Addr) (f g : Str) : Sp := fun vs H Q _ => ∃ a y z, vs = [.ref a, y, z] ∧ H a = some (exo a C none) ∧ ∀ dx, H dx = none → dx ≠ a → Q .non (upd (upd (upd H dx (exd dx [(f, y)])) a (exo a C (some dx))) dx (exd dx [(g, z), (f, y)]))
def sExc1 (C : Addr) (f : Str) (sa : SL) : SE := fun ρ P PX => sa ρ (fun ds => match ds with
  | [d] => P (.exc C [(f, d)])
  | _ => False) PX
def sExc2 (C : Addr) (f g : Str) (sa : SL) : SE := fun ρ P PX => sa ρ (fun ds => match ds with
  | [d, e] => P (.exc C [(g, e), (f, d)])
  | _ => False) PX
theorem two_new {H : Hp} {a dx : Addr} {o u w : HO} (na : H a = none) (nd : H dx = none) : Same H (upd (upd (upd H a w) dx o) a u) := fun b z e => by
  rw [upd_ne (ne_of_none e na), upd_ne (ne_of_none e nd), upd_ne (ne_of_none e na)]
  exact e
theorem same_hd {H H' : Hp} (k : Same H H') : Same (hd O H) (hd O H') := fun a o e => by
  obtain ⟨x, y⟩ := hd_some e
  rw [hd_out x]
  exact k _ _ y
theorem tp_same {H H' : Hp} (T : Tp t l I H) (k : Same H H') : Tp t l I H' := by
  obtain ⟨ns, i, j, kk, m, h1, h2, h3⟩ := T
  exact ⟨ns, i, j, kk, m, k _ _ h1, k _ _ h2, h3⟩
theorem kept_same {H H' : Hp} (T : Tp t l I H) (k : Same H H') : Kept t l I H H' := ⟨fun a o _ e => k a o e, tp_same T k⟩
section
variable {x f g : Str} {C fI : Addr} {k : Nat} {fd : FuncData} {ps : List Str} {p : Pos} {e e2 : Expr} {sa : SL}
theorem e_exc1 (T : OexC X.K C) (iC : PySem.W.findIn X.K (.ref C) "__init__" = some (some (.ref fI))) (tI : PySem.W.typeIn X.K (.ref fI) = some (.type "function"))
    (F1 : FnOk X.prog X.w X.K X.mg X.base (L2.CX X.prog X.w) k fI fd ps (spX1 C f)) (hr : Room (k + 1) X.A) (hb : Binds X.K fd ps []) (hm : X.mg x = some (.ref C)) (ha : PA X [e] (rdA t l I W sa)) (hg : Gl X x := by rfl)
    (hdb : (x == ("__debug__" : Str)) = false := by decide) (he : starEach [e] X.env = (false, eval e X.env) :: starEach [] X.env := by rfl) (hpl : (backTo pos (starEach [] X.env)).any (·.1) = false := by rfl) :
    PE X (.Call (.Name x p) [e] [] pos) (rdE t l I W (sExc1 C f sa)) := PE_imp (pe_oex T iC tI F1 hr hb hg hm ha hdb he hpl) fun σ H Q ⟨H0, O0, O, ρ, P, PX, E, hs, q, qx⟩ => ⟨H0, O0, O, ρ, _, PX, E, hs, fun ds vs H1 p1 k1 r1 => by
  have hl := r1.length
  split at p1
  · rename_i d
    cases r1 with
    | cons ra rb =>
      cases rb
      rename_i y
      refine ⟨by simp, fun a na => ⟨a, y, rfl, upd_same, fun dx nd ne => ⟨rfl, ?_⟩⟩⟩
      rw [upd_ne ne] at nd
      have sm := two_new (o := exd dx [(f, y)]) (u := exo a C (some dx)) (w := exo a C none) na nd
      have E1 := E.keep k1
      refine q _ _ _ p1 (k1.trans (kept_same k1.2 sm)) (.excF (dx := dx) (fs := [(f, y)]) ?_ ?_ (.cons (ra.mono (same_hd sm)) .nil))
      · rw [hd_out fun z => E1.all a z na, upd_same]
      · rw [hd_out fun z => E1.all dx z nd, upd_ne ne, upd_same]
  · exact p1.elim, qx⟩
theorem e_exc2 (T : OexC X.K C) (iC : PySem.W.findIn X.K (.ref C) "__init__" = some (some (.ref fI))) (tI : PySem.W.typeIn X.K (.ref fI) = some (.type "function"))
    (F1 : FnOk X.prog X.w X.K X.mg X.base (L2.CX X.prog X.w) k fI fd ps (spX2 C f g)) (hr : Room (k + 1) X.A) (hb : Binds X.K fd ps []) (hm : X.mg x = some (.ref C)) (ha : PA X [e, e2] (rdA t l I W sa)) (hg : Gl X x := by rfl)
    (hdb : (x == ("__debug__" : Str)) = false := by decide) (he : starEach [e, e2] X.env = (false, eval e X.env) :: starEach [e2] X.env := by rfl) (hpl : (backTo pos (starEach [e2] X.env)).any (·.1) = false := by rfl) :
    PE X (.Call (.Name x p) [e, e2] [] pos) (rdE t l I W (sExc2 C f g sa)) := PE_imp (pe_oex T iC tI F1 hr hb hg hm ha hdb he hpl) fun σ H Q ⟨H0, O0, O, ρ, P, PX, E, hs, q, qx⟩ => ⟨H0, O0, O, ρ, _, PX, E, hs, fun ds vs H1 p1 k1 r1 => by
  split at p1
  · rename_i d d2
    cases r1 with
    | cons ra rb =>
      cases rb with
      | cons rb rc =>
        cases rc
        rename_i y y2
        refine ⟨by simp, fun a na => ⟨a, y, y2, rfl, upd_same, fun dx nd ne => ⟨rfl, ?_⟩⟩⟩
        rw [upd_ne ne] at nd
        have sm0 := two_new (o := exd dx [(f, y)]) (u := exo a C (some dx)) (w := exo a C none) na nd
        have sm : Same H1 (upd (upd (upd (upd H1 a (exo a C none)) dx (exd dx [(f, y)])) a (exo a C (some dx))) dx (exd dx [(g, y2), (f, y)])) := fun b o z => by
          rw [upd_ne (ne_of_none z nd)]
          exact sm0 _ _ z
        have E1 := E.keep k1
        refine q _ _ _ p1 (k1.trans (kept_same k1.2 sm)) (.excF (dx := dx) (fs := [(g, y2), (f, y)]) ?_ ?_ (.cons (rb.mono (same_hd sm)) (.cons (ra.mono (same_hd sm)) .nil)))
        · rw [hd_out fun z => E1.all a z na, upd_ne ne.symm, upd_same]
        · rw [hd_out fun z => E1.all dx z nd, upd_same]
  · exact p1.elim, qx⟩
end
end DS

/-! isinstance of exceptions held as values -/
namespace DS
open PySem PySem.Spec PyProof.Rows L2
section
open PySem.W PySem.Calls
variable {prog : Program} {w : World} {A : Around} {E : Value → Shared → Prop} {s : Shared} {K : Frag} {x D : Addr} {ox od : Obj}
theorem kin_classS {Q : Option Value → Shared → Prop} (C : ExcC K D) (X : K.In s.heap) (I : InstAt s.heap x ox D (some od)) (h : Q (some (.ref D)) { s with toks := s.toks + 1 }) : wpAny (model prog w) A (getAttr? (.ref x) "__class__") Q E s := by
  have hf : findObj K D (some od) "__class__" = some (.bind (.builtin "getset_descriptor.__get__") (.builtin "object.__class__")) := findObj_data (by obtain ⟨cd, hc, _⟩ := any_some C.hd; rw [hc]; rfl) C.ha C.hn C.ht
  obtain ⟨hp, g, d, t, os⟩ := s
  have k0 := I.type (M := model prog w)
  have k1 := looks_findIn (M := model prog w) X C.hg
  have k2 := looks_findIn (M := model prog w) X C.hk
  have k3 := looks_find (M := model prog w) X I hf
  have sub : Looks (model prog w) hp (isInstance (.ref x) (.type "BaseException")) true := k0.andThen (looks_subIn X C.hs)
  have hx0 : (false && onTheHeap (Value.builtin "BaseException.__getattribute__")) = false := rfl
  have hx2 : (Value.builtin "BaseException.__getattribute__" == Value.builtin "object.__getattribute__") = false := by decide +kernel
  have hx1 : (onTheHeap (Value.ref D) && Value.builtin "BaseException.__getattribute__" == Value.builtin "object.__getattribute__") = false := by rw [hx2]; rfl
  unfold getAttr? getAttrBy? getAttrBy
  refine wpAny_bind (wpAny_mkText (wpAny_bind (wpAny_attempt (wpAny_holding (wpAny_bind (k0.at (wpAny_bind (k1.at ?_))))))))
  show wpAny _ _ (if (onTheHeap (Value.ref D) && Value.builtin "BaseException.__getattribute__" == Value.builtin "object.__getattribute__") = true then _ else _) _ _ _
  rw [hx1, if_neg Bool.false_ne_true]
  unfold getAttrByItsOwn hookBefore
  refine wpAny_bind ?_
  rw [if_pos (show onTheHeap (Value.ref D) = true from rfl)]
  refine k2.at ?_
  refine wpAny_bind (wpAny_attempt (wpAny_holding ?_))
  unfold callGetattribute
  rw [hx0, if_neg Bool.false_ne_true]
  unfold boundAndCalled
  rw [PySem.F.excAttr_ValueError.ga.bind (.ref x)]
  refine wpAny_bind (wpAny_pure ?_)
  show wpAny _ _ (call (.builtin "BaseException.__getattribute__") [.ref x, .str "__class__" t]) _ _ _
  refine wpAny_call (codeAny_call_builtin PySem.F.excAttr_ValueError.ga.plain PySem.F.entry_bexc_ga ?_)
  refine @check_slot (model prog w) _ _ ⟨hp, g, d, t + 1, os⟩ "BaseException.__getattribute__" "BaseException" "__getattribute__" (.ref x) [.str "__class__" t] [] _ (by decide +kernel) (by decide +kernel) sub (PySem.F.args_bexc_ga (.ref x) (.str "__class__" t)) ?_
  unfold Builtin.«object.__getattribute__»
  refine wpAny_bind (wpAny_of_eq (a := ((Value.ref x : Value), [Value.str "__class__" t])) (by first | rfl | (simp only [slotArgs]; rfl)) ?_)
  refine wpAny_bind (wpAny_pure (wpAny_bind (k0.at (wpAny_bind (k3.at ?_)))))
  show wpAny _ _ (holding [Value.builtin "object.__class__"] (call (.builtin "getset_descriptor.__get__") [.builtin "object.__class__", .ref x, .ref D]) >>= ret) _ _ _
  refine wpAny_bind (wpAny_holding (wpAny_call (class_get (s := ⟨hp, g, d, t + 1, os⟩) (ox := ox) (od := some od) X I C.hm ?_)))
  refine wpAny_pure ?_
  show wpAny _ _ (handedOut (.ref D)) _ _ _
  rw [handedOut_of (v := .ref D) rfl]
  first
    | exact wpAny_pure (wpAny_pure h)
    | exact wpAny_pure h
    | exact wpAny_pure (wpAny_bind (wpAny_pure (wpAny_pure h)))
theorem kitx_excS (C : ExcC K D) : KitX K (.ref x) (.ref D) (fun h => InstAt h x ox D (some od)) where
  ty := fun _ _ _ I => I.type
  it := fun _ _ X _ => by
    obtain ⟨cdD, hcD, _⟩ := any_some C.hd
    unfold clsIn at hcD
    split at hcD
    · rename_i c' d' cd' sl' ho
      intro A' Q' E' s' k q
      unfold isType loadHead
      exact wpAny_bind (wpAny_loadPart (k _ _ (X _ _ ho)) (wpAny_pure q))
    · cases hcD
  ne := fun h tp dd its n sl X htp => by
    obtain ⟨cdD, hcD, _⟩ := any_some C.hd
    refine Bool.eq_false_iff.mpr fun q => ?_
    have e : D = tp := Value.ref.inj (beq_iff_eq.mp q)
    subst e
    unfold clsIn at hcD
    split at hcD
    · rename_i c' d' cd' sl' ho
      have z := (X _ _ ho).symm.trans htp
      cases z
    · cases hcD
  ca := fun X I k => kin_classS C X I k
end
variable {t l : Addr} {I : TI'} {W : WX} {X : Cx} {pos : Pos} {O : List Addr} {H : Hp} {v : V}
/-- isinstance(e, c), e an exception held as a value -/
def rIsX (K : PySem.W.Frag) : List V → Hp → VK → Prop := fun xs H Q => ∃ (a C : Addr) (c : V) (cv : Value) (b : Bool), xs = [.ref a, c] ∧ ClsV c cv ∧ ExcC K C ∧ (H a = some (exo a C none) ∨ ∃ dx fs, H a = some (exo a C (some dx)) ∧ H dx = some (exd dx fs)) ∧ PySem.W.kitOne K (.ref C) cv = some b ∧ Q (.bl b) H
theorem call_isX : CallR X (.builtin "isinstance") (rIsX X.K) := by
  intro pins s σ H xs us Q I r h
  obtain ⟨a, C, c, cv, b, rfl, hc, T, ho, e, q⟩ := h
  obtain ⟨u1, u2, rfl, r1, r2⟩ := vals2 r
  have e2 := hc.eq r2
  subst e2
  cases (show u1 = Value.ref a from r1)
  rcases ho with ho | ⟨dx, fs, ho, hd⟩
  · obtain ⟨t1, h1⟩ := exo_at I.hok ho
    have J : PySem.W.InstAt s.heap a _ C none := ⟨h1, rfl, rfl, trivial⟩
    exact PySem.W.kia_one (PySem.W.handS_kitx_exc T.hg T.hk T.hs T.hd T.ha T.hn T.ht T.hm) I.kIn J e (fun z => nomatch z) fun tk => ⟨.bl b, H, I.tok tk, rfl, q⟩
  · obtain ⟨t1, h1⟩ := exo_at I.hok ho
    obtain ⟨mA, hns, hr⟩ := exd_at I.hok hd
    obtain ⟨od, h2, hl⟩ := lookIn_ns hns
    have J : PySem.W.InstAt s.heap a _ C (some od) := ⟨h1, rfl, rfl, h2⟩
    exact PySem.W.kia_one (kitx_excS T) I.kIn J e (fun z => nomatch z) fun tk => ⟨.bl b, H, I.tok tk, rfl, q⟩
def isXD (K : PySem.W.Frag) (cv : Value) (d : D) (P : D → Prop) : Prop := match d with
  | .exc C _ => ExcC K C ∧ ∃ b, PySem.W.kitOne K (.ref C) cv = some b ∧ P (.bl b)
  | _ => False
def sIsX (K : PySem.W.Frag) (cv : Value) (sa : SE) : SE := fun ρ P PX => sa ρ (fun d => isXD K cv d P) PX
theorem isX_rd {cv : Value} {c : V} {K : PySem.W.Frag} (hc : ClsV c cv) {sa : SE} {σ : L2.St} {Q : VK} (h : rdE t l I W (sIsX K cv sa) σ H Q) : rdB' t l I W sa σ H (fun x H1 => rIsX K [x, c] H1 Q) := by
  obtain ⟨H0, O0, O, ρ, P, PX, E, hs, q, qx⟩ := h
  refine ⟨H0, O0, O, ρ, _, PX, E, hs, fun d v H1 p1 k1 b1 => ?_, qx⟩
  cases d with
  | exc C fs =>
    obtain ⟨T, b, kb, pb⟩ := p1
    obtain ⟨p, rfl, ⟨h1, _⟩ | ⟨dx, us, h1, h2, _⟩⟩ := b1.exc
    · exact ⟨p, C, c, cv, b, rfl, hc, T, .inl h1, kb, q _ _ H1 pb k1 (.bl b)⟩
    · exact ⟨p, C, c, cv, b, rfl, hc, T, .inr ⟨dx, us, (hd_some h1).2, (hd_some h2).2⟩, kb, q _ _ H1 pb k1 (.bl b)⟩
  | _ => exact (show False from p1).elim
section
variable {a : Expr} {x : Str} {p p2 : Pos} {C : Addr} {sa : SE}
theorem e_isX (ha : PE X a (rdB' t l I W sa)) (hm : X.mg x = some (.ref C)) (hmI : X.mg "isinstance" = none) (hg : Gl X x := by rfl) (hgI : Gl X "isinstance" := by rfl) (hd : (x == ("__debug__" : Str)) = false := by decide)
    (hv : bootBuiltins "isinstance" = some (.builtin "isinstance") := by decide +kernel)
    (he : starEach [a, .Name x p2] X.env = (false, eval a X.env) :: starEach [.Name x p2] X.env := by rfl) (hpl : (backTo pos (starEach [.Name x p2] X.env)).any (·.1) = false := by rfl) :
    PE X (.Call (.Name "isinstance" p) [a, .Name x p2] [] pos) (rdE t l I W (sIsX X.K (.ref C) sa)) :=
  PE_imp (pe_callB call_isX hgI hmI hv (pa_cons (hs := he) ha (pa_cons (pe_glob (v := .ref C) hg hm rfl hd) pa_nil)) (by decide) (by decide) he hpl) fun σ H Q h => isX_rd (.own C) h
theorem e_isXT {n : String} (ha : PE X a (rdB' t l I W sa)) (hm : X.mg x = none) (hb : bootBuiltins x = some (.type n)) (hmI : X.mg "isinstance" = none) (hg : Gl X x := by rfl) (hgI : Gl X "isinstance" := by rfl) (hd : (x == ("__debug__" : Str)) = false := by decide) (hn : x ≠ "__name__" := by decide)
    (hv : bootBuiltins "isinstance" = some (.builtin "isinstance") := by decide +kernel)
    (he : starEach [a, .Name x p2] X.env = (false, eval a X.env) :: starEach [.Name x p2] X.env := by rfl) (hpl : (backTo pos (starEach [.Name x p2] X.env)).any (·.1) = false := by rfl) :
    PE X (.Call (.Name "isinstance" p) [a, .Name x p2] [] pos) (rdE t l I W (sIsX X.K (.type n) sa)) :=
  PE_imp (pe_callB call_isX hgI hmI hv (pa_cons (hs := he) ha (pa_cons (pe_bltn (v := .ty n) hg hm hb rfl hn hd) pa_nil)) (by decide) (by decide) he hpl) fun σ H Q h => isX_rd (.ty n) h
end
/-! raise C(e) -/
def sRaise1 (C : Addr) (f : Str) (sa : SL) : SS := fun ρ S => sa ρ (fun ds => match ds with
  | [d] => S.ex ⟨C, [(f, d)]⟩ ρ
  | _ => False) (fun x => S.ex x ρ)
theorem s_raise1 {x f : Str} {C fI : Addr} {k : Nat} {fd : FuncData} {ps : List Str} {p pos2 : Pos} {e : Expr} {sa : SL} (hc : X.calm = true) (tk : Takes X W) (T : OexC X.K C) (iC : PySem.W.findIn X.K (.ref C) "__init__" = some (some (.ref fI))) (tI : PySem.W.typeIn X.K (.ref fI) = some (.type "function"))
    (F1 : FnOk X.prog X.w X.K X.mg X.base (L2.CX X.prog X.w) k fI fd ps (spX1 C f)) (hr : Room (k + 1) X.A) (hb : Binds X.K fd ps []) (hm : X.mg x = some (.ref C)) (ha : PA X [e] (rdA t l I W sa)) (hg : Gl X x := by rfl)
    (hdb : (x == ("__debug__" : Str)) = false := by decide) (he : starEach [e] X.env = (false, eval e X.env) :: starEach [] X.env := by rfl) (hpl : (backTo pos (starEach [] X.env)).any (·.1) = false := by rfl) :
    PS X (.Raise (some (.Call (.Name x p) [e] [] pos)) none pos2) (rdS t l I W (sRaise1 C f sa)) :=
  PS_imp (ps_raise hc tk (pmk_oex T iC tI F1 hr hb .nil passF hg hm ha hdb he hpl)) fun D σ H ⟨H0, O0, O, ρ, S, E, hs, q⟩ => ⟨H0, O0, O, ρ, _, _, E, hs, fun ds vs H1 p1 k1 r1 => by
    split at p1
    · rename_i d
      cases r1 with
      | cons ra rb =>
        cases rb
        rename_i y
        have E1 := E.keep k1
        refine ⟨by simp, fun a na => ⟨a, y, rfl, upd_same, fun dx nd ne => ⟨rfl, dx, [(f, y)], upd_same, by rw [upd_ne ne, upd_same], by rw [upd_ne ne] at nd; exact nd, ?_⟩⟩⟩
        rw [upd_ne ne] at nd
        have sm : Same H1 (upd (del (upd (upd (upd H1 a (exo a C none)) dx (exd dx [(f, y)])) a (exo a C (some dx))) a) dx (.xd [(f, y)])) := fun b o z => by
          have hba := ne_of_none z na
          have hbd := ne_of_none z nd
          rw [upd_ne hbd, del_ne hba, upd_ne hba, upd_ne hbd, upd_ne hba]
          exact z
        have kk := kept_same k1.2 sm
        refine q.ex _ _ _ _ _ _ _ (E1.keep kk) p1 ⟨rfl, .inr ⟨dx, [(f, y)], rfl, ?_, .cons (ra.mono (same_hd sm)) .nil⟩⟩
        rw [hd_out fun z => E1.all dx z nd, upd_same]
    · exact p1.elim, ends_x q E⟩
end DS

/-! a dict of one pair: written, compared -/
namespace DS
section
open PySem PySem.W PySem.Spec PyProof.Rows
variable {K : Type} [DecidableEq K] {prog : Program} {w : World} {A : Around} {s : Shared} {knd : KeyKind prog w K}
theorem rcP_dictsNe {a b : Addr} {ka kb : List (K × Value)} {r : Bool} (ha : (a == sysModules) = false) (hb : (b == sysModules) = false)
    (da : s.heap.DictOf knd a ka) (db : s.heap.DictOf knd b kb) (hu : A.units < cLine) (hits : ka.length = kb.length → KeqHitsP prog w A.in1 s kb ka r) (E Q : Value → Shared → Prop) (h : Q (.bool (!(ka.length == kb.length && r))) s) : wpAny (model prog w) A (richCompare .NotEq (.ref a) (.ref b)) Q E s := by
  refine wpAny_richCompare_same_room (op := .NotEq) da.typeIs db.typeIs PySem.F.slot_dict_ne (wpAny_call_entry PySem.F.slot_dict_ne da.typeIs PySem.F.entry_dict_ne ?_ (PySem.F.args_dict_ne_2 _ _)) hu
  show wpAny _ _ (Builtin.Dict.dictSlotArgs "__ne__" ⟨[.ref a, .ref b], []⟩ >>= _) _ _ s
  refine wpAny_bind ?_
  unfold Builtin.Dict.dictSlotArgs
  refine wpAny_bind (wpAny_notOrdered_dict da.typeIs ?_)
  show wpAny _ _ (pure (Value.ref a, Value.ref b)) _ _ s
  refine wpAny_pure ?_
  refine wpAny_bind (wpAny_isInstance (T := "dict") db.typeIs PySem.F.sub_dict_dict ?_)
  simp only [Bool.not_true, Bool.false_eq_true, if_false]
  refine wpAny_bind (wpAny_pure (wpAny_bind (wpAny_pure ?_)))
  refine wpAny_bind (samePairsP ha hb da db hits ?_)
  refine wpAny_pure ⟨_, rfl, ?_, ?_⟩
  · exact fun x => nomatch x
  · simpa using h
end
open PySem PySem.Spec PyProof.Rows L2
variable {t l : Addr} {I : TI'} {W : WX} {X : Cx} {pos : Pos}
theorem RpK.one {t : Addr} {H : Hp} {kvs : List (Key × V)} {x : Str} {i : Int} (h : RpK t H kvs [(.str x, .int i)]) : kvs = [(.inr x, .int i)] := by
  generalize e : ([(D.str x, D.int i)] : List (D × D)) = ds at h
  cases h with
  | nil => cases e
  | @cons k v vs d ds a b =>
    cases k with
    | inl n => cases e
    | inr y =>
      cases e
      cases b
      cases a
      rfl
theorem RpT.one {t : Addr} {H : Hp} {kvs : List (List Key × V)} {x : Str} {i : Int} (h : RpT t H kvs [(.str x, .int i)]) : False := by
  generalize e : ([(D.str x, D.int i)] : List (D × D)) = ds at h
  cases h with
  | nil => cases e
  | cons a b => cases e
theorem Bor.dct1 {O : List Addr} {H : Hp} {v : V} {x : Str} {i : Int} (h : Bor t O H v (.dct [(.str x, .int i)])) : ∃ p, v = .ref p ∧ H p = some (.dK [(.inr x, .int i)]) := by
  rcases h with h | ⟨p, o, e, n, h, c⟩
  · cases h with
    | dct h r => exact ⟨_, rfl, by rw [(hd_some h).2, r.one]⟩
    | dctT h r => exact r.one.elim
  · cases c with
    | dct r => exact ⟨p, e, by rw [h, r.one]⟩
    | dctT r => exact r.one.elim
def rDct (neg : Bool) : R2 := fun x y H Q => ∃ a b k i, x = .ref a ∧ y = .ref b ∧ H a = some (.dK [(.inr k, .int i)]) ∧ H b = some (.dK [(.inr k, .int i)]) ∧ Q (.bl (!neg)) H
theorem kv_one {k : Key} {i : Int} {vs : List (Key × Value)} (h : KV [(k, .int i)] vs) : ∃ u, vs = [(k, .int i u)] := by
  cases h with
  | @cons a b c d r1 r2 =>
    cases r2
    obtain ⟨e1, u, e2⟩ := r1
    obtain ⟨b1, b2⟩ := b
    dsimp only at e1 e2
    subst e1 e2
    exact ⟨u, rfl⟩
theorem op_dct (hu : X.A.units + 64 < cLine) : OpR X (compareOp .Eq) (rDct false) := by
  intro pins s σ H x y v u Q J rx ry h
  obtain ⟨a, b, k, i, rfl, rfl, h1, h2, q⟩ := h
  cases rx
  cases ry
  obtain ⟨_, na, vs, r1, d1⟩ := dk_of J.hok h1
  obtain ⟨_, nb, ws, r2, d2⟩ := dk_of J.hok h2
  obtain ⟨t1, rfl⟩ := kv_one r1
  obtain ⟨t2, rfl⟩ := kv_one r2
  show wpAny (model X.prog X.w) X.A (richCompare .Eq (.ref a) (.ref b)) (EP X pins σ Q) X.xe s
  refine PySem.W.rcP_dicts (r := true && true) na nb d1 d2 (by omega) (fun _ => .hit (y := .int i t2) (by simp [valueAt]) ?_ .nil) _ _ ⟨.bl true, H, J, rfl, q⟩
  have e := SeqAt.EqAt.int_int (A := X.A.in1) (s := s) i t1 i t2
  rw [beq_self_eq_true] at e
  exact e.eqP
theorem op_dctNe (hu : X.A.units + 64 < cLine) : OpR X (compareOp .NotEq) (rDct true) := by
  intro pins s σ H x y v u Q J rx ry h
  obtain ⟨a, b, k, i, rfl, rfl, h1, h2, q⟩ := h
  cases rx
  cases ry
  obtain ⟨_, na, vs, r1, d1⟩ := dk_of J.hok h1
  obtain ⟨_, nb, ws, r2, d2⟩ := dk_of J.hok h2
  obtain ⟨t1, rfl⟩ := kv_one r1
  obtain ⟨t2, rfl⟩ := kv_one r2
  show wpAny (model X.prog X.w) X.A (richCompare .NotEq (.ref a) (.ref b)) (EP X pins σ Q) X.xe s
  refine rcP_dictsNe (r := true && true) na nb d1 d2 (by omega) (fun _ => .hit (y := .int i t2) (by simp [valueAt]) ?_ .nil) _ _ ⟨.bl false, H, J, rfl, q⟩
  have e := SeqAt.EqAt.int_int (A := X.A.in1) (s := s) i t1 i t2
  rw [beq_self_eq_true] at e
  exact e.eqP
/-- == of plain data, or of two dicts with the one same pair -/
def eqX (neg : Bool) (d e : D) (P : D → Prop) : Prop := (∃ x i, d = .dct [(.str x, .int i)] ∧ e = .dct [(.str x, .int i)] ∧ P (.bl (!neg))) ∨ eqD neg d e P
theorem sem_eqX {K : PySem.W.Frag} : OpSem t l I (fun x y H Q => rDct false x y H Q ∨ rEqD K x y H Q) (eqX false) := by
  intro O H x y dx dy P Q T ha hx hy hf q
  rcases hf with ⟨k, i, rfl, rfl, p⟩ | hf
  · obtain ⟨a, rfl, h1⟩ := hx.dct1
    obtain ⟨b, rfl, h2⟩ := hy.dct1
    exact .inl ⟨a, b, k, i, rfl, rfl, h1, h2, q.c T p fun _ => .bl _⟩
  · exact .inr (sem_eq O H x y dx dy P Q T ha hx hy hf q)
theorem sem_neX {K : PySem.W.Frag} : OpSem t l I (fun x y H Q => rDct true x y H Q ∨ rNeD K x y H Q) (eqX true) := by
  intro O H x y dx dy P Q T ha hx hy hf q
  rcases hf with ⟨k, i, rfl, rfl, p⟩ | hf
  · obtain ⟨a, rfl, h1⟩ := hx.dct1
    obtain ⟨b, rfl, h2⟩ := hy.dct1
    exact .inl ⟨a, b, k, i, rfl, rfl, h1, h2, q.c T p fun _ => .bl _⟩
  · exact .inr (sem_ne O H x y dx dy P Q T ha hx hy hf q)
section
variable {a b : Expr} {sa sb : SE} (hu : X.A.units + 64 < cLine) (ha : PE X a (rdB' t l I W sa)) (hb : PE X b (rdB' t l I W sb))
include ha hb hu
theorem e_eqX : PE X (.Compare a [.Eq] [b] pos) (rdE t l I W (sOp (eqX false) sa sb)) := e_cmp sem_eqX (OpR_or (op_dct hu) (op_eqD hu)) ha hb (nomark _)
theorem e_neX : PE X (.Compare a [.NotEq] [b] pos) (rdE t l I W (sOp (eqX true) sa sb)) := e_cmp sem_neX (OpR_or (op_dctNe hu) (op_neD hu)) ha hb (nomark _)
theorem t_eqX : PT X (.Compare a [.Eq] [b] pos) (rdT t l I W (sB (sOp (eqX false) sa sb))) := t_cmp sem_eqX (OpR_or (op_dct hu) (op_eqD hu)) ha hb (nomark _)
theorem t_neX : PT X (.Compare a [.NotEq] [b] pos) (rdT t l I W (sB (sOp (eqX true) sa sb))) := t_cmp sem_neX (OpR_or (op_dctNe hu) (op_neD hu)) ha hb (nomark _)
end
/-- {x: i} -/
def sDct1 (x : Str) (i : Int) : SE := fun _ P _ => P (.dct [(.str x, .int i)])
theorem f_dct1 {x : Str} {i : Int} {j j2 : Nat} {p p2 : Pos} : PE X (.Dict [some (.Constant (.str x) j p)] [.Constant (.int i) j2 p2] pos) (rdF t l I W (sDct1 x i)) :=
  PE_imp (pe_disp (trs := [(tC (.str x), tC (.int i))]) (pps_cons pe_str pe_int pps_nil) rfl rfl (by simp) (by simp)) fun σ H Q ⟨H0, O0, O, ρ, P, PX, E, hs, q, qx⟩ => fun p0 hn => by
    refine ⟨upd_same, [(.inr x, .int i)], rfl, by simp, ?_⟩
    have sm : Same H (upd (upd H p0 (.dK [])) p0 (.dK (mergeK [] [((.inr x : Key), V.int i)]))) := fun b o e => by
      rw [upd_ne (ne_of_none e hn), upd_ne (ne_of_none e hn)]
      exact e
    exact q _ _ _ _ hs (kept_same E.tp sm) hn upd_same (.dct (.cons (k := .inr x) (.int i) .nil))
end DS

namespace DS
open PySem PySem.Spec PyProof.Rows L2
variable {t l : Addr} {I : TI'} {W : WX} {X : Cx} {pos : Pos}
def catD : D → D → (D → Prop) → Prop
  | .lst a, .lst b, P => a.length + b.length ≤ maxLen ∧ P (.lst (a ++ b))
  | _, _, _ => False
theorem f_cat {a b : Expr} {sa sb : SE} (ha : PE X a (rdB' t l I W sa)) (hb : PE X b (rdB' t l I W sb)) : PE X (.BinOp a .Add b pos) (rdF t l I W (sOp catD sa sb)) :=
  PE_imp (pe_op op_cat ha hb) fun σ H Q ⟨H0, O0, O, ρ, P, PX, E, hs, q, qx⟩ => by
    refine ⟨H0, O0, O, ρ, _, PX, E, hs, fun d v H1 p1 k1 b1 => ?_, qx⟩
    refine ⟨H0, O0, O, ρ, _, PX, E.keep k1, p1, fun d2 v2 H2 p2 k2 b2 => ?_, qx.keep k1⟩
    have bb := b1.keep k2 E.t1
    unfold catD at p2
    split at p2
    · obtain ⟨p, vs, rfl, hp, rp⟩ := bb.lst
      obtain ⟨p', vs', rfl, hp', rp'⟩ := b2.lst
      obtain ⟨hl, p2⟩ := p2
      refine ⟨p, p', vs, vs', rfl, rfl, hp, hp', by rw [rp.length, rp'.length]; exact maxLen_le hl, fun p3 n => ?_⟩
      have kk := (k1.trans k2).trans (Kept.new (o := .lst (vs ++ vs')) k2.2 n)
      refine q _ p3 _ _ p2 kk ?_ upd_same (.lst ((rp.append rp').mono (hd_new n)))
      cases z : H p3 with
      | none => rfl
      | some o =>
        exact absurd n (fun y => by
          by_cases e : p3 = t
          · rw [e] at y
            exact k2.2.t_some y
          · rw [(k1.trans k2).1 p3 o e z] at y
            cases y)
    · exact p2.elim
theorem kit_mro {K : PySem.W.Frag} {C c B : Addr} (h : (PySem.W.clsIn K C).map (·.mro) = some [.ref C, .ref B, .type "ValueError", .type "Exception", .type "BaseException", .type "object"]) (hc : (PySem.W.clsIn K c).isSome = true) (ht : PySem.W.typeIn K (.ref c) = some (.type "type")) (ne : c ≠ B) :
    PySem.W.kitOne K (.ref C) (.ref c) = some (decide (C = c)) := by
  by_cases e : C = c
  · subst e
    rw [kit_self, decide_eq_true rfl]
  · rw [decide_eq_false e]
    unfold PySem.W.kitOne
    rw [if_neg (by simpa using e)]
    unfold PySem.W.kitCls
    dsimp only
    rw [if_pos (by rw [hc, ht]; rfl)]
    show PySem.W.mroIn K C (.ref c) = some false
    unfold PySem.W.mroIn
    obtain ⟨cd, h1, h2⟩ := Option.map_eq_some_iff.mp h
    rw [h1, Option.bind_some, h2]
    simp [Ne.symm e, ne]
theorem kit_base {K : PySem.W.Frag} {C B : Addr} (h : (PySem.W.clsIn K C).map (·.mro) = some [.ref C, .ref B, .type "ValueError", .type "Exception", .type "BaseException", .type "object"]) (hc : (PySem.W.clsIn K B).isSome = true) (ht : PySem.W.typeIn K (.ref B) = some (.type "type")) :
    PySem.W.kitOne K (.ref C) (.ref B) = some true := by
  by_cases e : C = B
  · subst e
    exact kit_self
  · unfold PySem.W.kitOne
    rw [if_neg (by simpa using e)]
    unfold PySem.W.kitCls
    dsimp only
    rw [if_pos (by rw [hc, ht]; rfl)]
    show PySem.W.mroIn K C (.ref B) = some true
    unfold PySem.W.mroIn
    obtain ⟨cd, h1, h2⟩ := Option.map_eq_some_iff.mp h
    rw [h1, Option.bind_some, h2]
    simp
theorem kit_ve {K : PySem.W.Frag} {C B : Addr} (h : (PySem.W.clsIn K C).map (·.mro) = some [.ref C, .ref B, .type "ValueError", .type "Exception", .type "BaseException", .type "object"]) : PySem.W.kitOne K (.ref C) (.type "ValueError") = some true := by
  unfold PySem.W.kitOne
  rw [if_neg (by simp)]
  unfold PySem.W.kitCls
  dsimp only
  rw [if_pos (by decide +kernel)]
  show PySem.W.mroIn K C _ = some true
  unfold PySem.W.mroIn
  obtain ⟨cd, h1, h2⟩ := Option.map_eq_some_iff.mp h
  rw [h1, Option.bind_some, h2]
  simp
end DS


namespace Dice
open PySem PySem.Spec PyProof.Rows L2 DS
section
variable {K : PySem.W.Frag} {t L : Addr} {σ : L2.St} {H : Hp} {xs : List V} {v : V} {Q : VK}
theorem ixn {n j : Nat} (h : j < n) : ixN n (j : Int) = some j := by
  have h1 : (0 : Int) ≤ (j : Int) := by omega
  have h2 : (j : Int) < (n : Int) := by omega
  simp [ixN, h1, h2]
theorem ix (hT : H t = some (.lst xs)) {j : Nat} (hx : xs[j]? = some v) (q : Q v H) (h0 : σ[0]? = some (some (.ref t)) := by rfl) : tOp (rIxL K) (tVar 0) (tC (.int (j : Int))) σ H Q :=
  ⟨_, h0, t, xs, (j : Int), v, rfl, rfl, SqL.of hT, atI_nat hx, q⟩
theorem seq_c {c : V} {i : Nat} {R : TS} {D : Ends} (h : R D (σ.set i (some c)) H) : tSeq (tAsg (tC c) (gName i)) R D σ H := h
theorem seq_by {S1 R : TS} {D : Ends} (N : L2.St → Hp → Prop) (hR : ∀ σ H, N σ H → R D σ H) (h1 : ∀ nx : L2.St → Hp → Prop, (∀ σ H, N σ H → nx σ H) → S1 { D with nx := nx } σ H) : tSeq S1 R D σ H := h1 _ hR
theorem set (hT : H t = some (.lst xs)) {j : Nat} {R : L2.St → Hp → Prop} (hj : j < xs.length) (q : R σ (upd H t (.lst (xs.set j v)))) (h0 : σ[0]? = some (some (.ref t)) := by rfl) : gSub (tVar 0) (tC (.int (j : Int))) rSetL v σ H R :=
  ⟨_, h0, t, xs, (j : Int), j, rfl, rfl, hT, ixn hj, q⟩
end
end Dice
namespace Lw
open PySem PySem.Spec PyProof.Rows L2 DS
def top (i : Nat) : Stmt := PySem.Challenge.pw_fullbelts_k00_errors_and_their_fields.main.body.getD i (.Pass ⟨0, 0, 0, 0⟩)
abbrev f_BadProgram___init___st : Stmt := inClass (top 2) 0
abbrev f_BadProgram___init___N : List Str := ["self", "part"]
theorem f_BadProgram___init___sc : FnScope f_BadProgram___init___N ["self", "part"] (defScope f_BadProgram___init___st) := ⟨rfl, rfl, rfl, by decide +kernel, rfl, by decide +kernel, by decide +kernel⟩
abbrev f_NoName___init___st : Stmt := inClass (top 6) 0
abbrev f_NoName___init___N : List Str := ["self", "name"]
theorem f_NoName___init___sc : FnScope f_NoName___init___N ["self", "name"] (defScope f_NoName___init___st) := ⟨rfl, rfl, rfl, by decide +kernel, rfl, by decide +kernel, by decide +kernel⟩
abbrev f_BadCode___init___st : Stmt := inClass (top 13) 0
abbrev f_BadCode___init___N : List Str := ["self", "part"]
theorem f_BadCode___init___sc : FnScope f_BadCode___init___N ["self", "part"] (defScope f_BadCode___init___st) := ⟨rfl, rfl, rfl, by decide +kernel, rfl, by decide +kernel, by decide +kernel⟩
abbrev f_TooLarge___init___st : Stmt := inClass (top 18) 0
abbrev f_TooLarge___init___N : List Str := ["self", "most"]
theorem f_TooLarge___init___sc : FnScope f_TooLarge___init___N ["self", "most"] (defScope f_TooLarge___init___st) := ⟨rfl, rfl, rfl, by decide +kernel, rfl, by decide +kernel, by decide +kernel⟩
abbrev f_TooSmall___init___st : Stmt := inClass (top 21) 0
abbrev f_TooSmall___init___N : List Str := ["self", "least"]
theorem f_TooSmall___init___sc : FnScope f_TooSmall___init___N ["self", "least"] (defScope f_TooSmall___init___st) := ⟨rfl, rfl, rfl, by decide +kernel, rfl, by decide +kernel, by decide +kernel⟩
abbrev f_BadText___init___st : Stmt := inClass (top 25) 0
abbrev f_BadText___init___N : List Str := ["self", "line"]
theorem f_BadText___init___sc : FnScope f_BadText___init___N ["self", "line"] (defScope f_BadText___init___st) := ⟨rfl, rfl, rfl, by decide +kernel, rfl, by decide +kernel, by decide +kernel⟩
abbrev f_Faulty___init___st : Stmt := inClass (top 27) 0
abbrev f_Faulty___init___N : List Str := ["self", "place", "name"]
theorem f_Faulty___init___sc : FnScope f_Faulty___init___N ["self", "place", "name"] (defScope f_Faulty___init___st) := ⟨rfl, rfl, rfl, by decide +kernel, rfl, by decide +kernel, by decide +kernel⟩
abbrev f_law_tape_st : Stmt := top 32
abbrev f_law_tape_N : List Str := ["_law_script"]
theorem f_law_tape_sc : FnScope f_law_tape_N ["_law_script"] (defScope f_law_tape_st) := ⟨rfl, rfl, rfl, by decide +kernel, rfl, by decide +kernel, by decide +kernel⟩
abbrev f_law_pick_st : Stmt := top 33
abbrev f_law_pick_N : List Str := ["_law_tape_here", "_law_size", "_law_cell", "_law_mixed", "_law_digit"]
theorem f_law_pick_sc : FnScope f_law_pick_N ["_law_tape_here", "_law_size"] (defScope f_law_pick_st) := ⟨rfl, rfl, rfl, by decide +kernel, rfl, by decide +kernel, by decide +kernel⟩
abbrev f_law_kinds_st : Stmt := top 34
abbrev f_law_kinds_N : List Str := ["_law_e", "_law_kinds_here"]
theorem f_law_kinds_sc : FnScope f_law_kinds_N ["_law_e"] (defScope f_law_kinds_st) := ⟨rfl, rfl, rfl, by decide +kernel, rfl, by decide +kernel, by decide +kernel⟩
abbrev f_law_made_st : Stmt := top 35
abbrev f_law_made_N : List Str := ["_law_value", "_law_other", "_law_made_here"]
theorem f_law_made_sc : FnScope f_law_made_N ["_law_value", "_law_other"] (defScope f_law_made_st) := ⟨rfl, rfl, rfl, by decide +kernel, rfl, by decide +kernel, by decide +kernel⟩
abbrev f_law_fields_st : Stmt := top 36
abbrev f_law_fields_N : List Str := ["_law_made_here", "_law_value", "_law_other", "_law_kept", "_law_last"]
theorem f_law_fields_sc : FnScope f_law_fields_N ["_law_made_here", "_law_value", "_law_other"] (defScope f_law_fields_st) := ⟨rfl, rfl, rfl, by decide +kernel, rfl, by decide +kernel, by decide +kernel⟩
abbrev f_law_caught_st : Stmt := top 37
abbrev f_law_caught_N : List Str := ["_law_which", "_law_value", "_law_told"]
theorem f_law_caught_sc : FnScope f_law_caught_N ["_law_which", "_law_value"] (defScope f_law_caught_st) := ⟨rfl, rfl, rfl, by decide +kernel, rfl, by decide +kernel, by decide +kernel⟩
abbrev f_law_st : Stmt := top 38
abbrev f_law_N : List Str := ["_law_script", "_law_tape_here", "_law_things", "_law_value", "_law_other", "_law_made_here", "_law_k", "_law_which", "_law_place"]
theorem f_law_sc : FnScope f_law_N ["_law_script"] (defScope f_law_st) := ⟨rfl, rfl, rfl, by decide +kernel, rfl, by decide +kernel, by decide +kernel⟩
structure Ad where
  c_BadCode : Addr
  c_BadMachine : Addr
  c_BadNeed : Addr
  c_BadProgram : Addr
  c_BadText : Addr
  c_BeltsError : Addr
  c_Faulty : Addr
  c_NoBelt : Addr
  c_NoCarries : Addr
  c_NoHolding : Addr
  c_NoLine : Addr
  c_NoName : Addr
  c_NoNames : Addr
  c_NoNumber : Addr
  c_NoPlace : Addr
  c_NoRing : Addr
  c_NoRoute : Addr
  c_NoSeating : Addr
  c_NoWalk : Addr
  c_NoWay : Addr
  c_NoneLed : Addr
  c_NotFull : Addr
  c_NotRight : Addr
  c_NotStraight : Addr
  c_NotStrong : Addr
  c_NothingDone : Addr
  c_OtherSize : Addr
  c_Over : Addr
  c_TooLarge : Addr
  c_TooSmall : Addr
  p_f_BadProgram___init__ : Addr
  d_f_BadProgram___init__ : FuncData
  p_f_NoName___init__ : Addr
  d_f_NoName___init__ : FuncData
  p_f_BadCode___init__ : Addr
  d_f_BadCode___init__ : FuncData
  p_f_TooLarge___init__ : Addr
  d_f_TooLarge___init__ : FuncData
  p_f_TooSmall___init__ : Addr
  d_f_TooSmall___init__ : FuncData
  p_f_BadText___init__ : Addr
  d_f_BadText___init__ : FuncData
  p_f_Faulty___init__ : Addr
  d_f_Faulty___init__ : FuncData
  p_f_law_tape : Addr
  d_f_law_tape : FuncData
  p_f_law_pick : Addr
  d_f_law_pick : FuncData
  p_f_law_kinds : Addr
  d_f_law_kinds : FuncData
  p_f_law_made : Addr
  d_f_law_made : FuncData
  p_f_law_fields : Addr
  d_f_law_fields : FuncData
  p_f_law_caught : Addr
  d_f_law_caught : FuncData
  p_f_law : Addr
  d_f_law : FuncData
structure Txt (K : PySem.W.Frag) (mg : Str → Option Value) (a : Ad) : Prop where
  n_ValueError : mg "ValueError" = none
  n_bool : mg "bool" = none
  n_int : mg "int" = none
  n_isinstance : mg "isinstance" = none
  n_len : mg "len" = none
  n_list : mg "list" = none
  n_range : mg "range" = none
  g_BadCode : mg "BadCode" = some (.ref a.c_BadCode)
  k_BadCode : PySem.W.keepIn K (.ref a.c_BadCode) = true
  b_BadCode : PySem.W.subIn K (.ref a.c_BadCode) (.type "BaseException") = some true
  t_BadCode : PySem.W.typeIn K (.ref a.c_BadCode) = some (.type "type")
  g_BadMachine : mg "BadMachine" = some (.ref a.c_BadMachine)
  x_BadMachine : PySem.W.excIn K a.c_BadMachine [.type "ValueError", .type "Exception", .type "BaseException", .type "object"] "ValueError.__new__" = true
  k_BadMachine : PySem.W.keepIn K (.ref a.c_BadMachine) = true
  b_BadMachine : PySem.W.subIn K (.ref a.c_BadMachine) (.type "BaseException") = some true
  t_BadMachine : PySem.W.typeIn K (.ref a.c_BadMachine) = some (.type "type")
  g_BadNeed : mg "BadNeed" = some (.ref a.c_BadNeed)
  x_BadNeed : PySem.W.excIn K a.c_BadNeed [.type "ValueError", .type "Exception", .type "BaseException", .type "object"] "ValueError.__new__" = true
  k_BadNeed : PySem.W.keepIn K (.ref a.c_BadNeed) = true
  b_BadNeed : PySem.W.subIn K (.ref a.c_BadNeed) (.type "BaseException") = some true
  t_BadNeed : PySem.W.typeIn K (.ref a.c_BadNeed) = some (.type "type")
  g_BadProgram : mg "BadProgram" = some (.ref a.c_BadProgram)
  k_BadProgram : PySem.W.keepIn K (.ref a.c_BadProgram) = true
  b_BadProgram : PySem.W.subIn K (.ref a.c_BadProgram) (.type "BaseException") = some true
  t_BadProgram : PySem.W.typeIn K (.ref a.c_BadProgram) = some (.type "type")
  g_BadText : mg "BadText" = some (.ref a.c_BadText)
  k_BadText : PySem.W.keepIn K (.ref a.c_BadText) = true
  b_BadText : PySem.W.subIn K (.ref a.c_BadText) (.type "BaseException") = some true
  t_BadText : PySem.W.typeIn K (.ref a.c_BadText) = some (.type "type")
  g_BeltsError : mg "BeltsError" = some (.ref a.c_BeltsError)
  x_BeltsError : PySem.W.excIn K a.c_BeltsError [.type "ValueError", .type "Exception", .type "BaseException", .type "object"] "ValueError.__new__" = true
  k_BeltsError : PySem.W.keepIn K (.ref a.c_BeltsError) = true
  b_BeltsError : PySem.W.subIn K (.ref a.c_BeltsError) (.type "BaseException") = some true
  t_BeltsError : PySem.W.typeIn K (.ref a.c_BeltsError) = some (.type "type")
  g_Faulty : mg "Faulty" = some (.ref a.c_Faulty)
  k_Faulty : PySem.W.keepIn K (.ref a.c_Faulty) = true
  b_Faulty : PySem.W.subIn K (.ref a.c_Faulty) (.type "BaseException") = some true
  t_Faulty : PySem.W.typeIn K (.ref a.c_Faulty) = some (.type "type")
  g_NoBelt : mg "NoBelt" = some (.ref a.c_NoBelt)
  x_NoBelt : PySem.W.excIn K a.c_NoBelt [.type "ValueError", .type "Exception", .type "BaseException", .type "object"] "ValueError.__new__" = true
  k_NoBelt : PySem.W.keepIn K (.ref a.c_NoBelt) = true
  b_NoBelt : PySem.W.subIn K (.ref a.c_NoBelt) (.type "BaseException") = some true
  t_NoBelt : PySem.W.typeIn K (.ref a.c_NoBelt) = some (.type "type")
  g_NoCarries : mg "NoCarries" = some (.ref a.c_NoCarries)
  x_NoCarries : PySem.W.excIn K a.c_NoCarries [.type "ValueError", .type "Exception", .type "BaseException", .type "object"] "ValueError.__new__" = true
  k_NoCarries : PySem.W.keepIn K (.ref a.c_NoCarries) = true
  b_NoCarries : PySem.W.subIn K (.ref a.c_NoCarries) (.type "BaseException") = some true
  t_NoCarries : PySem.W.typeIn K (.ref a.c_NoCarries) = some (.type "type")
  g_NoHolding : mg "NoHolding" = some (.ref a.c_NoHolding)
  x_NoHolding : PySem.W.excIn K a.c_NoHolding [.type "ValueError", .type "Exception", .type "BaseException", .type "object"] "ValueError.__new__" = true
  k_NoHolding : PySem.W.keepIn K (.ref a.c_NoHolding) = true
  b_NoHolding : PySem.W.subIn K (.ref a.c_NoHolding) (.type "BaseException") = some true
  t_NoHolding : PySem.W.typeIn K (.ref a.c_NoHolding) = some (.type "type")
  g_NoLine : mg "NoLine" = some (.ref a.c_NoLine)
  x_NoLine : PySem.W.excIn K a.c_NoLine [.type "ValueError", .type "Exception", .type "BaseException", .type "object"] "ValueError.__new__" = true
  k_NoLine : PySem.W.keepIn K (.ref a.c_NoLine) = true
  b_NoLine : PySem.W.subIn K (.ref a.c_NoLine) (.type "BaseException") = some true
  t_NoLine : PySem.W.typeIn K (.ref a.c_NoLine) = some (.type "type")
  g_NoName : mg "NoName" = some (.ref a.c_NoName)
  k_NoName : PySem.W.keepIn K (.ref a.c_NoName) = true
  b_NoName : PySem.W.subIn K (.ref a.c_NoName) (.type "BaseException") = some true
  t_NoName : PySem.W.typeIn K (.ref a.c_NoName) = some (.type "type")
  g_NoNames : mg "NoNames" = some (.ref a.c_NoNames)
  x_NoNames : PySem.W.excIn K a.c_NoNames [.type "ValueError", .type "Exception", .type "BaseException", .type "object"] "ValueError.__new__" = true
  k_NoNames : PySem.W.keepIn K (.ref a.c_NoNames) = true
  b_NoNames : PySem.W.subIn K (.ref a.c_NoNames) (.type "BaseException") = some true
  t_NoNames : PySem.W.typeIn K (.ref a.c_NoNames) = some (.type "type")
  g_NoNumber : mg "NoNumber" = some (.ref a.c_NoNumber)
  x_NoNumber : PySem.W.excIn K a.c_NoNumber [.type "ValueError", .type "Exception", .type "BaseException", .type "object"] "ValueError.__new__" = true
  k_NoNumber : PySem.W.keepIn K (.ref a.c_NoNumber) = true
  b_NoNumber : PySem.W.subIn K (.ref a.c_NoNumber) (.type "BaseException") = some true
  t_NoNumber : PySem.W.typeIn K (.ref a.c_NoNumber) = some (.type "type")
  g_NoPlace : mg "NoPlace" = some (.ref a.c_NoPlace)
  x_NoPlace : PySem.W.excIn K a.c_NoPlace [.type "ValueError", .type "Exception", .type "BaseException", .type "object"] "ValueError.__new__" = true
  k_NoPlace : PySem.W.keepIn K (.ref a.c_NoPlace) = true
  b_NoPlace : PySem.W.subIn K (.ref a.c_NoPlace) (.type "BaseException") = some true
  t_NoPlace : PySem.W.typeIn K (.ref a.c_NoPlace) = some (.type "type")
  g_NoRing : mg "NoRing" = some (.ref a.c_NoRing)
  x_NoRing : PySem.W.excIn K a.c_NoRing [.type "ValueError", .type "Exception", .type "BaseException", .type "object"] "ValueError.__new__" = true
  k_NoRing : PySem.W.keepIn K (.ref a.c_NoRing) = true
  b_NoRing : PySem.W.subIn K (.ref a.c_NoRing) (.type "BaseException") = some true
  t_NoRing : PySem.W.typeIn K (.ref a.c_NoRing) = some (.type "type")
  g_NoRoute : mg "NoRoute" = some (.ref a.c_NoRoute)
  x_NoRoute : PySem.W.excIn K a.c_NoRoute [.type "ValueError", .type "Exception", .type "BaseException", .type "object"] "ValueError.__new__" = true
  k_NoRoute : PySem.W.keepIn K (.ref a.c_NoRoute) = true
  b_NoRoute : PySem.W.subIn K (.ref a.c_NoRoute) (.type "BaseException") = some true
  t_NoRoute : PySem.W.typeIn K (.ref a.c_NoRoute) = some (.type "type")
  g_NoSeating : mg "NoSeating" = some (.ref a.c_NoSeating)
  x_NoSeating : PySem.W.excIn K a.c_NoSeating [.type "ValueError", .type "Exception", .type "BaseException", .type "object"] "ValueError.__new__" = true
  k_NoSeating : PySem.W.keepIn K (.ref a.c_NoSeating) = true
  b_NoSeating : PySem.W.subIn K (.ref a.c_NoSeating) (.type "BaseException") = some true
  t_NoSeating : PySem.W.typeIn K (.ref a.c_NoSeating) = some (.type "type")
  g_NoWalk : mg "NoWalk" = some (.ref a.c_NoWalk)
  x_NoWalk : PySem.W.excIn K a.c_NoWalk [.type "ValueError", .type "Exception", .type "BaseException", .type "object"] "ValueError.__new__" = true
  k_NoWalk : PySem.W.keepIn K (.ref a.c_NoWalk) = true
  b_NoWalk : PySem.W.subIn K (.ref a.c_NoWalk) (.type "BaseException") = some true
  t_NoWalk : PySem.W.typeIn K (.ref a.c_NoWalk) = some (.type "type")
  g_NoWay : mg "NoWay" = some (.ref a.c_NoWay)
  x_NoWay : PySem.W.excIn K a.c_NoWay [.type "ValueError", .type "Exception", .type "BaseException", .type "object"] "ValueError.__new__" = true
  k_NoWay : PySem.W.keepIn K (.ref a.c_NoWay) = true
  b_NoWay : PySem.W.subIn K (.ref a.c_NoWay) (.type "BaseException") = some true
  t_NoWay : PySem.W.typeIn K (.ref a.c_NoWay) = some (.type "type")
  g_NoneLed : mg "NoneLed" = some (.ref a.c_NoneLed)
  x_NoneLed : PySem.W.excIn K a.c_NoneLed [.type "ValueError", .type "Exception", .type "BaseException", .type "object"] "ValueError.__new__" = true
  k_NoneLed : PySem.W.keepIn K (.ref a.c_NoneLed) = true
  b_NoneLed : PySem.W.subIn K (.ref a.c_NoneLed) (.type "BaseException") = some true
  t_NoneLed : PySem.W.typeIn K (.ref a.c_NoneLed) = some (.type "type")
  g_NotFull : mg "NotFull" = some (.ref a.c_NotFull)
  x_NotFull : PySem.W.excIn K a.c_NotFull [.type "ValueError", .type "Exception", .type "BaseException", .type "object"] "ValueError.__new__" = true
  k_NotFull : PySem.W.keepIn K (.ref a.c_NotFull) = true
  b_NotFull : PySem.W.subIn K (.ref a.c_NotFull) (.type "BaseException") = some true
  t_NotFull : PySem.W.typeIn K (.ref a.c_NotFull) = some (.type "type")
  g_NotRight : mg "NotRight" = some (.ref a.c_NotRight)
  x_NotRight : PySem.W.excIn K a.c_NotRight [.type "ValueError", .type "Exception", .type "BaseException", .type "object"] "ValueError.__new__" = true
  k_NotRight : PySem.W.keepIn K (.ref a.c_NotRight) = true
  b_NotRight : PySem.W.subIn K (.ref a.c_NotRight) (.type "BaseException") = some true
  t_NotRight : PySem.W.typeIn K (.ref a.c_NotRight) = some (.type "type")
  g_NotStraight : mg "NotStraight" = some (.ref a.c_NotStraight)
  x_NotStraight : PySem.W.excIn K a.c_NotStraight [.type "ValueError", .type "Exception", .type "BaseException", .type "object"] "ValueError.__new__" = true
  k_NotStraight : PySem.W.keepIn K (.ref a.c_NotStraight) = true
  b_NotStraight : PySem.W.subIn K (.ref a.c_NotStraight) (.type "BaseException") = some true
  t_NotStraight : PySem.W.typeIn K (.ref a.c_NotStraight) = some (.type "type")
  g_NotStrong : mg "NotStrong" = some (.ref a.c_NotStrong)
  x_NotStrong : PySem.W.excIn K a.c_NotStrong [.type "ValueError", .type "Exception", .type "BaseException", .type "object"] "ValueError.__new__" = true
  k_NotStrong : PySem.W.keepIn K (.ref a.c_NotStrong) = true
  b_NotStrong : PySem.W.subIn K (.ref a.c_NotStrong) (.type "BaseException") = some true
  t_NotStrong : PySem.W.typeIn K (.ref a.c_NotStrong) = some (.type "type")
  g_NothingDone : mg "NothingDone" = some (.ref a.c_NothingDone)
  x_NothingDone : PySem.W.excIn K a.c_NothingDone [.type "ValueError", .type "Exception", .type "BaseException", .type "object"] "ValueError.__new__" = true
  k_NothingDone : PySem.W.keepIn K (.ref a.c_NothingDone) = true
  b_NothingDone : PySem.W.subIn K (.ref a.c_NothingDone) (.type "BaseException") = some true
  t_NothingDone : PySem.W.typeIn K (.ref a.c_NothingDone) = some (.type "type")
  g_OtherSize : mg "OtherSize" = some (.ref a.c_OtherSize)
  x_OtherSize : PySem.W.excIn K a.c_OtherSize [.type "ValueError", .type "Exception", .type "BaseException", .type "object"] "ValueError.__new__" = true
  k_OtherSize : PySem.W.keepIn K (.ref a.c_OtherSize) = true
  b_OtherSize : PySem.W.subIn K (.ref a.c_OtherSize) (.type "BaseException") = some true
  t_OtherSize : PySem.W.typeIn K (.ref a.c_OtherSize) = some (.type "type")
  g_Over : mg "Over" = some (.ref a.c_Over)
  x_Over : PySem.W.excIn K a.c_Over [.type "ValueError", .type "Exception", .type "BaseException", .type "object"] "ValueError.__new__" = true
  k_Over : PySem.W.keepIn K (.ref a.c_Over) = true
  b_Over : PySem.W.subIn K (.ref a.c_Over) (.type "BaseException") = some true
  t_Over : PySem.W.typeIn K (.ref a.c_Over) = some (.type "type")
  g_TooLarge : mg "TooLarge" = some (.ref a.c_TooLarge)
  k_TooLarge : PySem.W.keepIn K (.ref a.c_TooLarge) = true
  b_TooLarge : PySem.W.subIn K (.ref a.c_TooLarge) (.type "BaseException") = some true
  t_TooLarge : PySem.W.typeIn K (.ref a.c_TooLarge) = some (.type "type")
  g_TooSmall : mg "TooSmall" = some (.ref a.c_TooSmall)
  k_TooSmall : PySem.W.keepIn K (.ref a.c_TooSmall) = true
  b_TooSmall : PySem.W.subIn K (.ref a.c_TooSmall) (.type "BaseException") = some true
  t_TooSmall : PySem.W.typeIn K (.ref a.c_TooSmall) = some (.type "type")
  E_BadCode : ExcC K a.c_BadCode
  s_BadCode : (PySem.W.clsIn K a.c_BadCode).isSome = true
  y_BadCode : (PySem.W.clsIn K a.c_BadCode).map (·.mro) = some [.ref a.c_BadCode, .ref a.c_BeltsError, .type "ValueError", .type "Exception", .type "BaseException", .type "object"]
  E_BadMachine : ExcC K a.c_BadMachine
  s_BadMachine : (PySem.W.clsIn K a.c_BadMachine).isSome = true
  y_BadMachine : (PySem.W.clsIn K a.c_BadMachine).map (·.mro) = some [.ref a.c_BadMachine, .ref a.c_BeltsError, .type "ValueError", .type "Exception", .type "BaseException", .type "object"]
  E_BadNeed : ExcC K a.c_BadNeed
  s_BadNeed : (PySem.W.clsIn K a.c_BadNeed).isSome = true
  y_BadNeed : (PySem.W.clsIn K a.c_BadNeed).map (·.mro) = some [.ref a.c_BadNeed, .ref a.c_BeltsError, .type "ValueError", .type "Exception", .type "BaseException", .type "object"]
  E_BadProgram : ExcC K a.c_BadProgram
  s_BadProgram : (PySem.W.clsIn K a.c_BadProgram).isSome = true
  y_BadProgram : (PySem.W.clsIn K a.c_BadProgram).map (·.mro) = some [.ref a.c_BadProgram, .ref a.c_BeltsError, .type "ValueError", .type "Exception", .type "BaseException", .type "object"]
  E_BadText : ExcC K a.c_BadText
  s_BadText : (PySem.W.clsIn K a.c_BadText).isSome = true
  y_BadText : (PySem.W.clsIn K a.c_BadText).map (·.mro) = some [.ref a.c_BadText, .ref a.c_BeltsError, .type "ValueError", .type "Exception", .type "BaseException", .type "object"]
  E_BeltsError : ExcC K a.c_BeltsError
  s_BeltsError : (PySem.W.clsIn K a.c_BeltsError).isSome = true
  E_Faulty : ExcC K a.c_Faulty
  s_Faulty : (PySem.W.clsIn K a.c_Faulty).isSome = true
  y_Faulty : (PySem.W.clsIn K a.c_Faulty).map (·.mro) = some [.ref a.c_Faulty, .ref a.c_BeltsError, .type "ValueError", .type "Exception", .type "BaseException", .type "object"]
  E_NoBelt : ExcC K a.c_NoBelt
  s_NoBelt : (PySem.W.clsIn K a.c_NoBelt).isSome = true
  y_NoBelt : (PySem.W.clsIn K a.c_NoBelt).map (·.mro) = some [.ref a.c_NoBelt, .ref a.c_BeltsError, .type "ValueError", .type "Exception", .type "BaseException", .type "object"]
  E_NoCarries : ExcC K a.c_NoCarries
  s_NoCarries : (PySem.W.clsIn K a.c_NoCarries).isSome = true
  y_NoCarries : (PySem.W.clsIn K a.c_NoCarries).map (·.mro) = some [.ref a.c_NoCarries, .ref a.c_BeltsError, .type "ValueError", .type "Exception", .type "BaseException", .type "object"]
  E_NoHolding : ExcC K a.c_NoHolding
  s_NoHolding : (PySem.W.clsIn K a.c_NoHolding).isSome = true
  y_NoHolding : (PySem.W.clsIn K a.c_NoHolding).map (·.mro) = some [.ref a.c_NoHolding, .ref a.c_BeltsError, .type "ValueError", .type "Exception", .type "BaseException", .type "object"]
  E_NoLine : ExcC K a.c_NoLine
  s_NoLine : (PySem.W.clsIn K a.c_NoLine).isSome = true
  y_NoLine : (PySem.W.clsIn K a.c_NoLine).map (·.mro) = some [.ref a.c_NoLine, .ref a.c_BeltsError, .type "ValueError", .type "Exception", .type "BaseException", .type "object"]
  E_NoName : ExcC K a.c_NoName
  s_NoName : (PySem.W.clsIn K a.c_NoName).isSome = true
  y_NoName : (PySem.W.clsIn K a.c_NoName).map (·.mro) = some [.ref a.c_NoName, .ref a.c_BeltsError, .type "ValueError", .type "Exception", .type "BaseException", .type "object"]
  E_NoNames : ExcC K a.c_NoNames
  s_NoNames : (PySem.W.clsIn K a.c_NoNames).isSome = true
  y_NoNames : (PySem.W.clsIn K a.c_NoNames).map (·.mro) = some [.ref a.c_NoNames, .ref a.c_BeltsError, .type "ValueError", .type "Exception", .type "BaseException", .type "object"]
  E_NoNumber : ExcC K a.c_NoNumber
  s_NoNumber : (PySem.W.clsIn K a.c_NoNumber).isSome = true
  y_NoNumber : (PySem.W.clsIn K a.c_NoNumber).map (·.mro) = some [.ref a.c_NoNumber, .ref a.c_BeltsError, .type "ValueError", .type "Exception", .type "BaseException", .type "object"]
  E_NoPlace : ExcC K a.c_NoPlace
  s_NoPlace : (PySem.W.clsIn K a.c_NoPlace).isSome = true
  y_NoPlace : (PySem.W.clsIn K a.c_NoPlace).map (·.mro) = some [.ref a.c_NoPlace, .ref a.c_BeltsError, .type "ValueError", .type "Exception", .type "BaseException", .type "object"]
  E_NoRing : ExcC K a.c_NoRing
  s_NoRing : (PySem.W.clsIn K a.c_NoRing).isSome = true
  y_NoRing : (PySem.W.clsIn K a.c_NoRing).map (·.mro) = some [.ref a.c_NoRing, .ref a.c_BeltsError, .type "ValueError", .type "Exception", .type "BaseException", .type "object"]
  E_NoRoute : ExcC K a.c_NoRoute
  s_NoRoute : (PySem.W.clsIn K a.c_NoRoute).isSome = true
  y_NoRoute : (PySem.W.clsIn K a.c_NoRoute).map (·.mro) = some [.ref a.c_NoRoute, .ref a.c_BeltsError, .type "ValueError", .type "Exception", .type "BaseException", .type "object"]
  E_NoSeating : ExcC K a.c_NoSeating
  s_NoSeating : (PySem.W.clsIn K a.c_NoSeating).isSome = true
  y_NoSeating : (PySem.W.clsIn K a.c_NoSeating).map (·.mro) = some [.ref a.c_NoSeating, .ref a.c_BeltsError, .type "ValueError", .type "Exception", .type "BaseException", .type "object"]
  E_NoWalk : ExcC K a.c_NoWalk
  s_NoWalk : (PySem.W.clsIn K a.c_NoWalk).isSome = true
  y_NoWalk : (PySem.W.clsIn K a.c_NoWalk).map (·.mro) = some [.ref a.c_NoWalk, .ref a.c_BeltsError, .type "ValueError", .type "Exception", .type "BaseException", .type "object"]
  E_NoWay : ExcC K a.c_NoWay
  s_NoWay : (PySem.W.clsIn K a.c_NoWay).isSome = true
  y_NoWay : (PySem.W.clsIn K a.c_NoWay).map (·.mro) = some [.ref a.c_NoWay, .ref a.c_BeltsError, .type "ValueError", .type "Exception", .type "BaseException", .type "object"]
  E_NoneLed : ExcC K a.c_NoneLed
  s_NoneLed : (PySem.W.clsIn K a.c_NoneLed).isSome = true
  y_NoneLed : (PySem.W.clsIn K a.c_NoneLed).map (·.mro) = some [.ref a.c_NoneLed, .ref a.c_BeltsError, .type "ValueError", .type "Exception", .type "BaseException", .type "object"]
  E_NotFull : ExcC K a.c_NotFull
  s_NotFull : (PySem.W.clsIn K a.c_NotFull).isSome = true
  y_NotFull : (PySem.W.clsIn K a.c_NotFull).map (·.mro) = some [.ref a.c_NotFull, .ref a.c_BeltsError, .type "ValueError", .type "Exception", .type "BaseException", .type "object"]
  E_NotRight : ExcC K a.c_NotRight
  s_NotRight : (PySem.W.clsIn K a.c_NotRight).isSome = true
  y_NotRight : (PySem.W.clsIn K a.c_NotRight).map (·.mro) = some [.ref a.c_NotRight, .ref a.c_BeltsError, .type "ValueError", .type "Exception", .type "BaseException", .type "object"]
  E_NotStraight : ExcC K a.c_NotStraight
  s_NotStraight : (PySem.W.clsIn K a.c_NotStraight).isSome = true
  y_NotStraight : (PySem.W.clsIn K a.c_NotStraight).map (·.mro) = some [.ref a.c_NotStraight, .ref a.c_BeltsError, .type "ValueError", .type "Exception", .type "BaseException", .type "object"]
  E_NotStrong : ExcC K a.c_NotStrong
  s_NotStrong : (PySem.W.clsIn K a.c_NotStrong).isSome = true
  y_NotStrong : (PySem.W.clsIn K a.c_NotStrong).map (·.mro) = some [.ref a.c_NotStrong, .ref a.c_BeltsError, .type "ValueError", .type "Exception", .type "BaseException", .type "object"]
  E_NothingDone : ExcC K a.c_NothingDone
  s_NothingDone : (PySem.W.clsIn K a.c_NothingDone).isSome = true
  y_NothingDone : (PySem.W.clsIn K a.c_NothingDone).map (·.mro) = some [.ref a.c_NothingDone, .ref a.c_BeltsError, .type "ValueError", .type "Exception", .type "BaseException", .type "object"]
  E_OtherSize : ExcC K a.c_OtherSize
  s_OtherSize : (PySem.W.clsIn K a.c_OtherSize).isSome = true
  y_OtherSize : (PySem.W.clsIn K a.c_OtherSize).map (·.mro) = some [.ref a.c_OtherSize, .ref a.c_BeltsError, .type "ValueError", .type "Exception", .type "BaseException", .type "object"]
  E_Over : ExcC K a.c_Over
  s_Over : (PySem.W.clsIn K a.c_Over).isSome = true
  y_Over : (PySem.W.clsIn K a.c_Over).map (·.mro) = some [.ref a.c_Over, .ref a.c_BeltsError, .type "ValueError", .type "Exception", .type "BaseException", .type "object"]
  E_TooLarge : ExcC K a.c_TooLarge
  s_TooLarge : (PySem.W.clsIn K a.c_TooLarge).isSome = true
  y_TooLarge : (PySem.W.clsIn K a.c_TooLarge).map (·.mro) = some [.ref a.c_TooLarge, .ref a.c_BeltsError, .type "ValueError", .type "Exception", .type "BaseException", .type "object"]
  E_TooSmall : ExcC K a.c_TooSmall
  s_TooSmall : (PySem.W.clsIn K a.c_TooSmall).isSome = true
  y_TooSmall : (PySem.W.clsIn K a.c_TooSmall).map (·.mro) = some [.ref a.c_TooSmall, .ref a.c_BeltsError, .type "ValueError", .type "Exception", .type "BaseException", .type "object"]
  nd : ([a.c_BadProgram, a.c_NoName, a.c_BadCode, a.c_TooLarge, a.c_TooSmall, a.c_BadText, a.c_Faulty, a.c_NoWay, a.c_NoPlace, a.c_NoRoute, a.c_Over, a.c_NoNumber, a.c_BadMachine, a.c_NoHolding, a.c_NoBelt, a.c_NoCarries, a.c_NotFull, a.c_NoWalk, a.c_NoNames, a.c_OtherSize, a.c_NoSeating, a.c_NotRight, a.c_NoRing, a.c_NotStrong, a.c_NotStraight, a.c_NoLine, a.c_NoneLed, a.c_BadNeed, a.c_NothingDone, a.c_BeltsError] : List Addr).Nodup
  e_BadCode : OexC K a.c_BadCode
  i_BadCode : PySem.W.findIn K (.ref a.c_BadCode) "__init__" = some (some (.ref a.p_f_BadCode___init__))
  f_BadCode : PySem.W.typeIn K (.ref a.p_f_BadCode___init__) = some (.type "function")
  q_BadCode : XfC K a.c_BadCode
  e_BadProgram : OexC K a.c_BadProgram
  i_BadProgram : PySem.W.findIn K (.ref a.c_BadProgram) "__init__" = some (some (.ref a.p_f_BadProgram___init__))
  f_BadProgram : PySem.W.typeIn K (.ref a.p_f_BadProgram___init__) = some (.type "function")
  q_BadProgram : XfC K a.c_BadProgram
  e_BadText : OexC K a.c_BadText
  i_BadText : PySem.W.findIn K (.ref a.c_BadText) "__init__" = some (some (.ref a.p_f_BadText___init__))
  f_BadText : PySem.W.typeIn K (.ref a.p_f_BadText___init__) = some (.type "function")
  q_BadText : XfC K a.c_BadText
  e_Faulty : OexC K a.c_Faulty
  i_Faulty : PySem.W.findIn K (.ref a.c_Faulty) "__init__" = some (some (.ref a.p_f_Faulty___init__))
  f_Faulty : PySem.W.typeIn K (.ref a.p_f_Faulty___init__) = some (.type "function")
  q_Faulty : XfC K a.c_Faulty
  e_NoName : OexC K a.c_NoName
  i_NoName : PySem.W.findIn K (.ref a.c_NoName) "__init__" = some (some (.ref a.p_f_NoName___init__))
  f_NoName : PySem.W.typeIn K (.ref a.p_f_NoName___init__) = some (.type "function")
  q_NoName : XfC K a.c_NoName
  e_TooLarge : OexC K a.c_TooLarge
  i_TooLarge : PySem.W.findIn K (.ref a.c_TooLarge) "__init__" = some (some (.ref a.p_f_TooLarge___init__))
  f_TooLarge : PySem.W.typeIn K (.ref a.p_f_TooLarge___init__) = some (.type "function")
  q_TooLarge : XfC K a.c_TooLarge
  e_TooSmall : OexC K a.c_TooSmall
  i_TooSmall : PySem.W.findIn K (.ref a.c_TooSmall) "__init__" = some (some (.ref a.p_f_TooSmall___init__))
  f_TooSmall : PySem.W.typeIn K (.ref a.p_f_TooSmall___init__) = some (.type "function")
  q_TooSmall : XfC K a.c_TooSmall
  h_BadCode_part : PySem.W.findIn K (.ref a.c_BadCode) "part" = some none
  h_BadProgram_part : PySem.W.findIn K (.ref a.c_BadProgram) "part" = some none
  h_BadText_line : PySem.W.findIn K (.ref a.c_BadText) "line" = some none
  h_Faulty_name : PySem.W.findIn K (.ref a.c_Faulty) "name" = some none
  h_Faulty_place : PySem.W.findIn K (.ref a.c_Faulty) "place" = some none
  h_NoName_name : PySem.W.findIn K (.ref a.c_NoName) "name" = some none
  h_TooLarge_most : PySem.W.findIn K (.ref a.c_TooLarge) "most" = some none
  h_TooSmall_least : PySem.W.findIn K (.ref a.c_TooSmall) "least" = some none
  m_BadProgram_BeltsError : PySem.W.exmOne K (.ref a.c_BadProgram) (.ref a.c_BeltsError) = some true
  m_BadProgram_Over : PySem.W.exmOne K (.ref a.c_BadProgram) (.ref a.c_Over) = some false
  m_BeltsError_BeltsError : PySem.W.exmOne K (.ref a.c_BeltsError) (.ref a.c_BeltsError) = some true
  m_BeltsError_Over : PySem.W.exmOne K (.ref a.c_BeltsError) (.ref a.c_Over) = some false
  m_NothingDone_BeltsError : PySem.W.exmOne K (.ref a.c_NothingDone) (.ref a.c_BeltsError) = some true
  m_NothingDone_Over : PySem.W.exmOne K (.ref a.c_NothingDone) (.ref a.c_Over) = some false
  m_Over_BeltsError : PySem.W.exmOne K (.ref a.c_Over) (.ref a.c_BeltsError) = some true
  m_Over_Over : PySem.W.exmOne K (.ref a.c_Over) (.ref a.c_Over) = some true
  F_f_BadProgram___init__ : Fun K "__init__" "BadProgram.__init__" f_BadProgram___init___st a.p_f_BadProgram___init__ a.d_f_BadProgram___init__
  F_f_NoName___init__ : Fun K "__init__" "NoName.__init__" f_NoName___init___st a.p_f_NoName___init__ a.d_f_NoName___init__
  F_f_BadCode___init__ : Fun K "__init__" "BadCode.__init__" f_BadCode___init___st a.p_f_BadCode___init__ a.d_f_BadCode___init__
  F_f_TooLarge___init__ : Fun K "__init__" "TooLarge.__init__" f_TooLarge___init___st a.p_f_TooLarge___init__ a.d_f_TooLarge___init__
  F_f_TooSmall___init__ : Fun K "__init__" "TooSmall.__init__" f_TooSmall___init___st a.p_f_TooSmall___init__ a.d_f_TooSmall___init__
  F_f_BadText___init__ : Fun K "__init__" "BadText.__init__" f_BadText___init___st a.p_f_BadText___init__ a.d_f_BadText___init__
  F_f_Faulty___init__ : Fun K "__init__" "Faulty.__init__" f_Faulty___init___st a.p_f_Faulty___init__ a.d_f_Faulty___init__
  g_f_law_tape : mg "_law_tape" = some (.ref a.p_f_law_tape)
  F_f_law_tape : Fun K "_law_tape" "_law_tape" f_law_tape_st a.p_f_law_tape a.d_f_law_tape
  g_f_law_pick : mg "_law_pick" = some (.ref a.p_f_law_pick)
  F_f_law_pick : Fun K "_law_pick" "_law_pick" f_law_pick_st a.p_f_law_pick a.d_f_law_pick
  g_f_law_kinds : mg "_law_kinds" = some (.ref a.p_f_law_kinds)
  F_f_law_kinds : Fun K "_law_kinds" "_law_kinds" f_law_kinds_st a.p_f_law_kinds a.d_f_law_kinds
  g_f_law_made : mg "_law_made" = some (.ref a.p_f_law_made)
  F_f_law_made : Fun K "_law_made" "_law_made" f_law_made_st a.p_f_law_made a.d_f_law_made
  g_f_law_fields : mg "_law_fields" = some (.ref a.p_f_law_fields)
  F_f_law_fields : Fun K "_law_fields" "_law_fields" f_law_fields_st a.p_f_law_fields a.d_f_law_fields
  g_f_law_caught : mg "_law_caught" = some (.ref a.p_f_law_caught)
  F_f_law_caught : Fun K "_law_caught" "_law_caught" f_law_caught_st a.p_f_law_caught a.d_f_law_caught
  g_f_law : mg "law" = some (.ref a.p_f_law)
  F_f_law : Fun K "law" "law" f_law_st a.p_f_law a.d_f_law
theorem Txt.B_f_BadProgram___init__ {K : PySem.W.Frag} {mg : Str → Option Value} {a : Ad} (T : Txt K mg a) : Binds K a.d_f_BadProgram___init__ ["self", "part"] [] := T.F_f_BadProgram___init__.binds fun _ _ _ _ _ _ us hl => match us, hl with | [_, _], _ => rfl
theorem Txt.B_f_NoName___init__ {K : PySem.W.Frag} {mg : Str → Option Value} {a : Ad} (T : Txt K mg a) : Binds K a.d_f_NoName___init__ ["self", "name"] [] := T.F_f_NoName___init__.binds fun _ _ _ _ _ _ us hl => match us, hl with | [_, _], _ => rfl
theorem Txt.B_f_BadCode___init__ {K : PySem.W.Frag} {mg : Str → Option Value} {a : Ad} (T : Txt K mg a) : Binds K a.d_f_BadCode___init__ ["self", "part"] [] := T.F_f_BadCode___init__.binds fun _ _ _ _ _ _ us hl => match us, hl with | [_, _], _ => rfl
theorem Txt.B_f_TooLarge___init__ {K : PySem.W.Frag} {mg : Str → Option Value} {a : Ad} (T : Txt K mg a) : Binds K a.d_f_TooLarge___init__ ["self", "most"] [] := T.F_f_TooLarge___init__.binds fun _ _ _ _ _ _ us hl => match us, hl with | [_, _], _ => rfl
theorem Txt.B_f_TooSmall___init__ {K : PySem.W.Frag} {mg : Str → Option Value} {a : Ad} (T : Txt K mg a) : Binds K a.d_f_TooSmall___init__ ["self", "least"] [] := T.F_f_TooSmall___init__.binds fun _ _ _ _ _ _ us hl => match us, hl with | [_, _], _ => rfl
theorem Txt.B_f_BadText___init__ {K : PySem.W.Frag} {mg : Str → Option Value} {a : Ad} (T : Txt K mg a) : Binds K a.d_f_BadText___init__ ["self", "line"] [] := T.F_f_BadText___init__.binds fun _ _ _ _ _ _ us hl => match us, hl with | [_, _], _ => rfl
theorem Txt.B_f_Faulty___init__ {K : PySem.W.Frag} {mg : Str → Option Value} {a : Ad} (T : Txt K mg a) : Binds K a.d_f_Faulty___init__ ["self", "place", "name"] [] := T.F_f_Faulty___init__.binds fun _ _ _ _ _ _ us hl => match us, hl with | [_, _, _], _ => rfl
theorem Txt.B_f_law_tape {K : PySem.W.Frag} {mg : Str → Option Value} {a : Ad} (T : Txt K mg a) : Binds K a.d_f_law_tape ["_law_script"] [] := T.F_f_law_tape.binds fun _ _ _ _ _ _ us hl => match us, hl with | [_], _ => rfl
theorem Txt.B_f_law_pick {K : PySem.W.Frag} {mg : Str → Option Value} {a : Ad} (T : Txt K mg a) : Binds K a.d_f_law_pick ["_law_tape_here", "_law_size"] [] := T.F_f_law_pick.binds fun _ _ _ _ _ _ us hl => match us, hl with | [_, _], _ => rfl
theorem Txt.B_f_law_kinds {K : PySem.W.Frag} {mg : Str → Option Value} {a : Ad} (T : Txt K mg a) : Binds K a.d_f_law_kinds ["_law_e"] [] := T.F_f_law_kinds.binds fun _ _ _ _ _ _ us hl => match us, hl with | [_], _ => rfl
theorem Txt.B_f_law_made {K : PySem.W.Frag} {mg : Str → Option Value} {a : Ad} (T : Txt K mg a) : Binds K a.d_f_law_made ["_law_value", "_law_other"] [] := T.F_f_law_made.binds fun _ _ _ _ _ _ us hl => match us, hl with | [_, _], _ => rfl
theorem Txt.B_f_law_fields {K : PySem.W.Frag} {mg : Str → Option Value} {a : Ad} (T : Txt K mg a) : Binds K a.d_f_law_fields ["_law_made_here", "_law_value", "_law_other"] [] := T.F_f_law_fields.binds fun _ _ _ _ _ _ us hl => match us, hl with | [_, _, _], _ => rfl
theorem Txt.B_f_law_caught {K : PySem.W.Frag} {mg : Str → Option Value} {a : Ad} (T : Txt K mg a) : Binds K a.d_f_law_caught ["_law_which", "_law_value"] [] := T.F_f_law_caught.binds fun _ _ _ _ _ _ us hl => match us, hl with | [_, _], _ => rfl

@[irreducible] def f_law_pick_sf (_ : PySem.W.Frag) (_ : Ad) : SF := drawS
section
variable {P : Program} {w : World} {K : PySem.W.Frag} {mg : Str → Option Value} {base : Heap} {a : Ad} {t l : Addr}
theorem f_law_pick_ok (T : Txt K mg a) : FnOk P w K mg base (L2.CX P w) 1 a.p_f_law_pick a.d_f_law_pick ["_law_tape_here", "_law_size"] (spD t l Ti (f_law_pick_sf K a)) := by
  refine T.F_f_law_pick.okX f_law_pick_sc (fun vs H Q E h => ?_) (fun cdv A outer s H vs Q E hr h => ?_)
  · obtain ⟨O, ds, PD, PX, _, _, _, _, r, hs, _⟩ := h
    unfold f_law_pick_sf drawS at hs
    split at hs
    · rw [r.length]
      rfl
    · exact hs.elim
  · obtain ⟨O, ds, PD, PX, T0, t1, l1, ha, r, hs, q, _⟩ := h
    unfold f_law_pick_sf drawS at hs
    split at hs
    · rename_i n
      obtain ⟨n0, n1, hs⟩ := hs
      cases r with
      | cons r0 r1 =>
        cases r0
        cases r1 with
        | cons r2 r3 =>
          cases r2
          cases r3
          obtain ⟨ns, i, j, k, m, hT, hL, hI⟩ := id T0
          have tl := T0.lt
          refine ⟨_, pss_cons (ps_if (pt_cmpR op_gt (pe_ix ix_list (pv 0) pe_int (fun _ _ => rfl)) pe_int (nomark _)) (pss_cons (ps_set (i := 4) f_law_pick_sc.nd rfl (by first | exact Or.inl rfl | exact Or.inr rfl) (pe_op op_mod (pe_callTy call_int1 (by rfl) T.n_int (by decide +kernel) (pa_cons (pe_ix ix_list (pv 0) pe_int (fun _ _ => rfl)) pa_nil)) (pv 1))) (pss_cons (ps_asg (pe_op op_fdiv (pe_ix ix_list (pv 0) pe_int (fun _ _ => rfl)) (pv 1)) (pg_sub (pv 0) pe_int set_list)) (pss_one (ps_ret (pv 4))))) pss_nil)
    (pss_cons (ps_asg (pe_op op_add (pe_ix ix_list (pv 0) pe_int (fun _ _ => rfl)) pe_int) (pg_sub (pv 0) pe_int set_list))
    (pss_cons (ps_set (i := 2) f_law_pick_sc.nd rfl (by first | exact Or.inl rfl | exact Or.inr rfl) pe_int)
    (pss_cons (ps_if (pt_cmpR op_lt (pe_ix ix_list (pv 0) pe_int (fun _ _ => rfl)) (pe_callB call_len_seq (by rfl) T.n_len (by decide +kernel) (pa_cons (pe_ix ix_list (pv 0) pe_int (fun _ _ => rfl)) pa_nil)) (nomark _)) (pss_cons (ps_set (i := 2) f_law_pick_sc.nd rfl (by first | exact Or.inl rfl | exact Or.inr rfl) (pe_ix ix_list (pe_ix ix_list (pv 0) pe_int (fun _ _ => rfl)) (pe_ix ix_list (pv 0) pe_int (fun _ _ => rfl)) (fun _ _ => rfl))) (pss_one (ps_asg (pe_op op_add (pe_ix ix_list (pv 0) pe_int (fun _ _ => rfl)) pe_int) (pg_sub (pv 0) pe_int set_list)))) pss_nil)
    (pss_cons (ps_if (pt_cmpR op_ge (pv 2) (pe_op op_pow pe_int pe_int) (nomark _)) (pss_cons (ps_asg (pe_op op_fdiv (pv 2) (pv 1)) (pg_sub (pv 0) pe_int set_list)) (pss_one (ps_ret (pe_op op_mod (pe_callTy call_int1 (by rfl) T.n_int (by decide +kernel) (pa_cons (pv 2) pa_nil)) (pv 1))))) pss_nil)
    (pss_cons (ps_set (i := 3) f_law_pick_sc.nd rfl (by first | exact Or.inl rfl | exact Or.inr rfl) (pe_op op_mod (pe_callTy call_int1 (by rfl) T.n_int (by decide +kernel) (pa_cons (pe_op op_add (pe_op op_add (pe_op op_mul (pe_ix ix_list (pv 0) pe_int (fun _ _ => rfl)) pe_int) (pe_op op_mod (pe_callTy call_int1 (by rfl) T.n_int (by decide +kernel) (pa_cons (pv 2) pa_nil)) pe_int)) (pe_op op_mul (pe_ix ix_list (pv 0) pe_int (fun _ _ => rfl)) pe_int)) pa_nil)) pe_int))
    (pss_cons (ps_set (i := 3) f_law_pick_sc.nd rfl (by first | exact Or.inl rfl | exact Or.inr rfl) (pe_op op_mod (pe_callTy call_int1 (by rfl) T.n_int (by decide +kernel) (pa_cons (pe_op op_mul (pv 3) (pe_op op_add (pe_op op_fdiv (pv 3) pe_int) pe_int)) pa_nil)) pe_int))
    (pss_cons (ps_asg (pv 3) (pg_sub (pv 0) pe_int set_list))
    (pss_one (ps_ret (pe_op op_mod (pe_callTy call_int1 (by rfl) T.n_int (by decide +kernel) (pa_cons (pe_op op_fdiv (pv 3) pe_int) pa_nil)) (pv 1))))))))))), ?_⟩
          have fin : ∀ (H' : Hp) (i j k m d : Int), (∀ a o, a ≠ t → H a = some o → H' a = some o) → H' t = some (.lst [.ref l, .int i, .int j, .int k, .int m]) → 0 ≤ i → 0 ≤ j → (0 ≤ k ∧ k < 2147483647) → 0 ≤ m → 0 ≤ d → d < n → Q (.int d) H' :=
            fun H' i j k m d hk hT hi hj hk1 hm d0 d1 => q (.int d) (.int d) H' (hs d d0 d1) ⟨hk, ns, i, j, k, m, hT, hk l _ (Ne.symm tl) hL, hI.1, hi, hj, hk1, hm⟩ (.int d)
          have kp : ∀ (H' : Hp) (o : HO), (∀ a o, a ≠ t → H a = some o → H' a = some o) → ∀ a u, a ≠ t → H a = some u → upd H' t o a = some u := fun H' o hk a u ne e => by
            rw [upd_ne ne]
            exact hk a u ne e
          have n2 : n ≠ 0 := by omega
          refine ⟨_, rfl, t, _, 2, _, rfl, rfl, SqL.of hT, atI_nat (j := 2) rfl, ?_⟩
          refine ⟨_, _, rfl, rfl, _, rfl, ite2 (fun e => ?_) (fun e => ?_)⟩
          · refine ⟨_, rfl, t, _, 2, _, rfl, rfl, SqL.of hT, atI_nat (j := 2) rfl, ?_⟩
            refine .inl ⟨_, rfl, ?_⟩
            refine ⟨_, rfl, _, _, rfl, rfl, n0, ?_⟩
            refine ⟨_, rfl, t, _, 2, _, rfl, rfl, SqL.of hT, atI_nat (j := 2) rfl, ?_⟩
            refine ⟨_, rfl, _, _, rfl, rfl, ⟨n0, by omega⟩, ?_⟩
            refine Dice.set hT (j := 2) (by simp) ?_
            refine ⟨_, rfl, ?_⟩
            exact fin _ i (j / n) k m _ (kp _ _ (fun _ _ _ e => e)) upd_same hI.2.1 (Int.ediv_nonneg hI.2.2.1 (by omega)) hI.2.2.2.1 hI.2.2.2.2 (Int.emod_nonneg _ n2) (Int.emod_lt_of_pos _ n0)
          · refine ⟨_, rfl, t, _, 4, _, rfl, rfl, SqL.of hT, atI_nat (j := 4) rfl, ?_⟩
            refine ⟨_, _, rfl, rfl, ?_⟩
            refine Dice.set hT (j := 4) (by simp) ?_
            have m1 : 0 ≤ m + 1 := by have := hI.2.2.2.2; omega
            have hk0 : ∀ a o, a ≠ t → H a = some o → upd H t (.lst [.ref l, .int i, .int j, .int k, .int (m + 1)]) a = some o := kp _ _ (fun _ _ _ e => e)
            have hT0 : upd H t (.lst [.ref l, .int i, .int j, .int k, .int (m + 1)]) t = some (.lst [.ref l, .int i, .int j, .int k, .int (m + 1)]) := upd_same
            have hL0 : upd H t (.lst [.ref l, .int i, .int j, .int k, .int (m + 1)]) l = some (.lst (ns.map V.int)) := hk0 l _ (Ne.symm tl) hL
            dsimp only
            refine Dice.seq_c ?_
            refine Dice.seq_by (fun σ' H' => ∃ (i' cell : Int), σ' = [some (.ref t), some (.int n), some (.int cell), none, none] ∧ (∀ a o, a ≠ t → H a = some o → H' a = some o) ∧ H' t = some (.lst [.ref l, .int i', .int j, .int k, .int (m + 1)]) ∧ 0 ≤ i') ?_ ?_
            rotate_left
            · intro nx hN
              refine ⟨_, rfl, t, _, 1, _, rfl, rfl, SqL.of hT0, atI_nat (j := 1) rfl, ?_⟩
              refine ⟨_, rfl, t, _, 0, _, rfl, rfl, SqL.of hT0, atI_nat (j := 0) rfl, ?_⟩
              refine ⟨l, ns.map V.int, rfl, .inl (SqL.of hL0), ?_⟩
              refine ⟨_, _, rfl, rfl, _, rfl, ite2 (fun e => ?_) (fun e => ?_)⟩
              · have hi := of_decide_eq_true e
                rw [List.length_map] at hi
                obtain ⟨i', rfl⟩ := Int.eq_ofNat_of_zero_le hI.2.1
                have hi' : i' < ns.length := by omega
                have hv : (ns.map V.int)[i']? = some (.int ns[i']) := by rw [List.getElem?_map, List.getElem?_eq_getElem hi']; rfl
                refine ⟨_, rfl, t, _, 0, _, rfl, rfl, SqL.of hT0, atI_nat (j := 0) rfl, ?_⟩
                refine ⟨_, rfl, t, _, 1, _, rfl, rfl, SqL.of hT0, atI_nat (j := 1) rfl, ?_⟩
                refine ⟨l, _, _, _, rfl, rfl, SqL.of hL0, atI_nat hv, ?_⟩
                generalize ns[i'] = cell
                refine ⟨_, rfl, t, _, 1, _, rfl, rfl, SqL.of hT0, atI_nat (j := 1) rfl, ?_⟩
                refine ⟨_, _, rfl, rfl, ?_⟩
                refine Dice.set hT0 (j := 1) (by simp) ?_
                exact hN _ _ ⟨_, cell, rfl, kp _ _ hk0, upd_same, by omega⟩
              · exact hN _ _ ⟨i, 0, rfl, hk0, hT0, hI.2.1⟩
            rintro _ H1 ⟨i, cell, rfl, hk1, hT1, i1⟩
            refine ⟨_, rfl, ?_⟩
            refine ⟨_, _, rfl, rfl, ⟨by decide, by decide, by decide⟩, ?_⟩
            refine ⟨_, _, rfl, rfl, _, rfl, ite2 (fun e => ?_) (fun e => ?_)⟩
            · have hc := of_decide_eq_true e
              have hc0 : 0 ≤ cell := by
                have : (0 : Int) ≤ 10 ^ (18 : Int).toNat := by decide
                omega
              refine ⟨_, rfl, _, rfl, ?_⟩
              refine ⟨_, _, rfl, rfl, ⟨n0, by omega⟩, ?_⟩
              refine Dice.set hT1 (j := 2) (by simp) ?_
              refine ⟨_, rfl, ?_⟩
              refine .inl ⟨_, rfl, ?_⟩
              refine ⟨_, rfl, _, _, rfl, rfl, n0, ?_⟩
              exact fin _ i (cell / n) k (m + 1) _ (kp _ _ hk1) upd_same i1 (Int.ediv_nonneg hc0 (by omega)) hI.2.2.2.1 m1 (Int.emod_nonneg _ n2) (Int.emod_lt_of_pos _ n0)
            · refine ⟨_, rfl, t, _, 3, _, rfl, rfl, SqL.of hT1, atI_nat (j := 3) rfl, ?_⟩
              refine ⟨_, _, rfl, rfl, .inr ⟨by decide, by decide⟩, ?_⟩
              refine ⟨_, rfl, ?_⟩
              refine .inl ⟨_, rfl, ?_⟩
              refine ⟨_, _, rfl, rfl, (by decide : (0 : Int) < 2147483629), ?_⟩
              refine ⟨_, _, rfl, rfl, ?_⟩
              refine ⟨_, rfl, t, _, 4, _, rfl, rfl, SqL.of hT1, atI_nat (j := 4) rfl, ?_⟩
              refine ⟨_, _, rfl, rfl, .inr ⟨by decide, by decide⟩, ?_⟩
              refine ⟨_, _, rfl, rfl, ?_⟩
              refine .inl ⟨_, rfl, ?_⟩
              refine ⟨_, _, rfl, rfl, (by decide : (0 : Int) < 2147483647), ?_⟩
              have z0 := Int.emod_nonneg (k * 48271 + cell % 2147483629 + (m + 1) * 69621) (by decide : (2147483647 : Int) ≠ 0)
              have z1 := Int.emod_lt_of_pos (k * 48271 + cell % 2147483629 + (m + 1) * 69621) (by decide : (0 : Int) < 2147483647)
              dsimp only
              generalize (k * 48271 + cell % 2147483629 + (m + 1) * 69621) % 2147483647 = mx at z0 z1 ⊢
              refine ⟨_, rfl, _, rfl, ?_⟩
              refine ⟨_, _, rfl, rfl, ⟨by decide, by decide⟩, ?_⟩
              refine ⟨_, _, rfl, rfl, ?_⟩
              refine ⟨_, _, rfl, rfl, .inl ⟨by omega, by omega⟩, ?_⟩
              refine .inl ⟨_, rfl, ?_⟩
              refine ⟨_, _, rfl, rfl, (by decide : (0 : Int) < 2147483399), ?_⟩
              have y0 := Int.emod_nonneg (mx * (mx / 1009 + 40692)) (by decide : (2147483399 : Int) ≠ 0)
              have y1 := Int.emod_lt_of_pos (mx * (mx / 1009 + 40692)) (by decide : (0 : Int) < 2147483399)
              dsimp only
              generalize (mx * (mx / 1009 + 40692)) % 2147483399 = my at y0 y1 ⊢
              refine ⟨_, rfl, ?_⟩
              refine Dice.set hT1 (j := 3) (by simp) ?_
              refine ⟨_, rfl, ?_⟩
              refine ⟨_, _, rfl, rfl, ⟨by decide, by decide⟩, ?_⟩
              refine .inl ⟨_, rfl, ?_⟩
              refine ⟨_, rfl, _, _, rfl, rfl, n0, ?_⟩
              exact fin _ i j my (m + 1) _ (kp _ _ hk1) upd_same i1 hI.2.2.1 ⟨y0, by omega⟩ m1 (Int.emod_nonneg _ n2) (Int.emod_lt_of_pos _ n0)
    · exact hs.elim
end
def f_law_kinds_ss (K : PySem.W.Frag) (a : Ad) : SS :=
  (sSeq (sSet 1 (sLst saN))
  (sSeq (sSet 1 (sOp addD (sVarB 1) (sLst (saC (sIsX K (.ref a.c_BadProgram) (sVarB 0)) (saC (sIsX K (.ref a.c_NoName) (sVarB 0)) (saC (sIsX K (.ref a.c_BadCode) (sVarB 0)) (saC (sIsX K (.ref a.c_TooLarge) (sVarB 0)) saN)))))))
  (sSeq (sSet 1 (sOp addD (sVarB 1) (sLst (saC (sIsX K (.ref a.c_TooSmall) (sVarB 0)) (saC (sIsX K (.ref a.c_BadText) (sVarB 0)) (saC (sIsX K (.ref a.c_Faulty) (sVarB 0)) (saC (sIsX K (.ref a.c_NoWay) (sVarB 0)) saN)))))))
  (sSeq (sSet 1 (sOp addD (sVarB 1) (sLst (saC (sIsX K (.ref a.c_NoPlace) (sVarB 0)) (saC (sIsX K (.ref a.c_NoRoute) (sVarB 0)) (saC (sIsX K (.ref a.c_Over) (sVarB 0)) (saC (sIsX K (.ref a.c_NoNumber) (sVarB 0)) saN)))))))
  (sSeq (sSet 1 (sOp addD (sVarB 1) (sLst (saC (sIsX K (.ref a.c_BadMachine) (sVarB 0)) (saC (sIsX K (.ref a.c_NoHolding) (sVarB 0)) (saC (sIsX K (.ref a.c_NoBelt) (sVarB 0)) (saC (sIsX K (.ref a.c_NoCarries) (sVarB 0)) saN)))))))
  (sSeq (sSet 1 (sOp addD (sVarB 1) (sLst (saC (sIsX K (.ref a.c_NotFull) (sVarB 0)) (saC (sIsX K (.ref a.c_NoWalk) (sVarB 0)) (saC (sIsX K (.ref a.c_NoNames) (sVarB 0)) (saC (sIsX K (.ref a.c_OtherSize) (sVarB 0)) saN)))))))
  (sSeq (sSet 1 (sOp addD (sVarB 1) (sLst (saC (sIsX K (.ref a.c_NoSeating) (sVarB 0)) (saC (sIsX K (.ref a.c_NotRight) (sVarB 0)) (saC (sIsX K (.ref a.c_NoRing) (sVarB 0)) (saC (sIsX K (.ref a.c_NotStrong) (sVarB 0)) saN)))))))
  (sSeq (sSet 1 (sOp addD (sVarB 1) (sLst (saC (sIsX K (.ref a.c_NotStraight) (sVarB 0)) (saC (sIsX K (.ref a.c_NoLine) (sVarB 0)) (saC (sIsX K (.ref a.c_NoneLed) (sVarB 0)) (saC (sIsX K (.ref a.c_BadNeed) (sVarB 0)) saN)))))))
  (sSeq (sSet 1 (sOp addD (sVarB 1) (sLst (saC (sIsX K (.ref a.c_NothingDone) (sVarB 0)) saN))))
  (sRet (sVar 1)))))))))))
@[irreducible] def f_law_kinds_sf (K : PySem.W.Frag) (a : Ad) : SF := fnS 2 1 (f_law_kinds_ss K a)
def f_law_made_ss (K : PySem.W.Frag) (a : Ad) : SS :=
  (sSeq (sSetO 2 (sLst saN))
  (sSeq (sSetO 2 (sOp catD (sVarB 2) (sLst (saC (sExc1 a.c_BadProgram "part" (saC (sVar 0) saN)) (saC (sExc1 a.c_NoName "name" (saC (sVar 0) saN)) (saC (sExc1 a.c_BadCode "part" (saC (sVar 0) saN)) (saC (sExc1 a.c_TooLarge "most" (saC (sVar 0) saN)) (saC (sExc1 a.c_TooSmall "least" (saC (sVar 0) saN)) saN))))))))
  (sSeq (sSetO 2 (sOp catD (sVarB 2) (sLst (saC (sExc1 a.c_BadText "line" (saC (sVar 0) saN)) saN))))
  (sSeq (sApp 2 (sExc2 a.c_Faulty "place" "name" (saC (sVar 0) (saC (sVar 1) saN))))
  (sSeq (sSetO 2 (sOp catD (sVarB 2) (sLst (saC (sExc0 a.c_NoWay) (saC (sExc0 a.c_NoPlace) (saC (sExc0 a.c_NoRoute) (saC (sExc0 a.c_Over) (saC (sExc0 a.c_NoNumber) (saC (sExc0 a.c_BadMachine) (saC (sExc0 a.c_NoHolding) saN))))))))))
  (sSeq (sSetO 2 (sOp catD (sVarB 2) (sLst (saC (sExc0 a.c_NoBelt) (saC (sExc0 a.c_NoCarries) (saC (sExc0 a.c_NotFull) (saC (sExc0 a.c_NoWalk) (saC (sExc0 a.c_NoNames) (saC (sExc0 a.c_OtherSize) (saC (sExc0 a.c_NoSeating) saN))))))))))
  (sSeq (sSetO 2 (sOp catD (sVarB 2) (sLst (saC (sExc0 a.c_NotRight) (saC (sExc0 a.c_NoRing) (saC (sExc0 a.c_NotStrong) (saC (sExc0 a.c_NotStraight) (saC (sExc0 a.c_NoLine) (saC (sExc0 a.c_NoneLed) (saC (sExc0 a.c_BadNeed) saN))))))))))
  (sSeq (sSetO 2 (sOp catD (sVarB 2) (sLst (saC (sExc0 a.c_NothingDone) saN))))
  (sFrz 2 (sRet (sVar 2)))))))))))
@[irreducible] def f_law_made_sf (K : PySem.W.Frag) (a : Ad) : SF := fnS 3 2 (f_law_made_ss K a)
def f_law_fields_ss (K : PySem.W.Frag) (a : Ad) : SS :=
  (sSeq (sSet 3 (sFldX K "part" (sOp ixD (sVarB 0) (sC (.int 0)))))
  (sSeq (sIfS (sOr (sB (sOp (eqX true) (sVarB 3) (sVarB 1))) (sB (sOp (eqX true) (sCB isiD (saC (sVarB 3) (saC (sC (.ty "bool")) saN))) (sCB isiD (saC (sVarB 1) (saC (sC (.ty "bool")) saN)))))) (sRet (sC (.bl false))) sNext)
  (sSeq (sSet 3 (sFldX K "name" (sOp ixD (sVarB 0) (sC (.int 1)))))
  (sSeq (sIfS (sOr (sB (sOp (eqX true) (sVarB 3) (sVarB 1))) (sB (sOp (eqX true) (sCB isiD (saC (sVarB 3) (saC (sC (.ty "bool")) saN))) (sCB isiD (saC (sVarB 1) (saC (sC (.ty "bool")) saN)))))) (sRet (sC (.bl false))) sNext)
  (sSeq (sSet 3 (sFldX K "part" (sOp ixD (sVarB 0) (sC (.int 2)))))
  (sSeq (sIfS (sOr (sB (sOp (eqX true) (sVarB 3) (sVarB 1))) (sB (sOp (eqX true) (sCB isiD (saC (sVarB 3) (saC (sC (.ty "bool")) saN))) (sCB isiD (saC (sVarB 1) (saC (sC (.ty "bool")) saN)))))) (sRet (sC (.bl false))) sNext)
  (sSeq (sSet 3 (sFldX K "most" (sOp ixD (sVarB 0) (sC (.int 3)))))
  (sSeq (sIfS (sOr (sB (sOp (eqX true) (sVarB 3) (sVarB 1))) (sB (sOp (eqX true) (sCB isiD (saC (sVarB 3) (saC (sC (.ty "bool")) saN))) (sCB isiD (saC (sVarB 1) (saC (sC (.ty "bool")) saN)))))) (sRet (sC (.bl false))) sNext)
  (sSeq (sSet 3 (sFldX K "least" (sOp ixD (sVarB 0) (sC (.int 4)))))
  (sSeq (sIfS (sOr (sB (sOp (eqX true) (sVarB 3) (sVarB 1))) (sB (sOp (eqX true) (sCB isiD (saC (sVarB 3) (saC (sC (.ty "bool")) saN))) (sCB isiD (saC (sVarB 1) (saC (sC (.ty "bool")) saN)))))) (sRet (sC (.bl false))) sNext)
  (sSeq (sSet 3 (sFldX K "line" (sOp ixD (sVarB 0) (sC (.int 5)))))
  (sSeq (sIfS (sOr (sB (sOp (eqX true) (sVarB 3) (sVarB 1))) (sB (sOp (eqX true) (sCB isiD (saC (sVarB 3) (saC (sC (.ty "bool")) saN))) (sCB isiD (saC (sVarB 1) (saC (sC (.ty "bool")) saN)))))) (sRet (sC (.bl false))) sNext)
  (sSeq (sSet 4 (sOp ixD (sVarB 0) (sC (.int 6))))
  (sRet (sAndV (sOp (eqX false) (sFldX K "place" (sVar 4)) (sVarB 1)) (sOp (eqX false) (sFldX K "name" (sVar 4)) (sVarB 2)))))))))))))))))
@[irreducible] def f_law_fields_sf (K : PySem.W.Frag) (a : Ad) : SF := fnS 5 3 (f_law_fields_ss K a)
def f_law_caught_ss (K : PySem.W.Frag) (a : Ad) : SS :=
  (sSeq (sSet 2 (sC (.str "none")))
  (sSeq (sTry K (sSeq (sIfS (sB (sOp (eqD false) (sVarB 0) (sC (.int 0)))) (sRaise1 a.c_BadProgram "part" (saC (sVar 1) saN)) sNext)
  (sSeq (sIfS (sB (sOp (eqD false) (sVarB 0) (sC (.int 1)))) (sRaise0 a.c_NothingDone) sNext)
  (sRaise0 a.c_Over))) [(a.c_Over, (sSet 2 (sC (.str "over")))), (a.c_BeltsError, (sSet 2 (sC (.str "belts"))))])
  (sRet (sVar 2))))
@[irreducible] def f_law_caught_sf (K : PySem.W.Frag) (a : Ad) : SF := fnS 3 2 (f_law_caught_ss K a)
def law_ss (K : PySem.W.Frag) (a : Ad) : SS :=
  (sSeq (sSet 2 (sLst (saC (sC .non) (saC (sC (.bl true)) (saC (sC (.int 0)) (saC (sNeg (sC (.int 7))) (saC (sC (.str "name")) (saC (sLst (saC (sC (.int 1)) saN)) (saC (sTup (saC (sC (.int 2)) (saC (sC (.str "a")) saN))) (saC (sDct1 "a" 1) (saC (sOp (intCD CPow fun i j => i ^ j.toNat) (sC (.int 10)) (sC (.int 30))) (saC (sTup saN) saN))))))))))))
  (sSeq (sSet 3 (sOp ixD (sVarB 2) (sCall (f_law_pick_sf K a) (saC (sVar 1) (saC (sC (.int 10)) saN)))))
  (sSeq (sSet 4 (sOp ixD (sVarB 2) (sCall (f_law_pick_sf K a) (saC (sVar 1) (saC (sC (.int 10)) saN)))))
  (sSeq (sSet 5 (sCall (f_law_made_sf K a) (saC (sVar 3) (saC (sVar 4) saN))))
  (sSeq (sFor (gsN 6) (siR1 (saC (sCB lenD (saC (sVarB 5) saN)) saN)) (sSeq (sIfS (sOr (sNot (sB (sIsX K (.ref a.c_BeltsError) (sOp ixD (sVarB 5) (sVarB 6))))) (sNot (sB (sIsX K (.type "ValueError") (sOp ixD (sVarB 5) (sVarB 6)))))) (sRet (sC (.bl false))) sNext)
  (sIfS (sB (sOp (eqD true) (sCall (f_law_kinds_sf K a) (saC (sOp ixD (sVarB 5) (sVarB 6)) saN)) (sLc (gsN 8) (siR1 (saC (sC (.int 29)) saN)) sYes (sOp (eqD false) (sVarB 8) (sVarB 6)) [8]))) (sRet (sC (.bl false))) sNext)))
  (sSeq (sIfS (sNot (sB (sCall (f_law_fields_sf K a) (saC (sVar 5) (saC (sVar 3) (saC (sVar 4) saN)))))) (sRet (sC (.bl false))) sNext)
  (sRet (sOp (eqD false) (sLc (gsN 7) (siR1 (saC (sC (.int 3)) saN)) sYes (sCall (f_law_caught_sf K a) (saC (sVar 7) (saC (sVar 3) saN))) [7]) (sLst (saC (sC (.str "belts")) (saC (sC (.str "belts")) (saC (sC (.str "over")) saN))))))))))))
section
variable {P : Program} {w : World} {K : PySem.W.Frag} {mg : Str → Option Value} {base : Heap} {a : Ad} {t l : Addr}
theorem f_BadProgram___init___ok (T : Txt K mg a) : FnOk P w K mg base (L2.CX P w) 1 a.p_f_BadProgram___init__ a.d_f_BadProgram___init__ ["self", "part"] (spX1 a.c_BadProgram "part") := by
  refine T.F_f_BadProgram___init__.okX f_BadProgram___init___sc (fun vs H Q E h => ?_) (fun cdv A outer s H vs Q E hr h => ?_)
  · obtain ⟨a1, y, rfl, _⟩ := h
    rfl
  · obtain ⟨a1, y, rfl, h1, q⟩ := h
    exact ⟨_, pss_one (ps_ost (pv 0) (pv 1)), _, rfl, _, rfl, a1, a.c_BadProgram, rfl, T.e_BadProgram, T.h_BadProgram_part, .inl ⟨h1, fun dx n ne => q dx n ne⟩⟩
theorem f_NoName___init___ok (T : Txt K mg a) : FnOk P w K mg base (L2.CX P w) 1 a.p_f_NoName___init__ a.d_f_NoName___init__ ["self", "name"] (spX1 a.c_NoName "name") := by
  refine T.F_f_NoName___init__.okX f_NoName___init___sc (fun vs H Q E h => ?_) (fun cdv A outer s H vs Q E hr h => ?_)
  · obtain ⟨a1, y, rfl, _⟩ := h
    rfl
  · obtain ⟨a1, y, rfl, h1, q⟩ := h
    exact ⟨_, pss_one (ps_ost (pv 0) (pv 1)), _, rfl, _, rfl, a1, a.c_NoName, rfl, T.e_NoName, T.h_NoName_name, .inl ⟨h1, fun dx n ne => q dx n ne⟩⟩
theorem f_BadCode___init___ok (T : Txt K mg a) : FnOk P w K mg base (L2.CX P w) 1 a.p_f_BadCode___init__ a.d_f_BadCode___init__ ["self", "part"] (spX1 a.c_BadCode "part") := by
  refine T.F_f_BadCode___init__.okX f_BadCode___init___sc (fun vs H Q E h => ?_) (fun cdv A outer s H vs Q E hr h => ?_)
  · obtain ⟨a1, y, rfl, _⟩ := h
    rfl
  · obtain ⟨a1, y, rfl, h1, q⟩ := h
    exact ⟨_, pss_one (ps_ost (pv 0) (pv 1)), _, rfl, _, rfl, a1, a.c_BadCode, rfl, T.e_BadCode, T.h_BadCode_part, .inl ⟨h1, fun dx n ne => q dx n ne⟩⟩
theorem f_TooLarge___init___ok (T : Txt K mg a) : FnOk P w K mg base (L2.CX P w) 1 a.p_f_TooLarge___init__ a.d_f_TooLarge___init__ ["self", "most"] (spX1 a.c_TooLarge "most") := by
  refine T.F_f_TooLarge___init__.okX f_TooLarge___init___sc (fun vs H Q E h => ?_) (fun cdv A outer s H vs Q E hr h => ?_)
  · obtain ⟨a1, y, rfl, _⟩ := h
    rfl
  · obtain ⟨a1, y, rfl, h1, q⟩ := h
    exact ⟨_, pss_one (ps_ost (pv 0) (pv 1)), _, rfl, _, rfl, a1, a.c_TooLarge, rfl, T.e_TooLarge, T.h_TooLarge_most, .inl ⟨h1, fun dx n ne => q dx n ne⟩⟩
theorem f_TooSmall___init___ok (T : Txt K mg a) : FnOk P w K mg base (L2.CX P w) 1 a.p_f_TooSmall___init__ a.d_f_TooSmall___init__ ["self", "least"] (spX1 a.c_TooSmall "least") := by
  refine T.F_f_TooSmall___init__.okX f_TooSmall___init___sc (fun vs H Q E h => ?_) (fun cdv A outer s H vs Q E hr h => ?_)
  · obtain ⟨a1, y, rfl, _⟩ := h
    rfl
  · obtain ⟨a1, y, rfl, h1, q⟩ := h
    exact ⟨_, pss_one (ps_ost (pv 0) (pv 1)), _, rfl, _, rfl, a1, a.c_TooSmall, rfl, T.e_TooSmall, T.h_TooSmall_least, .inl ⟨h1, fun dx n ne => q dx n ne⟩⟩
theorem f_BadText___init___ok (T : Txt K mg a) : FnOk P w K mg base (L2.CX P w) 1 a.p_f_BadText___init__ a.d_f_BadText___init__ ["self", "line"] (spX1 a.c_BadText "line") := by
  refine T.F_f_BadText___init__.okX f_BadText___init___sc (fun vs H Q E h => ?_) (fun cdv A outer s H vs Q E hr h => ?_)
  · obtain ⟨a1, y, rfl, _⟩ := h
    rfl
  · obtain ⟨a1, y, rfl, h1, q⟩ := h
    exact ⟨_, pss_one (ps_ost (pv 0) (pv 1)), _, rfl, _, rfl, a1, a.c_BadText, rfl, T.e_BadText, T.h_BadText_line, .inl ⟨h1, fun dx n ne => q dx n ne⟩⟩
theorem f_Faulty___init___ok (T : Txt K mg a) : FnOk P w K mg base (L2.CX P w) 1 a.p_f_Faulty___init__ a.d_f_Faulty___init__ ["self", "place", "name"] (spX2 a.c_Faulty "place" "name") := by
  refine T.F_f_Faulty___init__.okX f_Faulty___init___sc (fun vs H Q E h => ?_) (fun cdv A outer s H vs Q E hr h => ?_)
  · obtain ⟨a1, y, z, rfl, _⟩ := h
    rfl
  · obtain ⟨a1, y, z, rfl, h1, q⟩ := h
    exact ⟨_, pss_cons (ps_ost (pv 0) (pv 1)) (pss_one (ps_ost (pv 0) (pv 2))), _, rfl, _, rfl, a1, a.c_Faulty, rfl, T.e_Faulty, T.h_Faulty_place, .inl ⟨h1, fun dx n ne => ⟨_, rfl, _, rfl, a1, a.c_Faulty, rfl, T.e_Faulty, T.h_Faulty_name, .inr ⟨dx, _, upd_same, Eq.trans (upd_ne ne) upd_same, by simp, q dx n ne⟩⟩⟩⟩
theorem f_law_kinds_ok (T : Txt K mg a) : FnOk P w K mg base (L2.CX P w) 1 a.p_f_law_kinds a.d_f_law_kinds ["_law_e"] (spD t l Ti (f_law_kinds_sf K a)) := by
  unfold f_law_kinds_sf
  refine fn_ok T.F_f_law_kinds f_law_kinds_sc fun cdv A outer s H E hr tk => ?_
  unfold f_law_kinds_ss
  exact (b_cons (s_set (i := 1) f_law_kinds_sc.nd rfl (by first | exact .inl rfl | exact .inr rfl) (f_e (f_lst a_nil)))
  (b_cons (s_set (i := 1) f_law_kinds_sc.nd rfl (by first | exact .inl rfl | exact .inr rfl) (e_add (b_var 1) (f_b (f_lst (a_cons (e_isX (b_var 0) T.g_BadProgram T.n_isinstance) (a_cons (e_isX (b_var 0) T.g_NoName T.n_isinstance) (a_cons (e_isX (b_var 0) T.g_BadCode T.n_isinstance) (a_cons (e_isX (b_var 0) T.g_TooLarge T.n_isinstance) a_nil))))))))
  (b_cons (s_set (i := 1) f_law_kinds_sc.nd rfl (by first | exact .inl rfl | exact .inr rfl) (e_add (b_var 1) (f_b (f_lst (a_cons (e_isX (b_var 0) T.g_TooSmall T.n_isinstance) (a_cons (e_isX (b_var 0) T.g_BadText T.n_isinstance) (a_cons (e_isX (b_var 0) T.g_Faulty T.n_isinstance) (a_cons (e_isX (b_var 0) T.g_NoWay T.n_isinstance) a_nil))))))))
  (b_cons (s_set (i := 1) f_law_kinds_sc.nd rfl (by first | exact .inl rfl | exact .inr rfl) (e_add (b_var 1) (f_b (f_lst (a_cons (e_isX (b_var 0) T.g_NoPlace T.n_isinstance) (a_cons (e_isX (b_var 0) T.g_NoRoute T.n_isinstance) (a_cons (e_isX (b_var 0) T.g_Over T.n_isinstance) (a_cons (e_isX (b_var 0) T.g_NoNumber T.n_isinstance) a_nil))))))))
  (b_cons (s_set (i := 1) f_law_kinds_sc.nd rfl (by first | exact .inl rfl | exact .inr rfl) (e_add (b_var 1) (f_b (f_lst (a_cons (e_isX (b_var 0) T.g_BadMachine T.n_isinstance) (a_cons (e_isX (b_var 0) T.g_NoHolding T.n_isinstance) (a_cons (e_isX (b_var 0) T.g_NoBelt T.n_isinstance) (a_cons (e_isX (b_var 0) T.g_NoCarries T.n_isinstance) a_nil))))))))
  (b_cons (s_set (i := 1) f_law_kinds_sc.nd rfl (by first | exact .inl rfl | exact .inr rfl) (e_add (b_var 1) (f_b (f_lst (a_cons (e_isX (b_var 0) T.g_NotFull T.n_isinstance) (a_cons (e_isX (b_var 0) T.g_NoWalk T.n_isinstance) (a_cons (e_isX (b_var 0) T.g_NoNames T.n_isinstance) (a_cons (e_isX (b_var 0) T.g_OtherSize T.n_isinstance) a_nil))))))))
  (b_cons (s_set (i := 1) f_law_kinds_sc.nd rfl (by first | exact .inl rfl | exact .inr rfl) (e_add (b_var 1) (f_b (f_lst (a_cons (e_isX (b_var 0) T.g_NoSeating T.n_isinstance) (a_cons (e_isX (b_var 0) T.g_NotRight T.n_isinstance) (a_cons (e_isX (b_var 0) T.g_NoRing T.n_isinstance) (a_cons (e_isX (b_var 0) T.g_NotStrong T.n_isinstance) a_nil))))))))
  (b_cons (s_set (i := 1) f_law_kinds_sc.nd rfl (by first | exact .inl rfl | exact .inr rfl) (e_add (b_var 1) (f_b (f_lst (a_cons (e_isX (b_var 0) T.g_NotStraight T.n_isinstance) (a_cons (e_isX (b_var 0) T.g_NoLine T.n_isinstance) (a_cons (e_isX (b_var 0) T.g_NoneLed T.n_isinstance) (a_cons (e_isX (b_var 0) T.g_BadNeed T.n_isinstance) a_nil))))))))
  (b_cons (s_set (i := 1) f_law_kinds_sc.nd rfl (by first | exact .inl rfl | exact .inr rfl) (e_add (b_var 1) (f_b (f_lst (a_cons (e_isX (b_var 0) T.g_NothingDone T.n_isinstance) a_nil)))))
  (b_one (s_ret (e_var 1))))))))))))
theorem f_law_made_ok (T : Txt K mg a) : FnOk P w K mg base (L2.CX P w) 3 a.p_f_law_made a.d_f_law_made ["_law_value", "_law_other"] (spD t l Ti (f_law_made_sf K a)) := by
  have G_f_BadCode___init__ := f_BadCode___init___ok (P := P) (w := w) (base := base) T
  have B_f_BadCode___init__ := T.B_f_BadCode___init__
  have G_f_BadProgram___init__ := f_BadProgram___init___ok (P := P) (w := w) (base := base) T
  have B_f_BadProgram___init__ := T.B_f_BadProgram___init__
  have G_f_BadText___init__ := f_BadText___init___ok (P := P) (w := w) (base := base) T
  have B_f_BadText___init__ := T.B_f_BadText___init__
  have G_f_Faulty___init__ := f_Faulty___init___ok (P := P) (w := w) (base := base) T
  have B_f_Faulty___init__ := T.B_f_Faulty___init__
  have G_f_NoName___init__ := f_NoName___init___ok (P := P) (w := w) (base := base) T
  have B_f_NoName___init__ := T.B_f_NoName___init__
  have G_f_TooLarge___init__ := f_TooLarge___init___ok (P := P) (w := w) (base := base) T
  have B_f_TooLarge___init__ := T.B_f_TooLarge___init__
  have G_f_TooSmall___init__ := f_TooSmall___init___ok (P := P) (w := w) (base := base) T
  have B_f_TooSmall___init__ := T.B_f_TooSmall___init__
  unfold f_law_made_sf
  refine fn_ok T.F_f_law_made f_law_made_sc fun cdv A outer s H E hr tk => ?_
  unfold f_law_made_ss
  exact (b_cons (s_setO (i := 2) f_law_made_sc.nd rfl (by first | exact .inl rfl | exact .inr rfl) (f_lst a_nil))
  (b_cons (s_setO (i := 2) f_law_made_sc.nd rfl (by first | exact .inl rfl | exact .inr rfl) (f_cat (b_var 2) (f_b (f_lst (a_cons (e_exc1 T.e_BadProgram T.i_BadProgram T.f_BadProgram G_f_BadProgram___init__ (hr.mono (by decide)) B_f_BadProgram___init__ T.g_BadProgram (a_cons (e_var 0) a_nil)) (a_cons (e_exc1 T.e_NoName T.i_NoName T.f_NoName G_f_NoName___init__ (hr.mono (by decide)) B_f_NoName___init__ T.g_NoName (a_cons (e_var 0) a_nil)) (a_cons (e_exc1 T.e_BadCode T.i_BadCode T.f_BadCode G_f_BadCode___init__ (hr.mono (by decide)) B_f_BadCode___init__ T.g_BadCode (a_cons (e_var 0) a_nil)) (a_cons (e_exc1 T.e_TooLarge T.i_TooLarge T.f_TooLarge G_f_TooLarge___init__ (hr.mono (by decide)) B_f_TooLarge___init__ T.g_TooLarge (a_cons (e_var 0) a_nil)) (a_cons (e_exc1 T.e_TooSmall T.i_TooSmall T.f_TooSmall G_f_TooSmall___init__ (hr.mono (by decide)) B_f_TooSmall___init__ T.g_TooSmall (a_cons (e_var 0) a_nil)) a_nil)))))))))
  (b_cons (s_setO (i := 2) f_law_made_sc.nd rfl (by first | exact .inl rfl | exact .inr rfl) (f_cat (b_var 2) (f_b (f_lst (a_cons (e_exc1 T.e_BadText T.i_BadText T.f_BadText G_f_BadText___init__ (hr.mono (by decide)) B_f_BadText___init__ T.g_BadText (a_cons (e_var 0) a_nil)) a_nil)))))
  (b_cons (s_app 2 (e_exc2 T.e_Faulty T.i_Faulty T.f_Faulty G_f_Faulty___init__ (hr.mono (by decide)) B_f_Faulty___init__ T.g_Faulty (a_cons (e_var 0) (a_cons (e_var 1) a_nil))))
  (b_cons (s_setO (i := 2) f_law_made_sc.nd rfl (by first | exact .inl rfl | exact .inr rfl) (f_cat (b_var 2) (f_b (f_lst (a_cons (e_exc0 T.x_NoWay T.g_NoWay T.k_NoWay) (a_cons (e_exc0 T.x_NoPlace T.g_NoPlace T.k_NoPlace) (a_cons (e_exc0 T.x_NoRoute T.g_NoRoute T.k_NoRoute) (a_cons (e_exc0 T.x_Over T.g_Over T.k_Over) (a_cons (e_exc0 T.x_NoNumber T.g_NoNumber T.k_NoNumber) (a_cons (e_exc0 T.x_BadMachine T.g_BadMachine T.k_BadMachine) (a_cons (e_exc0 T.x_NoHolding T.g_NoHolding T.k_NoHolding) a_nil)))))))))))
  (b_cons (s_setO (i := 2) f_law_made_sc.nd rfl (by first | exact .inl rfl | exact .inr rfl) (f_cat (b_var 2) (f_b (f_lst (a_cons (e_exc0 T.x_NoBelt T.g_NoBelt T.k_NoBelt) (a_cons (e_exc0 T.x_NoCarries T.g_NoCarries T.k_NoCarries) (a_cons (e_exc0 T.x_NotFull T.g_NotFull T.k_NotFull) (a_cons (e_exc0 T.x_NoWalk T.g_NoWalk T.k_NoWalk) (a_cons (e_exc0 T.x_NoNames T.g_NoNames T.k_NoNames) (a_cons (e_exc0 T.x_OtherSize T.g_OtherSize T.k_OtherSize) (a_cons (e_exc0 T.x_NoSeating T.g_NoSeating T.k_NoSeating) a_nil)))))))))))
  (b_cons (s_setO (i := 2) f_law_made_sc.nd rfl (by first | exact .inl rfl | exact .inr rfl) (f_cat (b_var 2) (f_b (f_lst (a_cons (e_exc0 T.x_NotRight T.g_NotRight T.k_NotRight) (a_cons (e_exc0 T.x_NoRing T.g_NoRing T.k_NoRing) (a_cons (e_exc0 T.x_NotStrong T.g_NotStrong T.k_NotStrong) (a_cons (e_exc0 T.x_NotStraight T.g_NotStraight T.k_NotStraight) (a_cons (e_exc0 T.x_NoLine T.g_NoLine T.k_NoLine) (a_cons (e_exc0 T.x_NoneLed T.g_NoneLed T.k_NoneLed) (a_cons (e_exc0 T.x_BadNeed T.g_BadNeed T.k_BadNeed) a_nil)))))))))))
  (b_cons (s_setO (i := 2) f_law_made_sc.nd rfl (by first | exact .inl rfl | exact .inr rfl) (f_cat (b_var 2) (f_b (f_lst (a_cons (e_exc0 T.x_NothingDone T.g_NothingDone T.k_NothingDone) a_nil)))))
  (b_one (s_frz 2 (s_ret (e_var 2))))))))))))
theorem f_law_fields_ok (T : Txt K mg a) : FnOk P w K mg base (L2.CX P w) 1 a.p_f_law_fields a.d_f_law_fields ["_law_made_here", "_law_value", "_law_other"] (spD t l Ti (f_law_fields_sf K a)) := by
  unfold f_law_fields_sf
  refine fn_ok T.F_f_law_fields f_law_fields_sc fun cdv A outer s H E hr tk => ?_
  unfold f_law_fields_ss
  exact (b_cons (s_set (i := 3) f_law_fields_sc.nd rfl (by first | exact .inl rfl | exact .inr rfl) (e_fldX (e_ix (b_var 0) (e_b e_int))))
  (b_cons (s_if (PW.pt (w_or (t_neX hr.units (b_var 3) (b_var 1)) (w_or1 (t_neX hr.units (e_b (e_cb sem_isi call_isi (by rfl) T.n_isinstance (by decide +kernel) (ab_cons (b_var 3) (ab_cons (e_b (e_ty "bool" (by rfl) T.n_bool (by decide +kernel))) ab_nil)))) (e_b (e_cb sem_isi call_isi (by rfl) T.n_isinstance (by decide +kernel) (ab_cons (b_var 1) (ab_cons (e_b (e_ty "bool" (by rfl) T.n_bool (by decide +kernel))) ab_nil)))))))) (b_one (s_ret e_bl)) b_nil)
  (b_cons (s_set (i := 3) f_law_fields_sc.nd rfl (by first | exact .inl rfl | exact .inr rfl) (e_fldX (e_ix (b_var 0) (e_b e_int))))
  (b_cons (s_if (PW.pt (w_or (t_neX hr.units (b_var 3) (b_var 1)) (w_or1 (t_neX hr.units (e_b (e_cb sem_isi call_isi (by rfl) T.n_isinstance (by decide +kernel) (ab_cons (b_var 3) (ab_cons (e_b (e_ty "bool" (by rfl) T.n_bool (by decide +kernel))) ab_nil)))) (e_b (e_cb sem_isi call_isi (by rfl) T.n_isinstance (by decide +kernel) (ab_cons (b_var 1) (ab_cons (e_b (e_ty "bool" (by rfl) T.n_bool (by decide +kernel))) ab_nil)))))))) (b_one (s_ret e_bl)) b_nil)
  (b_cons (s_set (i := 3) f_law_fields_sc.nd rfl (by first | exact .inl rfl | exact .inr rfl) (e_fldX (e_ix (b_var 0) (e_b e_int))))
  (b_cons (s_if (PW.pt (w_or (t_neX hr.units (b_var 3) (b_var 1)) (w_or1 (t_neX hr.units (e_b (e_cb sem_isi call_isi (by rfl) T.n_isinstance (by decide +kernel) (ab_cons (b_var 3) (ab_cons (e_b (e_ty "bool" (by rfl) T.n_bool (by decide +kernel))) ab_nil)))) (e_b (e_cb sem_isi call_isi (by rfl) T.n_isinstance (by decide +kernel) (ab_cons (b_var 1) (ab_cons (e_b (e_ty "bool" (by rfl) T.n_bool (by decide +kernel))) ab_nil)))))))) (b_one (s_ret e_bl)) b_nil)
  (b_cons (s_set (i := 3) f_law_fields_sc.nd rfl (by first | exact .inl rfl | exact .inr rfl) (e_fldX (e_ix (b_var 0) (e_b e_int))))
  (b_cons (s_if (PW.pt (w_or (t_neX hr.units (b_var 3) (b_var 1)) (w_or1 (t_neX hr.units (e_b (e_cb sem_isi call_isi (by rfl) T.n_isinstance (by decide +kernel) (ab_cons (b_var 3) (ab_cons (e_b (e_ty "bool" (by rfl) T.n_bool (by decide +kernel))) ab_nil)))) (e_b (e_cb sem_isi call_isi (by rfl) T.n_isinstance (by decide +kernel) (ab_cons (b_var 1) (ab_cons (e_b (e_ty "bool" (by rfl) T.n_bool (by decide +kernel))) ab_nil)))))))) (b_one (s_ret e_bl)) b_nil)
  (b_cons (s_set (i := 3) f_law_fields_sc.nd rfl (by first | exact .inl rfl | exact .inr rfl) (e_fldX (e_ix (b_var 0) (e_b e_int))))
  (b_cons (s_if (PW.pt (w_or (t_neX hr.units (b_var 3) (b_var 1)) (w_or1 (t_neX hr.units (e_b (e_cb sem_isi call_isi (by rfl) T.n_isinstance (by decide +kernel) (ab_cons (b_var 3) (ab_cons (e_b (e_ty "bool" (by rfl) T.n_bool (by decide +kernel))) ab_nil)))) (e_b (e_cb sem_isi call_isi (by rfl) T.n_isinstance (by decide +kernel) (ab_cons (b_var 1) (ab_cons (e_b (e_ty "bool" (by rfl) T.n_bool (by decide +kernel))) ab_nil)))))))) (b_one (s_ret e_bl)) b_nil)
  (b_cons (s_set (i := 3) f_law_fields_sc.nd rfl (by first | exact .inl rfl | exact .inr rfl) (e_fldX (e_ix (b_var 0) (e_b e_int))))
  (b_cons (s_if (PW.pt (w_or (t_neX hr.units (b_var 3) (b_var 1)) (w_or1 (t_neX hr.units (e_b (e_cb sem_isi call_isi (by rfl) T.n_isinstance (by decide +kernel) (ab_cons (b_var 3) (ab_cons (e_b (e_ty "bool" (by rfl) T.n_bool (by decide +kernel))) ab_nil)))) (e_b (e_cb sem_isi call_isi (by rfl) T.n_isinstance (by decide +kernel) (ab_cons (b_var 1) (ab_cons (e_b (e_ty "bool" (by rfl) T.n_bool (by decide +kernel))) ab_nil)))))))) (b_one (s_ret e_bl)) b_nil)
  (b_cons (s_set (i := 4) f_law_fields_sc.nd rfl (by first | exact .inl rfl | exact .inr rfl) (e_ix (b_var 0) (e_b e_int)))
  (b_one (s_ret (e_and (e_eqX hr.units (e_b (e_fldX (e_var 4))) (b_var 1)) (e_one (e_eqX hr.units (e_b (e_fldX (e_var 4))) (b_var 2)))))))))))))))))))
theorem f_law_caught_ok (T : Txt K mg a) : FnOk P w K mg base (L2.CX P w) 3 a.p_f_law_caught a.d_f_law_caught ["_law_which", "_law_value"] (spD t l Ti (f_law_caught_sf K a)) := by
  have G_f_BadProgram___init__ := f_BadProgram___init___ok (P := P) (w := w) (base := base) T
  have B_f_BadProgram___init__ := T.B_f_BadProgram___init__
  unfold f_law_caught_sf
  refine fn_ok T.F_f_law_caught f_law_caught_sc fun cdv A outer s H E hr tk => ?_
  unfold f_law_caught_ss
  exact (b_cons (s_set (i := 2) f_law_caught_sc.nd rfl (by first | exact .inl rfl | exact .inr rfl) e_str)
  (b_cons (s_try (cs := [(a.c_Over, (sSet 2 (sC (.str "over")))), (a.c_BeltsError, (sSet 2 (sC (.str "belts"))))]) rfl rfl tk (fun _ _ _ tk1 po1 => (b_cons (s_if (t_eq (b_var 0) (e_b e_int) hr.units) (b_one (s_raise1 rfl tk1 T.e_BadProgram T.i_BadProgram T.f_BadProgram G_f_BadProgram___init__ (hr.mono (by decide)) B_f_BadProgram___init__ T.g_BadProgram (a_cons (e_var 1) a_nil))) b_nil)
  (b_cons (s_if (t_eq (b_var 0) (e_b e_int) hr.units) (b_one (s_raise0 rfl tk1 T.x_NothingDone T.g_NothingDone T.k_NothingDone T.b_NothingDone T.t_NothingDone)) b_nil)
  (b_one (s_raise0 rfl tk1 T.x_Over T.g_Over T.k_Over T.b_Over T.t_Over))))) (HdsOk.cons ⟨rfl, by decide, .inl T.g_Over⟩ (fun _ _ _ _ _ _ _ => (b_one (s_set (i := 2) f_law_caught_sc.nd rfl (by first | exact .inl rfl | exact .inr rfl) e_str))) (HdsOk.cons ⟨rfl, by decide, .inl T.g_BeltsError⟩ (fun _ _ _ _ _ _ _ => (b_one (s_set (i := 2) f_law_caught_sc.nd rfl (by first | exact .inl rfl | exact .inr rfl) e_str))) HdsOk.nil)))
  (b_one (s_ret (e_var 2)))))
theorem law_rest (T : Txt K mg a) (cdv : Value) (A : Around) (outer : List PySem.Env) (s : Shared) (H : Hp) (E : XK) (hr : Room 3 (A.deeper (envOfC "law" (defScope f_law_st) s.heap.objs.size a.p_f_law cdv))) (tk : Takes (cxOf (L2.CX P w) P w K mg base f_law_N "law" (defScope f_law_st) a.p_f_law cdv A outer s H E) (fun cls d _ H => E cls d H)) :
    PSs (cxOf (L2.CX P w) P w K mg base f_law_N "law" (defScope f_law_st) a.p_f_law cdv A outer s H E) ((defBody f_law_st).drop 1) (rdS t l Ti (fun cls d _ H => E cls d H) (law_ss K a)) := by
  have G_f_law_caught := f_law_caught_ok (P := P) (w := w) (base := base) (t := t) (l := l) T
  have B_f_law_caught := T.B_f_law_caught
  have G_f_law_fields := f_law_fields_ok (P := P) (w := w) (base := base) (t := t) (l := l) T
  have B_f_law_fields := T.B_f_law_fields
  have G_f_law_kinds := f_law_kinds_ok (P := P) (w := w) (base := base) (t := t) (l := l) T
  have B_f_law_kinds := T.B_f_law_kinds
  have G_f_law_made := f_law_made_ok (P := P) (w := w) (base := base) (t := t) (l := l) T
  have B_f_law_made := T.B_f_law_made
  have G_f_law_pick := f_law_pick_ok (P := P) (w := w) (base := base) (t := t) (l := l) T
  have B_f_law_pick := T.B_f_law_pick
  unfold law_ss
  exact (b_cons (s_set (i := 2) f_law_sc.nd rfl (by first | exact .inl rfl | exact .inr rfl) (f_e (f_lst (a_cons e_non (a_cons e_bl (a_cons e_int (a_cons (e_neg e_int) (a_cons e_str (a_cons (f_e (f_lst (a_cons e_int a_nil))) (a_cons (e_tup (a_cons e_int (a_cons e_str a_nil))) (a_cons (f_e f_dct1) (a_cons (e_pow (e_b e_int) (e_b e_int)) (a_cons (e_tup a_nil) a_nil)))))))))))))
  (b_cons (s_set (i := 3) f_law_sc.nd rfl (by first | exact .inl rfl | exact .inr rfl) (e_ix (b_var 2) (e_b (e_call tk G_f_law_pick (hr.mono (by decide)) T.g_f_law_pick T.F_f_law_pick.kp B_f_law_pick (a_cons (e_var 1) (a_cons e_int a_nil))))))
  (b_cons (s_set (i := 4) f_law_sc.nd rfl (by first | exact .inl rfl | exact .inr rfl) (e_ix (b_var 2) (e_b (e_call tk G_f_law_pick (hr.mono (by decide)) T.g_f_law_pick T.F_f_law_pick.kp B_f_law_pick (a_cons (e_var 1) (a_cons e_int a_nil))))))
  (b_cons (s_set (i := 5) f_law_sc.nd rfl (by first | exact .inl rfl | exact .inr rfl) (e_call tk G_f_law_made (hr.mono (by decide)) T.g_f_law_made T.F_f_law_made.kp B_f_law_made (a_cons (e_var 3) (a_cons (e_var 4) a_nil))))
  (b_cons (s_for (passes_of rfl) rfl (i_rng1 (by rfl) T.n_range (a_cons (e_cb sem_len call_len (by rfl) T.n_len (by decide +kernel) (ab_cons (b_var 5) ab_nil)) a_nil)) (g_name 6 f_law_sc.nd rfl (by first | exact .inl rfl | exact .inr rfl)) (b_cons (s_if (PW.pt (w_or (t_not (t_val (e_isX (e_b (e_ix (b_var 5) (b_var 6))) T.g_BeltsError T.n_isinstance))) (w_or1 (t_not (t_val (e_isXT (e_b (e_ix (b_var 5) (b_var 6))) T.n_ValueError (by decide +kernel) T.n_isinstance)))))) (b_one (s_ret e_bl)) b_nil)
  (b_one (s_if (t_ne (e_b (e_call tk G_f_law_kinds (hr.mono (by decide)) T.g_f_law_kinds T.F_f_law_kinds.kp B_f_law_kinds (a_cons (e_ix (b_var 5) (b_var 6)) a_nil))) (f_b (f_lc rfl f_law_sc.nd (i_rng1 (by rfl) T.n_range (a_cons e_int a_nil)) (blkOk_by (own := [("_law_place", 8)]) (N := f_law_N) (sc := defScope f_law_st) (by decide +kernel)) (by decide) (fun _ _ _ _ _ => (g_name 8 f_law_sc.nd rfl (by first | exact .inl rfl | exact .inr rfl))) (fun _ _ _ _ _ => ts_nil) (fun _ _ _ _ _ => (e_eq hr.units (b_var 8) (b_var 6))))) hr.units) (b_one (s_ret e_bl)) b_nil))))
  (b_cons (s_if (t_not (t_val (e_call tk G_f_law_fields (hr.mono (by decide)) T.g_f_law_fields T.F_f_law_fields.kp B_f_law_fields (a_cons (e_var 5) (a_cons (e_var 3) (a_cons (e_var 4) a_nil)))))) (b_one (s_ret e_bl)) b_nil)
  (b_one (s_ret (e_eq hr.units (f_b (f_lc rfl f_law_sc.nd (i_rng1 (by rfl) T.n_range (a_cons e_int a_nil)) (blkOk_by (own := [("_law_which", 7)]) (N := f_law_N) (sc := defScope f_law_st) (by decide +kernel)) (by decide) (fun _ _ _ _ _ => (g_name 7 f_law_sc.nd rfl (by first | exact .inl rfl | exact .inr rfl))) (fun _ _ _ _ _ => ts_nil) (fun _ _ _ _ _ => (e_call takes0 G_f_law_caught (hr.mono (by decide)) T.g_f_law_caught T.F_f_law_caught.kp B_f_law_caught (a_cons (e_var 7) (a_cons (e_var 3) a_nil)))))) (f_b (f_lst (a_cons e_str (a_cons e_str (a_cons e_str a_nil))))))))))))))
end

section
variable {P : Program} {w : World} {K : PySem.W.Frag} {mg : Str → Option Value} {base : Heap} {a : Ad}
def spTape (K : PySem.W.Frag) : Sp := fun vs H Q _ => ∃ (p : Addr) (ns : List Int), vs = [.ref p] ∧ SqL K H p (ns.map V.int) ∧ ∀ H' t l, Same H H' → H t = none → H l = none → Tp t l Ti H' → Q (.ref t) H'
theorem f_law_tape_ok (T : Txt K mg a) : FnOk P w K mg base (L2.CX P w) 1 a.p_f_law_tape a.d_f_law_tape ["_law_script"] (spTape K) := by
  refine T.F_f_law_tape.okX f_law_tape_sc (fun vs H Q E h => ?_) (fun cdv A outer s H vs Q E hr h => ?_)
  · obtain ⟨p, ns, rfl, _⟩ := h
    rfl
  · obtain ⟨p, ns, rfl, hS, q⟩ := h
    refine ⟨_, pss_one (ps_ret (pe_lst (pa_cons (pe_callTy call_list_of (by rfl) T.n_list (by decide +kernel) (pa_cons (pv 0) pa_nil) (by decide) (by decide))
      (pa_cons pe_int (pa_cons pe_int (pa_cons pe_int (pa_cons pe_int pa_nil))))))), ?_⟩
    refine ⟨_, rfl, p, _, rfl, .inl hS, fun l nl => ?_⟩
    refine ⟨by show 5 ≤ sizeLine; decide, fun t nt => ?_⟩
    have lt : l ≠ t := fun e => by
      rw [← e, upd_same] at nt
      cases nt
    have nt0 : H t = none := by
      rw [upd_ne lt.symm] at nt
      exact nt
    refine q _ t l (fun b o e => ?_) nt0 nl ⟨ns, 0, 0, 1, 0, upd_same, ?_, True.intro, by decide, by decide, by decide, by decide⟩
    · rw [upd_ne (ne_of_none e nt0), upd_ne (ne_of_none e nl)]
      exact e
    · rw [upd_ne lt, upd_same]
def spLaw (K : PySem.W.Frag) : Sp := fun vs H Q _ => ∃ (p : Addr) (ns : List Int), vs = [.ref p] ∧ SqL K H p (ns.map V.int) ∧ ns.length ≤ 63 ∧ ∀ H', Q (.bl true) H'
/-- what is left to be shown: plain reckoning -/
def LawMath (K : PySem.W.Frag) (a : Ad) : Prop := ∀ S : EndS, S.rt (.bl true) → (law_ss K a) [.no, .d .tape, .no, .no, .no, .no, .no, .no, .no] S
theorem law_ok (T : Txt K mg a) (M : LawMath K a) : FnOk P w K mg base (L2.CX P w) 4 a.p_f_law a.d_f_law ["_law_script"] (spLaw K) := by
  have GD := f_law_tape_ok (P := P) (w := w) (base := base) T
  refine T.F_f_law.okX f_law_sc (fun vs H Q E h => ?_) (fun cdv A outer s H vs Q E hr h => ?_)
  · obtain ⟨p, ns, rfl, _⟩ := h
    rfl
  · obtain ⟨p, ns, rfl, hS, hlen, q⟩ := h
    have tk := takes_of (X := cxOf (L2.CX P w) P w K mg base f_law_N "law" (defScope f_law_st) a.p_f_law cdv A outer s H E) rfl rfl rfl rfl
    have rest : PSs (cxOf (L2.CX P w) P w K mg base f_law_N "law" (defScope f_law_st) a.p_f_law cdv A outer s H E) ((defBody f_law_st).drop 1) (fun D σ H' => ∃ t l, rdS t l Ti (fun cls d _ H => E cls d H) (law_ss K a) D σ H') :=
      ⟨fun pins s' σ H' D I ⟨t, l, h⟩ => (law_rest (t := t) (l := l) T cdv A outer s H E hr tk).run pins s' σ H' D I h⟩
    refine ⟨_, pss_cons (ps_set (i := 1) f_law_sc.nd rfl (by first | exact Or.inl rfl | exact Or.inr rfl) (pe_callS GD (hr.mono (by decide)) (by rfl) T.g_f_law_tape T.F_f_law_tape.kp T.B_f_law_tape (fun σ => passAt tk σ) (pa_cons (pv 0) pa_nil))) rest, ?_⟩
    refine ⟨_, rfl, p, ns, rfl, hS, fun H' t l hs nt nl T' => ?_⟩
    refine ⟨t, l, H', [t, l], [t, l], [.no, .d .tape, .no, .no, .no, .no, .no, .no, .no], { nx := fun _ => False, rt := fun d => d = .bl true, bk := fun _ => False, ct := fun _ => False, ex := fun _ _ => False }, ⟨⟨T', by simp, by simp, fun _ h => h, fun b hb => ?_, fun b hb => ?_, fun _ _ _ e => e, fun _ h => .inl h⟩, rfl, fun i s' hi => ?_, fun i j p xi xj h1 _ _ _ => ?_⟩, M _ rfl, ⟨fun _ _ _ _ _ h => h.elim, fun _ _ _ _ _ h => h.elim, fun _ _ _ _ _ h => h.elim, fun d v O'' H'' E'' h r => ?_, fun _ _ _ _ _ _ _ _ h => h.elim, fun _ _ _ _ _ _ h => h.elim⟩⟩
    · rcases List.mem_cons.mp hb with rfl | hb
      · exact T'.t_some
      · rcases List.mem_cons.mp hb with rfl | hb
        · exact T'.l_some
        · cases hb
    · rcases List.mem_cons.mp hb with rfl | hb
      · exact T'.t_some
      · rcases List.mem_cons.mp hb with rfl | hb
        · exact T'.l_some
        · cases hb
    · match i with
      | 0 =>
        cases hi
        exact True.intro
      | 1 =>
        cases hi
        exact ⟨_, rfl, .tape⟩
      | (i + 2) =>
        have h2 : ([.no, .no, .no, .no, .no, .no, .no] : List Slot)[i]? = some s' := hi
        have h3 := List.mem_of_getElem? h2
        have h4 : s' = .no := by simpa using h3
        subst h4
        exact True.intro
    · match i with
      | 0 => cases h1
      | 1 => cases h1
      | (i + 2) =>
        have h2 : ([.no, .no, .no, .no, .no, .no, .no] : List Slot)[i]? = some (.own xi) := h1
        have h3 := List.mem_of_getElem? h2
        simp at h3
    · subst h
      cases r
      exact q _
end
section
theorem eqD_c {neg : Bool} {d e : D} {Q : Bool → Prop} (h : okD 60 d = true) (h' : okD 60 e = true) (q : ∀ b, eqB d e = b → Q (if neg then !b else b)) : eqD neg d e (fun w => boolD w Q) := by
  refine eqD_of h h' ?_
  cases neg
  · exact q _ rfl
  · exact q _ rfl
end
/-! the mathematics of k00 -/
section
variable {K : PySem.W.Frag} {mg : Str → Option Value} {a : Ad} {P : D → Prop} {PX : XD → Prop}
theorem lm {n : Nat} (h : Nat.ble n 1000000 = true) : n ≤ maxLen := by
  have := Nat.le_of_ble_eq_true h
  unfold maxLen
  omega
def cs (a : Ad) : List Addr := [a.c_BadProgram, a.c_NoName, a.c_BadCode, a.c_TooLarge, a.c_TooSmall, a.c_BadText, a.c_Faulty, a.c_NoWay, a.c_NoPlace, a.c_NoRoute, a.c_Over, a.c_NoNumber, a.c_BadMachine, a.c_NoHolding, a.c_NoBelt, a.c_NoCarries, a.c_NotFull, a.c_NoWalk, a.c_NoNames, a.c_OtherSize, a.c_NoSeating, a.c_NotRight, a.c_NoRing, a.c_NotStrong, a.c_NotStraight, a.c_NoLine, a.c_NoneLed, a.c_BadNeed, a.c_NothingDone]
def excs (a : Ad) (v o : D) : List D := [.exc a.c_BadProgram [("part", v)], .exc a.c_NoName [("name", v)], .exc a.c_BadCode [("part", v)], .exc a.c_TooLarge [("most", v)], .exc a.c_TooSmall [("least", v)], .exc a.c_BadText [("line", v)], .exc a.c_Faulty [("name", o), ("place", v)], .exc a.c_NoWay [], .exc a.c_NoPlace [], .exc a.c_NoRoute [], .exc a.c_Over [], .exc a.c_NoNumber [], .exc a.c_BadMachine [], .exc a.c_NoHolding [], .exc a.c_NoBelt [], .exc a.c_NoCarries [], .exc a.c_NotFull [], .exc a.c_NoWalk [], .exc a.c_NoNames [], .exc a.c_OtherSize [], .exc a.c_NoSeating [], .exc a.c_NotRight [], .exc a.c_NoRing [], .exc a.c_NotStrong [], .exc a.c_NotStraight [], .exc a.c_NoLine [], .exc a.c_NoneLed [], .exc a.c_BadNeed [], .exc a.c_NothingDone []]
structure Fact (K : PySem.W.Frag) (a : Ad) (c : Addr) : Prop where
  e : ExcC K c
  m : (PySem.W.clsIn K c).map (·.mro) = some [.ref c, .ref a.c_BeltsError, .type "ValueError", .type "Exception", .type "BaseException", .type "object"]
  s : (PySem.W.clsIn K c).isSome = true
  t : PySem.W.typeIn K (.ref c) = some (.type "type")
theorem facts (T : Txt K mg a) : ∀ c ∈ cs a, Fact K a c := fun c hc => by
  unfold cs at hc
  rcases List.mem_cons.mp hc with rfl | hc
  · exact ⟨T.E_BadProgram, T.y_BadProgram, T.s_BadProgram, T.t_BadProgram⟩
  rcases List.mem_cons.mp hc with rfl | hc
  · exact ⟨T.E_NoName, T.y_NoName, T.s_NoName, T.t_NoName⟩
  rcases List.mem_cons.mp hc with rfl | hc
  · exact ⟨T.E_BadCode, T.y_BadCode, T.s_BadCode, T.t_BadCode⟩
  rcases List.mem_cons.mp hc with rfl | hc
  · exact ⟨T.E_TooLarge, T.y_TooLarge, T.s_TooLarge, T.t_TooLarge⟩
  rcases List.mem_cons.mp hc with rfl | hc
  · exact ⟨T.E_TooSmall, T.y_TooSmall, T.s_TooSmall, T.t_TooSmall⟩
  rcases List.mem_cons.mp hc with rfl | hc
  · exact ⟨T.E_BadText, T.y_BadText, T.s_BadText, T.t_BadText⟩
  rcases List.mem_cons.mp hc with rfl | hc
  · exact ⟨T.E_Faulty, T.y_Faulty, T.s_Faulty, T.t_Faulty⟩
  rcases List.mem_cons.mp hc with rfl | hc
  · exact ⟨T.E_NoWay, T.y_NoWay, T.s_NoWay, T.t_NoWay⟩
  rcases List.mem_cons.mp hc with rfl | hc
  · exact ⟨T.E_NoPlace, T.y_NoPlace, T.s_NoPlace, T.t_NoPlace⟩
  rcases List.mem_cons.mp hc with rfl | hc
  · exact ⟨T.E_NoRoute, T.y_NoRoute, T.s_NoRoute, T.t_NoRoute⟩
  rcases List.mem_cons.mp hc with rfl | hc
  · exact ⟨T.E_Over, T.y_Over, T.s_Over, T.t_Over⟩
  rcases List.mem_cons.mp hc with rfl | hc
  · exact ⟨T.E_NoNumber, T.y_NoNumber, T.s_NoNumber, T.t_NoNumber⟩
  rcases List.mem_cons.mp hc with rfl | hc
  · exact ⟨T.E_BadMachine, T.y_BadMachine, T.s_BadMachine, T.t_BadMachine⟩
  rcases List.mem_cons.mp hc with rfl | hc
  · exact ⟨T.E_NoHolding, T.y_NoHolding, T.s_NoHolding, T.t_NoHolding⟩
  rcases List.mem_cons.mp hc with rfl | hc
  · exact ⟨T.E_NoBelt, T.y_NoBelt, T.s_NoBelt, T.t_NoBelt⟩
  rcases List.mem_cons.mp hc with rfl | hc
  · exact ⟨T.E_NoCarries, T.y_NoCarries, T.s_NoCarries, T.t_NoCarries⟩
  rcases List.mem_cons.mp hc with rfl | hc
  · exact ⟨T.E_NotFull, T.y_NotFull, T.s_NotFull, T.t_NotFull⟩
  rcases List.mem_cons.mp hc with rfl | hc
  · exact ⟨T.E_NoWalk, T.y_NoWalk, T.s_NoWalk, T.t_NoWalk⟩
  rcases List.mem_cons.mp hc with rfl | hc
  · exact ⟨T.E_NoNames, T.y_NoNames, T.s_NoNames, T.t_NoNames⟩
  rcases List.mem_cons.mp hc with rfl | hc
  · exact ⟨T.E_OtherSize, T.y_OtherSize, T.s_OtherSize, T.t_OtherSize⟩
  rcases List.mem_cons.mp hc with rfl | hc
  · exact ⟨T.E_NoSeating, T.y_NoSeating, T.s_NoSeating, T.t_NoSeating⟩
  rcases List.mem_cons.mp hc with rfl | hc
  · exact ⟨T.E_NotRight, T.y_NotRight, T.s_NotRight, T.t_NotRight⟩
  rcases List.mem_cons.mp hc with rfl | hc
  · exact ⟨T.E_NoRing, T.y_NoRing, T.s_NoRing, T.t_NoRing⟩
  rcases List.mem_cons.mp hc with rfl | hc
  · exact ⟨T.E_NotStrong, T.y_NotStrong, T.s_NotStrong, T.t_NotStrong⟩
  rcases List.mem_cons.mp hc with rfl | hc
  · exact ⟨T.E_NotStraight, T.y_NotStraight, T.s_NotStraight, T.t_NotStraight⟩
  rcases List.mem_cons.mp hc with rfl | hc
  · exact ⟨T.E_NoLine, T.y_NoLine, T.s_NoLine, T.t_NoLine⟩
  rcases List.mem_cons.mp hc with rfl | hc
  · exact ⟨T.E_NoneLed, T.y_NoneLed, T.s_NoneLed, T.t_NoneLed⟩
  rcases List.mem_cons.mp hc with rfl | hc
  · exact ⟨T.E_BadNeed, T.y_BadNeed, T.s_BadNeed, T.t_BadNeed⟩
  rcases List.mem_cons.mp hc with rfl | hc
  · exact ⟨T.E_NothingDone, T.y_NothingDone, T.s_NothingDone, T.t_NothingDone⟩
  cases hc
theorem cs_nd (T : Txt K mg a) : (cs a).Nodup ∧ ∀ c ∈ cs a, c ≠ a.c_BeltsError := by
  have h : (cs a ++ [a.c_BeltsError]).Nodup := T.nd
  rw [List.nodup_append] at h
  exact ⟨h.1, fun c hc => h.2.2 c hc _ (List.mem_singleton.mpr rfl)⟩
theorem kit_at (T : Txt K mg a) {C c : Addr} (hC : C ∈ cs a) (hc : c ∈ cs a) : PySem.W.kitOne K (.ref C) (.ref c) = some (decide (C = c)) :=
  kit_mro (facts T C hC).m (facts T c hc).s (facts T c hc).t ((cs_nd T).2 c hc)
theorem kinds_v (T : Txt K mg a) {C : Addr} {fs : List (Str × D)} (hC : C ∈ cs a) (p : P (.lst ((cs a).map fun c => .bl (decide (C = c))))) : f_law_kinds_sf K a [.exc C fs] P PX := by
  unfold f_law_kinds_sf
  have hE := (facts T C hC).e
  refine ⟨rfl, lm rfl, ?_⟩
  refine ⟨hE, _, kit_at T hC (List.mem_of_getElem? (i := 0) rfl), hE, _, kit_at T hC (List.mem_of_getElem? (i := 1) rfl), hE, _, kit_at T hC (List.mem_of_getElem? (i := 2) rfl), hE, _, kit_at T hC (List.mem_of_getElem? (i := 3) rfl), lm rfl, lm rfl, ?_⟩
  refine ⟨hE, _, kit_at T hC (List.mem_of_getElem? (i := 4) rfl), hE, _, kit_at T hC (List.mem_of_getElem? (i := 5) rfl), hE, _, kit_at T hC (List.mem_of_getElem? (i := 6) rfl), hE, _, kit_at T hC (List.mem_of_getElem? (i := 7) rfl), lm rfl, lm rfl, ?_⟩
  refine ⟨hE, _, kit_at T hC (List.mem_of_getElem? (i := 8) rfl), hE, _, kit_at T hC (List.mem_of_getElem? (i := 9) rfl), hE, _, kit_at T hC (List.mem_of_getElem? (i := 10) rfl), hE, _, kit_at T hC (List.mem_of_getElem? (i := 11) rfl), lm rfl, lm rfl, ?_⟩
  refine ⟨hE, _, kit_at T hC (List.mem_of_getElem? (i := 12) rfl), hE, _, kit_at T hC (List.mem_of_getElem? (i := 13) rfl), hE, _, kit_at T hC (List.mem_of_getElem? (i := 14) rfl), hE, _, kit_at T hC (List.mem_of_getElem? (i := 15) rfl), lm rfl, lm rfl, ?_⟩
  refine ⟨hE, _, kit_at T hC (List.mem_of_getElem? (i := 16) rfl), hE, _, kit_at T hC (List.mem_of_getElem? (i := 17) rfl), hE, _, kit_at T hC (List.mem_of_getElem? (i := 18) rfl), hE, _, kit_at T hC (List.mem_of_getElem? (i := 19) rfl), lm rfl, lm rfl, ?_⟩
  refine ⟨hE, _, kit_at T hC (List.mem_of_getElem? (i := 20) rfl), hE, _, kit_at T hC (List.mem_of_getElem? (i := 21) rfl), hE, _, kit_at T hC (List.mem_of_getElem? (i := 22) rfl), hE, _, kit_at T hC (List.mem_of_getElem? (i := 23) rfl), lm rfl, lm rfl, ?_⟩
  refine ⟨hE, _, kit_at T hC (List.mem_of_getElem? (i := 24) rfl), hE, _, kit_at T hC (List.mem_of_getElem? (i := 25) rfl), hE, _, kit_at T hC (List.mem_of_getElem? (i := 26) rfl), hE, _, kit_at T hC (List.mem_of_getElem? (i := 27) rfl), lm rfl, lm rfl, ?_⟩
  refine ⟨hE, _, kit_at T hC (List.mem_of_getElem? (i := 28) rfl), lm rfl, lm rfl, ?_⟩
  exact p
theorem made_v {v o : D} (p : P (.lst (excs a v o))) : f_law_made_sf K a [v, o] P PX := by
  unfold f_law_made_sf
  exact ⟨rfl, lm rfl, lm rfl, lm rfl, lm rfl, lm rfl, lm rfl, lm rfl, lm rfl, lm rfl, lm rfl, lm rfl, lm rfl, lm rfl, lm rfl, p⟩
/-! the fields -/
structure Val (v : D) : Prop where
  pl : plainTy v = true
  eq : okD 60 v = true ∨ ∃ x i, v = .dct [(.str x, .int i)]
theorem eqX_self {neg : Bool} {v : D} (h : Val v) (p : P (.bl (!neg))) : eqX neg v v P := by
  rcases h.eq with e | ⟨x, i, rfl⟩
  · refine .inr (eqD_of e e ?_)
    rw [eqB_refl e]
    cases neg
    · exact p
    · exact p
  · exact .inl ⟨x, i, rfl, rfl, p⟩
theorem eqX_b {b : Bool} (p : P (.bl false)) : eqX true (.bl b) (.bl b) P := eqX_self ⟨rfl, .inl rfl⟩ p
theorem fld1 {f : Str} {C : Addr} {v : D} (q : XfC K C) (h : PySem.W.findIn K (.ref C) f = some none) (p : P v) : fldX K f (.exc C [(f, v)]) P := by
  refine ⟨q, h, ?_⟩
  rw [show List.lookup f [(f, v)] = some v by simp [List.lookup]]
  exact p
theorem fldn {C : Addr} {v o : D} (q : XfC K C) (h : PySem.W.findIn K (.ref C) "name" = some none) (p : P o) : fldX K "name" (.exc C [("name", o), ("place", v)]) P := by
  refine ⟨q, h, ?_⟩
  rw [show List.lookup ("name" : Str) [(("name" : Str), o), (("place" : Str), v)] = some o by simp [List.lookup]]
  exact p
theorem fldp {C : Addr} {v o : D} (q : XfC K C) (h : PySem.W.findIn K (.ref C) "place" = some none) (p : P v) : fldX K "place" (.exc C [("name", o), ("place", v)]) P := by
  refine ⟨q, h, ?_⟩
  have e : (("place" : Str) == "name") = false := by decide +kernel
  rw [show List.lookup ("place" : Str) [(("name" : Str), o), (("place" : Str), v)] = some v by simp [List.lookup, e]]
  exact p
theorem fields_v (T : Txt K mg a) {v o : D} (hv : Val v) (ho : Val o) (p : P (.bl true)) : f_law_fields_sf K a [.lst (excs a v o), v, o] P PX := by
  unfold f_law_fields_sf
  refine ⟨rfl, ?_⟩
  show f_law_fields_ss K a [.d (.lst (excs a v o)), .d v, .d o, .no, .no] _
  unfold f_law_fields_ss
  dsimp only [fnS, sSeq, sSet, sSetG, sSetO, sDrop, sRet, sRetN, sIfS, sNext, sBreak, sCont, frz, sFrz, sApp, sSetI, setIx, sAug, sFor, sRaise0, sVar, sVarB, sC, sOp, sB, boolD, sCh, cmpD, DS.intD, intCD, sAnd, sOr, sNot, sAndV, sOrV, sNotV, sIf, sNeg, saN, saC, sTup, sLst, sCB, sCall, siS, seqD, siR1, siR2, rng1D, rng2D, gsN, gsT, setAll, wipeS, sYes, sLc, sLc2, soN, soI, sSl, slD, isNonD, isiD, isiTD, lenD, tupFD, lstFD, int2D, intFD, absD, addD, mulD, ixD, List.map_cons, List.map_nil, List.replicate, List.cons_append, List.nil_append, List.getElem?_cons_zero, List.getElem?_cons_succ, List.set_cons_zero, List.set_cons_succ, Bool.not_true, Bool.not_false, sFldX]
  refine atD_nat (ds := excs a v o) (n := 0) rfl ?_
  refine fld1 T.q_BadProgram T.h_BadProgram_part ?_
  refine eqX_self hv ⟨hv.pl, by decide, hv.pl, by decide, eqX_b ?_⟩
  refine atD_nat (ds := excs a v o) (n := 1) rfl ?_
  refine fld1 T.q_NoName T.h_NoName_name ?_
  refine eqX_self hv ⟨hv.pl, by decide, hv.pl, by decide, eqX_b ?_⟩
  refine atD_nat (ds := excs a v o) (n := 2) rfl ?_
  refine fld1 T.q_BadCode T.h_BadCode_part ?_
  refine eqX_self hv ⟨hv.pl, by decide, hv.pl, by decide, eqX_b ?_⟩
  refine atD_nat (ds := excs a v o) (n := 3) rfl ?_
  refine fld1 T.q_TooLarge T.h_TooLarge_most ?_
  refine eqX_self hv ⟨hv.pl, by decide, hv.pl, by decide, eqX_b ?_⟩
  refine atD_nat (ds := excs a v o) (n := 4) rfl ?_
  refine fld1 T.q_TooSmall T.h_TooSmall_least ?_
  refine eqX_self hv ⟨hv.pl, by decide, hv.pl, by decide, eqX_b ?_⟩
  refine atD_nat (ds := excs a v o) (n := 5) rfl ?_
  refine fld1 T.q_BadText T.h_BadText_line ?_
  refine eqX_self hv ⟨hv.pl, by decide, hv.pl, by decide, eqX_b ?_⟩
  refine atD_nat (ds := excs a v o) (n := 6) rfl ?_
  refine fldp T.q_Faulty T.h_Faulty_place ?_
  refine eqX_self hv ?_
  refine fldn T.q_Faulty T.h_Faulty_name ?_
  exact eqX_self ho p
/-! what is caught -/
theorem eqD_i {i j : Int} {b : Bool} {Q : Bool → Prop} (h : eqB (.int i) (.int j) = b) (q : Q b) : eqD false (.int i) (.int j) (fun w => boolD w Q) := eqD_c (neg := false) rfl rfl fun c ec => by
  rw [← ec, h]
  exact q
theorem caught_0 (T : Txt K mg a) {v : D} (p : P (.str "belts")) : f_law_caught_sf K a [.int 0, v] P PX := by
  unfold f_law_caught_sf
  refine ⟨rfl, eqD_i (b := true) (by decide +kernel) ?_⟩
  show hdL K _ [(a.c_Over, _), (a.c_BeltsError, _)] _ _
  unfold hdL
  rw [T.m_BadProgram_Over]
  show hdL K _ [(a.c_BeltsError, _)] _ _
  unfold hdL
  rw [T.m_BadProgram_BeltsError]
  exact p
theorem caught_1 (T : Txt K mg a) {v : D} (p : P (.str "belts")) : f_law_caught_sf K a [.int 1, v] P PX := by
  unfold f_law_caught_sf
  refine ⟨rfl, eqD_i (b := false) (by decide +kernel) (eqD_i (b := true) (by decide +kernel) ?_)⟩
  show hdL K _ [(a.c_Over, _), (a.c_BeltsError, _)] _ _
  unfold hdL
  rw [T.m_NothingDone_Over]
  show hdL K _ [(a.c_BeltsError, _)] _ _
  unfold hdL
  rw [T.m_NothingDone_BeltsError]
  exact p
theorem caught_2 (T : Txt K mg a) {v : D} (p : P (.str "over")) : f_law_caught_sf K a [.int 2, v] P PX := by
  unfold f_law_caught_sf
  refine ⟨rfl, eqD_i (b := false) (by decide +kernel) (eqD_i (b := false) (by decide +kernel) ?_)⟩
  show hdL K _ [(a.c_Over, _), (a.c_BeltsError, _)] _ _
  unfold hdL
  rw [T.m_Over_Over]
  exact p
end
section
variable {K : PySem.W.Frag} {mg : Str → Option Value} {a : Ad}
theorem pick_t {P : D → Prop} {PX : XD → Prop} {n : Int} (h0 : 0 < n) (h1 : n < 1000000) (p : ∀ d, 0 ≤ d → d < n → P (.int d)) : f_law_pick_sf K a [.tape, .int n] P PX := by
  unfold f_law_pick_sf
  exact ⟨h0, h1, p⟩
theorem excs_at {v o : D} {k : Nat} (hk : k < 29) : ∃ C fs, (excs a v o)[k]? = some (.exc C fs) ∧ (cs a)[k]? = some C := by
  have h : ∀ k, k < 29 → ∃ C fs, (excs a v o)[k]? = some (.exc C fs) ∧ (cs a)[k]? = some C := by
    intro k hk
    match k, hk with
    | 0, _ => exact ⟨_, _, rfl, rfl⟩
    | 1, _ => exact ⟨_, _, rfl, rfl⟩
    | 2, _ => exact ⟨_, _, rfl, rfl⟩
    | 3, _ => exact ⟨_, _, rfl, rfl⟩
    | 4, _ => exact ⟨_, _, rfl, rfl⟩
    | 5, _ => exact ⟨_, _, rfl, rfl⟩
    | 6, _ => exact ⟨_, _, rfl, rfl⟩
    | 7, _ => exact ⟨_, _, rfl, rfl⟩
    | 8, _ => exact ⟨_, _, rfl, rfl⟩
    | 9, _ => exact ⟨_, _, rfl, rfl⟩
    | 10, _ => exact ⟨_, _, rfl, rfl⟩
    | 11, _ => exact ⟨_, _, rfl, rfl⟩
    | 12, _ => exact ⟨_, _, rfl, rfl⟩
    | 13, _ => exact ⟨_, _, rfl, rfl⟩
    | 14, _ => exact ⟨_, _, rfl, rfl⟩
    | 15, _ => exact ⟨_, _, rfl, rfl⟩
    | 16, _ => exact ⟨_, _, rfl, rfl⟩
    | 17, _ => exact ⟨_, _, rfl, rfl⟩
    | 18, _ => exact ⟨_, _, rfl, rfl⟩
    | 19, _ => exact ⟨_, _, rfl, rfl⟩
    | 20, _ => exact ⟨_, _, rfl, rfl⟩
    | 21, _ => exact ⟨_, _, rfl, rfl⟩
    | 22, _ => exact ⟨_, _, rfl, rfl⟩
    | 23, _ => exact ⟨_, _, rfl, rfl⟩
    | 24, _ => exact ⟨_, _, rfl, rfl⟩
    | 25, _ => exact ⟨_, _, rfl, rfl⟩
    | 26, _ => exact ⟨_, _, rfl, rfl⟩
    | 27, _ => exact ⟨_, _, rfl, rfl⟩
    | 28, _ => exact ⟨_, _, rfl, rfl⟩
    | k + 29, hk => omega
  exact h k hk
theorem cs_len : (cs a).length = 29 := rfl
theorem kinds_eq (T : Txt K mg a) {k : Nat} {C : Addr} (hk : k < 29) (hC : (cs a)[k]? = some C) : ((cs a).map fun c => D.bl (decide (C = c))) = (rangeL 0 29).map fun d => D.bl (eqB d (.int (k : Int))) := by
  refine List.ext_getElem? fun j => ?_
  rw [List.getElem?_map, List.getElem?_map]
  by_cases hj : j < 29
  · obtain ⟨c, h1⟩ : ∃ c, (cs a)[j]? = some c := ⟨_, List.getElem?_eq_getElem (show j < (cs a).length from hj)⟩
    have h2 : (rangeL 0 29)[j]? = some (.int (j : Int)) := by simp [rangeL, hj]
    rw [h1, h2]
    have h4 : decide (C = c) = eqB (.int (j : Int)) (.int (k : Int)) := by
      show _ = ((j : Int) == (k : Int))
      by_cases e : k = j
      · subst e
        rw [h1] at hC
        cases hC
        simp
      · have ne : C ≠ c := fun z => by
          subst z
          exact e ((List.getElem?_inj (show k < (cs a).length from hk) (cs_nd T).1).mp (hC.trans h1.symm))
        rw [decide_eq_false ne]
        symm
        rw [beq_eq_false_iff_ne]
        omega
    show some (D.bl (decide (C = c))) = some (D.bl (eqB (.int (j : Int)) (.int (k : Int))))
    rw [h4]
  · rw [List.getElem?_eq_none (by rw [cs_len]; omega), List.getElem?_eq_none (by rw [rangeL_len]; omega)]
    rfl
theorem val_of {x : D} (h : x ∈ ([.non, .bl true, .int 0, .int (-7), .str "name", .lst [.int 1], .tup [.int 2, .str "a"], .dct [(.str "a", .int 1)], .int (10 ^ (30 : Int).toNat), .tup []] : List D)) : Val x := by
  simp only [List.mem_cons, List.not_mem_nil, or_false] at h
  rcases h with rfl | rfl | rfl | rfl | rfl | rfl | rfl | rfl | rfl | rfl
  · exact ⟨rfl, .inl rfl⟩
  · exact ⟨rfl, .inl rfl⟩
  · exact ⟨rfl, .inl rfl⟩
  · exact ⟨rfl, .inl rfl⟩
  · exact ⟨rfl, .inl (by decide +kernel)⟩
  · exact ⟨rfl, .inl (by decide +kernel)⟩
  · exact ⟨rfl, .inl (by decide +kernel)⟩
  · exact ⟨rfl, .inr ⟨_, _, rfl⟩⟩
  · exact ⟨rfl, .inl rfl⟩
  · exact ⟨rfl, .inl (by decide +kernel)⟩
theorem law_math0 (T : Txt K mg a) : ∀ S : EndS, S.rt (.bl true) → (law_ss K a) [.no, .d .tape, .no, .no, .no, .no, .no, .no, .no] S := fun S hS => by
  unfold law_ss
  refine ⟨lm rfl, lm rfl, ⟨by decide, by decide, by decide⟩, lm rfl, lm rfl, ?_⟩
  refine pick_t (n := 10) (by decide) (by decide) fun i i0 i1 => atD_any i0 i1 fun v hv => ?_
  refine pick_t (n := 10) (by decide) (by decide) fun j j0 j1 => atD_any j0 j1 fun o ho => ?_
  have V := val_of hv
  have Vo := val_of ho
  refine made_v ?_
  refine ⟨by show -(2 ^ 62) ≤ ((29 : Nat) : Int); decide, by show ((29 : Nat) : Int) < 2 ^ 62; decide, ?_⟩
  refine for_inv (fun _ ρ => ∃ (x2 x6 x7 x8 : Slot), ρ = [.no, .d .tape, x2, .d v, .d o, .d (.lst (excs a v o)), x6, x7, x8]) ?_ ?_ gsN_mono ?_
  · exact ⟨_, _, _, _, rfl⟩
  · rintro k e ρ hi ⟨x2, x6, x7, x8, rfl⟩
    intro S' hnx _ _ _ _
    have hk : k < 29 := by
      have := (List.getElem?_eq_some_iff.mp hi).1
      rw [rangeL_len] at this
      exact this
    have he : e = .int (k : Int) := by
      have h2 : (rangeL 0 29)[k]? = some (.int (k : Int)) := by simp [rangeL, hk]
      have h3 : (rangeL 0 29)[k]? = some e := hi
      rw [h2] at h3
      exact (Option.some.inj h3).symm
    subst he
    obtain ⟨C, fs, h1, h2⟩ := excs_at (a := a) (v := v) (o := o) hk
    have hC : C ∈ cs a := List.mem_of_getElem? h2
    have FC := facts T C hC
    refine atD_nat (n := k) h1 ?_
    refine ⟨FC.e, true, kit_base FC.m T.s_BeltsError T.t_BeltsError, ?_⟩
    refine atD_nat (n := k) h1 ?_
    refine ⟨FC.e, true, kit_ve FC.m, ?_⟩
    refine atD_nat (n := k) h1 ?_
    refine kinds_v T hC ?_
    rw [kinds_eq T hk h2]
    refine ⟨by decide, by decide, by rw [rangeL_len]; decide, lcL_map (fun d => .bl (eqB d (.int (k : Int)))) (fun d m P' p' => ?_) ?_⟩
    · obtain ⟨z, _, rfl⟩ := List.mem_map.mp m
      exact eqD_of rfl rfl p'
    · have okl : okD 60 (.lst ((rangeL 0 29).map fun d => D.bl (eqB d (.int (k : Int))))) = true := by
        refine okD_lst (n := 59) fun d m => ?_
        obtain ⟨n, _, rfl⟩ := List.mem_map.mp m
        rfl
      refine eqD_c (neg := true) okl okl fun b eb => ?_
      have hb : b = true := by
        rw [← eb]
        exact eqB_refl (n := 60) okl
      subst hb
      exact hnx _ ⟨_, _, _, _, rfl⟩
  · rintro ρ ⟨x2, x6, x7, x8, rfl⟩
    refine fields_v T V Vo ?_
    refine ⟨by decide, by decide, by rw [rangeL_len]; decide, lcL_map (fun d => match d with | .int 2 => .str "over" | _ => .str "belts") (fun d m P' p' => ?_) ?_⟩
    · have m : d ∈ [D.int 0, .int 1, .int 2] := m
      simp only [List.mem_cons, List.not_mem_nil, or_false] at m
      rcases m with rfl | rfl | rfl
      · exact caught_0 T p'
      · exact caught_1 T p'
      · exact caught_2 T p'
    · refine ⟨lm rfl, ?_⟩
      exact eqD_refl (d := .lst [.str "belts", .str "belts", .str "over"]) (by decide +kernel) hS
end
theorem law_math {K : PySem.W.Frag} {mg : Str → Option Value} {a : Ad} (T : Txt K mg a) : LawMath K a := law_math0 T
theorem all_mk {l : PySem.W.OpenLaw} {w : World} {K : PySem.W.Frag} {h : Heap} {mg : Str → Option Value} {fa : Addr} (X : K.In h) (G : h.Ns mainGlobals mg) (hfa : mg "law" = some (.ref fa))
    {c_BadCode : Addr}
    {c_BadMachine : Addr}
    {c_BadNeed : Addr}
    {c_BadProgram : Addr}
    {c_BadText : Addr}
    {c_BeltsError : Addr}
    {c_Faulty : Addr}
    {c_NoBelt : Addr}
    {c_NoCarries : Addr}
    {c_NoHolding : Addr}
    {c_NoLine : Addr}
    {c_NoName : Addr}
    {c_NoNames : Addr}
    {c_NoNumber : Addr}
    {c_NoPlace : Addr}
    {c_NoRing : Addr}
    {c_NoRoute : Addr}
    {c_NoSeating : Addr}
    {c_NoWalk : Addr}
    {c_NoWay : Addr}
    {c_NoneLed : Addr}
    {c_NotFull : Addr}
    {c_NotRight : Addr}
    {c_NotStraight : Addr}
    {c_NotStrong : Addr}
    {c_NothingDone : Addr}
    {c_OtherSize : Addr}
    {c_Over : Addr}
    {c_TooLarge : Addr}
    {c_TooSmall : Addr}
    {p0 : Addr} {od0 an0 : Option Addr} {sl0 : Array (Option Value)} {oc0 kV0 dc0 pm0 cd0 ct0 : Value}
    {p1 : Addr} {od1 an1 : Option Addr} {sl1 : Array (Option Value)} {oc1 kV1 dc1 pm1 cd1 ct1 : Value}
    {p2 : Addr} {od2 an2 : Option Addr} {sl2 : Array (Option Value)} {oc2 kV2 dc2 pm2 cd2 ct2 : Value}
    {p3 : Addr} {od3 an3 : Option Addr} {sl3 : Array (Option Value)} {oc3 kV3 dc3 pm3 cd3 ct3 : Value}
    {p4 : Addr} {od4 an4 : Option Addr} {sl4 : Array (Option Value)} {oc4 kV4 dc4 pm4 cd4 ct4 : Value}
    {p5 : Addr} {od5 an5 : Option Addr} {sl5 : Array (Option Value)} {oc5 kV5 dc5 pm5 cd5 ct5 : Value}
    {p6 : Addr} {od6 an6 : Option Addr} {sl6 : Array (Option Value)} {oc6 kV6 dc6 pm6 cd6 ct6 : Value}
    {p7 : Addr} {od7 an7 : Option Addr} {sl7 : Array (Option Value)} {oc7 kV7 dc7 pm7 cd7 ct7 : Value}
    {p8 : Addr} {od8 an8 : Option Addr} {sl8 : Array (Option Value)} {oc8 kV8 dc8 pm8 cd8 ct8 : Value}
    {p9 : Addr} {od9 an9 : Option Addr} {sl9 : Array (Option Value)} {oc9 kV9 dc9 pm9 cd9 ct9 : Value}
    {p10 : Addr} {od10 an10 : Option Addr} {sl10 : Array (Option Value)} {oc10 kV10 dc10 pm10 cd10 ct10 : Value}
    {p11 : Addr} {od11 an11 : Option Addr} {sl11 : Array (Option Value)} {oc11 kV11 dc11 pm11 cd11 ct11 : Value}
    {p12 : Addr} {od12 an12 : Option Addr} {sl12 : Array (Option Value)} {oc12 kV12 dc12 pm12 cd12 ct12 : Value}
    {p13 : Addr} {od13 an13 : Option Addr} {sl13 : Array (Option Value)} {oc13 kV13 dc13 pm13 cd13 ct13 : Value}
    {cd_BadCode : ClassData}
    {cd_BadMachine : ClassData}
    {cd_BadNeed : ClassData}
    {cd_BadProgram : ClassData}
    {cd_BadText : ClassData}
    {cd_BeltsError : ClassData}
    {cd_Faulty : ClassData}
    {cd_NoBelt : ClassData}
    {cd_NoCarries : ClassData}
    {cd_NoHolding : ClassData}
    {cd_NoLine : ClassData}
    {cd_NoName : ClassData}
    {cd_NoNames : ClassData}
    {cd_NoNumber : ClassData}
    {cd_NoPlace : ClassData}
    {cd_NoRing : ClassData}
    {cd_NoRoute : ClassData}
    {cd_NoSeating : ClassData}
    {cd_NoWalk : ClassData}
    {cd_NoWay : ClassData}
    {cd_NoneLed : ClassData}
    {cd_NotFull : ClassData}
    {cd_NotRight : ClassData}
    {cd_NotStraight : ClassData}
    {cd_NotStrong : ClassData}
    {cd_NothingDone : ClassData}
    {cd_OtherSize : ClassData}
    {cd_Over : ClassData}
    {cd_TooLarge : ClassData}
    {cd_TooSmall : ClassData}
    {nm_BadCode qn_BadCode : Str} {N_BadCode : Addr} {bs_BadCode : List Value} {sn_BadCode : List Str} {su_BadCode : List Value} {ab_BadCode : Bool} {co_BadCode : Option Bool} {dd_BadCode : Option Addr} {u0_BadCode u1_BadCode u2_BadCode u3_BadCode u5_BadCode : Option Value}
    {nm_BadProgram qn_BadProgram : Str} {N_BadProgram : Addr} {bs_BadProgram : List Value} {sn_BadProgram : List Str} {su_BadProgram : List Value} {ab_BadProgram : Bool} {co_BadProgram : Option Bool} {dd_BadProgram : Option Addr} {u0_BadProgram u1_BadProgram u2_BadProgram u3_BadProgram u5_BadProgram : Option Value}
    {nm_BadText qn_BadText : Str} {N_BadText : Addr} {bs_BadText : List Value} {sn_BadText : List Str} {su_BadText : List Value} {ab_BadText : Bool} {co_BadText : Option Bool} {dd_BadText : Option Addr} {u0_BadText u1_BadText u2_BadText u3_BadText u5_BadText : Option Value}
    {nm_Faulty qn_Faulty : Str} {N_Faulty : Addr} {bs_Faulty : List Value} {sn_Faulty : List Str} {su_Faulty : List Value} {ab_Faulty : Bool} {co_Faulty : Option Bool} {dd_Faulty : Option Addr} {u0_Faulty u1_Faulty u2_Faulty u3_Faulty u5_Faulty : Option Value}
    {nm_NoName qn_NoName : Str} {N_NoName : Addr} {bs_NoName : List Value} {sn_NoName : List Str} {su_NoName : List Value} {ab_NoName : Bool} {co_NoName : Option Bool} {dd_NoName : Option Addr} {u0_NoName u1_NoName u2_NoName u3_NoName u5_NoName : Option Value}
    {nm_TooLarge qn_TooLarge : Str} {N_TooLarge : Addr} {bs_TooLarge : List Value} {sn_TooLarge : List Str} {su_TooLarge : List Value} {ab_TooLarge : Bool} {co_TooLarge : Option Bool} {dd_TooLarge : Option Addr} {u0_TooLarge u1_TooLarge u2_TooLarge u3_TooLarge u5_TooLarge : Option Value}
    {nm_TooSmall qn_TooSmall : Str} {N_TooSmall : Addr} {bs_TooSmall : List Value} {sn_TooSmall : List Str} {su_TooSmall : List Value} {ab_TooSmall : Bool} {co_TooSmall : Option Bool} {dd_TooSmall : Option Addr} {u0_TooSmall u1_TooSmall u2_TooSmall u3_TooSmall u5_TooSmall : Option Value}
    (z_ValueError : PySem.W.nsIn K mainGlobals "ValueError" = some none)
    (z_bool : PySem.W.nsIn K mainGlobals "bool" = some none)
    (z_int : PySem.W.nsIn K mainGlobals "int" = some none)
    (z_isinstance : PySem.W.nsIn K mainGlobals "isinstance" = some none)
    (z_len : PySem.W.nsIn K mainGlobals "len" = some none)
    (z_list : PySem.W.nsIn K mainGlobals "list" = some none)
    (z_range : PySem.W.nsIn K mainGlobals "range" = some none)
    (g_BadCode : PySem.W.nsIn K mainGlobals "BadCode" = some (some (.ref c_BadCode)))
    (k_BadCode : PySem.W.keepIn K (.ref c_BadCode) = true)
    (b_BadCode : PySem.W.subIn K (.ref c_BadCode) (.type "BaseException") = some true)
    (t_BadCode : PySem.W.typeIn K (.ref c_BadCode) = some (.type "type"))
    (g_BadMachine : PySem.W.nsIn K mainGlobals "BadMachine" = some (some (.ref c_BadMachine)))
    (x_BadMachine : PySem.W.excIn K c_BadMachine [.type "ValueError", .type "Exception", .type "BaseException", .type "object"] "ValueError.__new__" = true)
    (k_BadMachine : PySem.W.keepIn K (.ref c_BadMachine) = true)
    (b_BadMachine : PySem.W.subIn K (.ref c_BadMachine) (.type "BaseException") = some true)
    (t_BadMachine : PySem.W.typeIn K (.ref c_BadMachine) = some (.type "type"))
    (g_BadNeed : PySem.W.nsIn K mainGlobals "BadNeed" = some (some (.ref c_BadNeed)))
    (x_BadNeed : PySem.W.excIn K c_BadNeed [.type "ValueError", .type "Exception", .type "BaseException", .type "object"] "ValueError.__new__" = true)
    (k_BadNeed : PySem.W.keepIn K (.ref c_BadNeed) = true)
    (b_BadNeed : PySem.W.subIn K (.ref c_BadNeed) (.type "BaseException") = some true)
    (t_BadNeed : PySem.W.typeIn K (.ref c_BadNeed) = some (.type "type"))
    (g_BadProgram : PySem.W.nsIn K mainGlobals "BadProgram" = some (some (.ref c_BadProgram)))
    (k_BadProgram : PySem.W.keepIn K (.ref c_BadProgram) = true)
    (b_BadProgram : PySem.W.subIn K (.ref c_BadProgram) (.type "BaseException") = some true)
    (t_BadProgram : PySem.W.typeIn K (.ref c_BadProgram) = some (.type "type"))
    (g_BadText : PySem.W.nsIn K mainGlobals "BadText" = some (some (.ref c_BadText)))
    (k_BadText : PySem.W.keepIn K (.ref c_BadText) = true)
    (b_BadText : PySem.W.subIn K (.ref c_BadText) (.type "BaseException") = some true)
    (t_BadText : PySem.W.typeIn K (.ref c_BadText) = some (.type "type"))
    (g_BeltsError : PySem.W.nsIn K mainGlobals "BeltsError" = some (some (.ref c_BeltsError)))
    (x_BeltsError : PySem.W.excIn K c_BeltsError [.type "ValueError", .type "Exception", .type "BaseException", .type "object"] "ValueError.__new__" = true)
    (k_BeltsError : PySem.W.keepIn K (.ref c_BeltsError) = true)
    (b_BeltsError : PySem.W.subIn K (.ref c_BeltsError) (.type "BaseException") = some true)
    (t_BeltsError : PySem.W.typeIn K (.ref c_BeltsError) = some (.type "type"))
    (g_Faulty : PySem.W.nsIn K mainGlobals "Faulty" = some (some (.ref c_Faulty)))
    (k_Faulty : PySem.W.keepIn K (.ref c_Faulty) = true)
    (b_Faulty : PySem.W.subIn K (.ref c_Faulty) (.type "BaseException") = some true)
    (t_Faulty : PySem.W.typeIn K (.ref c_Faulty) = some (.type "type"))
    (g_NoBelt : PySem.W.nsIn K mainGlobals "NoBelt" = some (some (.ref c_NoBelt)))
    (x_NoBelt : PySem.W.excIn K c_NoBelt [.type "ValueError", .type "Exception", .type "BaseException", .type "object"] "ValueError.__new__" = true)
    (k_NoBelt : PySem.W.keepIn K (.ref c_NoBelt) = true)
    (b_NoBelt : PySem.W.subIn K (.ref c_NoBelt) (.type "BaseException") = some true)
    (t_NoBelt : PySem.W.typeIn K (.ref c_NoBelt) = some (.type "type"))
    (g_NoCarries : PySem.W.nsIn K mainGlobals "NoCarries" = some (some (.ref c_NoCarries)))
    (x_NoCarries : PySem.W.excIn K c_NoCarries [.type "ValueError", .type "Exception", .type "BaseException", .type "object"] "ValueError.__new__" = true)
    (k_NoCarries : PySem.W.keepIn K (.ref c_NoCarries) = true)
    (b_NoCarries : PySem.W.subIn K (.ref c_NoCarries) (.type "BaseException") = some true)
    (t_NoCarries : PySem.W.typeIn K (.ref c_NoCarries) = some (.type "type"))
    (g_NoHolding : PySem.W.nsIn K mainGlobals "NoHolding" = some (some (.ref c_NoHolding)))
    (x_NoHolding : PySem.W.excIn K c_NoHolding [.type "ValueError", .type "Exception", .type "BaseException", .type "object"] "ValueError.__new__" = true)
    (k_NoHolding : PySem.W.keepIn K (.ref c_NoHolding) = true)
    (b_NoHolding : PySem.W.subIn K (.ref c_NoHolding) (.type "BaseException") = some true)
    (t_NoHolding : PySem.W.typeIn K (.ref c_NoHolding) = some (.type "type"))
    (g_NoLine : PySem.W.nsIn K mainGlobals "NoLine" = some (some (.ref c_NoLine)))
    (x_NoLine : PySem.W.excIn K c_NoLine [.type "ValueError", .type "Exception", .type "BaseException", .type "object"] "ValueError.__new__" = true)
    (k_NoLine : PySem.W.keepIn K (.ref c_NoLine) = true)
    (b_NoLine : PySem.W.subIn K (.ref c_NoLine) (.type "BaseException") = some true)
    (t_NoLine : PySem.W.typeIn K (.ref c_NoLine) = some (.type "type"))
    (g_NoName : PySem.W.nsIn K mainGlobals "NoName" = some (some (.ref c_NoName)))
    (k_NoName : PySem.W.keepIn K (.ref c_NoName) = true)
    (b_NoName : PySem.W.subIn K (.ref c_NoName) (.type "BaseException") = some true)
    (t_NoName : PySem.W.typeIn K (.ref c_NoName) = some (.type "type"))
    (g_NoNames : PySem.W.nsIn K mainGlobals "NoNames" = some (some (.ref c_NoNames)))
    (x_NoNames : PySem.W.excIn K c_NoNames [.type "ValueError", .type "Exception", .type "BaseException", .type "object"] "ValueError.__new__" = true)
    (k_NoNames : PySem.W.keepIn K (.ref c_NoNames) = true)
    (b_NoNames : PySem.W.subIn K (.ref c_NoNames) (.type "BaseException") = some true)
    (t_NoNames : PySem.W.typeIn K (.ref c_NoNames) = some (.type "type"))
    (g_NoNumber : PySem.W.nsIn K mainGlobals "NoNumber" = some (some (.ref c_NoNumber)))
    (x_NoNumber : PySem.W.excIn K c_NoNumber [.type "ValueError", .type "Exception", .type "BaseException", .type "object"] "ValueError.__new__" = true)
    (k_NoNumber : PySem.W.keepIn K (.ref c_NoNumber) = true)
    (b_NoNumber : PySem.W.subIn K (.ref c_NoNumber) (.type "BaseException") = some true)
    (t_NoNumber : PySem.W.typeIn K (.ref c_NoNumber) = some (.type "type"))
    (g_NoPlace : PySem.W.nsIn K mainGlobals "NoPlace" = some (some (.ref c_NoPlace)))
    (x_NoPlace : PySem.W.excIn K c_NoPlace [.type "ValueError", .type "Exception", .type "BaseException", .type "object"] "ValueError.__new__" = true)
    (k_NoPlace : PySem.W.keepIn K (.ref c_NoPlace) = true)
    (b_NoPlace : PySem.W.subIn K (.ref c_NoPlace) (.type "BaseException") = some true)
    (t_NoPlace : PySem.W.typeIn K (.ref c_NoPlace) = some (.type "type"))
    (g_NoRing : PySem.W.nsIn K mainGlobals "NoRing" = some (some (.ref c_NoRing)))
    (x_NoRing : PySem.W.excIn K c_NoRing [.type "ValueError", .type "Exception", .type "BaseException", .type "object"] "ValueError.__new__" = true)
    (k_NoRing : PySem.W.keepIn K (.ref c_NoRing) = true)
    (b_NoRing : PySem.W.subIn K (.ref c_NoRing) (.type "BaseException") = some true)
    (t_NoRing : PySem.W.typeIn K (.ref c_NoRing) = some (.type "type"))
    (g_NoRoute : PySem.W.nsIn K mainGlobals "NoRoute" = some (some (.ref c_NoRoute)))
    (x_NoRoute : PySem.W.excIn K c_NoRoute [.type "ValueError", .type "Exception", .type "BaseException", .type "object"] "ValueError.__new__" = true)
    (k_NoRoute : PySem.W.keepIn K (.ref c_NoRoute) = true)
    (b_NoRoute : PySem.W.subIn K (.ref c_NoRoute) (.type "BaseException") = some true)
    (t_NoRoute : PySem.W.typeIn K (.ref c_NoRoute) = some (.type "type"))
    (g_NoSeating : PySem.W.nsIn K mainGlobals "NoSeating" = some (some (.ref c_NoSeating)))
    (x_NoSeating : PySem.W.excIn K c_NoSeating [.type "ValueError", .type "Exception", .type "BaseException", .type "object"] "ValueError.__new__" = true)
    (k_NoSeating : PySem.W.keepIn K (.ref c_NoSeating) = true)
    (b_NoSeating : PySem.W.subIn K (.ref c_NoSeating) (.type "BaseException") = some true)
    (t_NoSeating : PySem.W.typeIn K (.ref c_NoSeating) = some (.type "type"))
    (g_NoWalk : PySem.W.nsIn K mainGlobals "NoWalk" = some (some (.ref c_NoWalk)))
    (x_NoWalk : PySem.W.excIn K c_NoWalk [.type "ValueError", .type "Exception", .type "BaseException", .type "object"] "ValueError.__new__" = true)
    (k_NoWalk : PySem.W.keepIn K (.ref c_NoWalk) = true)
    (b_NoWalk : PySem.W.subIn K (.ref c_NoWalk) (.type "BaseException") = some true)
    (t_NoWalk : PySem.W.typeIn K (.ref c_NoWalk) = some (.type "type"))
    (g_NoWay : PySem.W.nsIn K mainGlobals "NoWay" = some (some (.ref c_NoWay)))
    (x_NoWay : PySem.W.excIn K c_NoWay [.type "ValueError", .type "Exception", .type "BaseException", .type "object"] "ValueError.__new__" = true)
    (k_NoWay : PySem.W.keepIn K (.ref c_NoWay) = true)
    (b_NoWay : PySem.W.subIn K (.ref c_NoWay) (.type "BaseException") = some true)
    (t_NoWay : PySem.W.typeIn K (.ref c_NoWay) = some (.type "type"))
    (g_NoneLed : PySem.W.nsIn K mainGlobals "NoneLed" = some (some (.ref c_NoneLed)))
    (x_NoneLed : PySem.W.excIn K c_NoneLed [.type "ValueError", .type "Exception", .type "BaseException", .type "object"] "ValueError.__new__" = true)
    (k_NoneLed : PySem.W.keepIn K (.ref c_NoneLed) = true)
    (b_NoneLed : PySem.W.subIn K (.ref c_NoneLed) (.type "BaseException") = some true)
    (t_NoneLed : PySem.W.typeIn K (.ref c_NoneLed) = some (.type "type"))
    (g_NotFull : PySem.W.nsIn K mainGlobals "NotFull" = some (some (.ref c_NotFull)))
    (x_NotFull : PySem.W.excIn K c_NotFull [.type "ValueError", .type "Exception", .type "BaseException", .type "object"] "ValueError.__new__" = true)
    (k_NotFull : PySem.W.keepIn K (.ref c_NotFull) = true)
    (b_NotFull : PySem.W.subIn K (.ref c_NotFull) (.type "BaseException") = some true)
    (t_NotFull : PySem.W.typeIn K (.ref c_NotFull) = some (.type "type"))
    (g_NotRight : PySem.W.nsIn K mainGlobals "NotRight" = some (some (.ref c_NotRight)))
    (x_NotRight : PySem.W.excIn K c_NotRight [.type "ValueError", .type "Exception", .type "BaseException", .type "object"] "ValueError.__new__" = true)
    (k_NotRight : PySem.W.keepIn K (.ref c_NotRight) = true)
    (b_NotRight : PySem.W.subIn K (.ref c_NotRight) (.type "BaseException") = some true)
    (t_NotRight : PySem.W.typeIn K (.ref c_NotRight) = some (.type "type"))
    (g_NotStraight : PySem.W.nsIn K mainGlobals "NotStraight" = some (some (.ref c_NotStraight)))
    (x_NotStraight : PySem.W.excIn K c_NotStraight [.type "ValueError", .type "Exception", .type "BaseException", .type "object"] "ValueError.__new__" = true)
    (k_NotStraight : PySem.W.keepIn K (.ref c_NotStraight) = true)
    (b_NotStraight : PySem.W.subIn K (.ref c_NotStraight) (.type "BaseException") = some true)
    (t_NotStraight : PySem.W.typeIn K (.ref c_NotStraight) = some (.type "type"))
    (g_NotStrong : PySem.W.nsIn K mainGlobals "NotStrong" = some (some (.ref c_NotStrong)))
    (x_NotStrong : PySem.W.excIn K c_NotStrong [.type "ValueError", .type "Exception", .type "BaseException", .type "object"] "ValueError.__new__" = true)
    (k_NotStrong : PySem.W.keepIn K (.ref c_NotStrong) = true)
    (b_NotStrong : PySem.W.subIn K (.ref c_NotStrong) (.type "BaseException") = some true)
    (t_NotStrong : PySem.W.typeIn K (.ref c_NotStrong) = some (.type "type"))
    (g_NothingDone : PySem.W.nsIn K mainGlobals "NothingDone" = some (some (.ref c_NothingDone)))
    (x_NothingDone : PySem.W.excIn K c_NothingDone [.type "ValueError", .type "Exception", .type "BaseException", .type "object"] "ValueError.__new__" = true)
    (k_NothingDone : PySem.W.keepIn K (.ref c_NothingDone) = true)
    (b_NothingDone : PySem.W.subIn K (.ref c_NothingDone) (.type "BaseException") = some true)
    (t_NothingDone : PySem.W.typeIn K (.ref c_NothingDone) = some (.type "type"))
    (g_OtherSize : PySem.W.nsIn K mainGlobals "OtherSize" = some (some (.ref c_OtherSize)))
    (x_OtherSize : PySem.W.excIn K c_OtherSize [.type "ValueError", .type "Exception", .type "BaseException", .type "object"] "ValueError.__new__" = true)
    (k_OtherSize : PySem.W.keepIn K (.ref c_OtherSize) = true)
    (b_OtherSize : PySem.W.subIn K (.ref c_OtherSize) (.type "BaseException") = some true)
    (t_OtherSize : PySem.W.typeIn K (.ref c_OtherSize) = some (.type "type"))
    (g_Over : PySem.W.nsIn K mainGlobals "Over" = some (some (.ref c_Over)))
    (x_Over : PySem.W.excIn K c_Over [.type "ValueError", .type "Exception", .type "BaseException", .type "object"] "ValueError.__new__" = true)
    (k_Over : PySem.W.keepIn K (.ref c_Over) = true)
    (b_Over : PySem.W.subIn K (.ref c_Over) (.type "BaseException") = some true)
    (t_Over : PySem.W.typeIn K (.ref c_Over) = some (.type "type"))
    (g_TooLarge : PySem.W.nsIn K mainGlobals "TooLarge" = some (some (.ref c_TooLarge)))
    (k_TooLarge : PySem.W.keepIn K (.ref c_TooLarge) = true)
    (b_TooLarge : PySem.W.subIn K (.ref c_TooLarge) (.type "BaseException") = some true)
    (t_TooLarge : PySem.W.typeIn K (.ref c_TooLarge) = some (.type "type"))
    (g_TooSmall : PySem.W.nsIn K mainGlobals "TooSmall" = some (some (.ref c_TooSmall)))
    (k_TooSmall : PySem.W.keepIn K (.ref c_TooSmall) = true)
    (b_TooSmall : PySem.W.subIn K (.ref c_TooSmall) (.type "BaseException") = some true)
    (t_TooSmall : PySem.W.typeIn K (.ref c_TooSmall) = some (.type "type"))
    (hn : PySem.W.specialIn K (.builtin "object.__class__") "__get__" = some (some (.builtin "getset_descriptor.__get__")))
    (ht : PySem.W.takesIn K (.builtin "object.__class__") = some true)
    (eg_BadCode : PySem.W.findIn K (.ref c_BadCode) "__getattribute__" = some (some (.builtin "BaseException.__getattribute__")))
    (ek_BadCode : PySem.W.findIn K (.ref c_BadCode) "__getattr__" = some none)
    (eh_BadCode : PySem.W.hasDictIn K c_BadCode = true)
    (ea_BadCode : PySem.W.findIn K (.ref c_BadCode) "__class__" = some (some (.builtin "object.__class__")))
    (em_BadCode : PySem.W.mroIn K c_BadCode (.type "object") = some true)
    (ec_BadCode : PySem.W.clsIn K c_BadCode = some cd_BadCode)
    (r_BadCode : cd_BadCode.mro = [.ref c_BadCode, .ref c_BeltsError, .type "ValueError", .type "Exception", .type "BaseException", .type "object"])
    (eg_BadMachine : PySem.W.findIn K (.ref c_BadMachine) "__getattribute__" = some (some (.builtin "BaseException.__getattribute__")))
    (ek_BadMachine : PySem.W.findIn K (.ref c_BadMachine) "__getattr__" = some none)
    (eh_BadMachine : PySem.W.hasDictIn K c_BadMachine = true)
    (ea_BadMachine : PySem.W.findIn K (.ref c_BadMachine) "__class__" = some (some (.builtin "object.__class__")))
    (em_BadMachine : PySem.W.mroIn K c_BadMachine (.type "object") = some true)
    (ec_BadMachine : PySem.W.clsIn K c_BadMachine = some cd_BadMachine)
    (r_BadMachine : cd_BadMachine.mro = [.ref c_BadMachine, .ref c_BeltsError, .type "ValueError", .type "Exception", .type "BaseException", .type "object"])
    (eg_BadNeed : PySem.W.findIn K (.ref c_BadNeed) "__getattribute__" = some (some (.builtin "BaseException.__getattribute__")))
    (ek_BadNeed : PySem.W.findIn K (.ref c_BadNeed) "__getattr__" = some none)
    (eh_BadNeed : PySem.W.hasDictIn K c_BadNeed = true)
    (ea_BadNeed : PySem.W.findIn K (.ref c_BadNeed) "__class__" = some (some (.builtin "object.__class__")))
    (em_BadNeed : PySem.W.mroIn K c_BadNeed (.type "object") = some true)
    (ec_BadNeed : PySem.W.clsIn K c_BadNeed = some cd_BadNeed)
    (r_BadNeed : cd_BadNeed.mro = [.ref c_BadNeed, .ref c_BeltsError, .type "ValueError", .type "Exception", .type "BaseException", .type "object"])
    (eg_BadProgram : PySem.W.findIn K (.ref c_BadProgram) "__getattribute__" = some (some (.builtin "BaseException.__getattribute__")))
    (ek_BadProgram : PySem.W.findIn K (.ref c_BadProgram) "__getattr__" = some none)
    (eh_BadProgram : PySem.W.hasDictIn K c_BadProgram = true)
    (ea_BadProgram : PySem.W.findIn K (.ref c_BadProgram) "__class__" = some (some (.builtin "object.__class__")))
    (em_BadProgram : PySem.W.mroIn K c_BadProgram (.type "object") = some true)
    (ec_BadProgram : PySem.W.clsIn K c_BadProgram = some cd_BadProgram)
    (r_BadProgram : cd_BadProgram.mro = [.ref c_BadProgram, .ref c_BeltsError, .type "ValueError", .type "Exception", .type "BaseException", .type "object"])
    (eg_BadText : PySem.W.findIn K (.ref c_BadText) "__getattribute__" = some (some (.builtin "BaseException.__getattribute__")))
    (ek_BadText : PySem.W.findIn K (.ref c_BadText) "__getattr__" = some none)
    (eh_BadText : PySem.W.hasDictIn K c_BadText = true)
    (ea_BadText : PySem.W.findIn K (.ref c_BadText) "__class__" = some (some (.builtin "object.__class__")))
    (em_BadText : PySem.W.mroIn K c_BadText (.type "object") = some true)
    (ec_BadText : PySem.W.clsIn K c_BadText = some cd_BadText)
    (r_BadText : cd_BadText.mro = [.ref c_BadText, .ref c_BeltsError, .type "ValueError", .type "Exception", .type "BaseException", .type "object"])
    (eg_BeltsError : PySem.W.findIn K (.ref c_BeltsError) "__getattribute__" = some (some (.builtin "BaseException.__getattribute__")))
    (ek_BeltsError : PySem.W.findIn K (.ref c_BeltsError) "__getattr__" = some none)
    (eh_BeltsError : PySem.W.hasDictIn K c_BeltsError = true)
    (ea_BeltsError : PySem.W.findIn K (.ref c_BeltsError) "__class__" = some (some (.builtin "object.__class__")))
    (em_BeltsError : PySem.W.mroIn K c_BeltsError (.type "object") = some true)
    (ec_BeltsError : PySem.W.clsIn K c_BeltsError = some cd_BeltsError)
    (eg_Faulty : PySem.W.findIn K (.ref c_Faulty) "__getattribute__" = some (some (.builtin "BaseException.__getattribute__")))
    (ek_Faulty : PySem.W.findIn K (.ref c_Faulty) "__getattr__" = some none)
    (eh_Faulty : PySem.W.hasDictIn K c_Faulty = true)
    (ea_Faulty : PySem.W.findIn K (.ref c_Faulty) "__class__" = some (some (.builtin "object.__class__")))
    (em_Faulty : PySem.W.mroIn K c_Faulty (.type "object") = some true)
    (ec_Faulty : PySem.W.clsIn K c_Faulty = some cd_Faulty)
    (r_Faulty : cd_Faulty.mro = [.ref c_Faulty, .ref c_BeltsError, .type "ValueError", .type "Exception", .type "BaseException", .type "object"])
    (eg_NoBelt : PySem.W.findIn K (.ref c_NoBelt) "__getattribute__" = some (some (.builtin "BaseException.__getattribute__")))
    (ek_NoBelt : PySem.W.findIn K (.ref c_NoBelt) "__getattr__" = some none)
    (eh_NoBelt : PySem.W.hasDictIn K c_NoBelt = true)
    (ea_NoBelt : PySem.W.findIn K (.ref c_NoBelt) "__class__" = some (some (.builtin "object.__class__")))
    (em_NoBelt : PySem.W.mroIn K c_NoBelt (.type "object") = some true)
    (ec_NoBelt : PySem.W.clsIn K c_NoBelt = some cd_NoBelt)
    (r_NoBelt : cd_NoBelt.mro = [.ref c_NoBelt, .ref c_BeltsError, .type "ValueError", .type "Exception", .type "BaseException", .type "object"])
    (eg_NoCarries : PySem.W.findIn K (.ref c_NoCarries) "__getattribute__" = some (some (.builtin "BaseException.__getattribute__")))
    (ek_NoCarries : PySem.W.findIn K (.ref c_NoCarries) "__getattr__" = some none)
    (eh_NoCarries : PySem.W.hasDictIn K c_NoCarries = true)
    (ea_NoCarries : PySem.W.findIn K (.ref c_NoCarries) "__class__" = some (some (.builtin "object.__class__")))
    (em_NoCarries : PySem.W.mroIn K c_NoCarries (.type "object") = some true)
    (ec_NoCarries : PySem.W.clsIn K c_NoCarries = some cd_NoCarries)
    (r_NoCarries : cd_NoCarries.mro = [.ref c_NoCarries, .ref c_BeltsError, .type "ValueError", .type "Exception", .type "BaseException", .type "object"])
    (eg_NoHolding : PySem.W.findIn K (.ref c_NoHolding) "__getattribute__" = some (some (.builtin "BaseException.__getattribute__")))
    (ek_NoHolding : PySem.W.findIn K (.ref c_NoHolding) "__getattr__" = some none)
    (eh_NoHolding : PySem.W.hasDictIn K c_NoHolding = true)
    (ea_NoHolding : PySem.W.findIn K (.ref c_NoHolding) "__class__" = some (some (.builtin "object.__class__")))
    (em_NoHolding : PySem.W.mroIn K c_NoHolding (.type "object") = some true)
    (ec_NoHolding : PySem.W.clsIn K c_NoHolding = some cd_NoHolding)
    (r_NoHolding : cd_NoHolding.mro = [.ref c_NoHolding, .ref c_BeltsError, .type "ValueError", .type "Exception", .type "BaseException", .type "object"])
    (eg_NoLine : PySem.W.findIn K (.ref c_NoLine) "__getattribute__" = some (some (.builtin "BaseException.__getattribute__")))
    (ek_NoLine : PySem.W.findIn K (.ref c_NoLine) "__getattr__" = some none)
    (eh_NoLine : PySem.W.hasDictIn K c_NoLine = true)
    (ea_NoLine : PySem.W.findIn K (.ref c_NoLine) "__class__" = some (some (.builtin "object.__class__")))
    (em_NoLine : PySem.W.mroIn K c_NoLine (.type "object") = some true)
    (ec_NoLine : PySem.W.clsIn K c_NoLine = some cd_NoLine)
    (r_NoLine : cd_NoLine.mro = [.ref c_NoLine, .ref c_BeltsError, .type "ValueError", .type "Exception", .type "BaseException", .type "object"])
    (eg_NoName : PySem.W.findIn K (.ref c_NoName) "__getattribute__" = some (some (.builtin "BaseException.__getattribute__")))
    (ek_NoName : PySem.W.findIn K (.ref c_NoName) "__getattr__" = some none)
    (eh_NoName : PySem.W.hasDictIn K c_NoName = true)
    (ea_NoName : PySem.W.findIn K (.ref c_NoName) "__class__" = some (some (.builtin "object.__class__")))
    (em_NoName : PySem.W.mroIn K c_NoName (.type "object") = some true)
    (ec_NoName : PySem.W.clsIn K c_NoName = some cd_NoName)
    (r_NoName : cd_NoName.mro = [.ref c_NoName, .ref c_BeltsError, .type "ValueError", .type "Exception", .type "BaseException", .type "object"])
    (eg_NoNames : PySem.W.findIn K (.ref c_NoNames) "__getattribute__" = some (some (.builtin "BaseException.__getattribute__")))
    (ek_NoNames : PySem.W.findIn K (.ref c_NoNames) "__getattr__" = some none)
    (eh_NoNames : PySem.W.hasDictIn K c_NoNames = true)
    (ea_NoNames : PySem.W.findIn K (.ref c_NoNames) "__class__" = some (some (.builtin "object.__class__")))
    (em_NoNames : PySem.W.mroIn K c_NoNames (.type "object") = some true)
    (ec_NoNames : PySem.W.clsIn K c_NoNames = some cd_NoNames)
    (r_NoNames : cd_NoNames.mro = [.ref c_NoNames, .ref c_BeltsError, .type "ValueError", .type "Exception", .type "BaseException", .type "object"])
    (eg_NoNumber : PySem.W.findIn K (.ref c_NoNumber) "__getattribute__" = some (some (.builtin "BaseException.__getattribute__")))
    (ek_NoNumber : PySem.W.findIn K (.ref c_NoNumber) "__getattr__" = some none)
    (eh_NoNumber : PySem.W.hasDictIn K c_NoNumber = true)
    (ea_NoNumber : PySem.W.findIn K (.ref c_NoNumber) "__class__" = some (some (.builtin "object.__class__")))
    (em_NoNumber : PySem.W.mroIn K c_NoNumber (.type "object") = some true)
    (ec_NoNumber : PySem.W.clsIn K c_NoNumber = some cd_NoNumber)
    (r_NoNumber : cd_NoNumber.mro = [.ref c_NoNumber, .ref c_BeltsError, .type "ValueError", .type "Exception", .type "BaseException", .type "object"])
    (eg_NoPlace : PySem.W.findIn K (.ref c_NoPlace) "__getattribute__" = some (some (.builtin "BaseException.__getattribute__")))
    (ek_NoPlace : PySem.W.findIn K (.ref c_NoPlace) "__getattr__" = some none)
    (eh_NoPlace : PySem.W.hasDictIn K c_NoPlace = true)
    (ea_NoPlace : PySem.W.findIn K (.ref c_NoPlace) "__class__" = some (some (.builtin "object.__class__")))
    (em_NoPlace : PySem.W.mroIn K c_NoPlace (.type "object") = some true)
    (ec_NoPlace : PySem.W.clsIn K c_NoPlace = some cd_NoPlace)
    (r_NoPlace : cd_NoPlace.mro = [.ref c_NoPlace, .ref c_BeltsError, .type "ValueError", .type "Exception", .type "BaseException", .type "object"])
    (eg_NoRing : PySem.W.findIn K (.ref c_NoRing) "__getattribute__" = some (some (.builtin "BaseException.__getattribute__")))
    (ek_NoRing : PySem.W.findIn K (.ref c_NoRing) "__getattr__" = some none)
    (eh_NoRing : PySem.W.hasDictIn K c_NoRing = true)
    (ea_NoRing : PySem.W.findIn K (.ref c_NoRing) "__class__" = some (some (.builtin "object.__class__")))
    (em_NoRing : PySem.W.mroIn K c_NoRing (.type "object") = some true)
    (ec_NoRing : PySem.W.clsIn K c_NoRing = some cd_NoRing)
    (r_NoRing : cd_NoRing.mro = [.ref c_NoRing, .ref c_BeltsError, .type "ValueError", .type "Exception", .type "BaseException", .type "object"])
    (eg_NoRoute : PySem.W.findIn K (.ref c_NoRoute) "__getattribute__" = some (some (.builtin "BaseException.__getattribute__")))
    (ek_NoRoute : PySem.W.findIn K (.ref c_NoRoute) "__getattr__" = some none)
    (eh_NoRoute : PySem.W.hasDictIn K c_NoRoute = true)
    (ea_NoRoute : PySem.W.findIn K (.ref c_NoRoute) "__class__" = some (some (.builtin "object.__class__")))
    (em_NoRoute : PySem.W.mroIn K c_NoRoute (.type "object") = some true)
    (ec_NoRoute : PySem.W.clsIn K c_NoRoute = some cd_NoRoute)
    (r_NoRoute : cd_NoRoute.mro = [.ref c_NoRoute, .ref c_BeltsError, .type "ValueError", .type "Exception", .type "BaseException", .type "object"])
    (eg_NoSeating : PySem.W.findIn K (.ref c_NoSeating) "__getattribute__" = some (some (.builtin "BaseException.__getattribute__")))
    (ek_NoSeating : PySem.W.findIn K (.ref c_NoSeating) "__getattr__" = some none)
    (eh_NoSeating : PySem.W.hasDictIn K c_NoSeating = true)
    (ea_NoSeating : PySem.W.findIn K (.ref c_NoSeating) "__class__" = some (some (.builtin "object.__class__")))
    (em_NoSeating : PySem.W.mroIn K c_NoSeating (.type "object") = some true)
    (ec_NoSeating : PySem.W.clsIn K c_NoSeating = some cd_NoSeating)
    (r_NoSeating : cd_NoSeating.mro = [.ref c_NoSeating, .ref c_BeltsError, .type "ValueError", .type "Exception", .type "BaseException", .type "object"])
    (eg_NoWalk : PySem.W.findIn K (.ref c_NoWalk) "__getattribute__" = some (some (.builtin "BaseException.__getattribute__")))
    (ek_NoWalk : PySem.W.findIn K (.ref c_NoWalk) "__getattr__" = some none)
    (eh_NoWalk : PySem.W.hasDictIn K c_NoWalk = true)
    (ea_NoWalk : PySem.W.findIn K (.ref c_NoWalk) "__class__" = some (some (.builtin "object.__class__")))
    (em_NoWalk : PySem.W.mroIn K c_NoWalk (.type "object") = some true)
    (ec_NoWalk : PySem.W.clsIn K c_NoWalk = some cd_NoWalk)
    (r_NoWalk : cd_NoWalk.mro = [.ref c_NoWalk, .ref c_BeltsError, .type "ValueError", .type "Exception", .type "BaseException", .type "object"])
    (eg_NoWay : PySem.W.findIn K (.ref c_NoWay) "__getattribute__" = some (some (.builtin "BaseException.__getattribute__")))
    (ek_NoWay : PySem.W.findIn K (.ref c_NoWay) "__getattr__" = some none)
    (eh_NoWay : PySem.W.hasDictIn K c_NoWay = true)
    (ea_NoWay : PySem.W.findIn K (.ref c_NoWay) "__class__" = some (some (.builtin "object.__class__")))
    (em_NoWay : PySem.W.mroIn K c_NoWay (.type "object") = some true)
    (ec_NoWay : PySem.W.clsIn K c_NoWay = some cd_NoWay)
    (r_NoWay : cd_NoWay.mro = [.ref c_NoWay, .ref c_BeltsError, .type "ValueError", .type "Exception", .type "BaseException", .type "object"])
    (eg_NoneLed : PySem.W.findIn K (.ref c_NoneLed) "__getattribute__" = some (some (.builtin "BaseException.__getattribute__")))
    (ek_NoneLed : PySem.W.findIn K (.ref c_NoneLed) "__getattr__" = some none)
    (eh_NoneLed : PySem.W.hasDictIn K c_NoneLed = true)
    (ea_NoneLed : PySem.W.findIn K (.ref c_NoneLed) "__class__" = some (some (.builtin "object.__class__")))
    (em_NoneLed : PySem.W.mroIn K c_NoneLed (.type "object") = some true)
    (ec_NoneLed : PySem.W.clsIn K c_NoneLed = some cd_NoneLed)
    (r_NoneLed : cd_NoneLed.mro = [.ref c_NoneLed, .ref c_BeltsError, .type "ValueError", .type "Exception", .type "BaseException", .type "object"])
    (eg_NotFull : PySem.W.findIn K (.ref c_NotFull) "__getattribute__" = some (some (.builtin "BaseException.__getattribute__")))
    (ek_NotFull : PySem.W.findIn K (.ref c_NotFull) "__getattr__" = some none)
    (eh_NotFull : PySem.W.hasDictIn K c_NotFull = true)
    (ea_NotFull : PySem.W.findIn K (.ref c_NotFull) "__class__" = some (some (.builtin "object.__class__")))
    (em_NotFull : PySem.W.mroIn K c_NotFull (.type "object") = some true)
    (ec_NotFull : PySem.W.clsIn K c_NotFull = some cd_NotFull)
    (r_NotFull : cd_NotFull.mro = [.ref c_NotFull, .ref c_BeltsError, .type "ValueError", .type "Exception", .type "BaseException", .type "object"])
    (eg_NotRight : PySem.W.findIn K (.ref c_NotRight) "__getattribute__" = some (some (.builtin "BaseException.__getattribute__")))
    (ek_NotRight : PySem.W.findIn K (.ref c_NotRight) "__getattr__" = some none)
    (eh_NotRight : PySem.W.hasDictIn K c_NotRight = true)
    (ea_NotRight : PySem.W.findIn K (.ref c_NotRight) "__class__" = some (some (.builtin "object.__class__")))
    (em_NotRight : PySem.W.mroIn K c_NotRight (.type "object") = some true)
    (ec_NotRight : PySem.W.clsIn K c_NotRight = some cd_NotRight)
    (r_NotRight : cd_NotRight.mro = [.ref c_NotRight, .ref c_BeltsError, .type "ValueError", .type "Exception", .type "BaseException", .type "object"])
    (eg_NotStraight : PySem.W.findIn K (.ref c_NotStraight) "__getattribute__" = some (some (.builtin "BaseException.__getattribute__")))
    (ek_NotStraight : PySem.W.findIn K (.ref c_NotStraight) "__getattr__" = some none)
    (eh_NotStraight : PySem.W.hasDictIn K c_NotStraight = true)
    (ea_NotStraight : PySem.W.findIn K (.ref c_NotStraight) "__class__" = some (some (.builtin "object.__class__")))
    (em_NotStraight : PySem.W.mroIn K c_NotStraight (.type "object") = some true)
    (ec_NotStraight : PySem.W.clsIn K c_NotStraight = some cd_NotStraight)
    (r_NotStraight : cd_NotStraight.mro = [.ref c_NotStraight, .ref c_BeltsError, .type "ValueError", .type "Exception", .type "BaseException", .type "object"])
    (eg_NotStrong : PySem.W.findIn K (.ref c_NotStrong) "__getattribute__" = some (some (.builtin "BaseException.__getattribute__")))
    (ek_NotStrong : PySem.W.findIn K (.ref c_NotStrong) "__getattr__" = some none)
    (eh_NotStrong : PySem.W.hasDictIn K c_NotStrong = true)
    (ea_NotStrong : PySem.W.findIn K (.ref c_NotStrong) "__class__" = some (some (.builtin "object.__class__")))
    (em_NotStrong : PySem.W.mroIn K c_NotStrong (.type "object") = some true)
    (ec_NotStrong : PySem.W.clsIn K c_NotStrong = some cd_NotStrong)
    (r_NotStrong : cd_NotStrong.mro = [.ref c_NotStrong, .ref c_BeltsError, .type "ValueError", .type "Exception", .type "BaseException", .type "object"])
    (eg_NothingDone : PySem.W.findIn K (.ref c_NothingDone) "__getattribute__" = some (some (.builtin "BaseException.__getattribute__")))
    (ek_NothingDone : PySem.W.findIn K (.ref c_NothingDone) "__getattr__" = some none)
    (eh_NothingDone : PySem.W.hasDictIn K c_NothingDone = true)
    (ea_NothingDone : PySem.W.findIn K (.ref c_NothingDone) "__class__" = some (some (.builtin "object.__class__")))
    (em_NothingDone : PySem.W.mroIn K c_NothingDone (.type "object") = some true)
    (ec_NothingDone : PySem.W.clsIn K c_NothingDone = some cd_NothingDone)
    (r_NothingDone : cd_NothingDone.mro = [.ref c_NothingDone, .ref c_BeltsError, .type "ValueError", .type "Exception", .type "BaseException", .type "object"])
    (eg_OtherSize : PySem.W.findIn K (.ref c_OtherSize) "__getattribute__" = some (some (.builtin "BaseException.__getattribute__")))
    (ek_OtherSize : PySem.W.findIn K (.ref c_OtherSize) "__getattr__" = some none)
    (eh_OtherSize : PySem.W.hasDictIn K c_OtherSize = true)
    (ea_OtherSize : PySem.W.findIn K (.ref c_OtherSize) "__class__" = some (some (.builtin "object.__class__")))
    (em_OtherSize : PySem.W.mroIn K c_OtherSize (.type "object") = some true)
    (ec_OtherSize : PySem.W.clsIn K c_OtherSize = some cd_OtherSize)
    (r_OtherSize : cd_OtherSize.mro = [.ref c_OtherSize, .ref c_BeltsError, .type "ValueError", .type "Exception", .type "BaseException", .type "object"])
    (eg_Over : PySem.W.findIn K (.ref c_Over) "__getattribute__" = some (some (.builtin "BaseException.__getattribute__")))
    (ek_Over : PySem.W.findIn K (.ref c_Over) "__getattr__" = some none)
    (eh_Over : PySem.W.hasDictIn K c_Over = true)
    (ea_Over : PySem.W.findIn K (.ref c_Over) "__class__" = some (some (.builtin "object.__class__")))
    (em_Over : PySem.W.mroIn K c_Over (.type "object") = some true)
    (ec_Over : PySem.W.clsIn K c_Over = some cd_Over)
    (r_Over : cd_Over.mro = [.ref c_Over, .ref c_BeltsError, .type "ValueError", .type "Exception", .type "BaseException", .type "object"])
    (eg_TooLarge : PySem.W.findIn K (.ref c_TooLarge) "__getattribute__" = some (some (.builtin "BaseException.__getattribute__")))
    (ek_TooLarge : PySem.W.findIn K (.ref c_TooLarge) "__getattr__" = some none)
    (eh_TooLarge : PySem.W.hasDictIn K c_TooLarge = true)
    (ea_TooLarge : PySem.W.findIn K (.ref c_TooLarge) "__class__" = some (some (.builtin "object.__class__")))
    (em_TooLarge : PySem.W.mroIn K c_TooLarge (.type "object") = some true)
    (ec_TooLarge : PySem.W.clsIn K c_TooLarge = some cd_TooLarge)
    (r_TooLarge : cd_TooLarge.mro = [.ref c_TooLarge, .ref c_BeltsError, .type "ValueError", .type "Exception", .type "BaseException", .type "object"])
    (eg_TooSmall : PySem.W.findIn K (.ref c_TooSmall) "__getattribute__" = some (some (.builtin "BaseException.__getattribute__")))
    (ek_TooSmall : PySem.W.findIn K (.ref c_TooSmall) "__getattr__" = some none)
    (eh_TooSmall : PySem.W.hasDictIn K c_TooSmall = true)
    (ea_TooSmall : PySem.W.findIn K (.ref c_TooSmall) "__class__" = some (some (.builtin "object.__class__")))
    (em_TooSmall : PySem.W.mroIn K c_TooSmall (.type "object") = some true)
    (ec_TooSmall : PySem.W.clsIn K c_TooSmall = some cd_TooSmall)
    (r_TooSmall : cd_TooSmall.mro = [.ref c_TooSmall, .ref c_BeltsError, .type "ValueError", .type "Exception", .type "BaseException", .type "object"])
    (nd : ([c_BadProgram, c_NoName, c_BadCode, c_TooLarge, c_TooSmall, c_BadText, c_Faulty, c_NoWay, c_NoPlace, c_NoRoute, c_Over, c_NoNumber, c_BadMachine, c_NoHolding, c_NoBelt, c_NoCarries, c_NotFull, c_NoWalk, c_NoNames, c_OtherSize, c_NoSeating, c_NotRight, c_NoRing, c_NotStrong, c_NotStraight, c_NoLine, c_NoneLed, c_BadNeed, c_NothingDone, c_BeltsError] : List Addr).Nodup)
    (ox_BadCode : K.lookup c_BadCode = some (excClassObj nm_BadCode qn_BadCode c_BadCode N_BadCode bs_BadCode [.ref c_BeltsError, .type "ValueError", .type "Exception", .type "BaseException", .type "object"] true sn_BadCode su_BadCode ab_BadCode co_BadCode dd_BadCode u0_BadCode u1_BadCode u2_BadCode u3_BadCode u5_BadCode "ValueError.__new__"))
    (sa_BadCode : PySem.W.findIn K (.ref c_BadCode) "__setattr__" = some (some (.builtin "object.__setattr__")))
    (oi_BadCode : PySem.W.findIn K (.ref c_BadCode) "__init__" = some (some (.ref p2)))
    (ot_BadCode : PySem.W.typeIn K (.ref p2) = some (.type "function"))
    (ox_BadProgram : K.lookup c_BadProgram = some (excClassObj nm_BadProgram qn_BadProgram c_BadProgram N_BadProgram bs_BadProgram [.ref c_BeltsError, .type "ValueError", .type "Exception", .type "BaseException", .type "object"] true sn_BadProgram su_BadProgram ab_BadProgram co_BadProgram dd_BadProgram u0_BadProgram u1_BadProgram u2_BadProgram u3_BadProgram u5_BadProgram "ValueError.__new__"))
    (sa_BadProgram : PySem.W.findIn K (.ref c_BadProgram) "__setattr__" = some (some (.builtin "object.__setattr__")))
    (oi_BadProgram : PySem.W.findIn K (.ref c_BadProgram) "__init__" = some (some (.ref p0)))
    (ot_BadProgram : PySem.W.typeIn K (.ref p0) = some (.type "function"))
    (ox_BadText : K.lookup c_BadText = some (excClassObj nm_BadText qn_BadText c_BadText N_BadText bs_BadText [.ref c_BeltsError, .type "ValueError", .type "Exception", .type "BaseException", .type "object"] true sn_BadText su_BadText ab_BadText co_BadText dd_BadText u0_BadText u1_BadText u2_BadText u3_BadText u5_BadText "ValueError.__new__"))
    (sa_BadText : PySem.W.findIn K (.ref c_BadText) "__setattr__" = some (some (.builtin "object.__setattr__")))
    (oi_BadText : PySem.W.findIn K (.ref c_BadText) "__init__" = some (some (.ref p5)))
    (ot_BadText : PySem.W.typeIn K (.ref p5) = some (.type "function"))
    (ox_Faulty : K.lookup c_Faulty = some (excClassObj nm_Faulty qn_Faulty c_Faulty N_Faulty bs_Faulty [.ref c_BeltsError, .type "ValueError", .type "Exception", .type "BaseException", .type "object"] true sn_Faulty su_Faulty ab_Faulty co_Faulty dd_Faulty u0_Faulty u1_Faulty u2_Faulty u3_Faulty u5_Faulty "ValueError.__new__"))
    (sa_Faulty : PySem.W.findIn K (.ref c_Faulty) "__setattr__" = some (some (.builtin "object.__setattr__")))
    (oi_Faulty : PySem.W.findIn K (.ref c_Faulty) "__init__" = some (some (.ref p6)))
    (ot_Faulty : PySem.W.typeIn K (.ref p6) = some (.type "function"))
    (ox_NoName : K.lookup c_NoName = some (excClassObj nm_NoName qn_NoName c_NoName N_NoName bs_NoName [.ref c_BeltsError, .type "ValueError", .type "Exception", .type "BaseException", .type "object"] true sn_NoName su_NoName ab_NoName co_NoName dd_NoName u0_NoName u1_NoName u2_NoName u3_NoName u5_NoName "ValueError.__new__"))
    (sa_NoName : PySem.W.findIn K (.ref c_NoName) "__setattr__" = some (some (.builtin "object.__setattr__")))
    (oi_NoName : PySem.W.findIn K (.ref c_NoName) "__init__" = some (some (.ref p1)))
    (ot_NoName : PySem.W.typeIn K (.ref p1) = some (.type "function"))
    (ox_TooLarge : K.lookup c_TooLarge = some (excClassObj nm_TooLarge qn_TooLarge c_TooLarge N_TooLarge bs_TooLarge [.ref c_BeltsError, .type "ValueError", .type "Exception", .type "BaseException", .type "object"] true sn_TooLarge su_TooLarge ab_TooLarge co_TooLarge dd_TooLarge u0_TooLarge u1_TooLarge u2_TooLarge u3_TooLarge u5_TooLarge "ValueError.__new__"))
    (sa_TooLarge : PySem.W.findIn K (.ref c_TooLarge) "__setattr__" = some (some (.builtin "object.__setattr__")))
    (oi_TooLarge : PySem.W.findIn K (.ref c_TooLarge) "__init__" = some (some (.ref p3)))
    (ot_TooLarge : PySem.W.typeIn K (.ref p3) = some (.type "function"))
    (ox_TooSmall : K.lookup c_TooSmall = some (excClassObj nm_TooSmall qn_TooSmall c_TooSmall N_TooSmall bs_TooSmall [.ref c_BeltsError, .type "ValueError", .type "Exception", .type "BaseException", .type "object"] true sn_TooSmall su_TooSmall ab_TooSmall co_TooSmall dd_TooSmall u0_TooSmall u1_TooSmall u2_TooSmall u3_TooSmall u5_TooSmall "ValueError.__new__"))
    (sa_TooSmall : PySem.W.findIn K (.ref c_TooSmall) "__setattr__" = some (some (.builtin "object.__setattr__")))
    (oi_TooSmall : PySem.W.findIn K (.ref c_TooSmall) "__init__" = some (some (.ref p4)))
    (ot_TooSmall : PySem.W.typeIn K (.ref p4) = some (.type "function"))
    (ho_BadCode_part : PySem.W.findIn K (.ref c_BadCode) "part" = some none)
    (ho_BadProgram_part : PySem.W.findIn K (.ref c_BadProgram) "part" = some none)
    (ho_BadText_line : PySem.W.findIn K (.ref c_BadText) "line" = some none)
    (ho_Faulty_name : PySem.W.findIn K (.ref c_Faulty) "name" = some none)
    (ho_Faulty_place : PySem.W.findIn K (.ref c_Faulty) "place" = some none)
    (ho_NoName_name : PySem.W.findIn K (.ref c_NoName) "name" = some none)
    (ho_TooLarge_most : PySem.W.findIn K (.ref c_TooLarge) "most" = some none)
    (ho_TooSmall_least : PySem.W.findIn K (.ref c_TooSmall) "least" = some none)
    (h_BeltsError : PySem.W.hasDictIn K c_BeltsError = true)
    (h_Over : PySem.W.hasDictIn K c_Over = true)
    (s_BadProgram_BeltsError : PySem.W.subIn K (.ref c_BadProgram) (.ref c_BeltsError) = some true)
    (s_BadProgram_Over : PySem.W.subIn K (.ref c_BadProgram) (.ref c_Over) = some false)
    (s_BeltsError_BeltsError : PySem.W.subIn K (.ref c_BeltsError) (.ref c_BeltsError) = some true)
    (s_BeltsError_Over : PySem.W.subIn K (.ref c_BeltsError) (.ref c_Over) = some false)
    (s_NothingDone_BeltsError : PySem.W.subIn K (.ref c_NothingDone) (.ref c_BeltsError) = some true)
    (s_NothingDone_Over : PySem.W.subIn K (.ref c_NothingDone) (.ref c_Over) = some false)
    (s_Over_BeltsError : PySem.W.subIn K (.ref c_Over) (.ref c_BeltsError) = some true)
    (s_Over_Over : PySem.W.subIn K (.ref c_Over) (.ref c_Over) = some true)
    (l0 : K.lookup p0 = some ⟨oc0, od0, .func (PySem.W.fnOf "__init__" "BadProgram.__init__" (defArgs f_BadProgram___init___st) (defBody f_BadProgram___init___st) (defScope f_BadProgram___init___st) .none kV0 dc0 pm0 an0 cd0 ct0), sl0⟩)
    (i0 : PySem.W.codeIn K cd0 "BadProgram.__init__" = true)
    (k0 : PySem.W.keepIn K (.ref p0) = true)
    (l1 : K.lookup p1 = some ⟨oc1, od1, .func (PySem.W.fnOf "__init__" "NoName.__init__" (defArgs f_NoName___init___st) (defBody f_NoName___init___st) (defScope f_NoName___init___st) .none kV1 dc1 pm1 an1 cd1 ct1), sl1⟩)
    (i1 : PySem.W.codeIn K cd1 "NoName.__init__" = true)
    (k1 : PySem.W.keepIn K (.ref p1) = true)
    (l2 : K.lookup p2 = some ⟨oc2, od2, .func (PySem.W.fnOf "__init__" "BadCode.__init__" (defArgs f_BadCode___init___st) (defBody f_BadCode___init___st) (defScope f_BadCode___init___st) .none kV2 dc2 pm2 an2 cd2 ct2), sl2⟩)
    (i2 : PySem.W.codeIn K cd2 "BadCode.__init__" = true)
    (k2 : PySem.W.keepIn K (.ref p2) = true)
    (l3 : K.lookup p3 = some ⟨oc3, od3, .func (PySem.W.fnOf "__init__" "TooLarge.__init__" (defArgs f_TooLarge___init___st) (defBody f_TooLarge___init___st) (defScope f_TooLarge___init___st) .none kV3 dc3 pm3 an3 cd3 ct3), sl3⟩)
    (i3 : PySem.W.codeIn K cd3 "TooLarge.__init__" = true)
    (k3 : PySem.W.keepIn K (.ref p3) = true)
    (l4 : K.lookup p4 = some ⟨oc4, od4, .func (PySem.W.fnOf "__init__" "TooSmall.__init__" (defArgs f_TooSmall___init___st) (defBody f_TooSmall___init___st) (defScope f_TooSmall___init___st) .none kV4 dc4 pm4 an4 cd4 ct4), sl4⟩)
    (i4 : PySem.W.codeIn K cd4 "TooSmall.__init__" = true)
    (k4 : PySem.W.keepIn K (.ref p4) = true)
    (l5 : K.lookup p5 = some ⟨oc5, od5, .func (PySem.W.fnOf "__init__" "BadText.__init__" (defArgs f_BadText___init___st) (defBody f_BadText___init___st) (defScope f_BadText___init___st) .none kV5 dc5 pm5 an5 cd5 ct5), sl5⟩)
    (i5 : PySem.W.codeIn K cd5 "BadText.__init__" = true)
    (k5 : PySem.W.keepIn K (.ref p5) = true)
    (l6 : K.lookup p6 = some ⟨oc6, od6, .func (PySem.W.fnOf "__init__" "Faulty.__init__" (defArgs f_Faulty___init___st) (defBody f_Faulty___init___st) (defScope f_Faulty___init___st) .none kV6 dc6 pm6 an6 cd6 ct6), sl6⟩)
    (i6 : PySem.W.codeIn K cd6 "Faulty.__init__" = true)
    (k6 : PySem.W.keepIn K (.ref p6) = true)
    (a7 : PySem.W.nsIn K mainGlobals "_law_tape" = some (some (.ref p7)))
    (l7 : K.lookup p7 = some ⟨oc7, od7, .func (PySem.W.fnOf "_law_tape" "_law_tape" (defArgs f_law_tape_st) (defBody f_law_tape_st) (defScope f_law_tape_st) .none kV7 dc7 pm7 an7 cd7 ct7), sl7⟩)
    (i7 : PySem.W.codeIn K cd7 "_law_tape" = true)
    (k7 : PySem.W.keepIn K (.ref p7) = true)
    (a8 : PySem.W.nsIn K mainGlobals "_law_pick" = some (some (.ref p8)))
    (l8 : K.lookup p8 = some ⟨oc8, od8, .func (PySem.W.fnOf "_law_pick" "_law_pick" (defArgs f_law_pick_st) (defBody f_law_pick_st) (defScope f_law_pick_st) .none kV8 dc8 pm8 an8 cd8 ct8), sl8⟩)
    (i8 : PySem.W.codeIn K cd8 "_law_pick" = true)
    (k8 : PySem.W.keepIn K (.ref p8) = true)
    (a9 : PySem.W.nsIn K mainGlobals "_law_kinds" = some (some (.ref p9)))
    (l9 : K.lookup p9 = some ⟨oc9, od9, .func (PySem.W.fnOf "_law_kinds" "_law_kinds" (defArgs f_law_kinds_st) (defBody f_law_kinds_st) (defScope f_law_kinds_st) .none kV9 dc9 pm9 an9 cd9 ct9), sl9⟩)
    (i9 : PySem.W.codeIn K cd9 "_law_kinds" = true)
    (k9 : PySem.W.keepIn K (.ref p9) = true)
    (a10 : PySem.W.nsIn K mainGlobals "_law_made" = some (some (.ref p10)))
    (l10 : K.lookup p10 = some ⟨oc10, od10, .func (PySem.W.fnOf "_law_made" "_law_made" (defArgs f_law_made_st) (defBody f_law_made_st) (defScope f_law_made_st) .none kV10 dc10 pm10 an10 cd10 ct10), sl10⟩)
    (i10 : PySem.W.codeIn K cd10 "_law_made" = true)
    (k10 : PySem.W.keepIn K (.ref p10) = true)
    (a11 : PySem.W.nsIn K mainGlobals "_law_fields" = some (some (.ref p11)))
    (l11 : K.lookup p11 = some ⟨oc11, od11, .func (PySem.W.fnOf "_law_fields" "_law_fields" (defArgs f_law_fields_st) (defBody f_law_fields_st) (defScope f_law_fields_st) .none kV11 dc11 pm11 an11 cd11 ct11), sl11⟩)
    (i11 : PySem.W.codeIn K cd11 "_law_fields" = true)
    (k11 : PySem.W.keepIn K (.ref p11) = true)
    (a12 : PySem.W.nsIn K mainGlobals "_law_caught" = some (some (.ref p12)))
    (l12 : K.lookup p12 = some ⟨oc12, od12, .func (PySem.W.fnOf "_law_caught" "_law_caught" (defArgs f_law_caught_st) (defBody f_law_caught_st) (defScope f_law_caught_st) .none kV12 dc12 pm12 an12 cd12 ct12), sl12⟩)
    (i12 : PySem.W.codeIn K cd12 "_law_caught" = true)
    (k12 : PySem.W.keepIn K (.ref p12) = true)
    (a13 : PySem.W.nsIn K mainGlobals "law" = some (some (.ref p13)))
    (l13 : K.lookup p13 = some ⟨oc13, od13, .func (PySem.W.fnOf "law" "law" (defArgs f_law_st) (defBody f_law_st) (defScope f_law_st) .none kV13 dc13 pm13 an13 cd13 ct13), sl13⟩)
    (i13 : PySem.W.codeIn K cd13 "law" = true)
    (k13 : PySem.W.keepIn K (.ref p13) = true)
    : ∃ fd : FuncData, (∀ (s : Shared) (v : Value), BindsTo s fd ⟨[v], []⟩ [("_law_script", v)]) ∧ ∀ base : Heap, K.In base → base.Ns mainGlobals mg → FnOk l.prog w K mg base (L2.CX l.prog w) 4 fa fd ["_law_script"] (spLaw K) := by
  have e := hfa.symm.trans (PySem.W.mg_of X G a13)
  cases e
  have T : Txt K mg ⟨c_BadCode, c_BadMachine, c_BadNeed, c_BadProgram, c_BadText, c_BeltsError, c_Faulty, c_NoBelt, c_NoCarries, c_NoHolding, c_NoLine, c_NoName, c_NoNames, c_NoNumber, c_NoPlace, c_NoRing, c_NoRoute, c_NoSeating, c_NoWalk, c_NoWay, c_NoneLed, c_NotFull, c_NotRight, c_NotStraight, c_NotStrong, c_NothingDone, c_OtherSize, c_Over, c_TooLarge, c_TooSmall, p0, (PySem.W.fnOf "__init__" "BadProgram.__init__" (defArgs f_BadProgram___init___st) (defBody f_BadProgram___init___st) (defScope f_BadProgram___init___st) .none kV0 dc0 pm0 an0 cd0 ct0), p1, (PySem.W.fnOf "__init__" "NoName.__init__" (defArgs f_NoName___init___st) (defBody f_NoName___init___st) (defScope f_NoName___init___st) .none kV1 dc1 pm1 an1 cd1 ct1), p2, (PySem.W.fnOf "__init__" "BadCode.__init__" (defArgs f_BadCode___init___st) (defBody f_BadCode___init___st) (defScope f_BadCode___init___st) .none kV2 dc2 pm2 an2 cd2 ct2), p3, (PySem.W.fnOf "__init__" "TooLarge.__init__" (defArgs f_TooLarge___init___st) (defBody f_TooLarge___init___st) (defScope f_TooLarge___init___st) .none kV3 dc3 pm3 an3 cd3 ct3), p4, (PySem.W.fnOf "__init__" "TooSmall.__init__" (defArgs f_TooSmall___init___st) (defBody f_TooSmall___init___st) (defScope f_TooSmall___init___st) .none kV4 dc4 pm4 an4 cd4 ct4), p5, (PySem.W.fnOf "__init__" "BadText.__init__" (defArgs f_BadText___init___st) (defBody f_BadText___init___st) (defScope f_BadText___init___st) .none kV5 dc5 pm5 an5 cd5 ct5), p6, (PySem.W.fnOf "__init__" "Faulty.__init__" (defArgs f_Faulty___init___st) (defBody f_Faulty___init___st) (defScope f_Faulty___init___st) .none kV6 dc6 pm6 an6 cd6 ct6), p7, (PySem.W.fnOf "_law_tape" "_law_tape" (defArgs f_law_tape_st) (defBody f_law_tape_st) (defScope f_law_tape_st) .none kV7 dc7 pm7 an7 cd7 ct7), p8, (PySem.W.fnOf "_law_pick" "_law_pick" (defArgs f_law_pick_st) (defBody f_law_pick_st) (defScope f_law_pick_st) .none kV8 dc8 pm8 an8 cd8 ct8), p9, (PySem.W.fnOf "_law_kinds" "_law_kinds" (defArgs f_law_kinds_st) (defBody f_law_kinds_st) (defScope f_law_kinds_st) .none kV9 dc9 pm9 an9 cd9 ct9), p10, (PySem.W.fnOf "_law_made" "_law_made" (defArgs f_law_made_st) (defBody f_law_made_st) (defScope f_law_made_st) .none kV10 dc10 pm10 an10 cd10 ct10), p11, (PySem.W.fnOf "_law_fields" "_law_fields" (defArgs f_law_fields_st) (defBody f_law_fields_st) (defScope f_law_fields_st) .none kV11 dc11 pm11 an11 cd11 ct11), p12, (PySem.W.fnOf "_law_caught" "_law_caught" (defArgs f_law_caught_st) (defBody f_law_caught_st) (defScope f_law_caught_st) .none kV12 dc12 pm12 an12 cd12 ct12), fa, (PySem.W.fnOf "law" "law" (defArgs f_law_st) (defBody f_law_st) (defScope f_law_st) .none kV13 dc13 pm13 an13 cd13 ct13)⟩ := ⟨PySem.W.mg_none_of X G z_ValueError, PySem.W.mg_none_of X G z_bool, PySem.W.mg_none_of X G z_int, PySem.W.mg_none_of X G z_isinstance, PySem.W.mg_none_of X G z_len, PySem.W.mg_none_of X G z_list, PySem.W.mg_none_of X G z_range, PySem.W.mg_of X G g_BadCode, k_BadCode, b_BadCode, t_BadCode, PySem.W.mg_of X G g_BadMachine, x_BadMachine, k_BadMachine, b_BadMachine, t_BadMachine, PySem.W.mg_of X G g_BadNeed, x_BadNeed, k_BadNeed, b_BadNeed, t_BadNeed, PySem.W.mg_of X G g_BadProgram, k_BadProgram, b_BadProgram, t_BadProgram, PySem.W.mg_of X G g_BadText, k_BadText, b_BadText, t_BadText, PySem.W.mg_of X G g_BeltsError, x_BeltsError, k_BeltsError, b_BeltsError, t_BeltsError, PySem.W.mg_of X G g_Faulty, k_Faulty, b_Faulty, t_Faulty, PySem.W.mg_of X G g_NoBelt, x_NoBelt, k_NoBelt, b_NoBelt, t_NoBelt, PySem.W.mg_of X G g_NoCarries, x_NoCarries, k_NoCarries, b_NoCarries, t_NoCarries, PySem.W.mg_of X G g_NoHolding, x_NoHolding, k_NoHolding, b_NoHolding, t_NoHolding, PySem.W.mg_of X G g_NoLine, x_NoLine, k_NoLine, b_NoLine, t_NoLine, PySem.W.mg_of X G g_NoName, k_NoName, b_NoName, t_NoName, PySem.W.mg_of X G g_NoNames, x_NoNames, k_NoNames, b_NoNames, t_NoNames, PySem.W.mg_of X G g_NoNumber, x_NoNumber, k_NoNumber, b_NoNumber, t_NoNumber, PySem.W.mg_of X G g_NoPlace, x_NoPlace, k_NoPlace, b_NoPlace, t_NoPlace, PySem.W.mg_of X G g_NoRing, x_NoRing, k_NoRing, b_NoRing, t_NoRing, PySem.W.mg_of X G g_NoRoute, x_NoRoute, k_NoRoute, b_NoRoute, t_NoRoute, PySem.W.mg_of X G g_NoSeating, x_NoSeating, k_NoSeating, b_NoSeating, t_NoSeating, PySem.W.mg_of X G g_NoWalk, x_NoWalk, k_NoWalk, b_NoWalk, t_NoWalk, PySem.W.mg_of X G g_NoWay, x_NoWay, k_NoWay, b_NoWay, t_NoWay, PySem.W.mg_of X G g_NoneLed, x_NoneLed, k_NoneLed, b_NoneLed, t_NoneLed, PySem.W.mg_of X G g_NotFull, x_NotFull, k_NotFull, b_NotFull, t_NotFull, PySem.W.mg_of X G g_NotRight, x_NotRight, k_NotRight, b_NotRight, t_NotRight, PySem.W.mg_of X G g_NotStraight, x_NotStraight, k_NotStraight, b_NotStraight, t_NotStraight, PySem.W.mg_of X G g_NotStrong, x_NotStrong, k_NotStrong, b_NotStrong, t_NotStrong, PySem.W.mg_of X G g_NothingDone, x_NothingDone, k_NothingDone, b_NothingDone, t_NothingDone, PySem.W.mg_of X G g_OtherSize, x_OtherSize, k_OtherSize, b_OtherSize, t_OtherSize, PySem.W.mg_of X G g_Over, x_Over, k_Over, b_Over, t_Over, PySem.W.mg_of X G g_TooLarge, k_TooLarge, b_TooLarge, t_TooLarge, PySem.W.mg_of X G g_TooSmall, k_TooSmall, b_TooSmall, t_TooSmall, ⟨eg_BadCode, ek_BadCode, b_BadCode, eh_BadCode, ea_BadCode, hn, ht, em_BadCode⟩, (by rw [ec_BadCode]; rfl), (by rw [ec_BadCode, Option.map_some, r_BadCode]), ⟨eg_BadMachine, ek_BadMachine, b_BadMachine, eh_BadMachine, ea_BadMachine, hn, ht, em_BadMachine⟩, (by rw [ec_BadMachine]; rfl), (by rw [ec_BadMachine, Option.map_some, r_BadMachine]), ⟨eg_BadNeed, ek_BadNeed, b_BadNeed, eh_BadNeed, ea_BadNeed, hn, ht, em_BadNeed⟩, (by rw [ec_BadNeed]; rfl), (by rw [ec_BadNeed, Option.map_some, r_BadNeed]), ⟨eg_BadProgram, ek_BadProgram, b_BadProgram, eh_BadProgram, ea_BadProgram, hn, ht, em_BadProgram⟩, (by rw [ec_BadProgram]; rfl), (by rw [ec_BadProgram, Option.map_some, r_BadProgram]), ⟨eg_BadText, ek_BadText, b_BadText, eh_BadText, ea_BadText, hn, ht, em_BadText⟩, (by rw [ec_BadText]; rfl), (by rw [ec_BadText, Option.map_some, r_BadText]), ⟨eg_BeltsError, ek_BeltsError, b_BeltsError, eh_BeltsError, ea_BeltsError, hn, ht, em_BeltsError⟩, (by rw [ec_BeltsError]; rfl), ⟨eg_Faulty, ek_Faulty, b_Faulty, eh_Faulty, ea_Faulty, hn, ht, em_Faulty⟩, (by rw [ec_Faulty]; rfl), (by rw [ec_Faulty, Option.map_some, r_Faulty]), ⟨eg_NoBelt, ek_NoBelt, b_NoBelt, eh_NoBelt, ea_NoBelt, hn, ht, em_NoBelt⟩, (by rw [ec_NoBelt]; rfl), (by rw [ec_NoBelt, Option.map_some, r_NoBelt]), ⟨eg_NoCarries, ek_NoCarries, b_NoCarries, eh_NoCarries, ea_NoCarries, hn, ht, em_NoCarries⟩, (by rw [ec_NoCarries]; rfl), (by rw [ec_NoCarries, Option.map_some, r_NoCarries]), ⟨eg_NoHolding, ek_NoHolding, b_NoHolding, eh_NoHolding, ea_NoHolding, hn, ht, em_NoHolding⟩, (by rw [ec_NoHolding]; rfl), (by rw [ec_NoHolding, Option.map_some, r_NoHolding]), ⟨eg_NoLine, ek_NoLine, b_NoLine, eh_NoLine, ea_NoLine, hn, ht, em_NoLine⟩, (by rw [ec_NoLine]; rfl), (by rw [ec_NoLine, Option.map_some, r_NoLine]), ⟨eg_NoName, ek_NoName, b_NoName, eh_NoName, ea_NoName, hn, ht, em_NoName⟩, (by rw [ec_NoName]; rfl), (by rw [ec_NoName, Option.map_some, r_NoName]), ⟨eg_NoNames, ek_NoNames, b_NoNames, eh_NoNames, ea_NoNames, hn, ht, em_NoNames⟩, (by rw [ec_NoNames]; rfl), (by rw [ec_NoNames, Option.map_some, r_NoNames]), ⟨eg_NoNumber, ek_NoNumber, b_NoNumber, eh_NoNumber, ea_NoNumber, hn, ht, em_NoNumber⟩, (by rw [ec_NoNumber]; rfl), (by rw [ec_NoNumber, Option.map_some, r_NoNumber]), ⟨eg_NoPlace, ek_NoPlace, b_NoPlace, eh_NoPlace, ea_NoPlace, hn, ht, em_NoPlace⟩, (by rw [ec_NoPlace]; rfl), (by rw [ec_NoPlace, Option.map_some, r_NoPlace]), ⟨eg_NoRing, ek_NoRing, b_NoRing, eh_NoRing, ea_NoRing, hn, ht, em_NoRing⟩, (by rw [ec_NoRing]; rfl), (by rw [ec_NoRing, Option.map_some, r_NoRing]), ⟨eg_NoRoute, ek_NoRoute, b_NoRoute, eh_NoRoute, ea_NoRoute, hn, ht, em_NoRoute⟩, (by rw [ec_NoRoute]; rfl), (by rw [ec_NoRoute, Option.map_some, r_NoRoute]), ⟨eg_NoSeating, ek_NoSeating, b_NoSeating, eh_NoSeating, ea_NoSeating, hn, ht, em_NoSeating⟩, (by rw [ec_NoSeating]; rfl), (by rw [ec_NoSeating, Option.map_some, r_NoSeating]), ⟨eg_NoWalk, ek_NoWalk, b_NoWalk, eh_NoWalk, ea_NoWalk, hn, ht, em_NoWalk⟩, (by rw [ec_NoWalk]; rfl), (by rw [ec_NoWalk, Option.map_some, r_NoWalk]), ⟨eg_NoWay, ek_NoWay, b_NoWay, eh_NoWay, ea_NoWay, hn, ht, em_NoWay⟩, (by rw [ec_NoWay]; rfl), (by rw [ec_NoWay, Option.map_some, r_NoWay]), ⟨eg_NoneLed, ek_NoneLed, b_NoneLed, eh_NoneLed, ea_NoneLed, hn, ht, em_NoneLed⟩, (by rw [ec_NoneLed]; rfl), (by rw [ec_NoneLed, Option.map_some, r_NoneLed]), ⟨eg_NotFull, ek_NotFull, b_NotFull, eh_NotFull, ea_NotFull, hn, ht, em_NotFull⟩, (by rw [ec_NotFull]; rfl), (by rw [ec_NotFull, Option.map_some, r_NotFull]), ⟨eg_NotRight, ek_NotRight, b_NotRight, eh_NotRight, ea_NotRight, hn, ht, em_NotRight⟩, (by rw [ec_NotRight]; rfl), (by rw [ec_NotRight, Option.map_some, r_NotRight]), ⟨eg_NotStraight, ek_NotStraight, b_NotStraight, eh_NotStraight, ea_NotStraight, hn, ht, em_NotStraight⟩, (by rw [ec_NotStraight]; rfl), (by rw [ec_NotStraight, Option.map_some, r_NotStraight]), ⟨eg_NotStrong, ek_NotStrong, b_NotStrong, eh_NotStrong, ea_NotStrong, hn, ht, em_NotStrong⟩, (by rw [ec_NotStrong]; rfl), (by rw [ec_NotStrong, Option.map_some, r_NotStrong]), ⟨eg_NothingDone, ek_NothingDone, b_NothingDone, eh_NothingDone, ea_NothingDone, hn, ht, em_NothingDone⟩, (by rw [ec_NothingDone]; rfl), (by rw [ec_NothingDone, Option.map_some, r_NothingDone]), ⟨eg_OtherSize, ek_OtherSize, b_OtherSize, eh_OtherSize, ea_OtherSize, hn, ht, em_OtherSize⟩, (by rw [ec_OtherSize]; rfl), (by rw [ec_OtherSize, Option.map_some, r_OtherSize]), ⟨eg_Over, ek_Over, b_Over, eh_Over, ea_Over, hn, ht, em_Over⟩, (by rw [ec_Over]; rfl), (by rw [ec_Over, Option.map_some, r_Over]), ⟨eg_TooLarge, ek_TooLarge, b_TooLarge, eh_TooLarge, ea_TooLarge, hn, ht, em_TooLarge⟩, (by rw [ec_TooLarge]; rfl), (by rw [ec_TooLarge, Option.map_some, r_TooLarge]), ⟨eg_TooSmall, ek_TooSmall, b_TooSmall, eh_TooSmall, ea_TooSmall, hn, ht, em_TooSmall⟩, (by rw [ec_TooSmall]; rfl), (by rw [ec_TooSmall, Option.map_some, r_TooSmall]), nd, ⟨⟨_, _, _, _, _, _, _, _, _, _, _, _, _, _, _, ox_BadCode, by rfl⟩, sa_BadCode, b_BadCode, t_BadCode, k_BadCode⟩, oi_BadCode, ot_BadCode, ⟨eg_BadCode, ek_BadCode, b_BadCode, eh_BadCode⟩, ⟨⟨_, _, _, _, _, _, _, _, _, _, _, _, _, _, _, ox_BadProgram, by rfl⟩, sa_BadProgram, b_BadProgram, t_BadProgram, k_BadProgram⟩, oi_BadProgram, ot_BadProgram, ⟨eg_BadProgram, ek_BadProgram, b_BadProgram, eh_BadProgram⟩, ⟨⟨_, _, _, _, _, _, _, _, _, _, _, _, _, _, _, ox_BadText, by rfl⟩, sa_BadText, b_BadText, t_BadText, k_BadText⟩, oi_BadText, ot_BadText, ⟨eg_BadText, ek_BadText, b_BadText, eh_BadText⟩, ⟨⟨_, _, _, _, _, _, _, _, _, _, _, _, _, _, _, ox_Faulty, by rfl⟩, sa_Faulty, b_Faulty, t_Faulty, k_Faulty⟩, oi_Faulty, ot_Faulty, ⟨eg_Faulty, ek_Faulty, b_Faulty, eh_Faulty⟩, ⟨⟨_, _, _, _, _, _, _, _, _, _, _, _, _, _, _, ox_NoName, by rfl⟩, sa_NoName, b_NoName, t_NoName, k_NoName⟩, oi_NoName, ot_NoName, ⟨eg_NoName, ek_NoName, b_NoName, eh_NoName⟩, ⟨⟨_, _, _, _, _, _, _, _, _, _, _, _, _, _, _, ox_TooLarge, by rfl⟩, sa_TooLarge, b_TooLarge, t_TooLarge, k_TooLarge⟩, oi_TooLarge, ot_TooLarge, ⟨eg_TooLarge, ek_TooLarge, b_TooLarge, eh_TooLarge⟩, ⟨⟨_, _, _, _, _, _, _, _, _, _, _, _, _, _, _, ox_TooSmall, by rfl⟩, sa_TooSmall, b_TooSmall, t_TooSmall, k_TooSmall⟩, oi_TooSmall, ot_TooSmall, ⟨eg_TooSmall, ek_TooSmall, b_TooSmall, eh_TooSmall⟩, ho_BadCode_part, ho_BadProgram_part, ho_BadText_line, ho_Faulty_name, ho_Faulty_place, ho_NoName_name, ho_TooLarge_most, ho_TooSmall_least, exm_of2 b_BeltsError h_BeltsError t_BeltsError s_BadProgram_BeltsError, exm_of2 b_Over h_Over t_Over s_BadProgram_Over, exm_of2 b_BeltsError h_BeltsError t_BeltsError s_BeltsError_BeltsError, exm_of2 b_Over h_Over t_Over s_BeltsError_Over, exm_of2 b_BeltsError h_BeltsError t_BeltsError s_NothingDone_BeltsError, exm_of2 b_Over h_Over t_Over s_NothingDone_Over, exm_of2 b_BeltsError h_BeltsError t_BeltsError s_Over_BeltsError, exm_of2 b_Over h_Over t_Over s_Over_Over, fun_mk (st := f_BadProgram___init___st) l0 i0 k0, fun_mk (st := f_NoName___init___st) l1 i1 k1, fun_mk (st := f_BadCode___init___st) l2 i2 k2, fun_mk (st := f_TooLarge___init___st) l3 i3 k3, fun_mk (st := f_TooSmall___init___st) l4 i4 k4, fun_mk (st := f_BadText___init___st) l5 i5 k5, fun_mk (st := f_Faulty___init___st) l6 i6 k6, PySem.W.mg_of X G a7, fun_mk (st := f_law_tape_st) l7 i7 k7, PySem.W.mg_of X G a8, fun_mk (st := f_law_pick_st) l8 i8 k8, PySem.W.mg_of X G a9, fun_mk (st := f_law_kinds_st) l9 i9 k9, PySem.W.mg_of X G a10, fun_mk (st := f_law_made_st) l10 i10 k10, PySem.W.mg_of X G a11, fun_mk (st := f_law_fields_st) l11 i11 k11, PySem.W.mg_of X G a12, fun_mk (st := f_law_caught_st) l12 i12 k12, PySem.W.mg_of X G a13, fun_mk (st := f_law_st) l13 i13 k13⟩
  exact ⟨_, fun s v => .of_eq rfl, fun base _ _ => law_ok T (law_math T)⟩
end Lw

open PySem PySem.W PyProof.Rows in
set_option maxRecDepth 100000 in
set_option maxHeartbeats 0 in
theorem PySem.Challenge.cw_fullbelts_k00_errors_and_their_fields_holds : PySem.Challenge.rw_fullbelts_k00_errors_and_their_fields.Holds := by
  w_on; o_law; k_head; (case hw => w_witness2)
  k_fill
  refine L2.walk_of (l := PySem.Challenge.rw_fullbelts_k00_errors_and_their_fields) (n := 63) (k := 4) (x := "_law_script") (CX := fun w => L2.CX PySem.Challenge.rw_fullbelts_k00_errors_and_their_fields.prog w) (sp := fun w => Lw.spLaw _) rfl (by decide) rfl ⟨rfl, by decide, by decide⟩ (fun w h Y => PySem.W.kIn_of Y) ?F (fun _ _ a ns hl _ hS => ⟨a, ns, rfl, hS, hl, fun _ => rfl⟩) (fun _ _ _ _ _ h => by obtain ⟨_, _, _, _, _, _, _, _, _, _, _, _, z⟩ := h; exact z)
  case F =>
    intro w mg fa h KX G hmg
    refine' Lw.all_mk KX G hmg ?z_ValueError ?z_bool ?z_int ?z_isinstance ?z_len ?z_list ?z_range ?g_BadCode ?k_BadCode ?b_BadCode ?t_BadCode ?g_BadMachine ?x_BadMachine ?k_BadMachine ?b_BadMachine ?t_BadMachine ?g_BadNeed ?x_BadNeed ?k_BadNeed ?b_BadNeed ?t_BadNeed ?g_BadProgram ?k_BadProgram ?b_BadProgram ?t_BadProgram ?g_BadText ?k_BadText ?b_BadText ?t_BadText ?g_BeltsError ?x_BeltsError ?k_BeltsError ?b_BeltsError ?t_BeltsError ?g_Faulty ?k_Faulty ?b_Faulty ?t_Faulty ?g_NoBelt ?x_NoBelt ?k_NoBelt ?b_NoBelt ?t_NoBelt ?g_NoCarries ?x_NoCarries ?k_NoCarries ?b_NoCarries ?t_NoCarries ?g_NoHolding ?x_NoHolding ?k_NoHolding ?b_NoHolding ?t_NoHolding ?g_NoLine ?x_NoLine ?k_NoLine ?b_NoLine ?t_NoLine ?g_NoName ?k_NoName ?b_NoName ?t_NoName ?g_NoNames ?x_NoNames ?k_NoNames ?b_NoNames ?t_NoNames ?g_NoNumber ?x_NoNumber ?k_NoNumber ?b_NoNumber ?t_NoNumber ?g_NoPlace ?x_NoPlace ?k_NoPlace ?b_NoPlace ?t_NoPlace ?g_NoRing ?x_NoRing ?k_NoRing ?b_NoRing ?t_NoRing ?g_NoRoute ?x_NoRoute ?k_NoRoute ?b_NoRoute ?t_NoRoute ?g_NoSeating ?x_NoSeating ?k_NoSeating ?b_NoSeating ?t_NoSeating ?g_NoWalk ?x_NoWalk ?k_NoWalk ?b_NoWalk ?t_NoWalk ?g_NoWay ?x_NoWay ?k_NoWay ?b_NoWay ?t_NoWay ?g_NoneLed ?x_NoneLed ?k_NoneLed ?b_NoneLed ?t_NoneLed ?g_NotFull ?x_NotFull ?k_NotFull ?b_NotFull ?t_NotFull ?g_NotRight ?x_NotRight ?k_NotRight ?b_NotRight ?t_NotRight ?g_NotStraight ?x_NotStraight ?k_NotStraight ?b_NotStraight ?t_NotStraight ?g_NotStrong ?x_NotStrong ?k_NotStrong ?b_NotStrong ?t_NotStrong ?g_NothingDone ?x_NothingDone ?k_NothingDone ?b_NothingDone ?t_NothingDone ?g_OtherSize ?x_OtherSize ?k_OtherSize ?b_OtherSize ?t_OtherSize ?g_Over ?x_Over ?k_Over ?b_Over ?t_Over ?g_TooLarge ?k_TooLarge ?b_TooLarge ?t_TooLarge ?g_TooSmall ?k_TooSmall ?b_TooSmall ?t_TooSmall ?hn ?ht ?eg_BadCode ?ek_BadCode ?eh_BadCode ?ea_BadCode ?em_BadCode ?ec_BadCode ?r_BadCode ?eg_BadMachine ?ek_BadMachine ?eh_BadMachine ?ea_BadMachine ?em_BadMachine ?ec_BadMachine ?r_BadMachine ?eg_BadNeed ?ek_BadNeed ?eh_BadNeed ?ea_BadNeed ?em_BadNeed ?ec_BadNeed ?r_BadNeed ?eg_BadProgram ?ek_BadProgram ?eh_BadProgram ?ea_BadProgram ?em_BadProgram ?ec_BadProgram ?r_BadProgram ?eg_BadText ?ek_BadText ?eh_BadText ?ea_BadText ?em_BadText ?ec_BadText ?r_BadText ?eg_BeltsError ?ek_BeltsError ?eh_BeltsError ?ea_BeltsError ?em_BeltsError ?ec_BeltsError ?eg_Faulty ?ek_Faulty ?eh_Faulty ?ea_Faulty ?em_Faulty ?ec_Faulty ?r_Faulty ?eg_NoBelt ?ek_NoBelt ?eh_NoBelt ?ea_NoBelt ?em_NoBelt ?ec_NoBelt ?r_NoBelt ?eg_NoCarries ?ek_NoCarries ?eh_NoCarries ?ea_NoCarries ?em_NoCarries ?ec_NoCarries ?r_NoCarries ?eg_NoHolding ?ek_NoHolding ?eh_NoHolding ?ea_NoHolding ?em_NoHolding ?ec_NoHolding ?r_NoHolding ?eg_NoLine ?ek_NoLine ?eh_NoLine ?ea_NoLine ?em_NoLine ?ec_NoLine ?r_NoLine ?eg_NoName ?ek_NoName ?eh_NoName ?ea_NoName ?em_NoName ?ec_NoName ?r_NoName ?eg_NoNames ?ek_NoNames ?eh_NoNames ?ea_NoNames ?em_NoNames ?ec_NoNames ?r_NoNames ?eg_NoNumber ?ek_NoNumber ?eh_NoNumber ?ea_NoNumber ?em_NoNumber ?ec_NoNumber ?r_NoNumber ?eg_NoPlace ?ek_NoPlace ?eh_NoPlace ?ea_NoPlace ?em_NoPlace ?ec_NoPlace ?r_NoPlace ?eg_NoRing ?ek_NoRing ?eh_NoRing ?ea_NoRing ?em_NoRing ?ec_NoRing ?r_NoRing ?eg_NoRoute ?ek_NoRoute ?eh_NoRoute ?ea_NoRoute ?em_NoRoute ?ec_NoRoute ?r_NoRoute ?eg_NoSeating ?ek_NoSeating ?eh_NoSeating ?ea_NoSeating ?em_NoSeating ?ec_NoSeating ?r_NoSeating ?eg_NoWalk ?ek_NoWalk ?eh_NoWalk ?ea_NoWalk ?em_NoWalk ?ec_NoWalk ?r_NoWalk ?eg_NoWay ?ek_NoWay ?eh_NoWay ?ea_NoWay ?em_NoWay ?ec_NoWay ?r_NoWay ?eg_NoneLed ?ek_NoneLed ?eh_NoneLed ?ea_NoneLed ?em_NoneLed ?ec_NoneLed ?r_NoneLed ?eg_NotFull ?ek_NotFull ?eh_NotFull ?ea_NotFull ?em_NotFull ?ec_NotFull ?r_NotFull ?eg_NotRight ?ek_NotRight ?eh_NotRight ?ea_NotRight ?em_NotRight ?ec_NotRight ?r_NotRight ?eg_NotStraight ?ek_NotStraight ?eh_NotStraight ?ea_NotStraight ?em_NotStraight ?ec_NotStraight ?r_NotStraight ?eg_NotStrong ?ek_NotStrong ?eh_NotStrong ?ea_NotStrong ?em_NotStrong ?ec_NotStrong ?r_NotStrong ?eg_NothingDone ?ek_NothingDone ?eh_NothingDone ?ea_NothingDone ?em_NothingDone ?ec_NothingDone ?r_NothingDone ?eg_OtherSize ?ek_OtherSize ?eh_OtherSize ?ea_OtherSize ?em_OtherSize ?ec_OtherSize ?r_OtherSize ?eg_Over ?ek_Over ?eh_Over ?ea_Over ?em_Over ?ec_Over ?r_Over ?eg_TooLarge ?ek_TooLarge ?eh_TooLarge ?ea_TooLarge ?em_TooLarge ?ec_TooLarge ?r_TooLarge ?eg_TooSmall ?ek_TooSmall ?eh_TooSmall ?ea_TooSmall ?em_TooSmall ?ec_TooSmall ?r_TooSmall ?nd ?ox_BadCode ?sa_BadCode ?oi_BadCode ?ot_BadCode ?ox_BadProgram ?sa_BadProgram ?oi_BadProgram ?ot_BadProgram ?ox_BadText ?sa_BadText ?oi_BadText ?ot_BadText ?ox_Faulty ?sa_Faulty ?oi_Faulty ?ot_Faulty ?ox_NoName ?sa_NoName ?oi_NoName ?ot_NoName ?ox_TooLarge ?sa_TooLarge ?oi_TooLarge ?ot_TooLarge ?ox_TooSmall ?sa_TooSmall ?oi_TooSmall ?ot_TooSmall ?ho_BadCode_part ?ho_BadProgram_part ?ho_BadText_line ?ho_Faulty_name ?ho_Faulty_place ?ho_NoName_name ?ho_TooLarge_most ?ho_TooSmall_least ?h_BeltsError ?h_Over ?s_BadProgram_BeltsError ?s_BadProgram_Over ?s_BeltsError_BeltsError ?s_BeltsError_Over ?s_NothingDone_BeltsError ?s_NothingDone_Over ?s_Over_BeltsError ?s_Over_Over ?l0 ?i0 ?k0 ?l1 ?i1 ?k1 ?l2 ?i2 ?k2 ?l3 ?i3 ?k3 ?l4 ?i4 ?k4 ?l5 ?i5 ?k5 ?l6 ?i6 ?k6 ?a7 ?l7 ?i7 ?k7 ?a8 ?l8 ?i8 ?k8 ?a9 ?l9 ?i9 ?k9 ?a10 ?l10 ?i10 ?k10 ?a11 ?l11 ?i11 ?k11 ?a12 ?l12 ?i12 ?k12 ?a13 ?l13 ?i13 ?k13
    (case z_ValueError => first | k_is | rfl)
    (case z_bool => first | k_is | rfl)
    (case z_int => first | k_is | rfl)
    (case z_isinstance => first | k_is | rfl)
    (case z_len => first | k_is | rfl)
    (case z_list => first | k_is | rfl)
    (case z_range => first | k_is | rfl)
    (case g_BadCode => first | k_is | rfl)
    (case k_BadCode => first | k_is | rfl)
    (case b_BadCode => first | k_is | rfl)
    (case t_BadCode => first | k_is | rfl)
    (case g_BadMachine => first | k_is | rfl)
    (case x_BadMachine => first | k_exc | k_is | rfl)
    (case k_BadMachine => first | k_is | rfl)
    (case b_BadMachine => first | k_is | rfl)
    (case t_BadMachine => first | k_is | rfl)
    (case g_BadNeed => first | k_is | rfl)
    (case x_BadNeed => first | k_exc | k_is | rfl)
    (case k_BadNeed => first | k_is | rfl)
    (case b_BadNeed => first | k_is | rfl)
    (case t_BadNeed => first | k_is | rfl)
    (case g_BadProgram => first | k_is | rfl)
    (case k_BadProgram => first | k_is | rfl)
    (case b_BadProgram => first | k_is | rfl)
    (case t_BadProgram => first | k_is | rfl)
    (case g_BadText => first | k_is | rfl)
    (case k_BadText => first | k_is | rfl)
    (case b_BadText => first | k_is | rfl)
    (case t_BadText => first | k_is | rfl)
    (case g_BeltsError => first | k_is | rfl)
    (case x_BeltsError => first | k_exc | k_is | rfl)
    (case k_BeltsError => first | k_is | rfl)
    (case b_BeltsError => first | k_is | rfl)
    (case t_BeltsError => first | k_is | rfl)
    (case g_Faulty => first | k_is | rfl)
    (case k_Faulty => first | k_is | rfl)
    (case b_Faulty => first | k_is | rfl)
    (case t_Faulty => first | k_is | rfl)
    (case g_NoBelt => first | k_is | rfl)
    (case x_NoBelt => first | k_exc | k_is | rfl)
    (case k_NoBelt => first | k_is | rfl)
    (case b_NoBelt => first | k_is | rfl)
    (case t_NoBelt => first | k_is | rfl)
    (case g_NoCarries => first | k_is | rfl)
    (case x_NoCarries => first | k_exc | k_is | rfl)
    (case k_NoCarries => first | k_is | rfl)
    (case b_NoCarries => first | k_is | rfl)
    (case t_NoCarries => first | k_is | rfl)
    (case g_NoHolding => first | k_is | rfl)
    (case x_NoHolding => first | k_exc | k_is | rfl)
    (case k_NoHolding => first | k_is | rfl)
    (case b_NoHolding => first | k_is | rfl)
    (case t_NoHolding => first | k_is | rfl)
    (case g_NoLine => first | k_is | rfl)
    (case x_NoLine => first | k_exc | k_is | rfl)
    (case k_NoLine => first | k_is | rfl)
    (case b_NoLine => first | k_is | rfl)
    (case t_NoLine => first | k_is | rfl)
    (case g_NoName => first | k_is | rfl)
    (case k_NoName => first | k_is | rfl)
    (case b_NoName => first | k_is | rfl)
    (case t_NoName => first | k_is | rfl)
    (case g_NoNames => first | k_is | rfl)
    (case x_NoNames => first | k_exc | k_is | rfl)
    (case k_NoNames => first | k_is | rfl)
    (case b_NoNames => first | k_is | rfl)
    (case t_NoNames => first | k_is | rfl)
    (case g_NoNumber => first | k_is | rfl)
    (case x_NoNumber => first | k_exc | k_is | rfl)
    (case k_NoNumber => first | k_is | rfl)
    (case b_NoNumber => first | k_is | rfl)
    (case t_NoNumber => first | k_is | rfl)
    (case g_NoPlace => first | k_is | rfl)
    (case x_NoPlace => first | k_exc | k_is | rfl)
    (case k_NoPlace => first | k_is | rfl)
    (case b_NoPlace => first | k_is | rfl)
    (case t_NoPlace => first | k_is | rfl)
    (case g_NoRing => first | k_is | rfl)
    (case x_NoRing => first | k_exc | k_is | rfl)
    (case k_NoRing => first | k_is | rfl)
    (case b_NoRing => first | k_is | rfl)
    (case t_NoRing => first | k_is | rfl)
    (case g_NoRoute => first | k_is | rfl)
    (case x_NoRoute => first | k_exc | k_is | rfl)
    (case k_NoRoute => first | k_is | rfl)
    (case b_NoRoute => first | k_is | rfl)
    (case t_NoRoute => first | k_is | rfl)
    (case g_NoSeating => first | k_is | rfl)
    (case x_NoSeating => first | k_exc | k_is | rfl)
    (case k_NoSeating => first | k_is | rfl)
    (case b_NoSeating => first | k_is | rfl)
    (case t_NoSeating => first | k_is | rfl)
    (case g_NoWalk => first | k_is | rfl)
    (case x_NoWalk => first | k_exc | k_is | rfl)
    (case k_NoWalk => first | k_is | rfl)
    (case b_NoWalk => first | k_is | rfl)
    (case t_NoWalk => first | k_is | rfl)
    (case g_NoWay => first | k_is | rfl)
    (case x_NoWay => first | k_exc | k_is | rfl)
    (case k_NoWay => first | k_is | rfl)
    (case b_NoWay => first | k_is | rfl)
    (case t_NoWay => first | k_is | rfl)
    (case g_NoneLed => first | k_is | rfl)
    (case x_NoneLed => first | k_exc | k_is | rfl)
    (case k_NoneLed => first | k_is | rfl)
    (case b_NoneLed => first | k_is | rfl)
    (case t_NoneLed => first | k_is | rfl)
    (case g_NotFull => first | k_is | rfl)
    (case x_NotFull => first | k_exc | k_is | rfl)
    (case k_NotFull => first | k_is | rfl)
    (case b_NotFull => first | k_is | rfl)
    (case t_NotFull => first | k_is | rfl)
    (case g_NotRight => first | k_is | rfl)
    (case x_NotRight => first | k_exc | k_is | rfl)
    (case k_NotRight => first | k_is | rfl)
    (case b_NotRight => first | k_is | rfl)
    (case t_NotRight => first | k_is | rfl)
    (case g_NotStraight => first | k_is | rfl)
    (case x_NotStraight => first | k_exc | k_is | rfl)
    (case k_NotStraight => first | k_is | rfl)
    (case b_NotStraight => first | k_is | rfl)
    (case t_NotStraight => first | k_is | rfl)
    (case g_NotStrong => first | k_is | rfl)
    (case x_NotStrong => first | k_exc | k_is | rfl)
    (case k_NotStrong => first | k_is | rfl)
    (case b_NotStrong => first | k_is | rfl)
    (case t_NotStrong => first | k_is | rfl)
    (case g_NothingDone => first | k_is | rfl)
    (case x_NothingDone => first | k_exc | k_is | rfl)
    (case k_NothingDone => first | k_is | rfl)
    (case b_NothingDone => first | k_is | rfl)
    (case t_NothingDone => first | k_is | rfl)
    (case g_OtherSize => first | k_is | rfl)
    (case x_OtherSize => first | k_exc | k_is | rfl)
    (case k_OtherSize => first | k_is | rfl)
    (case b_OtherSize => first | k_is | rfl)
    (case t_OtherSize => first | k_is | rfl)
    (case g_Over => first | k_is | rfl)
    (case x_Over => first | k_exc | k_is | rfl)
    (case k_Over => first | k_is | rfl)
    (case b_Over => first | k_is | rfl)
    (case t_Over => first | k_is | rfl)
    (case g_TooLarge => first | k_is | rfl)
    (case k_TooLarge => first | k_is | rfl)
    (case b_TooLarge => first | k_is | rfl)
    (case t_TooLarge => first | k_is | rfl)
    (case g_TooSmall => first | k_is | rfl)
    (case k_TooSmall => first | k_is | rfl)
    (case b_TooSmall => first | k_is | rfl)
    (case t_TooSmall => first | k_is | rfl)
    (case hn => first | k_is | rfl)
    (case ht => first | k_is | rfl)
    (case eg_BadCode => first | k_is | rfl)
    (case ek_BadCode => first | k_is | rfl)
    (case eh_BadCode => first | k_is | rfl)
    (case ea_BadCode => first | k_is | rfl)
    (case em_BadCode => first | k_is | rfl)
    (case ec_BadCode => first | k_is | rfl)
    (case r_BadCode => first | k_is | rfl)
    (case eg_BadMachine => first | k_is | rfl)
    (case ek_BadMachine => first | k_is | rfl)
    (case eh_BadMachine => first | k_is | rfl)
    (case ea_BadMachine => first | k_is | rfl)
    (case em_BadMachine => first | k_is | rfl)
    (case ec_BadMachine => first | k_is | rfl)
    (case r_BadMachine => first | k_is | rfl)
    (case eg_BadNeed => first | k_is | rfl)
    (case ek_BadNeed => first | k_is | rfl)
    (case eh_BadNeed => first | k_is | rfl)
    (case ea_BadNeed => first | k_is | rfl)
    (case em_BadNeed => first | k_is | rfl)
    (case ec_BadNeed => first | k_is | rfl)
    (case r_BadNeed => first | k_is | rfl)
    (case eg_BadProgram => first | k_is | rfl)
    (case ek_BadProgram => first | k_is | rfl)
    (case eh_BadProgram => first | k_is | rfl)
    (case ea_BadProgram => first | k_is | rfl)
    (case em_BadProgram => first | k_is | rfl)
    (case ec_BadProgram => first | k_is | rfl)
    (case r_BadProgram => first | k_is | rfl)
    (case eg_BadText => first | k_is | rfl)
    (case ek_BadText => first | k_is | rfl)
    (case eh_BadText => first | k_is | rfl)
    (case ea_BadText => first | k_is | rfl)
    (case em_BadText => first | k_is | rfl)
    (case ec_BadText => first | k_is | rfl)
    (case r_BadText => first | k_is | rfl)
    (case eg_BeltsError => first | k_is | rfl)
    (case ek_BeltsError => first | k_is | rfl)
    (case eh_BeltsError => first | k_is | rfl)
    (case ea_BeltsError => first | k_is | rfl)
    (case em_BeltsError => first | k_is | rfl)
    (case ec_BeltsError => first | k_is | rfl)
    (case eg_Faulty => first | k_is | rfl)
    (case ek_Faulty => first | k_is | rfl)
    (case eh_Faulty => first | k_is | rfl)
    (case ea_Faulty => first | k_is | rfl)
    (case em_Faulty => first | k_is | rfl)
    (case ec_Faulty => first | k_is | rfl)
    (case r_Faulty => first | k_is | rfl)
    (case eg_NoBelt => first | k_is | rfl)
    (case ek_NoBelt => first | k_is | rfl)
    (case eh_NoBelt => first | k_is | rfl)
    (case ea_NoBelt => first | k_is | rfl)
    (case em_NoBelt => first | k_is | rfl)
    (case ec_NoBelt => first | k_is | rfl)
    (case r_NoBelt => first | k_is | rfl)
    (case eg_NoCarries => first | k_is | rfl)
    (case ek_NoCarries => first | k_is | rfl)
    (case eh_NoCarries => first | k_is | rfl)
    (case ea_NoCarries => first | k_is | rfl)
    (case em_NoCarries => first | k_is | rfl)
    (case ec_NoCarries => first | k_is | rfl)
    (case r_NoCarries => first | k_is | rfl)
    (case eg_NoHolding => first | k_is | rfl)
    (case ek_NoHolding => first | k_is | rfl)
    (case eh_NoHolding => first | k_is | rfl)
    (case ea_NoHolding => first | k_is | rfl)
    (case em_NoHolding => first | k_is | rfl)
    (case ec_NoHolding => first | k_is | rfl)
    (case r_NoHolding => first | k_is | rfl)
    (case eg_NoLine => first | k_is | rfl)
    (case ek_NoLine => first | k_is | rfl)
    (case eh_NoLine => first | k_is | rfl)
    (case ea_NoLine => first | k_is | rfl)
    (case em_NoLine => first | k_is | rfl)
    (case ec_NoLine => first | k_is | rfl)
    (case r_NoLine => first | k_is | rfl)
    (case eg_NoName => first | k_is | rfl)
    (case ek_NoName => first | k_is | rfl)
    (case eh_NoName => first | k_is | rfl)
    (case ea_NoName => first | k_is | rfl)
    (case em_NoName => first | k_is | rfl)
    (case ec_NoName => first | k_is | rfl)
    (case r_NoName => first | k_is | rfl)
    (case eg_NoNames => first | k_is | rfl)
    (case ek_NoNames => first | k_is | rfl)
    (case eh_NoNames => first | k_is | rfl)
    (case ea_NoNames => first | k_is | rfl)
    (case em_NoNames => first | k_is | rfl)
    (case ec_NoNames => first | k_is | rfl)
    (case r_NoNames => first | k_is | rfl)
    (case eg_NoNumber => first | k_is | rfl)
    (case ek_NoNumber => first | k_is | rfl)
    (case eh_NoNumber => first | k_is | rfl)
    (case ea_NoNumber => first | k_is | rfl)
    (case em_NoNumber => first | k_is | rfl)
    (case ec_NoNumber => first | k_is | rfl)
    (case r_NoNumber => first | k_is | rfl)
    (case eg_NoPlace => first | k_is | rfl)
    (case ek_NoPlace => first | k_is | rfl)
    (case eh_NoPlace => first | k_is | rfl)
    (case ea_NoPlace => first | k_is | rfl)
    (case em_NoPlace => first | k_is | rfl)
    (case ec_NoPlace => first | k_is | rfl)
    (case r_NoPlace => first | k_is | rfl)
    (case eg_NoRing => first | k_is | rfl)
    (case ek_NoRing => first | k_is | rfl)
    (case eh_NoRing => first | k_is | rfl)
    (case ea_NoRing => first | k_is | rfl)
    (case em_NoRing => first | k_is | rfl)
    (case ec_NoRing => first | k_is | rfl)
    (case r_NoRing => first | k_is | rfl)
    (case eg_NoRoute => first | k_is | rfl)
    (case ek_NoRoute => first | k_is | rfl)
    (case eh_NoRoute => first | k_is | rfl)
    (case ea_NoRoute => first | k_is | rfl)
    (case em_NoRoute => first | k_is | rfl)
    (case ec_NoRoute => first | k_is | rfl)
    (case r_NoRoute => first | k_is | rfl)
    (case eg_NoSeating => first | k_is | rfl)
    (case ek_NoSeating => first | k_is | rfl)
    (case eh_NoSeating => first | k_is | rfl)
    (case ea_NoSeating => first | k_is | rfl)
    (case em_NoSeating => first | k_is | rfl)
    (case ec_NoSeating => first | k_is | rfl)
    (case r_NoSeating => first | k_is | rfl)
    (case eg_NoWalk => first | k_is | rfl)
    (case ek_NoWalk => first | k_is | rfl)
    (case eh_NoWalk => first | k_is | rfl)
    (case ea_NoWalk => first | k_is | rfl)
    (case em_NoWalk => first | k_is | rfl)
    (case ec_NoWalk => first | k_is | rfl)
    (case r_NoWalk => first | k_is | rfl)
    (case eg_NoWay => first | k_is | rfl)
    (case ek_NoWay => first | k_is | rfl)
    (case eh_NoWay => first | k_is | rfl)
    (case ea_NoWay => first | k_is | rfl)
    (case em_NoWay => first | k_is | rfl)
    (case ec_NoWay => first | k_is | rfl)
    (case r_NoWay => first | k_is | rfl)
    (case eg_NoneLed => first | k_is | rfl)
    (case ek_NoneLed => first | k_is | rfl)
    (case eh_NoneLed => first | k_is | rfl)
    (case ea_NoneLed => first | k_is | rfl)
    (case em_NoneLed => first | k_is | rfl)
    (case ec_NoneLed => first | k_is | rfl)
    (case r_NoneLed => first | k_is | rfl)
    (case eg_NotFull => first | k_is | rfl)
    (case ek_NotFull => first | k_is | rfl)
    (case eh_NotFull => first | k_is | rfl)
    (case ea_NotFull => first | k_is | rfl)
    (case em_NotFull => first | k_is | rfl)
    (case ec_NotFull => first | k_is | rfl)
    (case r_NotFull => first | k_is | rfl)
    (case eg_NotRight => first | k_is | rfl)
    (case ek_NotRight => first | k_is | rfl)
    (case eh_NotRight => first | k_is | rfl)
    (case ea_NotRight => first | k_is | rfl)
    (case em_NotRight => first | k_is | rfl)
    (case ec_NotRight => first | k_is | rfl)
    (case r_NotRight => first | k_is | rfl)
    (case eg_NotStraight => first | k_is | rfl)
    (case ek_NotStraight => first | k_is | rfl)
    (case eh_NotStraight => first | k_is | rfl)
    (case ea_NotStraight => first | k_is | rfl)
    (case em_NotStraight => first | k_is | rfl)
    (case ec_NotStraight => first | k_is | rfl)
    (case r_NotStraight => first | k_is | rfl)
    (case eg_NotStrong => first | k_is | rfl)
    (case ek_NotStrong => first | k_is | rfl)
    (case eh_NotStrong => first | k_is | rfl)
    (case ea_NotStrong => first | k_is | rfl)
    (case em_NotStrong => first | k_is | rfl)
    (case ec_NotStrong => first | k_is | rfl)
    (case r_NotStrong => first | k_is | rfl)
    (case eg_NothingDone => first | k_is | rfl)
    (case ek_NothingDone => first | k_is | rfl)
    (case eh_NothingDone => first | k_is | rfl)
    (case ea_NothingDone => first | k_is | rfl)
    (case em_NothingDone => first | k_is | rfl)
    (case ec_NothingDone => first | k_is | rfl)
    (case r_NothingDone => first | k_is | rfl)
    (case eg_OtherSize => first | k_is | rfl)
    (case ek_OtherSize => first | k_is | rfl)
    (case eh_OtherSize => first | k_is | rfl)
    (case ea_OtherSize => first | k_is | rfl)
    (case em_OtherSize => first | k_is | rfl)
    (case ec_OtherSize => first | k_is | rfl)
    (case r_OtherSize => first | k_is | rfl)
    (case eg_Over => first | k_is | rfl)
    (case ek_Over => first | k_is | rfl)
    (case eh_Over => first | k_is | rfl)
    (case ea_Over => first | k_is | rfl)
    (case em_Over => first | k_is | rfl)
    (case ec_Over => first | k_is | rfl)
    (case r_Over => first | k_is | rfl)
    (case eg_TooLarge => first | k_is | rfl)
    (case ek_TooLarge => first | k_is | rfl)
    (case eh_TooLarge => first | k_is | rfl)
    (case ea_TooLarge => first | k_is | rfl)
    (case em_TooLarge => first | k_is | rfl)
    (case ec_TooLarge => first | k_is | rfl)
    (case r_TooLarge => first | k_is | rfl)
    (case eg_TooSmall => first | k_is | rfl)
    (case ek_TooSmall => first | k_is | rfl)
    (case eh_TooSmall => first | k_is | rfl)
    (case ea_TooSmall => first | k_is | rfl)
    (case em_TooSmall => first | k_is | rfl)
    (case ec_TooSmall => first | k_is | rfl)
    (case r_TooSmall => first | k_is | rfl)
    (case nd => decide +kernel)
    (case ox_BadCode => first | k_is | rfl)
    (case sa_BadCode => first | k_is | rfl)
    (case oi_BadCode => first | k_is | rfl)
    (case ot_BadCode => first | k_is | rfl)
    (case ox_BadProgram => first | k_is | rfl)
    (case sa_BadProgram => first | k_is | rfl)
    (case oi_BadProgram => first | k_is | rfl)
    (case ot_BadProgram => first | k_is | rfl)
    (case ox_BadText => first | k_is | rfl)
    (case sa_BadText => first | k_is | rfl)
    (case oi_BadText => first | k_is | rfl)
    (case ot_BadText => first | k_is | rfl)
    (case ox_Faulty => first | k_is | rfl)
    (case sa_Faulty => first | k_is | rfl)
    (case oi_Faulty => first | k_is | rfl)
    (case ot_Faulty => first | k_is | rfl)
    (case ox_NoName => first | k_is | rfl)
    (case sa_NoName => first | k_is | rfl)
    (case oi_NoName => first | k_is | rfl)
    (case ot_NoName => first | k_is | rfl)
    (case ox_TooLarge => first | k_is | rfl)
    (case sa_TooLarge => first | k_is | rfl)
    (case oi_TooLarge => first | k_is | rfl)
    (case ot_TooLarge => first | k_is | rfl)
    (case ox_TooSmall => first | k_is | rfl)
    (case sa_TooSmall => first | k_is | rfl)
    (case oi_TooSmall => first | k_is | rfl)
    (case ot_TooSmall => first | k_is | rfl)
    (case ho_BadCode_part => first | k_is | rfl)
    (case ho_BadProgram_part => first | k_is | rfl)
    (case ho_BadText_line => first | k_is | rfl)
    (case ho_Faulty_name => first | k_is | rfl)
    (case ho_Faulty_place => first | k_is | rfl)
    (case ho_NoName_name => first | k_is | rfl)
    (case ho_TooLarge_most => first | k_is | rfl)
    (case ho_TooSmall_least => first | k_is | rfl)
    (case h_BeltsError => first | k_is | rfl)
    (case h_Over => first | k_is | rfl)
    (case s_BadProgram_BeltsError => first | k_is | rfl)
    (case s_BadProgram_Over => first | k_is | rfl)
    (case s_BeltsError_BeltsError => first | k_is | rfl)
    (case s_BeltsError_Over => first | k_is | rfl)
    (case s_NothingDone_BeltsError => first | k_is | rfl)
    (case s_NothingDone_Over => first | k_is | rfl)
    (case s_Over_BeltsError => first | k_is | rfl)
    (case s_Over_Over => first | k_is | rfl)
    (case l0 => first | k_is | rfl)
    (case i0 => first | k_is | rfl)
    (case k0 => first | k_is | rfl)
    (case l1 => first | k_is | rfl)
    (case i1 => first | k_is | rfl)
    (case k1 => first | k_is | rfl)
    (case l2 => first | k_is | rfl)
    (case i2 => first | k_is | rfl)
    (case k2 => first | k_is | rfl)
    (case l3 => first | k_is | rfl)
    (case i3 => first | k_is | rfl)
    (case k3 => first | k_is | rfl)
    (case l4 => first | k_is | rfl)
    (case i4 => first | k_is | rfl)
    (case k4 => first | k_is | rfl)
    (case l5 => first | k_is | rfl)
    (case i5 => first | k_is | rfl)
    (case k5 => first | k_is | rfl)
    (case l6 => first | k_is | rfl)
    (case i6 => first | k_is | rfl)
    (case k6 => first | k_is | rfl)
    (case a7 => first | k_is | rfl)
    (case l7 => first | k_is | rfl)
    (case i7 => first | k_is | rfl)
    (case k7 => first | k_is | rfl)
    (case a8 => first | k_is | rfl)
    (case l8 => first | k_is | rfl)
    (case i8 => first | k_is | rfl)
    (case k8 => first | k_is | rfl)
    (case a9 => first | k_is | rfl)
    (case l9 => first | k_is | rfl)
    (case i9 => first | k_is | rfl)
    (case k9 => first | k_is | rfl)
    (case a10 => first | k_is | rfl)
    (case l10 => first | k_is | rfl)
    (case i10 => first | k_is | rfl)
    (case k10 => first | k_is | rfl)
    (case a11 => first | k_is | rfl)
    (case l11 => first | k_is | rfl)
    (case i11 => first | k_is | rfl)
    (case k11 => first | k_is | rfl)
    (case a12 => first | k_is | rfl)
    (case l12 => first | k_is | rfl)
    (case i12 => first | k_is | rfl)
    (case k12 => first | k_is | rfl)
    (case a13 => first | k_is | rfl)
    (case l13 => first | k_is | rfl)
    (case i13 => first | k_is | rfl)
    (case k13 => first | k_is | rfl)
