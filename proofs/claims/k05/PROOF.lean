import PyProof.Rows.All
import Wide.All
import OpenK.AllK
import Wide.FinOn
import HandS.ForMost
import HandS.ForExc
import HandS.CallSlots
import HandS.TryMany
import HandS.ExcField
import HandS.ExcInit
import HandS.IsInst
import HandS.Conv
import HandS.Wide
import HandS.TupAny
import HandS.More
import HandS.Style
import HandS.MakeKw
import HandS.MakeKwOnly
import HandS.Deep
import HandS.EndBits
import HandS.TupMul
import HandS.ExcIs
import PyProof.WalkInts
import PySem.Challenge.RW_heirstamps_k05_counts_joined_and_within
/-! ## PDCore -/
set_option Elab.async false
set_option linter.all false
set_option maxRecDepth 100000
set_option maxHeartbeats 2000000
namespace PD
open PySem PySem.Spec L2

/-! ### values and the store -/
inductive Val where
  | non | bl (b : Bool) | int (i : Int) | str (x : Str) | tup (xs : List Val) | ref (n : Nat) | ty (n : String)
  /-- a list that is only read (the script), by what it holds -/
  | kl (xs : List Val)
inductive Cell where
  | lst (xs : List Val)
abbrev Store := List Cell
structure Exn where
  cls : Nat
  fs : List (Str × Val)
inductive Res (α : Type) where
  | ok (a : α) (S : Store) | exc (e : Exn) (S : Store) | stuck
def Res.bind {α β : Type} (r : Res α) (k : α → Store → Res β) : Res β := match r with
  | .ok a S => k a S
  | .exc e S => .exc e S
  | .stuck => .stuck
abbrev Env := List (Option Val)
abbrev D := Env → Store → Res Val
abbrev DT := Env → Store → Res Bool
abbrev DA := Env → Store → Res (List Val)

/-! ### the relation to the abstract heap -/
/-- a list that is only read -/
def RoL (K : PySem.W.Frag) (H : Hp) (a : Addr) (vs : List V) : Prop :=
  (∃ o, H a = some (.frz o (.lst vs))) ∨ ∃ (o : Obj) (its : Array Value) (n : Nat), K.lookup a = some o ∧ o.cls = .type "list" ∧ o.dict = none ∧ o.data = .seq its n ∧ its.size ≤ sizeLine ∧ Vals vs its.toList
theorem RoL.sq {K : PySem.W.Frag} {H : Hp} {a : Addr} {vs : List V} (h : RoL K H a vs) : SqL K H a vs := by
  rcases h with h | h
  · exact .inl (.inr h)
  · exact .inr h
mutual
inductive RV (K : PySem.W.Frag) (ι : List Addr) (H : Hp) : Val → V → Prop
  | non : RV K ι H .non .non
  | bl (b : Bool) : RV K ι H (.bl b) (.bl b)
  | int (i : Int) : RV K ι H (.int i) (.int i)
  | str (x : Str) : RV K ι H (.str x) (.str x)
  | tup {a : Addr} {xs : List Val} {vs : List V} : SqT K H a vs → RVs K ι H xs vs → RV K ι H (.tup xs) (.ref a)
  | ref {n : Nat} {a : Addr} : ι[n]? = some a → RV K ι H (.ref n) (.ref a)
  | ty (n : String) : RV K ι H (.ty n) (.ty n)
  | kl {a : Addr} {xs : List Val} {vs : List V} : RoL K H a vs → RVs K ι H xs vs → RV K ι H (.kl xs) (.ref a)
inductive RVs (K : PySem.W.Frag) (ι : List Addr) (H : Hp) : List Val → List V → Prop
  | nil : RVs K ι H [] []
  | cons {x : Val} {v : V} {xs : List Val} {vs : List V} : RV K ι H x v → RVs K ι H xs vs → RVs K ι H (x :: xs) (v :: vs)
end
def CellOk (K : PySem.W.Frag) (ι : List Addr) (H : Hp) (a : Addr) : Cell → Prop
  | .lst xs => ∃ vs, RVs K ι H xs vs ∧ H a = some (.lst vs)
structure RH (K : PySem.W.Frag) (ι : List Addr) (H : Hp) (S : Store) : Prop where
  len : ι.length = S.length
  ok : ∀ (n : Nat) (a : Addr) (c : Cell), ι[n]? = some a → S[n]? = some c → CellOk K ι H a c
  nd : ∀ (n m : Nat) (a : Addr), ι[n]? = some a → ι[m]? = some a → n = m
structure Ext (ι : List Addr) (H : Hp) (ι' : List Addr) (H' : Hp) : Prop where
  pre : ι <+: ι'
  fr : ∀ a o, H a = some o → a ∉ ι → H' a = some o
  new : ∀ a, a ∈ ι' → a ∉ ι → H a = none
  tp : ∀ a vs, Rd H a (.tup vs) → Rd H' a (.tup vs)
  fz : ∀ a o u, H a = some (.frz o u) → H' a = some (.frz o u)
def RS (K : PySem.W.Frag) (ι : List Addr) (H : Hp) (ρ : Env) (σ : St) : Prop :=
  ρ.length = σ.length ∧ ∀ (i : Nat) (x : Val), ρ[i]? = some (some x) → ∃ v, σ[i]? = some (some v) ∧ RV K ι H x v

section
variable {K : PySem.W.Frag} {ι ι' ι2 : List Addr} {H H' H2 : Hp} {S S' : Store} {ρ : Env} {σ : St}
theorem Ext.refl : Ext ι H ι H := ⟨List.prefix_refl _, fun _ _ h _ => h, fun _ h n => absurd h n, fun _ _ h => h, fun _ _ _ h => h⟩
theorem Ext.trans (a : Ext ι H ι' H') (b : Ext ι' H' ι2 H2) : Ext ι H ι2 H2 := by
  refine ⟨a.pre.trans b.pre, fun c o h n => ?_, fun c h n => ?_, fun c vs h => b.tp c vs (a.tp c vs h), fun c o u h => b.fz c o u (a.fz c o u h)⟩
  · refine b.fr c o (a.fr c o h n) fun z => ?_
    have := a.new c z n
    rw [h] at this; cases this
  · by_cases z : c ∈ ι'
    · exact a.new c z n
    · have q := b.new c h z
      cases e : H c with
      | none => rfl
      | some o =>
        have := a.fr c o e n
        rw [q] at this; cases this
theorem Ext.get (e : Ext ι H ι' H') {n : Nat} {a : Addr} (h : ι[n]? = some a) : ι'[n]? = some a := by
  obtain ⟨t, rfl⟩ := e.pre
  have hl : n < ι.length := (List.getElem?_eq_some_iff.mp h).1
  rw [List.getElem?_append_left hl]; exact h
theorem Ext.sqT (e : Ext ι H ι' H') {a : Addr} {vs : List V} (h : SqT K H a vs) : SqT K H' a vs := by
  rcases h with h | h
  · exact .inl (e.tp _ _ h)
  · exact .inr h
theorem Ext.roL (e : Ext ι H ι' H') {a : Addr} {vs : List V} (h : RoL K H a vs) : RoL K H' a vs := by
  rcases h with ⟨o, h⟩ | h
  · exact .inl ⟨o, e.fz _ _ _ h⟩
  · exact .inr h
mutual
theorem RV.ext (e : Ext ι H ι' H') : ∀ {x : Val} {v : V}, RV K ι H x v → RV K ι' H' x v
  | _, _, .non => .non
  | _, _, .bl b => .bl b
  | _, _, .int i => .int i
  | _, _, .str x => .str x
  | _, _, .tup h r => .tup (e.sqT h) (RVs.ext e r)
  | _, _, .ref h => .ref (e.get h)
  | _, _, .ty n => .ty n
  | _, _, .kl h r => .kl (e.roL h) (RVs.ext e r)
theorem RVs.ext (e : Ext ι H ι' H') : ∀ {xs : List Val} {vs : List V}, RVs K ι H xs vs → RVs K ι' H' xs vs
  | _, _, .nil => .nil
  | _, _, .cons h r => .cons (RV.ext e h) (RVs.ext e r)
end
theorem RS.ext (e : Ext ι H ι' H') (h : RS K ι H ρ σ) : RS K ι' H' ρ σ := ⟨h.1, fun i x q => by
  obtain ⟨v, a, b⟩ := h.2 i x q
  exact ⟨v, a, b.ext e⟩⟩
theorem RVs.length : ∀ {xs : List Val} {vs : List V}, RVs K ι H xs vs → xs.length = vs.length
  | _, _, .nil => rfl
  | _, _, .cons _ r => by rw [List.length_cons, List.length_cons, RVs.length r]
theorem RVs.append : ∀ {xs ys : List Val} {vs ws : List V}, RVs K ι H xs vs → RVs K ι H ys ws → RVs K ι H (xs ++ ys) (vs ++ ws)
  | _, _, _, _, .nil, s => s
  | _, _, _, _, .cons h r, s => .cons h (RVs.append r s)
theorem RVs.get : ∀ {xs : List Val} {vs : List V} {i : Nat} {x : Val}, RVs K ι H xs vs → xs[i]? = some x → ∃ v, vs[i]? = some v ∧ RV K ι H x v
  | _, _, _, _, .nil, h => by simp at h
  | _, _, 0, _, .cons h _, e => by simp at e; subst e; exact ⟨_, rfl, h⟩
  | _, _, i + 1, _, .cons _ r, e => by
    obtain ⟨v, a, b⟩ := RVs.get (i := i) r (by simpa using e)
    exact ⟨v, by simpa using a, b⟩
theorem RVs.set {x : Val} {v : V} (h : RV K ι H x v) : ∀ {xs : List Val} {vs : List V} (i : Nat), RVs K ι H xs vs → RVs K ι H (xs.set i x) (vs.set i v)
  | _, _, _, .nil => .nil
  | _, _, 0, .cons _ r => .cons h r
  | _, _, i + 1, .cons q r => .cons q (RVs.set h i r)
theorem RVs.take : ∀ {xs : List Val} {vs : List V} (n : Nat), RVs K ι H xs vs → RVs K ι H (xs.take n) (vs.take n)
  | _, _, 0, _ => by simp; exact .nil
  | _, _, n + 1, .nil => .nil
  | _, _, n + 1, .cons h r => .cons h (RVs.take n r)
theorem RVs.drop : ∀ {xs : List Val} {vs : List V} (n : Nat), RVs K ι H xs vs → RVs K ι H (xs.drop n) (vs.drop n)
  | _, _, 0, r => r
  | _, _, n + 1, .nil => .nil
  | _, _, n + 1, .cons _ r => RVs.drop n r
theorem CellOk.ext (e : Ext ι H ι' H') {a : Addr} {c : Cell} (hm : ∀ xs, H a = some (.lst xs) → H' a = some (.lst xs)) (h : CellOk K ι H a c) : CellOk K ι' H' a c := by
  cases c with
  | lst xs => obtain ⟨vs, r, q⟩ := h; exact ⟨vs, r.ext e, hm _ q⟩
/-- a fresh thing that is no cell (a tuple) -/
theorem Ext.fresh {p : Addr} {o : HO} (hp : H p = none) : Ext ι H ι (upd H p o) := by
  have ne : ∀ a u, H a = some u → a ≠ p := fun a u h => ne_of_none h hp
  refine ⟨List.prefix_refl _, fun a u h _ => ?_, fun _ h n => absurd h n, fun a vs h => ?_, fun a u v h => ?_⟩
  · rw [upd_ne (ne a u h)]; exact h
  · rcases h with h | ⟨u, h⟩
    · exact .inl (by rw [upd_ne (ne a _ h)]; exact h)
    · exact .inr ⟨u, by rw [upd_ne (ne a _ h)]; exact h⟩
  · rw [upd_ne (ne a _ h)]; exact h
theorem RH.fresh {p : Addr} {o : HO} (h : RH K ι H S) (hp : H p = none) : RH K ι (upd H p o) S := by
  refine ⟨h.len, fun n a c e1 e2 => (h.ok n a c e1 e2).ext (Ext.fresh hp) fun xs q => ?_, h.nd⟩
  rw [upd_ne (ne_of_none q hp)]; exact q
/-- a new cell -/
theorem Ext.alloc {p : Addr} {o : HO} (hp : H p = none) : Ext ι H (ι ++ [p]) (upd H p o) := by
  have e := Ext.fresh (ι := ι) (o := o) hp
  refine ⟨List.prefix_append _ _, e.fr, fun a h n => ?_, e.tp, e.fz⟩
  rcases List.mem_append.mp h with z | z
  · exact absurd z n
  · rw [List.mem_singleton.mp z]; exact hp
theorem RH.trk (h : RH K ι H S) {a : Addr} (ha : a ∈ ι) : H a ≠ none := fun z => by
  obtain ⟨n, hn, e⟩ := List.mem_iff_getElem.mp ha
  have e1 : ι[n]? = some a := by rw [List.getElem?_eq_getElem hn, e]
  have hs : n < S.length := by rw [← h.len]; exact hn
  have q := h.ok n a _ e1 (List.getElem?_eq_getElem hs)
  cases hc : S[n] with
  | lst xs =>
    rw [hc] at q
    obtain ⟨_, _, q⟩ := q
    rw [z] at q; cases q
theorem get_append_some {α : Type} {l : List α} {y x : α} {n : Nat} (h : (l ++ [y])[n]? = some x) : l[n]? = some x ∨ (n = l.length ∧ y = x) := by
  rcases Nat.lt_trichotomy n l.length with q | q | q
  · rw [List.getElem?_append_left q] at h; exact .inl h
  · subst q
    rw [List.getElem?_append_right (Nat.le_refl _)] at h
    simp at h; exact .inr ⟨rfl, h⟩
  · rw [List.getElem?_eq_none (by simp; omega)] at h; cases h
theorem RH.alloc {p : Addr} {xs : List Val} {vs : List V} (h : RH K ι H S) (hp : H p = none) (r : RVs K ι H xs vs) : RH K (ι ++ [p]) (upd H p (.lst vs)) (S ++ [.lst xs]) := by
  have e := Ext.alloc (ι := ι) (o := HO.lst vs) hp
  refine ⟨by simp [h.len], fun n a c e1 e2 => ?_, fun n m a e1 e2 => ?_⟩
  · rcases get_append_some e1 with e1 | ⟨rfl, rfl⟩
    · rcases get_append_some e2 with e2 | ⟨rfl, rfl⟩
      · refine (h.ok n a c e1 e2).ext e fun xs q => ?_
        rw [upd_ne (ne_of_none q hp)]; exact q
      · exact absurd (List.getElem?_eq_some_iff.mp e1).1 (by rw [h.len]; exact Nat.lt_irrefl _)
    · rcases get_append_some e2 with e2 | ⟨_, rfl⟩
      · exact absurd (List.getElem?_eq_some_iff.mp e2).1 (by rw [h.len]; exact Nat.lt_irrefl _)
      · exact ⟨vs, r.ext e, upd_same⟩
  · rcases get_append_some e1 with e1 | ⟨a1, rfl⟩ <;> rcases get_append_some e2 with e2 | ⟨a2, b2⟩
    · exact h.nd n m a e1 e2
    · exact absurd hp (h.trk (b2 ▸ List.mem_of_getElem? e1))
    · exact absurd hp (h.trk (List.mem_of_getElem? e2))
    · rw [a1, a2]
/-- a cell is written -/
theorem Ext.write {p : Addr} {n : Nat} {vs ws : List V} (hp : ι[n]? = some p) (hl : H p = some (.lst vs)) : Ext ι H ι (upd H p (.lst ws)) := by
  have hm : p ∈ ι := List.mem_of_getElem? hp
  refine ⟨List.prefix_refl _, fun a u h k => ?_, fun _ h n => absurd h n, fun a us h => ?_, fun a u v h => ?_⟩
  · rw [upd_ne (fun z => k (by rw [z]; exact hm))]; exact h
  · rcases h with h | ⟨u, h⟩
    · exact .inl (by rw [upd_ne (ne_of h hl (by intro z; cases z))]; exact h)
    · exact .inr ⟨u, by rw [upd_ne (ne_of h hl (by intro z; cases z))]; exact h⟩
  · rw [upd_ne (ne_of h hl (by intro z; cases z))]; exact h
theorem RH.write {p : Addr} {n : Nat} {xs ys : List Val} {vs ws : List V} (h : RH K ι H S) (hp : ι[n]? = some p) (hs : S[n]? = some (.lst xs)) (hl : H p = some (.lst vs)) (r : RVs K ι H ys ws) :
    RH K ι (upd H p (.lst ws)) (S.set n (.lst ys)) := by
  have e := Ext.write (ws := ws) hp hl
  have hn : n < S.length := (List.getElem?_eq_some_iff.mp hs).1
  refine ⟨by simp [h.len], fun m a c e1 e2 => ?_, h.nd⟩
  by_cases z : n = m
  · subst z
    rw [List.getElem?_set_self hn] at e2; cases e2
    rw [hp] at e1; cases e1
    exact ⟨ws, r.ext e, upd_same⟩
  · rw [List.getElem?_set_ne z] at e2
    have ha : a ≠ p := fun q => z (h.nd n m p hp (by rw [← q]; exact e1))
    refine (h.ok m a c e1 e2).ext e fun xs q => ?_
    rw [upd_ne ha]; exact q
end

/-! ### what is wanted behind a denotation -/
/-- the dict of an error: its fields -/
def XF (K : PySem.W.Frag) (ι : List Addr) (H : Hp) (fs : List (Str × Val)) : Option Addr → Prop
  | none => fs = []
  | some d => fs ≠ [] ∧ ∃ vs : List (Str × V), H d = some (.xd vs) ∧ ∀ f x, fs.lookup f = some x → ∃ v, vs.lookup f = some v ∧ RV K ι H x v
structure Cfg where
  K : PySem.W.Frag
  cv : Nat → Value
section
variable (Γ : Cfg)
def FinX (W : Value → Option Addr → Hp → Prop) (ι : List Addr) (H : Hp) (e : Exn) (S : Store) : Prop :=
  ∀ ι' H' d, Ext ι H ι' H' → RH Γ.K ι' H' S → XF Γ.K ι' H' e.fs d → W (Γ.cv e.cls) d H'
def FinG {α β : Type} (R : List Addr → Hp → α → β → Prop) (W : Value → Option Addr → Hp → Prop) (ι : List Addr) (H : Hp) (Q : β → Hp → Prop) : Res α → Prop
  | .ok x S => ∀ ι' H' v, Ext ι H ι' H' → RH Γ.K ι' H' S → R ι' H' x v → Q v H'
  | .exc e S => FinX Γ W ι H e S
  | .stuck => False
abbrev Fin (W : Value → Option Addr → Hp → Prop) (ι : List Addr) (H : Hp) (Q : VK) (r : Res Val) : Prop := FinG Γ (RV Γ.K) W ι H Q r
abbrev FinT (W : Value → Option Addr → Hp → Prop) (ι : List Addr) (H : Hp) (Q : Bool → Hp → Prop) (r : Res Bool) : Prop := FinG Γ (fun _ _ => Eq) W ι H Q r
abbrev FinA (W : Value → Option Addr → Hp → Prop) (ι : List Addr) (H : Hp) (Q : List V → Hp → Prop) (r : Res (List Val)) : Prop := FinG Γ (RVs Γ.K) W ι H Q r
/-- what a denotation promises, as a reading -/
def TG' {α β : Type} (R : List Addr → Hp → α → β → Prop) (W : WX) (f : Env → Store → Res α) : St → Hp → (β → Hp → Prop) → Prop := fun σ H Q =>
  ∃ ι ρ S, RS Γ.K ι H ρ σ ∧ RH Γ.K ι H S ∧ FinG Γ R (fun c d H' => W c d σ H') ι H Q (f ρ S)
abbrev TD (W : WX) (f : D) : TE := TG' Γ (RV Γ.K) W f
abbrev TDT (W : WX) (f : DT) : TT := TG' Γ (fun _ _ => Eq) W f
abbrev TDA (W : WX) (f : DA) : TA := TG' Γ (RVs Γ.K) W f
end
section
variable {Γ : Cfg} {α β γ δ : Type} {R : List Addr → Hp → α → β → Prop} {R2 : List Addr → Hp → γ → δ → Prop} {W : Value → Option Addr → Hp → Prop} {ι ι' : List Addr} {H H' : Hp}
theorem FinG.weak {Q : β → Hp → Prop} {r : Res α} (e : Ext ι H ι' H') (h : FinG Γ R W ι H Q r) : FinG Γ R W ι' H' Q r := by
  cases r with
  | ok x S => exact fun ι2 H2 v e2 a b => h ι2 H2 v (e.trans e2) a b
  | exc x S => exact fun ι2 H2 d e2 a b => h ι2 H2 d (e.trans e2) a b
  | stuck => exact h
theorem FinG.bind {Q : δ → Hp → Prop} {Q' : β → Hp → Prop} {r : Res α} {k : α → Store → Res γ} (h : FinG Γ R2 W ι H Q (r.bind k))
    (hk : ∀ x S1 ι1 H1 v, Ext ι H ι1 H1 → RH Γ.K ι1 H1 S1 → R ι1 H1 x v → FinG Γ R2 W ι1 H1 Q (k x S1) → Q' v H1) : FinG Γ R W ι H Q' r := by
  cases r with
  | ok x S => exact fun ι1 H1 v e a b => hk x S ι1 H1 v e a b (FinG.weak e h)
  | exc x S => exact h
  | stuck => exact h
/-- a value at once -/
theorem FinG.here {Q : β → Hp → Prop} {x : α} {v : β} {S : Store} (h : FinG Γ R W ι H Q (.ok x S)) (a : RH Γ.K ι H S) (b : R ι H x v) : Q v H := h ι H v .refl a b
end
theorem _root_.L2.PE.imp {X : Cx} {e : Expr} {t t' : TE} (h : PE X e t) (q : ∀ σ H Q, t' σ H Q → t σ H Q) : PE X e t' := ⟨fun pins s σ H Q I hw => h.run pins s σ H Q I (q _ _ _ hw)⟩
theorem _root_.L2.PT.imp {X : Cx} {e : Expr} {t t' : TT} (h : PT X e t) (q : ∀ σ H Q, t' σ H Q → t σ H Q) : PT X e t' := ⟨fun pins s σ H Q I hw => h.run pins s σ H Q I (q _ _ _ hw)⟩
theorem _root_.L2.PW.imp {X : Cx} {e : Expr} {t t' : TT} (h : PW X e t) (q : ∀ σ H Q, t' σ H Q → t σ H Q) : PW X e t' := ⟨fun wh pins s σ H Q I hw => h.run wh pins s σ H Q I (q _ _ _ hw)⟩
theorem _root_.L2.PA.imp {X : Cx} {es : List Expr} {t t' : TA} (h : PA X es t) (q : ∀ σ H Q, t' σ H Q → t σ H Q) : PA X es t' := ⟨fun pos pins s σ H Q I hw => h.run pos pins s σ H Q I (q _ _ _ hw)⟩
theorem _root_.L2.PS.imp {X : Cx} {e : Stmt} {t t' : TS} (h : PS X e t) (q : ∀ D σ H, t' D σ H → t D σ H) : PS X e t' := ⟨fun pins s σ H D I hw => h.run pins s σ H D I (q _ _ _ hw)⟩
theorem _root_.L2.PSs.imp {X : Cx} {e : List Stmt} {t t' : TS} (h : PSs X e t) (q : ∀ D σ H, t' D σ H → t D σ H) : PSs X e t' := ⟨fun pins s σ H D I hw => h.run pins s σ H D I (q _ _ _ hw)⟩
end PD

/-! ## PDRules -/
set_option Elab.async false
set_option linter.all false
set_option maxRecDepth 100000
set_option maxHeartbeats 2000000
namespace PD
open PySem PySem.Spec L2

/-! ### expressions -/
def dVar (i : Nat) : D := fun ρ S => match ρ[i]? with
  | some (some v) => .ok v S
  | _ => .stuck
def dC (v : Val) : D := fun _ S => .ok v S
abbrev Op2 := Val → Val → Store → Res Val
def dOp (o : Op2) (f g : D) : D := fun ρ S => (f ρ S).bind fun x S1 => (g ρ S1).bind fun y S2 => o x y S2
def dUn (o : Val → Store → Res Val) (f : D) : D := fun ρ S => (f ρ S).bind fun x S1 => o x S1
def aNil : DA := fun _ S => .ok [] S
def aCons (f : D) (g : DA) : DA := fun ρ S => (f ρ S).bind fun x S1 => (g ρ S1).bind fun xs S2 => .ok (x :: xs) S2
def dTup (g : DA) : D := fun ρ S => (g ρ S).bind fun xs S1 => if xs.length ≤ 16777216 then .ok (.tup xs) S1 else .stuck
def dLst (g : DA) : D := fun ρ S => (g ρ S).bind fun xs S1 => if xs.length ≤ 16777216 then .ok (.ref S1.length) (S1 ++ [.lst xs]) else .stuck
/-- a def, a built-in: of the values of its arguments -/
abbrev Fn := List Val → Store → Res Val
def dCall (F : Fn) (g : DA) : D := fun ρ S => (g ρ S).bind fun xs S1 => F xs S1
/-- tests -/
def tVal (f : D) : DT := fun ρ S => (f ρ S).bind fun x S1 => match x with
  | .bl b => .ok b S1
  | _ => .stuck
def tAnd' (f g : DT) : DT := fun ρ S => (f ρ S).bind fun b S1 => if b = true then g ρ S1 else .ok false S1
def tOr' (f g : DT) : DT := fun ρ S => (f ρ S).bind fun b S1 => if b = true then .ok true S1 else g ρ S1
def tNot' (f : DT) : DT := fun ρ S => (f ρ S).bind fun b S1 => .ok (!b) S1
def dAnd (f g : D) : D := fun ρ S => (f ρ S).bind fun x S1 => match x with
  | .bl true => g ρ S1
  | .bl false => .ok (.bl false) S1
  | _ => .stuck
def dOr (f g : D) : D := fun ρ S => (f ρ S).bind fun x S1 => match x with
  | .bl true => .ok (.bl true) S1
  | .bl false => g ρ S1
  | _ => .stuck
def dNot (f : D) : D := fun ρ S => (f ρ S).bind fun x S1 => match x with
  | .bl b => .ok (.bl (!b)) S1
  | _ => .stuck
def dIf (t : DT) (f g : D) : D := fun ρ S => (t ρ S).bind fun b S1 => if b = true then f ρ S1 else g ρ S1

section
variable {X : Cx} {cv : Nat → Value} {W : WX} {e a b : Expr} {es rest : List Expr} {pos : Pos}
abbrev Gm (X : Cx) (cv : Nat → Value) : Cfg := ⟨X.K, cv⟩
theorem pd_var {i : Nat} (h : PE X e (L2.tVar i)) : PE X e (TD (Gm X cv) W (dVar i)) := h.imp fun σ H Q ⟨ι, ρ, S, hs, hh, q⟩ => by
  unfold dVar at q
  split at q
  · rename_i v e1
    obtain ⟨u, e2, r⟩ := hs.2 i v e1
    exact ⟨u, e2, q.here hh r⟩
  · exact q.elim
theorem pd_c {v : Val} {u : V} (h : PE X e (L2.tC u)) (r : ∀ ι H, RV X.K ι H v u) : PE X e (TD (Gm X cv) W (dC v)) := h.imp fun σ H Q ⟨ι, ρ, S, hs, hh, q⟩ => q.here hh (r ι H)
theorem pd_int {i j pos} : PE X (.Constant (.int i) j pos) (TD (Gm X cv) W (dC (.int i))) := pd_c pe_int fun _ _ => .int i
theorem pd_bl {i j pos} : PE X (.Constant (.bool i) j pos) (TD (Gm X cv) W (dC (.bl i))) := pd_c pe_bl fun _ _ => .bl i
theorem pd_str {i j pos} : PE X (.Constant (.str i) j pos) (TD (Gm X cv) W (dC (.str i))) := pd_c pe_str fun _ _ => .str i
theorem pd_non {j pos} : PE X (.Constant .none j pos) (TD (Gm X cv) W (dC .non)) := pd_c pe_non fun _ _ => .non

/-- what a value-level operation must be for a rule -/
def OK2 (K : PySem.W.Frag) (r : L2.R2) (o : Op2) : Prop := ∀ (cv : Nat → Value) (ι : List Addr) (H : Hp) (S : Store) (x y : Val) (u v : V) (W : Value → Option Addr → Hp → Prop) (Q : VK),
  RH K ι H S → RV K ι H x u → RV K ι H y v → Fin ⟨K, cv⟩ W ι H Q (o x y S) → r u v H Q
def OK1 (K : PySem.W.Frag) (r : V → Hp → VK → Prop) (o : Val → Store → Res Val) : Prop := ∀ (cv : Nat → Value) (ι : List Addr) (H : Hp) (S : Store) (x : Val) (u : V) (W : Value → Option Addr → Hp → Prop) (Q : VK),
  RH K ι H S → RV K ι H x u → Fin ⟨K, cv⟩ W ι H Q (o x S) → r u H Q
def OKA (K : PySem.W.Frag) (r : List V → Hp → VK → Prop) (o : Fn) : Prop := ∀ (cv : Nat → Value) (ι : List Addr) (H : Hp) (S : Store) (xs : List Val) (us : List V) (W : Value → Option Addr → Hp → Prop) (Q : VK),
  RH K ι H S → RVs K ι H xs us → Fin ⟨K, cv⟩ W ι H Q (o xs S) → r us H Q
theorem pd_two {f g : D} {r : L2.R2} {o : Op2} (ho : OK2 X.K r o) {σ : L2.St} {H : Hp} {Q : VK} (h : TD (Gm X cv) W (dOp o f g) σ H Q) : tOp r (TD (Gm X cv) W f) (TD (Gm X cv) W g) σ H Q := by
  obtain ⟨ι, ρ, S, hs, hh, q⟩ := h
  refine ⟨ι, ρ, S, hs, hh, FinG.bind q fun x S1 ι1 H1 u e1 h1 r1 q1 => ?_⟩
  refine ⟨ι1, ρ, S1, hs.ext e1, h1, FinG.bind q1 fun y S2 ι2 H2 v e2 h2 r2 q2 => ?_⟩
  exact ho cv ι2 H2 S2 x y u v _ Q h2 (r1.ext e2) r2 q2
theorem pd_op {op : Operator} {f g : D} {r : L2.R2} {o : Op2} (hr : OpR X (binaryOp op) r) (ho : OK2 X.K r o) (ha : PE X a (TD (Gm X cv) W f)) (hb : PE X b (TD (Gm X cv) W g)) : PE X (.BinOp a op b pos) (TD (Gm X cv) W (dOp o f g)) :=
  (pe_op hr ha hb).imp fun _ _ _ h => pd_two ho h
theorem pd_un {op : UnaryOp} {f : D} {r : V → Hp → VK → Prop} {o : Val → Store → Res Val} (hr : UnR X (unaryOp op) r) (ho : OK1 X.K r o) (ha : PE X a (TD (Gm X cv) W f)) : PE X (.UnaryOp op a pos) (TD (Gm X cv) W (dUn o f)) :=
  (pe_un hr ha).imp fun σ H Q h => by
    obtain ⟨ι, ρ, S, hs, hh, q⟩ := h
    refine ⟨ι, ρ, S, hs, hh, FinG.bind q fun x S1 ι1 H1 u e1 h1 r1 q1 => ?_⟩
    exact ho cv ι1 H1 S1 x u _ Q h1 r1 q1
theorem pd_cmp {op : CmpOp} {f g : D} {r : L2.R2} {o : Op2} (hr : OpR X (compareOp op) r) (ho : OK2 X.K r o) (ha : PE X a (TD (Gm X cv) W f)) (hb : PE X b (TD (Gm X cv) W g)) (hm : behindInMarks op b = false) : PE X (.Compare a [op] [b] pos) (TD (Gm X cv) W (dOp o f g)) :=
  (pe_cmpR hr ha hb hm).imp fun _ _ _ h => pd_two ho h
theorem pdt_cmp {op : CmpOp} {f g : D} {r : L2.R2} {o : Op2} (hr : OpR X (compareOp op) r) (ho : OK2 X.K r o) (ha : PE X a (TD (Gm X cv) W f)) (hb : PE X b (TD (Gm X cv) W g)) (hm : behindInMarks op b = false) : PT X (.Compare a [op] [b] pos) (TDT (Gm X cv) W (tVal (dOp o f g))) :=
  (pt_cmpR hr ha hb hm).imp fun σ H Q h => by
    obtain ⟨ι, ρ, S, hs, hh, q⟩ := h
    refine pd_two (cv := cv) (W := W) ho ⟨ι, ρ, S, hs, hh, ?_⟩
    refine FinG.bind q fun x S1 ι1 H1 u e1 h1 r1 q1 => ?_
    cases x with
    | bl c => cases r1; exact ⟨c, rfl, q1.here h1 rfl⟩
    | _ => exact q1.elim
/-- a test by the value of an expression -/
theorem pdt_val {f : D} (h : PE X e (TD (Gm X cv) W f)) (he : ∀ whole, isTrue e X.env whole = (do let v ← whole; standAt e.pos; holding [v] (truthy v)) := by intro _; rfl) : PT X e (TDT (Gm X cv) W (tVal f)) :=
  (pt_val h he).imp fun σ H Q h => by
    obtain ⟨ι, ρ, S, hs, hh, q⟩ := h
    refine ⟨ι, ρ, S, hs, hh, ?_⟩
    refine FinG.bind q fun x S1 ι1 H1 u e1 h1 r1 q1 => ?_
    cases x with
    | bl c => cases r1; exact ⟨c, rfl, q1.here h1 rfl⟩
    | _ => exact q1.elim
theorem pdw_one {f : DT} {op} (h : PT X a (TDT (Gm X cv) W f)) (ho : op = BoolOp.And ∨ op = .Or) : PW X (.BoolOp op [a] pos) (TDT (Gm X cv) W f) := by
  rcases ho with rfl | rfl
  · exact pw_and1 h
  · exact pw_or1 h
theorem pdw_and {f g : DT} (ha : PT X a (TDT (Gm X cv) W f)) (hb : PW X (.BoolOp .And (b :: rest) pos) (TDT (Gm X cv) W g)) : PW X (.BoolOp .And (a :: b :: rest) pos) (TDT (Gm X cv) W (tAnd' f g)) :=
  (pw_and ha hb).imp fun σ H Q h => by
    obtain ⟨ι, ρ, S, hs, hh, q⟩ := h
    refine ⟨ι, ρ, S, hs, hh, FinG.bind q fun x S1 ι1 H1 u e1 h1 r1 q1 => ?_⟩
    cases r1
    cases x with
    | true => exact ⟨ι1, ρ, S1, hs.ext e1, h1, q1⟩
    | false => exact q1.here h1 rfl
theorem pdw_or {f g : DT} (ha : PT X a (TDT (Gm X cv) W f)) (hb : PW X (.BoolOp .Or (b :: rest) pos) (TDT (Gm X cv) W g)) : PW X (.BoolOp .Or (a :: b :: rest) pos) (TDT (Gm X cv) W (tOr' f g)) :=
  (pw_or ha hb).imp fun σ H Q h => by
    obtain ⟨ι, ρ, S, hs, hh, q⟩ := h
    refine ⟨ι, ρ, S, hs, hh, FinG.bind q fun x S1 ι1 H1 u e1 h1 r1 q1 => ?_⟩
    cases r1
    cases x with
    | false => exact ⟨ι1, ρ, S1, hs.ext e1, h1, q1⟩
    | true => exact q1.here h1 rfl
theorem pdt_not {f : DT} (h : PT X a (TDT (Gm X cv) W f)) : PT X (.UnaryOp .Not a pos) (TDT (Gm X cv) W (tNot' f)) :=
  (pt_not h).imp fun σ H Q h => by
    obtain ⟨ι, ρ, S, hs, hh, q⟩ := h
    refine ⟨ι, ρ, S, hs, hh, FinG.bind q fun x S1 ι1 H1 u e1 h1 r1 q1 => ?_⟩
    cases r1
    exact q1.here h1 rfl
theorem pd_one {op} {f : D} (h : PE X a (TD (Gm X cv) W f)) : PE X (.BoolOp op [a] pos) (TD (Gm X cv) W f) := pe_one h
theorem pd_and {f g : D} (ha : PE X a (TD (Gm X cv) W f)) (hb : PE X (.BoolOp .And (b :: rest) pos) (TD (Gm X cv) W g)) : PE X (.BoolOp .And (a :: b :: rest) pos) (TD (Gm X cv) W (dAnd f g)) :=
  (pe_and ha hb).imp fun σ H Q h => by
    obtain ⟨ι, ρ, S, hs, hh, q⟩ := h
    refine ⟨ι, ρ, S, hs, hh, FinG.bind q fun x S1 ι1 H1 u e1 h1 r1 q1 => ?_⟩
    cases x with
    | bl c =>
      cases r1
      refine ⟨c, rfl, ?_⟩
      cases c with
      | true => exact ⟨ι1, ρ, S1, hs.ext e1, h1, q1⟩
      | false => exact q1.here h1 (.bl false)
    | _ => exact q1.elim
theorem pd_or {f g : D} (ha : PE X a (TD (Gm X cv) W f)) (hb : PE X (.BoolOp .Or (b :: rest) pos) (TD (Gm X cv) W g)) : PE X (.BoolOp .Or (a :: b :: rest) pos) (TD (Gm X cv) W (dOr f g)) :=
  (pe_or ha hb).imp fun σ H Q h => by
    obtain ⟨ι, ρ, S, hs, hh, q⟩ := h
    refine ⟨ι, ρ, S, hs, hh, FinG.bind q fun x S1 ι1 H1 u e1 h1 r1 q1 => ?_⟩
    cases x with
    | bl c =>
      cases r1
      refine ⟨c, rfl, ?_⟩
      cases c with
      | false => exact ⟨ι1, ρ, S1, hs.ext e1, h1, q1⟩
      | true => exact q1.here h1 (.bl true)
    | _ => exact q1.elim
theorem pd_not {f : D} (ha : PE X a (TD (Gm X cv) W f)) : PE X (.UnaryOp .Not a pos) (TD (Gm X cv) W (dNot f)) :=
  (pe_not ha).imp fun σ H Q h => by
    obtain ⟨ι, ρ, S, hs, hh, q⟩ := h
    refine ⟨ι, ρ, S, hs, hh, FinG.bind q fun x S1 ι1 H1 u e1 h1 r1 q1 => ?_⟩
    cases x with
    | bl c => cases r1; exact ⟨c, rfl, q1.here h1 (.bl _)⟩
    | _ => exact q1.elim
theorem pd_if {t : DT} {f g : D} {c : Expr} (hc : PT X c (TDT (Gm X cv) W t)) (ha : PE X a (TD (Gm X cv) W f)) (hb : PE X b (TD (Gm X cv) W g)) : PE X (.IfExp c a b pos) (TD (Gm X cv) W (dIf t f g)) :=
  (pe_ifExp hc ha hb).imp fun σ H Q h => by
    obtain ⟨ι, ρ, S, hs, hh, q⟩ := h
    refine ⟨ι, ρ, S, hs, hh, FinG.bind q fun x S1 ι1 H1 u e1 h1 r1 q1 => ?_⟩
    cases r1
    cases x with
    | true => exact ⟨ι1, ρ, S1, hs.ext e1, h1, q1⟩
    | false => exact ⟨ι1, ρ, S1, hs.ext e1, h1, q1⟩
/-! ### lists of arguments, displays -/
theorem pda_nil : PA X [] (TDA (Gm X cv) W aNil) := pa_nil.imp fun σ H Q ⟨ι, ρ, S, hs, hh, q⟩ => q.here hh .nil
theorem pda_cons {f : D} {g : DA} (ha : PE X e (TD (Gm X cv) W f)) (hr : PA X es (TDA (Gm X cv) W g)) (hs : starEach (e :: es) X.env = (false, eval e X.env) :: starEach es X.env := by rfl) : PA X (e :: es) (TDA (Gm X cv) W (aCons f g)) :=
  (pa_cons ha hr hs).imp fun σ H Q h => by
    obtain ⟨ι, ρ, S, hs, hh, q⟩ := h
    refine ⟨ι, ρ, S, hs, hh, FinG.bind q fun x S1 ι1 H1 u e1 h1 r1 q1 => ?_⟩
    refine ⟨ι1, ρ, S1, hs.ext e1, h1, FinG.bind q1 fun y S2 ι2 H2 v e2 h2 r2 q2 => ?_⟩
    exact q2.here h2 (.cons (r1.ext e2) r2)
theorem pd_tup {g : DA} {k} (h : PA X es (TDA (Gm X cv) W g)) : PE X (.Tuple es k pos) (TD (Gm X cv) W (dTup g)) :=
  (pe_tup h).imp fun σ H Q h => by
    obtain ⟨ι, ρ, S, hs, hh, q⟩ := h
    refine ⟨ι, ρ, S, hs, hh, FinG.bind q fun xs S1 ι1 H1 us e1 h1 r1 q1 => ?_⟩
    split at q1
    · rename_i hl
      refine ⟨by rw [← r1.length, sizeLine_eq]; exact hl, fun p hp => ?_⟩
      exact q1 _ _ _ (Ext.fresh hp) (h1.fresh hp) (.tup (SqT.of upd_same) (r1.ext (Ext.fresh hp)))
    · exact q1.elim
theorem pd_lst {g : DA} (h : PA X es (TDA (Gm X cv) W g)) : PE X (.List es pos) (TD (Gm X cv) W (dLst g)) :=
  (pe_lst h).imp fun σ H Q h => by
    obtain ⟨ι, ρ, S, hs, hh, q⟩ := h
    refine ⟨ι, ρ, S, hs, hh, FinG.bind q fun xs S1 ι1 H1 us e1 h1 r1 q1 => ?_⟩
    split at q1
    · rename_i hl
      refine ⟨by rw [← r1.length, sizeLine_eq]; exact hl, fun p hp => ?_⟩
      refine q1 _ _ _ (Ext.alloc hp) (h1.alloc hp r1) (.ref ?_)
      rw [← h1.len]; simp
    · exact q1.elim
end
end PD

/-! ## PDStm -/
set_option Elab.async false
set_option linter.all false
set_option maxRecDepth 100000
set_option maxHeartbeats 2000000
namespace PD
open PySem PySem.Spec L2

/-! ### statements -/
inductive SRes where
  | next (ρ : Env) (S : Store) | ret (v : Val) (S : Store) | brk (ρ : Env) (S : Store) | cont (ρ : Env) (S : Store) | exc (e : Exn) (ρ : Env) (S : Store) | stuck
abbrev SD := Env → Store → SRes
def Res.toS {α : Type} (r : Res α) (ρ : Env) (k : α → Store → SRes) : SRes := match r with
  | .ok a S => k a S
  | .exc e S => .exc e ρ S
  | .stuck => .stuck
def SRes.seq (r : SRes) (k : Env → Store → SRes) : SRes := match r with
  | .next ρ S => k ρ S
  | r => r
def FinS (Γ : Cfg) (W : WX) (ι : List Addr) (H : Hp) (D : Ends) : SRes → Prop
  | .next ρ S => ∀ ι' H' σ', Ext ι H ι' H' → RH Γ.K ι' H' S → RS Γ.K ι' H' ρ σ' → D.nx σ' H'
  | .brk ρ S => ∀ ι' H' σ', Ext ι H ι' H' → RH Γ.K ι' H' S → RS Γ.K ι' H' ρ σ' → D.bk σ' H'
  | .cont ρ S => ∀ ι' H' σ', Ext ι H ι' H' → RH Γ.K ι' H' S → RS Γ.K ι' H' ρ σ' → D.ct σ' H'
  | .ret x S => ∀ ι' H' v, Ext ι H ι' H' → RH Γ.K ι' H' S → RV Γ.K ι' H' x v → D.rt v H'
  | .exc e ρ S => ∀ ι' H' σ' d, Ext ι H ι' H' → RH Γ.K ι' H' S → RS Γ.K ι' H' ρ σ' → XF Γ.K ι' H' e.fs d → W (Γ.cv e.cls) d σ' H'
  | .stuck => False
def TSD (Γ : Cfg) (W : WX) (f : SD) : TS := fun D σ H => ∃ ι ρ S, RS Γ.K ι H ρ σ ∧ RH Γ.K ι H S ∧ FinS Γ W ι H D (f ρ S)
section
variable {Γ : Cfg} {W : WX} {ι ι' : List Addr} {H H' : Hp} {D : Ends}
theorem FinS.weak {r : SRes} (e : Ext ι H ι' H') (h : FinS Γ W ι H D r) : FinS Γ W ι' H' D r := by
  cases r with
  | next ρ S => exact fun ι2 H2 v e2 a b => h ι2 H2 v (e.trans e2) a b
  | brk ρ S => exact fun ι2 H2 v e2 a b => h ι2 H2 v (e.trans e2) a b
  | cont ρ S => exact fun ι2 H2 v e2 a b => h ι2 H2 v (e.trans e2) a b
  | ret x S => exact fun ι2 H2 v e2 a b => h ι2 H2 v (e.trans e2) a b
  | exc x ρ S => exact fun ι2 H2 v d e2 a b c => h ι2 H2 v d (e.trans e2) a b c
  | stuck => exact h
theorem FinS.bind {α β : Type} {R : List Addr → Hp → α → β → Prop} {Q' : β → Hp → Prop} {r : Res α} {ρ : Env} {σ : L2.St} {k : α → Store → SRes} (h : FinS Γ W ι H D (r.toS ρ k)) (hs : RS Γ.K ι H ρ σ)
    (hk : ∀ x S1 ι1 H1 v, Ext ι H ι1 H1 → RH Γ.K ι1 H1 S1 → R ι1 H1 x v → FinS Γ W ι1 H1 D (k x S1) → Q' v H1) : FinG Γ R (fun c d H' => W c d σ H') ι H Q' r := by
  cases r with
  | ok x S => exact fun ι1 H1 v e a b => hk x S ι1 H1 v e a b (FinS.weak e h)
  | exc x S => exact fun ι1 H1 d e a b => h ι1 H1 σ d e a (hs.ext e) b
  | stuck => exact h
theorem FinS.next {ρ : Env} {σ : L2.St} {S : Store} (h : FinS Γ W ι H D (.next ρ S)) (a : RH Γ.K ι H S) (b : RS Γ.K ι H ρ σ) : D.nx σ H := h ι H σ .refl a b
theorem FinS.seq {r : SRes} {k : Env → Store → SRes} (h : FinS Γ W ι H D (r.seq k)) : FinS Γ W ι H { D with nx := TSD Γ W k D } r := by
  cases r with
  | next ρ S => exact fun ι1 H1 σ1 e a b => ⟨ι1, ρ, S, b, a, FinS.weak e h⟩
  | _ => exact h
theorem RS.set {K : PySem.W.Frag} {ρ : Env} {σ : L2.St} {x : Val} {v : V} (h : RS K ι H ρ σ) (r : RV K ι H x v) (i : Nat) : RS K ι H (ρ.set i (some x)) (σ.set i (some v)) := by
  refine ⟨by simp [h.1], fun j y e => ?_⟩
  by_cases q : i = j
  · subst q
    by_cases hl : i < ρ.length
    · rw [List.getElem?_set_self hl] at e
      cases e
      exact ⟨v, by rw [List.getElem?_set_self (by rw [← h.1]; exact hl)], r⟩
    · rw [List.getElem?_eq_none (by simp; omega)] at e; cases e
  · rw [List.getElem?_set_ne q] at e
    obtain ⟨u, a, b⟩ := h.2 j y e
    exact ⟨u, by rw [List.getElem?_set_ne q]; exact a, b⟩
end

def sNext : SD := fun ρ S => .next ρ S
def sSeq (f g : SD) : SD := fun ρ S => (f ρ S).seq g
def sIf (t : DT) (f g : SD) : SD := fun ρ S => (t ρ S).toS ρ fun b S1 => if b = true then f ρ S1 else g ρ S1
def sRet (f : D) : SD := fun ρ S => (f ρ S).toS ρ fun x S1 => .ret x S1
def sRetN : SD := fun _ S => .ret .non S
def sDrop (f : D) : SD := fun ρ S => (f ρ S).toS ρ fun _ S1 => .next ρ S1
def sSet (i : Nat) (f : D) : SD := fun ρ S => (f ρ S).toS ρ fun x S1 => .next (ρ.set i (some x)) S1
/-- targets -/
abbrev TgD := Val → Env → Option Env
def gN (i : Nat) : TgD := fun x ρ => some (ρ.set i (some x))
def gTs : List TgD → List Val → Env → Option Env
  | [], [], ρ => some ρ
  | t :: ts, x :: xs, ρ => (t x ρ).bind fun ρ' => gTs ts xs ρ'
  | _, _, _ => none
def gT (ts : List TgD) : TgD := fun x ρ => match x with
  | .tup xs => gTs ts xs ρ
  | _ => none
def sAsg (t : TgD) (f : D) : SD := fun ρ S => (f ρ S).toS ρ fun x S1 => match t x ρ with
  | some ρ' => .next ρ' S1
  | none => .stuck
/-- a, b = x, y -/
def sPar (i j : Nat) (g : DA) : SD := fun ρ S => (g ρ S).toS ρ fun xs S1 => match xs with
  | [x, y] => .next ((ρ.set i (some x)).set j (some y)) S1
  | _ => .stuck
/-- o[i] = e, o a list -/
def ixS (n : Nat) (k : Int) : Option Nat := if 0 ≤ k then (if k < n then some k.toNat else none) else if 0 ≤ k + n then some (k + n).toNat else none
def setAt (o i x : Val) (S : Store) : Option Store := match o, i with
  | .ref n, .int k => match S[n]? with
    | some (.lst xs) => match ixN xs.length k with
      | some j => some (S.set n (.lst (xs.set j x)))
      | none => none
    | _ => none
  | _, _ => none
def sPut (fo fi f : D) : SD := fun ρ S => (f ρ S).toS ρ fun x S1 => (fo ρ S1).toS ρ fun o S2 => (fi ρ S2).toS ρ fun i S3 => match setAt o i x S3 with
  | some S4 => .next ρ S4
  | none => .stuck
/-- a for's body, its outcome -/
def SRes.turn (r : SRes) (k : Env → Store → SRes) : SRes := match r with
  | .next ρ S => k ρ S
  | .cont ρ S => k ρ S
  | .brk ρ S => .next ρ S
  | r => r
/-- over values that stand still (a range, a tuple) -/
def loopV0 (t : TgD) (b : SD) : List Val → SD
  | [], ρ, S => .next ρ S
  | x :: xs, ρ, S => match t x ρ with
    | none => .stuck
    | some ρ1 => (b ρ1 S).turn (loopV0 t b xs)
@[irreducible] def loopV (t : TgD) (b : SD) : List Val → SD := loopV0 t b
theorem loopV_nil {t : TgD} {b : SD} {ρ : Env} {S : Store} : loopV t b [] ρ S = .next ρ S := by unfold loopV; rfl
theorem loopV_cons {t : TgD} {b : SD} {x : Val} {xs : List Val} {ρ : Env} {S : Store} : loopV t b (x :: xs) ρ S = match t x ρ with
    | none => .stuck
    | some ρ1 => (b ρ1 S).turn (loopV t b xs) := by unfold loopV; rfl
def Cell.items : Cell → List Val
  | .lst xs => xs
/-- over a list at n: i turns have been, at most m are left -/
def loopC (n : Nat) (t : TgD) (b : SD) : Nat → Nat → SD
  | 0, i, ρ, S => match S[n]? with
    | some c => if c.items.length ≤ i then .next ρ S else .stuck
    | none => .stuck
  | m + 1, i, ρ, S => match S[n]? with
    | some c => match c.items[i]? with
      | none => .next ρ S
      | some x => match t x ρ with
        | none => .stuck
        | some ρ1 => (b ρ1 S).turn (loopC n t b m (i + 1))
    | none => .stuck
def sForC (f : D) (t : TgD) (b : SD) : SD := fun ρ S => (f ρ S).toS ρ fun x S1 => match x with
  | .ref n => match S1[n]? with
    | some c => loopC n t b c.items.length 0 ρ S1
    | none => .stuck
  | _ => .stuck
def sForT (f : D) (t : TgD) (b : SD) : SD := fun ρ S => (f ρ S).toS ρ fun x S1 => match x with
  | .tup xs => loopV t b xs ρ S1
  | _ => .stuck
def rangeV (lo : Int) (n : Nat) : List Val := (List.range n).map fun (i : Nat) => Val.int (lo + (i : Int))
def sForR (g : DA) (t : TgD) (b : SD) : SD := fun ρ S => (g ρ S).toS ρ fun xs S1 => match xs with
  | [.int j] => if -(2 ^ 62) ≤ j ∧ j < 2 ^ 62 then loopV t b (rangeV 0 j.toNat) ρ S1 else .stuck
  | _ => .stuck

section
variable {X : Cx} {cv : Nat → Value} {W : WX} {e a b c o : Expr} {st : Stmt} {es rest : List Expr} {sts as bs : List Stmt} {pos pos' : Pos}
theorem ps_nil' : PSs X [] (TSD (Gm X cv) W sNext) := pss_nil.imp fun D σ H ⟨ι, ρ, S, hs, hh, q⟩ => q.next hh hs
theorem ps_cons' {f g : SD} (h1 : PS X st (TSD (Gm X cv) W f)) (h2 : PSs X sts (TSD (Gm X cv) W g)) : PSs X (st :: sts) (TSD (Gm X cv) W (sSeq f g)) :=
  (pss_cons h1 h2).imp fun D σ H ⟨ι, ρ, S, hs, hh, q⟩ => ⟨ι, ρ, S, hs, hh, FinS.seq q⟩
theorem ps_one' {f : SD} (h1 : PS X st (TSD (Gm X cv) W f)) : PSs X [st] (TSD (Gm X cv) W f) := pss_one h1
theorem ps_pass' : PS X (.Pass pos) (TSD (Gm X cv) W sNext) := ps_pass.imp fun D σ H ⟨ι, ρ, S, hs, hh, q⟩ => q.next hh hs
theorem ps_if' {t : DT} {f g : SD} (hc : PT X c (TDT (Gm X cv) W t)) (ha : PSs X as (TSD (Gm X cv) W f)) (hb : PSs X bs (TSD (Gm X cv) W g)) : PS X (.If c as bs pos) (TSD (Gm X cv) W (sIf t f g)) :=
  (ps_if hc ha hb).imp fun D σ H ⟨ι, ρ, S, hs, hh, q⟩ => by
    refine ⟨ι, ρ, S, hs, hh, FinS.bind (R := fun _ _ => Eq) q hs fun x S1 ι1 H1 u e1 h1 r1 q1 => ?_⟩
    cases r1
    cases x with
    | true => exact ⟨ι1, ρ, S1, hs.ext e1, h1, q1⟩
    | false => exact ⟨ι1, ρ, S1, hs.ext e1, h1, q1⟩
theorem ps_ret' {f : D} (h : PE X e (TD (Gm X cv) W f)) : PS X (.Return (some e) pos) (TSD (Gm X cv) W (sRet f)) :=
  (ps_ret h).imp fun D σ H ⟨ι, ρ, S, hs, hh, q⟩ => ⟨ι, ρ, S, hs, hh, FinS.bind q hs fun x S1 ι1 H1 u e1 h1 r1 q1 => q1 ι1 H1 u .refl h1 r1⟩
theorem ps_retN' : PS X (.Return none pos) (TSD (Gm X cv) W sRetN) := ps_retN.imp fun D σ H ⟨ι, ρ, S, hs, hh, q⟩ => q ι H .non .refl hh .non
theorem ps_expr' {f : D} (h : PE X e (TD (Gm X cv) W f)) (hs : swapsWith e none pos.line X.env = pure false := by rfl) : PS X (.Expr e pos) (TSD (Gm X cv) W (sDrop f)) :=
  (ps_expr h hs).imp fun D σ H ⟨ι, ρ, S, hs, hh, q⟩ => ⟨ι, ρ, S, hs, hh, FinS.bind q hs fun x S1 ι1 H1 u e1 h1 r1 q1 => q1.next h1 (hs.ext e1)⟩
theorem ps_set' {i : Nat} {x : Str} {f : D} (hN : X.N.Nodup) (hi : X.N[i]? = some x) (hx : Loc X.env.scope x) (he : PE X e (TD (Gm X cv) W f)) (hs : swapsWith e (some (.Name x pos')) pos.line X.env = pure false := by rfl)
    (hf : X.fn x = true ∨ X.env.scope.names.lookup x = some .local := by first | exact .inl rfl | exact .inr rfl | assumption) : PS X (.Assign [.Name x pos'] e pos) (TSD (Gm X cv) W (sSet i f)) :=
  (ps_set hN hi hx he hs hf).imp fun D σ H ⟨ι, ρ, S, hs, hh, q⟩ => ⟨ι, ρ, S, hs, hh, FinS.bind q hs fun x S1 ι1 H1 u e1 h1 r1 q1 => q1.next h1 ((hs.ext e1).set r1 i)⟩
/-- a target does as it says -/
def TgOk (K : PySem.W.Frag) (g : TG) (t : TgD) : Prop := ∀ (ι : List Addr) (H : Hp) (ρ ρ' : Env) (σ : L2.St) (x : Val) (v : V) (Q : L2.St → Hp → Prop),
  RS K ι H ρ σ → RV K ι H x v → t x ρ = some ρ' → (∀ σ', RS K ι H ρ' σ' → Q σ' H) → g v σ H Q
def TgsOk (K : PySem.W.Frag) (g : TGs) (ts : List TgD) : Prop := ∀ (ι : List Addr) (H : Hp) (ρ ρ' : Env) (σ : L2.St) (xs : List Val) (vs : List V) (Q : L2.St → Hp → Prop),
  RS K ι H ρ σ → RVs K ι H xs vs → gTs ts xs ρ = some ρ' → (∀ σ', RS K ι H ρ' σ' → Q σ' H) → g vs σ H Q
theorem tg_name (K : PySem.W.Frag) (i : Nat) : TgOk K (gName i) (gN i) := fun ι H ρ ρ' σ x v Q hs r e h => by
  cases e
  exact h _ (hs.set r i)
theorem tgs_nil (K : PySem.W.Frag) : TgsOk K gNil [] := fun ι H ρ ρ' σ xs vs Q hs r e h => by
  cases r with
  | nil => cases e; exact ⟨rfl, h _ hs⟩
  | cons _ _ => cases e
theorem tgs_cons {K : PySem.W.Frag} {g : TG} {gs : TGs} {t : TgD} {ts : List TgD} (h1 : TgOk K g t) (h2 : TgsOk K gs ts) : TgsOk K (gCons g gs) (t :: ts) := fun ι H ρ ρ' σ xs vs Q hs r e h => by
  cases r with
  | nil => cases e
  | cons r rr =>
    rename_i x v xs vs
    have e' : (t x ρ).bind (fun ρ' => gTs ts xs ρ') = some ρ' := e
    cases q : t x ρ with
    | none => rw [q] at e'; cases e'
    | some ρ1 =>
      rw [q] at e'
      exact ⟨v, vs, rfl, h1 ι H ρ ρ1 σ x v _ hs r q fun σ1 hs1 => h2 ι H ρ1 ρ' σ1 xs vs Q hs1 rr e' h⟩
theorem gTs_length : ∀ {ts : List TgD} {xs : List Val} {ρ ρ' : Env}, gTs ts xs ρ = some ρ' → xs.length = ts.length
  | [], [], _, _, _ => rfl
  | [], _ :: _, _, _, h => nomatch h
  | _ :: _, [], _, _, h => nomatch h
  | t :: ts, x :: xs, ρ, ρ', h => by
    have e' : (t x ρ).bind (fun ρ' => gTs ts xs ρ') = some ρ' := h
    cases q : t x ρ with
    | none => rw [q] at e'; cases e'
    | some ρ1 =>
      rw [q] at e'
      rw [List.length_cons, List.length_cons, gTs_length (show gTs ts xs ρ1 = some ρ' from e')]
theorem tg_tup {K : PySem.W.Frag} {gs : TGs} {ts : List TgD} {n : Nat} (h : TgsOk K gs ts) (hn : ts.length = n) : TgOk K (gTup K n gs) (gT ts) := fun ι H ρ ρ' σ x v Q hs r e hq => by
  cases r with
  | tup ha rr => exact ⟨_, _, rfl, ha, by rw [← rr.length, ← hn]; exact gTs_length e, h ι H ρ ρ' σ _ _ Q hs rr e hq⟩
  | _ => cases e
theorem ps_asg' {tg : Expr} {f : D} {g : TG} {t : TgD} (he : PE X e (TD (Gm X cv) W f)) (hg : PG X tg g) (ht : TgOk X.K g t) (hs : swapsWithSole [tg] e pos.line X.env = pure false := by rfl) (hw : swappedStores [tg] e X.env = pure none := by rfl)
    (h1 : (assignEach [tg] X.env).map (·.2) = [assign tg X.env] := by rfl) : PS X (.Assign [tg] e pos) (TSD (Gm X cv) W (sAsg t f)) :=
  (ps_asg he hg hs hw h1).imp fun D σ H ⟨ι, ρ, S, hs, hh, q⟩ => ⟨ι, ρ, S, hs, hh, FinS.bind q hs fun x S1 ι1 H1 u e1 h1 r1 q1 => by
    split at q1
    · rename_i ρ' e2
      exact ht ι1 H1 ρ ρ' σ x u _ (hs.ext e1) r1 e2 fun σ' hs' => q1.next h1 hs'
    · exact q1.elim⟩
theorem ps_par' {i j : Nat} {x y : Str} {g : DA} {px py pt : Pos} {kt k2 pt2} (hc : X.calm = true) (hN : X.N.Nodup) (hi : X.N[i]? = some x) (hj : X.N[j]? = some y) (hij : i ≠ j)
    (hx : X.env.scope.names.lookup x = some .local) (hy : X.env.scope.names.lookup y = some .local) (ha : PA X [a, b] (TDA (Gm X cv) W g))
    (hw : swappedStores [.Tuple [.Name x px, .Name y py] kt pt] (.Tuple [a, b] k2 pt2) X.env = pure (some [x, y]))
    (hs : swapsWithSole [.Tuple [.Name x px, .Name y py] kt pt] (.Tuple [a, b] k2 pt2) pos.line X.env = pure false := by rfl) :
    PS X (.Assign [.Tuple [.Name x px, .Name y py] kt pt] (.Tuple [a, b] k2 pt2) pos) (TSD (Gm X cv) W (sPar i j g)) :=
  (ps_par hc hN hi hj hij hx hy ha hw hs).imp fun D σ H ⟨ι, ρ, S, hs, hh, q⟩ => ⟨ι, ρ, S, hs, hh, FinS.bind q hs fun xs S1 ι1 H1 us e1 h1 r1 q1 => by
    cases r1 with
    | nil => exact q1.elim
    | cons ra r1 =>
      cases r1 with
      | nil => exact q1.elim
      | cons rb r1 =>
        cases r1 with
        | nil => exact ⟨_, _, rfl, q1.next h1 (((hs.ext e1).set ra i).set rb j)⟩
        | cons _ _ => exact q1.elim⟩
theorem ps_put' {o i : Expr} {fo fi f : D} (he : PE X e (TD (Gm X cv) W f)) (ho : PE X o (TD (Gm X cv) W fo)) (hi : PE X i (TD (Gm X cv) W fi))
    (hs : swapsWithSole [.Subscript o i pos'] e pos.line X.env = pure false := by rfl) (hw : swappedStores [.Subscript o i pos'] e X.env = pure none := by rfl) (h1 : (assignEach [.Subscript o i pos'] X.env).map (·.2) = [assign (.Subscript o i pos') X.env] := by rfl)
    (ha : ∀ v, assign (.Subscript o i pos') X.env v = (do
      let ov ← holding [v] (eval o X.env)
      let iv ← holding [v, ov] (eval i X.env)
      standAt pos'
      holding [v, ov, iv] (setItem ov iv v)
      release [v, ov, iv] []) := by intro _; rfl) : PS X (.Assign [.Subscript o i pos'] e pos) (TSD (Gm X cv) W (sPut fo fi f)) :=
  (ps_asg he (pg_sub ho hi set_list ha) hs hw h1).imp fun D σ H ⟨ι, ρ, S, hs, hh, q⟩ => by
    refine ⟨ι, ρ, S, hs, hh, FinS.bind q hs fun x S1 ι1 H1 u e1 h1 r1 q1 => ?_⟩
    refine ⟨ι1, ρ, S1, hs.ext e1, h1, FinS.bind q1 (hs.ext e1) fun y S2 ι2 H2 v e2 h2 r2 q2 => ?_⟩
    refine ⟨ι2, ρ, S2, (hs.ext e1).ext e2, h2, FinS.bind q2 ((hs.ext e1).ext e2) fun z S3 ι3 H3 w e3 h3 r3 q3 => ?_⟩
    have r1' := (r1.ext e2).ext e3
    have r2' := r2.ext e3
    unfold setAt at q3
    split at q3
    · rename_i S4 e4
      split at e4
      · rename_i n k
        split at e4
        · rename_i xs e5
          split at e4
          · rename_i j e6
            cases e4
            cases r2' with
            | ref hn =>
              cases r3
              obtain ⟨vs, rv, hv⟩ := h3.ok _ _ _ hn e5
              refine ⟨_, vs, k, j, rfl, rfl, hv, by rw [← rv.length]; exact e6, ?_⟩
              have ew := Ext.write (ws := vs.set j u) hn hv
              exact q3 _ _ _ ew (h3.write hn e5 hv (RVs.set r1' j rv)) ((((hs.ext e1).ext e2).ext e3).ext ew)
          · cases e4
        · cases e4
      · cases e4
    · exact q3.elim
/-! ### for -/
theorem CellOk.sq {K : PySem.W.Frag} {ι : List Addr} {H : Hp} {a : Addr} {c : Cell} (h : CellOk K ι H a c) : ∃ vs, RVs K ι H c.items vs ∧ SqL K H a vs := by
  cases c with
  | lst xs => obtain ⟨vs, r, q⟩ := h; exact ⟨vs, r, SqL.of q⟩
theorem sqL_item {K : PySem.W.Frag} {H : Hp} {a : Addr} {vs : List V} {i : Nat} {x : V} (h : SqL K H a vs) (q : ∀ xs, SqL K H a xs → xs[i]? = some x) : vs[i]? = some x := q vs h
/-- what is wanted behind a turn -/
theorem turn_end {Γ : Cfg} {W : WX} {ι : List Addr} {H : Hp} {D : Ends} {N : L2.St → Hp → Prop} {r : SRes} {k : Env → Store → SRes} (h : FinS Γ W ι H D (r.turn k))
    (hk : ∀ ι1 H1 ρ σ S, Ext ι H ι1 H1 → RH Γ.K ι1 H1 S → RS Γ.K ι1 H1 ρ σ → FinS Γ W ι1 H1 D (k ρ S) → N σ H1) : FinS Γ W ι H { D with nx := N, ct := N, bk := D.nx } r := by
  cases r with
  | next ρ S => exact fun ι1 H1 σ1 e a b => hk ι1 H1 ρ σ1 S e a b (FinS.weak e h)
  | cont ρ S => exact fun ι1 H1 σ1 e a b => hk ι1 H1 ρ σ1 S e a b (FinS.weak e h)
  | brk ρ S => exact h
  | ret x S => exact h
  | exc x ρ S => exact h
  | stuck => exact h
theorem ps_forC' {tg iter : Expr} {f : D} {g : TG} {t : TgD} {bd : SD} (hp : PassesOwn (model X.prog X.w) X.A X.env X.xe) (hc : X.calm = true) (he : PE X iter (TD (Gm X cv) W f)) (hg : PG X tg g) (ht : TgOk X.K g t) (hb : PSs X bs (TSD (Gm X cv) W bd)) (hfs : ∀ v, foldedSetIterable iter X.env v = pure v := by intro _; rfl) :
    PS X (.For tg iter bs [] pos) (TSD (Gm X cv) W (sForC f t bd)) :=
  (ps_for hp hc (pi_list he) hg hb hfs).imp fun D σ H ⟨ι, ρ, S, hs, hh, q⟩ => by
    refine ⟨ι, ρ, S, hs, hh, FinS.bind q hs fun x S1 ι1 H1 u e1 h1 r1 q1 => ?_⟩
    cases r1 with
    | ref hn =>
      rename_i n a
      have q1 : FinS (Gm X cv) W ι1 H1 D (match S1[n]? with | some c => loopC n t bd c.items.length 0 ρ S1 | none => .stuck) := q1
      split at q1
      · · rename_i c ec
          obtain ⟨vs, rv, hq⟩ := (h1.ok _ _ _ hn ec).sq
          refine ⟨a, rfl, ⟨vs, hq⟩, fun i m σ H => ∃ ι ρ S, RS X.K ι H ρ σ ∧ RH X.K ι H S ∧ ι[n]? = some a ∧ FinS (Gm X cv) W ι H D (loopC n t bd m i ρ S), ⟨_, ι1, ρ, S1, hs.ext e1, h1, hn, q1⟩, fun i m σ' H' ⟨ι', ρ', S', hs', hh', hn', q'⟩ => ?_⟩
          have stop : ∀ c, S'[n]? = some c → c.items.length ≤ i → FinS (Gm X cv) W ι' H' D (.next ρ' S') → (Itl X.K a).stop i H' ∧ D.nx σ' H' := fun c ec' hl q => by
            obtain ⟨vs', rv', hq'⟩ := (hh'.ok _ _ _ hn' ec').sq
            exact ⟨⟨vs', hq', by rw [← rv'.length]; exact hl⟩, q.next hh' hs'⟩
          cases m with
          | zero =>
            unfold loopC at q'
            split at q'
            · rename_i c' ec'
              split at q'
              · rename_i hl
                exact .inl (stop c' ec' hl q')
              · exact q'.elim
            · exact q'.elim
          | succ m =>
            unfold loopC at q'
            split at q'
            · rename_i c' ec'
              split at q'
              · rename_i en
                exact .inl (stop c' ec' (List.getElem?_eq_none_iff.mp en) q')
              · rename_i x' ex
                obtain ⟨vs', rv', hq'⟩ := (hh'.ok _ _ _ hn' ec').sq
                obtain ⟨v', ev', rx'⟩ := rv'.get ex
                split at q'
                · exact q'.elim
                · rename_i ρ1 eρ
                  refine .inr ⟨⟨vs', v', hq', ev'⟩, fun σ H => ∃ ι ρ S, RS X.K ι H ρ σ ∧ RH X.K ι H S ∧ ι[n]? = some a ∧ FinS (Gm X cv) W ι H D (loopC n t bd m (i + 1) ρ S), fun σ2 H2 h2 => ⟨m, Nat.lt_succ_self m, h2⟩, fun y H2 hy => ?_⟩
                  obtain ⟨rfl, hy⟩ := hy
                  have ey := hy vs' hq'
                  rw [ev'] at ey; cases ey
                  refine ht ι' H2 ρ' ρ1 σ' x' v' _ hs' rx' eρ fun σ2 hs2 => ?_
                  refine ⟨ι', ρ1, S', hs2, hh', turn_end q' fun ι3 H3 ρ3 σ3 S3 e3 a3 b3 c3 => ?_⟩
                  exact ⟨ι3, ρ3, S3, b3, a3, e3.get hn', c3⟩
            · exact q'.elim
      · exact q1.elim
    | _ => exact q1.elim
/-- over values that stand still, given what the turns hand out -/
theorem for_vals {D : Ends} {g : TG} {t : TgD} {bd : SD} {J : It} (ht : TgOk X.K g t) (hb : True) {ι : List Addr} {H : Hp} {ρ : Env} {σ : L2.St} {S : Store} (xs : List Val) (Ok : List Addr → Hp → Prop) (hok : ∀ ι H ι' H', Ok ι H → Ext ι H ι' H' → Ok ι' H')
    (hstop : ∀ ι H, Ok ι H → J.stop xs.length H) (hgo : ∀ ι H i, Ok ι H → i < xs.length → J.go i H) (hy : ∀ ι H i y H', Ok ι H → i < xs.length → J.yld i H y H' → H' = H ∧ ∃ x, xs[i]? = some x ∧ RV X.K ι H x y)
    (hs : RS X.K ι H ρ σ) (hh : RH X.K ι H S) (h0 : Ok ι H) (q : FinS (Gm X cv) W ι H D (loopV t bd xs ρ S)) :
    ∃ W' : Nat → Nat → L2.St → Hp → Prop, (∃ m, W' 0 m σ H) ∧ ∀ i m σ H, W' i m σ H →
      (J.stop i H ∧ D.nx σ H) ∨ (J.go i H ∧ ∃ N : L2.St → Hp → Prop, (∀ σ' H', N σ' H' → ∃ m', m' < m ∧ W' (i + 1) m' σ' H') ∧ ∀ x H', J.yld i H x H' → g x σ H' fun σ2 H2 => TSD (Gm X cv) W bd { D with nx := N, ct := N, bk := D.nx } σ2 H2) := by
  refine ⟨fun i m σ H => i + m = xs.length ∧ ∃ ι ρ S, RS X.K ι H ρ σ ∧ RH X.K ι H S ∧ Ok ι H ∧ FinS (Gm X cv) W ι H D (loopV t bd (xs.drop i) ρ S), ⟨xs.length, Nat.zero_add _, ι, ρ, S, hs, hh, h0, q⟩, fun i m σ' H' ⟨hm, ι', ρ', S', hs', hh', h0', q'⟩ => ?_⟩
  cases m with
  | zero =>
    have : i = xs.length := by omega
    subst this
    rw [List.drop_length, loopV_nil] at q'
    exact .inl ⟨hstop ι' H' h0', q'.next hh' hs'⟩
  | succ m =>
    have hi : i < xs.length := by omega
    rw [List.drop_eq_getElem_cons hi, loopV_cons] at q'
    split at q'
    · exact q'.elim
    · rename_i ρ1 eρ
      refine .inr ⟨hgo ι' H' i h0' hi, fun σ H => ∃ ι ρ S, RS X.K ι H ρ σ ∧ RH X.K ι H S ∧ Ok ι H ∧ FinS (Gm X cv) W ι H D (loopV t bd (xs.drop (i + 1)) ρ S), fun σ2 H2 h2 => ⟨m, Nat.lt_succ_self m, by omega, h2⟩, fun y H2 hyd => ?_⟩
      obtain ⟨rfl, x, ex, rx⟩ := hy ι' H' i y H2 h0' hi hyd
      rw [List.getElem?_eq_getElem hi] at ex
      cases ex
      refine ht ι' H2 ρ' ρ1 σ' _ y _ hs' rx eρ fun σ2 hs2 => ?_
      refine ⟨ι', ρ1, S', hs2, hh', turn_end q' fun ι3 H3 ρ3 σ3 S3 e3 a3 b3 c3 => ?_⟩
      exact ⟨ι3, ρ3, S3, b3, a3, hok _ _ _ _ h0' e3, c3⟩
theorem rangeV_get {lo : Int} {n i : Nat} (h : i < n) : (rangeV lo n)[i]? = some (.int (lo + i)) := by
  unfold rangeV
  rw [List.getElem?_map, List.getElem?_range h]; rfl
theorem rangeV_length (lo : Int) (n : Nat) : (rangeV lo n).length = n := by simp [rangeV]
theorem ps_forR' {tg : Expr} {f : DA} {g : TG} {t : TgD} {bd : SD} {a : Expr} {p pos2 : Pos} (hp : PassesOwn (model X.prog X.w) X.A X.env X.xe) (hc : X.calm = true) (hgl : Gl X "range") (hm : X.mg "range" = none) (he : PA X [a] (TDA (Gm X cv) W f)) (hg : PG X tg g) (ht : TgOk X.K g t) (hb : PSs X bs (TSD (Gm X cv) W bd))
    (hs : starEach [a] X.env = [(false, eval a X.env)] := by rfl) :
    PS X (.For tg (.Call (.Name "range" p) [a] [] pos2) bs [] pos) (TSD (Gm X cv) W (sForR f t bd)) :=
  (ps_for hp hc (pi_range1 hgl hm he hs) hg hb).imp fun D σ H ⟨ι, ρ, S, hs, hh, q⟩ => by
    refine ⟨ι, ρ, S, hs, hh, FinS.bind q hs fun xs S1 ι1 H1 us e1 h1 r1 q1 => ?_⟩
    split at q1
    · rename_i j
      split at q1
      · rename_i hj
        cases r1 with
        | cons r1 r2 =>
          cases r1; cases r2
          refine ⟨j, rfl, hj.1, hj.2, ?_⟩
          refine for_vals ht trivial (rangeV 0 j.toNat) (fun _ _ => True) (fun _ _ _ _ _ _ => trivial) (fun _ _ _ => ?_) (fun _ _ i _ hi => ?_) (fun ι H i y H' _ hi hy => ?_) (hs.ext e1) h1 trivial q1
          · show j.toNat ≤ _; rw [rangeV_length]; exact Nat.le_refl _
          · rw [rangeV_length] at hi; exact hi
          · obtain ⟨rfl, rfl⟩ := hy
            rw [rangeV_length] at hi
            exact ⟨rfl, _, rangeV_get hi, .int _⟩
      · exact q1.elim
    · exact q1.elim
end
end PD

/-! ## PDCall -/
set_option Elab.async false
set_option linter.all false
set_option maxRecDepth 100000
set_option maxHeartbeats 2000000
namespace PD
open PySem PySem.Spec L2

/-! ### defs -/
def fnOf (n m : Nat) (b : SD) : Fn := fun xs S => if xs.length = n then (match b (xs.map some ++ List.replicate (m - n) none) S with
  | .ret v S' => .ok v S'
  | .next _ S' => .ok .non S'
  | .exc e _ S' => .exc e S'
  | _ => .stuck) else .stuck
def stuckF : Fn := fun _ _ => .stuck
def SpecOf (Γ : Cfg) (F : Fn) : Sp := fun vs H Q E => ∃ ι ds S, RVs Γ.K ι H ds vs ∧ RH Γ.K ι H S ∧ FinG Γ (RV Γ.K) E ι H Q (F ds S)
section
variable {P : Program} {w : World} {K : PySem.W.Frag} {mg : Str → Option Value} {base : Heap} {cv : Nat → Value} {f : Addr} {fd : FuncData} {ps : List Str}
/-- a def that keeps its promise wherever no repr of a container is under way -/
structure FnG (P : Program) (w : World) (K : PySem.W.Frag) (mg : Str → Option Value) (base : Heap) (k : Nat) (f : Addr) (fd : FuncData) (ps : List Str) (sp : Sp) : Prop where
  len : ∀ vs H Q E, sp vs H Q E → vs.length = ps.length
  go : ∀ (A : Around) (outer : List PySem.Env) (s : Shared) (H : Hp) (args : Args) (us : List Value) (vs : List V) (Q : VK) (E : XK), A.guards = some [] → Room k A → Env0 P w K mg base A outer s H →
    BindsTo s fd args (ps.zip us) → Vals vs us → sp vs H Q E → codeAny (model P w) A (.call (.ref f) args) (CR (L2.CX P w) outer P w H s Q E) s
theorem FnG.mono {j k : Nat} {sp : Sp} (F : FnG P w K mg base j f fd ps sp) (h : j ≤ k) : FnG P w K mg base k f fd ps sp :=
  ⟨F.len, fun A outer s H args us vs Q E hg hr => F.go A outer s H args us vs Q E hg (hr.mono h)⟩
theorem fn_zero (k : Nat) : FnG P w K mg base k f fd ps (SpecOf ⟨K, cv⟩ stuckF) :=
  ⟨fun _ _ _ _ ⟨_, _, _, _, _, z⟩ => z.elim, fun _ _ _ _ _ _ _ _ _ _ _ _ _ _ ⟨_, _, _, _, _, z⟩ => z.elim⟩
theorem start_rs {ι : List Addr} {H : Hp} {ds : List Val} {vs : List V} {N : List Str} (r : RVs K ι H ds vs) : RS K ι H (ds.map some ++ List.replicate (N.length - ds.length) none) (L2.start N vs) := by
  unfold L2.start
  rw [r.length]
  refine ⟨by simp [r.length], fun i x e => ?_⟩
  by_cases h : i < ds.length
  · rw [List.getElem?_append_left (by simpa using h), List.getElem?_map] at e
    rw [List.getElem?_append_left (by rw [List.length_map, ← r.length]; exact h), List.getElem?_map]
    cases q : ds[i]? with
    | none => rw [q] at e; cases e
    | some y =>
      rw [q] at e; cases e
      obtain ⟨v, a, b⟩ := r.get q
      exact ⟨v, by rw [a]; rfl, b⟩
  · rw [List.getElem?_append_right (by simp; omega), List.getElem?_replicate] at e
    split at e <;> cases e
/-- THE RULE of a def: its body's denotation -/
theorem fn_den {x qual : Str} {st : Stmt} {N : List Str} {k : Nat} {body : SD} (F : Fun K x qual st f fd) (S : FnScope N ps (defScope st))
    (hder : ∀ (cdv : Value) (A : Around) (outer : List PySem.Env) (s : Shared) (H : Hp) (E : XK), A.guards = some [] → Room k (A.deeper (PyProof.Rows.envOfC qual (defScope st) s.heap.objs.size f cdv)) →
      Takes (cxOf (L2.CX P w) P w K mg base N qual (defScope st) f cdv A outer s H E) (fun c d _ H => E c d H) →
      PassesOwn (model P w) (cxOf (L2.CX P w) P w K mg base N qual (defScope st) f cdv A outer s H E).A (cxOf (L2.CX P w) P w K mg base N qual (defScope st) f cdv A outer s H E).env (cxOf (L2.CX P w) P w K mg base N qual (defScope st) f cdv A outer s H E).xe →
      PSs (cxOf (L2.CX P w) P w K mg base N qual (defScope st) f cdv A outer s H E) (defBody st) (TSD ⟨K, cv⟩ (fun c d _ H => E c d H) body)) :
    FnG P w K mg base (k + 1) f fd ps (SpecOf ⟨K, cv⟩ (fnOf ps.length N.length body)) := by
  obtain ⟨oc, od, kV, doc, pm, an, cdv, ct, osl, hfd, lk, hcd⟩ := F.ex
  have leng : ∀ vs H Q E, SpecOf ⟨K, cv⟩ (fnOf ps.length N.length body) vs H Q E → vs.length = ps.length := fun vs H Q E h => by
    obtain ⟨ι, ds, S, r, _, q⟩ := h
    unfold fnOf at q
    split at q
    · rename_i e; rw [← r.length]; exact e
    · exact q.elim
  refine ⟨leng, fun A outer s H args us vs Q E hg hr e0 hb rv hsp => ?_⟩
  subst hfd
  have kk : ∀ b o, base.get? b = some o → s.heap.get? b = some o := fun b o e => (e0.bs b o e).1
  have KX : K.In s.heap := e0.mod.kin.keeps kk
  have kinds : ∀ y ∈ ps.zip us, (defScope st).names.lookup y.1 = some .local ∨ ((defScope st).names.lookup y.1 = some .cell ∧ ((cellsFrom (s.heap.objs.size + 1) (defScope st).names []).lookup y.1).isSome = true) := by
    rintro ⟨n, v⟩ hy
    exact (S.par n (List.of_mem_zip hy).1).elim .inl fun q => .inr ⟨q, PySem.W.cellsFrom_some _ _ _ (.inl q)⟩
  refine codeAny_call_function hr.depth (KX _ _ lk) rfl S.co S.gen rfl (PySem.W.codeRec_of KX hcd) (hb _ _ _ _ ?_)
  refine wpAny_newFunctionEnv_cells S.kind kinds fun env henv s1 hin => ?_
  subst henv
  refine ⟨(e0.mod.nolimit.keeps kk).keeps hin.toInCall.keep, codeAny_func ?_⟩
  have I0 := inv_start (CX := L2.CX P w) (mg := mg) (E := E) S hr.hd e0 (leng _ _ _ _ hsp) rv hin
  refine wpAny_mono ((hder cdv A outer s H E hg (hr.deeper _) (takes_of rfl rfl rfl rfl) (passes_of (X := cxOf (L2.CX P w) P w K mg base N qual (defScope st) f cdv A outer s H E) rfl)).run [] s1 (L2.start N vs) H { nx := fun _ H' => Q .non H', rt := Q } I0 ?_) (fun fl s2 hs => ?_) fun e s2 hx => hx
  · obtain ⟨ι, ds, S, r, hh, q⟩ := hsp
    unfold fnOf at q
    split at q
    · rename_i el
      refine ⟨ι, ds.map some ++ List.replicate (N.length - ds.length) none, S, start_rs r, hh, ?_⟩
      rw [el]
      revert q
      cases body (ds.map some ++ List.replicate (N.length - ps.length) none) S with
      | ret v S' => exact fun q ι' H' u a b c => q ι' H' u a b c
      | next ρ S' => exact fun q ι' H' u a b c => q ι' H' .non a b .non
      | exc e ρ S' => exact fun q ι' H' u d a b c e' => q ι' H' d a b e'
      | brk ρ S' => exact fun q => q.elim
      | cont ρ S' => exact fun q => q.elim
      | stuck => exact fun q => q.elim
    · exact q.elim
  · cases fl with
    | ret u =>
      obtain ⟨v, σ2, H2, J, ru, q⟩ := hs
      exact ⟨v, H2, J.os, J.bare, J.base, J.hok, ru, q⟩
    | next =>
      obtain ⟨σ2, H2, J, q⟩ := hs
      exact ⟨.non, H2, J.os, J.bare, J.base, J.hok, rfl, q⟩
    | brk => exact hs.elim fun _ h => h.elim fun _ h => h.2.elim
    | cont => exact hs.elim fun _ h => h.elim fun _ h => h.2.elim
end
section
variable {X : Cx} {cv : Nat → Value} {W : WX} {e a b c o : Expr} {st : Stmt} {es rest : List Expr} {sts as bs : List Stmt} {pos pos' p : Pos}
variable {k : Nat} {f : Addr} {fd : FuncData} {ps : List Str} {x : Str}
/-- the callee runs -/
theorem run_g {F : Fn} {pins : List (Addr × Obj)} {σ : L2.St} {H : Hp} {s : Shared} {Q : VK} {args : Args} {us : List Value} {vs : List V} (G : FnG X.prog X.w X.K X.mg X.base k f fd ps (SpecOf ⟨X.K, cv⟩ F)) (hgd : X.A.guards = some []) (hr : Room k X.A) (tk : Takes X W)
    (I : Inv X pins σ H s) (hb : BindsTo s fd args (ps.zip us)) (r : Vals vs us) (h : SpecOf ⟨X.K, cv⟩ F vs H Q (WE W σ)) : codeAny (model X.prog X.w) X.A (.call (.ref f) args) (fun res s' => match res with
      | .ok (.ret u) => EP X pins σ Q u s'
      | .ok _ => False
      | .error e => X.xe e s') s := by
  refine codeAny_mono (G.go X.A X.stack s H args us vs Q (WE W σ) hgd hr I.env0 hb r h) fun res s' hq => ?_
  rcases res with e | fl
  · exact passAt tk σ pins H s e s' I hq
  · cases fl with
    | ret u => exact I.after hq
    | _ => exact hq.elim
theorem ep_call {pins : List (Addr × Obj)} {σ : L2.St} {s : Shared} {Q : VK} {us : List Value} {kws : List (Str × Value)} (h : codeAny (model X.prog X.w) X.A (.call (.ref f) ⟨us, kws⟩) (fun res s' => match res with
      | .ok (.ret u) => EP X pins σ Q u s'
      | .ok _ => False
      | .error e => X.xe e s') s) : wpAny (model X.prog X.w) X.A (call (.ref f) us kws) (EP X pins σ Q) X.xe s := by
  refine wpAny_call (codeAny_mono h fun res s' hq => ?_)
  rcases res with e | fl
  · exact hq
  · cases fl with
    | ret u => exact hq
    | _ => exact hq.elim
/-- f(e, ..) -/
theorem pd_call {F : Fn} {g : DA} (G : FnG X.prog X.w X.K X.mg X.base k f fd ps (SpecOf ⟨X.K, cv⟩ F)) (hgd : X.A.guards = some []) (hr : Room k X.A) (hg : Gl X x) (hm : X.mg x = some (.ref f)) (hk : PySem.W.keepIn X.K (.ref f) = true) (hb : Binds X.K fd ps []) (tk : Takes X W)
    (ha : PA X (e :: es) (TDA (Gm X cv) W g)) (hdb : (x == ("__debug__" : Str)) = false := by decide) (he : starEach (e :: es) X.env = (false, eval e X.env) :: starEach es X.env := by rfl) (hpl : (backTo pos (starEach es X.env)).any (·.1) = false := by rfl) :
    PE X (.Call (.Name x p) (e :: es) [] pos) (TD (Gm X cv) W (dCall F g)) := by
  refine ⟨fun pins s σ H Q I h => ?_⟩
  obtain ⟨ι, ρ, S, hs, hh, q⟩ := h
  refine wpAny_Call_Name_kw (ld_glob I hg hm ?_ hdb)
  refine PySem.W.callWith_K (h₀ := X.base) I.ok.mod.kin hk (thn (ha.run pos pins s σ H (fun us H1 => SpecOf ⟨X.K, cv⟩ F us H1 Q (WE W σ)) I ⟨ι, ρ, S, hs, hh, FinG.bind q fun xs S1 ι1 H1 us e1 h1 r1 q1 => ⟨ι1, xs, S1, r1, h1, q1⟩⟩) fun us s1 ⟨vs, H1, I1, r, q1⟩ => ⟨I1.kIn, ?_⟩) he hpl
  have hl : us.length = ps.length := by rw [← r.length]; exact G.len _ _ _ _ q1
  have hb1 : BindsTo s1 fd ⟨us, []⟩ (ps.zip us) := by
    have := hb s1 us I1.kIn (by rw [List.append_nil]; exact hl)
    rwa [List.append_nil] at this
  exact ep_call (run_g G hgd hr tk I1 hb1 r q1)
/-- a built-in, a built-in class -/
theorem pd_callB {F : Fn} {g : DA} {r : List V → Hp → VK → Prop} {id : String} (hc : CallR X (.builtin id) r) (ho : OKA X.K r F) (hg : Gl X x) (hm : X.mg x = none) (hv : bootBuiltins x = some (.builtin id)) (ha : PA X (e :: es) (TDA (Gm X cv) W g)) (hn : x ≠ "__name__" := by decide) (hdb : (x == ("__debug__" : Str)) = false := by decide)
    (he : starEach (e :: es) X.env = (false, eval e X.env) :: starEach es X.env := by rfl) (hpl : (backTo pos (starEach es X.env)).any (·.1) = false := by rfl) : PE X (.Call (.Name x p) (e :: es) [] pos) (TD (Gm X cv) W (dCall F g)) :=
  (pe_callB hc hg hm hv ha hn hdb he hpl).imp fun σ H Q ⟨ι, ρ, S, hs, hh, q⟩ => by
    refine ⟨ι, ρ, S, hs, hh, FinG.bind q fun xs S1 ι1 H1 us e1 h1 r1 q1 => ?_⟩
    exact ho cv ι1 H1 S1 xs us _ Q h1 r1 q1
theorem pd_callTy {F : Fn} {g : DA} {r : List V → Hp → VK → Prop} {T : String} (hc : CallR X (.type T) r) (ho : OKA X.K r F) (hg : Gl X x) (hm : X.mg x = none) (hv : bootBuiltins x = some (.type T)) (ha : PA X (e :: es) (TDA (Gm X cv) W g)) (hn : x ≠ "__name__" := by decide) (hdb : (x == ("__debug__" : Str)) = false := by decide)
    (he : starEach (e :: es) X.env = (false, eval e X.env) :: starEach es X.env := by rfl) (hpl : (backTo pos (starEach es X.env)).any (·.1) = false := by rfl) : PE X (.Call (.Name x p) (e :: es) [] pos) (TD (Gm X cv) W (dCall F g)) :=
  (pe_callTy hc hg hm hv ha hn hdb he hpl).imp fun σ H Q ⟨ι, ρ, S, hs, hh, q⟩ => by
    refine ⟨ι, ρ, S, hs, hh, FinG.bind q fun xs S1 ι1 H1 us e1 h1 r1 q1 => ?_⟩
    exact ho cv ι1 H1 S1 xs us _ Q h1 r1 q1
/-! ### raise, try -/
/-- raise C('..'), C without __init__ -/
def sRaise (c : Nat) : SD := fun ρ S => .exc ⟨c, []⟩ ρ S
theorem pd_ty {n : String} {x : Str} (hg : Gl X x) (hm : X.mg x = none) (hv : bootBuiltins x = some (.type n)) (hn : x ≠ "__name__" := by decide) (hd : (x == ("__debug__" : Str)) = false := by decide) : PE X (.Name x pos) (TD (Gm X cv) W (dC (.ty n))) :=
  pd_c (pe_bltn (v := .ty n) hg hm hv rfl hn hd) fun _ _ => .ty _
theorem pd_gi {i : Int} {x : Str} (hg : Gl X x) (hm : ∃ t, X.mg x = some (.int i t)) (hd : (x == ("__debug__" : Str)) = false := by decide) : PE X (.Name x pos) (TD (Gm X cv) W (dC (.int i))) :=
  hm.elim fun t h => pd_c (pe_glob (v := .int i) hg h ⟨_, rfl⟩ hd) fun _ _ => .int _
theorem pd_gs {i : Str} {x : Str} (hg : Gl X x) (hm : ∃ t, X.mg x = some (.str i t)) (hd : (x == ("__debug__" : Str)) = false := by decide) : PE X (.Name x pos) (TD (Gm X cv) W (dC (.str i))) :=
  hm.elim fun t h => pd_c (pe_glob (v := .str i) hg h ⟨_, rfl⟩ hd) fun _ _ => .str _
theorem ps_raise' {c : Nat} {C : Value} (hcm : X.calm = true) (tk : Takes X W) (hC : cv c = C) (he : PMk X e (fun _ H Q => Q C none H)) : PS X (.Raise (some e) none pos) (TSD (Gm X cv) W (sRaise c)) :=
  (ps_raise hcm tk he).imp fun D σ H ⟨ι, ρ, S, hs, hh, q⟩ => by
    subst hC
    exact q ι H σ none .refl hh hs rfl
structure Clss (K : PySem.W.Frag) (cv : Nat → Value) (n : Nat) (mt : Nat → Nat → Bool) : Prop where
  ok : ∀ c k, c < n → k < n → PySem.W.exmOne K (cv c) (cv k) = some (mt c k)
/-- the clauses, one after the other -/
def sHds (n : Nat) (mt : Nat → Nat → Bool) : List (Nat × SD) → Exn → SD
  | [], e, ρ, S => .exc e ρ S
  | (k, b) :: r, e, ρ, S => if e.cls < n ∧ k < n then (if mt e.cls k = true then b ρ S else sHds n mt r e ρ S) else .stuck
def noExc (r : SRes) : SRes := match r with
  | .exc _ _ _ => .stuck
  | r => r
def sTry (n : Nat) (mt : Nat → Nat → Bool) (b : SD) (hds : List (Nat × SD)) : SD := fun ρ S => match b ρ S with
  | .exc e ρ1 S1 => sHds n mt (hds.map fun p => (p.1, fun ρ S => noExc (p.2 ρ S))) e ρ1 S1
  | r => r
inductive HdsD (X : Cx) (cv : Nat → Value) : List ExceptHandler → List (Nat × SD) → Prop
  | nil : HdsD X cv [] []
  | cons {x : Str} {c : Nat} {sd : SD} {b₀ : Stmt} {suite : List Stmt} {np pos' : Pos} {hds : List ExceptHandler} {l : List (Nat × SD)} (hc : Names X x (cv c))
      (hsu : ∀ (a : Addr) (pn : List (Addr × Obj)), PSs (X.suite a pn) (b₀ :: suite) (TSD (Gm (X.suite a pn) cv) (fun _ _ _ _ => False) sd)) (r : HdsD X cv hds l) :
      HdsD X cv (.ExceptHandler (some (.Name x np)) none (b₀ :: suite) pos' :: hds) ((c, sd) :: l)
theorem HdsD.ok : ∀ {hds : List ExceptHandler} {l : List (Nat × SD)}, HdsD X cv hds l → HdsOk X hds (l.map fun p => (cv p.1, fun _ _ _ => TSD ⟨X.K, cv⟩ (fun _ _ _ _ => False) p.2))
  | _, _, .nil => .nil
  | _, _, .cons hc hsu r => .cons hc (fun a oe cls d pn _ _ => hsu a ((a, oe) :: pn)) (HdsD.ok r)
theorem FinS.noexc {Γ : Cfg} {W W' : WX} {ι : List Addr} {H : Hp} {D : Ends} {r : SRes} (h : FinS Γ W ι H D (noExc r)) : FinS Γ W' ι H D r := by
  cases r with
  | exc e ρ S => exact h.elim
  | _ => exact h
theorem many_of {n : Nat} {mt : Nat → Nat → Bool} (C : Clss X.K cv n mt) {D : Ends} {ι : List Addr} {H : Hp} {ρ : Env} {σ : L2.St} {S : Store} {e : Exn} {d : Option Addr} (hs : RS X.K ι H ρ σ) (hh : RH X.K ι H S) (hx : XF X.K ι H e.fs d) :
    ∀ {l : List (Nat × SD)}, FinS (Gm X cv) W ι H D (sHds n mt (l.map fun p => (p.1, fun ρ S => noExc (p.2 ρ S))) e ρ S) → wMany X.K W D (l.map fun p => (cv p.1, fun _ _ _ => TSD ⟨X.K, cv⟩ (fun _ _ _ _ => False) p.2)) (cv e.cls) d σ H
  | [], q => q ι H σ d .refl hh hs hx
  | (k, b) :: r, q => by
    have q : FinS (Gm X cv) W ι H D (if e.cls < n ∧ k < n then (if mt e.cls k = true then noExc (b ρ S) else sHds n mt (r.map fun p => (p.1, fun ρ S => noExc (p.2 ρ S))) e ρ S) else .stuck) := q
    split at q
    · rename_i hk
      refine ⟨_, C.ok _ _ hk.1 hk.2, fun hb a ha => ?_, fun hb => ?_⟩
      · rw [if_pos hb] at q
        exact ⟨ι, ρ, S, hs, hh, FinS.noexc q⟩
      · rw [if_neg (by rw [hb]; decide)] at q
        exact many_of C hs hh hx q
    · exact q.elim
theorem ps_try' {n : Nat} {mt : Nat → Nat → Bool} {h₀ : ExceptHandler} {hds : List ExceptHandler} {l : List (Nat × SD)} {bd : SD} (C : Clss X.K cv n mt) (hs : X.stack = X.env :: X.outer) (hf : X.env.frame = some X.env.locals) (tk : Takes X W)
    (hb : ∀ (W : WX) (pn : List (Addr × Obj)) (xe : Value → Shared → Prop), Takes (X.tr pn xe) W → PassesOwn (model X.prog X.w) X.A X.env xe → PSs (X.tr pn xe) as (TSD (Gm (X.tr pn xe) cv) W bd))
    (hh : HdsD X cv (h₀ :: hds) l) : PS X (.Try as (h₀ :: hds) [] [] pos) (TSD (Gm X cv) W (sTry n mt bd l)) :=
  (ps_try_many (tb := fun W => TSD ⟨X.K, cv⟩ W bd) hs hf tk hb hh.ok).imp fun D σ H ⟨ι, ρ, S, hs, hh, q⟩ => by
    refine ⟨ι, ρ, S, hs, hh, ?_⟩
    unfold sTry at q
    revert q
    show FinS _ _ _ _ _ (match bd ρ S with | .exc e ρ1 S1 => _ | r => r) → FinS _ _ _ _ _ (bd ρ S)
    cases bd ρ S with
    | exc e ρ1 S1 => exact fun q ι' H' σ' d a b c x => many_of C c b x (FinS.weak a q)
    | _ => exact fun q => q
end
end PD

/-! ## PDOps -/
set_option Elab.async false
set_option linter.all false
set_option maxRecDepth 100000
set_option maxHeartbeats 2000000
namespace PD
open PySem PySem.Spec L2

/-! ### the operations by values -/
def okI (i : Int) (S : Store) : Res Val := .ok (.int i) S
def okB (b : Bool) (S : Store) : Res Val := .ok (.bl b) S
def alloc (xs : List Val) (S : Store) : Res Val := .ok (.ref S.length) (S ++ [.lst xs])
def oAdd : Op2 := fun x y S => match x, y with
  | .int a, .int b => okI (a + b) S
  | .str a, .str b => if a.length + b.length ≤ 16777216 then .ok (.str (a ++ b)) S else .stuck
  | .tup xs, .tup ys => if xs.length + ys.length ≤ 16777216 then .ok (.tup (xs ++ ys)) S else .stuck
  | .ref n, .ref m => match S[n]?, S[m]? with
    | some (.lst xs), some (.lst ys) => if xs.length + ys.length ≤ 16777216 then alloc (xs ++ ys) S else .stuck
    | _, _ => .stuck
  | _, _ => .stuck
def oSub : Op2 := fun x y S => match x, y with
  | .int a, .int b => okI (a - b) S
  | _, _ => .stuck
def oMul : Op2 := fun x y S => match x, y with
  | .int a, .int b => if a.natAbs.log2 + b.natAbs.log2 < 1000000 then okI (a * b) S else .stuck
  | _, _ => .stuck
def oMod : Op2 := fun x y S => match x, y with
  | .int a, .int b => if 0 < b then okI (a % b) S else .stuck
  | _, _ => .stuck
def oDiv : Op2 := fun x y S => match x, y with
  | .int a, .int b => if 0 < b ∧ b.natAbs.log2 < 9000 then okI (a / b) S else .stuck
  | _, _ => .stuck
def oPow : Op2 := fun x y S => match x, y with
  | .int a, .int b => if 0 ≤ b ∧ b ≤ 1000000 ∧ a.natAbs < 2 ^ 64 then okI (a ^ b.toNat) S else .stuck
  | _, _ => .stuck
def oNeg : Val → Store → Res Val := fun x S => match x with
  | .int a => okI (-a) S
  | _ => .stuck
def oInt2 (p : Int → Int → Bool) : Op2 := fun x y S => match x, y with
  | .int a, .int b => okB (p a b) S
  | _, _ => .stuck
def oLt := oInt2 fun i j => decide (i < j)
def oLe := oInt2 fun i j => decide (i ≤ j)
def oGt := oInt2 fun i j => decide (j < i)
def oGe := oInt2 fun i j => decide (j ≤ i)
/-! ### equality -/
def allSome {α : Type} : List (Option α) → Option (List α)
  | [] => some []
  | x :: xs => match x, allSome xs with
    | some a, some as => some (a :: as)
    | _, _ => none
def toD : Nat → Store → Val → Option PyData
  | 0, _, _ => none
  | f + 1, S, v => match v with
    | .non => some .none
    | .bl b => some (.bool b)
    | .int i => some (.int i)
    | .str x => some (.str x)
    | .tup xs => (allSome (xs.map (toD f S))).map .tuple
    | .ref n => match S[n]? with
      | some c => (allSome (c.items.map (toD f S))).map .list
      | none => none
    | .ty _ => none
    | .kl xs => (allSome (xs.map (toD f S))).map .list
def deq (x y : Val) (S : Store) : Option Bool := match x, y with
  | .int a, .int b => some (decide (a = b))
  | x, y => match toD 66 S x, toD 66 S y with
    | some d, some e => if SeqAt.shaped d = true ∧ SeqAt.shaped e = true then some (PyData.eqv d e) else none
    | _, _ => none
def oEq : Op2 := fun x y S => match deq x y S with
  | some b => okB b S
  | none => .stuck
def oNe : Op2 := fun x y S => match deq x y S with
  | some b => okB (!b) S
  | none => .stuck
/-- is None, is True, is False, is of two built-in classes -/
def oIs : Op2 := fun x y S => match y with
  | .non => okB (match x with | .non => true | _ => false) S
  | .bl b => okB (match x with | .bl a => a == b | _ => false) S
  | .ty b => match x with
    | .ty a => okB (decide (a = b)) S
    | _ => .stuck
  | _ => .stuck
def oIsNot : Op2 := fun x y S => match y with
  | .non => okB (match x with | .non => false | _ => true) S
  | .bl b => okB (match x with | .bl a => !(a == b) | _ => true) S
  | .ty b => match x with
    | .ty a => okB (!decide (a = b)) S
    | _ => .stuck
  | _ => .stuck

section
variable {K : PySem.W.Frag} {ι : List Addr} {H : Hp} {S : Store}
theorem allSome_get {α β : Type} {R : α → β → Prop} : ∀ {l : List (Option α)} {as : List α}, allSome l = some as → l = as.map some
  | [], _, h => by cases h; rfl
  | x :: xs, as, h => by
    unfold allSome at h
    split at h
    · rename_i a as' e1 e2
      cases h
      rw [allSome_get (R := R) e2]; rfl
    · cases h
theorem toDs_dp {f : Nat} (ih : ∀ (x : Val) (v : V) (d : PyData), RV K ι H x v → toD f S x = some d → Dp K H v d) : ∀ {xs : List Val} {vs : List V} {ds : List PyData}, RVs K ι H xs vs → allSome (xs.map (toD f S)) = some ds → DpAll K H vs ds
  | _, _, _, .nil, h => by cases h; exact .nil
  | x :: xs, _, _, .cons r rr, h => by
    rw [List.map_cons] at h
    unfold allSome at h
    split at h
    · rename_i a as' e1 e2
      cases h
      exact .cons (ih _ _ _ r e1) (toDs_dp ih rr e2)
    · cases h
theorem toD_dp (hh : RH K ι H S) : ∀ (f : Nat) (x : Val) (v : V) (d : PyData), RV K ι H x v → toD f S x = some d → Dp K H v d
  | 0, _, _, _, _, h => nomatch h
  | f + 1, x, v, d, r, h => by
    cases r with
    | non => cases h; exact .non
    | bl b => cases h; exact .bl b
    | int i => cases h; exact .int i
    | str i => cases h; exact .str i
    | ty n => cases h
    | tup ha rr =>
      rename_i a xs vs
      have h : (allSome (xs.map (toD f S))).map PyData.tuple = some d := h
      cases q : allSome (xs.map (toD f S)) with
      | none => rw [q] at h; cases h
      | some ds => rw [q] at h; cases h; exact .tup ha (toDs_dp (toD_dp hh f) rr q)
    | kl ha rr =>
      rename_i a xs vs
      have h : (allSome (xs.map (toD f S))).map PyData.list = some d := h
      cases q : allSome (xs.map (toD f S)) with
      | none => rw [q] at h; cases h
      | some ds => rw [q] at h; cases h; exact .lst ha.sq (toDs_dp (toD_dp hh f) rr q)
    | ref hn =>
      rename_i n a
      have h : (match S[n]? with
        | some c => (allSome (c.items.map (toD f S))).map PyData.list
        | none => none) = some d := h
      split at h
      · rename_i c ec
        obtain ⟨vs, rr, hq⟩ := (hh.ok _ _ _ hn ec).sq
        cases q : allSome (c.items.map (toD f S)) with
        | none => rw [q] at h; cases h
        | some ds => rw [q] at h; cases h; exact .lst hq (toDs_dp (toD_dp hh f) rr q)
      · cases h
end
abbrev rOr (r r' : L2.R2) : L2.R2 := fun x y H Q => r x y H Q ∨ r' x y H Q
/-- is, by one rule -/
def rIsA (neg : Bool) : L2.R2 := fun x y H Q => (y = .non ∧ Q (.bl (neg != decide (x = .non))) H) ∨ (∃ b, y = .bl b ∧ Q (.bl (neg != decide (x = .bl b))) H) ∨ (∃ m n, x = .ty m ∧ y = .ty n ∧ Q (.bl (neg != decide (m = n))) H)
section
variable {X : Cx}
theorem plain_bl {x : V} {v : Value} {b : Bool} (r : RelV x v) : PySem.plainIs v (.bool b) = true := by
  cases x with
  | non => cases r; rfl
  | bl _ => cases r; rfl
  | int _ => obtain ⟨t, rfl⟩ := r; rfl
  | str _ => obtain ⟨t, rfl⟩ := r; rfl
  | byt _ => obtain ⟨t, rfl⟩ := r; rfl
  | flt _ => obtain ⟨t, rfl⟩ := r; rfl
  | ref _ => cases r; rfl
  | ty _ => cases r; rfl
theorem rel_bl_iff {x : V} {v : Value} {b : Bool} (r : RelV x v) : v = .bool b ↔ x = .bl b := by
  constructor
  · intro e
    subst e
    exact r.inj (show RelV (.bl b) (.bool b) from rfl)
  · intro e; subst e; exact r
theorem op_isA : OpR X (compareOp .Is) (rIsA false) := by
  intro pins s σ H x y v u Q I rx ry h
  rcases h with ⟨rfl, q⟩ | ⟨b, rfl, q⟩ | ⟨m, n, rfl, rfl, q⟩
  · refine op_isN pins s σ H x .non v u Q I rx ry ⟨rfl, ?_⟩
    simpa using q
  · cases (show u = Value.bool b from ry)
    by_cases e : v = .bool b
    · have e' := (rel_bl_iff rx).mp e
      subst e
      exact wpAny_is_self rfl ⟨.bl true, H, I, rfl, by simpa [e'] using q⟩
    · have e' : ¬ x = .bl b := fun z => e ((rel_bl_iff rx).mpr z)
      exact wpAny_is_other (plain_bl rx) e ⟨.bl false, H, I, rfl, by simpa [e'] using q⟩
  · exact op_isTy pins s σ H _ _ v u Q I rx ry ⟨m, n, rfl, rfl, by simpa using q⟩
theorem op_isNotA : OpR X (compareOp .IsNot) (rIsA true) := by
  intro pins s σ H x y v u Q I rx ry h
  rcases h with ⟨rfl, q⟩ | ⟨b, rfl, q⟩ | ⟨m, n, rfl, rfl, q⟩
  · refine op_notN pins s σ H x .non v u Q I rx ry ⟨rfl, ?_⟩
    simpa using q
  · cases (show u = Value.bool b from ry)
    by_cases e : v = .bool b
    · have e' := (rel_bl_iff rx).mp e
      subst e
      exact wpAny_isNot_self rfl ⟨.bl false, H, I, rfl, by simpa [e'] using q⟩
    · have e' : ¬ x = .bl b := fun z => e ((rel_bl_iff rx).mpr z)
      exact wpAny_isNot_other (plain_bl rx) e ⟨.bl true, H, I, rfl, by simpa [e'] using q⟩
  · exact op_isNotTy pins s σ H _ _ v u Q I rx ry ⟨m, n, rfl, rfl, by simpa using q⟩
end
section
variable {K : PySem.W.Frag}
theorem ok_isA : OK2 K (rIsA false) oIs := by
  intro cv ι H S x y u v W Q hh rx ry q
  cases ry with
  | non =>
    refine .inl ⟨rfl, ?_⟩
    cases rx <;> exact q ι H _ .refl hh (.bl _)
  | bl b =>
    refine .inr (.inl ⟨b, rfl, ?_⟩)
    cases rx with
    | bl a =>
      have e : (false != decide (V.bl a = V.bl b)) = (a == b) := by cases a <;> cases b <;> rfl
      rw [e]; exact q ι H _ .refl hh (.bl _)
    | _ => exact q ι H _ .refl hh (.bl _)
  | ty b =>
    cases rx with
    | ty a =>
      refine .inr (.inr ⟨a, b, rfl, rfl, ?_⟩)
      have e : (false != decide (a = b)) = decide (a = b) := by simp
      rw [e]; exact q ι H _ .refl hh (.bl _)
    | _ => exact q.elim
  | _ => exact q.elim
theorem ok_isNotA : OK2 K (rIsA true) oIsNot := by
  intro cv ι H S x y u v W Q hh rx ry q
  cases ry with
  | non =>
    refine .inl ⟨rfl, ?_⟩
    cases rx <;> exact q ι H _ .refl hh (.bl _)
  | bl b =>
    refine .inr (.inl ⟨b, rfl, ?_⟩)
    cases rx with
    | bl a =>
      have e : (true != decide (V.bl a = V.bl b)) = !(a == b) := by cases a <;> cases b <;> rfl
      rw [e]; exact q ι H _ .refl hh (.bl _)
    | _ => exact q ι H _ .refl hh (.bl _)
  | ty b =>
    cases rx with
    | ty a =>
      refine .inr (.inr ⟨a, b, rfl, rfl, ?_⟩)
      have e : (true != decide (a = b)) = !decide (a = b) := by simp
      rw [e]; exact q ι H _ .refl hh (.bl _)
    | _ => exact q.elim
  | _ => exact q.elim
theorem ok_int2 {p : Int → Int → Bool} : OK2 K (rI0 fun i j => .bl (p i j)) (oInt2 p) := by
  intro cv ι H S x y u v W Q hh rx ry q
  cases rx with
  | int a =>
    cases ry with
    | int b => exact ⟨a, b, rfl, rfl, q ι H _ .refl hh (.bl _)⟩
    | _ => exact q.elim
  | _ => exact q.elim
theorem ok_sub : OK2 K (rI0 fun i j => .int (i - j)) oSub := by
  intro cv ι H S x y u v W Q hh rx ry q
  cases rx with
  | int a =>
    cases ry with
    | int b => exact ⟨a, b, rfl, rfl, q ι H _ .refl hh (.int _)⟩
    | _ => exact q.elim
  | _ => exact q.elim
theorem ok_cond {C : Int → Int → Prop} {g : Int → Int → Int} {o : Op2} (h : ∀ cv ι H S x y W Q, Fin ⟨K, cv⟩ W ι H Q (o x y S) → ∃ a b, x = .int a ∧ y = .int b ∧ C a b ∧ Fin ⟨K, cv⟩ W ι H Q (okI (g a b) S)) : OK2 K (rI C fun i j => .int (g i j)) o := by
  intro cv ι H S x y u v W Q hh rx ry q
  obtain ⟨a, b, rfl, rfl, c, q⟩ := h cv ι H S x y W Q q
  cases rx
  cases ry
  exact ⟨a, b, rfl, rfl, c, q ι H _ .refl hh (.int _)⟩
theorem ok_mul : OK2 K (rI CMulW fun i j => .int (i * j)) oMul := ok_cond (g := fun i j => i * j) fun cv ι H S x y W Q q => by
  unfold oMul at q
  split at q
  · split at q
    · rename_i hc; exact ⟨_, _, rfl, rfl, hc, q⟩
    · exact q.elim
  · exact q.elim
theorem ok_mod : OK2 K (rI (fun _ j => 0 < j) fun i j => .int (i % j)) oMod := ok_cond (g := fun i j => i % j) fun cv ι H S x y W Q q => by
  unfold oMod at q
  split at q
  · split at q
    · rename_i hc; exact ⟨_, _, rfl, rfl, hc, q⟩
    · exact q.elim
  · exact q.elim
theorem ok_div : OK2 K (rI CDivW fun i j => .int (i / j)) oDiv := ok_cond (g := fun i j => i / j) fun cv ι H S x y W Q q => by
  unfold oDiv at q
  split at q
  · split at q
    · rename_i hc; exact ⟨_, _, rfl, rfl, hc, q⟩
    · exact q.elim
  · exact q.elim
theorem ok_pow : OK2 K (rI CPow fun i j => .int (i ^ j.toNat)) oPow := ok_cond (g := fun i j => i ^ j.toNat) fun cv ι H S x y W Q q => by
  unfold oPow at q
  split at q
  · split at q
    · rename_i hc; exact ⟨_, _, rfl, rfl, hc, q⟩
    · exact q.elim
  · exact q.elim
theorem ok_neg : OK1 K (rU fun i => .int (-i)) oNeg := by
  intro cv ι H S x u W Q hh rx q
  cases rx with
  | int a => exact ⟨a, rfl, q ι H _ .refl hh (.int _)⟩
  | _ => exact q.elim
abbrev rStrA : L2.R2 := fun x y H Q => ∃ i j, x = .str i ∧ y = .str j ∧ i.length + j.length ≤ sizeLine ∧ Q (.str (i ++ j)) H
abbrev rAddA (K : PySem.W.Frag) : L2.R2 := rOr (rI0 fun i j => .int (i + j)) (rOr rStrA (rOr (rCatA K) rCat))
theorem op_addA {X : Cx} : OpR X (binaryOp .Add) (rAddA X.K) := op_add.or (op_add_str.or (op_catA.or op_cat))
theorem ok_add : OK2 K (rAddA K) oAdd := by
  intro cv ι H S x y u v W Q hh rx ry q
  cases rx with
  | int a =>
    cases ry with
    | int b => exact .inl ⟨a, b, rfl, rfl, q ι H _ .refl hh (.int _)⟩
    | _ => exact q.elim
  | str a =>
    cases ry with
    | str b =>
      have q : Fin ⟨K, cv⟩ W ι H Q (if a.length + b.length ≤ 16777216 then .ok (.str (a ++ b)) S else .stuck) := q
      split at q
      · rename_i hl
        exact .inr (.inl ⟨a, b, rfl, rfl, by rw [sizeLine_eq]; exact hl, q ι H _ .refl hh (.str _)⟩)
      · exact q.elim
    | _ => exact q.elim
  | tup ha ra =>
    cases ry with
    | tup hb rb =>
      rename_i a xs vs b ys ws
      have q : Fin ⟨K, cv⟩ W ι H Q (if xs.length + ys.length ≤ 16777216 then .ok (.tup (xs ++ ys)) S else .stuck) := q
      split at q
      · rename_i hl
        refine .inr (.inr (.inl ⟨a, b, vs, ws, rfl, rfl, ha, hb, by rw [← ra.length, ← rb.length, sizeLine_eq]; exact hl, fun e => ?_, fun e1 e2 => ?_, fun e1 e2 p hp => ?_⟩))
        · subst e; cases ra
          exact q ι H _ .refl hh (.tup hb rb)
        · subst e2; cases rb
          rw [List.append_nil] at q
          exact q ι H _ .refl hh (.tup ha ra)
        · exact q _ _ _ (Ext.fresh hp) (hh.fresh hp) (.tup (SqT.of upd_same) ((ra.append rb).ext (Ext.fresh hp)))
      · exact q.elim
    | _ => exact q.elim
  | ref hn =>
    cases ry with
    | ref hm =>
      rename_i n a m b
      have q : Fin ⟨K, cv⟩ W ι H Q (match S[n]?, S[m]? with
        | some (.lst xs), some (.lst ys) => if xs.length + ys.length ≤ 16777216 then alloc (xs ++ ys) S else .stuck
        | _, _ => .stuck) := q
      split at q
      · rename_i xs ys e1 e2
        split at q
        · rename_i hl
          obtain ⟨vs, ra, hv⟩ := hh.ok _ _ _ hn e1
          obtain ⟨ws, rb, hw⟩ := hh.ok _ _ _ hm e2
          refine .inr (.inr (.inr ⟨a, b, vs, ws, rfl, rfl, hv, hw, by rw [← ra.length, ← rb.length, sizeLine_eq]; exact hl, fun p hp => ?_⟩))
          refine q _ _ _ (Ext.alloc hp) (hh.alloc hp (ra.append rb)) (.ref ?_)
          rw [← hh.len]; simp
        · exact q.elim
      · exact q.elim
    | _ => exact q.elim
  | _ => exact q.elim
theorem deq_ok {ι : List Addr} {H : Hp} {S : Store} {x y : Val} {u v : V} {b : Bool} (hh : RH K ι H S) (rx : RV K ι H x u) (ry : RV K ι H y v) (h : deq x y S = some b) :
    ∃ d e, Dp K H u d ∧ Dp K H v e ∧ SeqAt.shaped d = true ∧ SeqAt.shaped e = true ∧ PyData.eqv d e = b := by
  unfold deq at h
  split at h
  · rename_i a c
    cases rx
    cases ry
    cases h
    exact ⟨_, _, .int a, .int c, rfl, rfl, by show (a == c) = _; rw [Bool.beq_eq_decide_eq]⟩
  · split at h
    · rename_i d e e1 e2
      split at h
      · rename_i hs
        cases h
        exact ⟨d, e, toD_dp hh _ _ _ _ rx e1, toD_dp hh _ _ _ _ ry e2, hs.1, hs.2, rfl⟩
      · cases h
    · cases h
theorem ok_eq : OK2 K (rEqD K) oEq := by
  intro cv ι H S x y u v W Q hh rx ry q
  unfold oEq at q
  split at q
  · rename_i b hb
    obtain ⟨d, e, h1, h2, h3, h4, h5⟩ := deq_ok hh rx ry hb
    exact ⟨d, e, h1, h2, h3, h4, by rw [h5]; exact q ι H _ .refl hh (.bl _)⟩
  · exact q.elim
theorem ok_ne : OK2 K (rNeD K) oNe := by
  intro cv ι H S x y u v W Q hh rx ry q
  unfold oNe at q
  split at q
  · rename_i b hb
    obtain ⟨d, e, h1, h2, h3, h4, h5⟩ := deq_ok hh rx ry hb
    exact ⟨d, e, h1, h2, h3, h4, by rw [h5]; exact q ι H _ .refl hh (.bl _)⟩
  · exact q.elim
end
end PD

/-! ## PDMore -/
set_option Elab.async false
set_option linter.all false
set_option maxRecDepth 100000
set_option maxHeartbeats 2000000
namespace PD
open PySem PySem.Spec L2

/-! ### f(k = v, ..) -/
def pick {α : Type} (is : List Nat) (xs : List α) : List α := is.filterMap fun i => xs[i]?
theorem pick_vals {zs : List V} {ws : List Value} (r : Vals zs ws) : ∀ is : List Nat, Vals (pick is zs) (pick is ws)
  | [] => .nil
  | i :: is => by
    unfold pick
    rw [List.filterMap_cons, List.filterMap_cons]
    cases h : zs[i]? with
    | none => rw [r.none_of h]; exact pick_vals r is
    | some z =>
      obtain ⟨u, e, q⟩ := r.get h
      rw [e]
      exact .cons q (pick_vals r is)
theorem pick_rvs {K : PySem.W.Frag} {ι : List Addr} {H : Hp} {xs : List Val} {vs : List V} (r : RVs K ι H xs vs) : ∀ is : List Nat, RVs K ι H (pick is xs) (pick is vs)
  | [] => .nil
  | i :: is => by
    unfold pick
    rw [List.filterMap_cons, List.filterMap_cons]
    cases h : xs[i]? with
    | none =>
      have : vs[i]? = none := by
        rw [List.getElem?_eq_none_iff] at h ⊢
        rw [← r.length]; exact h
      rw [this]; exact pick_rvs r is
    | some z =>
      obtain ⟨u, e, q⟩ := r.get h
      rw [e]
      exact .cons q (pick_rvs r is)
def KB0 (K : PySem.W.Frag) (fd : FuncData) (ps ks : List Str) (is : List Nat) : Prop :=
  ∀ (s : Shared) (ws : List Value), K.In s.heap → ws.length = ks.length → (pick is ws).length = ps.length → BindsTo s fd ⟨[], ks.zip ws⟩ (ps.zip (pick is ws))
theorem _root_.L2.PK.imp {X : Cx} {kws : List Keyword} {t t' : TA} (h : PK X kws t) (q : ∀ σ H Q, t' σ H Q → t σ H Q) : PK X kws t' := ⟨fun pos pins s σ H Q I hw => h.run pos pins s σ H Q I (q _ _ _ hw)⟩
def dCallK (is : List Nat) (n : Nat) (F : Fn) (g : DA) : D := fun ρ S => (g ρ S).bind fun xs S1 => if xs.length = n then F (pick is xs) S1 else .stuck
section
variable {X : Cx} {cv : Nat → Value} {W : WX} {e a b c o : Expr} {es : List Expr} {pos p : Pos} {kws : List Keyword}
variable {k : Nat} {f : Addr} {fd : FuncData} {ps ks : List Str} {x : Str}
theorem pdk_nil : PK X [] (TDA (Gm X cv) W aNil) := pk_nil.imp fun σ H Q ⟨ι, ρ, S, hs, hh, q⟩ => q.here hh .nil
theorem pdk_cons {nm : Option Str} {kpos : Pos} {f : D} {g : DA} (ha : PE X e (TD (Gm X cv) W f)) (hr : PK X kws (TDA (Gm X cv) W g)) : PK X (⟨nm, e, kpos⟩ :: kws) (TDA (Gm X cv) W (aCons f g)) :=
  (pk_cons ha hr).imp fun σ H Q h => by
    obtain ⟨ι, ρ, S, hs, hh, q⟩ := h
    refine ⟨ι, ρ, S, hs, hh, FinG.bind q fun x S1 ι1 H1 u e1 h1 r1 q1 => ?_⟩
    refine ⟨ι1, ρ, S1, hs.ext e1, h1, FinG.bind q1 fun y S2 ι2 H2 v e2 h2 r2 q2 => ?_⟩
    exact q2.here h2 (.cons (r1.ext e2) r2)
theorem pd_callK0 {F : Fn} {g : DA} {is : List Nat} {m : Nat} (G : FnG X.prog X.w X.K X.mg X.base k f fd ps (SpecOf ⟨X.K, cv⟩ F)) (hgd : X.A.guards = some []) (hr : Room k X.A) (hg : Gl X x) (hm : X.mg x = some (.ref f)) (hk : PySem.W.keepIn X.K (.ref f) = true) (hb : KB0 X.K fd ps ks is) (tk : Takes X W)
    (hkw : PK X kws (TDA (Gm X cv) W g)) (hall : (backToKw pos (keywordEach kws X.env)).all (·.1.isSome) = true := by rfl) (hks : (backToKw pos (keywordEach kws X.env)).filterMap (·.1) = ks := by rfl) (hdb : (x == ("__debug__" : Str)) = false := by decide)
    (hpl : ((backTo pos (starEach [] X.env)).any (·.1) || (backToKw pos (keywordEach kws X.env)).any (·.1.isNone)) = false := by rfl) (hm2 : ks.length = m := by rfl) :
    PE X (.Call (.Name x p) [] kws pos) (TD (Gm X cv) W (dCallK is m F g)) := by
  subst hm2
  refine ⟨fun pins s σ H Q I h => ?_⟩
  obtain ⟨ι, ρ, S, hs, hh, q⟩ := h
  refine wpAny_Call_Name_kw (ld_glob I hg hm ?_ hdb)
  refine PySem.W.callWith_KW0 (h₀ := X.base) I.ok.mod.kin hk hall ?_ hpl
  refine thn (hkw.run pos pins s σ H (fun us H1 => us.length = ks.length ∧ SpecOf ⟨X.K, cv⟩ F (pick is us) H1 Q (WE W σ)) I ⟨ι, ρ, S, hs, hh, FinG.bind q fun xs S1 ι1 H1 us e1 h1 r1 q1 => ?_⟩) fun ws s2 ⟨zs, H2, I2, rz, hl, q2⟩ => ⟨I2.kIn, ?_⟩
  · split at q1
    · rename_i hl
      exact ⟨by rw [← r1.length]; exact hl, ι1, pick is xs, S1, pick_rvs r1 is, h1, q1⟩
    · exact q1.elim
  · rw [hks]
    have r2 := pick_vals rz is
    have hl2 : (pick is ws).length = ps.length := by rw [← r2.length]; exact G.len _ _ _ _ q2
    exact ep_call (run_g G hgd hr tk I2 (hb s2 ws I2.kIn (by rw [← rz.length]; exact hl) hl2) r2 q2)
end

/-! ### items, slices, len -/
def oIx : Op2 := fun x y S => match y with
  | .int i => match x with
    | .tup xs => match atI xs i with
      | some z => .ok z S
      | none => .stuck
    | .ref n => match S[n]? with
      | some c => match atI c.items i with
        | some z => .ok z S
        | none => .stuck
      | none => .stuck
    | .kl xs => match atI xs i with
      | some z => .ok z S
      | none => .stuck
    | .str z => match atI z.cps.toList i with
      | some c => if z.length ≤ 16777216 then .ok (.str ⟨#[c]⟩) S else .stuck
      | none => .stuck
    | _ => .stuck
  | _ => .stuck
theorem RVs.atI {K : PySem.W.Frag} {ι : List Addr} {H : Hp} {xs : List Val} {vs : List V} {i : Int} {z : Val} (r : RVs K ι H xs vs) (h : atI xs i = some z) : ∃ v, L2.atI vs i = some v ∧ RV K ι H z v := by
  unfold L2.atI at h ⊢
  rw [← r.length]
  cases e : ixN xs.length i with
  | none => rw [e] at h; cases h
  | some j =>
    rw [e] at h
    exact r.get h
theorem ok_ix {K : PySem.W.Frag} : OK2 K (rIx K) oIx := by
  intro cv ι H S x y u v W Q hh rx ry q
  cases ry with
  | int i =>
    cases rx with
    | tup ha ra =>
      rename_i a xs vs
      have q : Fin ⟨K, cv⟩ W ι H Q (match atI xs i with | some z => .ok z S | none => .stuck) := q
      split at q
      · rename_i z e
        obtain ⟨v, e', r⟩ := ra.atI e
        exact .inr (.inl ⟨a, vs, i, v, rfl, rfl, ha, e', q ι H _ .refl hh r⟩)
      · exact q.elim
    | kl ha ra =>
      rename_i a xs vs
      have q : Fin ⟨K, cv⟩ W ι H Q (match atI xs i with | some z => .ok z S | none => .stuck) := q
      split at q
      · rename_i z e
        obtain ⟨v, e', r⟩ := ra.atI e
        exact .inl ⟨a, vs, i, v, rfl, rfl, ha.sq, e', q ι H _ .refl hh r⟩
      · exact q.elim
    | ref hn =>
      rename_i n a
      have q : Fin ⟨K, cv⟩ W ι H Q (match S[n]? with | some c => (match atI c.items i with | some z => .ok z S | none => .stuck) | none => .stuck) := q
      split at q
      · rename_i c ec
        obtain ⟨vs, rr, hq⟩ := (hh.ok _ _ _ hn ec).sq
        split at q
        · rename_i z e
          obtain ⟨v, e', r⟩ := rr.atI e
          exact .inl ⟨a, vs, i, v, rfl, rfl, hq, e', q ι H _ .refl hh r⟩
        · exact q.elim
      · exact q.elim
    | str z =>
      have q : Fin ⟨K, cv⟩ W ι H Q (match atI z.cps.toList i with | some c => (if z.length ≤ 16777216 then .ok (.str ⟨#[c]⟩) S else .stuck) | none => .stuck) := q
      split at q
      · rename_i c ec
        split at q
        · rename_i hl
          exact .inr (.inr ⟨z, i, c, rfl, rfl, by rw [sizeLine_eq]; exact hl, ec, q ι H _ .refl hh (.str _)⟩)
        · exact q.elim
      · exact q.elim
    | _ => exact q.elim
  | _ => exact q.elim
/-- a part of a slice -/
abbrev DO := PD.Env → Store → Res (Option Int)
def oNone : DO := fun _ S => .ok none S
def oSome (f : D) : DO := fun ρ S => (f ρ S).bind fun x S1 => match x with
  | .int i => .ok (some i) S1
  | _ => .stuck
def cutL {α : Type} (xs : List α) (lo hi : Option Int) : List α := (xs.drop (HT.sIx xs.length 0 lo)).take (HT.sIx xs.length xs.length hi - HT.sIx xs.length 0 lo)
def vSl (x : Val) (lo hi : Option Int) (S : Store) : Res Val := match x with
  | .tup xs => .ok (.tup (cutL xs lo hi)) S
  | .ref n => match S[n]? with
    | some c => alloc (cutL c.items lo hi) S
    | none => .stuck
  | .kl xs => alloc (cutL xs lo hi) S
  | .str z => if z.length ≤ 16777216 then .ok (.str (cutS z lo hi)) S else .stuck
  | _ => .stuck
def dSl (f : D) (l h : DO) : D := fun ρ S => (f ρ S).bind fun x S1 => (l ρ S1).bind fun lo S2 => (h ρ S2).bind fun hi S3 => vSl x lo hi S3
abbrev TDO (Γ : Cfg) (W : WX) (f : DO) : TO := TG' Γ (fun _ _ => Eq) W f
abbrev rSlAll (K : PySem.W.Frag) : V → Option Int → Option Int → Hp → VK → Prop := fun x lo hi H Q => rSlA K x lo hi H Q ∨ (rSlL K x lo hi H Q ∨ ∃ z, x = .str z ∧ z.length ≤ sizeLine ∧ Q (.str (cutS z lo hi)) H)
theorem sl_all {X : Cx} : SlR X (rSlAll X.K) := sl_tupA.or (sl_list.or sl_str)
section
variable {X : Cx} {cv : Nat → Value} {W : WX} {e a b c o : Expr} {es : List Expr} {pos p p2 : Pos} {lo hi : Option Expr}
theorem pd_ix {f g : D} (ha : PE X a (TD (Gm X cv) W f)) (hb : PE X b (TD (Gm X cv) W g)) (hs : PlainIx b) : PE X (.Subscript a b pos) (TD (Gm X cv) W (dOp oIx f g)) :=
  (pe_ix ix_seq ha hb hs).imp fun _ _ _ h => pd_two ok_ix h
theorem pdo_none : PO X none (TDO (Gm X cv) W oNone) := ⟨fun pins s σ H Q I h => po_none.run pins s σ H Q I (by
  obtain ⟨ι, ρ, S, hs, hh, q⟩ := h
  exact q.here hh rfl)⟩
theorem pdo_some {f : D} (h : PE X e (TD (Gm X cv) W f)) : PO X (some e) (TDO (Gm X cv) W (oSome f)) := ⟨fun pins s σ H Q I hw => (po_some h).run pins s σ H Q I (by
  obtain ⟨ι, ρ, S, hs, hh, q⟩ := hw
  refine ⟨ι, ρ, S, hs, hh, FinG.bind q fun x S1 ι1 H1 u e1 h1 r1 q1 => ?_⟩
  cases r1 with
  | int i => exact ⟨i, rfl, q1.here h1 rfl⟩
  | _ => exact q1.elim)⟩
theorem RVs.cut {K : PySem.W.Frag} {ι : List Addr} {H : Hp} {xs : List Val} {vs : List V} (lo hi : Option Int) (r : RVs K ι H xs vs) : RVs K ι H (cutL xs lo hi) (cutV vs lo hi) := by
  unfold cutL cutV
  rw [r.length]
  exact RVs.take _ (RVs.drop _ r)
theorem cutV_whole {vs : List V} {lo hi : Option Int} (h : HT.sIx vs.length 0 lo = 0 ∧ HT.sIx vs.length vs.length hi = vs.length) : cutV vs lo hi = vs := by
  unfold cutV
  rw [h.1, h.2]; simp
theorem ok_sl {K : PySem.W.Frag} {ι : List Addr} {H : Hp} {S : Store} {x : Val} {u : V} {lo hi : Option Int} {W : Value → Option Addr → Hp → Prop} {Q : VK} (hh : RH K ι H S) (rx : RV K ι H x u) (q : Fin ⟨K, cv⟩ W ι H Q (vSl x lo hi S)) : rSlAll K u lo hi H Q := by
  cases rx with
  | tup ha ra =>
    rename_i a xs vs
    refine .inl ⟨a, vs, rfl, ha, fun e => ?_, fun e p hp => ?_⟩
    · have rc := ra.cut lo hi
      rw [cutV_whole e] at rc
      exact q ι H _ .refl hh (.tup ha rc)
    · exact q _ _ _ (Ext.fresh hp) (hh.fresh hp) (.tup (SqT.of upd_same) ((ra.cut lo hi).ext (Ext.fresh hp)))
  | kl ha ra =>
    rename_i a xs vs
    refine .inr (.inl ⟨a, vs, rfl, ha.sq, fun p hp => ?_⟩)
    refine q _ _ _ (Ext.alloc hp) (hh.alloc hp (ra.cut lo hi)) (.ref ?_)
    rw [← hh.len]; simp
  | ref hn =>
    rename_i n a
    have q : Fin ⟨K, cv⟩ W ι H Q (match S[n]? with | some c => alloc (cutL c.items lo hi) S | none => .stuck) := q
    split at q
    · rename_i c ec
      obtain ⟨vs, rr, hq⟩ := (hh.ok _ _ _ hn ec).sq
      refine .inr (.inl ⟨a, vs, rfl, hq, fun p hp => ?_⟩)
      refine q _ _ _ (Ext.alloc hp) (hh.alloc hp (rr.cut lo hi)) (.ref ?_)
      rw [← hh.len]; simp
    · exact q.elim
  | str z =>
    have q : Fin ⟨K, cv⟩ W ι H Q (if z.length ≤ 16777216 then .ok (.str (cutS z lo hi)) S else .stuck) := q
    split at q
    · rename_i hl
      exact .inr (.inr ⟨z, rfl, by rw [sizeLine_eq]; exact hl, q ι H _ .refl hh (.str _)⟩)
    · exact q.elim
  | _ => exact q.elim
theorem pd_sl {f : D} {l h : DO} (he : PE X e (TD (Gm X cv) W f)) (hl : PO X lo (TDO (Gm X cv) W l)) (hu : PO X hi (TDO (Gm X cv) W h)) : PE X (.Subscript e (.Slice lo hi none p2) pos) (TD (Gm X cv) W (dSl f l h)) :=
  (pe_slice sl_all he hl hu).imp fun σ H Q hw => by
    obtain ⟨ι, ρ, S, hs, hh, q⟩ := hw
    refine ⟨ι, ρ, S, hs, hh, FinG.bind q fun x S1 ι1 H1 u e1 h1 r1 q1 => ?_⟩
    refine ⟨ι1, ρ, S1, hs.ext e1, h1, FinG.bind (R := fun _ _ => Eq) q1 fun lo S2 ι2 H2 lo' e2 h2 r2 q2 => ?_⟩
    cases r2
    refine ⟨ι2, ρ, S2, (hs.ext e1).ext e2, h2, FinG.bind (R := fun _ _ => Eq) q2 fun hi S3 ι3 H3 hi' e3 h3 r3 q3 => ?_⟩
    cases r3
    exact ok_sl h3 ((r1.ext e2).ext e3) q3
end
end PD

/-! ## PDBi -/
set_option Elab.async false
set_option linter.all false
set_option maxRecDepth 100000
set_option maxHeartbeats 2000000
namespace PD
open PySem PySem.Spec L2

/-! ### built-ins -/
def tyN (x : Val) (S : Store) : Option String := match x with
  | .non => some "NoneType"
  | .bl _ => some "bool"
  | .int _ => some "int"
  | .str _ => some "str"
  | .tup _ => some "tuple"
  | .ref n => match S[n]? with
    | some _ => some "list"
    | none => none
  | .ty _ => none
  | .kl _ => some "list"
def isT (T U : String) : Bool := decide (T = U) || (decide (T = "bool") && decide (U = "int"))
def knownT : List String := ["NoneType", "bool", "int", "str", "tuple", "list"]
def askedT : List String := ["bool", "int", "str", "tuple", "list"]
theorem kit_known : ∀ T ∈ knownT, ∀ U ∈ askedT, kitB T U = some (isT T U) := by decide +kernel
def bIsi : Fn := fun xs S => match xs with
  | [x, .ty U] => match tyN x S with
    | some T => if U ∈ askedT then okB (isT T U) S else .stuck
    | none => .stuck
  | _ => .stuck
def bType : Fn := fun xs S => match xs with
  | [x] => match tyN x S with
    | some T => .ok (.ty T) S
    | none => .stuck
  | _ => .stuck
def bLen : Fn := fun xs S => match xs with
  | [.tup ys] => okI ys.length S
  | [.ref n] => match S[n]? with
    | some c => okI c.items.length S
    | none => .stuck
  | [.str z] => if z.length ≤ 16777216 then okI z.length S else .stuck
  | [.kl ys] => okI ys.length S
  | _ => .stuck
def bInt : Fn := fun xs S => match xs with
  | [.int i] => okI i S
  | [.bl b] => okI (if b then 1 else 0) S
  | _ => .stuck
def bTuple : Fn := fun xs S => match xs with
  | [.ref n] => match S[n]? with
    | some c => .ok (.tup c.items) S
    | none => .stuck
  | [.tup ys] => .ok (.tup ys) S
  | _ => .stuck
def asB : Val → Option Bool
  | .bl b => some b
  | _ => none
def asI : Val → Option Int
  | .int i => some i
  | _ => none
def bAll : Fn := fun xs S => match xs with
  | [.ref n] => match S[n]? with
    | some c => match allSome (c.items.map asB) with
      | some bs => okB (bs.all id) S
      | none => .stuck
    | none => .stuck
  | _ => .stuck
def bSum : Fn := fun xs S => match xs with
  | [.ref n] => match S[n]? with
    | some c => match allSome (c.items.map asI) with
      | some ns => okI ns.sum S
      | none => .stuck
    | none => .stuck
  | _ => .stuck
def bMax2 : Fn := fun xs S => match xs with
  | [.int i, .int j] => okI (if j > i then j else i) S
  | _ => .stuck
def bMin2 : Fn := fun xs S => match xs with
  | [.int i, .int j] => okI (if j < i then j else i) S
  | _ => .stuck
section
variable {K : PySem.W.Frag}
theorem tyN_known {x : Val} {S : Store} {T : String} (h : tyN x S = some T) : T ∈ knownT := by
  cases x with
  | ref n =>
    have h : (match S[n]? with | some _ => some "list" | none => none) = some T := h
    split at h
    · cases h; decide
    · cases h
  | ty n => cases h
  | _ => cases h; decide
theorem tyX_of {ι : List Addr} {H : Hp} {S : Store} {x : Val} {u : V} {T : String} (hh : RH K ι H S) (r : RV K ι H x u) (h : tyN x S = some T) : TyX K H u (.type T) := by
  cases r with
  | non => cases h; exact .base .non
  | bl b => cases h; exact .base (.bl b)
  | int i => cases h; exact .base (.int i)
  | str z => cases h; exact .base (.str z)
  | ty n => cases h
  | tup ha ra =>
    cases h
    rcases ha with (ha | ⟨o, ha⟩) | ⟨o, its, n, hk, hc, _⟩
    · exact .base (.tup ha)
    · exact .fTuple ha
    · exact .kTuple hk hc
  | kl ha ra =>
    cases h
    rcases ha with ⟨o, ha⟩ | ⟨o, its, n, hk, hc, _⟩
    · exact .base (.frz ha)
    · exact .kList hk hc
  | ref hn =>
    rename_i n a
    have h : (match S[n]? with | some _ => some "list" | none => none) = some T := h
    split at h
    · rename_i c ec
      cases h
      have q := hh.ok _ _ _ hn ec
      cases c with
      | lst xs => obtain ⟨vs, _, q⟩ := q; exact .base (.lst q)
    · cases h
theorem tyB_of {ι : List Addr} {H : Hp} {S : Store} {x : Val} {u : V} {T : String} (hh : RH K ι H S) (r : RV K ι H x u) (h : tyN x S = some T) : TyB K H u T := by
  cases r with
  | non => cases h; exact .non
  | bl b => cases h; exact .bl b
  | int i => cases h; exact .int i
  | str z => cases h; exact .str z
  | ty n => cases h
  | tup ha ra => cases h; exact .tup ha
  | kl ha ra => cases h; exact .lst ha.sq
  | ref hn =>
    rename_i n a
    have h : (match S[n]? with | some _ => some "list" | none => none) = some T := h
    split at h
    · rename_i c ec
      cases h
      obtain ⟨vs, _, q⟩ := (hh.ok _ _ _ hn ec).sq
      exact .lst q
    · cases h
theorem ok_isi : OKA K (rIsi K) bIsi := by
  intro cv ι H S xs us W Q hh rx q
  unfold bIsi at q
  split at q
  · rename_i x U
    split at q
    · rename_i T eT
      split at q
      · rename_i hU
        cases rx with
        | cons r1 rr =>
          cases rr with
          | cons r2 rr =>
            cases rr
            cases r2
            exact ⟨_, _, _, _, isT T U, rfl, .ty U, tyX_of hh r1 eT, kit_ty (kit_known T (tyN_known eT) U hU), q ι H _ .refl hh (.bl _)⟩
      · exact q.elim
    · exact q.elim
  · exact q.elim
theorem ok_type : OKA K (rTyp K) bType := by
  intro cv ι H S xs us W Q hh rx q
  unfold bType at q
  split at q
  · rename_i x
    split at q
    · rename_i T eT
      cases rx with
      | cons r1 rr =>
        cases rr
        exact ⟨_, T, rfl, tyB_of hh r1 eT, q ι H _ .refl hh (.ty _)⟩
    · exact q.elim
  · exact q.elim
theorem ok_len : OKA K (fun xs H Q => ∃ x n, xs = [x] ∧ LenV K x H n ∧ Q (.int n) H) bLen := by
  intro cv ι H S xs us W Q hh rx q
  unfold bLen at q
  split at q
  · rename_i ys
    cases rx with
    | cons r1 rr =>
      cases rr
      cases r1 with
      | tup ha ra => exact ⟨_, _, rfl, .inr ⟨_, ha, rfl⟩, q ι H _ .refl hh (by rw [← ra.length]; exact .int _)⟩
  · rename_i n
    split at q
    · rename_i c ec
      cases rx with
      | cons r1 rr =>
        cases rr
        cases r1 with
        | ref hn =>
          obtain ⟨vs, rr, hq⟩ := (hh.ok _ _ _ hn ec).sq
          exact ⟨_, _, rfl, .inl ⟨_, hq, rfl⟩, q ι H _ .refl hh (by rw [← rr.length]; exact .int _)⟩
    · exact q.elim
  · rename_i z
    split at q
    · rename_i hl
      cases rx with
      | cons r1 rr =>
        cases rr
        cases r1
        exact ⟨_, _, rfl, ⟨by rw [sizeLine_eq]; exact hl, rfl⟩, q ι H _ .refl hh (.int _)⟩
    · exact q.elim
  · rename_i ys
    cases rx with
    | cons r1 rr =>
      cases rr
      cases r1 with
      | kl ha ra => exact ⟨_, _, rfl, .inl ⟨_, ha.sq, rfl⟩, q ι H _ .refl hh (by rw [← ra.length]; exact .int _)⟩
  · exact q.elim
theorem ok_int : OKA K (fun xs H Q => (∃ i, xs = [.int i] ∧ Q (.int i) H) ∨ ∃ k, xs = [.bl k] ∧ Q (.int (if k then 1 else 0)) H) bInt := by
  intro cv ι H S xs us W Q hh rx q
  unfold bInt at q
  split at q
  · cases rx with
    | cons r1 rr =>
      cases rr
      cases r1
      exact .inl ⟨_, rfl, q ι H _ .refl hh (.int _)⟩
  · cases rx with
    | cons r1 rr =>
      cases rr
      cases r1
      exact .inr ⟨_, rfl, q ι H _ .refl hh (.int _)⟩
  · exact q.elim
theorem ok_tuple : OKA K (fun xs H Q => ∃ p ys, xs = [.ref p] ∧ ((SqL K H p ys ∧ ∀ l, H l = none → Q (.ref l) (upd H l (.tup ys))) ∨ (SqT K H p ys ∧ Q (.ref p) H))) bTuple := by
  intro cv ι H S xs us W Q hh rx q
  unfold bTuple at q
  split at q
  · split at q
    · rename_i c ec
      cases rx with
      | cons r1 rr =>
        cases rr
        cases r1 with
        | ref hn =>
          obtain ⟨vs, rr, hq⟩ := (hh.ok _ _ _ hn ec).sq
          exact ⟨_, vs, rfl, .inl ⟨hq, fun l hl => q _ _ _ (Ext.fresh hl) (hh.fresh hl) (.tup (SqT.of upd_same) (rr.ext (Ext.fresh hl)))⟩⟩
    · exact q.elim
  · cases rx with
    | cons r1 rr =>
      cases rr
      cases r1 with
      | tup ha ra => exact ⟨_, _, rfl, .inr ⟨ha, q ι H _ .refl hh (.tup ha ra)⟩⟩
  · exact q.elim
theorem rvs_bools {ι : List Addr} {H : Hp} : ∀ {xs : List Val} {vs : List V} {bs : List Bool}, RVs K ι H xs vs → allSome (xs.map asB) = some bs → vs = bs.map V.bl
  | _, _, _, .nil, h => by cases h; rfl
  | x :: xs, _, _, .cons r rr, h => by
    rw [List.map_cons] at h
    unfold allSome at h
    split at h
    · rename_i a as e1 e2
      cases h
      have := rvs_bools rr e2
      cases r <;> first | (cases e1; rw [this]; rfl) | cases e1
    · cases h
theorem rvs_ints {ι : List Addr} {H : Hp} : ∀ {xs : List Val} {vs : List V} {bs : List Int}, RVs K ι H xs vs → allSome (xs.map asI) = some bs → vs = bs.map V.int
  | _, _, _, .nil, h => by cases h; rfl
  | x :: xs, _, _, .cons r rr, h => by
    rw [List.map_cons] at h
    unfold allSome at h
    split at h
    · rename_i a as e1 e2
      cases h
      have := rvs_ints rr e2
      cases r <;> first | (cases e1; rw [this]; rfl) | cases e1
    · cases h
theorem ok_all : OKA K (rAll K) bAll := by
  intro cv ι H S xs us W Q hh rx q
  unfold bAll at q
  split at q
  · split at q
    · rename_i c ec
      split at q
      · rename_i bs eb
        cases rx with
        | cons r1 rr =>
          cases rr
          cases r1 with
          | ref hn =>
            obtain ⟨vs, rr, hq⟩ := (hh.ok _ _ _ hn ec).sq
            have e := rvs_bools rr eb
            subst e
            exact ⟨_, bs, rfl, hq, q ι H _ .refl hh (.bl _)⟩
      · exact q.elim
    · exact q.elim
  · exact q.elim
theorem ok_sum : OKA K (rSum K) bSum := by
  intro cv ι H S xs us W Q hh rx q
  unfold bSum at q
  split at q
  · split at q
    · rename_i c ec
      split at q
      · rename_i bs eb
        cases rx with
        | cons r1 rr =>
          cases rr
          cases r1 with
          | ref hn =>
            obtain ⟨vs, rr, hq⟩ := (hh.ok _ _ _ hn ec).sq
            have e := rvs_ints rr eb
            subst e
            exact ⟨_, bs, rfl, hq, q ι H _ .refl hh (.int _)⟩
      · exact q.elim
    · exact q.elim
  · exact q.elim
theorem ok_max2 : OKA K (fun xs H Q => ∃ i j, xs = [.int i, .int j] ∧ Q (.int (if j > i then j else i)) H) bMax2 := by
  intro cv ι H S xs us W Q hh rx q
  unfold bMax2 at q
  split at q
  · cases rx with
    | cons r1 rr =>
      cases rr with
      | cons r2 rr =>
        cases rr
        cases r1
        cases r2
        exact ⟨_, _, rfl, q ι H _ .refl hh (.int _)⟩
  · exact q.elim
theorem ok_min2 : OKA K (fun xs H Q => ∃ i j, xs = [.int i, .int j] ∧ Q (.int (if j < i then j else i)) H) bMin2 := by
  intro cv ι H S xs us W Q hh rx q
  unfold bMin2 at q
  split at q
  · cases rx with
    | cons r1 rr =>
      cases rr with
      | cons r2 rr =>
        cases rr
        cases r1
        cases r2
        exact ⟨_, _, rfl, q ι H _ .refl hh (.int _)⟩
  · exact q.elim
end
/-! ### in, not in -/
def oInB (x y : Val) (S : Store) : Option Bool := match toD 66 S x, toD 66 S y with
  | some d, some (.list ds) => if SeqAt.shaped d = true ∧ SeqAt.shaped (.list ds) = true then some (ds.any fun z => PyData.eqv z d) else none
  | some d, some (.tuple ds) => if SeqAt.shaped d = true ∧ SeqAt.shaped (.tuple ds) = true then some (ds.any fun z => PyData.eqv z d) else none
  | _, _ => none
def oIn : Op2 := fun x y S => match oInB x y S with
  | some b => okB b S
  | none => .stuck
def oNotIn : Op2 := fun x y S => match oInB x y S with
  | some b => okB (!b) S
  | none => .stuck
def rInDT (K : PySem.W.Frag) (neg : Bool) : L2.R2 := fun x y H Q => ∃ d ds, Dp K H x d ∧ Dp K H y (.tuple ds) ∧ SeqAt.shaped d = true ∧ SeqAt.shaped (.tuple ds) = true ∧ Q (.bl (neg != (ds.any fun z => PyData.eqv z d))) H
section
variable {X : Cx}
theorem room_tup {A : Around} {xs : List PyData} {d : PyData} (hd : SeqAt.shaped d = true) (hu : A.units + 65 < cLine) : A.units + 1 + min (PyData.depthAll xs) d.depth < cLine := by
  have h1 : d.depth ≤ 64 := by
    have := hd
    unfold SeqAt.shaped at this
    rw [Bool.and_eq_true] at this
    exact of_decide_eq_true this.2
  omega
theorem op_inDT (hu : X.A.units + 65 < cLine) : OpR X (compareOp .In) (rInDT X.K false) := by
  intro pins s σ H x y v u Q I rx ry h
  obtain ⟨d, ds, hd, he, sd, se, q⟩ := h
  obtain ⟨as, r1⟩ := Dp.reads I d x v hd rx
  obtain ⟨bs, r2⟩ := Dp.reads I (.tuple ds) y u he ry
  exact SeqAt.in_tuple_reads r2 r1 (SeqAt.canLay_of_shaped se) (SeqAt.canLay_of_shaped sd) (room_tup sd hu) ⟨.bl _, H, I, rfl, by simpa using q⟩
theorem op_notInDT (hu : X.A.units + 65 < cLine) : OpR X (compareOp .NotIn) (rInDT X.K true) := by
  intro pins s σ H x y v u Q I rx ry h
  obtain ⟨d, ds, hd, he, sd, se, q⟩ := h
  obtain ⟨as, r1⟩ := Dp.reads I d x v hd rx
  obtain ⟨bs, r2⟩ := Dp.reads I (.tuple ds) y u he ry
  exact SeqAt.notIn_tuple_reads r2 r1 (SeqAt.canLay_of_shaped se) (SeqAt.canLay_of_shaped sd) (room_tup sd hu) ⟨.bl _, H, I, rfl, by simpa using q⟩
theorem op_inA (hu : X.A.units + 65 < cLine) : OpR X (compareOp .In) (rOr (rInD X.K) (rInDT X.K false)) := (op_inD hu).or (op_inDT hu)
theorem op_notInA (hu : X.A.units + 65 < cLine) : OpR X (compareOp .NotIn) (rOr (rNotInD X.K) (rInDT X.K true)) := (op_notInD hu).or (op_notInDT hu)
end
section
variable {K : PySem.W.Frag}
theorem inB_ok {ι : List Addr} {H : Hp} {S : Store} {x y : Val} {u v : V} {b : Bool} (hh : RH K ι H S) (rx : RV K ι H x u) (ry : RV K ι H y v) (h : oInB x y S = some b) :
    ∃ d ds, Dp K H u d ∧ SeqAt.shaped d = true ∧ (ds.any fun z => PyData.eqv z d) = b ∧ ((Dp K H v (.list ds) ∧ SeqAt.shaped (.list ds) = true) ∨ (Dp K H v (.tuple ds) ∧ SeqAt.shaped (.tuple ds) = true)) := by
  unfold oInB at h
  split at h
  · rename_i d ds e1 e2
    split at h
    · rename_i hs
      cases h
      exact ⟨d, ds, toD_dp hh _ _ _ _ rx e1, hs.1, rfl, .inl ⟨toD_dp hh _ _ _ _ ry e2, hs.2⟩⟩
    · cases h
  · rename_i d ds e1 e2
    split at h
    · rename_i hs
      cases h
      exact ⟨d, ds, toD_dp hh _ _ _ _ rx e1, hs.1, rfl, .inr ⟨toD_dp hh _ _ _ _ ry e2, hs.2⟩⟩
    · cases h
  · cases h
theorem ok_in : OK2 K (rOr (rInD K) (rInDT K false)) oIn := by
  intro cv ι H S x y u v W Q hh rx ry q
  unfold oIn at q
  split at q
  · rename_i b hb
    obtain ⟨d, ds, h1, h2, h3, h4 | h4⟩ := inB_ok hh rx ry hb
    · exact .inl ⟨d, ds, h1, h4.1, h2, h4.2, by rw [h3]; exact q ι H _ .refl hh (.bl _)⟩
    · exact .inr ⟨d, ds, h1, h4.1, h2, h4.2, by rw [h3]; simpa using q ι H _ .refl hh (.bl _)⟩
  · exact q.elim
theorem ok_notIn : OK2 K (rOr (rNotInD K) (rInDT K true)) oNotIn := by
  intro cv ι H S x y u v W Q hh rx ry q
  unfold oNotIn at q
  split at q
  · rename_i b hb
    obtain ⟨d, ds, h1, h2, h3, h4 | h4⟩ := inB_ok hh rx ry hb
    · exact .inl ⟨d, ds, h1, h4.1, h2, h4.2, by rw [h3]; exact q ι H _ .refl hh (.bl _)⟩
    · exact .inr ⟨d, ds, h1, h4.1, h2, h4.2, by rw [h3]; simpa using q ι H _ .refl hh (.bl _)⟩
  · exact q.elim
end
end PD

/-! ## PDComp -/
set_option Elab.async false
set_option linter.all false
set_option maxRecDepth 100000
set_option maxHeartbeats 2000000
namespace PD
open PySem PySem.Spec L2

/-! ### comprehensions -/
def noX {α : Type} (r : Res α) : Res α := match r with
  | .exc _ _ => .stuck
  | r => r
abbrev Src := Nat → Store → Option (Option Val)
def srcL (xs : List Val) : Src := fun i _ => some xs[i]?
def srcC (n : Nat) : Src := fun i S => match S[n]? with
  | some c => some c.items[i]?
  | none => none
def wipeE (ρ : PD.Env) : List Nat → PD.Env
  | [] => ρ
  | v :: vs => (wipeE ρ vs).set v none
def compG (src : Src) (t : TgD) (c : DT) (f : D) : Nat → Nat → List Val → PD.Env → Store → Res (List Val)
  | 0, i, acc, ρ, S => match src i S with
    | some none => .ok acc S
    | _ => .stuck
  | m + 1, i, acc, ρ, S => match src i S with
    | none => .stuck
    | some none => .ok acc S
    | some (some x) => match t x ρ with
      | none => .stuck
      | some ρ1 => (noX (c ρ1 S)).bind fun b S1 => if b = true then (noX (f ρ1 S1)).bind fun y S2 => if acc.length < 16777216 then compG src t c f m (i + 1) (acc ++ [y]) ρ S2 else .stuck
          else compG src t c f m (i + 1) acc ρ S1
def tYes' : DT := fun _ S => .ok true S
def dLCC (f : D) (t : TgD) (c : DT) (e : D) (vs : List Nat) : D := fun ρ S => (f ρ S).bind fun x S1 => match x with
  | .ref n => match S1[n]? with
    | some cc => (compG (srcC n) t c e cc.items.length 0 [] (wipeE ρ vs) S1).bind alloc
    | none => .stuck
  | _ => .stuck
def dLCT (f : D) (t : TgD) (c : DT) (e : D) (vs : List Nat) : D := fun ρ S => (f ρ S).bind fun x S1 => match x with
  | .tup xs => (compG (srcL xs) t c e xs.length 0 [] (wipeE ρ vs) S1).bind alloc
  | _ => .stuck
def dLCR (g : DA) (t : TgD) (c : DT) (e : D) (vs : List Nat) : D := fun ρ S => (g ρ S).bind fun xs S1 => match xs with
  | [.int j] => if -(2 ^ 62) ≤ j ∧ j < 2 ^ 62 then (compG (srcL (rangeV 0 j.toNat)) t c e j.toNat 0 [] (wipeE ρ vs) S1).bind alloc else .stuck
  | _ => .stuck
section
variable {K : PySem.W.Frag} {ι ι' : List Addr} {H H' : Hp} {S : Store} {ρ : PD.Env} {σ : L2.St}
theorem wipe_rs (h : RS K ι H ρ σ) : ∀ vs : List Nat, RS K ι H (wipeE ρ vs) (wipe σ vs)
  | [] => h
  | v :: vs => by
    have q := wipe_rs h vs
    refine ⟨by show ((wipeE ρ vs).set v none).length = ((wipe σ vs).set v none).length; simp [q.1], fun i x e => ?_⟩
    have e : ((wipeE ρ vs).set v none)[i]? = some (some x) := e
    by_cases hi : v = i
    · subst hi
      by_cases hl : v < (wipeE ρ vs).length
      · rw [List.getElem?_set_self hl] at e; cases e
      · rw [List.getElem?_eq_none (by simp; omega)] at e; cases e
    · rw [List.getElem?_set_ne hi] at e
      obtain ⟨u, a, b⟩ := q.2 i x e
      refine ⟨u, ?_, b⟩
      show ((wipe σ vs).set v none)[i]? = _
      rw [List.getElem?_set_ne hi]; exact a
/-- a list that is no cell yet is written -/
theorem Ext.side {D : Addr} {vs ws : List V} {ι1 : List Addr} {H1 : Hp} (e : Ext ι1 H1 ι H) (h1 : H1 D = none) (hd : H D = some (.lst vs)) : Ext ι1 H1 ι (upd H D (.lst ws)) := by
  refine ⟨e.pre, fun a o q n => ?_, e.new, fun a us q => ?_, fun a o u q => ?_⟩
  · rw [upd_ne (ne_of_none q h1)]; exact e.fr a o q n
  · rcases e.tp a us q with q | ⟨u, q⟩
    · exact .inl (by rw [upd_ne (ne_of q hd (by intro z; cases z))]; exact q)
    · exact .inr ⟨u, by rw [upd_ne (ne_of q hd (by intro z; cases z))]; exact q⟩
  · have q := e.fz a o u q
    rw [upd_ne (ne_of q hd (by intro z; cases z))]; exact q
mutual
theorem RV.carry (hg : ∀ (n : Nat) (a : Addr), ι[n]? = some a → ι'[n]? = some a) (ht : ∀ a vs, SqT K H a vs → SqT K H' a vs) (hl : ∀ a vs, RoL K H a vs → RoL K H' a vs) : ∀ {x : Val} {v : V}, RV K ι H x v → RV K ι' H' x v
  | _, _, .non => .non
  | _, _, .bl b => .bl b
  | _, _, .int i => .int i
  | _, _, .str x => .str x
  | _, _, .tup h r => .tup (ht _ _ h) (RVs.carry hg ht hl r)
  | _, _, .ref h => .ref (hg _ _ h)
  | _, _, .ty n => .ty n
  | _, _, .kl h r => .kl (hl _ _ h) (RVs.carry hg ht hl r)
theorem RVs.carry (hg : ∀ (n : Nat) (a : Addr), ι[n]? = some a → ι'[n]? = some a) (ht : ∀ a vs, SqT K H a vs → SqT K H' a vs) (hl : ∀ a vs, RoL K H a vs → RoL K H' a vs) : ∀ {xs : List Val} {vs : List V}, RVs K ι H xs vs → RVs K ι' H' xs vs
  | _, _, .nil => .nil
  | _, _, .cons h r => .cons (RV.carry hg ht hl h) (RVs.carry hg ht hl r)
end
theorem sqT_side {D : Addr} {vs ws : List V} (hd : H D = some (.lst vs)) (a : Addr) (us : List V) (h : SqT K H a us) : SqT K (upd H D (.lst ws)) a us := by
  rcases h with (h | ⟨o, h⟩) | h
  · exact .inl (.inl (by rw [upd_ne (ne_of h hd (by intro z; cases z))]; exact h))
  · exact .inl (.inr ⟨o, by rw [upd_ne (ne_of h hd (by intro z; cases z))]; exact h⟩)
  · exact .inr h
theorem roL_side {D : Addr} {vs ws : List V} (hd : H D = some (.lst vs)) (a : Addr) (us : List V) (h : RoL K H a us) : RoL K (upd H D (.lst ws)) a us := by
  rcases h with ⟨o, h⟩ | h
  · exact .inl ⟨o, by rw [upd_ne (ne_of h hd (by intro z; cases z))]; exact h⟩
  · exact .inr h
theorem RV.side {D : Addr} {vs ws : List V} (hd : H D = some (.lst vs)) {x : Val} {v : V} (r : RV K ι H x v) : RV K ι (upd H D (.lst ws)) x v := r.carry (fun _ _ h => h) (sqT_side hd) (roL_side hd)
theorem RVs.side {D : Addr} {vs ws : List V} (hd : H D = some (.lst vs)) {x : List Val} {v : List V} (r : RVs K ι H x v) : RVs K ι (upd H D (.lst ws)) x v := r.carry (fun _ _ h => h) (sqT_side hd) (roL_side hd)
theorem RS.side {D : Addr} {vs ws : List V} (hd : H D = some (.lst vs)) (h : RS K ι H ρ σ) : RS K ι (upd H D (.lst ws)) ρ σ := ⟨h.1, fun i x e => by
  obtain ⟨u, a, b⟩ := h.2 i x e
  exact ⟨u, a, b.side hd⟩⟩
theorem RH.side {D : Addr} {vs ws : List V} (hh : RH K ι H S) (hn : D ∉ ι) (hd : H D = some (.lst vs)) : RH K ι (upd H D (.lst ws)) S := by
  refine ⟨hh.len, fun n a c e1 e2 => ?_, hh.nd⟩
  have na : a ≠ D := fun z => hn (z ▸ List.mem_of_getElem? e1)
  have q := hh.ok n a c e1 e2
  cases c with
  | lst xs =>
    obtain ⟨us, r, q⟩ := q
    exact ⟨us, r.side hd, by rw [upd_ne na]; exact q⟩
theorem RH.adopt {D : Addr} {xs : List Val} {vs : List V} (hh : RH K ι H S) (hn : D ∉ ι) (hd : H D = some (.lst vs)) (r : RVs K ι H xs vs) : RH K (ι ++ [D]) H (S ++ [.lst xs]) := by
  have hg : ∀ (n : Nat) (a : Addr), ι[n]? = some a → (ι ++ [D])[n]? = some a := fun n a h => by
    rw [List.getElem?_append_left (List.getElem?_eq_some_iff.mp h).1]; exact h
  have cas : ∀ (n : Nat) (a : Addr) (c : Cell), (ι ++ [D])[n]? = some a → (S ++ [.lst xs])[n]? = some c → (ι[n]? = some a ∧ S[n]? = some c) ∨ (n = ι.length ∧ D = a ∧ c = .lst xs) := fun n a c e1 e2 => by
    rcases get_append_some e1 with e1 | ⟨rfl, rfl⟩
    · rcases get_append_some e2 with e2 | ⟨rfl, rfl⟩
      · exact .inl ⟨e1, e2⟩
      · exact absurd (List.getElem?_eq_some_iff.mp e1).1 (by rw [hh.len]; exact Nat.lt_irrefl _)
    · rcases get_append_some e2 with e2 | ⟨_, rfl⟩
      · exact absurd (List.getElem?_eq_some_iff.mp e2).1 (by rw [hh.len]; exact Nat.lt_irrefl _)
      · exact .inr ⟨rfl, rfl, rfl⟩
  refine ⟨by simp [hh.len], fun n a c e1 e2 => ?_, fun n m a e1 e2 => ?_⟩
  · rcases cas n a c e1 e2 with ⟨e1, e2⟩ | ⟨_, rfl, rfl⟩
    · have q := hh.ok n a c e1 e2
      cases c with
      | lst ys => obtain ⟨us, r, q⟩ := q; exact ⟨us, r.carry hg (fun _ _ h => h) fun _ _ h => h, q⟩
    · exact ⟨vs, r.carry hg (fun _ _ h => h) fun _ _ h => h, hd⟩
  · rcases get_append_some e1 with e1 | ⟨a1, b1⟩ <;> rcases get_append_some e2 with e2 | ⟨a2, b2⟩
    · exact hh.nd n m a e1 e2
    · exact absurd (List.mem_of_getElem? e1) (by rw [← b2]; exact hn)
    · exact absurd (List.mem_of_getElem? e2) (by rw [← b1]; exact hn)
    · rw [a1, a2]
theorem Ext.adopt {D : Addr} {ι1 : List Addr} {H1 : Hp} (e : Ext ι1 H1 ι H) (h1 : H1 D = none) : Ext ι1 H1 (ι ++ [D]) H := by
  refine ⟨e.pre.trans (List.prefix_append _ _), e.fr, fun a h n => ?_, e.tp, e.fz⟩
  rcases List.mem_append.mp h with z | z
  · exact e.new a z n
  · rw [List.mem_singleton.mp z]; exact h1
/-- where an own list stands behind a step -/
theorem Ext.own {D : Addr} {vs : List V} (e : Ext ι H ι' H') (hn : D ∉ ι) (hd : H D = some (.lst vs)) : D ∉ ι' ∧ H' D = some (.lst vs) := by
  refine ⟨fun z => ?_, e.fr D _ hd hn⟩
  have := e.new D z hn
  rw [hd] at this; cases this
theorem FinG.noX {Γ : Cfg} {α β : Type} {R : List Addr → Hp → α → β → Prop} {W W' : Value → Option Addr → Hp → Prop} {Q : β → Hp → Prop} {r : Res α} (h : FinG Γ R W ι H Q (PD.noX r)) : FinG Γ R W' ι H Q r := by
  cases r with
  | exc e S => exact h.elim
  | _ => exact h
theorem noX_bind {Γ : Cfg} {α β γ δ : Type} {R : List Addr → Hp → α → β → Prop} {R2 : List Addr → Hp → γ → δ → Prop} {W W' : Value → Option Addr → Hp → Prop} {Q : δ → Hp → Prop} {Q' : β → Hp → Prop} {r : Res α} {k : α → Store → Res γ} (h : FinG Γ R2 W ι H Q ((PD.noX r).bind k))
    (hk : ∀ x S1 ι1 H1 v, Ext ι H ι1 H1 → RH Γ.K ι1 H1 S1 → R ι1 H1 x v → FinG Γ R2 W ι1 H1 Q (k x S1) → Q' v H1) : FinG Γ R W' ι H Q' r := by
  cases r with
  | ok x S => exact fun ι1 H1 v e a b => hk x S ι1 H1 v e a b (FinG.weak e h)
  | exc x S => exact h.elim
  | stuck => exact h
theorem noX_bind0 {Γ : Cfg} {α β γ δ : Type} {R : List Addr → Hp → α → β → Prop} {R2 : List Addr → Hp → γ → δ → Prop} {W W' : Value → Option Addr → Hp → Prop} {Q : δ → Hp → Prop} {Q' : β → Hp → Prop} {r : Res α} {k : α → Store → Res γ} (h : FinG Γ R2 W ι H Q ((PD.noX r).bind k))
    (hk : ∀ x S1 ι1 H1 v, Ext ι' H' ι1 H1 → RH Γ.K ι1 H1 S1 → R ι1 H1 x v → FinG Γ R2 W ι H Q (k x S1) → Q' v H1) : FinG Γ R W' ι' H' Q' r := by
  cases r with
  | ok x S => exact fun ι1 H1 v e a b => hk x S ι1 H1 v e a b h
  | exc x S => exact h.elim
  | stuck => exact h.elim
end
section
variable {X : Cx} {cv : Nat → Value} {W : WX}
abbrev W0 : WX := fun _ _ _ _ => False
/-- what the source hands out -/
structure SrcOk (X : Cx) (src : Src) (J : It) (Ok : List Addr → Hp → Prop) : Prop where
  ext : ∀ ι H ι' H', Ok ι H → Ext ι H ι' H' → Ok ι' H'
  side : ∀ ι H (D : Addr) (vs ws : List V), Ok ι H → H D = some (.lst vs) → Ok ι (upd H D (.lst ws))
  stop : ∀ i ι H S, Ok ι H → RH X.K ι H S → src i S = some none → J.stop i H
  go : ∀ i ι H S x, Ok ι H → RH X.K ι H S → src i S = some (some x) → J.go i H
  yld : ∀ i ι H S x y H', Ok ι H → RH X.K ι H S → src i S = some (some x) → J.yld i H y H' → H' = H ∧ RV X.K ι H x y
theorem bind_assoc {α β γ : Type} (r : Res α) (k : α → Store → Res β) (l : β → Store → Res γ) : (r.bind k).bind l = r.bind fun x S => (k x S).bind l := by
  cases r <;> rfl
theorem comp_core {src : Src} {J : It} {Ok : List Addr → Hp → Prop} {g : TG} {t : TgD} {tt : TT} {te : TE} {c : DT} {f : D} {vs : List Nat} (so : SrcOk X src J Ok) (ht : TgOk X.K g t) (htt : ∀ σ H Q, TDT (Gm X cv) W0 c σ H Q → tt σ H Q) (hte : ∀ σ H Q, TD (Gm X cv) W0 f σ H Q → te σ H Q)
    {ι : List Addr} {H : Hp} {ρ : PD.Env} {σ : L2.St} {S : Store} {WW : Value → Option Addr → Hp → Prop} {Q : VK} (hgw : ∀ v σ H (Q : L2.St → Hp → Prop), g v (wipe σ vs) H Q → g v (wipe σ vs) H fun σ2 H2 => wipe σ2 vs = wipe σ vs ∧ Q σ2 H2)
    (hs : RS X.K ι H ρ σ) (hh : RH X.K ι H S) (h0 : Ok ι H) {m : Nat} (q : Fin (Gm X cv) WW ι H Q ((compG src t c f m 0 [] (wipeE ρ vs) S).bind alloc)) :
    ∀ D, H D = none → ∃ W' : Nat → Nat → Hp → Prop, (∃ m, W' 0 m (upd H D (.lst []))) ∧ ∀ i m H, W' i m H →
      (J.stop i H ∧ Q (.ref D) H) ∨ (J.go i H ∧ ∃ Nx : Hp → Prop, (∀ H', Nx H' → ∃ m', m' < m ∧ W' (i + 1) m' H') ∧ ∀ x H', J.yld i H x H' → g x (wipe σ vs) H' fun σ2 H2 => wipe σ2 vs = wipe σ vs ∧ tt σ2 H2 fun b H3 =>
        if b = true then te σ2 H3 fun y H4 => ∃ acc, H4 D = some (.lst acc) ∧ acc.length < sizeLine ∧ Nx (upd H4 D (.lst (acc ++ [y]))) else Nx H3) := by
  intro D hD
  have hw0 := wipe_rs hs vs
  refine ⟨fun i m H' => ∃ ι' S' acc us, Ext ι H ι' H' ∧ RH X.K ι' H' S' ∧ Ok ι' H' ∧ D ∉ ι' ∧ H' D = some (.lst us) ∧ RVs X.K ι' H' acc us ∧ Fin (Gm X cv) WW ι H Q ((compG src t c f m i acc (wipeE ρ vs) S').bind alloc), ⟨m, ι, S, [], [], Ext.fresh hD, hh.fresh hD, so.ext _ _ _ _ h0 (Ext.fresh hD), fun z => ?_, upd_same, .nil, q⟩, fun i m' H' ⟨ι', S', acc, us, e, hh', h0', nD, hd, ra, q'⟩ => ?_⟩
  · exact hh.trk z hD
  · have rs' := hw0.ext e
    have stop : src i S' = some none → Fin (Gm X cv) WW ι H Q (alloc acc S') → J.stop i H' ∧ Q (.ref D) H' := fun es qa => by
      refine ⟨so.stop i ι' H' S' h0' hh' es, qa _ _ _ (e.adopt hD) (hh'.adopt nD hd ra) (.ref ?_)⟩
      rw [← hh'.len]; simp
    cases m' with
    | zero =>
      unfold compG at q'
      split at q'
      · rename_i es
        exact .inl (stop es q')
      · exact q'.elim
    | succ m' =>
      unfold compG at q'
      split at q'
      · exact q'.elim
      · rename_i es
        exact .inl (stop es q')
      · rename_i x ex
        split at q'
        · exact q'.elim
        · rename_i ρ1 eρ
          refine .inr ⟨so.go i ι' H' S' x h0' hh' ex, fun H2 => ∃ ι' S' acc us, Ext ι H ι' H2 ∧ RH X.K ι' H2 S' ∧ Ok ι' H2 ∧ D ∉ ι' ∧ H2 D = some (.lst us) ∧ RVs X.K ι' H2 acc us ∧ Fin (Gm X cv) WW ι H Q ((compG src t c f m' (i + 1) acc (wipeE ρ vs) S').bind alloc), fun H2 h2 => ⟨m', Nat.lt_succ_self m', h2⟩, fun y H2 hy => ?_⟩
          obtain ⟨rfl, rx⟩ := so.yld i ι' H' S' x y H2 h0' hh' ex hy
          refine hgw _ _ _ _ (ht ι' H2 _ ρ1 (wipe σ vs) x y _ rs' rx eρ fun σ2 hs2 => ?_)
          rw [bind_assoc] at q'
          refine htt σ2 H2 _ ⟨ι', ρ1, S', hs2, hh', noX_bind0 (R := fun _ _ => Eq) q' fun b S1 ι1 H1 b' e1 h1 r1 q1 => ?_⟩
          cases r1
          obtain ⟨nD1, hd1⟩ := e1.own nD hd
          have o1 := so.ext _ _ _ _ h0' e1
          cases b with
          | false => exact ⟨ι1, S1, acc, us, e.trans e1, h1, o1, nD1, hd1, ra.ext e1, q1⟩
          | true =>
            have q1 : Fin (Gm X cv) WW ι H Q (((PD.noX (f ρ1 S1)).bind fun y S2 => if acc.length < 16777216 then compG src t c f m' (i + 1) (acc ++ [y]) (wipeE ρ vs) S2 else .stuck).bind alloc) := q1
            rw [bind_assoc] at q1
            refine hte σ2 H1 _ ⟨ι1, ρ1, S1, hs2.ext e1, h1, noX_bind0 q1 fun y S2 ι2 H2 v e2 h2 r2 q2 => ?_⟩
            obtain ⟨nD2, hd2⟩ := e2.own nD1 hd1
            split at q2
            · rename_i hl
              have ra2 := (ra.ext e1).ext e2
              refine ⟨us, hd2, by rw [← ra.length, sizeLine_eq]; exact hl, ι2, S2, acc ++ [y], us ++ [v], ((e.trans e1).trans e2).side hD hd2, h2.side nD2 hd2, so.side _ _ _ _ _ (so.ext _ _ _ _ o1 e2) hd2, nD2, upd_same, (ra2.append (.cons r2 .nil)).side hd2, q2⟩
            · exact q2.elim
theorem wipe_name {i : Nat} : ∀ (v : V) (σ : L2.St) (H : Hp) (Q : L2.St → Hp → Prop), gName i v (wipe σ [i]) H Q → gName i v (wipe σ [i]) H fun σ2 H2 => wipe σ2 [i] = wipe σ [i] ∧ Q σ2 H2 := fun v σ H Q q => by
  refine ⟨?_, q⟩
  show ((σ.set i none).set i (some v)).set i none = σ.set i none
  rw [List.set_set, List.set_set]
theorem src_list {n : Nat} {a : Addr} : SrcOk X (srcC n) (Itl X.K a) (fun ι _ => ι[n]? = some a) where
  ext := fun ι H ι' H' h e => e.get h
  side := fun _ _ _ _ _ h _ => h
  stop := fun i ι H S h hh q => by
    unfold srcC at q
    split at q
    · rename_i c ec
      obtain ⟨vs, rv, hq⟩ := (hh.ok _ _ _ h ec).sq
      have := Option.some.inj q
      exact ⟨vs, hq, by rw [← rv.length]; exact List.getElem?_eq_none_iff.mp this⟩
    · cases q
  go := fun i ι H S x h hh q => by
    unfold srcC at q
    split at q
    · rename_i c ec
      obtain ⟨vs, rv, hq⟩ := (hh.ok _ _ _ h ec).sq
      obtain ⟨v, ev, _⟩ := rv.get (Option.some.inj q)
      exact ⟨vs, v, hq, ev⟩
    · cases q
  yld := fun i ι H S x y H' h hh q hy => by
    unfold srcC at q
    split at q
    · rename_i c ec
      obtain ⟨vs, rv, hq⟩ := (hh.ok _ _ _ h ec).sq
      obtain ⟨v, ev, r⟩ := rv.get (Option.some.inj q)
      obtain ⟨rfl, hy⟩ := hy
      have := hy vs hq
      rw [ev] at this; cases this
      exact ⟨rfl, r⟩
    · cases q
theorem src_tup {a : Addr} {xs : List Val} {vs : List V} : SrcOk X (srcL xs) (Itt X.K a) (fun ι H => SqT X.K H a vs ∧ RVs X.K ι H xs vs) where
  ext := fun ι H ι' H' h e => ⟨e.sqT h.1, h.2.ext e⟩
  side := fun ι H D us ws h hd => ⟨sqT_side hd _ _ h.1, h.2.side hd⟩
  stop := fun i ι H S h hh q => ⟨vs, h.1, by rw [← h.2.length]; exact List.getElem?_eq_none_iff.mp (Option.some.inj q)⟩
  go := fun i ι H S x h hh q => by
    obtain ⟨v, ev, _⟩ := h.2.get (Option.some.inj q)
    exact ⟨vs, v, h.1, ev⟩
  yld := fun i ι H S x y H' h hh q hy => by
    obtain ⟨v, ev, r⟩ := h.2.get (Option.some.inj q)
    obtain ⟨rfl, hy⟩ := hy
    have := hy vs h.1
    rw [ev] at this; cases this
    exact ⟨rfl, r⟩
theorem src_rng {n : Nat} : SrcOk X (srcL (rangeV 0 n)) (Itr 0 n) (fun _ _ => True) where
  ext := fun _ _ _ _ _ _ => trivial
  side := fun _ _ _ _ _ _ _ => trivial
  stop := fun i ι H S h hh q => by
    have := List.getElem?_eq_none_iff.mp (Option.some.inj q)
    rw [rangeV_length] at this
    exact this
  go := fun i ι H S x h hh q => by
    have := (List.getElem?_eq_some_iff.mp (Option.some.inj q)).1
    rw [rangeV_length] at this
    exact this
  yld := fun i ι H S x y H' h hh q hy => by
    obtain ⟨rfl, rfl⟩ := hy
    have hi := (List.getElem?_eq_some_iff.mp (Option.some.inj q)).1
    rw [rangeV_length] at hi
    have e := Option.some.inj q
    rw [rangeV_get hi] at e
    cases e
    exact ⟨rfl, .int _⟩
variable {elt tg iter : Expr} {ifs : List Expr} {scope : Scope} {own : List (Str × Nat)} {pos spos : Pos} {g : TG} {t : TgD} {c : DT} {e f : D}
theorem pdts_nil : PTs X [] (TDT (Gm X cv) W tYes') := ⟨fun pins s σ H Q I ⟨ι, ρ, S, hs, hh, q⟩ => pts_nil.run pins s σ H Q I (q.here hh rfl)⟩
theorem pdts_one {e : Expr} {t : DT} (h : PT X e (TDT (Gm X cv) W t)) : PTs X [e] (TDT (Gm X cv) W t) := pts_one h
abbrev Wp (g : TG) (vs : List Nat) : Prop := ∀ (v : V) (σ : L2.St) (H : Hp) (Q : L2.St → Hp → Prop), g v (wipe σ vs) H Q → g v (wipe σ vs) H fun σ2 H2 => wipe σ2 vs = wipe σ vs ∧ Q σ2 H2
abbrev tLcD (X : Cx) (cv : Nat → Value) (wi : TI) (g : TG) (c : DT) (e : D) (vs : List Nat) : TE := tLc wi g (TDT (Gm X cv) W0 c) (TD (Gm X cv) W0 e) vs
theorem lcC {vs : List Nat} (ht : TgOk X.K g t) (hw : Wp g vs) (σ : L2.St) (H : Hp) (Q : VK) (h : TD (Gm X cv) W (dLCC f t c e vs) σ H Q) : tLcD X cv (iList X.K (TD (Gm X cv) W f)) g c e vs σ H Q := by
  obtain ⟨ι, ρ, S, hs, hh, q⟩ := h
  refine ⟨ι, ρ, S, hs, hh, FinG.bind q fun x S1 ι1 H1 u e1 h1 r1 q1 => ?_⟩
  cases r1 with
  | ref hn =>
    rename_i n a
    have q1 : Fin (Gm X cv) (fun c d H' => W c d σ H') ι1 H1 Q (match S1[n]? with | some cc => (compG (srcC n) t c e cc.items.length 0 [] (wipeE ρ vs) S1).bind alloc | none => .stuck) := q1
    split at q1
    · rename_i cc ec
      obtain ⟨us, rv, hq⟩ := (h1.ok _ _ _ hn ec).sq
      exact ⟨a, rfl, ⟨us, hq⟩, comp_core src_list ht (fun _ _ _ h => h) (fun _ _ _ h => h) hw (hs.ext e1) h1 hn q1⟩
    · exact q1.elim
  | _ => exact q1.elim
theorem lcT {vs : List Nat} (ht : TgOk X.K g t) (hw : Wp g vs) (σ : L2.St) (H : Hp) (Q : VK) (h : TD (Gm X cv) W (dLCT f t c e vs) σ H Q) : tLcD X cv (iTup X.K (TD (Gm X cv) W f)) g c e vs σ H Q := by
  obtain ⟨ι, ρ, S, hs, hh, q⟩ := h
  refine ⟨ι, ρ, S, hs, hh, FinG.bind q fun x S1 ι1 H1 u e1 h1 r1 q1 => ?_⟩
  cases r1 with
  | tup ha ra => exact ⟨_, rfl, ⟨_, ha⟩, comp_core src_tup ht (fun _ _ _ h => h) (fun _ _ _ h => h) hw (hs.ext e1) h1 ⟨ha, ra⟩ q1⟩
  | _ => exact q1.elim
theorem lcR {vs : List Nat} {fa : DA} (ht : TgOk X.K g t) (hw : Wp g vs) (σ : L2.St) (H : Hp) (Q : VK) (h : TD (Gm X cv) W (dLCR fa t c e vs) σ H Q) : tLcD X cv (iRng1 (TDA (Gm X cv) W fa)) g c e vs σ H Q := by
  obtain ⟨ι, ρ, S, hs, hh, q⟩ := h
  refine ⟨ι, ρ, S, hs, hh, FinG.bind q fun xs S1 ι1 H1 us e1 h1 r1 q1 => ?_⟩
  split at q1
  · rename_i j
    split at q1
    · rename_i hj
      cases r1 with
      | cons r1 r2 =>
        cases r1; cases r2
        exact ⟨j, rfl, hj.1, hj.2, comp_core src_rng ht (fun _ _ _ h => h) (fun _ _ _ h => h) hw (hs.ext e1) h1 trivial q1⟩
    · exact q1.elim
  · exact q1.elim
/-- the block's parts -/
structure LcOk (X : Cx) (cv : Nat → Value) (elt tg : Expr) (ifs : List Expr) (scope : Scope) (own : List (Str × Nat)) (g : TG) (t : TgD) (c : DT) (e : D) : Prop where
  ok : BlkOk X.N X.env.scope scope own
  tg : ∀ (s : Shared) (H : Hp) (C : Addr) (cl : List (Str × Addr)) (fp : List Addr), PG (X.blk s H scope (PySem.compEnvC scope cl C X.env) fp) tg g
  tok : TgOk X.K g t
  wp : Wp g (own.map (·.2))
  ifs : ∀ (s : Shared) (H : Hp) (C : Addr) (cl : List (Str × Addr)) (fp : List Addr), PTs (X.blk s H scope (PySem.compEnvC scope cl C X.env) fp) ifs (TDT (Gm X cv) W0 c)
  elt : ∀ (s : Shared) (H : Hp) (C : Addr) (cl : List (Str × Addr)) (fp : List Addr), PE (X.blk s H scope (PySem.compEnvC scope cl C X.env) fp) elt (TD (Gm X cv) W0 e)
theorem pd_lcC (hc : X.calm = true) (hN : X.N.Nodup) (hi : PE X iter (TD (Gm X cv) W f)) (L : LcOk X cv elt tg ifs scope own g t c e) (hs : ∀ x, foldedSetIterable iter X.env x = pure x := by intro _; rfl) :
    PE X (.ListComp elt [⟨tg, iter, ifs, 0⟩] scope pos) (TD (Gm X cv) W (dLCC f t c e (own.map (·.2)))) :=
  (pe_lc hc hN (pi_list hi) L.ok L.tg L.ifs L.elt hs).imp fun σ H Q h => lcC L.tok L.wp σ H Q h
theorem pd_lcT (hc : X.calm = true) (hN : X.N.Nodup) (hi : PE X iter (TD (Gm X cv) W f)) (L : LcOk X cv elt tg ifs scope own g t c e) (hs : ∀ x, foldedSetIterable iter X.env x = pure x := by intro _; rfl) :
    PE X (.ListComp elt [⟨tg, iter, ifs, 0⟩] scope pos) (TD (Gm X cv) W (dLCT f t c e (own.map (·.2)))) :=
  (pe_lc hc hN (pi_tup hi) L.ok L.tg L.ifs L.elt hs).imp fun σ H Q h => lcT L.tok L.wp σ H Q h
theorem pd_lcR {a : Expr} {fa : DA} {p pos2 : Pos} (hc : X.calm = true) (hN : X.N.Nodup) (hgl : Gl X "range") (hm : X.mg "range" = none) (hi : PA X [a] (TDA (Gm X cv) W fa)) (L : LcOk X cv elt tg ifs scope own g t c e)
    (hst : starEach [a] X.env = [(false, eval a X.env)] := by rfl) (hs : ∀ x, foldedSetIterable (.Call (.Name "range" p) [a] [] pos2) X.env x = pure x := by intro _; rfl) :
    PE X (.ListComp elt [⟨tg, .Call (.Name "range" p) [a] [] pos2, ifs, 0⟩] scope pos) (TD (Gm X cv) W (dLCR fa t c e (own.map (·.2)))) :=
  (pe_lc hc hN (pi_range1 hgl hm hi hst) L.ok L.tg L.ifs L.elt hs).imp fun σ H Q h => lcR L.tok L.wp σ H Q h
end
end PD

/-! ## PDEnd -/
set_option Elab.async false
set_option linter.all false
set_option maxRecDepth 100000
set_option maxHeartbeats 2000000
namespace PD
open PySem PySem.Spec L2

/-! ### repr -/
def bRepr : Fn := fun xs S => match xs with
  | [x] => match toD 66 S x with
    | some d => if d.showable = true ∧ SeqAt.shaped d = true ∧ d.shown.length ≤ 16777216 then .ok (.str d.shown) S else .stuck
    | none => .stuck
  | _ => .stuck
def rRepr (K : PySem.W.Frag) : List V → Hp → VK → Prop := fun xs H Q => ∃ x d, xs = [x] ∧ Dp K H x d ∧ d.showable = true ∧ SeqAt.shaped d = true ∧ d.shown.length ≤ sizeLine ∧ Q (.str d.shown) H
theorem ok_repr {K : PySem.W.Frag} : OKA K (rRepr K) bRepr := by
  intro cv ι H S xs us W Q hh rx q
  unfold bRepr at q
  split at q
  · split at q
    · rename_i d ed
      split at q
      · rename_i hc
        cases rx with
        | cons r1 rr =>
          cases rr
          exact ⟨_, d, rfl, toD_dp hh _ _ _ _ r1 ed, hc.1, hc.2.1, by rw [sizeLine_eq]; exact hc.2.2, q ι H _ .refl hh (.str _)⟩
      · exact q.elim
    · exact q.elim
  · exact q.elim
theorem call_reprD {X : Cx} (hgd : X.A.guards = some []) (hu : X.A.units + 65 < cLine) : CallR X (.builtin "repr") (rRepr X.K) := by
  intro pins s σ H xs us Q I r h
  obtain ⟨x, d, rfl, hd, hs, hsh, hz, q⟩ := h
  obtain ⟨u, rfl, rx⟩ := vals1 r
  have fin : ∀ t, EP X pins σ Q (.str d.shown t) { s with toks := s.toks + 1 } := fun t => ⟨.str d.shown, H, I.tok _, ⟨t, rfl⟩, q⟩
  have big : ∀ a, x = .ref a → wpAny (model X.prog X.w) X.A (call (.builtin "repr") [u]) (EP X pins σ Q) X.xe s := fun a e => by
    subst e
    cases rx
    obtain ⟨as, rd⟩ := Dp.reads I d _ _ hd rfl
    have dep : d.depth ≤ 64 := by
      have q := hsh
      unfold SeqAt.shaped at q
      rw [Bool.and_eq_true] at q
      exact of_decide_eq_true q.2
    refine repr_of_reads' rd hs (PyData.noDict_hsm (PyData.hasDict_of_canLay d (SeqAt.canLay_of_shaped hsh))) hgd (by omega) (fun _ _ e => e) (fun h' t tk hk => ?_) hz
    exact ⟨.str d.shown, H, I.kept hk, ⟨t, rfl⟩, q⟩
  cases hd with
  | non => cases rx; exact P.repr_of_none ⟨.str PyData.none.shown, H, I.tok _, ⟨_, rfl⟩, q⟩
  | bl b => cases rx; exact P.repr_of_bool ⟨.str (PyData.bool b).shown, H, I.tok _, ⟨_, by cases b <;> rfl⟩, q⟩
  | int i =>
    obtain ⟨t, rfl⟩ := rx
    exact P.repr_of_int (of_decide_eq_true hs) ⟨.str (PyData.int i).shown, H, I.tok _, ⟨_, rfl⟩, q⟩
  | str z =>
    obtain ⟨t, rfl⟩ := rx
    exact P.repr_of_str ⟨.str (PyData.str z).shown, H, I.tok _, ⟨_, rfl⟩, q⟩ hz
  | lst ha _ => exact big _ rfl
  | tup ha _ => exact big _ rfl

/-! ### the end -/
section
variable {P : Program} {w : World} {K : PySem.W.Frag} {mg mb : Str → Option Value} {k : Nat} {fa a : Addr} {fd : FuncData} {x : Str} {cv : Nat → Value} {F : Fn} {s₁ : Shared} {vs : List Value} {ns : List Int}
abbrev Told (s₁ : Shared) (r : Result) (s' : Shared) : Prop := r = .ok (.ret (.bool true)) ∧ OldK s₁.heap s'.heap ∧ s'.os = s₁.os ∧ PyProof.Rows.AllBare s'.gens
theorem rvs_of_ints {ι : List Addr} {H : Hp} : ∀ ns : List Int, RVs K ι H (ns.map Val.int) (ns.map V.int)
  | [] => .nil
  | n :: r => .cons (.int n) (rvs_of_ints r)
/-- from a heap of which at most the script is tracked -/
theorem law_at (KX : K.In s₁.heap) (hns : s₁.heap.Ns mainGlobals mg) (hb : s₁.heap.Ns builtinsNs mb) (hbb : ∀ x : Str, x ≠ "__name__" → mb x = bootBuiltins x) (hlim : s₁.heap.NoLimit) (hg : s₁.gens = #[])
    (ha : s₁.heap.get? a = some { cls := .type "list", data := .seq vs.toArray }) (hr : Room k callerA)
    (G : ∀ base : Heap, K.In base → base.Ns mainGlobals mg → FnG P w K mg base k fa fd [x] (SpecOf ⟨K, cv⟩ F)) (hbind : ∀ (s : Shared) (u : Value), BindsTo s fd ⟨[u], []⟩ [(x, u)])
    {S : Store} (hT : F [.kl (ns.map Val.int)] [] = .ok (.bl true) S)
    (H : Hp) (hro : RoL K H a (ns.map V.int)) (hok : HOk P w H s₁.heap) (hA : ∀ b, H b ≠ none → b = a) (hfr : ∀ b u, H b = some u → ∃ o xs, u = .frz o (.lst xs)) (hK : H a ≠ none → K.lookup a = none) :
    codeAny (model P w) callerA (.call (.ref fa) ⟨[.ref a], []⟩) (Told s₁) s₁ := by
  have free : ∀ {b : Addr} {o : Obj} {es : Array DictEntry} {ep : Nat}, s₁.heap.get? b = some o → o.data = .dict es ep → H b = none := by
    intro b o es ep e d
    by_cases q : H b = none
    · exact q
    · have := hA b q
      subst this
      rw [ha] at e
      cases e
      cases d
  have keepNs : ∀ {b : Addr} {m : Str → Option Value}, s₁.heap.Ns b m → (hidT s₁.heap H).Ns b m := by
    rintro b m ⟨o, es, ep, e, d, r⟩
    exact ⟨o, es, ep, hidT_get e (free e d), d, r⟩
  have inB : K.In (hidT s₁.heap H) := fun b o e => by
    refine hidT_get (KX b o e) ?_
    by_cases q : H b = none
    · exact q
    · have := hA b q
      subst this
      rw [hK q] at e; cases e
  have md : Mod K mg (hidT s₁.heap H) := ⟨inB, keepNs hns, ⟨mb, keepNs hb, hbb⟩, by
    obtain ⟨mc, h1, h2⟩ := hlim
    exact ⟨mc, keepNs h1, h2⟩⟩
  have env : Env0 P w K mg (hidT s₁.heap H) callerA [] s₁ H :=
    ⟨rfl, md, fun _ _ e => of_hidT e, Nat.le_of_eq (hidT_size _ _), trivial, fun _ z => (nomatch z), hok, .of_eq hg⟩
  have spec : SpecOf ⟨K, cv⟩ F [.ref a] H (fun v _ => v = .bl true) (fun _ _ _ => False) := by
    refine ⟨[], [.kl (ns.map Val.int)], [], .cons (.kl hro (rvs_of_ints ns)) .nil, ⟨rfl, fun n a c e => by simp at e, fun n m a e => by simp at e⟩, ?_⟩
    rw [hT]
    intro ι' H' v e hh r
    cases r; rfl
  refine codeAny_mono ((G _ inB (keepNs hns)).go callerA [] s₁ H ⟨[.ref a], []⟩ [.ref a] [.ref a] _ _ rfl hr env (hbind s₁ (.ref a)) (.cons rfl .nil) spec) fun r s' h => ?_
  rcases r with e | fl
  · obtain ⟨_, _, _, _, _, _, _, _, _, _, _, _, z⟩ := h
    exact z.elim
  · cases fl with
    | ret u =>
      obtain ⟨v, H', os, bare, un, hok', r', q⟩ := h
      have q : v = .bl true := q
      subst q
      cases r'
      refine ⟨rfl, OldK.of_keep fun b o e => ?_, os, bare⟩
      by_cases q : H b = none
      · exact un.keep b o e q (fun z => by cases z) (by simp)
      · obtain ⟨u, hu⟩ := Option.ne_none_iff_exists'.mp q
        obtain ⟨ob, xs, rfl⟩ := hfr b u hu
        have e1 := (hok b _ hu).1
        have e2 := (hok' b _ (un.frzs b ob _ hu)).1
        rw [e] at e1
        cases e1
        exact e2
    | _ => exact h.elim
theorem law_g (KX : K.In s₁.heap) (hns : s₁.heap.Ns mainGlobals mg) (hb : s₁.heap.Ns builtinsNs mb) (hbb : ∀ x : Str, x ≠ "__name__" → mb x = bootBuiltins x) (hlim : s₁.heap.NoLimit) (hg : s₁.gens = #[])
    (ha : s₁.heap.get? a = some { cls := .type "list", data := .seq vs.toArray }) (hi : PyProof.Rows.IntsAre vs ns) (hl : ns.length ≤ sizeLine) (hr : Room k callerA)
    (G : ∀ base : Heap, K.In base → base.Ns mainGlobals mg → FnG P w K mg base k fa fd [x] (SpecOf ⟨K, cv⟩ F)) (hbind : ∀ (s : Shared) (u : Value), BindsTo s fd ⟨[u], []⟩ [(x, u)])
    {S : Store} (hT : F [.kl (ns.map Val.int)] [] = .ok (.bl true) S) : codeAny (model P w) callerA (.call (.ref fa) ⟨[.ref a], []⟩) (Told s₁) s₁ := by
  have rv := vals_ints hi
  cases hk : K.lookup a with
  | some o =>
    have e := KX a o hk
    rw [ha] at e
    cases e
    exact law_at KX hns hb hbb hlim hg ha hr G hbind hT (fun _ => none) (.inr ⟨_, _, _, hk, rfl, rfl, rfl, by rw [List.size_toArray, hi.length]; exact hl, by simpa using rv⟩) (fun _ _ z => by cases z) (fun _ z => absurd rfl z) (fun _ _ z => by cases z) fun z => absurd rfl z
  | none =>
    have only : ∀ b u, (if b = a then some (HO.frz { cls := .type "list", data := .seq vs.toArray } (.lst (ns.map V.int))) else none) = some u → b = a ∧ u = HO.frz { cls := .type "list", data := .seq vs.toArray } (.lst (ns.map V.int)) := fun b u z => by
      split at z
      · rename_i q; cases z; exact ⟨q, rfl⟩
      · cases z
    refine law_at KX hns hb hbb hlim hg ha hr G hbind hT (fun b => if b = a then some (.frz { cls := .type "list", data := .seq vs.toArray } (.lst (ns.map V.int))) else none) (.inl ⟨_, if_pos rfl⟩) (fun b u z => ?_) (fun b z => ?_) (fun b u z => ?_) fun _ => hk
    · obtain ⟨rfl, rfl⟩ := only b u z
      exact ⟨ha, by rw [List.length_map]; exact hl, vs, _, rv, ha⟩
    · obtain ⟨u, hu⟩ := Option.ne_none_iff_exists'.mp z
      exact (only b u hu).1
    · exact ⟨_, _, (only b u z).2⟩
end
theorem walk_g {l : PySem.W.OpenLaw} {n k : Nat} {q : Program} {loose : List Str} {XP : (Str → Option Value) → Heap → Prop} {YP : World → Heap → Prop} {d : DefRec} {K : Params → PySem.W.Frag} {x : Str} {F : Fn}
    (hn : l.most = some n) (hn2 : n ≤ sizeLine) (hdf : d.params.defaults = []) (hr : Room k callerA) (hY : ∀ (w : World) (h : Heap), YP w h → (K w.params).In h)
    (G : ∀ (w : World) (mg : Str → Option Value) (fa : Addr) (h : Heap), (K w.params).In h → h.Ns mainGlobals mg → mg d.name = some (.ref fa) →
      ∃ (fd : FuncData) (cv : Nat → Value), (∀ (s : Shared) (u : Value), BindsTo s fd ⟨[u], []⟩ [(x, u)]) ∧ ∀ base : Heap, (K w.params).In base → base.Ns mainGlobals mg → FnG l.prog w (K w.params) mg base k fa fd [x] (SpecOf ⟨K w.params, cv⟩ F))
    (hT : ∀ ns : List Int, ns.length ≤ n → (∀ z ∈ ns, Builtin.Int.intBits z ≤ 1048576) → ∃ S, F [.kl (ns.map Val.int)] [] = .ok (.bl true) S) : PySem.W.WalkO q loose XP YP l.row.toRowW d [] (fun f vs => PySem.call f vs) := by
  refine Att.attach_callB hn hdf fun w s₀ s₁ mg mb fa o pm cd doc a vs ns Gr Y ho hd hcd hmg hobj hints hlen hbits hg => ?_
  obtain ⟨fd, cv, hb, hF⟩ := G w mg fa _ (hY w _ Y) Gr.T.g hmg
  obtain ⟨S, e⟩ := hT ns hlen hbits
  exact law_g (hY w _ Y) Gr.T.g Gr.T.b Gr.T.builtins Gr.T.nolimit hg hobj hints (Nat.le_trans hlen hn2) hr hF hb e
end PD

/-! ## PDMisc -/
set_option Elab.async false
set_option linter.all false
set_option maxRecDepth 100000
set_option maxHeartbeats 2000000
namespace PD
open PySem PySem.Spec L2

/-! ### xs * n -/
def repV {α : Type} (k : Nat) (xs : List α) : List α := (List.replicate k xs).flatten
def oRepL : Op2 := fun x y S => match x, y with
  | .ref n, .int k => match S[n]? with
    | some (.lst xs) => if -(2 ^ 63) ≤ k ∧ k < 2 ^ 63 ∧ xs.length * k.toNat ≤ 16777216 then alloc (repV k.toNat xs) S else .stuck
    | _ => .stuck
  | _, _ => .stuck
def oRepT : Op2 := fun x y S => match x, y with
  | .tup xs, .int k => if xs ≠ [] ∧ 2 ≤ k ∧ k ≤ 1000000 ∧ xs.length * k.toNat ≤ 1000000 then .ok (.tup (repV k.toNat xs)) S else .stuck
  | _, _ => .stuck
def rRepTB (K : PySem.W.Frag) : L2.R2 := fun x y H Q => ∃ l k xs, x = .ref l ∧ y = .int k ∧ SqT K H l xs ∧ xs ≠ [] ∧ 2 ≤ k ∧ k ≤ 1000000 ∧ xs.length * k.toNat ≤ 1000000 ∧ ∀ p, H p = none → Q (.ref p) (upd H p (.tup (repV k.toNat xs)))
theorem op_repTB {X : Cx} : OpR X (binaryOp .Mult) (rRepTB X.K) := by
  intro pins s σ H x y v u Q I rx ry h
  obtain ⟨l, k, xs, rfl, rfl, hT, hne, h1, h2, hz, q⟩ := h
  cases rx
  obtain ⟨t, rfl⟩ := ry
  obtain ⟨its, r, ⟨⟨cls, dd, data, sl⟩, ho, hc, n, hd⟩, hs⟩ := I.tuple hT
  simp only at hc hd
  subst hc hd
  have len : its.length = xs.length := r.length.symm
  have ne : its ≠ [] := by
    intro e
    rw [e] at len
    exact hne (List.eq_nil_of_length_eq_zero len.symm)
  have em : its.toArray.isEmpty = false := by
    cases its with
    | nil => exact absurd rfl ne
    | cons _ _ => rfl
  have prod : ((its.toArray.size : Nat) : Int) * k = ((xs.length * k.toNat : Nat) : Int) := by
    rw [List.size_toArray, len, Int.natCast_mul]
    congr 1
    omega
  have small : (List.replicate k.toNat its).flatten.length ≤ 1000000 := by
    rw [PyProof.Rows.lm_len_rep_flat, len, Nat.mul_comm]
    exact hz
  have fits : (List.replicate k.toNat its).flatten.length ≤ sizeLine := by
    rw [sizeLine_eq]; omega
  have d0 : (decide (k < -(2 ^ 63)) || decide (k ≥ 2 ^ 63)) = false := by
    simp only [Bool.or_eq_false_iff, decide_eq_false_iff_not]; omega
  have d1 : (its.toArray.isEmpty || k == 1) = false := by
    rw [em]
    simp only [Bool.false_or, beq_eq_false_iff_ne]; omega
  have d2 : (decide (k ≤ 0) || its.toArray.isEmpty) = false := by
    rw [em]
    simp only [Bool.or_false, decide_eq_false_iff_not]; omega
  have d4 : Builtin.Tuple.tupleTooMany (((its.toArray.size : Nat) : Int) * k) = false := by
    rw [prod]
    unfold Builtin.Tuple.tupleTooMany
    rw [sizeLine_eq]
    simp only [decide_eq_false_iff_not]; omega
  have d3 : ¬ ((its.toArray.size : Nat) : Int) * k > (2 ^ 63 - 1) / 8 := by
    rw [prod]; omega
  have step := tuple_mulW l its.toArray n dd sl k t d0 d1 d2 d3 d4 (by rw [size_rep, List.size_toArray]; exact fits)
  have back := int_rmul_tuple k t l its.toArray n dd sl
  refine wpAny_binaryOp_repeat_ref (T := "tuple") (U := "int") (by decide) ⟨_, ho, rfl⟩ (fun s' => typeIs_int s' k t) noFill_tuple_mul F.fills_int_mul F.slot_int_rmul repeat_tuple F.slot_int_index.lookup ?_
  refine call_meets F.slot_int_rmul (typeIs_int s k t) F.entry_int_rmul (F.args_int_rmul_2 _ _) back ⟨ho, rfl, ⟨_, ho, rfl⟩, ?_⟩
  refine call_meets F.slot_tuple_mul ⟨_, ho, rfl⟩ F.entry_tuple_mul (F.args_tuple_mul_2 _ _) step ⟨ho, ?_⟩
  rw [size_rep]
  have vr : Vals (repV k.toNat xs) (List.replicate k.toNat its).flatten := r.rep k.toNat
  refine ⟨.ref s.heap.objs.size, _, I.laid (t' := s.toks) (o := .tup (repV k.toNat xs)) (fun b ob q => Heap.get?_push_of_some _ q) (Nat.le_refl _) ?_, rfl, q _ (I.hok.fresh (Nat.le_refl _))⟩
  exact ⟨by rw [vr.length]; exact fits, _, vr, PyProof.Rows.IsTup.new _ _⟩
section
variable {K : PySem.W.Frag}
theorem RVs.rep {ι : List Addr} {H : Hp} {xs : List Val} {vs : List V} (r : RVs K ι H xs vs) : ∀ n : Nat, RVs K ι H (repV n xs) (repV n vs)
  | 0 => .nil
  | n + 1 => by
    unfold repV
    rw [List.replicate_succ, List.replicate_succ, List.flatten_cons, List.flatten_cons]
    exact r.append (RVs.rep r n)
theorem ok_repL : OK2 K rRep oRepL := by
  intro cv ι H S x y u v W Q hh rx ry q
  cases rx with
  | ref hn =>
    cases ry with
    | int k =>
      rename_i n a
      have q : Fin ⟨K, cv⟩ W ι H Q (match S[n]? with
        | some (.lst xs) => if -(2 ^ 63) ≤ k ∧ k < 2 ^ 63 ∧ xs.length * k.toNat ≤ 16777216 then alloc (repV k.toNat xs) S else .stuck
        | _ => .stuck) := q
      split at q
      · rename_i xs e1
        split at q
        · rename_i hl
          obtain ⟨vs, ra, hv⟩ := hh.ok _ _ _ hn e1
          refine ⟨a, k, vs, rfl, rfl, hv, hl.1, hl.2.1, by rw [← ra.length, sizeLine_eq]; exact hl.2.2, fun p hp => ?_⟩
          refine q _ _ _ (Ext.alloc hp) (hh.alloc hp (ra.rep _)) (.ref ?_)
          rw [← hh.len]; simp
        · exact q.elim
      · exact q.elim
    | _ => exact q.elim
  | _ => exact q.elim
theorem ok_repT : OK2 K (rRepTB K) oRepT := by
  intro cv ι H S x y u v W Q hh rx ry q
  cases rx with
  | tup ha ra =>
    cases ry with
    | int k =>
      rename_i a xs vs
      have q : Fin ⟨K, cv⟩ W ι H Q (if xs ≠ [] ∧ 2 ≤ k ∧ k ≤ 1000000 ∧ xs.length * k.toNat ≤ 1000000 then .ok (.tup (repV k.toNat xs)) S else .stuck) := q
      split at q
      · rename_i hl
        refine ⟨a, k, vs, rfl, rfl, ha, fun e => hl.1 ?_, hl.2.1, hl.2.2.1, by rw [← ra.length]; exact hl.2.2.2, fun p hp => ?_⟩
        · subst e; cases ra; rfl
        · exact q _ _ _ (Ext.fresh hp) (hh.fresh hp) (.tup (SqT.of upd_same) ((ra.rep _).ext (Ext.fresh hp)))
      · exact q.elim
    | _ => exact q.elim
  | _ => exact q.elim
end
/-! ### xs.append(e) -/
def dApp (fo f : D) : D := fun ρ S => (fo ρ S).bind fun o S1 => match o with
  | .ref n => (f ρ S1).bind fun x S2 => match S2[n]? with
    | some (.lst xs) => if xs.length < 16777216 then .ok .non (S2.set n (.lst (xs ++ [x]))) else .stuck
    | _ => .stuck
  | _ => .stuck
section
variable {X : Cx} {cv : Nat → Value} {W : WX} {o e iter tg : Expr} {bs : List Stmt} {pos apos cpos : Pos}
theorem pd_append {fo f : D} (ho : PE X o (TD (Gm X cv) W fo)) (he : PE X e (TD (Gm X cv) W f)) (hm : MtR X "list.append" rAppend)
    (hbase : attributeBase o "append" X.env (eval o X.env) = eval o X.env := by rfl)
    (hfew : ((backTo cpos (starEach [e] X.env)).all (fun x => !x.1) && (backToKw cpos (keywordEach [] X.env)).all (fun x => x.1.isSome)
      && decide ([e].length + ([] : List Keyword).length + (if ([] : List Keyword).isEmpty then 0 else 1) < 30)) = true := by rfl)
    (hline : (apos.endLine == cpos.line) = true := by rfl) (hs : starEach [e] X.env = (false, eval e X.env) :: starEach [] X.env := by rfl) (hplain : (backTo cpos (starEach [] X.env)).any (·.1) = false := by rfl) :
    PE X (.Call (.Attribute o "append" apos) [e] [] cpos) (TD (Gm X cv) W (dApp fo f)) := by
  have pa : PA X [e] (tCons (TD (Gm X cv) W f) tNil) := pa_cons he pa_nil hs
  refine (pe_bm PySem.F.plainAttrs_list PySem.F.slot_list_append PySem.F.type_list_append hm ho pa hbase hfew hline hs hplain).imp fun σ H Q h => ?_
  obtain ⟨ι, ρ, S, hs, hh, q⟩ := h
  refine ⟨ι, ρ, S, hs, hh, FinG.bind q fun ov S1 ι1 H1 u e1 h1 r1 q1 => ?_⟩
  have cell : ∀ n, ov = .ref n → ∃ a, u = .ref a ∧ ι1[n]? = some a := fun n e => by
    subst e; cases r1 with
    | ref hn => exact ⟨_, rfl, hn⟩
  cases ov with
  | ref n =>
    obtain ⟨a, rfl, hn⟩ := cell n rfl
    refine ⟨?_, ι1, ρ, S1, hs.ext e1, h1, FinG.bind q1 fun x S2 ι2 H2 v e2 h2 r2 q2 => ?_⟩
    · have hl : n < S1.length := by rw [← h1.len]; exact (List.getElem?_eq_some_iff.mp hn).1
      obtain ⟨vs, _, hq⟩ := (h1.ok n a _ hn (List.getElem?_eq_getElem hl)).sq
      exact .inl ⟨rfl, _, hq⟩
    · show rAppend (.ref a) [v] H2 Q
      have q2 : Fin (Gm X cv) (fun c d H' => W c d σ H') ι2 H2 Q (match S2[n]? with
        | some (.lst xs) => if xs.length < 16777216 then .ok .non (S2.set n (.lst (xs ++ [x]))) else .stuck
        | _ => .stuck) := q2
      split at q2
      · rename_i xs ex
        split at q2
        · rename_i hl
          have hn2 := e2.get hn
          obtain ⟨vs, rv, hv⟩ := h2.ok _ _ _ hn2 ex
          refine ⟨a, vs, v, rfl, rfl, hv, by rw [← rv.length, sizeLine_eq]; exact hl, ?_⟩
          exact q2 _ _ _ (Ext.write hn2 hv) (h2.write hn2 ex hv (rv.append (.cons r2 .nil))) .non
        · exact q2.elim
      · exact q2.elim
  | _ => exact q1.elim
/-! ### for over a tuple -/
theorem ps_forT' {f : D} {g : TG} {t : TgD} {bd : SD} (hp : PassesOwn (model X.prog X.w) X.A X.env X.xe) (hc : X.calm = true) (he : PE X iter (TD (Gm X cv) W f)) (hg : PG X tg g) (ht : TgOk X.K g t) (hb : PSs X bs (TSD (Gm X cv) W bd)) (hfs : ∀ v, foldedSetIterable iter X.env v = pure v := by intro _; rfl) :
    PS X (.For tg iter bs [] pos) (TSD (Gm X cv) W (sForT f t bd)) :=
  (ps_for hp hc (pi_tup he) hg hb hfs).imp fun D σ H ⟨ι, ρ, S, hs, hh, q⟩ => by
    refine ⟨ι, ρ, S, hs, hh, FinS.bind q hs fun x S1 ι1 H1 u e1 h1 r1 q1 => ?_⟩
    cases r1 with
    | tup ha ra =>
      rename_i a xs vs
      refine ⟨a, rfl, ⟨_, ha⟩, for_vals ht trivial xs (fun ι H => SqT X.K H a vs ∧ RVs X.K ι H xs vs) (fun ι H ι' H' h e => ⟨e.sqT h.1, h.2.ext e⟩) (fun ι H h => ⟨vs, h.1, by rw [h.2.length]; exact Nat.le_refl _⟩) (fun ι H i h hi => ?_) (fun ι H i y H' h hi hy => ?_) (hs.ext e1) h1 ⟨ha, ra⟩ q1⟩
      · obtain ⟨v, ev, _⟩ := h.2.get (List.getElem?_eq_getElem hi)
        exact ⟨vs, v, h.1, ev⟩
      · obtain ⟨v, ev, r⟩ := h.2.get (List.getElem?_eq_getElem hi)
        obtain ⟨rfl, hy⟩ := hy
        have := hy vs h.1
        rw [ev] at this; cases this
        exact ⟨rfl, _, List.getElem?_eq_getElem hi, r⟩
    | _ => exact q1.elim
end
end PD

/-! ## PDWp -/
set_option Elab.async false
set_option linter.all false
set_option maxRecDepth 100000
set_option maxHeartbeats 2000000
namespace PD
open PySem PySem.Spec L2

/-! ### what holds behind a run -/
def Run {α : Type} (r : Res α) (Q : α → Store → Prop) : Prop := match r with
  | .ok a S => Q a S
  | _ => False
def RunS (r : SRes) (N : PD.Env → Store → Prop) (R : Val → Store → Prop) : Prop := match r with
  | .next ρ S => N ρ S
  | .ret v S => R v S
  | _ => False
theorem Run.mono {α : Type} {r : Res α} {Q Q' : α → Store → Prop} (h : Run r Q) (q : ∀ a S, Q a S → Q' a S) : Run r Q' := by
  cases r with
  | ok a S => exact q a S h
  | _ => exact h
theorem Run.to {α : Type} {r : Res α} {Q : α → Store → Prop} (h : Run r Q) : ∃ a S, r = .ok a S ∧ Q a S := by
  cases r with
  | ok a S => exact ⟨a, S, rfl, h⟩
  | _ => exact h.elim
theorem Run.of {α : Type} {r : Res α} {a : α} {S : Store} {Q : α → Store → Prop} (e : r = .ok a S) (h : Q a S) : Run r Q := by rw [e]; exact h
theorem run_ok {α : Type} {a : α} {S : Store} {Q : α → Store → Prop} : Run (.ok a S) Q = Q a S := rfl
theorem run_stuck {α : Type} {Q : α → Store → Prop} : Run (.stuck : Res α) Q = False := rfl
theorem run_bind {α β : Type} {r : Res α} {k : α → Store → Res β} {Q : β → Store → Prop} : Run (r.bind k) Q = Run r fun a S => Run (k a S) Q := by cases r <;> rfl
theorem run_noX {α : Type} {r : Res α} {Q : α → Store → Prop} : Run (noX r) Q = Run r Q := by cases r <;> rfl
theorem run_ite {α : Type} {c : Prop} [Decidable c] {r r' : Res α} {Q : α → Store → Prop} : Run (if c then r else r') Q = if c then Run r Q else Run r' Q := by split <;> rfl
theorem runS_ite {c : Prop} [Decidable c] {r r' : SRes} {N R} : RunS (if c then r else r') N R = if c then RunS r N R else RunS r' N R := by split <;> rfl
theorem runS_toS {α : Type} {r : Res α} {ρ : PD.Env} {k : α → Store → SRes} {N R} : RunS (r.toS ρ k) N R = Run r fun a S => RunS (k a S) N R := by cases r <;> rfl
theorem runS_seq {r : SRes} {k : PD.Env → Store → SRes} {N R} : RunS (r.seq k) N R = RunS r (fun ρ S => RunS (k ρ S) N R) R := by cases r <;> rfl
theorem runS_next {ρ : PD.Env} {S : Store} {N R} : RunS (.next ρ S) N R = N ρ S := rfl
theorem runS_ret {v : Val} {S : Store} {N R} : RunS (.ret v S) N R = R v S := rfl
theorem runS_stuck {N R} : RunS .stuck N R = False := rfl
theorem run_fnOf {n m : Nat} {b : SD} {xs : List Val} {S : Store} {Q : Val → Store → Prop} : Run (fnOf n m b xs S) Q = if xs.length = n then RunS (b (xs.map some ++ List.replicate (m - n) none) S) (fun _ S' => Q .non S') Q else False := by
  unfold fnOf
  split
  · cases b (xs.map some ++ List.replicate (m - n) none) S <;> rfl
  · rfl
section
variable {Q : Val → Store → Prop} {QB : Bool → Store → Prop} {QA : List Val → Store → Prop} {ρ : PD.Env} {S : Store} {f g : D} {t u : DT} {as : DA} {N : PD.Env → Store → Prop} {R : Val → Store → Prop} {b c : SD}
theorem w_c {v : Val} : Run (dC v ρ S) Q = Q v S := rfl
theorem w_op {o : Op2} : Run (dOp o f g ρ S) Q = Run (f ρ S) fun x S1 => Run (g ρ S1) fun y S2 => Run (o x y S2) Q := by
  unfold dOp
  rw [run_bind]
  congr; funext x S1
  rw [run_bind]
theorem w_un {o : Val → Store → Res Val} : Run (dUn o f ρ S) Q = Run (f ρ S) fun x S1 => Run (o x S1) Q := by unfold dUn; rw [run_bind]
theorem w_call {F : Fn} : Run (dCall F as ρ S) Q = Run (as ρ S) fun xs S1 => Run (F xs S1) Q := by unfold dCall; rw [run_bind]
theorem w_callK {F : Fn} {is : List Nat} {n : Nat} : Run (dCallK is n F as ρ S) Q = Run (as ρ S) fun xs S1 => if xs.length = n then Run (F (pick is xs) S1) Q else False := by
  unfold dCallK
  rw [run_bind]
  congr; funext xs S1
  rw [run_ite]; rfl
theorem w_nil : Run (aNil ρ S) QA = QA [] S := rfl
theorem w_cons : Run (aCons f as ρ S) QA = Run (f ρ S) fun x S1 => Run (as ρ S1) fun xs S2 => QA (x :: xs) S2 := by
  unfold aCons
  rw [run_bind]
  congr; funext x S1
  rw [run_bind]; rfl
theorem w_tup : Run (dTup as ρ S) Q = Run (as ρ S) fun xs S1 => xs.length ≤ 16777216 ∧ Q (.tup xs) S1 := by
  unfold dTup
  rw [run_bind]
  congr; funext xs S1
  rw [run_ite]
  by_cases h : xs.length ≤ 16777216
  · rw [if_pos h]; exact propext ⟨fun q => ⟨h, q⟩, fun q => q.2⟩
  · rw [if_neg h]; exact propext ⟨fun q => q.elim, fun q => h q.1⟩
theorem w_lst : Run (dLst as ρ S) Q = Run (as ρ S) fun xs S1 => xs.length ≤ 16777216 ∧ Q (.ref S1.length) (S1 ++ [.lst xs]) := by
  unfold dLst
  rw [run_bind]
  congr; funext xs S1
  rw [run_ite]
  by_cases h : xs.length ≤ 16777216
  · rw [if_pos h]; exact propext ⟨fun q => ⟨h, q⟩, fun q => q.2⟩
  · rw [if_neg h]; exact propext ⟨fun q => q.elim, fun q => h q.1⟩
/-- a value that is a bool, and holds so -/
def IsB (Q : Bool → Store → Prop) (v : Val) (S : Store) : Prop := match v with
  | .bl b => Q b S
  | _ => False
theorem isB_bl {b : Bool} : IsB QB (.bl b) S = QB b S := rfl
theorem w_tval : Run (tVal f ρ S) QB = Run (f ρ S) (IsB QB) := by
  unfold tVal
  rw [run_bind]
  congr; funext x S1
  cases x <;> rfl
theorem w_tand : Run (tAnd' t u ρ S) QB = Run (t ρ S) fun b S1 => if b = true then Run (u ρ S1) QB else QB false S1 := by
  unfold tAnd'
  rw [run_bind]
  congr; funext b S1
  rw [run_ite]; rfl
theorem w_tor : Run (tOr' t u ρ S) QB = Run (t ρ S) fun b S1 => if b = true then QB true S1 else Run (u ρ S1) QB := by
  unfold tOr'
  rw [run_bind]
  congr; funext b S1
  rw [run_ite]; rfl
theorem w_tnot : Run (tNot' t ρ S) QB = Run (t ρ S) fun b S1 => QB (!b) S1 := by unfold tNot'; rw [run_bind]; rfl
theorem w_and : Run (dAnd f g ρ S) Q = Run (f ρ S) (IsB fun b S1 => if b = true then Run (g ρ S1) Q else Q (.bl false) S1) := by
  unfold dAnd
  rw [run_bind]
  congr; funext x S1
  cases x with
  | bl b => cases b <;> rfl
  | _ => rfl
theorem w_or : Run (dOr f g ρ S) Q = Run (f ρ S) (IsB fun b S1 => if b = true then Q (.bl true) S1 else Run (g ρ S1) Q) := by
  unfold dOr
  rw [run_bind]
  congr; funext x S1
  cases x with
  | bl b => cases b <;> rfl
  | _ => rfl
theorem w_not : Run (dNot f ρ S) Q = Run (f ρ S) (IsB fun b S1 => Q (.bl (!b)) S1) := by
  unfold dNot
  rw [run_bind]
  congr; funext x S1
  cases x <;> rfl
theorem w_if : Run (dIf t f g ρ S) Q = Run (t ρ S) fun b S1 => if b = true then Run (f ρ S1) Q else Run (g ρ S1) Q := by
  unfold dIf
  rw [run_bind]
  congr; funext b S1
  rw [run_ite]
theorem s_next : RunS (sNext ρ S) N R = N ρ S := rfl
theorem s_seq : RunS (sSeq b c ρ S) N R = RunS (b ρ S) (fun ρ S => RunS (c ρ S) N R) R := by unfold sSeq; rw [runS_seq]
theorem s_if : RunS (sIf t b c ρ S) N R = Run (t ρ S) fun d S1 => if d = true then RunS (b ρ S1) N R else RunS (c ρ S1) N R := by
  unfold sIf
  rw [runS_toS]
  congr; funext d S1
  rw [runS_ite]
theorem s_ret : RunS (sRet f ρ S) N R = Run (f ρ S) R := by unfold sRet; rw [runS_toS]; rfl
theorem s_drop : RunS (sDrop f ρ S) N R = Run (f ρ S) fun _ S1 => N ρ S1 := by unfold sDrop; rw [runS_toS]; rfl
theorem s_set {i : Nat} : RunS (sSet i f ρ S) N R = Run (f ρ S) fun x S1 => N (ρ.set i (some x)) S1 := by unfold sSet; rw [runS_toS]; rfl
theorem s_par {i j : Nat} : RunS (sPar i j as ρ S) N R = Run (as ρ S) fun xs S1 => match xs with | [x, y] => N ((ρ.set i (some x)).set j (some y)) S1 | _ => False := by
  unfold sPar
  rw [runS_toS]
  congr; funext xs S1
  match xs with
  | [] => rfl
  | [_] => rfl
  | [_, _] => rfl
  | _ :: _ :: _ :: _ => rfl
theorem s_put {fo fi : D} : RunS (sPut fo fi f ρ S) N R = Run (f ρ S) fun x S1 => Run (fo ρ S1) fun o S2 => Run (fi ρ S2) fun i S3 => match setAt o i x S3 with | some S4 => N ρ S4 | none => False := by
  unfold sPut
  rw [runS_toS]
  congr; funext x S1
  rw [runS_toS]
  congr; funext o S2
  rw [runS_toS]
  congr; funext i S3
  cases setAt o i x S3 <;> rfl
theorem s_asg {tg : TgD} : RunS (sAsg tg f ρ S) N R = Run (f ρ S) fun x S1 => match tg x ρ with | some ρ' => N ρ' S1 | none => False := by
  unfold sAsg
  rw [runS_toS]
  congr; funext x S1
  cases tg x ρ <;> rfl
theorem w_var {i : Nat} {v : Val} (h : ρ[i]? = some (some v)) : Run (dVar i ρ S) Q = Q v S := by
  unfold dVar
  rw [h]; rfl
end
end PD

/-! ## PDNew -/
set_option Elab.async false
set_option linter.all false
set_option maxRecDepth 100000
set_option maxHeartbeats 2000000
namespace PD
open PySem PySem.Spec L2

/-! ### a list that is only read + a list -/
theorem list_add_g (l : Addr) (items : Array Value) (n : Nat) (dd : Option Addr) (sl : Array (Option Value)) (b : Addr) (items2 : Array Value) (n2 : Nat) (hc0 : items.size + items2.size ≤ sizeLine) :
    Meets (Builtin.«list.__add__» ⟨[.ref l, .ref b], []⟩) (fun _ R s => s.heap.get? l = some { cls := .type "list", dict := dd, data := .seq items n, slots := sl } ∧ s.heap.get? b = some { cls := .type "list", dict := none, data := .seq items2 n2, slots := #[] } ∧ R (.ok (.ret (Value.ref s.heap.objs.size))) { s with heap := s.heap.push { cls := Value.type "list", data := Data.seq (items ++ items2) }, toks := s.toks }) :=
  .of_wp fun prog w A R s h => by obtain ⟨hp, g, d, tk, os⟩ := s; obtain ⟨hl, hb, h⟩ := h; have f1 := AutoSeq1.idx_int; have f2 := AutoSeq1.sub_tuple_tuple; have f3 := AutoSeq1.sub_list_list; have f4 := AutoSeq1.sub_tuple_list; have f5 := AutoSeq1.sub_list_tuple; wp_walk using AutoSeq1.wpAny_loadPart' hl, AutoSeq1.wpAny_loadPart' hb; exact ⟨_, rfl, h⟩
def rCatK (K : PySem.W.Frag) : L2.R2 := fun x y H Q => ∃ l b xs zs, x = .ref l ∧ y = .ref b ∧ SqL K H l xs ∧ H b = some (.lst zs) ∧ xs.length + zs.length ≤ sizeLine ∧ ∀ p, H p = none → Q (.ref p) (upd H p (.lst (xs ++ zs)))
theorem op_catK {X : Cx} : OpR X (binaryOp .Add) (rCatK X.K) := by
  intro pins s σ H x y v u Q I rx ry h
  obtain ⟨l, b, xs, zs, rfl, rfl, hL, hB, hz, q⟩ := h
  cases rx
  cases ry
  obtain ⟨its, r, ⟨⟨cls, dd, data, sl⟩, n, e, hc, hd, hdt⟩, hz1⟩ := I.list hL
  simp only at hc hd hdt
  subst hc hd hdt
  obtain ⟨z2, its2, n2, r2, hl2, e2⟩ := I.lstM hB
  have hl := r.length
  refine concat_meets ⟨_, e, rfl⟩ ⟨_, e2, rfl⟩ noFill_list_add seq_list_add F.slot_list_add F.entry_list_add (F.args_list_add_2 _ _) (list_add_g l its.toArray n none sl b its2.toArray n2 (by rw [List.size_toArray, List.size_toArray]; omega)) ⟨e, e2, ?_⟩
  have ea : its.toArray ++ its2.toArray = (its ++ its2).toArray := by simp
  rw [ea]
  exact ⟨.ref _, _, I.lnew (t' := s.toks) (r.append r2) (by rw [List.length_append]; omega), rfl, q _ I.fresh⟩
def oAddE : Op2 := fun x y S => match x, y with
  | .kl xs, .ref m => match S[m]? with
    | some (.lst ys) => if xs.length + ys.length ≤ 16777216 then alloc (xs ++ ys) S else .stuck
    | _ => .stuck
  | x, y => oAdd x y S
abbrev rAddE (K : PySem.W.Frag) : L2.R2 := rOr (rAddA K) (rCatK K)
theorem op_addE {X : Cx} : OpR X (binaryOp .Add) (rAddE X.K) := op_addA.or op_catK
section
variable {K : PySem.W.Frag}
theorem ok_addE : OK2 K (rAddE K) oAddE := by
  intro cv ι H S x y u v W Q hh rx ry q
  unfold oAddE at q
  split at q
  · rename_i xs m
    cases rx with
    | kl ha ra =>
      cases ry with
      | ref hm =>
        split at q
        · rename_i ys e2
          split at q
          · rename_i hl
            obtain ⟨ws, rb, hw⟩ := hh.ok _ _ _ hm e2
            refine .inr ⟨_, _, _, ws, rfl, rfl, ha.sq, hw, by rw [← ra.length, ← rb.length, sizeLine_eq]; exact hl, fun p hp => ?_⟩
            refine q _ _ _ (Ext.alloc hp) (hh.alloc hp (ra.append rb)) (.ref ?_)
            rw [← hh.len]; simp
          · exact q.elim
        · exact q.elim
  · exact .inl (ok_add cv ι H S x y u v W Q hh rx ry q)
end
/-! ### a product one side of which is small -/
def oMulE : Op2 := fun x y S => match x, y with
  | .int a, .int b => if a.natAbs < 2 ^ 63 ∨ b.natAbs < 2 ^ 63 ∨ a.natAbs.log2 + b.natAbs.log2 < 1000000 then okI (a * b) S else .stuck
  | _, _ => .stuck
theorem ok_mulE {K : PySem.W.Frag} : OK2 K (rOr (rI CMul fun i j => .int (i * j)) (rI CMulW fun i j => .int (i * j))) oMulE := by
  intro cv ι H S x y u v W Q hh rx ry q
  cases rx with
  | int a =>
    cases ry with
    | int b =>
      have q : Fin ⟨K, cv⟩ W ι H Q (if a.natAbs < 2 ^ 63 ∨ b.natAbs < 2 ^ 63 ∨ a.natAbs.log2 + b.natAbs.log2 < 1000000 then okI (a * b) S else .stuck) := q
      split at q
      · rename_i hc
        have q' := q ι H _ .refl hh (.int _)
        rcases hc with hc | hc | hc
        · exact .inl ⟨a, b, rfl, rfl, .inl (by omega), q'⟩
        · exact .inl ⟨a, b, rfl, rfl, .inr (by omega), q'⟩
        · exact .inr ⟨a, b, rfl, rfl, hc, q'⟩
      · exact q.elim
    | _ => exact q.elim
  | _ => exact q.elim
theorem op_mulE {X : Cx} : OpR X (binaryOp .Mult) (rOr (rI CMul fun i j => .int (i * j)) (rI CMulW fun i j => .int (i * j))) := op_mul.or op_mulW
/-! ### a text times an int -/
def oRepS : Op2 := fun x y S => match x, y with
  | .str z, .int k => if 1 ≤ k ∧ k ≤ 1000000 ∧ z.length = 1 then .ok (.str (Txt.mul z k)) S else .stuck
  | _, _ => .stuck
def rRepS : L2.R2 := fun x y H Q => ∃ z k, x = .str z ∧ y = .int k ∧ 1 ≤ k ∧ k ≤ 1000000 ∧ z.length = 1 ∧ Q (.str (Txt.mul z k)) H
theorem op_repS {X : Cx} : OpR X (binaryOp .Mult) rRepS := by
  intro pins s σ H x y v u Q I rx ry h
  obtain ⟨z, k, rfl, rfl, h1, h2, h3, q⟩ := h
  obtain ⟨t, rfl⟩ := rx
  obtain ⟨t', rfl⟩ := ry
  refine SB.mul ⟨by simp only [Bool.or_eq_false_iff, decide_eq_false_iff_not]; omega, fun _ _ => ?_, fun _ _ => ?_⟩ fun t' k' => ?_
  · rw [h3]
    have : (1 : Int) ≤ (2 ^ 63 - 1) / k := Int.le_ediv_of_mul_le (by omega) (by omega)
    omega
  · rw [h3]
    unfold Builtin.Str.tooLong
    rw [sizeLine_eq]
    exact decide_eq_false (by omega)
  · exact ⟨.str _, H, I.tok _, ⟨_, rfl⟩, q⟩
theorem ok_repS {K : PySem.W.Frag} : OK2 K rRepS oRepS := by
  intro cv ι H S x y u v W Q hh rx ry q
  cases rx with
  | str z =>
    cases ry with
    | int k =>
      have q : Fin ⟨K, cv⟩ W ι H Q (if 1 ≤ k ∧ k ≤ 1000000 ∧ z.length = 1 then .ok (.str (Txt.mul z k)) S else .stuck) := q
      split at q
      · rename_i hc
        exact ⟨z, k, rfl, rfl, hc.1, hc.2.1, hc.2.2, q ι H _ .refl hh (.str _)⟩
      · exact q.elim
    | _ => exact q.elim
  | _ => exact q.elim
/-! ### abs, min of a list, list(..) -/
def bAbs : Fn := fun xs S => match xs with
  | [.int i] => okI (if i < 0 then -i else i) S
  | _ => .stuck
theorem ok_abs {K : PySem.W.Frag} : OKA K (fun xs H Q => ∃ i, xs = [.int i] ∧ Q (.int (if i < 0 then -i else i)) H) bAbs := by
  intro cv ι H S xs us W Q hh rx q
  unfold bAbs at q
  split at q
  · cases rx with
    | cons r1 rr =>
      cases rr
      cases r1
      exact ⟨_, rfl, q ι H _ .refl hh (.int _)⟩
  · exact q.elim
def minI : List Int → Int
  | [] => 0
  | [x] => x
  | x :: y :: r => min x (minI (y :: r))
theorem minI_mem : ∀ {xs : List Int}, xs ≠ [] → minI xs ∈ xs
  | [x], _ => List.mem_cons_self
  | x :: y :: r, _ => by
    have h := minI_mem (xs := y :: r) (by simp)
    show min x (minI (y :: r)) ∈ _
    rcases Int.le_total x (minI (y :: r)) with q | q
    · rw [Int.min_eq_left q]; exact List.mem_cons_self
    · rw [Int.min_eq_right q]; exact List.mem_cons_of_mem _ h
theorem minI_le : ∀ {xs : List Int} {y : Int}, y ∈ xs → minI xs ≤ y
  | [x], y, h => by rw [List.mem_singleton.mp h]; exact Int.le_refl _
  | x :: z :: r, y, h => by
    show min x (minI (z :: r)) ≤ y
    rcases List.mem_cons.mp h with rfl | h
    · exact Int.min_le_left _ _
    · exact Int.le_trans (Int.min_le_right _ _) (minI_le h)
def bMinL : Fn := fun xs S => match xs with
  | [.ref n] => match S[n]? with
    | some c => match allSome (c.items.map asI) with
      | some ns => if ns ≠ [] then okI (minI ns) S else .stuck
      | none => .stuck
    | none => .stuck
  | _ => .stuck
theorem ok_minL {K : PySem.W.Frag} : OKA K (rMin K) bMinL := by
  intro cv ι H S xs us W Q hh rx q
  unfold bMinL at q
  split at q
  · split at q
    · rename_i c ec
      split at q
      · rename_i bs eb
        split at q
        · rename_i hne
          cases rx with
          | cons r1 rr =>
            cases rr
            cases r1 with
            | ref hn =>
              obtain ⟨vs, rr, hq⟩ := (hh.ok _ _ _ hn ec).sq
              have e := rvs_ints rr eb
              subst e
              refine ⟨_, bs, rfl, hq, List.length_pos_iff.mpr hne, fun m hm hle => ?_⟩
              have : m = minI bs := Int.le_antisymm (hle _ (minI_mem hne)) (minI_le hm)
              rw [this]
              exact q ι H _ .refl hh (.int _)
        · exact q.elim
      · exact q.elim
    · exact q.elim
  · exact q.elim
def bListOf : Fn := fun xs S => match xs with
  | [.ref n] => match S[n]? with
    | some c => alloc c.items S
    | none => .stuck
  | [.tup ys] => alloc ys S
  | _ => .stuck
theorem ok_listOf {K : PySem.W.Frag} : OKA K (fun xs H Q => ∃ p ys, xs = [.ref p] ∧ (SqL K H p ys ∨ SqT K H p ys) ∧ ∀ l, H l = none → Q (.ref l) (upd H l (.lst ys))) bListOf := by
  intro cv ι H S xs us W Q hh rx q
  unfold bListOf at q
  split at q
  · split at q
    · rename_i c ec
      cases rx with
      | cons r1 rr =>
        cases rr
        cases r1 with
        | ref hn =>
          obtain ⟨vs, rr, hq⟩ := (hh.ok _ _ _ hn ec).sq
          exact ⟨_, vs, rfl, .inl hq, fun l hl => q _ _ _ (Ext.alloc hl) (hh.alloc hl rr) (.ref (by rw [← hh.len]; simp))⟩
    · exact q.elim
  · cases rx with
    | cons r1 rr =>
      cases rr
      cases r1 with
      | tup ha ra => exact ⟨_, _, rfl, .inr ha, fun l hl => q _ _ _ (Ext.alloc hl) (hh.alloc hl ra) (.ref (by rw [← hh.len]; simp))⟩
  · exact q.elim
/-! ### a comprehension's target of several names -/
theorem wipe_set {σ : L2.St} {i : Nat} {o : Option V} : ∀ {vs : List Nat}, i ∈ vs → wipe (σ.set i o) vs = wipe σ vs
  | v :: vs, h => by
    show (wipe (σ.set i o) vs).set v none = (wipe σ vs).set v none
    by_cases hv : i ∈ vs
    · rw [wipe_set hv]
    · rcases List.mem_cons.mp h with rfl | h
      · have push : ∀ (vs : List Nat), i ∉ vs → wipe (σ.set i o) vs = (wipe σ vs).set i o := fun vs => by
          induction vs with
          | nil => intro _; rfl
          | cons w ws ih =>
            intro hn
            show (wipe (σ.set i o) ws).set w none = ((wipe σ ws).set w none).set i o
            rw [ih (fun z => hn (List.mem_cons_of_mem _ z)), List.set_comm _ _ (fun z => hn (by rw [z]; exact List.mem_cons_self))]
        rw [push vs hv, List.set_set]
      · exact absurd h hv
theorem wipe_wipe (σ : L2.St) : ∀ vs : List Nat, wipe (wipe σ vs) vs = wipe σ vs := fun vs => by
  have gen : ∀ (us : List Nat), (∀ u ∈ us, u ∈ vs) → wipe (wipe σ us) vs = wipe σ vs := fun us => by
    induction us with
    | nil => intro _; rfl
    | cons u us ih =>
      intro h
      show wipe ((wipe σ us).set u none) vs = _
      rw [wipe_set (h u List.mem_cons_self), ih fun w hw => h w (List.mem_cons_of_mem _ hw)]
  exact gen vs fun _ h => h
/-- a target that stores into own names alone -/
def Own (vs : List Nat) (g : TG) : Prop := ∀ (v : V) (σ : L2.St) (H : Hp) (Q : L2.St → Hp → Prop), g v σ H Q → g v σ H fun σ2 H2 => wipe σ2 vs = wipe σ vs ∧ Q σ2 H2
def Owns (vs : List Nat) (g : TGs) : Prop := ∀ (v : List V) (σ : L2.St) (H : Hp) (Q : L2.St → Hp → Prop), g v σ H Q → g v σ H fun σ2 H2 => wipe σ2 vs = wipe σ vs ∧ Q σ2 H2
theorem own_name {i : Nat} {vs : List Nat} (h : i ∈ vs) : Own vs (gName i) := fun v σ H Q q => ⟨wipe_set h, q⟩
theorem owns_nil {vs : List Nat} : Owns vs gNil := fun v σ H Q q => ⟨q.1, rfl, q.2⟩
theorem owns_cons {vs : List Nat} {g : TG} {gs : TGs} (h1 : Own vs g) (h2 : Owns vs gs) (hm : ∀ v σ H (Q Q' : L2.St → Hp → Prop), (∀ a b, Q a b → Q' a b) → g v σ H Q → g v σ H Q') (hm2 : ∀ v σ H (Q Q' : L2.St → Hp → Prop), (∀ a b, Q a b → Q' a b) → gs v σ H Q → gs v σ H Q') : Owns vs (gCons g gs) := fun v σ H Q ⟨x, r, e, q⟩ => by
  refine ⟨x, r, e, hm _ _ _ _ _ (fun σ2 H2 h => ?_) (h1 x σ H _ q)⟩
  exact hm2 _ _ _ _ _ (fun σ3 H3 h3 => ⟨h3.1.trans h.1, h3.2⟩) (h2 r σ2 H2 Q h.2)
theorem own_tup {K : PySem.W.Frag} {vs : List Nat} {n : Nat} {gs : TGs} (h : Owns vs gs) : Own vs (gTup K n gs) := fun v σ H Q ⟨a, xs, e, h1, h2, q⟩ => ⟨a, xs, e, h1, h2, h xs σ H Q q⟩
theorem own_wp {vs : List Nat} {g : TG} (h : Own vs g) : Wp g vs := fun v σ H Q q => by
  have := h v (wipe σ vs) H Q q
  rwa [wipe_wipe] at this
theorem mono_name {i : Nat} : ∀ (v : V) (σ : L2.St) (H : Hp) (Q Q' : L2.St → Hp → Prop), (∀ a b, Q a b → Q' a b) → gName i v σ H Q → gName i v σ H Q' := fun _ _ _ _ _ h q => h _ _ q
theorem mono_nil : ∀ (v : List V) (σ : L2.St) (H : Hp) (Q Q' : L2.St → Hp → Prop), (∀ a b, Q a b → Q' a b) → gNil v σ H Q → gNil v σ H Q' := fun _ _ _ _ _ h q => ⟨q.1, h _ _ q.2⟩
theorem mono_cons {g : TG} {gs : TGs} (hm : ∀ v σ H (Q Q' : L2.St → Hp → Prop), (∀ a b, Q a b → Q' a b) → g v σ H Q → g v σ H Q') (hm2 : ∀ v σ H (Q Q' : L2.St → Hp → Prop), (∀ a b, Q a b → Q' a b) → gs v σ H Q → gs v σ H Q') :
    ∀ (v : List V) (σ : L2.St) (H : Hp) (Q Q' : L2.St → Hp → Prop), (∀ a b, Q a b → Q' a b) → gCons g gs v σ H Q → gCons g gs v σ H Q' := fun v σ H Q Q' h ⟨x, r, e, q⟩ => ⟨x, r, e, hm _ _ _ _ _ (fun a b q => hm2 _ _ _ _ _ h q) q⟩
theorem wp_two {K : PySem.W.Frag} {n i j : Nat} : Wp (gTup K n (gCons (gName i) (gCons (gName j) gNil))) [i, j] :=
  own_wp (own_tup (owns_cons (own_name List.mem_cons_self) (owns_cons (own_name (by simp)) owns_nil mono_name mono_nil) mono_name (mono_cons mono_name mono_nil)))
/-! ### name = [..] -/
section
variable {X : Cx} {cv : Nat → Value} {W : WX} {elt tg iter : Expr} {ifs : List Expr} {scope : Scope} {own : List (Str × Nat)} {pos spos py : Pos} {g : TG} {t : TgD} {c : DT} {e f : D} {i : Nat} {y : Str}
theorem set_td {f : D} {D : Ends} {σ : L2.St} {H : Hp} (h : TSD (Gm X cv) W (sSet i f) D σ H) : TD (Gm X cv) W f σ H fun x H1 => gName i x σ H1 D.nx := by
  obtain ⟨ι, ρ, S, hs, hh, q⟩ := h
  exact ⟨ι, ρ, S, hs, hh, FinS.bind q hs fun x S1 ι1 H1 u e1 h1 r1 q1 => q1.next h1 ((hs.ext e1).set r1 i)⟩
theorem ps_setLcC (hc : X.calm = true) (hN : X.N.Nodup) (hy : X.N[i]? = some y) (hyl : X.env.scope.names.lookup y = some .local) (hsw : swapsWith (.ListComp elt [⟨tg, iter, ifs, 0⟩] scope pos) (some (.Name y py)) spos.line X.env = pure true)
    (hi : PE X iter (TD (Gm X cv) W f)) (L : LcOk X cv elt tg ifs scope own g t c e) (hs : ∀ x, foldedSetIterable iter X.env x = pure x := by intro _; rfl) :
    PS X (.Assign [.Name y py] (.ListComp elt [⟨tg, iter, ifs, 0⟩] scope pos) spos) (TSD (Gm X cv) W (sSet i (dLCC f t c e (own.map (·.2))))) :=
  (ps_setLc hc hN hy hyl hsw (pi_list hi) L.ok L.tg L.ifs L.elt hs).imp fun D σ H h => lcC L.tok L.wp σ H _ (set_td h)
theorem ps_setLcT (hc : X.calm = true) (hN : X.N.Nodup) (hy : X.N[i]? = some y) (hyl : X.env.scope.names.lookup y = some .local) (hsw : swapsWith (.ListComp elt [⟨tg, iter, ifs, 0⟩] scope pos) (some (.Name y py)) spos.line X.env = pure true)
    (hi : PE X iter (TD (Gm X cv) W f)) (L : LcOk X cv elt tg ifs scope own g t c e) (hs : ∀ x, foldedSetIterable iter X.env x = pure x := by intro _; rfl) :
    PS X (.Assign [.Name y py] (.ListComp elt [⟨tg, iter, ifs, 0⟩] scope pos) spos) (TSD (Gm X cv) W (sSet i (dLCT f t c e (own.map (·.2))))) :=
  (ps_setLc hc hN hy hyl hsw (pi_tup hi) L.ok L.tg L.ifs L.elt hs).imp fun D σ H h => lcT L.tok L.wp σ H _ (set_td h)
theorem ps_setLcR {a : Expr} {fa : DA} {p pos2 : Pos} (hc : X.calm = true) (hN : X.N.Nodup) (hy : X.N[i]? = some y) (hyl : X.env.scope.names.lookup y = some .local) (hsw : swapsWith (.ListComp elt [⟨tg, .Call (.Name "range" p) [a] [] pos2, ifs, 0⟩] scope pos) (some (.Name y py)) spos.line X.env = pure true)
    (hgl : Gl X "range") (hm : X.mg "range" = none) (hi : PA X [a] (TDA (Gm X cv) W fa)) (L : LcOk X cv elt tg ifs scope own g t c e)
    (hst : starEach [a] X.env = [(false, eval a X.env)] := by rfl) (hs : ∀ x, foldedSetIterable (.Call (.Name "range" p) [a] [] pos2) X.env x = pure x := by intro _; rfl) :
    PS X (.Assign [.Name y py] (.ListComp elt [⟨tg, .Call (.Name "range" p) [a] [] pos2, ifs, 0⟩] scope pos) spos) (TSD (Gm X cv) W (sSet i (dLCR fa t c e (own.map (·.2))))) :=
  (ps_setLc hc hN hy hyl hsw (pi_range1 hgl hm hi hst) L.ok L.tg L.ifs L.elt hs).imp fun D σ H h => lcR L.tok L.wp σ H _ (set_td h)
end
end PD

/-! ## PDTry -/
set_option Elab.async false
set_option linter.all false
set_option maxRecDepth 100000
set_option maxHeartbeats 1000000
/-! several clauses, some of which name the error -/
namespace PD
open PySem PySem.Spec PyProof.Rows L2
/-- an error that has come to this frame's clauses -/
structure Down (X : Cx) (pins : List (Addr × Obj)) (σ : L2.St) (H : Hp) (a : Addr) (cls : Value) (d : Option Addr) (s : Shared) : Prop where
  na : H a = none
  ex : ∃ (B : Heap) (t : Shared), Inv X pins σ H t ∧ (∀ b o, t.heap.get? b = some o → b ∉ frs X.stack → B.get? b = some o) ∧ t.heap.UpToSlots s.heap ∧ HandSPX.FlyingZ B (X.env :: X.outer) a (Zc cls d) s.heap ∧ s.os = t.os ∧ AllBare s.gens
section
variable {X : Cx} {pins : List (Addr × Obj)} {σ : L2.St} {H : Hp} {a : Addr} {cls c : Value} {d : Option Addr} {s : Shared} {W : WX} {D : Ends} {x : Str} {np pos : Pos}
theorem Down.inv (w : Down X pins σ H a cls d s) : Inv X pins σ H s := by
  obtain ⟨_, _, j, j1, j2, j3, j4, j5⟩ := w.ex
  exact j.landed j1 j3.1 j2 j4 j5
theorem Down.pinned (w : Down X pins σ H a cls d s) (hf : X.env.frame = some X.env.locals) : ∃ o : Obj, Zc cls d o ∧ (∃ fv, o.data = .fields fv) ∧ s.heap.get? a = some o ∧ Inv (X.suite a ((a, o) :: (X.pn ++ pins))) [] σ H s := by
  obtain ⟨_, _, j, j1, j2, j3, j4, j5⟩ := w.ex
  obtain ⟨o, fv, g1, g2, g3⟩ := j3.there
  have out : a ∉ frs (X.env :: X.outer) := fun m => by
    obtain ⟨_, _, g4, no⟩ := j3.2.2.1.mem m
    cases g1.symm.trans g4
    exact no _ g3
  refine ⟨o, g2, ⟨fv, g3⟩, g1, w.inv.suite g1 g3 w.na (fun z => ?_) fun m => ?_⟩
  · refine out (List.mem_filterMap.mpr ⟨_, List.mem_cons_self, ?_⟩)
    rw [z]; exact hf
  · obtain ⟨v, v1, v2⟩ := List.mem_filterMap.mp m
    refine out (List.mem_filterMap.mpr ⟨v, ?_, v2⟩)
    exact List.mem_cons_of_mem _ v1
theorem Down.again {M : Model} {A : Around} {E : Value → Shared → Prop} {Q : Unit → Shared → Prop} (w : Down X pins σ H a cls d s) (q : ∀ s2, Down X pins σ H a cls d s2 → Q () s2) : wpAny M A (setFlight (.ref a) none) Q E s := by
  obtain ⟨B, t, j, j1, j2, j3, j4, j5⟩ := w.ex
  exact HandSPX.lands_againZ j3 fun h2 f2 u2 => q _ ⟨w.na, B, t, j, j1, j2.trans u2, f2, j4, j5⟩
theorem Down.test {R : Result → Shared → Prop} {b : Bool} (w : Down X pins σ H a cls d s) (hf : X.env.frame = some X.env.locals) (hc : Names X x c) (hb : PySem.W.exmOne X.K cls c = some b) (q : R (.ok (if b then .brk else .next)) s) :
    codeAny (model X.prog X.w) (X.A.mark (some (.ref a))) (.handlers (.ref a) [.ExceptHandler (some (.Name x np)) none [] pos] X.env) R s := by
  obtain ⟨o, z, _, g1, S⟩ := w.pinned hf
  have look : PySem.W.Looks (model X.prog X.w) s.heap (typeOf (.ref a)) cls := fun _ _ _ _ k h => wpAny_typeOf_ref (k _ _ g1) (by rw [z.1]; exact h)
  have m := PySem.W.exm_one (M := model X.prog X.w) w.inv.kIn look hb
  refine codeAny_handlers_test ?_
  obtain ⟨n1, n2, n3 | ⟨n3, n4, n5⟩⟩ := hc
  · exact ld_glob (X := X.suite a ((a, o) :: (X.pn ++ pins))) S n1 n3 (m.here q) n2
  · exact ld_blt (X := X.suite a ((a, o) :: (X.pn ++ pins))) S n1 n3 n4 (m.here q) n5 n2
/-- no clause is left: it flies on -/
theorem Down.on {Q : Flow → Shared → Prop} (w : Down X pins σ H a cls d s) (hs : X.stack = X.env :: X.outer) (hf : X.env.frame = some X.env.locals) (tk : Takes X W) (q : W cls d σ H) : wpAny (model X.prog X.w) X.A (handleBy (.ref a) X.env []) Q X.xe s := by
  obtain ⟨B, t, j, j1, j2, j3, j4, j5⟩ := w.ex
  obtain ⟨_, _, _, o, fv, T, _, _, g1, _, g2, g3, _⟩ := id j3
  refine wpAny_handleBy_nil ?_
  unfold PySem.passOn
  refine wpAny_bind (wpAny_field g1 g2 g3 ?_)
  rw [if_neg (by simp)]
  have up : wpAny (model X.prog X.w) X.A (setFlight (.ref a) X.env.frame) (fun _ s2 => wpAny (model X.prog X.w) X.A (throw (.ref a) : Sem Flow) Q X.xe s2) X.xe s := by
    rw [hf]
    exact HandSPX.setFlight_upZ j3 fun h2 f2 u2 => wpAny_throw (tk _ _ ⟨a, B, t, pins, σ, H, cls, d, rfl, j, j1, j2.trans u2, .inr (.inr (hs ▸ f2)), w.na, j4, j5, q⟩)
  first
    | exact wpAny_bind up
    | exact wpAny_bind (wpAny_pure (wpAny_bind up))
end
/-- behind a clause that names the error the name is gone -/
def gone (i : Nat) (D : Ends) : Ends := { D with nx := fun σ H => D.nx (σ.set i none) H, bk := fun σ H => D.bk (σ.set i none) H, ct := fun σ H => D.ct (σ.set i none) H }
abbrev Cl := Value × Option Nat × (Addr → Value → Option Addr → TS)
def ofCl (D : Ends) (σ : L2.St) (H : Hp) (cls : Value) (d : Option Addr) : Cl → Addr → Prop
  | (_, none, ts), a => ts a cls d D σ H
  | (_, some i, ts), a => ts a cls d (gone i D) (σ.set i (some (.ref a))) H
def wCls (K : PySem.W.Frag) (W : WX) (D : Ends) : List Cl → WX
  | [] => W
  | k :: r => fun cls d σ H => ∃ b, PySem.W.exmOne K cls k.1 = some b ∧ (b = true → ∀ a, H a = none → ofCl D σ H cls d k a) ∧ (b = false → wCls K W D r cls d σ H)
def NmOk (X : Cx) : Option Str → Option Nat → Prop
  | none, none => True
  | some n, some i => X.N[i]? = some n ∧ X.env.kindOf n = some .local
  | _, _ => False
inductive Hds (X : Cx) : List ExceptHandler → List Cl → Prop
  | nil : Hds X [] []
  | cons {x : Str} {c : Value} {n : Option Str} {i : Option Nat} {ts : Addr → Value → Option Addr → TS} {b : Stmt} {bs : List Stmt} {np pos : Pos} {r : List ExceptHandler} {l : List Cl} (hc : Names X x c) (hn : NmOk X n i)
      (hb : ∀ (a : Addr) (o : Obj) (cls : Value) (d : Option Addr) (pn : List (Addr × Obj)), Zc cls d o → (∃ fv, o.data = .fields fv) → PSs (X.suite a ((a, o) :: pn)) (b :: bs) (ts a cls d)) (hr : Hds X r l) :
      Hds X (.ExceptHandler (some (.Name x np)) n (b :: bs) pos :: r) ((c, i, ts) :: l)
section
variable {X : Cx} {pins : List (Addr × Obj)} {W : WX} {D : Ends} {hds : List ExceptHandler} {l : List Cl}
theorem go_clauses (hs : X.stack = X.env :: X.outer) (hf : X.env.frame = some X.env.locals) (hN : X.N.Nodup) (tk : Takes X W) (ok : X.Ok) {σ : L2.St} {H : Hp} {a : Addr} {cls : Value} {d : Option Addr} {s : Shared} (w : Down X pins σ H a cls d s) (h : Hds X hds l)
    (q : wCls X.K W D l cls d σ H) : wpAny (model X.prog X.w) X.A (handleBy (.ref a) X.env hds) (SP X pins D) X.xe s := by
  induction h with
  | nil => exact w.on hs hf tk q
  | @cons x c n i ts b bs np pos r l hc hn hb hr ih =>
    obtain ⟨y, y1, y2, y3⟩ := q
    refine wpAny_handleBy_cons (w.test hf hc y1 ?_) (by intro z; cases z)
    cases y with
    | false => exact ih (y3 rfl)
    | true =>
      have y2 := y2 rfl a w.na
      cases n with
      | none =>
        cases i with
        | some i => exact hn.elim
        | none =>
          refine codeAny_handlers_suite (w.again fun s2 w2 => ?_)
          obtain ⟨o, z, fv, _, S⟩ := w2.pinned hf
          refine wpAny_mono ((hb a o cls d _ z fv).run [] s2 σ H D S y2) (fun f s3 e => ?_) fun _ _ z => False.elim z
          cases f with
          | ret u => exact e.elim fun v e => e.elim fun σ3 e => e.elim fun H3 e => ⟨v, σ3, H3, e.1.unsuite ok, e.2⟩
          | next => exact e.elim fun σ3 e => e.elim fun H3 e => ⟨σ3, H3, e.1.unsuite ok, e.2⟩
          | brk => exact e.elim fun σ3 e => e.elim fun H3 e => ⟨σ3, H3, e.1.unsuite ok, e.2⟩
          | cont => exact e.elim fun σ3 e => e.elim fun H3 e => ⟨σ3, H3, e.1.unsuite ok, e.2⟩
      | some n =>
        cases i with
        | none => exact hn.elim
        | some i =>
          obtain ⟨n1, n2⟩ := hn
          refine codeAny_handlers_suite_as (w.again fun s2 w2 => ?_)
          obtain ⟨o, z, fv, _, S⟩ := w2.pinned hf
          refine store_ok (X := X.suite a ((a, o) :: (X.pn ++ pins))) (v := .ref a) S hN n1 (.inl n2) rfl (fun s3 S3 => ?_) (.inr n2)
          refine wpAny_mono ((hb a o cls d _ z fv).run [] s3 _ H _ S3 y2) (fun f s4 e => ?_) fun _ _ z => False.elim z
          cases f with
          | ret u => exact e.elim fun v e => e.elim fun σ3 e => e.elim fun H3 e => gone_ok (e.1.unsuite ok) hN n1 n2 fun _ J => ⟨v, _, H3, J, e.2⟩
          | next => exact e.elim fun σ3 e => e.elim fun H3 e => gone_ok (e.1.unsuite ok) hN n1 n2 fun _ J => ⟨_, H3, J, e.2⟩
          | brk => exact e.elim fun σ3 e => e.elim fun H3 e => gone_ok (e.1.unsuite ok) hN n1 n2 fun _ J => ⟨_, H3, J, e.2⟩
          | cont => exact e.elim fun σ3 e => e.elim fun H3 e => gone_ok (e.1.unsuite ok) hN n1 n2 fun _ J => ⟨_, H3, J, e.2⟩
/-- what an error of the body meets -/
def met (X : Cx) (pins : List (Addr × Obj)) (D : Ends) (hds : List ExceptHandler) : Value → Shared → Prop := fun u s1 => wpAny (model X.prog X.w) X.A (noteFrame u X.env) (fun _ s2 => wpAny (model X.prog X.w) X.A (setFlight u none)
  (fun _ s3 => wpAny (model X.prog X.w) X.A (handleBy u X.env hds) (SP X pins D) X.xe s3) X.xe s2) X.xe s1
theorem ps_try_cl {body : List Stmt} {h0 : ExceptHandler} {pos : Pos} {tb : WX → TS} (hs : X.stack = X.env :: X.outer) (hf : X.env.frame = some X.env.locals) (hN : X.N.Nodup) (tk : Takes X W)
    (hb : ∀ (W : WX) (pn : List (Addr × Obj)) (xe : Value → Shared → Prop), Takes (X.tr pn xe) W → PassesOwn (model X.prog X.w) X.A X.env xe → PSs (X.tr pn xe) body (tb W)) (hh : Hds X (h0 :: hds) l) :
    PS X (.Try body (h0 :: hds) [] [] pos) (fun D σ H => tb (wCls X.K W D l) D σ H) := by
  refine ⟨fun pins s σ H D I h => wpAny_Try_except ?_⟩
  have ok := I.ok
  have stk : X.A.frames = some (X.env :: X.outer) := ok.frames.trans (congrArg some hs)
  have meets : Takes (X.tr (X.pn ++ pins) (met X pins D (h0 :: hds))) (wCls X.K W D l) := by
    rintro u s1 ⟨a, B, t, p2, σ2, H2, cls, d, rfl, j, j1, j2, sky, na, j4, j5, q⟩
    refine Sky.land (B := B) Zc.steady stk hf (hs ▸ sky) fun h2 f2 u2 => ?_
    exact go_clauses hs hf hN tk ok ⟨na, B, t, j.ofTry ok, j1, j2.trans u2, f2, j4, j5⟩ hh q
  refine wpAny_mono ((hb _ _ _ meets PassesOwn.looking).run [] s σ H D (I.toTry _) h) (fun f s1 e => ?_) fun _ _ z => z
  cases f with
  | next => exact e.elim fun σ3 e => e.elim fun H3 e => wpAny_execs_nil ⟨σ3, H3, e.1.ofTry ok, e.2⟩
  | ret u => exact e.elim fun v e => e.elim fun σ3 e => e.elim fun H3 e => ⟨v, σ3, H3, e.1.ofTry ok, e.2⟩
  | brk => exact e.elim fun σ3 e => e.elim fun H3 e => ⟨σ3, H3, e.1.ofTry ok, e.2⟩
  | cont => exact e.elim fun σ3 e => e.elim fun H3 e => ⟨σ3, H3, e.1.ofTry ok, e.2⟩
end
end PD

/-! ## PDErr -/
set_option Elab.async false
set_option linter.all false
set_option maxRecDepth 100000
set_option maxHeartbeats 1000000
/-! errors with fields: a clause that names the error and keeps fields of it -/
namespace PD
open PySem PySem.Spec L2
theorem RS.hide {K : PySem.W.Frag} {ι : List Addr} {H : Hp} {ρ : Env} {σ : L2.St} (h : RS K ι H ρ σ) (i : Nat) (o : Option V) : RS K ι H (ρ.set i none) (σ.set i o) := by
  refine ⟨by simp [h.1], fun j y e => ?_⟩
  by_cases q : i = j
  · subst q
    by_cases hl : i < ρ.length
    · rw [List.getElem?_set_self hl] at e; cases e
    · rw [List.getElem?_eq_none (by simp; omega)] at e; cases e
  · rw [List.getElem?_set_ne q] at e
    obtain ⟨u, a, b⟩ := h.2 j y e
    exact ⟨u, by rw [List.getElem?_set_ne q]; exact a, b⟩
/-- a member of what the clause keeps: a constant, or a field of the error -/
abbrev Mb := Val ⊕ Str
def mbVal (e : Exn) : Mb → Option Val
  | .inl v => some v
  | .inr f => e.fs.lookup f
def sErTup (j : Nat) (ms : List Mb) (e : Exn) : SD := fun ρ S => match allSome (ms.map (mbVal e)) with
  | some xs => if xs.length ≤ 16777216 then .next (ρ.set j (some (.tup xs))) S else .stuck
  | none => .stuck
def sErLst (j : Nat) (ms : List Mb) (e : Exn) : SD := fun ρ S => match allSome (ms.map (mbVal e)) with
  | some xs => if xs.length ≤ 16777216 then .next (ρ.set j (some (.ref S.length))) (S ++ [.lst xs]) else .stuck
  | none => .stuck
/-- the members read: nothing changes -/
def MbOk (K : PySem.W.Frag) (a : Addr) (cls : Value) (d : Option Addr) (C : Addr) (i : Nat) (ms : List Mb) (t : TA) : Prop := ∀ (ι : List Addr) (H : Hp) (σ : L2.St) (e : Exn) (xs : List Val) (Q : List V → Hp → Prop),
  σ[i]? = some (some (.ref a)) → cls = .ref C → XF K ι H e.fs d → allSome (ms.map (mbVal e)) = some xs → (∀ vs, RVs K ι H xs vs → Q vs H) → t σ H Q
/-- a suite does as it says of the error -/
def SuOk (Γ : Cfg) (a : Addr) (cls : Value) (d : Option Addr) (C : Addr) (i : Nat) (b : Exn → SD) (t : TS) : Prop := ∀ (ι : List Addr) (H : Hp) (ρ : Env) (S : Store) (σ : L2.St) (e : Exn) (D : Ends),
  σ[i]? = some (some (.ref a)) → cls = .ref C → RS Γ.K ι H ρ σ → RH Γ.K ι H S → XF Γ.K ι H e.fs d → FinS Γ (fun _ _ _ _ => False) ι H D (b e ρ S) → t D σ H
section
variable {K : PySem.W.Frag} {Γ : Cfg} {a C : Addr} {cls : Value} {d : Option Addr} {i j : Nat} {ms : List Mb} {t : TA}
theorem allSome_cons {α : Type} {x : Option α} {r : List (Option α)} {zs : List α} (h : allSome (x :: r) = some zs) : ∃ y ys, x = some y ∧ allSome r = some ys ∧ zs = y :: ys := by
  unfold allSome at h
  split at h
  · rename_i y ys h2
    cases h
    exact ⟨y, ys, rfl, h2, rfl⟩
  · cases h
theorem mb_nil : MbOk K a cls d C i [] tNil := fun ι H σ e xs Q _ _ _ h q => by
  cases h
  exact q [] .nil
theorem mb_c {v : Val} {u : V} (r : ∀ ι H, RV K ι H v u) (h : MbOk K a cls d C i ms t) : MbOk K a cls d C i (.inl v :: ms) (tCons (L2.tC u) t) := fun ι H σ e xs Q h1 h2 h3 h4 q => by
  obtain ⟨y, ys, e1, e2, rfl⟩ := allSome_cons h4
  cases e1
  exact h ι H σ e ys _ h1 h2 h3 e2 fun vs rr => q _ (.cons (r ι H) rr)
theorem mb_f {f : Str} (h : MbOk K a cls d C i ms t) : MbOk K a cls d C i (.inr f :: ms) (tCons (tXf a cls d C f (tVar i)) t) := fun ι H σ e xs Q h1 h2 h3 h4 q => by
  obtain ⟨y, ys, e1, e2, rfl⟩ := allSome_cons h4
  have e1 : e.fs.lookup f = some y := e1
  cases d with
  | none =>
    have h3 : e.fs = [] := h3
    rw [h3] at e1; cases e1
  | some dd =>
    obtain ⟨_, fv, g1, g2⟩ := id h3
    obtain ⟨v, g3, g4⟩ := g2 f y e1
    exact ⟨_, h1, rfl, h2, dd, fv, v, rfl, g1, g3, h ι H σ e ys _ h1 h2 h3 e2 fun vs rr => q _ (.cons g4 rr)⟩
theorem su_tup (h : MbOk Γ.K a cls d C i ms t) : SuOk Γ a cls d C i (sErTup j ms) (tAsg (tTup t) (gName j)) := fun ι H ρ S σ e D h1 h2 hs hh hx q => by
  unfold sErTup at q
  split at q
  · rename_i xs ex
    split at q
    · rename_i hl
      refine h ι H σ e xs _ h1 h2 hx ex fun vs rr => ⟨by rw [← rr.length, sizeLine_eq]; exact hl, fun p hp => ?_⟩
      exact FinS.next (FinS.weak (Ext.fresh hp) q) (hh.fresh hp) ((hs.ext (Ext.fresh hp)).set (.tup (SqT.of upd_same) (rr.ext (Ext.fresh hp))) j)
    · exact q.elim
  · exact q.elim
theorem su_lst (h : MbOk Γ.K a cls d C i ms t) : SuOk Γ a cls d C i (sErLst j ms) (tAsg (tLst t) (gName j)) := fun ι H ρ S σ e D h1 h2 hs hh hx q => by
  unfold sErLst at q
  split at q
  · rename_i xs ex
    split at q
    · rename_i hl
      refine h ι H σ e xs _ h1 h2 hx ex fun vs rr => ⟨by rw [← rr.length, sizeLine_eq]; exact hl, fun p hp => ?_⟩
      exact FinS.next (FinS.weak (Ext.alloc hp) q) (hh.alloc hp rr) ((hs.ext (Ext.alloc hp)).set (.ref (by rw [← hh.len]; simp)) j)
    · exact q.elim
  · exact q.elim
end
/-! ### the clauses by value -/
def outE (i : Nat) (r : SRes) : SRes := match r with
  | .next ρ S => .next (ρ.set i none) S
  | .brk ρ S => .brk (ρ.set i none) S
  | .cont ρ S => .cont (ρ.set i none) S
  | .ret v S => .ret v S
  | .exc _ _ _ => .stuck
  | .stuck => .stuck
abbrev ClD := Nat × Option Nat × (Exn → SD)
def sHdsE (n : Nat) (mt : Nat → Nat → Bool) : List ClD → Exn → SD
  | [], e, ρ, S => .exc e ρ S
  | (k, i, b) :: r, e, ρ, S => if e.cls < n ∧ k < n then (if mt e.cls k = true then (match i with
    | none => noExc (b e ρ S)
    | some i => if e.cls = k ∧ i < ρ.length then outE i (b e (ρ.set i none) S) else .stuck) else sHdsE n mt r e ρ S) else .stuck
def sTryE (n : Nat) (mt : Nat → Nat → Bool) (b : SD) (hds : List ClD) : SD := fun ρ S => match b ρ S with
  | .exc e ρ1 S1 => sHdsE n mt hds e ρ1 S1
  | r => r
theorem FinS.outE {Γ : Cfg} {W W' : WX} {ι : List Addr} {H : Hp} {D : Ends} {i : Nat} {r : SRes} (h : FinS Γ W ι H D (outE i r)) : FinS Γ W' ι H (gone i D) r := by
  cases r with
  | next ρ S => exact fun ι2 H2 σ2 e a b => h ι2 H2 _ e a (b.hide i none)
  | brk ρ S => exact fun ι2 H2 σ2 e a b => h ι2 H2 _ e a (b.hide i none)
  | cont ρ S => exact fun ι2 H2 σ2 e a b => h ι2 H2 _ e a (b.hide i none)
  | ret v S => exact h
  | exc e ρ S => exact h.elim
  | stuck => exact h.elim
inductive HdsV (X : Cx) (cv : Nat → Value) : List ExceptHandler → List ClD → List Cl → Prop
  | nil : HdsV X cv [] [] []
  | plain {x : Str} {c : Nat} {sd : SD} {b₀ : Stmt} {bs : List Stmt} {np pos : Pos} {r : List ExceptHandler} {l : List ClD} {m : List Cl} (hc : Names X x (cv c))
      (hb : ∀ (a : Addr) (pn : List (Addr × Obj)), PSs (X.suite a pn) (b₀ :: bs) (TSD (Gm (X.suite a pn) cv) (fun _ _ _ _ => False) sd)) (hr : HdsV X cv r l m) :
      HdsV X cv (.ExceptHandler (some (.Name x np)) none (b₀ :: bs) pos :: r) ((c, none, fun _ => sd) :: l) ((cv c, none, fun _ _ _ => TSD ⟨X.K, cv⟩ (fun _ _ _ _ => False) sd) :: m)
  | named {x n : Str} {c i : Nat} {C : Addr} {b : Exn → SD} {b₀ : Stmt} {bs : List Stmt} {np pos : Pos} {ts : Addr → Value → Option Addr → TS} {r : List ExceptHandler} {l : List ClD} {m : List Cl} (hc : Names X x (cv c)) (hC : cv c = .ref C) (hi : X.N[i]? = some n)
      (hl : X.env.kindOf n = some .local) (hb : ∀ (a : Addr) (o : Obj) (cls : Value) (d : Option Addr) (pn : List (Addr × Obj)), Zc cls d o → (∃ fv, o.data = .fields fv) → PSs (X.suite a ((a, o) :: pn)) (b₀ :: bs) (ts a cls d))
      (hs : ∀ (a : Addr) (cls : Value) (d : Option Addr), SuOk ⟨X.K, cv⟩ a cls d C i b (ts a cls d)) (hr : HdsV X cv r l m) :
      HdsV X cv (.ExceptHandler (some (.Name x np)) (some n) (b₀ :: bs) pos :: r) ((c, some i, b) :: l) ((cv c, some i, ts) :: m)
section
variable {X : Cx} {cv : Nat → Value} {W : WX} {hds : List ExceptHandler} {l : List ClD} {m : List Cl}
theorem HdsV.ok (h : HdsV X cv hds l m) : Hds X hds m := by
  induction h with
  | nil => exact .nil
  | plain hc hb _ ih => exact .cons hc trivial (fun a o cls d pn _ _ => hb a ((a, o) :: pn)) ih
  | named hc _ hi hl hb _ _ ih => exact .cons hc ⟨hi, hl⟩ hb ih
theorem HdsV.go {n : Nat} {mt : Nat → Nat → Bool} (C : Clss X.K cv n mt) {D : Ends} {ι : List Addr} {H : Hp} {ρ : Env} {σ : L2.St} {S : Store} {e : Exn} {d : Option Addr} (hs : RS X.K ι H ρ σ) (hh : RH X.K ι H S) (hx : XF X.K ι H e.fs d) (h : HdsV X cv hds l m)
    (q : FinS (Gm X cv) W ι H D (sHdsE n mt l e ρ S)) : wCls X.K W D m (cv e.cls) d σ H := by
  induction h with
  | nil => exact q ι H σ d .refl hh hs hx
  | @plain x c sd b₀ bs np pos r l m hc hb hr ih =>
    have q : FinS (Gm X cv) W ι H D (if e.cls < n ∧ c < n then (if mt e.cls c = true then noExc (sd ρ S) else sHdsE n mt l e ρ S) else .stuck) := q
    split at q
    · rename_i hk
      refine ⟨_, C.ok _ _ hk.1 hk.2, fun hb a ha => ?_, fun hb => ih ?_⟩
      · rw [if_pos hb] at q
        exact ⟨ι, ρ, S, hs, hh, FinS.noexc q⟩
      · rwa [if_neg (by rw [hb]; decide)] at q
    · exact q.elim
  | @named x nm c i Ca b b₀ bs np pos ts r l m hc hC hi hl hb hsu hr ih =>
    have q : FinS (Gm X cv) W ι H D (if e.cls < n ∧ c < n then (if mt e.cls c = true then (if e.cls = c ∧ i < ρ.length then outE i (b e (ρ.set i none) S) else .stuck) else sHdsE n mt l e ρ S) else .stuck) := q
    split at q
    · rename_i hk
      refine ⟨_, C.ok _ _ hk.1 hk.2, fun hb a ha => ?_, fun hb => ih ?_⟩
      · rw [if_pos hb] at q
        split at q
        · rename_i h2
          refine hsu a (cv e.cls) d ι H (ρ.set i none) S (σ.set i (some (.ref a))) e (gone i D) ?_ (by rw [h2.1]; exact hC) (hs.hide i _) hh hx (FinS.outE q)
          rw [List.getElem?_set_self (by rw [← hs.1]; exact h2.2)]
        · exact q.elim
      · rwa [if_neg (by rw [hb]; decide)] at q
    · exact q.elim
theorem ps_tryE {n : Nat} {mt : Nat → Nat → Bool} {as : List Stmt} {h₀ : ExceptHandler} {bd : SD} {pos : Pos} (C : Clss X.K cv n mt) (hs : X.stack = X.env :: X.outer) (hf : X.env.frame = some X.env.locals) (hN : X.N.Nodup) (tk : Takes X W)
    (hb : ∀ (W : WX) (pn : List (Addr × Obj)) (xe : Value → Shared → Prop), Takes (X.tr pn xe) W → PassesOwn (model X.prog X.w) X.A X.env xe → PSs (X.tr pn xe) as (TSD (Gm (X.tr pn xe) cv) W bd)) (hh : HdsV X cv (h₀ :: hds) l m) :
    PS X (.Try as (h₀ :: hds) [] [] pos) (TSD (Gm X cv) W (sTryE n mt bd l)) :=
  (ps_try_cl (tb := fun W => TSD ⟨X.K, cv⟩ W bd) hs hf hN tk hb hh.ok).imp fun D σ H ⟨ι, ρ, S, rs, rh, q⟩ => by
    refine ⟨ι, ρ, S, rs, rh, ?_⟩
    revert q
    show FinS _ _ _ _ _ (match bd ρ S with | .exc e ρ1 S1 => sHdsE n mt l e ρ1 S1 | r => r) → FinS _ _ _ _ _ (bd ρ S)
    cases bd ρ S with
    | exc e ρ1 S1 => exact fun q ι' H' σ' d x1 x2 x3 x4 => hh.go C x3 x2 x4 (FinS.weak x1 q)
    | _ => exact fun q => q
end
end PD

/-! ## PDRaise -/
set_option Elab.async false
set_option linter.all false
set_option maxRecDepth 100000
set_option maxHeartbeats 1000000
/-! an error with one field is raised: its class has an __init__ of the one row self.f = f -/
namespace PD
open PySem PySem.Spec L2
/-- what such an __init__ does -/
def iniS (C : Addr) (f : Str) : Sp := fun vs H Q _ => ∃ (a : Addr) (v : V), vs = [.ref a, v] ∧ H a = some (exo a C none) ∧ ∀ dx, H dx = none → dx ≠ a → Q .non (upd (upd H dx (exd dx [(f, v)])) a (exo a C (some dx)))
theorem ini_ok {P : Program} {w : World} {K : PySem.W.Frag} {mg : Str → Option Value} {base : Heap} {qual f : Str} {st : Stmt} {fI C : Addr} {fd : FuncData} {N ps : List Str} (F : Fun K "__init__" qual st fI fd) (S : FnScope N ps (defScope st)) (h2 : ps.length = 2) (hN : N.length = 2) (T : OexC K C)
    (hn : PySem.W.findIn K (.ref C) f = some none)
    (hder : ∀ (cdv : Value) (A : Around) (outer : List PySem.Env) (s : Shared) (H : Hp) (E : XK), PSs (cxOf CX0 P w K mg base N qual (defScope st) fI cdv A outer s H E).nox (defBody st) (tOst K f (tVar 0) (tVar 1))) : FnOk P w K mg base CX0 1 fI fd ps (iniS C f) := by
  refine Fun.ok F S (fun vs H Q E h => ?_) fun cdv A outer s H vs Q E hr h => ⟨_, hder cdv A outer s H E, ?_⟩
  · obtain ⟨a, v, rfl, _⟩ := h
    exact h2.symm
  · obtain ⟨a, v, rfl, e, q⟩ := h
    have es : L2.start N [.ref a, v] = [some (.ref a), some v] := by
      unfold L2.start
      rw [hN]; rfl
    rw [es]
    exact ⟨v, rfl, .ref a, rfl, a, C, rfl, T, hn, .inl ⟨e, fun dx n ne => q dx n ne⟩⟩
/-- the denotation: lv calls may be nested yet -/
def sRaiseF (c : Nat) (f : Str) (d : D) (lv : Nat) : SD := fun ρ S => if 2 ≤ lv then (d ρ S).toS ρ fun x S1 => .exc ⟨c, [(f, x)]⟩ ρ S1 else .stuck
theorem xd_of {H : Hp} {a dx C : Addr} {f : Str} {v : V} (hd : H dx = none) (ha : H a = none) (ne : dx ≠ a) : upd (del (upd (upd (upd H a (exo a C none)) dx (exd dx [(f, v)])) a (exo a C (some dx))) a) dx (.xd [(f, v)]) = upd H dx (.xd [(f, v)]) := by
  funext b
  by_cases h1 : b = dx
  · rw [h1, upd_same, upd_same]
  · rw [upd_ne h1, upd_ne h1]
    by_cases h2 : b = a
    · rw [h2, del_same, ha]
    · rw [del_ne h2, upd_ne h2, upd_ne h1, upd_ne h2]
section
variable {X : Cx} {cv : Nat → Value} {W : WX}
theorem ps_raiseF {c k lv : Nat} {C fI : Addr} {x f : Str} {fd : FuncData} {ps : List Str} {e : Expr} {d : D} {p pos pos' : Pos} (hcm : X.calm = true) (tk : Takes X W) (hC : cv c = .ref C) (T : OexC X.K C) (iC : PySem.W.findIn X.K (.ref C) "__init__" = some (some (.ref fI)))
    (tI : PySem.W.typeIn X.K (.ref fI) = some (.type "function")) (F1 : FnOk X.prog X.w X.K X.mg X.base CX0 1 fI fd ps (iniS C f)) (hlv : lv = k) (hr : Room k X.A) (hb : Binds X.K fd ps []) (hg : Gl X x) (hm : X.mg x = some (.ref C)) (he : PE X e (TD (Gm X cv) W d))
    (hdb : (x == ("__debug__" : Str)) = false := by decide) (hst : starEach [e] X.env = (false, eval e X.env) :: starEach [] X.env := by rfl) :
    PS X (.Raise (some (.Call (.Name x p) [e] [] pos)) none pos') (TSD (Gm X cv) W (sRaiseF c f d lv)) := by
  by_cases h2 : 2 ≤ lv
  · refine (ps_raise hcm tk (pmk_oex T iC tI F1 (hr.mono (by omega)) hb .nil pass0 hg hm (pa_cons he pa_nil hst) hdb hst)).imp fun D σ H ⟨ι, ρ, S, hs, hh, q⟩ => ?_
    have q : FinS (Gm X cv) W ι H D ((d ρ S).toS ρ fun x S1 => .exc ⟨c, [(f, x)]⟩ ρ S1) := by
      have q := q
      unfold sRaiseF at q
      rwa [if_pos h2] at q
    refine ⟨ι, ρ, S, hs, hh, FinS.bind q hs fun xv S1 ι1 H1 v e1 h1 r1 q1 => ⟨Nat.le_of_ble_eq_true rfl, fun a na => ⟨a, v, rfl, upd_same, fun dx hn ne => ⟨rfl, dx, [(f, v)], upd_same, ?_, ?_, ?_⟩⟩⟩⟩
    · rw [upd_ne ne, upd_same]
    · rwa [upd_ne ne] at hn
    · rw [upd_ne ne] at hn
      rw [xd_of hn na ne, ← hC]
      refine q1 ι1 _ σ (some dx) (Ext.fresh hn) (h1.fresh hn) ((hs.ext e1).ext (Ext.fresh hn)) ⟨List.cons_ne_nil _ _, _, upd_same, fun g y hy => ?_⟩
      have hy : (match g == f with | true => some xv | false => none) = some y := hy
      have go : ∀ o, o = (g == f) → ∃ u, (match o with | true => some v | false => none : Option V) = some u ∧ RV X.K ι1 (upd H1 dx (.xd [(f, v)])) y u := fun o ho => by
        rw [← ho] at hy
        cases o with
        | true =>
          cases hy
          exact ⟨v, rfl, r1.ext (Ext.fresh hn)⟩
        | false => cases hy
      obtain ⟨u, u1, u2⟩ := go _ rfl
      refine ⟨u, ?_, u2⟩
      show (match g == f with | true => some v | false => List.lookup g []) = some u
      revert u1
      cases g == f <;> exact fun z => z
  · exact ⟨fun pins s σ H D I ⟨ι, ρ, S, hs, hh, q⟩ => by
      unfold sRaiseF at q
      rw [if_neg h2] at q
      exact q.elim⟩
end
/-! ### max of a list, any -/
def maxI : List Int → Int
  | [] => 0
  | [x] => x
  | x :: y :: r => max x (maxI (y :: r))
theorem maxI_mem : ∀ {xs : List Int}, xs ≠ [] → maxI xs ∈ xs
  | [x], _ => List.mem_cons_self
  | x :: y :: r, _ => by
    have h := maxI_mem (xs := y :: r) (by simp)
    show max x (maxI (y :: r)) ∈ _
    rcases Int.le_total x (maxI (y :: r)) with q | q
    · rw [Int.max_eq_right q]; exact List.mem_cons_of_mem _ h
    · rw [Int.max_eq_left q]; exact List.mem_cons_self
theorem le_maxI : ∀ {xs : List Int} {y : Int}, y ∈ xs → y ≤ maxI xs
  | [x], y, h => by rw [List.mem_singleton.mp h]; exact Int.le_refl _
  | x :: z :: r, y, h => by
    show y ≤ max x (maxI (z :: r))
    rcases List.mem_cons.mp h with rfl | h
    · exact Int.le_max_left _ _
    · exact Int.le_trans (le_maxI h) (Int.le_max_right _ _)
def bMaxL : Fn := fun xs S => match xs with
  | [.ref n] => match S[n]? with
    | some c => match allSome (c.items.map asI) with
      | some ns => if ns ≠ [] then okI (maxI ns) S else .stuck
      | none => .stuck
    | none => .stuck
  | _ => .stuck
theorem ok_maxL {K : PySem.W.Frag} : OKA K (rMax K) bMaxL := by
  intro cv ι H S xs us W Q hh rx q
  unfold bMaxL at q
  split at q
  · split at q
    · rename_i c ec
      split at q
      · rename_i bs eb
        split at q
        · rename_i hne
          cases rx with
          | cons r1 rr =>
            cases rr
            cases r1 with
            | ref hn =>
              obtain ⟨vs, rr, hq⟩ := (hh.ok _ _ _ hn ec).sq
              cases rvs_ints rr eb
              refine ⟨_, bs, rfl, hq, List.length_pos_iff.mpr hne, fun m hm hle => ?_⟩
              rw [show m = maxI bs from Int.le_antisymm (le_maxI hm) (hle _ (maxI_mem hne))]
              exact q ι H _ .refl hh (.int _)
        · exact q.elim
      · exact q.elim
    · exact q.elim
  · exact q.elim
def bAny : Fn := fun xs S => match xs with
  | [.ref n] => match S[n]? with
    | some c => match allSome (c.items.map asB) with
      | some bs => okB (bs.any id) S
      | none => .stuck
    | none => .stuck
  | _ => .stuck
theorem ok_any {K : PySem.W.Frag} : OKA K (rAny K) bAny := by
  intro cv ι H S xs us W Q hh rx q
  unfold bAny at q
  split at q
  · split at q
    · rename_i c ec
      split at q
      · rename_i bs eb
        cases rx with
        | cons r1 rr =>
          cases rr
          cases r1 with
          | ref hn =>
            obtain ⟨vs, rr, hq⟩ := (hh.ok _ _ _ hn ec).sq
            cases rvs_bools rr eb
            exact ⟨_, bs, rfl, hq, q ι H _ .refl hh (.bl _)⟩
      · exact q.elim
    · exact q.elim
  · exact q.elim
end PD

/-! ## PDIsE -/
set_option Elab.async false
set_option linter.all false
set_option maxRecDepth 100000
set_option maxHeartbeats 1000000
/-! a clause that asks isinstance of the error that it names; a longer text times an int -/
namespace PD
open PySem PySem.Spec L2
def oRepS2 : Op2 := fun x y S => match x, y with
  | .str z, .int k => if 1 ≤ k ∧ k ≤ 1000000 ∧ 1 ≤ z.length ∧ z.length ≤ 16 then .ok (.str (Txt.mul z k)) S else .stuck
  | _, _ => .stuck
def rRepS2 : L2.R2 := fun x y H Q => ∃ z k, x = .str z ∧ y = .int k ∧ 1 ≤ k ∧ k ≤ 1000000 ∧ 1 ≤ z.length ∧ z.length ≤ 16 ∧ Q (.str (Txt.mul z k)) H
theorem op_repS2 {X : Cx} : OpR X (binaryOp .Mult) rRepS2 := by
  intro pins s σ H x y v u Q I rx ry h
  obtain ⟨z, k, rfl, rfl, h1, h2, h3, h4, q⟩ := h
  obtain ⟨t, rfl⟩ := rx
  obtain ⟨t', rfl⟩ := ry
  have hm : (z.length : Int) * k ≤ 16000000 := by
    have a : (z.length : Int) * k ≤ 16 * k := Int.mul_le_mul_of_nonneg_right (by omega) (by omega)
    omega
  refine SB.mul ⟨by simp only [Bool.or_eq_false_iff, decide_eq_false_iff_not]; omega, fun _ _ => ?_, fun _ _ => ?_⟩ fun t' k' => ?_
  · have : (z.length : Int) ≤ (2 ^ 63 - 1) / k := Int.le_ediv_of_mul_le (by omega) (by omega)
    omega
  · unfold Builtin.Str.tooLong
    rw [sizeLine_eq]
    refine decide_eq_false ?_
    have e : (z.length * k.toNat : Nat) ≤ 16000000 := by
      have : ((z.length * k.toNat : Nat) : Int) ≤ 16000000 := by
        rw [Int.natCast_mul, Int.toNat_of_nonneg (by omega)]; exact hm
      omega
    omega
  · exact ⟨.str _, H, I.tok _, ⟨_, rfl⟩, q⟩
theorem ok_repS2 {K : PySem.W.Frag} : OK2 K rRepS2 oRepS2 := by
  intro cv ι H S x y u v W Q hh rx ry q
  cases rx with
  | str z =>
    cases ry with
    | int k =>
      have q : Fin ⟨K, cv⟩ W ι H Q (if 1 ≤ k ∧ k ≤ 1000000 ∧ 1 ≤ z.length ∧ z.length ≤ 16 then .ok (.str (Txt.mul z k)) S else .stuck) := q
      split at q
      · rename_i hc
        exact ⟨z, k, rfl, rfl, hc.1, hc.2.1, hc.2.2.1, hc.2.2.2, q ι H _ .refl hh (.str _)⟩
      · exact q.elim
    | _ => exact q.elim
  | _ => exact q.elim
/-! ### isinstance(error, D) in a clause that names the error -/
def rIsEx (K : PySem.W.Frag) (C a : Addr) (cls : Value) (d : Option Addr) : List V → Hp → VK → Prop := fun xs H Q => cls = .ref C ∧ d = none ∧ rIsE K C a xs H Q
theorem call_isEx {X : Cx} {a C : Addr} {cls : Value} {d : Option Addr} {oe : Obj} {pn : List (Addr × Obj)} (T : ExcC X.K C) (hz : Zc cls d oe) (hf : ∃ vs, oe.data = .fields vs) : CallR (X.suite a ((a, oe) :: pn)) (.builtin "isinstance") (rIsEx X.K C a cls d) := by
  intro pins s σ H xs us Q I r h
  obtain ⟨rfl, rfl, h⟩ := h
  exact call_isE T hz hf pins s σ H xs us Q I r h
theorem kit_t {K : PySem.W.Frag} {C D : Addr} (h2 : PySem.W.isClsIn K D = true) (h3 : PySem.W.typeIn K (.ref D) = some (.type "type")) (h4 : PySem.W.subIn K (.ref C) (.ref D) = some true) : PySem.W.kitOne K (.ref C) (.ref D) = some true := by
  have e2 : ((PySem.W.clsIn K D).isSome && PySem.W.typeIn K (.ref D) == some (.type "type")) = true := by
    rw [show (PySem.W.clsIn K D).isSome = true from h2, h3]; rfl
  have e3 : PySem.W.kitCls K (.ref C) (.ref D) = some true := by
    show (if ((PySem.W.clsIn K D).isSome && PySem.W.typeIn K (.ref D) == some (.type "type")) = true then PySem.W.subIn K (.ref C) (.ref D) else none) = some true
    rw [if_pos e2]; exact h4
  unfold PySem.W.kitOne
  rw [e3]
  exact ite_self _
/-- what the clause keeps -/
def sErIs (j : Nat) (b : Bool) (x y : Str) (e : Exn) : SD := fun ρ S => match e.fs with
  | [] => .next (ρ.set j (some (.str (if b = true then x else y)))) S
  | _ => .stuck
section
variable {Γ : Cfg} {a C D : Addr} {cls : Value} {d : Option Addr} {i j : Nat} {b : Bool} {x y : Str}
theorem su_is (hk : PySem.W.kitOne Γ.K (.ref C) (.ref D) = some b) : SuOk Γ a cls d C i (sErIs j b x y) (tAsg (tIf (tB (tCB (rIsEx Γ.K C a cls d) (tCons (tVar i) (tCons (L2.tC (.ref D)) tNil)))) (L2.tC (.str x)) (L2.tC (.str y))) (gName j)) := fun ι H ρ S σ e E h1 h2 hs hh hx q => by
  unfold sErIs at q
  split at q
  · rename_i ef
    have hd : d = none := by
      cases d with
      | none => rfl
      | some dd => exact absurd ef hx.1
    refine ⟨_, h1, h2, hd, .ref D, .ref D, b, rfl, fun u r => r, hk, b, rfl, ?_⟩
    cases b with
    | true => exact FinS.next q hh (hs.set (.str _) j)
    | false => exact FinS.next q hh (hs.set (.str _) j)
  · exact q.elim
end
end PD

/-! ## PDLoop -/
set_option Elab.async false
set_option linter.all false
set_option maxRecDepth 100000
set_option maxHeartbeats 1000000
/-! while, <<, a comprehension over range(a, b, c), over enumerate, with two for -/
namespace PD
open PySem PySem.Spec L2
/-! ### while: at most so many turns -/
def sWhileN : Nat → DT → SD → SD
  | 0, _, _, _, _ => .stuck
  | k + 1, t, b, ρ, S => (t ρ S).toS ρ fun c S1 => if c = true then (b ρ S1).turn (sWhileN k t b) else .next ρ S1
section
variable {X : Cx} {cv : Nat → Value} {W : WX} {pos : Pos}
theorem ps_while' {c : Expr} {bs : List Stmt} {t : DT} {bd : SD} (k : Nat) (hp : PassesOwn (model X.prog X.w) X.A X.env X.xe) (hc : PT X c (TDT (Gm X cv) W t)) (hb : PSs X bs (TSD (Gm X cv) W bd)) : PS X (.While c bs [] pos) (TSD (Gm X cv) W (sWhileN k t bd)) :=
  (ps_while hp hc hb).imp fun D σ H ⟨ι, ρ, S, hs, hh, q⟩ => by
    refine ⟨fun m σ H => ∃ ι ρ S, RS X.K ι H ρ σ ∧ RH X.K ι H S ∧ FinS (Gm X cv) W ι H D (sWhileN m t bd ρ S), ⟨k, ι, ρ, S, hs, hh, q⟩, fun m σ' H' ⟨ι', ρ', S', hs', hh', q'⟩ => ?_⟩
    cases m with
    | zero => exact q'.elim
    | succ m =>
      refine ⟨ι', ρ', S', hs', hh', FinS.bind (R := fun _ _ => Eq) q' hs' fun x S1 ι1 H1 u e1 h1 r1 q1 => ?_⟩
      cases r1
      cases x with
      | false =>
        rw [if_neg (by decide)]
        exact FinS.next q1 h1 (hs'.ext e1)
      | true =>
        rw [if_pos rfl]
        refine ⟨fun σ H => ∃ ι ρ S, RS X.K ι H ρ σ ∧ RH X.K ι H S ∧ FinS (Gm X cv) W ι H D (sWhileN m t bd ρ S), fun σ2 H2 h2 => ⟨m, Nat.lt_succ_self m, h2⟩, ι1, ρ', S1, hs'.ext e1, h1, ?_⟩
        exact turn_end q1 fun ι3 H3 ρ3 σ3 S3 e3 a3 b3 c3 => ⟨ι3, ρ3, S3, b3, a3, c3⟩
end
/-! ### << -/
def oShl : Op2 := fun x y S => match x, y with
  | .int a, .int b => if 0 ≤ b ∧ b ≤ 1000000 ∧ a.natAbs < 2 ^ 64 then okI (a * 2 ^ b.toNat) S else .stuck
  | _, _ => .stuck
theorem ok_shl {K : PySem.W.Frag} : OK2 K (rI CPow fun i j => .int (i * 2 ^ j.toNat)) oShl := ok_cond (g := fun i j => i * 2 ^ j.toNat) fun cv ι H S x y W Q q => by
  unfold oShl at q
  split at q
  · split at q
    · rename_i hc; exact ⟨_, _, rfl, rfl, hc, q⟩
    · exact q.elim
  · exact q.elim
/-! ### sources that lay something for each item -/
structure SrcOkE (X : Cx) (src : Src) (J : It) (Ok : List Addr → Hp → Prop) : Prop where
  ext : ∀ ι H ι' H', Ok ι H → Ext ι H ι' H' → Ok ι' H'
  side : ∀ ι H (D : Addr) (vs ws : List V), Ok ι H → H D = some (.lst vs) → Ok ι (upd H D (.lst ws))
  stop : ∀ i ι H S, Ok ι H → RH X.K ι H S → src i S = some none → J.stop i H
  go : ∀ i ι H S x, Ok ι H → RH X.K ι H S → src i S = some (some x) → J.go i H
  yld : ∀ i ι H S x y H', Ok ι H → RH X.K ι H S → src i S = some (some x) → J.yld i H y H' → Ext ι H ι H' ∧ RH X.K ι H' S ∧ RV X.K ι H' x y
section
variable {X : Cx} {cv : Nat → Value} {W : WX}
theorem comp_coreE {src : Src} {J : It} {Ok : List Addr → Hp → Prop} {g : TG} {t : TgD} {tt : TT} {te : TE} {c : DT} {f : D} {vs : List Nat} (so : SrcOkE X src J Ok) (ht : TgOk X.K g t) (htt : ∀ σ H Q, TDT (Gm X cv) W0 c σ H Q → tt σ H Q) (hte : ∀ σ H Q, TD (Gm X cv) W0 f σ H Q → te σ H Q)
    {ι : List Addr} {H : Hp} {ρ : PD.Env} {σ : L2.St} {S : Store} {WW : Value → Option Addr → Hp → Prop} {Q : VK} (hgw : ∀ v σ H (Q : L2.St → Hp → Prop), g v (wipe σ vs) H Q → g v (wipe σ vs) H fun σ2 H2 => wipe σ2 vs = wipe σ vs ∧ Q σ2 H2)
    (hs : RS X.K ι H ρ σ) (hh : RH X.K ι H S) (h0 : Ok ι H) {m : Nat} (q : Fin (Gm X cv) WW ι H Q ((compG src t c f m 0 [] (wipeE ρ vs) S).bind alloc)) :
    ∀ D, H D = none → ∃ W' : Nat → Nat → Hp → Prop, (∃ m, W' 0 m (upd H D (.lst []))) ∧ ∀ i m H, W' i m H →
      (J.stop i H ∧ Q (.ref D) H) ∨ (J.go i H ∧ ∃ Nx : Hp → Prop, (∀ H', Nx H' → ∃ m', m' < m ∧ W' (i + 1) m' H') ∧ ∀ x H', J.yld i H x H' → g x (wipe σ vs) H' fun σ2 H2 => wipe σ2 vs = wipe σ vs ∧ tt σ2 H2 fun b H3 =>
        if b = true then te σ2 H3 fun y H4 => ∃ acc, H4 D = some (.lst acc) ∧ acc.length < sizeLine ∧ Nx (upd H4 D (.lst (acc ++ [y]))) else Nx H3) := by
  intro D hD
  have hw0 := wipe_rs hs vs
  refine ⟨fun i m H' => ∃ ι' S' acc us, Ext ι H ι' H' ∧ RH X.K ι' H' S' ∧ Ok ι' H' ∧ D ∉ ι' ∧ H' D = some (.lst us) ∧ RVs X.K ι' H' acc us ∧ Fin (Gm X cv) WW ι H Q ((compG src t c f m i acc (wipeE ρ vs) S').bind alloc), ⟨m, ι, S, [], [], Ext.fresh hD, hh.fresh hD, so.ext _ _ _ _ h0 (Ext.fresh hD), fun z => ?_, upd_same, .nil, q⟩, fun i m' H' ⟨ι', S', acc, us, e, hh', h0', nD, hd, ra, q'⟩ => ?_⟩
  · exact hh.trk z hD
  · have rs' := hw0.ext e
    have stop : src i S' = some none → Fin (Gm X cv) WW ι H Q (alloc acc S') → J.stop i H' ∧ Q (.ref D) H' := fun es qa => by
      refine ⟨so.stop i ι' H' S' h0' hh' es, qa _ _ _ (e.adopt hD) (hh'.adopt nD hd ra) (.ref ?_)⟩
      rw [← hh'.len]; simp
    cases m' with
    | zero =>
      unfold compG at q'
      split at q'
      · rename_i es
        exact .inl (stop es q')
      · exact q'.elim
    | succ m' =>
      unfold compG at q'
      split at q'
      · exact q'.elim
      · rename_i es
        exact .inl (stop es q')
      · rename_i x ex
        split at q'
        · exact q'.elim
        · rename_i ρ1 eρ
          refine .inr ⟨so.go i ι' H' S' x h0' hh' ex, fun H2 => ∃ ι' S' acc us, Ext ι H ι' H2 ∧ RH X.K ι' H2 S' ∧ Ok ι' H2 ∧ D ∉ ι' ∧ H2 D = some (.lst us) ∧ RVs X.K ι' H2 acc us ∧ Fin (Gm X cv) WW ι H Q ((compG src t c f m' (i + 1) acc (wipeE ρ vs) S').bind alloc), fun H2 h2 => ⟨m', Nat.lt_succ_self m', h2⟩, fun y H2 hy => ?_⟩
          obtain ⟨e0, hh2, rx⟩ := so.yld i ι' H' S' x y H2 h0' hh' ex hy
          obtain ⟨nD, hd⟩ := e0.own nD hd
          have h0' := so.ext _ _ _ _ h0' e0
          have rs' := rs'.ext e0
          have ra := ra.ext e0
          have e := e.trans e0
          refine hgw _ _ _ _ (ht ι' H2 _ ρ1 (wipe σ vs) x y _ rs' rx eρ fun σ2 hs2 => ?_)
          rw [bind_assoc] at q'
          refine htt σ2 H2 _ ⟨ι', ρ1, S', hs2, hh2, noX_bind0 (R := fun _ _ => Eq) q' fun b S1 ι1 H1 b' e1 h1 r1 q1 => ?_⟩
          cases r1
          obtain ⟨nD1, hd1⟩ := e1.own nD hd
          have o1 := so.ext _ _ _ _ h0' e1
          cases b with
          | false => exact ⟨ι1, S1, acc, us, e.trans e1, h1, o1, nD1, hd1, ra.ext e1, q1⟩
          | true =>
            have q1 : Fin (Gm X cv) WW ι H Q (((PD.noX (f ρ1 S1)).bind fun y S2 => if acc.length < 16777216 then compG src t c f m' (i + 1) (acc ++ [y]) (wipeE ρ vs) S2 else .stuck).bind alloc) := q1
            rw [bind_assoc] at q1
            refine hte σ2 H1 _ ⟨ι1, ρ1, S1, hs2.ext e1, h1, noX_bind0 q1 fun y S2 ι2 H2 v e2 h2 r2 q2 => ?_⟩
            obtain ⟨nD2, hd2⟩ := e2.own nD1 hd1
            split at q2
            · rename_i hl
              have ra2 := (ra.ext e1).ext e2
              refine ⟨us, hd2, by rw [← ra.length, sizeLine_eq]; exact hl, ι2, S2, acc ++ [y], us ++ [v], ((e.trans e1).trans e2).side hD hd2, h2.side nD2 hd2, so.side _ _ _ _ _ (so.ext _ _ _ _ o1 e2) hd2, nD2, upd_same, (ra2.append (.cons r2 .nil)).side hd2, q2⟩
            · exact q2.elim
/-! ### enumerate over a list -/
def srcE (n : Nat) : Src := fun i S => match S[n]? with
  | some c => some (c.items[i]?.map fun x => .tup [.int (i : Nat), x])
  | none => none
theorem src_enum {n : Nat} {a : Addr} : SrcOkE X (srcE n) (Ite X.K a) (fun ι _ => ι[n]? = some a) where
  ext := fun ι H ι' H' h e => e.get h
  side := fun _ _ _ _ _ h _ => h
  stop := fun i ι H S h hh q => by
    unfold srcE at q
    split at q
    · rename_i c ec
      obtain ⟨vs, rv, hq⟩ := (hh.ok _ _ _ h ec).sq
      have q := Option.some.inj q
      have : c.items[i]? = none := by
        cases e : c.items[i]? with
        | none => rfl
        | some x => rw [e] at q; cases q
      exact ⟨vs, hq, by rw [← rv.length]; exact List.getElem?_eq_none_iff.mp this⟩
    · cases q
  go := fun i ι H S x h hh q => by
    unfold srcE at q
    split at q
    · rename_i c ec
      obtain ⟨vs, rv, hq⟩ := (hh.ok _ _ _ h ec).sq
      have q := Option.some.inj q
      cases e : c.items[i]? with
      | none => rw [e] at q; cases q
      | some y =>
        obtain ⟨v, ev, _⟩ := rv.get e
        exact ⟨vs, v, hq, ev⟩
    · cases q
  yld := fun i ι H S x y H' h hh q hy => by
    unfold srcE at q
    split at q
    · rename_i c ec
      obtain ⟨vs, rv, hq⟩ := (hh.ok _ _ _ h ec).sq
      have q := Option.some.inj q
      cases e : c.items[i]? with
      | none => rw [e] at q; cases q
      | some z =>
        rw [e] at q
        cases q
        obtain ⟨v, ev, r⟩ := rv.get e
        obtain ⟨p, u, rfl, hp, rfl, hu⟩ := hy
        have := hu vs hq
        rw [ev] at this; cases this
        exact ⟨Ext.fresh hp, hh.fresh hp, .tup (SqT.of upd_same) (.cons (.int _) (.cons (r.ext (Ext.fresh hp)) .nil))⟩
    · cases q
def dLCE (f : D) (t : TgD) (c : DT) (e : D) (vs : List Nat) : D := fun ρ S => (f ρ S).bind fun x S1 => match x with
  | .ref n => match S1[n]? with
    | some cc => (compG (srcE n) t c e cc.items.length 0 [] (wipeE ρ vs) S1).bind alloc
    | none => .stuck
  | _ => .stuck
theorem lcE {f e : D} {c : DT} {g : TG} {t : TgD} {vs : List Nat} {fa : DA} (ht : TgOk X.K g t) (hw : Wp g vs) (hfa : fa = fun ρ S => (f ρ S).bind fun x S1 => .ok [x] S1) (σ : L2.St) (H : Hp) (Q : VK) (h : TD (Gm X cv) W (dLCE f t c e vs) σ H Q) : tLcD X cv (iEnum X.K (TDA (Gm X cv) W fa)) g c e vs σ H Q := by
  subst hfa
  obtain ⟨ι, ρ, S, hs, hh, q⟩ := h
  refine ⟨ι, ρ, S, hs, hh, ?_⟩
  have q : Fin (Gm X cv) (fun c d H' => W c d σ H') ι H Q ((f ρ S).bind fun x S1 => match x with
    | .ref n => match S1[n]? with
      | some cc => (compG (srcE n) t c e cc.items.length 0 [] (wipeE ρ vs) S1).bind alloc
      | none => .stuck
    | _ => .stuck) := q
  show FinA (Gm X cv) _ ι H _ ((f ρ S).bind fun x S1 => .ok [x] S1)
  revert q
  cases f ρ S with
  | stuck => exact fun q => q
  | exc x S1 => exact fun q => q
  | ok x S1 =>
    intro q ι1 H1 us e1 h1 r1
    cases r1 with
    | cons r1 r2 =>
      cases r2
      have q1 := FinG.weak e1 q
      cases r1 with
      | ref hn =>
        rename_i n a
        have q1 : Fin (Gm X cv) (fun c d H' => W c d σ H') ι1 H1 Q (match S1[n]? with | some cc => (compG (srcE n) t c e cc.items.length 0 [] (wipeE ρ vs) S1).bind alloc | none => .stuck) := q1
        split at q1
        · rename_i cc ec
          obtain ⟨us, rv, hq⟩ := (h1.ok _ _ _ hn ec).sq
          exact ⟨a, us, rfl, hq, comp_coreE src_enum ht (fun _ _ _ h => h) (fun _ _ _ h => h) hw (hs.ext e1) h1 hn q1⟩
        · exact q1.elim
      | _ => exact q1.elim
variable {elt tg iter : Expr} {ifs : List Expr} {scope : Scope} {own : List (Str × Nat)} {pos spos : Pos} {g : TG} {t : TgD} {c : DT} {e f : D}
theorem pd_lcE {a : Expr} {p pos2 tpos : Pos} {elts : List Expr} {kk : Nat} (hc : X.calm = true) (hN : X.N.Nodup) (hgl : Gl X "enumerate") (hm : X.mg "enumerate" = none) (hi : PE X a (TD (Gm X cv) W f)) (L : LcOk X cv elt (.Tuple elts kk tpos) ifs scope own g t c e)
    (hst : starEach [a] X.env = [(false, eval a X.env)] := by rfl) (hs : ∀ x, foldedSetIterable (.Call (.Name "enumerate" p) [a] [] pos2) X.env x = pure x := by intro _; rfl) :
    PE X (.ListComp elt [⟨.Tuple elts kk tpos, .Call (.Name "enumerate" p) [a] [] pos2, ifs, 0⟩] scope pos) (TD (Gm X cv) W (dLCE f t c e (own.map (·.2)))) :=
  (pe_lc hc hN (pi_enum hgl hm (pda_cons hi pda_nil hst) hst) L.ok L.tg L.ifs L.elt hs).imp fun σ H Q h => lcE L.tok L.wp rfl σ H Q h
/-! ### range(a, b, c) -/
def rangeC (lo c : Int) (n : Nat) : List Val := (List.range n).map fun (i : Nat) => Val.int (lo + (i : Int) * c)
theorem rangeC_length (lo c : Int) (n : Nat) : (rangeC lo c n).length = n := by simp [rangeC]
theorem rangeC_get {lo c : Int} {n i : Nat} (h : i < n) : (rangeC lo c n)[i]? = some (.int (lo + i * c)) := by
  unfold rangeC
  rw [List.getElem?_map, List.getElem?_range h]; rfl
theorem src_rngC {lo c : Int} {n : Nat} : SrcOk X (srcL (rangeC lo c n)) (Itc lo c n) (fun _ _ => True) where
  ext := fun _ _ _ _ _ _ => trivial
  side := fun _ _ _ _ _ _ _ => trivial
  stop := fun i ι H S h hh q => by
    have := List.getElem?_eq_none_iff.mp (Option.some.inj q)
    rw [rangeC_length] at this
    exact this
  go := fun i ι H S x h hh q => by
    have := (List.getElem?_eq_some_iff.mp (Option.some.inj q)).1
    rw [rangeC_length] at this
    exact this
  yld := fun i ι H S x y H' h hh q hy => by
    obtain ⟨rfl, rfl⟩ := hy
    have hi := (List.getElem?_eq_some_iff.mp (Option.some.inj q)).1
    rw [rangeC_length] at hi
    have e := Option.some.inj q
    rw [rangeC_get hi] at e
    cases e
    exact ⟨rfl, .int _⟩
def dLCR3 (g : DA) (t : TgD) (c : DT) (e : D) (vs : List Nat) : D := fun ρ S => (g ρ S).bind fun xs S1 => match xs with
  | [.int i, .int j, .int k] => if k ≠ 0 ∧ k.natAbs < 1073741824 ∧ Builtin.Range.small i j k = true ∧ 0 ≤ Builtin.Range.rangeSize i j k then (compG (srcL (rangeC i k (Builtin.Range.rangeSize i j k).toNat)) t c e (Builtin.Range.rangeSize i j k).toNat 0 [] (wipeE ρ vs) S1).bind alloc else .stuck
  | _ => .stuck
theorem lcR3 {vs : List Nat} {fa : DA} (ht : TgOk X.K g t) (hw : Wp g vs) (σ : L2.St) (H : Hp) (Q : VK) (h : TD (Gm X cv) W (dLCR3 fa t c e vs) σ H Q) : tLcD X cv (iRng3 (TDA (Gm X cv) W fa)) g c e vs σ H Q := by
  obtain ⟨ι, ρ, S, hs, hh, q⟩ := h
  refine ⟨ι, ρ, S, hs, hh, FinG.bind q fun xs S1 ι1 H1 us e1 h1 r1 q1 => ?_⟩
  split at q1
  · rename_i i j k
    split at q1
    · rename_i hj
      cases r1 with
      | cons r1 r2 =>
        cases r1
        cases r2 with
        | cons r1 r2 =>
          cases r1
          cases r2 with
          | cons r1 r2 =>
            cases r1; cases r2
            exact ⟨i, j, k, _, rfl, ⟨hj.1, hj.2.1, hj.2.2.1, (Int.toNat_of_nonneg hj.2.2.2).symm⟩, comp_core src_rngC ht (fun _ _ _ h => h) (fun _ _ _ h => h) hw (hs.ext e1) h1 trivial q1⟩
    · exact q1.elim
  · exact q1.elim
theorem pd_lcR3 {a b d : Expr} {fa : DA} {p pos2 : Pos} (hc : X.calm = true) (hN : X.N.Nodup) (hgl : Gl X "range") (hm : X.mg "range" = none) (hi : PA X [a, b, d] (TDA (Gm X cv) W fa)) (L : LcOk X cv elt tg ifs scope own g t c e)
    (hst : starEach [a, b, d] X.env = (false, eval a X.env) :: starEach [b, d] X.env := by rfl) (hpl : (backTo pos2 (starEach [b, d] X.env)).any (·.1) = false := by rfl) (hs : ∀ x, foldedSetIterable (.Call (.Name "range" p) [a, b, d] [] pos2) X.env x = pure x := by intro _; rfl) :
    PE X (.ListComp elt [⟨tg, .Call (.Name "range" p) [a, b, d] [] pos2, ifs, 0⟩] scope pos) (TD (Gm X cv) W (dLCR3 fa t c e (own.map (·.2)))) :=
  (pe_lc hc hN (pi_range3 hgl hm hi hst hpl) L.ok L.tg L.ifs L.elt hs).imp fun σ H Q h => lcR3 L.tok L.wp σ H Q h
theorem ps_setLcR3 {i : Nat} {y : Str} {py : Pos} {a b d : Expr} {fa : DA} {p pos2 : Pos} (hc : X.calm = true) (hN : X.N.Nodup) (hy : X.N[i]? = some y) (hyl : X.env.scope.names.lookup y = some .local) (hsw : swapsWith (.ListComp elt [⟨tg, .Call (.Name "range" p) [a, b, d] [] pos2, ifs, 0⟩] scope pos) (some (.Name y py)) spos.line X.env = pure true)
    (hgl : Gl X "range") (hm : X.mg "range" = none) (hi : PA X [a, b, d] (TDA (Gm X cv) W fa)) (L : LcOk X cv elt tg ifs scope own g t c e)
    (hst : starEach [a, b, d] X.env = (false, eval a X.env) :: starEach [b, d] X.env := by rfl) (hpl : (backTo pos2 (starEach [b, d] X.env)).any (·.1) = false := by rfl) (hs : ∀ x, foldedSetIterable (.Call (.Name "range" p) [a, b, d] [] pos2) X.env x = pure x := by intro _; rfl) :
    PS X (.Assign [.Name y py] (.ListComp elt [⟨tg, .Call (.Name "range" p) [a, b, d] [] pos2, ifs, 0⟩] scope pos) spos) (TSD (Gm X cv) W (sSet i (dLCR3 fa t c e (own.map (·.2))))) :=
  (ps_setLc hc hN hy hyl hsw (pi_range3 hgl hm hi hst hpl) L.ok L.tg L.ifs L.elt hs).imp fun D σ H h => lcR3 L.tok L.wp σ H _ (set_td h)
end
end PD

/-! ## PDLoop2 -/
set_option Elab.async false
set_option linter.all false
set_option maxRecDepth 100000
set_option maxHeartbeats 1000000
/-! a comprehension with two for: over a list, then over a tuple -/
namespace PD
open PySem PySem.Spec L2
def innerG (t : TgD) (e : D) : List Val → List Val → PD.Env → Store → Res (List Val)
  | [], acc, _, S => .ok acc S
  | y :: ys, acc, ρ, S => match t y ρ with
    | none => .stuck
    | some ρ2 => (noX (e ρ2 S)).bind fun z S1 => if acc.length < 16777216 then innerG t e ys (acc ++ [z]) ρ S1 else .stuck
def compO (src : Src) (t : TgD) (f2 : D) (t2 : TgD) (e : D) (vs1 : List Nat) : Nat → Nat → List Val → PD.Env → Store → Res (List Val)
  | 0, i, acc, _, S => match src i S with
    | some none => .ok acc S
    | _ => .stuck
  | m + 1, i, acc, ρ, S => match src i S with
    | none => .stuck
    | some none => .ok acc S
    | some (some x) => match t x ρ with
      | none => .stuck
      | some ρ1 => (noX (f2 ρ1 S)).bind fun y S1 => match y with
        | .tup ys => (innerG t2 e ys acc (wipeE ρ1 vs1) S1).bind fun acc S2 => compO src t f2 t2 e vs1 m (i + 1) acc ρ S2
        | _ => .stuck
def dLC2 (f : D) (t : TgD) (f2 : D) (t2 : TgD) (e : D) (vs vs1 : List Nat) : D := fun ρ S => (f ρ S).bind fun x S1 => match x with
  | .ref n => match S1[n]? with
    | some cc => (compO (srcC n) t f2 t2 e vs1 cc.items.length 0 [] (wipeE ρ vs) S1).bind alloc
    | none => .stuck
  | _ => .stuck
section
variable {X : Cx} {cv : Nat → Value} {W : WX}
theorem comp_core2 {src : Src} {J : It} {Ok : List Addr → Hp → Prop} {g g1 : TG} {t t2 : TgD} {f2 f : D} {vs vs1 : List Nat} (so : SrcOk X src J Ok) (ht : TgOk X.K g t) (ht2 : TgOk X.K g1 t2)
    {ι : List Addr} {H : Hp} {ρ : PD.Env} {σ : L2.St} {S : Store} {WW : Value → Option Addr → Hp → Prop} {Q : VK} (hgw : Wp g vs) (hgw1 : Wp g1 vs1)
    (hs : RS X.K ι H ρ σ) (hh : RH X.K ι H S) (h0 : Ok ι H) {m : Nat} (q : Fin (Gm X cv) WW ι H Q ((compO src t f2 t2 f vs1 m 0 [] (wipeE ρ vs) S).bind alloc)) :
    ∀ D, H D = none → ∃ W' : Nat → Nat → Hp → Prop, (∃ m, W' 0 m (upd H D (.lst []))) ∧ ∀ i m H, W' i m H →
      (J.stop i H ∧ Q (.ref D) H) ∨ (J.go i H ∧ ∃ Nx : Hp → Prop, (∀ H', Nx H' → ∃ m', m' < m ∧ W' (i + 1) m' H') ∧ ∀ x H', J.yld i H x H' → g x (wipe σ vs) H' fun σ2 H2 => wipe σ2 vs = wipe σ vs ∧ (TDT (Gm X cv) W0 tYes') σ2 H2 fun b H3 =>
        if b = true then (iTup X.K (TD (Gm X cv) W0 f2)) σ2 H3 fun J1 H4 => ∃ W1 : Nat → Nat → Hp → Prop, (∃ m, W1 0 m H4) ∧ ∀ j k H, W1 j k H →
          (J1.stop j H ∧ Nx H) ∨ (J1.go j H ∧ ∃ Nx1 : Hp → Prop, (∀ H', Nx1 H' → ∃ k', k' < k ∧ W1 (j + 1) k' H') ∧ ∀ x H', J1.yld j H x H' → g1 x (wipe σ2 vs1) H' fun σ3 H5 => wipe σ3 vs1 = wipe σ2 vs1 ∧ (TDT (Gm X cv) W0 tYes') σ3 H5 fun b H6 =>
            if b = true then (TD (Gm X cv) W0 f) σ3 H6 fun y H7 => ∃ acc, H7 D = some (.lst acc) ∧ acc.length < sizeLine ∧ Nx1 (upd H7 D (.lst (acc ++ [y]))) else Nx1 H6)
        else Nx H3) := by
  intro D hD
  have hw0 := wipe_rs hs vs
  refine ⟨fun i m H' => ∃ ι' S' acc us, Ext ι H ι' H' ∧ RH X.K ι' H' S' ∧ Ok ι' H' ∧ D ∉ ι' ∧ H' D = some (.lst us) ∧ RVs X.K ι' H' acc us ∧ Fin (Gm X cv) WW ι H Q ((compO src t f2 t2 f vs1 m i acc (wipeE ρ vs) S').bind alloc), ⟨m, ι, S, [], [], Ext.fresh hD, hh.fresh hD, so.ext _ _ _ _ h0 (Ext.fresh hD), fun z => ?_, upd_same, .nil, q⟩, fun i m' H' ⟨ι', S', acc, us, e, hh', h0', nD, hd, ra, q'⟩ => ?_⟩
  · exact hh.trk z hD
  · have rs' := hw0.ext e
    have stop : src i S' = some none → Fin (Gm X cv) WW ι H Q (alloc acc S') → J.stop i H' ∧ Q (.ref D) H' := fun es qa => by
      refine ⟨so.stop i ι' H' S' h0' hh' es, qa _ _ _ (e.adopt hD) (hh'.adopt nD hd ra) (.ref ?_)⟩
      rw [← hh'.len]; simp
    cases m' with
    | zero =>
      unfold compO at q'
      split at q'
      · rename_i es
        exact .inl (stop es q')
      · exact q'.elim
    | succ m' =>
      unfold compO at q'
      split at q'
      · exact q'.elim
      · rename_i es
        exact .inl (stop es q')
      · rename_i x ex
        split at q'
        · exact q'.elim
        · rename_i ρ1 eρ
          refine .inr ⟨so.go i ι' H' S' x h0' hh' ex, fun H2 => ∃ ι' S' acc us, Ext ι H ι' H2 ∧ RH X.K ι' H2 S' ∧ Ok ι' H2 ∧ D ∉ ι' ∧ H2 D = some (.lst us) ∧ RVs X.K ι' H2 acc us ∧ Fin (Gm X cv) WW ι H Q ((compO src t f2 t2 f vs1 m' (i + 1) acc (wipeE ρ vs) S').bind alloc), fun H2 h2 => ⟨m', Nat.lt_succ_self m', h2⟩, fun y H2 hy => ?_⟩
          obtain ⟨rfl, rx⟩ := so.yld i ι' H' S' x y H2 h0' hh' ex hy
          refine hgw _ _ _ _ (ht ι' H2 _ ρ1 (wipe σ vs) x y _ rs' rx eρ fun σ2 hs2 => ?_)
          refine ⟨ι', ρ1, S', hs2, hh', fun ι1 H1 b e1 h1 r1 => ?_⟩
          cases r1
          rw [if_pos rfl]
          obtain ⟨nD1, hd1⟩ := e1.own nD hd
          have o1 := so.ext _ _ _ _ h0' e1
          have ra1 := ra.ext e1
          have hs1 := hs2.ext e1
          rw [bind_assoc] at q'
          refine ⟨ι1, ρ1, S', hs1, h1, noX_bind0 q' fun w S1 ι2 H2' v e2 h2 r2 q2 => ?_⟩
          obtain ⟨nD2, hd2⟩ := e2.own nD1 hd1
          cases r2 with
          | tup ha rys =>
            rename_i a ys vs2
            have q2 : Fin (Gm X cv) WW ι H Q (((innerG t2 f ys acc (wipeE ρ1 vs1) S1).bind fun acc S2 => compO src t f2 t2 f vs1 m' (i + 1) acc (wipeE ρ vs) S2).bind alloc) := q2
            refine ⟨a, rfl, ⟨_, ha⟩, fun j k H3 => j + k = ys.length ∧ ∃ ι3 S3 acc us, Ext ι H ι3 H3 ∧ RH X.K ι3 H3 S3 ∧ Ok ι3 H3 ∧ D ∉ ι3 ∧ H3 D = some (.lst us) ∧ RVs X.K ι3 H3 acc us ∧ SqT X.K H3 a vs2 ∧ RVs X.K ι3 H3 ys vs2 ∧ RS X.K ι3 H3 (wipeE ρ1 vs1) (wipe σ2 vs1) ∧ Fin (Gm X cv) WW ι H Q (((innerG t2 f (ys.drop j) acc (wipeE ρ1 vs1) S3).bind fun acc S2 => compO src t f2 t2 f vs1 m' (i + 1) acc (wipeE ρ vs) S2).bind alloc),
              ⟨ys.length, Nat.zero_add _, ι2, S1, acc, us, (e.trans e1).trans e2, h2, so.ext _ _ _ _ o1 e2, nD2, hd2, ra1.ext e2, ha, rys, (wipe_rs (hs1.ext e2) vs1), q2⟩, fun j k H3 ⟨hjk, ι3, S3, acc3, us3, e3, h3, o3, nD3, hd3, ra3, ha3, ry3, hs3, q3⟩ => ?_⟩
            cases k with
            | zero =>
              have : j = ys.length := by omega
              subst this
              rw [List.drop_length] at q3
              exact .inl ⟨⟨vs2, ha3, by rw [← ry3.length]; exact Nat.le_refl _⟩, ι3, S3, acc3, us3, e3, h3, o3, nD3, hd3, ra3, q3⟩
            | succ k =>
              have hj : j < ys.length := by omega
              have ej : ys[j]? = some ys[j] := List.getElem?_eq_getElem hj
              obtain ⟨v3, ev3, rv3⟩ := ry3.get ej
              rw [List.drop_eq_getElem_cons hj] at q3
              unfold innerG at q3
              split at q3
              · exact q3.elim
              · rename_i ρ2 eρ2
                refine .inr ⟨⟨vs2, v3, ha3, ev3⟩, fun H4 => ∃ ι3 S3 acc us, Ext ι H ι3 H4 ∧ RH X.K ι3 H4 S3 ∧ Ok ι3 H4 ∧ D ∉ ι3 ∧ H4 D = some (.lst us) ∧ RVs X.K ι3 H4 acc us ∧ SqT X.K H4 a vs2 ∧ RVs X.K ι3 H4 ys vs2 ∧ RS X.K ι3 H4 (wipeE ρ1 vs1) (wipe σ2 vs1) ∧ Fin (Gm X cv) WW ι H Q (((innerG t2 f (ys.drop (j + 1)) acc (wipeE ρ1 vs1) S3).bind fun acc S2 => compO src t f2 t2 f vs1 m' (i + 1) acc (wipeE ρ vs) S2).bind alloc), fun H4 h4 => ⟨k, Nat.lt_succ_self k, by omega, h4⟩, fun y4 H4 hy4 => ?_⟩
                obtain ⟨rfl, hy4⟩ := hy4
                have ey := hy4 vs2 ha3
                rw [ev3] at ey; cases ey
                refine hgw1 _ _ _ _ (ht2 ι3 H4 _ ρ2 (wipe σ2 vs1) _ _ _ hs3 rv3 eρ2 fun σ3 hs4 => ?_)
                refine ⟨ι3, ρ2, S3, hs4, h3, fun ι5 H5 b5 e5 h5 r5 => ?_⟩
                cases r5
                rw [if_pos rfl]
                obtain ⟨nD5, hd5⟩ := e5.own nD3 hd3
                rw [bind_assoc, bind_assoc] at q3
                refine ⟨ι5, ρ2, S3, hs4.ext e5, h5, noX_bind0 q3 fun z S6 ι6 H6 v6 e6 h6 r6 q6 => ?_⟩
                obtain ⟨nD6, hd6⟩ := e6.own nD5 hd5
                split at q6
                · rename_i hl
                  have e36 := e5.trans e6
                  refine ⟨us3, hd6, by rw [← ra3.length, sizeLine_eq]; exact hl, ι6, S6, acc3 ++ [z], us3 ++ [v6], (e3.trans e36).side hD hd6, h6.side nD6 hd6, so.side _ _ _ _ _ (so.ext _ _ _ _ o3 e36) hd6, nD6, upd_same, ((ra3.ext e36).append (.cons r6 .nil)).side hd6, sqT_side hd6 _ _ (e36.sqT ha3), (ry3.ext e36).side hd6, (hs3.ext e36).side hd6, by rw [bind_assoc]; exact q6⟩
                · exact q6.elim
          | _ => exact q2.elim
/-- the block's parts -/
structure LcOk2 (X : Cx) (cv : Nat → Value) (elt tg tg1 iter1 : Expr) (scope : Scope) (own : List (Str × Nat)) (vs1 : List Nat) (g g1 : TG) (t t1 : TgD) (f2 e : D) : Prop where
  ok : BlkOk X.N X.env.scope scope own
  hv : ∀ i ∈ vs1, i ∈ own.map (·.2)
  tg : ∀ (s : Shared) (H : Hp) (C : Addr) (cl : List (Str × Addr)) (fp : List Addr), PG (X.blk s H scope (PySem.compEnvC scope cl C X.env) fp) tg g
  tok : TgOk X.K g t
  wp : Wp g (own.map (·.2))
  tg1 : ∀ (s : Shared) (H : Hp) (C : Addr) (cl : List (Str × Addr)) (fp : List Addr), PG (X.blk s H scope (PySem.compEnvC scope cl C X.env) fp) tg1 g1
  tok1 : TgOk X.K g1 t1
  wp1 : Wp g1 vs1
  it : ∀ (s : Shared) (H : Hp) (C : Addr) (cl : List (Str × Addr)) (fp : List Addr), PE (X.blk s H scope (PySem.compEnvC scope cl C X.env) fp) iter1 (TD (Gm X cv) W0 f2)
  elt : ∀ (s : Shared) (H : Hp) (C : Addr) (cl : List (Str × Addr)) (fp : List Addr), PE (X.blk s H scope (PySem.compEnvC scope cl C X.env) fp) elt (TD (Gm X cv) W0 e)
variable {elt tg tg1 iter iter1 : Expr} {scope : Scope} {own : List (Str × Nat)} {vs1 : List Nat} {pos spos : Pos} {g g1 : TG} {t t1 : TgD} {f f2 e : D}
theorem lc2 {vs : List Nat} (ht : TgOk X.K g t) (ht1 : TgOk X.K g1 t1) (hw : Wp g vs) (hw1 : Wp g1 vs1) (σ : L2.St) (H : Hp) (Q : VK) (h : TD (Gm X cv) W (dLC2 f t f2 t1 e vs vs1) σ H Q) : tLc2 (iList X.K (TD (Gm X cv) W f)) g (TDT (Gm X cv) W0 tYes') (iTup X.K (TD (Gm X cv) W0 f2)) g1 (TDT (Gm X cv) W0 tYes') (TD (Gm X cv) W0 e) vs vs1 σ H Q := by
  obtain ⟨ι, ρ, S, hs, hh, q⟩ := h
  refine ⟨ι, ρ, S, hs, hh, FinG.bind q fun x S1 ι1 H1 u e1 h1 r1 q1 => ?_⟩
  cases r1 with
  | ref hn =>
    rename_i n a
    have q1 : Fin (Gm X cv) (fun c d H' => W c d σ H') ι1 H1 Q (match S1[n]? with | some cc => (compO (srcC n) t f2 t1 e vs1 cc.items.length 0 [] (wipeE ρ vs) S1).bind alloc | none => .stuck) := q1
    split at q1
    · rename_i cc ec
      obtain ⟨us, rv, hq⟩ := (h1.ok _ _ _ hn ec).sq
      exact ⟨a, rfl, ⟨us, hq⟩, comp_core2 src_list ht ht1 hw hw1 (hs.ext e1) h1 hn q1⟩
    · exact q1.elim
  | _ => exact q1.elim
theorem pd_lc2 (hc : X.calm = true) (hN : X.N.Nodup) (hi : PE X iter (TD (Gm X cv) W f)) (L : LcOk2 X cv elt tg tg1 iter1 scope own vs1 g g1 t t1 f2 e) (hs : ∀ x, foldedSetIterable iter X.env x = pure x := by intro _; rfl) (hs1 : ∀ env x, foldedSetIterable iter1 env x = pure x := by intro _ _; rfl) :
    PE X (.ListComp elt [⟨tg, iter, [], 0⟩, ⟨tg1, iter1, [], 0⟩] scope pos) (TD (Gm X cv) W (dLC2 f t f2 t1 e (own.map (·.2)) vs1)) :=
  (pe_lc2 hc hN (pi_list hi) L.ok L.hv L.tg (fun _ _ _ _ _ => pdts_nil) (fun s H C cl fp => pi_tup (L.it s H C cl fp)) L.tg1 (fun _ _ _ _ _ => pdts_nil) L.elt hs hs1).imp fun σ H Q h => lc2 L.tok L.tok1 L.wp L.wp1 σ H Q h
theorem ps_setLc2' {i : Nat} {y : Str} {py : Pos} (hc : X.calm = true) (hN : X.N.Nodup) (hy : X.N[i]? = some y) (hyl : X.env.scope.names.lookup y = some .local) (hsw : swapsWith (.ListComp elt [⟨tg, iter, [], 0⟩, ⟨tg1, iter1, [], 0⟩] scope pos) (some (.Name y py)) spos.line X.env = pure true)
    (hi : PE X iter (TD (Gm X cv) W f)) (L : LcOk2 X cv elt tg tg1 iter1 scope own vs1 g g1 t t1 f2 e) (hs : ∀ x, foldedSetIterable iter X.env x = pure x := by intro _; rfl) (hs1 : ∀ env x, foldedSetIterable iter1 env x = pure x := by intro _ _; rfl) :
    PS X (.Assign [.Name y py] (.ListComp elt [⟨tg, iter, [], 0⟩, ⟨tg1, iter1, [], 0⟩] scope pos) spos) (TSD (Gm X cv) W (sSet i (dLC2 f t f2 t1 e (own.map (·.2)) vs1))) :=
  (ps_setLc2 hc hN hy hyl hsw (pi_list hi) L.ok L.hv L.tg (fun _ _ _ _ _ => pdts_nil) (fun s H C cl fp => pi_tup (L.it s H C cl fp)) L.tg1 (fun _ _ _ _ _ => pdts_nil) L.elt hs hs1).imp fun D σ H h => lc2 L.tok L.tok1 L.wp L.wp1 σ H _ (set_td h)
end
end PD

/-! ## PDTup -/
set_option Elab.async false
set_option linter.all false
set_option maxRecDepth 100000
set_option maxHeartbeats 1000000
namespace PD
open PySem PySem.Spec PyProof.Rows L2
theorem tuple_mul1 (l : Addr) (items : Array Value) (n : Nat) (dd : Option Addr) (sl : Array (Option Value)) (x : Int) (u : Tok) (c0 : (decide (x < -(2 ^ 63)) || decide (x ≥ 2 ^ 63)) = false) (c1 : (items.isEmpty || x == 1) = true) :
    Meets (Builtin.«tuple.__mul__» ⟨[.ref l, .int x u], []⟩) (fun _ R s => s.heap.get? l = some { cls := .type "tuple", dict := dd, data := .seq items n, slots := sl } ∧
      R (.ok (.ret (Value.ref l))) s) :=
  .of_wp fun prog w A R s h => by
    obtain ⟨hp, g, d, tk, os⟩ := s
    obtain ⟨hl, h⟩ := h
    have f1 := AutoSeq1.idx_int
    wp_walk using wpAny_loadPart' hl
    repeat (first
      | (refine wpAny_ite_false (decide_eq_false (by rw [c0]; exact Bool.false_ne_true)) ?_; wp_walk using wpAny_loadPart' hl)
      | (refine wpAny_ite_true (decide_eq_true c1) ?_; wp_walk using wpAny_loadPart' hl))
    exact ⟨_, rfl, h⟩
theorem tuple_mul0 (l : Addr) (items : Array Value) (n : Nat) (dd : Option Addr) (sl : Array (Option Value)) (x : Int) (u : Tok) (c0 : (decide (x < -(2 ^ 63)) || decide (x ≥ 2 ^ 63)) = false) (c1 : (items.isEmpty || x == 1) = false) (c2 : (decide (x ≤ 0) || items.isEmpty) = true) :
    Meets (Builtin.«tuple.__mul__» ⟨[.ref l, .int x u], []⟩) (fun _ R s => s.heap.get? l = some { cls := .type "tuple", dict := dd, data := .seq items n, slots := sl } ∧
      R (.ok (.ret (Value.ref s.heap.objs.size))) { s with heap := s.heap.push { cls := Value.type "tuple", data := Data.seq #[] }, toks := s.toks }) :=
  .of_wp fun prog w A R s h => by
    obtain ⟨hp, g, d, tk, os⟩ := s
    obtain ⟨hl, h⟩ := h
    have f1 := AutoSeq1.idx_int
    wp_walk using wpAny_loadPart' hl
    repeat (first
      | (refine wpAny_ite_false (decide_eq_false (by rw [c0]; exact Bool.false_ne_true)) ?_; wp_walk using wpAny_loadPart' hl)
      | (refine wpAny_ite_false (decide_eq_false (by rw [c1]; exact Bool.false_ne_true)) ?_; wp_walk using wpAny_loadPart' hl)
      | (refine wpAny_ite_true (decide_eq_true c2) ?_; wp_walk using wpAny_loadPart' hl))
    exact ⟨_, rfl, h⟩
theorem op_rep1 {X : Cx} : OpR X (binaryOp .Mult) (fun x y H Q => ∃ l xs, x = .ref l ∧ y = .int 1 ∧ SqT X.K H l xs ∧ xs ≠ [] ∧ Q (.ref l) H) := by
  intro pins s σ H x y v u Q I rx ry h
  obtain ⟨l, xs, rfl, rfl, hT, hne, q⟩ := h
  cases rx
  obtain ⟨t, rfl⟩ := ry
  obtain ⟨its, r, ⟨⟨cls, dd, data, sl⟩, ho, hc, n, hd⟩, hs⟩ := I.tuple hT
  simp only at hc hd
  subst hc hd
  refine wpAny_binaryOp_repeat_ref (T := "tuple") (U := "int") (by decide) ⟨_, ho, rfl⟩ (fun s' => typeIs_int s' 1 t) noFill_tuple_mul F.fills_int_mul F.slot_int_rmul repeat_tuple F.slot_int_index.lookup ?_
  refine call_meets F.slot_int_rmul (typeIs_int s 1 t) F.entry_int_rmul (F.args_int_rmul_2 _ _) (int_rmul_tuple 1 t l its.toArray n dd sl) ⟨ho, rfl, ⟨_, ho, rfl⟩, ?_⟩
  refine call_meets F.slot_tuple_mul ⟨_, ho, rfl⟩ F.entry_tuple_mul (F.args_tuple_mul_2 _ _) (tuple_mul1 l its.toArray n dd sl 1 t (by decide) (by simp)) ⟨ho, ?_⟩
  exact ⟨.ref l, H, I, rfl, q⟩
theorem op_rep0 {X : Cx} : OpR X (binaryOp .Mult) (fun x y H Q => ∃ l xs, x = .ref l ∧ y = .int 0 ∧ SqT X.K H l xs ∧ xs ≠ [] ∧ ∀ p, H p = none → Q (.ref p) (upd H p (.tup []))) := by
  intro pins s σ H x y v u Q I rx ry h
  obtain ⟨l, xs, rfl, rfl, hT, hne, q⟩ := h
  cases rx
  obtain ⟨t, rfl⟩ := ry
  obtain ⟨its, r, ⟨⟨cls, dd, data, sl⟩, ho, hc, n, hd⟩, hs⟩ := I.tuple hT
  simp only at hc hd
  subst hc hd
  have ne : its.toArray.isEmpty = false := by
    cases its with
    | nil => exact absurd (List.eq_nil_of_length_eq_zero r.length) hne
    | cons _ _ => rfl
  refine wpAny_binaryOp_repeat_ref (T := "tuple") (U := "int") (by decide) ⟨_, ho, rfl⟩ (fun s' => typeIs_int s' 0 t) noFill_tuple_mul F.fills_int_mul F.slot_int_rmul repeat_tuple F.slot_int_index.lookup ?_
  refine call_meets F.slot_int_rmul (typeIs_int s 0 t) F.entry_int_rmul (F.args_int_rmul_2 _ _) (int_rmul_tuple 0 t l its.toArray n dd sl) ⟨ho, rfl, ⟨_, ho, rfl⟩, ?_⟩
  refine call_meets F.slot_tuple_mul ⟨_, ho, rfl⟩ F.entry_tuple_mul (F.args_tuple_mul_2 _ _) (tuple_mul0 l its.toArray n dd sl 0 t (by decide) (by rw [ne]; rfl) (by rw [ne]; rfl)) ⟨ho, ?_⟩
  refine ⟨.ref s.heap.objs.size, _, I.laid (t' := s.toks) (o := .tup []) (fun b ob q => Heap.get?_push_of_some _ q) (Nat.le_refl _) ?_, rfl, q _ (I.hok.fresh (Nat.le_refl _))⟩
  exact ⟨Nat.zero_le _, [], .nil, PyProof.Rows.IsTup.new _ _⟩
def oRepTA : Op2 := fun x y S => match x, y with
  | .tup xs, .int k => if xs ≠ [] ∧ 0 ≤ k ∧ k ≤ 1000000 ∧ xs.length * k.toNat ≤ 1000000 then .ok (.tup (repV k.toNat xs)) S else .stuck
  | _, _ => .stuck
def rRepTA (K : PySem.W.Frag) : L2.R2 := rOr (rRepTB K) (rOr (fun x y H Q => ∃ l xs, x = .ref l ∧ y = .int 1 ∧ SqT K H l xs ∧ xs ≠ [] ∧ Q (.ref l) H) (fun x y H Q => ∃ l xs, x = .ref l ∧ y = .int 0 ∧ SqT K H l xs ∧ xs ≠ [] ∧ ∀ p, H p = none → Q (.ref p) (upd H p (.tup []))))
theorem op_repTA {X : Cx} : OpR X (binaryOp .Mult) (rRepTA X.K) := op_repTB.or (op_rep1.or op_rep0)
theorem ok_repTA {K : PySem.W.Frag} : OK2 K (rRepTA K) oRepTA := by
  intro cv ι H S x y u v W Q hh rx ry q
  cases rx with
  | @tup a xs vs ha r =>
    cases ry with
    | int k =>
      have q : Fin ⟨K, cv⟩ W ι H Q (if xs ≠ [] ∧ 0 ≤ k ∧ k ≤ 1000000 ∧ xs.length * k.toNat ≤ 1000000 then .ok (.tup (repV k.toNat xs)) S else .stuck) := q
      split at q
      · rename_i hc
        have hv : vs ≠ [] := fun z => hc.1 (List.eq_nil_of_length_eq_zero (by rw [r.length, z]; rfl))
        by_cases h2 : 2 ≤ k
        · exact .inl ⟨a, k, vs, rfl, rfl, ha, hv, h2, hc.2.2.1, by rw [← r.length]; exact hc.2.2.2, fun p hp => FinG.weak (Ext.fresh hp) q ι _ _ .refl (hh.fresh hp) (.tup (SqT.of upd_same) ((r.ext (Ext.fresh hp)).rep _))⟩
        · by_cases h1 : k = 1
          · subst h1
            have e : repV (1 : Int).toNat xs = xs := by
              show (List.replicate 1 xs).flatten = xs
              simp
            rw [e] at q
            exact .inr (.inl ⟨a, vs, rfl, rfl, ha, hv, q ι H _ .refl hh (.tup ha r)⟩)
          · have h0 : k = 0 := by have := hc.2.1; omega
            subst h0
            exact .inr (.inr ⟨a, vs, rfl, rfl, ha, hv, fun p hp => FinG.weak (Ext.fresh hp) q ι _ _ .refl (hh.fresh hp) (.tup (SqT.of upd_same) .nil)⟩)
      · exact q.elim
    | _ => exact q.elim
  | _ => exact q.elim
/-! ### a module's tuple of ints -/
section
variable {X : Cx} {cv : Nat → Value} {W : WX} {pos : Pos}
theorem rvsI_ {K : PySem.W.Frag} {ι : List Addr} {H : Hp} : ∀ is : List Int, RVs K ι H (is.map Val.int) (is.map V.int)
  | [] => .nil
  | i :: is => .cons (.int i) (rvsI_ is)
theorem pd_gt {is : List Int} {x : Str} (hg : Gl X x) (hm : ∃ a, X.mg x = some (.ref a) ∧ ∀ H, SqT X.K H a (is.map V.int)) (hd : (x == ("__debug__" : Str)) = false := by decide) : PE X (.Name x pos) (TD (Gm X cv) W (dC (.tup (is.map Val.int)))) :=
  hm.elim fun a h => ⟨fun pins s σ H Q I ⟨ι, ρ, S, hs, hh, q⟩ => (pe_glob (v := .ref a) hg h.1 rfl hd).run pins s σ H Q I (q ι H _ .refl hh (.tup (h.2 H) (rvsI_ is)))⟩
end
end PD
namespace PD
open PySem PySem.Spec L2
theorem wp_fst {i j : Nat} (h : i ≠ j) : Wp (gName i) [i, j] := fun v σ H Q q => by
  refine ⟨?_, q⟩
  show ((((σ.set j none).set i none).set i (some v)).set j none).set i none = (σ.set j none).set i none
  rw [List.set_set, List.set_comm (some v) none h, List.set_set, List.set_set]
end PD
namespace PD
open PySem PySem.Spec L2
def sPar3 (i j k : Nat) (g : DA) : SD := fun ρ S => (g ρ S).toS ρ fun xs S1 => match xs with
  | [x, y, z] => .next (((ρ.set i (some x)).set j (some y)).set k (some z)) S1
  | _ => .stuck
theorem ps_par3' {X : Cx} {cv : Nat → Value} {W : WX} {a b c : Expr} {i j l : Nat} {x y z : Str} {g : DA} {px py pz pt pos : Pos} {kt k2 pt2} (hc : X.calm = true) (hN : X.N.Nodup) (hi : X.N[i]? = some x) (hj : X.N[j]? = some y) (hl : X.N[l]? = some z) (hij : i ≠ j) (hil : i ≠ l) (hjl : j ≠ l)
    (hx : X.env.scope.names.lookup x = some .local) (hy : X.env.scope.names.lookup y = some .local) (hz : X.env.scope.names.lookup z = some .local) (ha : PA X [a, b, c] (TDA (Gm X cv) W g))
    (hw : swappedStores [.Tuple [.Name x px, .Name y py, .Name z pz] kt pt] (.Tuple [a, b, c] k2 pt2) X.env = pure (some [x, y, z]))
    (hs : swapsWithSole [.Tuple [.Name x px, .Name y py, .Name z pz] kt pt] (.Tuple [a, b, c] k2 pt2) pos.line X.env = pure false := by rfl) :
    PS X (.Assign [.Tuple [.Name x px, .Name y py, .Name z pz] kt pt] (.Tuple [a, b, c] k2 pt2) pos) (TSD (Gm X cv) W (sPar3 i j l g)) :=
  (ps_par3 hc hN hi hj hl hij hil hjl hx hy hz ha hw hs).imp fun D σ H ⟨ι, ρ, S, hs, hh, q⟩ => ⟨ι, ρ, S, hs, hh, FinS.bind q hs fun xs S1 ι1 H1 us e1 h1 r1 q1 => by
    cases r1 with
    | nil => exact q1.elim
    | cons ra r1 =>
      cases r1 with
      | nil => exact q1.elim
      | cons rb r1 =>
        cases r1 with
        | nil => exact q1.elim
        | cons rc r1 =>
          cases r1 with
          | nil => exact ⟨_, _, _, rfl, FinS.next q1 h1 ((((hs.ext e1).set ra i).set rb j).set rc l)⟩
          | cons _ _ => exact q1.elim⟩
end PD

/-! ## PDMinT -/
set_option Elab.async false
set_option linter.all false
set_option maxRecDepth 100000
set_option maxHeartbeats 2000000
/-! min, max of a tuple of integers -/
namespace PySem
section
variable {prog : Program} {w : World} {A : Around} {E : Value → Shared → Prop} {s : Shared} {l : Addr} {xs : Array (Int × Tok)}
theorem iter_intTup {Q : Value → Shared → Prop} (hl : s.heap.IsTuple l (intItems xs))
    (h : ∀ s₂ : Shared, s₂ = { s with heap := s.heap.push { cls := .type "tuple_iterator", data := .fields #[.ref l, .int 0 0] } } →
      (s₂.heap.IsTupleIter s.heap.objs.size l 0 ∧ s₂.heap.IsTuple l (intItems xs)) → (∀ b ∈ [s.heap.objs.size, l], b < s₂.heap.objs.size) → l ≠ s.heap.objs.size → Q (.ref s.heap.objs.size) s₂) :
    wpAny (model prog w) A (pyIter (.ref l)) Q E s := by
  have hlt : l < s.heap.objs.size := by obtain ⟨_, e, _⟩ := hl; exact Heap.lt_size e
  refine wpAny_pyIter_tuple hl (h _ rfl ⟨⟨_, Heap.get?_push_size _ rfl, rfl, rfl⟩, hl.push _⟩ (fun b hb => ?_) (Nat.ne_of_lt hlt))
  show b < (s.heap.push _).objs.size
  rw [Heap.size_push]
  rcases List.mem_cons.mp hb with rfl | hb
  · exact Nat.lt_succ_self _
  · rcases List.mem_cons.mp hb with rfl | hb
    · exact Nat.lt_succ_of_lt hlt
    · cases hb
theorem old_keptT {h' : Heap} (hk : ∀ b o, b ∉ [s.heap.objs.size] → (s.heap.push { cls := .type "tuple_iterator", data := .fields #[.ref l, .int 0 0] }).get? b = some o → h'.get? b = some o) :
    ∀ b o, s.heap.get? b = some o → h'.get? b = some o := fun b o e => by
  refine hk b o (fun hm => ?_) (Heap.get?_push_of_some _ e)
  rcases List.mem_cons.mp hm with e1 | hm
  · exact absurd (e1 ▸ Heap.lt_size e) (Nat.lt_irrefl _)
  · cases hm
theorem max_intTup {Q : Value → Shared → Prop} (hh : A.handled = none) (hl : s.heap.IsTuple l (intItems xs)) (hne : 0 < xs.size)
    (h : ∀ v h' tk, (intItems xs)[argBest (fun i j => decide (numAt xs i > numAt xs j)) (xs.size - 1)]? = some v → (∀ b o, s.heap.get? b = some o → h'.get? b = some o) → Q v { s with heap := h', toks := tk }) :
    wpAny (model prog w) A (call (.builtin "max") [.ref l]) Q E s := by
  refine call_max_walk (iter_intTup hl fun s₂ e st hfp hlI => ?_)
  subst e
  refine ⟨_, _, _, _, _, _, _, rfl, Walks.tuple (A := A.in1) hh _ l hlI (intItems xs), st, hfp, by simpa [intItems] using hne, CmpOf.ints_gt (numAt xs) (fun _ _ => intItems_at), fun v h' tk hP hk => ?_⟩
  exact h v h' tk (by simpa [intItems] using hP) (old_keptT hk)
theorem min_intTup {Q : Value → Shared → Prop} (hh : A.handled = none) (hl : s.heap.IsTuple l (intItems xs)) (hne : 0 < xs.size)
    (h : ∀ v h' tk, (intItems xs)[argBest (fun i j => decide (numAt xs i < numAt xs j)) (xs.size - 1)]? = some v → (∀ b o, s.heap.get? b = some o → h'.get? b = some o) → Q v { s with heap := h', toks := tk }) :
    wpAny (model prog w) A (call (.builtin "min") [.ref l]) Q E s := by
  refine call_min_walk (iter_intTup hl fun s₂ e st hfp hlI => ?_)
  subst e
  refine ⟨_, _, _, _, _, _, _, rfl, Walks.tuple (A := A.in1) hh _ l hlI (intItems xs), st, hfp, by simpa [intItems] using hne, CmpOf.ints_lt (numAt xs) (fun _ _ => intItems_at), fun v h' tk hP hk => ?_⟩
  exact h v h' tk (by simpa [intItems] using hP) (old_keptT hk)
end
end PySem
namespace PD
open PySem PySem.Spec L2 PyProof.Rows
section
variable {prog : Program} {w : World} {A : Around} {E : Value → Shared → Prop} {s : Shared} {l : Addr} {its : List Value} {ns : List Int} {Q : Value → Shared → Prop}
theorem maxT_raw (hh : A.handled = none) (hl : s.heap.IsTuple l its.toArray) (hi : IntsAre its ns) (hne : 0 < ns.length)
    (h : ∀ h' tk M t', (∀ b o, s.heap.get? b = some o → h'.get? b = some o) → M ∈ ns → (∀ a, a ∈ ns → a ≤ M) → Q (.int M t') { s with heap := h', toks := tk }) : wpAny (model prog w) A (call (.builtin "max") [.ref l]) Q E s := by
  obtain ⟨xs, e⟩ := hi.allInts.items
  have hn : numsOf (intItems xs).toList = ns := by rw [← e]; exact hi.numsOf
  rw [nums_intItems] at hn
  subst hn
  rw [e] at hl
  have hsz : 0 < xs.size := by simpa using hne
  refine PySem.max_intTup hh hl hsz fun v h' tk hv hk => ?_
  obtain ⟨t, rfl⟩ := intItems_at hv
  obtain ⟨h1, h2⟩ := argBest_gt (numAt xs) (xs.size - 1)
  refine h h' tk _ t hk ?_ fun a ha => ?_
  · rw [numAt_eq]; exact PySem.getD_mem (by rw [List.length_map, Array.length_toList]; omega)
  · obtain ⟨j, hj, rfl⟩ := mem_getD ha
    rw [List.length_map, Array.length_toList] at hj
    rw [← numAt_eq]; exact h2 j (by omega)
theorem minT_raw (hh : A.handled = none) (hl : s.heap.IsTuple l its.toArray) (hi : IntsAre its ns) (hne : 0 < ns.length)
    (h : ∀ h' tk M t', (∀ b o, s.heap.get? b = some o → h'.get? b = some o) → M ∈ ns → (∀ a, a ∈ ns → M ≤ a) → Q (.int M t') { s with heap := h', toks := tk }) : wpAny (model prog w) A (call (.builtin "min") [.ref l]) Q E s := by
  obtain ⟨xs, e⟩ := hi.allInts.items
  have hn : numsOf (intItems xs).toList = ns := by rw [← e]; exact hi.numsOf
  rw [nums_intItems] at hn
  subst hn
  rw [e] at hl
  have hsz : 0 < xs.size := by simpa using hne
  refine PySem.min_intTup hh hl hsz fun v h' tk hv hk => ?_
  obtain ⟨t, rfl⟩ := intItems_at hv
  obtain ⟨h1, h2⟩ := argBest_lt (numAt xs) (xs.size - 1)
  refine h h' tk _ t hk ?_ fun a ha => ?_
  · rw [numAt_eq]; exact PySem.getD_mem (by rw [List.length_map, Array.length_toList]; omega)
  · obtain ⟨j, hj, rfl⟩ := mem_getD ha
    rw [List.length_map, Array.length_toList] at hj
    rw [← numAt_eq]; exact h2 j (by omega)
end
def rMaxT (K : PySem.W.Frag) : List V → Hp → VK → Prop := fun vs H Q => ∃ (a : Addr) (ns : List Int), vs = [V.ref a] ∧ SqT K H a (ns.map V.int) ∧ 0 < ns.length ∧ ∀ m, m ∈ ns → (∀ y, y ∈ ns → y ≤ m) → Q (.int m) H
def rMinT (K : PySem.W.Frag) : List V → Hp → VK → Prop := fun vs H Q => ∃ (a : Addr) (ns : List Int), vs = [V.ref a] ∧ SqT K H a (ns.map V.int) ∧ 0 < ns.length ∧ ∀ m, m ∈ ns → (∀ y, y ∈ ns → m ≤ y) → Q (.int m) H
theorem cr_maxT {X : Cx} (hc : X.calm = true) : CallR X (.builtin "max") (rMaxT X.K) := by
  intro pins s σ H vs us Q I r h
  obtain ⟨a, ns, rfl, hs, hne, q⟩ := h
  obtain ⟨its, rv, hl, _⟩ := I.tuple hs
  rw [Vals.ref1 r]
  exact maxT_raw (I.ok.hd hc) hl rv.ints hne fun h' tk m t' hk h1 h2 => ⟨.int _, H, I.kept hk, ⟨_, rfl⟩, q m h1 h2⟩
theorem cr_minT {X : Cx} (hc : X.calm = true) : CallR X (.builtin "min") (rMinT X.K) := by
  intro pins s σ H vs us Q I r h
  obtain ⟨a, ns, rfl, hs, hne, q⟩ := h
  obtain ⟨its, rv, hl, _⟩ := I.tuple hs
  rw [Vals.ref1 r]
  exact minT_raw (I.ok.hd hc) hl rv.ints hne fun h' tk m t' hk h1 h2 => ⟨.int _, H, I.kept hk, ⟨_, rfl⟩, q m h1 h2⟩
def bMinT : Fn := fun xs S => match xs with
  | [.tup ys] => match allSome (ys.map asI) with
    | some ns => if ns ≠ [] then okI (minI ns) S else .stuck
    | none => .stuck
  | _ => .stuck
def bMaxT : Fn := fun xs S => match xs with
  | [.tup ys] => match allSome (ys.map asI) with
    | some ns => if ns ≠ [] then okI (maxI ns) S else .stuck
    | none => .stuck
  | _ => .stuck
theorem ok_minT {K : PySem.W.Frag} : OKA K (rMinT K) bMinT := by
  intro cv ι H S xs us W Q hh rx q
  unfold bMinT at q
  split at q
  · split at q
    · rename_i bs eb
      split at q
      · rename_i hne
        cases rx with
        | cons r1 rr =>
          cases rr
          cases r1 with
          | tup hq rr =>
            have e := rvs_ints rr eb
            subst e
            refine ⟨_, bs, rfl, hq, List.length_pos_iff.mpr hne, fun m hm hle => ?_⟩
            have : m = minI bs := Int.le_antisymm (hle _ (minI_mem hne)) (minI_le hm)
            rw [this]
            exact q ι H _ .refl hh (.int _)
      · exact q.elim
    · exact q.elim
  · exact q.elim
theorem ok_maxT {K : PySem.W.Frag} : OKA K (rMaxT K) bMaxT := by
  intro cv ι H S xs us W Q hh rx q
  unfold bMaxT at q
  split at q
  · split at q
    · rename_i bs eb
      split at q
      · rename_i hne
        cases rx with
        | cons r1 rr =>
          cases rr
          cases r1 with
          | tup hq rr =>
            have e := rvs_ints rr eb
            subst e
            refine ⟨_, bs, rfl, hq, List.length_pos_iff.mpr hne, fun m hm hle => ?_⟩
            have : m = maxI bs := Int.le_antisymm (le_maxI hm) (hle _ (maxI_mem hne))
            rw [this]
            exact q ι H _ .refl hh (.int _)
      · exact q.elim
    · exact q.elim
  · exact q.elim
end PD

/-! ## PDRun -/
set_option Elab.async false
set_option linter.all false
set_option maxRecDepth 100000
set_option maxHeartbeats 4000000
namespace PD
open PySem PySem.Spec L2
theorem w_var' {i : Nat} {ρ : PD.Env} {S : Store} {Q : Val → Store → Prop} : Run (dVar i ρ S) Q = match ρ[i]? with | some (some v) => Q v S | _ => False := by
  unfold dVar
  cases ρ[i]? with
  | none => rfl
  | some o => cases o <;> rfl
theorem run_alloc {xs : List Val} {S : Store} {Q : Val → Store → Prop} : Run (alloc xs S) Q = Q (.ref S.length) (S ++ [.lst xs]) := rfl
theorem run_okI {i : Int} {S : Store} {Q : Val → Store → Prop} : Run (okI i S) Q = Q (.int i) S := rfl
theorem run_okB {i : Bool} {S : Store} {Q : Val → Store → Prop} : Run (okB i S) Q = Q (.bl i) S := rfl
def Gr (S S' : Store) : Prop := ∃ G, S' = S ++ G
theorem Gr.refl (S : Store) : Gr S S := ⟨[], (List.append_nil S).symm⟩
theorem Gr.trans {S S' S2 : Store} (a : Gr S S') (b : Gr S' S2) : Gr S S2 := by
  obtain ⟨G, rfl⟩ := a
  obtain ⟨G', rfl⟩ := b
  exact ⟨G ++ G', List.append_assoc _ _ _⟩
theorem Gr.add (S : Store) (G : Store) : Gr S (S ++ G) := ⟨G, rfl⟩
theorem Gr.get {S S' : Store} (h : Gr S S') {n : Nat} {c : Cell} (e : S[n]? = some c) : S'[n]? = some c := by
  obtain ⟨G, rfl⟩ := h
  rw [List.getElem?_append_left (List.getElem?_eq_some_iff.mp e).1]; exact e
theorem get_new (S : Store) (c : Cell) : (S ++ [c])[S.length]? = some c := by simp
/-- the answer is a, and the store only grew -/
abbrev PureQ {α : Type} (S : Store) (a : α) : α → Store → Prop := fun b S' => b = a ∧ Gr S S'
/-- a comprehension over values, whose element is pure -/
theorem comp_pure {f : D} {v : Nat} {ρ : PD.Env} {g : Val → Val} : ∀ (xs : List Val) (i : Nat) (acc : List Val) (S0 S : Store), Gr S0 S → acc.length + xs.length < 16777216 →
    (∀ x ∈ xs, ∀ S', Gr S0 S' → Run (f (ρ.set v (some x)) S') (PureQ S' (g x))) → ∀ ys, ys.drop i = xs → i ≤ ys.length →
    Run (compG (srcL ys) (gN v) tYes' f xs.length i acc ρ S) (PureQ S (acc ++ xs.map g))
  | [], i, acc, S0, S, _, _, _, ys, hd, hi => by
    have : ys[i]? = none := by
      rw [List.getElem?_eq_none_iff]
      have := congrArg List.length hd
      simp at this; omega
    show Run (match srcL ys i S with | some none => Res.ok acc S | _ => .stuck) _
    unfold srcL
    rw [this]
    exact ⟨by simp, .refl S⟩
  | x :: xs, i, acc, S0, S, hg, hl, he, ys, hd, hi => by
    have hlt : i < ys.length := by
      have := congrArg List.length hd
      simp at this; omega
    have e0 := List.drop_eq_getElem_cons hlt
    rw [hd] at e0
    have hx : ys[i]? = some x := by rw [List.getElem?_eq_getElem hlt, (List.cons.inj e0).1]
    have hl' : acc.length + (xs.length + 1) < 16777216 := hl
    show Run (match srcL ys i S with
      | none => Res.stuck
      | some none => .ok acc S
      | some (some x) => match gN v x ρ with
        | none => .stuck
        | some ρ1 => (noX (tYes' ρ1 S)).bind fun b S1 => if b = true then (noX (f ρ1 S1)).bind fun y S2 => if acc.length < 16777216 then compG (srcL ys) (gN v) tYes' f xs.length (i + 1) (acc ++ [y]) ρ S2 else .stuck
            else compG (srcL ys) (gN v) tYes' f xs.length (i + 1) acc ρ S1) _
    have es : srcL ys i S = some (some x) := by unfold srcL; rw [hx]
    rw [es]
    show Run ((noX (f (ρ.set v (some x)) S)).bind fun y S2 => if acc.length < 16777216 then compG (srcL ys) (gN v) tYes' f xs.length (i + 1) (acc ++ [y]) ρ S2 else .stuck) _
    rw [run_bind, run_noX]
    refine Run.mono (he x List.mem_cons_self S hg) fun y S1 ⟨ey, g1⟩ => ?_
    rw [if_pos (by omega)]
    refine Run.mono (comp_pure (g := g) xs (i + 1) (acc ++ [y]) S0 S1 (hg.trans g1) (by simp; omega) (fun y hy => he y (List.mem_cons_of_mem _ hy)) ys (List.cons.inj e0).2.symm hlt) fun zs S2 ⟨ez, g2⟩ => ?_
    exact ⟨by rw [ez, ey]; simp, g1.trans g2⟩
theorem comp_pure0 {f : D} {g : Val → Val} {v : Nat} {ρ : PD.Env} (xs : List Val) (S : Store) (hl : xs.length < 16777216) (he : ∀ x ∈ xs, ∀ S', Gr S S' → Run (f (ρ.set v (some x)) S') (PureQ S' (g x))) :
    Run (compG (srcL xs) (gN v) tYes' f xs.length 0 [] ρ S) (PureQ S (xs.map g)) := by
  have := comp_pure (f := f) (g := g) (v := v) (ρ := ρ) xs 0 [] S S (.refl S) (by simpa using hl) he xs rfl (Nat.zero_le _)
  simpa using this
/-! ### data: what a value holds, to some depth -/
inductive Da (S : Store) : Nat → Val → Prop
  | non (d : Nat) : Da S d .non
  | bl (d : Nat) (b : Bool) : Da S d (.bl b)
  | int (d : Nat) (i : Int) : Da S d (.int i)
  | str (d : Nat) (z : Str) : (PyData.str z).canLay0 = true → Da S d (.str z)
  | tup {d : Nat} {xs : List Val} : (∀ x ∈ xs, Da S d x) → Da S (d + 1) (.tup xs)
  | ref {d n : Nat} {xs : List Val} : S[n]? = some (.lst xs) → (∀ x ∈ xs, Da S d x) → Da S (d + 1) (.ref n)
theorem Da.up {S : Store} {d : Nat} {v : Val} (h : Da S d v) : ∀ {e : Nat}, d ≤ e → Da S e v := by
  induction h with
  | non d => exact fun _ => .non _
  | bl d b => exact fun _ => .bl _ b
  | int d i => exact fun _ => .int _ i
  | str d z h => exact fun _ => .str _ z h
  | @tup d xs _ ih =>
    intro e he
    obtain ⟨e', rfl⟩ : ∃ e', e = e' + 1 := ⟨e - 1, by omega⟩
    exact .tup fun x hx => ih x hx (by omega)
  | @ref d n xs hn _ ih =>
    intro e he
    obtain ⟨e', rfl⟩ : ∃ e', e = e' + 1 := ⟨e - 1, by omega⟩
    exact .ref hn fun x hx => ih x hx (by omega)
/-- where another store has the same cells -/
theorem Da.same {S S' : Store} {d : Nat} {v : Val} (h : Da S d v) (k : ∀ (n : Nat) (c : Cell), S[n]? = some c → S'[n]? = some c) : Da S' d v := by
  induction h with
  | non d => exact .non _
  | bl d b => exact .bl _ b
  | int d i => exact .int _ i
  | str d z h => exact .str _ z h
  | tup _ ih => exact .tup ih
  | ref hn _ ih => exact .ref (k _ _ hn) ih
theorem Da.gr {S S' : Store} {d : Nat} {v : Val} (h : Da S d v) (g : Gr S S') : Da S' d v := h.same fun _ _ e => g.get e
theorem allSome_all {α β : Type} {f : α → Option β} {g : α → β} : ∀ {xs : List α}, (∀ x ∈ xs, f x = some (g x)) → allSome (xs.map f) = some (xs.map g)
  | [], _ => rfl
  | x :: xs, h => by
    rw [List.map_cons, List.map_cons]
    unfold allSome
    rw [h x List.mem_cons_self, allSome_all fun y hy => h y (List.mem_cons_of_mem _ hy)]
/-- what it is as data -/
def dat (S : Store) (v : Val) : PyData := (toD 66 S v).getD .none
theorem Da.toD {S : Store} {d : Nat} {v : Val} (h : Da S d v) : ∀ f f' : Nat, d < f → d < f' → toD f S v = toD f' S v ∧ ∃ p, toD f S v = some p := by
  induction h with
  | non d => intro f f' h1 h2; obtain ⟨f, rfl⟩ : ∃ g, f = g + 1 := ⟨f - 1, by omega⟩; obtain ⟨f', rfl⟩ : ∃ g, f' = g + 1 := ⟨f' - 1, by omega⟩; exact ⟨rfl, _, rfl⟩
  | bl d b => intro f f' h1 h2; obtain ⟨f, rfl⟩ : ∃ g, f = g + 1 := ⟨f - 1, by omega⟩; obtain ⟨f', rfl⟩ : ∃ g, f' = g + 1 := ⟨f' - 1, by omega⟩; exact ⟨rfl, _, rfl⟩
  | int d b => intro f f' h1 h2; obtain ⟨f, rfl⟩ : ∃ g, f = g + 1 := ⟨f - 1, by omega⟩; obtain ⟨f', rfl⟩ : ∃ g, f' = g + 1 := ⟨f' - 1, by omega⟩; exact ⟨rfl, _, rfl⟩
  | str d b => intro f f' h1 h2; obtain ⟨f, rfl⟩ : ∃ g, f = g + 1 := ⟨f - 1, by omega⟩; obtain ⟨f', rfl⟩ : ∃ g, f' = g + 1 := ⟨f' - 1, by omega⟩; exact ⟨rfl, _, rfl⟩
  | @tup d xs _ ih =>
    intro f f' h1 h2
    obtain ⟨f, rfl⟩ : ∃ g, f = g + 1 := ⟨f - 1, by omega⟩
    obtain ⟨f', rfl⟩ : ∃ g, f' = g + 1 := ⟨f' - 1, by omega⟩
    have e : xs.map (PD.toD f S) = xs.map (PD.toD f' S) := List.map_congr_left fun x hx => (ih x hx f f' (by omega) (by omega)).1
    have a : allSome (xs.map (PD.toD f S)) = some (xs.map fun x => (PD.toD f S x).getD .none) := allSome_all fun x hx => by
      obtain ⟨p, hp⟩ := (ih x hx f f' (by omega) (by omega)).2
      rw [hp]; rfl
    refine ⟨?_, ?_⟩
    · show (allSome (xs.map (PD.toD f S))).map PyData.tuple = (allSome (xs.map (PD.toD f' S))).map PyData.tuple
      rw [e]
    · exact ⟨_, show (allSome (xs.map (PD.toD f S))).map PyData.tuple = _ by rw [a]; rfl⟩
  | @ref d n xs hn _ ih =>
    intro f f' h1 h2
    obtain ⟨f, rfl⟩ : ∃ g, f = g + 1 := ⟨f - 1, by omega⟩
    obtain ⟨f', rfl⟩ : ∃ g, f' = g + 1 := ⟨f' - 1, by omega⟩
    have e : xs.map (PD.toD f S) = xs.map (PD.toD f' S) := List.map_congr_left fun x hx => (ih x hx f f' (by omega) (by omega)).1
    have a : allSome (xs.map (PD.toD f S)) = some (xs.map fun x => (PD.toD f S x).getD .none) := allSome_all fun x hx => by
      obtain ⟨p, hp⟩ := (ih x hx f f' (by omega) (by omega)).2
      rw [hp]; rfl
    have u : ∀ g, PD.toD (g + 1) S (.ref n) = (allSome (xs.map (PD.toD g S))).map PyData.list := fun g => by
      show (match S[n]? with | some c => (allSome (c.items.map (PD.toD g S))).map PyData.list | none => none) = _
      rw [hn]; rfl
    exact ⟨by rw [u, u, e], _, by rw [u, a]; rfl⟩
theorem Da.dat {S : Store} {d : Nat} {v : Val} (h : Da S d v) {f : Nat} (h1 : d < f) (h2 : d < 66) : PD.toD f S v = some (dat S v) := by
  obtain ⟨e, p, hp⟩ := h.toD 66 f h2 h1
  unfold PD.dat
  rw [← e, hp]; rfl
theorem dat_tup {S : Store} {d : Nat} {xs : List Val} (h : ∀ x ∈ xs, Da S d x) (hd : d < 65) : dat S (.tup xs) = .tuple (xs.map (dat S)) := by
  unfold dat
  have : allSome (xs.map (PD.toD 65 S)) = some (xs.map fun x => (toD 66 S x).getD .none) := allSome_all fun x hx => (h x hx).dat (by omega) (by omega)
  show ((allSome (xs.map (PD.toD 65 S))).map PyData.tuple).getD .none = _
  rw [this]; rfl
theorem dat_ref {S : Store} {d n : Nat} {xs : List Val} (hn : S[n]? = some (.lst xs)) (h : ∀ x ∈ xs, Da S d x) (hd : d < 65) : dat S (.ref n) = .list (xs.map (dat S)) := by
  unfold dat
  have : allSome (xs.map (PD.toD 65 S)) = some (xs.map fun x => (toD 66 S x).getD .none) := allSome_all fun x hx => (h x hx).dat (by omega) (by omega)
  show ((match S[n]? with | some c => (allSome (c.items.map (PD.toD 65 S))).map PyData.list | none => none)).getD .none = _
  rw [hn]
  show ((allSome (xs.map (PD.toD 65 S))).map PyData.list).getD .none = _
  rw [this]; rfl
theorem canLay_all : ∀ {ps : List PyData}, (∀ p ∈ ps, p.canLay0 = true) → PyData.canLayAll0 ps = true
  | [], _ => rfl
  | p :: ps, h => by
    show (p.canLay0 && PyData.canLayAll0 ps) = true
    rw [h p List.mem_cons_self, canLay_all fun q hq => h q (List.mem_cons_of_mem _ hq)]; rfl
theorem depth_all {d : Nat} : ∀ {ps : List PyData}, (∀ p ∈ ps, p.depth ≤ d) → PyData.depthAll ps ≤ d
  | [], _ => Nat.zero_le _
  | p :: ps, h => by
    have h1 := h p List.mem_cons_self
    have h2 := depth_all fun q hq => h q (List.mem_cons_of_mem _ hq)
    show max p.depth (PyData.depthAll ps) ≤ d
    omega
theorem Da.lay {S : Store} {d : Nat} {v : Val} (h : Da S d v) : d < 65 → (PD.dat S v).canLay0 = true ∧ (PD.dat S v).depth ≤ d := by
  induction h with
  | non d => exact fun _ => ⟨rfl, Nat.zero_le _⟩
  | bl d b => exact fun _ => ⟨rfl, Nat.zero_le _⟩
  | int d i => exact fun _ => ⟨rfl, Nat.zero_le _⟩
  | str d z hz => exact fun _ => ⟨hz, Nat.zero_le _⟩
  | @tup d xs hx ih =>
    intro hd
    rw [dat_tup hx (by omega)]
    refine ⟨canLay_all fun p hp => ?_, ?_⟩
    · obtain ⟨x, hx', rfl⟩ := List.mem_map.mp hp
      exact (ih x hx' (by omega)).1
    · have : PyData.depthAll (xs.map (PD.dat S)) ≤ d := depth_all fun p hp => by
        obtain ⟨x, hx', rfl⟩ := List.mem_map.mp hp
        exact (ih x hx' (by omega)).2
      show PyData.depthAll (xs.map (PD.dat S)) + 1 ≤ d + 1
      omega
  | @ref d n xs hn hx ih =>
    intro hd
    rw [dat_ref hn hx (by omega)]
    refine ⟨canLay_all fun p hp => ?_, ?_⟩
    · obtain ⟨x, hx', rfl⟩ := List.mem_map.mp hp
      exact (ih x hx' (by omega)).1
    · have : PyData.depthAll (xs.map (PD.dat S)) ≤ d := depth_all fun p hp => by
        obtain ⟨x, hx', rfl⟩ := List.mem_map.mp hp
        exact (ih x hx' (by omega)).2
      show PyData.depthAll (xs.map (PD.dat S)) + 1 ≤ d + 1
      omega
theorem Da.shaped {S : Store} {d : Nat} {v : Val} (h : Da S d v) (hd : d < 65) : SeqAt.shaped (PD.dat S v) = true := by
  obtain ⟨h1, h2⟩ := h.lay hd
  unfold SeqAt.shaped
  rw [h1, decide_eq_true (by omega)]; rfl
theorem deq_dat {S : Store} {d e : Nat} {x y : Val} (hx : Da S d x) (hy : Da S e y) (hd : d < 65) (he : e < 65) : deq x y S = some (PyData.eqv (dat S x) (dat S y)) := by
  have gen : (match toD 66 S x, toD 66 S y with
    | some d, some e => if SeqAt.shaped d = true ∧ SeqAt.shaped e = true then some (PyData.eqv d e) else none
    | _, _ => none) = some (PyData.eqv (dat S x) (dat S y)) := by
    rw [hx.dat (f := 66) (by omega) (by omega), hy.dat (f := 66) (by omega) (by omega)]
    show (if SeqAt.shaped (dat S x) = true ∧ SeqAt.shaped (dat S y) = true then some _ else none) = _
    rw [if_pos ⟨hx.shaped hd, hy.shaped he⟩]
  cases hx with
  | int _ a =>
    cases hy with
    | int _ b =>
      show some (decide (a = b)) = some (a == b)
      rw [Bool.beq_eq_decide_eq]
    | _ => exact gen
  | _ => exact gen
theorem run_eq {S : Store} {d e : Nat} {x y : Val} {Q : Val → Store → Prop} (hx : Da S d x) (hy : Da S e y) (hd : d < 65) (he : e < 65) : Run (oEq x y S) Q = Q (.bl (PyData.eqv (dat S x) (dat S y))) S := by
  unfold oEq
  rw [deq_dat hx hy hd he]; rfl
theorem run_ne {S : Store} {d e : Nat} {x y : Val} {Q : Val → Store → Prop} (hx : Da S d x) (hy : Da S e y) (hd : d < 65) (he : e < 65) : Run (oNe x y S) Q = Q (.bl (!PyData.eqv (dat S x) (dat S y))) S := by
  unfold oNe
  rw [deq_dat hx hy hd he]; rfl
theorem run_eqI {S : Store} {a b : Int} {Q : Val → Store → Prop} : Run (oEq (.int a) (.int b) S) Q = Q (.bl (decide (a = b))) S := rfl
theorem run_neI {S : Store} {a b : Int} {Q : Val → Store → Prop} : Run (oNe (.int a) (.int b) S) Q = Q (.bl (!decide (a = b))) S := rfl
/-- what stood stands -/
def Kp (S S' : Store) : Prop := ∀ (n : Nat) (c : Cell), S[n]? = some c → S'[n]? = some c
theorem Kp.refl (S : Store) : Kp S S := fun _ _ h => h
theorem Kp.trans {S S' S2 : Store} (a : Kp S S') (b : Kp S' S2) : Kp S S2 := fun n c h => b n c (a n c h)
theorem Gr.kp {S S' : Store} (g : Gr S S') : Kp S S' := fun _ _ e => g.get e
theorem Da.kp {S S' : Store} {d : Nat} {v : Val} (h : Da S d v) (k : Kp S S') : Da S' d v := h.same k
abbrev PureK {α : Type} (S : Store) (a : α) : α → Store → Prop := fun b S' => b = a ∧ Kp S S'
theorem set_get {S : Store} {m : Nat} {c d : Cell} (h : S[m]? = some c) : (S.set m d)[m]? = some d := by
  rw [List.getElem?_set_self (List.getElem?_eq_some_iff.mp h).1]
theorem set_self {S : Store} {m : Nat} {c : Cell} (h : S[m]? = some c) : S.set m c = S := by
  apply List.ext_getElem?
  intro i
  by_cases e : m = i
  · subst e; rw [set_get h, h]
  · rw [List.getElem?_set_ne e]
theorem ty_int {i : Int} {S : Store} : tyN (.int i) S = some "int" := rfl
theorem ty_bl {i : Bool} {S : Store} : tyN (.bl i) S = some "bool" := rfl
theorem ty_str {i : Str} {S : Store} : tyN (.str i) S = some "str" := rfl
theorem ty_non {S : Store} : tyN .non S = some "NoneType" := rfl
theorem ty_tup {i : List Val} {S : Store} : tyN (.tup i) S = some "tuple" := rfl
theorem ty_ref {m : Nat} {c : Cell} {S : Store} (h : S[m]? = some c) : tyN (.ref m) S = some "list" := by
  show (match S[m]? with | some _ => some "list" | none => none) = _
  rw [h]
theorem askInt : "int" ∈ askedT := by decide
theorem askBool : "bool" ∈ askedT := by decide
theorem askTuple : "tuple" ∈ askedT := by decide
theorem askList : "list" ∈ askedT := by decide
theorem askStr : "str" ∈ askedT := by decide
theorem atI0 {α : Type} {a : α} {as : List α} : L2.atI (a :: as) 0 = some a := atI_nat (j := 0) rfl
theorem atI1 {α : Type} {a b : α} {as : List α} : L2.atI (a :: b :: as) 1 = some b := atI_nat (j := 1) rfl
theorem atI2 {α : Type} {a b c : α} {as : List α} : L2.atI (a :: b :: c :: as) 2 = some c := atI_nat (j := 2) rfl
theorem dat_int (S : Store) (i : Int) : dat S (.int i) = .int i := rfl
theorem dat_bl (S : Store) (i : Bool) : dat S (.bl i) = .bool i := rfl
def isI (v : Val) (i : Int) : Bool := match v with
  | .int j => decide (j = i)
  | _ => false
theorem two_of {α : Type} {xs : List α} (h : xs.length = 2) : ∃ a b, xs = [a, b] := by
  match xs, h with
  | [a, b], _ => exact ⟨a, b, rfl⟩
theorem three_of {α : Type} {xs : List α} (h : xs.length = 3) : ∃ a b c, xs = [a, b, c] := by
  match xs, h with
  | [a, b, c], _ => exact ⟨a, b, c, rfl⟩
theorem atIm1 {α : Type} {a b : α} : L2.atI [a, b] (-1) = some b := rfl
theorem atIm2 {α : Type} {a b : α} : L2.atI [a, b] (-2) = some a := rfl
theorem atIm1' {α : Type} {a b c : α} : L2.atI [a, b, c] (-1) = some c := rfl
theorem atIm2' {α : Type} {a b c : α} : L2.atI [a, b, c] (-2) = some b := rfl
theorem log_small {b : Int} (h0 : 0 ≤ b) (h : b < 2147483648) : b.natAbs.log2 < 1000 := by
  have : b.natAbs < 2 ^ 1000 := Nat.lt_of_lt_of_le (show b.natAbs < 2 ^ 31 by omega) (Nat.pow_le_pow_right (by decide) (by decide))
  exact PySem.Flt.log2_lt_of (by decide) this
theorem log_many {b : Int} (h0 : 0 < b) (h : b ≤ 1000000) : b.natAbs.log2 < 9000 := Nat.lt_of_lt_of_le (log_small (by omega) (by omega)) (by decide)
theorem set_other {S : Store} {c n : Nat} {d e : Cell} (h : n ≠ c) (q : S[n]? = some d) : (S.set c e)[n]? = some d := by
  rw [List.getElem?_set_ne (Ne.symm h)]; exact q
theorem run_ixR {c : Nat} {xs : List Val} {S : Store} {i : Int} {Q : Val → Store → Prop} (h : S[c]? = some (.lst xs)) : Run (oIx (.ref c) (.int i) S) Q = Run (match L2.atI xs i with | some z => Res.ok z S | none => .stuck) Q := by
  show Run (match S[c]? with | some d => (match L2.atI d.items i with | some z => Res.ok z S | none => .stuck) | none => .stuck) Q = _
  rw [h]; rfl
theorem run_modP {a m : Int} {S : Store} {Q : Val → Store → Prop} (h : 0 < m) : Run (oMod (.int a) (.int m) S) Q = Q (.int (a % m)) S := by
  show Run (if 0 < m then okI (a % m) S else .stuck) Q = _
  rw [if_pos h]; rfl
theorem run_divP {a m : Int} {S : Store} {Q : Val → Store → Prop} (h : 0 < m) (h1 : m ≤ 1000000) : Run (oDiv (.int a) (.int m) S) Q = Q (.int (a / m)) S := by
  show Run (if 0 < m ∧ m.natAbs.log2 < 9000 then okI (a / m) S else .stuck) Q = _
  rw [if_pos ⟨h, log_many h h1⟩]; rfl
theorem run_mulP {a b : Int} {S : Store} {Q : Val → Store → Prop} (h0 : 0 ≤ a) (h1 : a < 2147483648) (g0 : 0 ≤ b) (g1 : b < 2147483648) : Run (oMul (.int a) (.int b) S) Q = Q (.int (a * b)) S := by
  show Run (if a.natAbs.log2 + b.natAbs.log2 < 1000000 then okI (a * b) S else .stuck) Q = _
  have := log_small h0 h1
  have := log_small g0 g1
  rw [if_pos (by omega)]; rfl
theorem run_gtI {a b : Int} {S : Store} {Q : Val → Store → Prop} : Run (oGt (.int a) (.int b) S) Q = Q (.bl (decide (b < a))) S := rfl
theorem run_bIntI {a : Int} {S : Store} {Q : Val → Store → Prop} : Run (bInt [.int a] S) Q = Q (.int a) S := rfl
/-! ### data that does not hold the cup -/
def Kx (c : Nat) (S S' : Store) : Prop := ∀ (n : Nat) (d : Cell), n ≠ c → S[n]? = some d → S'[n]? = some d
theorem Kx.refl (c : Nat) (S : Store) : Kx c S S := fun _ _ _ e => e
theorem Kx.trans {c : Nat} {S S' S2 : Store} (a : Kx c S S') (b : Kx c S' S2) : Kx c S S2 := fun n d h e => b n d h (a n d h e)
theorem Kp.kx {c : Nat} {S S' : Store} (a : Kp S S') : Kx c S S' := fun n d _ e => a n d e
inductive Dc (c : Nat) (S : Store) : Nat → Val → Prop
  | non (d : Nat) : Dc c S d .non
  | bl (d : Nat) (b : Bool) : Dc c S d (.bl b)
  | int (d : Nat) (i : Int) : Dc c S d (.int i)
  | str (d : Nat) (z : Str) : (PyData.str z).canLay0 = true → Dc c S d (.str z)
  | tup {d : Nat} {xs : List Val} : (∀ x ∈ xs, Dc c S d x) → Dc c S (d + 1) (.tup xs)
  | ref {d n : Nat} {xs : List Val} : n ≠ c → S[n]? = some (.lst xs) → (∀ x ∈ xs, Dc c S d x) → Dc c S (d + 1) (.ref n)
theorem Dc.da {c : Nat} {S : Store} {d : Nat} {v : Val} (h : Dc c S d v) : Da S d v := by
  induction h with
  | non d => exact .non _
  | bl d b => exact .bl _ _
  | int d i => exact .int _ _
  | str d z h => exact .str _ z h
  | tup _ ih => exact .tup ih
  | ref _ hn _ ih => exact .ref hn ih
theorem Dc.kx {c : Nat} {S S' : Store} {d : Nat} {v : Val} (h : Dc c S d v) (k : Kx c S S') : Dc c S' d v := by
  induction h with
  | non d => exact .non _
  | bl d b => exact .bl _ _
  | int d i => exact .int _ _
  | str d z h => exact .str _ z h
  | tup _ ih => exact .tup ih
  | ref hc hn _ ih => exact .ref hc (k _ _ hc hn) ih
theorem Dc.up {c : Nat} {S : Store} {d : Nat} {v : Val} (h : Dc c S d v) : ∀ {e : Nat}, d ≤ e → Dc c S e v := by
  induction h with
  | non d => exact fun _ => .non _
  | bl d b => exact fun _ => .bl _ b
  | int d i => exact fun _ => .int _ i
  | str d z h => exact fun _ => .str _ z h
  | @tup d xs _ ih =>
    intro e he
    obtain ⟨e', rfl⟩ : ∃ e', e = e' + 1 := ⟨e - 1, by omega⟩
    exact .tup fun x hx => ih x hx (by omega)
  | @ref d n xs hc hn _ ih =>
    intro e he
    obtain ⟨e', rfl⟩ : ∃ e', e = e' + 1 := ⟨e - 1, by omega⟩
    exact .ref hc hn fun x hx => ih x hx (by omega)
theorem Dc.dat_kx {c : Nat} {S S' : Store} (k : Kx c S S') {d : Nat} {v : Val} (h : Dc c S d v) : d < 66 → PD.dat S v = PD.dat S' v := by
  induction h with
  | non d => exact fun _ => rfl
  | bl d b => exact fun _ => rfl
  | int d i => exact fun _ => rfl
  | str d z h => exact fun _ => rfl
  | @tup d xs hx ih =>
    intro hd
    rw [dat_tup (fun x h => (hx x h).da) (by omega), dat_tup (fun x h => ((hx x h).kx k).da) (by omega), List.map_congr_left fun x h => ih x h (by omega)]
  | @ref d n xs hc hn hx ih =>
    intro hd
    rw [dat_ref hn (fun x h => (hx x h).da) (by omega), dat_ref (k _ _ hc hn) (fun x h => ((hx x h).kx k).da) (by omega), List.map_congr_left fun x h => ih x h (by omega)]
/-! ### the lengths of what repr shows -/
theorem tuple_len (ts : List Str) : (tupleText ts).length ≤ piled ts + 3 := by
  unfold tupleText
  rw [strLen_append, strLen_append]
  have e1 : ((("(" : String) : Str)).length = 1 := rfl
  have e3 : (((if ts.length == 1 then ",)" else ")" : String) : Str)).length ≤ 2 := by split <;> decide
  rw [e1]
  by_cases h : ts = []
  · subst h
    show 1 + (Str.join ", " []).length + 1 ≤ 0 + 3
    decide
  · have := join_length_add ts h
    omega
theorem list_len : ∀ ts : List Str, (listText ts).length ≤ piled ts + 3
  | [] => by decide
  | t :: r => by
    have h := textFrom_length_pos r 1 (("[" : Str) ++ (if (0 : Nat) > 0 then ", " else "" : String) ++ t) (Nat.succ_pos 0)
    have e : ((("[" : Str) ++ (if (0 : Nat) > 0 then ", " else "" : String) ++ t)).length = 1 + t.length := by
      rw [strLen_append, strLen_append]; rfl
    have hX : (listText (t :: r)).length = (textFrom 0 "[" (t :: r)).length + 1 := by
      show (textFrom 0 "[" (t :: r) ++ "]").length = _
      rw [strLen_append]; rfl
    have hY : (textFrom 0 "[" (t :: r)).length = (textFrom 1 (("[" : Str) ++ (if (0 : Nat) > 0 then ", " else "" : String) ++ t) r).length := rfl
    rw [hX, hY, h, e, piled_cons]; omega
/-! ### what repr shows is text -/
theorem ok_app {a b : Str} (ha : PyData.strOk a = true) (hb : PyData.strOk b = true) : PyData.strOk (a ++ b) = true := by
  unfold PyData.strOk at *
  show (a.cps ++ b.cps).all _ = true
  rw [Array.all_append, ha, hb]; rfl
theorem ok_of (s : String) : PyData.strOk (Str.ofString s) = true := by
  unfold PyData.strOk Str.ofString
  simp only [cpsOfBytes_string, List.all_toArray, List.all_map, List.all_eq_true, Function.comp, decide_eq_true_eq]
  intro c _
  have := c.valid
  rcases this with h | ⟨_, h⟩
  · exact Nat.lt_trans h (by decide)
  · exact h
theorem ok_from : ∀ (ts : List Str) (k : Nat) (acc : Str), PyData.strOk acc = true → (∀ t ∈ ts, PyData.strOk t = true) → PyData.strOk (textFrom k acc ts) = true
  | [], _, acc, h, _ => h
  | t :: r, k, acc, h, q => ok_from r (k + 1) _ (ok_app (ok_app h (ok_of _)) (q t List.mem_cons_self)) fun u hu => q u (List.mem_cons_of_mem _ hu)
theorem ok_list {ts : List Str} (q : ∀ t ∈ ts, PyData.strOk t = true) : PyData.strOk (listText ts) = true := ok_app (ok_from ts 0 _ (ok_of _) q) (ok_of _)
theorem ok_join : ∀ ts : List Str, (∀ t ∈ ts, PyData.strOk t = true) → PyData.strOk (Str.join ", " ts) = true
  | [], _ => by decide +kernel
  | [x], q => q x List.mem_cons_self
  | x :: y :: r, q => ok_app (ok_app (q x List.mem_cons_self) (ok_of _)) (ok_join (y :: r) fun u hu => q u (List.mem_cons_of_mem _ hu))
theorem okt_tuple {ts : List Str} (q : ∀ t ∈ ts, PyData.strOk t = true) : PyData.strOk (tupleText ts) = true := ok_app (ok_app (ok_of _) (ok_join ts q)) (ok_of _)
/-- data off the cup, of a depth, and of a length when shown -/
structure Good (c : Nat) (S : Store) (d L : Nat) (v : Val) : Prop where
  da : Dc c S d v
  sh : (dat S v).showable = true
  ln : (dat S v).shown.length ≤ L
  ok : PyData.strOk (dat S v).shown = true
theorem Good.kx {c : Nat} {S S' : Store} {d L : Nat} {v : Val} (h : Good c S d L v) (k : Kx c S S') (hd : d < 66) : Good c S' d L v :=
  ⟨h.da.kx k, by rw [← h.da.dat_kx k hd]; exact h.sh, by rw [← h.da.dat_kx k hd]; exact h.ln, by rw [← h.da.dat_kx k hd]; exact h.ok⟩
theorem Good.up {c : Nat} {S : Store} {d L d' L' : Nat} {v : Val} (h : Good c S d L v) (h1 : d ≤ d') (h2 : L ≤ L') : Good c S d' L' v := ⟨h.da.up h1, h.sh, Nat.le_trans h.ln h2, h.ok⟩
section
variable {c : Nat} {S : Store} {d : Nat}
theorem Good.int {L : Nat} {i : Int} (h : i.natAbs < 10 ^ 100) (hL : 101 ≤ L) : Good c S d L (.int i) :=
  ⟨.int _ _, by
    show decide (i.natAbs.log2 < 1920) = true
    exact decide_eq_true (PySem.Flt.log2_lt_of (by decide) (Nat.lt_of_lt_of_le h (by decide +kernel))), by
    show (Str.ofString (toString i)).length ≤ L
    have := int_text_length_le10 (k := 100) (by decide) h
    clear h
    rw [ofString_length]
    omega, ok_of _⟩
theorem Good.non {L : Nat} (h : 4 ≤ L) : Good c S d L .non := ⟨.non _, rfl, h, ok_of _⟩
theorem Good.bl {L : Nat} {b : Bool} (h : 5 ≤ L) : Good c S d L (.bl b) := ⟨.bl _ _, rfl, by cases b; exact h; exact Nat.le_trans (show (4 : Nat) ≤ 5 by omega) h, by cases b <;> exact ok_of _⟩
theorem Good.str {L : Nat} {z : Str} (h : (PyData.str z).canLay0 = true) (hl : (reprText z).length ≤ L) (ho : PyData.strOk (reprText z) = true) : Good c S d L (.str z) := ⟨.str _ _ h, rfl, hl, ho⟩
/-- the items of a sequence, with the length that they pile up to -/
inductive Goods (c : Nat) (S : Store) (d : Nat) : Nat → List Val → Prop
  | nil (L : Nat) : Goods c S d L []
  | cons {L M N : Nat} {x : Val} {xs : List Val} : Good c S d L x → Goods c S d M xs → L + 2 + M ≤ N → Goods c S d N (x :: xs)
theorem Goods.all {L : Nat} {xs : List Val} (h : Goods c S d L xs) : (∀ x ∈ xs, Dc c S d x) ∧ PyData.showableAll (xs.map (dat S)) = true ∧ piled (PyData.shownAll (xs.map (dat S))) ≤ L ∧ ∀ t ∈ PyData.shownAll (xs.map (dat S)), PyData.strOk t = true := by
  induction h with
  | nil L => exact ⟨(fun _ h => nomatch h), rfl, Nat.zero_le _, fun _ h => nomatch h⟩
  | @cons L M N x xs hx _ hN ih =>
    obtain ⟨i1, i2, i3, i4⟩ := ih
    refine ⟨fun y hy => ?_, ?_, ?_, fun t ht => ?_⟩
    · rcases List.mem_cons.mp hy with rfl | hy
      · exact hx.da
      · exact i1 y hy
    · show (PyData.showable (dat S x) && PyData.showableAll (xs.map (dat S))) = true
      rw [hx.sh, i2]; rfl
    · show piled (PyData.shown (dat S x) :: PyData.shownAll (xs.map (dat S))) ≤ N
      rw [piled_cons]
      have := hx.ln
      omega
    · rcases List.mem_cons.mp ht with rfl | ht
      · exact hx.ok
      · exact i4 t ht
theorem Good.tup {L N : Nat} {xs : List Val} (h : Goods c S d L xs) (hd : d < 65) (hN : L + 3 ≤ N) : Good c S (d + 1) N (.tup xs) := by
  obtain ⟨i1, i2, i3, i4⟩ := h.all
  have e := dat_tup (fun x hx => (i1 x hx).da) hd
  refine ⟨.tup i1, by rw [e]; exact i2, ?_, by rw [e]; exact okt_tuple i4⟩
  rw [e]
  show (tupleText (PyData.shownAll (xs.map (dat S)))).length ≤ N
  have := tuple_len (PyData.shownAll (xs.map (dat S)))
  omega
theorem Good.ref {L N n : Nat} {xs : List Val} (hc : n ≠ c) (hn : S[n]? = some (.lst xs)) (h : Goods c S d L xs) (hd : d < 65) (hN : L + 3 ≤ N) : Good c S (d + 1) N (.ref n) := by
  obtain ⟨i1, i2, i3, i4⟩ := h.all
  have e := dat_ref hn (fun x hx => (i1 x hx).da) hd
  refine ⟨.ref hc hn i1, by rw [e]; exact i2, ?_, by rw [e]; exact ok_list i4⟩
  rw [e]
  show (listText (PyData.shownAll (xs.map (dat S)))).length ≤ N
  have := list_len (PyData.shownAll (xs.map (dat S)))
  omega
theorem Good.one {L N : Nat} {a : Val} (ha : Good c S d L a) (hd : d < 65) (hN : L + 5 ≤ N) : Good c S (d + 1) N (.tup [a]) :=
  .tup (L := L + 2) (.cons ha (.nil 0) (by omega)) hd (by omega)
theorem Good.two {L M N : Nat} {a b : Val} (ha : Good c S d L a) (hb : Good c S d M b) (hd : d < 65) (hN : L + M + 7 ≤ N) : Good c S (d + 1) N (.tup [a, b]) :=
  .tup (L := L + M + 4) (.cons ha (.cons hb (.nil 0) (Nat.le_refl _)) (by omega)) hd (by omega)
theorem Good.three {L M K N : Nat} {a b e : Val} (ha : Good c S d L a) (hb : Good c S d M b) (he : Good c S d K e) (hd : d < 65) (hN : L + M + K + 9 ≤ N) : Good c S (d + 1) N (.tup [a, b, e]) :=
  .tup (L := L + M + K + 6) (.cons ha (.cons hb (.cons he (.nil 0) (Nat.le_refl _)) (Nat.le_refl _)) (by omega)) hd (by omega)
theorem Goods.same {L : Nat} {a : Val} (ha : Good c S d L a) : ∀ k : Nat, Goods c S d (k * (L + 2)) (List.replicate k a)
  | 0 => .nil _
  | k + 1 => .cons ha (Goods.same ha k) (by rw [Nat.succ_mul]; omega)
end
/-- repr on data -/
theorem run_repr {c : Nat} {S : Store} {d L : Nat} {v : Val} {Q : Val → Store → Prop} (h : Good c S d L v) (hd : d < 65) (hL : L ≤ 16777216) : Run (bRepr [v] S) Q = Q (.str (dat S v).shown) S := by
  unfold bRepr
  show Run (match PD.toD 66 S v with
    | some d => if d.showable = true ∧ SeqAt.shaped d = true ∧ d.shown.length ≤ 16777216 then .ok (.str d.shown) S else .stuck
    | none => .stuck) Q = _
  rw [h.da.da.dat (f := 66) (by omega) (by omega)]
  show Run (if _ then Res.ok (Val.str (dat S v).shown) S else Res.stuck) Q = _
  rw [if_pos ⟨h.sh, h.da.da.shaped hd, Nat.le_trans h.ln hL⟩]; rfl
theorem run_addI {a b : Int} {S : Store} {Q : Val → Store → Prop} : Run (oAdd (.int a) (.int b) S) Q = Q (.int (a + b)) S := rfl
theorem run_subI {a b : Int} {S : Store} {Q : Val → Store → Prop} : Run (oSub (.int a) (.int b) S) Q = Q (.int (a - b)) S := rfl
theorem run_pick {m : Nat} {xs : List Val} {S : Store} {i : Int} (P : Val → Prop) (h : S[m]? = some (.lst xs)) (h0 : 0 ≤ i) (h1 : i < xs.length) (hP : ∀ x ∈ xs, P x) : Run (oIx (.ref m) (.int i) S) (fun r S' => P r ∧ S' = S) := by
  rw [run_ixR h]
  obtain ⟨j, rfl⟩ : ∃ j : Nat, i = (j : Int) := ⟨i.toNat, by omega⟩
  have hj : j < xs.length := by omega
  have e : xs[j]? = some xs[j] := List.getElem?_eq_getElem hj
  rw [atI_nat e]
  exact ⟨hP _ (List.getElem_mem hj), rfl⟩
theorem RunS.mono {r : SRes} {N N' : PD.Env → Store → Prop} {R R' : Val → Store → Prop} (h : RunS r N R) (q : ∀ ρ S, N ρ S → N' ρ S) (p : ∀ v S, R v S → R' v S) : RunS r N' R' := by
  cases r with
  | next ρ S => exact q ρ S h
  | ret v S => exact p v S h
  | _ => exact h
theorem s_step {b d : SD} {ρ : PD.Env} {S : Store} {N N' : PD.Env → Store → Prop} {R : Val → Store → Prop} (h : RunS (b ρ S) N' R) (q : ∀ ρ' S', N' ρ' S' → RunS (d ρ' S') N R) : RunS (sSeq b d ρ S) N R := by
  rw [s_seq]; exact RunS.mono h q fun _ _ h => h
theorem run_fn {n m : Nat} {b : SD} {xs : List Val} {ρ : PD.Env} {S : Store} {Q : Val → Store → Prop} (h : xs.length = n) (e : xs.map some ++ List.replicate (m - n) none = ρ) (q : RunS (b ρ S) (fun _ S' => Q .non S') Q) : Run (fnOf n m b xs S) Q := by
  subst e
  rw [run_fnOf, if_pos h]; exact q
theorem ix1 {a b : Val} {xs : List Val} {S : Store} {Q : Val → Store → Prop} : Run (oIx (.tup (a :: b :: xs)) (.int 1) S) Q = Q b S := by
  unfold oIx
  simp only [atI1]; rfl
theorem ix2 {a b e : Val} {xs : List Val} {S : Store} {Q : Val → Store → Prop} : Run (oIx (.tup (a :: b :: e :: xs)) (.int 2) S) Q = Q e S := by
  unfold oIx
  simp only [atI2]; rfl
theorem runS_loopV {t : TgD} {b : SD} {R : Val → Store → Prop} (m : Nat) (I : Nat → PD.Env → Store → Prop) (step : ∀ j x ρ S, j < m → I j ρ S → ∃ ρ1, t x ρ = some ρ1 ∧ RunS (b ρ1 S) (I (j + 1)) R) : ∀ (xs : List Val) (j : Nat) (ρ : PD.Env) (S : Store), j + xs.length ≤ m → I j ρ S → RunS (loopV t b xs ρ S) (I (j + xs.length)) R
  | [], j, ρ, S, _, h => by rw [loopV_nil]; exact h
  | x :: xs, j, ρ, S, hm, h => by
    rw [List.length_cons] at hm
    obtain ⟨ρ1, e, q⟩ := step j x ρ S (by omega) h
    rw [loopV_cons, e]
    show RunS ((b ρ1 S).turn (loopV t b xs)) _ _
    cases hr : b ρ1 S with
    | next ρ2 S2 =>
      rw [hr] at q
      have := runS_loopV m I step xs (j + 1) ρ2 S2 (by omega) q
      rw [show j + (x :: xs).length = j + 1 + xs.length by rw [List.length_cons]; omega]
      exact this
    | ret v S2 => rw [hr] at q; exact q
    | brk ρ2 S2 => rw [hr] at q; exact q.elim
    | cont ρ2 S2 => rw [hr] at q; exact q.elim
    | exc e ρ2 S2 => rw [hr] at q; exact q.elim
    | stuck => rw [hr] at q; exact q.elim
theorem rangeV_len (lo : Int) (n : Nat) : (rangeV lo n).length = n := by simp [rangeV]
theorem s_forR {as : DA} {t : TgD} {b : SD} {ρ : PD.Env} {S : Store} {N : PD.Env → Store → Prop} {R : Val → Store → Prop} : RunS (sForR as t b ρ S) N R = Run (as ρ S) fun xs S1 => match xs with | [.int j] => if -(2 ^ 62) ≤ j ∧ j < 2 ^ 62 then RunS (loopV t b (rangeV 0 j.toNat) ρ S1) N R else False | _ => False := by
  unfold sForR
  rw [runS_toS]
  congr; funext xs S1
  match xs with
  | [] => rfl
  | [.int j] =>
    show RunS (if -(2 ^ 62) ≤ j ∧ j < 2 ^ 62 then loopV t b (rangeV 0 j.toNat) ρ S1 else .stuck) N R = if -(2 ^ 62) ≤ j ∧ j < 2 ^ 62 then RunS (loopV t b (rangeV 0 j.toNat) ρ S1) N R else False
    split <;> rfl
  | [.non] => rfl
  | [.bl _] => rfl
  | [.str _] => rfl
  | [.tup _] => rfl
  | [.ref _] => rfl
  | [.ty _] => rfl
  | [.kl _] => rfl
  | .int _ :: _ :: _ => rfl
  | .non :: _ :: _ => rfl
  | .bl _ :: _ :: _ => rfl
  | .str _ :: _ :: _ => rfl
  | .tup _ :: _ :: _ => rfl
  | .ref _ :: _ :: _ => rfl
  | .ty _ :: _ :: _ => rfl
  | .kl _ :: _ :: _ => rfl
theorem Good.gr {c : Nat} {S S' : Store} {d L : Nat} {v : Val} (h : Good c S d L v) (k : Kp S S') (hd : d < 66) : Good c S' d L v := h.kx k.kx hd
theorem Good.num {c : Nat} {S : Store} {d : Nat} {i : Int} (h : -1000000 ≤ i) (h' : i ≤ 1000000) : Good c S d 101 (.int i) :=
  .int (Nat.lt_of_lt_of_le (show i.natAbs < 10 ^ 7 by omega) (Nat.pow_le_pow_right (by decide) (by decide))) (Nat.le_refl _)
theorem w_sl {f : D} {l h : DO} {ρ : PD.Env} {S : Store} {Q : Val → Store → Prop} : Run (dSl f l h ρ S) Q = Run (f ρ S) fun x S1 => Run (l ρ S1) fun lo S2 => Run (h ρ S2) fun hi S3 => Run (vSl x lo hi S3) Q := by
  unfold dSl
  rw [run_bind]
  congr; funext x S1
  rw [run_bind]
  congr; funext lo S2
  rw [run_bind]
theorem w_oNone {ρ : PD.Env} {S : Store} {Q : Option Int → Store → Prop} : Run (oNone ρ S) Q = Q none S := rfl
theorem w_oSome {f : D} {ρ : PD.Env} {S : Store} {Q : Option Int → Store → Prop} : Run (oSome f ρ S) Q = Run (f ρ S) fun x S1 => match x with | .int i => Q (some i) S1 | _ => False := by
  unfold oSome
  rw [run_bind]
  congr; funext x S1
  cases x <;> rfl
theorem run_slT {xs : List Val} {lo hi : Option Int} {S : Store} {Q : Val → Store → Prop} : Run (vSl (.tup xs) lo hi S) Q = Q (.tup (cutL xs lo hi)) S := rfl
theorem run_addT {xs ys : List Val} {S : Store} {Q : Val → Store → Prop} (h : xs.length + ys.length ≤ 16777216) : Run (oAdd (.tup xs) (.tup ys) S) Q = Q (.tup (xs ++ ys)) S := by
  show Run (if xs.length + ys.length ≤ 16777216 then .ok (.tup (xs ++ ys)) S else .stuck) Q = _
  rw [if_pos h]; rfl
theorem run_addL {xs ys : List Val} {n m : Nat} {S : Store} {Q : Val → Store → Prop} (h1 : S[n]? = some (.lst xs)) (h2 : S[m]? = some (.lst ys)) (h : xs.length + ys.length ≤ 16777216) : Run (oAdd (.ref n) (.ref m) S) Q = Q (.ref S.length) (S ++ [.lst (xs ++ ys)]) := by
  show Run (match S[n]?, S[m]? with
    | some (.lst xs), some (.lst ys) => if xs.length + ys.length ≤ 16777216 then alloc (xs ++ ys) S else .stuck
    | _, _ => .stuck) Q = _
  rw [h1, h2]
  show Run (if xs.length + ys.length ≤ 16777216 then alloc (xs ++ ys) S else .stuck) Q = _
  rw [if_pos h]; rfl
theorem run_neg {i : Int} {S : Store} {Q : Val → Store → Prop} : Run (oNeg (.int i) S) Q = Q (.int (-i)) S := rfl
theorem ix0 {a : Val} {xs : List Val} {S : Store} {Q : Val → Store → Prop} : Run (oIx (.tup (a :: xs)) (.int 0) S) Q = Q a S := by
  unfold oIx
  simp only [atI0]; rfl
section
variable {x y w : Val}
theorem cut20 : cutL [x, y] none (some 0) = [] := rfl
theorem cut21 : cutL [x, y] none (some 1) = [x] := rfl
theorem cut2a : cutL [x, y] (some (0 + 1)) none = [y] := rfl
theorem cut2b : cutL [x, y] (some (1 + 1)) none = [] := rfl
theorem cut30 : cutL [x, y, w] none (some 0) = [] := rfl
theorem cut31 : cutL [x, y, w] none (some 1) = [x] := rfl
theorem cut32 : cutL [x, y, w] none (some 2) = [x, y] := rfl
theorem cut3a : cutL [x, y, w] (some (0 + 1)) none = [y, w] := rfl
theorem cut3b : cutL [x, y, w] (some (1 + 1)) none = [w] := rfl
theorem cut3c : cutL [x, y, w] (some (2 + 1)) none = [] := rfl
end
theorem oIs_ref {m : Nat} {S : Store} {Q : Val → Store → Prop} : Run (oIs (.ref m) .non S) Q = Q (.bl false) S := rfl
theorem oIs_refB {m : Nat} {b : Bool} {S : Store} {Q : Val → Store → Prop} : Run (oIs (.ref m) (.bl b) S) Q = Q (.bl false) S := rfl
theorem run_len {m : Nat} {xs : List Val} {S : Store} {Q : Val → Store → Prop} (h : S[m]? = some (.lst xs)) : Run (bLen [.ref m] S) Q = Q (.int xs.length) S := by
  show Run (match S[m]? with | some c => okI c.items.length S | none => .stuck) Q = _
  rw [h]; rfl
theorem isi_list {m : Nat} {xs : List Val} {S : Store} {T : String} {Q : Val → Store → Prop} (h : S[m]? = some (.lst xs)) (hT : T ∈ askedT) : Run (bIsi [.ref m, .ty T] S) Q = Q (.bl (isT "list" T)) S := by
  have := ty_ref (S := S) h
  simp only [this, hT, run_ok, run_okI, run_okB, run_alloc, run_stuck, run_bind, run_ite, run_noX, run_fnOf, w_c, w_op, w_un, w_call, w_callK, w_nil, w_cons, w_tup, w_lst, isB_bl, w_tval, w_tand, w_tor, w_tnot, w_and, w_or, w_not, w_if, s_next, s_seq, s_if, s_ret, s_drop, s_set, s_par, s_put, s_asg, w_var', runS_next, runS_ret, runS_stuck, runS_ite, List.length_cons, List.length_nil, List.length_singleton, List.map_cons, List.map_nil, List.cons_append, List.nil_append, List.replicate_succ, List.replicate_zero, List.getElem?_cons_zero, List.getElem?_cons_succ, List.set_cons_zero, List.set_cons_succ, Nat.reduceAdd, Nat.reduceSub, Nat.reduceEqDiff, ite_true, ite_false, if_true, if_false, reduceIte, Bool.false_eq_true, decide_true, decide_false, String.reduceEq, Int.reduceEq, Nat.reduceLeDiff, true_and, and_true, Bool.not_true, Bool.not_false, decide_eq_true_eq, List.append_nil, bType, bIsi, bLen, bInt, ty_int, ty_bl, ty_str, ty_non, ty_tup, isT, oIs, oIsNot, run_eqI, run_neI, Bool.or_false, Bool.or_true, Bool.false_or, Bool.true_or, Bool.and_true, Bool.and_false, Bool.true_and, Bool.false_and, reduceCtorEq, decide_not, Bool.not_eq_true', decide_eq_false_iff_not, askInt, askBool, askTuple, askList, askStr, oLe, oLt, oGe, oGt, oInt2, atI0, atI1, atI2, run_addI, run_subI]
theorem run_neB {a b : Bool} {S : Store} {Q : Val → Store → Prop} : Run (oNe (.bl a) (.bl b) S) Q = Q (.bl (!(a == b))) S := by
  cases a <;> cases b <;> rfl
theorem run_lcr {as : DA} {v : Nat} {f : D} {vs : List Nat} {ρ : PD.Env} {S : Store} {j : Nat} {g : Val → Val} (e : as ρ S = .ok [.int j] S) (hj : j ≤ 1000000) (he : ∀ x ∈ rangeV 0 j, ∀ S', Gr S S' → Run (f ((wipeE ρ vs).set v (some x)) S') (PureQ S' (g x))) :
    Run (dLCR as (gN v) tYes' f vs ρ S) (fun r S' => ∃ S1, r = .ref S1.length ∧ S' = S1 ++ [.lst ((rangeV 0 j).map g)] ∧ Gr S S1) := by
  unfold dLCR
  rw [run_bind, e, run_ok]
  show Run (if -(2 ^ 62) ≤ (j : Int) ∧ (j : Int) < 2 ^ 62 then (compG (srcL (rangeV 0 j)) (gN v) tYes' f j 0 [] (wipeE ρ vs) S).bind alloc else .stuck) _
  rw [if_pos (by constructor <;> omega), run_bind]
  have := comp_pure0 (f := f) (v := v) (ρ := wipeE ρ vs) (g := g) (rangeV 0 j) S (by rw [rangeV_len]; omega) he
  rw [rangeV_len] at this
  refine Run.mono this fun ys S1 ⟨e1, g1⟩ => ?_
  subst e1
  exact ⟨_, rfl, rfl, g1⟩
section
variable {m : Nat} {a b : Val} {xs : List Val} {S : Store} {Q : Val → Store → Prop}
theorem ixr0 (h : S[m]? = some (.lst (a :: xs))) : Run (oIx (.ref m) (.int 0) S) Q = Q a S := by rw [run_ixR h, atI0]; rfl
theorem ixr1 (h : S[m]? = some (.lst (a :: b :: xs))) : Run (oIx (.ref m) (.int 1) S) Q = Q b S := by rw [run_ixR h, atI1]; rfl
theorem ixn0 : Run (oIx (.ref (List.length S)) (.int 0) (S ++ [.lst (a :: xs)])) Q = Q a (S ++ [.lst (a :: xs)]) := ixr0 (get_new _ _)
theorem ixn1 : Run (oIx (.ref (List.length S)) (.int 1) (S ++ [.lst (a :: b :: xs)])) Q = Q b (S ++ [.lst (a :: b :: xs)]) := ixr1 (get_new _ _)
end
theorem pick0 {v : Val} : pick [0] [v] = [v] := rfl
theorem runS_loopC {n : Nat} {xs : List Val} {t : TgD} {b : SD} {R : Val → Store → Prop} (I : Nat → PD.Env → Store → Prop) (hI : ∀ j ρ S, I j ρ S → S[n]? = some (.lst xs)) (step : ∀ j x ρ S, xs[j]? = some x → I j ρ S → ∃ ρ1, t x ρ = some ρ1 ∧ RunS (b ρ1 S) (I (j + 1)) R) :
    ∀ (m j : Nat) (ρ : PD.Env) (S : Store), j + m = xs.length → I j ρ S → RunS (loopC n t b m j ρ S) (I xs.length) R
  | 0, j, ρ, S, hm, h => by
    show RunS (match S[n]? with | some c => if c.items.length ≤ j then .next ρ S else .stuck | none => .stuck) _ _
    rw [hI j ρ S h]
    show RunS (if xs.length ≤ j then .next ρ S else .stuck) _ _
    rw [if_pos (by omega)]
    have : j = xs.length := by omega
    subst this
    exact h
  | m + 1, j, ρ, S, hm, h => by
    have hx : xs[j]? = some xs[j] := List.getElem?_eq_getElem (by omega)
    obtain ⟨ρ1, e, q⟩ := step j xs[j] ρ S hx h
    show RunS (match S[n]? with
      | some c => match c.items[j]? with
        | none => .next ρ S
        | some x => match t x ρ with
          | none => .stuck
          | some ρ1 => (b ρ1 S).turn (loopC n t b m (j + 1))
      | none => .stuck) _ _
    rw [hI j ρ S h]
    show RunS (match xs[j]? with
        | none => .next ρ S
        | some x => match t x ρ with
          | none => .stuck
          | some ρ1 => (b ρ1 S).turn (loopC n t b m (j + 1))) _ _
    rw [hx]
    show RunS (match t xs[j] ρ with
          | none => .stuck
          | some ρ1 => (b ρ1 S).turn (loopC n t b m (j + 1))) _ _
    rw [e]
    show RunS ((b ρ1 S).turn (loopC n t b m (j + 1))) _ _
    cases hr : b ρ1 S with
    | next ρ2 S2 =>
      rw [hr] at q
      exact runS_loopC I hI step m (j + 1) ρ2 S2 (by omega) q
    | ret v S2 => rw [hr] at q; exact q
    | brk ρ2 S2 => rw [hr] at q; exact q.elim
    | cont ρ2 S2 => rw [hr] at q; exact q.elim
    | exc e ρ2 S2 => rw [hr] at q; exact q.elim
    | stuck => rw [hr] at q; exact q.elim
theorem s_forC {f : D} {t : TgD} {b : SD} {ρ : PD.Env} {S : Store} {N : PD.Env → Store → Prop} {R : Val → Store → Prop} (h : Run (f ρ S) fun x S1 => ∃ n xs, x = .ref n ∧ S1[n]? = some (.lst xs) ∧ RunS (loopC n t b xs.length 0 ρ S1) N R) : RunS (sForC f t b ρ S) N R := by
  unfold sForC
  rw [runS_toS]
  refine Run.mono h fun x S1 ⟨n, xs, e, e1, q⟩ => ?_
  subst e
  show RunS (match S1[n]? with | some c => loopC n t b c.items.length 0 ρ S1 | none => .stuck) N R
  rw [e1]
  exact q
theorem comp_pureC {f : D} {n v : Nat} {ρ : PD.Env} {g : Val → Val} {ys : List Val} : ∀ (xs : List Val) (i : Nat) (acc : List Val) (S : Store), S[n]? = some (.lst ys) → acc.length + xs.length < 16777216 →
    (∀ x ∈ xs, ∀ S', Run (f (ρ.set v (some x)) S') (PureK S' (g x))) → ys.drop i = xs → i ≤ ys.length →
    Run (compG (srcC n) (gN v) tYes' f xs.length i acc ρ S) (PureK S (acc ++ xs.map g))
  | [], i, acc, S, hn, _, _, hd, hi => by
    have : ys[i]? = none := by
      rw [List.getElem?_eq_none_iff]
      have := congrArg List.length hd
      simp at this; omega
    show Run (match srcC n i S with | some none => Res.ok acc S | _ => .stuck) _
    have es : srcC n i S = some none := by
      unfold srcC; rw [hn]; show some ys[i]? = _; rw [this]
    rw [es]
    exact ⟨by simp, .refl S⟩
  | x :: xs, i, acc, S, hn, hl, he, hd, hi => by
    have hlt : i < ys.length := by
      have := congrArg List.length hd
      simp at this; omega
    have e0 := List.drop_eq_getElem_cons hlt
    rw [hd] at e0
    have hx : ys[i]? = some x := by rw [List.getElem?_eq_getElem hlt, (List.cons.inj e0).1]
    have hl' : acc.length + (xs.length + 1) < 16777216 := hl
    show Run (match srcC n i S with
      | none => Res.stuck
      | some none => .ok acc S
      | some (some x) => match gN v x ρ with
        | none => .stuck
        | some ρ1 => (noX (tYes' ρ1 S)).bind fun b S1 => if b = true then (noX (f ρ1 S1)).bind fun y S2 => if acc.length < 16777216 then compG (srcC n) (gN v) tYes' f xs.length (i + 1) (acc ++ [y]) ρ S2 else .stuck
            else compG (srcC n) (gN v) tYes' f xs.length (i + 1) acc ρ S1) _
    have es : srcC n i S = some (some x) := by unfold srcC; rw [hn]; show some ys[i]? = _; rw [hx]
    rw [es]
    show Run ((noX (f (ρ.set v (some x)) S)).bind fun y S2 => if acc.length < 16777216 then compG (srcC n) (gN v) tYes' f xs.length (i + 1) (acc ++ [y]) ρ S2 else .stuck) _
    rw [run_bind, run_noX]
    refine Run.mono (he x List.mem_cons_self S) fun y S1 ⟨ey, g1⟩ => ?_
    rw [if_pos (by omega)]
    refine Run.mono (comp_pureC (g := g) xs (i + 1) (acc ++ [y]) S1 (g1 _ _ hn) (by simp; omega) (fun y hy => he y (List.mem_cons_of_mem _ hy)) (List.cons.inj e0).2.symm hlt) fun zs S2 ⟨ez, g2⟩ => ?_
    exact ⟨by rw [ez, ey]; simp, g1.trans g2⟩
theorem run_lcc {h : D} {v : Nat} {f : D} {vs : List Nat} {ρ : PD.Env} {S : Store} {xs : List Val} {g : Val → Val} (hl : xs.length ≤ 1000000) (e : Run (h ρ S) fun x S1 => x = .ref S.length ∧ S1 = S ++ [.lst xs]) (he : ∀ x ∈ xs, ∀ S', Run (f ((wipeE ρ vs).set v (some x)) S') (PureK S' (g x))) :
    Run (dLCC h (gN v) tYes' f vs ρ S) (fun r S' => ∃ S1, r = .ref S1.length ∧ S' = S1 ++ [.lst (xs.map g)] ∧ Kp S S1) := by
  unfold dLCC
  rw [run_bind]
  refine Run.mono e fun x S1 ⟨e1, e2⟩ => ?_
  subst e1 e2
  show Run (match (S ++ [Cell.lst xs])[S.length]? with
    | some cc => (compG (srcC S.length) (gN v) tYes' f cc.items.length 0 [] (wipeE ρ vs) (S ++ [.lst xs])).bind alloc
    | none => .stuck) _
  rw [get_new]
  show Run ((compG (srcC S.length) (gN v) tYes' f xs.length 0 [] (wipeE ρ vs) (S ++ [.lst xs])).bind alloc) _
  rw [run_bind]
  refine Run.mono (comp_pureC (g := g) (ys := xs) xs 0 [] (S ++ [.lst xs]) (get_new _ _) (by simp; omega) he rfl (Nat.zero_le _)) fun ys S2 ⟨e1, k⟩ => ?_
  subst e1
  exact ⟨_, rfl, rfl, (Gr.add _ _).kp.trans k⟩
theorem repV_one {k : Nat} {x : Val} : repV k [x] = List.replicate k x := by
  unfold repV
  induction k with
  | zero => rfl
  | succ k ih => rw [List.replicate_succ, List.flatten_cons, ih]; rfl
theorem run_repT {k : Nat} {x : Val} {S : Store} {Q : Val → Store → Prop} (h0 : 2 ≤ k) (h1 : k ≤ 1000000) : Run (oRepT (.tup [x]) (.int k) S) Q = Q (.tup (List.replicate k x)) S := by
  show Run (if [x] ≠ [] ∧ (2 : Int) ≤ k ∧ (k : Int) ≤ 1000000 ∧ [x].length * (k : Int).toNat ≤ 1000000 then .ok (.tup (repV (k : Int).toNat [x])) S else .stuck) Q = _
  rw [if_pos ⟨by simp, by omega, by omega, by rw [List.length_singleton]; omega⟩, Int.toNat_natCast, repV_one]; rfl
theorem run_repL1 {k : Nat} {x : Val} {S : Store} {Q : Val → Store → Prop} (h1 : k ≤ 1000000) : Run (oRepL (.ref S.length) (.int k) (S ++ [.lst [x]])) Q = Q (.ref (S ++ [Cell.lst [x]]).length) (S ++ [.lst [x]] ++ [.lst (List.replicate k x)]) := by
  show Run (match (S ++ [Cell.lst [x]])[S.length]? with
    | some (.lst xs) => if -(2 ^ 63) ≤ (k : Int) ∧ (k : Int) < 2 ^ 63 ∧ xs.length * (k : Int).toNat ≤ 16777216 then alloc (repV (k : Int).toNat xs) (S ++ [Cell.lst [x]]) else .stuck
    | _ => .stuck) Q = _
  rw [get_new]
  show Run (if -(2 ^ 63) ≤ (k : Int) ∧ (k : Int) < 2 ^ 63 ∧ [x].length * (k : Int).toNat ≤ 16777216 then alloc (repV (k : Int).toNat [x]) (S ++ [Cell.lst [x]]) else .stuck) Q = _
  rw [if_pos ⟨by omega, by omega, by rw [List.length_singleton]; omega⟩, Int.toNat_natCast, repV_one]; rfl
end PD

/-! ## LTree -/
set_option linter.all false
namespace PD.LT
/-! ### loose trees of ints: their least forms -/
inductive T where
  | leaf (i : Int) | node (n : Int) (l r : T)
deriving DecidableEq
namespace T
def isLeaf : T → Bool
  | leaf _ => true
  | _ => false
def lift : T → Int → T
  | leaf i, k => leaf (i + k)
  | node n l r, k => node (n + k) l r
/-- the first number -/
def top : T → Int
  | leaf i => i
  | node n _ _ => n
def sameL : T → T → Bool
  | leaf i, leaf j => decide (i = j)
  | _, _ => false
def whole (l r : T) : T := if sameL l r = true then l else node (min l.top r.top) (l.lift (-(min l.top r.top))) (r.lift (-(min l.top r.top)))
def lf : T → T
  | leaf i => leaf i
  | node n l r => (whole l.lf r.lf).lift n
/-- no number below 0 -/
def nn : T → Bool
  | leaf i => decide (0 ≤ i)
  | node n l r => decide (0 ≤ n) && (l.nn && r.nn)
/-- the least form of some tree, but for numbers below 0 at the top -/
def co : T → Bool
  | leaf _ => true
  | node _ l r => l.co && (r.co && (!sameL l r && (decide (0 ≤ l.top) && (decide (0 ≤ r.top) && (decide (l.top = 0) || decide (r.top = 0))))))
def dep : T → Nat
  | leaf _ => 0
  | node _ l r => 1 + max l.dep r.dep
def tc : T → Nat
  | leaf _ => 0
  | node _ l r => 1 + (l.tc + r.tc)
def sum : T → Int
  | leaf i => i
  | node n l r => n + l.sum + r.sum
theorem top_lift (t : T) (k : Int) : (t.lift k).top = t.top + k := by cases t <;> rfl
theorem lift_lift (t : T) (a b : Int) : (t.lift a).lift b = t.lift (a + b) := by cases t <;> simp [lift, Int.add_assoc]
theorem lift_zero (t : T) : t.lift 0 = t := by cases t <;> simp [lift]
theorem co_lift (t : T) (k : Int) : (t.lift k).co = t.co := by cases t <;> rfl
theorem dep_lift (t : T) (k : Int) : (t.lift k).dep = t.dep := by cases t <;> rfl
theorem tc_lift (t : T) (k : Int) : (t.lift k).tc = t.tc := by cases t <;> rfl
theorem sum_lift (t : T) (k : Int) : (t.lift k).sum = t.sum + k := by cases t <;> simp [lift, sum]; omega
theorem isLeaf_lift (t : T) (k : Int) : (t.lift k).isLeaf = t.isLeaf := by cases t <;> rfl
theorem sameL_lift (l r : T) (k : Int) : sameL (l.lift k) (r.lift k) = sameL l r := by
  cases l <;> cases r <;> first | rfl | skip
  rename_i i j
  show decide (i + k = j + k) = decide (i = j)
  exact decide_eq_decide.mpr ⟨fun h => by omega, fun h => by omega⟩
theorem sameL_eq {l r : T} (h : sameL l r = true) : ∃ i, l = leaf i ∧ r = leaf i := by
  cases l <;> cases r <;> first | cases h | skip
  rename_i i j
  exact ⟨i, rfl, by rw [of_decide_eq_true h]⟩
theorem whole_lift (l r : T) (k : Int) : whole (l.lift k) (r.lift k) = (whole l r).lift k := by
  unfold whole
  rw [sameL_lift]
  split
  · rfl
  · rw [top_lift, top_lift, lift_lift, lift_lift]
    show node _ _ _ = node _ _ _
    have e : min (l.top + k) (r.top + k) = min l.top r.top + k := by omega
    rw [e]
    congr 2 <;> congr 1 <;> omega
theorem top_whole (l r : T) : (whole l r).top = min l.top r.top := by
  unfold whole
  split
  · rename_i h
    obtain ⟨i, rfl, rfl⟩ := sameL_eq h
    show i = min i i
    omega
  · rfl
theorem co_whole {l r : T} (hl : l.co = true) (hr : r.co = true) : (whole l r).co = true := by
  unfold whole
  split
  · exact hl
  · rename_i h
    show (co (lift _ _) && (co (lift _ _) && (!sameL (lift _ _) (lift _ _) && _))) = true
    rw [co_lift, co_lift, hl, hr, sameL_lift, top_lift, top_lift]
    rw [Bool.not_eq_true] at h
    rw [h]
    simp only [Bool.true_and, Bool.not_false, Bool.and_eq_true, Bool.or_eq_true, decide_eq_true_eq]
    omega
theorem co_lf : ∀ t : T, t.lf.co = true
  | leaf _ => rfl
  | node n l r => by
    show ((whole l.lf r.lf).lift n).co = true
    rw [co_lift]
    exact co_whole (co_lf l) (co_lf r)
theorem top_nn {t : T} (h : t.nn = true) : 0 ≤ t.top := by
  cases t with
  | leaf i => exact of_decide_eq_true h
  | node n l r =>
    have h : (decide (0 ≤ n) && (l.nn && r.nn)) = true := h
    rw [Bool.and_eq_true] at h
    exact of_decide_eq_true h.1
/-- a canonical tree is not below 0 exactly if its top is not -/
theorem nn_of_co : ∀ {t : T}, t.co = true → 0 ≤ t.top → t.nn = true
  | leaf i, _, h => decide_eq_true h
  | node n l r, h, h0 => by
    have h : (l.co && (r.co && (!sameL l r && (decide (0 ≤ l.top) && (decide (0 ≤ r.top) && (decide (l.top = 0) || decide (r.top = 0))))))) = true := h
    simp only [Bool.and_eq_true, decide_eq_true_eq] at h
    show (decide (0 ≤ n) && (l.nn && r.nn)) = true
    rw [nn_of_co h.1 h.2.2.2.1, nn_of_co h.2.1 h.2.2.2.2.1, decide_eq_true (show 0 ≤ n from h0)]
    rfl
theorem top_lf : ∀ {t : T}, t.nn = true → 0 ≤ t.lf.top
  | leaf i, h => of_decide_eq_true h
  | node n l r, h => by
    have h : (decide (0 ≤ n) && (l.nn && r.nn)) = true := h
    simp only [Bool.and_eq_true, decide_eq_true_eq] at h
    show 0 ≤ ((whole l.lf r.lf).lift n).top
    rw [top_lift, top_whole]
    have := top_lf h.2.1
    have := top_lf h.2.2
    omega
theorem nn_lf {t : T} (h : t.nn = true) : t.lf.nn = true := nn_of_co (co_lf t) (top_lf h)
/-- a canonical tree is its own least form -/
theorem whole_of_co {n : Int} {l r : T} (h : (node n l r).co = true) : (whole l r).lift n = node n l r := by
  have h : (l.co && (r.co && (!sameL l r && (decide (0 ≤ l.top) && (decide (0 ≤ r.top) && (decide (l.top = 0) || decide (r.top = 0))))))) = true := h
  simp only [Bool.and_eq_true, Bool.or_eq_true, decide_eq_true_eq, Bool.not_eq_true'] at h
  unfold whole
  rw [if_neg (by rw [h.2.2.1]; decide)]
  have e : min l.top r.top = 0 := by omega
  rw [e]
  show node (0 + n) _ _ = _
  rw [show (-(0 : Int)) = 0 from rfl, lift_zero, lift_zero, Int.zero_add]
theorem lf_of_co : ∀ {t : T}, t.co = true → t.lf = t
  | leaf _, _ => rfl
  | node n l r, h => by
    have h' : (l.co && (r.co && (!sameL l r && (decide (0 ≤ l.top) && (decide (0 ≤ r.top) && (decide (l.top = 0) || decide (r.top = 0))))))) = true := h
    simp only [Bool.and_eq_true] at h'
    show (whole l.lf r.lf).lift n = _
    rw [lf_of_co h'.1, lf_of_co h'.2.1]
    exact whole_of_co h
theorem lf_lift (t : T) (k : Int) : (t.lift k).lf = t.lf.lift k := by
  cases t with
  | leaf i => rfl
  | node n l r =>
    show (whole l.lf r.lf).lift (n + k) = ((whole l.lf r.lf).lift n).lift k
    rw [lift_lift]
theorem tc_whole (l r : T) : (whole l r).tc ≤ 1 + (l.tc + r.tc) := by
  unfold whole
  split
  · omega
  · show 1 + ((lift _ _).tc + (lift _ _).tc) ≤ _
    rw [tc_lift, tc_lift]
    exact Nat.le_refl _
theorem tc_lf : ∀ t : T, t.lf.tc ≤ t.tc
  | leaf _ => Nat.le_refl _
  | node n l r => by
    show ((whole l.lf r.lf).lift n).tc ≤ 1 + (l.tc + r.tc)
    rw [tc_lift]
    have := tc_whole l.lf r.lf
    have := tc_lf l
    have := tc_lf r
    omega
theorem dep_whole (l r : T) : (whole l r).dep ≤ 1 + max l.dep r.dep := by
  unfold whole
  split
  · omega
  · show 1 + max (lift _ _).dep (lift _ _).dep ≤ _
    rw [dep_lift, dep_lift]
    exact Nat.le_refl _
theorem dep_lf : ∀ t : T, t.lf.dep ≤ t.dep
  | leaf _ => Nat.le_refl _
  | node n l r => by
    show ((whole l.lf r.lf).lift n).dep ≤ 1 + max l.dep r.dep
    rw [dep_lift]
    have := dep_whole l.lf r.lf
    have := dep_lf l
    have := dep_lf r
    omega
theorem sum_nn : ∀ {t : T}, t.nn = true → t.top ≤ t.sum
  | leaf i, _ => Int.le_refl _
  | node n l r, h => by
    have h : (decide (0 ≤ n) && (l.nn && r.nn)) = true := h
    simp only [Bool.and_eq_true, decide_eq_true_eq] at h
    have := sum_nn h.2.1
    have := sum_nn h.2.2
    have := top_nn h.2.1
    have := top_nn h.2.2
    show n ≤ n + l.sum + r.sum
    omega
theorem sum_whole {l r : T} (hl : l.nn = true) (hr : r.nn = true) : (whole l r).sum ≤ l.sum + r.sum := by
  have a := sum_nn hl
  have b := sum_nn hr
  have c := top_nn hl
  have d := top_nn hr
  unfold whole
  split
  · omega
  · show min l.top r.top + (lift _ _).sum + (lift _ _).sum ≤ _
    rw [sum_lift, sum_lift]
    omega
theorem sum_lf : ∀ {t : T}, t.nn = true → t.lf.sum ≤ t.sum
  | leaf _, _ => Int.le_refl _
  | node n l r, h => by
    have h : (decide (0 ≤ n) && (l.nn && r.nn)) = true := h
    simp only [Bool.and_eq_true, decide_eq_true_eq] at h
    show ((whole l.lf r.lf).lift n).sum ≤ n + l.sum + r.sum
    rw [sum_lift]
    have := sum_whole (nn_lf h.2.1) (nn_lf h.2.2)
    have := sum_lf h.2.1
    have := sum_lf h.2.2
    omega
/-! ### its leaves -/
def leaves : T → List Int → Int → List (List Int × Int)
  | leaf i, p, m => [(p, m + i)]
  | node n l r, p, m => leaves l (p ++ [0]) (m + n) ++ leaves r (p ++ [1]) (m + n)
def worths : T → Int → List Int
  | leaf i, m => [m + i]
  | node n l r, m => worths l (m + n) ++ worths r (m + n)
theorem leaves_worths : ∀ (t : T) (p : List Int) (m : Int), (leaves t p m).map (·.2) = worths t m
  | leaf i, p, m => rfl
  | node n l r, p, m => by
    show (leaves l _ _ ++ leaves r _ _).map (·.2) = worths l _ ++ worths r _
    rw [List.map_append, leaves_worths l, leaves_worths r]
theorem leaves_pre : ∀ (t : T) (p : List Int) (m : Int), ∀ x ∈ leaves t p m, p <+: x.1
  | leaf i, p, m, x, h => by
    rw [List.mem_singleton.mp h]; exact List.prefix_refl _
  | node n l r, p, m, x, h => by
    rcases List.mem_append.mp h with h | h
    · exact (List.prefix_append p [0]).trans (leaves_pre l _ _ x h)
    · exact (List.prefix_append p [1]).trans (leaves_pre r _ _ x h)
theorem leaves_ne : ∀ (t : T) (p : List Int) (m : Int), leaves t p m ≠ []
  | leaf i, p, m => by simp [leaves]
  | node n l r, p, m => by
    show leaves l _ _ ++ leaves r _ _ ≠ []
    have := leaves_ne l (p ++ [0]) (m + n)
    simp [this]
theorem leaves_len : ∀ (t : T) (p : List Int) (m : Int), (leaves t p m).length = t.tc + 1
  | leaf i, p, m => rfl
  | node n l r, p, m => by
    show (leaves l _ _ ++ leaves r _ _).length = 1 + (l.tc + r.tc) + 1
    rw [List.length_append, leaves_len l, leaves_len r]; omega
theorem leaves_path : ∀ (t : T) (p : List Int) (m : Int), ∀ x ∈ leaves t p m, x.1.length ≤ p.length + t.dep
  | leaf i, p, m, x, h => by
    rw [List.mem_singleton.mp h]; exact Nat.le_refl _
  | node n l r, p, m, x, h => by
    have e : (node n l r).dep = 1 + max l.dep r.dep := rfl
    rcases List.mem_append.mp h with h | h
    · have := leaves_path l _ _ x h
      rw [List.length_append, List.length_singleton] at this
      omega
    · have := leaves_path r _ _ x h
      rw [List.length_append, List.length_singleton] at this
      omega
theorem pre_take {p q : List Int} (h : p <+: q) : q.take p.length = p := by
  obtain ⟨t, rfl⟩ := h
  exact List.take_left
/-- the rows of the half -/
theorem filter_half {p : List Int} {b c : Int} (hbc : b ≠ c) {A B : List (List Int × Int)} (hA : ∀ x ∈ A, p ++ [b] <+: x.1) (hB : ∀ x ∈ B, p ++ [c] <+: x.1) :
    (A ++ B).filter (fun x => decide (x.1.take (p.length + 1) = p ++ [b])) = A := by
  have hp : ∀ d : Int, (p ++ [d]).length = p.length + 1 := fun d => by simp
  rw [List.filter_append, List.filter_eq_self.mpr (fun x hx => ?_), List.filter_eq_nil_iff.mpr (fun x hx => ?_), List.append_nil]
  · have := pre_take (hB x hx)
    rw [hp] at this
    rw [this]
    simp
    exact fun h => hbc h.symm
  · have := pre_take (hA x hx)
    rw [hp] at this
    rw [this]
    simp
theorem filter_half' {p : List Int} {b c : Int} (hbc : b ≠ c) {A B : List (List Int × Int)} (hA : ∀ x ∈ A, p ++ [b] <+: x.1) (hB : ∀ x ∈ B, p ++ [c] <+: x.1) :
    (A ++ B).filter (fun x => decide (x.1.take (p.length + 1) = p ++ [c])) = B := by
  have hp : ∀ d : Int, (p ++ [d]).length = p.length + 1 := fun d => by simp
  rw [List.filter_append, List.filter_eq_nil_iff.mpr (fun x hx => ?_), List.filter_eq_self.mpr (fun x hx => ?_), List.nil_append]
  · have := pre_take (hB x hx)
    rw [hp] at this
    rw [this]
    simp
  · have := pre_take (hA x hx)
    rw [hp] at this
    rw [this]
    simp
    exact hbc
theorem filter_here {p : List Int} {b c : Int} {A B : List (List Int × Int)} (hA : ∀ x ∈ A, p ++ [b] <+: x.1) (hB : ∀ x ∈ B, p ++ [c] <+: x.1) : (A ++ B).filter (fun x => decide (x.1 = p)) = [] := by
  refine List.filter_eq_nil_iff.mpr fun x hx => ?_
  simp only [decide_eq_true_eq]
  intro e
  rcases List.mem_append.mp hx with h | h
  · have := (hA x h).length_le
    rw [e] at this; simp at this; omega
  · have := (hB x h).length_le
    rw [e] at this; simp at this; omega
/-- the least worth of a canonical tree stands at its top -/
theorem worths_co : ∀ {t : T}, t.co = true → ∀ m : Int, (∀ w ∈ worths t m, m + t.top ≤ w) ∧ m + t.top ∈ worths t m
  | leaf i, _, m => by
    show (∀ w ∈ [m + i], m + i ≤ w) ∧ m + i ∈ [m + i]
    exact ⟨fun w h => by rw [List.mem_singleton.mp h]; exact Int.le_refl _, List.mem_singleton_self _⟩
  | node n l r, h, m => by
    have h : (l.co && (r.co && (!sameL l r && (decide (0 ≤ l.top) && (decide (0 ≤ r.top) && (decide (l.top = 0) || decide (r.top = 0))))))) = true := h
    simp only [Bool.and_eq_true, Bool.or_eq_true, decide_eq_true_eq] at h
    obtain ⟨a1, a2⟩ := worths_co h.1 (m + n)
    obtain ⟨b1, b2⟩ := worths_co h.2.1 (m + n)
    show (∀ w ∈ worths l (m + n) ++ worths r (m + n), m + n ≤ w) ∧ m + n ∈ worths l (m + n) ++ worths r (m + n)
    refine ⟨fun w hw => ?_, ?_⟩
    · rcases List.mem_append.mp hw with hw | hw
      · have := a1 w hw; omega
      · have := b1 w hw; omega
    · rcases h.2.2.2.2.2 with h0 | h0
      · rw [h0, Int.add_zero] at a2
        exact List.mem_append_left _ a2
      · rw [h0, Int.add_zero] at b2
        exact List.mem_append_right _ b2
/-- the greatest worth -/
def mx : T → Int
  | leaf i => i
  | node n l r => n + max l.mx r.mx
theorem mx_lift (t : T) (k : Int) : (t.lift k).mx = t.mx + k := by cases t <;> simp [lift, mx]; omega
theorem mx_whole (l r : T) : (whole l r).mx = max l.mx r.mx := by
  unfold whole
  split
  · rename_i h
    obtain ⟨i, rfl, rfl⟩ := sameL_eq h
    show i = max i i
    omega
  · show min l.top r.top + max (lift _ _).mx (lift _ _).mx = _
    rw [mx_lift, mx_lift]
    omega
theorem mx_lf : ∀ t : T, t.lf.mx = t.mx
  | leaf _ => rfl
  | node n l r => by
    show ((whole l.lf r.lf).lift n).mx = n + max l.mx r.mx
    rw [mx_lift, mx_whole, mx_lf l, mx_lf r]
    omega
theorem nn_node {n : Int} {l r : T} : (node n l r).nn = true ↔ 0 ≤ n ∧ l.nn = true ∧ r.nn = true := by
  show (decide (0 ≤ n) && (l.nn && r.nn)) = true ↔ _
  simp only [Bool.and_eq_true, decide_eq_true_eq]
theorem co_node {n : Int} {l r : T} : (node n l r).co = true ↔ l.co = true ∧ r.co = true ∧ sameL l r = false ∧ 0 ≤ l.top ∧ 0 ≤ r.top ∧ (l.top = 0 ∨ r.top = 0) := by
  show (l.co && (r.co && (!sameL l r && (decide (0 ≤ l.top) && (decide (0 ≤ r.top) && (decide (l.top = 0) || decide (r.top = 0))))))) = true ↔ _
  simp only [Bool.and_eq_true, Bool.or_eq_true, decide_eq_true_eq, Bool.not_eq_true']
theorem nn_mx : ∀ {t : T}, t.nn = true → 0 ≤ t.mx
  | leaf i, h => of_decide_eq_true h
  | node n l r, h => by
    rw [nn_node] at h
    have := nn_mx h.2.1
    show 0 ≤ n + max l.mx r.mx
    omega
theorem top_mx : ∀ {t : T}, t.nn = true → t.top ≤ t.mx
  | leaf i, h => Int.le_refl _
  | node n l r, h => by
    rw [nn_node] at h
    have := nn_mx h.2.1
    show n ≤ n + max l.mx r.mx
    omega
theorem nn_lift {t : T} {k : Int} (h : t.nn = true) (hk : 0 ≤ k) : (t.lift k).nn = true := by
  cases t with
  | leaf i => exact decide_eq_true (by have := of_decide_eq_true (show decide (0 ≤ i) = true from h); omega)
  | node n l r =>
    rw [nn_node] at h
    exact nn_node.mpr ⟨by omega, h.2⟩
/-- the numbers of a tree are below a bound -/
def under (B : Int) : T → Prop
  | leaf i => i < B
  | node n l r => n < B ∧ l.under B ∧ r.under B
theorem mx_below {B : Int} (hB : 0 ≤ B) : ∀ {t : T}, t.under B → t.nn = true → t.mx ≤ (t.dep + 1) * B
  | leaf i, h, _ => by
    have h : i < B := h
    show i ≤ ((0 : Nat) + 1) * B
    omega
  | node n l r, h, hn => by
    have h : n < B ∧ l.under B ∧ r.under B := h
    rw [nn_node] at hn
    have a := mx_below hB h.2.1 hn.2.1
    have b := mx_below hB h.2.2 hn.2.2
    show n + max l.mx r.mx ≤ (((1 + max l.dep r.dep : Nat) : Int) + 1) * B
    have e : (((1 + max l.dep r.dep : Nat) : Int) + 1) * B = B + ((max l.dep r.dep : Nat) + 1 : Int) * B := by
      rw [Int.natCast_add, Int.add_assoc, Int.add_mul]; simp
    have c1 : ((l.dep : Int) + 1) * B ≤ ((max l.dep r.dep : Nat) + 1 : Int) * B := Int.mul_le_mul_of_nonneg_right (by omega) hB
    have c2 : ((r.dep : Int) + 1) * B ≤ ((max l.dep r.dep : Nat) + 1 : Int) * B := Int.mul_le_mul_of_nonneg_right (by omega) hB
    rw [e]
    omega
/-- a tree that is loosened has the least form that it had -/
theorem lf_open {i k : Int} {a b : T} (ha : a.lf = leaf (i - k)) (hb : b.lf = leaf (i - k)) : (node k a b).lf = leaf i := by
  show (whole a.lf b.lf).lift k = _
  rw [ha, hb]
  unfold whole
  rw [if_pos (show sameL (leaf (i - k)) (leaf (i - k)) = true from decide_eq_true rfl)]
  show leaf (i - k + k) = leaf i
  congr 1
  omega
theorem lf_down {n k : Int} {l r a b : T} (h : (node n l r).co = true) (ha : a.lf = l.lift (n - k)) (hb : b.lf = r.lift (n - k)) : (node k a b).lf = node n l r := by
  show (whole a.lf b.lf).lift k = _
  rw [ha, hb, whole_lift, lift_lift, show n - k + k = n by omega]
  exact whole_of_co h
end T
end PD.LT

/-! ## LTV -/
set_option Elab.async false
set_option linter.all false
set_option maxRecDepth 100000
set_option maxHeartbeats 4000000
namespace PD
open PySem PySem.Spec L2 LT
theorem mem2 {α : Type} {P : α → Prop} {a b : α} (ha : P a) (hb : P b) : ∀ x ∈ [a, b], P x := by
  simp only [List.mem_cons, List.not_mem_nil, or_false, forall_eq_or_imp, forall_eq]; exact ⟨ha, hb⟩
theorem mem3 {α : Type} {P : α → Prop} {a b c : α} (ha : P a) (hb : P b) (hc : P c) : ∀ x ∈ [a, b, c], P x := by
  simp only [List.mem_cons, List.not_mem_nil, or_false, forall_eq_or_imp, forall_eq]; exact ⟨ha, hb, hc⟩
/-! ### trees as values -/
def toV : T → Val
  | .leaf i => .int i
  | .node n l r => .tup [.int n, toV l, toV r]
def pathV (p : List Int) : Val := .tup (p.map Val.int)
def rowV (x : List Int × Int) : Val := .tup [pathV x.1, .int x.2]
theorem toV_da {S : Store} : ∀ {t : T} {d : Nat}, t.dep ≤ d → Da S d (toV t)
  | .leaf i, d, _ => .int _ _
  | .node n l r, d, h => by
    have h : 1 + max l.dep r.dep ≤ d := h
    obtain ⟨d, rfl⟩ : ∃ e, d = e + 1 := ⟨d - 1, by omega⟩
    exact .tup (mem3 (.int _ _) (toV_da (by omega)) (toV_da (by omega)))
def tD : T → PyData
  | .leaf i => .int i
  | .node n l r => .tuple [.int n, tD l, tD r]
theorem toV_dat {S : Store} : ∀ {t : T}, t.dep < 65 → dat S (toV t) = tD t
  | .leaf i, _ => rfl
  | .node n l r, h => by
    have h : 1 + max l.dep r.dep < 65 := h
    show dat S (.tup [.int n, toV l, toV r]) = _
    rw [dat_tup (d := max l.dep r.dep) (mem3 (.int _ _) (toV_da (by omega)) (toV_da (by omega))) (by omega)]
    show PyData.tuple [.int n, dat S (toV l), dat S (toV r)] = _
    rw [toV_dat (by omega), toV_dat (by omega)]; rfl
theorem eq_leaf (i : Int) : ∀ t : T, PyData.eqv (.int i) (tD t) = T.sameL (.leaf i) t
  | .leaf j => by show (i == j) = decide (i = j); rw [Bool.beq_eq_decide_eq]
  | .node _ _ _ => rfl
theorem run_eq_leaf {i : Int} {t : T} {S : Store} {Q : Val → Store → Prop} (h : t.dep < 65) : Run (oEq (.int i) (toV t) S) Q = Q (.bl (T.sameL (.leaf i) t)) S := by
  rw [run_eq (Da.int 0 i) (toV_da (Nat.le_refl _)) (by omega) h, toV_dat h, dat_int, eq_leaf]
/-! ### paths -/
theorem path_da {S : Store} {p : List Int} : Da S 1 (pathV p) := .tup fun x hx => by
  obtain ⟨i, _, rfl⟩ := List.mem_map.mp hx
  exact .int _ _
theorem path_dat {S : Store} {p : List Int} : dat S (pathV p) = .tuple (p.map PyData.int) := by
  unfold pathV
  rw [dat_tup (d := 0) (fun x hx => by obtain ⟨i, _, rfl⟩ := List.mem_map.mp hx; exact .int _ _) (by omega), List.map_map]
  rfl
theorem eqv_ints : ∀ p q : List Int, PyData.eqv (.tuple (p.map PyData.int)) (.tuple (q.map PyData.int)) = decide (p = q)
  | [], [] => rfl
  | [], _ :: _ => rfl
  | _ :: _, [] => rfl
  | a :: p, b :: q => by
    have := eqv_ints p q
    show ((a == b) && PyData.eqv (.tuple (p.map PyData.int)) (.tuple (q.map PyData.int))) = _
    rw [this, Bool.beq_eq_decide_eq, ← Bool.decide_and]
    exact decide_eq_decide.mpr ⟨fun h => by rw [h.1, h.2], fun h => by cases h; exact ⟨rfl, rfl⟩⟩
theorem run_eqP {p q : List Int} {S : Store} {Q : Val → Store → Prop} : Run (oEq (pathV p) (pathV q) S) Q = Q (.bl (decide (p = q))) S := by
  rw [run_eq path_da path_da (by omega) (by omega), path_dat, path_dat, eqv_ints]
theorem run_addP {p : List Int} {i : Int} {S : Store} {Q : Val → Store → Prop} (h : p.length ≤ 1000) : Run (oAdd (pathV p) (.tup [.int i]) S) Q = Q (pathV (p ++ [i])) S := by
  unfold pathV
  rw [run_addT (by rw [List.length_map]; show p.length + 1 ≤ _; omega), List.map_append]
  rfl
/-! ### numbers that are small enough to be shown -/
@[irreducible] def BIG : Int := 10 ^ 99
theorem BIG_nat {i : Int} (h0 : 0 ≤ i) (h : i < BIG) : i.natAbs < 10 ^ 100 := by
  have : (i.natAbs : Int) < ((10 ^ 100 : Nat) : Int) := by
    rw [Int.natAbs_of_nonneg h0]
    exact Int.lt_of_lt_of_le h (by unfold BIG; decide)
  exact Int.ofNat_lt.mp this
theorem good_toV {c : Nat} {S : Store} : ∀ {t : T} {d : Nat}, t.nn = true → t.mx < BIG → t.dep ≤ d → d < 66 → Good c S d (211 * t.tc + 101) (toV t)
  | .leaf i, d, h, hm, _, _ => .int (BIG_nat (of_decide_eq_true h) hm) (by omega)
  | .node n l r, d, h, hm, hd, h66 => by
    rw [T.nn_node] at h
    have hd : 1 + max l.dep r.dep ≤ d := hd
    have hm : n + max l.mx r.mx < BIG := hm
    have hl := T.nn_mx h.2.1
    have hr := T.nn_mx h.2.2
    obtain ⟨d, rfl⟩ : ∃ e, d = e + 1 := ⟨d - 1, by omega⟩
    refine .three (L := 101) (.int (BIG_nat h.1 (by omega)) (Nat.le_refl _)) (good_toV h.2.1 (by omega) (by omega) (by omega)) (good_toV h.2.2 (by omega) (by omega) (by omega)) (by omega) ?_
    show _ ≤ 211 * (1 + (l.tc + r.tc)) + 101
    omega
/-! ### a comprehension over a list: with a condition, of pure parts -/
theorem comp_flt {f : D} {tg : TgD} {cd : DT} {n : Nat} {ρ : PD.Env} {ys : List Val} {P : Val → Bool} {g : Val → Val} : ∀ (xs : List Val) (i : Nat) (acc : List Val) (S : Store), S[n]? = some (.lst ys) → acc.length + xs.length < 16777216 →
    (∀ x ∈ xs, ∀ S', Kp S S' → ∃ ρ1, tg x ρ = some ρ1 ∧ Run (cd ρ1 S') (fun b S2 => b = P x ∧ Kp S' S2) ∧ (P x = true → ∀ S2, Kp S S2 → Run (f ρ1 S2) (PureK S2 (g x)))) → ys.drop i = xs → i ≤ ys.length →
    Run (compG (srcC n) tg cd f xs.length i acc ρ S) (PureK S (acc ++ (xs.filter P).map g))
  | [], i, acc, S, hn, _, _, hd, hi => by
    have : ys[i]? = none := by
      rw [List.getElem?_eq_none_iff]
      have := congrArg List.length hd
      simp at this; omega
    show Run (match srcC n i S with | some none => Res.ok acc S | _ => .stuck) _
    have es : srcC n i S = some none := by
      unfold srcC; rw [hn]; show some ys[i]? = _; rw [this]
    rw [es]
    exact ⟨by simp, .refl S⟩
  | x :: xs, i, acc, S, hn, hl, he, hd, hi => by
    have hlt : i < ys.length := by
      have := congrArg List.length hd
      simp at this; omega
    have e0 := List.drop_eq_getElem_cons hlt
    rw [hd] at e0
    have hx : ys[i]? = some x := by rw [List.getElem?_eq_getElem hlt, (List.cons.inj e0).1]
    have hl' : acc.length + (xs.length + 1) < 16777216 := hl
    obtain ⟨ρ1, et, hc, hf⟩ := he x List.mem_cons_self S (.refl S)
    show Run (match srcC n i S with
      | none => Res.stuck
      | some none => .ok acc S
      | some (some x) => match tg x ρ with
        | none => .stuck
        | some ρ1 => (noX (cd ρ1 S)).bind fun b S1 => if b = true then (noX (f ρ1 S1)).bind fun y S2 => if acc.length < 16777216 then compG (srcC n) tg cd f xs.length (i + 1) (acc ++ [y]) ρ S2 else .stuck
            else compG (srcC n) tg cd f xs.length (i + 1) acc ρ S1) _
    have es : srcC n i S = some (some x) := by unfold srcC; rw [hn]; show some ys[i]? = _; rw [hx]
    rw [es]
    show Run (match tg x ρ with
        | none => .stuck
        | some ρ1 => (noX (cd ρ1 S)).bind fun b S1 => if b = true then (noX (f ρ1 S1)).bind fun y S2 => if acc.length < 16777216 then compG (srcC n) tg cd f xs.length (i + 1) (acc ++ [y]) ρ S2 else .stuck
            else compG (srcC n) tg cd f xs.length (i + 1) acc ρ S1) _
    rw [et]
    show Run ((noX (cd ρ1 S)).bind fun b S1 => if b = true then (noX (f ρ1 S1)).bind fun y S2 => if acc.length < 16777216 then compG (srcC n) tg cd f xs.length (i + 1) (acc ++ [y]) ρ S2 else .stuck
            else compG (srcC n) tg cd f xs.length (i + 1) acc ρ S1) _
    rw [run_bind, run_noX]
    refine Run.mono hc fun b S1 ⟨eb, k1⟩ => ?_
    subst eb
    cases hP : P x with
    | false =>
      rw [if_neg (by decide), List.filter_cons_of_neg (by rw [hP]; decide)]
      refine Run.mono (comp_flt (P := P) (g := g) xs (i + 1) acc S1 (k1 _ _ hn) (by omega) (fun y hy S' k' => ?_) (List.cons.inj e0).2.symm hlt) fun zs S2 ⟨ez, g2⟩ => ⟨ez, k1.trans g2⟩
      obtain ⟨ρ2, a1, a2, a3⟩ := he y (List.mem_cons_of_mem _ hy) S' (k1.trans k')
      exact ⟨ρ2, a1, a2, fun hq S2 k2 => a3 hq S2 (k1.trans k2)⟩
    | true =>
      rw [if_pos rfl, run_bind, run_noX, List.filter_cons_of_pos hP]
      refine Run.mono (hf hP S1 k1) fun y S2 ⟨ey, k2⟩ => ?_
      subst ey
      rw [if_pos (by omega)]
      refine Run.mono (comp_flt (P := P) (g := g) xs (i + 1) (acc ++ [g x]) S2 (k2 _ _ (k1 _ _ hn)) (by simp; omega) (fun y hy S' k' => ?_) (List.cons.inj e0).2.symm hlt) fun zs S3 ⟨ez, g3⟩ => ⟨by rw [ez]; simp, (k1.trans k2).trans g3⟩
      obtain ⟨ρ2, a1, a2, a3⟩ := he y (List.mem_cons_of_mem _ hy) S' ((k1.trans k2).trans k')
      exact ⟨ρ2, a1, a2, fun hq S2' k2' => a3 hq S2' ((k1.trans k2).trans k2')⟩
theorem run_lccf {h : D} {tg : TgD} {cd : DT} {f : D} {vs : List Nat} {ρ : PD.Env} {S : Store} {xs : List Val} {P : Val → Bool} {g : Val → Val} (hl : xs.length ≤ 1000000) (e : Run (h ρ S) fun x S1 => ∃ n, x = .ref n ∧ S1[n]? = some (.lst xs) ∧ Kp S S1)
    (he : ∀ x ∈ xs, ∀ S', Kp S S' → ∃ ρ1, tg x (wipeE ρ vs) = some ρ1 ∧ Run (cd ρ1 S') (fun b S2 => b = P x ∧ Kp S' S2) ∧ (P x = true → ∀ S2, Kp S S2 → Run (f ρ1 S2) (PureK S2 (g x)))) :
    Run (dLCC h tg cd f vs ρ S) (fun r S' => ∃ S1, r = .ref S1.length ∧ S' = S1 ++ [.lst ((xs.filter P).map g)] ∧ Kp S S1) := by
  unfold dLCC
  rw [run_bind]
  refine Run.mono e fun x S1 ⟨n, e1, e2, k⟩ => ?_
  subst e1
  show Run (match S1[n]? with
    | some cc => (compG (srcC n) tg cd f cc.items.length 0 [] (wipeE ρ vs) S1).bind alloc
    | none => .stuck) _
  rw [e2]
  show Run ((compG (srcC n) tg cd f xs.length 0 [] (wipeE ρ vs) S1).bind alloc) _
  rw [run_bind]
  refine Run.mono (comp_flt (P := P) (g := g) (ys := xs) xs 0 [] S1 e2 (by simp; omega) (fun x hx S' k' => ?_) rfl (Nat.zero_le _)) fun ys S2 ⟨e1, k2⟩ => ?_
  · obtain ⟨ρ1, a1, a2, a3⟩ := he x hx S' (k.trans k')
    exact ⟨ρ1, a1, a2, fun hq S2 k2 => a3 hq S2 (k.trans k2)⟩
  · subst e1
    exact ⟨_, rfl, rfl, k.trans k2⟩
theorem run_tYes {ρ : PD.Env} {S : Store} {Q : Bool → Store → Prop} : Run (tYes' ρ S) Q = Q true S := rfl
/-! ### products, sums -/
theorem run_mulE {a b : Int} {S : Store} {Q : Val → Store → Prop} (h : a.natAbs < 2 ^ 63 ∨ b.natAbs < 2 ^ 63) : Run (oMulE (.int a) (.int b) S) Q = Q (.int (a * b)) S := by
  show Run (if a.natAbs < 2 ^ 63 ∨ b.natAbs < 2 ^ 63 ∨ a.natAbs.log2 + b.natAbs.log2 < 1000000 then okI (a * b) S else .stuck) Q = _
  rw [if_pos (by rcases h with h | h; exact .inl h; exact .inr (.inl h))]; rfl
theorem run_powE {a : Nat} {b : Nat} {S : Store} {Q : Val → Store → Prop} (h : b ≤ 1000000) (h' : a < 1000) : Run (oPow (.int a) (.int b) S) Q = Q (.int ((a : Int) ^ b)) S := by
  show Run (if (0 : Int) ≤ b ∧ (b : Int) ≤ 1000000 ∧ (a : Int).natAbs < 2 ^ 64 then okI ((a : Int) ^ (b : Int).toNat) S else .stuck) Q = _
  rw [if_pos ⟨by omega, by omega, by rw [Int.natAbs_natCast]; exact Nat.lt_of_lt_of_le h' (by decide)⟩, Int.toNat_natCast]; rfl
end PD

/-! ## PDGd -/
set_option Elab.async false
set_option linter.all false
set_option maxRecDepth 100000
set_option maxHeartbeats 4000000
namespace PD
open PySem PySem.Spec L2 LT
/-! ### written values that hold no list: depth and length, reckoned -/
mutual
def gd : Val → Option (Nat × Nat)
  | .non => some (0, 4)
  | .bl _ => some (0, 5)
  | .int i => if i.natAbs < 10 ^ 100 then some (0, 101) else none
  | .str z => if (PyData.str z).canLay0 = true ∧ PyData.strOk (reprText z) = true then some (0, (reprText z).length) else none
  | .tup xs => match gds xs with
    | some (d, L) => some (d + 1, L + 3)
    | none => none
  | _ => none
def gds : List Val → Option (Nat × Nat)
  | [] => some (0, 0)
  | x :: xs => match gd x, gds xs with
    | some (d, L), some (e, M) => some (max d e, L + 2 + M)
    | _, _ => none
end
section
variable {c : Nat} {S : Store}
mutual
theorem gd_good : ∀ (v : Val) (d L : Nat), gd v = some (d, L) → d < 66 → Good c S d L v
  | .non, d, L, h, _ => by cases h; exact .non (Nat.le_refl _)
  | .bl b, d, L, h, _ => by cases h; exact .bl (Nat.le_refl _)
  | .int i, d, L, h, _ => by
    unfold gd at h
    split at h
    · rename_i hi; cases h; exact .int hi (Nat.le_refl _)
    · cases h
  | .str z, d, L, h, _ => by
    unfold gd at h
    split at h
    · rename_i hi; cases h; exact .str hi.1 (Nat.le_refl _) hi.2
    · cases h
  | .tup xs, d, L, h, hd => by
    unfold gd at h
    split at h
    · rename_i e M he
      cases h
      exact .tup (gds_good xs e M he (by omega)) (by omega) (Nat.le_refl _)
    · cases h
  | .ref n, d, L, h, _ => by cases h
  | .ty n, d, L, h, _ => by cases h
  | .kl n, d, L, h, _ => by cases h
theorem gds_good : ∀ (xs : List Val) (d L : Nat), gds xs = some (d, L) → d < 66 → Goods c S d L xs
  | [], d, L, h, _ => .nil _
  | x :: xs, d, L, h, hd => by
    unfold gds at h
    split at h
    · rename_i d1 L1 d2 L2 h1 h2
      cases h
      exact .cons ((gd_good x d1 L1 h1 (by omega)).up (by omega) (Nat.le_refl _)) (Goods.up (gds_good xs d2 L2 h2 (by omega)) (by omega)) (Nat.le_refl _)
    · cases h
theorem Goods.up {d e L : Nat} {xs : List Val} (h : Goods c S d L xs) (he : d ≤ e) : Goods c S e L xs := by
  induction h with
  | nil L => exact .nil L
  | cons hx _ hN ih => exact .cons (hx.up he (Nat.le_refl _)) ih hN
end
theorem gd_up {v : Val} {d L d' L' : Nat} (h : gd v = some (d, L)) (hd : d ≤ d') (hL : L ≤ L') (h66 : d < 66) : Good c S d' L' v := (gd_good v d L h h66).up hd hL
theorem gd_all {v : Val} {d' L' : Nat} (h : (match gd v with | some (d, L) => decide (d ≤ d') && decide (L ≤ L') && decide (d < 66) | none => false) = true) : Good c S d' L' v := by
  split at h
  · rename_i d L e
    simp only [Bool.and_eq_true, decide_eq_true_eq] at h
    exact gd_up e h.1.1 h.1.2 h.2
  · cases h
/-- all of a written list -/
theorem gd_list {xs : List Val} {d' L' : Nat} (h : xs.all (fun v => match gd v with | some (d, L) => decide (d ≤ d') && decide (L ≤ L') && decide (d < 66) | none => false) = true) : ∀ x ∈ xs, Good c S d' L' x := fun x hx => gd_all (List.all_eq_true.mp h x hx)
end
/-! ### a list of values that are good -/
def Vs (c D L k m : Nat) (S : Store) : Prop := m ≠ c ∧ ∃ xs, S[m]? = some (.lst xs) ∧ xs.length = k ∧ ∀ x ∈ xs, Good c S D L x
theorem Vs.kx {c D L k m : Nat} {S S' : Store} (h : Vs c D L k m S) (q : Kx c S S') (hD : D < 66) : Vs c D L k m S' := by
  obtain ⟨a, xs, e, hl, hx⟩ := h
  exact ⟨a, xs, q _ _ a e, hl, fun x hm => (hx x hm).kx q hD⟩
theorem Vs.more {c D L k m : Nat} {S : Store} {ys : List Val} (h : Vs c D L k m S) (hc : c < S.length) (hD : D < 66) (hy : ∀ y ∈ ys, Good c S D L y) (hl : k + ys.length ≤ 1000) :
    Run (oAdd (.ref m) (.ref S.length) (S ++ [.lst ys])) (fun r S' => ∃ m', r = .ref m' ∧ Vs c D L (k + ys.length) m' S' ∧ Kp S S') := by
  obtain ⟨a, xs, e, hk, hx⟩ := h
  rw [run_addL ((Gr.add _ _).get e) (get_new _ _) (by omega)]
  have k := ((Gr.add S [.lst ys]).trans (Gr.add _ [.lst (xs ++ ys)])).kp
  refine ⟨_, rfl, ⟨by rw [List.length_append]; omega, xs ++ ys, get_new _ _, by rw [List.length_append, hk], fun x h => ?_⟩, k⟩
  rcases List.mem_append.mp h with h | h
  · exact (hx x h).gr k hD
  · exact (hy x h).gr k hD
theorem mem_repV {α : Type} {k : Nat} {xs : List α} {x : α} (h : x ∈ repV k xs) : x ∈ xs := by
  unfold repV at h
  obtain ⟨ys, hy, hx⟩ := List.mem_flatten.mp h
  rw [(List.mem_replicate.mp hy).2] at hx
  exact hx
theorem len_repV {α : Type} (k : Nat) (xs : List α) : (repV k xs).length = k * xs.length := by
  unfold repV
  induction k with
  | zero => simp
  | succ k ih => rw [List.replicate_succ, List.flatten_cons, List.length_append, ih, Nat.succ_mul]; omega
theorem run_repLL {k : Nat} {xs : List Val} {S : Store} {Q : Val → Store → Prop} (h : xs.length * k ≤ 1000000) (hk : k ≤ 1000000) : Run (oRepL (.ref S.length) (.int k) (S ++ [.lst xs])) Q = Q (.ref (S ++ [Cell.lst xs]).length) (S ++ [.lst xs] ++ [.lst (repV k xs)]) := by
  have hc : -(2 ^ 63) ≤ (k : Int) ∧ (k : Int) < 2 ^ 63 ∧ xs.length * (k : Int).toNat ≤ 16777216 := ⟨by omega, by omega, by rw [Int.toNat_natCast]; omega⟩
  unfold oRepL
  simp only [get_new]
  rw [if_pos hc, Int.toNat_natCast]
  rfl
/-- to the list, a written list k times -/
theorem Vs.moreK {c D L k m w : Nat} {S : Store} {ys : List Val} (h : Vs c D L k m S) (hc : c < S.length) (hD : D < 66) (hy : ∀ y ∈ ys, Good c S D L y) (hl : k + w * ys.length ≤ 1000) (hw : w ≤ 1000) :
    Run (oRepL (.ref S.length) (.int w) (S ++ [.lst ys])) (fun y S1 => Run (oAdd (.ref m) y S1) (fun r S' => ∃ m', r = .ref m' ∧ Vs c D L (k + w * ys.length) m' S' ∧ Kp S S')) := by
  have hz : ys.length * w ≤ 1000000 := by rw [Nat.mul_comm]; omega
  rw [run_repLL hz (by omega)]
  have k1 := (Gr.add S [.lst ys]).kp
  have h2 := h.kx k1.kx hD
  have := Vs.more (ys := repV w ys) h2 (by rw [List.length_append]; omega) hD (fun y hm => (hy y (mem_repV hm)).gr k1 hD) (by rw [len_repV]; omega)
  refine Run.mono this fun r S' ⟨m', e, hv, k2⟩ => ?_
  rw [len_repV] at hv
  exact ⟨m', e, hv, k1.trans k2⟩
end PD

/-! ## LTSpread -/
set_option Elab.async false
set_option linter.all false
set_option maxHeartbeats 1000000
/-! all parts behind so many halves, and what is gathered of them (T.half is over this text's tree of the law: here by h) -/
namespace PD.LT.T
def hf (t : T) (h : Int) : T := match t with
  | leaf i => leaf i
  | node n l r => if h = 0 then l.lift n else r.lift n
theorem co_hf {t : T} {h : Int} (hc : t.co = true) : (t.hf h).co = true := by
  cases t with
  | leaf i => exact hc
  | node n l r =>
    obtain ⟨h1, h2, _⟩ := co_node.mp hc
    show (if h = 0 then l.lift n else r.lift n).co = true
    split
    · rw [co_lift]; exact h1
    · rw [co_lift]; exact h2
theorem nn_hf {t : T} {h : Int} (hn : t.nn = true) : (t.hf h).nn = true := by
  cases t with
  | leaf i => exact hn
  | node n l r =>
    obtain ⟨h0, h1, h2⟩ := nn_node.mp hn
    show (if h = 0 then l.lift n else r.lift n).nn = true
    split
    · exact nn_lift h1 h0
    · exact nn_lift h2 h0
theorem dep_hf {t : T} {h : Int} : (t.hf h).dep ≤ t.dep - 1 := by
  cases t with
  | leaf i => exact Nat.le_refl _
  | node n l r =>
    show (if h = 0 then l.lift n else r.lift n).dep ≤ 1 + max l.dep r.dep - 1
    split
    · rw [dep_lift]; omega
    · rw [dep_lift]; omega
theorem mx_hf {t : T} {h : Int} : (t.hf h).mx ≤ t.mx := by
  cases t with
  | leaf i => exact Int.le_refl _
  | node n l r =>
    show (if h = 0 then l.lift n else r.lift n).mx ≤ n + max l.mx r.mx
    split
    · rw [mx_lift]; omega
    · rw [mx_lift]; omega
/-- halves of what was put together -/
theorem hf_whole0 (l r : T) : (whole l r).hf 0 = l := by
  unfold whole
  split
  · rename_i h
    obtain ⟨i, rfl, rfl⟩ := sameL_eq h
    rfl
  · show (if (0 : Int) = 0 then (l.lift (-(min l.top r.top))).lift (min l.top r.top) else (r.lift (-(min l.top r.top))).lift (min l.top r.top)) = l
    rw [if_pos rfl, lift_lift, show -(min l.top r.top) + min l.top r.top = 0 by omega, lift_zero]
theorem hf_whole1 (l r : T) : (whole l r).hf 1 = r := by
  unfold whole
  split
  · rename_i h
    obtain ⟨i, rfl, rfl⟩ := sameL_eq h
    rfl
  · show (if (1 : Int) = 0 then (l.lift (-(min l.top r.top))).lift (min l.top r.top) else (r.lift (-(min l.top r.top))).lift (min l.top r.top)) = r
    rw [if_neg (by decide), lift_lift, show -(min l.top r.top) + min l.top r.top = 0 by omega, lift_zero]
theorem whole_hf {t : T} (hc : t.co = true) : whole (t.hf 0) (t.hf 1) = t := by
  cases t with
  | leaf i =>
    show whole (leaf i) (leaf i) = leaf i
    unfold whole sameL
    simp
  | node n l r =>
    show whole (l.lift n) (r.lift n) = node n l r
    rw [whole_lift, whole_of_co hc]
/-! ### all parts, all paths -/
def parts : Nat → T → List T
  | 0, t => [t]
  | n + 1, t => parts n (t.hf 0) ++ parts n (t.hf 1)
def paths : Nat → List (List Int)
  | 0 => [[]]
  | n + 1 => (paths n).map (0 :: ·) ++ (paths n).map (1 :: ·)
theorem parts_step : ∀ (n : Nat) (t : T), (parts n t).flatMap (fun u => [u.hf 0, u.hf 1]) = parts (n + 1) t
  | 0, t => rfl
  | n + 1, t => by
    show (parts n (t.hf 0) ++ parts n (t.hf 1)).flatMap _ = parts (n + 1) (t.hf 0) ++ parts (n + 1) (t.hf 1)
    rw [List.flatMap_append, parts_step n, parts_step n]
theorem paths_step : ∀ n : Nat, (paths n).flatMap (fun p => [p ++ [0], p ++ [1]]) = paths (n + 1)
  | 0 => rfl
  | n + 1 => by
    show ((paths n).map (0 :: ·) ++ (paths n).map (1 :: ·)).flatMap _ = (paths (n + 1)).map (0 :: ·) ++ (paths (n + 1)).map (1 :: ·)
    rw [← paths_step n, List.flatMap_append, List.flatMap_map, List.flatMap_map, List.map_flatMap, List.map_flatMap]
    rfl
theorem parts_len : ∀ (n : Nat) (t : T), (parts n t).length = 2 ^ n
  | 0, t => rfl
  | n + 1, t => by
    show (parts n (t.hf 0) ++ parts n (t.hf 1)).length = _
    rw [List.length_append, parts_len n, parts_len n, Nat.pow_succ]; omega
theorem paths_len : ∀ n : Nat, (paths n).length = 2 ^ n
  | 0 => rfl
  | n + 1 => by
    show ((paths n).map (0 :: ·) ++ (paths n).map (1 :: ·)).length = _
    rw [List.length_append, List.length_map, List.length_map, paths_len n, Nat.pow_succ]; omega
theorem paths_half : ∀ (n : Nat) (p : List Int), p ∈ paths n → p.length = n ∧ ∀ i ∈ p, i = 0 ∨ i = 1
  | 0, p, h => by
    rw [List.mem_singleton.mp h]
    exact ⟨rfl, fun _ h => nomatch h⟩
  | n + 1, p, h => by
    rcases List.mem_append.mp h with h | h
    · obtain ⟨q, hq, rfl⟩ := List.mem_map.mp h
      obtain ⟨h1, h2⟩ := paths_half n q hq
      exact ⟨by rw [List.length_cons, h1], fun i hi => by rcases List.mem_cons.mp hi with rfl | hi; exact .inl rfl; exact h2 i hi⟩
    · obtain ⟨q, hq, rfl⟩ := List.mem_map.mp h
      obtain ⟨h1, h2⟩ := paths_half n q hq
      exact ⟨by rw [List.length_cons, h1], fun i hi => by rcases List.mem_cons.mp hi with rfl | hi; exact .inr rfl; exact h2 i hi⟩
def at' : List Int → T → T
  | [], t => t
  | h :: p, t => at' p (t.hf h)
theorem parts_at : ∀ (n : Nat) (t : T), parts n t = (paths n).map fun p => at' p t
  | 0, t => rfl
  | n + 1, t => by
    show parts n (t.hf 0) ++ parts n (t.hf 1) = ((paths n).map (0 :: ·) ++ (paths n).map (1 :: ·)).map _
    rw [List.map_append, List.map_map, List.map_map, parts_at n, parts_at n]
    rfl
theorem parts_all {P : T → Prop} (hP : ∀ (t : T) (h : Int), P t → P (t.hf h)) : ∀ (n : Nat) (t : T), P t → ∀ u ∈ parts n t, P u
  | 0, t, h, u, hu => by rw [List.mem_singleton.mp hu]; exact h
  | n + 1, t, h, u, hu => by
    rcases List.mem_append.mp hu with hu | hu
    · exact parts_all hP n _ (hP t 0 h) u hu
    · exact parts_all hP n _ (hP t 1 h) u hu
theorem parts_dep : ∀ (n : Nat) (t : T), ∀ u ∈ parts n t, u.dep ≤ t.dep - n
  | 0, t, u, hu => by rw [List.mem_singleton.mp hu]; omega
  | n + 1, t, u, hu => by
    rcases List.mem_append.mp hu with hu | hu
    · have := parts_dep n _ u hu
      have := dep_hf (t := t) (h := 0)
      omega
    · have := parts_dep n _ u hu
      have := dep_hf (t := t) (h := 1)
      omega
theorem leaf_of_dep {t : T} (h : t.dep = 0) : t = leaf t.top := by
  cases t with
  | leaf i => rfl
  | node n l r =>
    have h : 1 + max l.dep r.dep = 0 := h
    omega
theorem parts_leaf {n : Nat} {t : T} (h : t.dep ≤ n) : parts n t = ((parts n t).map top).map leaf := by
  rw [List.map_map]
  conv => lhs; rw [← List.map_id (parts n t)]
  refine List.map_congr_left fun u hu => ?_
  show u = leaf u.top
  exact leaf_of_dep (by have := parts_dep n t u hu; omega)
theorem parts_deep : ∀ (n : Nat) (t : T), n < t.dep → ∃ u ∈ parts n t, u.isLeaf = false
  | 0, t, h => by
    cases t with
    | leaf i => exact absurd h (Nat.not_lt_zero _)
    | node k l r => exact ⟨_, List.mem_singleton_self _, rfl⟩
  | n + 1, t, h => by
    cases t with
    | leaf i => exact absurd h (Nat.not_lt_zero _)
    | node k l r =>
      have h : n + 1 < 1 + max l.dep r.dep := h
      by_cases hl : n < l.dep
      · obtain ⟨u, hu, h2⟩ := parts_deep n (l.lift k) (by rw [dep_lift]; exact hl)
        exact ⟨u, List.mem_append_left _ hu, h2⟩
      · obtain ⟨u, hu, h2⟩ := parts_deep n (r.lift k) (by rw [dep_lift]; omega)
        exact ⟨u, List.mem_append_right _ hu, h2⟩
/-- leaves of the rows: one as deep as the tree -/
theorem leaves_deep : ∀ (t : T) (p : List Int) (m : Int), ∃ x ∈ leaves t p m, x.1.length = p.length + t.dep
  | leaf i, p, m => ⟨_, List.mem_singleton_self _, rfl⟩
  | node k l r, p, m => by
    obtain ⟨x, hx, e⟩ := leaves_deep l (p ++ [0]) (m + k)
    obtain ⟨y, hy, e2⟩ := leaves_deep r (p ++ [1]) (m + k)
    rw [List.length_append, List.length_singleton] at e e2
    show ∃ x ∈ leaves l (p ++ [0]) (m + k) ++ leaves r (p ++ [1]) (m + k), x.1.length = p.length + (1 + max l.dep r.dep)
    by_cases h : r.dep ≤ l.dep
    · exact ⟨x, List.mem_append_left _ hx, by omega⟩
    · exact ⟨y, List.mem_append_right _ hy, by omega⟩
/-! ### gathered -/
def perf : Nat → List Int → T
  | 0, ws => leaf (ws.headD 0)
  | n + 1, ws => node 0 (perf n (ws.take (2 ^ n))) (perf n (ws.drop (2 ^ n)))
theorem perf_facts : ∀ (n : Nat) (ws : List Int), (perf n ws).dep = n ∧ (perf n ws).tc + 1 = 2 ^ n
  | 0, ws => ⟨rfl, rfl⟩
  | n + 1, ws => by
    obtain ⟨a, b⟩ := perf_facts n (ws.take (2 ^ n))
    obtain ⟨c, d⟩ := perf_facts n (ws.drop (2 ^ n))
    refine ⟨?_, ?_⟩
    · show 1 + max (perf n _).dep (perf n _).dep = n + 1
      rw [a, c]; omega
    · show 1 + ((perf n _).tc + (perf n _).tc) + 1 = 2 ^ (n + 1)
      rw [Nat.pow_succ]; omega
theorem perf_nn : ∀ (n : Nat) (ws : List Int), (∀ w ∈ ws, 0 ≤ w) → (perf n ws).nn = true
  | 0, ws, h => by
    show decide (0 ≤ ws.headD 0) = true
    cases ws with
    | nil => rfl
    | cons w ws => exact decide_eq_true (h w List.mem_cons_self)
  | n + 1, ws, h => nn_node.mpr ⟨by decide, perf_nn n _ fun w hw => h w (List.mem_of_mem_take hw), perf_nn n _ fun w hw => h w (List.mem_of_mem_drop hw)⟩
theorem take_drop_len {n : Nat} {ws : List Int} (h : ws.length = 2 ^ (n + 1)) : (ws.take (2 ^ n)).length = 2 ^ n ∧ (ws.drop (2 ^ n)).length = 2 ^ n := by
  rw [List.length_take, List.length_drop, h, Nat.pow_succ]; omega
theorem perf_leaves : ∀ (n : Nat) (ws : List Int) (p : List Int), ws.length = 2 ^ n → leaves (perf n ws) p 0 = ((paths n).map (p ++ ·)).zip ws
  | 0, ws, p, h => by
    match ws, h with
    | [w], _ =>
      show [(p, 0 + w)] = [(p ++ [], w)]
      rw [List.append_nil, Int.zero_add]
  | n + 1, ws, p, h => by
    obtain ⟨h1, h2⟩ := take_drop_len h
    show leaves (perf n (ws.take (2 ^ n))) (p ++ [0]) (0 + 0) ++ leaves (perf n (ws.drop (2 ^ n))) (p ++ [1]) (0 + 0) = (((paths n).map (0 :: ·) ++ (paths n).map (1 :: ·)).map (p ++ ·)).zip ws
    rw [Int.zero_add, perf_leaves n _ _ h1, perf_leaves n _ _ h2, List.map_append, List.map_map, List.map_map]
    conv => rhs; rw [← List.take_append_drop (2 ^ n) ws]
    rw [List.zip_append (by rw [List.length_map, paths_len, h1])]
    congr 2
    · congr 1; funext q; simp
    · congr 1; funext q; simp
/-- pairs put together -/
def pairUp : List T → List T
  | a :: b :: r => whole a b :: pairUp r
  | r => r
def up : Nat → List T → List T
  | 0, ts => ts
  | k + 1, ts => up k (pairUp ts)
theorem pairUp_append : ∀ (as bs : List T), as.length % 2 = 0 → pairUp (as ++ bs) = pairUp as ++ pairUp bs
  | [], bs, _ => rfl
  | [_], _, h => by cases h
  | a :: b :: r, bs, h => by
    show whole a b :: pairUp (r ++ bs) = whole a b :: (pairUp r ++ pairUp bs)
    rw [pairUp_append r bs (by rw [List.length_cons, List.length_cons] at h; omega)]
theorem pairUp_len : ∀ (as : List T), as.length % 2 = 0 → (pairUp as).length = as.length / 2
  | [], _ => rfl
  | [_], h => by cases h
  | a :: b :: r, h => by
    show (whole a b :: pairUp r).length = (a :: b :: r).length / 2
    rw [List.length_cons, pairUp_len r (by rw [List.length_cons, List.length_cons] at h; omega), List.length_cons, List.length_cons]; omega
theorem up_append : ∀ (k : Nat) (as bs : List T), as.length = 2 ^ k → bs.length = 2 ^ k → ∀ a b, up k as = [a] → up k bs = [b] → up (k + 1) (as ++ bs) = [whole a b]
  | 0, as, bs, _, _, a, b, ha, hb => by
    have ha : as = [a] := ha
    have hb : bs = [b] := hb
    subst ha hb
    rfl
  | k + 1, as, bs, h1, h2, a, b, ha, hb => by
    have e1 : as.length % 2 = 0 := by rw [h1, Nat.pow_succ]; omega
    have e2 : bs.length % 2 = 0 := by rw [h2, Nat.pow_succ]; omega
    show up (k + 1) (pairUp (as ++ bs)) = _
    rw [pairUp_append as bs e1]
    exact up_append k _ _ (by rw [pairUp_len as e1, h1, Nat.pow_succ]; omega) (by rw [pairUp_len bs e2, h2, Nat.pow_succ]; omega) a b ha hb
theorem up_perf : ∀ (n : Nat) (ws : List Int), ws.length = 2 ^ n → up n (ws.map leaf) = [(perf n ws).lf]
  | 0, ws, h => by
    match ws, h with
    | [w], _ => rfl
  | n + 1, ws, h => by
    obtain ⟨h1, h2⟩ := take_drop_len h
    have e : ws.map leaf = (ws.take (2 ^ n)).map leaf ++ (ws.drop (2 ^ n)).map leaf := by rw [← List.map_append, List.take_append_drop]
    rw [e, up_append n _ _ (by rw [List.length_map, h1]) (by rw [List.length_map, h2]) _ _ (up_perf n _ h1) (up_perf n _ h2)]
    show _ = [(whole (perf n _).lf (perf n _).lf).lift 0]
    rw [lift_zero]
/-- what is gathered of all parts -/
theorem perf_parts : ∀ (n : Nat) (t : T), t.co = true → t.dep ≤ n → (perf n ((parts n t).map top)).lf = t
  | 0, t, _, h => by
    show (leaf t.top).lf = t
    rw [← leaf_of_dep (show t.dep = 0 by omega)]
    rw [leaf_of_dep (show t.dep = 0 by omega)]; rfl
  | n + 1, t, hc, h => by
    have hl : ((parts n (t.hf 0)).map top).length = 2 ^ n := by rw [List.length_map, parts_len]
    have e1 : (((parts n (t.hf 0) ++ parts n (t.hf 1)).map top)).take (2 ^ n) = (parts n (t.hf 0)).map top := by rw [List.map_append, ← hl, List.take_left]
    have e2 : (((parts n (t.hf 0) ++ parts n (t.hf 1)).map top)).drop (2 ^ n) = (parts n (t.hf 1)).map top := by rw [List.map_append, ← hl, List.drop_left]
    have d0 := dep_hf (t := t) (h := 0)
    have d1 := dep_hf (t := t) (h := 1)
    show (whole (perf n (((parts n (t.hf 0) ++ parts n (t.hf 1)).map top).take (2 ^ n))).lf (perf n (((parts n (t.hf 0) ++ parts n (t.hf 1)).map top).drop (2 ^ n))).lf).lift 0 = t
    rw [e1, e2, lift_zero, perf_parts n _ (co_hf hc) (by omega), perf_parts n _ (co_hf hc) (by omega), whole_hf hc]
/-- all parts of what is gathered -/
theorem parts_perf : ∀ (n : Nat) (ws : List Int), ws.length = 2 ^ n → parts n (perf n ws).lf = ws.map leaf
  | 0, ws, h => by
    match ws, h with
    | [w], _ => rfl
  | n + 1, ws, h => by
    obtain ⟨h1, h2⟩ := take_drop_len h
    show parts n (((whole (perf n (ws.take (2 ^ n))).lf (perf n (ws.drop (2 ^ n))).lf).lift 0).hf 0) ++ parts n (((whole (perf n (ws.take (2 ^ n))).lf (perf n (ws.drop (2 ^ n))).lf).lift 0).hf 1) = _
    rw [lift_zero, hf_whole0, hf_whole1, parts_perf n _ h1, parts_perf n _ h2, ← List.map_append, List.take_append_drop]
end PD.LT.T

/-! ## LTJoin -/
set_option Elab.async false
set_option linter.all false
set_option maxHeartbeats 1000000
/-! the greater of two counts, part by part -/
namespace PD.LT.T
def J : Nat → T → T → T
  | 0, a, b => leaf (max a.top b.top)
  | k + 1, a, b => whole (J k (a.hf 0) (b.hf 0)) (J k (a.hf 1) (b.hf 1))
def W : Nat → T → T → Bool
  | 0, a, b => decide (a.top ≤ b.top)
  | k + 1, a, b => W k (a.hf 0) (b.hf 0) && W k (a.hf 1) (b.hf 1)
theorem J_leaf : ∀ (k : Nat) (i j : Int), J k (leaf i) (leaf j) = leaf (max i j)
  | 0, i, j => rfl
  | k + 1, i, j => by
    show whole (J k (leaf i) (leaf j)) (J k (leaf i) (leaf j)) = _
    rw [J_leaf k]
    unfold whole sameL
    simp
theorem W_leaf : ∀ (k : Nat) (i j : Int), W k (leaf i) (leaf j) = decide (i ≤ j)
  | 0, i, j => rfl
  | k + 1, i, j => by
    show (W k (leaf i) (leaf j) && W k (leaf i) (leaf j)) = _
    rw [W_leaf k, Bool.and_self]
theorem J_comm : ∀ (k : Nat) (a b : T), J k a b = J k b a
  | 0, a, b => by show leaf (max a.top b.top) = leaf (max b.top a.top); rw [Int.max_comm]
  | k + 1, a, b => by
    show whole (J k _ _) (J k _ _) = whole (J k _ _) (J k _ _)
    rw [J_comm k (a.hf 0), J_comm k (a.hf 1)]
theorem J_hf {k : Nat} {a b : T} {h : Int} (hh : h = 0 ∨ h = 1) : (J (k + 1) a b).hf h = J k (a.hf h) (b.hf h) := by
  rcases hh with rfl | rfl
  · exact hf_whole0 _ _
  · exact hf_whole1 _ _
theorem J_at : ∀ (p : List Int) (k : Nat) (a b : T), (∀ i ∈ p, i = 0 ∨ i = 1) → at' p (J (k + p.length) a b) = J k (at' p a) (at' p b)
  | [], k, a, b, _ => rfl
  | h :: p, k, a, b, hp => by
    show at' p ((J (k + (p.length + 1)) a b).hf h) = J k (at' p (a.hf h)) (at' p (b.hf h))
    rw [← Nat.add_assoc, J_hf (hp h List.mem_cons_self), J_at p k _ _ fun i hi => hp i (List.mem_cons_of_mem _ hi)]
theorem co_J : ∀ (k : Nat) (a b : T), (J k a b).co = true
  | 0, a, b => rfl
  | k + 1, a, b => co_whole (co_J k _ _) (co_J k _ _)
theorem top_hf {a : T} (h : a.co = true) : a.top = min (a.hf 0).top (a.hf 1).top := by
  cases a with
  | leaf i => show i = min i i; omega
  | node n l r =>
    obtain ⟨_, _, _, h0, h1, h2⟩ := co_node.mp h
    show n = min (if (0 : Int) = 0 then l.lift n else r.lift n).top (if (1 : Int) = 0 then l.lift n else r.lift n).top
    rw [if_pos rfl, if_neg (by decide), top_lift, top_lift]
    omega
theorem mx_hf2 {a : T} : a.mx = max (a.hf 0).mx (a.hf 1).mx := by
  cases a with
  | leaf i => show i = max i i; omega
  | node n l r =>
    show n + max l.mx r.mx = max (if (0 : Int) = 0 then l.lift n else r.lift n).mx (if (1 : Int) = 0 then l.lift n else r.lift n).mx
    rw [if_pos rfl, if_neg (by decide), mx_lift, mx_lift]
    omega
theorem top_J : ∀ (k : Nat) (a b : T), a.co = true → b.co = true → a.top ≤ (J k a b).top ∧ b.top ≤ (J k a b).top
  | 0, a, b, _, _ => by
    show a.top ≤ max a.top b.top ∧ b.top ≤ max a.top b.top
    omega
  | k + 1, a, b, ha, hb => by
    have h0 := top_J k (a.hf 0) (b.hf 0) (co_hf ha) (co_hf hb)
    have h1 := top_J k (a.hf 1) (b.hf 1) (co_hf ha) (co_hf hb)
    have ea := top_hf ha
    have eb := top_hf hb
    show a.top ≤ (whole (J k _ _) (J k _ _)).top ∧ b.top ≤ (whole (J k _ _) (J k _ _)).top
    rw [top_whole]
    omega
theorem top_dep {a : T} (h : a.dep = 0) : a.mx = a.top := by
  cases a with
  | leaf i => rfl
  | node n l r => have h : 1 + max l.dep r.dep = 0 := h; omega
theorem mx_J : ∀ (k : Nat) (a b : T), a.dep ≤ k → b.dep ≤ k → (J k a b).mx = max a.mx b.mx
  | 0, a, b, ha, hb => by
    show max a.top b.top = _
    rw [top_dep (a := a) (by omega), top_dep (a := b) (by omega)]
  | k + 1, a, b, ha, hb => by
    have da0 := dep_hf (t := a) (h := 0)
    have da1 := dep_hf (t := a) (h := 1)
    have db0 := dep_hf (t := b) (h := 0)
    have db1 := dep_hf (t := b) (h := 1)
    show (whole (J k _ _) (J k _ _)).mx = _
    rw [mx_whole, mx_J k _ _ (by omega) (by omega), mx_J k _ _ (by omega) (by omega), mx_hf2 (a := a), mx_hf2 (a := b)]
    omega
theorem nn_J {k : Nat} {a b : T} (ha : a.co = true) (hb : b.co = true) (h : 0 ≤ a.top) : (J k a b).nn = true := nn_of_co (co_J k a b) (by have := (top_J k a b ha hb).1; omega)
theorem dep_J : ∀ (k : Nat) (a b : T), (J k a b).dep ≤ max a.dep b.dep
  | 0, a, b => Nat.zero_le _
  | k + 1, a, b => by
    have da0 := dep_hf (t := a) (h := 0)
    have da1 := dep_hf (t := a) (h := 1)
    have db0 := dep_hf (t := b) (h := 0)
    have db1 := dep_hf (t := b) (h := 1)
    by_cases h : max a.dep b.dep = 0
    · have ea := leaf_of_dep (t := a) (by omega)
      have eb := leaf_of_dep (t := b) (by omega)
      rw [ea, eb, J_leaf]
      exact Nat.zero_le _
    · have h0 := dep_J k (a.hf 0) (b.hf 0)
      have h1 := dep_J k (a.hf 1) (b.hf 1)
      have := dep_whole (J k (a.hf 0) (b.hf 0)) (J k (a.hf 1) (b.hf 1))
      show (whole (J k _ _) (J k _ _)).dep ≤ _
      omega
theorem W_iff : ∀ (k : Nat) (a b : T), a.dep ≤ k → b.dep ≤ k → b.co = true → (J k a b = b ↔ W k a b = true)
  | 0, a, b, ha, hb, hc => by
    rw [leaf_of_dep (t := a) (by omega), leaf_of_dep (t := b) (by omega)]
    show leaf (max a.top b.top) = leaf b.top ↔ decide (a.top ≤ b.top) = true
    rw [decide_eq_true_eq]
    constructor
    · intro h; injection h with h; omega
    · intro h; congr 1; omega
  | k + 1, a, b, ha, hb, hc => by
    have da0 := dep_hf (t := a) (h := 0)
    have da1 := dep_hf (t := a) (h := 1)
    have db0 := dep_hf (t := b) (h := 0)
    have db1 := dep_hf (t := b) (h := 1)
    have i0 := W_iff k (a.hf 0) (b.hf 0) (by omega) (by omega) (co_hf hc)
    have i1 := W_iff k (a.hf 1) (b.hf 1) (by omega) (by omega) (co_hf hc)
    show whole (J k (a.hf 0) (b.hf 0)) (J k (a.hf 1) (b.hf 1)) = b ↔ (W k (a.hf 0) (b.hf 0) && W k (a.hf 1) (b.hf 1)) = true
    rw [Bool.and_eq_true, ← i0, ← i1]
    constructor
    · intro h
      constructor
      · rw [← hf_whole0 (J k (a.hf 0) (b.hf 0)) (J k (a.hf 1) (b.hf 1)), h]
      · rw [← hf_whole1 (J k (a.hf 0) (b.hf 0)) (J k (a.hf 1) (b.hf 1)), h]
    · rintro ⟨h0, h1⟩
      rw [h0, h1, whole_hf hc]
theorem W_J : ∀ (k : Nat) (a b : T), W k a (J k a b) = true
  | 0, a, b => by
    show decide (a.top ≤ max a.top b.top) = true
    exact decide_eq_true (by omega)
  | k + 1, a, b => by
    show (W k (a.hf 0) ((J (k + 1) a b).hf 0) && W k (a.hf 1) ((J (k + 1) a b).hf 1)) = true
    rw [J_hf (.inl rfl), J_hf (.inr rfl), W_J k, W_J k]; rfl
theorem dep_at : ∀ (p : List Int) (t : T), (at' p t).dep ≤ t.dep - p.length
  | [], t => Nat.le_refl _
  | h :: p, t => by
    have := dep_at p (t.hf h)
    have h2 := dep_hf (t := t) (h := h)
    show (at' p (t.hf h)).dep ≤ t.dep - (p.length + 1)
    omega
theorem co_at : ∀ (p : List Int) {t : T}, t.co = true → (at' p t).co = true
  | [], _, h => h
  | _ :: p, _, h => co_at p (co_hf h)
theorem nn_at : ∀ (p : List Int) {t : T}, t.nn = true → (at' p t).nn = true
  | [], _, h => h
  | _ :: p, _, h => nn_at p (nn_hf h)
theorem at_lift : ∀ (p : List Int) (t : T) (n : Int), at' p (t.lift n) = (at' p t).lift n
  | [], t, n => rfl
  | h :: p, t, n => by
    show at' p ((t.lift n).hf h) = (at' p (t.hf h)).lift n
    have e : (t.lift n).hf h = (t.hf h).lift n := by
      cases t with
      | leaf i => rfl
      | node m l r =>
        show (if h = 0 then l.lift (m + n) else r.lift (m + n)) = (if h = 0 then l.lift m else r.lift m).lift n
        split <;> rw [lift_lift]
    rw [e, at_lift p]
end PD.LT.T

/-! ## K05Den -/
set_option Elab.async false
set_option linter.all false
set_option maxRecDepth 100000
set_option maxHeartbeats 4000000
namespace PD.K05
open PySem PySem.Spec L2 PD
def topS (i : Nat) : Stmt := PySem.Challenge.pw_heirstamps_k05_counts_joined_and_within.main.body.getD i (.Pass ⟨0, 0, 0, 0⟩)
abbrev s_tuple_count : Stmt := topS 8
abbrev s_bounded : Stmt := topS 9
abbrev s_is_path : Stmt := topS 11
abbrev s_check_path : Stmt := topS 12
abbrev s_least : Stmt := topS 14
abbrev s_greatest : Stmt := topS 15
abbrev s_lifted : Stmt := topS 16
abbrev s_halves : Stmt := topS 17
abbrev s_whole : Stmt := topS 18
abbrev s_greater_of : Stmt := topS 19
abbrev s_nowhere_greater : Stmt := topS 20
abbrev s_is_counts : Stmt := topS 22
abbrev s__is_counts_tree : Stmt := topS 23
abbrev s_check_counts : Stmt := topS 24
abbrev s_worth_at : Stmt := topS 25
abbrev s_joined : Stmt := topS 26
abbrev s_is_within : Stmt := topS 27
abbrev s__law_cup : Stmt := topS 29
abbrev s__law_sip : Stmt := topS 30
abbrev s__law_same : Stmt := topS 31
abbrev s__law_counts : Stmt := topS 32
abbrev s__law_long : Stmt := topS 33
abbrev s__law_size : Stmt := topS 34
abbrev s__law_least : Stmt := topS 35
abbrev s__law_put : Stmt := topS 36
abbrev s__law_lower : Stmt := topS 37
abbrev s__law_parts : Stmt := topS 38
abbrev s__law_join : Stmt := topS 39
abbrev s__law_worth : Stmt := topS 41
abbrev s__law_beyond : Stmt := topS 42
abbrev s__law_bad_counts : Stmt := topS 43
abbrev s__law_bad_path : Stmt := topS 44
abbrev s__law_path : Stmt := topS 45
abbrev s__law_said : Stmt := topS 46
abbrev s__law_pair_right : Stmt := topS 47
abbrev s_law : Stmt := topS 48
abbrev s_TooMany_init : Stmt := inClass (topS 4) 0
/-! ### the classes of errors by number -/
def mtL : List (Nat × Nat) := [(0, 0), (1, 0), (1, 1), (2, 0), (2, 2), (3, 0), (3, 3)]
def mt (c k : Nat) : Bool := mtL.contains (c, k)
/-! ### the denotations: all defs at once, by the number of calls that may be nested -/
structure Fns where
  tuple_count : Fn
  bounded : Fn
  is_path : Fn
  check_path : Fn
  least : Fn
  greatest : Fn
  lifted : Fn
  halves : Fn
  whole : Fn
  greater_of : Fn
  nowhere_greater : Fn
  is_counts : Fn
  _is_counts_tree : Fn
  check_counts : Fn
  worth_at : Fn
  joined : Fn
  is_within : Fn
  _law_cup : Fn
  _law_sip : Fn
  _law_same : Fn
  _law_counts : Fn
  _law_long : Fn
  _law_size : Fn
  _law_least : Fn
  _law_put : Fn
  _law_lower : Fn
  _law_parts : Fn
  _law_join : Fn
  _law_worth : Fn
  _law_beyond : Fn
  _law_bad_counts : Fn
  _law_bad_path : Fn
  _law_path : Fn
  _law_said : Fn
  _law_pair_right : Fn
  law : Fn
  lv : Nat
def b_tuple_count (p : Fns) : SD := (sSeq (sIf (tVal (dOp oIs (dCall bType (aCons (dVar 0) aNil)) (dC (.ty "int")))) (sRet (dC (.int 0))) sNext)
    (sRet (dOp oAdd (dC (.int 1)) (dCall bSum (aCons (dLCT (dVar 0) (gN 1) tYes' (dCall p.tuple_count (aCons (dVar 1) aNil)) [1]) aNil)))))
def b_bounded (p : Fns) : SD := (sSeq (sIf (tVal (dOp oGt (dCall p.tuple_count (aCons (dVar 0) aNil)) (dC (.int 63)))) (sRaiseF 3 "count" (dC (.int 63)) p.lv) sNext)
    (sRet (dVar 0)))
def b_is_path (p : Fns) : SD := (sSeq (sIf (tOr' (tVal (dOp oIsNot (dCall bType (aCons (dVar 0) aNil)) (dC (.ty "tuple")))) (tVal (dOp oGt (dCall bLen (aCons (dVar 0) aNil)) (dC (.int 12))))) (sRet (dC (.bl false))) sNext)
    (sRet (dCall bAll (aCons (dLCT (dVar 0) (gN 1) tYes' (dAnd (dOp oIs (dCall bType (aCons (dVar 1) aNil)) (dC (.ty "int"))) (dOr (dOp oEq (dVar 1) (dC (.int 0))) (dOp oEq (dVar 1) (dC (.int 1))))) [1]) aNil))))
def b_check_path (p : Fns) : SD := (sIf (tNot' (tVal (dCall p.is_path (aCons (dVar 0) aNil)))) (sRaise 2) sNext)
def b_least (p : Fns) : SD := (sSeq (sIf (tVal (dOp oIs (dCall bType (aCons (dVar 0) aNil)) (dC (.ty "int")))) (sRet (dVar 0)) sNext)
    (sRet (dOp oIx (dVar 0) (dC (.int 0)))))
def b_greatest (p : Fns) : SD := (sSeq (sIf (tVal (dOp oIs (dCall bType (aCons (dVar 0) aNil)) (dC (.ty "int")))) (sRet (dVar 0)) sNext)
    (sRet (dOp oAdd (dOp oIx (dVar 0) (dC (.int 0))) (dCall bMax2 (aCons (dCall p.greatest (aCons (dOp oIx (dVar 0) (dC (.int 1))) aNil)) (aCons (dCall p.greatest (aCons (dOp oIx (dVar 0) (dC (.int 2))) aNil)) aNil))))))
def b_lifted (p : Fns) : SD := (sSeq (sIf (tVal (dOp oIs (dCall bType (aCons (dVar 0) aNil)) (dC (.ty "int")))) (sRet (dOp oAdd (dVar 0) (dVar 1))) sNext)
    (sRet (dTup (aCons (dOp oAdd (dOp oIx (dVar 0) (dC (.int 0))) (dVar 1)) (aCons (dOp oIx (dVar 0) (dC (.int 1))) (aCons (dOp oIx (dVar 0) (dC (.int 2))) aNil))))))
def b_halves (p : Fns) : SD := (sSeq (sIf (tVal (dOp oIs (dCall bType (aCons (dVar 0) aNil)) (dC (.ty "int")))) (sRet (dTup (aCons (dVar 0) (aCons (dVar 0) aNil)))) sNext)
    (sRet (dTup (aCons (dCall p.lifted (aCons (dOp oIx (dVar 0) (dC (.int 1))) (aCons (dOp oIx (dVar 0) (dC (.int 0))) aNil))) (aCons (dCall p.lifted (aCons (dOp oIx (dVar 0) (dC (.int 2))) (aCons (dOp oIx (dVar 0) (dC (.int 0))) aNil))) aNil)))))
def b_whole (p : Fns) : SD := (sSeq (sIf (tAnd' (tVal (dOp oIs (dCall bType (aCons (dVar 0) aNil)) (dC (.ty "int")))) (tVal (dOp oEq (dVar 0) (dVar 1)))) (sRet (dVar 0)) sNext)
    (sSeq (sSet 2 (dCall bMin2 (aCons (dCall p.least (aCons (dVar 0) aNil)) (aCons (dCall p.least (aCons (dVar 1) aNil)) aNil))))
    (sRet (dTup (aCons (dVar 2) (aCons (dCall p.lifted (aCons (dVar 0) (aCons (dUn oNeg (dVar 2)) aNil))) (aCons (dCall p.lifted (aCons (dVar 1) (aCons (dUn oNeg (dVar 2)) aNil))) aNil)))))))
def b_greater_of (p : Fns) : SD := (sSeq (sIf (tAnd' (tVal (dOp oIs (dCall bType (aCons (dVar 0) aNil)) (dC (.ty "int")))) (tVal (dOp oIs (dCall bType (aCons (dVar 1) aNil)) (dC (.ty "int"))))) (sRet (dCall bMax2 (aCons (dVar 0) (aCons (dVar 1) aNil)))) sNext)
    (sSeq (sAsg (gT [(gN 2), (gN 3)]) (dCall p.halves (aCons (dVar 0) aNil)))
    (sSeq (sAsg (gT [(gN 4), (gN 5)]) (dCall p.halves (aCons (dVar 1) aNil)))
    (sRet (dCall p.whole (aCons (dCall p.greater_of (aCons (dVar 2) (aCons (dVar 4) aNil))) (aCons (dCall p.greater_of (aCons (dVar 3) (aCons (dVar 5) aNil))) aNil)))))))
def b_nowhere_greater (p : Fns) : SD := (sSeq (sIf (tAnd' (tVal (dOp oIs (dCall bType (aCons (dVar 0) aNil)) (dC (.ty "int")))) (tVal (dOp oIs (dCall bType (aCons (dVar 1) aNil)) (dC (.ty "int"))))) (sRet (dOp oLe (dVar 0) (dVar 1))) sNext)
    (sSeq (sAsg (gT [(gN 2), (gN 3)]) (dCall p.halves (aCons (dVar 0) aNil)))
    (sSeq (sAsg (gT [(gN 4), (gN 5)]) (dCall p.halves (aCons (dVar 1) aNil)))
    (sRet (dAnd (dCall p.nowhere_greater (aCons (dVar 2) (aCons (dVar 4) aNil))) (dCall p.nowhere_greater (aCons (dVar 3) (aCons (dVar 5) aNil))))))))
def b_is_counts (p : Fns) : SD := (sRet (dAnd (dCall p._is_counts_tree (aCons (dVar 0) (aCons (dC (.int 12)) aNil))) (dOp oLe (dCall p.tuple_count (aCons (dVar 0) aNil)) (dC (.int 63)))))
def b__is_counts_tree (p : Fns) : SD := (sSeq (sIf (tVal (dOp oIs (dCall bType (aCons (dVar 0) aNil)) (dC (.ty "int")))) (sRet (dOp oGe (dVar 0) (dC (.int 0)))) sNext)
    (sSeq (sIf (tOr' (tVal (dOp oIsNot (dCall bType (aCons (dVar 0) aNil)) (dC (.ty "tuple")))) (tOr' (tVal (dOp oNe (dCall bLen (aCons (dVar 0) aNil)) (dC (.int 3)))) (tVal (dOp oEq (dVar 1) (dC (.int 0)))))) (sRet (dC (.bl false))) sNext)
    (sSeq (sAsg (gT [(gN 2), (gN 3), (gN 4)]) (dVar 0))
    (sSeq (sIf (tOr' (tVal (dOp oIsNot (dCall bType (aCons (dVar 2) aNil)) (dC (.ty "int")))) (tVal (dOp oLt (dVar 2) (dC (.int 0))))) (sRet (dC (.bl false))) sNext)
    (sSeq (sIf (tOr' (tNot' (tVal (dCall p._is_counts_tree (aCons (dVar 3) (aCons (dOp oSub (dVar 1) (dC (.int 1))) aNil))))) (tNot' (tVal (dCall p._is_counts_tree (aCons (dVar 4) (aCons (dOp oSub (dVar 1) (dC (.int 1))) aNil)))))) (sRet (dC (.bl false))) sNext)
    (sSeq (sIf (tAnd' (tVal (dOp oIs (dCall bType (aCons (dVar 3) aNil)) (dC (.ty "int")))) (tVal (dOp oEq (dVar 3) (dVar 4)))) (sRet (dC (.bl false))) sNext)
    (sRet (dOr (dOp oEq (dCall p.least (aCons (dVar 3) aNil)) (dC (.int 0))) (dOp oEq (dCall p.least (aCons (dVar 4) aNil)) (dC (.int 0)))))))))))
def b_check_counts (p : Fns) : SD := (sIf (tNot' (tVal (dCall p.is_counts (aCons (dVar 0) aNil)))) (sRaise 1) sNext)
def b_worth_at (p : Fns) : SD := (sSeq (sDrop (dCall p.check_counts (aCons (dVar 0) aNil)))
    (sSeq (sDrop (dCall p.check_path (aCons (dVar 1) aNil)))
    (sSeq (sSet 2 (dVar 0))
    (sSeq (sForT (dVar 1) (gN 3)
    (sSet 2 (dOp oIx (dCall p.halves (aCons (dVar 2) aNil)) (dVar 3))))
    (sRet (dTup (aCons (dCall p.least (aCons (dVar 2) aNil)) (aCons (dCall p.greatest (aCons (dVar 2) aNil)) aNil))))))))
def b_joined (p : Fns) : SD := (sSeq (sDrop (dCall p.check_counts (aCons (dVar 0) aNil)))
    (sSeq (sDrop (dCall p.check_counts (aCons (dVar 1) aNil)))
    (sRet (dCall p.bounded (aCons (dCall p.greater_of (aCons (dVar 0) (aCons (dVar 1) aNil))) aNil)))))
def b_is_within (p : Fns) : SD := (sSeq (sDrop (dCall p.check_counts (aCons (dVar 0) aNil)))
    (sSeq (sDrop (dCall p.check_counts (aCons (dVar 1) aNil)))
    (sRet (dCall p.nowhere_greater (aCons (dVar 0) (aCons (dVar 1) aNil))))))
def b__law_cup (p : Fns) : SD := (sRet (dLst (aCons (dIf (tVal (dOp oGe (dVar 0) (dOp oPow (dC (.int 10)) (dC (.int 18))))) (dOp oSub (dCall bInt (aCons (dVar 0) aNil)) (dOp oPow (dC (.int 10)) (dC (.int 18)))) (dC (.int 0))) (aCons (dOp oAdd (dOp oMod (dCall bInt (aCons (dVar 0) aNil)) (dC (.int 2147483629))) (dC (.int 3))) aNil))))
def b__law_sip (p : Fns) : SD := (sSeq (sIf (tVal (dOp oGt (dOp oIx (dVar 0) (dC (.int 0))) (dC (.int 0)))) (sSeq (sSet 2 (dOp oMod (dCall bInt (aCons (dOp oIx (dVar 0) (dC (.int 0))) aNil)) (dVar 1)))
    (sSeq (sPut (dVar 0) (dC (.int 0)) (dOp oDiv (dOp oIx (dVar 0) (dC (.int 0))) (dVar 1)))
    (sRet (dVar 2)))) sNext)
    (sSeq (sPut (dVar 0) (dC (.int 1)) (dOp oMod (dCall bInt (aCons (dOp oMulE (dOp oIx (dVar 0) (dC (.int 1))) (dC (.int 69621))) aNil)) (dC (.int 2147483647))))
    (sRet (dOp oMod (dOp oDiv (dOp oMod (dCall bInt (aCons (dOp oMulE (dOp oIx (dVar 0) (dC (.int 1))) (dOp oIx (dVar 0) (dC (.int 1)))) aNil)) (dC (.int 2147483629))) (dC (.int 32))) (dVar 1)))))
def b__law_same (p : Fns) : SD := (sSeq (sIf (tVal (dOp oIs (dVar 1) (dC .non))) (sRet (dOp oIs (dVar 0) (dC .non))) sNext)
    (sSeq (sIf (tVal (dOp oIs (dVar 1) (dC (.bl true)))) (sRet (dOp oIs (dVar 0) (dC (.bl true)))) sNext)
    (sSeq (sIf (tVal (dOp oIs (dVar 1) (dC (.bl false)))) (sRet (dOp oIs (dVar 0) (dC (.bl false)))) sNext)
    (sSeq (sIf (tVal (dCall bIsi (aCons (dVar 1) (aCons (dC (.ty "int")) aNil)))) (sRet (dAnd (dCall bIsi (aCons (dVar 0) (aCons (dC (.ty "int")) aNil))) (dAnd (dNot (dCall bIsi (aCons (dVar 0) (aCons (dC (.ty "bool")) aNil)))) (dOp oEq (dVar 0) (dVar 1))))) sNext)
    (sSeq (sIf (tVal (dCall bIsi (aCons (dVar 1) (aCons (dC (.ty "str")) aNil)))) (sRet (dAnd (dCall bIsi (aCons (dVar 0) (aCons (dC (.ty "str")) aNil))) (dOp oEq (dVar 0) (dVar 1)))) sNext)
    (sSeq (sIf (tOr' (tVal (dOp oNe (dCall bIsi (aCons (dVar 1) (aCons (dC (.ty "tuple")) aNil))) (dCall bIsi (aCons (dVar 0) (aCons (dC (.ty "tuple")) aNil))))) (tVal (dOp oNe (dCall bIsi (aCons (dVar 1) (aCons (dC (.ty "list")) aNil))) (dCall bIsi (aCons (dVar 0) (aCons (dC (.ty "list")) aNil)))))) (sRet (dC (.bl false))) sNext)
    (sSeq (sIf (tVal (dOp oNe (dCall bLen (aCons (dVar 0) aNil)) (dCall bLen (aCons (dVar 1) aNil)))) (sRet (dC (.bl false))) sNext)
    (sRet (dCall bAll (aCons (dLCR (aCons (dCall bLen (aCons (dVar 1) aNil)) aNil) (gN 2) tYes' (dCall p._law_same (aCons (dOp oIx (dVar 0) (dVar 2)) (aCons (dOp oIx (dVar 1) (dVar 2)) aNil))) [2]) aNil))))))))))
def b__law_counts (p : Fns) : SD := (sSeq (sSet 2 (dOp oAdd (dOp oIx (dLst (aCons (dOp oPow (dC (.int 10)) (dC (.int 20))) (aCons (dOp oMulE (dOp oPow (dC (.int 10)) (dC (.int 60))) (dOp oPow (dC (.int 10)) (dC (.int 28)))) aNil))) (dCall p._law_sip (aCons (dVar 0) (aCons (dC (.int 2)) aNil)))) (dCall p._law_sip (aCons (dVar 0) (aCons (dC (.int 9)) aNil)))))
    (sSeq (sSet 3 (dOp oIx (dLst (aCons (dCall p._law_sip (aCons (dVar 0) (aCons (dC (.int 3)) aNil))) (aCons (dCall p._law_sip (aCons (dVar 0) (aCons (dC (.int 3)) aNil))) (aCons (dCall p._law_sip (aCons (dVar 0) (aCons (dC (.int 40)) aNil))) (aCons (dVar 2) aNil))))) (dCall p._law_sip (aCons (dVar 0) (aCons (dC (.int 4)) aNil)))))
    (sSeq (sIf (tOr' (tVal (dOp oEq (dVar 1) (dC (.int 0)))) (tVal (dOp oEq (dCall p._law_sip (aCons (dVar 0) (aCons (dC (.int 3)) aNil))) (dC (.int 0))))) (sRet (dVar 3)) sNext)
    (sSeq (sPar 4 5 (aCons (dCall p._law_counts (aCons (dVar 0) (aCons (dOp oSub (dVar 1) (dC (.int 1))) aNil))) (aCons (dCall p._law_counts (aCons (dVar 0) (aCons (dOp oSub (dVar 1) (dC (.int 1))) aNil))) aNil)))
    (sSeq (sIf (tVal (dOp oEq (dCall p._law_sip (aCons (dVar 0) (aCons (dC (.int 2)) aNil))) (dC (.int 0)))) (sPar 4 5 (aCons (dVar 5) (aCons (dVar 4) aNil))) sNext)
    (sSeq (sIf (tVal (dCall bIsi (aCons (dVar 4) (aCons (dC (.ty "tuple")) aNil)))) (sSet 4 (dTup (aCons (dC (.int 0)) (aCons (dOp oIx (dVar 4) (dC (.int 1))) (aCons (dOp oIx (dVar 4) (dC (.int 2))) aNil))))) (sSet 4 (dC (.int 0))))
    (sSeq (sIf (tVal (dOp oEq (dVar 5) (dC (.int 0)))) (sSet 5 (dOp oAdd (dC (.int 1)) (dCall p._law_sip (aCons (dVar 0) (aCons (dC (.int 3)) aNil))))) sNext)
    (sSeq (sIf (tVal (dOp oEq (dCall p._law_sip (aCons (dVar 0) (aCons (dC (.int 2)) aNil))) (dC (.int 0)))) (sPar 4 5 (aCons (dVar 5) (aCons (dVar 4) aNil))) sNext)
    (sRet (dTup (aCons (dVar 3) (aCons (dVar 4) (aCons (dVar 5) aNil)))))))))))))
def b__law_long (p : Fns) : SD := (sSeq (sSet 2 (dIf (tNot' (tVal (dVar 1))) (dCall p._law_sip (aCons (dVar 0) (aCons (dC (.int 2)) aNil))) (dCall p._law_sip (aCons (dVar 0) (aCons (dC (.int 5)) aNil)))))
    (sSeq (sIf (tVal (dOp oGt (dCall p._law_sip (aCons (dVar 0) (aCons (dC (.int 3)) aNil))) (dC (.int 0)))) (sSeq (sForR (aCons (dOp oAdd (dC (.int 6)) (dCall p._law_sip (aCons (dVar 0) (aCons (dC (.int 7)) aNil)))) aNil) (gN 3)
    (sSeq (sSet 4 (dCall p._law_sip (aCons (dVar 0) (aCons (dC (.int 2)) aNil))))
    (sSeq (sIf (tAnd' (tNot' (tVal (dCall bIsi (aCons (dVar 2) (aCons (dC (.ty "tuple")) aNil))))) (tNot' (tVal (dVar 1)))) (sSet 4 (dOp oSub (dC (.int 1)) (dVar 2))) sNext)
    (sSeq (sIf (tVal (dVar 1)) (sAsg (gT [(gN 2), (gN 4)]) (dIf (tVal (dOp oNe (dVar 2) (dC (.int 0)))) (dTup (aCons (dVar 2) (aCons (dC (.int 0)) aNil))) (dTup (aCons (dC (.int 1)) (aCons (dC (.int 0)) aNil))))) sNext)
    (sSeq (sIf (tVal (dOp oEq (dCall p._law_sip (aCons (dVar 0) (aCons (dC (.int 2)) aNil))) (dC (.int 0)))) (sPar 2 4 (aCons (dVar 4) (aCons (dVar 2) aNil))) sNext)
    (sSet 2 (dIf (tVal (dVar 1)) (dTup (aCons (dCall p._law_sip (aCons (dVar 0) (aCons (dC (.int 3)) aNil))) (aCons (dVar 2) (aCons (dVar 4) aNil)))) (dTup (aCons (dVar 2) (aCons (dVar 4) aNil))))))))))
    (sRet (dVar 2))) sNext)
    (sSeq (sSet 5 (dIf (tNot' (tVal (dVar 1))) (dOp oIx (dLst (aCons (dC (.int 1)) (aCons (dTup (aCons (dC (.int 0)) (aCons (dC (.int 1)) aNil))) aNil))) (dCall bInt (aCons (dNot (dVar 1)) aNil))) (dTup (aCons (dC (.int 0)) (aCons (dC (.int 0)) (aCons (dC (.int 1)) aNil))))))
    (sSeq (sForR (aCons (dC (.int 5)) aNil) (gN 3)
    (sSet 5 (dIf (tVal (dVar 1)) (dTup (aCons (dC (.int 0)) (aCons (dVar 5) (aCons (dVar 5) aNil)))) (dTup (aCons (dVar 5) (aCons (dVar 5) aNil))))))
    (sRet (dVar 5))))))
def b__law_size (p : Fns) : SD := (sSeq (sIf (tNot' (tVal (dCall bIsi (aCons (dVar 0) (aCons (dC (.ty "tuple")) aNil))))) (sRet (dC (.int 0))) sNext)
    (sRet (dOp oAdd (dOp oAdd (dC (.int 1)) (dCall p._law_size (aCons (dOp oIx (dVar 0) (dUn oNeg (dC (.int 2)))) aNil))) (dCall p._law_size (aCons (dOp oIx (dVar 0) (dUn oNeg (dC (.int 1)))) aNil)))))
def b__law_least (p : Fns) : SD := (sSeq (sIf (tNot' (tVal (dCall bIsi (aCons (dVar 0) (aCons (dC (.ty "tuple")) aNil))))) (sRet (dVar 0)) sNext)
    (sRet (dOp oAdd (dOp oIx (dVar 0) (dC (.int 0))) (dCall bMin2 (aCons (dCall p._law_least (aCons (dOp oIx (dVar 0) (dC (.int 1))) aNil)) (aCons (dCall p._law_least (aCons (dOp oIx (dVar 0) (dC (.int 2))) aNil)) aNil))))))
def b__law_put (p : Fns) : SD := (sSeq (sIf (tAnd' (tNot' (tVal (dCall bIsi (aCons (dVar 0) (aCons (dC (.ty "tuple")) aNil))))) (tVal (dOp oEq (dVar 0) (dVar 1)))) (sRet (dVar 0)) sNext)
    (sSeq (sSet 2 (dCall bMin2 (aCons (dCall p._law_least (aCons (dVar 0) aNil)) (aCons (dCall p._law_least (aCons (dVar 1) aNil)) aNil))))
    (sRet (dTup (aCons (dVar 2) (aCons (dCall p._law_lower (aCons (dVar 0) (aCons (dVar 2) aNil))) (aCons (dCall p._law_lower (aCons (dVar 1) (aCons (dVar 2) aNil))) aNil)))))))
def b__law_lower (p : Fns) : SD := (sSeq (sIf (tVal (dCall bIsi (aCons (dVar 0) (aCons (dC (.ty "tuple")) aNil)))) (sRet (dTup (aCons (dOp oSub (dOp oIx (dVar 0) (dC (.int 0))) (dVar 1)) (aCons (dOp oIx (dVar 0) (dC (.int 1))) (aCons (dOp oIx (dVar 0) (dC (.int 2))) aNil))))) sNext)
    (sRet (dOp oSub (dVar 0) (dVar 1))))
def b__law_parts (p : Fns) : SD := (sSeq (sIf (tNot' (tVal (dCall bIsi (aCons (dVar 0) (aCons (dC (.ty "tuple")) aNil))))) (sRet (dTup (aCons (dVar 0) (aCons (dVar 0) aNil)))) sNext)
    (sRet (dTup (aCons (dCall p._law_lower (aCons (dOp oIx (dVar 0) (dC (.int 1))) (aCons (dUn oNeg (dOp oIx (dVar 0) (dC (.int 0)))) aNil))) (aCons (dCall p._law_lower (aCons (dOp oIx (dVar 0) (dC (.int 2))) (aCons (dUn oNeg (dOp oIx (dVar 0) (dC (.int 0)))) aNil))) aNil)))))
def b__law_join (p : Fns) : SD := (sSeq (sIf (tAnd' (tNot' (tVal (dCall bIsi (aCons (dVar 0) (aCons (dC (.ty "tuple")) aNil))))) (tNot' (tVal (dCall bIsi (aCons (dVar 1) (aCons (dC (.ty "tuple")) aNil)))))) (sRet (dCall bMax2 (aCons (dVar 0) (aCons (dVar 1) aNil)))) sNext)
    (sSeq (sAsg (gT [(gT [(gN 2), (gN 3)]), (gT [(gN 4), (gN 5)])]) (dTup (aCons (dCall p._law_parts (aCons (dVar 0) aNil)) (aCons (dCall p._law_parts (aCons (dVar 1) aNil)) aNil))))
    (sRet (dCall p._law_put (aCons (dCall p._law_join (aCons (dVar 2) (aCons (dVar 4) aNil))) (aCons (dCall p._law_join (aCons (dVar 3) (aCons (dVar 5) aNil))) aNil))))))
def b__law_worth (p : Fns) : SD := (sSeq (sIf (tNot' (tVal (dCall bIsi (aCons (dVar 0) (aCons (dC (.ty "tuple")) aNil))))) (sRet (dTup (aCons (dVar 0) (aCons (dVar 0) aNil)))) sNext)
    (sSeq (sIf (tVal (dOp oNe (dVar 1) (dTup aNil))) (sSeq (sAsg (gT [(gN 2), (gN 3)]) (dCall p._law_worth (aCons (dOp oIx (dVar 0) (dOp oAdd (dC (.int 1)) (dOp oIx (dVar 1) (dC (.int 0))))) (aCons (dSl (dVar 1) (oSome (dC (.int 1))) oNone) aNil))))
    (sRet (dTup (aCons (dOp oAdd (dOp oIx (dVar 0) (dC (.int 0))) (dVar 2)) (aCons (dOp oAdd (dOp oIx (dVar 0) (dC (.int 0))) (dVar 3)) aNil))))) sNext)
    (sSeq (sSet 4 (dOp oAdd (dCall p._law_worth (aCons (dOp oIx (dVar 0) (dC (.int 1))) (aCons (dTup aNil) aNil))) (dCall p._law_worth (aCons (dOp oIx (dVar 0) (dC (.int 2))) (aCons (dTup aNil) aNil)))))
    (sRet (dTup (aCons (dOp oAdd (dOp oIx (dVar 0) (dC (.int 0))) (dCall bMinT (aCons (dVar 4) aNil))) (aCons (dOp oAdd (dOp oIx (dVar 0) (dC (.int 0))) (dCall bMaxT (aCons (dVar 4) aNil))) aNil)))))))
def b__law_beyond (p : Fns) : SD := (sSeq (sForR (aCons (dC (.int 6)) aNil) (gN 2)
    (sSet 0 (dOp oAdd (dSl (dVar 0) oNone (oSome (dUn oNeg (dC (.int 2))))) (dTup (aCons (dVar 0) (aCons (dVar 0) aNil))))))
    (sSeq (sForR (aCons (dC (.int 12)) aNil) (gN 2)
    (sSet 1 (dOp oAdd (dSl (dVar 1) oNone (oSome (dUn oNeg (dC (.int 2))))) (dTup (aCons (dC (.int 0)) (aCons (dVar 1) aNil))))))
    (sRet (dLst (aCons (dVar 0) (aCons (dVar 1) aNil))))))
def st__law_bad_counts_0 (p : Fns) : SD := (sSet 2 (dLst (aCons (dC .non) (aCons (dUn oNeg (dC (.int 1))) (aCons (dC (.bl true)) (aCons (dC (.bl false)) (aCons (dC (.str "0")) (aCons (dTup (aCons (dC (.int 0)) (aCons (dC (.int 1)) aNil))) (aCons (dTup (aCons (dC (.int 0)) (aCons (dC (.int 1)) (aCons (dC (.int 1)) aNil)))) (aCons (dTup (aCons (dC (.int 0)) (aCons (dC (.int 2)) (aCons (dC (.int 3)) aNil)))) (aCons (dTup (aCons (dC (.int 1)) (aCons (dTup (aCons (dC (.int 1)) (aCons (dC (.int 0)) (aCons (dC (.int 1)) aNil)))) (aCons (dC (.int 2)) aNil)))) (aCons (dTup (aCons (dC (.int 0)) (aCons (dC (.int 0)) (aCons (dC (.int 0)) aNil)))) (aCons (dLst (aCons (dC (.int 0)) (aCons (dC (.int 0)) (aCons (dC (.int 1)) aNil)))) (aCons (dTup (aCons (dC (.bl true)) (aCons (dC (.int 0)) (aCons (dC (.int 1)) aNil)))) aNil))))))))))))))
def st__law_bad_counts_1 (p : Fns) : SD := (sSet 2 (dOp oAdd (dVar 2) (dLst (aCons (dTup (aCons (dC (.int 0)) (aCons (dC (.int 0)) (aCons (dC (.bl true)) aNil)))) (aCons (dTup (aCons (dUn oNeg (dC (.int 1))) (aCons (dC (.int 0)) (aCons (dC (.int 1)) aNil)))) (aCons (dTup (aCons (dC (.int 0)) (aCons (dC (.int 0)) (aCons (dUn oNeg (dC (.int 1))) aNil)))) (aCons (dTup (aCons (dC (.int 0)) (aCons (dVar 1) (aCons (dC .non) aNil)))) (aCons (dTup (aCons (dC .non) (aCons (dVar 1) (aCons (dC (.int 0)) aNil)))) (aCons (dTup (aCons (dVar 1) aNil)) (aCons (dLst (aCons (dVar 1) aNil)) (aCons (dTup aNil) aNil)))))))))))
def st__law_bad_counts_2 (p : Fns) : SD := (sSet 2 (dOp oAdd (dVar 2) (dLst (aCons (dTup (aCons (dC (.int 0)) (aCons (dC (.int 0)) (aCons (dTup (aCons (dC (.int 0)) (aCons (dC (.int 1)) (aCons (dC (.int 1)) aNil)))) aNil)))) (aCons (dTup (aCons (dC (.str "0")) (aCons (dC (.int 0)) (aCons (dC (.int 1)) aNil)))) (aCons (dUn oNeg (dOp oPow (dC (.int 10)) (dC (.int 30)))) (aCons (dTup (aCons (dTup (aCons (dC (.int 0)) (aCons (dC (.int 0)) (aCons (dC (.int 1)) aNil)))) (aCons (dC (.int 0)) (aCons (dC (.int 1)) aNil)))) (aCons (dTup (aCons (dC (.int 0)) (aCons (dC (.int 0)) (aCons (dLst (aCons (dC (.int 0)) (aCons (dC (.int 0)) (aCons (dC (.int 1)) aNil)))) aNil)))) aNil))))))))
def st__law_bad_counts_3 (p : Fns) : SD := (sRet (dOp oIx (dOp oAdd (dVar 2) (dCall p._law_beyond (aCons (dTup (aCons (dC (.int 0)) (aCons (dC (.int 0)) (aCons (dC (.int 1)) aNil)))) (aCons (dTup (aCons (dC (.int 0)) (aCons (dC (.int 0)) (aCons (dC (.int 1)) aNil)))) aNil)))) (dCall p._law_sip (aCons (dVar 0) (aCons (dC (.int 27)) aNil)))))
def b__law_bad_counts (p : Fns) : SD := (sSeq (st__law_bad_counts_0 p)
    (sSeq (st__law_bad_counts_1 p)
    (sSeq (st__law_bad_counts_2 p)
    (st__law_bad_counts_3 p))))
def b__law_bad_path (p : Fns) : SD := (sSeq (sSet 1 (dLst (aCons (dC (.int 0)) (aCons (dC .non) (aCons (dC (.str "0")) (aCons (dLst (aCons (dC (.int 0)) aNil)) (aCons (dTup (aCons (dC (.int 2)) aNil)) (aCons (dTup (aCons (dC (.bl true)) aNil)) (aCons (dTup (aCons (dUn oNeg (dC (.int 1))) aNil)) (aCons (dTup (aCons (dC (.int 0)) (aCons (dC .non) aNil))) (aCons (dTup (aCons (dC (.str "0")) aNil)) (aCons (dOp oRepT (dTup (aCons (dC (.int 0)) aNil)) (dC (.int 13))) (aCons (dTup (aCons (dC (.int 0)) (aCons (dC (.int 1)) (aCons (dLst (aCons (dC (.int 0)) aNil)) aNil)))) (aCons (dTup (aCons (dTup (aCons (dC (.int 0)) aNil)) aNil)) (aCons (dTup (aCons (dC (.bl false)) (aCons (dC (.int 1)) aNil))) (aCons (dOp oPow (dC (.int 10)) (dC (.int 30))) aNil))))))))))))))))
    (sRet (dOp oIx (dVar 1) (dCall p._law_sip (aCons (dVar 0) (aCons (dC (.int 14)) aNil))))))
def b__law_path (p : Fns) : SD := (sRet (dCall bTuple (aCons (dLCR (aCons (dOp oIx (dLst (aCons (dCall p._law_sip (aCons (dVar 0) (aCons (dC (.int 5)) aNil))) (aCons (dCall p._law_sip (aCons (dVar 0) (aCons (dC (.int 13)) aNil))) aNil))) (dCall p._law_sip (aCons (dVar 0) (aCons (dC (.int 2)) aNil)))) aNil) (gN 1) tYes' (dCall p._law_sip (aCons (dVar 0) (aCons (dC (.int 2)) aNil))) [1]) aNil)))
def b__law_said (p : Fns) : SD := (sSeq (sSet 3 (dC (.str "other")))
    (sSeq (sTryE 4 mt (sIf (tVal (dOp oEq (dVar 0) (dC (.int 0)))) (sSet 3 (dCallK [1, 0] 2 p.joined (aCons (dVar 2) (aCons (dVar 1) aNil)))) (sIf (tVal (dOp oEq (dVar 0) (dC (.int 1)))) (sSet 3 (dCallK [1, 0] 2 p.is_within (aCons (dVar 2) (aCons (dVar 1) aNil)))) (sSet 3 (dCallK [1, 0] 2 p.worth_at (aCons (dVar 2) (aCons (dVar 1) aNil))))))
    [(1, none, fun _ => (sSet 3 (dC (.str "counts")))), (2, none, fun _ => (sSet 3 (dC (.str "path")))), (3, some 4, sErLst 3 [.inl (.str "many"), .inr "count"]), (0, none, fun _ => (sSet 3 (dC (.str "other"))))])
    (sRet (dVar 3))))
def st__law_pair_right_0 (p : Fns) : SD := (sSet 3 (dCall p._law_join (aCons (dVar 1) (aCons (dVar 2) aNil))))
def st__law_pair_right_1 (p : Fns) : SD := (sSet 4 (dIf (tVal (dOp oGt (dCall p._law_size (aCons (dVar 3) aNil)) (dC (.int 63)))) (dLst (aCons (dC (.str "many")) (aCons (dC (.int 63)) aNil))) (dVar 3)))
def st__law_pair_right_2 (p : Fns) : SD := (sIf (tNot' (tVal (dCall p._law_same (aCons (dLst (aCons (dCall p._law_said (aCons (dC (.int 0)) (aCons (dVar 1) (aCons (dVar 2) aNil)))) (aCons (dCall p._law_said (aCons (dC (.int 0)) (aCons (dVar 2) (aCons (dVar 1) aNil)))) aNil))) (aCons (dLst (aCons (dVar 4) (aCons (dVar 4) aNil))) aNil))))) (sRet (dC (.bl false))) sNext)
def st__law_pair_right_3 (p : Fns) : SD := (sIf (tAnd' (tVal (dCall bIsi (aCons (dVar 4) (aCons (dC (.ty "tuple")) aNil)))) (tNot' (tVal (dCall p._law_same (aCons (dCall p.joined (aCons (dVar 1) (aCons (dVar 2) aNil))) (aCons (dVar 3) aNil)))))) (sRet (dC (.bl false))) sNext)
def st__law_pair_right_4 (p : Fns) : SD := (sIf (tNot' (tVal (dCall p._law_same (aCons (dLst (aCons (dCall p.is_within (aCons (dVar 1) (aCons (dVar 2) aNil))) (aCons (dCall p._law_said (aCons (dC (.int 1)) (aCons (dVar 1) (aCons (dVar 2) aNil)))) aNil))) (aCons (dLst (aCons (dOp oEq (dVar 3) (dVar 2)) (aCons (dOp oEq (dVar 3) (dVar 2)) aNil))) aNil))))) (sRet (dC (.bl false))) sNext)
def st__law_pair_right_5 (p : Fns) : SD := (sAsg (gT [(gN 6), (gN 7)]) (dCall p._law_worth (aCons (dVar 1) (aCons (dVar 5) aNil))))
def st__law_pair_right_6 (p : Fns) : SD := (sIf (tNot' (tVal (dCall p._law_same (aCons (dLst (aCons (dCall p.worth_at (aCons (dVar 1) (aCons (dVar 5) aNil))) (aCons (dCall p._law_said (aCons (dC (.int 2)) (aCons (dVar 1) (aCons (dVar 5) aNil)))) aNil))) (aCons (dLst (aCons (dTup (aCons (dVar 6) (aCons (dVar 7) aNil))) (aCons (dTup (aCons (dVar 6) (aCons (dVar 7) aNil))) aNil))) aNil))))) (sRet (dC (.bl false))) sNext)
def st__law_pair_right_7 (p : Fns) : SD := (sSet 8 (dLst (aCons (dCall p._law_worth (aCons (dVar 2) (aCons (dVar 5) aNil))) (aCons (dCall p._law_worth (aCons (dVar 3) (aCons (dVar 5) aNil))) aNil))))
def st__law_pair_right_8 (p : Fns) : SD := (sIf (tOr' (tVal (dOp oNe (dOp oIx (dOp oIx (dVar 8) (dC (.int 1))) (dC (.int 1))) (dCall bMax2 (aCons (dVar 7) (aCons (dOp oIx (dOp oIx (dVar 8) (dC (.int 0))) (dC (.int 1))) aNil))))) (tVal (dOp oLt (dOp oIx (dOp oIx (dVar 8) (dC (.int 1))) (dC (.int 0))) (dCall bMax2 (aCons (dVar 6) (aCons (dOp oIx (dOp oIx (dVar 8) (dC (.int 0))) (dC (.int 0))) aNil)))))) (sRet (dC (.bl false))) sNext)
def st__law_pair_right_9 (p : Fns) : SD := (sForC (dLst (aCons (dCall p._law_path (aCons (dVar 0) aNil)) (aCons (dTup aNil) aNil))) (gN 5)
    (sSeq (st__law_pair_right_5 p)
    (sSeq (st__law_pair_right_6 p)
    (sSeq (st__law_pair_right_7 p)
    (st__law_pair_right_8 p)))))
def st__law_pair_right_10 (p : Fns) : SD := (sRet (dC (.bl true)))
def b__law_pair_right (p : Fns) : SD := (sSeq (st__law_pair_right_0 p)
    (sSeq (st__law_pair_right_1 p)
    (sSeq (st__law_pair_right_2 p)
    (sSeq (st__law_pair_right_3 p)
    (sSeq (st__law_pair_right_4 p)
    (sSeq (st__law_pair_right_9 p)
    (st__law_pair_right_10 p)))))))
def st_law_0 (p : Fns) : SD := (sSet 2 (dCall p._law_cup (aCons (dVar 1) aNil)))
def st_law_1 (p : Fns) : SD := (sSet 3 (dLst (aCons (dCall p._law_counts (aCons (dVar 2) (aCons (dC (.int 3)) aNil))) (aCons (dCall p._law_counts (aCons (dVar 2) (aCons (dC (.int 4)) aNil))) (aCons (dOp oIx (dLst (aCons (dCall p._law_long (aCons (dVar 2) (aCons (dC (.bl true)) aNil))) (aCons (dCall p._law_counts (aCons (dVar 2) (aCons (dC (.int 5)) aNil))) aNil))) (dCall p._law_sip (aCons (dVar 2) (aCons (dC (.int 2)) aNil)))) aNil)))))
def st_law_2 (p : Fns) : SD := (sSet 4 (dCall p._law_join (aCons (dOp oIx (dVar 3) (dC (.int 0))) (aCons (dOp oIx (dVar 3) (dC (.int 1))) aNil))))
def st_law_3 (p : Fns) : SD := (sSet 3 (dOp oAdd (dOp oAdd (dVar 3) (dLst (aCons (dC (.int 0)) (aCons (dCall p._law_sip (aCons (dVar 2) (aCons (dC (.int 5)) aNil))) aNil)))) (dOp oRepL (dLst (aCons (dVar 4) aNil)) (dCall bInt (aCons (dOp oLt (dCall p._law_size (aCons (dVar 4) aNil)) (dC (.int 64))) aNil)))))
def st_law_4 (p : Fns) : SD := (sSet 5 (dCall bRepr (aCons (dVar 3) aNil)))
def st_law_5 (p : Fns) : SD := (sForC (dVar 3) (gN 6)
    (sForC (dLst (aCons (dOp oIx (dVar 3) (dCall p._law_sip (aCons (dVar 2) (aCons (dCall bLen (aCons (dVar 3) aNil)) aNil)))) (aCons (dVar 6) (aCons (dOp oIx (dVar 3) (dC (.int 0))) (aCons (dOp oIx (dVar 3) (dUn oNeg (dC (.int 1)))) aNil))))) (gN 7)
    (sIf (tNot' (tVal (dCall p._law_pair_right (aCons (dVar 2) (aCons (dVar 6) (aCons (dVar 7) aNil)))))) (sRet (dC (.bl false))) sNext)))
def st_law_6 (p : Fns) : SD := (sAsg (gT [(gN 8), (gN 9)]) (dTup (aCons (dTup (aCons (dC (.int 0)) (aCons (dC (.int 0)) (aCons (dC (.int 1)) aNil)))) (aCons (dTup (aCons (dC (.int 0)) (aCons (dC (.int 0)) (aCons (dTup (aCons (dC (.int 0)) (aCons (dC (.int 0)) (aCons (dC (.int 1)) aNil)))) aNil)))) aNil))))
def st_law_7 (p : Fns) : SD := (sForR (aCons (dC (.int 4)) aNil) (gN 10)
    (sPar 8 9 (aCons (dTup (aCons (dC (.int 0)) (aCons (dVar 8) (aCons (dVar 8) aNil)))) (aCons (dTup (aCons (dC (.int 0)) (aCons (dVar 8) (aCons (dVar 9) aNil)))) aNil))))
def st_law_8 (p : Fns) : SD := (sForC (dLst (aCons (dTup (aCons (dC (.int 0)) (aCons (dC (.int 0)) (aCons (dVar 8) aNil)))) (aCons (dTup (aCons (dC (.int 0)) (aCons (dC (.int 0)) (aCons (dVar 9) aNil)))) aNil))) (gN 11)
    (sIf (tNot' (tVal (dCall p._law_pair_right (aCons (dVar 2) (aCons (dTup (aCons (dC (.int 0)) (aCons (dVar 8) (aCons (dC (.int 0)) aNil)))) (aCons (dVar 11) aNil)))))) (sRet (dC (.bl false))) sNext))
def st_law_9 (p : Fns) : SD := (sSet 12 (dCall p._law_join (aCons (dVar 4) (aCons (dOp oIx (dVar 3) (dC (.int 2))) aNil))))
def st_law_10 (p : Fns) : SD := (sIf (tAnd' (tVal (dOp oLt (dCall p._law_size (aCons (dVar 12) aNil)) (dC (.int 64)))) (tVal (dOp oLt (dCall p._law_size (aCons (dVar 4) aNil)) (dC (.int 64))))) (sIf (tOr' (tNot' (tVal (dCall p._law_same (aCons (dCall p.joined (aCons (dOp oIx (dVar 3) (dC (.int 2))) (aCons (dVar 4) aNil))) (aCons (dVar 12) aNil))))) (tNot' (tVal (dCall p._law_same (aCons (dCall p.is_within (aCons (dVar 4) (aCons (dVar 12) aNil))) (aCons (dC (.bl true)) aNil)))))) (sRet (dC (.bl false))) sNext) sNext)
def st_law_11 (p : Fns) : SD := (sAsg (gT [(gN 13), (gN 14)]) (dTup (aCons (dCall p._law_bad_counts (aCons (dVar 2) (aCons (dOp oIx (dVar 3) (dC (.int 0))) aNil))) (aCons (dCall p._law_bad_path (aCons (dVar 2) aNil)) aNil))))
def st_law_12 (p : Fns) : SD := (sSet 15 (dLst aNil))
def st_law_13 (p : Fns) : SD := (sForC (dLst (aCons (dOp oIx (dVar 3) (dC (.int 1))) (aCons (dVar 13) (aCons (dVar 14) aNil)))) (gN 11)
    (sSet 15 (dOp oAdd (dVar 15) (dLCR (aCons (dC (.int 3)) aNil) (gN 16) tYes' (dCall p._law_said (aCons (dVar 16) (aCons (dVar 13) (aCons (dVar 11) aNil)))) [16]))))
def st_law_14 (p : Fns) : SD := (sIf (tOr' (tVal (dOp oNe (dVar 15) (dOp oRepL (dLst (aCons (dC (.str "counts")) aNil)) (dC (.int 9))))) (tVal (dOp oNe (dLst (aCons (dCall p._law_said (aCons (dC (.int 0)) (aCons (dOp oIx (dVar 3) (dC (.int 0))) (aCons (dVar 13) aNil)))) (aCons (dCall p._law_said (aCons (dC (.int 1)) (aCons (dOp oIx (dVar 3) (dC (.int 0))) (aCons (dVar 13) aNil)))) aNil))) (dOp oRepL (dLst (aCons (dC (.str "counts")) aNil)) (dC (.int 2)))))) (sRet (dC (.bl false))) sNext)
def st_law_15 (p : Fns) : SD := (sIf (tOr' (tVal (dOp oNe (dCall p._law_said (aCons (dC (.int 2)) (aCons (dOp oIx (dVar 3) (dC (.int 0))) (aCons (dVar 14) aNil)))) (dC (.str "path")))) (tVal (dOp oNe (dCall bRepr (aCons (dVar 3) aNil)) (dVar 5)))) (sRet (dC (.bl false))) sNext)
def b_law (p : Fns) : SD := (sSeq (sForC (dOp oAdd (dLst (aCons (dC (.int 58047161526324974920000000000000000000000498765432603765432105)) aNil)) (dSl (dVar 0) oNone (oSome (dC (.int 5))))) (gN 1)
    (sSeq (st_law_0 p)
    (sSeq (st_law_1 p)
    (sSeq (st_law_2 p)
    (sSeq (st_law_3 p)
    (sSeq (st_law_4 p)
    (sSeq (st_law_5 p)
    (sSeq (st_law_6 p)
    (sSeq (st_law_7 p)
    (sSeq (st_law_8 p)
    (sSeq (st_law_9 p)
    (sSeq (st_law_10 p)
    (sSeq (st_law_11 p)
    (sSeq (st_law_12 p)
    (sSeq (st_law_13 p)
    (sSeq (st_law_14 p)
    (st_law_15 p)))))))))))))))))
    (sRet (dC (.bl true))))
def fns : Nat → Fns
  | 0 => ⟨stuckF, stuckF, stuckF, stuckF, stuckF, stuckF, stuckF, stuckF, stuckF, stuckF, stuckF, stuckF, stuckF, stuckF, stuckF, stuckF, stuckF, stuckF, stuckF, stuckF, stuckF, stuckF, stuckF, stuckF, stuckF, stuckF, stuckF, stuckF, stuckF, stuckF, stuckF, stuckF, stuckF, stuckF, stuckF, stuckF, 0⟩
  | n + 1 => ⟨fnOf 1 2 (b_tuple_count (fns n)), fnOf 1 1 (b_bounded (fns n)), fnOf 1 2 (b_is_path (fns n)), fnOf 1 1 (b_check_path (fns n)), fnOf 1 1 (b_least (fns n)), fnOf 1 1 (b_greatest (fns n)), fnOf 2 2 (b_lifted (fns n)), fnOf 1 1 (b_halves (fns n)), fnOf 2 3 (b_whole (fns n)), fnOf 2 6 (b_greater_of (fns n)), fnOf 2 6 (b_nowhere_greater (fns n)), fnOf 1 1 (b_is_counts (fns n)), fnOf 2 5 (b__is_counts_tree (fns n)), fnOf 1 1 (b_check_counts (fns n)), fnOf 2 4 (b_worth_at (fns n)), fnOf 2 2 (b_joined (fns n)), fnOf 2 2 (b_is_within (fns n)), fnOf 1 1 (b__law_cup (fns n)), fnOf 2 3 (b__law_sip (fns n)), fnOf 2 3 (b__law_same (fns n)), fnOf 2 6 (b__law_counts (fns n)), fnOf 2 6 (b__law_long (fns n)), fnOf 1 1 (b__law_size (fns n)), fnOf 1 1 (b__law_least (fns n)), fnOf 2 3 (b__law_put (fns n)), fnOf 2 2 (b__law_lower (fns n)), fnOf 1 1 (b__law_parts (fns n)), fnOf 2 6 (b__law_join (fns n)), fnOf 2 5 (b__law_worth (fns n)), fnOf 2 3 (b__law_beyond (fns n)), fnOf 2 3 (b__law_bad_counts (fns n)), fnOf 1 2 (b__law_bad_path (fns n)), fnOf 1 2 (b__law_path (fns n)), fnOf 3 5 (b__law_said (fns n)), fnOf 3 9 (b__law_pair_right (fns n)), fnOf 1 17 (b_law (fns n)), n + 1⟩
theorem fns_lv : ∀ n, (fns n).lv = n
  | 0 => rfl
  | n + 1 => rfl
theorem sc_tuple_count : FnScope ["tree", "part"] ["tree"] (defScope s_tuple_count) := ⟨rfl, rfl, rfl, by decide +kernel, rfl, by decide +kernel, by decide +kernel⟩
theorem sc_bounded : FnScope ["tree"] ["tree"] (defScope s_bounded) := ⟨rfl, rfl, rfl, by decide +kernel, rfl, by decide +kernel, by decide +kernel⟩
theorem sc_is_path : FnScope ["value", "half"] ["value"] (defScope s_is_path) := ⟨rfl, rfl, rfl, by decide +kernel, rfl, by decide +kernel, by decide +kernel⟩
theorem sc_check_path : FnScope ["value"] ["value"] (defScope s_check_path) := ⟨rfl, rfl, rfl, by decide +kernel, rfl, by decide +kernel, by decide +kernel⟩
theorem sc_least : FnScope ["counts"] ["counts"] (defScope s_least) := ⟨rfl, rfl, rfl, by decide +kernel, rfl, by decide +kernel, by decide +kernel⟩
theorem sc_greatest : FnScope ["counts"] ["counts"] (defScope s_greatest) := ⟨rfl, rfl, rfl, by decide +kernel, rfl, by decide +kernel, by decide +kernel⟩
theorem sc_lifted : FnScope ["counts", "number"] ["counts", "number"] (defScope s_lifted) := ⟨rfl, rfl, rfl, by decide +kernel, rfl, by decide +kernel, by decide +kernel⟩
theorem sc_halves : FnScope ["counts"] ["counts"] (defScope s_halves) := ⟨rfl, rfl, rfl, by decide +kernel, rfl, by decide +kernel, by decide +kernel⟩
theorem sc_whole : FnScope ["left", "right", "base"] ["left", "right"] (defScope s_whole) := ⟨rfl, rfl, rfl, by decide +kernel, rfl, by decide +kernel, by decide +kernel⟩
theorem sc_greater_of : FnScope ["counts", "other_counts", "left", "right", "other_left", "other_right"] ["counts", "other_counts"] (defScope s_greater_of) := ⟨rfl, rfl, rfl, by decide +kernel, rfl, by decide +kernel, by decide +kernel⟩
theorem sc_nowhere_greater : FnScope ["counts", "other_counts", "left", "right", "other_left", "other_right"] ["counts", "other_counts"] (defScope s_nowhere_greater) := ⟨rfl, rfl, rfl, by decide +kernel, rfl, by decide +kernel, by decide +kernel⟩
theorem sc_is_counts : FnScope ["value"] ["value"] (defScope s_is_counts) := ⟨rfl, rfl, rfl, by decide +kernel, rfl, by decide +kernel, by decide +kernel⟩
theorem sc__is_counts_tree : FnScope ["value", "deepest", "base", "left", "right"] ["value", "deepest"] (defScope s__is_counts_tree) := ⟨rfl, rfl, rfl, by decide +kernel, rfl, by decide +kernel, by decide +kernel⟩
theorem sc_check_counts : FnScope ["value"] ["value"] (defScope s_check_counts) := ⟨rfl, rfl, rfl, by decide +kernel, rfl, by decide +kernel, by decide +kernel⟩
theorem sc_worth_at : FnScope ["counts", "path", "part", "half"] ["counts", "path"] (defScope s_worth_at) := ⟨rfl, rfl, rfl, by decide +kernel, rfl, by decide +kernel, by decide +kernel⟩
theorem sc_joined : FnScope ["counts", "other_counts"] ["counts", "other_counts"] (defScope s_joined) := ⟨rfl, rfl, rfl, by decide +kernel, rfl, by decide +kernel, by decide +kernel⟩
theorem sc_is_within : FnScope ["counts", "other_counts"] ["counts", "other_counts"] (defScope s_is_within) := ⟨rfl, rfl, rfl, by decide +kernel, rfl, by decide +kernel, by decide +kernel⟩
theorem sc__law_cup : FnScope ["cell"] ["cell"] (defScope s__law_cup) := ⟨rfl, rfl, rfl, by decide +kernel, rfl, by decide +kernel, by decide +kernel⟩
theorem sc__law_sip : FnScope ["cup", "many", "drop"] ["cup", "many"] (defScope s__law_sip) := ⟨rfl, rfl, rfl, by decide +kernel, rfl, by decide +kernel, by decide +kernel⟩
theorem sc__law_same : FnScope ["found", "due", "k"] ["found", "due"] (defScope s__law_same) := ⟨rfl, rfl, rfl, by decide +kernel, rfl, by decide +kernel, by decide +kernel⟩
theorem sc__law_counts : FnScope ["cup", "deep", "great", "number", "left", "right"] ["cup", "deep"] (defScope s__law_counts) := ⟨rfl, rfl, rfl, by decide +kernel, rfl, by decide +kernel, by decide +kernel⟩
theorem sc__law_long : FnScope ["cup", "counts", "found", "turn", "other", "level"] ["cup", "counts"] (defScope s__law_long) := ⟨rfl, rfl, rfl, by decide +kernel, rfl, by decide +kernel, by decide +kernel⟩
theorem sc__law_size : FnScope ["tree"] ["tree"] (defScope s__law_size) := ⟨rfl, rfl, rfl, by decide +kernel, rfl, by decide +kernel, by decide +kernel⟩
theorem sc__law_least : FnScope ["counts"] ["counts"] (defScope s__law_least) := ⟨rfl, rfl, rfl, by decide +kernel, rfl, by decide +kernel, by decide +kernel⟩
theorem sc__law_put : FnScope ["left", "right", "least_v"] ["left", "right"] (defScope s__law_put) := ⟨rfl, rfl, rfl, by decide +kernel, rfl, by decide +kernel, by decide +kernel⟩
theorem sc__law_lower : FnScope ["counts", "number"] ["counts", "number"] (defScope s__law_lower) := ⟨rfl, rfl, rfl, by decide +kernel, rfl, by decide +kernel, by decide +kernel⟩
theorem sc__law_parts : FnScope ["counts"] ["counts"] (defScope s__law_parts) := ⟨rfl, rfl, rfl, by decide +kernel, rfl, by decide +kernel, by decide +kernel⟩
theorem sc__law_join : FnScope ["one", "two", "left", "right", "other_left", "other_right"] ["one", "two"] (defScope s__law_join) := ⟨rfl, rfl, rfl, by decide +kernel, rfl, by decide +kernel, by decide +kernel⟩
theorem sc__law_worth : FnScope ["counts", "path", "low", "high", "some"] ["counts", "path"] (defScope s__law_worth) := ⟨rfl, rfl, rfl, by decide +kernel, rfl, by decide +kernel, by decide +kernel⟩
theorem sc__law_beyond : FnScope ["full", "deep", "turn"] ["full", "deep"] (defScope s__law_beyond) := ⟨rfl, rfl, rfl, by decide +kernel, rfl, by decide +kernel, by decide +kernel⟩
theorem sc__law_bad_counts : FnScope ["cup", "counts", "odd"] ["cup", "counts"] (defScope s__law_bad_counts) := ⟨rfl, rfl, rfl, by decide +kernel, rfl, by decide +kernel, by decide +kernel⟩
theorem sc__law_bad_path : FnScope ["cup", "odd"] ["cup"] (defScope s__law_bad_path) := ⟨rfl, rfl, rfl, by decide +kernel, rfl, by decide +kernel, by decide +kernel⟩
theorem sc__law_path : FnScope ["cup", "turn"] ["cup"] (defScope s__law_path) := ⟨rfl, rfl, rfl, by decide +kernel, rfl, by decide +kernel, by decide +kernel⟩
theorem sc__law_said : FnScope ["door", "counts", "other", "found", "e"] ["door", "counts", "other"] (defScope s__law_said) := ⟨rfl, rfl, rfl, by decide +kernel, rfl, by decide +kernel, by decide +kernel⟩
theorem sc__law_pair_right : FnScope ["cup", "one", "two", "both", "due", "path", "low", "high", "some"] ["cup", "one", "two"] (defScope s__law_pair_right) := ⟨rfl, rfl, rfl, by decide +kernel, rfl, by decide +kernel, by decide +kernel⟩
theorem sc_law : FnScope ["script", "cell", "cup", "some", "both", "kept", "one", "two", "full", "more", "turn", "other", "three", "bad", "path", "found", "door"] ["script"] (defScope s_law) := ⟨rfl, rfl, rfl, by decide +kernel, rfl, by decide +kernel, by decide +kernel⟩
theorem sc_TooMany_init : FnScope ["self", "count"] ["self", "count"] (defScope s_TooMany_init) := ⟨rfl, rfl, rfl, by decide +kernel, rfl, by decide +kernel, by decide +kernel⟩
/-- what the top has left -/
structure Txt (K : PySem.W.Frag) (mg : Str → Option Value) where
  a_tuple_count : Addr
  d_tuple_count : FuncData
  F_tuple_count : Fun K "tuple_count" "tuple_count" s_tuple_count a_tuple_count d_tuple_count
  m_tuple_count : mg "tuple_count" = some (.ref a_tuple_count)
  b_tuple_count : Binds K d_tuple_count ["tree"] []
  a_bounded : Addr
  d_bounded : FuncData
  F_bounded : Fun K "bounded" "bounded" s_bounded a_bounded d_bounded
  m_bounded : mg "bounded" = some (.ref a_bounded)
  b_bounded : Binds K d_bounded ["tree"] []
  a_is_path : Addr
  d_is_path : FuncData
  F_is_path : Fun K "is_path" "is_path" s_is_path a_is_path d_is_path
  m_is_path : mg "is_path" = some (.ref a_is_path)
  b_is_path : Binds K d_is_path ["value"] []
  a_check_path : Addr
  d_check_path : FuncData
  F_check_path : Fun K "check_path" "check_path" s_check_path a_check_path d_check_path
  m_check_path : mg "check_path" = some (.ref a_check_path)
  b_check_path : Binds K d_check_path ["value"] []
  a_least : Addr
  d_least : FuncData
  F_least : Fun K "least" "least" s_least a_least d_least
  m_least : mg "least" = some (.ref a_least)
  b_least : Binds K d_least ["counts"] []
  a_greatest : Addr
  d_greatest : FuncData
  F_greatest : Fun K "greatest" "greatest" s_greatest a_greatest d_greatest
  m_greatest : mg "greatest" = some (.ref a_greatest)
  b_greatest : Binds K d_greatest ["counts"] []
  a_lifted : Addr
  d_lifted : FuncData
  F_lifted : Fun K "lifted" "lifted" s_lifted a_lifted d_lifted
  m_lifted : mg "lifted" = some (.ref a_lifted)
  b_lifted : Binds K d_lifted ["counts", "number"] []
  a_halves : Addr
  d_halves : FuncData
  F_halves : Fun K "halves" "halves" s_halves a_halves d_halves
  m_halves : mg "halves" = some (.ref a_halves)
  b_halves : Binds K d_halves ["counts"] []
  a_whole : Addr
  d_whole : FuncData
  F_whole : Fun K "whole" "whole" s_whole a_whole d_whole
  m_whole : mg "whole" = some (.ref a_whole)
  b_whole : Binds K d_whole ["left", "right"] []
  a_greater_of : Addr
  d_greater_of : FuncData
  F_greater_of : Fun K "greater_of" "greater_of" s_greater_of a_greater_of d_greater_of
  m_greater_of : mg "greater_of" = some (.ref a_greater_of)
  b_greater_of : Binds K d_greater_of ["counts", "other_counts"] []
  a_nowhere_greater : Addr
  d_nowhere_greater : FuncData
  F_nowhere_greater : Fun K "nowhere_greater" "nowhere_greater" s_nowhere_greater a_nowhere_greater d_nowhere_greater
  m_nowhere_greater : mg "nowhere_greater" = some (.ref a_nowhere_greater)
  b_nowhere_greater : Binds K d_nowhere_greater ["counts", "other_counts"] []
  a_is_counts : Addr
  d_is_counts : FuncData
  F_is_counts : Fun K "is_counts" "is_counts" s_is_counts a_is_counts d_is_counts
  m_is_counts : mg "is_counts" = some (.ref a_is_counts)
  b_is_counts : Binds K d_is_counts ["value"] []
  a__is_counts_tree : Addr
  d__is_counts_tree : FuncData
  F__is_counts_tree : Fun K "_is_counts_tree" "_is_counts_tree" s__is_counts_tree a__is_counts_tree d__is_counts_tree
  m__is_counts_tree : mg "_is_counts_tree" = some (.ref a__is_counts_tree)
  b__is_counts_tree : Binds K d__is_counts_tree ["value", "deepest"] []
  a_check_counts : Addr
  d_check_counts : FuncData
  F_check_counts : Fun K "check_counts" "check_counts" s_check_counts a_check_counts d_check_counts
  m_check_counts : mg "check_counts" = some (.ref a_check_counts)
  b_check_counts : Binds K d_check_counts ["value"] []
  a_worth_at : Addr
  d_worth_at : FuncData
  F_worth_at : Fun K "worth_at" "worth_at" s_worth_at a_worth_at d_worth_at
  m_worth_at : mg "worth_at" = some (.ref a_worth_at)
  b_worth_at : Binds K d_worth_at ["counts", "path"] []
  a_joined : Addr
  d_joined : FuncData
  F_joined : Fun K "joined" "joined" s_joined a_joined d_joined
  m_joined : mg "joined" = some (.ref a_joined)
  b_joined : Binds K d_joined ["counts", "other_counts"] []
  a_is_within : Addr
  d_is_within : FuncData
  F_is_within : Fun K "is_within" "is_within" s_is_within a_is_within d_is_within
  m_is_within : mg "is_within" = some (.ref a_is_within)
  b_is_within : Binds K d_is_within ["counts", "other_counts"] []
  a__law_cup : Addr
  d__law_cup : FuncData
  F__law_cup : Fun K "_law_cup" "_law_cup" s__law_cup a__law_cup d__law_cup
  m__law_cup : mg "_law_cup" = some (.ref a__law_cup)
  b__law_cup : Binds K d__law_cup ["cell"] []
  a__law_sip : Addr
  d__law_sip : FuncData
  F__law_sip : Fun K "_law_sip" "_law_sip" s__law_sip a__law_sip d__law_sip
  m__law_sip : mg "_law_sip" = some (.ref a__law_sip)
  b__law_sip : Binds K d__law_sip ["cup", "many"] []
  a__law_same : Addr
  d__law_same : FuncData
  F__law_same : Fun K "_law_same" "_law_same" s__law_same a__law_same d__law_same
  m__law_same : mg "_law_same" = some (.ref a__law_same)
  b__law_same : Binds K d__law_same ["found", "due"] []
  a__law_counts : Addr
  d__law_counts : FuncData
  F__law_counts : Fun K "_law_counts" "_law_counts" s__law_counts a__law_counts d__law_counts
  m__law_counts : mg "_law_counts" = some (.ref a__law_counts)
  b__law_counts : Binds K d__law_counts ["cup", "deep"] []
  a__law_long : Addr
  d__law_long : FuncData
  F__law_long : Fun K "_law_long" "_law_long" s__law_long a__law_long d__law_long
  m__law_long : mg "_law_long" = some (.ref a__law_long)
  b__law_long : Binds K d__law_long ["cup", "counts"] []
  a__law_size : Addr
  d__law_size : FuncData
  F__law_size : Fun K "_law_size" "_law_size" s__law_size a__law_size d__law_size
  m__law_size : mg "_law_size" = some (.ref a__law_size)
  b__law_size : Binds K d__law_size ["tree"] []
  a__law_least : Addr
  d__law_least : FuncData
  F__law_least : Fun K "_law_least" "_law_least" s__law_least a__law_least d__law_least
  m__law_least : mg "_law_least" = some (.ref a__law_least)
  b__law_least : Binds K d__law_least ["counts"] []
  a__law_put : Addr
  d__law_put : FuncData
  F__law_put : Fun K "_law_put" "_law_put" s__law_put a__law_put d__law_put
  m__law_put : mg "_law_put" = some (.ref a__law_put)
  b__law_put : Binds K d__law_put ["left", "right"] []
  a__law_lower : Addr
  d__law_lower : FuncData
  F__law_lower : Fun K "_law_lower" "_law_lower" s__law_lower a__law_lower d__law_lower
  m__law_lower : mg "_law_lower" = some (.ref a__law_lower)
  b__law_lower : Binds K d__law_lower ["counts", "number"] []
  a__law_parts : Addr
  d__law_parts : FuncData
  F__law_parts : Fun K "_law_parts" "_law_parts" s__law_parts a__law_parts d__law_parts
  m__law_parts : mg "_law_parts" = some (.ref a__law_parts)
  b__law_parts : Binds K d__law_parts ["counts"] []
  a__law_join : Addr
  d__law_join : FuncData
  F__law_join : Fun K "_law_join" "_law_join" s__law_join a__law_join d__law_join
  m__law_join : mg "_law_join" = some (.ref a__law_join)
  b__law_join : Binds K d__law_join ["one", "two"] []
  a__law_worth : Addr
  d__law_worth : FuncData
  F__law_worth : Fun K "_law_worth" "_law_worth" s__law_worth a__law_worth d__law_worth
  m__law_worth : mg "_law_worth" = some (.ref a__law_worth)
  b__law_worth : Binds K d__law_worth ["counts", "path"] []
  a__law_beyond : Addr
  d__law_beyond : FuncData
  F__law_beyond : Fun K "_law_beyond" "_law_beyond" s__law_beyond a__law_beyond d__law_beyond
  m__law_beyond : mg "_law_beyond" = some (.ref a__law_beyond)
  b__law_beyond : Binds K d__law_beyond ["full", "deep"] []
  a__law_bad_counts : Addr
  d__law_bad_counts : FuncData
  F__law_bad_counts : Fun K "_law_bad_counts" "_law_bad_counts" s__law_bad_counts a__law_bad_counts d__law_bad_counts
  m__law_bad_counts : mg "_law_bad_counts" = some (.ref a__law_bad_counts)
  b__law_bad_counts : Binds K d__law_bad_counts ["cup", "counts"] []
  a__law_bad_path : Addr
  d__law_bad_path : FuncData
  F__law_bad_path : Fun K "_law_bad_path" "_law_bad_path" s__law_bad_path a__law_bad_path d__law_bad_path
  m__law_bad_path : mg "_law_bad_path" = some (.ref a__law_bad_path)
  b__law_bad_path : Binds K d__law_bad_path ["cup"] []
  a__law_path : Addr
  d__law_path : FuncData
  F__law_path : Fun K "_law_path" "_law_path" s__law_path a__law_path d__law_path
  m__law_path : mg "_law_path" = some (.ref a__law_path)
  b__law_path : Binds K d__law_path ["cup"] []
  a__law_said : Addr
  d__law_said : FuncData
  F__law_said : Fun K "_law_said" "_law_said" s__law_said a__law_said d__law_said
  m__law_said : mg "_law_said" = some (.ref a__law_said)
  b__law_said : Binds K d__law_said ["door", "counts", "other"] []
  a__law_pair_right : Addr
  d__law_pair_right : FuncData
  F__law_pair_right : Fun K "_law_pair_right" "_law_pair_right" s__law_pair_right a__law_pair_right d__law_pair_right
  m__law_pair_right : mg "_law_pair_right" = some (.ref a__law_pair_right)
  b__law_pair_right : Binds K d__law_pair_right ["cup", "one", "two"] []
  a_law : Addr
  d_law : FuncData
  F_law : Fun K "law" "law" s_law a_law d_law
  m_law : mg "law" = some (.ref a_law)
  b_law : Binds K d_law ["script"] []
  kb_is_within_other_counts_counts : KB0 K d_is_within ["counts", "other_counts"] ["other_counts", "counts"] [1, 0]
  kb_joined_other_counts_counts : KB0 K d_joined ["counts", "other_counts"] ["other_counts", "counts"] [1, 0]
  kb_worth_at_path_counts : KB0 K d_worth_at ["counts", "path"] ["path", "counts"] [1, 0]
  g_DEEPEST : ∃ t, mg "DEEPEST" = some (.int 12 t)
  g_MOST_TUPLES : ∃ t, mg "MOST_TUPLES" = some (.int 63 t)
  n_all : mg "all" = none
  n_bool : mg "bool" = none
  n_int : mg "int" = none
  n_isinstance : mg "isinstance" = none
  n_len : mg "len" = none
  n_list : mg "list" = none
  n_max : mg "max" = none
  n_min : mg "min" = none
  n_range : mg "range" = none
  n_repr : mg "repr" = none
  n_str : mg "str" = none
  n_sum : mg "sum" = none
  n_tuple : mg "tuple" = none
  n_type : mg "type" = none
  c_StampError : Addr
  m_StampError : mg "StampError" = some (.ref c_StampError)
  c_InvalidCounts : Addr
  m_InvalidCounts : mg "InvalidCounts" = some (.ref c_InvalidCounts)
  c_InvalidPath : Addr
  m_InvalidPath : mg "InvalidPath" = some (.ref c_InvalidPath)
  c_TooMany : Addr
  m_TooMany : mg "TooMany" = some (.ref c_TooMany)
  x_StampError : PySem.W.excIn K c_StampError [.type "ValueError", .type "Exception", .type "BaseException", .type "object"] "ValueError.__new__" = true
  kp_StampError : PySem.W.keepIn K (.ref c_StampError) = true
  sb_StampError : PySem.W.subIn K (.ref c_StampError) (.type "BaseException") = some true
  ty_StampError : PySem.W.typeIn K (.ref c_StampError) = some (.type "type")
  x_InvalidCounts : PySem.W.excIn K c_InvalidCounts [.type "ValueError", .type "Exception", .type "BaseException", .type "object"] "ValueError.__new__" = true
  kp_InvalidCounts : PySem.W.keepIn K (.ref c_InvalidCounts) = true
  sb_InvalidCounts : PySem.W.subIn K (.ref c_InvalidCounts) (.type "BaseException") = some true
  ty_InvalidCounts : PySem.W.typeIn K (.ref c_InvalidCounts) = some (.type "type")
  x_InvalidPath : PySem.W.excIn K c_InvalidPath [.type "ValueError", .type "Exception", .type "BaseException", .type "object"] "ValueError.__new__" = true
  kp_InvalidPath : PySem.W.keepIn K (.ref c_InvalidPath) = true
  sb_InvalidPath : PySem.W.subIn K (.ref c_InvalidPath) (.type "BaseException") = some true
  ty_InvalidPath : PySem.W.typeIn K (.ref c_InvalidPath) = some (.type "type")
  kp_TooMany : PySem.W.keepIn K (.ref c_TooMany) = true
  sb_TooMany : PySem.W.subIn K (.ref c_TooMany) (.type "BaseException") = some true
  ty_TooMany : PySem.W.typeIn K (.ref c_TooMany) = some (.type "type")
  o_TooMany : OexC K c_TooMany
  xf_TooMany : XfC K c_TooMany
  i_TooMany : Addr
  di_TooMany : FuncData
  Fi_TooMany : Fun K "__init__" "TooMany.__init__" s_TooMany_init i_TooMany di_TooMany
  bi_TooMany : Binds K di_TooMany ["self", "count"] []
  ii_TooMany : PySem.W.findIn K (.ref c_TooMany) "__init__" = some (some (.ref i_TooMany))
  it_TooMany : PySem.W.typeIn K (.ref i_TooMany) = some (.type "function")
  nf_TooMany : PySem.W.findIn K (.ref c_TooMany) "count" = some none
section
variable {K : PySem.W.Frag} {mg : Str → Option Value}
def Txt.cv (T : Txt K mg) : Nat → Value
  | 0 => .ref T.c_StampError
  | 1 => .ref T.c_InvalidCounts
  | 2 => .ref T.c_InvalidPath
  | 3 => .ref T.c_TooMany
  | _ => .none
end
structure TxtC (K : PySem.W.Frag) (mg : Str → Option Value) extends Txt K mg where
  cls : Clss K toTxt.cv 4 mt
def TxtC.cv {K : PySem.W.Frag} {mg : Str → Option Value} (T : TxtC K mg) : Nat → Value := T.toTxt.cv
end PD.K05

/-! ## K05Der -/
set_option Elab.async false
set_option linter.all false
set_option maxRecDepth 100000
set_option maxHeartbeats 4000000
namespace PD.K05
open PySem PySem.Spec L2 PD
/-- all defs keep their promises with n calls -/
structure AllG (P : Program) (w : World) {K : PySem.W.Frag} {mg : Str → Option Value} (base : Heap) (T : TxtC K mg) (n : Nat) : Prop where
  g_tuple_count : FnG P w K mg base n T.a_tuple_count T.d_tuple_count ["tree"] (SpecOf ⟨K, T.cv⟩ (fns n).tuple_count)
  g_bounded : FnG P w K mg base n T.a_bounded T.d_bounded ["tree"] (SpecOf ⟨K, T.cv⟩ (fns n).bounded)
  g_is_path : FnG P w K mg base n T.a_is_path T.d_is_path ["value"] (SpecOf ⟨K, T.cv⟩ (fns n).is_path)
  g_check_path : FnG P w K mg base n T.a_check_path T.d_check_path ["value"] (SpecOf ⟨K, T.cv⟩ (fns n).check_path)
  g_least : FnG P w K mg base n T.a_least T.d_least ["counts"] (SpecOf ⟨K, T.cv⟩ (fns n).least)
  g_greatest : FnG P w K mg base n T.a_greatest T.d_greatest ["counts"] (SpecOf ⟨K, T.cv⟩ (fns n).greatest)
  g_lifted : FnG P w K mg base n T.a_lifted T.d_lifted ["counts", "number"] (SpecOf ⟨K, T.cv⟩ (fns n).lifted)
  g_halves : FnG P w K mg base n T.a_halves T.d_halves ["counts"] (SpecOf ⟨K, T.cv⟩ (fns n).halves)
  g_whole : FnG P w K mg base n T.a_whole T.d_whole ["left", "right"] (SpecOf ⟨K, T.cv⟩ (fns n).whole)
  g_greater_of : FnG P w K mg base n T.a_greater_of T.d_greater_of ["counts", "other_counts"] (SpecOf ⟨K, T.cv⟩ (fns n).greater_of)
  g_nowhere_greater : FnG P w K mg base n T.a_nowhere_greater T.d_nowhere_greater ["counts", "other_counts"] (SpecOf ⟨K, T.cv⟩ (fns n).nowhere_greater)
  g_is_counts : FnG P w K mg base n T.a_is_counts T.d_is_counts ["value"] (SpecOf ⟨K, T.cv⟩ (fns n).is_counts)
  g__is_counts_tree : FnG P w K mg base n T.a__is_counts_tree T.d__is_counts_tree ["value", "deepest"] (SpecOf ⟨K, T.cv⟩ (fns n)._is_counts_tree)
  g_check_counts : FnG P w K mg base n T.a_check_counts T.d_check_counts ["value"] (SpecOf ⟨K, T.cv⟩ (fns n).check_counts)
  g_worth_at : FnG P w K mg base n T.a_worth_at T.d_worth_at ["counts", "path"] (SpecOf ⟨K, T.cv⟩ (fns n).worth_at)
  g_joined : FnG P w K mg base n T.a_joined T.d_joined ["counts", "other_counts"] (SpecOf ⟨K, T.cv⟩ (fns n).joined)
  g_is_within : FnG P w K mg base n T.a_is_within T.d_is_within ["counts", "other_counts"] (SpecOf ⟨K, T.cv⟩ (fns n).is_within)
  g__law_cup : FnG P w K mg base n T.a__law_cup T.d__law_cup ["cell"] (SpecOf ⟨K, T.cv⟩ (fns n)._law_cup)
  g__law_sip : FnG P w K mg base n T.a__law_sip T.d__law_sip ["cup", "many"] (SpecOf ⟨K, T.cv⟩ (fns n)._law_sip)
  g__law_same : FnG P w K mg base n T.a__law_same T.d__law_same ["found", "due"] (SpecOf ⟨K, T.cv⟩ (fns n)._law_same)
  g__law_counts : FnG P w K mg base n T.a__law_counts T.d__law_counts ["cup", "deep"] (SpecOf ⟨K, T.cv⟩ (fns n)._law_counts)
  g__law_long : FnG P w K mg base n T.a__law_long T.d__law_long ["cup", "counts"] (SpecOf ⟨K, T.cv⟩ (fns n)._law_long)
  g__law_size : FnG P w K mg base n T.a__law_size T.d__law_size ["tree"] (SpecOf ⟨K, T.cv⟩ (fns n)._law_size)
  g__law_least : FnG P w K mg base n T.a__law_least T.d__law_least ["counts"] (SpecOf ⟨K, T.cv⟩ (fns n)._law_least)
  g__law_put : FnG P w K mg base n T.a__law_put T.d__law_put ["left", "right"] (SpecOf ⟨K, T.cv⟩ (fns n)._law_put)
  g__law_lower : FnG P w K mg base n T.a__law_lower T.d__law_lower ["counts", "number"] (SpecOf ⟨K, T.cv⟩ (fns n)._law_lower)
  g__law_parts : FnG P w K mg base n T.a__law_parts T.d__law_parts ["counts"] (SpecOf ⟨K, T.cv⟩ (fns n)._law_parts)
  g__law_join : FnG P w K mg base n T.a__law_join T.d__law_join ["one", "two"] (SpecOf ⟨K, T.cv⟩ (fns n)._law_join)
  g__law_worth : FnG P w K mg base n T.a__law_worth T.d__law_worth ["counts", "path"] (SpecOf ⟨K, T.cv⟩ (fns n)._law_worth)
  g__law_beyond : FnG P w K mg base n T.a__law_beyond T.d__law_beyond ["full", "deep"] (SpecOf ⟨K, T.cv⟩ (fns n)._law_beyond)
  g__law_bad_counts : FnG P w K mg base n T.a__law_bad_counts T.d__law_bad_counts ["cup", "counts"] (SpecOf ⟨K, T.cv⟩ (fns n)._law_bad_counts)
  g__law_bad_path : FnG P w K mg base n T.a__law_bad_path T.d__law_bad_path ["cup"] (SpecOf ⟨K, T.cv⟩ (fns n)._law_bad_path)
  g__law_path : FnG P w K mg base n T.a__law_path T.d__law_path ["cup"] (SpecOf ⟨K, T.cv⟩ (fns n)._law_path)
  g__law_said : FnG P w K mg base n T.a__law_said T.d__law_said ["door", "counts", "other"] (SpecOf ⟨K, T.cv⟩ (fns n)._law_said)
  g__law_pair_right : FnG P w K mg base n T.a__law_pair_right T.d__law_pair_right ["cup", "one", "two"] (SpecOf ⟨K, T.cv⟩ (fns n)._law_pair_right)
  g_law : FnG P w K mg base n T.a_law T.d_law ["script"] (SpecOf ⟨K, T.cv⟩ (fns n).law)
theorem u65 {A : Around} {k : Nat} (hr : Room k A) : A.units + 65 < cLine := by have := hr.un; omega
section
variable {P : Program} {w : World} {K : PySem.W.Frag} {mg : Str → Option Value} {base : Heap} {n : Nat}
theorem ini_TooMany (T : TxtC K mg) : FnOk P w K mg base CX0 1 T.i_TooMany T.di_TooMany ["self", "count"] (iniS T.c_TooMany "count") :=
  ini_ok T.Fi_TooMany sc_TooMany_init rfl rfl T.o_TooMany T.nf_TooMany fun cdv A outer s H E => pss_one (ps_ost (pv 0) (pv 1))
theorem g_tuple_count (T : TxtC K mg) (G : AllG P w base T n) : FnG P w K mg base (n + 1) T.a_tuple_count T.d_tuple_count ["tree"] (SpecOf ⟨K, T.cv⟩ (fnOf 1 2 (b_tuple_count (fns n)))) :=
  fn_den T.F_tuple_count sc_tuple_count fun cdv A outer s H E hG hr tk po =>
    (ps_cons' (ps_if' (pdt_cmp op_isA ok_isA (pd_callTy call_type1 ok_type (by rfl) T.n_type (by decide +kernel) (pda_cons (pd_var (pv 0)) pda_nil)) (pd_ty (n := "int") rfl T.n_int (by decide +kernel)) (nomark _)) (ps_one' (ps_ret' pd_int)) ps_nil')
    (ps_one' (ps_ret' (pd_op op_addA ok_add pd_int (pd_callB (cr_sum rfl) ok_sum (by rfl) T.n_sum (by decide +kernel) (pda_cons (pd_lcT (own := [("part", 1)]) rfl sc_tuple_count.nd (pd_var (pv 0)) ⟨(blkOk_by (own := [("part", 1)]) (N := ["tree", "part"]) (sc := defScope s_tuple_count) (by decide +kernel)), (fun _ _ _ _ _ => pg_name (i := 1) sc_tuple_count.nd rfl (by first | exact Or.inl rfl | exact Or.inr rfl)), (tg_name _ 1), wipe_name, (fun _ _ _ _ _ => pdts_nil), (fun _ _ _ _ _ => have tk := takes0; (pd_call G.g_tuple_count hG hr rfl T.m_tuple_count T.F_tuple_count.kp T.b_tuple_count tk (pda_cons (pd_var (pv 1)) pda_nil)))⟩) pda_nil))))))
theorem g_bounded (T : TxtC K mg) (G : AllG P w base T n) : FnG P w K mg base (n + 1) T.a_bounded T.d_bounded ["tree"] (SpecOf ⟨K, T.cv⟩ (fnOf 1 1 (b_bounded (fns n)))) :=
  fn_den T.F_bounded sc_bounded fun cdv A outer s H E hG hr tk po =>
    (ps_cons' (ps_if' (pdt_cmp op_gt ok_int2 (pd_call G.g_tuple_count hG hr rfl T.m_tuple_count T.F_tuple_count.kp T.b_tuple_count tk (pda_cons (pd_var (pv 0)) pda_nil)) (pd_gi rfl T.g_MOST_TUPLES) (nomark _)) (ps_one' (ps_raiseF (c := 3) rfl tk rfl T.o_TooMany T.ii_TooMany T.it_TooMany (ini_TooMany T) (fns_lv n) hr T.bi_TooMany rfl T.m_TooMany (pd_gi rfl T.g_MOST_TUPLES))) ps_nil')
    (ps_one' (ps_ret' (pd_var (pv 0)))))
theorem g_is_path (T : TxtC K mg) (G : AllG P w base T n) : FnG P w K mg base (n + 1) T.a_is_path T.d_is_path ["value"] (SpecOf ⟨K, T.cv⟩ (fnOf 1 2 (b_is_path (fns n)))) :=
  fn_den T.F_is_path sc_is_path fun cdv A outer s H E hG hr tk po =>
    (ps_cons' (ps_if' (PW.pt (pdw_or (pdt_cmp op_isNotA ok_isNotA (pd_callTy call_type1 ok_type (by rfl) T.n_type (by decide +kernel) (pda_cons (pd_var (pv 0)) pda_nil)) (pd_ty (n := "tuple") rfl T.n_tuple (by decide +kernel)) (nomark _)) (pdw_one (pdt_cmp op_gt ok_int2 (pd_callB call_len ok_len (by rfl) T.n_len (by decide +kernel) (pda_cons (pd_var (pv 0)) pda_nil)) (pd_gi rfl T.g_DEEPEST) (nomark _)) (by decide)))) (ps_one' (ps_ret' pd_bl)) ps_nil')
    (ps_one' (ps_ret' (pd_callB (cr_all rfl) ok_all (by rfl) T.n_all (by decide +kernel) (pda_cons (pd_lcT (own := [("half", 1)]) rfl sc_is_path.nd (pd_var (pv 0)) ⟨(blkOk_by (own := [("half", 1)]) (N := ["value", "half"]) (sc := defScope s_is_path) (by decide +kernel)), (fun _ _ _ _ _ => pg_name (i := 1) sc_is_path.nd rfl (by first | exact Or.inl rfl | exact Or.inr rfl)), (tg_name _ 1), wipe_name, (fun _ _ _ _ _ => pdts_nil), (fun _ _ _ _ _ => (pd_and (pd_cmp op_isA ok_isA (pd_callTy call_type1 ok_type (by rfl) T.n_type (by decide +kernel) (pda_cons (pd_var (pv 1)) pda_nil)) (pd_ty (n := "int") rfl T.n_int (by decide +kernel)) (nomark _)) (pd_one (pd_or (pd_cmp (op_eqD hr.units) ok_eq (pd_var (pv 1)) pd_int (nomark _)) (pd_one (pd_cmp (op_eqD hr.units) ok_eq (pd_var (pv 1)) pd_int (nomark _)))))))⟩) pda_nil)))))
theorem g_check_path (T : TxtC K mg) (G : AllG P w base T n) : FnG P w K mg base (n + 1) T.a_check_path T.d_check_path ["value"] (SpecOf ⟨K, T.cv⟩ (fnOf 1 1 (b_check_path (fns n)))) :=
  fn_den T.F_check_path sc_check_path fun cdv A outer s H E hG hr tk po =>
    (ps_one' (ps_if' (pdt_not (pdt_val (pd_call G.g_is_path hG hr rfl T.m_is_path T.F_is_path.kp T.b_is_path tk (pda_cons (pd_var (pv 0)) pda_nil)))) (ps_one' (ps_raise' (c := 2) rfl tk rfl (pmk_own PySem.F.excBase_ValueError T.x_InvalidPath T.m_InvalidPath T.kp_InvalidPath (raises_own T.sb_InvalidPath T.ty_InvalidPath) (by exact rfl)))) ps_nil'))
theorem g_least (T : TxtC K mg) (G : AllG P w base T n) : FnG P w K mg base (n + 1) T.a_least T.d_least ["counts"] (SpecOf ⟨K, T.cv⟩ (fnOf 1 1 (b_least (fns n)))) :=
  fn_den T.F_least sc_least fun cdv A outer s H E hG hr tk po =>
    (ps_cons' (ps_if' (pdt_cmp op_isA ok_isA (pd_callTy call_type1 ok_type (by rfl) T.n_type (by decide +kernel) (pda_cons (pd_var (pv 0)) pda_nil)) (pd_ty (n := "int") rfl T.n_int (by decide +kernel)) (nomark _)) (ps_one' (ps_ret' (pd_var (pv 0)))) ps_nil')
    (ps_one' (ps_ret' (pd_ix (pd_var (pv 0)) pd_int (fun _ _ => rfl)))))
theorem g_greatest (T : TxtC K mg) (G : AllG P w base T n) : FnG P w K mg base (n + 1) T.a_greatest T.d_greatest ["counts"] (SpecOf ⟨K, T.cv⟩ (fnOf 1 1 (b_greatest (fns n)))) :=
  fn_den T.F_greatest sc_greatest fun cdv A outer s H E hG hr tk po =>
    (ps_cons' (ps_if' (pdt_cmp op_isA ok_isA (pd_callTy call_type1 ok_type (by rfl) T.n_type (by decide +kernel) (pda_cons (pd_var (pv 0)) pda_nil)) (pd_ty (n := "int") rfl T.n_int (by decide +kernel)) (nomark _)) (ps_one' (ps_ret' (pd_var (pv 0)))) ps_nil')
    (ps_one' (ps_ret' (pd_op op_addA ok_add (pd_ix (pd_var (pv 0)) pd_int (fun _ _ => rfl)) (pd_callB (call_max2 rfl) ok_max2 (by rfl) T.n_max (by decide +kernel) (pda_cons (pd_call G.g_greatest hG hr rfl T.m_greatest T.F_greatest.kp T.b_greatest tk (pda_cons (pd_ix (pd_var (pv 0)) pd_int (fun _ _ => rfl)) pda_nil)) (pda_cons (pd_call G.g_greatest hG hr rfl T.m_greatest T.F_greatest.kp T.b_greatest tk (pda_cons (pd_ix (pd_var (pv 0)) pd_int (fun _ _ => rfl)) pda_nil)) pda_nil)))))))
theorem g_lifted (T : TxtC K mg) (G : AllG P w base T n) : FnG P w K mg base (n + 1) T.a_lifted T.d_lifted ["counts", "number"] (SpecOf ⟨K, T.cv⟩ (fnOf 2 2 (b_lifted (fns n)))) :=
  fn_den T.F_lifted sc_lifted fun cdv A outer s H E hG hr tk po =>
    (ps_cons' (ps_if' (pdt_cmp op_isA ok_isA (pd_callTy call_type1 ok_type (by rfl) T.n_type (by decide +kernel) (pda_cons (pd_var (pv 0)) pda_nil)) (pd_ty (n := "int") rfl T.n_int (by decide +kernel)) (nomark _)) (ps_one' (ps_ret' (pd_op op_addA ok_add (pd_var (pv 0)) (pd_var (pv 1))))) ps_nil')
    (ps_one' (ps_ret' (pd_tup (pda_cons (pd_op op_addA ok_add (pd_ix (pd_var (pv 0)) pd_int (fun _ _ => rfl)) (pd_var (pv 1))) (pda_cons (pd_ix (pd_var (pv 0)) pd_int (fun _ _ => rfl)) (pda_cons (pd_ix (pd_var (pv 0)) pd_int (fun _ _ => rfl)) pda_nil)))))))
theorem g_halves (T : TxtC K mg) (G : AllG P w base T n) : FnG P w K mg base (n + 1) T.a_halves T.d_halves ["counts"] (SpecOf ⟨K, T.cv⟩ (fnOf 1 1 (b_halves (fns n)))) :=
  fn_den T.F_halves sc_halves fun cdv A outer s H E hG hr tk po =>
    (ps_cons' (ps_if' (pdt_cmp op_isA ok_isA (pd_callTy call_type1 ok_type (by rfl) T.n_type (by decide +kernel) (pda_cons (pd_var (pv 0)) pda_nil)) (pd_ty (n := "int") rfl T.n_int (by decide +kernel)) (nomark _)) (ps_one' (ps_ret' (pd_tup (pda_cons (pd_var (pv 0)) (pda_cons (pd_var (pv 0)) pda_nil))))) ps_nil')
    (ps_one' (ps_ret' (pd_tup (pda_cons (pd_call G.g_lifted hG hr rfl T.m_lifted T.F_lifted.kp T.b_lifted tk (pda_cons (pd_ix (pd_var (pv 0)) pd_int (fun _ _ => rfl)) (pda_cons (pd_ix (pd_var (pv 0)) pd_int (fun _ _ => rfl)) pda_nil))) (pda_cons (pd_call G.g_lifted hG hr rfl T.m_lifted T.F_lifted.kp T.b_lifted tk (pda_cons (pd_ix (pd_var (pv 0)) pd_int (fun _ _ => rfl)) (pda_cons (pd_ix (pd_var (pv 0)) pd_int (fun _ _ => rfl)) pda_nil))) pda_nil))))))
theorem g_whole (T : TxtC K mg) (G : AllG P w base T n) : FnG P w K mg base (n + 1) T.a_whole T.d_whole ["left", "right"] (SpecOf ⟨K, T.cv⟩ (fnOf 2 3 (b_whole (fns n)))) :=
  fn_den T.F_whole sc_whole fun cdv A outer s H E hG hr tk po =>
    (ps_cons' (ps_if' (PW.pt (pdw_and (pdt_cmp op_isA ok_isA (pd_callTy call_type1 ok_type (by rfl) T.n_type (by decide +kernel) (pda_cons (pd_var (pv 0)) pda_nil)) (pd_ty (n := "int") rfl T.n_int (by decide +kernel)) (nomark _)) (pdw_one (pdt_cmp (op_eqD hr.units) ok_eq (pd_var (pv 0)) (pd_var (pv 1)) (nomark _)) (by decide)))) (ps_one' (ps_ret' (pd_var (pv 0)))) ps_nil')
    (ps_cons' (ps_set' (i := 2) sc_whole.nd rfl (by first | exact Or.inl rfl | exact Or.inr rfl) (pd_callB (call_min2 rfl) ok_min2 (by rfl) T.n_min (by decide +kernel) (pda_cons (pd_call G.g_least hG hr rfl T.m_least T.F_least.kp T.b_least tk (pda_cons (pd_var (pv 0)) pda_nil)) (pda_cons (pd_call G.g_least hG hr rfl T.m_least T.F_least.kp T.b_least tk (pda_cons (pd_var (pv 1)) pda_nil)) pda_nil))))
    (ps_one' (ps_ret' (pd_tup (pda_cons (pd_var (pv 2)) (pda_cons (pd_call G.g_lifted hG hr rfl T.m_lifted T.F_lifted.kp T.b_lifted tk (pda_cons (pd_var (pv 0)) (pda_cons (pd_un un_neg ok_neg (pd_var (pv 2))) pda_nil))) (pda_cons (pd_call G.g_lifted hG hr rfl T.m_lifted T.F_lifted.kp T.b_lifted tk (pda_cons (pd_var (pv 1)) (pda_cons (pd_un un_neg ok_neg (pd_var (pv 2))) pda_nil))) pda_nil))))))))
theorem g_greater_of (T : TxtC K mg) (G : AllG P w base T n) : FnG P w K mg base (n + 1) T.a_greater_of T.d_greater_of ["counts", "other_counts"] (SpecOf ⟨K, T.cv⟩ (fnOf 2 6 (b_greater_of (fns n)))) :=
  fn_den T.F_greater_of sc_greater_of fun cdv A outer s H E hG hr tk po =>
    (ps_cons' (ps_if' (PW.pt (pdw_and (pdt_cmp op_isA ok_isA (pd_callTy call_type1 ok_type (by rfl) T.n_type (by decide +kernel) (pda_cons (pd_var (pv 0)) pda_nil)) (pd_ty (n := "int") rfl T.n_int (by decide +kernel)) (nomark _)) (pdw_one (pdt_cmp op_isA ok_isA (pd_callTy call_type1 ok_type (by rfl) T.n_type (by decide +kernel) (pda_cons (pd_var (pv 1)) pda_nil)) (pd_ty (n := "int") rfl T.n_int (by decide +kernel)) (nomark _)) (by decide)))) (ps_one' (ps_ret' (pd_callB (call_max2 rfl) ok_max2 (by rfl) T.n_max (by decide +kernel) (pda_cons (pd_var (pv 0)) (pda_cons (pd_var (pv 1)) pda_nil))))) ps_nil')
    (ps_cons' (ps_asg' (pd_call G.g_halves hG hr rfl T.m_halves T.F_halves.kp T.b_halves tk (pda_cons (pd_var (pv 0)) pda_nil)) (pg_tup rfl (pgs_cons (pg_name (i := 2) sc_greater_of.nd rfl (by first | exact Or.inl rfl | exact Or.inr rfl)) (pgs_cons (pg_name (i := 3) sc_greater_of.nd rfl (by first | exact Or.inl rfl | exact Or.inr rfl)) pgs_nil))) (tg_tup (tgs_cons (tg_name _ 2) (tgs_cons (tg_name _ 3) (tgs_nil _))) rfl))
    (ps_cons' (ps_asg' (pd_call G.g_halves hG hr rfl T.m_halves T.F_halves.kp T.b_halves tk (pda_cons (pd_var (pv 1)) pda_nil)) (pg_tup rfl (pgs_cons (pg_name (i := 4) sc_greater_of.nd rfl (by first | exact Or.inl rfl | exact Or.inr rfl)) (pgs_cons (pg_name (i := 5) sc_greater_of.nd rfl (by first | exact Or.inl rfl | exact Or.inr rfl)) pgs_nil))) (tg_tup (tgs_cons (tg_name _ 4) (tgs_cons (tg_name _ 5) (tgs_nil _))) rfl))
    (ps_one' (ps_ret' (pd_call G.g_whole hG hr rfl T.m_whole T.F_whole.kp T.b_whole tk (pda_cons (pd_call G.g_greater_of hG hr rfl T.m_greater_of T.F_greater_of.kp T.b_greater_of tk (pda_cons (pd_var (pv 2)) (pda_cons (pd_var (pv 4)) pda_nil))) (pda_cons (pd_call G.g_greater_of hG hr rfl T.m_greater_of T.F_greater_of.kp T.b_greater_of tk (pda_cons (pd_var (pv 3)) (pda_cons (pd_var (pv 5)) pda_nil))) pda_nil))))))))
theorem g_nowhere_greater (T : TxtC K mg) (G : AllG P w base T n) : FnG P w K mg base (n + 1) T.a_nowhere_greater T.d_nowhere_greater ["counts", "other_counts"] (SpecOf ⟨K, T.cv⟩ (fnOf 2 6 (b_nowhere_greater (fns n)))) :=
  fn_den T.F_nowhere_greater sc_nowhere_greater fun cdv A outer s H E hG hr tk po =>
    (ps_cons' (ps_if' (PW.pt (pdw_and (pdt_cmp op_isA ok_isA (pd_callTy call_type1 ok_type (by rfl) T.n_type (by decide +kernel) (pda_cons (pd_var (pv 0)) pda_nil)) (pd_ty (n := "int") rfl T.n_int (by decide +kernel)) (nomark _)) (pdw_one (pdt_cmp op_isA ok_isA (pd_callTy call_type1 ok_type (by rfl) T.n_type (by decide +kernel) (pda_cons (pd_var (pv 1)) pda_nil)) (pd_ty (n := "int") rfl T.n_int (by decide +kernel)) (nomark _)) (by decide)))) (ps_one' (ps_ret' (pd_cmp op_le ok_int2 (pd_var (pv 0)) (pd_var (pv 1)) (nomark _)))) ps_nil')
    (ps_cons' (ps_asg' (pd_call G.g_halves hG hr rfl T.m_halves T.F_halves.kp T.b_halves tk (pda_cons (pd_var (pv 0)) pda_nil)) (pg_tup rfl (pgs_cons (pg_name (i := 2) sc_nowhere_greater.nd rfl (by first | exact Or.inl rfl | exact Or.inr rfl)) (pgs_cons (pg_name (i := 3) sc_nowhere_greater.nd rfl (by first | exact Or.inl rfl | exact Or.inr rfl)) pgs_nil))) (tg_tup (tgs_cons (tg_name _ 2) (tgs_cons (tg_name _ 3) (tgs_nil _))) rfl))
    (ps_cons' (ps_asg' (pd_call G.g_halves hG hr rfl T.m_halves T.F_halves.kp T.b_halves tk (pda_cons (pd_var (pv 1)) pda_nil)) (pg_tup rfl (pgs_cons (pg_name (i := 4) sc_nowhere_greater.nd rfl (by first | exact Or.inl rfl | exact Or.inr rfl)) (pgs_cons (pg_name (i := 5) sc_nowhere_greater.nd rfl (by first | exact Or.inl rfl | exact Or.inr rfl)) pgs_nil))) (tg_tup (tgs_cons (tg_name _ 4) (tgs_cons (tg_name _ 5) (tgs_nil _))) rfl))
    (ps_one' (ps_ret' (pd_and (pd_call G.g_nowhere_greater hG hr rfl T.m_nowhere_greater T.F_nowhere_greater.kp T.b_nowhere_greater tk (pda_cons (pd_var (pv 2)) (pda_cons (pd_var (pv 4)) pda_nil))) (pd_one (pd_call G.g_nowhere_greater hG hr rfl T.m_nowhere_greater T.F_nowhere_greater.kp T.b_nowhere_greater tk (pda_cons (pd_var (pv 3)) (pda_cons (pd_var (pv 5)) pda_nil))))))))))
theorem g_is_counts (T : TxtC K mg) (G : AllG P w base T n) : FnG P w K mg base (n + 1) T.a_is_counts T.d_is_counts ["value"] (SpecOf ⟨K, T.cv⟩ (fnOf 1 1 (b_is_counts (fns n)))) :=
  fn_den T.F_is_counts sc_is_counts fun cdv A outer s H E hG hr tk po =>
    (ps_one' (ps_ret' (pd_and (pd_call G.g__is_counts_tree hG hr rfl T.m__is_counts_tree T.F__is_counts_tree.kp T.b__is_counts_tree tk (pda_cons (pd_var (pv 0)) (pda_cons (pd_gi rfl T.g_DEEPEST) pda_nil))) (pd_one (pd_cmp op_le ok_int2 (pd_call G.g_tuple_count hG hr rfl T.m_tuple_count T.F_tuple_count.kp T.b_tuple_count tk (pda_cons (pd_var (pv 0)) pda_nil)) (pd_gi rfl T.g_MOST_TUPLES) (nomark _))))))
theorem g__is_counts_tree (T : TxtC K mg) (G : AllG P w base T n) : FnG P w K mg base (n + 1) T.a__is_counts_tree T.d__is_counts_tree ["value", "deepest"] (SpecOf ⟨K, T.cv⟩ (fnOf 2 5 (b__is_counts_tree (fns n)))) :=
  fn_den T.F__is_counts_tree sc__is_counts_tree fun cdv A outer s H E hG hr tk po =>
    (ps_cons' (ps_if' (pdt_cmp op_isA ok_isA (pd_callTy call_type1 ok_type (by rfl) T.n_type (by decide +kernel) (pda_cons (pd_var (pv 0)) pda_nil)) (pd_ty (n := "int") rfl T.n_int (by decide +kernel)) (nomark _)) (ps_one' (ps_ret' (pd_cmp op_ge ok_int2 (pd_var (pv 0)) pd_int (nomark _)))) ps_nil')
    (ps_cons' (ps_if' (PW.pt (pdw_or (pdt_cmp op_isNotA ok_isNotA (pd_callTy call_type1 ok_type (by rfl) T.n_type (by decide +kernel) (pda_cons (pd_var (pv 0)) pda_nil)) (pd_ty (n := "tuple") rfl T.n_tuple (by decide +kernel)) (nomark _)) (pdw_or (pdt_cmp (op_neD hr.units) ok_ne (pd_callB call_len ok_len (by rfl) T.n_len (by decide +kernel) (pda_cons (pd_var (pv 0)) pda_nil)) pd_int (nomark _)) (pdw_one (pdt_cmp (op_eqD hr.units) ok_eq (pd_var (pv 1)) pd_int (nomark _)) (by decide))))) (ps_one' (ps_ret' pd_bl)) ps_nil')
    (ps_cons' (ps_asg' (pd_var (pv 0)) (pg_tup rfl (pgs_cons (pg_name (i := 2) sc__is_counts_tree.nd rfl (by first | exact Or.inl rfl | exact Or.inr rfl)) (pgs_cons (pg_name (i := 3) sc__is_counts_tree.nd rfl (by first | exact Or.inl rfl | exact Or.inr rfl)) (pgs_cons (pg_name (i := 4) sc__is_counts_tree.nd rfl (by first | exact Or.inl rfl | exact Or.inr rfl)) pgs_nil)))) (tg_tup (tgs_cons (tg_name _ 2) (tgs_cons (tg_name _ 3) (tgs_cons (tg_name _ 4) (tgs_nil _)))) rfl))
    (ps_cons' (ps_if' (PW.pt (pdw_or (pdt_cmp op_isNotA ok_isNotA (pd_callTy call_type1 ok_type (by rfl) T.n_type (by decide +kernel) (pda_cons (pd_var (pv 2)) pda_nil)) (pd_ty (n := "int") rfl T.n_int (by decide +kernel)) (nomark _)) (pdw_one (pdt_cmp op_lt ok_int2 (pd_var (pv 2)) pd_int (nomark _)) (by decide)))) (ps_one' (ps_ret' pd_bl)) ps_nil')
    (ps_cons' (ps_if' (PW.pt (pdw_or (pdt_not (pdt_val (pd_call G.g__is_counts_tree hG hr rfl T.m__is_counts_tree T.F__is_counts_tree.kp T.b__is_counts_tree tk (pda_cons (pd_var (pv 3)) (pda_cons (pd_op op_sub ok_sub (pd_var (pv 1)) pd_int) pda_nil))))) (pdw_one (pdt_not (pdt_val (pd_call G.g__is_counts_tree hG hr rfl T.m__is_counts_tree T.F__is_counts_tree.kp T.b__is_counts_tree tk (pda_cons (pd_var (pv 4)) (pda_cons (pd_op op_sub ok_sub (pd_var (pv 1)) pd_int) pda_nil))))) (by decide)))) (ps_one' (ps_ret' pd_bl)) ps_nil')
    (ps_cons' (ps_if' (PW.pt (pdw_and (pdt_cmp op_isA ok_isA (pd_callTy call_type1 ok_type (by rfl) T.n_type (by decide +kernel) (pda_cons (pd_var (pv 3)) pda_nil)) (pd_ty (n := "int") rfl T.n_int (by decide +kernel)) (nomark _)) (pdw_one (pdt_cmp (op_eqD hr.units) ok_eq (pd_var (pv 3)) (pd_var (pv 4)) (nomark _)) (by decide)))) (ps_one' (ps_ret' pd_bl)) ps_nil')
    (ps_one' (ps_ret' (pd_or (pd_cmp (op_eqD hr.units) ok_eq (pd_call G.g_least hG hr rfl T.m_least T.F_least.kp T.b_least tk (pda_cons (pd_var (pv 3)) pda_nil)) pd_int (nomark _)) (pd_one (pd_cmp (op_eqD hr.units) ok_eq (pd_call G.g_least hG hr rfl T.m_least T.F_least.kp T.b_least tk (pda_cons (pd_var (pv 4)) pda_nil)) pd_int (nomark _))))))))))))
theorem g_check_counts (T : TxtC K mg) (G : AllG P w base T n) : FnG P w K mg base (n + 1) T.a_check_counts T.d_check_counts ["value"] (SpecOf ⟨K, T.cv⟩ (fnOf 1 1 (b_check_counts (fns n)))) :=
  fn_den T.F_check_counts sc_check_counts fun cdv A outer s H E hG hr tk po =>
    (ps_one' (ps_if' (pdt_not (pdt_val (pd_call G.g_is_counts hG hr rfl T.m_is_counts T.F_is_counts.kp T.b_is_counts tk (pda_cons (pd_var (pv 0)) pda_nil)))) (ps_one' (ps_raise' (c := 1) rfl tk rfl (pmk_own PySem.F.excBase_ValueError T.x_InvalidCounts T.m_InvalidCounts T.kp_InvalidCounts (raises_own T.sb_InvalidCounts T.ty_InvalidCounts) (by exact rfl)))) ps_nil'))
theorem g_worth_at (T : TxtC K mg) (G : AllG P w base T n) : FnG P w K mg base (n + 1) T.a_worth_at T.d_worth_at ["counts", "path"] (SpecOf ⟨K, T.cv⟩ (fnOf 2 4 (b_worth_at (fns n)))) :=
  fn_den T.F_worth_at sc_worth_at fun cdv A outer s H E hG hr tk po =>
    (ps_cons' (ps_expr' (pd_call G.g_check_counts hG hr rfl T.m_check_counts T.F_check_counts.kp T.b_check_counts tk (pda_cons (pd_var (pv 0)) pda_nil)))
    (ps_cons' (ps_expr' (pd_call G.g_check_path hG hr rfl T.m_check_path T.F_check_path.kp T.b_check_path tk (pda_cons (pd_var (pv 1)) pda_nil)))
    (ps_cons' (ps_set' (i := 2) sc_worth_at.nd rfl (by first | exact Or.inl rfl | exact Or.inr rfl) (pd_var (pv 0)))
    (ps_cons' (ps_forT' po rfl (pd_var (pv 1)) (pg_name (i := 3) sc_worth_at.nd rfl (by first | exact Or.inl rfl | exact Or.inr rfl)) (tg_name _ 3)
    (ps_one' (ps_set' (i := 2) sc_worth_at.nd rfl (by first | exact Or.inl rfl | exact Or.inr rfl) (pd_ix (pd_call G.g_halves hG hr rfl T.m_halves T.F_halves.kp T.b_halves tk (pda_cons (pd_var (pv 2)) pda_nil)) (pd_var (pv 3)) (fun _ _ => rfl)))))
    (ps_one' (ps_ret' (pd_tup (pda_cons (pd_call G.g_least hG hr rfl T.m_least T.F_least.kp T.b_least tk (pda_cons (pd_var (pv 2)) pda_nil)) (pda_cons (pd_call G.g_greatest hG hr rfl T.m_greatest T.F_greatest.kp T.b_greatest tk (pda_cons (pd_var (pv 2)) pda_nil)) pda_nil)))))))))
theorem g_joined (T : TxtC K mg) (G : AllG P w base T n) : FnG P w K mg base (n + 1) T.a_joined T.d_joined ["counts", "other_counts"] (SpecOf ⟨K, T.cv⟩ (fnOf 2 2 (b_joined (fns n)))) :=
  fn_den T.F_joined sc_joined fun cdv A outer s H E hG hr tk po =>
    (ps_cons' (ps_expr' (pd_call G.g_check_counts hG hr rfl T.m_check_counts T.F_check_counts.kp T.b_check_counts tk (pda_cons (pd_var (pv 0)) pda_nil)))
    (ps_cons' (ps_expr' (pd_call G.g_check_counts hG hr rfl T.m_check_counts T.F_check_counts.kp T.b_check_counts tk (pda_cons (pd_var (pv 1)) pda_nil)))
    (ps_one' (ps_ret' (pd_call G.g_bounded hG hr rfl T.m_bounded T.F_bounded.kp T.b_bounded tk (pda_cons (pd_call G.g_greater_of hG hr rfl T.m_greater_of T.F_greater_of.kp T.b_greater_of tk (pda_cons (pd_var (pv 0)) (pda_cons (pd_var (pv 1)) pda_nil))) pda_nil))))))
theorem g_is_within (T : TxtC K mg) (G : AllG P w base T n) : FnG P w K mg base (n + 1) T.a_is_within T.d_is_within ["counts", "other_counts"] (SpecOf ⟨K, T.cv⟩ (fnOf 2 2 (b_is_within (fns n)))) :=
  fn_den T.F_is_within sc_is_within fun cdv A outer s H E hG hr tk po =>
    (ps_cons' (ps_expr' (pd_call G.g_check_counts hG hr rfl T.m_check_counts T.F_check_counts.kp T.b_check_counts tk (pda_cons (pd_var (pv 0)) pda_nil)))
    (ps_cons' (ps_expr' (pd_call G.g_check_counts hG hr rfl T.m_check_counts T.F_check_counts.kp T.b_check_counts tk (pda_cons (pd_var (pv 1)) pda_nil)))
    (ps_one' (ps_ret' (pd_call G.g_nowhere_greater hG hr rfl T.m_nowhere_greater T.F_nowhere_greater.kp T.b_nowhere_greater tk (pda_cons (pd_var (pv 0)) (pda_cons (pd_var (pv 1)) pda_nil)))))))
theorem g__law_cup (T : TxtC K mg) (G : AllG P w base T n) : FnG P w K mg base (n + 1) T.a__law_cup T.d__law_cup ["cell"] (SpecOf ⟨K, T.cv⟩ (fnOf 1 1 (b__law_cup (fns n)))) :=
  fn_den T.F__law_cup sc__law_cup fun cdv A outer s H E hG hr tk po =>
    (ps_one' (ps_ret' (pd_lst (pda_cons (pd_if (pdt_cmp op_ge ok_int2 (pd_var (pv 0)) (pd_op op_pow ok_pow pd_int pd_int) (nomark _)) (pd_op op_sub ok_sub (pd_callTy call_int1 ok_int (by rfl) T.n_int (by decide +kernel) (pda_cons (pd_var (pv 0)) pda_nil)) (pd_op op_pow ok_pow pd_int pd_int)) pd_int) (pda_cons (pd_op op_addA ok_add (pd_op op_mod ok_mod (pd_callTy call_int1 ok_int (by rfl) T.n_int (by decide +kernel) (pda_cons (pd_var (pv 0)) pda_nil)) pd_int) pd_int) pda_nil)))))
theorem g__law_sip (T : TxtC K mg) (G : AllG P w base T n) : FnG P w K mg base (n + 1) T.a__law_sip T.d__law_sip ["cup", "many"] (SpecOf ⟨K, T.cv⟩ (fnOf 2 3 (b__law_sip (fns n)))) :=
  fn_den T.F__law_sip sc__law_sip fun cdv A outer s H E hG hr tk po =>
    (ps_cons' (ps_if' (pdt_cmp op_gt ok_int2 (pd_ix (pd_var (pv 0)) pd_int (fun _ _ => rfl)) pd_int (nomark _)) (ps_cons' (ps_set' (i := 2) sc__law_sip.nd rfl (by first | exact Or.inl rfl | exact Or.inr rfl) (pd_op op_mod ok_mod (pd_callTy call_int1 ok_int (by rfl) T.n_int (by decide +kernel) (pda_cons (pd_ix (pd_var (pv 0)) pd_int (fun _ _ => rfl)) pda_nil)) (pd_var (pv 1))))
    (ps_cons' (ps_put' (pd_op op_fdivW ok_div (pd_ix (pd_var (pv 0)) pd_int (fun _ _ => rfl)) (pd_var (pv 1))) (pd_var (pv 0)) pd_int)
    (ps_one' (ps_ret' (pd_var (pv 2)))))) ps_nil')
    (ps_cons' (ps_put' (pd_op op_mod ok_mod (pd_callTy call_int1 ok_int (by rfl) T.n_int (by decide +kernel) (pda_cons (pd_op op_mulE ok_mulE (pd_ix (pd_var (pv 0)) pd_int (fun _ _ => rfl)) pd_int) pda_nil)) pd_int) (pd_var (pv 0)) pd_int)
    (ps_one' (ps_ret' (pd_op op_mod ok_mod (pd_op op_fdivW ok_div (pd_op op_mod ok_mod (pd_callTy call_int1 ok_int (by rfl) T.n_int (by decide +kernel) (pda_cons (pd_op op_mulE ok_mulE (pd_ix (pd_var (pv 0)) pd_int (fun _ _ => rfl)) (pd_ix (pd_var (pv 0)) pd_int (fun _ _ => rfl))) pda_nil)) pd_int) pd_int) (pd_var (pv 1)))))))
theorem g__law_same (T : TxtC K mg) (G : AllG P w base T n) : FnG P w K mg base (n + 1) T.a__law_same T.d__law_same ["found", "due"] (SpecOf ⟨K, T.cv⟩ (fnOf 2 3 (b__law_same (fns n)))) :=
  fn_den T.F__law_same sc__law_same fun cdv A outer s H E hG hr tk po =>
    (ps_cons' (ps_if' (pdt_cmp op_isA ok_isA (pd_var (pv 1)) pd_non (nomark _)) (ps_one' (ps_ret' (pd_cmp op_isA ok_isA (pd_var (pv 0)) pd_non (nomark _)))) ps_nil')
    (ps_cons' (ps_if' (pdt_cmp op_isA ok_isA (pd_var (pv 1)) pd_bl (nomark _)) (ps_one' (ps_ret' (pd_cmp op_isA ok_isA (pd_var (pv 0)) pd_bl (nomark _)))) ps_nil')
    (ps_cons' (ps_if' (pdt_cmp op_isA ok_isA (pd_var (pv 1)) pd_bl (nomark _)) (ps_one' (ps_ret' (pd_cmp op_isA ok_isA (pd_var (pv 0)) pd_bl (nomark _)))) ps_nil')
    (ps_cons' (ps_if' (pdt_val (pd_callB call_isi ok_isi (by rfl) T.n_isinstance (by decide +kernel) (pda_cons (pd_var (pv 1)) (pda_cons (pd_ty (n := "int") rfl T.n_int (by decide +kernel)) pda_nil)))) (ps_one' (ps_ret' (pd_and (pd_callB call_isi ok_isi (by rfl) T.n_isinstance (by decide +kernel) (pda_cons (pd_var (pv 0)) (pda_cons (pd_ty (n := "int") rfl T.n_int (by decide +kernel)) pda_nil))) (pd_and (pd_not (pd_callB call_isi ok_isi (by rfl) T.n_isinstance (by decide +kernel) (pda_cons (pd_var (pv 0)) (pda_cons (pd_ty (n := "bool") rfl T.n_bool (by decide +kernel)) pda_nil)))) (pd_one (pd_cmp (op_eqD hr.units) ok_eq (pd_var (pv 0)) (pd_var (pv 1)) (nomark _))))))) ps_nil')
    (ps_cons' (ps_if' (pdt_val (pd_callB call_isi ok_isi (by rfl) T.n_isinstance (by decide +kernel) (pda_cons (pd_var (pv 1)) (pda_cons (pd_ty (n := "str") rfl T.n_str (by decide +kernel)) pda_nil)))) (ps_one' (ps_ret' (pd_and (pd_callB call_isi ok_isi (by rfl) T.n_isinstance (by decide +kernel) (pda_cons (pd_var (pv 0)) (pda_cons (pd_ty (n := "str") rfl T.n_str (by decide +kernel)) pda_nil))) (pd_one (pd_cmp (op_eqD hr.units) ok_eq (pd_var (pv 0)) (pd_var (pv 1)) (nomark _)))))) ps_nil')
    (ps_cons' (ps_if' (PW.pt (pdw_or (pdt_cmp (op_neD hr.units) ok_ne (pd_callB call_isi ok_isi (by rfl) T.n_isinstance (by decide +kernel) (pda_cons (pd_var (pv 1)) (pda_cons (pd_ty (n := "tuple") rfl T.n_tuple (by decide +kernel)) pda_nil))) (pd_callB call_isi ok_isi (by rfl) T.n_isinstance (by decide +kernel) (pda_cons (pd_var (pv 0)) (pda_cons (pd_ty (n := "tuple") rfl T.n_tuple (by decide +kernel)) pda_nil))) (nomark _)) (pdw_one (pdt_cmp (op_neD hr.units) ok_ne (pd_callB call_isi ok_isi (by rfl) T.n_isinstance (by decide +kernel) (pda_cons (pd_var (pv 1)) (pda_cons (pd_ty (n := "list") rfl T.n_list (by decide +kernel)) pda_nil))) (pd_callB call_isi ok_isi (by rfl) T.n_isinstance (by decide +kernel) (pda_cons (pd_var (pv 0)) (pda_cons (pd_ty (n := "list") rfl T.n_list (by decide +kernel)) pda_nil))) (nomark _)) (by decide)))) (ps_one' (ps_ret' pd_bl)) ps_nil')
    (ps_cons' (ps_if' (pdt_cmp (op_neD hr.units) ok_ne (pd_callB call_len ok_len (by rfl) T.n_len (by decide +kernel) (pda_cons (pd_var (pv 0)) pda_nil)) (pd_callB call_len ok_len (by rfl) T.n_len (by decide +kernel) (pda_cons (pd_var (pv 1)) pda_nil)) (nomark _)) (ps_one' (ps_ret' pd_bl)) ps_nil')
    (ps_one' (ps_ret' (pd_callB (cr_all rfl) ok_all (by rfl) T.n_all (by decide +kernel) (pda_cons (pd_lcR (own := [("k", 2)]) rfl sc__law_same.nd (by rfl) T.n_range (pda_cons (pd_callB call_len ok_len (by rfl) T.n_len (by decide +kernel) (pda_cons (pd_var (pv 1)) pda_nil)) pda_nil) ⟨(blkOk_by (own := [("k", 2)]) (N := ["found", "due", "k"]) (sc := defScope s__law_same) (by decide +kernel)), (fun _ _ _ _ _ => pg_name (i := 2) sc__law_same.nd rfl (by first | exact Or.inl rfl | exact Or.inr rfl)), (tg_name _ 2), wipe_name, (fun _ _ _ _ _ => pdts_nil), (fun _ _ _ _ _ => have tk := takes0; (pd_call G.g__law_same hG hr rfl T.m__law_same T.F__law_same.kp T.b__law_same tk (pda_cons (pd_ix (pd_var (pv 0)) (pd_var (pv 2)) (fun _ _ => rfl)) (pda_cons (pd_ix (pd_var (pv 1)) (pd_var (pv 2)) (fun _ _ => rfl)) pda_nil))))⟩) pda_nil)))))))))))
theorem g__law_counts (T : TxtC K mg) (G : AllG P w base T n) : FnG P w K mg base (n + 1) T.a__law_counts T.d__law_counts ["cup", "deep"] (SpecOf ⟨K, T.cv⟩ (fnOf 2 6 (b__law_counts (fns n)))) :=
  fn_den T.F__law_counts sc__law_counts fun cdv A outer s H E hG hr tk po =>
    (ps_cons' (ps_set' (i := 2) sc__law_counts.nd rfl (by first | exact Or.inl rfl | exact Or.inr rfl) (pd_op op_addA ok_add (pd_ix (pd_lst (pda_cons (pd_op op_pow ok_pow pd_int pd_int) (pda_cons (pd_op op_mulE ok_mulE (pd_op op_pow ok_pow pd_int pd_int) (pd_op op_pow ok_pow pd_int pd_int)) pda_nil))) (pd_call G.g__law_sip hG hr rfl T.m__law_sip T.F__law_sip.kp T.b__law_sip tk (pda_cons (pd_var (pv 0)) (pda_cons pd_int pda_nil))) (fun _ _ => rfl)) (pd_call G.g__law_sip hG hr rfl T.m__law_sip T.F__law_sip.kp T.b__law_sip tk (pda_cons (pd_var (pv 0)) (pda_cons pd_int pda_nil)))))
    (ps_cons' (ps_set' (i := 3) sc__law_counts.nd rfl (by first | exact Or.inl rfl | exact Or.inr rfl) (pd_ix (pd_lst (pda_cons (pd_call G.g__law_sip hG hr rfl T.m__law_sip T.F__law_sip.kp T.b__law_sip tk (pda_cons (pd_var (pv 0)) (pda_cons pd_int pda_nil))) (pda_cons (pd_call G.g__law_sip hG hr rfl T.m__law_sip T.F__law_sip.kp T.b__law_sip tk (pda_cons (pd_var (pv 0)) (pda_cons pd_int pda_nil))) (pda_cons (pd_call G.g__law_sip hG hr rfl T.m__law_sip T.F__law_sip.kp T.b__law_sip tk (pda_cons (pd_var (pv 0)) (pda_cons pd_int pda_nil))) (pda_cons (pd_var (pv 2)) pda_nil))))) (pd_call G.g__law_sip hG hr rfl T.m__law_sip T.F__law_sip.kp T.b__law_sip tk (pda_cons (pd_var (pv 0)) (pda_cons pd_int pda_nil))) (fun _ _ => rfl)))
    (ps_cons' (ps_if' (PW.pt (pdw_or (pdt_cmp (op_eqD hr.units) ok_eq (pd_var (pv 1)) pd_int (nomark _)) (pdw_one (pdt_cmp (op_eqD hr.units) ok_eq (pd_call G.g__law_sip hG hr rfl T.m__law_sip T.F__law_sip.kp T.b__law_sip tk (pda_cons (pd_var (pv 0)) (pda_cons pd_int pda_nil))) pd_int (nomark _)) (by decide)))) (ps_one' (ps_ret' (pd_var (pv 3)))) ps_nil')
    (ps_cons' (ps_par' (i := 4) (j := 5) rfl sc__law_counts.nd rfl rfl (by decide) rfl rfl (pda_cons (pd_call G.g__law_counts hG hr rfl T.m__law_counts T.F__law_counts.kp T.b__law_counts tk (pda_cons (pd_var (pv 0)) (pda_cons (pd_op op_sub ok_sub (pd_var (pv 1)) pd_int) pda_nil))) (pda_cons (pd_call G.g__law_counts hG hr rfl T.m__law_counts T.F__law_counts.kp T.b__law_counts tk (pda_cons (pd_var (pv 0)) (pda_cons (pd_op op_sub ok_sub (pd_var (pv 1)) pd_int) pda_nil))) pda_nil)) (by rfl))
    (ps_cons' (ps_if' (pdt_cmp (op_eqD hr.units) ok_eq (pd_call G.g__law_sip hG hr rfl T.m__law_sip T.F__law_sip.kp T.b__law_sip tk (pda_cons (pd_var (pv 0)) (pda_cons pd_int pda_nil))) pd_int (nomark _)) (ps_one' (ps_par' (i := 4) (j := 5) rfl sc__law_counts.nd rfl rfl (by decide) rfl rfl (pda_cons (pd_var (pv 5)) (pda_cons (pd_var (pv 4)) pda_nil)) (by rfl))) ps_nil')
    (ps_cons' (ps_if' (pdt_val (pd_callB call_isi ok_isi (by rfl) T.n_isinstance (by decide +kernel) (pda_cons (pd_var (pv 4)) (pda_cons (pd_ty (n := "tuple") rfl T.n_tuple (by decide +kernel)) pda_nil)))) (ps_one' (ps_set' (i := 4) sc__law_counts.nd rfl (by first | exact Or.inl rfl | exact Or.inr rfl) (pd_tup (pda_cons pd_int (pda_cons (pd_ix (pd_var (pv 4)) pd_int (fun _ _ => rfl)) (pda_cons (pd_ix (pd_var (pv 4)) pd_int (fun _ _ => rfl)) pda_nil)))))) (ps_one' (ps_set' (i := 4) sc__law_counts.nd rfl (by first | exact Or.inl rfl | exact Or.inr rfl) pd_int)))
    (ps_cons' (ps_if' (pdt_cmp (op_eqD hr.units) ok_eq (pd_var (pv 5)) pd_int (nomark _)) (ps_one' (ps_set' (i := 5) sc__law_counts.nd rfl (by first | exact Or.inl rfl | exact Or.inr rfl) (pd_op op_addA ok_add pd_int (pd_call G.g__law_sip hG hr rfl T.m__law_sip T.F__law_sip.kp T.b__law_sip tk (pda_cons (pd_var (pv 0)) (pda_cons pd_int pda_nil)))))) ps_nil')
    (ps_cons' (ps_if' (pdt_cmp (op_eqD hr.units) ok_eq (pd_call G.g__law_sip hG hr rfl T.m__law_sip T.F__law_sip.kp T.b__law_sip tk (pda_cons (pd_var (pv 0)) (pda_cons pd_int pda_nil))) pd_int (nomark _)) (ps_one' (ps_par' (i := 4) (j := 5) rfl sc__law_counts.nd rfl rfl (by decide) rfl rfl (pda_cons (pd_var (pv 5)) (pda_cons (pd_var (pv 4)) pda_nil)) (by rfl))) ps_nil')
    (ps_one' (ps_ret' (pd_tup (pda_cons (pd_var (pv 3)) (pda_cons (pd_var (pv 4)) (pda_cons (pd_var (pv 5)) pda_nil))))))))))))))
theorem g__law_long (T : TxtC K mg) (G : AllG P w base T n) : FnG P w K mg base (n + 1) T.a__law_long T.d__law_long ["cup", "counts"] (SpecOf ⟨K, T.cv⟩ (fnOf 2 6 (b__law_long (fns n)))) :=
  fn_den T.F__law_long sc__law_long fun cdv A outer s H E hG hr tk po =>
    (ps_cons' (ps_set' (i := 2) sc__law_long.nd rfl (by first | exact Or.inl rfl | exact Or.inr rfl) (pd_if (pdt_not (pdt_val (pd_var (pv 1)))) (pd_call G.g__law_sip hG hr rfl T.m__law_sip T.F__law_sip.kp T.b__law_sip tk (pda_cons (pd_var (pv 0)) (pda_cons pd_int pda_nil))) (pd_call G.g__law_sip hG hr rfl T.m__law_sip T.F__law_sip.kp T.b__law_sip tk (pda_cons (pd_var (pv 0)) (pda_cons pd_int pda_nil)))))
    (ps_cons' (ps_if' (pdt_cmp op_gt ok_int2 (pd_call G.g__law_sip hG hr rfl T.m__law_sip T.F__law_sip.kp T.b__law_sip tk (pda_cons (pd_var (pv 0)) (pda_cons pd_int pda_nil))) pd_int (nomark _)) (ps_cons' (ps_forR' po rfl (by rfl) T.n_range (pda_cons (pd_op op_addA ok_add pd_int (pd_call G.g__law_sip hG hr rfl T.m__law_sip T.F__law_sip.kp T.b__law_sip tk (pda_cons (pd_var (pv 0)) (pda_cons pd_int pda_nil)))) pda_nil) (pg_name (i := 3) sc__law_long.nd rfl (by first | exact Or.inl rfl | exact Or.inr rfl)) (tg_name _ 3)
    (ps_cons' (ps_set' (i := 4) sc__law_long.nd rfl (by first | exact Or.inl rfl | exact Or.inr rfl) (pd_call G.g__law_sip hG hr rfl T.m__law_sip T.F__law_sip.kp T.b__law_sip tk (pda_cons (pd_var (pv 0)) (pda_cons pd_int pda_nil))))
    (ps_cons' (ps_if' (PW.pt (pdw_and (pdt_not (pdt_val (pd_callB call_isi ok_isi (by rfl) T.n_isinstance (by decide +kernel) (pda_cons (pd_var (pv 2)) (pda_cons (pd_ty (n := "tuple") rfl T.n_tuple (by decide +kernel)) pda_nil))))) (pdw_one (pdt_not (pdt_val (pd_var (pv 1)))) (by decide)))) (ps_one' (ps_set' (i := 4) sc__law_long.nd rfl (by first | exact Or.inl rfl | exact Or.inr rfl) (pd_op op_sub ok_sub pd_int (pd_var (pv 2))))) ps_nil')
    (ps_cons' (ps_if' (pdt_val (pd_var (pv 1))) (ps_one' (ps_asg' (pd_if (pdt_cmp (op_neD hr.units) ok_ne (pd_var (pv 2)) pd_int (nomark _)) (pd_tup (pda_cons (pd_var (pv 2)) (pda_cons pd_int pda_nil))) (pd_tup (pda_cons pd_int (pda_cons pd_int pda_nil)))) (pg_tup rfl (pgs_cons (pg_name (i := 2) sc__law_long.nd rfl (by first | exact Or.inl rfl | exact Or.inr rfl)) (pgs_cons (pg_name (i := 4) sc__law_long.nd rfl (by first | exact Or.inl rfl | exact Or.inr rfl)) pgs_nil))) (tg_tup (tgs_cons (tg_name _ 2) (tgs_cons (tg_name _ 4) (tgs_nil _))) rfl))) ps_nil')
    (ps_cons' (ps_if' (pdt_cmp (op_eqD hr.units) ok_eq (pd_call G.g__law_sip hG hr rfl T.m__law_sip T.F__law_sip.kp T.b__law_sip tk (pda_cons (pd_var (pv 0)) (pda_cons pd_int pda_nil))) pd_int (nomark _)) (ps_one' (ps_par' (i := 2) (j := 4) rfl sc__law_long.nd rfl rfl (by decide) rfl rfl (pda_cons (pd_var (pv 4)) (pda_cons (pd_var (pv 2)) pda_nil)) (by rfl))) ps_nil')
    (ps_one' (ps_set' (i := 2) sc__law_long.nd rfl (by first | exact Or.inl rfl | exact Or.inr rfl) (pd_if (pdt_val (pd_var (pv 1))) (pd_tup (pda_cons (pd_call G.g__law_sip hG hr rfl T.m__law_sip T.F__law_sip.kp T.b__law_sip tk (pda_cons (pd_var (pv 0)) (pda_cons pd_int pda_nil))) (pda_cons (pd_var (pv 2)) (pda_cons (pd_var (pv 4)) pda_nil)))) (pd_tup (pda_cons (pd_var (pv 2)) (pda_cons (pd_var (pv 4)) pda_nil)))))))))))
    (ps_one' (ps_ret' (pd_var (pv 2))))) ps_nil')
    (ps_cons' (ps_set' (i := 5) sc__law_long.nd rfl (by first | exact Or.inl rfl | exact Or.inr rfl) (pd_if (pdt_not (pdt_val (pd_var (pv 1)))) (pd_ix (pd_lst (pda_cons pd_int (pda_cons (pd_tup (pda_cons pd_int (pda_cons pd_int pda_nil))) pda_nil))) (pd_callTy call_int1 ok_int (by rfl) T.n_int (by decide +kernel) (pda_cons (pd_not (pd_var (pv 1))) pda_nil)) (fun _ _ => rfl)) (pd_tup (pda_cons pd_int (pda_cons pd_int (pda_cons pd_int pda_nil))))))
    (ps_cons' (ps_forR' po rfl (by rfl) T.n_range (pda_cons pd_int pda_nil) (pg_name (i := 3) sc__law_long.nd rfl (by first | exact Or.inl rfl | exact Or.inr rfl)) (tg_name _ 3)
    (ps_one' (ps_set' (i := 5) sc__law_long.nd rfl (by first | exact Or.inl rfl | exact Or.inr rfl) (pd_if (pdt_val (pd_var (pv 1))) (pd_tup (pda_cons pd_int (pda_cons (pd_var (pv 5)) (pda_cons (pd_var (pv 5)) pda_nil)))) (pd_tup (pda_cons (pd_var (pv 5)) (pda_cons (pd_var (pv 5)) pda_nil)))))))
    (ps_one' (ps_ret' (pd_var (pv 5))))))))
theorem g__law_size (T : TxtC K mg) (G : AllG P w base T n) : FnG P w K mg base (n + 1) T.a__law_size T.d__law_size ["tree"] (SpecOf ⟨K, T.cv⟩ (fnOf 1 1 (b__law_size (fns n)))) :=
  fn_den T.F__law_size sc__law_size fun cdv A outer s H E hG hr tk po =>
    (ps_cons' (ps_if' (pdt_not (pdt_val (pd_callB call_isi ok_isi (by rfl) T.n_isinstance (by decide +kernel) (pda_cons (pd_var (pv 0)) (pda_cons (pd_ty (n := "tuple") rfl T.n_tuple (by decide +kernel)) pda_nil))))) (ps_one' (ps_ret' pd_int)) ps_nil')
    (ps_one' (ps_ret' (pd_op op_addA ok_add (pd_op op_addA ok_add pd_int (pd_call G.g__law_size hG hr rfl T.m__law_size T.F__law_size.kp T.b__law_size tk (pda_cons (pd_ix (pd_var (pv 0)) (pd_un un_neg ok_neg pd_int) (fun _ _ => rfl)) pda_nil))) (pd_call G.g__law_size hG hr rfl T.m__law_size T.F__law_size.kp T.b__law_size tk (pda_cons (pd_ix (pd_var (pv 0)) (pd_un un_neg ok_neg pd_int) (fun _ _ => rfl)) pda_nil))))))
theorem g__law_least (T : TxtC K mg) (G : AllG P w base T n) : FnG P w K mg base (n + 1) T.a__law_least T.d__law_least ["counts"] (SpecOf ⟨K, T.cv⟩ (fnOf 1 1 (b__law_least (fns n)))) :=
  fn_den T.F__law_least sc__law_least fun cdv A outer s H E hG hr tk po =>
    (ps_cons' (ps_if' (pdt_not (pdt_val (pd_callB call_isi ok_isi (by rfl) T.n_isinstance (by decide +kernel) (pda_cons (pd_var (pv 0)) (pda_cons (pd_ty (n := "tuple") rfl T.n_tuple (by decide +kernel)) pda_nil))))) (ps_one' (ps_ret' (pd_var (pv 0)))) ps_nil')
    (ps_one' (ps_ret' (pd_op op_addA ok_add (pd_ix (pd_var (pv 0)) pd_int (fun _ _ => rfl)) (pd_callB (call_min2 rfl) ok_min2 (by rfl) T.n_min (by decide +kernel) (pda_cons (pd_call G.g__law_least hG hr rfl T.m__law_least T.F__law_least.kp T.b__law_least tk (pda_cons (pd_ix (pd_var (pv 0)) pd_int (fun _ _ => rfl)) pda_nil)) (pda_cons (pd_call G.g__law_least hG hr rfl T.m__law_least T.F__law_least.kp T.b__law_least tk (pda_cons (pd_ix (pd_var (pv 0)) pd_int (fun _ _ => rfl)) pda_nil)) pda_nil)))))))
theorem g__law_put (T : TxtC K mg) (G : AllG P w base T n) : FnG P w K mg base (n + 1) T.a__law_put T.d__law_put ["left", "right"] (SpecOf ⟨K, T.cv⟩ (fnOf 2 3 (b__law_put (fns n)))) :=
  fn_den T.F__law_put sc__law_put fun cdv A outer s H E hG hr tk po =>
    (ps_cons' (ps_if' (PW.pt (pdw_and (pdt_not (pdt_val (pd_callB call_isi ok_isi (by rfl) T.n_isinstance (by decide +kernel) (pda_cons (pd_var (pv 0)) (pda_cons (pd_ty (n := "tuple") rfl T.n_tuple (by decide +kernel)) pda_nil))))) (pdw_one (pdt_cmp (op_eqD hr.units) ok_eq (pd_var (pv 0)) (pd_var (pv 1)) (nomark _)) (by decide)))) (ps_one' (ps_ret' (pd_var (pv 0)))) ps_nil')
    (ps_cons' (ps_set' (i := 2) sc__law_put.nd rfl (by first | exact Or.inl rfl | exact Or.inr rfl) (pd_callB (call_min2 rfl) ok_min2 (by rfl) T.n_min (by decide +kernel) (pda_cons (pd_call G.g__law_least hG hr rfl T.m__law_least T.F__law_least.kp T.b__law_least tk (pda_cons (pd_var (pv 0)) pda_nil)) (pda_cons (pd_call G.g__law_least hG hr rfl T.m__law_least T.F__law_least.kp T.b__law_least tk (pda_cons (pd_var (pv 1)) pda_nil)) pda_nil))))
    (ps_one' (ps_ret' (pd_tup (pda_cons (pd_var (pv 2)) (pda_cons (pd_call G.g__law_lower hG hr rfl T.m__law_lower T.F__law_lower.kp T.b__law_lower tk (pda_cons (pd_var (pv 0)) (pda_cons (pd_var (pv 2)) pda_nil))) (pda_cons (pd_call G.g__law_lower hG hr rfl T.m__law_lower T.F__law_lower.kp T.b__law_lower tk (pda_cons (pd_var (pv 1)) (pda_cons (pd_var (pv 2)) pda_nil))) pda_nil))))))))
theorem g__law_lower (T : TxtC K mg) (G : AllG P w base T n) : FnG P w K mg base (n + 1) T.a__law_lower T.d__law_lower ["counts", "number"] (SpecOf ⟨K, T.cv⟩ (fnOf 2 2 (b__law_lower (fns n)))) :=
  fn_den T.F__law_lower sc__law_lower fun cdv A outer s H E hG hr tk po =>
    (ps_cons' (ps_if' (pdt_val (pd_callB call_isi ok_isi (by rfl) T.n_isinstance (by decide +kernel) (pda_cons (pd_var (pv 0)) (pda_cons (pd_ty (n := "tuple") rfl T.n_tuple (by decide +kernel)) pda_nil)))) (ps_one' (ps_ret' (pd_tup (pda_cons (pd_op op_sub ok_sub (pd_ix (pd_var (pv 0)) pd_int (fun _ _ => rfl)) (pd_var (pv 1))) (pda_cons (pd_ix (pd_var (pv 0)) pd_int (fun _ _ => rfl)) (pda_cons (pd_ix (pd_var (pv 0)) pd_int (fun _ _ => rfl)) pda_nil)))))) ps_nil')
    (ps_one' (ps_ret' (pd_op op_sub ok_sub (pd_var (pv 0)) (pd_var (pv 1))))))
theorem g__law_parts (T : TxtC K mg) (G : AllG P w base T n) : FnG P w K mg base (n + 1) T.a__law_parts T.d__law_parts ["counts"] (SpecOf ⟨K, T.cv⟩ (fnOf 1 1 (b__law_parts (fns n)))) :=
  fn_den T.F__law_parts sc__law_parts fun cdv A outer s H E hG hr tk po =>
    (ps_cons' (ps_if' (pdt_not (pdt_val (pd_callB call_isi ok_isi (by rfl) T.n_isinstance (by decide +kernel) (pda_cons (pd_var (pv 0)) (pda_cons (pd_ty (n := "tuple") rfl T.n_tuple (by decide +kernel)) pda_nil))))) (ps_one' (ps_ret' (pd_tup (pda_cons (pd_var (pv 0)) (pda_cons (pd_var (pv 0)) pda_nil))))) ps_nil')
    (ps_one' (ps_ret' (pd_tup (pda_cons (pd_call G.g__law_lower hG hr rfl T.m__law_lower T.F__law_lower.kp T.b__law_lower tk (pda_cons (pd_ix (pd_var (pv 0)) pd_int (fun _ _ => rfl)) (pda_cons (pd_un un_neg ok_neg (pd_ix (pd_var (pv 0)) pd_int (fun _ _ => rfl))) pda_nil))) (pda_cons (pd_call G.g__law_lower hG hr rfl T.m__law_lower T.F__law_lower.kp T.b__law_lower tk (pda_cons (pd_ix (pd_var (pv 0)) pd_int (fun _ _ => rfl)) (pda_cons (pd_un un_neg ok_neg (pd_ix (pd_var (pv 0)) pd_int (fun _ _ => rfl))) pda_nil))) pda_nil))))))
theorem g__law_join (T : TxtC K mg) (G : AllG P w base T n) : FnG P w K mg base (n + 1) T.a__law_join T.d__law_join ["one", "two"] (SpecOf ⟨K, T.cv⟩ (fnOf 2 6 (b__law_join (fns n)))) :=
  fn_den T.F__law_join sc__law_join fun cdv A outer s H E hG hr tk po =>
    (ps_cons' (ps_if' (PW.pt (pdw_and (pdt_not (pdt_val (pd_callB call_isi ok_isi (by rfl) T.n_isinstance (by decide +kernel) (pda_cons (pd_var (pv 0)) (pda_cons (pd_ty (n := "tuple") rfl T.n_tuple (by decide +kernel)) pda_nil))))) (pdw_one (pdt_not (pdt_val (pd_callB call_isi ok_isi (by rfl) T.n_isinstance (by decide +kernel) (pda_cons (pd_var (pv 1)) (pda_cons (pd_ty (n := "tuple") rfl T.n_tuple (by decide +kernel)) pda_nil))))) (by decide)))) (ps_one' (ps_ret' (pd_callB (call_max2 rfl) ok_max2 (by rfl) T.n_max (by decide +kernel) (pda_cons (pd_var (pv 0)) (pda_cons (pd_var (pv 1)) pda_nil))))) ps_nil')
    (ps_cons' (ps_asg' (pd_tup (pda_cons (pd_call G.g__law_parts hG hr rfl T.m__law_parts T.F__law_parts.kp T.b__law_parts tk (pda_cons (pd_var (pv 0)) pda_nil)) (pda_cons (pd_call G.g__law_parts hG hr rfl T.m__law_parts T.F__law_parts.kp T.b__law_parts tk (pda_cons (pd_var (pv 1)) pda_nil)) pda_nil))) (pg_tup rfl (pgs_cons (pg_tup rfl (pgs_cons (pg_name (i := 2) sc__law_join.nd rfl (by first | exact Or.inl rfl | exact Or.inr rfl)) (pgs_cons (pg_name (i := 3) sc__law_join.nd rfl (by first | exact Or.inl rfl | exact Or.inr rfl)) pgs_nil))) (pgs_cons (pg_tup rfl (pgs_cons (pg_name (i := 4) sc__law_join.nd rfl (by first | exact Or.inl rfl | exact Or.inr rfl)) (pgs_cons (pg_name (i := 5) sc__law_join.nd rfl (by first | exact Or.inl rfl | exact Or.inr rfl)) pgs_nil))) pgs_nil))) (tg_tup (tgs_cons (tg_tup (tgs_cons (tg_name _ 2) (tgs_cons (tg_name _ 3) (tgs_nil _))) rfl) (tgs_cons (tg_tup (tgs_cons (tg_name _ 4) (tgs_cons (tg_name _ 5) (tgs_nil _))) rfl) (tgs_nil _))) rfl))
    (ps_one' (ps_ret' (pd_call G.g__law_put hG hr rfl T.m__law_put T.F__law_put.kp T.b__law_put tk (pda_cons (pd_call G.g__law_join hG hr rfl T.m__law_join T.F__law_join.kp T.b__law_join tk (pda_cons (pd_var (pv 2)) (pda_cons (pd_var (pv 4)) pda_nil))) (pda_cons (pd_call G.g__law_join hG hr rfl T.m__law_join T.F__law_join.kp T.b__law_join tk (pda_cons (pd_var (pv 3)) (pda_cons (pd_var (pv 5)) pda_nil))) pda_nil)))))))
theorem g__law_worth (T : TxtC K mg) (G : AllG P w base T n) : FnG P w K mg base (n + 1) T.a__law_worth T.d__law_worth ["counts", "path"] (SpecOf ⟨K, T.cv⟩ (fnOf 2 5 (b__law_worth (fns n)))) :=
  fn_den T.F__law_worth sc__law_worth fun cdv A outer s H E hG hr tk po =>
    (ps_cons' (ps_if' (pdt_not (pdt_val (pd_callB call_isi ok_isi (by rfl) T.n_isinstance (by decide +kernel) (pda_cons (pd_var (pv 0)) (pda_cons (pd_ty (n := "tuple") rfl T.n_tuple (by decide +kernel)) pda_nil))))) (ps_one' (ps_ret' (pd_tup (pda_cons (pd_var (pv 0)) (pda_cons (pd_var (pv 0)) pda_nil))))) ps_nil')
    (ps_cons' (ps_if' (pdt_cmp (op_neD hr.units) ok_ne (pd_var (pv 1)) (pd_tup pda_nil) (nomark _)) (ps_cons' (ps_asg' (pd_call G.g__law_worth hG hr rfl T.m__law_worth T.F__law_worth.kp T.b__law_worth tk (pda_cons (pd_ix (pd_var (pv 0)) (pd_op op_addA ok_add pd_int (pd_ix (pd_var (pv 1)) pd_int (fun _ _ => rfl))) (fun _ _ => rfl)) (pda_cons (pd_sl (pd_var (pv 1)) (pdo_some pd_int) pdo_none) pda_nil))) (pg_tup rfl (pgs_cons (pg_name (i := 2) sc__law_worth.nd rfl (by first | exact Or.inl rfl | exact Or.inr rfl)) (pgs_cons (pg_name (i := 3) sc__law_worth.nd rfl (by first | exact Or.inl rfl | exact Or.inr rfl)) pgs_nil))) (tg_tup (tgs_cons (tg_name _ 2) (tgs_cons (tg_name _ 3) (tgs_nil _))) rfl))
    (ps_one' (ps_ret' (pd_tup (pda_cons (pd_op op_addA ok_add (pd_ix (pd_var (pv 0)) pd_int (fun _ _ => rfl)) (pd_var (pv 2))) (pda_cons (pd_op op_addA ok_add (pd_ix (pd_var (pv 0)) pd_int (fun _ _ => rfl)) (pd_var (pv 3))) pda_nil)))))) ps_nil')
    (ps_cons' (ps_set' (i := 4) sc__law_worth.nd rfl (by first | exact Or.inl rfl | exact Or.inr rfl) (pd_op op_addA ok_add (pd_call G.g__law_worth hG hr rfl T.m__law_worth T.F__law_worth.kp T.b__law_worth tk (pda_cons (pd_ix (pd_var (pv 0)) pd_int (fun _ _ => rfl)) (pda_cons (pd_tup pda_nil) pda_nil))) (pd_call G.g__law_worth hG hr rfl T.m__law_worth T.F__law_worth.kp T.b__law_worth tk (pda_cons (pd_ix (pd_var (pv 0)) pd_int (fun _ _ => rfl)) (pda_cons (pd_tup pda_nil) pda_nil)))))
    (ps_one' (ps_ret' (pd_tup (pda_cons (pd_op op_addA ok_add (pd_ix (pd_var (pv 0)) pd_int (fun _ _ => rfl)) (pd_callB (cr_minT rfl) ok_minT (by rfl) T.n_min (by decide +kernel) (pda_cons (pd_var (pv 4)) pda_nil))) (pda_cons (pd_op op_addA ok_add (pd_ix (pd_var (pv 0)) pd_int (fun _ _ => rfl)) (pd_callB (cr_maxT rfl) ok_maxT (by rfl) T.n_max (by decide +kernel) (pda_cons (pd_var (pv 4)) pda_nil))) pda_nil))))))))
theorem g__law_beyond (T : TxtC K mg) (G : AllG P w base T n) : FnG P w K mg base (n + 1) T.a__law_beyond T.d__law_beyond ["full", "deep"] (SpecOf ⟨K, T.cv⟩ (fnOf 2 3 (b__law_beyond (fns n)))) :=
  fn_den T.F__law_beyond sc__law_beyond fun cdv A outer s H E hG hr tk po =>
    (ps_cons' (ps_forR' po rfl (by rfl) T.n_range (pda_cons pd_int pda_nil) (pg_name (i := 2) sc__law_beyond.nd rfl (by first | exact Or.inl rfl | exact Or.inr rfl)) (tg_name _ 2)
    (ps_one' (ps_set' (i := 0) sc__law_beyond.nd rfl (by first | exact Or.inl rfl | exact Or.inr rfl) (pd_op op_addA ok_add (pd_sl (pd_var (pv 0)) pdo_none (pdo_some (pd_un un_neg ok_neg pd_int))) (pd_tup (pda_cons (pd_var (pv 0)) (pda_cons (pd_var (pv 0)) pda_nil)))))))
    (ps_cons' (ps_forR' po rfl (by rfl) T.n_range (pda_cons pd_int pda_nil) (pg_name (i := 2) sc__law_beyond.nd rfl (by first | exact Or.inl rfl | exact Or.inr rfl)) (tg_name _ 2)
    (ps_one' (ps_set' (i := 1) sc__law_beyond.nd rfl (by first | exact Or.inl rfl | exact Or.inr rfl) (pd_op op_addA ok_add (pd_sl (pd_var (pv 1)) pdo_none (pdo_some (pd_un un_neg ok_neg pd_int))) (pd_tup (pda_cons pd_int (pda_cons (pd_var (pv 1)) pda_nil)))))))
    (ps_one' (ps_ret' (pd_lst (pda_cons (pd_var (pv 0)) (pda_cons (pd_var (pv 1)) pda_nil)))))))
theorem g__law_bad_counts (T : TxtC K mg) (G : AllG P w base T n) : FnG P w K mg base (n + 1) T.a__law_bad_counts T.d__law_bad_counts ["cup", "counts"] (SpecOf ⟨K, T.cv⟩ (fnOf 2 3 (b__law_bad_counts (fns n)))) :=
  fn_den T.F__law_bad_counts sc__law_bad_counts fun cdv A outer s H E hG hr tk po =>
    (ps_cons' (ps_set' (i := 2) sc__law_bad_counts.nd rfl (by first | exact Or.inl rfl | exact Or.inr rfl) (pd_lst (pda_cons pd_non (pda_cons (pd_un un_neg ok_neg pd_int) (pda_cons pd_bl (pda_cons pd_bl (pda_cons pd_str (pda_cons (pd_tup (pda_cons pd_int (pda_cons pd_int pda_nil))) (pda_cons (pd_tup (pda_cons pd_int (pda_cons pd_int (pda_cons pd_int pda_nil)))) (pda_cons (pd_tup (pda_cons pd_int (pda_cons pd_int (pda_cons pd_int pda_nil)))) (pda_cons (pd_tup (pda_cons pd_int (pda_cons (pd_tup (pda_cons pd_int (pda_cons pd_int (pda_cons pd_int pda_nil)))) (pda_cons pd_int pda_nil)))) (pda_cons (pd_tup (pda_cons pd_int (pda_cons pd_int (pda_cons pd_int pda_nil)))) (pda_cons (pd_lst (pda_cons pd_int (pda_cons pd_int (pda_cons pd_int pda_nil)))) (pda_cons (pd_tup (pda_cons pd_bl (pda_cons pd_int (pda_cons pd_int pda_nil)))) pda_nil))))))))))))))
    (ps_cons' (ps_set' (i := 2) sc__law_bad_counts.nd rfl (by first | exact Or.inl rfl | exact Or.inr rfl) (pd_op op_addA ok_add (pd_var (pv 2)) (pd_lst (pda_cons (pd_tup (pda_cons pd_int (pda_cons pd_int (pda_cons pd_bl pda_nil)))) (pda_cons (pd_tup (pda_cons (pd_un un_neg ok_neg pd_int) (pda_cons pd_int (pda_cons pd_int pda_nil)))) (pda_cons (pd_tup (pda_cons pd_int (pda_cons pd_int (pda_cons (pd_un un_neg ok_neg pd_int) pda_nil)))) (pda_cons (pd_tup (pda_cons pd_int (pda_cons (pd_var (pv 1)) (pda_cons pd_non pda_nil)))) (pda_cons (pd_tup (pda_cons pd_non (pda_cons (pd_var (pv 1)) (pda_cons pd_int pda_nil)))) (pda_cons (pd_tup (pda_cons (pd_var (pv 1)) pda_nil)) (pda_cons (pd_lst (pda_cons (pd_var (pv 1)) pda_nil)) (pda_cons (pd_tup pda_nil) pda_nil)))))))))))
    (ps_cons' (ps_set' (i := 2) sc__law_bad_counts.nd rfl (by first | exact Or.inl rfl | exact Or.inr rfl) (pd_op op_addA ok_add (pd_var (pv 2)) (pd_lst (pda_cons (pd_tup (pda_cons pd_int (pda_cons pd_int (pda_cons (pd_tup (pda_cons pd_int (pda_cons pd_int (pda_cons pd_int pda_nil)))) pda_nil)))) (pda_cons (pd_tup (pda_cons pd_str (pda_cons pd_int (pda_cons pd_int pda_nil)))) (pda_cons (pd_un un_neg ok_neg (pd_op op_pow ok_pow pd_int pd_int)) (pda_cons (pd_tup (pda_cons (pd_tup (pda_cons pd_int (pda_cons pd_int (pda_cons pd_int pda_nil)))) (pda_cons pd_int (pda_cons pd_int pda_nil)))) (pda_cons (pd_tup (pda_cons pd_int (pda_cons pd_int (pda_cons (pd_lst (pda_cons pd_int (pda_cons pd_int (pda_cons pd_int pda_nil)))) pda_nil)))) pda_nil))))))))
    (ps_one' (ps_ret' (pd_ix (pd_op op_addA ok_add (pd_var (pv 2)) (pd_call G.g__law_beyond hG hr rfl T.m__law_beyond T.F__law_beyond.kp T.b__law_beyond tk (pda_cons (pd_tup (pda_cons pd_int (pda_cons pd_int (pda_cons pd_int pda_nil)))) (pda_cons (pd_tup (pda_cons pd_int (pda_cons pd_int (pda_cons pd_int pda_nil)))) pda_nil)))) (pd_call G.g__law_sip hG hr rfl T.m__law_sip T.F__law_sip.kp T.b__law_sip tk (pda_cons (pd_var (pv 0)) (pda_cons pd_int pda_nil))) (fun _ _ => rfl)))))))
theorem g__law_bad_path (T : TxtC K mg) (G : AllG P w base T n) : FnG P w K mg base (n + 1) T.a__law_bad_path T.d__law_bad_path ["cup"] (SpecOf ⟨K, T.cv⟩ (fnOf 1 2 (b__law_bad_path (fns n)))) :=
  fn_den T.F__law_bad_path sc__law_bad_path fun cdv A outer s H E hG hr tk po =>
    (ps_cons' (ps_set' (i := 1) sc__law_bad_path.nd rfl (by first | exact Or.inl rfl | exact Or.inr rfl) (pd_lst (pda_cons pd_int (pda_cons pd_non (pda_cons pd_str (pda_cons (pd_lst (pda_cons pd_int pda_nil)) (pda_cons (pd_tup (pda_cons pd_int pda_nil)) (pda_cons (pd_tup (pda_cons pd_bl pda_nil)) (pda_cons (pd_tup (pda_cons (pd_un un_neg ok_neg pd_int) pda_nil)) (pda_cons (pd_tup (pda_cons pd_int (pda_cons pd_non pda_nil))) (pda_cons (pd_tup (pda_cons pd_str pda_nil)) (pda_cons (pd_op op_repTB ok_repT (pd_tup (pda_cons pd_int pda_nil)) pd_int) (pda_cons (pd_tup (pda_cons pd_int (pda_cons pd_int (pda_cons (pd_lst (pda_cons pd_int pda_nil)) pda_nil)))) (pda_cons (pd_tup (pda_cons (pd_tup (pda_cons pd_int pda_nil)) pda_nil)) (pda_cons (pd_tup (pda_cons pd_bl (pda_cons pd_int pda_nil))) (pda_cons (pd_op op_pow ok_pow pd_int pd_int) pda_nil))))))))))))))))
    (ps_one' (ps_ret' (pd_ix (pd_var (pv 1)) (pd_call G.g__law_sip hG hr rfl T.m__law_sip T.F__law_sip.kp T.b__law_sip tk (pda_cons (pd_var (pv 0)) (pda_cons pd_int pda_nil))) (fun _ _ => rfl)))))
theorem g__law_path (T : TxtC K mg) (G : AllG P w base T n) : FnG P w K mg base (n + 1) T.a__law_path T.d__law_path ["cup"] (SpecOf ⟨K, T.cv⟩ (fnOf 1 2 (b__law_path (fns n)))) :=
  fn_den T.F__law_path sc__law_path fun cdv A outer s H E hG hr tk po =>
    (ps_one' (ps_ret' (pd_callTy call_tuple_of ok_tuple (by rfl) T.n_tuple (by decide +kernel) (pda_cons (pd_lcR (own := [("turn", 1)]) rfl sc__law_path.nd (by rfl) T.n_range (pda_cons (pd_ix (pd_lst (pda_cons (pd_call G.g__law_sip hG hr rfl T.m__law_sip T.F__law_sip.kp T.b__law_sip tk (pda_cons (pd_var (pv 0)) (pda_cons pd_int pda_nil))) (pda_cons (pd_call G.g__law_sip hG hr rfl T.m__law_sip T.F__law_sip.kp T.b__law_sip tk (pda_cons (pd_var (pv 0)) (pda_cons pd_int pda_nil))) pda_nil))) (pd_call G.g__law_sip hG hr rfl T.m__law_sip T.F__law_sip.kp T.b__law_sip tk (pda_cons (pd_var (pv 0)) (pda_cons pd_int pda_nil))) (fun _ _ => rfl)) pda_nil) ⟨(blkOk_by (own := [("turn", 1)]) (N := ["cup", "turn"]) (sc := defScope s__law_path) (by decide +kernel)), (fun _ _ _ _ _ => pg_name (i := 1) sc__law_path.nd rfl (by first | exact Or.inl rfl | exact Or.inr rfl)), (tg_name _ 1), wipe_name, (fun _ _ _ _ _ => pdts_nil), (fun _ _ _ _ _ => have tk := takes0; (pd_call G.g__law_sip hG hr rfl T.m__law_sip T.F__law_sip.kp T.b__law_sip tk (pda_cons (pd_var (pv 0)) (pda_cons pd_int pda_nil))))⟩) pda_nil))))
theorem g__law_said (T : TxtC K mg) (G : AllG P w base T n) : FnG P w K mg base (n + 1) T.a__law_said T.d__law_said ["door", "counts", "other"] (SpecOf ⟨K, T.cv⟩ (fnOf 3 5 (b__law_said (fns n)))) :=
  fn_den T.F__law_said sc__law_said fun cdv A outer s H E hG hr tk po =>
    (ps_cons' (ps_set' (i := 3) sc__law_said.nd rfl (by first | exact Or.inl rfl | exact Or.inr rfl) pd_str)
    (ps_cons' (ps_tryE T.cls rfl rfl sc__law_said.nd tk (fun W pn xe tk po => (ps_one' (ps_if' (pdt_cmp (op_eqD hr.units) ok_eq (pd_var (pv 0)) pd_int (nomark _)) (ps_one' (ps_set' (i := 3) sc__law_said.nd rfl (by first | exact Or.inl rfl | exact Or.inr rfl) (pd_callK0 (is := [1, 0]) G.g_joined hG hr rfl T.m_joined T.F_joined.kp T.kb_joined_other_counts_counts tk (pdk_cons (pd_var (pv 2)) (pdk_cons (pd_var (pv 1)) pdk_nil))))) (ps_one' (ps_if' (pdt_cmp (op_eqD hr.units) ok_eq (pd_var (pv 0)) pd_int (nomark _)) (ps_one' (ps_set' (i := 3) sc__law_said.nd rfl (by first | exact Or.inl rfl | exact Or.inr rfl) (pd_callK0 (is := [1, 0]) G.g_is_within hG hr rfl T.m_is_within T.F_is_within.kp T.kb_is_within_other_counts_counts tk (pdk_cons (pd_var (pv 2)) (pdk_cons (pd_var (pv 1)) pdk_nil))))) (ps_one' (ps_set' (i := 3) sc__law_said.nd rfl (by first | exact Or.inl rfl | exact Or.inr rfl) (pd_callK0 (is := [1, 0]) G.g_worth_at hG hr rfl T.m_worth_at T.F_worth_at.kp T.kb_worth_at_path_counts tk (pdk_cons (pd_var (pv 2)) (pdk_cons (pd_var (pv 1)) pdk_nil))))))))))
    (.plain (c := 1) ⟨rfl, by decide, Or.inl T.m_InvalidCounts⟩ (fun _ _ => (ps_one' (ps_set' (i := 3) sc__law_said.nd rfl (by first | exact Or.inl rfl | exact Or.inr rfl) pd_str))) (.plain (c := 2) ⟨rfl, by decide, Or.inl T.m_InvalidPath⟩ (fun _ _ => (ps_one' (ps_set' (i := 3) sc__law_said.nd rfl (by first | exact Or.inl rfl | exact Or.inr rfl) pd_str))) (.named (c := 3) (i := 4) ⟨rfl, by decide, Or.inl T.m_TooMany⟩ rfl rfl rfl (fun _ _ _ _ _ hz hv => pss_one (ps_set (i := 3) sc__law_said.nd rfl (by first | exact Or.inl rfl | exact Or.inr rfl) (pe_lst (pa_cons pe_str (pa_cons (pe_xf T.xf_TooMany T.nf_TooMany hz hv (pv 4)) pa_nil))))) (fun _ _ _ => su_lst (mb_c (fun _ _ => .str _) (mb_f mb_nil))) (.plain (c := 0) ⟨rfl, by decide, Or.inl T.m_StampError⟩ (fun _ _ => (ps_one' (ps_set' (i := 3) sc__law_said.nd rfl (by first | exact Or.inl rfl | exact Or.inr rfl) pd_str))) .nil)))))
    (ps_one' (ps_ret' (pd_var (pv 3))))))
theorem g__law_pair_right (T : TxtC K mg) (G : AllG P w base T n) : FnG P w K mg base (n + 1) T.a__law_pair_right T.d__law_pair_right ["cup", "one", "two"] (SpecOf ⟨K, T.cv⟩ (fnOf 3 9 (b__law_pair_right (fns n)))) :=
  fn_den T.F__law_pair_right sc__law_pair_right fun cdv A outer s H E hG hr tk po =>
    (ps_cons' (ps_set' (i := 3) sc__law_pair_right.nd rfl (by first | exact Or.inl rfl | exact Or.inr rfl) (pd_call G.g__law_join hG hr rfl T.m__law_join T.F__law_join.kp T.b__law_join tk (pda_cons (pd_var (pv 1)) (pda_cons (pd_var (pv 2)) pda_nil))))
    (ps_cons' (ps_set' (i := 4) sc__law_pair_right.nd rfl (by first | exact Or.inl rfl | exact Or.inr rfl) (pd_if (pdt_cmp op_gt ok_int2 (pd_call G.g__law_size hG hr rfl T.m__law_size T.F__law_size.kp T.b__law_size tk (pda_cons (pd_var (pv 3)) pda_nil)) pd_int (nomark _)) (pd_lst (pda_cons pd_str (pda_cons pd_int pda_nil))) (pd_var (pv 3))))
    (ps_cons' (ps_if' (pdt_not (pdt_val (pd_call G.g__law_same hG hr rfl T.m__law_same T.F__law_same.kp T.b__law_same tk (pda_cons (pd_lst (pda_cons (pd_call G.g__law_said hG hr rfl T.m__law_said T.F__law_said.kp T.b__law_said tk (pda_cons pd_int (pda_cons (pd_var (pv 1)) (pda_cons (pd_var (pv 2)) pda_nil)))) (pda_cons (pd_call G.g__law_said hG hr rfl T.m__law_said T.F__law_said.kp T.b__law_said tk (pda_cons pd_int (pda_cons (pd_var (pv 2)) (pda_cons (pd_var (pv 1)) pda_nil)))) pda_nil))) (pda_cons (pd_lst (pda_cons (pd_var (pv 4)) (pda_cons (pd_var (pv 4)) pda_nil))) pda_nil))))) (ps_one' (ps_ret' pd_bl)) ps_nil')
    (ps_cons' (ps_if' (PW.pt (pdw_and (pdt_val (pd_callB call_isi ok_isi (by rfl) T.n_isinstance (by decide +kernel) (pda_cons (pd_var (pv 4)) (pda_cons (pd_ty (n := "tuple") rfl T.n_tuple (by decide +kernel)) pda_nil)))) (pdw_one (pdt_not (pdt_val (pd_call G.g__law_same hG hr rfl T.m__law_same T.F__law_same.kp T.b__law_same tk (pda_cons (pd_call G.g_joined hG hr rfl T.m_joined T.F_joined.kp T.b_joined tk (pda_cons (pd_var (pv 1)) (pda_cons (pd_var (pv 2)) pda_nil))) (pda_cons (pd_var (pv 3)) pda_nil))))) (by decide)))) (ps_one' (ps_ret' pd_bl)) ps_nil')
    (ps_cons' (ps_if' (pdt_not (pdt_val (pd_call G.g__law_same hG hr rfl T.m__law_same T.F__law_same.kp T.b__law_same tk (pda_cons (pd_lst (pda_cons (pd_call G.g_is_within hG hr rfl T.m_is_within T.F_is_within.kp T.b_is_within tk (pda_cons (pd_var (pv 1)) (pda_cons (pd_var (pv 2)) pda_nil))) (pda_cons (pd_call G.g__law_said hG hr rfl T.m__law_said T.F__law_said.kp T.b__law_said tk (pda_cons pd_int (pda_cons (pd_var (pv 1)) (pda_cons (pd_var (pv 2)) pda_nil)))) pda_nil))) (pda_cons (pd_lst (pda_cons (pd_cmp (op_eqD hr.units) ok_eq (pd_var (pv 3)) (pd_var (pv 2)) (nomark _)) (pda_cons (pd_cmp (op_eqD hr.units) ok_eq (pd_var (pv 3)) (pd_var (pv 2)) (nomark _)) pda_nil))) pda_nil))))) (ps_one' (ps_ret' pd_bl)) ps_nil')
    (ps_cons' (ps_forC' po rfl (pd_lst (pda_cons (pd_call G.g__law_path hG hr rfl T.m__law_path T.F__law_path.kp T.b__law_path tk (pda_cons (pd_var (pv 0)) pda_nil)) (pda_cons (pd_tup pda_nil) pda_nil))) (pg_name (i := 5) sc__law_pair_right.nd rfl (by first | exact Or.inl rfl | exact Or.inr rfl)) (tg_name _ 5)
    (ps_cons' (ps_asg' (pd_call G.g__law_worth hG hr rfl T.m__law_worth T.F__law_worth.kp T.b__law_worth tk (pda_cons (pd_var (pv 1)) (pda_cons (pd_var (pv 5)) pda_nil))) (pg_tup rfl (pgs_cons (pg_name (i := 6) sc__law_pair_right.nd rfl (by first | exact Or.inl rfl | exact Or.inr rfl)) (pgs_cons (pg_name (i := 7) sc__law_pair_right.nd rfl (by first | exact Or.inl rfl | exact Or.inr rfl)) pgs_nil))) (tg_tup (tgs_cons (tg_name _ 6) (tgs_cons (tg_name _ 7) (tgs_nil _))) rfl))
    (ps_cons' (ps_if' (pdt_not (pdt_val (pd_call G.g__law_same hG hr rfl T.m__law_same T.F__law_same.kp T.b__law_same tk (pda_cons (pd_lst (pda_cons (pd_call G.g_worth_at hG hr rfl T.m_worth_at T.F_worth_at.kp T.b_worth_at tk (pda_cons (pd_var (pv 1)) (pda_cons (pd_var (pv 5)) pda_nil))) (pda_cons (pd_call G.g__law_said hG hr rfl T.m__law_said T.F__law_said.kp T.b__law_said tk (pda_cons pd_int (pda_cons (pd_var (pv 1)) (pda_cons (pd_var (pv 5)) pda_nil)))) pda_nil))) (pda_cons (pd_lst (pda_cons (pd_tup (pda_cons (pd_var (pv 6)) (pda_cons (pd_var (pv 7)) pda_nil))) (pda_cons (pd_tup (pda_cons (pd_var (pv 6)) (pda_cons (pd_var (pv 7)) pda_nil))) pda_nil))) pda_nil))))) (ps_one' (ps_ret' pd_bl)) ps_nil')
    (ps_cons' (ps_set' (i := 8) sc__law_pair_right.nd rfl (by first | exact Or.inl rfl | exact Or.inr rfl) (pd_lst (pda_cons (pd_call G.g__law_worth hG hr rfl T.m__law_worth T.F__law_worth.kp T.b__law_worth tk (pda_cons (pd_var (pv 2)) (pda_cons (pd_var (pv 5)) pda_nil))) (pda_cons (pd_call G.g__law_worth hG hr rfl T.m__law_worth T.F__law_worth.kp T.b__law_worth tk (pda_cons (pd_var (pv 3)) (pda_cons (pd_var (pv 5)) pda_nil))) pda_nil))))
    (ps_one' (ps_if' (PW.pt (pdw_or (pdt_cmp (op_neD hr.units) ok_ne (pd_ix (pd_ix (pd_var (pv 8)) pd_int (fun _ _ => rfl)) pd_int (fun _ _ => rfl)) (pd_callB (call_max2 rfl) ok_max2 (by rfl) T.n_max (by decide +kernel) (pda_cons (pd_var (pv 7)) (pda_cons (pd_ix (pd_ix (pd_var (pv 8)) pd_int (fun _ _ => rfl)) pd_int (fun _ _ => rfl)) pda_nil))) (nomark _)) (pdw_one (pdt_cmp op_lt ok_int2 (pd_ix (pd_ix (pd_var (pv 8)) pd_int (fun _ _ => rfl)) pd_int (fun _ _ => rfl)) (pd_callB (call_max2 rfl) ok_max2 (by rfl) T.n_max (by decide +kernel) (pda_cons (pd_var (pv 6)) (pda_cons (pd_ix (pd_ix (pd_var (pv 8)) pd_int (fun _ _ => rfl)) pd_int (fun _ _ => rfl)) pda_nil))) (nomark _)) (by decide)))) (ps_one' (ps_ret' pd_bl)) ps_nil'))))))
    (ps_one' (ps_ret' pd_bl))))))))
theorem g_law (T : TxtC K mg) (G : AllG P w base T n) : FnG P w K mg base (n + 1) T.a_law T.d_law ["script"] (SpecOf ⟨K, T.cv⟩ (fnOf 1 17 (b_law (fns n)))) :=
  fn_den T.F_law sc_law fun cdv A outer s H E hG hr tk po =>
    (ps_cons' (ps_forC' po rfl (pd_op op_addA ok_add (pd_lst (pda_cons pd_int pda_nil)) (pd_sl (pd_var (pv 0)) pdo_none (pdo_some pd_int))) (pg_name (i := 1) sc_law.nd rfl (by first | exact Or.inl rfl | exact Or.inr rfl)) (tg_name _ 1)
    (ps_cons' (ps_set' (i := 2) sc_law.nd rfl (by first | exact Or.inl rfl | exact Or.inr rfl) (pd_call G.g__law_cup hG hr rfl T.m__law_cup T.F__law_cup.kp T.b__law_cup tk (pda_cons (pd_var (pv 1)) pda_nil)))
    (ps_cons' (ps_set' (i := 3) sc_law.nd rfl (by first | exact Or.inl rfl | exact Or.inr rfl) (pd_lst (pda_cons (pd_call G.g__law_counts hG hr rfl T.m__law_counts T.F__law_counts.kp T.b__law_counts tk (pda_cons (pd_var (pv 2)) (pda_cons pd_int pda_nil))) (pda_cons (pd_call G.g__law_counts hG hr rfl T.m__law_counts T.F__law_counts.kp T.b__law_counts tk (pda_cons (pd_var (pv 2)) (pda_cons pd_int pda_nil))) (pda_cons (pd_ix (pd_lst (pda_cons (pd_call G.g__law_long hG hr rfl T.m__law_long T.F__law_long.kp T.b__law_long tk (pda_cons (pd_var (pv 2)) (pda_cons pd_bl pda_nil))) (pda_cons (pd_call G.g__law_counts hG hr rfl T.m__law_counts T.F__law_counts.kp T.b__law_counts tk (pda_cons (pd_var (pv 2)) (pda_cons pd_int pda_nil))) pda_nil))) (pd_call G.g__law_sip hG hr rfl T.m__law_sip T.F__law_sip.kp T.b__law_sip tk (pda_cons (pd_var (pv 2)) (pda_cons pd_int pda_nil))) (fun _ _ => rfl)) pda_nil)))))
    (ps_cons' (ps_set' (i := 4) sc_law.nd rfl (by first | exact Or.inl rfl | exact Or.inr rfl) (pd_call G.g__law_join hG hr rfl T.m__law_join T.F__law_join.kp T.b__law_join tk (pda_cons (pd_ix (pd_var (pv 3)) pd_int (fun _ _ => rfl)) (pda_cons (pd_ix (pd_var (pv 3)) pd_int (fun _ _ => rfl)) pda_nil))))
    (ps_cons' (ps_set' (i := 3) sc_law.nd rfl (by first | exact Or.inl rfl | exact Or.inr rfl) (pd_op op_addA ok_add (pd_op op_addA ok_add (pd_var (pv 3)) (pd_lst (pda_cons pd_int (pda_cons (pd_call G.g__law_sip hG hr rfl T.m__law_sip T.F__law_sip.kp T.b__law_sip tk (pda_cons (pd_var (pv 2)) (pda_cons pd_int pda_nil))) pda_nil)))) (pd_op op_rep ok_repL (pd_lst (pda_cons (pd_var (pv 4)) pda_nil)) (pd_callTy call_int1 ok_int (by rfl) T.n_int (by decide +kernel) (pda_cons (pd_cmp op_lt ok_int2 (pd_call G.g__law_size hG hr rfl T.m__law_size T.F__law_size.kp T.b__law_size tk (pda_cons (pd_var (pv 4)) pda_nil)) pd_int (nomark _)) pda_nil)))))
    (ps_cons' (ps_set' (i := 5) sc_law.nd rfl (by first | exact Or.inl rfl | exact Or.inr rfl) (pd_callB (call_reprD hG (u65 hr)) ok_repr (by rfl) T.n_repr (by decide +kernel) (pda_cons (pd_var (pv 3)) pda_nil)))
    (ps_cons' (ps_forC' po rfl (pd_var (pv 3)) (pg_name (i := 6) sc_law.nd rfl (by first | exact Or.inl rfl | exact Or.inr rfl)) (tg_name _ 6)
    (ps_one' (ps_forC' po rfl (pd_lst (pda_cons (pd_ix (pd_var (pv 3)) (pd_call G.g__law_sip hG hr rfl T.m__law_sip T.F__law_sip.kp T.b__law_sip tk (pda_cons (pd_var (pv 2)) (pda_cons (pd_callB call_len ok_len (by rfl) T.n_len (by decide +kernel) (pda_cons (pd_var (pv 3)) pda_nil)) pda_nil))) (fun _ _ => rfl)) (pda_cons (pd_var (pv 6)) (pda_cons (pd_ix (pd_var (pv 3)) pd_int (fun _ _ => rfl)) (pda_cons (pd_ix (pd_var (pv 3)) (pd_un un_neg ok_neg pd_int) (fun _ _ => rfl)) pda_nil))))) (pg_name (i := 7) sc_law.nd rfl (by first | exact Or.inl rfl | exact Or.inr rfl)) (tg_name _ 7)
    (ps_one' (ps_if' (pdt_not (pdt_val (pd_call G.g__law_pair_right hG hr rfl T.m__law_pair_right T.F__law_pair_right.kp T.b__law_pair_right tk (pda_cons (pd_var (pv 2)) (pda_cons (pd_var (pv 6)) (pda_cons (pd_var (pv 7)) pda_nil)))))) (ps_one' (ps_ret' pd_bl)) ps_nil')))))
    (ps_cons' (ps_asg' (pd_tup (pda_cons (pd_tup (pda_cons pd_int (pda_cons pd_int (pda_cons pd_int pda_nil)))) (pda_cons (pd_tup (pda_cons pd_int (pda_cons pd_int (pda_cons (pd_tup (pda_cons pd_int (pda_cons pd_int (pda_cons pd_int pda_nil)))) pda_nil)))) pda_nil))) (pg_tup rfl (pgs_cons (pg_name (i := 8) sc_law.nd rfl (by first | exact Or.inl rfl | exact Or.inr rfl)) (pgs_cons (pg_name (i := 9) sc_law.nd rfl (by first | exact Or.inl rfl | exact Or.inr rfl)) pgs_nil))) (tg_tup (tgs_cons (tg_name _ 8) (tgs_cons (tg_name _ 9) (tgs_nil _))) rfl))
    (ps_cons' (ps_forR' po rfl (by rfl) T.n_range (pda_cons pd_int pda_nil) (pg_name (i := 10) sc_law.nd rfl (by first | exact Or.inl rfl | exact Or.inr rfl)) (tg_name _ 10)
    (ps_one' (ps_par' (i := 8) (j := 9) rfl sc_law.nd rfl rfl (by decide) rfl rfl (pda_cons (pd_tup (pda_cons pd_int (pda_cons (pd_var (pv 8)) (pda_cons (pd_var (pv 8)) pda_nil)))) (pda_cons (pd_tup (pda_cons pd_int (pda_cons (pd_var (pv 8)) (pda_cons (pd_var (pv 9)) pda_nil)))) pda_nil)) (by rfl))))
    (ps_cons' (ps_forC' po rfl (pd_lst (pda_cons (pd_tup (pda_cons pd_int (pda_cons pd_int (pda_cons (pd_var (pv 8)) pda_nil)))) (pda_cons (pd_tup (pda_cons pd_int (pda_cons pd_int (pda_cons (pd_var (pv 9)) pda_nil)))) pda_nil))) (pg_name (i := 11) sc_law.nd rfl (by first | exact Or.inl rfl | exact Or.inr rfl)) (tg_name _ 11)
    (ps_one' (ps_if' (pdt_not (pdt_val (pd_call G.g__law_pair_right hG hr rfl T.m__law_pair_right T.F__law_pair_right.kp T.b__law_pair_right tk (pda_cons (pd_var (pv 2)) (pda_cons (pd_tup (pda_cons pd_int (pda_cons (pd_var (pv 8)) (pda_cons pd_int pda_nil)))) (pda_cons (pd_var (pv 11)) pda_nil)))))) (ps_one' (ps_ret' pd_bl)) ps_nil')))
    (ps_cons' (ps_set' (i := 12) sc_law.nd rfl (by first | exact Or.inl rfl | exact Or.inr rfl) (pd_call G.g__law_join hG hr rfl T.m__law_join T.F__law_join.kp T.b__law_join tk (pda_cons (pd_var (pv 4)) (pda_cons (pd_ix (pd_var (pv 3)) pd_int (fun _ _ => rfl)) pda_nil))))
    (ps_cons' (ps_if' (PW.pt (pdw_and (pdt_cmp op_lt ok_int2 (pd_call G.g__law_size hG hr rfl T.m__law_size T.F__law_size.kp T.b__law_size tk (pda_cons (pd_var (pv 12)) pda_nil)) pd_int (nomark _)) (pdw_one (pdt_cmp op_lt ok_int2 (pd_call G.g__law_size hG hr rfl T.m__law_size T.F__law_size.kp T.b__law_size tk (pda_cons (pd_var (pv 4)) pda_nil)) pd_int (nomark _)) (by decide)))) (ps_one' (ps_if' (PW.pt (pdw_or (pdt_not (pdt_val (pd_call G.g__law_same hG hr rfl T.m__law_same T.F__law_same.kp T.b__law_same tk (pda_cons (pd_call G.g_joined hG hr rfl T.m_joined T.F_joined.kp T.b_joined tk (pda_cons (pd_ix (pd_var (pv 3)) pd_int (fun _ _ => rfl)) (pda_cons (pd_var (pv 4)) pda_nil))) (pda_cons (pd_var (pv 12)) pda_nil))))) (pdw_one (pdt_not (pdt_val (pd_call G.g__law_same hG hr rfl T.m__law_same T.F__law_same.kp T.b__law_same tk (pda_cons (pd_call G.g_is_within hG hr rfl T.m_is_within T.F_is_within.kp T.b_is_within tk (pda_cons (pd_var (pv 4)) (pda_cons (pd_var (pv 12)) pda_nil))) (pda_cons pd_bl pda_nil))))) (by decide)))) (ps_one' (ps_ret' pd_bl)) ps_nil')) ps_nil')
    (ps_cons' (ps_asg' (pd_tup (pda_cons (pd_call G.g__law_bad_counts hG hr rfl T.m__law_bad_counts T.F__law_bad_counts.kp T.b__law_bad_counts tk (pda_cons (pd_var (pv 2)) (pda_cons (pd_ix (pd_var (pv 3)) pd_int (fun _ _ => rfl)) pda_nil))) (pda_cons (pd_call G.g__law_bad_path hG hr rfl T.m__law_bad_path T.F__law_bad_path.kp T.b__law_bad_path tk (pda_cons (pd_var (pv 2)) pda_nil)) pda_nil))) (pg_tup rfl (pgs_cons (pg_name (i := 13) sc_law.nd rfl (by first | exact Or.inl rfl | exact Or.inr rfl)) (pgs_cons (pg_name (i := 14) sc_law.nd rfl (by first | exact Or.inl rfl | exact Or.inr rfl)) pgs_nil))) (tg_tup (tgs_cons (tg_name _ 13) (tgs_cons (tg_name _ 14) (tgs_nil _))) rfl))
    (ps_cons' (ps_set' (i := 15) sc_law.nd rfl (by first | exact Or.inl rfl | exact Or.inr rfl) (pd_lst pda_nil))
    (ps_cons' (ps_forC' po rfl (pd_lst (pda_cons (pd_ix (pd_var (pv 3)) pd_int (fun _ _ => rfl)) (pda_cons (pd_var (pv 13)) (pda_cons (pd_var (pv 14)) pda_nil)))) (pg_name (i := 11) sc_law.nd rfl (by first | exact Or.inl rfl | exact Or.inr rfl)) (tg_name _ 11)
    (ps_one' (ps_set' (i := 15) sc_law.nd rfl (by first | exact Or.inl rfl | exact Or.inr rfl) (pd_op op_addA ok_add (pd_var (pv 15)) (pd_lcR (own := [("door", 16)]) rfl sc_law.nd (by rfl) T.n_range (pda_cons pd_int pda_nil) ⟨(blkOk_by (own := [("door", 16)]) (N := ["script", "cell", "cup", "some", "both", "kept", "one", "two", "full", "more", "turn", "other", "three", "bad", "path", "found", "door"]) (sc := defScope s_law) (by decide +kernel)), (fun _ _ _ _ _ => pg_name (i := 16) sc_law.nd rfl (by first | exact Or.inl rfl | exact Or.inr rfl)), (tg_name _ 16), wipe_name, (fun _ _ _ _ _ => pdts_nil), (fun _ _ _ _ _ => have tk := takes0; (pd_call G.g__law_said hG hr rfl T.m__law_said T.F__law_said.kp T.b__law_said tk (pda_cons (pd_var (pv 16)) (pda_cons (pd_var (pv 13)) (pda_cons (pd_var (pv 11)) pda_nil)))))⟩)))))
    (ps_cons' (ps_if' (PW.pt (pdw_or (pdt_cmp (op_neD hr.units) ok_ne (pd_var (pv 15)) (pd_op op_rep ok_repL (pd_lst (pda_cons pd_str pda_nil)) pd_int) (nomark _)) (pdw_one (pdt_cmp (op_neD hr.units) ok_ne (pd_lst (pda_cons (pd_call G.g__law_said hG hr rfl T.m__law_said T.F__law_said.kp T.b__law_said tk (pda_cons pd_int (pda_cons (pd_ix (pd_var (pv 3)) pd_int (fun _ _ => rfl)) (pda_cons (pd_var (pv 13)) pda_nil)))) (pda_cons (pd_call G.g__law_said hG hr rfl T.m__law_said T.F__law_said.kp T.b__law_said tk (pda_cons pd_int (pda_cons (pd_ix (pd_var (pv 3)) pd_int (fun _ _ => rfl)) (pda_cons (pd_var (pv 13)) pda_nil)))) pda_nil))) (pd_op op_rep ok_repL (pd_lst (pda_cons pd_str pda_nil)) pd_int) (nomark _)) (by decide)))) (ps_one' (ps_ret' pd_bl)) ps_nil')
    (ps_one' (ps_if' (PW.pt (pdw_or (pdt_cmp (op_neD hr.units) ok_ne (pd_call G.g__law_said hG hr rfl T.m__law_said T.F__law_said.kp T.b__law_said tk (pda_cons pd_int (pda_cons (pd_ix (pd_var (pv 3)) pd_int (fun _ _ => rfl)) (pda_cons (pd_var (pv 14)) pda_nil)))) pd_str (nomark _)) (pdw_one (pdt_cmp (op_neD hr.units) ok_ne (pd_callB (call_reprD hG (u65 hr)) ok_repr (by rfl) T.n_repr (by decide +kernel) (pda_cons (pd_var (pv 3)) pda_nil)) (pd_var (pv 5)) (nomark _)) (by decide)))) (ps_one' (ps_ret' pd_bl)) ps_nil'))))))))))))))))))
    (ps_one' (ps_ret' pd_bl)))
theorem all_g (T : TxtC K mg) : ∀ n, AllG P w base T n
  | 0 => ⟨fn_zero 0, fn_zero 0, fn_zero 0, fn_zero 0, fn_zero 0, fn_zero 0, fn_zero 0, fn_zero 0, fn_zero 0, fn_zero 0, fn_zero 0, fn_zero 0, fn_zero 0, fn_zero 0, fn_zero 0, fn_zero 0, fn_zero 0, fn_zero 0, fn_zero 0, fn_zero 0, fn_zero 0, fn_zero 0, fn_zero 0, fn_zero 0, fn_zero 0, fn_zero 0, fn_zero 0, fn_zero 0, fn_zero 0, fn_zero 0, fn_zero 0, fn_zero 0, fn_zero 0, fn_zero 0, fn_zero 0, fn_zero 0⟩
  | n + 1 => have G := all_g T n; ⟨g_tuple_count T G, g_bounded T G, g_is_path T G, g_check_path T G, g_least T G, g_greatest T G, g_lifted T G, g_halves T G, g_whole T G, g_greater_of T G, g_nowhere_greater T G, g_is_counts T G, g__is_counts_tree T G, g_check_counts T G, g_worth_at T G, g_joined T G, g_is_within T G, g__law_cup T G, g__law_sip T G, g__law_same T G, g__law_counts T G, g__law_long T G, g__law_size T G, g__law_least T G, g__law_put T G, g__law_lower T G, g__law_parts T G, g__law_join T G, g__law_worth T G, g__law_beyond T G, g__law_bad_counts T G, g__law_bad_path T G, g__law_path T G, g__law_said T G, g__law_pair_right T G, g_law T G⟩
end
end PD.K05

/-! ## K05M1 -/
set_option Elab.async false
set_option linter.all false
set_option maxRecDepth 100000
set_option maxHeartbeats 4000000
namespace PD.K05
open PySem PySem.Spec L2 PD LT
theorem sub1 {k : Nat} : ((k + 1 : Nat) : Int) - 1 = (k : Int) := by omega
inductive Tr : Nat → Nat → Val → Prop
  | int (d w : Nat) (i : Int) : Tr d w (.int i)
  | tup {d w : Nat} {xs : List Val} : xs.length ≤ w → (∀ x ∈ xs, Tr d w x) → Tr (d + 1) w (.tup xs)
mutual
def tcount : Val → Int
  | .tup xs => 1 + tcounts xs
  | _ => 0
def tcounts : List Val → Int
  | [] => 0
  | x :: xs => tcount x + tcounts xs
end
theorem tcounts_sum : ∀ xs : List Val, tcounts xs = (xs.map tcount).sum
  | [] => rfl
  | x :: xs => by rw [tcounts, tcounts_sum xs]; rfl
theorem allSome_ints (xs : List Val) : allSome ((xs.map fun x => Val.int (tcount x)).map asI) = some (xs.map tcount) := by
  induction xs with
  | nil => rfl
  | cons x xs ih =>
    rw [List.map_cons, List.map_cons, List.map_cons]
    unfold allSome
    rw [ih]; rfl
theorem p_tuple_count : ∀ (d n : Nat) (v : Val) (S : Store), Tr d 1000 v → d < n → Run ((fns n).tuple_count [v] S) (PureQ S (.int (tcount v)))
  | d, 0, v, S, _, h => absurd h (Nat.not_lt_zero _)
  | d, n + 1, v, S, ht, h => by
    show Run (fnOf 1 2 (b_tuple_count (fns n)) [v] S) _
    unfold b_tuple_count
    cases ht with
    | int _ _ i =>
      simp only [run_ok, run_okI, run_okB, run_alloc, run_stuck, run_bind, run_ite, run_noX, run_fnOf, w_c, w_op, w_un, w_call, w_callK, w_nil, w_cons, w_tup, w_lst, isB_bl, w_tval, w_tand, w_tor, w_tnot, w_and, w_or, w_not, w_if, s_next, s_seq, s_if, s_ret, s_drop, s_set, s_par, s_put, s_asg, w_var', runS_next, runS_ret, runS_stuck, runS_ite, List.length_cons, List.length_nil, List.length_singleton, List.map_cons, List.map_nil, List.cons_append, List.nil_append, List.replicate_succ, List.replicate_zero, List.getElem?_cons_zero, List.getElem?_cons_succ, List.set_cons_zero, List.set_cons_succ, Nat.reduceAdd, Nat.reduceSub, Nat.reduceEqDiff, ite_true, ite_false, if_true, if_false, reduceIte, Bool.false_eq_true, decide_true, decide_false, String.reduceEq, Int.reduceEq, Nat.reduceLeDiff, true_and, and_true, Bool.not_true, Bool.not_false, decide_eq_true_eq, List.append_nil, bType, bIsi, bLen, bInt, ty_int, ty_bl, ty_str, ty_non, ty_tup, isT, oIs, oIsNot, oSub, oAdd, oIx, run_eqI, run_neI, Bool.or_false, Bool.or_true, Bool.false_or, Bool.true_or, Bool.and_true, Bool.and_false, Bool.true_and, Bool.false_and, reduceCtorEq, decide_not, Bool.not_eq_true', decide_eq_false_iff_not, askInt, askBool, askTuple, askList, askStr, oLe, oLt, oGe, oGt, oInt2, atI0, atI1, atI2]
      exact ⟨rfl, .refl S⟩
    | @tup d _ xs hl hx =>
      simp only [dLCT, run_ok, run_okI, run_okB, run_alloc, run_stuck, run_bind, run_ite, run_noX, run_fnOf, w_c, w_op, w_un, w_call, w_callK, w_nil, w_cons, w_tup, w_lst, isB_bl, w_tval, w_tand, w_tor, w_tnot, w_and, w_or, w_not, w_if, s_next, s_seq, s_if, s_ret, s_drop, s_set, s_par, s_put, s_asg, w_var', runS_next, runS_ret, runS_stuck, runS_ite, List.length_cons, List.length_nil, List.length_singleton, List.map_cons, List.map_nil, List.cons_append, List.nil_append, List.replicate_succ, List.replicate_zero, List.getElem?_cons_zero, List.getElem?_cons_succ, List.set_cons_zero, List.set_cons_succ, Nat.reduceAdd, Nat.reduceSub, Nat.reduceEqDiff, ite_true, ite_false, if_true, if_false, reduceIte, Bool.false_eq_true, decide_true, decide_false, String.reduceEq, Int.reduceEq, Nat.reduceLeDiff, true_and, and_true, Bool.not_true, Bool.not_false, decide_eq_true_eq, List.append_nil, bType, bIsi, bLen, bInt, ty_int, ty_bl, ty_str, ty_non, ty_tup, isT, oIs, oIsNot, oSub, oAdd, oIx, run_eqI, run_neI, Bool.or_false, Bool.or_true, Bool.false_or, Bool.true_or, Bool.and_true, Bool.and_false, Bool.true_and, Bool.false_and, reduceCtorEq, decide_not, Bool.not_eq_true', decide_eq_false_iff_not, askInt, askBool, askTuple, askList, askStr, oLe, oLt, oGe, oGt, oInt2, atI0, atI1, atI2]
      refine Run.mono (comp_pure0 (g := fun x => .int (tcount x)) xs S (by omega) fun x hxm S' _ => ?_) fun ys S1 ⟨e1, g1⟩ => ?_
      · simp only [wipeE, run_ok, run_okI, run_okB, run_alloc, run_stuck, run_bind, run_ite, run_noX, run_fnOf, w_c, w_op, w_un, w_call, w_callK, w_nil, w_cons, w_tup, w_lst, isB_bl, w_tval, w_tand, w_tor, w_tnot, w_and, w_or, w_not, w_if, s_next, s_seq, s_if, s_ret, s_drop, s_set, s_par, s_put, s_asg, w_var', runS_next, runS_ret, runS_stuck, runS_ite, List.length_cons, List.length_nil, List.length_singleton, List.map_cons, List.map_nil, List.cons_append, List.nil_append, List.replicate_succ, List.replicate_zero, List.getElem?_cons_zero, List.getElem?_cons_succ, List.set_cons_zero, List.set_cons_succ, Nat.reduceAdd, Nat.reduceSub, Nat.reduceEqDiff, ite_true, ite_false, if_true, if_false, reduceIte, Bool.false_eq_true, decide_true, decide_false, String.reduceEq, Int.reduceEq, Nat.reduceLeDiff, true_and, and_true, Bool.not_true, Bool.not_false, decide_eq_true_eq, List.append_nil, bType, bIsi, bLen, bInt, ty_int, ty_bl, ty_str, ty_non, ty_tup, isT, oIs, oIsNot, oSub, oAdd, oIx, run_eqI, run_neI, Bool.or_false, Bool.or_true, Bool.false_or, Bool.true_or, Bool.and_true, Bool.and_false, Bool.true_and, Bool.false_and, reduceCtorEq, decide_not, Bool.not_eq_true', decide_eq_false_iff_not, askInt, askBool, askTuple, askList, askStr, oLe, oLt, oGe, oGt, oInt2, atI0, atI1, atI2]
        exact p_tuple_count d n x S' (hx x hxm) (by omega)
      · subst e1
        simp only [run_alloc, bSum, get_new, Cell.items, allSome_ints, run_okI, oAdd]
        refine ⟨?_, g1.trans (Gr.add _ _)⟩
        rw [tcount, tcounts_sum]
theorem tr_toV : ∀ {t : T} {d : Nat}, t.dep ≤ d → Tr d 1000 (toV t)
  | .leaf i, d, _ => .int _ _ _
  | .node n l r, d, h => by
    have h : 1 + max l.dep r.dep ≤ d := h
    obtain ⟨d, rfl⟩ : ∃ e, d = e + 1 := ⟨d - 1, by omega⟩
    exact .tup (show 3 ≤ 1000 by decide) (mem3 (.int _ _ _) (tr_toV (by omega)) (tr_toV (by omega)))
theorem tcount_toV : ∀ t : T, tcount (toV t) = t.tc
  | .leaf i => rfl
  | .node n l r => by
    show tcount (.tup [.int n, toV l, toV r]) = ((1 + (l.tc + r.tc) : Nat) : Int)
    simp only [tcount, tcounts, tcount_toV l, tcount_toV r]
    omega
theorem ty_toV {t : T} {S : Store} : tyN (toV t) S = some (if t.isLeaf = true then "int" else "tuple") := by cases t <;> rfl
/-- two numbers that are the same -/
def sameI (a b : Val) : Bool := match a, b with
  | .int i, .int j => decide (i = j)
  | _, _ => false
def leastV : Val → Int
  | .int i => i
  | .tup (.int n :: _) => n
  | _ => 0
def intV : Val → Bool
  | .int _ => true
  | _ => false
/-- counts, nested at most so deep -/
def isCo : Nat → Val → Bool
  | _, .int i => decide (0 ≤ i)
  | d + 1, .tup [.int n, l, r] => decide (0 ≤ n) && (isCo d l && (isCo d r && (!sameI l r && (decide (leastV l = 0) || decide (leastV r = 0)))))
  | _, _ => false
theorem isCo_len {k : Nat} {xs : List Val} (h : xs.length ≠ 3) : isCo k (.tup xs) = false := by
  cases k with
  | zero => simp [isCo]
  | succ k =>
    match xs, h with
    | [], _ => simp [isCo]
    | [_], _ => simp [isCo]
    | [_, _], _ => simp [isCo]
    | [_, _, _], h => exact absurd rfl h
    | _ :: _ :: _ :: _ :: _, _ => simp [isCo]
theorem isCo_first {k : Nat} {a b c : Val} (h : intV a = false) : isCo k (.tup [a, b, c]) = false := by
  cases k with
  | zero => simp [isCo]
  | succ k =>
    cases a with
    | int i => cases h
    | _ => simp [isCo]
theorem isCo_three {k : Nat} {n : Int} {l r : Val} : isCo (k + 1) (.tup [.int n, l, r]) = (decide (0 ≤ n) && (isCo k l && (isCo k r && (!sameI l r && (decide (leastV l = 0) || decide (leastV r = 0)))))) := rfl
theorem isCo_none {k : Nat} {v : Val} (h : isCo k v = true) : (∃ i, v = .int i ∧ 0 ≤ i) ∨ ∃ k' n l r, k = k' + 1 ∧ v = .tup [.int n, l, r] := by
  cases v with
  | int i => exact .inl ⟨i, rfl, of_decide_eq_true (by cases k <;> exact h)⟩
  | tup xs =>
    by_cases hl : xs.length = 3
    · obtain ⟨a, b, c, rfl⟩ := three_of hl
      cases ha : intV a with
      | false => rw [isCo_first ha] at h; cases h
      | true =>
        cases k with
        | zero => simp [isCo] at h
        | succ k =>
          cases a with
          | int i => exact .inr ⟨k, i, b, c, rfl, rfl⟩
          | _ => cases ha
    · rw [isCo_len hl] at h; cases h
  | _ => cases k <;> cases h
theorem p_least {n : Nat} {v : Val} {S : Store} {k : Nat} (h : isCo k v = true) (hn : 0 < n) : Run ((fns n).least [v] S) (fun r S' => r = .int (leastV v) ∧ S' = S) := by
  obtain ⟨n, rfl⟩ : ∃ m, n = m + 1 := ⟨n - 1, by omega⟩
  show Run (fnOf 1 1 (b_least (fns n)) [v] S) _
  unfold b_least
  rcases isCo_none h with ⟨i, rfl, _⟩ | ⟨k', m, l, r, rfl, rfl⟩
  · simp only [run_ok, run_okI, run_okB, run_alloc, run_stuck, run_bind, run_ite, run_noX, run_fnOf, w_c, w_op, w_un, w_call, w_callK, w_nil, w_cons, w_tup, w_lst, isB_bl, w_tval, w_tand, w_tor, w_tnot, w_and, w_or, w_not, w_if, s_next, s_seq, s_if, s_ret, s_drop, s_set, s_par, s_put, s_asg, w_var', runS_next, runS_ret, runS_stuck, runS_ite, List.length_cons, List.length_nil, List.length_singleton, List.map_cons, List.map_nil, List.cons_append, List.nil_append, List.replicate_succ, List.replicate_zero, List.getElem?_cons_zero, List.getElem?_cons_succ, List.set_cons_zero, List.set_cons_succ, Nat.reduceAdd, Nat.reduceSub, Nat.reduceEqDiff, ite_true, ite_false, if_true, if_false, reduceIte, Bool.false_eq_true, decide_true, decide_false, String.reduceEq, Int.reduceEq, Nat.reduceLeDiff, true_and, and_true, Bool.not_true, Bool.not_false, decide_eq_true_eq, List.append_nil, bType, bIsi, bLen, bInt, ty_int, ty_bl, ty_str, ty_non, ty_tup, isT, oIs, oIsNot, oSub, oAdd, oIx, run_eqI, run_neI, Bool.or_false, Bool.or_true, Bool.false_or, Bool.true_or, Bool.and_true, Bool.and_false, Bool.true_and, Bool.false_and, reduceCtorEq, decide_not, Bool.not_eq_true', decide_eq_false_iff_not, askInt, askBool, askTuple, askList, askStr, oLe, oLt, oGe, oGt, oInt2, atI0, atI1, atI2]; rfl
  · simp only [run_ok, run_okI, run_okB, run_alloc, run_stuck, run_bind, run_ite, run_noX, run_fnOf, w_c, w_op, w_un, w_call, w_callK, w_nil, w_cons, w_tup, w_lst, isB_bl, w_tval, w_tand, w_tor, w_tnot, w_and, w_or, w_not, w_if, s_next, s_seq, s_if, s_ret, s_drop, s_set, s_par, s_put, s_asg, w_var', runS_next, runS_ret, runS_stuck, runS_ite, List.length_cons, List.length_nil, List.length_singleton, List.map_cons, List.map_nil, List.cons_append, List.nil_append, List.replicate_succ, List.replicate_zero, List.getElem?_cons_zero, List.getElem?_cons_succ, List.set_cons_zero, List.set_cons_succ, Nat.reduceAdd, Nat.reduceSub, Nat.reduceEqDiff, ite_true, ite_false, if_true, if_false, reduceIte, Bool.false_eq_true, decide_true, decide_false, String.reduceEq, Int.reduceEq, Nat.reduceLeDiff, true_and, and_true, Bool.not_true, Bool.not_false, decide_eq_true_eq, List.append_nil, bType, bIsi, bLen, bInt, ty_int, ty_bl, ty_str, ty_non, ty_tup, isT, oIs, oIsNot, oSub, oAdd, oIx, run_eqI, run_neI, Bool.or_false, Bool.or_true, Bool.false_or, Bool.true_or, Bool.and_true, Bool.and_false, Bool.true_and, Bool.false_and, reduceCtorEq, decide_not, Bool.not_eq_true', decide_eq_false_iff_not, askInt, askBool, askTuple, askList, askStr, oLe, oLt, oGe, oGt, oInt2, atI0, atI1, atI2]; rfl
theorem leastV_nn {k : Nat} {v : Val} (h : isCo k v = true) : 0 ≤ leastV v := by
  rcases isCo_none h with ⟨i, rfl, hi⟩ | ⟨k', m, l, r, rfl, rfl⟩
  · exact hi
  · rw [isCo_three] at h
    simp only [Bool.and_eq_true] at h
    exact of_decide_eq_true h.1
theorem gT3 {i j k : Nat} {a b c : Val} {ρ : PD.Env} : gT [gN i, gN j, gN k] (.tup [a, b, c]) ρ = some (((ρ.set i (some a)).set j (some b)).set k (some c)) := rfl
theorem co_eq {S : Store} {d e f : Nat} {a b : Val} (h1 : isCo d a = true) (h2 : isCo d b = true) (ha : Da S e a) (hb : Da S f b) (he : e < 65) (hf : f < 65) (hi : intV a = true) : PyData.eqv (dat S a) (dat S b) = sameI a b := by
  cases a with
  | int i =>
    rw [dat_int]
    cases hb with
    | int _ j => show (i == j) = decide (i = j); rw [Bool.beq_eq_decide_eq]
    | tup hy => rw [dat_tup hy (by omega)]; rfl
    | _ => cases d <;> cases h2
  | _ => cases hi
theorem p_is_counts_tree : ∀ (e n k : Nat) (v : Val) (S : Store), Da S e v → e < 60 → e < n → Run ((fns n)._is_counts_tree [v, .int k] S) (fun r S' => r = .bl (isCo k v) ∧ S' = S)
  | e, 0, k, v, S, _, _, h => absurd h (Nat.not_lt_zero _)
  | e, n + 1, k, v, S, hv, h60, h => by
    show Run (fnOf 2 5 (b__is_counts_tree (fns n)) [v, .int k] S) _
    unfold b__is_counts_tree
    cases hv with
    | int _ i =>
      simp only [run_ok, run_okI, run_okB, run_alloc, run_stuck, run_bind, run_ite, run_noX, run_fnOf, w_c, w_op, w_un, w_call, w_callK, w_nil, w_cons, w_tup, w_lst, isB_bl, w_tval, w_tand, w_tor, w_tnot, w_and, w_or, w_not, w_if, s_next, s_seq, s_if, s_ret, s_drop, s_set, s_par, s_put, s_asg, w_var', runS_next, runS_ret, runS_stuck, runS_ite, List.length_cons, List.length_nil, List.length_singleton, List.map_cons, List.map_nil, List.cons_append, List.nil_append, List.replicate_succ, List.replicate_zero, List.getElem?_cons_zero, List.getElem?_cons_succ, List.set_cons_zero, List.set_cons_succ, Nat.reduceAdd, Nat.reduceSub, Nat.reduceEqDiff, ite_true, ite_false, if_true, if_false, reduceIte, Bool.false_eq_true, decide_true, decide_false, String.reduceEq, Int.reduceEq, Nat.reduceLeDiff, true_and, and_true, Bool.not_true, Bool.not_false, decide_eq_true_eq, List.append_nil, bType, bIsi, bLen, bInt, ty_int, ty_bl, ty_str, ty_non, ty_tup, isT, oIs, oIsNot, oSub, oAdd, oIx, run_eqI, run_neI, Bool.or_false, Bool.or_true, Bool.false_or, Bool.true_or, Bool.and_true, Bool.and_false, Bool.true_and, Bool.false_and, reduceCtorEq, decide_not, Bool.not_eq_true', decide_eq_false_iff_not, askInt, askBool, askTuple, askList, askStr, oLe, oLt, oGe, oGt, oInt2, atI0, atI1, atI2]
      cases k <;> simp [isCo]
    | non => simp only [run_ok, run_okI, run_okB, run_alloc, run_stuck, run_bind, run_ite, run_noX, run_fnOf, w_c, w_op, w_un, w_call, w_callK, w_nil, w_cons, w_tup, w_lst, isB_bl, w_tval, w_tand, w_tor, w_tnot, w_and, w_or, w_not, w_if, s_next, s_seq, s_if, s_ret, s_drop, s_set, s_par, s_put, s_asg, w_var', runS_next, runS_ret, runS_stuck, runS_ite, List.length_cons, List.length_nil, List.length_singleton, List.map_cons, List.map_nil, List.cons_append, List.nil_append, List.replicate_succ, List.replicate_zero, List.getElem?_cons_zero, List.getElem?_cons_succ, List.set_cons_zero, List.set_cons_succ, Nat.reduceAdd, Nat.reduceSub, Nat.reduceEqDiff, ite_true, ite_false, if_true, if_false, reduceIte, Bool.false_eq_true, decide_true, decide_false, String.reduceEq, Int.reduceEq, Nat.reduceLeDiff, true_and, and_true, Bool.not_true, Bool.not_false, decide_eq_true_eq, List.append_nil, bType, bIsi, bLen, bInt, ty_int, ty_bl, ty_str, ty_non, ty_tup, isT, oIs, oIsNot, oSub, oAdd, oIx, run_eqI, run_neI, Bool.or_false, Bool.or_true, Bool.false_or, Bool.true_or, Bool.and_true, Bool.and_false, Bool.true_and, Bool.false_and, reduceCtorEq, decide_not, Bool.not_eq_true', decide_eq_false_iff_not, askInt, askBool, askTuple, askList, askStr, oLe, oLt, oGe, oGt, oInt2, atI0, atI1, atI2]; cases k <;> simp [isCo]
    | bl => simp only [run_ok, run_okI, run_okB, run_alloc, run_stuck, run_bind, run_ite, run_noX, run_fnOf, w_c, w_op, w_un, w_call, w_callK, w_nil, w_cons, w_tup, w_lst, isB_bl, w_tval, w_tand, w_tor, w_tnot, w_and, w_or, w_not, w_if, s_next, s_seq, s_if, s_ret, s_drop, s_set, s_par, s_put, s_asg, w_var', runS_next, runS_ret, runS_stuck, runS_ite, List.length_cons, List.length_nil, List.length_singleton, List.map_cons, List.map_nil, List.cons_append, List.nil_append, List.replicate_succ, List.replicate_zero, List.getElem?_cons_zero, List.getElem?_cons_succ, List.set_cons_zero, List.set_cons_succ, Nat.reduceAdd, Nat.reduceSub, Nat.reduceEqDiff, ite_true, ite_false, if_true, if_false, reduceIte, Bool.false_eq_true, decide_true, decide_false, String.reduceEq, Int.reduceEq, Nat.reduceLeDiff, true_and, and_true, Bool.not_true, Bool.not_false, decide_eq_true_eq, List.append_nil, bType, bIsi, bLen, bInt, ty_int, ty_bl, ty_str, ty_non, ty_tup, isT, oIs, oIsNot, oSub, oAdd, oIx, run_eqI, run_neI, Bool.or_false, Bool.or_true, Bool.false_or, Bool.true_or, Bool.and_true, Bool.and_false, Bool.true_and, Bool.false_and, reduceCtorEq, decide_not, Bool.not_eq_true', decide_eq_false_iff_not, askInt, askBool, askTuple, askList, askStr, oLe, oLt, oGe, oGt, oInt2, atI0, atI1, atI2]; cases k <;> simp [isCo]
    | str => simp only [run_ok, run_okI, run_okB, run_alloc, run_stuck, run_bind, run_ite, run_noX, run_fnOf, w_c, w_op, w_un, w_call, w_callK, w_nil, w_cons, w_tup, w_lst, isB_bl, w_tval, w_tand, w_tor, w_tnot, w_and, w_or, w_not, w_if, s_next, s_seq, s_if, s_ret, s_drop, s_set, s_par, s_put, s_asg, w_var', runS_next, runS_ret, runS_stuck, runS_ite, List.length_cons, List.length_nil, List.length_singleton, List.map_cons, List.map_nil, List.cons_append, List.nil_append, List.replicate_succ, List.replicate_zero, List.getElem?_cons_zero, List.getElem?_cons_succ, List.set_cons_zero, List.set_cons_succ, Nat.reduceAdd, Nat.reduceSub, Nat.reduceEqDiff, ite_true, ite_false, if_true, if_false, reduceIte, Bool.false_eq_true, decide_true, decide_false, String.reduceEq, Int.reduceEq, Nat.reduceLeDiff, true_and, and_true, Bool.not_true, Bool.not_false, decide_eq_true_eq, List.append_nil, bType, bIsi, bLen, bInt, ty_int, ty_bl, ty_str, ty_non, ty_tup, isT, oIs, oIsNot, oSub, oAdd, oIx, run_eqI, run_neI, Bool.or_false, Bool.or_true, Bool.false_or, Bool.true_or, Bool.and_true, Bool.and_false, Bool.true_and, Bool.false_and, reduceCtorEq, decide_not, Bool.not_eq_true', decide_eq_false_iff_not, askInt, askBool, askTuple, askList, askStr, oLe, oLt, oGe, oGt, oInt2, atI0, atI1, atI2]; cases k <;> simp [isCo]
    | @ref _ m ys hn _ =>
      simp only [ty_ref hn, run_ok, run_okI, run_okB, run_alloc, run_stuck, run_bind, run_ite, run_noX, run_fnOf, w_c, w_op, w_un, w_call, w_callK, w_nil, w_cons, w_tup, w_lst, isB_bl, w_tval, w_tand, w_tor, w_tnot, w_and, w_or, w_not, w_if, s_next, s_seq, s_if, s_ret, s_drop, s_set, s_par, s_put, s_asg, w_var', runS_next, runS_ret, runS_stuck, runS_ite, List.length_cons, List.length_nil, List.length_singleton, List.map_cons, List.map_nil, List.cons_append, List.nil_append, List.replicate_succ, List.replicate_zero, List.getElem?_cons_zero, List.getElem?_cons_succ, List.set_cons_zero, List.set_cons_succ, Nat.reduceAdd, Nat.reduceSub, Nat.reduceEqDiff, ite_true, ite_false, if_true, if_false, reduceIte, Bool.false_eq_true, decide_true, decide_false, String.reduceEq, Int.reduceEq, Nat.reduceLeDiff, true_and, and_true, Bool.not_true, Bool.not_false, decide_eq_true_eq, List.append_nil, bType, bIsi, bLen, bInt, ty_int, ty_bl, ty_str, ty_non, ty_tup, isT, oIs, oIsNot, oSub, oAdd, oIx, run_eqI, run_neI, Bool.or_false, Bool.or_true, Bool.false_or, Bool.true_or, Bool.and_true, Bool.and_false, Bool.true_and, Bool.false_and, reduceCtorEq, decide_not, Bool.not_eq_true', decide_eq_false_iff_not, askInt, askBool, askTuple, askList, askStr, oLe, oLt, oGe, oGt, oInt2, atI0, atI1, atI2]
      cases k <;> simp [isCo]
    | @tup e' xs hx =>
      simp only [run_ok, run_okI, run_okB, run_alloc, run_stuck, run_bind, run_ite, run_noX, run_fnOf, w_c, w_op, w_un, w_call, w_callK, w_nil, w_cons, w_tup, w_lst, isB_bl, w_tval, w_tand, w_tor, w_tnot, w_and, w_or, w_not, w_if, s_next, s_seq, s_if, s_ret, s_drop, s_set, s_par, s_put, s_asg, w_var', runS_next, runS_ret, runS_stuck, runS_ite, List.length_cons, List.length_nil, List.length_singleton, List.map_cons, List.map_nil, List.cons_append, List.nil_append, List.replicate_succ, List.replicate_zero, List.getElem?_cons_zero, List.getElem?_cons_succ, List.set_cons_zero, List.set_cons_succ, Nat.reduceAdd, Nat.reduceSub, Nat.reduceEqDiff, ite_true, ite_false, if_true, if_false, reduceIte, Bool.false_eq_true, decide_true, decide_false, String.reduceEq, Int.reduceEq, Nat.reduceLeDiff, true_and, and_true, Bool.not_true, Bool.not_false, decide_eq_true_eq, List.append_nil, bType, bIsi, bLen, bInt, ty_int, ty_bl, ty_str, ty_non, ty_tup, isT, oIs, oIsNot, oSub, oAdd, oIx, run_eqI, run_neI, Bool.or_false, Bool.or_true, Bool.false_or, Bool.true_or, Bool.and_true, Bool.and_false, Bool.true_and, Bool.false_and, reduceCtorEq, decide_not, Bool.not_eq_true', decide_eq_false_iff_not, askInt, askBool, askTuple, askList, askStr, oLe, oLt, oGe, oGt, oInt2, atI0, atI1, atI2]
      by_cases hl : xs.length = 3
      · obtain ⟨a, b, c, rfl⟩ := three_of hl
        have ha := hx a (by simp)
        have hb := hx b (by simp)
        have hc := hx c (by simp)
        rw [if_neg (by simp)]
        by_cases hk : k = 0
        · subst hk
          rw [if_pos (by rfl)]
          simp [isCo]
        · rw [if_neg (by omega)]
          obtain ⟨k, rfl⟩ : ∃ j, k = j + 1 := ⟨k - 1, by omega⟩
          have ek : ((k + 1 : Nat) : Int) - 1 = (k : Int) := by omega
          simp only [gT3, ek, run_ok, run_okI, run_okB, run_alloc, run_stuck, run_bind, run_ite, run_noX, run_fnOf, w_c, w_op, w_un, w_call, w_callK, w_nil, w_cons, w_tup, w_lst, isB_bl, w_tval, w_tand, w_tor, w_tnot, w_and, w_or, w_not, w_if, s_next, s_seq, s_if, s_ret, s_drop, s_set, s_par, s_put, s_asg, w_var', runS_next, runS_ret, runS_stuck, runS_ite, List.length_cons, List.length_nil, List.length_singleton, List.map_cons, List.map_nil, List.cons_append, List.nil_append, List.replicate_succ, List.replicate_zero, List.getElem?_cons_zero, List.getElem?_cons_succ, List.set_cons_zero, List.set_cons_succ, Nat.reduceAdd, Nat.reduceSub, Nat.reduceEqDiff, ite_true, ite_false, if_true, if_false, reduceIte, Bool.false_eq_true, decide_true, decide_false, String.reduceEq, Int.reduceEq, Nat.reduceLeDiff, true_and, and_true, Bool.not_true, Bool.not_false, decide_eq_true_eq, List.append_nil, bType, bIsi, bLen, bInt, ty_int, ty_bl, ty_str, ty_non, ty_tup, isT, oIs, oIsNot, oSub, oAdd, oIx, run_eqI, run_neI, Bool.or_false, Bool.or_true, Bool.false_or, Bool.true_or, Bool.and_true, Bool.and_false, Bool.true_and, Bool.false_and, reduceCtorEq, decide_not, Bool.not_eq_true', decide_eq_false_iff_not, askInt, askBool, askTuple, askList, askStr, oLe, oLt, oGe, oGt, oInt2, atI0, atI1, atI2]
          cases ha with
          | int _ m =>
            simp only [run_ok, run_okI, run_okB, run_alloc, run_stuck, run_bind, run_ite, run_noX, run_fnOf, w_c, w_op, w_un, w_call, w_callK, w_nil, w_cons, w_tup, w_lst, isB_bl, w_tval, w_tand, w_tor, w_tnot, w_and, w_or, w_not, w_if, s_next, s_seq, s_if, s_ret, s_drop, s_set, s_par, s_put, s_asg, w_var', runS_next, runS_ret, runS_stuck, runS_ite, List.length_cons, List.length_nil, List.length_singleton, List.map_cons, List.map_nil, List.cons_append, List.nil_append, List.replicate_succ, List.replicate_zero, List.getElem?_cons_zero, List.getElem?_cons_succ, List.set_cons_zero, List.set_cons_succ, Nat.reduceAdd, Nat.reduceSub, Nat.reduceEqDiff, ite_true, ite_false, if_true, if_false, reduceIte, Bool.false_eq_true, decide_true, decide_false, String.reduceEq, Int.reduceEq, Nat.reduceLeDiff, true_and, and_true, Bool.not_true, Bool.not_false, decide_eq_true_eq, List.append_nil, bType, bIsi, bLen, bInt, ty_int, ty_bl, ty_str, ty_non, ty_tup, isT, oIs, oIsNot, oSub, oAdd, oIx, run_eqI, run_neI, Bool.or_false, Bool.or_true, Bool.false_or, Bool.true_or, Bool.and_true, Bool.and_false, Bool.true_and, Bool.false_and, reduceCtorEq, decide_not, Bool.not_eq_true', decide_eq_false_iff_not, askInt, askBool, askTuple, askList, askStr, oLe, oLt, oGe, oGt, oInt2, atI0, atI1, atI2]
            rw [isCo_three]
            by_cases hm : m < 0
            · rw [if_pos hm, decide_eq_false (by omega)]; simp
            · rw [if_neg hm, decide_eq_true (by omega)]
              refine Run.mono (p_is_counts_tree e' n k b S hb (by omega) (by omega)) fun r S1 ⟨er, eS⟩ => ?_
              subst er eS
              rw [isB_bl]
              cases hcb : isCo k b with
              | false => simp
              | true =>
                simp only [run_ok, run_okI, run_okB, run_alloc, run_stuck, run_bind, run_ite, run_noX, run_fnOf, w_c, w_op, w_un, w_call, w_callK, w_nil, w_cons, w_tup, w_lst, isB_bl, w_tval, w_tand, w_tor, w_tnot, w_and, w_or, w_not, w_if, s_next, s_seq, s_if, s_ret, s_drop, s_set, s_par, s_put, s_asg, w_var', runS_next, runS_ret, runS_stuck, runS_ite, List.length_cons, List.length_nil, List.length_singleton, List.map_cons, List.map_nil, List.cons_append, List.nil_append, List.replicate_succ, List.replicate_zero, List.getElem?_cons_zero, List.getElem?_cons_succ, List.set_cons_zero, List.set_cons_succ, Nat.reduceAdd, Nat.reduceSub, Nat.reduceEqDiff, ite_true, ite_false, if_true, if_false, reduceIte, Bool.false_eq_true, decide_true, decide_false, String.reduceEq, Int.reduceEq, Nat.reduceLeDiff, true_and, and_true, Bool.not_true, Bool.not_false, decide_eq_true_eq, List.append_nil, bType, bIsi, bLen, bInt, ty_int, ty_bl, ty_str, ty_non, ty_tup, isT, oIs, oIsNot, oSub, oAdd, oIx, run_eqI, run_neI, Bool.or_false, Bool.or_true, Bool.false_or, Bool.true_or, Bool.and_true, Bool.and_false, Bool.true_and, Bool.false_and, reduceCtorEq, decide_not, Bool.not_eq_true', decide_eq_false_iff_not, askInt, askBool, askTuple, askList, askStr, oLe, oLt, oGe, oGt, oInt2, atI0, atI1, atI2]
                refine Run.mono (p_is_counts_tree e' n k c S1 hc (by omega) (by omega)) fun r S2 ⟨er, eS⟩ => ?_
                subst er eS
                rw [isB_bl]
                cases hcc : isCo k c with
                | false => simp
                | true =>
                  simp only [run_ok, run_okI, run_okB, run_alloc, run_stuck, run_bind, run_ite, run_noX, run_fnOf, w_c, w_op, w_un, w_call, w_callK, w_nil, w_cons, w_tup, w_lst, isB_bl, w_tval, w_tand, w_tor, w_tnot, w_and, w_or, w_not, w_if, s_next, s_seq, s_if, s_ret, s_drop, s_set, s_par, s_put, s_asg, w_var', runS_next, runS_ret, runS_stuck, runS_ite, List.length_cons, List.length_nil, List.length_singleton, List.map_cons, List.map_nil, List.cons_append, List.nil_append, List.replicate_succ, List.replicate_zero, List.getElem?_cons_zero, List.getElem?_cons_succ, List.set_cons_zero, List.set_cons_succ, Nat.reduceAdd, Nat.reduceSub, Nat.reduceEqDiff, ite_true, ite_false, if_true, if_false, reduceIte, Bool.false_eq_true, decide_true, decide_false, String.reduceEq, Int.reduceEq, Nat.reduceLeDiff, true_and, and_true, Bool.not_true, Bool.not_false, decide_eq_true_eq, List.append_nil, bType, bIsi, bLen, bInt, ty_int, ty_bl, ty_str, ty_non, ty_tup, isT, oIs, oIsNot, oSub, oAdd, oIx, run_eqI, run_neI, Bool.or_false, Bool.or_true, Bool.false_or, Bool.true_or, Bool.and_true, Bool.and_false, Bool.true_and, Bool.false_and, reduceCtorEq, decide_not, Bool.not_eq_true', decide_eq_false_iff_not, askInt, askBool, askTuple, askList, askStr, oLe, oLt, oGe, oGt, oInt2, atI0, atI1, atI2]
                  have rest : Run ((fns n).least [b] S2) (fun x S1 => Run (oEq x (.int 0) S1) (IsB fun b_5 S1 => if b_5 = true then Val.bl true = Val.bl (decide (leastV b = 0) || decide (leastV c = 0)) ∧ S1 = S2
                      else Run ((fns n).least [c] S1) fun x S1 => Run (oEq x (.int 0) S1) fun r S' => r = Val.bl (decide (leastV b = 0) || decide (leastV c = 0)) ∧ S' = S2)) := by
                    refine Run.mono (p_least hcb (by omega)) fun r S3 ⟨er, eS⟩ => ?_
                    subst er eS
                    simp only [run_ok, run_okI, run_okB, run_alloc, run_stuck, run_bind, run_ite, run_noX, run_fnOf, w_c, w_op, w_un, w_call, w_callK, w_nil, w_cons, w_tup, w_lst, isB_bl, w_tval, w_tand, w_tor, w_tnot, w_and, w_or, w_not, w_if, s_next, s_seq, s_if, s_ret, s_drop, s_set, s_par, s_put, s_asg, w_var', runS_next, runS_ret, runS_stuck, runS_ite, List.length_cons, List.length_nil, List.length_singleton, List.map_cons, List.map_nil, List.cons_append, List.nil_append, List.replicate_succ, List.replicate_zero, List.getElem?_cons_zero, List.getElem?_cons_succ, List.set_cons_zero, List.set_cons_succ, Nat.reduceAdd, Nat.reduceSub, Nat.reduceEqDiff, ite_true, ite_false, if_true, if_false, reduceIte, Bool.false_eq_true, decide_true, decide_false, String.reduceEq, Int.reduceEq, Nat.reduceLeDiff, true_and, and_true, Bool.not_true, Bool.not_false, decide_eq_true_eq, List.append_nil, bType, bIsi, bLen, bInt, ty_int, ty_bl, ty_str, ty_non, ty_tup, isT, oIs, oIsNot, oSub, oAdd, oIx, run_eqI, run_neI, Bool.or_false, Bool.or_true, Bool.false_or, Bool.true_or, Bool.and_true, Bool.and_false, Bool.true_and, Bool.false_and, reduceCtorEq, decide_not, Bool.not_eq_true', decide_eq_false_iff_not, askInt, askBool, askTuple, askList, askStr, oLe, oLt, oGe, oGt, oInt2, atI0, atI1, atI2]
                    split
                    · rename_i h0; simp [h0]
                    · rename_i h0
                      refine Run.mono (p_least hcc (by omega)) fun r S4 ⟨er, eS⟩ => ?_
                      subst er eS
                      simp only [run_ok, run_okI, run_okB, run_alloc, run_stuck, run_bind, run_ite, run_noX, run_fnOf, w_c, w_op, w_un, w_call, w_callK, w_nil, w_cons, w_tup, w_lst, isB_bl, w_tval, w_tand, w_tor, w_tnot, w_and, w_or, w_not, w_if, s_next, s_seq, s_if, s_ret, s_drop, s_set, s_par, s_put, s_asg, w_var', runS_next, runS_ret, runS_stuck, runS_ite, List.length_cons, List.length_nil, List.length_singleton, List.map_cons, List.map_nil, List.cons_append, List.nil_append, List.replicate_succ, List.replicate_zero, List.getElem?_cons_zero, List.getElem?_cons_succ, List.set_cons_zero, List.set_cons_succ, Nat.reduceAdd, Nat.reduceSub, Nat.reduceEqDiff, ite_true, ite_false, if_true, if_false, reduceIte, Bool.false_eq_true, decide_true, decide_false, String.reduceEq, Int.reduceEq, Nat.reduceLeDiff, true_and, and_true, Bool.not_true, Bool.not_false, decide_eq_true_eq, List.append_nil, bType, bIsi, bLen, bInt, ty_int, ty_bl, ty_str, ty_non, ty_tup, isT, oIs, oIsNot, oSub, oAdd, oIx, run_eqI, run_neI, Bool.or_false, Bool.or_true, Bool.false_or, Bool.true_or, Bool.and_true, Bool.and_false, Bool.true_and, Bool.false_and, reduceCtorEq, decide_not, Bool.not_eq_true', decide_eq_false_iff_not, askInt, askBool, askTuple, askList, askStr, oLe, oLt, oGe, oGt, oInt2, atI0, atI1, atI2]
                      simp [h0]
                  have tb : intV b = true → tyN b S2 = some "int" := fun q => by cases b <;> first | rfl | cases q
                  cases hib : intV b with
                  | true =>
                    rw [tb hib]
                    simp only [run_ok, run_okI, run_okB, run_alloc, run_stuck, run_bind, run_ite, run_noX, run_fnOf, w_c, w_op, w_un, w_call, w_callK, w_nil, w_cons, w_tup, w_lst, isB_bl, w_tval, w_tand, w_tor, w_tnot, w_and, w_or, w_not, w_if, s_next, s_seq, s_if, s_ret, s_drop, s_set, s_par, s_put, s_asg, w_var', runS_next, runS_ret, runS_stuck, runS_ite, List.length_cons, List.length_nil, List.length_singleton, List.map_cons, List.map_nil, List.cons_append, List.nil_append, List.replicate_succ, List.replicate_zero, List.getElem?_cons_zero, List.getElem?_cons_succ, List.set_cons_zero, List.set_cons_succ, Nat.reduceAdd, Nat.reduceSub, Nat.reduceEqDiff, ite_true, ite_false, if_true, if_false, reduceIte, Bool.false_eq_true, decide_true, decide_false, String.reduceEq, Int.reduceEq, Nat.reduceLeDiff, true_and, and_true, Bool.not_true, Bool.not_false, decide_eq_true_eq, List.append_nil, bType, bIsi, bLen, bInt, ty_int, ty_bl, ty_str, ty_non, ty_tup, isT, oIs, oIsNot, oSub, oAdd, oIx, run_eqI, run_neI, Bool.or_false, Bool.or_true, Bool.false_or, Bool.true_or, Bool.and_true, Bool.and_false, Bool.true_and, Bool.false_and, reduceCtorEq, decide_not, Bool.not_eq_true', decide_eq_false_iff_not, askInt, askBool, askTuple, askList, askStr, oLe, oLt, oGe, oGt, oInt2, atI0, atI1, atI2]
                    rw [run_eq hb hc (by omega) (by omega), co_eq hcb hcc hb hc (by omega) (by omega) hib]
                    simp only [run_ok, run_okI, run_okB, run_alloc, run_stuck, run_bind, run_ite, run_noX, run_fnOf, w_c, w_op, w_un, w_call, w_callK, w_nil, w_cons, w_tup, w_lst, isB_bl, w_tval, w_tand, w_tor, w_tnot, w_and, w_or, w_not, w_if, s_next, s_seq, s_if, s_ret, s_drop, s_set, s_par, s_put, s_asg, w_var', runS_next, runS_ret, runS_stuck, runS_ite, List.length_cons, List.length_nil, List.length_singleton, List.map_cons, List.map_nil, List.cons_append, List.nil_append, List.replicate_succ, List.replicate_zero, List.getElem?_cons_zero, List.getElem?_cons_succ, List.set_cons_zero, List.set_cons_succ, Nat.reduceAdd, Nat.reduceSub, Nat.reduceEqDiff, ite_true, ite_false, if_true, if_false, reduceIte, Bool.false_eq_true, decide_true, decide_false, String.reduceEq, Int.reduceEq, Nat.reduceLeDiff, true_and, and_true, Bool.not_true, Bool.not_false, decide_eq_true_eq, List.append_nil, bType, bIsi, bLen, bInt, ty_int, ty_bl, ty_str, ty_non, ty_tup, isT, oIs, oIsNot, oSub, oAdd, oIx, run_eqI, run_neI, Bool.or_false, Bool.or_true, Bool.false_or, Bool.true_or, Bool.and_true, Bool.and_false, Bool.true_and, Bool.false_and, reduceCtorEq, decide_not, Bool.not_eq_true', decide_eq_false_iff_not, askInt, askBool, askTuple, askList, askStr, oLe, oLt, oGe, oGt, oInt2, atI0, atI1, atI2]
                    cases sameI b c with
                    | true => simp
                    | false => simpa using rest
                  | false =>
                    have e1 : sameI b c = false := by cases b <;> first | rfl | cases hib
                    have e2 : tyN b S2 = some "tuple" := by
                      rcases isCo_none hcb with ⟨i, rfl, _⟩ | ⟨_, _, _, _, _, rfl⟩
                      · cases hib
                      · rfl
                    rw [e1, e2]
                    simp only [run_ok, run_okI, run_okB, run_alloc, run_stuck, run_bind, run_ite, run_noX, run_fnOf, w_c, w_op, w_un, w_call, w_callK, w_nil, w_cons, w_tup, w_lst, isB_bl, w_tval, w_tand, w_tor, w_tnot, w_and, w_or, w_not, w_if, s_next, s_seq, s_if, s_ret, s_drop, s_set, s_par, s_put, s_asg, w_var', runS_next, runS_ret, runS_stuck, runS_ite, List.length_cons, List.length_nil, List.length_singleton, List.map_cons, List.map_nil, List.cons_append, List.nil_append, List.replicate_succ, List.replicate_zero, List.getElem?_cons_zero, List.getElem?_cons_succ, List.set_cons_zero, List.set_cons_succ, Nat.reduceAdd, Nat.reduceSub, Nat.reduceEqDiff, ite_true, ite_false, if_true, if_false, reduceIte, Bool.false_eq_true, decide_true, decide_false, String.reduceEq, Int.reduceEq, Nat.reduceLeDiff, true_and, and_true, Bool.not_true, Bool.not_false, decide_eq_true_eq, List.append_nil, bType, bIsi, bLen, bInt, ty_int, ty_bl, ty_str, ty_non, ty_tup, isT, oIs, oIsNot, oSub, oAdd, oIx, run_eqI, run_neI, Bool.or_false, Bool.or_true, Bool.false_or, Bool.true_or, Bool.and_true, Bool.and_false, Bool.true_and, Bool.false_and, reduceCtorEq, decide_not, Bool.not_eq_true', decide_eq_false_iff_not, askInt, askBool, askTuple, askList, askStr, oLe, oLt, oGe, oGt, oInt2, atI0, atI1, atI2]
                    simpa using rest
          | non => simp only [run_ok, run_okI, run_okB, run_alloc, run_stuck, run_bind, run_ite, run_noX, run_fnOf, w_c, w_op, w_un, w_call, w_callK, w_nil, w_cons, w_tup, w_lst, isB_bl, w_tval, w_tand, w_tor, w_tnot, w_and, w_or, w_not, w_if, s_next, s_seq, s_if, s_ret, s_drop, s_set, s_par, s_put, s_asg, w_var', runS_next, runS_ret, runS_stuck, runS_ite, List.length_cons, List.length_nil, List.length_singleton, List.map_cons, List.map_nil, List.cons_append, List.nil_append, List.replicate_succ, List.replicate_zero, List.getElem?_cons_zero, List.getElem?_cons_succ, List.set_cons_zero, List.set_cons_succ, Nat.reduceAdd, Nat.reduceSub, Nat.reduceEqDiff, ite_true, ite_false, if_true, if_false, reduceIte, Bool.false_eq_true, decide_true, decide_false, String.reduceEq, Int.reduceEq, Nat.reduceLeDiff, true_and, and_true, Bool.not_true, Bool.not_false, decide_eq_true_eq, List.append_nil, bType, bIsi, bLen, bInt, ty_int, ty_bl, ty_str, ty_non, ty_tup, isT, oIs, oIsNot, oSub, oAdd, oIx, run_eqI, run_neI, Bool.or_false, Bool.or_true, Bool.false_or, Bool.true_or, Bool.and_true, Bool.and_false, Bool.true_and, Bool.false_and, reduceCtorEq, decide_not, Bool.not_eq_true', decide_eq_false_iff_not, askInt, askBool, askTuple, askList, askStr, oLe, oLt, oGe, oGt, oInt2, atI0, atI1, atI2]; simp [isCo]
          | bl => simp only [run_ok, run_okI, run_okB, run_alloc, run_stuck, run_bind, run_ite, run_noX, run_fnOf, w_c, w_op, w_un, w_call, w_callK, w_nil, w_cons, w_tup, w_lst, isB_bl, w_tval, w_tand, w_tor, w_tnot, w_and, w_or, w_not, w_if, s_next, s_seq, s_if, s_ret, s_drop, s_set, s_par, s_put, s_asg, w_var', runS_next, runS_ret, runS_stuck, runS_ite, List.length_cons, List.length_nil, List.length_singleton, List.map_cons, List.map_nil, List.cons_append, List.nil_append, List.replicate_succ, List.replicate_zero, List.getElem?_cons_zero, List.getElem?_cons_succ, List.set_cons_zero, List.set_cons_succ, Nat.reduceAdd, Nat.reduceSub, Nat.reduceEqDiff, ite_true, ite_false, if_true, if_false, reduceIte, Bool.false_eq_true, decide_true, decide_false, String.reduceEq, Int.reduceEq, Nat.reduceLeDiff, true_and, and_true, Bool.not_true, Bool.not_false, decide_eq_true_eq, List.append_nil, bType, bIsi, bLen, bInt, ty_int, ty_bl, ty_str, ty_non, ty_tup, isT, oIs, oIsNot, oSub, oAdd, oIx, run_eqI, run_neI, Bool.or_false, Bool.or_true, Bool.false_or, Bool.true_or, Bool.and_true, Bool.and_false, Bool.true_and, Bool.false_and, reduceCtorEq, decide_not, Bool.not_eq_true', decide_eq_false_iff_not, askInt, askBool, askTuple, askList, askStr, oLe, oLt, oGe, oGt, oInt2, atI0, atI1, atI2]; simp [isCo]
          | str => simp only [run_ok, run_okI, run_okB, run_alloc, run_stuck, run_bind, run_ite, run_noX, run_fnOf, w_c, w_op, w_un, w_call, w_callK, w_nil, w_cons, w_tup, w_lst, isB_bl, w_tval, w_tand, w_tor, w_tnot, w_and, w_or, w_not, w_if, s_next, s_seq, s_if, s_ret, s_drop, s_set, s_par, s_put, s_asg, w_var', runS_next, runS_ret, runS_stuck, runS_ite, List.length_cons, List.length_nil, List.length_singleton, List.map_cons, List.map_nil, List.cons_append, List.nil_append, List.replicate_succ, List.replicate_zero, List.getElem?_cons_zero, List.getElem?_cons_succ, List.set_cons_zero, List.set_cons_succ, Nat.reduceAdd, Nat.reduceSub, Nat.reduceEqDiff, ite_true, ite_false, if_true, if_false, reduceIte, Bool.false_eq_true, decide_true, decide_false, String.reduceEq, Int.reduceEq, Nat.reduceLeDiff, true_and, and_true, Bool.not_true, Bool.not_false, decide_eq_true_eq, List.append_nil, bType, bIsi, bLen, bInt, ty_int, ty_bl, ty_str, ty_non, ty_tup, isT, oIs, oIsNot, oSub, oAdd, oIx, run_eqI, run_neI, Bool.or_false, Bool.or_true, Bool.false_or, Bool.true_or, Bool.and_true, Bool.and_false, Bool.true_and, Bool.false_and, reduceCtorEq, decide_not, Bool.not_eq_true', decide_eq_false_iff_not, askInt, askBool, askTuple, askList, askStr, oLe, oLt, oGe, oGt, oInt2, atI0, atI1, atI2]; simp [isCo]
          | tup => simp only [run_ok, run_okI, run_okB, run_alloc, run_stuck, run_bind, run_ite, run_noX, run_fnOf, w_c, w_op, w_un, w_call, w_callK, w_nil, w_cons, w_tup, w_lst, isB_bl, w_tval, w_tand, w_tor, w_tnot, w_and, w_or, w_not, w_if, s_next, s_seq, s_if, s_ret, s_drop, s_set, s_par, s_put, s_asg, w_var', runS_next, runS_ret, runS_stuck, runS_ite, List.length_cons, List.length_nil, List.length_singleton, List.map_cons, List.map_nil, List.cons_append, List.nil_append, List.replicate_succ, List.replicate_zero, List.getElem?_cons_zero, List.getElem?_cons_succ, List.set_cons_zero, List.set_cons_succ, Nat.reduceAdd, Nat.reduceSub, Nat.reduceEqDiff, ite_true, ite_false, if_true, if_false, reduceIte, Bool.false_eq_true, decide_true, decide_false, String.reduceEq, Int.reduceEq, Nat.reduceLeDiff, true_and, and_true, Bool.not_true, Bool.not_false, decide_eq_true_eq, List.append_nil, bType, bIsi, bLen, bInt, ty_int, ty_bl, ty_str, ty_non, ty_tup, isT, oIs, oIsNot, oSub, oAdd, oIx, run_eqI, run_neI, Bool.or_false, Bool.or_true, Bool.false_or, Bool.true_or, Bool.and_true, Bool.and_false, Bool.true_and, Bool.false_and, reduceCtorEq, decide_not, Bool.not_eq_true', decide_eq_false_iff_not, askInt, askBool, askTuple, askList, askStr, oLe, oLt, oGe, oGt, oInt2, atI0, atI1, atI2]; simp [isCo]
          | ref hn _ => simp only [ty_ref hn, run_ok, run_okI, run_okB, run_alloc, run_stuck, run_bind, run_ite, run_noX, run_fnOf, w_c, w_op, w_un, w_call, w_callK, w_nil, w_cons, w_tup, w_lst, isB_bl, w_tval, w_tand, w_tor, w_tnot, w_and, w_or, w_not, w_if, s_next, s_seq, s_if, s_ret, s_drop, s_set, s_par, s_put, s_asg, w_var', runS_next, runS_ret, runS_stuck, runS_ite, List.length_cons, List.length_nil, List.length_singleton, List.map_cons, List.map_nil, List.cons_append, List.nil_append, List.replicate_succ, List.replicate_zero, List.getElem?_cons_zero, List.getElem?_cons_succ, List.set_cons_zero, List.set_cons_succ, Nat.reduceAdd, Nat.reduceSub, Nat.reduceEqDiff, ite_true, ite_false, if_true, if_false, reduceIte, Bool.false_eq_true, decide_true, decide_false, String.reduceEq, Int.reduceEq, Nat.reduceLeDiff, true_and, and_true, Bool.not_true, Bool.not_false, decide_eq_true_eq, List.append_nil, bType, bIsi, bLen, bInt, ty_int, ty_bl, ty_str, ty_non, ty_tup, isT, oIs, oIsNot, oSub, oAdd, oIx, run_eqI, run_neI, Bool.or_false, Bool.or_true, Bool.false_or, Bool.true_or, Bool.and_true, Bool.and_false, Bool.true_and, Bool.false_and, reduceCtorEq, decide_not, Bool.not_eq_true', decide_eq_false_iff_not, askInt, askBool, askTuple, askList, askStr, oLe, oLt, oGe, oGt, oInt2, atI0, atI1, atI2]; simp [isCo]
      · rw [if_pos (by omega), isCo_len hl]
theorem isCo_tr : ∀ (e k : Nat) (v : Val) (S : Store), isCo k v = true → Da S e v → Tr e 1000 v := fun e k v S h hv => by
  induction hv generalizing k with
  | int d i => exact .int _ _ i
  | non => cases k <;> cases h
  | bl => cases k <;> cases h
  | str => cases k <;> cases h
  | ref => cases k <;> cases h
  | @tup d xs hx ih =>
    rcases isCo_none h with ⟨i, q, _⟩ | ⟨k', m, l, r, rfl, q⟩
    · cases q
    · cases q
      rw [isCo_three] at h
      simp only [Bool.and_eq_true] at h
      refine .tup (by simp) fun x hm => ?_
      rcases List.mem_cons.mp hm with rfl | hm
      · exact .int _ _ m
      · rcases List.mem_cons.mp hm with rfl | hm
        · exact ih _ (by simp) k' h.2.1
        · rw [List.mem_singleton.mp hm]
          exact ih _ (by simp) k' h.2.2.1
def coOk (v : Val) : Bool := isCo 12 v && decide (tcount v ≤ 63)
theorem p_is_counts {e n : Nat} {v : Val} {S : Store} (hv : Da S e v) (he : e < 60) (hn : 61 < n) : Run ((fns n).is_counts [v] S) (PureQ S (.bl (coOk v))) := by
  obtain ⟨n, rfl⟩ : ∃ m, n = m + 1 := ⟨n - 1, by omega⟩
  show Run (fnOf 1 1 (b_is_counts (fns n)) [v] S) _
  unfold b_is_counts
  simp only [run_ok, run_okI, run_okB, run_alloc, run_stuck, run_bind, run_ite, run_noX, run_fnOf, w_c, w_op, w_un, w_call, w_callK, w_nil, w_cons, w_tup, w_lst, isB_bl, w_tval, w_tand, w_tor, w_tnot, w_and, w_or, w_not, w_if, s_next, s_seq, s_if, s_ret, s_drop, s_set, s_par, s_put, s_asg, w_var', runS_next, runS_ret, runS_stuck, runS_ite, List.length_cons, List.length_nil, List.length_singleton, List.map_cons, List.map_nil, List.cons_append, List.nil_append, List.replicate_succ, List.replicate_zero, List.getElem?_cons_zero, List.getElem?_cons_succ, List.set_cons_zero, List.set_cons_succ, Nat.reduceAdd, Nat.reduceSub, Nat.reduceEqDiff, ite_true, ite_false, if_true, if_false, reduceIte, Bool.false_eq_true, decide_true, decide_false, String.reduceEq, Int.reduceEq, Nat.reduceLeDiff, true_and, and_true, Bool.not_true, Bool.not_false, decide_eq_true_eq, List.append_nil, bType, bIsi, bLen, bInt, ty_int, ty_bl, ty_str, ty_non, ty_tup, isT, oIs, oIsNot, oSub, oAdd, oIx, run_eqI, run_neI, Bool.or_false, Bool.or_true, Bool.false_or, Bool.true_or, Bool.and_true, Bool.and_false, Bool.true_and, Bool.false_and, reduceCtorEq, decide_not, Bool.not_eq_true', decide_eq_false_iff_not, askInt, askBool, askTuple, askList, askStr, oLe, oLt, oGe, oGt, oInt2, atI0, atI1, atI2]
  refine Run.mono (p_is_counts_tree e n 12 v S hv he (by omega)) fun r S1 ⟨er, eS⟩ => ?_
  subst er eS
  simp only [run_ok, run_okI, run_okB, run_alloc, run_stuck, run_bind, run_ite, run_noX, run_fnOf, w_c, w_op, w_un, w_call, w_callK, w_nil, w_cons, w_tup, w_lst, isB_bl, w_tval, w_tand, w_tor, w_tnot, w_and, w_or, w_not, w_if, s_next, s_seq, s_if, s_ret, s_drop, s_set, s_par, s_put, s_asg, w_var', runS_next, runS_ret, runS_stuck, runS_ite, List.length_cons, List.length_nil, List.length_singleton, List.map_cons, List.map_nil, List.cons_append, List.nil_append, List.replicate_succ, List.replicate_zero, List.getElem?_cons_zero, List.getElem?_cons_succ, List.set_cons_zero, List.set_cons_succ, Nat.reduceAdd, Nat.reduceSub, Nat.reduceEqDiff, ite_true, ite_false, if_true, if_false, reduceIte, Bool.false_eq_true, decide_true, decide_false, String.reduceEq, Int.reduceEq, Nat.reduceLeDiff, true_and, and_true, Bool.not_true, Bool.not_false, decide_eq_true_eq, List.append_nil, bType, bIsi, bLen, bInt, ty_int, ty_bl, ty_str, ty_non, ty_tup, isT, oIs, oIsNot, oSub, oAdd, oIx, run_eqI, run_neI, Bool.or_false, Bool.or_true, Bool.false_or, Bool.true_or, Bool.and_true, Bool.and_false, Bool.true_and, Bool.false_and, reduceCtorEq, decide_not, Bool.not_eq_true', decide_eq_false_iff_not, askInt, askBool, askTuple, askList, askStr, oLe, oLt, oGe, oGt, oInt2, atI0, atI1, atI2]
  unfold coOk
  split
  · rename_i hs
    refine Run.mono (p_tuple_count e n v S1 (isCo_tr _ _ _ _ hs hv) (by omega)) fun r S2 ⟨er, g⟩ => ?_
    subst er
    simp only [run_ok, run_okI, run_okB, run_alloc, run_stuck, run_bind, run_ite, run_noX, run_fnOf, w_c, w_op, w_un, w_call, w_callK, w_nil, w_cons, w_tup, w_lst, isB_bl, w_tval, w_tand, w_tor, w_tnot, w_and, w_or, w_not, w_if, s_next, s_seq, s_if, s_ret, s_drop, s_set, s_par, s_put, s_asg, w_var', runS_next, runS_ret, runS_stuck, runS_ite, List.length_cons, List.length_nil, List.length_singleton, List.map_cons, List.map_nil, List.cons_append, List.nil_append, List.replicate_succ, List.replicate_zero, List.getElem?_cons_zero, List.getElem?_cons_succ, List.set_cons_zero, List.set_cons_succ, Nat.reduceAdd, Nat.reduceSub, Nat.reduceEqDiff, ite_true, ite_false, if_true, if_false, reduceIte, Bool.false_eq_true, decide_true, decide_false, String.reduceEq, Int.reduceEq, Nat.reduceLeDiff, true_and, and_true, Bool.not_true, Bool.not_false, decide_eq_true_eq, List.append_nil, bType, bIsi, bLen, bInt, ty_int, ty_bl, ty_str, ty_non, ty_tup, isT, oIs, oIsNot, oSub, oAdd, oIx, run_eqI, run_neI, Bool.or_false, Bool.or_true, Bool.false_or, Bool.true_or, Bool.and_true, Bool.and_false, Bool.true_and, Bool.false_and, reduceCtorEq, decide_not, Bool.not_eq_true', decide_eq_false_iff_not, askInt, askBool, askTuple, askList, askStr, oLe, oLt, oGe, oGt, oInt2, atI0, atI1, atI2]
    exact ⟨by rw [hs, Bool.true_and], g⟩
  · rename_i hs
    rw [Bool.not_eq_true] at hs
    exact ⟨by rw [hs, Bool.false_and], .refl _⟩
theorem check_counts_ok {e n : Nat} {v : Val} {S : Store} (hv : Da S e v) (he : e < 60) (hn : 62 < n) : ∃ S', Kp S S' ∧ (fns n).check_counts [v] S = if coOk v = true then .ok .non S' else .exc ⟨1, []⟩ S' := by
  obtain ⟨n, rfl⟩ : ∃ m, n = m + 1 := ⟨n - 1, by omega⟩
  obtain ⟨r, S', e1, e2, g⟩ := (p_is_counts (n := n) hv he (by omega)).to
  subst e2
  refine ⟨S', g.kp, ?_⟩
  show fnOf 1 1 (b_check_counts (fns n)) [v] S = _
  simp only [fnOf, b_check_counts, sIf, tNot', tVal, dCall, aCons, aNil, dVar, Res.bind, Res.toS, List.length_cons, List.length_nil, List.map_cons, List.map_nil, Nat.reduceAdd, Nat.reduceSub, List.replicate_zero, List.append_nil, List.getElem?_cons_zero, e1, if_true]
  cases coOk v <;> rfl
theorem leastV_toV (t : T) : leastV (toV t) = t.top := by cases t <;> rfl
theorem sameI_toV (l r : T) : sameI (toV l) (toV r) = T.sameL l r := by
  cases l <;> cases r <;> rfl
theorem isCo_toV : ∀ {t : T} {k : Nat}, t.co = true → t.nn = true → t.dep ≤ k → isCo k (toV t) = true
  | .leaf i, k, _, hn, _ => by cases k <;> exact hn
  | .node n l r, k, hc, hn, hd => by
    have hd : 1 + max l.dep r.dep ≤ k := hd
    obtain ⟨k, rfl⟩ : ∃ j, k = j + 1 := ⟨k - 1, by omega⟩
    obtain ⟨h1, h2, h3, h4, h5, h6⟩ := T.co_node.mp hc
    obtain ⟨n1, n2, n3⟩ := T.nn_node.mp hn
    show isCo (k + 1) (.tup [.int n, toV l, toV r]) = true
    rw [isCo_three, isCo_toV h1 n2 (by omega), isCo_toV h2 n3 (by omega), sameI_toV, h3, leastV_toV, leastV_toV, decide_eq_true n1]
    rcases h6 with h | h
    · rw [decide_eq_true h]; rfl
    · rw [decide_eq_true h]; simp
theorem isCo_dep : ∀ {t : T} {k : Nat}, isCo k (toV t) = true → t.dep ≤ k
  | .leaf i, k, _ => Nat.zero_le _
  | .node n l r, 0, h => by cases h
  | .node n l r, k + 1, h => by
    have h : isCo (k + 1) (.tup [.int n, toV l, toV r]) = true := h
    rw [isCo_three] at h
    simp only [Bool.and_eq_true] at h
    have a := isCo_dep h.2.1
    have b := isCo_dep h.2.2.1
    show 1 + max l.dep r.dep ≤ k + 1
    omega
structure Cts (t : T) : Prop where
  co : t.co = true
  nn : t.nn = true
  dep : t.dep ≤ 12
  tc : t.tc ≤ 63
theorem coOk_toV {t : T} (h : Cts t) : coOk (toV t) = true := by
  unfold coOk
  rw [isCo_toV h.co h.nn h.dep, tcount_toV, decide_eq_true (by have := h.tc; omega)]; rfl
theorem p_leastT {n : Nat} {t : T} {S : Store} (hn : 0 < n) : Run ((fns n).least [toV t] S) (fun r S' => r = .int t.top ∧ S' = S) := by
  obtain ⟨n, rfl⟩ : ∃ m, n = m + 1 := ⟨n - 1, by omega⟩
  show Run (fnOf 1 1 (b_least (fns n)) [toV t] S) _
  unfold b_least
  cases t <;> simp only [toV, run_ok, run_okI, run_okB, run_alloc, run_stuck, run_bind, run_ite, run_noX, run_fnOf, w_c, w_op, w_un, w_call, w_callK, w_nil, w_cons, w_tup, w_lst, isB_bl, w_tval, w_tand, w_tor, w_tnot, w_and, w_or, w_not, w_if, s_next, s_seq, s_if, s_ret, s_drop, s_set, s_par, s_put, s_asg, w_var', runS_next, runS_ret, runS_stuck, runS_ite, List.length_cons, List.length_nil, List.length_singleton, List.map_cons, List.map_nil, List.cons_append, List.nil_append, List.replicate_succ, List.replicate_zero, List.getElem?_cons_zero, List.getElem?_cons_succ, List.set_cons_zero, List.set_cons_succ, Nat.reduceAdd, Nat.reduceSub, Nat.reduceEqDiff, ite_true, ite_false, if_true, if_false, reduceIte, Bool.false_eq_true, decide_true, decide_false, String.reduceEq, Int.reduceEq, Nat.reduceLeDiff, true_and, and_true, Bool.not_true, Bool.not_false, decide_eq_true_eq, List.append_nil, bType, bIsi, bLen, bInt, ty_int, ty_bl, ty_str, ty_non, ty_tup, isT, oIs, oIsNot, oSub, oAdd, oIx, run_eqI, run_neI, Bool.or_false, Bool.or_true, Bool.false_or, Bool.true_or, Bool.and_true, Bool.and_false, Bool.true_and, Bool.false_and, reduceCtorEq, decide_not, Bool.not_eq_true', decide_eq_false_iff_not, askInt, askBool, askTuple, askList, askStr, oLe, oLt, oGe, oGt, oInt2, atI0, atI1, atI2] <;> exact rfl
theorem p_lifted {n : Nat} {t : T} {k : Int} {S : Store} (hn : 0 < n) : Run ((fns n).lifted [toV t, .int k] S) (fun r S' => r = toV (t.lift k) ∧ S' = S) := by
  obtain ⟨n, rfl⟩ : ∃ m, n = m + 1 := ⟨n - 1, by omega⟩
  show Run (fnOf 2 2 (b_lifted (fns n)) [toV t, .int k] S) _
  unfold b_lifted
  cases t <;> simp only [toV, run_ok, run_okI, run_okB, run_alloc, run_stuck, run_bind, run_ite, run_noX, run_fnOf, w_c, w_op, w_un, w_call, w_callK, w_nil, w_cons, w_tup, w_lst, isB_bl, w_tval, w_tand, w_tor, w_tnot, w_and, w_or, w_not, w_if, s_next, s_seq, s_if, s_ret, s_drop, s_set, s_par, s_put, s_asg, w_var', runS_next, runS_ret, runS_stuck, runS_ite, List.length_cons, List.length_nil, List.length_singleton, List.map_cons, List.map_nil, List.cons_append, List.nil_append, List.replicate_succ, List.replicate_zero, List.getElem?_cons_zero, List.getElem?_cons_succ, List.set_cons_zero, List.set_cons_succ, Nat.reduceAdd, Nat.reduceSub, Nat.reduceEqDiff, ite_true, ite_false, if_true, if_false, reduceIte, Bool.false_eq_true, decide_true, decide_false, String.reduceEq, Int.reduceEq, Nat.reduceLeDiff, true_and, and_true, Bool.not_true, Bool.not_false, decide_eq_true_eq, List.append_nil, bType, bIsi, bLen, bInt, ty_int, ty_bl, ty_str, ty_non, ty_tup, isT, oIs, oIsNot, oSub, oAdd, oIx, run_eqI, run_neI, Bool.or_false, Bool.or_true, Bool.false_or, Bool.true_or, Bool.and_true, Bool.and_false, Bool.true_and, Bool.false_and, reduceCtorEq, decide_not, Bool.not_eq_true', decide_eq_false_iff_not, askInt, askBool, askTuple, askList, askStr, oLe, oLt, oGe, oGt, oInt2, atI0, atI1, atI2] <;> exact rfl
theorem p_halves {n : Nat} {t : T} {S : Store} (hn : 1 < n) : Run ((fns n).halves [toV t] S) (fun r S' => r = .tup [toV (t.hf 0), toV (t.hf 1)] ∧ S' = S) := by
  obtain ⟨n, rfl⟩ : ∃ m, n = m + 1 := ⟨n - 1, by omega⟩
  show Run (fnOf 1 1 (b_halves (fns n)) [toV t] S) _
  unfold b_halves
  cases t with
  | leaf i => simp only [toV, run_ok, run_okI, run_okB, run_alloc, run_stuck, run_bind, run_ite, run_noX, run_fnOf, w_c, w_op, w_un, w_call, w_callK, w_nil, w_cons, w_tup, w_lst, isB_bl, w_tval, w_tand, w_tor, w_tnot, w_and, w_or, w_not, w_if, s_next, s_seq, s_if, s_ret, s_drop, s_set, s_par, s_put, s_asg, w_var', runS_next, runS_ret, runS_stuck, runS_ite, List.length_cons, List.length_nil, List.length_singleton, List.map_cons, List.map_nil, List.cons_append, List.nil_append, List.replicate_succ, List.replicate_zero, List.getElem?_cons_zero, List.getElem?_cons_succ, List.set_cons_zero, List.set_cons_succ, Nat.reduceAdd, Nat.reduceSub, Nat.reduceEqDiff, ite_true, ite_false, if_true, if_false, reduceIte, Bool.false_eq_true, decide_true, decide_false, String.reduceEq, Int.reduceEq, Nat.reduceLeDiff, true_and, and_true, Bool.not_true, Bool.not_false, decide_eq_true_eq, List.append_nil, bType, bIsi, bLen, bInt, ty_int, ty_bl, ty_str, ty_non, ty_tup, isT, oIs, oIsNot, oSub, oAdd, oIx, run_eqI, run_neI, Bool.or_false, Bool.or_true, Bool.false_or, Bool.true_or, Bool.and_true, Bool.and_false, Bool.true_and, Bool.false_and, reduceCtorEq, decide_not, Bool.not_eq_true', decide_eq_false_iff_not, askInt, askBool, askTuple, askList, askStr, oLe, oLt, oGe, oGt, oInt2, atI0, atI1, atI2]; exact rfl
  | node m l r =>
    simp only [toV, run_ok, run_okI, run_okB, run_alloc, run_stuck, run_bind, run_ite, run_noX, run_fnOf, w_c, w_op, w_un, w_call, w_callK, w_nil, w_cons, w_tup, w_lst, isB_bl, w_tval, w_tand, w_tor, w_tnot, w_and, w_or, w_not, w_if, s_next, s_seq, s_if, s_ret, s_drop, s_set, s_par, s_put, s_asg, w_var', runS_next, runS_ret, runS_stuck, runS_ite, List.length_cons, List.length_nil, List.length_singleton, List.map_cons, List.map_nil, List.cons_append, List.nil_append, List.replicate_succ, List.replicate_zero, List.getElem?_cons_zero, List.getElem?_cons_succ, List.set_cons_zero, List.set_cons_succ, Nat.reduceAdd, Nat.reduceSub, Nat.reduceEqDiff, ite_true, ite_false, if_true, if_false, reduceIte, Bool.false_eq_true, decide_true, decide_false, String.reduceEq, Int.reduceEq, Nat.reduceLeDiff, true_and, and_true, Bool.not_true, Bool.not_false, decide_eq_true_eq, List.append_nil, bType, bIsi, bLen, bInt, ty_int, ty_bl, ty_str, ty_non, ty_tup, isT, oIs, oIsNot, oSub, oAdd, oIx, run_eqI, run_neI, Bool.or_false, Bool.or_true, Bool.false_or, Bool.true_or, Bool.and_true, Bool.and_false, Bool.true_and, Bool.false_and, reduceCtorEq, decide_not, Bool.not_eq_true', decide_eq_false_iff_not, askInt, askBool, askTuple, askList, askStr, oLe, oLt, oGe, oGt, oInt2, atI0, atI1, atI2]
    refine Run.mono (p_lifted (by omega)) fun r S1 ⟨e, e2⟩ => ?_
    subst e e2
    refine Run.mono (p_lifted (by omega)) fun r S2 ⟨e, e2⟩ => ?_
    subst e e2
    simp only [run_ok, run_okI, run_okB, run_alloc, run_stuck, run_bind, run_ite, run_noX, run_fnOf, w_c, w_op, w_un, w_call, w_callK, w_nil, w_cons, w_tup, w_lst, isB_bl, w_tval, w_tand, w_tor, w_tnot, w_and, w_or, w_not, w_if, s_next, s_seq, s_if, s_ret, s_drop, s_set, s_par, s_put, s_asg, w_var', runS_next, runS_ret, runS_stuck, runS_ite, List.length_cons, List.length_nil, List.length_singleton, List.map_cons, List.map_nil, List.cons_append, List.nil_append, List.replicate_succ, List.replicate_zero, List.getElem?_cons_zero, List.getElem?_cons_succ, List.set_cons_zero, List.set_cons_succ, Nat.reduceAdd, Nat.reduceSub, Nat.reduceEqDiff, ite_true, ite_false, if_true, if_false, reduceIte, Bool.false_eq_true, decide_true, decide_false, String.reduceEq, Int.reduceEq, Nat.reduceLeDiff, true_and, and_true, Bool.not_true, Bool.not_false, decide_eq_true_eq, List.append_nil, bType, bIsi, bLen, bInt, ty_int, ty_bl, ty_str, ty_non, ty_tup, isT, oIs, oIsNot, oSub, oAdd, oIx, run_eqI, run_neI, Bool.or_false, Bool.or_true, Bool.false_or, Bool.true_or, Bool.and_true, Bool.and_false, Bool.true_and, Bool.false_and, reduceCtorEq, decide_not, Bool.not_eq_true', decide_eq_false_iff_not, askInt, askBool, askTuple, askList, askStr, oLe, oLt, oGe, oGt, oInt2, atI0, atI1, atI2]
    exact rfl
theorem toV_daN {t : T} {S : Store} (h : t.dep ≤ 12) : Da S 12 (toV t) := toV_da h
theorem run_geI {a b : Int} {S : Store} {Q : Val → Store → Prop} : Run (oGe (.int a) (.int b) S) Q = Q (.bl (decide (b ≤ a))) S := rfl
theorem p_tc {t : T} {n : Nat} {S : Store} (h : t.dep < n) : Run ((fns n).tuple_count [toV t] S) (PureK S (.int t.tc)) :=
  Run.mono (p_tuple_count t.dep n (toV t) S (tr_toV (Nat.le_refl _)) h) fun r S' ⟨e, g⟩ => ⟨by rw [e, tcount_toV], g.kp⟩
theorem p_whole {n : Nat} {l r : T} {S : Store} (hn : 1 < n) (hl : r.dep < 65) : Run ((fns n).whole [toV l, toV r] S) (fun x S' => x = toV (T.whole l r) ∧ S' = S) := by
  obtain ⟨n, rfl⟩ : ∃ m, n = m + 1 := ⟨n - 1, by omega⟩
  show Run (fnOf 2 3 (b_whole (fns n)) [toV l, toV r] S) _
  unfold b_whole
  have fin : ∀ (R : Val → Store → Prop), (∀ x S', x = toV (T.node (min l.top r.top) (l.lift (-(min l.top r.top))) (r.lift (-(min l.top r.top)))) ∧ S' = S → R x S') → RunS ((sSeq (sSet 2 (dCall bMin2 (aCons (dCall (fns n).least (aCons (dVar 0) aNil)) (aCons (dCall (fns n).least (aCons (dVar 1) aNil)) aNil))))
    (sRet (dTup (aCons (dVar 2) (aCons (dCall (fns n).lifted (aCons (dVar 0) (aCons (dUn oNeg (dVar 2)) aNil))) (aCons (dCall (fns n).lifted (aCons (dVar 1) (aCons (dUn oNeg (dVar 2)) aNil))) aNil)))))) [some (toV l), some (toV r), none] S) (fun _ S' => R .non S') R := by
    intro R hR
    simp only [run_ok, run_okI, run_okB, run_alloc, run_stuck, run_bind, run_ite, run_noX, run_fnOf, w_c, w_op, w_un, w_call, w_callK, w_nil, w_cons, w_tup, w_lst, isB_bl, w_tval, w_tand, w_tor, w_tnot, w_and, w_or, w_not, w_if, s_next, s_seq, s_if, s_ret, s_drop, s_set, s_par, s_put, s_asg, w_var', runS_next, runS_ret, runS_stuck, runS_ite, List.length_cons, List.length_nil, List.length_singleton, List.map_cons, List.map_nil, List.cons_append, List.nil_append, List.replicate_succ, List.replicate_zero, List.getElem?_cons_zero, List.getElem?_cons_succ, List.set_cons_zero, List.set_cons_succ, Nat.reduceAdd, Nat.reduceSub, Nat.reduceEqDiff, ite_true, ite_false, if_true, if_false, reduceIte, Bool.false_eq_true, decide_true, decide_false, String.reduceEq, Int.reduceEq, Nat.reduceLeDiff, true_and, and_true, Bool.not_true, Bool.not_false, decide_eq_true_eq, List.append_nil, bType, bIsi, bLen, bInt, ty_int, ty_bl, ty_str, ty_non, ty_tup, isT, oIs, oIsNot, oSub, oAdd, oIx, run_eqI, run_neI, Bool.or_false, Bool.or_true, Bool.false_or, Bool.true_or, Bool.and_true, Bool.and_false, Bool.true_and, Bool.false_and, reduceCtorEq, decide_not, Bool.not_eq_true', decide_eq_false_iff_not, askInt, askBool, askTuple, askList, askStr, oLe, oLt, oGe, oGt, oInt2, atI0, atI1, atI2]
    refine Run.mono (p_leastT (by omega)) fun x S1 ⟨e1, e2⟩ => ?_
    subst e1 e2
    refine Run.mono (p_leastT (by omega)) fun x S2 ⟨e1, e2⟩ => ?_
    subst e1 e2
    simp only [bMin2, w_un, run_neg, run_ok, run_okI, run_okB, run_alloc, run_stuck, run_bind, run_ite, run_noX, run_fnOf, w_c, w_op, w_un, w_call, w_callK, w_nil, w_cons, w_tup, w_lst, isB_bl, w_tval, w_tand, w_tor, w_tnot, w_and, w_or, w_not, w_if, s_next, s_seq, s_if, s_ret, s_drop, s_set, s_par, s_put, s_asg, w_var', runS_next, runS_ret, runS_stuck, runS_ite, List.length_cons, List.length_nil, List.length_singleton, List.map_cons, List.map_nil, List.cons_append, List.nil_append, List.replicate_succ, List.replicate_zero, List.getElem?_cons_zero, List.getElem?_cons_succ, List.set_cons_zero, List.set_cons_succ, Nat.reduceAdd, Nat.reduceSub, Nat.reduceEqDiff, ite_true, ite_false, if_true, if_false, reduceIte, Bool.false_eq_true, decide_true, decide_false, String.reduceEq, Int.reduceEq, Nat.reduceLeDiff, true_and, and_true, Bool.not_true, Bool.not_false, decide_eq_true_eq, List.append_nil, bType, bIsi, bLen, bInt, ty_int, ty_bl, ty_str, ty_non, ty_tup, isT, oIs, oIsNot, oSub, oAdd, oIx, run_eqI, run_neI, Bool.or_false, Bool.or_true, Bool.false_or, Bool.true_or, Bool.and_true, Bool.and_false, Bool.true_and, Bool.false_and, reduceCtorEq, decide_not, Bool.not_eq_true', decide_eq_false_iff_not, askInt, askBool, askTuple, askList, askStr, oLe, oLt, oGe, oGt, oInt2, atI0, atI1, atI2]
    refine Run.mono (p_lifted (by omega)) fun x S3 ⟨e1, e2⟩ => ?_
    subst e1 e2
    refine Run.mono (p_lifted (by omega)) fun x S4 ⟨e1, e2⟩ => ?_
    subst e1 e2
    have e : (if r.top < l.top then r.top else l.top) = min l.top r.top := by split <;> omega
    rw [e]
    exact hR _ _ ⟨rfl, rfl⟩
  refine run_fn rfl rfl ?_
  refine s_step (N' := fun ρ S' => (ρ = [some (toV l), some (toV r), none] ∧ S' = S) ∧ T.sameL l r = false) ?_ ?_
  · cases l with
    | leaf i =>
      simp only [toV, run_ok, run_okI, run_okB, run_alloc, run_stuck, run_bind, run_ite, run_noX, run_fnOf, w_c, w_op, w_un, w_call, w_callK, w_nil, w_cons, w_tup, w_lst, isB_bl, w_tval, w_tand, w_tor, w_tnot, w_and, w_or, w_not, w_if, s_next, s_seq, s_if, s_ret, s_drop, s_set, s_par, s_put, s_asg, w_var', runS_next, runS_ret, runS_stuck, runS_ite, List.length_cons, List.length_nil, List.length_singleton, List.map_cons, List.map_nil, List.cons_append, List.nil_append, List.replicate_succ, List.replicate_zero, List.getElem?_cons_zero, List.getElem?_cons_succ, List.set_cons_zero, List.set_cons_succ, Nat.reduceAdd, Nat.reduceSub, Nat.reduceEqDiff, ite_true, ite_false, if_true, if_false, reduceIte, Bool.false_eq_true, decide_true, decide_false, String.reduceEq, Int.reduceEq, Nat.reduceLeDiff, true_and, and_true, Bool.not_true, Bool.not_false, decide_eq_true_eq, List.append_nil, bType, bIsi, bLen, bInt, ty_int, ty_bl, ty_str, ty_non, ty_tup, isT, oIs, oIsNot, oSub, oAdd, oIx, run_eqI, run_neI, Bool.or_false, Bool.or_true, Bool.false_or, Bool.true_or, Bool.and_true, Bool.and_false, Bool.true_and, Bool.false_and, reduceCtorEq, decide_not, Bool.not_eq_true', decide_eq_false_iff_not, askInt, askBool, askTuple, askList, askStr, oLe, oLt, oGe, oGt, oInt2, atI0, atI1, atI2]
      rw [run_eq_leaf hl]
      simp only [run_ok, run_okI, run_okB, run_alloc, run_stuck, run_bind, run_ite, run_noX, run_fnOf, w_c, w_op, w_un, w_call, w_callK, w_nil, w_cons, w_tup, w_lst, isB_bl, w_tval, w_tand, w_tor, w_tnot, w_and, w_or, w_not, w_if, s_next, s_seq, s_if, s_ret, s_drop, s_set, s_par, s_put, s_asg, w_var', runS_next, runS_ret, runS_stuck, runS_ite, List.length_cons, List.length_nil, List.length_singleton, List.map_cons, List.map_nil, List.cons_append, List.nil_append, List.replicate_succ, List.replicate_zero, List.getElem?_cons_zero, List.getElem?_cons_succ, List.set_cons_zero, List.set_cons_succ, Nat.reduceAdd, Nat.reduceSub, Nat.reduceEqDiff, ite_true, ite_false, if_true, if_false, reduceIte, Bool.false_eq_true, decide_true, decide_false, String.reduceEq, Int.reduceEq, Nat.reduceLeDiff, true_and, and_true, Bool.not_true, Bool.not_false, decide_eq_true_eq, List.append_nil, bType, bIsi, bLen, bInt, ty_int, ty_bl, ty_str, ty_non, ty_tup, isT, oIs, oIsNot, oSub, oAdd, oIx, run_eqI, run_neI, Bool.or_false, Bool.or_true, Bool.false_or, Bool.true_or, Bool.and_true, Bool.and_false, Bool.true_and, Bool.false_and, reduceCtorEq, decide_not, Bool.not_eq_true', decide_eq_false_iff_not, askInt, askBool, askTuple, askList, askStr, oLe, oLt, oGe, oGt, oInt2, atI0, atI1, atI2]
      unfold T.whole
      cases hs : T.sameL (.leaf i) r with
      | true => simp [toV]
      | false => simp [toV]
    | node m a b =>
      simp only [toV, run_ok, run_okI, run_okB, run_alloc, run_stuck, run_bind, run_ite, run_noX, run_fnOf, w_c, w_op, w_un, w_call, w_callK, w_nil, w_cons, w_tup, w_lst, isB_bl, w_tval, w_tand, w_tor, w_tnot, w_and, w_or, w_not, w_if, s_next, s_seq, s_if, s_ret, s_drop, s_set, s_par, s_put, s_asg, w_var', runS_next, runS_ret, runS_stuck, runS_ite, List.length_cons, List.length_nil, List.length_singleton, List.map_cons, List.map_nil, List.cons_append, List.nil_append, List.replicate_succ, List.replicate_zero, List.getElem?_cons_zero, List.getElem?_cons_succ, List.set_cons_zero, List.set_cons_succ, Nat.reduceAdd, Nat.reduceSub, Nat.reduceEqDiff, ite_true, ite_false, if_true, if_false, reduceIte, Bool.false_eq_true, decide_true, decide_false, String.reduceEq, Int.reduceEq, Nat.reduceLeDiff, true_and, and_true, Bool.not_true, Bool.not_false, decide_eq_true_eq, List.append_nil, bType, bIsi, bLen, bInt, ty_int, ty_bl, ty_str, ty_non, ty_tup, isT, oIs, oIsNot, oSub, oAdd, oIx, run_eqI, run_neI, Bool.or_false, Bool.or_true, Bool.false_or, Bool.true_or, Bool.and_true, Bool.and_false, Bool.true_and, Bool.false_and, reduceCtorEq, decide_not, Bool.not_eq_true', decide_eq_false_iff_not, askInt, askBool, askTuple, askList, askStr, oLe, oLt, oGe, oGt, oInt2, atI0, atI1, atI2]
      rfl
  rintro ρ S1 ⟨⟨rfl, rfl⟩, hs⟩
  refine fin (fun x S' => x = toV (T.whole l r) ∧ S' = S1) fun x S' h => ?_
  unfold T.whole
  rw [if_neg (by rw [hs]; decide)]
  exact h
end PD.K05

/-! ## K05M2 -/
set_option Elab.async false
set_option linter.all false
set_option maxRecDepth 100000
set_option maxHeartbeats 4000000
namespace PD.K05
open PySem PySem.Spec L2 PD LT
theorem bounded_ok {t : T} {n : Nat} {S : Store} (hd : t.dep ≤ 60) (ht : t.tc ≤ 63) (hn : 65 < n) : Run ((fns n).bounded [toV t] S) (PureK S (toV t)) := by
  obtain ⟨n, rfl⟩ : ∃ m, n = m + 1 := ⟨n - 1, by omega⟩
  show Run (fnOf 1 1 (b_bounded (fns n)) [toV t] S) _
  unfold b_bounded
  refine run_fn rfl rfl ?_
  refine s_step (N' := fun ρ S' => ρ = [some (toV t)] ∧ Kp S S') ?_ ?_
  · rw [s_if, w_tval, w_op, w_call, w_cons, w_var rfl, w_nil]
    refine Run.mono (p_tc (by omega)) fun r S1 ⟨e, k1⟩ => ?_
    subst e
    rw [w_c, run_gtI, isB_bl, decide_eq_false (by omega)]
    exact ⟨rfl, k1⟩
  rintro ρ S1 ⟨rfl, k1⟩
  rw [s_ret, w_var rfl]
  exact ⟨rfl, k1⟩
theorem bounded_no {t : T} {n : Nat} {S : Store} (hd : t.dep ≤ 60) (ht : 63 < t.tc) (hn : 65 < n) : ∃ S', Kp S S' ∧ (fns n).bounded [toV t] S = .exc ⟨3, [("count", .int 63)]⟩ S' := by
  obtain ⟨n, rfl⟩ : ∃ m, n = m + 1 := ⟨n - 1, by omega⟩
  obtain ⟨r, S', e1, e2, g⟩ := (p_tc (t := t) (n := n) (S := S) (by omega)).to
  subst e2
  refine ⟨S', g, ?_⟩
  have hgt : decide ((63 : Int) < (t.tc : Int)) = true := decide_eq_true (by omega)
  have h2 : 2 ≤ (fns n).lv := by rw [fns_lv]; omega
  show fnOf 1 1 (b_bounded (fns n)) [toV t] S = _
  simp only [fnOf, b_bounded, sSeq, sIf, tVal, dOp, dCall, aCons, aNil, dVar, dC, oGt, oInt2, okB, sRaiseF, Res.bind, Res.toS, SRes.seq, List.length_cons, List.length_nil, List.map_cons, List.map_nil, Nat.reduceAdd, Nat.reduceSub, List.replicate_zero, List.append_nil, List.getElem?_cons_zero, e1, hgt, h2, if_true]
theorem run_tuple {m : Nat} {xs : List Val} {S : Store} {Q : Val → Store → Prop} (h : S[m]? = some (.lst xs)) : Run (bTuple [.ref m] S) Q = Q (.tup xs) S := by
  show Run (match S[m]? with | some c => Res.ok (.tup c.items) S | none => .stuck) Q = _
  rw [h]; rfl
theorem comp_fltT {f : D} {tg : TgD} {cd : DT} {ρ : PD.Env} {ys : List Val} {P : Val → Bool} {g : Val → Val} : ∀ (xs : List Val) (i : Nat) (acc : List Val) (S : Store), acc.length + xs.length < 16777216 →
    (∀ x ∈ xs, ∀ S', Kp S S' → ∃ ρ1, tg x ρ = some ρ1 ∧ Run (cd ρ1 S') (fun b S2 => b = P x ∧ Kp S' S2) ∧ (P x = true → ∀ S2, Kp S S2 → Run (f ρ1 S2) (PureK S2 (g x)))) → ys.drop i = xs → i ≤ ys.length →
    Run (compG (srcL ys) tg cd f xs.length i acc ρ S) (PureK S (acc ++ (xs.filter P).map g))
  | [], i, acc, S, _, _, hd, hi => by
    have : ys[i]? = none := by
      rw [List.getElem?_eq_none_iff]
      have := congrArg List.length hd
      simp at this; omega
    show Run (match srcL ys i S with | some none => Res.ok acc S | _ => .stuck) _
    have es : srcL ys i S = some none := by
      unfold srcL; rw [this]
    rw [es]
    exact ⟨by simp, .refl S⟩
  | x :: xs, i, acc, S, hl, he, hd, hi => by
    have hlt : i < ys.length := by
      have := congrArg List.length hd
      simp at this; omega
    have e0 := List.drop_eq_getElem_cons hlt
    rw [hd] at e0
    have hx : ys[i]? = some x := by rw [List.getElem?_eq_getElem hlt, (List.cons.inj e0).1]
    have hl' : acc.length + (xs.length + 1) < 16777216 := hl
    obtain ⟨ρ1, et, hc, hf⟩ := he x List.mem_cons_self S (.refl S)
    show Run (match srcL ys i S with
      | none => Res.stuck
      | some none => .ok acc S
      | some (some x) => match tg x ρ with
        | none => .stuck
        | some ρ1 => (noX (cd ρ1 S)).bind fun b S1 => if b = true then (noX (f ρ1 S1)).bind fun y S2 => if acc.length < 16777216 then compG (srcL ys) tg cd f xs.length (i + 1) (acc ++ [y]) ρ S2 else .stuck
            else compG (srcL ys) tg cd f xs.length (i + 1) acc ρ S1) _
    have es : srcL ys i S = some (some x) := by unfold srcL; rw [hx]
    rw [es]
    show Run (match tg x ρ with
        | none => .stuck
        | some ρ1 => (noX (cd ρ1 S)).bind fun b S1 => if b = true then (noX (f ρ1 S1)).bind fun y S2 => if acc.length < 16777216 then compG (srcL ys) tg cd f xs.length (i + 1) (acc ++ [y]) ρ S2 else .stuck
            else compG (srcL ys) tg cd f xs.length (i + 1) acc ρ S1) _
    rw [et]
    show Run ((noX (cd ρ1 S)).bind fun b S1 => if b = true then (noX (f ρ1 S1)).bind fun y S2 => if acc.length < 16777216 then compG (srcL ys) tg cd f xs.length (i + 1) (acc ++ [y]) ρ S2 else .stuck
            else compG (srcL ys) tg cd f xs.length (i + 1) acc ρ S1) _
    rw [run_bind, run_noX]
    refine Run.mono hc fun b S1 ⟨eb, k1⟩ => ?_
    subst eb
    cases hP : P x with
    | false =>
      rw [if_neg (by decide), List.filter_cons_of_neg (by rw [hP]; decide)]
      refine Run.mono (comp_fltT (P := P) (g := g) xs (i + 1) acc S1 (by omega) (fun y hy S' k' => ?_) (List.cons.inj e0).2.symm hlt) fun zs S2 ⟨ez, g2⟩ => ⟨ez, k1.trans g2⟩
      obtain ⟨ρ2, a1, a2, a3⟩ := he y (List.mem_cons_of_mem _ hy) S' (k1.trans k')
      exact ⟨ρ2, a1, a2, fun hq S2 k2 => a3 hq S2 (k1.trans k2)⟩
    | true =>
      rw [if_pos rfl, run_bind, run_noX, List.filter_cons_of_pos hP]
      refine Run.mono (hf hP S1 k1) fun y S2 ⟨ey, k2⟩ => ?_
      subst ey
      rw [if_pos (by omega)]
      refine Run.mono (comp_fltT (P := P) (g := g) xs (i + 1) (acc ++ [g x]) S2 (by simp; omega) (fun y hy S' k' => ?_) (List.cons.inj e0).2.symm hlt) fun zs S3 ⟨ez, g3⟩ => ⟨by rw [ez]; simp, (k1.trans k2).trans g3⟩
      obtain ⟨ρ2, a1, a2, a3⟩ := he y (List.mem_cons_of_mem _ hy) S' ((k1.trans k2).trans k')
      exact ⟨ρ2, a1, a2, fun hq S2' k2' => a3 hq S2' ((k1.trans k2).trans k2')⟩
theorem run_lctf {h : D} {tg : TgD} {cd : DT} {f : D} {vs : List Nat} {ρ : PD.Env} {S : Store} {xs : List Val} {P : Val → Bool} {g : Val → Val} (hl : xs.length ≤ 1000000) (e : Run (h ρ S) fun x S1 => x = .tup xs ∧ S1 = S)
    (he : ∀ x ∈ xs, ∀ S', Kp S S' → ∃ ρ1, tg x (wipeE ρ vs) = some ρ1 ∧ Run (cd ρ1 S') (fun b S2 => b = P x ∧ Kp S' S2) ∧ (P x = true → ∀ S2, Kp S S2 → Run (f ρ1 S2) (PureK S2 (g x)))) :
    Run (dLCT h tg cd f vs ρ S) (fun r S' => ∃ S1, r = .ref S1.length ∧ S' = S1 ++ [.lst ((xs.filter P).map g)] ∧ Kp S S1) := by
  unfold dLCT
  rw [run_bind]
  refine Run.mono e fun x S1 ⟨e1, e2⟩ => ?_
  subst e1 e2
  show Run ((compG (srcL xs) tg cd f xs.length 0 [] (wipeE ρ vs) S1).bind alloc) _
  rw [run_bind]
  refine Run.mono (comp_fltT (P := P) (g := g) (ys := xs) xs 0 [] S1 (by simp; omega) he rfl (Nat.zero_le _)) fun ys S2 ⟨e1, k2⟩ => ?_
  subst e1
  exact ⟨_, rfl, rfl, k2⟩
def Exc (r : SRes) (e : Exn) (K : Store → Prop) : Prop := ∃ ρ S, r = .exc e ρ S ∧ K S
theorem exc_step {b d : SD} {ρ : PD.Env} {S : Store} {N' : PD.Env → Store → Prop} {e : Exn} {K : Store → Prop} (h : RunS (b ρ S) N' (fun _ _ => False)) (q : ∀ ρ' S', N' ρ' S' → Exc (d ρ' S') e K) : Exc (sSeq b d ρ S) e K := by
  unfold sSeq
  cases hr : b ρ S with
  | next ρ2 S2 => rw [hr] at h; exact q ρ2 S2 h
  | ret v S2 => rw [hr] at h; exact h.elim
  | brk ρ2 S2 => rw [hr] at h; exact h.elim
  | cont ρ2 S2 => rw [hr] at h; exact h.elim
  | exc e ρ2 S2 => rw [hr] at h; exact h.elim
  | stuck => rw [hr] at h; exact h.elim
theorem exc_head {b d : SD} {ρ : PD.Env} {S : Store} {e : Exn} {K : Store → Prop} (h : Exc (b ρ S) e K) : Exc (sSeq b d ρ S) e K := by
  obtain ⟨ρ1, S1, e1, k⟩ := h
  refine ⟨ρ1, S1, ?_, k⟩
  unfold sSeq
  rw [e1]; rfl
theorem exc_if {t : DT} {b c : SD} {ρ : PD.Env} {S : Store} {e : Exn} {K : Store → Prop} {N : Store → Prop} (h : Run (t ρ S) (fun v S' => v = true ∧ N S')) (q : ∀ S', N S' → Exc (b ρ S') e K) : Exc (sIf t b c ρ S) e K := by
  obtain ⟨v, S1, e1, rfl, n1⟩ := h.to
  unfold sIf
  rw [e1]
  exact q S1 n1
theorem exc_raise {k : Nat} {ρ : PD.Env} {S : Store} {K : Store → Prop} (h : K S) : Exc (sRaise k ρ S) ⟨k, []⟩ K := ⟨ρ, S, rfl, h⟩
theorem exc_drop {f : D} {ρ : PD.Env} {S S1 : Store} {e : Exn} {K : Store → Prop} (h : f ρ S = .exc e S1) (k : K S1) : Exc (sDrop f ρ S) e K := ⟨ρ, S1, by unfold sDrop; rw [h]; rfl, k⟩
theorem exc_ret {f : D} {ρ : PD.Env} {S S1 : Store} {e : Exn} {K : Store → Prop} (h : f ρ S = .exc e S1) (k : K S1) : Exc (sRet f ρ S) e K := ⟨ρ, S1, by unfold sRet; rw [h]; rfl, k⟩
theorem exc_fn {n m : Nat} {b : SD} {xs : List Val} {ρ : PD.Env} {S : Store} {e : Exn} {K : Store → Prop} (h : xs.length = n) (eρ : xs.map some ++ List.replicate (m - n) none = ρ) (q : Exc (b ρ S) e K) : ∃ S', K S' ∧ fnOf n m b xs S = .exc e S' := by
  obtain ⟨ρ1, S1, e1, k⟩ := q
  refine ⟨S1, k, ?_⟩
  unfold fnOf
  rw [if_pos h, eρ, e1]
theorem call_exc {F : Fn} {g : DA} {ρ : PD.Env} {S S1 S2 : Store} {xs : List Val} {e : Exn} (h : g ρ S = .ok xs S1) (k : F xs S1 = .exc e S2) : dCall F g ρ S = .exc e S2 := by
  unfold dCall
  rw [h]; exact k
theorem run_all {S : Store} {xs : List Val} {p : Val → Bool} : Run (bAll [.ref S.length] (S ++ [.lst (xs.map fun x => Val.bl (p x))])) (fun r S' => r = .bl (xs.all p) ∧ S' = S ++ [.lst (xs.map fun x => Val.bl (p x))]) := by
  have e : allSome ((xs.map fun x => Val.bl (p x)).map asB) = some (xs.map p) := by
    induction xs with
    | nil => rfl
    | cons x xs ih =>
      rw [List.map_cons, List.map_cons, List.map_cons]
      unfold allSome
      rw [ih]; rfl
  show Run (match (S ++ [Cell.lst (xs.map fun x => Val.bl (p x))])[S.length]? with
          | some c => match allSome (c.items.map asB) with
            | some bs => okB (bs.all id) (S ++ [Cell.lst (xs.map fun x => Val.bl (p x))])
            | none => .stuck
          | none => Res.stuck) _
  rw [get_new]
  show Run (match allSome ((xs.map fun x => Val.bl (p x)).map asB) with
            | some bs => okB (bs.all id) (S ++ [Cell.lst (xs.map fun x => Val.bl (p x))])
            | none => .stuck) _
  rw [e]
  refine ⟨?_, rfl⟩
  congr 1
  rw [List.all_map]; rfl
theorem pathV_nil : Val.tup [] = pathV [] := rfl
inductive Sm : Nat → Val → Prop
  | bl (d : Nat) (b : Bool) : Sm d (.bl b)
  | int (d : Nat) (i : Int) : Sm d (.int i)
  | str (d : Nat) (z : Str) : (PyData.str z).canLay0 = true → Sm d (.str z)
  | tup {d : Nat} {xs : List Val} : xs.length ≤ 1000 → (∀ x ∈ xs, Sm d x) → Sm (d + 1) (.tup xs)
theorem sm_toV : ∀ {t : T} {d : Nat}, t.dep ≤ d → Sm d (toV t)
  | .leaf i, d, _ => .int _ _
  | .node n l r, d, h => by
    have h : 1 + max l.dep r.dep ≤ d := h
    obtain ⟨d, rfl⟩ : ∃ e, d = e + 1 := ⟨d - 1, by omega⟩
    exact .tup (Nat.le_of_ble_eq_true rfl) (mem3 (.int _ _) (sm_toV (by omega)) (sm_toV (by omega)))
theorem run_ixT {xs : List Val} {i : Int} {S : Store} {Q : Val → Store → Prop} : Run (oIx (.tup xs) (.int i) S) Q = Run (match L2.atI xs i with | some z => Res.ok z S | none => .stuck) Q := rfl
theorem all_true {j : Nat} {S : Store} : Run (bAll [.ref S.length] (S ++ [Cell.lst ((rangeV 0 j).map fun _ => Val.bl true)])) (PureK S (.bl true)) := by
  show Run (match (S ++ [Cell.lst ((rangeV 0 j).map fun _ => Val.bl true)])[S.length]? with
        | some c => match allSome (c.items.map asB) with
          | some bs => okB (bs.all id) _
          | none => .stuck
        | none => .stuck) _
  rw [get_new]
  have ha : allSome (List.map asB (List.map (fun _ => Val.bl true) (rangeV 0 j))) = some (List.map (fun _ => true) (rangeV 0 j)) := by
    rw [List.map_map]
    exact allSome_all fun x _ => rfl
  simp only [Cell.items, ha, run_okB]
  refine ⟨?_, (Gr.add _ _).kp⟩
  congr 1
  rw [List.all_eq_true]
  intro b hb
  obtain ⟨_, _, rfl⟩ := List.mem_map.mp hb
  rfl
/-- a comprehension over a range, whose element keeps what stood -/
theorem comp_pureR {f : D} {v : Nat} {ρ : PD.Env} {g : Val → Val} {ys : List Val} : ∀ (xs : List Val) (i : Nat) (acc : List Val) (S : Store), acc.length + xs.length < 16777216 →
    (∀ x ∈ xs, ∀ S', Kp S S' → Run (f (ρ.set v (some x)) S') (PureK S' (g x))) → ys.drop i = xs → i ≤ ys.length →
    Run (compG (srcL ys) (gN v) tYes' f xs.length i acc ρ S) (PureK S (acc ++ xs.map g))
  | [], i, acc, S, _, _, hd, hi => by
    have : ys[i]? = none := by
      rw [List.getElem?_eq_none_iff]
      have := congrArg List.length hd
      simp at this; omega
    show Run (match srcL ys i S with | some none => Res.ok acc S | _ => .stuck) _
    have es : srcL ys i S = some none := by unfold srcL; rw [this]
    rw [es]
    exact ⟨by simp, .refl S⟩
  | x :: xs, i, acc, S, hl, he, hd, hi => by
    have hlt : i < ys.length := by
      have := congrArg List.length hd
      simp at this; omega
    have e0 := List.drop_eq_getElem_cons hlt
    rw [hd] at e0
    have hx : ys[i]? = some x := by rw [List.getElem?_eq_getElem hlt, (List.cons.inj e0).1]
    have hl' : acc.length + (xs.length + 1) < 16777216 := hl
    show Run (match srcL ys i S with
      | none => Res.stuck
      | some none => .ok acc S
      | some (some x) => match gN v x ρ with
        | none => .stuck
        | some ρ1 => (noX (tYes' ρ1 S)).bind fun b S1 => if b = true then (noX (f ρ1 S1)).bind fun y S2 => if acc.length < 16777216 then compG (srcL ys) (gN v) tYes' f xs.length (i + 1) (acc ++ [y]) ρ S2 else .stuck
            else compG (srcL ys) (gN v) tYes' f xs.length (i + 1) acc ρ S1) _
    have es : srcL ys i S = some (some x) := by unfold srcL; rw [hx]
    rw [es]
    show Run ((noX (f (ρ.set v (some x)) S)).bind fun y S2 => if acc.length < 16777216 then compG (srcL ys) (gN v) tYes' f xs.length (i + 1) (acc ++ [y]) ρ S2 else .stuck) _
    rw [run_bind, run_noX]
    refine Run.mono (he x List.mem_cons_self S (.refl S)) fun y S1 ⟨ey, g1⟩ => ?_
    rw [if_pos (by omega)]
    refine Run.mono (comp_pureR (g := g) xs (i + 1) (acc ++ [y]) S1 (by simp; omega) (fun y hy S' k => he y (List.mem_cons_of_mem _ hy) S' (g1.trans k)) (List.cons.inj e0).2.symm hlt) fun zs S2 ⟨ez, g2⟩ => ?_
    exact ⟨by rw [ez, ey]; simp, g1.trans g2⟩
theorem run_lcrK {as : DA} {v : Nat} {f : D} {vs : List Nat} {ρ : PD.Env} {S : Store} {j : Nat} {g : Val → Val} (e : Run (as ρ S) fun xs S1 => xs = [.int j] ∧ S1 = S) (hj : j ≤ 1000000) (he : ∀ x ∈ rangeV 0 j, ∀ S', Kp S S' → Run (f ((wipeE ρ vs).set v (some x)) S') (PureK S' (g x))) :
    Run (dLCR as (gN v) tYes' f vs ρ S) (fun r S' => ∃ S1, r = .ref S1.length ∧ S' = S1 ++ [.lst ((rangeV 0 j).map g)] ∧ Kp S S1) := by
  unfold dLCR
  rw [run_bind]
  refine Run.mono e fun xs S1 ⟨e1, e2⟩ => ?_
  subst e1 e2
  show Run (if -(2 ^ 62) ≤ (j : Int) ∧ (j : Int) < 2 ^ 62 then (compG (srcL (rangeV 0 j)) (gN v) tYes' f j 0 [] (wipeE ρ vs) S1).bind alloc else .stuck) _
  rw [if_pos (by constructor <;> omega), run_bind]
  have := comp_pureR (f := f) (v := v) (ρ := wipeE ρ vs) (g := g) (ys := rangeV 0 j) (rangeV 0 j) 0 [] S1 (by rw [rangeV_len, List.length_nil]; omega) he rfl (Nat.zero_le _)
  rw [rangeV_len] at this
  refine Run.mono this fun ys S2 ⟨e1, g1⟩ => ?_
  subst e1
  exact ⟨_, rfl, rfl, g1⟩
/-- a fact that is not looked into -/
structure Hid (p : Prop) : Prop where
  get : p
/-- where all that is asked of both is the same: their items -/
theorem same_tail {n : Nat} {f g : Val} {xs : List Val} {S : Store} (hf : ∀ (i : Nat) (x : Val) (S' : Store) (Q : Val → Store → Prop), xs[i]? = some x → Kp S S' → Run (oIx f (.int i) S') Q = Q x S') (hg : ∀ (i : Nat) (x : Val) (S' : Store) (Q : Val → Store → Prop), xs[i]? = some x → Kp S S' → Run (oIx g (.int i) S') Q = Q x S')
    (hl : Run (bLen [g] S) fun r S' => r = .int xs.length ∧ S' = S) (h1000 : xs.length ≤ 1000) (ih : ∀ x ∈ xs, ∀ S', Kp S S' → Run ((fns n)._law_same [x, x] S') (PureK S' (.bl true))) :
    Hid (Run (dCall bAll (aCons (dLCR (aCons (dCall bLen (aCons (dVar 1) aNil)) aNil) (gN 2) tYes' (dCall (fns n)._law_same (aCons (dOp oIx (dVar 0) (dVar 2)) (aCons (dOp oIx (dVar 1) (dVar 2)) aNil))) [2]) aNil) [some f, some g, none] S) (PureK S (.bl true))) := by
  refine ⟨?_⟩
  rw [w_call, w_cons]
  refine Run.mono (run_lcrK (j := xs.length) (g := fun _ => .bl true) ?_ (by omega) fun x hx S' k => ?_) fun r S1 ⟨S2, e1, e2, k⟩ => ?_
  · rw [w_cons, w_call, w_cons, w_var (v := g) rfl, w_nil]
    refine Run.mono hl fun r S' ⟨e1, e2⟩ => ?_
    subst e1 e2
    exact ⟨rfl, rfl⟩
  · obtain ⟨i, hi, rfl⟩ := List.mem_map.mp hx
    rw [List.mem_range] at hi
    have ei : xs[i]? = some xs[i] := List.getElem?_eq_getElem hi
    have ez : (0 : Int) + (i : Int) = (i : Int) := by omega
    rw [ez, w_call, w_cons, w_op, w_var (v := f) rfl, w_var (v := .int i) rfl, hf i _ S' _ ei k, w_cons, w_op, w_var (v := g) rfl, w_var (v := .int i) rfl, hg i _ S' _ ei k, w_nil]
    exact ih _ (List.getElem_mem hi) S' k
  · subst e1 e2
    rw [w_nil]
    refine Run.mono all_true fun r S3 ⟨e, k3⟩ => ⟨e, k.trans k3⟩
theorem l_same_sm : ∀ (d n : Nat) (v : Val) (S : Store), Sm d v → d < n → d < 60 → Run ((fns n)._law_same [v, v] S) (PureK S (.bl true))
  | d, 0, v, S, _, h, _ => absurd h (Nat.not_lt_zero _)
  | d, n + 1, v, S, hv, h, h60 => by
    show Run (fnOf 2 3 (b__law_same (fns n)) [v, v] S) _
    unfold b__law_same
    cases hv with
    | bl _ b => cases b <;> simp only [askInt, run_ok, run_okI, run_okB, run_alloc, run_stuck, run_bind, run_ite, run_noX, run_fnOf, w_c, w_op, w_un, w_call, w_callK, w_nil, w_cons, w_tup, w_lst, isB_bl, w_tval, w_tand, w_tor, w_tnot, w_and, w_or, w_not, w_if, s_next, s_seq, s_if, s_ret, s_drop, s_set, s_par, s_put, s_asg, w_var', runS_next, runS_ret, runS_stuck, runS_ite, List.length_cons, List.length_nil, List.length_singleton, List.map_cons, List.map_nil, List.cons_append, List.nil_append, List.replicate_succ, List.replicate_zero, List.getElem?_cons_zero, List.getElem?_cons_succ, List.set_cons_zero, List.set_cons_succ, Nat.reduceAdd, Nat.reduceSub, Nat.reduceEqDiff, ite_true, ite_false, if_true, if_false, reduceIte, Bool.false_eq_true, decide_true, decide_false, String.reduceEq, Int.reduceEq, Nat.reduceLeDiff, true_and, and_true, Bool.not_true, Bool.not_false, decide_eq_true_eq, List.append_nil, bType, bIsi, bLen, bInt, ty_int, ty_bl, ty_str, ty_non, ty_tup, isT, oIs, oIsNot, run_eqI, run_neI, Bool.or_false, Bool.or_true, Bool.false_or, Bool.true_or, Bool.and_true, Bool.and_false, Bool.true_and, Bool.false_and, reduceCtorEq, decide_not, Bool.not_eq_true', decide_eq_false_iff_not, askInt, askBool, askTuple, askList, askStr, oLe, oLt, oGe, oGt, oInt2, atI0, atI1, atI2, run_addI, run_subI] <;> exact ⟨rfl, .refl _⟩
    | int _ i =>
      simp only [askInt, askBool, run_ok, run_okI, run_okB, run_alloc, run_stuck, run_bind, run_ite, run_noX, run_fnOf, w_c, w_op, w_un, w_call, w_callK, w_nil, w_cons, w_tup, w_lst, isB_bl, w_tval, w_tand, w_tor, w_tnot, w_and, w_or, w_not, w_if, s_next, s_seq, s_if, s_ret, s_drop, s_set, s_par, s_put, s_asg, w_var', runS_next, runS_ret, runS_stuck, runS_ite, List.length_cons, List.length_nil, List.length_singleton, List.map_cons, List.map_nil, List.cons_append, List.nil_append, List.replicate_succ, List.replicate_zero, List.getElem?_cons_zero, List.getElem?_cons_succ, List.set_cons_zero, List.set_cons_succ, Nat.reduceAdd, Nat.reduceSub, Nat.reduceEqDiff, ite_true, ite_false, if_true, if_false, reduceIte, Bool.false_eq_true, decide_true, decide_false, String.reduceEq, Int.reduceEq, Nat.reduceLeDiff, true_and, and_true, Bool.not_true, Bool.not_false, decide_eq_true_eq, List.append_nil, bType, bIsi, bLen, bInt, ty_int, ty_bl, ty_str, ty_non, ty_tup, isT, oIs, oIsNot, run_eqI, run_neI, Bool.or_false, Bool.or_true, Bool.false_or, Bool.true_or, Bool.and_true, Bool.and_false, Bool.true_and, Bool.false_and, reduceCtorEq, decide_not, Bool.not_eq_true', decide_eq_false_iff_not, askInt, askBool, askTuple, askList, askStr, oLe, oLt, oGe, oGt, oInt2, atI0, atI1, atI2, run_addI, run_subI]
      exact ⟨rfl, .refl _⟩
    | str _ z hz =>
      simp only [askInt, askBool, askStr, run_ok, run_okI, run_okB, run_alloc, run_stuck, run_bind, run_ite, run_noX, run_fnOf, w_c, w_op, w_un, w_call, w_callK, w_nil, w_cons, w_tup, w_lst, isB_bl, w_tval, w_tand, w_tor, w_tnot, w_and, w_or, w_not, w_if, s_next, s_seq, s_if, s_ret, s_drop, s_set, s_par, s_put, s_asg, w_var', runS_next, runS_ret, runS_stuck, runS_ite, List.length_cons, List.length_nil, List.length_singleton, List.map_cons, List.map_nil, List.cons_append, List.nil_append, List.replicate_succ, List.replicate_zero, List.getElem?_cons_zero, List.getElem?_cons_succ, List.set_cons_zero, List.set_cons_succ, Nat.reduceAdd, Nat.reduceSub, Nat.reduceEqDiff, ite_true, ite_false, if_true, if_false, reduceIte, Bool.false_eq_true, decide_true, decide_false, String.reduceEq, Int.reduceEq, Nat.reduceLeDiff, true_and, and_true, Bool.not_true, Bool.not_false, decide_eq_true_eq, List.append_nil, bType, bIsi, bLen, bInt, ty_int, ty_bl, ty_str, ty_non, ty_tup, isT, oIs, oIsNot, run_eqI, run_neI, Bool.or_false, Bool.or_true, Bool.false_or, Bool.true_or, Bool.and_true, Bool.and_false, Bool.true_and, Bool.false_and, reduceCtorEq, decide_not, Bool.not_eq_true', decide_eq_false_iff_not, askInt, askBool, askTuple, askList, askStr, oLe, oLt, oGe, oGt, oInt2, atI0, atI1, atI2, run_addI, run_subI]
      rw [run_eq (Da.str 0 z hz) (Da.str 0 z hz) (by omega) (by omega)]
      show _ ∧ _
      refine ⟨?_, .refl _⟩
      congr 1
      exact SeqAt.eqv_refl _ hz
    | @tup d' xs hl hx =>
      refine run_fn rfl rfl ?_
      have N : ∀ {b e : SD} {R : Val → Store → Prop} {M : PD.Env → Store → Prop}, RunS (b [some (.tup xs), some (.tup xs), none] S) (fun ρ S' => ρ = [some (.tup xs), some (.tup xs), none] ∧ S' = S) R → RunS (e [some (.tup xs), some (.tup xs), none] S) M R → RunS (sSeq b e [some (.tup xs), some (.tup xs), none] S) M R := fun {b e R M} h1 h2 => s_step h1 fun ρ S' ⟨e1, e2⟩ => by subst e1 e2; exact h2
      refine N ?_ (N ?_ (N ?_ (N ?_ (N ?_ (N ?_ (N ?_ ?_))))))
      · simp only [run_ok, run_okI, run_okB, run_alloc, run_stuck, run_bind, run_ite, run_noX, run_fnOf, w_c, w_op, w_un, w_call, w_callK, w_nil, w_cons, w_tup, w_lst, isB_bl, w_tval, w_tand, w_tor, w_tnot, w_and, w_or, w_not, w_if, s_next, s_seq, s_if, s_ret, s_drop, s_set, s_par, s_put, s_asg, w_var', runS_next, runS_ret, runS_stuck, runS_ite, List.length_cons, List.length_nil, List.length_singleton, List.map_cons, List.map_nil, List.cons_append, List.nil_append, List.replicate_succ, List.replicate_zero, List.getElem?_cons_zero, List.getElem?_cons_succ, List.set_cons_zero, List.set_cons_succ, Nat.reduceAdd, Nat.reduceSub, Nat.reduceEqDiff, ite_true, ite_false, if_true, if_false, reduceIte, Bool.false_eq_true, decide_true, decide_false, String.reduceEq, Int.reduceEq, Nat.reduceLeDiff, true_and, and_true, Bool.not_true, Bool.not_false, decide_eq_true_eq, List.append_nil, bType, bIsi, bLen, bInt, ty_int, ty_bl, ty_str, ty_non, ty_tup, isT, oIs, oIsNot, run_eqI, run_neI, Bool.or_false, Bool.or_true, Bool.false_or, Bool.true_or, Bool.and_true, Bool.and_false, Bool.true_and, Bool.false_and, reduceCtorEq, decide_not, Bool.not_eq_true', decide_eq_false_iff_not, askInt, askBool, askTuple, askList, askStr, oLe, oLt, oGe, oGt, oInt2, atI0, atI1, atI2, run_addI, run_subI]
      · simp only [run_ok, run_okI, run_okB, run_alloc, run_stuck, run_bind, run_ite, run_noX, run_fnOf, w_c, w_op, w_un, w_call, w_callK, w_nil, w_cons, w_tup, w_lst, isB_bl, w_tval, w_tand, w_tor, w_tnot, w_and, w_or, w_not, w_if, s_next, s_seq, s_if, s_ret, s_drop, s_set, s_par, s_put, s_asg, w_var', runS_next, runS_ret, runS_stuck, runS_ite, List.length_cons, List.length_nil, List.length_singleton, List.map_cons, List.map_nil, List.cons_append, List.nil_append, List.replicate_succ, List.replicate_zero, List.getElem?_cons_zero, List.getElem?_cons_succ, List.set_cons_zero, List.set_cons_succ, Nat.reduceAdd, Nat.reduceSub, Nat.reduceEqDiff, ite_true, ite_false, if_true, if_false, reduceIte, Bool.false_eq_true, decide_true, decide_false, String.reduceEq, Int.reduceEq, Nat.reduceLeDiff, true_and, and_true, Bool.not_true, Bool.not_false, decide_eq_true_eq, List.append_nil, bType, bIsi, bLen, bInt, ty_int, ty_bl, ty_str, ty_non, ty_tup, isT, oIs, oIsNot, run_eqI, run_neI, Bool.or_false, Bool.or_true, Bool.false_or, Bool.true_or, Bool.and_true, Bool.and_false, Bool.true_and, Bool.false_and, reduceCtorEq, decide_not, Bool.not_eq_true', decide_eq_false_iff_not, askInt, askBool, askTuple, askList, askStr, oLe, oLt, oGe, oGt, oInt2, atI0, atI1, atI2, run_addI, run_subI]
      · simp only [run_ok, run_okI, run_okB, run_alloc, run_stuck, run_bind, run_ite, run_noX, run_fnOf, w_c, w_op, w_un, w_call, w_callK, w_nil, w_cons, w_tup, w_lst, isB_bl, w_tval, w_tand, w_tor, w_tnot, w_and, w_or, w_not, w_if, s_next, s_seq, s_if, s_ret, s_drop, s_set, s_par, s_put, s_asg, w_var', runS_next, runS_ret, runS_stuck, runS_ite, List.length_cons, List.length_nil, List.length_singleton, List.map_cons, List.map_nil, List.cons_append, List.nil_append, List.replicate_succ, List.replicate_zero, List.getElem?_cons_zero, List.getElem?_cons_succ, List.set_cons_zero, List.set_cons_succ, Nat.reduceAdd, Nat.reduceSub, Nat.reduceEqDiff, ite_true, ite_false, if_true, if_false, reduceIte, Bool.false_eq_true, decide_true, decide_false, String.reduceEq, Int.reduceEq, Nat.reduceLeDiff, true_and, and_true, Bool.not_true, Bool.not_false, decide_eq_true_eq, List.append_nil, bType, bIsi, bLen, bInt, ty_int, ty_bl, ty_str, ty_non, ty_tup, isT, oIs, oIsNot, run_eqI, run_neI, Bool.or_false, Bool.or_true, Bool.false_or, Bool.true_or, Bool.and_true, Bool.and_false, Bool.true_and, Bool.false_and, reduceCtorEq, decide_not, Bool.not_eq_true', decide_eq_false_iff_not, askInt, askBool, askTuple, askList, askStr, oLe, oLt, oGe, oGt, oInt2, atI0, atI1, atI2, run_addI, run_subI]
      · simp only [askInt, run_ok, run_okI, run_okB, run_alloc, run_stuck, run_bind, run_ite, run_noX, run_fnOf, w_c, w_op, w_un, w_call, w_callK, w_nil, w_cons, w_tup, w_lst, isB_bl, w_tval, w_tand, w_tor, w_tnot, w_and, w_or, w_not, w_if, s_next, s_seq, s_if, s_ret, s_drop, s_set, s_par, s_put, s_asg, w_var', runS_next, runS_ret, runS_stuck, runS_ite, List.length_cons, List.length_nil, List.length_singleton, List.map_cons, List.map_nil, List.cons_append, List.nil_append, List.replicate_succ, List.replicate_zero, List.getElem?_cons_zero, List.getElem?_cons_succ, List.set_cons_zero, List.set_cons_succ, Nat.reduceAdd, Nat.reduceSub, Nat.reduceEqDiff, ite_true, ite_false, if_true, if_false, reduceIte, Bool.false_eq_true, decide_true, decide_false, String.reduceEq, Int.reduceEq, Nat.reduceLeDiff, true_and, and_true, Bool.not_true, Bool.not_false, decide_eq_true_eq, List.append_nil, bType, bIsi, bLen, bInt, ty_int, ty_bl, ty_str, ty_non, ty_tup, isT, oIs, oIsNot, run_eqI, run_neI, Bool.or_false, Bool.or_true, Bool.false_or, Bool.true_or, Bool.and_true, Bool.and_false, Bool.true_and, Bool.false_and, reduceCtorEq, decide_not, Bool.not_eq_true', decide_eq_false_iff_not, askInt, askBool, askTuple, askList, askStr, oLe, oLt, oGe, oGt, oInt2, atI0, atI1, atI2, run_addI, run_subI]
      · simp only [askStr, run_ok, run_okI, run_okB, run_alloc, run_stuck, run_bind, run_ite, run_noX, run_fnOf, w_c, w_op, w_un, w_call, w_callK, w_nil, w_cons, w_tup, w_lst, isB_bl, w_tval, w_tand, w_tor, w_tnot, w_and, w_or, w_not, w_if, s_next, s_seq, s_if, s_ret, s_drop, s_set, s_par, s_put, s_asg, w_var', runS_next, runS_ret, runS_stuck, runS_ite, List.length_cons, List.length_nil, List.length_singleton, List.map_cons, List.map_nil, List.cons_append, List.nil_append, List.replicate_succ, List.replicate_zero, List.getElem?_cons_zero, List.getElem?_cons_succ, List.set_cons_zero, List.set_cons_succ, Nat.reduceAdd, Nat.reduceSub, Nat.reduceEqDiff, ite_true, ite_false, if_true, if_false, reduceIte, Bool.false_eq_true, decide_true, decide_false, String.reduceEq, Int.reduceEq, Nat.reduceLeDiff, true_and, and_true, Bool.not_true, Bool.not_false, decide_eq_true_eq, List.append_nil, bType, bIsi, bLen, bInt, ty_int, ty_bl, ty_str, ty_non, ty_tup, isT, oIs, oIsNot, run_eqI, run_neI, Bool.or_false, Bool.or_true, Bool.false_or, Bool.true_or, Bool.and_true, Bool.and_false, Bool.true_and, Bool.false_and, reduceCtorEq, decide_not, Bool.not_eq_true', decide_eq_false_iff_not, askInt, askBool, askTuple, askList, askStr, oLe, oLt, oGe, oGt, oInt2, atI0, atI1, atI2, run_addI, run_subI]
      · simp only [askTuple, askList, run_neB, run_ok, run_okI, run_okB, run_alloc, run_stuck, run_bind, run_ite, run_noX, run_fnOf, w_c, w_op, w_un, w_call, w_callK, w_nil, w_cons, w_tup, w_lst, isB_bl, w_tval, w_tand, w_tor, w_tnot, w_and, w_or, w_not, w_if, s_next, s_seq, s_if, s_ret, s_drop, s_set, s_par, s_put, s_asg, w_var', runS_next, runS_ret, runS_stuck, runS_ite, List.length_cons, List.length_nil, List.length_singleton, List.map_cons, List.map_nil, List.cons_append, List.nil_append, List.replicate_succ, List.replicate_zero, List.getElem?_cons_zero, List.getElem?_cons_succ, List.set_cons_zero, List.set_cons_succ, Nat.reduceAdd, Nat.reduceSub, Nat.reduceEqDiff, ite_true, ite_false, if_true, if_false, reduceIte, Bool.false_eq_true, decide_true, decide_false, String.reduceEq, Int.reduceEq, Nat.reduceLeDiff, true_and, and_true, Bool.not_true, Bool.not_false, decide_eq_true_eq, List.append_nil, bType, bIsi, bLen, bInt, ty_int, ty_bl, ty_str, ty_non, ty_tup, isT, oIs, oIsNot, run_eqI, run_neI, Bool.or_false, Bool.or_true, Bool.false_or, Bool.true_or, Bool.and_true, Bool.and_false, Bool.true_and, Bool.false_and, reduceCtorEq, decide_not, Bool.not_eq_true', decide_eq_false_iff_not, askInt, askBool, askTuple, askList, askStr, oLe, oLt, oGe, oGt, oInt2, atI0, atI1, atI2, run_addI, run_subI]
        simp
      · simp only [run_ok, run_okI, run_okB, run_alloc, run_stuck, run_bind, run_ite, run_noX, run_fnOf, w_c, w_op, w_un, w_call, w_callK, w_nil, w_cons, w_tup, w_lst, isB_bl, w_tval, w_tand, w_tor, w_tnot, w_and, w_or, w_not, w_if, s_next, s_seq, s_if, s_ret, s_drop, s_set, s_par, s_put, s_asg, w_var', runS_next, runS_ret, runS_stuck, runS_ite, List.length_cons, List.length_nil, List.length_singleton, List.map_cons, List.map_nil, List.cons_append, List.nil_append, List.replicate_succ, List.replicate_zero, List.getElem?_cons_zero, List.getElem?_cons_succ, List.set_cons_zero, List.set_cons_succ, Nat.reduceAdd, Nat.reduceSub, Nat.reduceEqDiff, ite_true, ite_false, if_true, if_false, reduceIte, Bool.false_eq_true, decide_true, decide_false, String.reduceEq, Int.reduceEq, Nat.reduceLeDiff, true_and, and_true, Bool.not_true, Bool.not_false, decide_eq_true_eq, List.append_nil, bType, bIsi, bLen, bInt, ty_int, ty_bl, ty_str, ty_non, ty_tup, isT, oIs, oIsNot, run_eqI, run_neI, Bool.or_false, Bool.or_true, Bool.false_or, Bool.true_or, Bool.and_true, Bool.and_false, Bool.true_and, Bool.false_and, reduceCtorEq, decide_not, Bool.not_eq_true', decide_eq_false_iff_not, askInt, askBool, askTuple, askList, askStr, oLe, oLt, oGe, oGt, oInt2, atI0, atI1, atI2, run_addI, run_subI]
      · rw [s_ret]
        have ht : ∀ (i : Nat) (x : Val) (S' : Store) (Q : Val → Store → Prop), xs[i]? = some x → Kp S S' → Run (oIx (.tup xs) (.int i) S') Q = Q x S' := fun i x S' Q e _ => by rw [run_ixT, atI_nat e]; rfl
        have hlen : Run (bLen [.tup xs] S) (fun r S' => r = .int xs.length ∧ S' = S) := ⟨rfl, rfl⟩
        have hih : ∀ x ∈ xs, ∀ S', Kp S S' → Run ((fns n)._law_same [x, x] S') (PureK S' (.bl true)) := fun x hxm S' _ => l_same_sm d' n x S' (hx x hxm) (by omega) (by omega)
        have q := same_tail (n := n) (f := .tup xs) (g := .tup xs) (xs := xs) (S := S) ht ht hlen hl hih
        cases q
        assumption
/-- two lists of the same items -/
theorem l_same_ls {d n f g : Nat} {xs : List Val} {S : Store} (hf : S[f]? = some (.lst xs)) (hg : S[g]? = some (.lst xs)) (hl : xs.length ≤ 1000) (hx : ∀ x ∈ xs, Sm d x) (hn : d + 1 < n) (h60 : d < 59) : Run ((fns n)._law_same [.ref f, .ref g] S) (PureK S (.bl true)) := by
  obtain ⟨n, rfl⟩ : ∃ m, n = m + 1 := ⟨n - 1, by omega⟩
  show Run (fnOf 2 3 (b__law_same (fns n)) [.ref f, .ref g] S) _
  unfold b__law_same
  have tf := ty_ref (S := S) hf
  have tg := ty_ref (S := S) hg
  refine run_fn rfl rfl ?_
  have N : ∀ {b d : SD} {R : Val → Store → Prop} {M : PD.Env → Store → Prop}, RunS (b [some (.ref f), some (.ref g), none] S) (fun ρ S' => ρ = [some (.ref f), some (.ref g), none] ∧ S' = S) R → RunS (d [some (.ref f), some (.ref g), none] S) M R → RunS (sSeq b d [some (.ref f), some (.ref g), none] S) M R := fun {b d R M} h1 h2 => s_step h1 fun ρ S' ⟨e1, e2⟩ => by subst e1 e2; exact h2
  refine N ?_ (N ?_ (N ?_ (N ?_ (N ?_ (N ?_ (N ?_ ?_))))))
  · simp only [oIs_ref, run_ok, run_okI, run_okB, run_alloc, run_stuck, run_bind, run_ite, run_noX, run_fnOf, w_c, w_op, w_un, w_call, w_callK, w_nil, w_cons, w_tup, w_lst, isB_bl, w_tval, w_tand, w_tor, w_tnot, w_and, w_or, w_not, w_if, s_next, s_seq, s_if, s_ret, s_drop, s_set, s_par, s_put, s_asg, w_var', runS_next, runS_ret, runS_stuck, runS_ite, List.length_cons, List.length_nil, List.length_singleton, List.map_cons, List.map_nil, List.cons_append, List.nil_append, List.replicate_succ, List.replicate_zero, List.getElem?_cons_zero, List.getElem?_cons_succ, List.set_cons_zero, List.set_cons_succ, Nat.reduceAdd, Nat.reduceSub, Nat.reduceEqDiff, ite_true, ite_false, if_true, if_false, reduceIte, Bool.false_eq_true, decide_true, decide_false, String.reduceEq, Int.reduceEq, Nat.reduceLeDiff, true_and, and_true, Bool.not_true, Bool.not_false, decide_eq_true_eq, List.append_nil, bType, bIsi, bLen, bInt, ty_int, ty_bl, ty_str, ty_non, ty_tup, isT, oIs, oIsNot, run_eqI, run_neI, Bool.or_false, Bool.or_true, Bool.false_or, Bool.true_or, Bool.and_true, Bool.and_false, Bool.true_and, Bool.false_and, reduceCtorEq, decide_not, Bool.not_eq_true', decide_eq_false_iff_not, askInt, askBool, askTuple, askList, askStr, oLe, oLt, oGe, oGt, oInt2, atI0, atI1, atI2, run_addI, run_subI]
  · simp only [oIs_refB, run_ok, run_okI, run_okB, run_alloc, run_stuck, run_bind, run_ite, run_noX, run_fnOf, w_c, w_op, w_un, w_call, w_callK, w_nil, w_cons, w_tup, w_lst, isB_bl, w_tval, w_tand, w_tor, w_tnot, w_and, w_or, w_not, w_if, s_next, s_seq, s_if, s_ret, s_drop, s_set, s_par, s_put, s_asg, w_var', runS_next, runS_ret, runS_stuck, runS_ite, List.length_cons, List.length_nil, List.length_singleton, List.map_cons, List.map_nil, List.cons_append, List.nil_append, List.replicate_succ, List.replicate_zero, List.getElem?_cons_zero, List.getElem?_cons_succ, List.set_cons_zero, List.set_cons_succ, Nat.reduceAdd, Nat.reduceSub, Nat.reduceEqDiff, ite_true, ite_false, if_true, if_false, reduceIte, Bool.false_eq_true, decide_true, decide_false, String.reduceEq, Int.reduceEq, Nat.reduceLeDiff, true_and, and_true, Bool.not_true, Bool.not_false, decide_eq_true_eq, List.append_nil, bType, bIsi, bLen, bInt, ty_int, ty_bl, ty_str, ty_non, ty_tup, isT, oIs, oIsNot, run_eqI, run_neI, Bool.or_false, Bool.or_true, Bool.false_or, Bool.true_or, Bool.and_true, Bool.and_false, Bool.true_and, Bool.false_and, reduceCtorEq, decide_not, Bool.not_eq_true', decide_eq_false_iff_not, askInt, askBool, askTuple, askList, askStr, oLe, oLt, oGe, oGt, oInt2, atI0, atI1, atI2, run_addI, run_subI]
  · simp only [oIs_refB, run_ok, run_okI, run_okB, run_alloc, run_stuck, run_bind, run_ite, run_noX, run_fnOf, w_c, w_op, w_un, w_call, w_callK, w_nil, w_cons, w_tup, w_lst, isB_bl, w_tval, w_tand, w_tor, w_tnot, w_and, w_or, w_not, w_if, s_next, s_seq, s_if, s_ret, s_drop, s_set, s_par, s_put, s_asg, w_var', runS_next, runS_ret, runS_stuck, runS_ite, List.length_cons, List.length_nil, List.length_singleton, List.map_cons, List.map_nil, List.cons_append, List.nil_append, List.replicate_succ, List.replicate_zero, List.getElem?_cons_zero, List.getElem?_cons_succ, List.set_cons_zero, List.set_cons_succ, Nat.reduceAdd, Nat.reduceSub, Nat.reduceEqDiff, ite_true, ite_false, if_true, if_false, reduceIte, Bool.false_eq_true, decide_true, decide_false, String.reduceEq, Int.reduceEq, Nat.reduceLeDiff, true_and, and_true, Bool.not_true, Bool.not_false, decide_eq_true_eq, List.append_nil, bType, bIsi, bLen, bInt, ty_int, ty_bl, ty_str, ty_non, ty_tup, isT, oIs, oIsNot, run_eqI, run_neI, Bool.or_false, Bool.or_true, Bool.false_or, Bool.true_or, Bool.and_true, Bool.and_false, Bool.true_and, Bool.false_and, reduceCtorEq, decide_not, Bool.not_eq_true', decide_eq_false_iff_not, askInt, askBool, askTuple, askList, askStr, oLe, oLt, oGe, oGt, oInt2, atI0, atI1, atI2, run_addI, run_subI]
  · simp only [isi_list hg, tg, askInt, run_ok, run_okI, run_okB, run_alloc, run_stuck, run_bind, run_ite, run_noX, run_fnOf, w_c, w_op, w_un, w_call, w_callK, w_nil, w_cons, w_tup, w_lst, isB_bl, w_tval, w_tand, w_tor, w_tnot, w_and, w_or, w_not, w_if, s_next, s_seq, s_if, s_ret, s_drop, s_set, s_par, s_put, s_asg, w_var', runS_next, runS_ret, runS_stuck, runS_ite, List.length_cons, List.length_nil, List.length_singleton, List.map_cons, List.map_nil, List.cons_append, List.nil_append, List.replicate_succ, List.replicate_zero, List.getElem?_cons_zero, List.getElem?_cons_succ, List.set_cons_zero, List.set_cons_succ, Nat.reduceAdd, Nat.reduceSub, Nat.reduceEqDiff, ite_true, ite_false, if_true, if_false, reduceIte, Bool.false_eq_true, decide_true, decide_false, String.reduceEq, Int.reduceEq, Nat.reduceLeDiff, true_and, and_true, Bool.not_true, Bool.not_false, decide_eq_true_eq, List.append_nil, bType, bIsi, bLen, bInt, ty_int, ty_bl, ty_str, ty_non, ty_tup, isT, oIs, oIsNot, run_eqI, run_neI, Bool.or_false, Bool.or_true, Bool.false_or, Bool.true_or, Bool.and_true, Bool.and_false, Bool.true_and, Bool.false_and, reduceCtorEq, decide_not, Bool.not_eq_true', decide_eq_false_iff_not, askInt, askBool, askTuple, askList, askStr, oLe, oLt, oGe, oGt, oInt2, atI0, atI1, atI2, run_addI, run_subI]
  · simp only [tg, askStr, run_ok, run_okI, run_okB, run_alloc, run_stuck, run_bind, run_ite, run_noX, run_fnOf, w_c, w_op, w_un, w_call, w_callK, w_nil, w_cons, w_tup, w_lst, isB_bl, w_tval, w_tand, w_tor, w_tnot, w_and, w_or, w_not, w_if, s_next, s_seq, s_if, s_ret, s_drop, s_set, s_par, s_put, s_asg, w_var', runS_next, runS_ret, runS_stuck, runS_ite, List.length_cons, List.length_nil, List.length_singleton, List.map_cons, List.map_nil, List.cons_append, List.nil_append, List.replicate_succ, List.replicate_zero, List.getElem?_cons_zero, List.getElem?_cons_succ, List.set_cons_zero, List.set_cons_succ, Nat.reduceAdd, Nat.reduceSub, Nat.reduceEqDiff, ite_true, ite_false, if_true, if_false, reduceIte, Bool.false_eq_true, decide_true, decide_false, String.reduceEq, Int.reduceEq, Nat.reduceLeDiff, true_and, and_true, Bool.not_true, Bool.not_false, decide_eq_true_eq, List.append_nil, bType, bIsi, bLen, bInt, ty_int, ty_bl, ty_str, ty_non, ty_tup, isT, oIs, oIsNot, run_eqI, run_neI, Bool.or_false, Bool.or_true, Bool.false_or, Bool.true_or, Bool.and_true, Bool.and_false, Bool.true_and, Bool.false_and, reduceCtorEq, decide_not, Bool.not_eq_true', decide_eq_false_iff_not, askInt, askBool, askTuple, askList, askStr, oLe, oLt, oGe, oGt, oInt2, atI0, atI1, atI2, run_addI, run_subI]
  · simp only [tf, tg, run_neB, askTuple, askList, run_ok, run_okI, run_okB, run_alloc, run_stuck, run_bind, run_ite, run_noX, run_fnOf, w_c, w_op, w_un, w_call, w_callK, w_nil, w_cons, w_tup, w_lst, isB_bl, w_tval, w_tand, w_tor, w_tnot, w_and, w_or, w_not, w_if, s_next, s_seq, s_if, s_ret, s_drop, s_set, s_par, s_put, s_asg, w_var', runS_next, runS_ret, runS_stuck, runS_ite, List.length_cons, List.length_nil, List.length_singleton, List.map_cons, List.map_nil, List.cons_append, List.nil_append, List.replicate_succ, List.replicate_zero, List.getElem?_cons_zero, List.getElem?_cons_succ, List.set_cons_zero, List.set_cons_succ, Nat.reduceAdd, Nat.reduceSub, Nat.reduceEqDiff, ite_true, ite_false, if_true, if_false, reduceIte, Bool.false_eq_true, decide_true, decide_false, String.reduceEq, Int.reduceEq, Nat.reduceLeDiff, true_and, and_true, Bool.not_true, Bool.not_false, decide_eq_true_eq, List.append_nil, bType, bIsi, bLen, bInt, ty_int, ty_bl, ty_str, ty_non, ty_tup, isT, oIs, oIsNot, run_eqI, run_neI, Bool.or_false, Bool.or_true, Bool.false_or, Bool.true_or, Bool.and_true, Bool.and_false, Bool.true_and, Bool.false_and, reduceCtorEq, decide_not, Bool.not_eq_true', decide_eq_false_iff_not, askInt, askBool, askTuple, askList, askStr, oLe, oLt, oGe, oGt, oInt2, atI0, atI1, atI2, run_addI, run_subI]
    simp
  · simp only [hf, hg, Cell.items, run_ok, run_okI, run_okB, run_alloc, run_stuck, run_bind, run_ite, run_noX, run_fnOf, w_c, w_op, w_un, w_call, w_callK, w_nil, w_cons, w_tup, w_lst, isB_bl, w_tval, w_tand, w_tor, w_tnot, w_and, w_or, w_not, w_if, s_next, s_seq, s_if, s_ret, s_drop, s_set, s_par, s_put, s_asg, w_var', runS_next, runS_ret, runS_stuck, runS_ite, List.length_cons, List.length_nil, List.length_singleton, List.map_cons, List.map_nil, List.cons_append, List.nil_append, List.replicate_succ, List.replicate_zero, List.getElem?_cons_zero, List.getElem?_cons_succ, List.set_cons_zero, List.set_cons_succ, Nat.reduceAdd, Nat.reduceSub, Nat.reduceEqDiff, ite_true, ite_false, if_true, if_false, reduceIte, Bool.false_eq_true, decide_true, decide_false, String.reduceEq, Int.reduceEq, Nat.reduceLeDiff, true_and, and_true, Bool.not_true, Bool.not_false, decide_eq_true_eq, List.append_nil, bType, bIsi, bLen, bInt, ty_int, ty_bl, ty_str, ty_non, ty_tup, isT, oIs, oIsNot, run_eqI, run_neI, Bool.or_false, Bool.or_true, Bool.false_or, Bool.true_or, Bool.and_true, Bool.and_false, Bool.true_and, Bool.false_and, reduceCtorEq, decide_not, Bool.not_eq_true', decide_eq_false_iff_not, askInt, askBool, askTuple, askList, askStr, oLe, oLt, oGe, oGt, oInt2, atI0, atI1, atI2, run_addI, run_subI]
  · rw [s_ret]
    have hr : ∀ m, S[m]? = some (.lst xs) → ∀ (i : Nat) (x : Val) (S' : Store) (Q : Val → Store → Prop), xs[i]? = some x → Kp S S' → Run (oIx (.ref m) (.int i) S') Q = Q x S' := fun m hm i x S' Q e k => by rw [run_ixR (k _ _ hm), atI_nat e]; rfl
    refine (same_tail (hr f hf) (hr g hg) ?_ hl fun x hxm S' _ => l_same_sm d n x S' (hx x hxm) (by omega) (by omega)).get
    rw [run_len hg]
    exact ⟨rfl, rfl⟩
theorem Sm.up {d e : Nat} {v : Val} (h : Sm d v) : d ≤ e → Sm e v := by
  induction h generalizing e with
  | bl d b => exact fun _ => .bl e b
  | int d i => exact fun _ => .int e i
  | str d z hz => exact fun _ => .str e z hz
  | @tup d xs hl hx ih =>
    intro h
    obtain ⟨e, rfl⟩ : ∃ e', e = e' + 1 := ⟨e - 1, by omega⟩
    exact .tup hl fun x hx' => ih x hx' (by omega)
theorem sm_ints {ws : List Int} (h : ws.length ≤ 1000) : Sm 1 (.tup (ws.map Val.int)) := .tup (by rw [List.length_map]; exact h) fun x hx => by
  obtain ⟨w, _, rfl⟩ := List.mem_map.mp hx
  exact .int 0 w
theorem s_forTup {f : D} {t : TgD} {b : SD} {ρ : PD.Env} {S : Store} {xs : List Val} {N : PD.Env → Store → Prop} {R : Val → Store → Prop} (h : Run (f ρ S) fun x S1 => x = .tup xs ∧ S1 = S) (q : RunS (loopV t b xs ρ S) N R) : RunS (sForT f t b ρ S) N R := by
  unfold sForT
  rw [runS_toS]
  refine Run.mono h fun x S1 ⟨e, e2⟩ => ?_
  subst e e2
  exact q
theorem ne_empty' {S : Store} {a b d : Nat} {xs : List Val} {Q : Val → Store → Prop} (ha : S[a]? = some (.lst xs)) (hx : ∀ x ∈ xs, Da S d x) (hd : d < 60) (hb : S[b]? = some (.lst [])) : Run (oNe (.ref a) (.ref b) S) Q = Q (.bl (!xs.isEmpty)) S := by
  rw [run_ne (d := d + 1) (e := 1) (.ref ha hx) (.ref (d := 0) hb fun _ h => nomatch h) (by omega) (by omega), dat_ref (d := d) ha hx (by omega), dat_ref (d := 0) hb (fun _ h => nomatch h) (by omega)]
  cases xs <;> rfl
theorem natAbs63 {a : Int} (h : 0 ≤ a) (h' : a < 2147483648) : a.natAbs < 2 ^ 63 := Nat.lt_of_lt_of_le (show a.natAbs < 2147483648 by omega) (by decide)
theorem set2_0 {a b x : Val} {c : Nat} {S : Store} (h : S[c]? = some (.lst [a, b])) : setAt (.ref c) (.int 0) x S = some (S.set c (.lst [x, b])) := by
  show (match S[c]? with
    | some (.lst xs) => match ixN xs.length 0 with
      | some j => some (S.set c (.lst (xs.set j x)))
      | none => none
    | _ => none) = _
  rw [h]; rfl
theorem set2_1 {a b x : Val} {c : Nat} {S : Store} (h : S[c]? = some (.lst [a, b])) : setAt (.ref c) (.int 1) x S = some (S.set c (.lst [a, x])) := by
  show (match S[c]? with
    | some (.lst xs) => match ixN xs.length 1 with
      | some j => some (S.set c (.lst (xs.set j x)))
      | none => none
    | _ => none) = _
  rw [h]; rfl
/-! ### the cup -/
def PoolAt (c : Nat) (S : Store) : Prop := ∃ a b : Int, S[c]? = some (.lst [.int a, .int b]) ∧ 0 ≤ a ∧ 0 ≤ b ∧ b < 2147483648
def Cp (c : Nat) (S S' : Store) : Prop := PoolAt c S' ∧ Kx c S S'
theorem Cp.refl {c : Nat} {S : Store} (h : PoolAt c S) : Cp c S S := ⟨h, Kx.refl _ _⟩
theorem Cp.trans {c : Nat} {S S' S2 : Store} (a : Cp c S S') (b : Cp c S' S2) : Cp c S S2 := ⟨b.1, a.2.trans b.2⟩
theorem PoolAt.kp {c : Nat} {S S2 : Store} (a : PoolAt c S) (b : Kp S S2) : PoolAt c S2 := by
  obtain ⟨x, y, e, h⟩ := a
  exact ⟨x, y, b _ _ e, h⟩
theorem Cp.kp {c : Nat} {S S' S2 : Store} (a : Cp c S S') (b : Kp S' S2) : Cp c S S2 := ⟨a.1.kp b, a.2.trans b.kx⟩
theorem Cp.of {c : Nat} {S S' : Store} (h : PoolAt c S) (b : Kp S S') : Cp c S S' := ⟨h.kp b, b.kx⟩
theorem PoolAt.lt {c : Nat} {S : Store} (h : PoolAt c S) : c < S.length := by
  obtain ⟨x, y, e, _⟩ := h
  exact (List.getElem?_eq_some_iff.mp e).1
theorem l_pick {c n : Nat} {many : Int} {S : Store} (hc : PoolAt c S) (h0 : 0 < many) (h1 : many ≤ 1000000) (hn : 0 < n) : Run ((fns n)._law_sip [.ref c, .int many] S) (fun r S' => (∃ i, r = .int i ∧ 0 ≤ i ∧ i < many) ∧ Cp c S S') := by
  obtain ⟨n, rfl⟩ : ∃ m, n = m + 1 := ⟨n - 1, by omega⟩
  have hc0 := hc
  obtain ⟨a, b, e, ha, hb, hb2⟩ := hc
  show Run (fnOf 2 3 (b__law_sip (fns n)) [.ref c, .int many] S) _
  unfold b__law_sip
  have w0 : ∀ {T : Store} {x y : Val} {Q : Val → Store → Prop}, Run (match L2.atI [x, y] 0 with | some z => Res.ok z T | none => .stuck) Q = Q x T := rfl
  have w1 : ∀ {T : Store} {x y : Val} {Q : Val → Store → Prop}, Run (match L2.atI [x, y] 1 with | some z => Res.ok z T | none => .stuck) Q = Q y T := rfl
  have hlt : c < S.length := (List.getElem?_eq_some_iff.mp e).1
  have e1 : ∀ x y : Val, (S.set c (.lst [x, y]))[c]? = some (.lst [x, y]) := fun x y => set_get e
  have hm0 := Int.emod_nonneg (b * 69621) (by decide : (2147483647 : Int) ≠ 0)
  have hm1 := Int.emod_lt_of_pos (b * 69621) (by decide : (0 : Int) < 2147483647)
  simp only [run_fnOf, s_seq, s_if, w_tval, w_op, w_var', w_c, s_set, s_put, s_ret, w_call, w_cons, w_nil, List.length_cons, List.length_nil, List.map_cons, List.map_nil, Nat.reduceAdd, Nat.reduceSub, List.replicate_succ, List.replicate_zero, List.cons_append, List.nil_append, List.getElem?_cons_zero, List.getElem?_cons_succ, List.set_cons_zero, List.set_cons_succ, if_true, run_ixR e, atI0, atI1, run_ok, s_next, run_gtI, isB_bl, run_bIntI, run_modP h0, run_divP h0 h1, set2_0 e, set2_1 e, run_mulE (.inr (by decide) : b.natAbs < 2 ^ 63 ∨ (69621 : Int).natAbs < 2 ^ 63), run_modP (by decide : (0:Int) < 2147483647), run_ixR (e1 _ _)]
  simp only [run_mulE (.inl (natAbs63 hm0 (by omega)) : (b * 69621 % 2147483647).natAbs < 2 ^ 63 ∨ (b * 69621 % 2147483647).natAbs < 2 ^ 63), run_bIntI, run_modP (by decide : (0:Int) < 2147483629), run_divP (by decide : (0:Int) < 32) (by decide), run_modP h0]
  by_cases h : 0 < a
  · rw [if_pos (by simpa using h)]
    refine ⟨⟨_, rfl, Int.emod_nonneg _ (by omega), Int.emod_lt_of_pos _ h0⟩, ⟨_, _, e1 _ _, Int.ediv_nonneg ha (by omega), hb, hb2⟩, fun m d hm q => set_other hm q⟩
  · rw [if_neg (by simpa using h)]
    refine ⟨⟨_, rfl, Int.emod_nonneg _ (by omega), Int.emod_lt_of_pos _ h0⟩, ⟨_, _, e1 _ _, ha, hm0, by omega⟩, fun m d hm q => set_other hm q⟩

end PD.K05

/-! ## K05M3 -/
set_option Elab.async false
set_option linter.all false
set_option maxRecDepth 100000
set_option maxHeartbeats 1000000
namespace PD.K05
open PySem PySem.Spec L2 PD LT
theorem max2 {i j : Int} {S : Store} {Q : Val → Store → Prop} : Run (bMax2 [.int i, .int j] S) Q = Q (.int (max i j)) S := by
  show Q (.int (if j > i then j else i)) S = _
  congr 2
  split <;> omega
theorem min2 {i j : Int} {S : Store} {Q : Val → Store → Prop} : Run (bMin2 [.int i, .int j] S) Q = Q (.int (min i j)) S := by
  show Q (.int (if j < i then j else i)) S = _
  congr 2
  split <;> omega
theorem gT2' {i j : Nat} {x y : Val} {ρ : PD.Env} : gT [gN i, gN j] (.tup [x, y]) ρ = some ((ρ.set i (some x)).set j (some y)) := rfl
/-- where not both are leaves, there is room to go down -/
theorem room {a b : T} {k : Nat} (ha : a.dep ≤ k) (hb : b.dep ≤ k) (h : ¬ (a.isLeaf = true ∧ b.isLeaf = true)) : ∃ j, k = j + 1 := by
  cases k with
  | succ k => exact ⟨k, rfl⟩
  | zero =>
    refine absurd ⟨?_, ?_⟩ h
    · rw [T.leaf_of_dep (t := a) (by omega)]; rfl
    · rw [T.leaf_of_dep (t := b) (by omega)]; rfl
theorem leafs {t : T} (h : t.isLeaf = true) : ∃ i, t = .leaf i := by
  cases t with
  | leaf i => exact ⟨i, rfl⟩
  | node => cases h
/-- the test whether both are integers -/
theorem both_ints {a b : T} {x2 x3 x4 x5 : Option Val} {S : Store} {Q : Bool → Store → Prop} : Run (tAnd' (tVal (dOp oIs (dCall bType (aCons (dVar 0) aNil)) (dC (.ty "int")))) (tVal (dOp oIs (dCall bType (aCons (dVar 1) aNil)) (dC (.ty "int")))) [some (toV a), some (toV b), x2, x3, x4, x5] S) Q = Q (a.isLeaf && b.isLeaf) S := by
  cases a <;> cases b <;> simp only [toV, run_ok, run_okI, run_okB, run_alloc, run_stuck, run_bind, run_ite, run_noX, run_fnOf, w_c, w_op, w_un, w_call, w_callK, w_nil, w_cons, w_tup, w_lst, isB_bl, w_tval, w_tand, w_tor, w_tnot, w_and, w_or, w_not, w_if, s_next, s_seq, s_if, s_ret, s_drop, s_set, s_par, s_put, s_asg, w_var', runS_next, runS_ret, runS_stuck, runS_ite, List.length_cons, List.length_nil, List.length_singleton, List.map_cons, List.map_nil, List.cons_append, List.nil_append, List.replicate_succ, List.replicate_zero, List.getElem?_cons_zero, List.getElem?_cons_succ, List.set_cons_zero, List.set_cons_succ, Nat.reduceAdd, Nat.reduceSub, Nat.reduceEqDiff, ite_true, ite_false, if_true, if_false, reduceIte, Bool.false_eq_true, decide_true, decide_false, String.reduceEq, Int.reduceEq, Nat.reduceLeDiff, true_and, and_true, Bool.not_true, Bool.not_false, decide_eq_true_eq, List.append_nil, bType, bIsi, bLen, bInt, ty_int, ty_bl, ty_str, ty_non, ty_tup, isT, oIs, oIsNot, oSub, oAdd, oIx, run_eqI, run_neI, Bool.or_false, Bool.or_true, Bool.false_or, Bool.true_or, Bool.and_true, Bool.and_false, Bool.true_and, Bool.false_and, reduceCtorEq, decide_not, Bool.not_eq_true', decide_eq_false_iff_not, askInt, askBool, askTuple, askList, askStr, oLe, oLt, oGe, oGt, oInt2, atI0, atI1, atI2] <;> rfl
theorem both_intsL {a b : T} {x2 x3 x4 x5 : Option Val} {S : Store} {Q : Bool → Store → Prop} : Run (tAnd' (tNot' (tVal (dCall bIsi (aCons (dVar 0) (aCons (dC (.ty "tuple")) aNil))))) (tNot' (tVal (dCall bIsi (aCons (dVar 1) (aCons (dC (.ty "tuple")) aNil))))) [some (toV a), some (toV b), x2, x3, x4, x5] S) Q = Q (a.isLeaf && b.isLeaf) S := by
  cases a <;> cases b <;> simp only [toV, askTuple, run_ok, run_okI, run_okB, run_alloc, run_stuck, run_bind, run_ite, run_noX, run_fnOf, w_c, w_op, w_un, w_call, w_callK, w_nil, w_cons, w_tup, w_lst, isB_bl, w_tval, w_tand, w_tor, w_tnot, w_and, w_or, w_not, w_if, s_next, s_seq, s_if, s_ret, s_drop, s_set, s_par, s_put, s_asg, w_var', runS_next, runS_ret, runS_stuck, runS_ite, List.length_cons, List.length_nil, List.length_singleton, List.map_cons, List.map_nil, List.cons_append, List.nil_append, List.replicate_succ, List.replicate_zero, List.getElem?_cons_zero, List.getElem?_cons_succ, List.set_cons_zero, List.set_cons_succ, Nat.reduceAdd, Nat.reduceSub, Nat.reduceEqDiff, ite_true, ite_false, if_true, if_false, reduceIte, Bool.false_eq_true, decide_true, decide_false, String.reduceEq, Int.reduceEq, Nat.reduceLeDiff, true_and, and_true, Bool.not_true, Bool.not_false, decide_eq_true_eq, List.append_nil, bType, bIsi, bLen, bInt, ty_int, ty_bl, ty_str, ty_non, ty_tup, isT, oIs, oIsNot, oSub, oAdd, oIx, run_eqI, run_neI, Bool.or_false, Bool.or_true, Bool.false_or, Bool.true_or, Bool.and_true, Bool.and_false, Bool.true_and, Bool.false_and, reduceCtorEq, decide_not, Bool.not_eq_true', decide_eq_false_iff_not, askInt, askBool, askTuple, askList, askStr, oLe, oLt, oGe, oGt, oInt2, atI0, atI1, atI2] <;> rfl
abbrev JE (a b x2 x3 x4 x5 : Val) : PD.Env := [some a, some b, some x2, some x3, some x4, some x5]
theorem p_greater : ∀ (k n : Nat) (a b : T) (S : Store), a.dep ≤ k → b.dep ≤ k → k + 3 < n → k ≤ 40 → Run ((fns n).greater_of [toV a, toV b] S) (fun r S' => r = toV (T.J k a b) ∧ S' = S)
  | k, 0, a, b, S, _, _, h, _ => absurd h (Nat.not_lt_zero _)
  | k, n + 1, a, b, S, ha, hb, h, hk => by
    show Run (fnOf 2 6 (b_greater_of (fns n)) [toV a, toV b] S) _
    unfold b_greater_of
    refine run_fn (ρ := [some (toV a), some (toV b), none, none, none, none]) rfl rfl ?_
    rw [s_seq, s_if, both_ints]
    by_cases hl : a.isLeaf = true ∧ b.isLeaf = true
    · obtain ⟨i, rfl⟩ := leafs hl.1
      obtain ⟨j, rfl⟩ := leafs hl.2
      rw [if_pos (show ((T.leaf i).isLeaf && (T.leaf j).isLeaf) = true from rfl), s_ret, w_call, w_cons, w_var rfl, w_cons, w_var rfl, w_nil]
      show Run (bMax2 [.int i, .int j] S) _
      rw [max2, T.J_leaf]
      exact ⟨rfl, rfl⟩
    · have hf : (a.isLeaf && b.isLeaf) = false := by
        rw [Bool.eq_false_iff]; intro q; exact hl (Bool.and_eq_true _ _ |>.mp q)
      obtain ⟨k, rfl⟩ := room ha hb hl
      have da0 := T.dep_hf (t := a) (h := 0)
      have da1 := T.dep_hf (t := a) (h := 1)
      have db0 := T.dep_hf (t := b) (h := 0)
      have db1 := T.dep_hf (t := b) (h := 1)
      rw [hf, if_neg (by decide), s_next]
      refine s_step (N' := fun ρ S' => ρ = [some (toV a), some (toV b), some (toV (a.hf 0)), some (toV (a.hf 1)), none, none] ∧ S' = S) ?_ ?_
      · rw [s_asg, w_call, w_cons, w_var rfl, w_nil]
        refine Run.mono (p_halves (by omega)) fun r S1 ⟨e, e2⟩ => ?_
        subst e e2
        rw [gT2']
        exact ⟨rfl, rfl⟩
      rintro ρ S1 ⟨rfl, rfl⟩
      refine s_step (N' := fun ρ S' => ρ = JE (toV a) (toV b) (toV (a.hf 0)) (toV (a.hf 1)) (toV (b.hf 0)) (toV (b.hf 1)) ∧ S' = S1) ?_ ?_
      · rw [s_asg, w_call, w_cons, w_var rfl, w_nil]
        refine Run.mono (p_halves (by omega)) fun r S1 ⟨e, e2⟩ => ?_
        subst e e2
        rw [gT2']
        exact ⟨rfl, rfl⟩
      rintro ρ S2 ⟨rfl, rfl⟩
      rw [s_ret, w_call, w_cons, w_call, w_cons, w_var rfl, w_cons, w_var rfl, w_nil]
      refine Run.mono (p_greater k n _ _ S2 (by omega) (by omega) (by omega) (by omega)) fun r S3 ⟨e, e2⟩ => ?_
      subst e e2
      rw [w_cons, w_call, w_cons, w_var rfl, w_cons, w_var rfl, w_nil]
      refine Run.mono (p_greater k n _ _ S3 (by omega) (by omega) (by omega) (by omega)) fun r S4 ⟨e, e2⟩ => ?_
      subst e e2
      rw [w_nil]
      have := T.dep_J k (a.hf 1) (b.hf 1)
      exact p_whole (by omega) (by omega)
theorem p_nowhere : ∀ (k n : Nat) (a b : T) (S : Store), a.dep ≤ k → b.dep ≤ k → k + 3 < n → Run ((fns n).nowhere_greater [toV a, toV b] S) (fun r S' => r = .bl (T.W k a b) ∧ S' = S)
  | k, 0, a, b, S, _, _, h => absurd h (Nat.not_lt_zero _)
  | k, n + 1, a, b, S, ha, hb, h => by
    show Run (fnOf 2 6 (b_nowhere_greater (fns n)) [toV a, toV b] S) _
    unfold b_nowhere_greater
    refine run_fn (ρ := [some (toV a), some (toV b), none, none, none, none]) rfl rfl ?_
    rw [s_seq, s_if, both_ints]
    by_cases hl : a.isLeaf = true ∧ b.isLeaf = true
    · obtain ⟨i, rfl⟩ := leafs hl.1
      obtain ⟨j, rfl⟩ := leafs hl.2
      rw [if_pos (show ((T.leaf i).isLeaf && (T.leaf j).isLeaf) = true from rfl), s_ret, w_op, w_var rfl, w_var rfl, T.W_leaf]
      exact ⟨rfl, rfl⟩
    · have hf : (a.isLeaf && b.isLeaf) = false := by
        rw [Bool.eq_false_iff]; intro q; exact hl (Bool.and_eq_true _ _ |>.mp q)
      obtain ⟨k, rfl⟩ := room ha hb hl
      have da0 := T.dep_hf (t := a) (h := 0)
      have da1 := T.dep_hf (t := a) (h := 1)
      have db0 := T.dep_hf (t := b) (h := 0)
      have db1 := T.dep_hf (t := b) (h := 1)
      rw [hf, if_neg (by decide), s_next]
      refine s_step (N' := fun ρ S' => ρ = [some (toV a), some (toV b), some (toV (a.hf 0)), some (toV (a.hf 1)), none, none] ∧ S' = S) ?_ ?_
      · rw [s_asg, w_call, w_cons, w_var rfl, w_nil]
        refine Run.mono (p_halves (by omega)) fun r S1 ⟨e, e2⟩ => ?_
        subst e e2
        rw [gT2']
        exact ⟨rfl, rfl⟩
      rintro ρ S1 ⟨rfl, rfl⟩
      refine s_step (N' := fun ρ S' => ρ = JE (toV a) (toV b) (toV (a.hf 0)) (toV (a.hf 1)) (toV (b.hf 0)) (toV (b.hf 1)) ∧ S' = S1) ?_ ?_
      · rw [s_asg, w_call, w_cons, w_var rfl, w_nil]
        refine Run.mono (p_halves (by omega)) fun r S1 ⟨e, e2⟩ => ?_
        subst e e2
        rw [gT2']
        exact ⟨rfl, rfl⟩
      rintro ρ S2 ⟨rfl, rfl⟩
      rw [s_ret, w_and, w_call, w_cons, w_var rfl, w_cons, w_var rfl, w_nil]
      refine Run.mono (p_nowhere k n _ _ S2 (by omega) (by omega) (by omega)) fun r S3 ⟨e, e2⟩ => ?_
      subst e e2
      rw [isB_bl]
      show if T.W k (a.hf 0) (b.hf 0) = true then _ else _
      have hw : T.W (k + 1) a b = (T.W k (a.hf 0) (b.hf 0) && T.W k (a.hf 1) (b.hf 1)) := rfl
      cases h0 : T.W k (a.hf 0) (b.hf 0) with
      | false =>
        rw [if_neg (by decide), hw, h0]
        exact ⟨rfl, rfl⟩
      | true =>
        rw [if_pos rfl, w_call, w_cons, w_var rfl, w_cons, w_var rfl, w_nil, hw, h0, Bool.true_and]
        exact p_nowhere k n _ _ S3 (by omega) (by omega) (by omega)
theorem p_greatest : ∀ (t : T) (n : Nat) (S : Store), t.dep < n → Run ((fns n).greatest [toV t] S) (fun r S' => r = .int t.mx ∧ S' = S)
  | t, 0, S, h => absurd h (Nat.not_lt_zero _)
  | .leaf i, n + 1, S, h => by
    show Run (fnOf 1 1 (b_greatest (fns n)) [toV (.leaf i)] S) _
    unfold b_greatest
    simp only [toV, run_ok, run_okI, run_okB, run_alloc, run_stuck, run_bind, run_ite, run_noX, run_fnOf, w_c, w_op, w_un, w_call, w_callK, w_nil, w_cons, w_tup, w_lst, isB_bl, w_tval, w_tand, w_tor, w_tnot, w_and, w_or, w_not, w_if, s_next, s_seq, s_if, s_ret, s_drop, s_set, s_par, s_put, s_asg, w_var', runS_next, runS_ret, runS_stuck, runS_ite, List.length_cons, List.length_nil, List.length_singleton, List.map_cons, List.map_nil, List.cons_append, List.nil_append, List.replicate_succ, List.replicate_zero, List.getElem?_cons_zero, List.getElem?_cons_succ, List.set_cons_zero, List.set_cons_succ, Nat.reduceAdd, Nat.reduceSub, Nat.reduceEqDiff, ite_true, ite_false, if_true, if_false, reduceIte, Bool.false_eq_true, decide_true, decide_false, String.reduceEq, Int.reduceEq, Nat.reduceLeDiff, true_and, and_true, Bool.not_true, Bool.not_false, decide_eq_true_eq, List.append_nil, bType, bIsi, bLen, bInt, ty_int, ty_bl, ty_str, ty_non, ty_tup, isT, oIs, oIsNot, oSub, oAdd, oIx, run_eqI, run_neI, Bool.or_false, Bool.or_true, Bool.false_or, Bool.true_or, Bool.and_true, Bool.and_false, Bool.true_and, Bool.false_and, reduceCtorEq, decide_not, Bool.not_eq_true', decide_eq_false_iff_not, askInt, askBool, askTuple, askList, askStr, oLe, oLt, oGe, oGt, oInt2, atI0, atI1, atI2]
    rfl
  | .node m l r, n + 1, S, h => by
    have hd : (T.node m l r).dep = 1 + max l.dep r.dep := rfl
    show Run (fnOf 1 1 (b_greatest (fns n)) [toV (.node m l r)] S) _
    unfold b_greatest
    simp only [toV, run_ok, run_okI, run_okB, run_alloc, run_stuck, run_bind, run_ite, run_noX, run_fnOf, w_c, w_op, w_un, w_call, w_callK, w_nil, w_cons, w_tup, w_lst, isB_bl, w_tval, w_tand, w_tor, w_tnot, w_and, w_or, w_not, w_if, s_next, s_seq, s_if, s_ret, s_drop, s_set, s_par, s_put, s_asg, w_var', runS_next, runS_ret, runS_stuck, runS_ite, List.length_cons, List.length_nil, List.length_singleton, List.map_cons, List.map_nil, List.cons_append, List.nil_append, List.replicate_succ, List.replicate_zero, List.getElem?_cons_zero, List.getElem?_cons_succ, List.set_cons_zero, List.set_cons_succ, Nat.reduceAdd, Nat.reduceSub, Nat.reduceEqDiff, ite_true, ite_false, if_true, if_false, reduceIte, Bool.false_eq_true, decide_true, decide_false, String.reduceEq, Int.reduceEq, Nat.reduceLeDiff, true_and, and_true, Bool.not_true, Bool.not_false, decide_eq_true_eq, List.append_nil, bType, bIsi, bLen, bInt, ty_int, ty_bl, ty_str, ty_non, ty_tup, isT, oIs, oIsNot, oSub, oAdd, oIx, run_eqI, run_neI, Bool.or_false, Bool.or_true, Bool.false_or, Bool.true_or, Bool.and_true, Bool.and_false, Bool.true_and, Bool.false_and, reduceCtorEq, decide_not, Bool.not_eq_true', decide_eq_false_iff_not, askInt, askBool, askTuple, askList, askStr, oLe, oLt, oGe, oGt, oInt2, atI0, atI1, atI2]
    refine Run.mono (p_greatest l n S (by omega)) fun x S1 ⟨e1, e2⟩ => ?_
    subst e1 e2
    refine Run.mono (p_greatest r n S1 (by omega)) fun x S2 ⟨e1, e2⟩ => ?_
    subst e1 e2
    rw [max2]
    simp only [run_ok, run_okI, run_okB, run_alloc, run_stuck, run_bind, run_ite, run_noX, run_fnOf, w_c, w_op, w_un, w_call, w_callK, w_nil, w_cons, w_tup, w_lst, isB_bl, w_tval, w_tand, w_tor, w_tnot, w_and, w_or, w_not, w_if, s_next, s_seq, s_if, s_ret, s_drop, s_set, s_par, s_put, s_asg, w_var', runS_next, runS_ret, runS_stuck, runS_ite, List.length_cons, List.length_nil, List.length_singleton, List.map_cons, List.map_nil, List.cons_append, List.nil_append, List.replicate_succ, List.replicate_zero, List.getElem?_cons_zero, List.getElem?_cons_succ, List.set_cons_zero, List.set_cons_succ, Nat.reduceAdd, Nat.reduceSub, Nat.reduceEqDiff, ite_true, ite_false, if_true, if_false, reduceIte, Bool.false_eq_true, decide_true, decide_false, String.reduceEq, Int.reduceEq, Nat.reduceLeDiff, true_and, and_true, Bool.not_true, Bool.not_false, decide_eq_true_eq, List.append_nil, bType, bIsi, bLen, bInt, ty_int, ty_bl, ty_str, ty_non, ty_tup, isT, oIs, oIsNot, oSub, oAdd, oIx, run_eqI, run_neI, Bool.or_false, Bool.or_true, Bool.false_or, Bool.true_or, Bool.and_true, Bool.and_false, Bool.true_and, Bool.false_and, reduceCtorEq, decide_not, Bool.not_eq_true', decide_eq_false_iff_not, askInt, askBool, askTuple, askList, askStr, oLe, oLt, oGe, oGt, oInt2, atI0, atI1, atI2]
    exact rfl
/-! ### the law's own -/
theorem l_size : ∀ (t : T) (n : Nat) (S : Store), t.dep < n → Run ((fns n)._law_size [toV t] S) (fun r S' => r = .int t.tc ∧ S' = S)
  | t, 0, S, h => absurd h (Nat.not_lt_zero _)
  | .leaf i, n + 1, S, h => by
    show Run (fnOf 1 1 (b__law_size (fns n)) [toV (.leaf i)] S) _
    unfold b__law_size
    simp only [toV, askTuple, run_ok, run_okI, run_okB, run_alloc, run_stuck, run_bind, run_ite, run_noX, run_fnOf, w_c, w_op, w_un, w_call, w_callK, w_nil, w_cons, w_tup, w_lst, isB_bl, w_tval, w_tand, w_tor, w_tnot, w_and, w_or, w_not, w_if, s_next, s_seq, s_if, s_ret, s_drop, s_set, s_par, s_put, s_asg, w_var', runS_next, runS_ret, runS_stuck, runS_ite, List.length_cons, List.length_nil, List.length_singleton, List.map_cons, List.map_nil, List.cons_append, List.nil_append, List.replicate_succ, List.replicate_zero, List.getElem?_cons_zero, List.getElem?_cons_succ, List.set_cons_zero, List.set_cons_succ, Nat.reduceAdd, Nat.reduceSub, Nat.reduceEqDiff, ite_true, ite_false, if_true, if_false, reduceIte, Bool.false_eq_true, decide_true, decide_false, String.reduceEq, Int.reduceEq, Nat.reduceLeDiff, true_and, and_true, Bool.not_true, Bool.not_false, decide_eq_true_eq, List.append_nil, bType, bIsi, bLen, bInt, ty_int, ty_bl, ty_str, ty_non, ty_tup, isT, oIs, oIsNot, oSub, oAdd, oIx, run_eqI, run_neI, Bool.or_false, Bool.or_true, Bool.false_or, Bool.true_or, Bool.and_true, Bool.and_false, Bool.true_and, Bool.false_and, reduceCtorEq, decide_not, Bool.not_eq_true', decide_eq_false_iff_not, askInt, askBool, askTuple, askList, askStr, oLe, oLt, oGe, oGt, oInt2, atI0, atI1, atI2]
    rfl
  | .node m l r, n + 1, S, h => by
    have hd : (T.node m l r).dep = 1 + max l.dep r.dep := rfl
    show Run (fnOf 1 1 (b__law_size (fns n)) [toV (.node m l r)] S) _
    unfold b__law_size
    simp only [toV, askTuple, w_un, oNeg, atIm1', atIm2', run_ok, run_okI, run_okB, run_alloc, run_stuck, run_bind, run_ite, run_noX, run_fnOf, w_c, w_op, w_un, w_call, w_callK, w_nil, w_cons, w_tup, w_lst, isB_bl, w_tval, w_tand, w_tor, w_tnot, w_and, w_or, w_not, w_if, s_next, s_seq, s_if, s_ret, s_drop, s_set, s_par, s_put, s_asg, w_var', runS_next, runS_ret, runS_stuck, runS_ite, List.length_cons, List.length_nil, List.length_singleton, List.map_cons, List.map_nil, List.cons_append, List.nil_append, List.replicate_succ, List.replicate_zero, List.getElem?_cons_zero, List.getElem?_cons_succ, List.set_cons_zero, List.set_cons_succ, Nat.reduceAdd, Nat.reduceSub, Nat.reduceEqDiff, ite_true, ite_false, if_true, if_false, reduceIte, Bool.false_eq_true, decide_true, decide_false, String.reduceEq, Int.reduceEq, Nat.reduceLeDiff, true_and, and_true, Bool.not_true, Bool.not_false, decide_eq_true_eq, List.append_nil, bType, bIsi, bLen, bInt, ty_int, ty_bl, ty_str, ty_non, ty_tup, isT, oIs, oIsNot, oSub, oAdd, oIx, run_eqI, run_neI, Bool.or_false, Bool.or_true, Bool.false_or, Bool.true_or, Bool.and_true, Bool.and_false, Bool.true_and, Bool.false_and, reduceCtorEq, decide_not, Bool.not_eq_true', decide_eq_false_iff_not, askInt, askBool, askTuple, askList, askStr, oLe, oLt, oGe, oGt, oInt2, atI0, atI1, atI2]
    refine Run.mono (l_size l n S (by omega)) fun x S1 ⟨e1, e2⟩ => ?_
    subst e1 e2
    simp only [w_un, oNeg, atIm1', atIm2', run_ok, run_okI, run_okB, run_alloc, run_stuck, run_bind, run_ite, run_noX, run_fnOf, w_c, w_op, w_un, w_call, w_callK, w_nil, w_cons, w_tup, w_lst, isB_bl, w_tval, w_tand, w_tor, w_tnot, w_and, w_or, w_not, w_if, s_next, s_seq, s_if, s_ret, s_drop, s_set, s_par, s_put, s_asg, w_var', runS_next, runS_ret, runS_stuck, runS_ite, List.length_cons, List.length_nil, List.length_singleton, List.map_cons, List.map_nil, List.cons_append, List.nil_append, List.replicate_succ, List.replicate_zero, List.getElem?_cons_zero, List.getElem?_cons_succ, List.set_cons_zero, List.set_cons_succ, Nat.reduceAdd, Nat.reduceSub, Nat.reduceEqDiff, ite_true, ite_false, if_true, if_false, reduceIte, Bool.false_eq_true, decide_true, decide_false, String.reduceEq, Int.reduceEq, Nat.reduceLeDiff, true_and, and_true, Bool.not_true, Bool.not_false, decide_eq_true_eq, List.append_nil, bType, bIsi, bLen, bInt, ty_int, ty_bl, ty_str, ty_non, ty_tup, isT, oIs, oIsNot, oSub, oAdd, oIx, run_eqI, run_neI, Bool.or_false, Bool.or_true, Bool.false_or, Bool.true_or, Bool.and_true, Bool.and_false, Bool.true_and, Bool.false_and, reduceCtorEq, decide_not, Bool.not_eq_true', decide_eq_false_iff_not, askInt, askBool, askTuple, askList, askStr, oLe, oLt, oGe, oGt, oInt2, atI0, atI1, atI2]
    refine Run.mono (l_size r n S1 (by omega)) fun x S2 ⟨e1, e2⟩ => ?_
    subst e1 e2
    simp only [run_ok, run_okI, run_okB, run_alloc, run_stuck, run_bind, run_ite, run_noX, run_fnOf, w_c, w_op, w_un, w_call, w_callK, w_nil, w_cons, w_tup, w_lst, isB_bl, w_tval, w_tand, w_tor, w_tnot, w_and, w_or, w_not, w_if, s_next, s_seq, s_if, s_ret, s_drop, s_set, s_par, s_put, s_asg, w_var', runS_next, runS_ret, runS_stuck, runS_ite, List.length_cons, List.length_nil, List.length_singleton, List.map_cons, List.map_nil, List.cons_append, List.nil_append, List.replicate_succ, List.replicate_zero, List.getElem?_cons_zero, List.getElem?_cons_succ, List.set_cons_zero, List.set_cons_succ, Nat.reduceAdd, Nat.reduceSub, Nat.reduceEqDiff, ite_true, ite_false, if_true, if_false, reduceIte, Bool.false_eq_true, decide_true, decide_false, String.reduceEq, Int.reduceEq, Nat.reduceLeDiff, true_and, and_true, Bool.not_true, Bool.not_false, decide_eq_true_eq, List.append_nil, bType, bIsi, bLen, bInt, ty_int, ty_bl, ty_str, ty_non, ty_tup, isT, oIs, oIsNot, oSub, oAdd, oIx, run_eqI, run_neI, Bool.or_false, Bool.or_true, Bool.false_or, Bool.true_or, Bool.and_true, Bool.and_false, Bool.true_and, Bool.false_and, reduceCtorEq, decide_not, Bool.not_eq_true', decide_eq_false_iff_not, askInt, askBool, askTuple, askList, askStr, oLe, oLt, oGe, oGt, oInt2, atI0, atI1, atI2]
    show Val.int _ = Val.int ((1 + (l.tc + r.tc) : Nat) : Int)
    congr 1
    omega
theorem l_least : ∀ (t : T) (n : Nat) (S : Store), t.co = true → t.dep < n → Run ((fns n)._law_least [toV t] S) (fun r S' => r = .int t.top ∧ S' = S)
  | t, 0, S, _, h => absurd h (Nat.not_lt_zero _)
  | .leaf i, n + 1, S, _, h => by
    show Run (fnOf 1 1 (b__law_least (fns n)) [toV (.leaf i)] S) _
    unfold b__law_least
    simp only [toV, askTuple, run_ok, run_okI, run_okB, run_alloc, run_stuck, run_bind, run_ite, run_noX, run_fnOf, w_c, w_op, w_un, w_call, w_callK, w_nil, w_cons, w_tup, w_lst, isB_bl, w_tval, w_tand, w_tor, w_tnot, w_and, w_or, w_not, w_if, s_next, s_seq, s_if, s_ret, s_drop, s_set, s_par, s_put, s_asg, w_var', runS_next, runS_ret, runS_stuck, runS_ite, List.length_cons, List.length_nil, List.length_singleton, List.map_cons, List.map_nil, List.cons_append, List.nil_append, List.replicate_succ, List.replicate_zero, List.getElem?_cons_zero, List.getElem?_cons_succ, List.set_cons_zero, List.set_cons_succ, Nat.reduceAdd, Nat.reduceSub, Nat.reduceEqDiff, ite_true, ite_false, if_true, if_false, reduceIte, Bool.false_eq_true, decide_true, decide_false, String.reduceEq, Int.reduceEq, Nat.reduceLeDiff, true_and, and_true, Bool.not_true, Bool.not_false, decide_eq_true_eq, List.append_nil, bType, bIsi, bLen, bInt, ty_int, ty_bl, ty_str, ty_non, ty_tup, isT, oIs, oIsNot, oSub, oAdd, oIx, run_eqI, run_neI, Bool.or_false, Bool.or_true, Bool.false_or, Bool.true_or, Bool.and_true, Bool.and_false, Bool.true_and, Bool.false_and, reduceCtorEq, decide_not, Bool.not_eq_true', decide_eq_false_iff_not, askInt, askBool, askTuple, askList, askStr, oLe, oLt, oGe, oGt, oInt2, atI0, atI1, atI2]
    rfl
  | .node m l r, n + 1, S, hc, h => by
    have hd : (T.node m l r).dep = 1 + max l.dep r.dep := rfl
    obtain ⟨c1, c2, _, t1, t2, t3⟩ := T.co_node.mp hc
    show Run (fnOf 1 1 (b__law_least (fns n)) [toV (.node m l r)] S) _
    unfold b__law_least
    simp only [toV, askTuple, run_ok, run_okI, run_okB, run_alloc, run_stuck, run_bind, run_ite, run_noX, run_fnOf, w_c, w_op, w_un, w_call, w_callK, w_nil, w_cons, w_tup, w_lst, isB_bl, w_tval, w_tand, w_tor, w_tnot, w_and, w_or, w_not, w_if, s_next, s_seq, s_if, s_ret, s_drop, s_set, s_par, s_put, s_asg, w_var', runS_next, runS_ret, runS_stuck, runS_ite, List.length_cons, List.length_nil, List.length_singleton, List.map_cons, List.map_nil, List.cons_append, List.nil_append, List.replicate_succ, List.replicate_zero, List.getElem?_cons_zero, List.getElem?_cons_succ, List.set_cons_zero, List.set_cons_succ, Nat.reduceAdd, Nat.reduceSub, Nat.reduceEqDiff, ite_true, ite_false, if_true, if_false, reduceIte, Bool.false_eq_true, decide_true, decide_false, String.reduceEq, Int.reduceEq, Nat.reduceLeDiff, true_and, and_true, Bool.not_true, Bool.not_false, decide_eq_true_eq, List.append_nil, bType, bIsi, bLen, bInt, ty_int, ty_bl, ty_str, ty_non, ty_tup, isT, oIs, oIsNot, oSub, oAdd, oIx, run_eqI, run_neI, Bool.or_false, Bool.or_true, Bool.false_or, Bool.true_or, Bool.and_true, Bool.and_false, Bool.true_and, Bool.false_and, reduceCtorEq, decide_not, Bool.not_eq_true', decide_eq_false_iff_not, askInt, askBool, askTuple, askList, askStr, oLe, oLt, oGe, oGt, oInt2, atI0, atI1, atI2]
    refine Run.mono (l_least l n S c1 (by omega)) fun x S1 ⟨e1, e2⟩ => ?_
    subst e1 e2
    refine Run.mono (l_least r n S1 c2 (by omega)) fun x S2 ⟨e1, e2⟩ => ?_
    subst e1 e2
    rw [min2]
    simp only [run_ok, run_okI, run_okB, run_alloc, run_stuck, run_bind, run_ite, run_noX, run_fnOf, w_c, w_op, w_un, w_call, w_callK, w_nil, w_cons, w_tup, w_lst, isB_bl, w_tval, w_tand, w_tor, w_tnot, w_and, w_or, w_not, w_if, s_next, s_seq, s_if, s_ret, s_drop, s_set, s_par, s_put, s_asg, w_var', runS_next, runS_ret, runS_stuck, runS_ite, List.length_cons, List.length_nil, List.length_singleton, List.map_cons, List.map_nil, List.cons_append, List.nil_append, List.replicate_succ, List.replicate_zero, List.getElem?_cons_zero, List.getElem?_cons_succ, List.set_cons_zero, List.set_cons_succ, Nat.reduceAdd, Nat.reduceSub, Nat.reduceEqDiff, ite_true, ite_false, if_true, if_false, reduceIte, Bool.false_eq_true, decide_true, decide_false, String.reduceEq, Int.reduceEq, Nat.reduceLeDiff, true_and, and_true, Bool.not_true, Bool.not_false, decide_eq_true_eq, List.append_nil, bType, bIsi, bLen, bInt, ty_int, ty_bl, ty_str, ty_non, ty_tup, isT, oIs, oIsNot, oSub, oAdd, oIx, run_eqI, run_neI, Bool.or_false, Bool.or_true, Bool.false_or, Bool.true_or, Bool.and_true, Bool.and_false, Bool.true_and, Bool.false_and, reduceCtorEq, decide_not, Bool.not_eq_true', decide_eq_false_iff_not, askInt, askBool, askTuple, askList, askStr, oLe, oLt, oGe, oGt, oInt2, atI0, atI1, atI2]
    show Val.int (m + min l.top r.top) = Val.int m
    congr 1
    omega
theorem l_lower {n : Nat} {t : T} {k : Int} {S : Store} (hn : 0 < n) : Run ((fns n)._law_lower [toV t, .int k] S) (fun r S' => r = toV (t.lift (-k)) ∧ S' = S) := by
  obtain ⟨n, rfl⟩ : ∃ m, n = m + 1 := ⟨n - 1, by omega⟩
  show Run (fnOf 2 2 (b__law_lower (fns n)) [toV t, .int k] S) _
  unfold b__law_lower
  cases t <;> simp only [toV, askTuple, run_ok, run_okI, run_okB, run_alloc, run_stuck, run_bind, run_ite, run_noX, run_fnOf, w_c, w_op, w_un, w_call, w_callK, w_nil, w_cons, w_tup, w_lst, isB_bl, w_tval, w_tand, w_tor, w_tnot, w_and, w_or, w_not, w_if, s_next, s_seq, s_if, s_ret, s_drop, s_set, s_par, s_put, s_asg, w_var', runS_next, runS_ret, runS_stuck, runS_ite, List.length_cons, List.length_nil, List.length_singleton, List.map_cons, List.map_nil, List.cons_append, List.nil_append, List.replicate_succ, List.replicate_zero, List.getElem?_cons_zero, List.getElem?_cons_succ, List.set_cons_zero, List.set_cons_succ, Nat.reduceAdd, Nat.reduceSub, Nat.reduceEqDiff, ite_true, ite_false, if_true, if_false, reduceIte, Bool.false_eq_true, decide_true, decide_false, String.reduceEq, Int.reduceEq, Nat.reduceLeDiff, true_and, and_true, Bool.not_true, Bool.not_false, decide_eq_true_eq, List.append_nil, bType, bIsi, bLen, bInt, ty_int, ty_bl, ty_str, ty_non, ty_tup, isT, oIs, oIsNot, oSub, oAdd, oIx, run_eqI, run_neI, Bool.or_false, Bool.or_true, Bool.false_or, Bool.true_or, Bool.and_true, Bool.and_false, Bool.true_and, Bool.false_and, reduceCtorEq, decide_not, Bool.not_eq_true', decide_eq_false_iff_not, askInt, askBool, askTuple, askList, askStr, oLe, oLt, oGe, oGt, oInt2, atI0, atI1, atI2] <;> rfl
theorem l_put {n : Nat} {l r : T} {S : Store} (hl : l.co = true) (hr : r.co = true) (hd : l.dep ≤ 40 ∧ r.dep ≤ 40) (hn : 42 < n) : Run ((fns n)._law_put [toV l, toV r] S) (fun x S' => x = toV (T.whole l r) ∧ S' = S) := by
  obtain ⟨n, rfl⟩ : ∃ m, n = m + 1 := ⟨n - 1, by omega⟩
  show Run (fnOf 2 3 (b__law_put (fns n)) [toV l, toV r] S) _
  unfold b__law_put
  refine run_fn (ρ := [some (toV l), some (toV r), none]) rfl rfl ?_
  refine s_step (N' := fun ρ S' => (ρ = [some (toV l), some (toV r), none] ∧ S' = S) ∧ T.sameL l r = false) ?_ ?_
  · cases l with
    | node m a b =>
      simp only [toV, askTuple, run_ok, run_okI, run_okB, run_alloc, run_stuck, run_bind, run_ite, run_noX, run_fnOf, w_c, w_op, w_un, w_call, w_callK, w_nil, w_cons, w_tup, w_lst, isB_bl, w_tval, w_tand, w_tor, w_tnot, w_and, w_or, w_not, w_if, s_next, s_seq, s_if, s_ret, s_drop, s_set, s_par, s_put, s_asg, w_var', runS_next, runS_ret, runS_stuck, runS_ite, List.length_cons, List.length_nil, List.length_singleton, List.map_cons, List.map_nil, List.cons_append, List.nil_append, List.replicate_succ, List.replicate_zero, List.getElem?_cons_zero, List.getElem?_cons_succ, List.set_cons_zero, List.set_cons_succ, Nat.reduceAdd, Nat.reduceSub, Nat.reduceEqDiff, ite_true, ite_false, if_true, if_false, reduceIte, Bool.false_eq_true, decide_true, decide_false, String.reduceEq, Int.reduceEq, Nat.reduceLeDiff, true_and, and_true, Bool.not_true, Bool.not_false, decide_eq_true_eq, List.append_nil, bType, bIsi, bLen, bInt, ty_int, ty_bl, ty_str, ty_non, ty_tup, isT, oIs, oIsNot, oSub, oAdd, oIx, run_eqI, run_neI, Bool.or_false, Bool.or_true, Bool.false_or, Bool.true_or, Bool.and_true, Bool.and_false, Bool.true_and, Bool.false_and, reduceCtorEq, decide_not, Bool.not_eq_true', decide_eq_false_iff_not, askInt, askBool, askTuple, askList, askStr, oLe, oLt, oGe, oGt, oInt2, atI0, atI1, atI2]
      exact rfl
    | leaf i =>
      rw [s_if, w_tand, w_tnot, w_tval, w_call, w_cons, w_var rfl, w_cons, w_c, w_nil]
      show Run (bIsi [.int i, .ty "tuple"] S) _
      have e : ∀ Q : Val → Store → Prop, Run (bIsi [.int i, .ty "tuple"] S) Q = Q (.bl false) S := fun Q => by simp only [askTuple, run_ok, run_okI, run_okB, run_alloc, run_stuck, run_bind, run_ite, run_noX, run_fnOf, w_c, w_op, w_un, w_call, w_callK, w_nil, w_cons, w_tup, w_lst, isB_bl, w_tval, w_tand, w_tor, w_tnot, w_and, w_or, w_not, w_if, s_next, s_seq, s_if, s_ret, s_drop, s_set, s_par, s_put, s_asg, w_var', runS_next, runS_ret, runS_stuck, runS_ite, List.length_cons, List.length_nil, List.length_singleton, List.map_cons, List.map_nil, List.cons_append, List.nil_append, List.replicate_succ, List.replicate_zero, List.getElem?_cons_zero, List.getElem?_cons_succ, List.set_cons_zero, List.set_cons_succ, Nat.reduceAdd, Nat.reduceSub, Nat.reduceEqDiff, ite_true, ite_false, if_true, if_false, reduceIte, Bool.false_eq_true, decide_true, decide_false, String.reduceEq, Int.reduceEq, Nat.reduceLeDiff, true_and, and_true, Bool.not_true, Bool.not_false, decide_eq_true_eq, List.append_nil, bType, bIsi, bLen, bInt, ty_int, ty_bl, ty_str, ty_non, ty_tup, isT, oIs, oIsNot, oSub, oAdd, oIx, run_eqI, run_neI, Bool.or_false, Bool.or_true, Bool.false_or, Bool.true_or, Bool.and_true, Bool.and_false, Bool.true_and, Bool.false_and, reduceCtorEq, decide_not, Bool.not_eq_true', decide_eq_false_iff_not, askInt, askBool, askTuple, askList, askStr, oLe, oLt, oGe, oGt, oInt2, atI0, atI1, atI2]
      rw [e, isB_bl]
      show Run (tVal (dOp oEq (dVar 0) (dVar 1)) _ S) _
      rw [w_tval, w_op, w_var rfl, w_var rfl]
      show Run (oEq (.int i) (toV r) S) _
      rw [run_eq_leaf (by omega), isB_bl]
      cases hs : T.sameL (.leaf i) r with
      | true =>
        rw [if_pos rfl, s_ret, w_var rfl]
        refine ⟨?_, rfl⟩
        unfold T.whole
        rw [hs]; rfl
      | false => exact ⟨⟨rfl, rfl⟩, rfl⟩
  rintro ρ S1 ⟨⟨rfl, rfl⟩, hs⟩
  have ew : T.whole l r = .node (min l.top r.top) (l.lift (-(min l.top r.top))) (r.lift (-(min l.top r.top))) := by
    unfold T.whole
    rw [hs]; rfl
  refine s_step (N' := fun ρ S' => ρ = [some (toV l), some (toV r), some (.int (min l.top r.top))] ∧ S' = S1) ?_ ?_
  · rw [s_set, w_call, w_cons, w_call, w_cons, w_var rfl, w_nil]
    refine Run.mono (l_least l n S1 hl (by omega)) fun x S2 ⟨e, e2⟩ => ?_
    subst e e2
    rw [w_cons, w_call, w_cons, w_var rfl, w_nil]
    refine Run.mono (l_least r n S2 hr (by omega)) fun x S3 ⟨e, e2⟩ => ?_
    subst e e2
    rw [w_nil, min2]
    exact ⟨rfl, rfl⟩
  rintro ρ S2 ⟨rfl, rfl⟩
  rw [s_ret, w_tup, w_cons, w_var rfl, w_cons, w_call, w_cons, w_var rfl, w_cons, w_var rfl, w_nil]
  refine Run.mono (l_lower (by omega)) fun x S3 ⟨e, e2⟩ => ?_
  subst e e2
  rw [w_cons, w_call, w_cons, w_var rfl, w_cons, w_var rfl, w_nil]
  refine Run.mono (l_lower (by omega)) fun x S4 ⟨e, e2⟩ => ?_
  subst e e2
  rw [w_nil, ew]
  exact ⟨Nat.le_of_ble_eq_true rfl, rfl, rfl⟩
theorem l_parts {n : Nat} {t : T} {S : Store} (hn : 1 < n) : Run ((fns n)._law_parts [toV t] S) (fun r S' => r = .tup [toV (t.hf 0), toV (t.hf 1)] ∧ S' = S) := by
  obtain ⟨n, rfl⟩ : ∃ m, n = m + 1 := ⟨n - 1, by omega⟩
  show Run (fnOf 1 1 (b__law_parts (fns n)) [toV t] S) _
  unfold b__law_parts
  cases t with
  | leaf i =>
    simp only [toV, askTuple, run_ok, run_okI, run_okB, run_alloc, run_stuck, run_bind, run_ite, run_noX, run_fnOf, w_c, w_op, w_un, w_call, w_callK, w_nil, w_cons, w_tup, w_lst, isB_bl, w_tval, w_tand, w_tor, w_tnot, w_and, w_or, w_not, w_if, s_next, s_seq, s_if, s_ret, s_drop, s_set, s_par, s_put, s_asg, w_var', runS_next, runS_ret, runS_stuck, runS_ite, List.length_cons, List.length_nil, List.length_singleton, List.map_cons, List.map_nil, List.cons_append, List.nil_append, List.replicate_succ, List.replicate_zero, List.getElem?_cons_zero, List.getElem?_cons_succ, List.set_cons_zero, List.set_cons_succ, Nat.reduceAdd, Nat.reduceSub, Nat.reduceEqDiff, ite_true, ite_false, if_true, if_false, reduceIte, Bool.false_eq_true, decide_true, decide_false, String.reduceEq, Int.reduceEq, Nat.reduceLeDiff, true_and, and_true, Bool.not_true, Bool.not_false, decide_eq_true_eq, List.append_nil, bType, bIsi, bLen, bInt, ty_int, ty_bl, ty_str, ty_non, ty_tup, isT, oIs, oIsNot, oSub, oAdd, oIx, run_eqI, run_neI, Bool.or_false, Bool.or_true, Bool.false_or, Bool.true_or, Bool.and_true, Bool.and_false, Bool.true_and, Bool.false_and, reduceCtorEq, decide_not, Bool.not_eq_true', decide_eq_false_iff_not, askInt, askBool, askTuple, askList, askStr, oLe, oLt, oGe, oGt, oInt2, atI0, atI1, atI2]
    rfl
  | node m l r =>
    simp only [toV, askTuple, w_un, oNeg, run_ok, run_okI, run_okB, run_alloc, run_stuck, run_bind, run_ite, run_noX, run_fnOf, w_c, w_op, w_un, w_call, w_callK, w_nil, w_cons, w_tup, w_lst, isB_bl, w_tval, w_tand, w_tor, w_tnot, w_and, w_or, w_not, w_if, s_next, s_seq, s_if, s_ret, s_drop, s_set, s_par, s_put, s_asg, w_var', runS_next, runS_ret, runS_stuck, runS_ite, List.length_cons, List.length_nil, List.length_singleton, List.map_cons, List.map_nil, List.cons_append, List.nil_append, List.replicate_succ, List.replicate_zero, List.getElem?_cons_zero, List.getElem?_cons_succ, List.set_cons_zero, List.set_cons_succ, Nat.reduceAdd, Nat.reduceSub, Nat.reduceEqDiff, ite_true, ite_false, if_true, if_false, reduceIte, Bool.false_eq_true, decide_true, decide_false, String.reduceEq, Int.reduceEq, Nat.reduceLeDiff, true_and, and_true, Bool.not_true, Bool.not_false, decide_eq_true_eq, List.append_nil, bType, bIsi, bLen, bInt, ty_int, ty_bl, ty_str, ty_non, ty_tup, isT, oIs, oIsNot, oSub, oAdd, oIx, run_eqI, run_neI, Bool.or_false, Bool.or_true, Bool.false_or, Bool.true_or, Bool.and_true, Bool.and_false, Bool.true_and, Bool.false_and, reduceCtorEq, decide_not, Bool.not_eq_true', decide_eq_false_iff_not, askInt, askBool, askTuple, askList, askStr, oLe, oLt, oGe, oGt, oInt2, atI0, atI1, atI2]
    refine Run.mono (l_lower (by omega)) fun x S3 ⟨e, e2⟩ => ?_
    subst e e2
    refine Run.mono (l_lower (by omega)) fun x S4 ⟨e, e2⟩ => ?_
    subst e e2
    rw [Int.neg_neg]
    exact ⟨rfl, rfl⟩
theorem l_join : ∀ (k n : Nat) (a b : T) (S : Store), a.dep ≤ k → b.dep ≤ k → k + 50 < n → k ≤ 20 → Run ((fns n)._law_join [toV a, toV b] S) (fun r S' => r = toV (T.J k a b) ∧ S' = S)
  | k, 0, a, b, S, _, _, h, _ => absurd h (Nat.not_lt_zero _)
  | k, n + 1, a, b, S, ha, hb, h, hk => by
    show Run (fnOf 2 6 (b__law_join (fns n)) [toV a, toV b] S) _
    unfold b__law_join
    refine run_fn (ρ := [some (toV a), some (toV b), none, none, none, none]) rfl rfl ?_
    rw [s_seq, s_if, both_intsL]
    by_cases hl : a.isLeaf = true ∧ b.isLeaf = true
    · obtain ⟨i, rfl⟩ := leafs hl.1
      obtain ⟨j, rfl⟩ := leafs hl.2
      rw [if_pos (show ((T.leaf i).isLeaf && (T.leaf j).isLeaf) = true from rfl), s_ret, w_call, w_cons, w_var rfl, w_cons, w_var rfl, w_nil]
      show Run (bMax2 [.int i, .int j] S) _
      rw [max2, T.J_leaf]
      exact ⟨rfl, rfl⟩
    · have hf : (a.isLeaf && b.isLeaf) = false := by
        rw [Bool.eq_false_iff]; intro q; exact hl (Bool.and_eq_true _ _ |>.mp q)
      obtain ⟨k, rfl⟩ := room ha hb hl
      have da0 := T.dep_hf (t := a) (h := 0)
      have da1 := T.dep_hf (t := a) (h := 1)
      have db0 := T.dep_hf (t := b) (h := 0)
      have db1 := T.dep_hf (t := b) (h := 1)
      rw [hf, if_neg (by decide), s_next]
      refine s_step (N' := fun ρ S' => ρ = JE (toV a) (toV b) (toV (a.hf 0)) (toV (a.hf 1)) (toV (b.hf 0)) (toV (b.hf 1)) ∧ S' = S) ?_ ?_
      · rw [s_asg, w_tup, w_cons, w_call, w_cons, w_var rfl, w_nil]
        refine Run.mono (l_parts (by omega)) fun r S1 ⟨e, e2⟩ => ?_
        subst e e2
        rw [w_cons, w_call, w_cons, w_var rfl, w_nil]
        refine Run.mono (l_parts (by omega)) fun r S1 ⟨e, e2⟩ => ?_
        subst e e2
        rw [w_nil]
        exact ⟨Nat.le_of_ble_eq_true rfl, rfl, rfl⟩
      rintro ρ S2 ⟨rfl, rfl⟩
      rw [s_ret, w_call, w_cons, w_call, w_cons, w_var rfl, w_cons, w_var rfl, w_nil]
      refine Run.mono (l_join k n _ _ S2 (by omega) (by omega) (by omega) (by omega)) fun r S3 ⟨e, e2⟩ => ?_
      subst e e2
      rw [w_cons, w_call, w_cons, w_var rfl, w_cons, w_var rfl, w_nil]
      refine Run.mono (l_join k n _ _ S3 (by omega) (by omega) (by omega) (by omega)) fun r S4 ⟨e, e2⟩ => ?_
      subst e e2
      rw [w_nil]
      have h0 := T.dep_J k (a.hf 0) (b.hf 0)
      have h1 := T.dep_J k (a.hf 1) (b.hf 1)
      exact l_put (T.co_J k _ _) (T.co_J k _ _) ⟨by omega, by omega⟩ (by omega)
/-- the law's least and greatest worth at a path -/
def wtV (t : T) : Val := .tup [.int t.top, .int t.mx]
theorem path_nil {p : List Int} {S : Store} {Q : Val → Store → Prop} : Run (oNe (pathV p) (.tup []) S) Q = Q (.bl (!decide (p = []))) S := by
  rw [pathV_nil, run_ne (d := 1) (e := 1) path_da path_da (by omega) (by omega), path_dat, path_dat, eqv_ints]
theorem l_worth : ∀ (t : T) (n : Nat) (p : List Int) (S : Store), t.co = true → t.nn = true → (∀ i ∈ p, i = 0 ∨ i = 1) → p.length ≤ 1000 → t.dep < n → Run ((fns n)._law_worth [toV t, pathV p] S) (fun r S' => r = wtV (T.at' p t) ∧ S' = S)
  | t, 0, p, S, _, _, _, _, h => absurd h (Nat.not_lt_zero _)
  | .leaf i, n + 1, p, S, _, _, _, _, h => by
    have e : ∀ p : List Int, T.at' p (.leaf i) = .leaf i := fun p => by
      induction p with
      | nil => rfl
      | cons h p ih => exact ih
    show Run (fnOf 2 5 (b__law_worth (fns n)) [toV (.leaf i), pathV p] S) _
    unfold b__law_worth
    simp only [toV, askTuple, run_ok, run_okI, run_okB, run_alloc, run_stuck, run_bind, run_ite, run_noX, run_fnOf, w_c, w_op, w_un, w_call, w_callK, w_nil, w_cons, w_tup, w_lst, isB_bl, w_tval, w_tand, w_tor, w_tnot, w_and, w_or, w_not, w_if, s_next, s_seq, s_if, s_ret, s_drop, s_set, s_par, s_put, s_asg, w_var', runS_next, runS_ret, runS_stuck, runS_ite, List.length_cons, List.length_nil, List.length_singleton, List.map_cons, List.map_nil, List.cons_append, List.nil_append, List.replicate_succ, List.replicate_zero, List.getElem?_cons_zero, List.getElem?_cons_succ, List.set_cons_zero, List.set_cons_succ, Nat.reduceAdd, Nat.reduceSub, Nat.reduceEqDiff, ite_true, ite_false, if_true, if_false, reduceIte, Bool.false_eq_true, decide_true, decide_false, String.reduceEq, Int.reduceEq, Nat.reduceLeDiff, true_and, and_true, Bool.not_true, Bool.not_false, decide_eq_true_eq, List.append_nil, bType, bIsi, bLen, bInt, ty_int, ty_bl, ty_str, ty_non, ty_tup, isT, oIs, oIsNot, oSub, oAdd, oIx, run_eqI, run_neI, Bool.or_false, Bool.or_true, Bool.false_or, Bool.true_or, Bool.and_true, Bool.and_false, Bool.true_and, Bool.false_and, reduceCtorEq, decide_not, Bool.not_eq_true', decide_eq_false_iff_not, askInt, askBool, askTuple, askList, askStr, oLe, oLt, oGe, oGt, oInt2, atI0, atI1, atI2]
    rw [e]
    exact rfl
  | .node m l r, n + 1, p, S, hc, hnn, hp, hpl, h => by
    have hd : (T.node m l r).dep = 1 + max l.dep r.dep := rfl
    obtain ⟨c1, c2, _, t1, t2, t3⟩ := T.co_node.mp hc
    obtain ⟨n0, n1, n2⟩ := T.nn_node.mp hnn
    show Run (fnOf 2 5 (b__law_worth (fns n)) [toV (.node m l r), pathV p] S) _
    unfold b__law_worth
    refine run_fn (ρ := [some (toV (.node m l r)), some (pathV p), none, none, none]) rfl rfl ?_
    refine s_step (N' := fun ρ S' => ρ = [some (toV (.node m l r)), some (pathV p), none, none, none] ∧ S' = S) ?_ ?_
    · simp only [toV, askTuple, run_ok, run_okI, run_okB, run_alloc, run_stuck, run_bind, run_ite, run_noX, run_fnOf, w_c, w_op, w_un, w_call, w_callK, w_nil, w_cons, w_tup, w_lst, isB_bl, w_tval, w_tand, w_tor, w_tnot, w_and, w_or, w_not, w_if, s_next, s_seq, s_if, s_ret, s_drop, s_set, s_par, s_put, s_asg, w_var', runS_next, runS_ret, runS_stuck, runS_ite, List.length_cons, List.length_nil, List.length_singleton, List.map_cons, List.map_nil, List.cons_append, List.nil_append, List.replicate_succ, List.replicate_zero, List.getElem?_cons_zero, List.getElem?_cons_succ, List.set_cons_zero, List.set_cons_succ, Nat.reduceAdd, Nat.reduceSub, Nat.reduceEqDiff, ite_true, ite_false, if_true, if_false, reduceIte, Bool.false_eq_true, decide_true, decide_false, String.reduceEq, Int.reduceEq, Nat.reduceLeDiff, true_and, and_true, Bool.not_true, Bool.not_false, decide_eq_true_eq, List.append_nil, bType, bIsi, bLen, bInt, ty_int, ty_bl, ty_str, ty_non, ty_tup, isT, oIs, oIsNot, oSub, oAdd, oIx, run_eqI, run_neI, Bool.or_false, Bool.or_true, Bool.false_or, Bool.true_or, Bool.and_true, Bool.and_false, Bool.true_and, Bool.false_and, reduceCtorEq, decide_not, Bool.not_eq_true', decide_eq_false_iff_not, askInt, askBool, askTuple, askList, askStr, oLe, oLt, oGe, oGt, oInt2, atI0, atI1, atI2]
    rintro ρ S1 ⟨rfl, rfl⟩
    refine s_step (N' := fun ρ S' => (ρ = [some (toV (.node m l r)), some (pathV p), none, none, none] ∧ S' = S1) ∧ p = []) ?_ ?_
    · rw [s_if, w_tval, w_op, w_var rfl, w_tup, w_nil]
      refine ⟨Nat.zero_le _, ?_⟩
      rw [path_nil, isB_bl]
      cases p with
      | nil => exact ⟨⟨rfl, rfl⟩, rfl⟩
      | cons b p =>
        have hb := hp b List.mem_cons_self
        have hp' : ∀ i ∈ p, i = 0 ∨ i = 1 := fun i hi => hp i (List.mem_cons_of_mem _ hi)
        rw [show (!decide (b :: p = [])) = true from rfl, if_pos rfl]
        have main : ∀ u : T, u.co = true → u.nn = true → u.dep < n → Run (oIx (.tup [.int m, toV l, toV r]) (.int (1 + b)) S1) (fun r S' => r = toV u ∧ S' = S1) → (u.lift m) = (T.node m l r).hf b → RunS (sSeq (sAsg (gT [gN 2, gN 3]) (dCall (fns n)._law_worth (aCons (dOp oIx (dVar 0) (dOp oAdd (dC (.int 1)) (dOp oIx (dVar 1) (dC (.int 0))))) (aCons (dSl (dVar 1) (oSome (dC (.int 1))) oNone) aNil)))) (sRet (dTup (aCons (dOp oAdd (dOp oIx (dVar 0) (dC (.int 0))) (dVar 2)) (aCons (dOp oAdd (dOp oIx (dVar 0) (dC (.int 0))) (dVar 3)) aNil)))) [some (toV (.node m l r)), some (pathV (b :: p)), none, none, none] S1)
            (fun ρ S' => (ρ = [some (toV (.node m l r)), some (pathV (b :: p)), none, none, none] ∧ S' = S1) ∧ b :: p = []) (fun r_1 S' => r_1 = wtV (T.at' (b :: p) (.node m l r)) ∧ S' = S1) := fun u u1 u2 u3 hix hu => by
          refine s_step (N' := fun ρ S' => ρ = [some (toV (.node m l r)), some (pathV (b :: p)), some (.int (T.at' p u).top), some (.int (T.at' p u).mx), none] ∧ S' = S1) ?_ ?_
          · rw [s_asg, w_call, w_cons, w_op, w_var rfl, w_op, w_c, w_op, w_var rfl, w_c]
            show Run (oIx (.tup (.int b :: p.map Val.int)) (.int 0) S1) _
            rw [ix0, run_addI]
            show Run (oIx (.tup [.int m, toV l, toV r]) (.int (1 + b)) S1) _
            refine Run.mono hix fun x S2 ⟨e, e2⟩ => ?_
            subst e e2
            rw [w_cons, w_sl, w_var rfl, w_oSome, w_c]
            show Run (oNone _ S2) _
            rw [w_oNone]
            show Run (vSl (.tup (.int b :: p.map Val.int)) (some 1) none S2) _
            have hcut : cutL (Val.int b :: p.map Val.int) (some 1) none = p.map Val.int := by
              have h1 : HT.sIx (Val.int b :: p.map Val.int).length 0 (some 1) = 1 := by
                unfold HT.sIx
                simp
              unfold cutL
              rw [h1]
              show ((p.map Val.int)).take ((Val.int b :: p.map Val.int).length - 1) = _
              rw [List.length_cons, Nat.add_sub_cancel]
              exact List.take_length
            rw [run_slT, hcut, w_nil]
            refine Run.mono (l_worth u n p S2 u1 u2 hp' (by rw [List.length_cons] at hpl; omega) u3) fun x S3 ⟨e, e2⟩ => ?_
            subst e e2
            exact ⟨rfl, rfl⟩
          rintro ρ S2 ⟨rfl, rfl⟩
          rw [s_ret, w_tup, w_cons, w_op, w_op, w_var rfl, w_c]
          show Run (oIx (.tup [.int m, toV l, toV r]) (.int 0) S2) _
          rw [ix0, w_var rfl, run_addI, w_cons, w_op, w_op, w_var rfl, w_c]
          show Run (oIx (.tup [.int m, toV l, toV r]) (.int 0) S2) _
          rw [ix0, w_var rfl, run_addI, w_nil]
          refine ⟨Nat.le_of_ble_eq_true rfl, ?_, rfl⟩
          show Val.tup [.int (m + (T.at' p u).top), .int (m + (T.at' p u).mx)] = wtV (T.at' p ((T.node m l r).hf b))
          rw [← hu, T.at_lift]
          unfold wtV
          rw [T.top_lift, T.mx_lift, Int.add_comm m, Int.add_comm m]
        rcases hb with rfl | rfl
        · exact main l c1 n1 (by omega) (by rw [show (1 : Int) + 0 = 1 from rfl, ix1]; exact ⟨rfl, rfl⟩) rfl
        · exact main r c2 n2 (by omega) (by rw [show (1 : Int) + 1 = 2 from rfl, ix2]; exact ⟨rfl, rfl⟩) rfl
    rintro ρ S2 ⟨⟨rfl, rfl⟩, rfl⟩
    refine s_step (N' := fun ρ S' => ρ = [some (toV (.node m l r)), some (pathV []), none, none, some (.tup [.int l.top, .int l.mx, .int r.top, .int r.mx])] ∧ S' = S2) ?_ ?_
    · rw [s_set, w_op, w_call, w_cons, w_op, w_var rfl, w_c]
      show Run (oIx (.tup [.int m, toV l, toV r]) (.int 1) S2) _
      rw [ix1, w_cons, w_tup, w_nil]
      refine ⟨Nat.zero_le _, ?_⟩
      rw [w_nil]
      refine Run.mono (l_worth l n [] S2 c1 n1 (fun _ h => nomatch h) (Nat.zero_le _) (by omega)) fun x S3 ⟨e, e2⟩ => ?_
      subst e e2
      rw [w_call, w_cons, w_op, w_var rfl, w_c]
      show Run (oIx (.tup [.int m, toV l, toV r]) (.int 2) S3) _
      rw [ix2, w_cons, w_tup, w_nil]
      refine ⟨Nat.zero_le _, ?_⟩
      rw [w_nil]
      refine Run.mono (l_worth r n [] S3 c2 n2 (fun _ h => nomatch h) (Nat.zero_le _) (by omega)) fun x S4 ⟨e, e2⟩ => ?_
      subst e e2
      show Run (oAdd (.tup [.int l.top, .int l.mx]) (.tup [.int r.top, .int r.mx]) S4) _
      rw [run_addT (Nat.le_of_ble_eq_true rfl)]
      exact ⟨rfl, rfl⟩
    rintro ρ S3 ⟨rfl, rfl⟩
    have hl := T.top_mx n1
    have hr := T.top_mx n2
    have emin : ∀ Q : Val → Store → Prop, Run (bMinT [.tup [.int l.top, .int l.mx, .int r.top, .int r.mx]] S3) Q = Q (.int (min l.top r.top)) S3 := fun Q => by
      show Q (.int (min l.top (min l.mx (min r.top r.mx)))) S3 = _
      congr 2; omega
    have emax : ∀ Q : Val → Store → Prop, Run (bMaxT [.tup [.int l.top, .int l.mx, .int r.top, .int r.mx]] S3) Q = Q (.int (max l.mx r.mx)) S3 := fun Q => by
      show Q (.int (max l.top (max l.mx (max r.top r.mx)))) S3 = _
      congr 2; omega
    rw [s_ret, w_tup, w_cons, w_op, w_op, w_var rfl, w_c]
    show Run (oIx (.tup [.int m, toV l, toV r]) (.int 0) S3) _
    rw [ix0, w_call, w_cons, w_var rfl, w_nil, emin, run_addI, w_cons, w_op, w_op, w_var rfl, w_c]
    show Run (oIx (.tup [.int m, toV l, toV r]) (.int 0) S3) _
    rw [ix0, w_call, w_cons, w_var rfl, w_nil, emax, run_addI, w_nil]
    refine ⟨Nat.le_of_ble_eq_true rfl, ?_, rfl⟩
    show Val.tup [.int (m + min l.top r.top), .int (m + max l.mx r.mx)] = Val.tup [.int m, .int (m + max l.mx r.mx)]
    rw [show m + min l.top r.top = m by omega]
end PD.K05

/-! ## K05M4 -/
set_option Elab.async false
set_option linter.all false
set_option maxRecDepth 100000
set_option maxHeartbeats 1000000
namespace PD.K05
open PySem PySem.Spec L2 PD LT
/-! ### paths -/
def halfV : Val → Bool
  | .int i => decide (i = 0) || decide (i = 1)
  | _ => false
def isPa : Val → Bool
  | .tup xs => decide (xs.length ≤ 12) && xs.all halfV
  | _ => false
theorem p_is_path {e n : Nat} {v : Val} {S : Store} (hv : Da S e v) (hn : 0 < n) : Run ((fns n).is_path [v] S) (PureK S (.bl (isPa v))) := by
  obtain ⟨n, rfl⟩ : ∃ m, n = m + 1 := ⟨n - 1, by omega⟩
  show Run (fnOf 1 2 (b_is_path (fns n)) [v] S) _
  unfold b_is_path
  cases hv with
  | int => simp only [isPa, run_ok, run_okI, run_okB, run_alloc, run_stuck, run_bind, run_ite, run_noX, run_fnOf, w_c, w_op, w_un, w_call, w_callK, w_nil, w_cons, w_tup, w_lst, isB_bl, w_tval, w_tand, w_tor, w_tnot, w_and, w_or, w_not, w_if, s_next, s_seq, s_if, s_ret, s_drop, s_set, s_par, s_put, s_asg, w_var', runS_next, runS_ret, runS_stuck, runS_ite, List.length_cons, List.length_nil, List.length_singleton, List.map_cons, List.map_nil, List.cons_append, List.nil_append, List.replicate_succ, List.replicate_zero, List.getElem?_cons_zero, List.getElem?_cons_succ, List.set_cons_zero, List.set_cons_succ, Nat.reduceAdd, Nat.reduceSub, Nat.reduceEqDiff, ite_true, ite_false, if_true, if_false, reduceIte, Bool.false_eq_true, decide_true, decide_false, String.reduceEq, Int.reduceEq, Nat.reduceLeDiff, true_and, and_true, Bool.not_true, Bool.not_false, decide_eq_true_eq, List.append_nil, bType, bIsi, bLen, bInt, ty_int, ty_bl, ty_str, ty_non, ty_tup, isT, oIs, oIsNot, oSub, oAdd, oIx, run_eqI, run_neI, Bool.or_false, Bool.or_true, Bool.false_or, Bool.true_or, Bool.and_true, Bool.and_false, Bool.true_and, Bool.false_and, reduceCtorEq, decide_not, Bool.not_eq_true', decide_eq_false_iff_not, askInt, askBool, askTuple, askList, askStr, oLe, oLt, oGe, oGt, oInt2, atI0, atI1, atI2]; exact ⟨rfl, .refl _⟩
  | non => simp only [isPa, run_ok, run_okI, run_okB, run_alloc, run_stuck, run_bind, run_ite, run_noX, run_fnOf, w_c, w_op, w_un, w_call, w_callK, w_nil, w_cons, w_tup, w_lst, isB_bl, w_tval, w_tand, w_tor, w_tnot, w_and, w_or, w_not, w_if, s_next, s_seq, s_if, s_ret, s_drop, s_set, s_par, s_put, s_asg, w_var', runS_next, runS_ret, runS_stuck, runS_ite, List.length_cons, List.length_nil, List.length_singleton, List.map_cons, List.map_nil, List.cons_append, List.nil_append, List.replicate_succ, List.replicate_zero, List.getElem?_cons_zero, List.getElem?_cons_succ, List.set_cons_zero, List.set_cons_succ, Nat.reduceAdd, Nat.reduceSub, Nat.reduceEqDiff, ite_true, ite_false, if_true, if_false, reduceIte, Bool.false_eq_true, decide_true, decide_false, String.reduceEq, Int.reduceEq, Nat.reduceLeDiff, true_and, and_true, Bool.not_true, Bool.not_false, decide_eq_true_eq, List.append_nil, bType, bIsi, bLen, bInt, ty_int, ty_bl, ty_str, ty_non, ty_tup, isT, oIs, oIsNot, oSub, oAdd, oIx, run_eqI, run_neI, Bool.or_false, Bool.or_true, Bool.false_or, Bool.true_or, Bool.and_true, Bool.and_false, Bool.true_and, Bool.false_and, reduceCtorEq, decide_not, Bool.not_eq_true', decide_eq_false_iff_not, askInt, askBool, askTuple, askList, askStr, oLe, oLt, oGe, oGt, oInt2, atI0, atI1, atI2]; exact ⟨rfl, .refl _⟩
  | bl => simp only [isPa, run_ok, run_okI, run_okB, run_alloc, run_stuck, run_bind, run_ite, run_noX, run_fnOf, w_c, w_op, w_un, w_call, w_callK, w_nil, w_cons, w_tup, w_lst, isB_bl, w_tval, w_tand, w_tor, w_tnot, w_and, w_or, w_not, w_if, s_next, s_seq, s_if, s_ret, s_drop, s_set, s_par, s_put, s_asg, w_var', runS_next, runS_ret, runS_stuck, runS_ite, List.length_cons, List.length_nil, List.length_singleton, List.map_cons, List.map_nil, List.cons_append, List.nil_append, List.replicate_succ, List.replicate_zero, List.getElem?_cons_zero, List.getElem?_cons_succ, List.set_cons_zero, List.set_cons_succ, Nat.reduceAdd, Nat.reduceSub, Nat.reduceEqDiff, ite_true, ite_false, if_true, if_false, reduceIte, Bool.false_eq_true, decide_true, decide_false, String.reduceEq, Int.reduceEq, Nat.reduceLeDiff, true_and, and_true, Bool.not_true, Bool.not_false, decide_eq_true_eq, List.append_nil, bType, bIsi, bLen, bInt, ty_int, ty_bl, ty_str, ty_non, ty_tup, isT, oIs, oIsNot, oSub, oAdd, oIx, run_eqI, run_neI, Bool.or_false, Bool.or_true, Bool.false_or, Bool.true_or, Bool.and_true, Bool.and_false, Bool.true_and, Bool.false_and, reduceCtorEq, decide_not, Bool.not_eq_true', decide_eq_false_iff_not, askInt, askBool, askTuple, askList, askStr, oLe, oLt, oGe, oGt, oInt2, atI0, atI1, atI2]; exact ⟨rfl, .refl _⟩
  | str => simp only [isPa, run_ok, run_okI, run_okB, run_alloc, run_stuck, run_bind, run_ite, run_noX, run_fnOf, w_c, w_op, w_un, w_call, w_callK, w_nil, w_cons, w_tup, w_lst, isB_bl, w_tval, w_tand, w_tor, w_tnot, w_and, w_or, w_not, w_if, s_next, s_seq, s_if, s_ret, s_drop, s_set, s_par, s_put, s_asg, w_var', runS_next, runS_ret, runS_stuck, runS_ite, List.length_cons, List.length_nil, List.length_singleton, List.map_cons, List.map_nil, List.cons_append, List.nil_append, List.replicate_succ, List.replicate_zero, List.getElem?_cons_zero, List.getElem?_cons_succ, List.set_cons_zero, List.set_cons_succ, Nat.reduceAdd, Nat.reduceSub, Nat.reduceEqDiff, ite_true, ite_false, if_true, if_false, reduceIte, Bool.false_eq_true, decide_true, decide_false, String.reduceEq, Int.reduceEq, Nat.reduceLeDiff, true_and, and_true, Bool.not_true, Bool.not_false, decide_eq_true_eq, List.append_nil, bType, bIsi, bLen, bInt, ty_int, ty_bl, ty_str, ty_non, ty_tup, isT, oIs, oIsNot, oSub, oAdd, oIx, run_eqI, run_neI, Bool.or_false, Bool.or_true, Bool.false_or, Bool.true_or, Bool.and_true, Bool.and_false, Bool.true_and, Bool.false_and, reduceCtorEq, decide_not, Bool.not_eq_true', decide_eq_false_iff_not, askInt, askBool, askTuple, askList, askStr, oLe, oLt, oGe, oGt, oInt2, atI0, atI1, atI2]; exact ⟨rfl, .refl _⟩
  | @ref _ m ys hn _ => simp only [ty_ref hn, isPa, run_ok, run_okI, run_okB, run_alloc, run_stuck, run_bind, run_ite, run_noX, run_fnOf, w_c, w_op, w_un, w_call, w_callK, w_nil, w_cons, w_tup, w_lst, isB_bl, w_tval, w_tand, w_tor, w_tnot, w_and, w_or, w_not, w_if, s_next, s_seq, s_if, s_ret, s_drop, s_set, s_par, s_put, s_asg, w_var', runS_next, runS_ret, runS_stuck, runS_ite, List.length_cons, List.length_nil, List.length_singleton, List.map_cons, List.map_nil, List.cons_append, List.nil_append, List.replicate_succ, List.replicate_zero, List.getElem?_cons_zero, List.getElem?_cons_succ, List.set_cons_zero, List.set_cons_succ, Nat.reduceAdd, Nat.reduceSub, Nat.reduceEqDiff, ite_true, ite_false, if_true, if_false, reduceIte, Bool.false_eq_true, decide_true, decide_false, String.reduceEq, Int.reduceEq, Nat.reduceLeDiff, true_and, and_true, Bool.not_true, Bool.not_false, decide_eq_true_eq, List.append_nil, bType, bIsi, bLen, bInt, ty_int, ty_bl, ty_str, ty_non, ty_tup, isT, oIs, oIsNot, oSub, oAdd, oIx, run_eqI, run_neI, Bool.or_false, Bool.or_true, Bool.false_or, Bool.true_or, Bool.and_true, Bool.and_false, Bool.true_and, Bool.false_and, reduceCtorEq, decide_not, Bool.not_eq_true', decide_eq_false_iff_not, askInt, askBool, askTuple, askList, askStr, oLe, oLt, oGe, oGt, oInt2, atI0, atI1, atI2]; exact ⟨rfl, .refl _⟩
  | @tup e' xs hx =>
    refine run_fn (ρ := [some (.tup xs), none]) rfl rfl ?_
    refine s_step (N' := fun ρ S' => (ρ = [some (.tup xs), none] ∧ S' = S) ∧ xs.length ≤ 12) ?_ ?_
    · by_cases h : xs.length ≤ 12
      · have h' : ¬ ((12 : Int) < (xs.length : Int)) := by omega
        simp only [h', run_ok, run_okI, run_okB, run_alloc, run_stuck, run_bind, run_ite, run_noX, run_fnOf, w_c, w_op, w_un, w_call, w_callK, w_nil, w_cons, w_tup, w_lst, isB_bl, w_tval, w_tand, w_tor, w_tnot, w_and, w_or, w_not, w_if, s_next, s_seq, s_if, s_ret, s_drop, s_set, s_par, s_put, s_asg, w_var', runS_next, runS_ret, runS_stuck, runS_ite, List.length_cons, List.length_nil, List.length_singleton, List.map_cons, List.map_nil, List.cons_append, List.nil_append, List.replicate_succ, List.replicate_zero, List.getElem?_cons_zero, List.getElem?_cons_succ, List.set_cons_zero, List.set_cons_succ, Nat.reduceAdd, Nat.reduceSub, Nat.reduceEqDiff, ite_true, ite_false, if_true, if_false, reduceIte, Bool.false_eq_true, decide_true, decide_false, String.reduceEq, Int.reduceEq, Nat.reduceLeDiff, true_and, and_true, Bool.not_true, Bool.not_false, decide_eq_true_eq, List.append_nil, bType, bIsi, bLen, bInt, ty_int, ty_bl, ty_str, ty_non, ty_tup, isT, oIs, oIsNot, oSub, oAdd, oIx, run_eqI, run_neI, Bool.or_false, Bool.or_true, Bool.false_or, Bool.true_or, Bool.and_true, Bool.and_false, Bool.true_and, Bool.false_and, reduceCtorEq, decide_not, Bool.not_eq_true', decide_eq_false_iff_not, askInt, askBool, askTuple, askList, askStr, oLe, oLt, oGe, oGt, oInt2, atI0, atI1, atI2]
        exact h
      · have h' : (12 : Int) < (xs.length : Int) := by omega
        simp only [h', run_ok, run_okI, run_okB, run_alloc, run_stuck, run_bind, run_ite, run_noX, run_fnOf, w_c, w_op, w_un, w_call, w_callK, w_nil, w_cons, w_tup, w_lst, isB_bl, w_tval, w_tand, w_tor, w_tnot, w_and, w_or, w_not, w_if, s_next, s_seq, s_if, s_ret, s_drop, s_set, s_par, s_put, s_asg, w_var', runS_next, runS_ret, runS_stuck, runS_ite, List.length_cons, List.length_nil, List.length_singleton, List.map_cons, List.map_nil, List.cons_append, List.nil_append, List.replicate_succ, List.replicate_zero, List.getElem?_cons_zero, List.getElem?_cons_succ, List.set_cons_zero, List.set_cons_succ, Nat.reduceAdd, Nat.reduceSub, Nat.reduceEqDiff, ite_true, ite_false, if_true, if_false, reduceIte, Bool.false_eq_true, decide_true, decide_false, String.reduceEq, Int.reduceEq, Nat.reduceLeDiff, true_and, and_true, Bool.not_true, Bool.not_false, decide_eq_true_eq, List.append_nil, bType, bIsi, bLen, bInt, ty_int, ty_bl, ty_str, ty_non, ty_tup, isT, oIs, oIsNot, oSub, oAdd, oIx, run_eqI, run_neI, Bool.or_false, Bool.or_true, Bool.false_or, Bool.true_or, Bool.and_true, Bool.and_false, Bool.true_and, Bool.false_and, reduceCtorEq, decide_not, Bool.not_eq_true', decide_eq_false_iff_not, askInt, askBool, askTuple, askList, askStr, oLe, oLt, oGe, oGt, oInt2, atI0, atI1, atI2]
        refine ⟨?_, .refl _⟩
        show Val.bl false = Val.bl (decide (xs.length ≤ 12) && xs.all halfV)
        rw [decide_eq_false h, Bool.false_and]
    rintro ρ S1 ⟨⟨rfl, rfl⟩, hlen⟩
    rw [s_ret, w_call, w_cons]
    refine Run.mono (run_lctf (xs := xs) (P := fun _ => true) (g := fun x => .bl (halfV x)) (by omega) (by rw [w_var rfl]; exact ⟨rfl, rfl⟩) fun x hxx S' k' => ?_) fun r S2 ⟨S3, e1, e2, k2⟩ => ?_
    · have h4 : ((wipeE [some (.tup xs), none] [1]).set 1 (some x))[1]? = some (some x) := rfl
      refine ⟨_, rfl, ⟨rfl, .refl _⟩, fun _ S2 k2 => ?_⟩
      have hd := (hx x hxx).kp k2
      rw [w_and, w_op, w_call, w_cons, w_var h4, w_nil]
      cases hd with
      | int _ i =>
        simp only [halfV, run_ok, run_okI, run_okB, run_alloc, run_stuck, run_bind, run_ite, run_noX, run_fnOf, w_c, w_op, w_un, w_call, w_callK, w_nil, w_cons, w_tup, w_lst, isB_bl, w_tval, w_tand, w_tor, w_tnot, w_and, w_or, w_not, w_if, s_next, s_seq, s_if, s_ret, s_drop, s_set, s_par, s_put, s_asg, w_var', runS_next, runS_ret, runS_stuck, runS_ite, List.length_cons, List.length_nil, List.length_singleton, List.map_cons, List.map_nil, List.cons_append, List.nil_append, List.replicate_succ, List.replicate_zero, List.getElem?_cons_zero, List.getElem?_cons_succ, List.set_cons_zero, List.set_cons_succ, Nat.reduceAdd, Nat.reduceSub, Nat.reduceEqDiff, ite_true, ite_false, if_true, if_false, reduceIte, Bool.false_eq_true, decide_true, decide_false, String.reduceEq, Int.reduceEq, Nat.reduceLeDiff, true_and, and_true, Bool.not_true, Bool.not_false, decide_eq_true_eq, List.append_nil, bType, bIsi, bLen, bInt, ty_int, ty_bl, ty_str, ty_non, ty_tup, isT, oIs, oIsNot, oSub, oAdd, oIx, run_eqI, run_neI, Bool.or_false, Bool.or_true, Bool.false_or, Bool.true_or, Bool.and_true, Bool.and_false, Bool.true_and, Bool.false_and, reduceCtorEq, decide_not, Bool.not_eq_true', decide_eq_false_iff_not, askInt, askBool, askTuple, askList, askStr, oLe, oLt, oGe, oGt, oInt2, atI0, atI1, atI2]
        simp only [h4, run_eqI, isB_bl]
        by_cases h0 : i = 0
        · rw [decide_eq_true h0, if_pos rfl, Bool.true_or]
          exact ⟨rfl, .refl _⟩
        · rw [decide_eq_false h0, if_neg (by decide), Bool.false_or]
          exact ⟨rfl, .refl _⟩
      | non => simp only [halfV, run_ok, run_okI, run_okB, run_alloc, run_stuck, run_bind, run_ite, run_noX, run_fnOf, w_c, w_op, w_un, w_call, w_callK, w_nil, w_cons, w_tup, w_lst, isB_bl, w_tval, w_tand, w_tor, w_tnot, w_and, w_or, w_not, w_if, s_next, s_seq, s_if, s_ret, s_drop, s_set, s_par, s_put, s_asg, w_var', runS_next, runS_ret, runS_stuck, runS_ite, List.length_cons, List.length_nil, List.length_singleton, List.map_cons, List.map_nil, List.cons_append, List.nil_append, List.replicate_succ, List.replicate_zero, List.getElem?_cons_zero, List.getElem?_cons_succ, List.set_cons_zero, List.set_cons_succ, Nat.reduceAdd, Nat.reduceSub, Nat.reduceEqDiff, ite_true, ite_false, if_true, if_false, reduceIte, Bool.false_eq_true, decide_true, decide_false, String.reduceEq, Int.reduceEq, Nat.reduceLeDiff, true_and, and_true, Bool.not_true, Bool.not_false, decide_eq_true_eq, List.append_nil, bType, bIsi, bLen, bInt, ty_int, ty_bl, ty_str, ty_non, ty_tup, isT, oIs, oIsNot, oSub, oAdd, oIx, run_eqI, run_neI, Bool.or_false, Bool.or_true, Bool.false_or, Bool.true_or, Bool.and_true, Bool.and_false, Bool.true_and, Bool.false_and, reduceCtorEq, decide_not, Bool.not_eq_true', decide_eq_false_iff_not, askInt, askBool, askTuple, askList, askStr, oLe, oLt, oGe, oGt, oInt2, atI0, atI1, atI2]; exact ⟨rfl, .refl _⟩
      | bl => simp only [halfV, run_ok, run_okI, run_okB, run_alloc, run_stuck, run_bind, run_ite, run_noX, run_fnOf, w_c, w_op, w_un, w_call, w_callK, w_nil, w_cons, w_tup, w_lst, isB_bl, w_tval, w_tand, w_tor, w_tnot, w_and, w_or, w_not, w_if, s_next, s_seq, s_if, s_ret, s_drop, s_set, s_par, s_put, s_asg, w_var', runS_next, runS_ret, runS_stuck, runS_ite, List.length_cons, List.length_nil, List.length_singleton, List.map_cons, List.map_nil, List.cons_append, List.nil_append, List.replicate_succ, List.replicate_zero, List.getElem?_cons_zero, List.getElem?_cons_succ, List.set_cons_zero, List.set_cons_succ, Nat.reduceAdd, Nat.reduceSub, Nat.reduceEqDiff, ite_true, ite_false, if_true, if_false, reduceIte, Bool.false_eq_true, decide_true, decide_false, String.reduceEq, Int.reduceEq, Nat.reduceLeDiff, true_and, and_true, Bool.not_true, Bool.not_false, decide_eq_true_eq, List.append_nil, bType, bIsi, bLen, bInt, ty_int, ty_bl, ty_str, ty_non, ty_tup, isT, oIs, oIsNot, oSub, oAdd, oIx, run_eqI, run_neI, Bool.or_false, Bool.or_true, Bool.false_or, Bool.true_or, Bool.and_true, Bool.and_false, Bool.true_and, Bool.false_and, reduceCtorEq, decide_not, Bool.not_eq_true', decide_eq_false_iff_not, askInt, askBool, askTuple, askList, askStr, oLe, oLt, oGe, oGt, oInt2, atI0, atI1, atI2]; exact ⟨rfl, .refl _⟩
      | str => simp only [halfV, run_ok, run_okI, run_okB, run_alloc, run_stuck, run_bind, run_ite, run_noX, run_fnOf, w_c, w_op, w_un, w_call, w_callK, w_nil, w_cons, w_tup, w_lst, isB_bl, w_tval, w_tand, w_tor, w_tnot, w_and, w_or, w_not, w_if, s_next, s_seq, s_if, s_ret, s_drop, s_set, s_par, s_put, s_asg, w_var', runS_next, runS_ret, runS_stuck, runS_ite, List.length_cons, List.length_nil, List.length_singleton, List.map_cons, List.map_nil, List.cons_append, List.nil_append, List.replicate_succ, List.replicate_zero, List.getElem?_cons_zero, List.getElem?_cons_succ, List.set_cons_zero, List.set_cons_succ, Nat.reduceAdd, Nat.reduceSub, Nat.reduceEqDiff, ite_true, ite_false, if_true, if_false, reduceIte, Bool.false_eq_true, decide_true, decide_false, String.reduceEq, Int.reduceEq, Nat.reduceLeDiff, true_and, and_true, Bool.not_true, Bool.not_false, decide_eq_true_eq, List.append_nil, bType, bIsi, bLen, bInt, ty_int, ty_bl, ty_str, ty_non, ty_tup, isT, oIs, oIsNot, oSub, oAdd, oIx, run_eqI, run_neI, Bool.or_false, Bool.or_true, Bool.false_or, Bool.true_or, Bool.and_true, Bool.and_false, Bool.true_and, Bool.false_and, reduceCtorEq, decide_not, Bool.not_eq_true', decide_eq_false_iff_not, askInt, askBool, askTuple, askList, askStr, oLe, oLt, oGe, oGt, oInt2, atI0, atI1, atI2]; exact ⟨rfl, .refl _⟩
      | ref hn _ => simp only [ty_ref hn, halfV, run_ok, run_okI, run_okB, run_alloc, run_stuck, run_bind, run_ite, run_noX, run_fnOf, w_c, w_op, w_un, w_call, w_callK, w_nil, w_cons, w_tup, w_lst, isB_bl, w_tval, w_tand, w_tor, w_tnot, w_and, w_or, w_not, w_if, s_next, s_seq, s_if, s_ret, s_drop, s_set, s_par, s_put, s_asg, w_var', runS_next, runS_ret, runS_stuck, runS_ite, List.length_cons, List.length_nil, List.length_singleton, List.map_cons, List.map_nil, List.cons_append, List.nil_append, List.replicate_succ, List.replicate_zero, List.getElem?_cons_zero, List.getElem?_cons_succ, List.set_cons_zero, List.set_cons_succ, Nat.reduceAdd, Nat.reduceSub, Nat.reduceEqDiff, ite_true, ite_false, if_true, if_false, reduceIte, Bool.false_eq_true, decide_true, decide_false, String.reduceEq, Int.reduceEq, Nat.reduceLeDiff, true_and, and_true, Bool.not_true, Bool.not_false, decide_eq_true_eq, List.append_nil, bType, bIsi, bLen, bInt, ty_int, ty_bl, ty_str, ty_non, ty_tup, isT, oIs, oIsNot, oSub, oAdd, oIx, run_eqI, run_neI, Bool.or_false, Bool.or_true, Bool.false_or, Bool.true_or, Bool.and_true, Bool.and_false, Bool.true_and, Bool.false_and, reduceCtorEq, decide_not, Bool.not_eq_true', decide_eq_false_iff_not, askInt, askBool, askTuple, askList, askStr, oLe, oLt, oGe, oGt, oInt2, atI0, atI1, atI2]; exact ⟨rfl, .refl _⟩
      | tup => simp only [halfV, run_ok, run_okI, run_okB, run_alloc, run_stuck, run_bind, run_ite, run_noX, run_fnOf, w_c, w_op, w_un, w_call, w_callK, w_nil, w_cons, w_tup, w_lst, isB_bl, w_tval, w_tand, w_tor, w_tnot, w_and, w_or, w_not, w_if, s_next, s_seq, s_if, s_ret, s_drop, s_set, s_par, s_put, s_asg, w_var', runS_next, runS_ret, runS_stuck, runS_ite, List.length_cons, List.length_nil, List.length_singleton, List.map_cons, List.map_nil, List.cons_append, List.nil_append, List.replicate_succ, List.replicate_zero, List.getElem?_cons_zero, List.getElem?_cons_succ, List.set_cons_zero, List.set_cons_succ, Nat.reduceAdd, Nat.reduceSub, Nat.reduceEqDiff, ite_true, ite_false, if_true, if_false, reduceIte, Bool.false_eq_true, decide_true, decide_false, String.reduceEq, Int.reduceEq, Nat.reduceLeDiff, true_and, and_true, Bool.not_true, Bool.not_false, decide_eq_true_eq, List.append_nil, bType, bIsi, bLen, bInt, ty_int, ty_bl, ty_str, ty_non, ty_tup, isT, oIs, oIsNot, oSub, oAdd, oIx, run_eqI, run_neI, Bool.or_false, Bool.or_true, Bool.false_or, Bool.true_or, Bool.and_true, Bool.and_false, Bool.true_and, Bool.false_and, reduceCtorEq, decide_not, Bool.not_eq_true', decide_eq_false_iff_not, askInt, askBool, askTuple, askList, askStr, oLe, oLt, oGe, oGt, oInt2, atI0, atI1, atI2]; exact ⟨rfl, .refl _⟩
    · subst e1 e2
      rw [w_nil, List.filter_eq_self.mpr (fun _ _ => rfl)]
      refine Run.mono run_all fun r S4 ⟨e, e2⟩ => ?_
      subst e e2
      refine ⟨?_, k2.trans (Gr.add _ _).kp⟩
      show Val.bl (xs.all halfV) = Val.bl (decide (xs.length ≤ 12) && xs.all halfV)
      rw [decide_eq_true hlen]; rfl
def Pth (p : List Int) : Prop := p.length ≤ 12 ∧ ∀ i ∈ p, i = 0 ∨ i = 1
theorem isPa_path {p : List Int} (h : Pth p) : isPa (pathV p) = true := by
  show (decide ((p.map Val.int).length ≤ 12) && (p.map Val.int).all halfV) = true
  rw [List.length_map, decide_eq_true h.1, Bool.true_and, List.all_map, List.all_eq_true]
  intro i hi
  show (decide (i = 0) || decide (i = 1)) = true
  rcases h.2 i hi with rfl | rfl <;> rfl
/-! ### checks that pass, that don't -/
theorem ck_ok {v : Val} {n : Nat} {ρ : PD.Env} {S : Store} {i : Nat} {R : Val → Store → Prop} (hi : ρ[i]? = some (some v)) (hv : Da S 45 v) (h : coOk v = true) (hn : 66 < n) : RunS (sDrop (dCall (fns n).check_counts (aCons (dVar i) aNil)) ρ S) (fun ρ' S' => ρ' = ρ ∧ Kp S S') R := by
  rw [s_drop, w_call, w_cons, w_var hi, w_nil]
  obtain ⟨S1, k1, e1⟩ := check_counts_ok (n := n) hv (by omega) (by omega)
  rw [h, if_pos rfl] at e1
  exact Run.of e1 ⟨rfl, k1⟩
theorem args_var {v : Val} {ρ : PD.Env} {S : Store} {i : Nat} (hi : ρ[i]? = some (some v)) : aCons (dVar i) aNil ρ S = .ok [v] S := by
  have hx : Run (aCons (dVar i) aNil ρ S) (fun xs S' => xs = [v] ∧ S' = S) := by
    rw [w_cons, w_var hi, w_nil]; exact ⟨rfl, rfl⟩
  obtain ⟨xs, S3, e3, rfl, rfl⟩ := hx.to
  exact e3
theorem ck_no {v : Val} {n : Nat} {ρ : PD.Env} {S : Store} {i : Nat} (hi : ρ[i]? = some (some v)) (hv : Da S 45 v) (h : coOk v = false) (hn : 66 < n) : Exc (sDrop (dCall (fns n).check_counts (aCons (dVar i) aNil)) ρ S) ⟨1, []⟩ (Kp S) := by
  obtain ⟨S1, k1, e1⟩ := check_counts_ok (n := n) hv (by omega) (by omega)
  rw [h, if_neg (by decide)] at e1
  exact exc_drop (call_exc (args_var hi) e1) k1
theorem cp_both {v : Val} {n : Nat} {S : Store} (hv : Da S 45 v) (hn : 1 < n) : ∃ S', Kp S S' ∧ (fns n).check_path [v] S = if isPa v = true then .ok .non S' else .exc ⟨2, []⟩ S' := by
  obtain ⟨n, rfl⟩ : ∃ m, n = m + 1 := ⟨n - 1, by omega⟩
  have hx : Run (tNot' (tVal (dCall (fns n).is_path (aCons (dVar 0) aNil))) [some v] S) (fun b S' => b = !isPa v ∧ Kp S S') := by
    rw [w_tnot, w_tval, w_call, w_cons, w_var rfl, w_nil]
    refine Run.mono (p_is_path hv (by omega)) fun r S1 ⟨e, k1⟩ => ?_
    subst e
    exact ⟨rfl, k1⟩
  obtain ⟨b, S1, e1, rfl, k1⟩ := hx.to
  refine ⟨S1, k1, ?_⟩
  show fnOf 1 1 (b_check_path (fns n)) [v] S = _
  unfold fnOf b_check_path sIf
  rw [if_pos (show [v].length = 1 from rfl)]
  show (match ((tNot' (tVal (dCall (fns n).is_path (aCons (dVar 0) aNil)))) [some v] S).toS [some v] (fun c S1 => if c = true then sRaise 2 [some v] S1 else sNext [some v] S1) with
  | .ret v S' => Res.ok v S'
  | .next _ S' => .ok .non S'
  | .exc e _ S' => .exc e S'
  | _ => .stuck) = _
  rw [e1]
  cases isPa v <;> rfl
theorem pk_ok {v : Val} {n : Nat} {ρ : PD.Env} {S : Store} {i : Nat} {R : Val → Store → Prop} (hi : ρ[i]? = some (some v)) (hv : Da S 45 v) (h : isPa v = true) (hn : 1 < n) : RunS (sDrop (dCall (fns n).check_path (aCons (dVar i) aNil)) ρ S) (fun ρ' S' => ρ' = ρ ∧ Kp S S') R := by
  rw [s_drop, w_call, w_cons, w_var hi, w_nil]
  obtain ⟨S1, k1, e1⟩ := cp_both (n := n) hv hn
  rw [h, if_pos rfl] at e1
  exact Run.of e1 ⟨rfl, k1⟩
theorem pk_no {v : Val} {n : Nat} {ρ : PD.Env} {S : Store} {i : Nat} (hi : ρ[i]? = some (some v)) (hv : Da S 45 v) (h : isPa v = false) (hn : 1 < n) : Exc (sDrop (dCall (fns n).check_path (aCons (dVar i) aNil)) ρ S) ⟨2, []⟩ (Kp S) := by
  obtain ⟨S1, k1, e1⟩ := cp_both (n := n) hv hn
  rw [h, if_neg (by decide)] at e1
  exact exc_drop (call_exc (args_var hi) e1) k1
theorem Cts.da {t : T} {S : Store} (h : Cts t) : Da S 45 (toV t) := (toV_daN h.dep).up (by omega)
/-! ### joined, is_within, worth_at -/
abbrev JJ (a b : T) : T := T.J 13 a b
theorem dep_JJ {a b : T} (ha : Cts a) (hb : Cts b) : (JJ a b).dep ≤ 12 := by
  have := T.dep_J 13 a b
  have := ha.dep
  have := hb.dep
  show (T.J 13 a b).dep ≤ 12
  omega
theorem joined_ok {a b : T} {n : Nat} {S : Store} (ha : Cts a) (hb : Cts b) (ht : (JJ a b).tc ≤ 63) (hn : 70 < n) : Run ((fns n).joined [toV a, toV b] S) (PureK S (toV (JJ a b))) := by
  obtain ⟨n, rfl⟩ : ∃ m, n = m + 1 := ⟨n - 1, by omega⟩
  have a12 := ha.dep
  have b12 := hb.dep
  show Run (fnOf 2 2 (b_joined (fns n)) [toV a, toV b] S) _
  unfold b_joined
  refine run_fn (ρ := [some (toV a), some (toV b)]) rfl rfl ?_
  refine s_step (ck_ok rfl ha.da (coOk_toV ha) (by omega)) ?_
  rintro ρ S1 ⟨rfl, k1⟩
  refine s_step (ck_ok rfl hb.da (coOk_toV hb) (by omega)) ?_
  rintro ρ S2 ⟨rfl, k2⟩
  rw [s_ret, w_call, w_cons, w_call, w_cons, w_var rfl, w_cons, w_var rfl, w_nil]
  refine Run.mono (p_greater 13 n a b S2 (by omega) (by omega) (by omega) (by omega)) fun r S3 ⟨e, e2⟩ => ?_
  subst e e2
  rw [w_nil]
  exact Run.mono (bounded_ok (Nat.le_trans (dep_JJ ha hb) (by decide)) ht (by omega)) fun r S4 ⟨e, k4⟩ => ⟨e, (k1.trans k2).trans k4⟩
theorem joined_many {a b : T} {n : Nat} {S : Store} (ha : Cts a) (hb : Cts b) (ht : 63 < (JJ a b).tc) (hn : 70 < n) : ∃ S', Kp S S' ∧ (fns n).joined [toV a, toV b] S = .exc ⟨3, [("count", .int 63)]⟩ S' := by
  obtain ⟨n, rfl⟩ : ∃ m, n = m + 1 := ⟨n - 1, by omega⟩
  have a12 := ha.dep
  have b12 := hb.dep
  show ∃ S', Kp S S' ∧ fnOf 2 2 (b_joined (fns n)) [toV a, toV b] S = _
  unfold b_joined
  refine exc_fn (ρ := [some (toV a), some (toV b)]) rfl rfl (exc_step (ck_ok rfl ha.da (coOk_toV ha) (by omega)) ?_)
  rintro ρ S1 ⟨rfl, k1⟩
  refine exc_step (ck_ok rfl hb.da (coOk_toV hb) (by omega)) ?_
  rintro ρ S2 ⟨rfl, k2⟩
  obtain ⟨S3, k3, e3⟩ := bounded_no (n := n) (S := S2) (t := JJ a b) (Nat.le_trans (dep_JJ ha hb) (by decide)) ht (by omega)
  refine exc_ret (S1 := S3) ?_ ((k1.trans k2).trans k3)
  have hx : Run (aCons (dCall (fns n).greater_of (aCons (dVar 0) (aCons (dVar 1) aNil))) aNil [some (toV a), some (toV b)] S2) (fun xs S' => xs = [toV (JJ a b)] ∧ S' = S2) := by
    rw [w_cons, w_call, w_cons, w_var rfl, w_cons, w_var rfl, w_nil]
    refine Run.mono (p_greater 13 n a b S2 (by omega) (by omega) (by omega) (by omega)) fun r S3 ⟨e, e2⟩ => ?_
    subst e e2
    rw [w_nil]
    exact ⟨rfl, rfl⟩
  obtain ⟨xs, S4, e4, rfl, rfl⟩ := hx.to
  exact call_exc e4 e3
theorem within_ok {a b : T} {n : Nat} {S : Store} (ha : Cts a) (hb : Cts b) (hn : 70 < n) : Run ((fns n).is_within [toV a, toV b] S) (PureK S (.bl (T.W 13 a b))) := by
  obtain ⟨n, rfl⟩ : ∃ m, n = m + 1 := ⟨n - 1, by omega⟩
  have a12 := ha.dep
  have b12 := hb.dep
  show Run (fnOf 2 2 (b_is_within (fns n)) [toV a, toV b] S) _
  unfold b_is_within
  refine run_fn (ρ := [some (toV a), some (toV b)]) rfl rfl ?_
  refine s_step (ck_ok rfl ha.da (coOk_toV ha) (by omega)) ?_
  rintro ρ S1 ⟨rfl, k1⟩
  refine s_step (ck_ok rfl hb.da (coOk_toV hb) (by omega)) ?_
  rintro ρ S2 ⟨rfl, k2⟩
  rw [s_ret, w_call, w_cons, w_var rfl, w_cons, w_var rfl, w_nil]
  exact Run.mono (p_nowhere 13 n a b S2 (by omega) (by omega) (by omega)) fun r S3 ⟨e, e2⟩ => ⟨e, by rw [e2]; exact k1.trans k2⟩
theorem wa_loop {a b : Option Val} {n : Nat} {R : Val → Store → Prop} (hn : 1 < n) : ∀ (p : List Int) (t : T) (x : Option Val) (S : Store), (∀ i ∈ p, i = 0 ∨ i = 1) → RunS (loopV (gN 3) (sSet 2 (dOp oIx (dCall (fns n).halves (aCons (dVar 2) aNil)) (dVar 3))) (p.map Val.int) [a, b, some (toV t), x] S) (fun ρ S' => (∃ x, ρ = [a, b, some (toV (T.at' p t)), x]) ∧ S' = S) R
  | [], t, x, S, _ => by
    rw [List.map_nil, loopV_nil]
    exact ⟨⟨x, rfl⟩, rfl⟩
  | h :: p, t, x, S, hp => by
    rw [List.map_cons, loopV_cons]
    have hb : RunS (sSet 2 (dOp oIx (dCall (fns n).halves (aCons (dVar 2) aNil)) (dVar 3)) [a, b, some (toV t), some (.int h)] S) (fun ρ S' => ρ = [a, b, some (toV (t.hf h)), some (.int h)] ∧ S' = S) R := by
      rw [s_set, w_op, w_call, w_cons, w_var rfl, w_nil]
      refine Run.mono (p_halves hn) fun r S1 ⟨e, e2⟩ => ?_
      subst e e2
      rw [w_var rfl]
      rcases hp h List.mem_cons_self with rfl | rfl
      · rw [ix0]; exact ⟨rfl, rfl⟩
      · rw [ix1]; exact ⟨rfl, rfl⟩
    show RunS ((sSet 2 (dOp oIx (dCall (fns n).halves (aCons (dVar 2) aNil)) (dVar 3)) [a, b, some (toV t), some (.int h)] S).turn (loopV (gN 3) (sSet 2 (dOp oIx (dCall (fns n).halves (aCons (dVar 2) aNil)) (dVar 3))) (p.map Val.int))) _ R
    cases hr : sSet 2 (dOp oIx (dCall (fns n).halves (aCons (dVar 2) aNil)) (dVar 3)) [a, b, some (toV t), some (.int h)] S with
    | next ρ2 S2 =>
      rw [hr] at hb
      obtain ⟨e, e2⟩ := hb
      subst e e2
      exact wa_loop hn p (t.hf h) _ _ fun i hi => hp i (List.mem_cons_of_mem _ hi)
    | ret v S2 => rw [hr] at hb; exact hb
    | brk ρ2 S2 => rw [hr] at hb; exact hb.elim
    | cont ρ2 S2 => rw [hr] at hb; exact hb.elim
    | exc e ρ2 S2 => rw [hr] at hb; exact hb.elim
    | stuck => rw [hr] at hb; exact hb.elim
theorem worth_ok {t : T} {p : List Int} {n : Nat} {S : Store} (ht : Cts t) (hp : Pth p) (hn : 70 < n) : Run ((fns n).worth_at [toV t, pathV p] S) (PureK S (wtV (T.at' p t))) := by
  obtain ⟨n, rfl⟩ : ∃ m, n = m + 1 := ⟨n - 1, by omega⟩
  have t12 := ht.dep
  show Run (fnOf 2 4 (b_worth_at (fns n)) [toV t, pathV p] S) _
  unfold b_worth_at
  refine run_fn (ρ := [some (toV t), some (pathV p), none, none]) rfl rfl ?_
  refine s_step (ck_ok rfl ht.da (coOk_toV ht) (by omega)) ?_
  rintro ρ S1 ⟨rfl, k1⟩
  refine s_step (pk_ok rfl (path_da.up (by omega)) (isPa_path hp) (by omega)) ?_
  rintro ρ S2 ⟨rfl, k2⟩
  refine s_step (N' := fun ρ S' => ρ = [some (toV t), some (pathV p), some (toV t), none] ∧ S' = S2) ?_ ?_
  · rw [s_set, w_var rfl]; exact ⟨rfl, rfl⟩
  rintro ρ S3 ⟨rfl, rfl⟩
  refine s_step (N' := fun ρ S' => (∃ x, ρ = [some (toV t), some (pathV p), some (toV (T.at' p t)), x]) ∧ S' = S3) ?_ ?_
  · exact s_forTup (xs := p.map Val.int) (by rw [w_var rfl]; exact ⟨rfl, rfl⟩) (wa_loop (by omega) p t none S3 hp.2)
  rintro ρ S4 ⟨⟨x, rfl⟩, rfl⟩
  have hd := T.dep_at p t
  rw [s_ret, w_tup, w_cons, w_call, w_cons, w_var rfl, w_nil]
  refine Run.mono (p_leastT (by omega)) fun r S5 ⟨e, e2⟩ => ?_
  subst e e2
  rw [w_cons, w_call, w_cons, w_var rfl, w_nil]
  refine Run.mono (p_greatest _ n S5 (by omega)) fun r S6 ⟨e, e2⟩ => ?_
  subst e e2
  rw [w_nil]
  exact ⟨Nat.le_of_ble_eq_true rfl, rfl, k1.trans k2⟩
section
variable {v o : Val} {n : Nat} {S : Store}
theorem joined_bad1 (hv : Da S 45 v) (h : coOk v = false) (hn : 70 < n) : ∃ S', Kp S S' ∧ (fns n).joined [v, o] S = .exc ⟨1, []⟩ S' := by
  obtain ⟨n, rfl⟩ : ∃ m, n = m + 1 := ⟨n - 1, by omega⟩
  show ∃ S', Kp S S' ∧ fnOf 2 2 (b_joined (fns n)) [v, o] S = _
  unfold b_joined
  exact exc_fn (ρ := [some v, some o]) rfl rfl (exc_head (ck_no rfl hv h (by omega)))
theorem within_bad1 (hv : Da S 45 v) (h : coOk v = false) (hn : 70 < n) : ∃ S', Kp S S' ∧ (fns n).is_within [v, o] S = .exc ⟨1, []⟩ S' := by
  obtain ⟨n, rfl⟩ : ∃ m, n = m + 1 := ⟨n - 1, by omega⟩
  show ∃ S', Kp S S' ∧ fnOf 2 2 (b_is_within (fns n)) [v, o] S = _
  unfold b_is_within
  exact exc_fn (ρ := [some v, some o]) rfl rfl (exc_head (ck_no rfl hv h (by omega)))
theorem worth_bad1 (hv : Da S 45 v) (h : coOk v = false) (hn : 70 < n) : ∃ S', Kp S S' ∧ (fns n).worth_at [v, o] S = .exc ⟨1, []⟩ S' := by
  obtain ⟨n, rfl⟩ : ∃ m, n = m + 1 := ⟨n - 1, by omega⟩
  show ∃ S', Kp S S' ∧ fnOf 2 4 (b_worth_at (fns n)) [v, o] S = _
  unfold b_worth_at
  exact exc_fn (ρ := [some v, some o, none, none]) rfl rfl (exc_head (ck_no rfl hv h (by omega)))
theorem joined_bad2 {t : T} (ht : Cts t) (hv : ∀ S', Kp S S' → Da S' 45 o) (h : coOk o = false) (hn : 70 < n) : ∃ S', Kp S S' ∧ (fns n).joined [toV t, o] S = .exc ⟨1, []⟩ S' := by
  obtain ⟨n, rfl⟩ : ∃ m, n = m + 1 := ⟨n - 1, by omega⟩
  show ∃ S', Kp S S' ∧ fnOf 2 2 (b_joined (fns n)) [toV t, o] S = _
  unfold b_joined
  refine exc_fn (ρ := [some (toV t), some o]) rfl rfl (exc_step (ck_ok rfl ht.da (coOk_toV ht) (by omega)) ?_)
  rintro ρ S1 ⟨rfl, k1⟩
  obtain ⟨ρ2, S2, e, k2⟩ := exc_head (d := sRet (dCall (fns n).bounded (aCons (dCall (fns n).greater_of (aCons (dVar 0) (aCons (dVar 1) aNil))) aNil))) (ck_no (ρ := [some (toV t), some o]) (i := 1) rfl (hv S1 k1) h (show 66 < n by omega))
  exact ⟨ρ2, S2, e, k1.trans k2⟩
theorem within_bad2 {t : T} (ht : Cts t) (hv : ∀ S', Kp S S' → Da S' 45 o) (h : coOk o = false) (hn : 70 < n) : ∃ S', Kp S S' ∧ (fns n).is_within [toV t, o] S = .exc ⟨1, []⟩ S' := by
  obtain ⟨n, rfl⟩ : ∃ m, n = m + 1 := ⟨n - 1, by omega⟩
  show ∃ S', Kp S S' ∧ fnOf 2 2 (b_is_within (fns n)) [toV t, o] S = _
  unfold b_is_within
  refine exc_fn (ρ := [some (toV t), some o]) rfl rfl (exc_step (ck_ok rfl ht.da (coOk_toV ht) (by omega)) ?_)
  rintro ρ S1 ⟨rfl, k1⟩
  obtain ⟨ρ2, S2, e, k2⟩ := exc_head (d := sRet (dCall (fns n).nowhere_greater (aCons (dVar 0) (aCons (dVar 1) aNil)))) (ck_no (ρ := [some (toV t), some o]) (i := 1) rfl (hv S1 k1) h (show 66 < n by omega))
  exact ⟨ρ2, S2, e, k1.trans k2⟩
theorem worth_bad2 {t : T} (ht : Cts t) (hv : ∀ S', Kp S S' → Da S' 45 o) (h : isPa o = false) (hn : 70 < n) : ∃ S', Kp S S' ∧ (fns n).worth_at [toV t, o] S = .exc ⟨2, []⟩ S' := by
  obtain ⟨n, rfl⟩ : ∃ m, n = m + 1 := ⟨n - 1, by omega⟩
  show ∃ S', Kp S S' ∧ fnOf 2 4 (b_worth_at (fns n)) [toV t, o] S = _
  unfold b_worth_at
  refine exc_fn (ρ := [some (toV t), some o, none, none]) rfl rfl (exc_step (ck_ok rfl ht.da (coOk_toV ht) (by omega)) ?_)
  rintro ρ S1 ⟨rfl, k1⟩
  obtain ⟨ρ2, S2, e, k2⟩ := pk_no (ρ := [some (toV t), some o, none, none]) (n := n) (i := 1) rfl (hv S1 k1) h (by omega)
  exact exc_head ⟨ρ2, S2, e, k1.trans k2⟩
end
/-! ### said -/
def sdBody (p : Fns) : SD := sIf (tVal (dOp oEq (dVar 0) (dC (.int 0)))) (sSet 3 (dCallK [1, 0] 2 p.joined (aCons (dVar 2) (aCons (dVar 1) aNil)))) (sIf (tVal (dOp oEq (dVar 0) (dC (.int 1)))) (sSet 3 (dCallK [1, 0] 2 p.is_within (aCons (dVar 2) (aCons (dVar 1) aNil)))) (sSet 3 (dCallK [1, 0] 2 p.worth_at (aCons (dVar 2) (aCons (dVar 1) aNil)))))
def sdHds : List ClD := [(1, none, fun _ => (sSet 3 (dC (.str "counts")))), (2, none, fun _ => (sSet 3 (dC (.str "path")))), (3, some 4, sErLst 3 [.inl (.str "many"), .inr "count"]), (0, none, fun _ => (sSet 3 (dC (.str "other"))))]
theorem said_eq (p : Fns) : b__law_said p = sSeq (sSet 3 (dC (.str "other"))) (sSeq (sTryE 4 mt (sdBody p) sdHds) (sRet (dVar 3))) := by
  unfold b__law_said sdBody sdHds; rfl
abbrev SDE (d : Int) (v o x3 : Val) (x4 : Option Val) : PD.Env := [some (.int d), some v, some o, some x3, x4]
/-- the call of a door -/
def door (p : Fns) (d : Int) (v o : Val) (S : Store) : Res Val := if d = 0 then p.joined [v, o] S else if d = 1 then p.is_within [v, o] S else p.worth_at [v, o] S
theorem sd_body {p : Fns} {d : Int} {v o x3 : Val} {x4 : Option Val} {S : Store} : sdBody p (SDE d v o x3 x4) S = (door p d v o S).toS (SDE d v o x3 x4) fun x S1 => .next (SDE d v o x x4) S1 := by
  unfold sdBody door sIf
  by_cases h0 : d = 0
  · subst h0; rfl
  · have e0 : tVal (dOp oEq (dVar 0) (dC (.int 0))) (SDE d v o x3 x4) S = .ok false S := by
      have : tVal (dOp oEq (dVar 0) (dC (.int 0))) (SDE d v o x3 x4) S = .ok (decide (d = 0)) S := rfl
      rw [this, decide_eq_false h0]
    rw [e0, if_neg h0]
    by_cases h1 : d = 1
    · subst h1; rfl
    · have e1 : tVal (dOp oEq (dVar 0) (dC (.int 1))) (SDE d v o x3 x4) S = .ok false S := by
        have : tVal (dOp oEq (dVar 0) (dC (.int 1))) (SDE d v o x3 x4) S = .ok (decide (d = 1)) S := rfl
        rw [this, decide_eq_false h1]
      rw [if_neg h1]
      simp only [Res.toS, Bool.false_eq_true, if_false, e1]
      rfl
theorem said_ok {n : Nat} {d : Int} {v o : Val} {S : Store} {Q : Val → Store → Prop} (h : Run (door (fns n) d v o S) Q) : Run ((fns (n + 1))._law_said [.int d, v, o] S) Q := by
  show Run (fnOf 3 5 (b__law_said (fns n)) [.int d, v, o] S) _
  rw [said_eq]
  refine run_fn (ρ := [some (.int d), some v, some o, none, none]) rfl rfl ?_
  obtain ⟨r, S1, e1, q⟩ := h.to
  refine s_step (N' := fun ρ S' => ρ = SDE d v o (.str "other") none ∧ S' = S) ?_ ?_
  · rw [s_set, w_c]; exact ⟨rfl, rfl⟩
  rintro ρ S2 ⟨rfl, rfl⟩
  refine s_step (N' := fun ρ S' => ρ = SDE d v o r none ∧ S' = S1) ?_ ?_
  · unfold sTryE
    rw [sd_body, e1]
    exact ⟨rfl, rfl⟩
  rintro ρ S3 ⟨rfl, rfl⟩
  rw [s_ret, w_var rfl]
  exact q
theorem said_ex {n : Nat} {d : Int} {v o : Val} {S S1 : Store} {e : Exn} {Q : Val → Store → Prop} (h : door (fns n) d v o S = .exc e S1) {r : Val} {S2 : Store} (q : ∃ x4, sHdsE 4 mt sdHds e (SDE d v o (.str "other") none) S1 = .next (SDE d v o r x4) S2) (hq : Q r S2) : Run ((fns (n + 1))._law_said [.int d, v, o] S) Q := by
  show Run (fnOf 3 5 (b__law_said (fns n)) [.int d, v, o] S) _
  rw [said_eq]
  refine run_fn (ρ := [some (.int d), some v, some o, none, none]) rfl rfl ?_
  obtain ⟨x4, q⟩ := q
  refine s_step (N' := fun ρ S' => ρ = SDE d v o (.str "other") none ∧ S' = S) ?_ ?_
  · rw [s_set, w_c]; exact ⟨rfl, rfl⟩
  rintro ρ S3 ⟨rfl, rfl⟩
  refine s_step (N' := fun ρ S' => ρ = SDE d v o r x4 ∧ S' = S2) ?_ ?_
  · unfold sTryE
    rw [sd_body, h]
    show RunS (sHdsE 4 mt sdHds e (SDE d v o (.str "other") none) S1) _ _
    rw [q]
    exact ⟨rfl, rfl⟩
  rintro ρ S4 ⟨rfl, rfl⟩
  rw [s_ret, w_var rfl]
  exact hq
section
variable {d : Int} {v o : Val} {S1 : Store}
theorem hd_1 : ∃ x4, sHdsE 4 mt sdHds ⟨1, []⟩ (SDE d v o (.str "other") none) S1 = .next (SDE d v o (.str "counts") x4) S1 := ⟨none, rfl⟩
theorem hd_2 : ∃ x4, sHdsE 4 mt sdHds ⟨2, []⟩ (SDE d v o (.str "other") none) S1 = .next (SDE d v o (.str "path") x4) S1 := ⟨none, rfl⟩
theorem hd_3 : ∃ x4, sHdsE 4 mt sdHds ⟨3, [("count", .int 63)]⟩ (SDE d v o (.str "other") none) S1 = .next (SDE d v o (.ref S1.length) x4) (S1 ++ [.lst [.str "many", .int 63]]) := ⟨none, rfl⟩
end
end PD.K05

/-! ## K05M5 -/
set_option Elab.async false
set_option linter.all false
set_option maxRecDepth 100000
set_option maxHeartbeats 4000000
namespace PD.K05
open PySem PySem.Spec L2 PD LT
/-- whatever the parts do: what holds of the list so far -/
theorem comp_inv {f : D} {v : Nat} {ρ : PD.Env} {ys : List Val} (m : Nat) (I : List Val → Store → Prop) (he : ∀ x acc S, acc.length < m → I acc S → Run (f (ρ.set v (some x)) S) (fun y S' => I (acc ++ [y]) S')) : ∀ (xs : List Val) (i : Nat) (acc : List Val) (S : Store), acc.length + xs.length ≤ m → m < 16777216 → I acc S → ys.drop i = xs → i ≤ ys.length →
    Run (compG (srcL ys) (gN v) tYes' f xs.length i acc ρ S) (fun zs S' => zs.length = acc.length + xs.length ∧ I zs S')
  | [], i, acc, S, _, _, h, hd, hi => by
    have : ys[i]? = none := by
      rw [List.getElem?_eq_none_iff]
      have := congrArg List.length hd
      simp at this; omega
    show Run (match srcL ys i S with | some none => Res.ok acc S | _ => .stuck) _
    have es : srcL ys i S = some none := by
      unfold srcL; rw [this]
    rw [es]
    exact ⟨rfl, h⟩
  | x :: xs, i, acc, S, hl, hm, h, hd, hi => by
    have hlt : i < ys.length := by
      have := congrArg List.length hd
      simp at this; omega
    have e0 := List.drop_eq_getElem_cons hlt
    rw [hd] at e0
    have hx : ys[i]? = some x := by rw [List.getElem?_eq_getElem hlt, (List.cons.inj e0).1]
    rw [List.length_cons] at hl
    show Run (match srcL ys i S with
      | none => Res.stuck
      | some none => .ok acc S
      | some (some x) => match gN v x ρ with
        | none => .stuck
        | some ρ1 => (noX (tYes' ρ1 S)).bind fun b S1 => if b = true then (noX (f ρ1 S1)).bind fun y S2 => if acc.length < 16777216 then compG (srcL ys) (gN v) tYes' f xs.length (i + 1) (acc ++ [y]) ρ S2 else .stuck
            else compG (srcL ys) (gN v) tYes' f xs.length (i + 1) acc ρ S1) _
    have es : srcL ys i S = some (some x) := by unfold srcL; rw [hx]
    rw [es]
    show Run ((noX (f (ρ.set v (some x)) S)).bind fun y S2 => if acc.length < 16777216 then compG (srcL ys) (gN v) tYes' f xs.length (i + 1) (acc ++ [y]) ρ S2 else .stuck) _
    rw [run_bind, run_noX]
    refine Run.mono (he x acc S (by omega) h) fun y S1 h1 => ?_
    rw [if_pos (by omega)]
    refine Run.mono (comp_inv (ys := ys) m I he xs (i + 1) (acc ++ [y]) S1 (by rw [List.length_append, List.length_singleton]; omega) hm h1 (List.cons.inj e0).2.symm hlt) fun zs S2 ⟨ez, g2⟩ => ⟨?_, g2⟩
    rw [ez, List.length_append, List.length_singleton, List.length_cons]; omega
theorem dc3 {c d : Nat} {S : Store} {a b e : Val} (h1 : Dc c S d a) (h2 : Dc c S d b) (h3 : Dc c S d e) : Dc c S (d + 1) (.tup [a, b, e]) := .tup (mem3 h1 h2 h3)
theorem dc_toV {c : Nat} {S : Store} : ∀ {t : T} {d : Nat}, t.dep ≤ d → Dc c S d (toV t)
  | .leaf i, d, _ => .int _ _
  | .node n l r, d, h => by
    have h : 1 + max l.dep r.dep ≤ d := h
    obtain ⟨d, rfl⟩ : ∃ e, d = e + 1 := ⟨d - 1, by omega⟩
    exact dc3 (.int _ _) (dc_toV (by omega)) (dc_toV (by omega))
@[irreducible] def NUM : Int := 10 ^ 89
theorem NUM_ge : (10 : Int) ^ 88 + 1000 ≤ NUM ∧ (10 : Int) ^ 20 + 1000 ≤ NUM ∧ 1000 ≤ NUM := by unfold NUM; decide
theorem NUM_BIG : 1000 * NUM < BIG := by unfold NUM BIG; decide
theorem run_leaf_eq {t : T} {i : Int} {S : Store} {Q : Val → Store → Prop} (h : t.dep < 65) : Run (oEq (toV t) (.int i) S) Q = Q (.bl (T.sameL t (.leaf i))) S := by
  rw [run_eq (toV_da (Nat.le_refl _)) (.int 0 i) h (by omega), toV_dat h]
  cases t with
  | leaf j => rfl
  | node => rfl
theorem run_leaf_ne {t : T} {i : Int} {S : Store} {Q : Val → Store → Prop} (h : t.dep < 65) : Run (oNe (toV t) (.int i) S) Q = Q (.bl (!T.sameL t (.leaf i))) S := by
  rw [run_ne (toV_da (Nat.le_refl _)) (.int 0 i) h (by omega), toV_dat h]
  cases t with
  | leaf j => rfl
  | node => rfl
theorem l_cup {n : Nat} {z : Int} {S : Store} (hn : 0 < n) : Run ((fns n)._law_cup [.int z] S) (fun r S' => r = .ref S.length ∧ Kp S S' ∧ PoolAt S.length S') := by
  obtain ⟨n, rfl⟩ : ∃ m, n = m + 1 := ⟨n - 1, by omega⟩
  show Run (fnOf 1 1 (b__law_cup (fns n)) [.int z] S) _
  unfold b__law_cup
  have p18 : ∀ {S : Store} {Q : Val → Store → Prop}, Run (oPow (.int 10) (.int 18) S) Q = Q (.int 1000000000000000000) S := fun {S Q} => by
    show Run (if (0 : Int) ≤ 18 ∧ (18 : Int) ≤ 1000000 ∧ (10 : Int).natAbs < 2 ^ 64 then okI ((10 : Int) ^ (18 : Int).toNat) S else .stuck) Q = _
    rw [if_pos (by decide)]; rfl
  simp only [p18, run_modP (by decide : (0 : Int) < 2147483629), run_ok, run_okI, run_okB, run_alloc, run_stuck, run_bind, run_ite, run_noX, run_fnOf, w_c, w_op, w_un, w_call, w_callK, w_nil, w_cons, w_tup, w_lst, isB_bl, w_tval, w_tand, w_tor, w_tnot, w_and, w_or, w_not, w_if, s_next, s_seq, s_if, s_ret, s_drop, s_set, s_par, s_put, s_asg, w_var', runS_next, runS_ret, runS_stuck, runS_ite, List.length_cons, List.length_nil, List.length_singleton, List.map_cons, List.map_nil, List.cons_append, List.nil_append, List.replicate_succ, List.replicate_zero, List.getElem?_cons_zero, List.getElem?_cons_succ, List.set_cons_zero, List.set_cons_succ, Nat.reduceAdd, Nat.reduceSub, Nat.reduceEqDiff, ite_true, ite_false, if_true, if_false, reduceIte, Bool.false_eq_true, decide_true, decide_false, String.reduceEq, Int.reduceEq, Nat.reduceLeDiff, true_and, and_true, Bool.not_true, Bool.not_false, decide_eq_true_eq, List.append_nil, bType, bIsi, bLen, bInt, ty_int, ty_bl, ty_str, ty_non, ty_tup, isT, oIs, oIsNot, oSub, oAdd, oIx, run_eqI, run_neI, Bool.or_false, Bool.or_true, Bool.false_or, Bool.true_or, Bool.and_true, Bool.and_false, Bool.true_and, Bool.false_and, reduceCtorEq, decide_not, Bool.not_eq_true', decide_eq_false_iff_not, askInt, askBool, askTuple, askList, askStr, oLe, oLt, oGe, oGt, oInt2, atI0, atI1, atI2]
  have m0 := Int.emod_nonneg z (by decide : (2147483629 : Int) ≠ 0)
  have m1 := Int.emod_lt_of_pos z (by decide : (0 : Int) < 2147483629)
  split
  · exact ⟨(Gr.add _ _).kp, _, _, get_new _ _, by omega, by omega, by omega⟩
  · exact ⟨(Gr.add _ _).kp, _, _, get_new _ _, by omega, by omega, by omega⟩
/-- one of a new list's values, by a draw -/
theorem l_draw {c n m : Nat} {xs : List Val} {S : Store} {k : Nat} (hc : PoolAt c S) (hm : m = S.length) (hk : xs.length = k) (h0 : 0 < k) (h1 : k ≤ 1000) (hn : 0 < n) (P : Val → Prop) (hP : ∀ x ∈ xs, P x) :
    Run ((fns n)._law_sip [.ref c, .int k] (S ++ [.lst xs])) (fun y S2 => Run (oIx (.ref m) y S2) fun r S3 => P r ∧ Cp c S S3) := by
  subst hm
  have kA := (Gr.add S [.lst xs]).kp
  refine Run.mono (l_pick (hc.kp kA) (by omega) (by omega) hn) fun r S2 ⟨⟨i, e, g0, g1⟩, cs⟩ => ?_
  subst e
  refine Run.mono (run_pick P (cs.2 _ _ (Nat.ne_of_gt hc.lt) (get_new _ _)) g0 (by omega) hP) fun r S3 ⟨hr, e⟩ => ?_
  subst e
  exact ⟨hr, (Cp.of hc kA).trans cs⟩
/-! ### drawn counts -/
structure Dt (d : Nat) (t : T) : Prop where
  co : t.co = true
  nn : t.nn = true
  dep : t.dep ≤ d
  tc : t.tc + 1 ≤ 2 ^ d
  mx : t.mx ≤ (d + 1) * NUM
def NumB (i : Int) : Prop := 0 ≤ i ∧ i ≤ NUM
theorem Dt.leaf {d : Nat} {i : Int} (h : NumB i) : Dt d (.leaf i) := by
  refine ⟨rfl, decide_eq_true h.1, Nat.zero_le _, ?_, ?_⟩
  · show 0 + 1 ≤ 2 ^ d
    have : 1 ≤ 2 ^ d := Nat.pow_pos (by decide)
    omega
  · show i ≤ _
    have h1 := h.2
    have h0 := NUM_ge.2.2
    have : (1 : Int) * NUM ≤ ((d : Int) + 1) * NUM := Int.mul_le_mul_of_nonneg_right (by omega) (by omega)
    omega
theorem Dt.zero {d : Nat} {t : T} (h : Dt d t) : Dt d (match t with | .leaf _ => .leaf 0 | .node _ l r => .node 0 l r) := by
  cases t with
  | leaf i => exact .leaf ⟨Int.le_refl _, by have := NUM_ge.2.2; omega⟩
  | node m l r =>
    obtain ⟨c1, c2, c3, t1, t2, t3⟩ := T.co_node.mp h.co
    obtain ⟨n0, n1, n2⟩ := T.nn_node.mp h.nn
    refine ⟨T.co_node.mpr ⟨c1, c2, c3, t1, t2, t3⟩, T.nn_node.mpr ⟨by decide, n1, n2⟩, h.dep, h.tc, ?_⟩
    have hm : m + max l.mx r.mx ≤ _ := h.mx
    show 0 + max l.mx r.mx ≤ _
    omega
/-- the drawn pair of halves -/
def Pr (x y : T) : Prop := T.sameL x y = false ∧ T.sameL y x = false ∧ (x.top = 0 ∨ y.top = 0)
def CoI (c : Nat) (z : Int) (d : Nat) (P : T → T → Prop) (S0 : Store) (ρ : PD.Env) (S : Store) : Prop := ∃ (b : Val) (num : Int) (x y : T), ρ = [some (.ref c), some (.int z), some b, some (.int num), some (toV x), some (toV y)] ∧ NumB num ∧ Dt d x ∧ Dt d y ∧ P x y ∧ Cp c S0 S
theorem l_counts : ∀ (k n c : Nat) (z : Int) (S : Store), z = (k : Int) → PoolAt c S → k + 1 < n → k < 50 → Run ((fns n)._law_counts [.ref c, .int z] S) (fun r S' => (∃ t, r = toV t ∧ Dt k t) ∧ Cp c S S')
  | k, 0, c, z, S, _, _, h, _ => absurd h (Nat.not_lt_zero _)
  | k, n + 1, c, z, S, hz, hc, h, hk => by
    show Run (fnOf 2 6 (b__law_counts (fns n)) [.ref c, .int z] S) _
    unfold b__law_counts
    have hNUM := NUM_ge
    have p20 : ∀ {S : Store} {Q : Val → Store → Prop}, Run (oPow (.int 10) (.int 20) S) Q = Q (.int (10 ^ 20)) S := fun {S Q} => run_powE (a := 10) (b := 20) (by decide) (by decide)
    have p60 : ∀ {S : Store} {Q : Val → Store → Prop}, Run (oPow (.int 10) (.int 60) S) Q = Q (.int (10 ^ 60)) S := fun {S Q} => run_powE (a := 10) (b := 60) (by decide) (by decide)
    have p28 : ∀ {S : Store} {Q : Val → Store → Prop}, Run (oPow (.int 10) (.int 28) S) Q = Q (.int (10 ^ 28)) S := fun {S Q} => run_powE (a := 10) (b := 28) (by decide) (by decide)
    have hm : ∀ {S : Store} {Q : Val → Store → Prop}, Run (oMulE (.int (10 ^ 60)) (.int (10 ^ 28)) S) Q = Q (.int (10 ^ 88)) S := fun {S Q} => by
      show Run (if ((10 : Int) ^ 60).natAbs < 2 ^ 63 ∨ ((10 : Int) ^ 28).natAbs < 2 ^ 63 ∨ ((10 : Int) ^ 60).natAbs.log2 + ((10 : Int) ^ 28).natAbs.log2 < 1000000 then okI ((10 : Int) ^ 60 * (10 : Int) ^ 28) S else .stuck) Q = _
      rw [if_pos (.inr (.inr (by decide +kernel)))]
      show Q (.int ((10 : Int) ^ 60 * (10 : Int) ^ 28)) S = _
      rw [← Int.pow_add]
    refine run_fn (ρ := [some (.ref c), some (.int z), none, none, none, none]) rfl rfl ?_
    refine s_step (N' := fun ρ S' => (∃ b : Int, NumB b ∧ ρ = [some (.ref c), some (.int z), some (.int b), none, none, none]) ∧ Cp c S S') ?_ ?_
    · simp only [p20, p60, p28, hm, run_ok, run_okI, run_okB, run_alloc, run_stuck, run_bind, run_ite, run_noX, run_fnOf, w_c, w_op, w_un, w_call, w_callK, w_nil, w_cons, w_tup, w_lst, isB_bl, w_tval, w_tand, w_tor, w_tnot, w_and, w_or, w_not, w_if, s_next, s_seq, s_if, s_ret, s_drop, s_set, s_par, s_put, s_asg, w_var', runS_next, runS_ret, runS_stuck, runS_ite, List.length_cons, List.length_nil, List.length_singleton, List.map_cons, List.map_nil, List.cons_append, List.nil_append, List.replicate_succ, List.replicate_zero, List.getElem?_cons_zero, List.getElem?_cons_succ, List.set_cons_zero, List.set_cons_succ, Nat.reduceAdd, Nat.reduceSub, Nat.reduceEqDiff, ite_true, ite_false, if_true, if_false, reduceIte, Bool.false_eq_true, decide_true, decide_false, String.reduceEq, Int.reduceEq, Nat.reduceLeDiff, true_and, and_true, Bool.not_true, Bool.not_false, decide_eq_true_eq, List.append_nil, bType, bIsi, bLen, bInt, ty_int, ty_bl, ty_str, ty_non, ty_tup, isT, oIs, oIsNot, run_eqI, run_neI, Bool.or_false, Bool.or_true, Bool.false_or, Bool.true_or, Bool.and_true, Bool.and_false, Bool.true_and, Bool.false_and, reduceCtorEq, decide_not, Bool.not_eq_true', decide_eq_false_iff_not, askInt, askBool, askTuple, askList, askStr, oLe, oLt, oGe, oGt, oInt2, atI0, atI1, atI2, run_addI, run_subI]
      refine Run.mono (l_draw (k := 2) (P := fun x => ∃ i : Int, x = .int i ∧ 0 ≤ i ∧ i + 1000 ≤ NUM) hc rfl rfl (by decide) (by decide) (by omega) ?_) fun x S1 hx => Run.mono hx fun x S2 hx => ?_
      · intro x hx
        rcases List.mem_cons.mp hx with rfl | hx
        · exact ⟨_, rfl, by decide, hNUM.2.1⟩
        · rw [List.mem_singleton.mp hx]; exact ⟨_, rfl, by decide, hNUM.1⟩
      · obtain ⟨⟨i, e, h0, h1⟩, cs⟩ := hx
        subst e
        refine Run.mono (l_pick cs.1 (by decide) (by decide) (by omega)) fun y S3 ⟨⟨j, e, g0, g1⟩, cs2⟩ => ?_
        subst e
        rw [run_addI]
        exact ⟨⟨_, ⟨by omega, by omega⟩, rfl⟩, cs.trans cs2⟩
    rintro ρ S1 ⟨⟨b, hb, rfl⟩, cs1⟩
    refine s_step (N' := fun ρ S' => (∃ num : Int, NumB num ∧ ρ = [some (.ref c), some (.int z), some (.int b), some (.int num), none, none]) ∧ Cp c S S') ?_ ?_
    · simp only [run_ok, run_okI, run_okB, run_alloc, run_stuck, run_bind, run_ite, run_noX, run_fnOf, w_c, w_op, w_un, w_call, w_callK, w_nil, w_cons, w_tup, w_lst, isB_bl, w_tval, w_tand, w_tor, w_tnot, w_and, w_or, w_not, w_if, s_next, s_seq, s_if, s_ret, s_drop, s_set, s_par, s_put, s_asg, w_var', runS_next, runS_ret, runS_stuck, runS_ite, List.length_cons, List.length_nil, List.length_singleton, List.map_cons, List.map_nil, List.cons_append, List.nil_append, List.replicate_succ, List.replicate_zero, List.getElem?_cons_zero, List.getElem?_cons_succ, List.set_cons_zero, List.set_cons_succ, Nat.reduceAdd, Nat.reduceSub, Nat.reduceEqDiff, ite_true, ite_false, if_true, if_false, reduceIte, Bool.false_eq_true, decide_true, decide_false, String.reduceEq, Int.reduceEq, Nat.reduceLeDiff, true_and, and_true, Bool.not_true, Bool.not_false, decide_eq_true_eq, List.append_nil, bType, bIsi, bLen, bInt, ty_int, ty_bl, ty_str, ty_non, ty_tup, isT, oIs, oIsNot, run_eqI, run_neI, Bool.or_false, Bool.or_true, Bool.false_or, Bool.true_or, Bool.and_true, Bool.and_false, Bool.true_and, Bool.false_and, reduceCtorEq, decide_not, Bool.not_eq_true', decide_eq_false_iff_not, askInt, askBool, askTuple, askList, askStr, oLe, oLt, oGe, oGt, oInt2, atI0, atI1, atI2, run_addI, run_subI]
      refine Run.mono (l_pick cs1.1 (by decide) (by decide) (by omega)) fun x1 S2 ⟨⟨i1, e, h10, h11⟩, cs2⟩ => ?_
      subst e
      refine Run.mono (l_pick cs2.1 (by decide) (by decide) (by omega)) fun x1 S3 ⟨⟨i2, e, h20, h21⟩, cs3⟩ => ?_
      subst e
      refine Run.mono (l_pick cs3.1 (by decide) (by decide) (by omega)) fun x1 S4 ⟨⟨i3, e, h30, h31⟩, cs4⟩ => ?_
      subst e
      refine Run.mono (l_draw (k := 4) (P := fun x => ∃ i : Int, x = .int i ∧ NumB i) cs4.1 rfl rfl (by decide) (by decide) (by omega) ?_) fun x S1 hx => Run.mono hx fun x S5 hx => ?_
      · simp only [List.mem_cons, List.not_mem_nil, or_false, forall_eq_or_imp, forall_eq]
        exact ⟨⟨i1, rfl, by omega, by omega⟩, ⟨i2, rfl, by omega, by omega⟩, ⟨i3, rfl, by omega, by omega⟩, ⟨b, rfl, hb⟩⟩
      · obtain ⟨⟨i, e, hi⟩, cs5⟩ := hx
        subst e
        exact ⟨⟨_, hi, rfl⟩, ((((cs1.trans cs2).trans cs3).trans cs4).trans cs5)⟩
    rintro ρ S2 ⟨⟨num, hnum, rfl⟩, cs2⟩
    refine s_step (N' := fun ρ S' => ((∃ j, k = j + 1) ∧ ρ = [some (.ref c), some (.int z), some (.int b), some (.int num), none, none]) ∧ Cp c S S') ?_ ?_
    · by_cases h0 : z = 0
      · simp only [h0, run_ok, run_okI, run_okB, run_alloc, run_stuck, run_bind, run_ite, run_noX, run_fnOf, w_c, w_op, w_un, w_call, w_callK, w_nil, w_cons, w_tup, w_lst, isB_bl, w_tval, w_tand, w_tor, w_tnot, w_and, w_or, w_not, w_if, s_next, s_seq, s_if, s_ret, s_drop, s_set, s_par, s_put, s_asg, w_var', runS_next, runS_ret, runS_stuck, runS_ite, List.length_cons, List.length_nil, List.length_singleton, List.map_cons, List.map_nil, List.cons_append, List.nil_append, List.replicate_succ, List.replicate_zero, List.getElem?_cons_zero, List.getElem?_cons_succ, List.set_cons_zero, List.set_cons_succ, Nat.reduceAdd, Nat.reduceSub, Nat.reduceEqDiff, ite_true, ite_false, if_true, if_false, reduceIte, Bool.false_eq_true, decide_true, decide_false, String.reduceEq, Int.reduceEq, Nat.reduceLeDiff, true_and, and_true, Bool.not_true, Bool.not_false, decide_eq_true_eq, List.append_nil, bType, bIsi, bLen, bInt, ty_int, ty_bl, ty_str, ty_non, ty_tup, isT, oIs, oIsNot, run_eqI, run_neI, Bool.or_false, Bool.or_true, Bool.false_or, Bool.true_or, Bool.and_true, Bool.and_false, Bool.true_and, Bool.false_and, reduceCtorEq, decide_not, Bool.not_eq_true', decide_eq_false_iff_not, askInt, askBool, askTuple, askList, askStr, oLe, oLt, oGe, oGt, oInt2, atI0, atI1, atI2, run_addI, run_subI]
        exact ⟨⟨.leaf num, rfl, .leaf hnum⟩, cs2⟩
      · simp only [h0, run_ok, run_okI, run_okB, run_alloc, run_stuck, run_bind, run_ite, run_noX, run_fnOf, w_c, w_op, w_un, w_call, w_callK, w_nil, w_cons, w_tup, w_lst, isB_bl, w_tval, w_tand, w_tor, w_tnot, w_and, w_or, w_not, w_if, s_next, s_seq, s_if, s_ret, s_drop, s_set, s_par, s_put, s_asg, w_var', runS_next, runS_ret, runS_stuck, runS_ite, List.length_cons, List.length_nil, List.length_singleton, List.map_cons, List.map_nil, List.cons_append, List.nil_append, List.replicate_succ, List.replicate_zero, List.getElem?_cons_zero, List.getElem?_cons_succ, List.set_cons_zero, List.set_cons_succ, Nat.reduceAdd, Nat.reduceSub, Nat.reduceEqDiff, ite_true, ite_false, if_true, if_false, reduceIte, Bool.false_eq_true, decide_true, decide_false, String.reduceEq, Int.reduceEq, Nat.reduceLeDiff, true_and, and_true, Bool.not_true, Bool.not_false, decide_eq_true_eq, List.append_nil, bType, bIsi, bLen, bInt, ty_int, ty_bl, ty_str, ty_non, ty_tup, isT, oIs, oIsNot, run_eqI, run_neI, Bool.or_false, Bool.or_true, Bool.false_or, Bool.true_or, Bool.and_true, Bool.and_false, Bool.true_and, Bool.false_and, reduceCtorEq, decide_not, Bool.not_eq_true', decide_eq_false_iff_not, askInt, askBool, askTuple, askList, askStr, oLe, oLt, oGe, oGt, oInt2, atI0, atI1, atI2, run_addI, run_subI]
        refine Run.mono (l_pick cs2.1 (by decide) (by decide) (by omega)) fun x1 S3 ⟨⟨i1, e, h10, h11⟩, cs3⟩ => ?_
        subst e
        simp only [run_ok, run_okI, run_okB, run_alloc, run_stuck, run_bind, run_ite, run_noX, run_fnOf, w_c, w_op, w_un, w_call, w_callK, w_nil, w_cons, w_tup, w_lst, isB_bl, w_tval, w_tand, w_tor, w_tnot, w_and, w_or, w_not, w_if, s_next, s_seq, s_if, s_ret, s_drop, s_set, s_par, s_put, s_asg, w_var', runS_next, runS_ret, runS_stuck, runS_ite, List.length_cons, List.length_nil, List.length_singleton, List.map_cons, List.map_nil, List.cons_append, List.nil_append, List.replicate_succ, List.replicate_zero, List.getElem?_cons_zero, List.getElem?_cons_succ, List.set_cons_zero, List.set_cons_succ, Nat.reduceAdd, Nat.reduceSub, Nat.reduceEqDiff, ite_true, ite_false, if_true, if_false, reduceIte, Bool.false_eq_true, decide_true, decide_false, String.reduceEq, Int.reduceEq, Nat.reduceLeDiff, true_and, and_true, Bool.not_true, Bool.not_false, decide_eq_true_eq, List.append_nil, bType, bIsi, bLen, bInt, ty_int, ty_bl, ty_str, ty_non, ty_tup, isT, oIs, oIsNot, run_eqI, run_neI, Bool.or_false, Bool.or_true, Bool.false_or, Bool.true_or, Bool.and_true, Bool.and_false, Bool.true_and, Bool.false_and, reduceCtorEq, decide_not, Bool.not_eq_true', decide_eq_false_iff_not, askInt, askBool, askTuple, askList, askStr, oLe, oLt, oGe, oGt, oInt2, atI0, atI1, atI2, run_addI, run_subI]
        split
        · exact ⟨⟨.leaf num, rfl, .leaf hnum⟩, cs2.trans cs3⟩
        · exact ⟨⟨k - 1, by omega⟩, cs2.trans cs3⟩
    rintro ρ S3 ⟨⟨⟨k, rfl⟩, rfl⟩, cs3⟩
    refine s_step (N' := CoI c z k (fun _ _ => True) S) ?_ ?_
    · simp only [run_ok, run_okI, run_okB, run_alloc, run_stuck, run_bind, run_ite, run_noX, run_fnOf, w_c, w_op, w_un, w_call, w_callK, w_nil, w_cons, w_tup, w_lst, isB_bl, w_tval, w_tand, w_tor, w_tnot, w_and, w_or, w_not, w_if, s_next, s_seq, s_if, s_ret, s_drop, s_set, s_par, s_put, s_asg, w_var', runS_next, runS_ret, runS_stuck, runS_ite, List.length_cons, List.length_nil, List.length_singleton, List.map_cons, List.map_nil, List.cons_append, List.nil_append, List.replicate_succ, List.replicate_zero, List.getElem?_cons_zero, List.getElem?_cons_succ, List.set_cons_zero, List.set_cons_succ, Nat.reduceAdd, Nat.reduceSub, Nat.reduceEqDiff, ite_true, ite_false, if_true, if_false, reduceIte, Bool.false_eq_true, decide_true, decide_false, String.reduceEq, Int.reduceEq, Nat.reduceLeDiff, true_and, and_true, Bool.not_true, Bool.not_false, decide_eq_true_eq, List.append_nil, bType, bIsi, bLen, bInt, ty_int, ty_bl, ty_str, ty_non, ty_tup, isT, oIs, oIsNot, run_eqI, run_neI, Bool.or_false, Bool.or_true, Bool.false_or, Bool.true_or, Bool.and_true, Bool.and_false, Bool.true_and, Bool.false_and, reduceCtorEq, decide_not, Bool.not_eq_true', decide_eq_false_iff_not, askInt, askBool, askTuple, askList, askStr, oLe, oLt, oGe, oGt, oInt2, atI0, atI1, atI2, run_addI, run_subI]
      refine Run.mono (l_counts k n c (z - 1) S3 (by omega) cs3.1 (by omega) (by omega)) fun x S4 ⟨⟨x', e, hx⟩, cs4⟩ => ?_
      subst e
      refine Run.mono (l_counts k n c (z - 1) S4 (by omega) cs4.1 (by omega) (by omega)) fun y S5 ⟨⟨y', e, hy⟩, cs5⟩ => ?_
      subst e
      exact ⟨_, _, _, _, rfl, hnum, hx, hy, trivial, (cs3.trans cs4).trans cs5⟩
    clear cs3 cs2 cs1 hnum hb
    have swap : ∀ (P : T → T → Prop) (hP : ∀ x y, P x y → P y x) ρ S1, CoI c z k P S ρ S1 → RunS (sIf (tVal (dOp oEq (dCall (fns n)._law_sip (aCons (dVar 0) (aCons (dC (.int 2)) aNil))) (dC (.int 0)))) (sPar 4 5 (aCons (dVar 5) (aCons (dVar 4) aNil))) sNext ρ S1) (CoI c z k P S) (fun r S' => (∃ t, r = toV t ∧ Dt (k + 1) t) ∧ Cp c S S') := by
      rintro P hP ρ S1 ⟨b, num, x, y, rfl, hnum, hx, hy, hxy, cs⟩
      simp only [run_ok, run_okI, run_okB, run_alloc, run_stuck, run_bind, run_ite, run_noX, run_fnOf, w_c, w_op, w_un, w_call, w_callK, w_nil, w_cons, w_tup, w_lst, isB_bl, w_tval, w_tand, w_tor, w_tnot, w_and, w_or, w_not, w_if, s_next, s_seq, s_if, s_ret, s_drop, s_set, s_par, s_put, s_asg, w_var', runS_next, runS_ret, runS_stuck, runS_ite, List.length_cons, List.length_nil, List.length_singleton, List.map_cons, List.map_nil, List.cons_append, List.nil_append, List.replicate_succ, List.replicate_zero, List.getElem?_cons_zero, List.getElem?_cons_succ, List.set_cons_zero, List.set_cons_succ, Nat.reduceAdd, Nat.reduceSub, Nat.reduceEqDiff, ite_true, ite_false, if_true, if_false, reduceIte, Bool.false_eq_true, decide_true, decide_false, String.reduceEq, Int.reduceEq, Nat.reduceLeDiff, true_and, and_true, Bool.not_true, Bool.not_false, decide_eq_true_eq, List.append_nil, bType, bIsi, bLen, bInt, ty_int, ty_bl, ty_str, ty_non, ty_tup, isT, oIs, oIsNot, run_eqI, run_neI, Bool.or_false, Bool.or_true, Bool.false_or, Bool.true_or, Bool.and_true, Bool.and_false, Bool.true_and, Bool.false_and, reduceCtorEq, decide_not, Bool.not_eq_true', decide_eq_false_iff_not, askInt, askBool, askTuple, askList, askStr, oLe, oLt, oGe, oGt, oInt2, atI0, atI1, atI2, run_addI, run_subI]
      refine Run.mono (l_pick cs.1 (by decide) (by decide) (by omega)) fun x1 S3 ⟨⟨i1, e, h10, h11⟩, cs3⟩ => ?_
      subst e
      simp only [run_ok, run_okI, run_okB, run_alloc, run_stuck, run_bind, run_ite, run_noX, run_fnOf, w_c, w_op, w_un, w_call, w_callK, w_nil, w_cons, w_tup, w_lst, isB_bl, w_tval, w_tand, w_tor, w_tnot, w_and, w_or, w_not, w_if, s_next, s_seq, s_if, s_ret, s_drop, s_set, s_par, s_put, s_asg, w_var', runS_next, runS_ret, runS_stuck, runS_ite, List.length_cons, List.length_nil, List.length_singleton, List.map_cons, List.map_nil, List.cons_append, List.nil_append, List.replicate_succ, List.replicate_zero, List.getElem?_cons_zero, List.getElem?_cons_succ, List.set_cons_zero, List.set_cons_succ, Nat.reduceAdd, Nat.reduceSub, Nat.reduceEqDiff, ite_true, ite_false, if_true, if_false, reduceIte, Bool.false_eq_true, decide_true, decide_false, String.reduceEq, Int.reduceEq, Nat.reduceLeDiff, true_and, and_true, Bool.not_true, Bool.not_false, decide_eq_true_eq, List.append_nil, bType, bIsi, bLen, bInt, ty_int, ty_bl, ty_str, ty_non, ty_tup, isT, oIs, oIsNot, run_eqI, run_neI, Bool.or_false, Bool.or_true, Bool.false_or, Bool.true_or, Bool.and_true, Bool.and_false, Bool.true_and, Bool.false_and, reduceCtorEq, decide_not, Bool.not_eq_true', decide_eq_false_iff_not, askInt, askBool, askTuple, askList, askStr, oLe, oLt, oGe, oGt, oInt2, atI0, atI1, atI2, run_addI, run_subI]
      split
      · exact ⟨_, _, _, _, rfl, hnum, hy, hx, hP _ _ hxy, cs.trans cs3⟩
      · exact ⟨_, _, _, _, rfl, hnum, hx, hy, hxy, cs.trans cs3⟩
    intro ρ S1 h1
    refine s_step (swap (fun _ _ => True) (fun _ _ _ => trivial) ρ S1 h1) ?_
    clear h1 ρ S1
    rintro ρ S1 ⟨b, num, x, y, rfl, hnum, hx, hy, _, cs⟩
    refine s_step (N' := CoI c z k (fun x _ => x.top = 0) S) ?_ ?_
    · have hx0 := hx.zero
      cases x with
      | leaf i =>
        simp only [toV, askTuple, run_ok, run_okI, run_okB, run_alloc, run_stuck, run_bind, run_ite, run_noX, run_fnOf, w_c, w_op, w_un, w_call, w_callK, w_nil, w_cons, w_tup, w_lst, isB_bl, w_tval, w_tand, w_tor, w_tnot, w_and, w_or, w_not, w_if, s_next, s_seq, s_if, s_ret, s_drop, s_set, s_par, s_put, s_asg, w_var', runS_next, runS_ret, runS_stuck, runS_ite, List.length_cons, List.length_nil, List.length_singleton, List.map_cons, List.map_nil, List.cons_append, List.nil_append, List.replicate_succ, List.replicate_zero, List.getElem?_cons_zero, List.getElem?_cons_succ, List.set_cons_zero, List.set_cons_succ, Nat.reduceAdd, Nat.reduceSub, Nat.reduceEqDiff, ite_true, ite_false, if_true, if_false, reduceIte, Bool.false_eq_true, decide_true, decide_false, String.reduceEq, Int.reduceEq, Nat.reduceLeDiff, true_and, and_true, Bool.not_true, Bool.not_false, decide_eq_true_eq, List.append_nil, bType, bIsi, bLen, bInt, ty_int, ty_bl, ty_str, ty_non, ty_tup, isT, oIs, oIsNot, run_eqI, run_neI, Bool.or_false, Bool.or_true, Bool.false_or, Bool.true_or, Bool.and_true, Bool.and_false, Bool.true_and, Bool.false_and, reduceCtorEq, decide_not, Bool.not_eq_true', decide_eq_false_iff_not, askInt, askBool, askTuple, askList, askStr, oLe, oLt, oGe, oGt, oInt2, atI0, atI1, atI2, run_addI, run_subI]
        exact ⟨_, _, .leaf 0, _, rfl, hnum, hx0, hy, rfl, cs⟩
      | node m l r =>
        simp only [toV, askTuple, ix1, ix2, run_ok, run_okI, run_okB, run_alloc, run_stuck, run_bind, run_ite, run_noX, run_fnOf, w_c, w_op, w_un, w_call, w_callK, w_nil, w_cons, w_tup, w_lst, isB_bl, w_tval, w_tand, w_tor, w_tnot, w_and, w_or, w_not, w_if, s_next, s_seq, s_if, s_ret, s_drop, s_set, s_par, s_put, s_asg, w_var', runS_next, runS_ret, runS_stuck, runS_ite, List.length_cons, List.length_nil, List.length_singleton, List.map_cons, List.map_nil, List.cons_append, List.nil_append, List.replicate_succ, List.replicate_zero, List.getElem?_cons_zero, List.getElem?_cons_succ, List.set_cons_zero, List.set_cons_succ, Nat.reduceAdd, Nat.reduceSub, Nat.reduceEqDiff, ite_true, ite_false, if_true, if_false, reduceIte, Bool.false_eq_true, decide_true, decide_false, String.reduceEq, Int.reduceEq, Nat.reduceLeDiff, true_and, and_true, Bool.not_true, Bool.not_false, decide_eq_true_eq, List.append_nil, bType, bIsi, bLen, bInt, ty_int, ty_bl, ty_str, ty_non, ty_tup, isT, oIs, oIsNot, run_eqI, run_neI, Bool.or_false, Bool.or_true, Bool.false_or, Bool.true_or, Bool.and_true, Bool.and_false, Bool.true_and, Bool.false_and, reduceCtorEq, decide_not, Bool.not_eq_true', decide_eq_false_iff_not, askInt, askBool, askTuple, askList, askStr, oLe, oLt, oGe, oGt, oInt2, atI0, atI1, atI2, run_addI, run_subI]
        exact ⟨_, _, .node 0 l r, _, rfl, hnum, hx0, hy, rfl, cs⟩
    clear hnum hx hy cs
    rintro ρ S1 ⟨b, num, x, y, rfl, hnum, hx, hy, hx0, cs⟩
    have hyd := hy.dep
    refine s_step (N' := CoI c z k Pr S) ?_ ?_
    · rw [s_if, w_tval, w_op, w_var rfl, w_c, run_leaf_eq (by omega), isB_bl]
      have done : ∀ (y : T), Dt k y → T.sameL y (.leaf 0) = false → ∀ S1, Cp c S S1 → CoI c z k Pr S [some (.ref c), some (.int z), some b, some (.int num), some (toV x), some (toV y)] S1 := fun y hy h0 S1 cs => by
        refine ⟨_, _, _, _, rfl, hnum, hx, hy, ⟨?_, ?_, .inl hx0⟩, cs⟩
        · cases hs : T.sameL x y with
          | false => rfl
          | true =>
            obtain ⟨i, rfl, rfl⟩ := T.sameL_eq hs
            have : i = 0 := hx0
            subst this
            cases h0
        · cases hs : T.sameL y x with
          | false => rfl
          | true =>
            obtain ⟨i, rfl, rfl⟩ := T.sameL_eq hs
            have : i = 0 := hx0
            subst this
            cases h0
      cases hs : T.sameL y (.leaf 0) with
      | false => exact done y hy hs S1 cs
      | true =>
        rw [if_pos rfl, s_set, w_op, w_c, w_call, w_cons, w_var rfl, w_cons, w_c, w_nil]
        refine Run.mono (l_pick cs.1 (by decide) (by decide) (by omega)) fun x1 S3 ⟨⟨i1, e, h10, h11⟩, cs3⟩ => ?_
        subst e
        rw [run_addI]
        refine done (.leaf (1 + i1)) (.leaf ⟨by omega, by omega⟩) ?_ S3 (cs.trans cs3)
        unfold T.sameL
        show decide (1 + i1 = 0) = false
        exact decide_eq_false (by omega)
    intro ρ S1 h1
    refine s_step (swap Pr (fun x y h => ⟨h.2.1, h.1, h.2.2.symm⟩) ρ S1 h1) ?_
    clear h1 ρ S1 hnum hx hy cs
    rintro ρ S1 ⟨b, num, x, y, rfl, hnum, hx, hy, ⟨p1, _, p3⟩, cs⟩
    rw [s_ret, w_tup, w_cons, w_var rfl, w_cons, w_var rfl, w_cons, w_var rfl, w_nil]
    refine ⟨Nat.le_of_ble_eq_true rfl, ⟨.node num x y, rfl, T.co_node.mpr ⟨hx.co, hy.co, p1, T.top_nn hx.nn, T.top_nn hy.nn, p3⟩, T.nn_node.mpr ⟨hnum.1, hx.nn, hy.nn⟩, ?_, ?_, ?_⟩, cs⟩
    · have := hx.dep
      have := hy.dep
      show 1 + max x.dep y.dep ≤ k + 1
      omega
    · have := hx.tc
      have := hy.tc
      show 1 + (x.tc + y.tc) + 1 ≤ 2 ^ (k + 1)
      rw [Nat.pow_succ]; omega
    · have := hx.mx
      have := hy.mx
      have h2 := hnum.2
      show num + max x.mx y.mx ≤ (((k + 1 : Nat) : Int) + 1) * NUM
      have e : (((k + 1 : Nat) : Int) + 1) * NUM = ((k : Int) + 1) * NUM + NUM := by
        rw [show ((k + 1 : Nat) : Int) + 1 = ((k : Int) + 1) + 1 by omega, Int.add_mul ((k : Int) + 1), Int.one_mul]
      rw [e]
      omega
/-! ### long counts -/
structure Lt (j : Nat) (t : T) : Prop where
  co : t.co = true
  nn : t.nn = true
  dep : t.dep ≤ j
  tc : t.tc ≤ j
  mx : t.mx ≤ 4 + 2 * (j : Int)
def LoI (c : Nat) (S0 : Store) (j : Nat) (ρ : PD.Env) (S : Store) : Prop := ∃ (v : T) (x3 x4 : Option Val), ρ = [some (.ref c), some (.bl true), some (toV v), x3, x4, none] ∧ Lt j v ∧ Cp c S0 S
def LoJ (c : Nat) (S0 : Store) (j : Nat) (ρ : PD.Env) (S : Store) : Prop := ∃ (x y : T) (x3 : Option Val), ρ = [some (.ref c), some (.bl true), some (toV x), x3, some (toV y), none] ∧ Lt j x ∧ Lt j y ∧ x.tc + y.tc ≤ j ∧ x.mx ≤ 4 + 2 * (j : Int) ∧ y.mx ≤ 4 + 2 * (j : Int) ∧ Pr x y ∧ Cp c S0 S
theorem Lt.small {j : Nat} {i : Int} (h0 : 0 ≤ i) (h1 : i ≤ 4) : Lt j (.leaf i) := ⟨rfl, decide_eq_true h0, Nat.zero_le _, Nat.zero_le _, by show i ≤ _; omega⟩
theorem l_long {c n : Nat} {S : Store} (hc : PoolAt c S) (hn : 1 < n) : Run ((fns n)._law_long [.ref c, .bl true] S) (fun r S' => (∃ t, r = toV t ∧ Cts t ∧ t.mx ≤ 1000) ∧ Cp c S S') := by
  obtain ⟨n, rfl⟩ : ∃ m, n = m + 1 := ⟨n - 1, by omega⟩
  show Run (fnOf 2 6 (b__law_long (fns n)) [.ref c, .bl true] S) _
  unfold b__law_long
  refine run_fn (ρ := [some (.ref c), some (.bl true), none, none, none, none]) rfl rfl ?_
  refine s_step (N' := LoI c S 0) ?_ ?_
  · simp only [run_ok, run_okI, run_okB, run_alloc, run_stuck, run_bind, run_ite, run_noX, run_fnOf, w_c, w_op, w_un, w_call, w_callK, w_nil, w_cons, w_tup, w_lst, isB_bl, w_tval, w_tand, w_tor, w_tnot, w_and, w_or, w_not, w_if, s_next, s_seq, s_if, s_ret, s_drop, s_set, s_par, s_put, s_asg, w_var', runS_next, runS_ret, runS_stuck, runS_ite, List.length_cons, List.length_nil, List.length_singleton, List.map_cons, List.map_nil, List.cons_append, List.nil_append, List.replicate_succ, List.replicate_zero, List.getElem?_cons_zero, List.getElem?_cons_succ, List.set_cons_zero, List.set_cons_succ, Nat.reduceAdd, Nat.reduceSub, Nat.reduceEqDiff, ite_true, ite_false, if_true, if_false, reduceIte, Bool.false_eq_true, decide_true, decide_false, String.reduceEq, Int.reduceEq, Nat.reduceLeDiff, true_and, and_true, Bool.not_true, Bool.not_false, decide_eq_true_eq, List.append_nil, bType, bIsi, bLen, bInt, ty_int, ty_bl, ty_str, ty_non, ty_tup, isT, oIs, oIsNot, run_eqI, run_neI, Bool.or_false, Bool.or_true, Bool.false_or, Bool.true_or, Bool.and_true, Bool.and_false, Bool.true_and, Bool.false_and, reduceCtorEq, decide_not, Bool.not_eq_true', decide_eq_false_iff_not, askInt, askBool, askTuple, askList, askStr, oLe, oLt, oGe, oGt, oInt2, atI0, atI1, atI2, run_addI, run_subI]
    refine Run.mono (l_pick hc (by decide) (by decide) (by omega)) fun x S1 ⟨⟨i, e, h0, h1⟩, cs⟩ => ?_
    subst e
    exact ⟨.leaf i, _, _, rfl, .small h0 (by omega), cs⟩
  intro ρ S1 h1
  have turn : ∀ (j : Nat) (x : Val) (ρ : PD.Env) (S1 : Store), j < 12 → LoI c S j ρ S1 → ∃ ρ1, gN 3 x ρ = some ρ1 ∧ RunS ((sSeq (sSet 4 (dCall (fns n)._law_sip (aCons (dVar 0) (aCons (dC (.int 2)) aNil))))
    (sSeq (sIf (tAnd' (tNot' (tVal (dCall bIsi (aCons (dVar 2) (aCons (dC (.ty "tuple")) aNil))))) (tNot' (tVal (dVar 1)))) (sSet 4 (dOp oSub (dC (.int 1)) (dVar 2))) sNext)
    (sSeq (sIf (tVal (dVar 1)) (sAsg (gT [(gN 2), (gN 4)]) (dIf (tVal (dOp oNe (dVar 2) (dC (.int 0)))) (dTup (aCons (dVar 2) (aCons (dC (.int 0)) aNil))) (dTup (aCons (dC (.int 1)) (aCons (dC (.int 0)) aNil))))) sNext)
    (sSeq (sIf (tVal (dOp oEq (dCall (fns n)._law_sip (aCons (dVar 0) (aCons (dC (.int 2)) aNil))) (dC (.int 0)))) (sPar 2 4 (aCons (dVar 4) (aCons (dVar 2) aNil))) sNext)
    (sSet 2 (dIf (tVal (dVar 1)) (dTup (aCons (dCall (fns n)._law_sip (aCons (dVar 0) (aCons (dC (.int 3)) aNil))) (aCons (dVar 2) (aCons (dVar 4) aNil)))) (dTup (aCons (dVar 2) (aCons (dVar 4) aNil))))))))) ρ1 S1) (LoI c S (j + 1)) (fun r S' => (∃ t, r = toV t ∧ Cts t ∧ t.mx ≤ 1000) ∧ Cp c S S') := by
    rintro j x ρ S1 hj ⟨v, x3, x4, rfl, hv, cs⟩
    refine ⟨[some (.ref c), some (.bl true), some (toV v), some x, x4, none], rfl, ?_⟩
    refine s_step (N' := fun ρ S' => (∃ i : Int, ρ = [some (.ref c), some (.bl true), some (toV v), some x, some (.int i), none]) ∧ Cp c S S') ?_ ?_
    · simp only [run_ok, run_okI, run_okB, run_alloc, run_stuck, run_bind, run_ite, run_noX, run_fnOf, w_c, w_op, w_un, w_call, w_callK, w_nil, w_cons, w_tup, w_lst, isB_bl, w_tval, w_tand, w_tor, w_tnot, w_and, w_or, w_not, w_if, s_next, s_seq, s_if, s_ret, s_drop, s_set, s_par, s_put, s_asg, w_var', runS_next, runS_ret, runS_stuck, runS_ite, List.length_cons, List.length_nil, List.length_singleton, List.map_cons, List.map_nil, List.cons_append, List.nil_append, List.replicate_succ, List.replicate_zero, List.getElem?_cons_zero, List.getElem?_cons_succ, List.set_cons_zero, List.set_cons_succ, Nat.reduceAdd, Nat.reduceSub, Nat.reduceEqDiff, ite_true, ite_false, if_true, if_false, reduceIte, Bool.false_eq_true, decide_true, decide_false, String.reduceEq, Int.reduceEq, Nat.reduceLeDiff, true_and, and_true, Bool.not_true, Bool.not_false, decide_eq_true_eq, List.append_nil, bType, bIsi, bLen, bInt, ty_int, ty_bl, ty_str, ty_non, ty_tup, isT, oIs, oIsNot, run_eqI, run_neI, Bool.or_false, Bool.or_true, Bool.false_or, Bool.true_or, Bool.and_true, Bool.and_false, Bool.true_and, Bool.false_and, reduceCtorEq, decide_not, Bool.not_eq_true', decide_eq_false_iff_not, askInt, askBool, askTuple, askList, askStr, oLe, oLt, oGe, oGt, oInt2, atI0, atI1, atI2, run_addI, run_subI]
      refine Run.mono (l_pick cs.1 (by decide) (by decide) (by omega)) fun x S2 ⟨⟨i, e, h0, h1⟩, cs2⟩ => ?_
      subst e
      exact ⟨⟨_, rfl⟩, cs.trans cs2⟩
    clear cs
    rintro ρ S1 ⟨⟨i, rfl⟩, cs⟩
    refine s_step (N' := fun ρ S' => ρ = [some (.ref c), some (.bl true), some (toV v), some x, some (.int i), none] ∧ S' = S1) ?_ ?_
    · cases v <;> simp only [toV, askTuple, run_ok, run_okI, run_okB, run_alloc, run_stuck, run_bind, run_ite, run_noX, run_fnOf, w_c, w_op, w_un, w_call, w_callK, w_nil, w_cons, w_tup, w_lst, isB_bl, w_tval, w_tand, w_tor, w_tnot, w_and, w_or, w_not, w_if, s_next, s_seq, s_if, s_ret, s_drop, s_set, s_par, s_put, s_asg, w_var', runS_next, runS_ret, runS_stuck, runS_ite, List.length_cons, List.length_nil, List.length_singleton, List.map_cons, List.map_nil, List.cons_append, List.nil_append, List.replicate_succ, List.replicate_zero, List.getElem?_cons_zero, List.getElem?_cons_succ, List.set_cons_zero, List.set_cons_succ, Nat.reduceAdd, Nat.reduceSub, Nat.reduceEqDiff, ite_true, ite_false, if_true, if_false, reduceIte, Bool.false_eq_true, decide_true, decide_false, String.reduceEq, Int.reduceEq, Nat.reduceLeDiff, true_and, and_true, Bool.not_true, Bool.not_false, decide_eq_true_eq, List.append_nil, bType, bIsi, bLen, bInt, ty_int, ty_bl, ty_str, ty_non, ty_tup, isT, oIs, oIsNot, run_eqI, run_neI, Bool.or_false, Bool.or_true, Bool.false_or, Bool.true_or, Bool.and_true, Bool.and_false, Bool.true_and, Bool.false_and, reduceCtorEq, decide_not, Bool.not_eq_true', decide_eq_false_iff_not, askInt, askBool, askTuple, askList, askStr, oLe, oLt, oGe, oGt, oInt2, atI0, atI1, atI2, run_addI, run_subI]
    rintro ρ S2 ⟨rfl, rfl⟩
    have hvd := hv.dep
    refine s_step (N' := LoJ c S j) ?_ ?_
    · rw [s_if, w_tval, w_var rfl, isB_bl, if_pos rfl, s_asg, w_if, w_tval, w_op, w_var rfl, w_c, run_leaf_ne (by omega), isB_bl]
      cases hs : T.sameL v (.leaf 0) with
      | false =>
        rw [Bool.not_false, if_pos rfl, w_tup, w_cons, w_var rfl, w_cons, w_c, w_nil]
        refine ⟨Nat.le_of_ble_eq_true rfl, v, .leaf 0, some x, rfl, hv, .small (by decide) (by decide), by show v.tc + 0 ≤ j; have := hv.tc; omega, hv.mx, by show (0 : Int) ≤ _; omega, ⟨hs, ?_, .inr rfl⟩, cs⟩
        cases v with
        | leaf i =>
          have h : decide (i = 0) = false := hs
          show decide ((0 : Int) = i) = false
          have := of_decide_eq_false h
          exact decide_eq_false (by omega)
        | node => rfl
      | true =>
        rw [Bool.not_true, if_neg (by decide), w_tup, w_cons, w_c, w_cons, w_c, w_nil]
        exact ⟨Nat.le_of_ble_eq_true rfl, .leaf 1, .leaf 0, some x, rfl, .small (by decide) (by decide), .small (by decide) (by decide), Nat.zero_le _, by show (1 : Int) ≤ _; omega, by show (0 : Int) ≤ _; omega, ⟨rfl, rfl, .inr rfl⟩, cs⟩
    clear cs hv
    rintro ρ S1 ⟨x', y, x3, rfl, hx, hy, hxy, m1, m2, hp, cs⟩
    refine s_step (N' := LoJ c S j) ?_ ?_
    · simp only [run_ok, run_okI, run_okB, run_alloc, run_stuck, run_bind, run_ite, run_noX, run_fnOf, w_c, w_op, w_un, w_call, w_callK, w_nil, w_cons, w_tup, w_lst, isB_bl, w_tval, w_tand, w_tor, w_tnot, w_and, w_or, w_not, w_if, s_next, s_seq, s_if, s_ret, s_drop, s_set, s_par, s_put, s_asg, w_var', runS_next, runS_ret, runS_stuck, runS_ite, List.length_cons, List.length_nil, List.length_singleton, List.map_cons, List.map_nil, List.cons_append, List.nil_append, List.replicate_succ, List.replicate_zero, List.getElem?_cons_zero, List.getElem?_cons_succ, List.set_cons_zero, List.set_cons_succ, Nat.reduceAdd, Nat.reduceSub, Nat.reduceEqDiff, ite_true, ite_false, if_true, if_false, reduceIte, Bool.false_eq_true, decide_true, decide_false, String.reduceEq, Int.reduceEq, Nat.reduceLeDiff, true_and, and_true, Bool.not_true, Bool.not_false, decide_eq_true_eq, List.append_nil, bType, bIsi, bLen, bInt, ty_int, ty_bl, ty_str, ty_non, ty_tup, isT, oIs, oIsNot, run_eqI, run_neI, Bool.or_false, Bool.or_true, Bool.false_or, Bool.true_or, Bool.and_true, Bool.and_false, Bool.true_and, Bool.false_and, reduceCtorEq, decide_not, Bool.not_eq_true', decide_eq_false_iff_not, askInt, askBool, askTuple, askList, askStr, oLe, oLt, oGe, oGt, oInt2, atI0, atI1, atI2, run_addI, run_subI]
      refine Run.mono (l_pick cs.1 (by decide) (by decide) (by omega)) fun x S2 ⟨⟨i, e, h0, h1⟩, cs2⟩ => ?_
      subst e
      simp only [run_ok, run_okI, run_okB, run_alloc, run_stuck, run_bind, run_ite, run_noX, run_fnOf, w_c, w_op, w_un, w_call, w_callK, w_nil, w_cons, w_tup, w_lst, isB_bl, w_tval, w_tand, w_tor, w_tnot, w_and, w_or, w_not, w_if, s_next, s_seq, s_if, s_ret, s_drop, s_set, s_par, s_put, s_asg, w_var', runS_next, runS_ret, runS_stuck, runS_ite, List.length_cons, List.length_nil, List.length_singleton, List.map_cons, List.map_nil, List.cons_append, List.nil_append, List.replicate_succ, List.replicate_zero, List.getElem?_cons_zero, List.getElem?_cons_succ, List.set_cons_zero, List.set_cons_succ, Nat.reduceAdd, Nat.reduceSub, Nat.reduceEqDiff, ite_true, ite_false, if_true, if_false, reduceIte, Bool.false_eq_true, decide_true, decide_false, String.reduceEq, Int.reduceEq, Nat.reduceLeDiff, true_and, and_true, Bool.not_true, Bool.not_false, decide_eq_true_eq, List.append_nil, bType, bIsi, bLen, bInt, ty_int, ty_bl, ty_str, ty_non, ty_tup, isT, oIs, oIsNot, run_eqI, run_neI, Bool.or_false, Bool.or_true, Bool.false_or, Bool.true_or, Bool.and_true, Bool.and_false, Bool.true_and, Bool.false_and, reduceCtorEq, decide_not, Bool.not_eq_true', decide_eq_false_iff_not, askInt, askBool, askTuple, askList, askStr, oLe, oLt, oGe, oGt, oInt2, atI0, atI1, atI2, run_addI, run_subI]
      split
      · exact ⟨_, _, _, rfl, hy, hx, by omega, m2, m1, ⟨hp.2.1, hp.1, hp.2.2.symm⟩, cs.trans cs2⟩
      · exact ⟨_, _, _, rfl, hx, hy, hxy, m1, m2, hp, cs.trans cs2⟩
    clear cs hx hy hxy m1 m2 hp
    rintro ρ S1 ⟨x', y, x3, rfl, hx, hy, hxy, m1, m2, ⟨p1, _, p3⟩, cs⟩
    rw [s_set, w_if, w_tval, w_var rfl, isB_bl, if_pos rfl, w_tup, w_cons, w_call, w_cons, w_var rfl, w_cons, w_c, w_nil]
    refine Run.mono (l_pick cs.1 (by decide) (by decide) (by omega)) fun x S2 ⟨⟨i, e, h0, h1⟩, cs2⟩ => ?_
    subst e
    rw [w_cons, w_var rfl, w_cons, w_var rfl, w_nil]
    refine ⟨Nat.le_of_ble_eq_true rfl, .node i x' y, _, _, rfl, ⟨T.co_node.mpr ⟨hx.co, hy.co, p1, T.top_nn hx.nn, T.top_nn hy.nn, p3⟩, T.nn_node.mpr ⟨h0, hx.nn, hy.nn⟩, ?_, ?_, ?_⟩, cs.trans cs2⟩
    · have := hx.dep
      have := hy.dep
      show 1 + max x'.dep y.dep ≤ j + 1
      omega
    · show 1 + (x'.tc + y.tc) ≤ j + 1
      omega
    · show i + max x'.mx y.mx ≤ 4 + 2 * ((j + 1 : Nat) : Int)
      omega
  obtain ⟨v, x3, x4, rfl, hv, cs⟩ := h1
  refine s_step (N' := fun ρ S' => (∃ x2 x3 x4, ρ = [some (.ref c), some (.bl true), x2, x3, x4, none]) ∧ Cp c S S') ?_ ?_
  · rw [s_if, w_tval, w_op, w_call, w_cons, w_var rfl, w_cons, w_c, w_nil]
    refine Run.mono (l_pick cs.1 (by decide) (by decide) (by omega)) fun x S2 ⟨⟨i, e, h0, h1⟩, cs2⟩ => ?_
    subst e
    rw [w_c, run_gtI, isB_bl]
    by_cases hi : 0 < i
    · rw [decide_eq_true hi, if_pos rfl]
      refine s_step (N' := fun ρ S' => ∃ j, j ≤ 12 ∧ LoI c S j ρ S') ?_ ?_
      · rw [s_forR, w_cons, w_op, w_c, w_call, w_cons, w_var rfl, w_cons, w_c, w_nil]
        refine Run.mono (l_pick cs2.1 (by decide) (by decide) (by omega)) fun x S3 ⟨⟨i3, e, h30, h31⟩, cs3⟩ => ?_
        subst e
        rw [run_addI, w_nil]
        obtain ⟨q, hq⟩ : ∃ q : Nat, (6 : Int) + i3 = (q : Int) := ⟨(6 + i3).toNat, by omega⟩
        rw [hq]
        show if -(2 ^ 62) ≤ (q : Int) ∧ (q : Int) < 2 ^ 62 then _ else False
        rw [if_pos (by constructor <;> omega), Int.toNat_natCast]
        refine RunS.mono (runS_loopV q (LoI c S) (fun j x ρ S hj h => turn j x ρ S (by omega) h) (rangeV 0 q) 0 _ _ (by rw [rangeV_len]; omega) ⟨v, x3, x4, rfl, hv, (cs.trans cs2).trans cs3⟩) (fun ρ S' h => ⟨q, by omega, by rw [rangeV_len, Nat.zero_add] at h; exact h⟩) fun _ _ h => h
      rintro ρ S4 ⟨j, hj, v, x3, x4, rfl, hv, cs4⟩
      rw [s_ret, w_var rfl]
      have h1 := hv.dep
      have h2 := hv.tc
      have h3 := hv.mx
      exact ⟨⟨v, rfl, ⟨hv.co, hv.nn, by omega, by omega⟩, by omega⟩, cs4⟩
    · rw [decide_eq_false hi, if_neg (by decide)]
      exact ⟨⟨_, _, _, rfl⟩, cs.trans cs2⟩
  rintro ρ S2 ⟨⟨x2, x3, x4, rfl⟩, cs2⟩
  refine s_step (N' := fun ρ S' => ρ = [some (.ref c), some (.bl true), x2, x3, x4, some (toV (.node 0 (.leaf 0) (.leaf 1)))] ∧ S' = S2) ?_ ?_
  · simp only [run_ok, run_okI, run_okB, run_alloc, run_stuck, run_bind, run_ite, run_noX, run_fnOf, w_c, w_op, w_un, w_call, w_callK, w_nil, w_cons, w_tup, w_lst, isB_bl, w_tval, w_tand, w_tor, w_tnot, w_and, w_or, w_not, w_if, s_next, s_seq, s_if, s_ret, s_drop, s_set, s_par, s_put, s_asg, w_var', runS_next, runS_ret, runS_stuck, runS_ite, List.length_cons, List.length_nil, List.length_singleton, List.map_cons, List.map_nil, List.cons_append, List.nil_append, List.replicate_succ, List.replicate_zero, List.getElem?_cons_zero, List.getElem?_cons_succ, List.set_cons_zero, List.set_cons_succ, Nat.reduceAdd, Nat.reduceSub, Nat.reduceEqDiff, ite_true, ite_false, if_true, if_false, reduceIte, Bool.false_eq_true, decide_true, decide_false, String.reduceEq, Int.reduceEq, Nat.reduceLeDiff, true_and, and_true, Bool.not_true, Bool.not_false, decide_eq_true_eq, List.append_nil, bType, bIsi, bLen, bInt, ty_int, ty_bl, ty_str, ty_non, ty_tup, isT, oIs, oIsNot, run_eqI, run_neI, Bool.or_false, Bool.or_true, Bool.false_or, Bool.true_or, Bool.and_true, Bool.and_false, Bool.true_and, Bool.false_and, reduceCtorEq, decide_not, Bool.not_eq_true', decide_eq_false_iff_not, askInt, askBool, askTuple, askList, askStr, oLe, oLt, oGe, oGt, oInt2, atI0, atI1, atI2, run_addI, run_subI]
    exact rfl
  rintro ρ S3 ⟨rfl, rfl⟩
  refine s_step (N' := fun ρ S' => (∃ v x3, ρ = [some (.ref c), some (.bl true), x2, x3, x4, some (toV v)] ∧ v.co = true ∧ v.nn = true ∧ v.dep = 6 ∧ v.tc = 63 ∧ v.top = 0 ∧ v.mx ≤ 1) ∧ S' = S3) ?_ ?_
  · rw [s_forR, w_cons, w_c, w_nil]
    show if -(2 ^ 62) ≤ (5 : Int) ∧ (5 : Int) < 2 ^ 62 then _ else False
    rw [if_pos (by decide)]
    refine RunS.mono (runS_loopV 5 (fun j ρ S' => (∃ v x3, ρ = [some (.ref c), some (.bl true), x2, x3, x4, some (toV v)] ∧ v.co = true ∧ v.nn = true ∧ v.dep = j + 1 ∧ v.tc = 2 ^ (j + 1) - 1 ∧ v.top = 0 ∧ v.mx ≤ 1) ∧ S' = S3) ?_ _ 0 _ _ (by rw [rangeV_len]; decide) ⟨⟨_, _, rfl, by decide, by decide, by decide, by decide, by decide, by decide⟩, rfl⟩) ?_ fun _ _ h => h
    · rintro j x ρ S4 hj ⟨⟨v, x3, rfl, v1, v2, v3, v4, v5, v6⟩, rfl⟩
      refine ⟨[some (.ref c), some (.bl true), x2, some x, x4, some (toV v)], rfl, ?_⟩
      rw [s_set, w_if, w_tval, w_var rfl, isB_bl, if_pos rfl, w_tup, w_cons, w_c, w_cons, w_var rfl, w_cons, w_var rfl, w_nil]
      have hp : 1 ≤ 2 ^ (j + 1) := Nat.pow_pos (by decide)
      have hsm : T.sameL v v = false := by
        cases v with
        | leaf i => exact absurd v3 (by show ¬ (0 = j + 1); omega)
        | node => rfl
      refine ⟨Nat.le_of_ble_eq_true rfl, ⟨.node 0 v v, some x, rfl, T.co_node.mpr ⟨v1, v1, hsm, by omega, by omega, .inl v5⟩, T.nn_node.mpr ⟨by decide, v2, v2⟩, ?_, ?_, rfl, ?_⟩, rfl⟩
      · show 1 + max v.dep v.dep = j + 1 + 1
        omega
      · show 1 + (v.tc + v.tc) = 2 ^ (j + 1 + 1) - 1
        rw [Nat.pow_succ 2 (j + 1)]; omega
      · show 0 + max v.mx v.mx ≤ 1
        omega
    · rw [rangeV_len]
      exact fun _ _ h => h
  rintro ρ S4 ⟨⟨v, x3, rfl, v1, v2, v3, v4, v5, v6⟩, rfl⟩
  rw [s_ret, w_var rfl]
  exact ⟨⟨v, rfl, ⟨v1, v2, by omega, by omega⟩, by omega⟩, cs2⟩
/-! ### a path -/
theorem l_path {c n : Nat} {S : Store} (hc : PoolAt c S) (hn : 1 < n) : Run ((fns n)._law_path [.ref c] S) (fun r S' => (∃ p, r = pathV p ∧ Pth p) ∧ Cp c S S') := by
  obtain ⟨n, rfl⟩ : ∃ m, n = m + 1 := ⟨n - 1, by omega⟩
  show Run (fnOf 1 2 (b__law_path (fns n)) [.ref c] S) _
  unfold b__law_path
  refine run_fn (ρ := [some (.ref c), none]) rfl rfl ?_
  rw [s_ret, w_call, w_cons]
  unfold dLCR
  rw [run_bind, w_cons, w_op, w_lst, w_cons, w_call, w_cons, w_var rfl, w_cons, w_c, w_nil]
  refine Run.mono (l_pick hc (by decide) (by decide) (by omega)) fun x S1 ⟨⟨i1, e, h10, h11⟩, c1⟩ => ?_
  subst e
  rw [w_cons, w_call, w_cons, w_var rfl, w_cons, w_c, w_nil]
  refine Run.mono (l_pick c1.1 (by decide) (by decide) (by omega)) fun x S2 ⟨⟨i2, e, h20, h21⟩, c2⟩ => ?_
  subst e
  rw [w_nil]
  refine ⟨Nat.le_of_ble_eq_true rfl, ?_⟩
  rw [w_call, w_cons, w_var rfl, w_cons, w_c, w_nil]
  refine Run.mono (l_draw (k := 2) (P := fun x => ∃ i : Int, x = .int i ∧ 0 ≤ i ∧ i ≤ 12) c2.1 rfl rfl (by decide) (by decide) (by omega) ?_) fun x S3 hx => Run.mono hx fun x S4 ⟨⟨i, e, h0, h1⟩, c3⟩ => ?_
  · exact mem2 ⟨_, rfl, h10, by omega⟩ ⟨_, rfl, h20, by omega⟩
  subst e
  rw [w_nil]
  obtain ⟨q, rfl⟩ : ∃ q : Nat, i = (q : Int) := ⟨i.toNat, by omega⟩
  show Run (if -(2 ^ 62) ≤ (q : Int) ∧ (q : Int) < 2 ^ 62 then (compG (srcL (rangeV 0 (q : Int).toNat)) (gN 1) tYes' _ (q : Int).toNat 0 [] (wipeE [some (.ref c), none] [1]) S4).bind alloc else .stuck) _
  rw [if_pos (by constructor <;> omega), Int.toNat_natCast, run_bind]
  have cc := (c1.trans c2).trans c3
  have hcomp := comp_inv (f := dCall (fns n)._law_sip (aCons (dVar 0) (aCons (dC (.int 2)) aNil))) (v := 1) (ρ := wipeE [some (.ref c), none] [1]) (ys := rangeV 0 q) 12 (fun acc S' => (∃ p : List Int, acc = p.map Val.int ∧ ∀ i ∈ p, i = 0 ∨ i = 1) ∧ Cp c S S') (fun x acc S5 _ ⟨⟨p, hp, hh⟩, c5⟩ => by
    show Run (dCall (fns n)._law_sip (aCons (dVar 0) (aCons (dC (.int 2)) aNil)) [some (.ref c), some x] S5) _
    rw [w_call, w_cons, w_var rfl, w_cons, w_c, w_nil]
    refine Run.mono (l_pick c5.1 (by decide) (by decide) (by omega)) fun y S6 ⟨⟨j, e, g0, g1⟩, c6⟩ => ?_
    subst e hp
    refine ⟨⟨p ++ [j], by rw [List.map_append]; rfl, fun i hi => ?_⟩, c5.trans c6⟩
    rcases List.mem_append.mp hi with hi | hi
    · exact hh i hi
    · rw [List.mem_singleton.mp hi]; omega) (rangeV 0 q) 0 [] S4 (by rw [rangeV_len, List.length_nil]; omega) (by decide) ⟨⟨[], rfl, fun _ h => nomatch h⟩, cc⟩ rfl (Nat.zero_le _)
  rw [rangeV_len] at hcomp
  refine Run.mono hcomp fun zs S5 ⟨hl, ⟨p, hp, hh⟩, c5⟩ => ?_
  subst hp
  rw [run_alloc, w_nil, run_tuple (get_new _ _)]
  rw [List.length_map, List.length_nil] at hl
  exact ⟨⟨p, rfl, by omega, hh⟩, c5.kp (Gr.add _ _).kp⟩

end PD.K05

/-! ## K05M6 -/
set_option Elab.async false
set_option linter.all false
set_option maxRecDepth 100000
set_option maxHeartbeats 1000000
namespace PD.K05
open PySem PySem.Spec L2 PD LT
/-! ### values that are no counts, no paths -/
theorem no_of {v : Val} (h : isCo 12 v = false) : coOk v = false := by
  unfold coOk
  rw [h]; rfl
/-- a list of data, all of which keep a promise -/
def Bs (P : Val → Prop) (c n m : Nat) (S : Store) : Prop := m ≠ c ∧ ∃ xs, S[m]? = some (.lst xs) ∧ xs.length = n ∧ ∀ x ∈ xs, Dc c S 20 x ∧ P x
theorem Bs.kx {P : Val → Prop} {c n m : Nat} {S S' : Store} (h : Bs P c n m S) (q : Kx c S S') : Bs P c n m S' := by
  obtain ⟨a, xs, e, hl, hx⟩ := h
  exact ⟨a, xs, q _ _ a e, hl, fun x hm => ⟨(hx x hm).1.kx q, (hx x hm).2⟩⟩
theorem Bs.more {P : Val → Prop} {c n m : Nat} {S : Store} {ys : List Val} (h : Bs P c n m S) (hc : c < S.length) (hy : ∀ y ∈ ys, Dc c S 20 y ∧ P y) (hl : n + ys.length ≤ 1000) :
    Run (oAdd (.ref m) (.ref S.length) (S ++ [.lst ys])) (fun r S' => ∃ m', r = .ref m' ∧ Bs P c (n + ys.length) m' S' ∧ Kp S S') := by
  obtain ⟨a, xs, e, hk, hx⟩ := h
  rw [run_addL ((Gr.add _ _).get e) (get_new _ _) (by omega)]
  have k := ((Gr.add S [.lst ys]).trans (Gr.add _ [.lst (xs ++ ys)])).kp
  refine ⟨_, rfl, ⟨by rw [List.length_append]; omega, xs ++ ys, get_new _ _, by rw [List.length_append, hk], fun x h => ?_⟩, k⟩
  rcases List.mem_append.mp h with h | h
  · exact ⟨(hx x h).1.kx k.kx, (hx x h).2⟩
  · exact ⟨(hy x h).1.kx k.kx, (hy x h).2⟩
abbrev BC : Val → Prop := fun x => coOk x = false
abbrev CE (c : Nat) (t : T) (x2 : Option Val) : PD.Env := [some (.ref c), some (toV t), x2]
theorem dcI (c d : Nat) (S : Store) (i : Int) : Dc c S d (.int i) := .int _ _
theorem dc_gd {c : Nat} {S : Store} {v : Val} (h : (match gd v with | some (d, L) => decide (d ≤ 20) && decide (L ≤ 100000) && decide (d < 66) | none => false) = true) : Dc c S 20 v := (gd_all (c := c) (S := S) (d' := 20) (L' := 100000) h).da
section
variable {c n m : Nat} {t : T} {S : Store} {R : Val → Store → Prop}
theorem bc_0 (hc : PoolAt c S) : RunS (st__law_bad_counts_0 (fns n) (CE c t none) S) (fun ρ S' => ∃ m, ρ = CE c t (some (.ref m)) ∧ Bs BC c 12 m S' ∧ Cp c S S') R := by
  unfold st__law_bad_counts_0
  simp only [w_un, run_neg, run_ok, run_okI, run_okB, run_alloc, run_stuck, run_bind, run_ite, run_noX, run_fnOf, w_c, w_op, w_un, w_call, w_callK, w_nil, w_cons, w_tup, w_lst, isB_bl, w_tval, w_tand, w_tor, w_tnot, w_and, w_or, w_not, w_if, s_next, s_seq, s_if, s_ret, s_drop, s_set, s_par, s_put, s_asg, w_var', runS_next, runS_ret, runS_stuck, runS_ite, List.length_cons, List.length_nil, List.length_singleton, List.map_cons, List.map_nil, List.cons_append, List.nil_append, List.replicate_succ, List.replicate_zero, List.getElem?_cons_zero, List.getElem?_cons_succ, List.set_cons_zero, List.set_cons_succ, Nat.reduceAdd, Nat.reduceSub, Nat.reduceEqDiff, ite_true, ite_false, if_true, if_false, reduceIte, Bool.false_eq_true, decide_true, decide_false, String.reduceEq, Int.reduceEq, Nat.reduceLeDiff, true_and, and_true, Bool.not_true, Bool.not_false, decide_eq_true_eq, List.append_nil, bType, bIsi, bLen, bInt, ty_int, ty_bl, ty_str, ty_non, ty_tup, isT, oIs, oIsNot, run_eqI, run_neI, Bool.or_false, Bool.or_true, Bool.false_or, Bool.true_or, Bool.and_true, Bool.and_false, Bool.true_and, Bool.false_and, reduceCtorEq, decide_not, Bool.not_eq_true', decide_eq_false_iff_not, askInt, askBool, askTuple, askList, askStr, oLe, oLt, oGe, oGt, oInt2, atI0, atI1, atI2, run_addI, run_subI]
  have kA := (Gr.add S [.lst [.int 0, .int 0, .int 1]]).kp
  have hA := get_new S (.lst [.int 0, .int 0, .int 1])
  have cA := hc.kp kA
  have hlA : S.length ≠ c := Nat.ne_of_gt hc.lt
  generalize S ++ [.lst [.int 0, .int 0, .int 1]] = A at *
  have kB := fun x : Cell => (Gr.add A [x]).kp
  refine ⟨_, rfl, ⟨Nat.ne_of_gt cA.lt, _, get_new _ _, rfl, ?_⟩, Cp.of hc (kA.trans (kB _))⟩
  have g1 : ∀ x : Cell, Dc c (A ++ [x]) 20 (.ref S.length) := fun x => Dc.up (.ref (d := 0) hlA (kB x _ _ hA) (mem3 (dcI _ _ _ _) (dcI _ _ _ _) (dcI _ _ _ _))) (by omega)
  simp only [List.mem_cons, List.not_mem_nil, or_false, forall_eq_or_imp, forall_eq]
  exact ⟨⟨dc_gd (by decide +kernel), by decide +kernel⟩, ⟨dc_gd (by decide +kernel), by decide +kernel⟩, ⟨dc_gd (by decide +kernel), by decide +kernel⟩, ⟨dc_gd (by decide +kernel), by decide +kernel⟩, ⟨dc_gd (by decide +kernel), by decide +kernel⟩, ⟨dc_gd (by decide +kernel), by decide +kernel⟩, ⟨dc_gd (by decide +kernel), by decide +kernel⟩, ⟨dc_gd (by decide +kernel), by decide +kernel⟩, ⟨dc_gd (by decide +kernel), by decide +kernel⟩, ⟨dc_gd (by decide +kernel), by decide +kernel⟩, ⟨g1 _, rfl⟩, ⟨dc_gd (by decide +kernel), by decide +kernel⟩⟩
theorem isCo_ref {k m : Nat} : isCo k (.ref m) = false := by cases k <;> rfl
theorem isCo_non {k : Nat} : isCo k .non = false := by cases k <;> rfl
theorem bc_1 (hc : PoolAt c S) (ht : t.dep ≤ 12) (hv : Bs BC c 12 m S) : RunS (st__law_bad_counts_1 (fns n) (CE c t (some (.ref m))) S) (fun ρ S' => ∃ m, ρ = CE c t (some (.ref m)) ∧ Bs BC c 20 m S' ∧ Cp c S S') R := by
  unfold st__law_bad_counts_1
  simp only [w_un, run_neg, run_ok, run_okI, run_okB, run_alloc, run_stuck, run_bind, run_ite, run_noX, run_fnOf, w_c, w_op, w_un, w_call, w_callK, w_nil, w_cons, w_tup, w_lst, isB_bl, w_tval, w_tand, w_tor, w_tnot, w_and, w_or, w_not, w_if, s_next, s_seq, s_if, s_ret, s_drop, s_set, s_par, s_put, s_asg, w_var', runS_next, runS_ret, runS_stuck, runS_ite, List.length_cons, List.length_nil, List.length_singleton, List.map_cons, List.map_nil, List.cons_append, List.nil_append, List.replicate_succ, List.replicate_zero, List.getElem?_cons_zero, List.getElem?_cons_succ, List.set_cons_zero, List.set_cons_succ, Nat.reduceAdd, Nat.reduceSub, Nat.reduceEqDiff, ite_true, ite_false, if_true, if_false, reduceIte, Bool.false_eq_true, decide_true, decide_false, String.reduceEq, Int.reduceEq, Nat.reduceLeDiff, true_and, and_true, Bool.not_true, Bool.not_false, decide_eq_true_eq, List.append_nil, bType, bIsi, bLen, bInt, ty_int, ty_bl, ty_str, ty_non, ty_tup, isT, oIs, oIsNot, run_eqI, run_neI, Bool.or_false, Bool.or_true, Bool.false_or, Bool.true_or, Bool.and_true, Bool.and_false, Bool.true_and, Bool.false_and, reduceCtorEq, decide_not, Bool.not_eq_true', decide_eq_false_iff_not, askInt, askBool, askTuple, askList, askStr, oLe, oLt, oGe, oGt, oInt2, atI0, atI1, atI2, run_addI, run_subI]
  have kA := (Gr.add S [.lst [toV t]]).kp
  have hA := get_new S (.lst [toV t])
  have cA := hc.kp kA
  have hlA : S.length ≠ c := Nat.ne_of_gt hc.lt
  have vA := hv.kx kA.kx
  generalize S ++ [.lst [toV t]] = A at *
  have dT : ∀ d, 12 ≤ d → Dc c A d (toV t) := fun d h => dc_toV (by omega)
  refine Run.mono (Bs.more (ys := [_, _, _, _, _, _, _, _]) vA cA.lt ?_ (Nat.le_of_ble_eq_true rfl)) fun r S2 ⟨m', e, hv', k2⟩ => ?_
  · simp only [List.mem_cons, List.not_mem_nil, or_false, forall_eq_or_imp, forall_eq]
    refine ⟨⟨dc_gd (by decide +kernel), by decide +kernel⟩, ⟨dc_gd (by decide +kernel), by decide +kernel⟩, ⟨dc_gd (by decide +kernel), by decide +kernel⟩,
      ⟨dc3 (dcI _ _ _ _) (dT _ (by omega)) (.non _), no_of ?_⟩, ⟨dc3 (.non _) (dT _ (by omega)) (dcI _ _ _ _), no_of (isCo_first rfl)⟩, ⟨.tup fun x hx => by rw [List.mem_singleton.mp hx]; exact dT _ (by omega), no_of (isCo_len (by simp))⟩,
      ⟨Dc.up (.ref (d := 12) hlA hA fun x hx => by rw [List.mem_singleton.mp hx]; exact dT _ (by omega)) (by omega), no_of isCo_ref⟩, ⟨dc_gd (by decide +kernel), by decide +kernel⟩⟩
    rw [isCo_three, isCo_non]
    simp
  · subst e
    exact ⟨m', rfl, hv', (Cp.of hc kA).kp k2⟩
theorem bc_2 (hc : PoolAt c S) (hv : Bs BC c 20 m S) : RunS (st__law_bad_counts_2 (fns n) (CE c t (some (.ref m))) S) (fun ρ S' => ∃ m, ρ = CE c t (some (.ref m)) ∧ Bs BC c 25 m S' ∧ Cp c S S') R := by
  unfold st__law_bad_counts_2
  simp only [w_un, run_ok, run_okI, run_okB, run_alloc, run_stuck, run_bind, run_ite, run_noX, run_fnOf, w_c, w_op, w_un, w_call, w_callK, w_nil, w_cons, w_tup, w_lst, isB_bl, w_tval, w_tand, w_tor, w_tnot, w_and, w_or, w_not, w_if, s_next, s_seq, s_if, s_ret, s_drop, s_set, s_par, s_put, s_asg, w_var', runS_next, runS_ret, runS_stuck, runS_ite, List.length_cons, List.length_nil, List.length_singleton, List.map_cons, List.map_nil, List.cons_append, List.nil_append, List.replicate_succ, List.replicate_zero, List.getElem?_cons_zero, List.getElem?_cons_succ, List.set_cons_zero, List.set_cons_succ, Nat.reduceAdd, Nat.reduceSub, Nat.reduceEqDiff, ite_true, ite_false, if_true, if_false, reduceIte, Bool.false_eq_true, decide_true, decide_false, String.reduceEq, Int.reduceEq, Nat.reduceLeDiff, true_and, and_true, Bool.not_true, Bool.not_false, decide_eq_true_eq, List.append_nil, bType, bIsi, bLen, bInt, ty_int, ty_bl, ty_str, ty_non, ty_tup, isT, oIs, oIsNot, run_eqI, run_neI, Bool.or_false, Bool.or_true, Bool.false_or, Bool.true_or, Bool.and_true, Bool.and_false, Bool.true_and, Bool.false_and, reduceCtorEq, decide_not, Bool.not_eq_true', decide_eq_false_iff_not, askInt, askBool, askTuple, askList, askStr, oLe, oLt, oGe, oGt, oInt2, atI0, atI1, atI2, run_addI, run_subI]
  rw [show ∀ Q, Run (oPow (.int 10) (.int 30) S) Q = Q (.int (10 ^ 30)) S from fun Q => run_powE (a := 10) (b := 30) (by decide) (by decide), run_neg]
  have kA := (Gr.add S [.lst [.int 0, .int 0, .int 1]]).kp
  have hA := get_new S (.lst [.int 0, .int 0, .int 1])
  have cA := hc.kp kA
  have hlA : S.length ≠ c := Nat.ne_of_gt hc.lt
  have vA := hv.kx kA.kx
  generalize S ++ [.lst [.int 0, .int 0, .int 1]] = A at *
  refine Run.mono (Bs.more (ys := [_, _, _, _, _]) vA cA.lt ?_ (Nat.le_of_ble_eq_true rfl)) fun r S2 ⟨m', e, hv', k2⟩ => ?_
  · simp only [List.mem_cons, List.not_mem_nil, or_false, forall_eq_or_imp, forall_eq]
    refine ⟨⟨dc_gd (by decide +kernel), by decide +kernel⟩, ⟨dc_gd (by decide +kernel), by decide +kernel⟩, ⟨dc_gd (by decide +kernel), by decide +kernel⟩, ⟨dc_gd (by decide +kernel), by decide +kernel⟩,
      ⟨Dc.up (dc3 (d := 1) (dcI _ _ _ _) (dcI _ _ _ _) (.ref (d := 0) hlA hA (mem3 (dcI _ _ _ _) (dcI _ _ _ _) (dcI _ _ _ _)))) (by omega), no_of ?_⟩⟩
    rw [isCo_three, isCo_ref]
    simp
  · subst e
    exact ⟨m', rfl, hv', (Cp.of hc kA).kp k2⟩
/-- beyond all counts: too many tuples, too deep -/
structure Bw (u : T) (d w : Nat) : Prop where
  dep : u.dep = d
  tc : u.tc = w
theorem cut3 {a b x : Val} : cutL [a, b, x] none (some (-2)) = [a] := rfl
theorem node_toV {m : Int} {l r : T} : Val.tup [.int m, toV l, toV r] = toV (.node m l r) := rfl
theorem by_loop1 {a x2 : Option Val} {m : Int} {l r : T} : RunS (loopV (gN 2) (sSet 0 (dOp oAdd (dSl (dVar 0) oNone (oSome (dUn oNeg (dC (.int 2))))) (dTup (aCons (dVar 0) (aCons (dVar 0) aNil))))) (rangeV 0 6) [some (toV (.node m l r)), a, x2] S)
    (fun ρ S' => (∃ u x2, ρ = [some (toV u), a, x2] ∧ u.dep = 6 + (T.node m l r).dep ∧ u.tc + 1 = 64 * ((T.node m l r).tc + 1)) ∧ S' = S) R := by
  refine RunS.mono (runS_loopV 6 (fun j ρ S' => (∃ m' l' r' x2, ρ = [some (toV (.node m' l' r')), a, x2] ∧ (T.node m' l' r').dep = j + (T.node m l r).dep ∧ (T.node m' l' r').tc + 1 = 2 ^ j * ((T.node m l r).tc + 1)) ∧ S' = S) ?_ _ 0 _ _ (by rw [rangeV_len]; decide) ⟨⟨m, l, r, x2, rfl, by omega, by omega⟩, rfl⟩) ?_ fun _ _ h => h
  · rintro j x ρ S1 hj ⟨⟨m', l', r', x2, rfl, h1, h2⟩, rfl⟩
    refine ⟨[some (toV (.node m' l' r')), a, some x], rfl, ?_⟩
    rw [s_set, w_op, w_sl, w_var rfl, w_oNone, w_oSome, w_un, w_c, run_neg]
    show Run (vSl (.tup [.int m', toV l', toV r']) none (some (-2)) S1) _
    rw [run_slT, cut3, w_tup, w_cons, w_var rfl, w_cons, w_var rfl, w_nil]
    refine ⟨Nat.le_of_ble_eq_true rfl, ?_⟩
    rw [run_addT (Nat.le_of_ble_eq_true rfl)]
    refine ⟨⟨m', .node m' l' r', .node m' l' r', some x, rfl, ?_, ?_⟩, rfl⟩
    · show 1 + max (T.node m' l' r').dep (T.node m' l' r').dep = _
      omega
    · show 1 + ((T.node m' l' r').tc + (T.node m' l' r').tc) + 1 = _
      rw [Nat.pow_succ, Nat.mul_comm (2 ^ j) 2, Nat.mul_assoc, ← h2]; omega
  · rintro ρ S' ⟨⟨m', l', r', x2, rfl, h1, h2⟩, rfl⟩
    rw [rangeV_len] at h1 h2
    exact ⟨⟨_, _, rfl, by omega, by omega⟩, rfl⟩
theorem by_loop2 {a x2 : Option Val} {m : Int} {l r : T} : RunS (loopV (gN 2) (sSet 1 (dOp oAdd (dSl (dVar 1) oNone (oSome (dUn oNeg (dC (.int 2))))) (dTup (aCons (dC (.int 0)) (aCons (dVar 1) aNil))))) (rangeV 0 12) [a, some (toV (.node m l r)), x2] S)
    (fun ρ S' => (∃ u x2, ρ = [a, some (toV u), x2] ∧ u.dep = 12 + (T.node m l r).dep) ∧ S' = S) R := by
  refine RunS.mono (runS_loopV 12 (fun j ρ S' => (∃ m' l' r' x2, ρ = [a, some (toV (.node m' l' r')), x2] ∧ (T.node m' l' r').dep = j + (T.node m l r).dep) ∧ S' = S) ?_ _ 0 _ _ (by rw [rangeV_len]; decide) ⟨⟨m, l, r, x2, rfl, by omega⟩, rfl⟩) ?_ fun _ _ h => h
  · rintro j x ρ S1 hj ⟨⟨m', l', r', x2, rfl, h1⟩, rfl⟩
    refine ⟨[a, some (toV (.node m' l' r')), some x], rfl, ?_⟩
    rw [s_set, w_op, w_sl, w_var rfl, w_oNone, w_oSome, w_un, w_c, run_neg]
    show Run (vSl (.tup [.int m', toV l', toV r']) none (some (-2)) S1) _
    rw [run_slT, cut3, w_tup, w_cons, w_c, w_cons, w_var rfl, w_nil]
    refine ⟨Nat.le_of_ble_eq_true rfl, ?_⟩
    rw [run_addT (Nat.le_of_ble_eq_true rfl)]
    refine ⟨⟨m', .leaf 0, .node m' l' r', some x, rfl, ?_⟩, rfl⟩
    show 1 + max 0 (T.node m' l' r').dep = _
    omega
  · rintro ρ S' ⟨⟨m', l', r', x2, rfl, h1⟩, rfl⟩
    rw [rangeV_len] at h1
    exact ⟨⟨_, _, rfl, by omega⟩, rfl⟩
theorem l_beyond (hn : 0 < n) : Run ((fns n)._law_beyond [toV (.node 0 (.leaf 0) (.leaf 1)), toV (.node 0 (.leaf 0) (.leaf 1))] S) (fun r S' => ∃ u w : T, r = .ref S.length ∧ S' = S ++ [.lst [toV u, toV w]] ∧ u.dep = 7 ∧ u.tc = 127 ∧ w.dep = 13) := by
  obtain ⟨n, rfl⟩ : ∃ m, n = m + 1 := ⟨n - 1, by omega⟩
  show Run (fnOf 2 3 (b__law_beyond (fns n)) [toV (.node 0 (.leaf 0) (.leaf 1)), toV (.node 0 (.leaf 0) (.leaf 1))] S) _
  unfold b__law_beyond
  refine run_fn (ρ := [some (toV (.node 0 (.leaf 0) (.leaf 1))), some (toV (.node 0 (.leaf 0) (.leaf 1))), none]) rfl rfl ?_
  refine s_step (N' := fun ρ S' => (∃ u x2, ρ = [some (toV u), some (toV (.node 0 (.leaf 0) (.leaf 1))), x2] ∧ u.dep = 7 ∧ u.tc = 127) ∧ S' = S) ?_ ?_
  · rw [s_forR, w_cons, w_c, w_nil]
    show if -(2 ^ 62) ≤ (6 : Int) ∧ (6 : Int) < 2 ^ 62 then _ else False
    rw [if_pos (by decide)]
    refine RunS.mono by_loop1 (fun ρ S' h => ?_) fun _ _ h => h
    have e1 : (T.node 0 (.leaf 0) (.leaf 1)).tc = 1 := rfl
    have e2 : (T.node 0 (.leaf 0) (.leaf 1)).dep = 1 := rfl
    obtain ⟨⟨u, x2, rfl, d, w⟩, rfl⟩ := h
    exact ⟨⟨u, x2, rfl, by omega, by omega⟩, rfl⟩
  rintro ρ S1 ⟨⟨u, x2, rfl, u1, u2⟩, rfl⟩
  refine s_step (N' := fun ρ S' => (∃ w x2, ρ = [some (toV u), some (toV w), x2] ∧ w.dep = 13) ∧ S' = S1) ?_ ?_
  · rw [s_forR, w_cons, w_c, w_nil]
    show if -(2 ^ 62) ≤ (12 : Int) ∧ (12 : Int) < 2 ^ 62 then _ else False
    rw [if_pos (by decide)]
    refine RunS.mono by_loop2 (fun ρ S' h => ?_) fun _ _ h => h
    have e2 : (T.node 0 (.leaf 0) (.leaf 1)).dep = 1 := rfl
    obtain ⟨⟨w, x2, rfl, d⟩, rfl⟩ := h
    exact ⟨⟨w, x2, rfl, by omega⟩, rfl⟩
  rintro ρ S2 ⟨⟨w, x2, rfl, w1⟩, rfl⟩
  rw [s_ret, w_lst, w_cons, w_var rfl, w_cons, w_var rfl, w_nil]
  exact ⟨Nat.le_of_ble_eq_true rfl, u, w, rfl, rfl, u1, u2, w1⟩
theorem l_bad_counts (hc : PoolAt c S) (ht : t.dep ≤ 12) (hn : 1 < n) : Run ((fns n)._law_bad_counts [.ref c, toV t] S) (fun r S' => (Dc c S' 20 r ∧ coOk r = false) ∧ Cp c S S') := by
  obtain ⟨n, rfl⟩ : ∃ m, n = m + 1 := ⟨n - 1, by omega⟩
  show Run (fnOf 2 3 (b__law_bad_counts (fns n)) [.ref c, toV t] S) _
  unfold b__law_bad_counts
  refine run_fn (ρ := CE c t none) rfl rfl ?_
  refine s_step (bc_0 hc) ?_
  rintro ρ S1 ⟨m1, rfl, v1, k1⟩
  refine s_step (bc_1 k1.1 ht v1) ?_
  rintro ρ S2 ⟨m2, rfl, v2, k2⟩
  refine s_step (bc_2 k2.1 v2) ?_
  rintro ρ S3 ⟨m3, rfl, v3, k3⟩
  unfold st__law_bad_counts_3
  rw [s_ret, w_op, w_op, w_var rfl, w_call, w_cons, w_tup, w_cons, w_c, w_cons, w_c, w_cons, w_c, w_nil]
  refine ⟨Nat.le_of_ble_eq_true rfl, ?_⟩
  rw [w_cons, w_tup, w_cons, w_c, w_cons, w_c, w_cons, w_c, w_nil]
  refine ⟨Nat.le_of_ble_eq_true rfl, ?_⟩
  rw [w_nil]
  refine Run.mono (l_beyond (S := S3) (by omega)) fun r S4 ⟨u, w, e, e4, u1, u2, w1⟩ => ?_
  subst e e4
  have nou : coOk (toV u) = false := by
    unfold coOk
    rw [tcount_toV, u2]
    simp
  have now : coOk (toV w) = false := no_of (by
    cases hq : isCo 12 (toV w) with
    | false => rfl
    | true => have := isCo_dep hq; omega)
  refine Run.mono (Bs.more (ys := [_, _]) v3 k3.1.lt (mem2 ⟨dc_toV (by omega), nou⟩ ⟨dc_toV (by omega), now⟩) (Nat.le_of_ble_eq_true rfl)) fun r S5 ⟨m5, e, v5, k5⟩ => ?_
  subst e
  obtain ⟨hmc, xs, hxs, hlen, hgood⟩ := v5
  have hlen : xs.length = 27 := hlen
  rw [w_call, w_cons, w_var rfl, w_cons, w_c, w_nil]
  have cc := ((k1.trans k2).trans k3).kp k5
  refine Run.mono (l_pick cc.1 (by decide) (by decide) (by omega)) fun x S8 ⟨⟨i, e, g0, g1⟩, k8⟩ => ?_
  subst e
  refine Run.mono (run_pick (fun x => Dc c S8 20 x ∧ coOk x = false) (k8.2 _ _ hmc hxs) g0 (by omega) fun x hx => ⟨(hgood x hx).1.kx k8.2, (hgood x hx).2⟩) fun x S9 ⟨hx, e⟩ => ?_
  subst e
  exact ⟨hx, cc.trans k8⟩
theorem rep13 {S : Store} {Q : Val → Store → Prop} : Run (oRepT (.tup [.int 0]) (.int 13) S) Q = Q (.tup (List.replicate 13 (.int 0))) S := run_repT (k := 13) (by decide) (by decide)
theorem l_bad_path (hc : PoolAt c S) (hn : 1 < n) : Run ((fns n)._law_bad_path [.ref c] S) (fun r S' => (Dc c S' 20 r ∧ isPa r = false) ∧ Cp c S S') := by
  obtain ⟨n, rfl⟩ : ∃ m, n = m + 1 := ⟨n - 1, by omega⟩
  show Run (fnOf 1 2 (b__law_bad_path (fns n)) [.ref c] S) _
  unfold b__law_bad_path
  refine run_fn (ρ := [some (.ref c), none]) rfl rfl ?_
  refine s_step (N' := fun ρ S' => ∃ m, ρ = [some (.ref c), some (.ref m)] ∧ Bs (fun x => isPa x = false) c 14 m S' ∧ Cp c S S') ?_ ?_
  · rw [s_set, w_lst, w_cons, w_c, w_cons, w_c, w_cons, w_c, w_cons, w_lst, w_cons, w_c, w_nil]
    refine ⟨Nat.le_of_ble_eq_true rfl, ?_⟩
    have kA := (Gr.add S [.lst [.int 0]]).kp
    have hA := get_new S (.lst [.int 0])
    have cA := hc.kp kA
    have hlA : S.length ≠ c := Nat.ne_of_gt hc.lt
    have lA : (S ++ [Cell.lst [.int 0]]).length = S.length + 1 := by rw [List.length_append, List.length_singleton]
    generalize S ++ [Cell.lst [.int 0]] = A at *
    simp only [w_un, run_neg, rep13, run_ok, run_okI, run_okB, run_alloc, run_stuck, run_bind, run_ite, run_noX, run_fnOf, w_c, w_op, w_un, w_call, w_callK, w_nil, w_cons, w_tup, w_lst, isB_bl, w_tval, w_tand, w_tor, w_tnot, w_and, w_or, w_not, w_if, s_next, s_seq, s_if, s_ret, s_drop, s_set, s_par, s_put, s_asg, w_var', runS_next, runS_ret, runS_stuck, runS_ite, List.length_cons, List.length_nil, List.length_singleton, List.map_cons, List.map_nil, List.cons_append, List.nil_append, List.replicate_succ, List.replicate_zero, List.getElem?_cons_zero, List.getElem?_cons_succ, List.set_cons_zero, List.set_cons_succ, Nat.reduceAdd, Nat.reduceSub, Nat.reduceEqDiff, ite_true, ite_false, if_true, if_false, reduceIte, Bool.false_eq_true, decide_true, decide_false, String.reduceEq, Int.reduceEq, Nat.reduceLeDiff, true_and, and_true, Bool.not_true, Bool.not_false, decide_eq_true_eq, List.append_nil, bType, bIsi, bLen, bInt, ty_int, ty_bl, ty_str, ty_non, ty_tup, isT, oIs, oIsNot, run_eqI, run_neI, Bool.or_false, Bool.or_true, Bool.false_or, Bool.true_or, Bool.and_true, Bool.and_false, Bool.true_and, Bool.false_and, reduceCtorEq, decide_not, Bool.not_eq_true', decide_eq_false_iff_not, askInt, askBool, askTuple, askList, askStr, oLe, oLt, oGe, oGt, oInt2, atI0, atI1, atI2, run_addI, run_subI]
    have kB := (Gr.add A [.lst [.int 0]]).kp
    have hB := get_new A (.lst [.int 0])
    have cB := cA.kp kB
    have hlB : A.length ≠ c := Nat.ne_of_gt cA.lt
    have hAB := kB _ _ hA
    generalize A ++ [Cell.lst [.int 0]] = B at *
    rw [show ∀ Q, Run (oPow (.int 10) (.int 30) B) Q = Q (.int (10 ^ 30)) B from fun Q => run_powE (a := 10) (b := 30) (by decide) (by decide)]
    have kC := fun x : Cell => (Gr.add B [x]).kp
    refine ⟨_, rfl, ⟨Nat.ne_of_gt cB.lt, _, get_new _ _, rfl, ?_⟩, Cp.of hc ((kA.trans kB).trans (kC _))⟩
    have one : ∀ (S : Store), ∀ y ∈ [Val.int 0], Dc c S 0 y := fun S y hy => by rw [List.mem_singleton.mp hy]; exact dcI _ _ _ _
    simp only [List.mem_cons, List.not_mem_nil, or_false, forall_eq_or_imp, forall_eq]
    refine ⟨⟨dc_gd (by decide +kernel), by decide +kernel⟩, ⟨dc_gd (by decide +kernel), by decide +kernel⟩, ⟨dc_gd (by decide +kernel), by decide +kernel⟩, ⟨Dc.up (.ref (d := 0) hlA (kC _ _ _ hAB) (one _)) (by omega), rfl⟩, ⟨dc_gd (by decide +kernel), by decide +kernel⟩, ⟨dc_gd (by decide +kernel), by decide +kernel⟩, ⟨dc_gd (by decide +kernel), by decide +kernel⟩, ⟨dc_gd (by decide +kernel), by decide +kernel⟩, ⟨dc_gd (by decide +kernel), by decide +kernel⟩, ⟨dc_gd (by decide +kernel), by decide +kernel⟩,
      ⟨Dc.up (dc3 (d := 1) (dcI _ _ _ _) (dcI _ _ _ _) (.ref (d := 0) hlB (kC _ _ _ hB) (one _))) (by omega), rfl⟩, ⟨dc_gd (by decide +kernel), by decide +kernel⟩, ⟨dc_gd (by decide +kernel), by decide +kernel⟩, ⟨dc_gd (by decide +kernel), by decide +kernel⟩⟩
  rintro ρ S1 ⟨m, rfl, ⟨hmc, xs, hxs, hlen, hgood⟩, k1⟩
  rw [s_ret, w_op, w_var rfl, w_call, w_cons, w_var rfl, w_cons, w_c, w_nil]
  refine Run.mono (l_pick k1.1 (by decide) (by decide) (by omega)) fun x S8 ⟨⟨i, e, g0, g1⟩, k8⟩ => ?_
  subst e
  refine Run.mono (run_pick (fun x => Dc c S8 20 x ∧ isPa x = false) (k8.2 _ _ hmc hxs) g0 (by omega) fun x hx => ⟨(hgood x hx).1.kx k8.2, (hgood x hx).2⟩) fun x S9 ⟨hx, e⟩ => ?_
  subst e
  exact ⟨hx, k1.trans k8⟩
end
end PD.K05

/-! ## K05M7 -/
set_option Elab.async false
set_option linter.all false
set_option maxRecDepth 100000
set_option maxHeartbeats 1000000
namespace PD.K05
open PySem PySem.Spec L2 PD LT
/-! ### what is the same: lists, of lists too -/
theorem same_tail2 {n : Nat} {f g : Val} {xs ys : List Val} {S : Store} (hf : ∀ (i : Nat) (x : Val) (S' : Store) (Q : Val → Store → Prop), xs[i]? = some x → Kp S S' → Run (oIx f (.int i) S') Q = Q x S') (hg : ∀ (i : Nat) (x : Val) (S' : Store) (Q : Val → Store → Prop), ys[i]? = some x → Kp S S' → Run (oIx g (.int i) S') Q = Q x S')
    (hl : Run (bLen [g] S) fun r S' => r = .int ys.length ∧ S' = S) (hxy : xs.length = ys.length) (h1000 : ys.length ≤ 1000) (ih : ∀ (i : Nat) (x y : Val), xs[i]? = some x → ys[i]? = some y → ∀ S', Kp S S' → Run ((fns n)._law_same [x, y] S') (PureK S' (.bl true))) :
    Hid (Run (dCall bAll (aCons (dLCR (aCons (dCall bLen (aCons (dVar 1) aNil)) aNil) (gN 2) tYes' (dCall (fns n)._law_same (aCons (dOp oIx (dVar 0) (dVar 2)) (aCons (dOp oIx (dVar 1) (dVar 2)) aNil))) [2]) aNil) [some f, some g, none] S) (PureK S (.bl true))) := by
  refine ⟨?_⟩
  rw [w_call, w_cons]
  refine Run.mono (run_lcrK (j := ys.length) (g := fun _ => .bl true) ?_ (by omega) fun x hx S' k => ?_) fun r S1 ⟨S2, e1, e2, k⟩ => ?_
  · rw [w_cons, w_call, w_cons, w_var (v := g) rfl, w_nil]
    refine Run.mono hl fun r S' ⟨e1, e2⟩ => ?_
    subst e1 e2
    exact ⟨rfl, rfl⟩
  · obtain ⟨i, hi, rfl⟩ := List.mem_map.mp hx
    rw [List.mem_range] at hi
    have hi2 : i < xs.length := by omega
    have ei : ys[i]? = some ys[i] := List.getElem?_eq_getElem hi
    have ex : xs[i]? = some xs[i] := List.getElem?_eq_getElem hi2
    have ez : (0 : Int) + (i : Int) = (i : Int) := by omega
    rw [ez, w_call, w_cons, w_op, w_var (v := f) rfl, w_var (v := .int i) rfl, hf i _ S' _ ex k, w_cons, w_op, w_var (v := g) rfl, w_var (v := .int i) rfl, hg i _ S' _ ei k, w_nil]
    exact ih i _ _ ex ei S' k
  · subst e1 e2
    rw [w_nil]
    refine Run.mono all_true fun r S3 ⟨e, k3⟩ => ⟨e, k.trans k3⟩
/-- found and due alike, from here on, with so many calls -/
def Ak (m : Nat) (S : Store) (x y : Val) : Prop := ∀ (n : Nat) (S' : Store), m < n → Kp S S' → Run ((fns n)._law_same [x, y] S') (PureK S' (.bl true))
theorem Ak.kp {m : Nat} {S S1 : Store} {x y : Val} (h : Ak m S x y) (k : Kp S S1) : Ak m S1 x y := fun n S' hn k' => h n S' hn (k.trans k')
theorem Ak.up {m m' : Nat} {S : Store} {x y : Val} (h : Ak m S x y) (q : m ≤ m') : Ak m' S x y := fun n S' hn k' => h n S' (by omega) k'
theorem ak_sm {d : Nat} {S : Store} {v : Val} (h : Sm d v) (hd : d < 60) : Ak d S v v := fun n S' hn _ => l_same_sm d n v S' h hn hd
theorem ak_ls {m f g : Nat} {xs ys : List Val} {S : Store} (hf0 : S[f]? = some (.lst xs)) (hg0 : S[g]? = some (.lst ys)) (hxy : xs.length = ys.length) (hl : ys.length ≤ 1000) (hx : ∀ (i : Nat) (x y : Val), xs[i]? = some x → ys[i]? = some y → Ak m S x y) : Ak (m + 1) S (.ref f) (.ref g) := fun n S' hn kk => by
  have hf := kk _ _ hf0
  have hg := kk _ _ hg0
  have hx := fun i x y h1 h2 => (hx i x y h1 h2).kp kk
  clear kk hf0 hg0
  revert hf hg hx
  generalize S' = S
  intro hf hg hx
  obtain ⟨n, rfl⟩ : ∃ m, n = m + 1 := ⟨n - 1, by omega⟩
  show Run (fnOf 2 3 (b__law_same (fns n)) [.ref f, .ref g] S) _
  unfold b__law_same
  have tf := ty_ref (S := S) hf
  have tg := ty_ref (S := S) hg
  refine run_fn rfl rfl ?_
  have N : ∀ {b d : SD} {R : Val → Store → Prop} {M : PD.Env → Store → Prop}, RunS (b [some (.ref f), some (.ref g), none] S) (fun ρ S' => ρ = [some (.ref f), some (.ref g), none] ∧ S' = S) R → RunS (d [some (.ref f), some (.ref g), none] S) M R → RunS (sSeq b d [some (.ref f), some (.ref g), none] S) M R := fun {b d R M} h1 h2 => s_step h1 fun ρ S' ⟨e1, e2⟩ => by subst e1 e2; exact h2
  refine N ?_ (N ?_ (N ?_ (N ?_ (N ?_ (N ?_ (N ?_ ?_))))))
  · simp only [oIs_ref, run_ok, run_okI, run_okB, run_alloc, run_stuck, run_bind, run_ite, run_noX, run_fnOf, w_c, w_op, w_un, w_call, w_callK, w_nil, w_cons, w_tup, w_lst, isB_bl, w_tval, w_tand, w_tor, w_tnot, w_and, w_or, w_not, w_if, s_next, s_seq, s_if, s_ret, s_drop, s_set, s_par, s_put, s_asg, w_var', runS_next, runS_ret, runS_stuck, runS_ite, List.length_cons, List.length_nil, List.length_singleton, List.map_cons, List.map_nil, List.cons_append, List.nil_append, List.replicate_succ, List.replicate_zero, List.getElem?_cons_zero, List.getElem?_cons_succ, List.set_cons_zero, List.set_cons_succ, Nat.reduceAdd, Nat.reduceSub, Nat.reduceEqDiff, ite_true, ite_false, if_true, if_false, reduceIte, Bool.false_eq_true, decide_true, decide_false, String.reduceEq, Int.reduceEq, Nat.reduceLeDiff, true_and, and_true, Bool.not_true, Bool.not_false, decide_eq_true_eq, List.append_nil, bType, bIsi, bLen, bInt, ty_int, ty_bl, ty_str, ty_non, ty_tup, isT, oIs, oIsNot, run_eqI, run_neI, Bool.or_false, Bool.or_true, Bool.false_or, Bool.true_or, Bool.and_true, Bool.and_false, Bool.true_and, Bool.false_and, reduceCtorEq, decide_not, Bool.not_eq_true', decide_eq_false_iff_not, askInt, askBool, askTuple, askList, askStr, oLe, oLt, oGe, oGt, oInt2, atI0, atI1, atI2, run_addI, run_subI]
  · simp only [oIs_refB, run_ok, run_okI, run_okB, run_alloc, run_stuck, run_bind, run_ite, run_noX, run_fnOf, w_c, w_op, w_un, w_call, w_callK, w_nil, w_cons, w_tup, w_lst, isB_bl, w_tval, w_tand, w_tor, w_tnot, w_and, w_or, w_not, w_if, s_next, s_seq, s_if, s_ret, s_drop, s_set, s_par, s_put, s_asg, w_var', runS_next, runS_ret, runS_stuck, runS_ite, List.length_cons, List.length_nil, List.length_singleton, List.map_cons, List.map_nil, List.cons_append, List.nil_append, List.replicate_succ, List.replicate_zero, List.getElem?_cons_zero, List.getElem?_cons_succ, List.set_cons_zero, List.set_cons_succ, Nat.reduceAdd, Nat.reduceSub, Nat.reduceEqDiff, ite_true, ite_false, if_true, if_false, reduceIte, Bool.false_eq_true, decide_true, decide_false, String.reduceEq, Int.reduceEq, Nat.reduceLeDiff, true_and, and_true, Bool.not_true, Bool.not_false, decide_eq_true_eq, List.append_nil, bType, bIsi, bLen, bInt, ty_int, ty_bl, ty_str, ty_non, ty_tup, isT, oIs, oIsNot, run_eqI, run_neI, Bool.or_false, Bool.or_true, Bool.false_or, Bool.true_or, Bool.and_true, Bool.and_false, Bool.true_and, Bool.false_and, reduceCtorEq, decide_not, Bool.not_eq_true', decide_eq_false_iff_not, askInt, askBool, askTuple, askList, askStr, oLe, oLt, oGe, oGt, oInt2, atI0, atI1, atI2, run_addI, run_subI]
  · simp only [oIs_refB, run_ok, run_okI, run_okB, run_alloc, run_stuck, run_bind, run_ite, run_noX, run_fnOf, w_c, w_op, w_un, w_call, w_callK, w_nil, w_cons, w_tup, w_lst, isB_bl, w_tval, w_tand, w_tor, w_tnot, w_and, w_or, w_not, w_if, s_next, s_seq, s_if, s_ret, s_drop, s_set, s_par, s_put, s_asg, w_var', runS_next, runS_ret, runS_stuck, runS_ite, List.length_cons, List.length_nil, List.length_singleton, List.map_cons, List.map_nil, List.cons_append, List.nil_append, List.replicate_succ, List.replicate_zero, List.getElem?_cons_zero, List.getElem?_cons_succ, List.set_cons_zero, List.set_cons_succ, Nat.reduceAdd, Nat.reduceSub, Nat.reduceEqDiff, ite_true, ite_false, if_true, if_false, reduceIte, Bool.false_eq_true, decide_true, decide_false, String.reduceEq, Int.reduceEq, Nat.reduceLeDiff, true_and, and_true, Bool.not_true, Bool.not_false, decide_eq_true_eq, List.append_nil, bType, bIsi, bLen, bInt, ty_int, ty_bl, ty_str, ty_non, ty_tup, isT, oIs, oIsNot, run_eqI, run_neI, Bool.or_false, Bool.or_true, Bool.false_or, Bool.true_or, Bool.and_true, Bool.and_false, Bool.true_and, Bool.false_and, reduceCtorEq, decide_not, Bool.not_eq_true', decide_eq_false_iff_not, askInt, askBool, askTuple, askList, askStr, oLe, oLt, oGe, oGt, oInt2, atI0, atI1, atI2, run_addI, run_subI]
  · simp only [isi_list hg, tg, askInt, run_ok, run_okI, run_okB, run_alloc, run_stuck, run_bind, run_ite, run_noX, run_fnOf, w_c, w_op, w_un, w_call, w_callK, w_nil, w_cons, w_tup, w_lst, isB_bl, w_tval, w_tand, w_tor, w_tnot, w_and, w_or, w_not, w_if, s_next, s_seq, s_if, s_ret, s_drop, s_set, s_par, s_put, s_asg, w_var', runS_next, runS_ret, runS_stuck, runS_ite, List.length_cons, List.length_nil, List.length_singleton, List.map_cons, List.map_nil, List.cons_append, List.nil_append, List.replicate_succ, List.replicate_zero, List.getElem?_cons_zero, List.getElem?_cons_succ, List.set_cons_zero, List.set_cons_succ, Nat.reduceAdd, Nat.reduceSub, Nat.reduceEqDiff, ite_true, ite_false, if_true, if_false, reduceIte, Bool.false_eq_true, decide_true, decide_false, String.reduceEq, Int.reduceEq, Nat.reduceLeDiff, true_and, and_true, Bool.not_true, Bool.not_false, decide_eq_true_eq, List.append_nil, bType, bIsi, bLen, bInt, ty_int, ty_bl, ty_str, ty_non, ty_tup, isT, oIs, oIsNot, run_eqI, run_neI, Bool.or_false, Bool.or_true, Bool.false_or, Bool.true_or, Bool.and_true, Bool.and_false, Bool.true_and, Bool.false_and, reduceCtorEq, decide_not, Bool.not_eq_true', decide_eq_false_iff_not, askInt, askBool, askTuple, askList, askStr, oLe, oLt, oGe, oGt, oInt2, atI0, atI1, atI2, run_addI, run_subI]
  · simp only [tg, askStr, run_ok, run_okI, run_okB, run_alloc, run_stuck, run_bind, run_ite, run_noX, run_fnOf, w_c, w_op, w_un, w_call, w_callK, w_nil, w_cons, w_tup, w_lst, isB_bl, w_tval, w_tand, w_tor, w_tnot, w_and, w_or, w_not, w_if, s_next, s_seq, s_if, s_ret, s_drop, s_set, s_par, s_put, s_asg, w_var', runS_next, runS_ret, runS_stuck, runS_ite, List.length_cons, List.length_nil, List.length_singleton, List.map_cons, List.map_nil, List.cons_append, List.nil_append, List.replicate_succ, List.replicate_zero, List.getElem?_cons_zero, List.getElem?_cons_succ, List.set_cons_zero, List.set_cons_succ, Nat.reduceAdd, Nat.reduceSub, Nat.reduceEqDiff, ite_true, ite_false, if_true, if_false, reduceIte, Bool.false_eq_true, decide_true, decide_false, String.reduceEq, Int.reduceEq, Nat.reduceLeDiff, true_and, and_true, Bool.not_true, Bool.not_false, decide_eq_true_eq, List.append_nil, bType, bIsi, bLen, bInt, ty_int, ty_bl, ty_str, ty_non, ty_tup, isT, oIs, oIsNot, run_eqI, run_neI, Bool.or_false, Bool.or_true, Bool.false_or, Bool.true_or, Bool.and_true, Bool.and_false, Bool.true_and, Bool.false_and, reduceCtorEq, decide_not, Bool.not_eq_true', decide_eq_false_iff_not, askInt, askBool, askTuple, askList, askStr, oLe, oLt, oGe, oGt, oInt2, atI0, atI1, atI2, run_addI, run_subI]
  · simp only [tf, tg, run_neB, askTuple, askList, run_ok, run_okI, run_okB, run_alloc, run_stuck, run_bind, run_ite, run_noX, run_fnOf, w_c, w_op, w_un, w_call, w_callK, w_nil, w_cons, w_tup, w_lst, isB_bl, w_tval, w_tand, w_tor, w_tnot, w_and, w_or, w_not, w_if, s_next, s_seq, s_if, s_ret, s_drop, s_set, s_par, s_put, s_asg, w_var', runS_next, runS_ret, runS_stuck, runS_ite, List.length_cons, List.length_nil, List.length_singleton, List.map_cons, List.map_nil, List.cons_append, List.nil_append, List.replicate_succ, List.replicate_zero, List.getElem?_cons_zero, List.getElem?_cons_succ, List.set_cons_zero, List.set_cons_succ, Nat.reduceAdd, Nat.reduceSub, Nat.reduceEqDiff, ite_true, ite_false, if_true, if_false, reduceIte, Bool.false_eq_true, decide_true, decide_false, String.reduceEq, Int.reduceEq, Nat.reduceLeDiff, true_and, and_true, Bool.not_true, Bool.not_false, decide_eq_true_eq, List.append_nil, bType, bIsi, bLen, bInt, ty_int, ty_bl, ty_str, ty_non, ty_tup, isT, oIs, oIsNot, run_eqI, run_neI, Bool.or_false, Bool.or_true, Bool.false_or, Bool.true_or, Bool.and_true, Bool.and_false, Bool.true_and, Bool.false_and, reduceCtorEq, decide_not, Bool.not_eq_true', decide_eq_false_iff_not, askInt, askBool, askTuple, askList, askStr, oLe, oLt, oGe, oGt, oInt2, atI0, atI1, atI2, run_addI, run_subI]
    simp
  · simp only [hf, hg, Cell.items, hxy, run_ok, run_okI, run_okB, run_alloc, run_stuck, run_bind, run_ite, run_noX, run_fnOf, w_c, w_op, w_un, w_call, w_callK, w_nil, w_cons, w_tup, w_lst, isB_bl, w_tval, w_tand, w_tor, w_tnot, w_and, w_or, w_not, w_if, s_next, s_seq, s_if, s_ret, s_drop, s_set, s_par, s_put, s_asg, w_var', runS_next, runS_ret, runS_stuck, runS_ite, List.length_cons, List.length_nil, List.length_singleton, List.map_cons, List.map_nil, List.cons_append, List.nil_append, List.replicate_succ, List.replicate_zero, List.getElem?_cons_zero, List.getElem?_cons_succ, List.set_cons_zero, List.set_cons_succ, Nat.reduceAdd, Nat.reduceSub, Nat.reduceEqDiff, ite_true, ite_false, if_true, if_false, reduceIte, Bool.false_eq_true, decide_true, decide_false, String.reduceEq, Int.reduceEq, Nat.reduceLeDiff, true_and, and_true, Bool.not_true, Bool.not_false, decide_eq_true_eq, List.append_nil, bType, bIsi, bLen, bInt, ty_int, ty_bl, ty_str, ty_non, ty_tup, isT, oIs, oIsNot, run_eqI, run_neI, Bool.or_false, Bool.or_true, Bool.false_or, Bool.true_or, Bool.and_true, Bool.and_false, Bool.true_and, Bool.false_and, reduceCtorEq, decide_not, Bool.not_eq_true', decide_eq_false_iff_not, askInt, askBool, askTuple, askList, askStr, oLe, oLt, oGe, oGt, oInt2, atI0, atI1, atI2, run_addI, run_subI]
  · rw [s_ret]
    have hr : ∀ m (xs : List Val), S[m]? = some (.lst xs) → ∀ (i : Nat) (x : Val) (S' : Store) (Q : Val → Store → Prop), xs[i]? = some x → Kp S S' → Run (oIx (.ref m) (.int i) S') Q = Q x S' := fun m xs hm i x S' Q e k => by rw [run_ixR (k _ _ hm), atI_nat e]; rfl
    refine (same_tail2 (hr f xs hf) (hr g ys hg) ?_ hxy hl fun i x y h1 h2 S' k => hx i x y h1 h2 n S' (by omega) k).get
    rw [run_len hg]
    exact ⟨rfl, rfl⟩
theorem ak_two {m f g : Nat} {a b x y : Val} {S : Store} (hf : S[f]? = some (.lst [a, b])) (hg : S[g]? = some (.lst [x, y])) (h1 : Ak m S a x) (h2 : Ak m S b y) : Ak (m + 1) S (.ref f) (.ref g) :=
  ak_ls hf hg rfl (by show 2 ≤ 1000; omega) fun i u v e1 e2 => by
    match i, e1, e2 with
    | 0, e1, e2 => cases e1; cases e2; exact h1
    | 1, e1, e2 => cases e1; cases e2; exact h2
    | i + 2, e1, e2 => cases e1
/-! ### what is due of two counts put together -/
def Due (S : Store) (a b : T) (d : Val) : Prop := (63 < (JJ a b).tc ∧ ∃ m, d = .ref m ∧ S[m]? = some (.lst [.str "many", .int 63])) ∨ ((JJ a b).tc ≤ 63 ∧ d = toV (JJ a b))
theorem Due.kp {S S' : Store} {a b : T} {d : Val} (h : Due S a b d) (k : Kp S S') : Due S' a b d := by
  rcases h with ⟨h, m, e, hm⟩ | h
  · exact .inl ⟨h, m, e, k _ _ hm⟩
  · exact .inr h
theorem Due.comm {S : Store} {a b : T} {d : Val} (h : Due S b a d) : Due S a b d := by
  have e : JJ b a = JJ a b := T.J_comm 13 b a
  unfold Due at h ⊢
  rw [← e]; exact h
theorem ak_due {S : Store} {a b : T} {x y : Val} (hd : (JJ a b).dep ≤ 12) (hx : Due S a b x) (hy : Due S a b y) : Ak 12 S x y := by
  rcases hx with ⟨h, m, rfl, hm⟩ | ⟨h, rfl⟩
  · rcases hy with ⟨_, m', rfl, hm'⟩ | ⟨h', _⟩
    · exact (ak_two (m := 0) hm hm' (ak_sm (.str 0 _ (by decide +kernel)) (by decide)) (ak_sm (.int 0 _) (by decide))).up (by omega)
    · omega
  · rcases hy with ⟨h', _⟩ | ⟨_, rfl⟩
    · omega
    · exact ak_sm (sm_toV hd) (by decide)
theorem said_due {a b : T} {n : Nat} {S : Store} (ha : Cts a) (hb : Cts b) (hn : 80 < n) : Run ((fns n)._law_said [.int 0, toV a, toV b] S) (fun r S' => Due S' a b r ∧ Kp S S') := by
  obtain ⟨n, rfl⟩ : ∃ m, n = m + 1 := ⟨n - 1, by omega⟩
  by_cases ht : 63 < (JJ a b).tc
  · obtain ⟨S1, k1, e⟩ := joined_many (n := n) (S := S) ha hb ht (by omega)
    exact said_ex (d := 0) e hd_3 ⟨.inl ⟨ht, _, rfl, get_new _ _⟩, k1.trans (Gr.add _ _).kp⟩
  · refine said_ok (d := 0) ?_
    show Run ((fns n).joined [toV a, toV b] S) _
    exact Run.mono (joined_ok ha hb (by omega) (by omega)) fun r S1 ⟨e, k1⟩ => ⟨.inr ⟨by omega, e⟩, k1⟩
theorem said_within {a b : T} {n : Nat} {S : Store} (ha : Cts a) (hb : Cts b) (hn : 80 < n) : Run ((fns n)._law_said [.int 1, toV a, toV b] S) (PureK S (.bl (T.W 13 a b))) := by
  obtain ⟨n, rfl⟩ : ∃ m, n = m + 1 := ⟨n - 1, by omega⟩
  refine said_ok (d := 1) ?_
  show Run ((fns n).is_within [toV a, toV b] S) _
  exact within_ok ha hb (by omega)
theorem said_worth {t : T} {p : List Int} {n : Nat} {S : Store} (ht : Cts t) (hp : Pth p) (hn : 80 < n) : Run ((fns n)._law_said [.int 2, toV t, pathV p] S) (PureK S (wtV (T.at' p t))) := by
  obtain ⟨n, rfl⟩ : ∃ m, n = m + 1 := ⟨n - 1, by omega⟩
  refine said_ok (d := 2) ?_
  show Run ((fns n).worth_at [toV t, pathV p] S) _
  exact worth_ok ht hp (by omega)
/-! ### equal trees -/
theorem eqv_tD : ∀ a b : T, PyData.eqv (tD a) (tD b) = decide (a = b)
  | .leaf i, b => by
    show PyData.eqv (.int i) (tD b) = _
    rw [eq_leaf]
    cases b with
    | leaf j =>
      show decide (i = j) = _
      exact decide_eq_decide.mpr ⟨fun h => by rw [h], fun h => by injection h⟩
    | node => exact (decide_eq_false (fun h => by cases h)).symm
  | .node m l r, .leaf j => by
    show PyData.eqv (.tuple [.int m, tD l, tD r]) (.int j) = _
    exact (decide_eq_false (fun h => by cases h)).symm
  | .node m l r, .node m' l' r' => by
    have e : PyData.eqv (tD (.node m l r)) (tD (.node m' l' r')) = (decide (m = m') && (PyData.eqv (tD l) (tD l') && (PyData.eqv (tD r) (tD r') && true))) := rfl
    rw [e, eqv_tD l l', eqv_tD r r', Bool.and_true]
    by_cases h : m = m' ∧ l = l' ∧ r = r'
    · obtain ⟨rfl, rfl, rfl⟩ := h
      simp
    · rw [decide_eq_false (p := T.node m l r = T.node m' l' r') (fun q => h (by injection q with q1 q2 q3; exact ⟨q1, q2, q3⟩))]
      rw [Bool.eq_false_iff]
      intro q
      simp only [Bool.and_eq_true, decide_eq_true_eq] at q
      exact h q
theorem run_eqT {a b : T} {S : Store} {Q : Val → Store → Prop} (ha : a.dep < 60) (hb : b.dep < 60) : Run (oEq (toV a) (toV b) S) Q = Q (.bl (decide (a = b))) S := by
  rw [run_eq (toV_da (Nat.le_refl _)) (toV_da (Nat.le_refl _)) (by omega) (by omega), toV_dat (by omega), toV_dat (by omega), eqv_tD]
/-! ### a pair -/
abbrev PE (c : Nat) (a b : T) (x3 x4 x5 x6 x7 x8 : Option Val) : PD.Env := [some (.ref c), some (toV a), some (toV b), x3, x4, x5, x6, x7, x8]
section
variable {c n : Nat} {a b : T} {S : Store} {R : Val → Store → Prop} {x3 x4 x5 x6 x7 x8 : Option Val} {d : Val} {p : List Int}
theorem pr_0 (ha : Cts a) (hb : Cts b) (hn : 80 < n) : RunS (st__law_pair_right_0 (fns n) (PE c a b x3 x4 x5 x6 x7 x8) S) (fun ρ S' => ρ = PE c a b (some (toV (JJ a b))) x4 x5 x6 x7 x8 ∧ S' = S) R := by
  have := ha.dep
  have := hb.dep
  unfold st__law_pair_right_0
  rw [s_set, w_call, w_cons, w_var rfl, w_cons, w_var rfl, w_nil]
  refine Run.mono (l_join 13 n a b S (by omega) (by omega) (by omega) (by omega)) fun r S1 ⟨e, e1⟩ => ?_
  subst e e1
  exact ⟨rfl, rfl⟩
theorem pr_1 (hd : (JJ a b).dep ≤ 12) (hn : 80 < n) : RunS (st__law_pair_right_1 (fns n) (PE c a b (some (toV (JJ a b))) x4 x5 x6 x7 x8) S) (fun ρ S' => (∃ d, ρ = PE c a b (some (toV (JJ a b))) (some d) x5 x6 x7 x8 ∧ Due S' a b d) ∧ Kp S S') R := by
  unfold st__law_pair_right_1
  rw [s_set, w_if, w_tval, w_op, w_call, w_cons, w_var rfl, w_nil]
  refine Run.mono (l_size (JJ a b) n S (Nat.lt_of_le_of_lt hd (by omega))) fun r S1 ⟨e, e1⟩ => ?_
  subst e e1
  rw [w_c, run_gtI, isB_bl]
  by_cases ht : 63 < (JJ a b).tc
  · rw [decide_eq_true (by omega), if_pos rfl, w_lst, w_cons, w_c, w_cons, w_c, w_nil]
    exact ⟨Nat.le_of_ble_eq_true rfl, ⟨_, rfl, .inl ⟨ht, _, rfl, get_new _ _⟩⟩, (Gr.add _ _).kp⟩
  · rw [decide_eq_false (by omega), if_neg (by decide), w_var rfl]
    exact ⟨⟨_, rfl, .inr ⟨by omega, rfl⟩⟩, .refl _⟩
theorem pr_2 (ha : Cts a) (hb : Cts b) (hd : Due S a b d) (hn : 80 < n) : RunS (st__law_pair_right_2 (fns n) (PE c a b x3 (some d) x5 x6 x7 x8) S) (fun ρ S' => ρ = PE c a b x3 (some d) x5 x6 x7 x8 ∧ Kp S S') R := by
  have hJ := dep_JJ ha hb
  unfold st__law_pair_right_2
  rw [s_if, w_tnot, w_tval, w_call, w_cons, w_lst, w_cons, w_call, w_cons, w_c, w_cons, w_var rfl, w_cons, w_var rfl, w_nil]
  refine Run.mono (said_due ha hb hn) fun r1 S1 ⟨d1, k1⟩ => ?_
  rw [w_cons, w_call, w_cons, w_c, w_cons, w_var rfl, w_cons, w_var rfl, w_nil]
  refine Run.mono (said_due hb ha hn) fun r2 S2 ⟨d2, k2⟩ => ?_
  rw [w_nil]
  refine ⟨Nat.le_of_ble_eq_true rfl, ?_⟩
  rw [w_cons, w_lst, w_cons, w_var rfl, w_cons, w_var rfl, w_nil]
  refine ⟨Nat.le_of_ble_eq_true rfl, ?_⟩
  rw [w_nil]
  have kA := (Gr.add S2 [.lst [r1, r2]]).kp
  have kB := (Gr.add (S2 ++ [Cell.lst [r1, r2]]) [.lst [d, d]]).kp
  have hA := kB _ _ (get_new S2 (.lst [r1, r2]))
  have hB := get_new (S2 ++ [Cell.lst [r1, r2]]) (.lst [d, d])
  have kk := kA.trans kB
  have ak := ak_two (m := 12) hA hB (ak_due hJ (d1.kp (k2.trans kk)) (hd.kp ((k1.trans k2).trans kk))) (ak_due hJ (d2.comm.kp kk) (hd.kp ((k1.trans k2).trans kk)))
  refine Run.mono (ak n _ (by omega) (.refl _)) fun r S3 ⟨e, k3⟩ => ?_
  subst e
  exact ⟨rfl, ((k1.trans k2).trans kk).trans k3⟩
theorem pr_3 (ha : Cts a) (hb : Cts b) (hd : Due S a b d) (hn : 80 < n) : RunS (st__law_pair_right_3 (fns n) (PE c a b (some (toV (JJ a b))) (some d) x5 x6 x7 x8) S) (fun ρ S' => ρ = PE c a b (some (toV (JJ a b))) (some d) x5 x6 x7 x8 ∧ Kp S S') R := by
  have hJ := dep_JJ ha hb
  unfold st__law_pair_right_3
  rw [s_if, w_tand, w_tval, w_call, w_cons, w_var rfl, w_cons, w_c, w_nil]
  rcases hd with ⟨ht, m, rfl, hm⟩ | ⟨ht, rfl⟩
  · rw [isi_list hm askTuple, isB_bl]
    exact ⟨rfl, .refl _⟩
  · have hisi : ∀ (t : T) (Q : Val → Store → Prop), Run (bIsi [toV t, .ty "tuple"] S) Q = Q (.bl (!t.isLeaf)) S := fun t Q => by
      cases t <;> simp only [toV, askTuple, run_ok, run_okI, run_okB, run_alloc, run_stuck, run_bind, run_ite, run_noX, run_fnOf, w_c, w_op, w_un, w_call, w_callK, w_nil, w_cons, w_tup, w_lst, isB_bl, w_tval, w_tand, w_tor, w_tnot, w_and, w_or, w_not, w_if, s_next, s_seq, s_if, s_ret, s_drop, s_set, s_par, s_put, s_asg, w_var', runS_next, runS_ret, runS_stuck, runS_ite, List.length_cons, List.length_nil, List.length_singleton, List.map_cons, List.map_nil, List.cons_append, List.nil_append, List.replicate_succ, List.replicate_zero, List.getElem?_cons_zero, List.getElem?_cons_succ, List.set_cons_zero, List.set_cons_succ, Nat.reduceAdd, Nat.reduceSub, Nat.reduceEqDiff, ite_true, ite_false, if_true, if_false, reduceIte, Bool.false_eq_true, decide_true, decide_false, String.reduceEq, Int.reduceEq, Nat.reduceLeDiff, true_and, and_true, Bool.not_true, Bool.not_false, decide_eq_true_eq, List.append_nil, bType, bIsi, bLen, bInt, ty_int, ty_bl, ty_str, ty_non, ty_tup, isT, oIs, oIsNot, oSub, oAdd, oIx, run_eqI, run_neI, Bool.or_false, Bool.or_true, Bool.false_or, Bool.true_or, Bool.and_true, Bool.and_false, Bool.true_and, Bool.false_and, reduceCtorEq, decide_not, Bool.not_eq_true', decide_eq_false_iff_not, askInt, askBool, askTuple, askList, askStr, oLe, oLt, oGe, oGt, oInt2, atI0, atI1, atI2] <;> rfl
    rw [hisi, isB_bl]
    cases hl : (JJ a b).isLeaf with
    | true => exact ⟨rfl, .refl _⟩
    | false =>
      rw [if_pos (show (!false) = true from rfl), w_tnot, w_tval, w_call, w_cons, w_call, w_cons, w_var rfl, w_cons, w_var rfl, w_nil]
      refine Run.mono (joined_ok ha hb ht (by omega)) fun r S1 ⟨e, k1⟩ => ?_
      subst e
      rw [w_cons, w_var rfl, w_nil]
      refine Run.mono (l_same_sm 12 n _ S1 (sm_toV hJ) (by omega) (by omega)) fun y S2 ⟨e, k2⟩ => ?_
      subst e
      exact ⟨rfl, k1.trans k2⟩
theorem pr_4 (ha : Cts a) (hb : Cts b) (hn : 80 < n) : RunS (st__law_pair_right_4 (fns n) (PE c a b (some (toV (JJ a b))) x4 x5 x6 x7 x8) S) (fun ρ S' => ρ = PE c a b (some (toV (JJ a b))) x4 x5 x6 x7 x8 ∧ Kp S S') R := by
  have hJ := dep_JJ ha hb
  have a12 := ha.dep
  have b12 := hb.dep
  have hW : T.W 13 a b = decide (JJ a b = b) := by
    have := T.W_iff 13 a b (by omega) (by omega) hb.co
    cases h : T.W 13 a b with
    | true => exact (decide_eq_true (this.mpr h)).symm
    | false => exact (decide_eq_false fun q => by rw [this.mp q] at h; cases h).symm
  unfold st__law_pair_right_4
  rw [s_if, w_tnot, w_tval, w_call, w_cons, w_lst, w_cons, w_call, w_cons, w_var rfl, w_cons, w_var rfl, w_nil]
  refine Run.mono (within_ok ha hb (by omega)) fun r1 S1 ⟨e, k1⟩ => ?_
  subst e
  rw [w_cons, w_call, w_cons, w_c, w_cons, w_var rfl, w_cons, w_var rfl, w_nil]
  refine Run.mono (said_within ha hb hn) fun r2 S2 ⟨e, k2⟩ => ?_
  subst e
  rw [w_nil]
  refine ⟨Nat.le_of_ble_eq_true rfl, ?_⟩
  have hJ60 : (JJ a b).dep < 60 := Nat.lt_of_le_of_lt hJ (by decide)
  rw [w_cons, w_lst, w_cons, w_op, w_var rfl, w_var rfl, run_eqT hJ60 (by omega), w_cons, w_op, w_var rfl, w_var rfl, run_eqT hJ60 (by omega), w_nil]
  refine ⟨Nat.le_of_ble_eq_true rfl, ?_⟩
  rw [w_nil, hW]
  refine Run.mono (l_same_ls (d := 0) ((Gr.add _ _).get (get_new _ _)) (get_new _ _) (Nat.le_of_ble_eq_true rfl) (mem2 (.bl 0 _) (.bl 0 _)) (by omega) (by omega)) fun x S6 ⟨e, k6⟩ => ?_
  subst e
  exact ⟨rfl, ((k1.trans k2).trans ((Gr.add _ _).trans (Gr.add _ _)).kp).trans k6⟩
theorem pr_path (ha : Cts a) (hb : Cts b) (hp : Pth p) (hn : 80 < n) (hJn : (JJ a b).nn = true) : RunS (sSeq (st__law_pair_right_5 (fns n)) (sSeq (st__law_pair_right_6 (fns n)) (sSeq (st__law_pair_right_7 (fns n)) (st__law_pair_right_8 (fns n)))) (PE c a b (some (toV (JJ a b))) x4 (some (pathV p)) x6 x7 x8) S)
    (fun ρ S' => (∃ x5 x6 x7 x8, ρ = PE c a b (some (toV (JJ a b))) x4 x5 x6 x7 x8) ∧ Kp S S') R := by
  have a12 := ha.dep
  have b12 := hb.dep
  have hJ := dep_JJ ha hb
  have hl := hp.1
  have hJ' : (JJ a b).dep < n := Nat.lt_of_le_of_lt hJ (by omega)
  refine s_step (N' := fun ρ S' => ρ = PE c a b (some (toV (JJ a b))) x4 (some (pathV p)) (some (.int (T.at' p a).top)) (some (.int (T.at' p a).mx)) x8 ∧ S' = S) ?_ ?_
  · unfold st__law_pair_right_5
    rw [s_asg, w_call, w_cons, w_var rfl, w_cons, w_var rfl, w_nil]
    refine Run.mono (l_worth a n p S ha.co ha.nn hp.2 (by omega) (by omega)) fun r S1 ⟨e, e1⟩ => ?_
    subst e e1
    exact ⟨rfl, rfl⟩
  rintro ρ S1 ⟨rfl, rfl⟩
  refine s_step (N' := fun ρ S' => ρ = PE c a b (some (toV (JJ a b))) x4 (some (pathV p)) (some (.int (T.at' p a).top)) (some (.int (T.at' p a).mx)) x8 ∧ Kp S1 S') ?_ ?_
  · unfold st__law_pair_right_6
    rw [s_if, w_tnot, w_tval, w_call, w_cons, w_lst, w_cons, w_call, w_cons, w_var rfl, w_cons, w_var rfl, w_nil]
    refine Run.mono (worth_ok ha hp (by omega)) fun r1 S2 ⟨e, k1⟩ => ?_
    subst e
    rw [w_cons, w_call, w_cons, w_c, w_cons, w_var rfl, w_cons, w_var rfl, w_nil]
    refine Run.mono (said_worth ha hp hn) fun r2 S3 ⟨e, k2⟩ => ?_
    subst e
    rw [w_nil]
    refine ⟨Nat.le_of_ble_eq_true rfl, ?_⟩
    rw [w_cons, w_lst, w_cons, w_tup, w_cons, w_var rfl, w_cons, w_var rfl, w_nil]
    refine ⟨Nat.le_of_ble_eq_true rfl, ?_⟩
    rw [w_cons, w_tup, w_cons, w_var rfl, w_cons, w_var rfl, w_nil]
    refine ⟨Nat.le_of_ble_eq_true rfl, ?_⟩
    rw [w_nil]
    refine ⟨Nat.le_of_ble_eq_true rfl, ?_⟩
    rw [w_nil]
    have hsm : Sm 1 (wtV (T.at' p a)) := .tup (by show 2 ≤ 1000; decide) (mem2 (.int 0 _) (.int 0 _))
    refine Run.mono (l_same_ls (d := 1) ((Gr.add _ _).get (get_new _ _)) (get_new _ _) (Nat.le_of_ble_eq_true rfl) (mem2 hsm hsm) (by omega) (by omega)) fun x S6 ⟨e, k6⟩ => ?_
    subst e
    exact ⟨rfl, ((k1.trans k2).trans ((Gr.add _ _).trans (Gr.add _ _)).kp).trans k6⟩
  rintro ρ S2 ⟨rfl, k2⟩
  refine s_step (N' := fun ρ S' => (∃ m, ρ = PE c a b (some (toV (JJ a b))) x4 (some (pathV p)) (some (.int (T.at' p a).top)) (some (.int (T.at' p a).mx)) (some (.ref m)) ∧ S'[m]? = some (.lst [wtV (T.at' p b), wtV (T.at' p (JJ a b))])) ∧ Kp S1 S') ?_ ?_
  · unfold st__law_pair_right_7
    rw [s_set, w_lst, w_cons, w_call, w_cons, w_var rfl, w_cons, w_var rfl, w_nil]
    refine Run.mono (l_worth b n p S2 hb.co hb.nn hp.2 (by omega) (by omega)) fun r S3 ⟨e, e1⟩ => ?_
    subst e e1
    rw [w_cons, w_call, w_cons, w_var rfl, w_cons, w_var rfl, w_nil]
    refine Run.mono (l_worth (JJ a b) n p S3 (T.co_J 13 a b) hJn hp.2 (by omega) hJ') fun r S4 ⟨e, e1⟩ => ?_
    subst e e1
    rw [w_nil]
    exact ⟨Nat.le_of_ble_eq_true rfl, ⟨_, rfl, get_new _ _⟩, k2.trans (Gr.add _ _).kp⟩
  rintro ρ S3 ⟨⟨m, rfl, hm⟩, k3⟩
  have da := T.dep_at p a
  have db := T.dep_at p b
  have eJ : T.at' p (JJ a b) = T.J (13 - p.length) (T.at' p a) (T.at' p b) := by
    have := T.J_at p (13 - p.length) a b hp.2
    rw [show 13 - p.length + p.length = 13 by omega] at this
    exact this
  have emx : (T.at' p (JJ a b)).mx = max (T.at' p a).mx (T.at' p b).mx := by
    rw [eJ]
    exact T.mx_J _ _ _ (by omega) (by omega)
  have etop := T.top_J (13 - p.length) (T.at' p a) (T.at' p b) (T.co_at p ha.co) (T.co_at p hb.co)
  rw [← eJ] at etop
  unfold st__law_pair_right_8
  have ixm0 : ∀ Q : Val → Store → Prop, Run (oIx (.ref m) (.int 0) S3) Q = Q (wtV (T.at' p b)) S3 := fun Q => ixr0 hm
  have ixm1 : ∀ Q : Val → Store → Prop, Run (oIx (.ref m) (.int 1) S3) Q = Q (wtV (T.at' p (JJ a b))) S3 := fun Q => ixr1 hm
  have wt0 : ∀ (t : T) (Q : Val → Store → Prop), Run (oIx (wtV t) (.int 0) S3) Q = Q (.int t.top) S3 := fun t Q => ix0
  have wt1 : ∀ (t : T) (Q : Val → Store → Prop), Run (oIx (wtV t) (.int 1) S3) Q = Q (.int t.mx) S3 := fun t Q => ix1
  rw [s_if, w_tor, w_tval, w_op, w_op, w_op, w_var rfl, w_c, ixm1, w_c, wt1, w_call, w_cons, w_var rfl, w_cons, w_op, w_op, w_var rfl, w_c, ixm0, w_c, wt1, w_nil, max2, emx, run_neI, decide_eq_true rfl, isB_bl, if_neg (by decide), w_tval, w_op, w_op, w_op, w_var rfl, w_c, ixm1, w_c, wt0, w_call, w_cons, w_var rfl, w_cons, w_op, w_op, w_var rfl, w_c, ixm0, w_c, wt0, w_nil, max2]
  show Run (okB (decide ((T.at' p (JJ a b)).top < max (T.at' p a).top (T.at' p b).top)) S3) _
  rw [run_okB, isB_bl, decide_eq_false (by omega), if_neg (by decide)]
  exact ⟨⟨_, _, _, _, rfl⟩, k3⟩
end
theorem l_pair {c n : Nat} {a b : T} {S : Store} (ha : Cts a) (hb : Cts b) (hc : PoolAt c S) (hn : 81 < n) : Run ((fns n)._law_pair_right [.ref c, toV a, toV b] S) (fun r S' => r = .bl true ∧ Cp c S S') := by
  obtain ⟨n, rfl⟩ : ∃ m, n = m + 1 := ⟨n - 1, by omega⟩
  have hJ := dep_JJ ha hb
  have hJn : (JJ a b).nn = true := T.nn_J ha.co hb.co (T.top_nn ha.nn)
  show Run (fnOf 3 9 (b__law_pair_right (fns n)) [.ref c, toV a, toV b] S) _
  unfold b__law_pair_right
  refine run_fn (ρ := PE c a b none none none none none none) rfl rfl ?_
  refine s_step (pr_0 ha hb (by omega)) ?_
  rintro ρ S1 ⟨rfl, rfl⟩
  refine s_step (pr_1 hJ (by omega)) ?_
  rintro ρ S2 ⟨⟨d, rfl, hd⟩, k2⟩
  refine s_step (pr_2 ha hb hd (by omega)) ?_
  rintro ρ S3 ⟨rfl, k3⟩
  refine s_step (pr_3 ha hb (hd.kp k3) (by omega)) ?_
  rintro ρ S4 ⟨rfl, k4⟩
  refine s_step (pr_4 ha hb (by omega)) ?_
  rintro ρ S5 ⟨rfl, k5⟩
  have kk := ((k2.trans k3).trans k4).trans k5
  have c5 := hc.kp kk
  refine s_step (N' := fun ρ S' => Cp c S1 S') ?_ ?_
  · unfold st__law_pair_right_9
    refine s_forC ?_
    rw [w_lst, w_cons, w_call, w_cons, w_var rfl, w_nil]
    refine Run.mono (l_path c5 (by omega)) fun r S6 ⟨⟨p, e, hp⟩, k6⟩ => ?_
    subst e
    rw [w_cons, w_tup, w_nil]
    refine ⟨Nat.zero_le _, ?_⟩
    rw [w_nil]
    refine ⟨Nat.le_of_ble_eq_true rfl, _, _, rfl, get_new _ _, ?_⟩
    have hO := get_new S6 (.lst [pathV p, .tup []])
    have k7 : Cp c S1 (S6 ++ [.lst [pathV p, .tup []]]) := ((Cp.of hc kk).trans k6).kp (Gr.add _ _).kp
    have hOc : S6.length ≠ c := Nat.ne_of_gt k6.1.lt
    generalize S6 ++ [Cell.lst [pathV p, .tup []]] = A at *
    generalize S6.length = O at *
    have hps : ∀ x ∈ [pathV p, .tup []], ∃ q, x = pathV q ∧ Pth q := mem2 ⟨p, rfl, hp⟩ ⟨[], rfl, by decide, fun _ h => nomatch h⟩
    refine RunS.mono (runS_loopC (n := O) (xs := [pathV p, .tup []]) (fun j ρ S' => (∃ x5 x6 x7 x8, ρ = PE c a b (some (toV (JJ a b))) (some d) x5 x6 x7 x8) ∧ S'[O]? = some (.lst [pathV p, .tup []]) ∧ Cp c S1 S') (fun _ _ _ h => h.2.1) ?_ _ 0 _ _ (Nat.zero_add _) ⟨⟨_, _, _, _, rfl⟩, hO, k7⟩) (fun ρ S' h => h.2.2) fun _ _ h => h
    rintro j x ρ S8 hx ⟨⟨x5, x6, x7, x8, rfl⟩, hO8, k8⟩
    obtain ⟨q, rfl, hq⟩ := hps x (List.mem_of_getElem? hx)
    refine ⟨PE c a b (some (toV (JJ a b))) (some d) (some (pathV q)) x6 x7 x8, rfl, RunS.mono (pr_path ha hb hq (by omega) hJn) (fun ρ S9 ⟨h, k9⟩ => ⟨h, k9 _ _ hO8, k8.kp k9⟩) fun _ _ h => h⟩
  rintro ρ S6 k6
  unfold st__law_pair_right_10
  rw [s_ret, w_c]
  exact ⟨rfl, k6⟩
end PD.K05

/-! ## K05P1 -/
set_option Elab.async false
set_option linter.all false
set_option maxRecDepth 100000
set_option maxHeartbeats 1000000
namespace PD.K05
open PySem PySem.Spec L2 PD LT
theorem ne_str {W : Str} {S : Store} {Q : Val → Store → Prop} (h : (PyData.str W).canLay0 = true) : Run (oNe (.str W) (.str W) S) Q = Q (.bl false) S := by
  rw [run_ne (d := 0) (e := 0) (.str _ W h) (.str _ W h) (by decide) (by decide)]
  show Q (.bl (!(W == W))) S = _
  rw [beq_self_eq_true]; rfl
/-! ### what stands behind the drawing -/
structure Dr (c n0 : Nat) (xs0 : List Val) (S : Store) : Prop where
  pool : PoolAt c S
  ne : n0 ≠ c
  out : S[n0]? = some (.lst xs0)
theorem Dr.cp {c n0 : Nat} {xs0 : List Val} {S S' : Store} (h : Dr c n0 xs0 S) (k : Cp c S S') : Dr c n0 xs0 S' := ⟨k.1, h.ne, k.2 _ _ h.ne h.out⟩
theorem Dr.kp {c n0 : Nat} {xs0 : List Val} {S S' : Store} (h : Dr c n0 xs0 S) (k : Kp S S') : Dr c n0 xs0 S' := h.cp (Cp.of h.pool k)
abbrev LE (v0 : Option Val) (z : Int) (x2 x3 x4 x5 x6 x7 x8 x9 x10 x11 x12 x13 x14 x15 x16 : Option Val) : PD.Env := [v0, some (.int z), x2, x3, x4, x5, x6, x7, x8, x9, x10, x11, x12, x13, x14, x15, x16]
/-- drawn counts -/
def Cx (t : T) : Prop := Cts t ∧ t.mx < BIG
theorem cx_dt {d : Nat} {t : T} (h : Dt d t) (hd : d ≤ 5) : Cx t := by
  have h1 := h.tc
  have h2 := h.mx
  have h3 := h.dep
  have h4 : 2 ^ d ≤ 2 ^ 5 := Nat.pow_le_pow_right (by decide) hd
  have h5 := NUM_BIG
  have h6 := NUM_ge.2.2
  refine ⟨⟨h.co, h.nn, by omega, by omega⟩, ?_⟩
  have : ((d : Int) + 1) * NUM ≤ 1000 * NUM := Int.mul_le_mul_of_nonneg_right (by omega) (by omega)
  omega
theorem cx_int {i : Int} (h0 : 0 ≤ i) (h1 : i ≤ 1000) : Cx (.leaf i) := by
  have h5 := NUM_BIG
  have h6 := NUM_ge.2.2
  exact ⟨⟨rfl, decide_eq_true h0, Nat.zero_le _, Nat.zero_le _⟩, by show i < BIG; omega⟩
theorem cx_small {t : T} (h : Cts t) (hm : t.mx ≤ 1000) : Cx t := by
  have h5 := NUM_BIG
  have h6 := NUM_ge.2.2
  exact ⟨h, by omega⟩
theorem cx_JJ {a b : T} (ha : Cx a) (hb : Cx b) (ht : (JJ a b).tc ≤ 63) : Cx (JJ a b) := by
  have a12 := ha.1.dep
  have b12 := hb.1.dep
  have ma := ha.2
  have mb := hb.2
  refine ⟨⟨T.co_J 13 a b, T.nn_J ha.1.co hb.1.co (T.top_nn ha.1.nn), dep_JJ ha.1 hb.1, ht⟩, ?_⟩
  show (T.J 13 a b).mx < BIG
  rw [T.mx_J 13 a b (by omega) (by omega)]
  omega
/-- the list of some counts -/
structure Ls (c m : Nat) (ts : List T) (S : Store) : Prop where
  mc : m ≠ c
  at' : S[m]? = some (.lst (ts.map toV))
  cx : ∀ t ∈ ts, Cx t
theorem Ls.cp {c m : Nat} {ts : List T} {S S' : Store} (h : Ls c m ts S) (k : Cp c S S') : Ls c m ts S' := ⟨h.mc, k.2 _ _ h.mc h.at', h.cx⟩
theorem Ls.kp {c m : Nat} {ts : List T} {S S' : Store} (h : Ls c m ts S) (k : Kp S S') : Ls c m ts S' := ⟨h.mc, k _ _ h.at', h.cx⟩
theorem Ls.get {c m : Nat} {ts : List T} {S : Store} {i : Nat} {t : T} {Q : Val → Store → Prop} (h : Ls c m ts S) (e : ts[i]? = some t) : Run (oIx (.ref m) (.int (i : Nat)) S) Q = Q (toV t) S := by
  rw [run_ixR h.at', L2.atI_nat (v := toV t) (by rw [List.getElem?_map, e]; rfl)]
  rfl
theorem Ls.last {c m : Nat} {ts : List T} {t : T} {S : Store} {Q : Val → Store → Prop} (h : Ls c m (ts ++ [t]) S) : Run (oIx (.ref m) (.int (-1)) S) Q = Q (toV t) S := by
  rw [run_ixR h.at', List.map_append, List.map_cons, List.map_nil, L2.atI_last]
  rfl
theorem goods_ts {c : Nat} {S : Store} : ∀ ts : List T, (∀ t ∈ ts, Cx t) → Goods c S 12 (14000 * ts.length) (ts.map toV)
  | [], _ => .nil _
  | t :: ts, h => by
    have ht := h t List.mem_cons_self
    have h1 := ht.1.tc
    exact .cons ((good_toV ht.1.nn ht.2 ht.1.dep (by omega)).up (Nat.le_refl _) (show 211 * t.tc + 101 ≤ 13500 by omega)) (goods_ts ts fun u hu => h u (List.mem_cons_of_mem _ hu)) (by rw [List.length_cons]; omega)
/-- what repr shows of it -/
def shownL (ts : List T) : Str := (PyData.list (ts.map tD)).shown
theorem run_shown {c m : Nat} {ts : List T} {S : Store} {Q : Val → Store → Prop} (h : Ls c m ts S) (hl : ts.length ≤ 10) : Run (bRepr [.ref m] S) Q = Q (.str (shownL ts)) S ∧ (PyData.str (shownL ts)).canLay0 = true := by
  have g : Good c S 13 150000 (.ref m) := Good.ref (d := 12) (L := 14000 * ts.length) h.mc h.at' (goods_ts ts h.cx) (by omega) (by omega)
  have hda : ∀ x ∈ ts.map toV, Da S 12 x := fun x hx => by
    obtain ⟨t, ht, rfl⟩ := List.mem_map.mp hx
    exact toV_da (h.cx t ht).1.dep
  have e : dat S (.ref m) = .list (ts.map tD) := by
    rw [dat_ref h.at' hda (by omega), List.map_map]
    congr 1
    refine List.map_congr_left fun t ht => ?_
    have := (h.cx t ht).1.dep
    exact toV_dat (by omega)
  have hok := g.ok
  rw [e] at hok
  exact ⟨by rw [run_repr g (by omega) (by omega), e]; rfl, hok⟩
section
variable {n c n0 m : Nat} {xs0 : List Val} {S : Store} {R : Val → Store → Prop} {v0 x2 x3 x4 x5 x6 x7 x8 x9 x10 x11 x12 x13 x14 x15 x16 : Option Val} {z : Int} {a b e : T} {ts us : List T}
theorem law_0 (hn : 0 < n) (h0 : S[n0]? = some (.lst xs0)) : RunS (st_law_0 (fns n) (LE v0 z x2 x3 x4 x5 x6 x7 x8 x9 x10 x11 x12 x13 x14 x15 x16) S) (fun ρ S' => ∃ c, ρ = LE v0 z (some (.ref c)) x3 x4 x5 x6 x7 x8 x9 x10 x11 x12 x13 x14 x15 x16 ∧ Dr c n0 xs0 S') R := by
  unfold st_law_0
  rw [s_set, w_call, w_cons, w_var rfl, w_nil]
  refine Run.mono (l_cup hn) fun r S1 ⟨e, k, hc⟩ => ?_
  subst e
  exact ⟨_, rfl, hc, Nat.ne_of_lt (List.getElem?_eq_some_iff.mp h0).1, k _ _ h0⟩
theorem law_1 (hn : 20 < n) (dr : Dr c n0 xs0 S) : RunS (st_law_1 (fns n) (LE v0 z (some (.ref c)) x3 x4 x5 x6 x7 x8 x9 x10 x11 x12 x13 x14 x15 x16) S) (fun ρ S' => (∃ m a b e, ρ = LE v0 z (some (.ref c)) (some (.ref m)) x4 x5 x6 x7 x8 x9 x10 x11 x12 x13 x14 x15 x16 ∧ Ls c m [a, b, e] S') ∧ Dr c n0 xs0 S') R := by
  unfold st_law_1
  rw [s_set, w_lst, w_cons, w_call, w_cons, w_var rfl, w_cons, w_c, w_nil]
  refine Run.mono (l_counts 3 n c 3 S rfl dr.pool (by omega) (by omega)) fun r S1 ⟨⟨a, er, ha⟩, k1⟩ => ?_
  subst er
  rw [w_cons, w_call, w_cons, w_var rfl, w_cons, w_c, w_nil]
  refine Run.mono (l_counts 4 n c 4 S1 rfl k1.1 (by omega) (by omega)) fun r S2 ⟨⟨b, er, hb⟩, k2⟩ => ?_
  subst er
  rw [w_cons, w_op, w_lst, w_cons, w_call, w_cons, w_var rfl, w_cons, w_c, w_nil]
  refine Run.mono (l_long k2.1 (by omega)) fun r S3 ⟨⟨e1, er, he1, hm1⟩, k3⟩ => ?_
  subst er
  rw [w_cons, w_call, w_cons, w_var rfl, w_cons, w_c, w_nil]
  refine Run.mono (l_counts 5 n c 5 S3 rfl k3.1 (by omega) (by omega)) fun r S4 ⟨⟨e2, er, he2⟩, k4⟩ => ?_
  subst er
  rw [w_nil]
  refine ⟨Nat.le_of_ble_eq_true rfl, ?_⟩
  rw [w_call, w_cons, w_var rfl, w_cons, w_c, w_nil]
  refine Run.mono (l_draw (k := 2) (P := fun x => ∃ t, x = toV t ∧ Cx t) k4.1 rfl rfl (by decide) (by decide) (by omega) ?_) fun x S5 hx => Run.mono hx fun x S6 ⟨⟨t, er, ht⟩, k6⟩ => ?_
  · exact mem2 ⟨e1, rfl, cx_small he1 hm1⟩ ⟨e2, rfl, cx_dt he2 (by omega)⟩
  subst er
  rw [w_nil]
  have cc := (((k1.trans k2).trans k3).trans k4).trans k6
  refine ⟨Nat.le_of_ble_eq_true rfl, ⟨_, a, b, t, rfl, Nat.ne_of_gt cc.1.lt, get_new _ _, ?_⟩, dr.cp (cc.kp (Gr.add _ _).kp)⟩
  exact mem3 (cx_dt ha (by omega)) (cx_dt hb (by omega)) ht
theorem law_2 (hn : 80 < n) (hs : Ls c m [a, b, e] S) : RunS (st_law_2 (fns n) (LE v0 z (some (.ref c)) (some (.ref m)) x4 x5 x6 x7 x8 x9 x10 x11 x12 x13 x14 x15 x16) S) (fun ρ S' => ρ = LE v0 z (some (.ref c)) (some (.ref m)) (some (toV (JJ a b))) x5 x6 x7 x8 x9 x10 x11 x12 x13 x14 x15 x16 ∧ S' = S) R := by
  have ha := (hs.cx a (by simp)).1.dep
  have hb := (hs.cx b (by simp)).1.dep
  unfold st_law_2
  rw [s_set, w_call, w_cons, w_op, w_var rfl, w_c]
  show Run (oIx (.ref m) (.int ((0 : Nat) : Int)) S) _
  rw [hs.get (t := a) rfl, w_cons, w_op, w_var rfl, w_c]
  show Run (oIx (.ref m) (.int ((1 : Nat) : Int)) S) _
  rw [hs.get (t := b) rfl, w_nil]
  refine Run.mono (l_join 13 n a b S (by omega) (by omega) (by omega) (by omega)) fun r S1 ⟨er, e1⟩ => ?_
  subst er e1
  exact ⟨rfl, rfl⟩
theorem map5 {i : Int} {a b e : T} : [toV a, toV b, toV e] ++ [Val.int 0, .int i] = [a, b, e, .leaf 0, .leaf i].map toV := rfl
theorem law_3 (hn : 80 < n) (dr : Dr c n0 xs0 S) (hs : Ls c m [a, b, e] S) : RunS (st_law_3 (fns n) (LE v0 z (some (.ref c)) (some (.ref m)) (some (toV (JJ a b))) x5 x6 x7 x8 x9 x10 x11 x12 x13 x14 x15 x16) S)
    (fun ρ S' => (∃ m i, ρ = LE v0 z (some (.ref c)) (some (.ref m)) (some (toV (JJ a b))) x5 x6 x7 x8 x9 x10 x11 x12 x13 x14 x15 x16 ∧ Ls c m ([a, b, e, .leaf 0, .leaf i] ++ if (JJ a b).tc ≤ 63 then [JJ a b] else []) S') ∧ Dr c n0 xs0 S') R := by
  have ca := hs.cx a (by simp)
  have cb := hs.cx b (by simp)
  have ce := hs.cx e (by simp)
  have hJ := dep_JJ ca.1 cb.1
  unfold st_law_3
  rw [s_set, w_op, w_op, w_var rfl, w_lst, w_cons, w_c, w_cons, w_call, w_cons, w_var rfl, w_cons, w_c, w_nil]
  refine Run.mono (l_pick dr.pool (by decide) (by decide) (by omega)) fun r S1 ⟨⟨i, er, i0, i1⟩, k1⟩ => ?_
  subst er
  rw [w_nil]
  refine ⟨Nat.le_of_ble_eq_true rfl, ?_⟩
  have hs1 := hs.cp k1
  rw [run_addL ((Gr.add _ _).get hs1.at') (get_new _ _) (Nat.le_of_ble_eq_true rfl)]
  have kA := ((Gr.add S1 [.lst [.int 0, .int i]]).trans (Gr.add _ [.lst ([a, b, e].map toV ++ [.int 0, .int i])])).kp
  have hA := get_new (S1 ++ [Cell.lst [.int 0, .int i]]) (.lst ([a, b, e].map toV ++ [.int 0, .int i]))
  have drA := (dr.cp k1).kp kA
  generalize S1 ++ [Cell.lst [.int 0, .int i]] ++ [Cell.lst ([a, b, e].map toV ++ [.int 0, .int i])] = A at *
  generalize (S1 ++ [Cell.lst [.int 0, .int i]]).length = a0 at *
  rw [w_op, w_lst, w_cons, w_var rfl, w_nil]
  refine ⟨Nat.le_of_ble_eq_true rfl, ?_⟩
  have kB := (Gr.add A [.lst [toV (JJ a b)]]).kp
  have hB := get_new A (.lst [toV (JJ a b)])
  have hAB := kB _ _ hA
  rw [w_call, w_cons, w_op, w_call, w_cons, w_var rfl, w_nil]
  refine Run.mono (l_size (JJ a b) n _ (Nat.lt_of_le_of_lt hJ (by omega))) fun r S2 ⟨er, e2⟩ => ?_
  subst er e2
  rw [w_c]
  show Run (okB (decide (((JJ a b).tc : Int) < 64)) _) _
  rw [run_okB, w_nil]
  have eb : ∀ (X : Store) (Q : Val → Store → Prop), Run (bInt [.bl (decide (((JJ a b).tc : Int) < 64))] X) Q = Q (.int ((if (JJ a b).tc ≤ 63 then (1 : Nat) else 0 : Nat) : Int)) X := fun X Q => by
    by_cases ht : (JJ a b).tc ≤ 63
    · rw [decide_eq_true (by omega), if_pos ht]; rfl
    · rw [decide_eq_false (by omega), if_neg ht]; rfl
  rw [eb, run_repLL (by rw [List.length_singleton]; split <;> omega) (by split <;> omega)]
  generalize hq : (if (JJ a b).tc ≤ 63 then (1 : Nat) else 0) = q
  have hrep : repV q [toV (JJ a b)] = (if (JJ a b).tc ≤ 63 then [JJ a b] else []).map toV := by
    subst hq
    split <;> rfl
  have kC := (Gr.add (A ++ [Cell.lst [toV (JJ a b)]]) [.lst (repV q [toV (JJ a b)])]).kp
  rw [run_addL (kC _ _ hAB) (get_new _ _) (by rw [hrep]; split <;> exact Nat.le_of_ble_eq_true rfl)]
  have drC := (drA.kp kB).kp kC
  refine ⟨⟨_, i, rfl, Nat.ne_of_gt drC.pool.lt, ?_, ?_⟩, drC.kp (Gr.add _ _).kp⟩
  · rw [get_new, hrep, List.map_append]
    rfl
  · intro t ht
    rcases List.mem_append.mp ht with ht | ht
    · simp only [List.mem_cons, List.not_mem_nil, or_false] at ht
      rcases ht with rfl | rfl | rfl | rfl | rfl
      · exact ca
      · exact cb
      · exact ce
      · exact cx_int (Int.le_refl _) (by decide)
      · exact cx_int i0 (by omega)
    · split at ht
      · rename_i h63
        rw [List.mem_singleton.mp ht]
        exact cx_JJ ca cb h63
      · cases ht
theorem law_4 (hl : ts.length ≤ 10) (hs : Ls c m ts S) : RunS (st_law_4 (fns n) (LE v0 z x2 (some (.ref m)) x4 x5 x6 x7 x8 x9 x10 x11 x12 x13 x14 x15 x16) S) (fun ρ S' => ρ = LE v0 z x2 (some (.ref m)) x4 (some (.str (shownL ts))) x6 x7 x8 x9 x10 x11 x12 x13 x14 x15 x16 ∧ S' = S) R := by
  unfold st_law_4
  rw [s_set, w_call, w_cons, w_var rfl, w_nil, (run_shown hs hl).1]
  exact ⟨rfl, rfl⟩
theorem law_5 (hn : 100 < n) (hl : ts.length ≤ 10) (h0 : ts[0]? = some a) (he : ts = us ++ [b]) (dr : Dr c n0 xs0 S) (hs : Ls c m ts S) :
    RunS (st_law_5 (fns n) (LE v0 z (some (.ref c)) (some (.ref m)) x4 x5 x6 x7 x8 x9 x10 x11 x12 x13 x14 x15 x16) S) (fun ρ S' => (∃ x6 x7, ρ = LE v0 z (some (.ref c)) (some (.ref m)) x4 x5 x6 x7 x8 x9 x10 x11 x12 x13 x14 x15 x16) ∧ Ls c m ts S' ∧ Dr c n0 xs0 S') R := by
  have h0l : 0 < ts.length := (List.getElem?_eq_some_iff.mp h0).1
  have hca : Cts a := (hs.cx a (List.mem_of_getElem? h0)).1
  have hcb : Cts b := (hs.cx b (by rw [he]; simp)).1
  unfold st_law_5
  refine s_forC ?_
  rw [w_var rfl]
  refine ⟨m, _, rfl, hs.at', ?_⟩
  refine RunS.mono (runS_loopC (n := m) (xs := ts.map toV) (fun j ρ S' => (∃ x6 x7, ρ = LE v0 z (some (.ref c)) (some (.ref m)) x4 x5 x6 x7 x8 x9 x10 x11 x12 x13 x14 x15 x16) ∧ Ls c m ts S' ∧ Dr c n0 xs0 S') (fun _ _ _ h => h.2.1.at') ?_ _ 0 _ _ (Nat.zero_add _) ⟨⟨x6, x7, rfl⟩, hs, dr⟩) (fun ρ S' h => h) fun _ _ h => h
  clear hs dr
  rintro j x ρ S1 hx ⟨⟨x6, x7, rfl⟩, hs, dr⟩
  rw [List.getElem?_map] at hx
  obtain ⟨o, ho, rfl⟩ := Option.map_eq_some_iff.mp hx
  have hco : Cts o := (hs.cx o (List.mem_of_getElem? ho)).1
  refine ⟨LE v0 z (some (.ref c)) (some (.ref m)) x4 x5 (some (toV o)) x7 x8 x9 x10 x11 x12 x13 x14 x15 x16, rfl, ?_⟩
  refine s_forC ?_
  rw [w_lst, w_cons, w_op, w_var rfl, w_call, w_cons, w_var rfl, w_cons, w_call, w_cons, w_var rfl, w_nil, run_len hs.at', w_nil]
  refine Run.mono (l_pick dr.pool (by rw [List.length_map]; omega) (by rw [List.length_map]; omega) (by omega)) fun r S2 ⟨⟨i, er, i0, i1⟩, k2⟩ => ?_
  subst er
  rw [List.length_map] at i1
  have hs2 := hs.cp k2
  have dr2 := dr.cp k2
  obtain ⟨q, rfl⟩ : ∃ q : Nat, i = (q : Int) := ⟨i.toNat, by omega⟩
  have hql : q < ts.length := by omega
  have hq : ts[q]? = some ts[q] := List.getElem?_eq_getElem hql
  have hcq : Cts ts[q] := (hs.cx _ (List.getElem_mem hql)).1
  generalize ts[q] = tq at *
  rw [hs2.get hq, w_cons, w_var rfl, w_cons, w_op, w_var rfl, w_c]
  show Run (oIx (.ref m) (.int ((0 : Nat) : Int)) S2) _
  rw [hs2.get h0, w_cons, w_op, w_var rfl, w_un, w_c, run_neg]
  have hs2' := hs2
  rw [he] at hs2'
  show Run (oIx (.ref m) (.int (-1)) S2) _
  rw [hs2'.last, w_nil]
  refine ⟨Nat.le_of_ble_eq_true rfl, _, _, rfl, get_new _ _, ?_⟩
  have hps : ∀ x ∈ [toV tq, toV o, toV a, toV b], ∃ t, x = toV t ∧ Cts t := by
    simp only [List.mem_cons, List.not_mem_nil, or_false, forall_eq_or_imp, forall_eq]
    exact ⟨⟨_, rfl, hcq⟩, ⟨_, rfl, hco⟩, ⟨_, rfl, hca⟩, ⟨_, rfl, hcb⟩⟩
  have hO := get_new S2 (.lst [toV tq, toV o, toV a, toV b])
  have kA := (Gr.add S2 [.lst [toV tq, toV o, toV a, toV b]]).kp
  have hsA := hs2.kp kA
  have drA := dr2.kp kA
  have hOc : S2.length ≠ c := Nat.ne_of_gt dr2.pool.lt
  generalize S2 ++ [Cell.lst [toV tq, toV o, toV a, toV b]] = A at *
  generalize S2.length = O at *
  generalize [toV tq, toV o, toV a, toV b] = ps at *
  refine RunS.mono (runS_loopC (n := O) (xs := ps) (fun j ρ S' => (∃ x7, ρ = LE v0 z (some (.ref c)) (some (.ref m)) x4 x5 (some (toV o)) x7 x8 x9 x10 x11 x12 x13 x14 x15 x16) ∧ S'[O]? = some (.lst ps) ∧ Ls c m ts S' ∧ Dr c n0 xs0 S') (fun _ _ _ h => h.2.1) ?_ _ 0 _ _ (Nat.zero_add _) ⟨⟨x7, rfl⟩, hO, hsA, drA⟩) (fun ρ S' h => ?_) fun _ _ h => h
  · rintro j2 x ρ S3 hx2 ⟨⟨y7, rfl⟩, hO3, hs3, dr3⟩
    obtain ⟨t, rfl, ht⟩ := hps x (List.mem_of_getElem? hx2)
    refine ⟨LE v0 z (some (.ref c)) (some (.ref m)) x4 x5 (some (toV o)) (some (toV t)) x8 x9 x10 x11 x12 x13 x14 x15 x16, rfl, ?_⟩
    rw [s_if, w_tnot, w_tval, w_call, w_cons, w_var rfl, w_cons, w_var rfl, w_cons, w_var rfl, w_nil]
    refine Run.mono (l_pair hco ht dr3.pool (by omega)) fun r S4 ⟨er, k4⟩ => ?_
    subst er
    exact ⟨⟨_, rfl⟩, k4.2 _ _ hOc hO3, hs3.cp k4, dr3.cp k4⟩
  · obtain ⟨⟨y7, e7⟩, _, hs9, dr9⟩ := h
    exact ⟨⟨_, _, e7⟩, hs9, dr9⟩
/-- full trees, and one more -/
structure Fu (t : T) (d w : Nat) : Prop where
  co : t.co = true
  nn : t.nn = true
  dep : t.dep = d
  tc : t.tc = w
  top : t.top = 0
theorem law_6 : RunS (st_law_6 (fns n) (LE v0 z x2 x3 x4 x5 x6 x7 x8 x9 x10 x11 x12 x13 x14 x15 x16) S) (fun ρ S' => ρ = LE v0 z x2 x3 x4 x5 x6 x7 (some (toV (.node 0 (.leaf 0) (.leaf 1)))) (some (toV (.node 0 (.leaf 0) (.node 0 (.leaf 0) (.leaf 1))))) x10 x11 x12 x13 x14 x15 x16 ∧ S' = S) R := by
  unfold st_law_6
  simp only [run_ok, run_okI, run_okB, run_alloc, run_stuck, run_bind, run_ite, run_noX, run_fnOf, w_c, w_op, w_un, w_call, w_callK, w_nil, w_cons, w_tup, w_lst, isB_bl, w_tval, w_tand, w_tor, w_tnot, w_and, w_or, w_not, w_if, s_next, s_seq, s_if, s_ret, s_drop, s_set, s_par, s_put, s_asg, w_var', runS_next, runS_ret, runS_stuck, runS_ite, List.length_cons, List.length_nil, List.length_singleton, List.map_cons, List.map_nil, List.cons_append, List.nil_append, List.replicate_succ, List.replicate_zero, List.getElem?_cons_zero, List.getElem?_cons_succ, List.set_cons_zero, List.set_cons_succ, Nat.reduceAdd, Nat.reduceSub, Nat.reduceEqDiff, ite_true, ite_false, if_true, if_false, reduceIte, Bool.false_eq_true, decide_true, decide_false, String.reduceEq, Int.reduceEq, Nat.reduceLeDiff, true_and, and_true, Bool.not_true, Bool.not_false, decide_eq_true_eq, List.append_nil, bType, bIsi, bLen, bInt, ty_int, ty_bl, ty_str, ty_non, ty_tup, isT, oIs, oIsNot, run_eqI, run_neI, Bool.or_false, Bool.or_true, Bool.false_or, Bool.true_or, Bool.and_true, Bool.and_false, Bool.true_and, Bool.false_and, reduceCtorEq, decide_not, Bool.not_eq_true', decide_eq_false_iff_not, askInt, askBool, askTuple, askList, askStr, oLe, oLt, oGe, oGt, oInt2, atI0, atI1, atI2, run_addI, run_subI]
  exact rfl
theorem fu_node {t u : T} {d d' w w' : Nat} (h : Fu t (d + 1) w) (h' : Fu u (d' + 1) w') : Fu (.node 0 t u) (1 + max (d + 1) (d' + 1)) (1 + (w + w')) := by
  refine ⟨T.co_node.mpr ⟨h.co, h'.co, ?_, by rw [h.top]; exact Int.le_refl _, by rw [h'.top]; exact Int.le_refl _, .inl h.top⟩, T.nn_node.mpr ⟨by decide, h.nn, h'.nn⟩, ?_, ?_, rfl⟩
  · cases hs : T.sameL t u with
    | false => rfl
    | true =>
      obtain ⟨i, rfl, rfl⟩ := T.sameL_eq hs
      have := h.dep
      cases this
  · show 1 + max t.dep u.dep = _
    rw [h.dep, h'.dep]
  · show 1 + (t.tc + u.tc) = _
    rw [h.tc, h'.tc]
theorem law_7 : RunS (st_law_7 (fns n) (LE v0 z x2 x3 x4 x5 x6 x7 (some (toV (.node 0 (.leaf 0) (.leaf 1)))) (some (toV (.node 0 (.leaf 0) (.node 0 (.leaf 0) (.leaf 1))))) x10 x11 x12 x13 x14 x15 x16) S)
    (fun ρ S' => (∃ t u x10, ρ = LE v0 z x2 x3 x4 x5 x6 x7 (some (toV t)) (some (toV u)) x10 x11 x12 x13 x14 x15 x16 ∧ Fu t 5 31 ∧ Fu u 6 32) ∧ S' = S) R := by
  unfold st_law_7
  rw [s_forR, w_cons, w_c, w_nil]
  show if -(2 ^ 62) ≤ (4 : Int) ∧ (4 : Int) < 2 ^ 62 then _ else False
  rw [if_pos (by decide)]
  refine RunS.mono (runS_loopV 4 (fun j ρ S' => (∃ t u x10, ρ = LE v0 z x2 x3 x4 x5 x6 x7 (some (toV t)) (some (toV u)) x10 x11 x12 x13 x14 x15 x16 ∧ Fu t (j + 1) (2 ^ (j + 1) - 1) ∧ Fu u (j + 1 + 1) (2 ^ (j + 1))) ∧ S' = S) ?_ _ 0 _ _ (by rw [rangeV_len]; decide) ⟨⟨_, _, _, rfl, ⟨by decide, by decide, by decide, by decide, by decide⟩, ⟨by decide, by decide, by decide, by decide, by decide⟩⟩, rfl⟩) ?_ fun _ _ h => h
  · rintro j x ρ S1 hj ⟨⟨t, u, x10, rfl, ht, hu⟩, rfl⟩
    refine ⟨LE v0 z x2 x3 x4 x5 x6 x7 (some (toV t)) (some (toV u)) (some x) x11 x12 x13 x14 x15 x16, rfl, ?_⟩
    rw [s_par, w_cons, w_tup, w_cons, w_c, w_cons, w_var rfl, w_cons, w_var rfl, w_nil]
    refine ⟨Nat.le_of_ble_eq_true rfl, ?_⟩
    rw [w_cons, w_tup, w_cons, w_c, w_cons, w_var rfl, w_cons, w_var rfl, w_nil]
    refine ⟨Nat.le_of_ble_eq_true rfl, ?_⟩
    rw [w_nil]
    have hp : 1 ≤ 2 ^ (j + 1) := Nat.pow_pos (by decide)
    have f1 := fu_node ht ht
    have f2 := fu_node ht hu
    refine ⟨⟨.node 0 t t, .node 0 t u, some x, rfl, ?_, ?_⟩, rfl⟩
    · rw [show j + 1 + 1 = 1 + max (j + 1) (j + 1) by omega, show 2 ^ (1 + max (j + 1) (j + 1)) - 1 = 1 + (2 ^ (j + 1) - 1 + (2 ^ (j + 1) - 1)) by rw [Nat.max_self, Nat.add_comm 1, Nat.pow_succ]; omega]
      exact f1
    · have e1 : j + 1 + 1 + 1 = 1 + max (j + 1) (j + 1 + 1) := by omega
      have e2 : 2 ^ (j + 1 + 1) = 1 + (2 ^ (j + 1) - 1 + 2 ^ (j + 1)) := by rw [Nat.pow_succ 2 (j + 1)]; omega
      rw [e1, e2]
      exact f2
  · rw [rangeV_len]
    exact fun _ _ h => h
theorem cts_fu {t : T} {d w : Nat} (h : Fu t d w) (hd : d ≤ 12) (hw : w ≤ 63) : Cts t := ⟨h.co, h.nn, by rw [h.dep]; exact hd, by rw [h.tc]; exact hw⟩
theorem fu_l {t : T} {d w : Nat} (h : Fu t (d + 1) w) : Fu (.node 0 (.leaf 0) t) (d + 2) (1 + w) := by
  refine ⟨T.co_node.mpr ⟨rfl, h.co, ?_, Int.le_refl _, by rw [h.top]; exact Int.le_refl _, .inl rfl⟩, T.nn_node.mpr ⟨by decide, by decide, h.nn⟩, ?_, ?_, rfl⟩
  · cases t with
    | leaf i => have := h.dep; cases this
    | node => rfl
  · show 1 + max 0 t.dep = _
    rw [h.dep]; omega
  · show 1 + (0 + t.tc) = _
    rw [h.tc]; omega
theorem fu_r {t : T} {d w : Nat} (h : Fu t (d + 1) w) : Fu (.node 0 t (.leaf 0)) (d + 2) (1 + w) := by
  refine ⟨T.co_node.mpr ⟨h.co, rfl, ?_, by rw [h.top]; exact Int.le_refl _, Int.le_refl _, .inl h.top⟩, T.nn_node.mpr ⟨by decide, h.nn, by decide⟩, ?_, ?_, rfl⟩
  · cases t with
    | leaf i => have := h.dep; cases this
    | node => rfl
  · show 1 + max t.dep 0 = _
    rw [h.dep]; omega
  · show 1 + (t.tc + 0) = _
    rw [h.tc]; omega
theorem law_8 {t u : T} (hn : 100 < n) (ht : Fu t 5 31) (hu : Fu u 6 32) (dr : Dr c n0 xs0 S) (hs : Ls c m ts S) :
    RunS (st_law_8 (fns n) (LE v0 z (some (.ref c)) (some (.ref m)) x4 x5 x6 x7 (some (toV t)) (some (toV u)) x10 x11 x12 x13 x14 x15 x16) S) (fun ρ S' => (∃ x11, ρ = LE v0 z (some (.ref c)) (some (.ref m)) x4 x5 x6 x7 (some (toV t)) (some (toV u)) x10 x11 x12 x13 x14 x15 x16) ∧ Ls c m ts S' ∧ Dr c n0 xs0 S') R := by
  have h1 := cts_fu (fu_r ht) (by decide) (by decide)
  have h2 := cts_fu (fu_l ht) (by decide) (by decide)
  have h3 := cts_fu (fu_l hu) (by decide) (by decide)
  unfold st_law_8
  refine s_forC ?_
  rw [w_lst, w_cons, w_tup, w_cons, w_c, w_cons, w_c, w_cons, w_var rfl, w_nil]
  refine ⟨Nat.le_of_ble_eq_true rfl, ?_⟩
  rw [w_cons, w_tup, w_cons, w_c, w_cons, w_c, w_cons, w_var rfl, w_nil]
  refine ⟨Nat.le_of_ble_eq_true rfl, ?_⟩
  rw [w_nil]
  refine ⟨Nat.le_of_ble_eq_true rfl, _, _, rfl, get_new _ _, ?_⟩
  have hps : ∀ x ∈ [toV (.node 0 (.leaf 0) t), toV (.node 0 (.leaf 0) u)], ∃ w, x = toV w ∧ Cts w := mem2 ⟨_, rfl, h2⟩ ⟨_, rfl, h3⟩
  show RunS (loopC S.length (gN 11) _ 2 0 _ (S ++ [.lst [toV (.node 0 (.leaf 0) t), toV (.node 0 (.leaf 0) u)]])) _ _
  have hO := get_new S (.lst [toV (.node 0 (.leaf 0) t), toV (.node 0 (.leaf 0) u)])
  have kA := (Gr.add S [.lst [toV (.node 0 (.leaf 0) t), toV (.node 0 (.leaf 0) u)]]).kp
  have hsA := hs.kp kA
  have drA := dr.kp kA
  have hOc : S.length ≠ c := Nat.ne_of_gt dr.pool.lt
  generalize S ++ [Cell.lst [toV (.node 0 (.leaf 0) t), toV (.node 0 (.leaf 0) u)]] = A at *
  generalize S.length = O at *
  refine RunS.mono (runS_loopC (n := O) (xs := [toV (.node 0 (.leaf 0) t), toV (.node 0 (.leaf 0) u)]) (fun j ρ S' => (∃ x11, ρ = LE v0 z (some (.ref c)) (some (.ref m)) x4 x5 x6 x7 (some (toV t)) (some (toV u)) x10 x11 x12 x13 x14 x15 x16) ∧ S'[O]? = some (.lst [toV (.node 0 (.leaf 0) t), toV (.node 0 (.leaf 0) u)]) ∧ Ls c m ts S' ∧ Dr c n0 xs0 S') (fun _ _ _ h => h.2.1) ?_ _ 0 _ _ (Nat.zero_add _) ⟨⟨x11, rfl⟩, hO, hsA, drA⟩) (fun ρ S' h => ⟨h.1, h.2.2⟩) fun _ _ h => h
  rintro j x ρ S3 hx2 ⟨⟨y, rfl⟩, hO3, hs3, dr3⟩
  obtain ⟨w, rfl, hw⟩ := hps x (List.mem_of_getElem? hx2)
  refine ⟨LE v0 z (some (.ref c)) (some (.ref m)) x4 x5 x6 x7 (some (toV t)) (some (toV u)) x10 (some (toV w)) x12 x13 x14 x15 x16, rfl, ?_⟩
  rw [s_if, w_tnot, w_tval, w_call, w_cons, w_var rfl, w_cons, w_tup, w_cons, w_c, w_cons, w_var rfl, w_cons, w_c, w_nil]
  refine ⟨Nat.le_of_ble_eq_true rfl, ?_⟩
  rw [w_cons, w_var rfl, w_nil]
  show Run ((fns n)._law_pair_right [.ref c, toV (.node 0 t (.leaf 0)), toV w] S3) _
  refine Run.mono (l_pair h1 hw dr3.pool (by omega)) fun r S4 ⟨er, k4⟩ => ?_
  subst er
  exact ⟨⟨_, rfl⟩, k4.2 _ _ hOc hO3, hs3.cp k4, dr3.cp k4⟩
theorem law_9 (hn : 80 < n) (ha : Cts a) (hb : Cts b) (he : ts[2]? = some e) (hs : Ls c m ts S) : RunS (st_law_9 (fns n) (LE v0 z x2 (some (.ref m)) (some (toV (JJ a b))) x5 x6 x7 x8 x9 x10 x11 x12 x13 x14 x15 x16) S) (fun ρ S' => ρ = LE v0 z x2 (some (.ref m)) (some (toV (JJ a b))) x5 x6 x7 x8 x9 x10 x11 (some (toV (JJ (JJ a b) e))) x13 x14 x15 x16 ∧ S' = S) R := by
  have hJ : (JJ a b).dep ≤ 13 := Nat.le_trans (dep_JJ ha hb) (by decide)
  have he12 := (hs.cx e (List.mem_of_getElem? he)).1.dep
  unfold st_law_9
  rw [s_set, w_call, w_cons, w_var rfl, w_cons, w_op, w_var rfl, w_c]
  show Run (oIx (.ref m) (.int ((2 : Nat) : Int)) S) _
  rw [hs.get he, w_nil]
  refine Run.mono (l_join 13 n (JJ a b) e S hJ (by omega) (by omega) (by omega)) fun r S1 ⟨er, e1⟩ => ?_
  subst er e1
  exact ⟨rfl, rfl⟩
theorem law_10 (hn : 100 < n) (ha : Cx a) (hb : Cx b) (he : ts[2]? = some e) (dr : Dr c n0 xs0 S) (hs : Ls c m ts S) : RunS (st_law_10 (fns n) (LE v0 z x2 (some (.ref m)) (some (toV (JJ a b))) x5 x6 x7 x8 x9 x10 x11 (some (toV (JJ (JJ a b) e))) x13 x14 x15 x16) S) (fun ρ S' => ρ = LE v0 z x2 (some (.ref m)) (some (toV (JJ a b))) x5 x6 x7 x8 x9 x10 x11 (some (toV (JJ (JJ a b) e))) x13 x14 x15 x16 ∧ Ls c m ts S' ∧ Dr c n0 xs0 S') R := by
  have ce := hs.cx e (List.mem_of_getElem? he)
  have hJ := dep_JJ ha.1 hb.1
  have e12 := ce.1.dep
  have hJ3 : (JJ (JJ a b) e).dep ≤ 12 := by
    have := T.dep_J 13 (JJ a b) e
    exact Nat.le_trans this (by rw [Nat.max_le]; exact ⟨hJ, e12⟩)
  unfold st_law_10
  rw [s_if, w_tand, w_tval, w_op, w_call, w_cons, w_var rfl, w_nil]
  refine Run.mono (l_size _ n S (Nat.lt_of_le_of_lt hJ3 (by omega))) fun r S1 ⟨er, e1⟩ => ?_
  subst er e1
  rw [w_c]
  show Run (okB (decide (((JJ (JJ a b) e).tc : Int) < 64)) S1) _
  rw [run_okB, isB_bl]
  by_cases h3 : (JJ (JJ a b) e).tc ≤ 63
  · rw [decide_eq_true (by omega), if_pos rfl, w_tval, w_op, w_call, w_cons, w_var rfl, w_nil]
    refine Run.mono (l_size _ n S1 (Nat.lt_of_le_of_lt hJ (by omega))) fun r S2 ⟨er, e1⟩ => ?_
    subst er e1
    rw [w_c]
    show Run (okB (decide (((JJ a b).tc : Int) < 64)) S2) _
    rw [run_okB, isB_bl]
    by_cases h2 : (JJ a b).tc ≤ 63
    · have cJ := cx_JJ ha hb h2
      have c3 := cx_JJ cJ ce h3
      have ecomm : JJ e (JJ a b) = JJ (JJ a b) e := T.J_comm 13 _ _
      rw [decide_eq_true (by omega), if_pos rfl, s_if, w_tor, w_tnot, w_tval, w_call, w_cons, w_call, w_cons, w_op, w_var rfl, w_c]
      show Run (oIx (.ref m) (.int ((2 : Nat) : Int)) S2) _
      rw [hs.get he, w_cons, w_var rfl, w_nil]
      refine Run.mono (joined_ok ce.1 cJ.1 (by rw [ecomm]; exact h3) (by omega)) fun r S3 ⟨er, k3⟩ => ?_
      subst er
      rw [w_cons, w_var rfl, w_nil, ecomm]
      refine Run.mono (l_same_sm 12 n _ S3 (sm_toV hJ3) (by omega) (by omega)) fun y S4 ⟨er, k4⟩ => ?_
      subst er
      rw [isB_bl, if_neg (by decide), w_tnot, w_tval, w_call, w_cons, w_call, w_cons, w_var rfl, w_cons, w_var rfl, w_nil]
      refine Run.mono (within_ok cJ.1 c3.1 (by omega)) fun r S5 ⟨er, k5⟩ => ?_
      subst er
      have hW : T.W 13 (JJ a b) (JJ (JJ a b) e) = true := T.W_J 13 (JJ a b) e
      rw [hW, w_cons, w_c, w_nil]
      refine Run.mono (l_same_sm 0 n _ S5 (.bl 0 true) (by omega) (by omega)) fun y S6 ⟨er, k6⟩ => ?_
      subst er
      have kk := ((k3.trans k4).trans k5).trans k6
      exact ⟨rfl, hs.kp kk, dr.kp kk⟩
    · rw [decide_eq_false (by omega), if_neg (by decide)]
      exact ⟨rfl, hs, dr⟩
  · rw [decide_eq_false (by omega), if_neg (by decide), if_neg (by decide)]
    exact ⟨rfl, hs, dr⟩
theorem law_11 (hn : 20 < n) (h0 : ts[0]? = some a) (dr : Dr c n0 xs0 S) (hs : Ls c m ts S) : RunS (st_law_11 (fns n) (LE v0 z (some (.ref c)) (some (.ref m)) x4 x5 x6 x7 x8 x9 x10 x11 x12 x13 x14 x15 x16) S)
    (fun ρ S' => (∃ bd p, ρ = LE v0 z (some (.ref c)) (some (.ref m)) x4 x5 x6 x7 x8 x9 x10 x11 x12 (some bd) (some p) x15 x16 ∧ (Dc c S' 20 bd ∧ coOk bd = false) ∧ (Dc c S' 20 p ∧ isPa p = false)) ∧ Ls c m ts S' ∧ Dr c n0 xs0 S') R := by
  have ca := hs.cx a (List.mem_of_getElem? h0)
  unfold st_law_11
  rw [s_asg, w_tup, w_cons, w_call, w_cons, w_var rfl, w_cons, w_op, w_var rfl, w_c]
  show Run (oIx (.ref m) (.int ((0 : Nat) : Int)) S) _
  rw [hs.get h0, w_nil]
  refine Run.mono (l_bad_counts dr.pool ca.1.dep (by omega)) fun bd S1 ⟨hbd, k1⟩ => ?_
  rw [w_cons, w_call, w_cons, w_var rfl, w_nil]
  refine Run.mono (l_bad_path k1.1 (by omega)) fun p S2 ⟨hp, k2⟩ => ?_
  rw [w_nil]
  exact ⟨Nat.le_of_ble_eq_true rfl, ⟨bd, p, rfl, ⟨hbd.1.kx k2.2, hbd.2⟩, hp⟩, (hs.cp k1).cp k2, (dr.cp k1).cp k2⟩
end
end PD.K05

/-! ## K05P2 -/
set_option Elab.async false
set_option linter.all false
set_option maxRecDepth 100000
set_option maxHeartbeats 1000000
namespace PD.K05
open PySem PySem.Spec L2 PD LT
/-- so many times the same word -/
@[irreducible] def words (k : Nat) : List Val := List.replicate k (.str "counts")
theorem words_da (k : Nat) (S : Store) : ∀ x ∈ words k, Da S 0 x := fun x hx => by
  unfold words at hx
  rw [(List.mem_replicate.mp hx).2]
  exact .str 0 _ (by decide +kernel)
theorem words_len (k : Nat) : (words k).length = k := by unfold words; exact List.length_replicate
theorem words_add (j k : Nat) : words j ++ words k = words (j + k) := by unfold words; exact List.replicate_append_replicate
theorem words9 : PyData.eqv (.list ((List.replicate 9 (Val.str "counts")).map (dat []))) (.list ((List.replicate 9 (Val.str "counts")).map (dat []))) = true := by decide +kernel
theorem words2 : PyData.eqv (.list ((List.replicate 2 (Val.str "counts")).map (dat []))) (.list ((List.replicate 2 (Val.str "counts")).map (dat []))) = true := by decide +kernel
theorem words_dat (k : Nat) (S : Store) : (words k).map (dat S) = (words k).map (dat []) := by
  unfold words
  rw [List.map_replicate, List.map_replicate]; rfl
theorem ne_words {k a b : Nat} {S : Store} {Q : Val → Store → Prop} (ha : S[a]? = some (.lst (words k))) (hb : S[b]? = some (.lst (words k))) (h : PyData.eqv (.list ((words k).map (dat []))) (.list ((words k).map (dat []))) = true) : Run (oNe (.ref a) (.ref b) S) Q = Q (.bl false) S := by
  rw [run_ne (d := 1) (e := 1) (.ref ha (words_da k S)) (.ref hb (words_da k S)) (by omega) (by omega), dat_ref (d := 0) ha (words_da k S) (by omega), dat_ref (d := 0) hb (words_da k S) (by omega), words_dat, h]
  rfl
section
variable {n c n0 m f : Nat} {xs0 : List Val} {S : Store} {R : Val → Store → Prop} {v0 x2 x3 x4 x5 x6 x7 x8 x9 x10 x11 x12 x13 x14 x15 x16 : Option Val} {z : Int} {a b e : T} {ts us : List T} {bd p : Val}
theorem said_bad (hn : 80 < n) (hd : Da S 45 bd) (h : coOk bd = false) (d : Int) (o : Val) : Run ((fns n)._law_said [.int d, bd, o] S) (PureK S (.str "counts")) := by
  obtain ⟨n, rfl⟩ : ∃ m, n = m + 1 := ⟨n - 1, by omega⟩
  have key : ∃ S', Kp S S' ∧ door (fns n) d bd o S = .exc ⟨1, []⟩ S' := by
    unfold door
    split
    · exact joined_bad1 hd h (by omega)
    · split
      · exact within_bad1 hd h (by omega)
      · exact worth_bad1 hd h (by omega)
  obtain ⟨S1, k1, e⟩ := key
  exact said_ex e hd_1 ⟨rfl, k1⟩
theorem law_12 : RunS (st_law_12 (fns n) (LE v0 z x2 x3 x4 x5 x6 x7 x8 x9 x10 x11 x12 x13 x14 x15 x16) S) (fun ρ S' => (∃ f, ρ = LE v0 z x2 x3 x4 x5 x6 x7 x8 x9 x10 x11 x12 x13 x14 (some (.ref f)) x16 ∧ S'[f]? = some (.lst (words 0))) ∧ Kp S S') R := by
  unfold st_law_12
  rw [s_set, w_lst, w_nil]
  refine ⟨Nat.zero_le _, ⟨_, rfl, ?_⟩, (Gr.add _ _).kp⟩
  rw [get_new]
  unfold words; rfl
theorem law_13 (hn : 100 < n) (h1 : ts[1]? = some b) (hs : Ls c m ts S) (hbd : Dc c S 20 bd) (hbn : coOk bd = false) (hp : Dc c S 20 p) (hf : S[f]? = some (.lst (words 0))) :
    RunS (st_law_13 (fns n) (LE v0 z x2 (some (.ref m)) x4 x5 x6 x7 x8 x9 x10 x11 x12 (some bd) (some p) (some (.ref f)) x16) S) (fun ρ S' => (∃ f x11 x16, ρ = LE v0 z x2 (some (.ref m)) x4 x5 x6 x7 x8 x9 x10 x11 x12 (some bd) (some p) (some (.ref f)) x16 ∧ S'[f]? = some (.lst (words 9))) ∧ Kp S S') R := by
  unfold st_law_13
  refine s_forC ?_
  rw [w_lst, w_cons, w_op, w_var rfl, w_c]
  show Run (oIx (.ref m) (.int ((1 : Nat) : Int)) S) _
  rw [hs.get h1, w_cons, w_var rfl, w_cons, w_var rfl, w_nil]
  refine ⟨Nat.le_of_ble_eq_true rfl, _, _, rfl, get_new _ _, ?_⟩
  show RunS (loopC S.length (gN 11) _ 3 0 _ (S ++ [.lst [toV b, bd, p]])) _ _
  have hO := get_new S (.lst [toV b, bd, p])
  have kA := (Gr.add S [.lst [toV b, bd, p]]).kp
  have hfA := kA _ _ hf
  generalize S ++ [Cell.lst [toV b, bd, p]] = A at *
  generalize S.length = O at *
  refine RunS.mono (runS_loopC (n := O) (xs := [toV b, bd, p]) (fun j ρ S' => (∃ f x11 x16, ρ = LE v0 z x2 (some (.ref m)) x4 x5 x6 x7 x8 x9 x10 x11 x12 (some bd) (some p) (some (.ref f)) x16 ∧ S'[f]? = some (.lst (words (3 * j)))) ∧ S'[O]? = some (.lst [toV b, bd, p]) ∧ Kp S S') (fun _ _ _ h => h.2.1) ?_ 3 0 _ _ rfl ⟨⟨f, x11, x16, rfl, hfA⟩, hO, kA⟩) (fun ρ S' h => ⟨h.1, h.2.2⟩) fun _ _ h => h
  rintro j x ρ S1 hx ⟨⟨g, y11, y16, rfl, hg⟩, hO1, k1⟩
  have hj : j < 3 := (List.getElem?_eq_some_iff.mp hx).1
  refine ⟨LE v0 z x2 (some (.ref m)) x4 x5 x6 x7 x8 x9 x10 (some x) x12 (some bd) (some p) (some (.ref g)) y16, rfl, ?_⟩
  rw [s_set, w_op, w_var rfl]
  have hda : Da S 20 bd := hbd.da
  refine Run.mono (run_lcrK (j := 3) (g := fun _ => .str "counts") (by rw [w_cons, w_c, w_nil]; exact ⟨rfl, rfl⟩) (by decide) fun y hy S2 k2 => ?_) fun r S2 ⟨S3, e1, e2, k3⟩ => ?_
  · obtain ⟨i, hi, rfl⟩ := List.mem_map.mp hy
    show Run (dCall (fns n)._law_said _ (LE v0 z x2 (some (.ref m)) x4 x5 x6 x7 x8 x9 x10 (some x) x12 (some bd) (some p) (some (.ref g)) (some (.int (0 + (i : Int))))) S2) _
    rw [w_call, w_cons, w_var rfl, w_cons, w_var rfl, w_cons, w_var rfl, w_nil]
    exact said_bad (by omega) ((hda.kp (k1.trans k2)).up (by omega)) hbn _ _
  · subst e1 e2
    have hw3 : (rangeV 0 3).map (fun _ => Val.str "counts") = words 3 := by unfold words; rfl
    rw [hw3]
    have k4 := k3.trans (Gr.add S3 [.lst (words 3)]).kp
    rw [run_addL (k4 _ _ hg) (get_new _ _) (by rw [words_len, words_len]; omega)]
    refine ⟨⟨_, _, _, rfl, ?_⟩, (k4.trans (Gr.add _ _).kp) _ _ hO1, k1.trans (k4.trans (Gr.add _ _).kp)⟩
    rw [get_new, words_add, show 3 * (j + 1) = 3 * j + 3 by omega]
theorem law_14 (hn : 100 < n) (h0 : ts[0]? = some a) (hs : Ls c m ts S) (hbd : Dc c S 20 bd) (hbn : coOk bd = false) (hf : S[f]? = some (.lst (words 9))) :
    RunS (st_law_14 (fns n) (LE v0 z x2 (some (.ref m)) x4 x5 x6 x7 x8 x9 x10 x11 x12 (some bd) x14 (some (.ref f)) x16) S) (fun ρ S' => ρ = LE v0 z x2 (some (.ref m)) x4 x5 x6 x7 x8 x9 x10 x11 x12 (some bd) x14 (some (.ref f)) x16 ∧ Kp S S') R := by
  have ca := hs.cx a (List.mem_of_getElem? h0)
  have hda : Da S 20 bd := hbd.da
  have hrep : ∀ (k : Nat) (X : Store) (Q : Val → Store → Prop), k ≤ 1000 → Run (oRepL (.ref X.length) (.int (k : Nat)) (X ++ [Cell.lst [.str "counts"]])) Q = Q (.ref (X ++ [Cell.lst [.str "counts"]]).length) (X ++ [Cell.lst [.str "counts"]] ++ [.lst (words k)]) := fun k X Q hk => by
    unfold words
    exact run_repL1 (by omega)
  unfold st_law_14
  rw [s_if, w_tor, w_tval, w_op, w_var rfl, w_op, w_lst, w_cons, w_c, w_nil]
  refine ⟨Nat.le_of_ble_eq_true rfl, ?_⟩
  rw [w_c]
  show Run (oRepL (.ref S.length) (.int ((9 : Nat) : Int)) (S ++ [Cell.lst [.str "counts"]])) _
  rw [hrep 9 S _ (by decide)]
  have kA := ((Gr.add S [.lst [.str "counts"]]).trans (Gr.add _ [.lst (words 9)])).kp
  have hA := get_new (S ++ [Cell.lst [.str "counts"]]) (.lst (words 9))
  rw [ne_words (kA _ _ hf) hA (by unfold words; exact words9), isB_bl, if_neg (by decide)]
  have hs1 := hs.kp kA
  have hda1 := hda.kp kA
  clear hA
  generalize S ++ [Cell.lst [.str "counts"]] ++ [Cell.lst (words 9)] = A at *
  obtain ⟨n, rfl⟩ : ∃ m, n = m + 1 := ⟨n - 1, by omega⟩
  have t0 : ∀ S' : Store, Kp A S' → Run ((fns (n + 1))._law_said [.int 0, toV a, bd] S') (PureK S' (.str "counts")) := fun S' k => by
    obtain ⟨S2, k2, e⟩ := joined_bad2 (n := n) (S := S') ca.1 (fun S'' k'' => (hda1.kp (k.trans k'')).up (by omega)) hbn (by omega)
    exact said_ex (d := 0) e hd_1 ⟨rfl, k2⟩
  have t1 : ∀ S' : Store, Kp A S' → Run ((fns (n + 1))._law_said [.int 1, toV a, bd] S') (PureK S' (.str "counts")) := fun S' k => by
    obtain ⟨S2, k2, e⟩ := within_bad2 (n := n) (S := S') ca.1 (fun S'' k'' => (hda1.kp (k.trans k'')).up (by omega)) hbn (by omega)
    exact said_ex (d := 1) e hd_1 ⟨rfl, k2⟩
  rw [w_tval, w_op, w_lst, w_cons, w_call, w_cons, w_c, w_cons, w_op, w_var rfl, w_c]
  show Run (oIx (.ref m) (.int ((0 : Nat) : Int)) A) _
  rw [hs1.get h0, w_cons, w_var rfl, w_nil]
  refine Run.mono (t0 A (.refl _)) fun r S2 ⟨er, k2⟩ => ?_
  subst er
  rw [w_cons, w_call, w_cons, w_c, w_cons, w_op, w_var rfl, w_c]
  show Run (oIx (.ref m) (.int ((0 : Nat) : Int)) S2) _
  rw [(hs1.kp k2).get h0, w_cons, w_var rfl, w_nil]
  refine Run.mono (t1 S2 k2) fun r S3 ⟨er, k3⟩ => ?_
  subst er
  rw [w_nil]
  refine ⟨Nat.le_of_ble_eq_true rfl, ?_⟩
  have e2 : [Val.str "counts", .str "counts"] = words 2 := by unfold words; rfl
  rw [e2]
  have hB := get_new S3 (.lst (words 2))
  have kB := (Gr.add S3 [.lst (words 2)]).kp
  generalize S3 ++ [Cell.lst (words 2)] = B at *
  rw [w_op, w_lst, w_cons, w_c, w_nil]
  refine ⟨Nat.le_of_ble_eq_true rfl, ?_⟩
  rw [w_c]
  show Run (oRepL (.ref B.length) (.int ((2 : Nat) : Int)) (B ++ [Cell.lst [.str "counts"]])) _
  rw [hrep 2 B _ (by decide)]
  have kC := ((Gr.add B [.lst [.str "counts"]]).trans (Gr.add _ [.lst (words 2)])).kp
  have hC := get_new (B ++ [Cell.lst [.str "counts"]]) (.lst (words 2))
  rw [ne_words (kC _ _ hB) hC (by unfold words; exact words2), isB_bl, if_neg (by decide)]
  exact ⟨rfl, (((kA.trans k2).trans k3).trans kB).trans kC⟩
theorem law_15 (hn : 100 < n) (hl : ts.length ≤ 10) (h0 : ts[0]? = some a) (hs : Ls c m ts S) (hp : Dc c S 20 p) (hpn : isPa p = false) :
    RunS (st_law_15 (fns n) (LE v0 z x2 (some (.ref m)) x4 (some (.str (shownL ts))) x6 x7 x8 x9 x10 x11 x12 x13 (some p) x15 x16) S) (fun ρ S' => ρ = LE v0 z x2 (some (.ref m)) x4 (some (.str (shownL ts))) x6 x7 x8 x9 x10 x11 x12 x13 (some p) x15 x16 ∧ Kp S S') R := by
  have ca := hs.cx a (List.mem_of_getElem? h0)
  have hda : Da S 20 p := hp.da
  obtain ⟨n, rfl⟩ : ∃ m, n = m + 1 := ⟨n - 1, by omega⟩
  have t0 : Run ((fns (n + 1))._law_said [.int 2, toV a, p] S) (PureK S (.str "path")) := by
    obtain ⟨S2, k2, e⟩ := worth_bad2 (n := n) (S := S) ca.1 (fun S'' k'' => (hda.kp k'').up (by omega)) hpn (by omega)
    exact said_ex (d := 2) e hd_2 ⟨rfl, k2⟩
  unfold st_law_15
  rw [s_if, w_tor, w_tval, w_op, w_call, w_cons, w_c, w_cons, w_op, w_var rfl, w_c]
  show Run (oIx (.ref m) (.int ((0 : Nat) : Int)) S) _
  rw [hs.get h0, w_cons, w_var rfl, w_nil]
  refine Run.mono t0 fun r S1 ⟨er, k1⟩ => ?_
  subst er
  have hs1 := hs.kp k1
  rw [w_c, ne_str (by decide +kernel), isB_bl, if_neg (by decide), w_tval, w_op, w_call, w_cons, w_var rfl, w_nil, (run_shown hs1 hl).1, w_var rfl, ne_str (run_shown (Q := fun _ _ => True) hs1 hl).2, isB_bl, if_neg (by decide)]
  exact ⟨rfl, k1⟩
end
def turnB (p : Fns) : SD := sSeq (st_law_0 p) (sSeq (st_law_1 p) (sSeq (st_law_2 p) (sSeq (st_law_3 p) (sSeq (st_law_4 p) (sSeq (st_law_5 p) (sSeq (st_law_6 p) (sSeq (st_law_7 p) (sSeq (st_law_8 p) (sSeq (st_law_9 p) (sSeq (st_law_10 p) (sSeq (st_law_11 p) (sSeq (st_law_12 p) (sSeq (st_law_13 p) (sSeq (st_law_14 p) (st_law_15 p)))))))))))))))
theorem l_turn {n n0 : Nat} {xs0 : List Val} {v0 x2 x3 x4 x5 x6 x7 x8 x9 x10 x11 x12 x13 x14 x15 x16 : Option Val} {z : Int} {S : Store} {R : Val → Store → Prop} (hn : 110 < n) (h0 : S[n0]? = some (.lst xs0)) :
    RunS (turnB (fns n) (LE v0 z x2 x3 x4 x5 x6 x7 x8 x9 x10 x11 x12 x13 x14 x15 x16) S) (fun ρ S' => (∃ x1 x2 x3 x4 x5 x6 x7 x8 x9 x10 x11 x12 x13 x14 x15 x16, ρ = [v0, x1, x2, x3, x4, x5, x6, x7, x8, x9, x10, x11, x12, x13, x14, x15, x16]) ∧ S'[n0]? = some (.lst xs0)) R := by
  unfold turnB
  refine s_step (law_0 (by omega) h0) ?_
  rintro ρ S1 ⟨c, rfl, dr⟩
  refine s_step (law_1 (by omega) dr) ?_
  rintro ρ S2 ⟨⟨m0, a, b, e, rfl, hs⟩, dr⟩
  have ca := hs.cx a (by simp)
  have cb := hs.cx b (by simp)
  refine s_step (law_2 (by omega) hs) ?_
  rintro ρ S3 ⟨rfl, rfl⟩
  refine s_step (law_3 (by omega) dr hs) ?_
  rintro ρ S4 ⟨⟨m, i, rfl, hs⟩, dr⟩
  have hfacts : ∃ (ts us : List T) (l : T), ts = us ++ [l] ∧ ts.length ≤ 10 ∧ ts[0]? = some a ∧ ts[1]? = some b ∧ ts[2]? = some e ∧ Ls c m ts S4 := by
    by_cases h : (JJ a b).tc ≤ 63
    · rw [if_pos h] at hs
      exact ⟨_, [a, b, e, .leaf 0, .leaf i], JJ a b, rfl, by show 6 ≤ 10; omega, rfl, rfl, rfl, hs⟩
    · rw [if_neg h, List.append_nil] at hs
      exact ⟨_, [a, b, e, .leaf 0], .leaf i, rfl, by show 5 ≤ 10; omega, rfl, rfl, rfl, hs⟩
  obtain ⟨ts, us, l, ets, hl, t0, t1, t2, hs⟩ := hfacts
  refine s_step (law_4 hl hs) ?_
  rintro ρ S5 ⟨rfl, rfl⟩
  refine s_step (law_5 (by omega) hl t0 ets dr hs) ?_
  rintro ρ S6 ⟨⟨y6, y7, rfl⟩, hs, dr⟩
  refine s_step law_6 ?_
  rintro ρ S7 ⟨rfl, rfl⟩
  refine s_step law_7 ?_
  rintro ρ S8 ⟨⟨t, u, y10, rfl, ht, hu⟩, rfl⟩
  refine s_step (law_8 (by omega) ht hu dr hs) ?_
  rintro ρ S9 ⟨⟨y11, rfl⟩, hs, dr⟩
  refine s_step (law_9 (by omega) ca.1 cb.1 t2 hs) ?_
  rintro ρ S10 ⟨rfl, rfl⟩
  refine s_step (law_10 (by omega) ca cb t2 dr hs) ?_
  rintro ρ S11 ⟨rfl, hs, dr⟩
  refine s_step (law_11 (by omega) t0 dr hs) ?_
  rintro ρ S12 ⟨⟨bd, p, rfl, ⟨hbd, hbn⟩, ⟨hp, hpn⟩⟩, hs, dr⟩
  refine s_step law_12 ?_
  rintro ρ S13 ⟨⟨f, rfl, hf⟩, k13⟩
  refine s_step (law_13 (by omega) t1 (hs.kp k13) (hbd.kx k13.kx) hbn (hp.kx k13.kx) hf) ?_
  rintro ρ S14 ⟨⟨f2, y11, y16, rfl, hf2⟩, k14⟩
  have k24 := k13.trans k14
  refine s_step (law_14 (by omega) t0 (hs.kp k24) (hbd.kx k24.kx) hbn hf2) ?_
  rintro ρ S15 ⟨rfl, k15⟩
  have k25 := k24.trans k15
  refine RunS.mono (law_15 (by omega) hl t0 (hs.kp k25) (hp.kx k25.kx) hpn) (fun ρ S16 h => ?_) fun _ _ h => h
  obtain ⟨rfl, k16⟩ := h
  exact ⟨⟨_, _, _, _, _, _, _, _, _, _, _, _, _, _, _, _, rfl⟩, (dr.kp (k25.trans k16)).out⟩
theorem run_slKL {xs : List Val} {lo hi : Option Int} {S : Store} {Q : Val → Store → Prop} : Run (vSl (.kl xs) lo hi S) Q = Q (.ref S.length) (S ++ [.lst (cutL xs lo hi)]) := rfl
theorem cut_mem {xs : List Val} {lo hi : Option Int} {x : Val} (h : x ∈ cutL xs lo hi) : x ∈ xs := List.mem_of_mem_drop (List.mem_of_mem_take h)
theorem cut_len {xs : List Val} {lo hi : Option Int} : (cutL xs lo hi).length ≤ xs.length := by
  unfold cutL
  rw [List.length_take, List.length_drop]; omega
theorem l_law (ns : List Int) (hns : ns.length ≤ 63) : ∃ S, (fns 120).law [.kl (ns.map Val.int)] [] = .ok (.bl true) S := by
  have : Run ((fns 120).law [.kl (ns.map Val.int)] []) (fun r _ => r = .bl true) := by
    show Run (fnOf 1 17 (b_law (fns 119)) [.kl (ns.map Val.int)] []) _
    generalize hn : (119 : Nat) = n
    have hn : 110 < n := by omega
    unfold b_law
    refine run_fn rfl rfl ?_
    refine s_step (N' := fun _ _ => True) ?_ ?_
    · refine s_forC ?_
      rw [w_op, w_lst, w_cons, w_c, w_nil]
      refine ⟨Nat.le_of_ble_eq_true rfl, ?_⟩
      rw [w_sl]
      show Run (dVar 0 [some (.kl (ns.map Val.int)), none, none, none, none, none, none, none, none, none, none, none, none, none, none, none, none] _) _
      rw [w_var rfl, w_oNone, w_oSome, w_c]
      show Run (vSl (.kl (ns.map Val.int)) none (some 5) _) _
      rw [run_slKL]
      have hcl := cut_len (xs := ns.map Val.int) (lo := none) (hi := some 5)
      rw [List.length_map] at hcl
      have hcm : ∀ x ∈ cutL (ns.map Val.int) none (some 5), ∃ z : Int, x = .int z := fun x hx => by
        obtain ⟨z, _, e⟩ := List.mem_map.mp (cut_mem hx)
        exact ⟨z, e.symm⟩
      generalize cutL (ns.map Val.int) none (some 5) = cs at *
      rw [run_addL ((Gr.add _ _).get (get_new _ _)) (get_new _ _) (by rw [List.length_singleton]; omega)]
      have hcut : ∀ x ∈ [Val.int 58047161526324974920000000000000000000000498765432603765432105] ++ cs, ∃ z : Int, x = .int z := fun x hx => by
        rcases List.mem_append.mp hx with h | h
        · exact ⟨_, List.mem_singleton.mp h⟩
        · exact hcm x h
      generalize [Val.int 58047161526324974920000000000000000000000498765432603765432105] ++ cs = ys at *
      refine ⟨_, _, rfl, get_new _ _, ?_⟩
      have hfin := get_new ([] ++ [Cell.lst [Val.int 58047161526324974920000000000000000000000498765432603765432105]] ++ [Cell.lst cs]) (.lst ys)
      generalize List.length ([] ++ [Cell.lst [Val.int 58047161526324974920000000000000000000000498765432603765432105]] ++ [Cell.lst cs]) = n0 at *
      generalize [] ++ [Cell.lst [Val.int 58047161526324974920000000000000000000000498765432603765432105]] ++ [Cell.lst cs] ++ [Cell.lst ys] = S0 at *
      refine RunS.mono (runS_loopC (n := n0) (xs := ys) (fun j ρ S' => (∃ x1 x2 x3 x4 x5 x6 x7 x8 x9 x10 x11 x12 x13 x14 x15 x16, ρ = [some (.kl (ns.map Val.int)), x1, x2, x3, x4, x5, x6, x7, x8, x9, x10, x11, x12, x13, x14, x15, x16]) ∧ S'[n0]? = some (.lst ys)) (fun _ _ _ h => h.2) ?_ _ 0 _ _ (Nat.zero_add _) ⟨⟨_, _, _, _, _, _, _, _, _, _, _, _, _, _, _, _, rfl⟩, hfin⟩) (fun _ _ _ => trivial) fun _ _ h => h
      rintro j x ρ S1 hx ⟨⟨x1, x2, x3, x4, x5, x6, x7, x8, x9, x10, x11, x12, x13, x14, x15, x16, rfl⟩, h0⟩
      obtain ⟨z, rfl⟩ := hcut x (List.mem_of_getElem? hx)
      exact ⟨_, rfl, l_turn hn h0⟩
    · rintro ρ S1 _
      simp only [run_ok, run_okI, run_okB, run_alloc, run_stuck, run_bind, run_ite, run_noX, run_fnOf, w_c, w_op, w_un, w_call, w_callK, w_nil, w_cons, w_tup, w_lst, isB_bl, w_tval, w_tand, w_tor, w_tnot, w_and, w_or, w_not, w_if, s_next, s_seq, s_if, s_ret, s_drop, s_set, s_par, s_put, s_asg, w_var', runS_next, runS_ret, runS_stuck, runS_ite, List.length_cons, List.length_nil, List.length_singleton, List.map_cons, List.map_nil, List.cons_append, List.nil_append, List.replicate_succ, List.replicate_zero, List.getElem?_cons_zero, List.getElem?_cons_succ, List.set_cons_zero, List.set_cons_succ, Nat.reduceAdd, Nat.reduceSub, Nat.reduceEqDiff, ite_true, ite_false, if_true, if_false, reduceIte, Bool.false_eq_true, decide_true, decide_false, String.reduceEq, Int.reduceEq, Nat.reduceLeDiff, true_and, and_true, Bool.not_true, Bool.not_false, decide_eq_true_eq, List.append_nil, bType, bIsi, bLen, bInt, ty_int, ty_bl, ty_str, ty_non, ty_tup, isT, oIs, oIsNot, run_eqI, run_neI, Bool.or_false, Bool.or_true, Bool.false_or, Bool.true_or, Bool.and_true, Bool.and_false, Bool.true_and, Bool.false_and, reduceCtorEq, decide_not, Bool.not_eq_true', decide_eq_false_iff_not, askInt, askBool, askTuple, askList, askStr, oLe, oLt, oGe, oGt, oInt2, atI0, atI1, atI2, run_addI, run_subI]
  obtain ⟨a, S, e, q⟩ := this.to
  exact ⟨S, by rw [e, q]⟩
end PD.K05

/-! ## K05End -/
set_option Elab.async false
set_option linter.all false
set_option maxRecDepth 100000
set_option maxHeartbeats 4000000
namespace PD.K05
open PySem PySem.Spec L2 PD
structure DefAt (K : PySem.W.Frag) (mg : Str → Option Value) (x : Str) (st : Stmt) (ps : List Str) where
  a : Addr
  d : FuncData
  F : Fun K x x st a d
  m : mg x = some (.ref a)
  b : Binds K d ps []
def mkDef {K : PySem.W.Frag} {h : Heap} {mg : Str → Option Value} (X : K.In h) (G : h.Ns mainGlobals mg) {x : Str} {st : Stmt} {ps : List Str} {f : Addr} {od an : Option Addr} {sl : Array (Option Value)} {oc kV dc pm cd ct : Value}
    (h1 : PySem.W.nsIn K mainGlobals x = some (some (.ref f))) (h2 : K.lookup f = some ⟨oc, od, .func (PySem.W.fnOf x x (defArgs st) (defBody st) (defScope st) .none kV dc pm an cd ct), sl⟩) (h3 : PySem.W.codeIn K cd x = true) (h4 : PySem.W.keepIn K (.ref f) = true)
    (hb : ∀ (kV doc pm : Value) (an : Option Addr) (cdv ct : Value) (us : List Value), us.length = ps.length → bindArgs (PySem.W.fnOf x x (defArgs st) (defBody st) (defScope st) .none kV doc pm an cdv ct) ⟨us, []⟩ = pure (ps.zip us)) : DefAt K mg x st ps :=
  ⟨f, _, fun_mk h2 h3 h4, PySem.W.mg_of X G h1, (fun_mk h2 h3 h4).binds hb⟩
theorem kbOf {K : PySem.W.Frag} {x : Str} {st : Stmt} {f : Addr} {fd : FuncData} {ps ks : List Str} {is : List Nat} (F : Fun K x x st f fd)
    (h : ∀ (kV doc pm : Value) (an : Option Addr) (cdv ct : Value) (ws : List Value), ws.length = ks.length → bindArgs (PySem.W.fnOf x x (defArgs st) (defBody st) (defScope st) .none kV doc pm an cdv ct) ⟨[], ks.zip ws⟩ = pure (ps.zip (pick is ws))) : KB0 K fd ps ks is := by
  obtain ⟨oc, od, kV, doc, pm, an, cdv, ct, osl, rfl, _, _⟩ := F.ex
  exact fun s ws _ hl _ => .of_eq (h kV doc pm an cdv ct ws hl)
theorem exm_b {K : PySem.W.Frag} {C D : Addr} {b : Bool} (h1 : PySem.W.subIn K (.ref D) (.type "BaseException") = some true) (h2 : PySem.W.isClsIn K D = true) (h3 : PySem.W.typeIn K (.ref D) = some (.type "type")) (h4 : PySem.W.subIn K (.ref C) (.ref D) = some b) :
    PySem.W.exmOne K (.ref C) (.ref D) = some b := by
  have e1 : (PySem.W.subIn K (.ref D) (.type "BaseException") == some true) = true := by rw [h1]; rfl
  have e2 : ((PySem.W.clsIn K D).isSome && PySem.W.typeIn K (.ref D) == some (.type "type")) = true := by
    rw [show (PySem.W.clsIn K D).isSome = true from h2, h3]; rfl
  show (if (PySem.W.subIn K (.ref D) (.type "BaseException") == some true) = true then (if ((PySem.W.clsIn K D).isSome && PySem.W.typeIn K (.ref D) == some (.type "type")) = true then PySem.W.subIn K (.ref C) (.ref D) else none) else none) = some b
  rw [if_pos e1, if_pos e2]
  exact h4
theorem mk_all {l : PySem.W.OpenLaw} {w : World} {K : PySem.W.Frag} {h : Heap} {mg : Str → Option Value} {fa : Addr} (X : K.In h) (G : h.Ns mainGlobals mg) (hfa : mg "law" = some (.ref fa))
    (D_tuple_count : DefAt K mg "tuple_count" s_tuple_count ["tree"])
    (D_bounded : DefAt K mg "bounded" s_bounded ["tree"])
    (D_is_path : DefAt K mg "is_path" s_is_path ["value"])
    (D_check_path : DefAt K mg "check_path" s_check_path ["value"])
    (D_least : DefAt K mg "least" s_least ["counts"])
    (D_greatest : DefAt K mg "greatest" s_greatest ["counts"])
    (D_lifted : DefAt K mg "lifted" s_lifted ["counts", "number"])
    (D_halves : DefAt K mg "halves" s_halves ["counts"])
    (D_whole : DefAt K mg "whole" s_whole ["left", "right"])
    (D_greater_of : DefAt K mg "greater_of" s_greater_of ["counts", "other_counts"])
    (D_nowhere_greater : DefAt K mg "nowhere_greater" s_nowhere_greater ["counts", "other_counts"])
    (D_is_counts : DefAt K mg "is_counts" s_is_counts ["value"])
    (D__is_counts_tree : DefAt K mg "_is_counts_tree" s__is_counts_tree ["value", "deepest"])
    (D_check_counts : DefAt K mg "check_counts" s_check_counts ["value"])
    (D_worth_at : DefAt K mg "worth_at" s_worth_at ["counts", "path"])
    (D_joined : DefAt K mg "joined" s_joined ["counts", "other_counts"])
    (D_is_within : DefAt K mg "is_within" s_is_within ["counts", "other_counts"])
    (D__law_cup : DefAt K mg "_law_cup" s__law_cup ["cell"])
    (D__law_sip : DefAt K mg "_law_sip" s__law_sip ["cup", "many"])
    (D__law_same : DefAt K mg "_law_same" s__law_same ["found", "due"])
    (D__law_counts : DefAt K mg "_law_counts" s__law_counts ["cup", "deep"])
    (D__law_long : DefAt K mg "_law_long" s__law_long ["cup", "counts"])
    (D__law_size : DefAt K mg "_law_size" s__law_size ["tree"])
    (D__law_least : DefAt K mg "_law_least" s__law_least ["counts"])
    (D__law_put : DefAt K mg "_law_put" s__law_put ["left", "right"])
    (D__law_lower : DefAt K mg "_law_lower" s__law_lower ["counts", "number"])
    (D__law_parts : DefAt K mg "_law_parts" s__law_parts ["counts"])
    (D__law_join : DefAt K mg "_law_join" s__law_join ["one", "two"])
    (D__law_worth : DefAt K mg "_law_worth" s__law_worth ["counts", "path"])
    (D__law_beyond : DefAt K mg "_law_beyond" s__law_beyond ["full", "deep"])
    (D__law_bad_counts : DefAt K mg "_law_bad_counts" s__law_bad_counts ["cup", "counts"])
    (D__law_bad_path : DefAt K mg "_law_bad_path" s__law_bad_path ["cup"])
    (D__law_path : DefAt K mg "_law_path" s__law_path ["cup"])
    (D__law_said : DefAt K mg "_law_said" s__law_said ["door", "counts", "other"])
    (D__law_pair_right : DefAt K mg "_law_pair_right" s__law_pair_right ["cup", "one", "two"])
    (D_law : DefAt K mg "law" s_law ["script"])
    {c_StampError : Addr} (a_StampError : PySem.W.nsIn K mainGlobals "StampError" = some (some (.ref c_StampError))) (x_StampError : PySem.W.excIn K c_StampError [.type "ValueError", .type "Exception", .type "BaseException", .type "object"] "ValueError.__new__" = true)
    (kp_StampError : PySem.W.keepIn K (.ref c_StampError) = true) (sb_StampError : PySem.W.subIn K (.ref c_StampError) (.type "BaseException") = some true) (ty_StampError : PySem.W.typeIn K (.ref c_StampError) = some (.type "type")) (ic_StampError : PySem.W.isClsIn K c_StampError = true)
    {c_InvalidCounts : Addr} (a_InvalidCounts : PySem.W.nsIn K mainGlobals "InvalidCounts" = some (some (.ref c_InvalidCounts))) (x_InvalidCounts : PySem.W.excIn K c_InvalidCounts [.type "ValueError", .type "Exception", .type "BaseException", .type "object"] "ValueError.__new__" = true)
    (kp_InvalidCounts : PySem.W.keepIn K (.ref c_InvalidCounts) = true) (sb_InvalidCounts : PySem.W.subIn K (.ref c_InvalidCounts) (.type "BaseException") = some true) (ty_InvalidCounts : PySem.W.typeIn K (.ref c_InvalidCounts) = some (.type "type")) (ic_InvalidCounts : PySem.W.isClsIn K c_InvalidCounts = true)
    {c_InvalidPath : Addr} (a_InvalidPath : PySem.W.nsIn K mainGlobals "InvalidPath" = some (some (.ref c_InvalidPath))) (x_InvalidPath : PySem.W.excIn K c_InvalidPath [.type "ValueError", .type "Exception", .type "BaseException", .type "object"] "ValueError.__new__" = true)
    (kp_InvalidPath : PySem.W.keepIn K (.ref c_InvalidPath) = true) (sb_InvalidPath : PySem.W.subIn K (.ref c_InvalidPath) (.type "BaseException") = some true) (ty_InvalidPath : PySem.W.typeIn K (.ref c_InvalidPath) = some (.type "type")) (ic_InvalidPath : PySem.W.isClsIn K c_InvalidPath = true)
    {c_TooMany : Addr} (a_TooMany : PySem.W.nsIn K mainGlobals "TooMany" = some (some (.ref c_TooMany)))
    {nm_TooMany q_TooMany N_TooMany bs_TooMany bm_TooMany sn_TooMany sub_TooMany ab_TooMany col_TooMany dd_TooMany k0_TooMany k1_TooMany k2_TooMany k3_TooMany k5_TooMany : _} (l_TooMany : K.lookup c_TooMany = some (excClassObj nm_TooMany q_TooMany c_TooMany N_TooMany bs_TooMany bm_TooMany true sn_TooMany sub_TooMany ab_TooMany col_TooMany dd_TooMany k0_TooMany k1_TooMany k2_TooMany k3_TooMany k5_TooMany "ValueError.__new__")) (rb_TooMany : PySem.HandSPX.refsVE bm_TooMany = true)
    (sa_TooMany : PySem.W.findIn K (.ref c_TooMany) "__setattr__" = some (some (.builtin "object.__setattr__"))) (ga_TooMany : PySem.W.findIn K (.ref c_TooMany) "__getattribute__" = some (some (.builtin "BaseException.__getattribute__"))) (gg_TooMany : PySem.W.findIn K (.ref c_TooMany) "__getattr__" = some none) (hd_TooMany : PySem.W.hasDictIn K c_TooMany = true)
    {i_TooMany : Addr} (ii_TooMany : PySem.W.findIn K (.ref c_TooMany) "__init__" = some (some (.ref i_TooMany))) (it_TooMany : PySem.W.typeIn K (.ref i_TooMany) = some (.type "function")) (nf_TooMany : PySem.W.findIn K (.ref c_TooMany) "count" = some none)
    {ooc_TooMany okV_TooMany odc_TooMany opm_TooMany ocd_TooMany oct_TooMany : Value} {ood_TooMany oan_TooMany : Option Addr} {osl_TooMany : Array (Option Value)} (fl_TooMany : K.lookup i_TooMany = some ⟨ooc_TooMany, ood_TooMany, .func (PySem.W.fnOf "__init__" "TooMany.__init__" (defArgs s_TooMany_init) (defBody s_TooMany_init) (defScope s_TooMany_init) .none okV_TooMany odc_TooMany opm_TooMany oan_TooMany ocd_TooMany oct_TooMany), osl_TooMany⟩) (fc_TooMany : PySem.W.codeIn K ocd_TooMany "TooMany.__init__" = true) (fk_TooMany : PySem.W.keepIn K (.ref i_TooMany) = true)
    (kp_TooMany : PySem.W.keepIn K (.ref c_TooMany) = true) (sb_TooMany : PySem.W.subIn K (.ref c_TooMany) (.type "BaseException") = some true) (ty_TooMany : PySem.W.typeIn K (.ref c_TooMany) = some (.type "type")) (ic_TooMany : PySem.W.isClsIn K c_TooMany = true)
    (n_all : PySem.W.nsIn K mainGlobals "all" = some none)
    (n_bool : PySem.W.nsIn K mainGlobals "bool" = some none)
    (n_int : PySem.W.nsIn K mainGlobals "int" = some none)
    (n_isinstance : PySem.W.nsIn K mainGlobals "isinstance" = some none)
    (n_len : PySem.W.nsIn K mainGlobals "len" = some none)
    (n_list : PySem.W.nsIn K mainGlobals "list" = some none)
    (n_max : PySem.W.nsIn K mainGlobals "max" = some none)
    (n_min : PySem.W.nsIn K mainGlobals "min" = some none)
    (n_range : PySem.W.nsIn K mainGlobals "range" = some none)
    (n_repr : PySem.W.nsIn K mainGlobals "repr" = some none)
    (n_str : PySem.W.nsIn K mainGlobals "str" = some none)
    (n_sum : PySem.W.nsIn K mainGlobals "sum" = some none)
    (n_tuple : PySem.W.nsIn K mainGlobals "tuple" = some none)
    (n_type : PySem.W.nsIn K mainGlobals "type" = some none)
    {u_DEEPEST : Value} (h_DEEPEST : PySem.W.nsIn K mainGlobals "DEEPEST" = some (some u_DEEPEST)) (g_DEEPEST : ∃ t, u_DEEPEST = .int 12 t)
    {u_MOST_TUPLES : Value} (h_MOST_TUPLES : PySem.W.nsIn K mainGlobals "MOST_TUPLES" = some (some u_MOST_TUPLES)) (g_MOST_TUPLES : ∃ t, u_MOST_TUPLES = .int 63 t)
    (e_0_0 : PySem.W.subIn K (.ref c_StampError) (.ref c_StampError) = some true)
    (e_0_1 : PySem.W.subIn K (.ref c_StampError) (.ref c_InvalidCounts) = some false)
    (e_0_2 : PySem.W.subIn K (.ref c_StampError) (.ref c_InvalidPath) = some false)
    (e_0_3 : PySem.W.subIn K (.ref c_StampError) (.ref c_TooMany) = some false)
    (e_1_0 : PySem.W.subIn K (.ref c_InvalidCounts) (.ref c_StampError) = some true)
    (e_1_1 : PySem.W.subIn K (.ref c_InvalidCounts) (.ref c_InvalidCounts) = some true)
    (e_1_2 : PySem.W.subIn K (.ref c_InvalidCounts) (.ref c_InvalidPath) = some false)
    (e_1_3 : PySem.W.subIn K (.ref c_InvalidCounts) (.ref c_TooMany) = some false)
    (e_2_0 : PySem.W.subIn K (.ref c_InvalidPath) (.ref c_StampError) = some true)
    (e_2_1 : PySem.W.subIn K (.ref c_InvalidPath) (.ref c_InvalidCounts) = some false)
    (e_2_2 : PySem.W.subIn K (.ref c_InvalidPath) (.ref c_InvalidPath) = some true)
    (e_2_3 : PySem.W.subIn K (.ref c_InvalidPath) (.ref c_TooMany) = some false)
    (e_3_0 : PySem.W.subIn K (.ref c_TooMany) (.ref c_StampError) = some true)
    (e_3_1 : PySem.W.subIn K (.ref c_TooMany) (.ref c_InvalidCounts) = some false)
    (e_3_2 : PySem.W.subIn K (.ref c_TooMany) (.ref c_InvalidPath) = some false)
    (e_3_3 : PySem.W.subIn K (.ref c_TooMany) (.ref c_TooMany) = some true)
    : ∃ (fd : FuncData) (cv : Nat → Value), (∀ (s : Shared) (u : Value), BindsTo s fd ⟨[u], []⟩ [("script", u)]) ∧ ∀ base : Heap, K.In base → base.Ns mainGlobals mg → FnG l.prog w K mg base 120 fa fd ["script"] (SpecOf ⟨K, cv⟩ (fns 120).law) := by
  have e := hfa.symm.trans D_law.m
  cases e
  let T0 : Txt K mg := {
    a_tuple_count := D_tuple_count.a, d_tuple_count := D_tuple_count.d, F_tuple_count := D_tuple_count.F, m_tuple_count := D_tuple_count.m, b_tuple_count := D_tuple_count.b,
    a_bounded := D_bounded.a, d_bounded := D_bounded.d, F_bounded := D_bounded.F, m_bounded := D_bounded.m, b_bounded := D_bounded.b,
    a_is_path := D_is_path.a, d_is_path := D_is_path.d, F_is_path := D_is_path.F, m_is_path := D_is_path.m, b_is_path := D_is_path.b,
    a_check_path := D_check_path.a, d_check_path := D_check_path.d, F_check_path := D_check_path.F, m_check_path := D_check_path.m, b_check_path := D_check_path.b,
    a_least := D_least.a, d_least := D_least.d, F_least := D_least.F, m_least := D_least.m, b_least := D_least.b,
    a_greatest := D_greatest.a, d_greatest := D_greatest.d, F_greatest := D_greatest.F, m_greatest := D_greatest.m, b_greatest := D_greatest.b,
    a_lifted := D_lifted.a, d_lifted := D_lifted.d, F_lifted := D_lifted.F, m_lifted := D_lifted.m, b_lifted := D_lifted.b,
    a_halves := D_halves.a, d_halves := D_halves.d, F_halves := D_halves.F, m_halves := D_halves.m, b_halves := D_halves.b,
    a_whole := D_whole.a, d_whole := D_whole.d, F_whole := D_whole.F, m_whole := D_whole.m, b_whole := D_whole.b,
    a_greater_of := D_greater_of.a, d_greater_of := D_greater_of.d, F_greater_of := D_greater_of.F, m_greater_of := D_greater_of.m, b_greater_of := D_greater_of.b,
    a_nowhere_greater := D_nowhere_greater.a, d_nowhere_greater := D_nowhere_greater.d, F_nowhere_greater := D_nowhere_greater.F, m_nowhere_greater := D_nowhere_greater.m, b_nowhere_greater := D_nowhere_greater.b,
    a_is_counts := D_is_counts.a, d_is_counts := D_is_counts.d, F_is_counts := D_is_counts.F, m_is_counts := D_is_counts.m, b_is_counts := D_is_counts.b,
    a__is_counts_tree := D__is_counts_tree.a, d__is_counts_tree := D__is_counts_tree.d, F__is_counts_tree := D__is_counts_tree.F, m__is_counts_tree := D__is_counts_tree.m, b__is_counts_tree := D__is_counts_tree.b,
    a_check_counts := D_check_counts.a, d_check_counts := D_check_counts.d, F_check_counts := D_check_counts.F, m_check_counts := D_check_counts.m, b_check_counts := D_check_counts.b,
    a_worth_at := D_worth_at.a, d_worth_at := D_worth_at.d, F_worth_at := D_worth_at.F, m_worth_at := D_worth_at.m, b_worth_at := D_worth_at.b,
    a_joined := D_joined.a, d_joined := D_joined.d, F_joined := D_joined.F, m_joined := D_joined.m, b_joined := D_joined.b,
    a_is_within := D_is_within.a, d_is_within := D_is_within.d, F_is_within := D_is_within.F, m_is_within := D_is_within.m, b_is_within := D_is_within.b,
    a__law_cup := D__law_cup.a, d__law_cup := D__law_cup.d, F__law_cup := D__law_cup.F, m__law_cup := D__law_cup.m, b__law_cup := D__law_cup.b,
    a__law_sip := D__law_sip.a, d__law_sip := D__law_sip.d, F__law_sip := D__law_sip.F, m__law_sip := D__law_sip.m, b__law_sip := D__law_sip.b,
    a__law_same := D__law_same.a, d__law_same := D__law_same.d, F__law_same := D__law_same.F, m__law_same := D__law_same.m, b__law_same := D__law_same.b,
    a__law_counts := D__law_counts.a, d__law_counts := D__law_counts.d, F__law_counts := D__law_counts.F, m__law_counts := D__law_counts.m, b__law_counts := D__law_counts.b,
    a__law_long := D__law_long.a, d__law_long := D__law_long.d, F__law_long := D__law_long.F, m__law_long := D__law_long.m, b__law_long := D__law_long.b,
    a__law_size := D__law_size.a, d__law_size := D__law_size.d, F__law_size := D__law_size.F, m__law_size := D__law_size.m, b__law_size := D__law_size.b,
    a__law_least := D__law_least.a, d__law_least := D__law_least.d, F__law_least := D__law_least.F, m__law_least := D__law_least.m, b__law_least := D__law_least.b,
    a__law_put := D__law_put.a, d__law_put := D__law_put.d, F__law_put := D__law_put.F, m__law_put := D__law_put.m, b__law_put := D__law_put.b,
    a__law_lower := D__law_lower.a, d__law_lower := D__law_lower.d, F__law_lower := D__law_lower.F, m__law_lower := D__law_lower.m, b__law_lower := D__law_lower.b,
    a__law_parts := D__law_parts.a, d__law_parts := D__law_parts.d, F__law_parts := D__law_parts.F, m__law_parts := D__law_parts.m, b__law_parts := D__law_parts.b,
    a__law_join := D__law_join.a, d__law_join := D__law_join.d, F__law_join := D__law_join.F, m__law_join := D__law_join.m, b__law_join := D__law_join.b,
    a__law_worth := D__law_worth.a, d__law_worth := D__law_worth.d, F__law_worth := D__law_worth.F, m__law_worth := D__law_worth.m, b__law_worth := D__law_worth.b,
    a__law_beyond := D__law_beyond.a, d__law_beyond := D__law_beyond.d, F__law_beyond := D__law_beyond.F, m__law_beyond := D__law_beyond.m, b__law_beyond := D__law_beyond.b,
    a__law_bad_counts := D__law_bad_counts.a, d__law_bad_counts := D__law_bad_counts.d, F__law_bad_counts := D__law_bad_counts.F, m__law_bad_counts := D__law_bad_counts.m, b__law_bad_counts := D__law_bad_counts.b,
    a__law_bad_path := D__law_bad_path.a, d__law_bad_path := D__law_bad_path.d, F__law_bad_path := D__law_bad_path.F, m__law_bad_path := D__law_bad_path.m, b__law_bad_path := D__law_bad_path.b,
    a__law_path := D__law_path.a, d__law_path := D__law_path.d, F__law_path := D__law_path.F, m__law_path := D__law_path.m, b__law_path := D__law_path.b,
    a__law_said := D__law_said.a, d__law_said := D__law_said.d, F__law_said := D__law_said.F, m__law_said := D__law_said.m, b__law_said := D__law_said.b,
    a__law_pair_right := D__law_pair_right.a, d__law_pair_right := D__law_pair_right.d, F__law_pair_right := D__law_pair_right.F, m__law_pair_right := D__law_pair_right.m, b__law_pair_right := D__law_pair_right.b,
    a_law := D_law.a, d_law := D_law.d, F_law := D_law.F, m_law := D_law.m, b_law := D_law.b,
    kb_is_within_other_counts_counts := kbOf D_is_within.F (fun _ _ _ _ _ _ ws hl => match ws, hl with | [_, _], _ => rfl),
    kb_joined_other_counts_counts := kbOf D_joined.F (fun _ _ _ _ _ _ ws hl => match ws, hl with | [_, _], _ => rfl),
    kb_worth_at_path_counts := kbOf D_worth_at.F (fun _ _ _ _ _ _ ws hl => match ws, hl with | [_, _], _ => rfl),
    g_DEEPEST := g_DEEPEST.elim fun t z => ⟨t, z ▸ PySem.W.mg_of X G h_DEEPEST⟩,
    g_MOST_TUPLES := g_MOST_TUPLES.elim fun t z => ⟨t, z ▸ PySem.W.mg_of X G h_MOST_TUPLES⟩,
    n_all := PySem.W.mg_none_of X G n_all,
    n_bool := PySem.W.mg_none_of X G n_bool,
    n_int := PySem.W.mg_none_of X G n_int,
    n_isinstance := PySem.W.mg_none_of X G n_isinstance,
    n_len := PySem.W.mg_none_of X G n_len,
    n_list := PySem.W.mg_none_of X G n_list,
    n_max := PySem.W.mg_none_of X G n_max,
    n_min := PySem.W.mg_none_of X G n_min,
    n_range := PySem.W.mg_none_of X G n_range,
    n_repr := PySem.W.mg_none_of X G n_repr,
    n_str := PySem.W.mg_none_of X G n_str,
    n_sum := PySem.W.mg_none_of X G n_sum,
    n_tuple := PySem.W.mg_none_of X G n_tuple,
    n_type := PySem.W.mg_none_of X G n_type,
    c_StampError := c_StampError, m_StampError := PySem.W.mg_of X G a_StampError, x_StampError := x_StampError, kp_StampError := kp_StampError, sb_StampError := sb_StampError, ty_StampError := ty_StampError,
    c_InvalidCounts := c_InvalidCounts, m_InvalidCounts := PySem.W.mg_of X G a_InvalidCounts, x_InvalidCounts := x_InvalidCounts, kp_InvalidCounts := kp_InvalidCounts, sb_InvalidCounts := sb_InvalidCounts, ty_InvalidCounts := ty_InvalidCounts,
    c_InvalidPath := c_InvalidPath, m_InvalidPath := PySem.W.mg_of X G a_InvalidPath, x_InvalidPath := x_InvalidPath, kp_InvalidPath := kp_InvalidPath, sb_InvalidPath := sb_InvalidPath, ty_InvalidPath := ty_InvalidPath,
    c_TooMany := c_TooMany, m_TooMany := PySem.W.mg_of X G a_TooMany, kp_TooMany := kp_TooMany, sb_TooMany := sb_TooMany, ty_TooMany := ty_TooMany,
    o_TooMany := ⟨⟨_, _, _, _, _, _, _, _, _, _, _, _, _, _, _, l_TooMany, rb_TooMany⟩, sa_TooMany, sb_TooMany, ty_TooMany, kp_TooMany⟩, xf_TooMany := ⟨ga_TooMany, gg_TooMany, sb_TooMany, hd_TooMany⟩,
    i_TooMany := i_TooMany, di_TooMany := _, Fi_TooMany := fun_mk fl_TooMany fc_TooMany fk_TooMany, bi_TooMany := (fun_mk fl_TooMany fc_TooMany fk_TooMany).binds (fun _ _ _ _ _ _ us hl => match us, hl with | [_, _], _ => rfl), ii_TooMany := ii_TooMany, it_TooMany := it_TooMany, nf_TooMany := nf_TooMany }
  have cl : Clss K T0.cv 4 mt := ⟨fun c k hc hk => by
    have z_0_0 := exm_b sb_StampError ic_StampError ty_StampError e_0_0
    have z_0_1 := exm_b sb_InvalidCounts ic_InvalidCounts ty_InvalidCounts e_0_1
    have z_0_2 := exm_b sb_InvalidPath ic_InvalidPath ty_InvalidPath e_0_2
    have z_0_3 := exm_b sb_TooMany ic_TooMany ty_TooMany e_0_3
    have z_1_0 := exm_b sb_StampError ic_StampError ty_StampError e_1_0
    have z_1_1 := exm_b sb_InvalidCounts ic_InvalidCounts ty_InvalidCounts e_1_1
    have z_1_2 := exm_b sb_InvalidPath ic_InvalidPath ty_InvalidPath e_1_2
    have z_1_3 := exm_b sb_TooMany ic_TooMany ty_TooMany e_1_3
    have z_2_0 := exm_b sb_StampError ic_StampError ty_StampError e_2_0
    have z_2_1 := exm_b sb_InvalidCounts ic_InvalidCounts ty_InvalidCounts e_2_1
    have z_2_2 := exm_b sb_InvalidPath ic_InvalidPath ty_InvalidPath e_2_2
    have z_2_3 := exm_b sb_TooMany ic_TooMany ty_TooMany e_2_3
    have z_3_0 := exm_b sb_StampError ic_StampError ty_StampError e_3_0
    have z_3_1 := exm_b sb_InvalidCounts ic_InvalidCounts ty_InvalidCounts e_3_1
    have z_3_2 := exm_b sb_InvalidPath ic_InvalidPath ty_InvalidPath e_3_2
    have z_3_3 := exm_b sb_TooMany ic_TooMany ty_TooMany e_3_3
    match c, k, hc, hk with
    | 0, 0, _, _ => exact z_0_0
    | 0, 1, _, _ => exact z_0_1
    | 0, 2, _, _ => exact z_0_2
    | 0, 3, _, _ => exact z_0_3
    | 1, 0, _, _ => exact z_1_0
    | 1, 1, _, _ => exact z_1_1
    | 1, 2, _, _ => exact z_1_2
    | 1, 3, _, _ => exact z_1_3
    | 2, 0, _, _ => exact z_2_0
    | 2, 1, _, _ => exact z_2_1
    | 2, 2, _, _ => exact z_2_2
    | 2, 3, _, _ => exact z_2_3
    | 3, 0, _, _ => exact z_3_0
    | 3, 1, _, _ => exact z_3_1
    | 3, 2, _, _ => exact z_3_2
    | 3, 3, _, _ => exact z_3_3
    | c + 4, _, hc, _ => exact absurd hc (by omega)
    | _, k + 4, _, hk => exact absurd hk (by omega)⟩
  let T : TxtC K mg := { T0 with cls := cl }
  refine ⟨D_law.d, T.cv, fun s u => ?_, fun base _ _ => (all_g T 120).g_law⟩
  obtain ⟨oc, od, kV, doc, pm, an, cdv, ct, osl, hfd, _, _⟩ := D_law.F.ex
  rw [hfd]
  exact .of_eq rfl
theorem law_true (ns : List Int) (h : ns.length ≤ 63) (hb : ∀ z ∈ ns, Builtin.Int.intBits z ≤ 1048576) : ∃ S, (fns 120).law [.kl (ns.map Val.int)] [] = .ok (.bl true) S := l_law ns h
theorem walk {l : PySem.W.OpenLaw} {q : Program} {loose : List Str} {XP : (Str → Option Value) → Heap → Prop} {YP : World → Heap → Prop} {d : DefRec} {K : Params → PySem.W.Frag} (hn : l.most = some 63) (hdf : d.params.defaults = [])
    (hY : ∀ (w : World) (h : Heap), YP w h → (K w.params).In h)
    (F : ∀ (w : World) (mg : Str → Option Value) (fa : Addr) (h : Heap), (K w.params).In h → h.Ns mainGlobals mg → mg d.name = some (.ref fa) →
      ∃ (fd : FuncData) (cv : Nat → Value), (∀ (s : Shared) (u : Value), BindsTo s fd ⟨[u], []⟩ [("script", u)]) ∧ ∀ base : Heap, (K w.params).In base → base.Ns mainGlobals mg → FnG l.prog w (K w.params) mg base 120 fa fd ["script"] (SpecOf ⟨K w.params, cv⟩ (fns 120).law)) :
    PySem.W.WalkO q loose XP YP l.row.toRowW d [] (fun f vs => PySem.call f vs) :=
  walk_g (n := 63) (k := 120) hn (by rw [sizeLine_eq]; decide) hdf ⟨rfl, by decide, by decide⟩ hY F law_true
end PD.K05
open PySem PySem.W PyProof.Rows
set_option maxRecDepth 100000 in
set_option maxHeartbeats 0 in
theorem PySem.Challenge.cw_heirstamps_k05_counts_joined_and_within_holds : PySem.Challenge.rw_heirstamps_k05_counts_joined_and_within.Holds := by
  w_on; o_law; k_head; (case hw => w_witness2)
  k_fill
  refine PD.K05.walk (l := PySem.Challenge.rw_heirstamps_k05_counts_joined_and_within) rfl rfl (fun w h Y => PySem.W.kIn_of Y) ?F
  case F =>
    intro w mg fa h KX G hmg
    have D_tuple_count : PD.K05.DefAt (L2.KOf KX) mg "tuple_count" PD.K05.s_tuple_count ["tree"] := by
      refine' PD.K05.mkDef KX G ?h1 ?h2 ?h3 ?h4 (fun _ _ _ _ _ _ us hl => match us, hl with | [_], _ => rfl); (case h1 => k_is); (case h2 => k_is); (case h3 => k_is); (case h4 => k_is)
    have D_bounded : PD.K05.DefAt (L2.KOf KX) mg "bounded" PD.K05.s_bounded ["tree"] := by
      refine' PD.K05.mkDef KX G ?h1 ?h2 ?h3 ?h4 (fun _ _ _ _ _ _ us hl => match us, hl with | [_], _ => rfl); (case h1 => k_is); (case h2 => k_is); (case h3 => k_is); (case h4 => k_is)
    have D_is_path : PD.K05.DefAt (L2.KOf KX) mg "is_path" PD.K05.s_is_path ["value"] := by
      refine' PD.K05.mkDef KX G ?h1 ?h2 ?h3 ?h4 (fun _ _ _ _ _ _ us hl => match us, hl with | [_], _ => rfl); (case h1 => k_is); (case h2 => k_is); (case h3 => k_is); (case h4 => k_is)
    have D_check_path : PD.K05.DefAt (L2.KOf KX) mg "check_path" PD.K05.s_check_path ["value"] := by
      refine' PD.K05.mkDef KX G ?h1 ?h2 ?h3 ?h4 (fun _ _ _ _ _ _ us hl => match us, hl with | [_], _ => rfl); (case h1 => k_is); (case h2 => k_is); (case h3 => k_is); (case h4 => k_is)
    have D_least : PD.K05.DefAt (L2.KOf KX) mg "least" PD.K05.s_least ["counts"] := by
      refine' PD.K05.mkDef KX G ?h1 ?h2 ?h3 ?h4 (fun _ _ _ _ _ _ us hl => match us, hl with | [_], _ => rfl); (case h1 => k_is); (case h2 => k_is); (case h3 => k_is); (case h4 => k_is)
    have D_greatest : PD.K05.DefAt (L2.KOf KX) mg "greatest" PD.K05.s_greatest ["counts"] := by
      refine' PD.K05.mkDef KX G ?h1 ?h2 ?h3 ?h4 (fun _ _ _ _ _ _ us hl => match us, hl with | [_], _ => rfl); (case h1 => k_is); (case h2 => k_is); (case h3 => k_is); (case h4 => k_is)
    have D_lifted : PD.K05.DefAt (L2.KOf KX) mg "lifted" PD.K05.s_lifted ["counts", "number"] := by
      refine' PD.K05.mkDef KX G ?h1 ?h2 ?h3 ?h4 (fun _ _ _ _ _ _ us hl => match us, hl with | [_, _], _ => rfl); (case h1 => k_is); (case h2 => k_is); (case h3 => k_is); (case h4 => k_is)
    have D_halves : PD.K05.DefAt (L2.KOf KX) mg "halves" PD.K05.s_halves ["counts"] := by
      refine' PD.K05.mkDef KX G ?h1 ?h2 ?h3 ?h4 (fun _ _ _ _ _ _ us hl => match us, hl with | [_], _ => rfl); (case h1 => k_is); (case h2 => k_is); (case h3 => k_is); (case h4 => k_is)
    have D_whole : PD.K05.DefAt (L2.KOf KX) mg "whole" PD.K05.s_whole ["left", "right"] := by
      refine' PD.K05.mkDef KX G ?h1 ?h2 ?h3 ?h4 (fun _ _ _ _ _ _ us hl => match us, hl with | [_, _], _ => rfl); (case h1 => k_is); (case h2 => k_is); (case h3 => k_is); (case h4 => k_is)
    have D_greater_of : PD.K05.DefAt (L2.KOf KX) mg "greater_of" PD.K05.s_greater_of ["counts", "other_counts"] := by
      refine' PD.K05.mkDef KX G ?h1 ?h2 ?h3 ?h4 (fun _ _ _ _ _ _ us hl => match us, hl with | [_, _], _ => rfl); (case h1 => k_is); (case h2 => k_is); (case h3 => k_is); (case h4 => k_is)
    have D_nowhere_greater : PD.K05.DefAt (L2.KOf KX) mg "nowhere_greater" PD.K05.s_nowhere_greater ["counts", "other_counts"] := by
      refine' PD.K05.mkDef KX G ?h1 ?h2 ?h3 ?h4 (fun _ _ _ _ _ _ us hl => match us, hl with | [_, _], _ => rfl); (case h1 => k_is); (case h2 => k_is); (case h3 => k_is); (case h4 => k_is)
    have D_is_counts : PD.K05.DefAt (L2.KOf KX) mg "is_counts" PD.K05.s_is_counts ["value"] := by
      refine' PD.K05.mkDef KX G ?h1 ?h2 ?h3 ?h4 (fun _ _ _ _ _ _ us hl => match us, hl with | [_], _ => rfl); (case h1 => k_is); (case h2 => k_is); (case h3 => k_is); (case h4 => k_is)
    have D__is_counts_tree : PD.K05.DefAt (L2.KOf KX) mg "_is_counts_tree" PD.K05.s__is_counts_tree ["value", "deepest"] := by
      refine' PD.K05.mkDef KX G ?h1 ?h2 ?h3 ?h4 (fun _ _ _ _ _ _ us hl => match us, hl with | [_, _], _ => rfl); (case h1 => k_is); (case h2 => k_is); (case h3 => k_is); (case h4 => k_is)
    have D_check_counts : PD.K05.DefAt (L2.KOf KX) mg "check_counts" PD.K05.s_check_counts ["value"] := by
      refine' PD.K05.mkDef KX G ?h1 ?h2 ?h3 ?h4 (fun _ _ _ _ _ _ us hl => match us, hl with | [_], _ => rfl); (case h1 => k_is); (case h2 => k_is); (case h3 => k_is); (case h4 => k_is)
    have D_worth_at : PD.K05.DefAt (L2.KOf KX) mg "worth_at" PD.K05.s_worth_at ["counts", "path"] := by
      refine' PD.K05.mkDef KX G ?h1 ?h2 ?h3 ?h4 (fun _ _ _ _ _ _ us hl => match us, hl with | [_, _], _ => rfl); (case h1 => k_is); (case h2 => k_is); (case h3 => k_is); (case h4 => k_is)
    have D_joined : PD.K05.DefAt (L2.KOf KX) mg "joined" PD.K05.s_joined ["counts", "other_counts"] := by
      refine' PD.K05.mkDef KX G ?h1 ?h2 ?h3 ?h4 (fun _ _ _ _ _ _ us hl => match us, hl with | [_, _], _ => rfl); (case h1 => k_is); (case h2 => k_is); (case h3 => k_is); (case h4 => k_is)
    have D_is_within : PD.K05.DefAt (L2.KOf KX) mg "is_within" PD.K05.s_is_within ["counts", "other_counts"] := by
      refine' PD.K05.mkDef KX G ?h1 ?h2 ?h3 ?h4 (fun _ _ _ _ _ _ us hl => match us, hl with | [_, _], _ => rfl); (case h1 => k_is); (case h2 => k_is); (case h3 => k_is); (case h4 => k_is)
    have D__law_cup : PD.K05.DefAt (L2.KOf KX) mg "_law_cup" PD.K05.s__law_cup ["cell"] := by
      refine' PD.K05.mkDef KX G ?h1 ?h2 ?h3 ?h4 (fun _ _ _ _ _ _ us hl => match us, hl with | [_], _ => rfl); (case h1 => k_is); (case h2 => k_is); (case h3 => k_is); (case h4 => k_is)
    have D__law_sip : PD.K05.DefAt (L2.KOf KX) mg "_law_sip" PD.K05.s__law_sip ["cup", "many"] := by
      refine' PD.K05.mkDef KX G ?h1 ?h2 ?h3 ?h4 (fun _ _ _ _ _ _ us hl => match us, hl with | [_, _], _ => rfl); (case h1 => k_is); (case h2 => k_is); (case h3 => k_is); (case h4 => k_is)
    have D__law_same : PD.K05.DefAt (L2.KOf KX) mg "_law_same" PD.K05.s__law_same ["found", "due"] := by
      refine' PD.K05.mkDef KX G ?h1 ?h2 ?h3 ?h4 (fun _ _ _ _ _ _ us hl => match us, hl with | [_, _], _ => rfl); (case h1 => k_is); (case h2 => k_is); (case h3 => k_is); (case h4 => k_is)
    have D__law_counts : PD.K05.DefAt (L2.KOf KX) mg "_law_counts" PD.K05.s__law_counts ["cup", "deep"] := by
      refine' PD.K05.mkDef KX G ?h1 ?h2 ?h3 ?h4 (fun _ _ _ _ _ _ us hl => match us, hl with | [_, _], _ => rfl); (case h1 => k_is); (case h2 => k_is); (case h3 => k_is); (case h4 => k_is)
    have D__law_long : PD.K05.DefAt (L2.KOf KX) mg "_law_long" PD.K05.s__law_long ["cup", "counts"] := by
      refine' PD.K05.mkDef KX G ?h1 ?h2 ?h3 ?h4 (fun _ _ _ _ _ _ us hl => match us, hl with | [_, _], _ => rfl); (case h1 => k_is); (case h2 => k_is); (case h3 => k_is); (case h4 => k_is)
    have D__law_size : PD.K05.DefAt (L2.KOf KX) mg "_law_size" PD.K05.s__law_size ["tree"] := by
      refine' PD.K05.mkDef KX G ?h1 ?h2 ?h3 ?h4 (fun _ _ _ _ _ _ us hl => match us, hl with | [_], _ => rfl); (case h1 => k_is); (case h2 => k_is); (case h3 => k_is); (case h4 => k_is)
    have D__law_least : PD.K05.DefAt (L2.KOf KX) mg "_law_least" PD.K05.s__law_least ["counts"] := by
      refine' PD.K05.mkDef KX G ?h1 ?h2 ?h3 ?h4 (fun _ _ _ _ _ _ us hl => match us, hl with | [_], _ => rfl); (case h1 => k_is); (case h2 => k_is); (case h3 => k_is); (case h4 => k_is)
    have D__law_put : PD.K05.DefAt (L2.KOf KX) mg "_law_put" PD.K05.s__law_put ["left", "right"] := by
      refine' PD.K05.mkDef KX G ?h1 ?h2 ?h3 ?h4 (fun _ _ _ _ _ _ us hl => match us, hl with | [_, _], _ => rfl); (case h1 => k_is); (case h2 => k_is); (case h3 => k_is); (case h4 => k_is)
    have D__law_lower : PD.K05.DefAt (L2.KOf KX) mg "_law_lower" PD.K05.s__law_lower ["counts", "number"] := by
      refine' PD.K05.mkDef KX G ?h1 ?h2 ?h3 ?h4 (fun _ _ _ _ _ _ us hl => match us, hl with | [_, _], _ => rfl); (case h1 => k_is); (case h2 => k_is); (case h3 => k_is); (case h4 => k_is)
    have D__law_parts : PD.K05.DefAt (L2.KOf KX) mg "_law_parts" PD.K05.s__law_parts ["counts"] := by
      refine' PD.K05.mkDef KX G ?h1 ?h2 ?h3 ?h4 (fun _ _ _ _ _ _ us hl => match us, hl with | [_], _ => rfl); (case h1 => k_is); (case h2 => k_is); (case h3 => k_is); (case h4 => k_is)
    have D__law_join : PD.K05.DefAt (L2.KOf KX) mg "_law_join" PD.K05.s__law_join ["one", "two"] := by
      refine' PD.K05.mkDef KX G ?h1 ?h2 ?h3 ?h4 (fun _ _ _ _ _ _ us hl => match us, hl with | [_, _], _ => rfl); (case h1 => k_is); (case h2 => k_is); (case h3 => k_is); (case h4 => k_is)
    have D__law_worth : PD.K05.DefAt (L2.KOf KX) mg "_law_worth" PD.K05.s__law_worth ["counts", "path"] := by
      refine' PD.K05.mkDef KX G ?h1 ?h2 ?h3 ?h4 (fun _ _ _ _ _ _ us hl => match us, hl with | [_, _], _ => rfl); (case h1 => k_is); (case h2 => k_is); (case h3 => k_is); (case h4 => k_is)
    have D__law_beyond : PD.K05.DefAt (L2.KOf KX) mg "_law_beyond" PD.K05.s__law_beyond ["full", "deep"] := by
      refine' PD.K05.mkDef KX G ?h1 ?h2 ?h3 ?h4 (fun _ _ _ _ _ _ us hl => match us, hl with | [_, _], _ => rfl); (case h1 => k_is); (case h2 => k_is); (case h3 => k_is); (case h4 => k_is)
    have D__law_bad_counts : PD.K05.DefAt (L2.KOf KX) mg "_law_bad_counts" PD.K05.s__law_bad_counts ["cup", "counts"] := by
      refine' PD.K05.mkDef KX G ?h1 ?h2 ?h3 ?h4 (fun _ _ _ _ _ _ us hl => match us, hl with | [_, _], _ => rfl); (case h1 => k_is); (case h2 => k_is); (case h3 => k_is); (case h4 => k_is)
    have D__law_bad_path : PD.K05.DefAt (L2.KOf KX) mg "_law_bad_path" PD.K05.s__law_bad_path ["cup"] := by
      refine' PD.K05.mkDef KX G ?h1 ?h2 ?h3 ?h4 (fun _ _ _ _ _ _ us hl => match us, hl with | [_], _ => rfl); (case h1 => k_is); (case h2 => k_is); (case h3 => k_is); (case h4 => k_is)
    have D__law_path : PD.K05.DefAt (L2.KOf KX) mg "_law_path" PD.K05.s__law_path ["cup"] := by
      refine' PD.K05.mkDef KX G ?h1 ?h2 ?h3 ?h4 (fun _ _ _ _ _ _ us hl => match us, hl with | [_], _ => rfl); (case h1 => k_is); (case h2 => k_is); (case h3 => k_is); (case h4 => k_is)
    have D__law_said : PD.K05.DefAt (L2.KOf KX) mg "_law_said" PD.K05.s__law_said ["door", "counts", "other"] := by
      refine' PD.K05.mkDef KX G ?h1 ?h2 ?h3 ?h4 (fun _ _ _ _ _ _ us hl => match us, hl with | [_, _, _], _ => rfl); (case h1 => k_is); (case h2 => k_is); (case h3 => k_is); (case h4 => k_is)
    have D__law_pair_right : PD.K05.DefAt (L2.KOf KX) mg "_law_pair_right" PD.K05.s__law_pair_right ["cup", "one", "two"] := by
      refine' PD.K05.mkDef KX G ?h1 ?h2 ?h3 ?h4 (fun _ _ _ _ _ _ us hl => match us, hl with | [_, _, _], _ => rfl); (case h1 => k_is); (case h2 => k_is); (case h3 => k_is); (case h4 => k_is)
    have D_law : PD.K05.DefAt (L2.KOf KX) mg "law" PD.K05.s_law ["script"] := by
      refine' PD.K05.mkDef KX G ?h1 ?h2 ?h3 ?h4 (fun _ _ _ _ _ _ us hl => match us, hl with | [_], _ => rfl); (case h1 => k_is); (case h2 => k_is); (case h3 => k_is); (case h4 => k_is)
    refine' PD.K05.mk_all (l := PySem.Challenge.rw_heirstamps_k05_counts_joined_and_within) (w := w) KX G hmg D_tuple_count D_bounded D_is_path D_check_path D_least D_greatest D_lifted D_halves D_whole D_greater_of D_nowhere_greater D_is_counts D__is_counts_tree D_check_counts D_worth_at D_joined D_is_within D__law_cup D__law_sip D__law_same D__law_counts D__law_long D__law_size D__law_least D__law_put D__law_lower D__law_parts D__law_join D__law_worth D__law_beyond D__law_bad_counts D__law_bad_path D__law_path D__law_said D__law_pair_right D_law ?a_StampError ?x_StampError ?kp_StampError ?sb_StampError ?ty_StampError ?ic_StampError ?a_InvalidCounts ?x_InvalidCounts ?kp_InvalidCounts ?sb_InvalidCounts ?ty_InvalidCounts ?ic_InvalidCounts ?a_InvalidPath ?x_InvalidPath ?kp_InvalidPath ?sb_InvalidPath ?ty_InvalidPath ?ic_InvalidPath ?a_TooMany ?l_TooMany ?rb_TooMany ?sa_TooMany ?ga_TooMany ?gg_TooMany ?hd_TooMany ?ii_TooMany ?it_TooMany ?nf_TooMany ?fl_TooMany ?fc_TooMany ?fk_TooMany ?kp_TooMany ?sb_TooMany ?ty_TooMany ?ic_TooMany ?n_all ?n_bool ?n_int ?n_isinstance ?n_len ?n_list ?n_max ?n_min ?n_range ?n_repr ?n_str ?n_sum ?n_tuple ?n_type ?hh_DEEPEST ?gg_DEEPEST ?hh_MOST_TUPLES ?gg_MOST_TUPLES ?e_0_0 ?e_0_1 ?e_0_2 ?e_0_3 ?e_1_0 ?e_1_1 ?e_1_2 ?e_1_3 ?e_2_0 ?e_2_1 ?e_2_2 ?e_2_3 ?e_3_0 ?e_3_1 ?e_3_2 ?e_3_3
    (case a_StampError => k_is)
    (case a_InvalidCounts => k_is)
    (case a_InvalidPath => k_is)
    (case a_TooMany => k_is)
    (case x_StampError => k_exc)
    (case kp_StampError => k_is)
    (case sb_StampError => k_is)
    (case ty_StampError => k_is)
    (case ic_StampError => k_is)
    (case x_InvalidCounts => k_exc)
    (case kp_InvalidCounts => k_is)
    (case sb_InvalidCounts => k_is)
    (case ty_InvalidCounts => k_is)
    (case ic_InvalidCounts => k_is)
    (case x_InvalidPath => k_exc)
    (case kp_InvalidPath => k_is)
    (case sb_InvalidPath => k_is)
    (case ty_InvalidPath => k_is)
    (case ic_InvalidPath => k_is)
    (case l_TooMany => k_is)
    (case rb_TooMany => rfl)
    (case sa_TooMany => k_is)
    (case ga_TooMany => k_is)
    (case gg_TooMany => k_is)
    (case hd_TooMany => k_is)
    (case ii_TooMany => k_is)
    (case it_TooMany => k_is)
    (case nf_TooMany => k_is)
    (case fl_TooMany => k_is)
    (case fc_TooMany => k_is)
    (case fk_TooMany => k_is)
    (case kp_TooMany => k_is)
    (case sb_TooMany => k_is)
    (case ty_TooMany => k_is)
    (case ic_TooMany => k_is)
    (case n_all => k_is)
    (case n_bool => k_is)
    (case n_int => k_is)
    (case n_isinstance => k_is)
    (case n_len => k_is)
    (case n_list => k_is)
    (case n_max => k_is)
    (case n_min => k_is)
    (case n_range => k_is)
    (case n_repr => k_is)
    (case n_str => k_is)
    (case n_sum => k_is)
    (case n_tuple => k_is)
    (case n_type => k_is)
    (case e_0_0 => first | rfl | k_is)
    (case e_0_1 => first | rfl | k_is)
    (case e_0_2 => first | rfl | k_is)
    (case e_0_3 => first | rfl | k_is)
    (case e_1_0 => first | rfl | k_is)
    (case e_1_1 => first | rfl | k_is)
    (case e_1_2 => first | rfl | k_is)
    (case e_1_3 => first | rfl | k_is)
    (case e_2_0 => first | rfl | k_is)
    (case e_2_1 => first | rfl | k_is)
    (case e_2_2 => first | rfl | k_is)
    (case e_2_3 => first | rfl | k_is)
    (case e_3_0 => first | rfl | k_is)
    (case e_3_1 => first | rfl | k_is)
    (case e_3_2 => first | rfl | k_is)
    (case e_3_3 => first | rfl | k_is)
    (case hh_DEEPEST => k_is)
    (case hh_MOST_TUPLES => k_is)
    (case gg_DEEPEST => exact ⟨_, rfl⟩)
    (case gg_MOST_TUPLES => exact ⟨_, rfl⟩)