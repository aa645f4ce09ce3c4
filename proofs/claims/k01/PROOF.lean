import PyProof.Rows.All
import Wide.All
import OpenK.AllK
import Wide.FinOn
import HandS.ForMost
import HandS.ForExc
import HandS.CallSlots
import HandS.TryMany
import HandS.ExcField
import HandS.ExcInit
import HandS.IsInst
import HandS.Conv
import HandS.Wide
import HandS.TupAny
import HandS.More
import HandS.Style
import HandS.MakeKw
import HandS.MakeKwOnly
import HandS.Deep
import HandS.EndBits
import HandS.TupMul
import PySem.Challenge.RW_heirstamps_k01_shares_counts_stamps_judg
/-! ## PDCore -/
set_option Elab.async false
set_option linter.all false
set_option maxRecDepth 100000
set_option maxHeartbeats 2000000
namespace PD
open PySem PySem.Spec L2

/-! ### values and the store -/
inductive Val where
  | non | bl (b : Bool) | int (i : Int) | str (x : Str) | tup (xs : List Val) | ref (n : Nat) | ty (n : String)
  /-- a list that is only read (the script), by what it holds -/
  | kl (xs : List Val)
inductive Cell where
  | lst (xs : List Val)
abbrev Store := List Cell
structure Exn where
  cls : Nat
  fs : List (Str × Val)
inductive Res (α : Type) where
  | ok (a : α) (S : Store) | exc (e : Exn) (S : Store) | stuck
def Res.bind {α β : Type} (r : Res α) (k : α → Store → Res β) : Res β := match r with
  | .ok a S => k a S
  | .exc e S => .exc e S
  | .stuck => .stuck
abbrev Env := List (Option Val)
abbrev D := Env → Store → Res Val
abbrev DT := Env → Store → Res Bool
abbrev DA := Env → Store → Res (List Val)

/-! ### the relation to the abstract heap -/
/-- a list that is only read -/
def RoL (K : PySem.W.Frag) (H : Hp) (a : Addr) (vs : List V) : Prop :=
  (∃ o, H a = some (.frz o (.lst vs))) ∨ ∃ (o : Obj) (its : Array Value) (n : Nat), K.lookup a = some o ∧ o.cls = .type "list" ∧ o.dict = none ∧ o.data = .seq its n ∧ its.size ≤ sizeLine ∧ Vals vs its.toList
theorem RoL.sq {K : PySem.W.Frag} {H : Hp} {a : Addr} {vs : List V} (h : RoL K H a vs) : SqL K H a vs := by
  rcases h with h | h
  · exact .inl (.inr h)
  · exact .inr h
mutual
inductive RV (K : PySem.W.Frag) (ι : List Addr) (H : Hp) : Val → V → Prop
  | non : RV K ι H .non .non
  | bl (b : Bool) : RV K ι H (.bl b) (.bl b)
  | int (i : Int) : RV K ι H (.int i) (.int i)
  | str (x : Str) : RV K ι H (.str x) (.str x)
  | tup {a : Addr} {xs : List Val} {vs : List V} : SqT K H a vs → RVs K ι H xs vs → RV K ι H (.tup xs) (.ref a)
  | ref {n : Nat} {a : Addr} : ι[n]? = some a → RV K ι H (.ref n) (.ref a)
  | ty (n : String) : RV K ι H (.ty n) (.ty n)
  | kl {a : Addr} {xs : List Val} {vs : List V} : RoL K H a vs → RVs K ι H xs vs → RV K ι H (.kl xs) (.ref a)
inductive RVs (K : PySem.W.Frag) (ι : List Addr) (H : Hp) : List Val → List V → Prop
  | nil : RVs K ι H [] []
  | cons {x : Val} {v : V} {xs : List Val} {vs : List V} : RV K ι H x v → RVs K ι H xs vs → RVs K ι H (x :: xs) (v :: vs)
end
def CellOk (K : PySem.W.Frag) (ι : List Addr) (H : Hp) (a : Addr) : Cell → Prop
  | .lst xs => ∃ vs, RVs K ι H xs vs ∧ H a = some (.lst vs)
structure RH (K : PySem.W.Frag) (ι : List Addr) (H : Hp) (S : Store) : Prop where
  len : ι.length = S.length
  ok : ∀ (n : Nat) (a : Addr) (c : Cell), ι[n]? = some a → S[n]? = some c → CellOk K ι H a c
  nd : ∀ (n m : Nat) (a : Addr), ι[n]? = some a → ι[m]? = some a → n = m
structure Ext (ι : List Addr) (H : Hp) (ι' : List Addr) (H' : Hp) : Prop where
  pre : ι <+: ι'
  fr : ∀ a o, H a = some o → a ∉ ι → H' a = some o
  new : ∀ a, a ∈ ι' → a ∉ ι → H a = none
  tp : ∀ a vs, Rd H a (.tup vs) → Rd H' a (.tup vs)
  fz : ∀ a o u, H a = some (.frz o u) → H' a = some (.frz o u)
def RS (K : PySem.W.Frag) (ι : List Addr) (H : Hp) (ρ : Env) (σ : St) : Prop :=
  ρ.length = σ.length ∧ ∀ (i : Nat) (x : Val), ρ[i]? = some (some x) → ∃ v, σ[i]? = some (some v) ∧ RV K ι H x v

section
variable {K : PySem.W.Frag} {ι ι' ι2 : List Addr} {H H' H2 : Hp} {S S' : Store} {ρ : Env} {σ : St}
theorem Ext.refl : Ext ι H ι H := ⟨List.prefix_refl _, fun _ _ h _ => h, fun _ h n => absurd h n, fun _ _ h => h, fun _ _ _ h => h⟩
theorem Ext.trans (a : Ext ι H ι' H') (b : Ext ι' H' ι2 H2) : Ext ι H ι2 H2 := by
  refine ⟨a.pre.trans b.pre, fun c o h n => ?_, fun c h n => ?_, fun c vs h => b.tp c vs (a.tp c vs h), fun c o u h => b.fz c o u (a.fz c o u h)⟩
  · refine b.fr c o (a.fr c o h n) fun z => ?_
    have := a.new c z n
    rw [h] at this; cases this
  · by_cases z : c ∈ ι'
    · exact a.new c z n
    · have q := b.new c h z
      cases e : H c with
      | none => rfl
      | some o =>
        have := a.fr c o e n
        rw [q] at this; cases this
theorem Ext.get (e : Ext ι H ι' H') {n : Nat} {a : Addr} (h : ι[n]? = some a) : ι'[n]? = some a := by
  obtain ⟨t, rfl⟩ := e.pre
  have hl : n < ι.length := (List.getElem?_eq_some_iff.mp h).1
  rw [List.getElem?_append_left hl]; exact h
theorem Ext.sqT (e : Ext ι H ι' H') {a : Addr} {vs : List V} (h : SqT K H a vs) : SqT K H' a vs := by
  rcases h with h | h
  · exact .inl (e.tp _ _ h)
  · exact .inr h
theorem Ext.roL (e : Ext ι H ι' H') {a : Addr} {vs : List V} (h : RoL K H a vs) : RoL K H' a vs := by
  rcases h with ⟨o, h⟩ | h
  · exact .inl ⟨o, e.fz _ _ _ h⟩
  · exact .inr h
mutual
theorem RV.ext (e : Ext ι H ι' H') : ∀ {x : Val} {v : V}, RV K ι H x v → RV K ι' H' x v
  | _, _, .non => .non
  | _, _, .bl b => .bl b
  | _, _, .int i => .int i
  | _, _, .str x => .str x
  | _, _, .tup h r => .tup (e.sqT h) (RVs.ext e r)
  | _, _, .ref h => .ref (e.get h)
  | _, _, .ty n => .ty n
  | _, _, .kl h r => .kl (e.roL h) (RVs.ext e r)
theorem RVs.ext (e : Ext ι H ι' H') : ∀ {xs : List Val} {vs : List V}, RVs K ι H xs vs → RVs K ι' H' xs vs
  | _, _, .nil => .nil
  | _, _, .cons h r => .cons (RV.ext e h) (RVs.ext e r)
end
theorem RS.ext (e : Ext ι H ι' H') (h : RS K ι H ρ σ) : RS K ι' H' ρ σ := ⟨h.1, fun i x q => by
  obtain ⟨v, a, b⟩ := h.2 i x q
  exact ⟨v, a, b.ext e⟩⟩
theorem RVs.length : ∀ {xs : List Val} {vs : List V}, RVs K ι H xs vs → xs.length = vs.length
  | _, _, .nil => rfl
  | _, _, .cons _ r => by rw [List.length_cons, List.length_cons, RVs.length r]
theorem RVs.append : ∀ {xs ys : List Val} {vs ws : List V}, RVs K ι H xs vs → RVs K ι H ys ws → RVs K ι H (xs ++ ys) (vs ++ ws)
  | _, _, _, _, .nil, s => s
  | _, _, _, _, .cons h r, s => .cons h (RVs.append r s)
theorem RVs.get : ∀ {xs : List Val} {vs : List V} {i : Nat} {x : Val}, RVs K ι H xs vs → xs[i]? = some x → ∃ v, vs[i]? = some v ∧ RV K ι H x v
  | _, _, _, _, .nil, h => by simp at h
  | _, _, 0, _, .cons h _, e => by simp at e; subst e; exact ⟨_, rfl, h⟩
  | _, _, i + 1, _, .cons _ r, e => by
    obtain ⟨v, a, b⟩ := RVs.get (i := i) r (by simpa using e)
    exact ⟨v, by simpa using a, b⟩
theorem RVs.set {x : Val} {v : V} (h : RV K ι H x v) : ∀ {xs : List Val} {vs : List V} (i : Nat), RVs K ι H xs vs → RVs K ι H (xs.set i x) (vs.set i v)
  | _, _, _, .nil => .nil
  | _, _, 0, .cons _ r => .cons h r
  | _, _, i + 1, .cons q r => .cons q (RVs.set h i r)
theorem RVs.take : ∀ {xs : List Val} {vs : List V} (n : Nat), RVs K ι H xs vs → RVs K ι H (xs.take n) (vs.take n)
  | _, _, 0, _ => by simp; exact .nil
  | _, _, n + 1, .nil => .nil
  | _, _, n + 1, .cons h r => .cons h (RVs.take n r)
theorem RVs.drop : ∀ {xs : List Val} {vs : List V} (n : Nat), RVs K ι H xs vs → RVs K ι H (xs.drop n) (vs.drop n)
  | _, _, 0, r => r
  | _, _, n + 1, .nil => .nil
  | _, _, n + 1, .cons _ r => RVs.drop n r
theorem CellOk.ext (e : Ext ι H ι' H') {a : Addr} {c : Cell} (hm : ∀ xs, H a = some (.lst xs) → H' a = some (.lst xs)) (h : CellOk K ι H a c) : CellOk K ι' H' a c := by
  cases c with
  | lst xs => obtain ⟨vs, r, q⟩ := h; exact ⟨vs, r.ext e, hm _ q⟩
/-- a fresh thing that is no cell (a tuple) -/
theorem Ext.fresh {p : Addr} {o : HO} (hp : H p = none) : Ext ι H ι (upd H p o) := by
  have ne : ∀ a u, H a = some u → a ≠ p := fun a u h => ne_of_none h hp
  refine ⟨List.prefix_refl _, fun a u h _ => ?_, fun _ h n => absurd h n, fun a vs h => ?_, fun a u v h => ?_⟩
  · rw [upd_ne (ne a u h)]; exact h
  · rcases h with h | ⟨u, h⟩
    · exact .inl (by rw [upd_ne (ne a _ h)]; exact h)
    · exact .inr ⟨u, by rw [upd_ne (ne a _ h)]; exact h⟩
  · rw [upd_ne (ne a _ h)]; exact h
theorem RH.fresh {p : Addr} {o : HO} (h : RH K ι H S) (hp : H p = none) : RH K ι (upd H p o) S := by
  refine ⟨h.len, fun n a c e1 e2 => (h.ok n a c e1 e2).ext (Ext.fresh hp) fun xs q => ?_, h.nd⟩
  rw [upd_ne (ne_of_none q hp)]; exact q
/-- a new cell -/
theorem Ext.alloc {p : Addr} {o : HO} (hp : H p = none) : Ext ι H (ι ++ [p]) (upd H p o) := by
  have e := Ext.fresh (ι := ι) (o := o) hp
  refine ⟨List.prefix_append _ _, e.fr, fun a h n => ?_, e.tp, e.fz⟩
  rcases List.mem_append.mp h with z | z
  · exact absurd z n
  · rw [List.mem_singleton.mp z]; exact hp
theorem RH.trk (h : RH K ι H S) {a : Addr} (ha : a ∈ ι) : H a ≠ none := fun z => by
  obtain ⟨n, hn, e⟩ := List.mem_iff_getElem.mp ha
  have e1 : ι[n]? = some a := by rw [List.getElem?_eq_getElem hn, e]
  have hs : n < S.length := by rw [← h.len]; exact hn
  have q := h.ok n a _ e1 (List.getElem?_eq_getElem hs)
  cases hc : S[n] with
  | lst xs =>
    rw [hc] at q
    obtain ⟨_, _, q⟩ := q
    rw [z] at q; cases q
theorem get_append_some {α : Type} {l : List α} {y x : α} {n : Nat} (h : (l ++ [y])[n]? = some x) : l[n]? = some x ∨ (n = l.length ∧ y = x) := by
  rcases Nat.lt_trichotomy n l.length with q | q | q
  · rw [List.getElem?_append_left q] at h; exact .inl h
  · subst q
    rw [List.getElem?_append_right (Nat.le_refl _)] at h
    simp at h; exact .inr ⟨rfl, h⟩
  · rw [List.getElem?_eq_none (by simp; omega)] at h; cases h
theorem RH.alloc {p : Addr} {xs : List Val} {vs : List V} (h : RH K ι H S) (hp : H p = none) (r : RVs K ι H xs vs) : RH K (ι ++ [p]) (upd H p (.lst vs)) (S ++ [.lst xs]) := by
  have e := Ext.alloc (ι := ι) (o := HO.lst vs) hp
  refine ⟨by simp [h.len], fun n a c e1 e2 => ?_, fun n m a e1 e2 => ?_⟩
  · rcases get_append_some e1 with e1 | ⟨rfl, rfl⟩
    · rcases get_append_some e2 with e2 | ⟨rfl, rfl⟩
      · refine (h.ok n a c e1 e2).ext e fun xs q => ?_
        rw [upd_ne (ne_of_none q hp)]; exact q
      · exact absurd (List.getElem?_eq_some_iff.mp e1).1 (by rw [h.len]; exact Nat.lt_irrefl _)
    · rcases get_append_some e2 with e2 | ⟨_, rfl⟩
      · exact absurd (List.getElem?_eq_some_iff.mp e2).1 (by rw [h.len]; exact Nat.lt_irrefl _)
      · exact ⟨vs, r.ext e, upd_same⟩
  · rcases get_append_some e1 with e1 | ⟨a1, rfl⟩ <;> rcases get_append_some e2 with e2 | ⟨a2, b2⟩
    · exact h.nd n m a e1 e2
    · exact absurd hp (h.trk (b2 ▸ List.mem_of_getElem? e1))
    · exact absurd hp (h.trk (List.mem_of_getElem? e2))
    · rw [a1, a2]
/-- a cell is written -/
theorem Ext.write {p : Addr} {n : Nat} {vs ws : List V} (hp : ι[n]? = some p) (hl : H p = some (.lst vs)) : Ext ι H ι (upd H p (.lst ws)) := by
  have hm : p ∈ ι := List.mem_of_getElem? hp
  refine ⟨List.prefix_refl _, fun a u h k => ?_, fun _ h n => absurd h n, fun a us h => ?_, fun a u v h => ?_⟩
  · rw [upd_ne (fun z => k (by rw [z]; exact hm))]; exact h
  · rcases h with h | ⟨u, h⟩
    · exact .inl (by rw [upd_ne (ne_of h hl (by intro z; cases z))]; exact h)
    · exact .inr ⟨u, by rw [upd_ne (ne_of h hl (by intro z; cases z))]; exact h⟩
  · rw [upd_ne (ne_of h hl (by intro z; cases z))]; exact h
theorem RH.write {p : Addr} {n : Nat} {xs ys : List Val} {vs ws : List V} (h : RH K ι H S) (hp : ι[n]? = some p) (hs : S[n]? = some (.lst xs)) (hl : H p = some (.lst vs)) (r : RVs K ι H ys ws) :
    RH K ι (upd H p (.lst ws)) (S.set n (.lst ys)) := by
  have e := Ext.write (ws := ws) hp hl
  have hn : n < S.length := (List.getElem?_eq_some_iff.mp hs).1
  refine ⟨by simp [h.len], fun m a c e1 e2 => ?_, h.nd⟩
  by_cases z : n = m
  · subst z
    rw [List.getElem?_set_self hn] at e2; cases e2
    rw [hp] at e1; cases e1
    exact ⟨ws, r.ext e, upd_same⟩
  · rw [List.getElem?_set_ne z] at e2
    have ha : a ≠ p := fun q => z (h.nd n m p hp (by rw [← q]; exact e1))
    refine (h.ok m a c e1 e2).ext e fun xs q => ?_
    rw [upd_ne ha]; exact q
end

/-! ### what is wanted behind a denotation -/
/-- the dict of an error: its fields -/
def XF (K : PySem.W.Frag) (ι : List Addr) (H : Hp) (fs : List (Str × Val)) : Option Addr → Prop
  | none => fs = []
  | some d => ∃ vs : List (Str × V), H d = some (.xd vs) ∧ ∀ f x, fs.lookup f = some x → ∃ v, vs.lookup f = some v ∧ RV K ι H x v
structure Cfg where
  K : PySem.W.Frag
  cv : Nat → Value
section
variable (Γ : Cfg)
def FinX (W : Value → Option Addr → Hp → Prop) (ι : List Addr) (H : Hp) (e : Exn) (S : Store) : Prop :=
  ∀ ι' H' d, Ext ι H ι' H' → RH Γ.K ι' H' S → XF Γ.K ι' H' e.fs d → W (Γ.cv e.cls) d H'
def FinG {α β : Type} (R : List Addr → Hp → α → β → Prop) (W : Value → Option Addr → Hp → Prop) (ι : List Addr) (H : Hp) (Q : β → Hp → Prop) : Res α → Prop
  | .ok x S => ∀ ι' H' v, Ext ι H ι' H' → RH Γ.K ι' H' S → R ι' H' x v → Q v H'
  | .exc e S => FinX Γ W ι H e S
  | .stuck => False
abbrev Fin (W : Value → Option Addr → Hp → Prop) (ι : List Addr) (H : Hp) (Q : VK) (r : Res Val) : Prop := FinG Γ (RV Γ.K) W ι H Q r
abbrev FinT (W : Value → Option Addr → Hp → Prop) (ι : List Addr) (H : Hp) (Q : Bool → Hp → Prop) (r : Res Bool) : Prop := FinG Γ (fun _ _ => Eq) W ι H Q r
abbrev FinA (W : Value → Option Addr → Hp → Prop) (ι : List Addr) (H : Hp) (Q : List V → Hp → Prop) (r : Res (List Val)) : Prop := FinG Γ (RVs Γ.K) W ι H Q r
/-- what a denotation promises, as a reading -/
def TG' {α β : Type} (R : List Addr → Hp → α → β → Prop) (W : WX) (f : Env → Store → Res α) : St → Hp → (β → Hp → Prop) → Prop := fun σ H Q =>
  ∃ ι ρ S, RS Γ.K ι H ρ σ ∧ RH Γ.K ι H S ∧ FinG Γ R (fun c d H' => W c d σ H') ι H Q (f ρ S)
abbrev TD (W : WX) (f : D) : TE := TG' Γ (RV Γ.K) W f
abbrev TDT (W : WX) (f : DT) : TT := TG' Γ (fun _ _ => Eq) W f
abbrev TDA (W : WX) (f : DA) : TA := TG' Γ (RVs Γ.K) W f
end
section
variable {Γ : Cfg} {α β γ δ : Type} {R : List Addr → Hp → α → β → Prop} {R2 : List Addr → Hp → γ → δ → Prop} {W : Value → Option Addr → Hp → Prop} {ι ι' : List Addr} {H H' : Hp}
theorem FinG.weak {Q : β → Hp → Prop} {r : Res α} (e : Ext ι H ι' H') (h : FinG Γ R W ι H Q r) : FinG Γ R W ι' H' Q r := by
  cases r with
  | ok x S => exact fun ι2 H2 v e2 a b => h ι2 H2 v (e.trans e2) a b
  | exc x S => exact fun ι2 H2 d e2 a b => h ι2 H2 d (e.trans e2) a b
  | stuck => exact h
theorem FinG.bind {Q : δ → Hp → Prop} {Q' : β → Hp → Prop} {r : Res α} {k : α → Store → Res γ} (h : FinG Γ R2 W ι H Q (r.bind k))
    (hk : ∀ x S1 ι1 H1 v, Ext ι H ι1 H1 → RH Γ.K ι1 H1 S1 → R ι1 H1 x v → FinG Γ R2 W ι1 H1 Q (k x S1) → Q' v H1) : FinG Γ R W ι H Q' r := by
  cases r with
  | ok x S => exact fun ι1 H1 v e a b => hk x S ι1 H1 v e a b (FinG.weak e h)
  | exc x S => exact h
  | stuck => exact h
/-- a value at once -/
theorem FinG.here {Q : β → Hp → Prop} {x : α} {v : β} {S : Store} (h : FinG Γ R W ι H Q (.ok x S)) (a : RH Γ.K ι H S) (b : R ι H x v) : Q v H := h ι H v .refl a b
end
theorem _root_.L2.PE.imp {X : Cx} {e : Expr} {t t' : TE} (h : PE X e t) (q : ∀ σ H Q, t' σ H Q → t σ H Q) : PE X e t' := ⟨fun pins s σ H Q I hw => h.run pins s σ H Q I (q _ _ _ hw)⟩
theorem _root_.L2.PT.imp {X : Cx} {e : Expr} {t t' : TT} (h : PT X e t) (q : ∀ σ H Q, t' σ H Q → t σ H Q) : PT X e t' := ⟨fun pins s σ H Q I hw => h.run pins s σ H Q I (q _ _ _ hw)⟩
theorem _root_.L2.PW.imp {X : Cx} {e : Expr} {t t' : TT} (h : PW X e t) (q : ∀ σ H Q, t' σ H Q → t σ H Q) : PW X e t' := ⟨fun wh pins s σ H Q I hw => h.run wh pins s σ H Q I (q _ _ _ hw)⟩
theorem _root_.L2.PA.imp {X : Cx} {es : List Expr} {t t' : TA} (h : PA X es t) (q : ∀ σ H Q, t' σ H Q → t σ H Q) : PA X es t' := ⟨fun pos pins s σ H Q I hw => h.run pos pins s σ H Q I (q _ _ _ hw)⟩
theorem _root_.L2.PS.imp {X : Cx} {e : Stmt} {t t' : TS} (h : PS X e t) (q : ∀ D σ H, t' D σ H → t D σ H) : PS X e t' := ⟨fun pins s σ H D I hw => h.run pins s σ H D I (q _ _ _ hw)⟩
theorem _root_.L2.PSs.imp {X : Cx} {e : List Stmt} {t t' : TS} (h : PSs X e t) (q : ∀ D σ H, t' D σ H → t D σ H) : PSs X e t' := ⟨fun pins s σ H D I hw => h.run pins s σ H D I (q _ _ _ hw)⟩
end PD

/-! ## PDRules -/
set_option Elab.async false
set_option linter.all false
set_option maxRecDepth 100000
set_option maxHeartbeats 2000000
namespace PD
open PySem PySem.Spec L2

/-! ### expressions -/
def dVar (i : Nat) : D := fun ρ S => match ρ[i]? with
  | some (some v) => .ok v S
  | _ => .stuck
def dC (v : Val) : D := fun _ S => .ok v S
abbrev Op2 := Val → Val → Store → Res Val
def dOp (o : Op2) (f g : D) : D := fun ρ S => (f ρ S).bind fun x S1 => (g ρ S1).bind fun y S2 => o x y S2
def dUn (o : Val → Store → Res Val) (f : D) : D := fun ρ S => (f ρ S).bind fun x S1 => o x S1
def aNil : DA := fun _ S => .ok [] S
def aCons (f : D) (g : DA) : DA := fun ρ S => (f ρ S).bind fun x S1 => (g ρ S1).bind fun xs S2 => .ok (x :: xs) S2
def dTup (g : DA) : D := fun ρ S => (g ρ S).bind fun xs S1 => if xs.length ≤ 16777216 then .ok (.tup xs) S1 else .stuck
def dLst (g : DA) : D := fun ρ S => (g ρ S).bind fun xs S1 => if xs.length ≤ 16777216 then .ok (.ref S1.length) (S1 ++ [.lst xs]) else .stuck
/-- a def, a built-in: of the values of its arguments -/
abbrev Fn := List Val → Store → Res Val
def dCall (F : Fn) (g : DA) : D := fun ρ S => (g ρ S).bind fun xs S1 => F xs S1
/-- tests -/
def tVal (f : D) : DT := fun ρ S => (f ρ S).bind fun x S1 => match x with
  | .bl b => .ok b S1
  | _ => .stuck
def tAnd' (f g : DT) : DT := fun ρ S => (f ρ S).bind fun b S1 => if b = true then g ρ S1 else .ok false S1
def tOr' (f g : DT) : DT := fun ρ S => (f ρ S).bind fun b S1 => if b = true then .ok true S1 else g ρ S1
def tNot' (f : DT) : DT := fun ρ S => (f ρ S).bind fun b S1 => .ok (!b) S1
def dAnd (f g : D) : D := fun ρ S => (f ρ S).bind fun x S1 => match x with
  | .bl true => g ρ S1
  | .bl false => .ok (.bl false) S1
  | _ => .stuck
def dOr (f g : D) : D := fun ρ S => (f ρ S).bind fun x S1 => match x with
  | .bl true => .ok (.bl true) S1
  | .bl false => g ρ S1
  | _ => .stuck
def dNot (f : D) : D := fun ρ S => (f ρ S).bind fun x S1 => match x with
  | .bl b => .ok (.bl (!b)) S1
  | _ => .stuck
def dIf (t : DT) (f g : D) : D := fun ρ S => (t ρ S).bind fun b S1 => if b = true then f ρ S1 else g ρ S1

section
variable {X : Cx} {cv : Nat → Value} {W : WX} {e a b : Expr} {es rest : List Expr} {pos : Pos}
abbrev Gm (X : Cx) (cv : Nat → Value) : Cfg := ⟨X.K, cv⟩
theorem pd_var {i : Nat} (h : PE X e (L2.tVar i)) : PE X e (TD (Gm X cv) W (dVar i)) := h.imp fun σ H Q ⟨ι, ρ, S, hs, hh, q⟩ => by
  unfold dVar at q
  split at q
  · rename_i v e1
    obtain ⟨u, e2, r⟩ := hs.2 i v e1
    exact ⟨u, e2, q.here hh r⟩
  · exact q.elim
theorem pd_c {v : Val} {u : V} (h : PE X e (L2.tC u)) (r : ∀ ι H, RV X.K ι H v u) : PE X e (TD (Gm X cv) W (dC v)) := h.imp fun σ H Q ⟨ι, ρ, S, hs, hh, q⟩ => q.here hh (r ι H)
theorem pd_int {i j pos} : PE X (.Constant (.int i) j pos) (TD (Gm X cv) W (dC (.int i))) := pd_c pe_int fun _ _ => .int i
theorem pd_bl {i j pos} : PE X (.Constant (.bool i) j pos) (TD (Gm X cv) W (dC (.bl i))) := pd_c pe_bl fun _ _ => .bl i
theorem pd_str {i j pos} : PE X (.Constant (.str i) j pos) (TD (Gm X cv) W (dC (.str i))) := pd_c pe_str fun _ _ => .str i
theorem pd_non {j pos} : PE X (.Constant .none j pos) (TD (Gm X cv) W (dC .non)) := pd_c pe_non fun _ _ => .non

/-- what a value-level operation must be for a rule -/
def OK2 (K : PySem.W.Frag) (r : L2.R2) (o : Op2) : Prop := ∀ (cv : Nat → Value) (ι : List Addr) (H : Hp) (S : Store) (x y : Val) (u v : V) (W : Value → Option Addr → Hp → Prop) (Q : VK),
  RH K ι H S → RV K ι H x u → RV K ι H y v → Fin ⟨K, cv⟩ W ι H Q (o x y S) → r u v H Q
def OK1 (K : PySem.W.Frag) (r : V → Hp → VK → Prop) (o : Val → Store → Res Val) : Prop := ∀ (cv : Nat → Value) (ι : List Addr) (H : Hp) (S : Store) (x : Val) (u : V) (W : Value → Option Addr → Hp → Prop) (Q : VK),
  RH K ι H S → RV K ι H x u → Fin ⟨K, cv⟩ W ι H Q (o x S) → r u H Q
def OKA (K : PySem.W.Frag) (r : List V → Hp → VK → Prop) (o : Fn) : Prop := ∀ (cv : Nat → Value) (ι : List Addr) (H : Hp) (S : Store) (xs : List Val) (us : List V) (W : Value → Option Addr → Hp → Prop) (Q : VK),
  RH K ι H S → RVs K ι H xs us → Fin ⟨K, cv⟩ W ι H Q (o xs S) → r us H Q
theorem pd_two {f g : D} {r : L2.R2} {o : Op2} (ho : OK2 X.K r o) {σ : L2.St} {H : Hp} {Q : VK} (h : TD (Gm X cv) W (dOp o f g) σ H Q) : tOp r (TD (Gm X cv) W f) (TD (Gm X cv) W g) σ H Q := by
  obtain ⟨ι, ρ, S, hs, hh, q⟩ := h
  refine ⟨ι, ρ, S, hs, hh, FinG.bind q fun x S1 ι1 H1 u e1 h1 r1 q1 => ?_⟩
  refine ⟨ι1, ρ, S1, hs.ext e1, h1, FinG.bind q1 fun y S2 ι2 H2 v e2 h2 r2 q2 => ?_⟩
  exact ho cv ι2 H2 S2 x y u v _ Q h2 (r1.ext e2) r2 q2
theorem pd_op {op : Operator} {f g : D} {r : L2.R2} {o : Op2} (hr : OpR X (binaryOp op) r) (ho : OK2 X.K r o) (ha : PE X a (TD (Gm X cv) W f)) (hb : PE X b (TD (Gm X cv) W g)) : PE X (.BinOp a op b pos) (TD (Gm X cv) W (dOp o f g)) :=
  (pe_op hr ha hb).imp fun _ _ _ h => pd_two ho h
theorem pd_un {op : UnaryOp} {f : D} {r : V → Hp → VK → Prop} {o : Val → Store → Res Val} (hr : UnR X (unaryOp op) r) (ho : OK1 X.K r o) (ha : PE X a (TD (Gm X cv) W f)) : PE X (.UnaryOp op a pos) (TD (Gm X cv) W (dUn o f)) :=
  (pe_un hr ha).imp fun σ H Q h => by
    obtain ⟨ι, ρ, S, hs, hh, q⟩ := h
    refine ⟨ι, ρ, S, hs, hh, FinG.bind q fun x S1 ι1 H1 u e1 h1 r1 q1 => ?_⟩
    exact ho cv ι1 H1 S1 x u _ Q h1 r1 q1
theorem pd_cmp {op : CmpOp} {f g : D} {r : L2.R2} {o : Op2} (hr : OpR X (compareOp op) r) (ho : OK2 X.K r o) (ha : PE X a (TD (Gm X cv) W f)) (hb : PE X b (TD (Gm X cv) W g)) (hm : behindInMarks op b = false) : PE X (.Compare a [op] [b] pos) (TD (Gm X cv) W (dOp o f g)) :=
  (pe_cmpR hr ha hb hm).imp fun _ _ _ h => pd_two ho h
theorem pdt_cmp {op : CmpOp} {f g : D} {r : L2.R2} {o : Op2} (hr : OpR X (compareOp op) r) (ho : OK2 X.K r o) (ha : PE X a (TD (Gm X cv) W f)) (hb : PE X b (TD (Gm X cv) W g)) (hm : behindInMarks op b = false) : PT X (.Compare a [op] [b] pos) (TDT (Gm X cv) W (tVal (dOp o f g))) :=
  (pt_cmpR hr ha hb hm).imp fun σ H Q h => by
    obtain ⟨ι, ρ, S, hs, hh, q⟩ := h
    refine pd_two (cv := cv) (W := W) ho ⟨ι, ρ, S, hs, hh, ?_⟩
    refine FinG.bind q fun x S1 ι1 H1 u e1 h1 r1 q1 => ?_
    cases x with
    | bl c => cases r1; exact ⟨c, rfl, q1.here h1 rfl⟩
    | _ => exact q1.elim
/-- a test by the value of an expression -/
theorem pdt_val {f : D} (h : PE X e (TD (Gm X cv) W f)) (he : ∀ whole, isTrue e X.env whole = (do let v ← whole; standAt e.pos; holding [v] (truthy v)) := by intro _; rfl) : PT X e (TDT (Gm X cv) W (tVal f)) :=
  (pt_val h he).imp fun σ H Q h => by
    obtain ⟨ι, ρ, S, hs, hh, q⟩ := h
    refine ⟨ι, ρ, S, hs, hh, ?_⟩
    refine FinG.bind q fun x S1 ι1 H1 u e1 h1 r1 q1 => ?_
    cases x with
    | bl c => cases r1; exact ⟨c, rfl, q1.here h1 rfl⟩
    | _ => exact q1.elim
theorem pdw_one {f : DT} {op} (h : PT X a (TDT (Gm X cv) W f)) (ho : op = BoolOp.And ∨ op = .Or) : PW X (.BoolOp op [a] pos) (TDT (Gm X cv) W f) := by
  rcases ho with rfl | rfl
  · exact pw_and1 h
  · exact pw_or1 h
theorem pdw_and {f g : DT} (ha : PT X a (TDT (Gm X cv) W f)) (hb : PW X (.BoolOp .And (b :: rest) pos) (TDT (Gm X cv) W g)) : PW X (.BoolOp .And (a :: b :: rest) pos) (TDT (Gm X cv) W (tAnd' f g)) :=
  (pw_and ha hb).imp fun σ H Q h => by
    obtain ⟨ι, ρ, S, hs, hh, q⟩ := h
    refine ⟨ι, ρ, S, hs, hh, FinG.bind q fun x S1 ι1 H1 u e1 h1 r1 q1 => ?_⟩
    cases r1
    cases x with
    | true => exact ⟨ι1, ρ, S1, hs.ext e1, h1, q1⟩
    | false => exact q1.here h1 rfl
theorem pdw_or {f g : DT} (ha : PT X a (TDT (Gm X cv) W f)) (hb : PW X (.BoolOp .Or (b :: rest) pos) (TDT (Gm X cv) W g)) : PW X (.BoolOp .Or (a :: b :: rest) pos) (TDT (Gm X cv) W (tOr' f g)) :=
  (pw_or ha hb).imp fun σ H Q h => by
    obtain ⟨ι, ρ, S, hs, hh, q⟩ := h
    refine ⟨ι, ρ, S, hs, hh, FinG.bind q fun x S1 ι1 H1 u e1 h1 r1 q1 => ?_⟩
    cases r1
    cases x with
    | false => exact ⟨ι1, ρ, S1, hs.ext e1, h1, q1⟩
    | true => exact q1.here h1 rfl
theorem pdt_not {f : DT} (h : PT X a (TDT (Gm X cv) W f)) : PT X (.UnaryOp .Not a pos) (TDT (Gm X cv) W (tNot' f)) :=
  (pt_not h).imp fun σ H Q h => by
    obtain ⟨ι, ρ, S, hs, hh, q⟩ := h
    refine ⟨ι, ρ, S, hs, hh, FinG.bind q fun x S1 ι1 H1 u e1 h1 r1 q1 => ?_⟩
    cases r1
    exact q1.here h1 rfl
theorem pd_one {op} {f : D} (h : PE X a (TD (Gm X cv) W f)) : PE X (.BoolOp op [a] pos) (TD (Gm X cv) W f) := pe_one h
theorem pd_and {f g : D} (ha : PE X a (TD (Gm X cv) W f)) (hb : PE X (.BoolOp .And (b :: rest) pos) (TD (Gm X cv) W g)) : PE X (.BoolOp .And (a :: b :: rest) pos) (TD (Gm X cv) W (dAnd f g)) :=
  (pe_and ha hb).imp fun σ H Q h => by
    obtain ⟨ι, ρ, S, hs, hh, q⟩ := h
    refine ⟨ι, ρ, S, hs, hh, FinG.bind q fun x S1 ι1 H1 u e1 h1 r1 q1 => ?_⟩
    cases x with
    | bl c =>
      cases r1
      refine ⟨c, rfl, ?_⟩
      cases c with
      | true => exact ⟨ι1, ρ, S1, hs.ext e1, h1, q1⟩
      | false => exact q1.here h1 (.bl false)
    | _ => exact q1.elim
theorem pd_or {f g : D} (ha : PE X a (TD (Gm X cv) W f)) (hb : PE X (.BoolOp .Or (b :: rest) pos) (TD (Gm X cv) W g)) : PE X (.BoolOp .Or (a :: b :: rest) pos) (TD (Gm X cv) W (dOr f g)) :=
  (pe_or ha hb).imp fun σ H Q h => by
    obtain ⟨ι, ρ, S, hs, hh, q⟩ := h
    refine ⟨ι, ρ, S, hs, hh, FinG.bind q fun x S1 ι1 H1 u e1 h1 r1 q1 => ?_⟩
    cases x with
    | bl c =>
      cases r1
      refine ⟨c, rfl, ?_⟩
      cases c with
      | false => exact ⟨ι1, ρ, S1, hs.ext e1, h1, q1⟩
      | true => exact q1.here h1 (.bl true)
    | _ => exact q1.elim
theorem pd_not {f : D} (ha : PE X a (TD (Gm X cv) W f)) : PE X (.UnaryOp .Not a pos) (TD (Gm X cv) W (dNot f)) :=
  (pe_not ha).imp fun σ H Q h => by
    obtain ⟨ι, ρ, S, hs, hh, q⟩ := h
    refine ⟨ι, ρ, S, hs, hh, FinG.bind q fun x S1 ι1 H1 u e1 h1 r1 q1 => ?_⟩
    cases x with
    | bl c => cases r1; exact ⟨c, rfl, q1.here h1 (.bl _)⟩
    | _ => exact q1.elim
theorem pd_if {t : DT} {f g : D} {c : Expr} (hc : PT X c (TDT (Gm X cv) W t)) (ha : PE X a (TD (Gm X cv) W f)) (hb : PE X b (TD (Gm X cv) W g)) : PE X (.IfExp c a b pos) (TD (Gm X cv) W (dIf t f g)) :=
  (pe_ifExp hc ha hb).imp fun σ H Q h => by
    obtain ⟨ι, ρ, S, hs, hh, q⟩ := h
    refine ⟨ι, ρ, S, hs, hh, FinG.bind q fun x S1 ι1 H1 u e1 h1 r1 q1 => ?_⟩
    cases r1
    cases x with
    | true => exact ⟨ι1, ρ, S1, hs.ext e1, h1, q1⟩
    | false => exact ⟨ι1, ρ, S1, hs.ext e1, h1, q1⟩
/-! ### lists of arguments, displays -/
theorem pda_nil : PA X [] (TDA (Gm X cv) W aNil) := pa_nil.imp fun σ H Q ⟨ι, ρ, S, hs, hh, q⟩ => q.here hh .nil
theorem pda_cons {f : D} {g : DA} (ha : PE X e (TD (Gm X cv) W f)) (hr : PA X es (TDA (Gm X cv) W g)) (hs : starEach (e :: es) X.env = (false, eval e X.env) :: starEach es X.env := by rfl) : PA X (e :: es) (TDA (Gm X cv) W (aCons f g)) :=
  (pa_cons ha hr hs).imp fun σ H Q h => by
    obtain ⟨ι, ρ, S, hs, hh, q⟩ := h
    refine ⟨ι, ρ, S, hs, hh, FinG.bind q fun x S1 ι1 H1 u e1 h1 r1 q1 => ?_⟩
    refine ⟨ι1, ρ, S1, hs.ext e1, h1, FinG.bind q1 fun y S2 ι2 H2 v e2 h2 r2 q2 => ?_⟩
    exact q2.here h2 (.cons (r1.ext e2) r2)
theorem pd_tup {g : DA} {k} (h : PA X es (TDA (Gm X cv) W g)) : PE X (.Tuple es k pos) (TD (Gm X cv) W (dTup g)) :=
  (pe_tup h).imp fun σ H Q h => by
    obtain ⟨ι, ρ, S, hs, hh, q⟩ := h
    refine ⟨ι, ρ, S, hs, hh, FinG.bind q fun xs S1 ι1 H1 us e1 h1 r1 q1 => ?_⟩
    split at q1
    · rename_i hl
      refine ⟨by rw [← r1.length, sizeLine_eq]; exact hl, fun p hp => ?_⟩
      exact q1 _ _ _ (Ext.fresh hp) (h1.fresh hp) (.tup (SqT.of upd_same) (r1.ext (Ext.fresh hp)))
    · exact q1.elim
theorem pd_lst {g : DA} (h : PA X es (TDA (Gm X cv) W g)) : PE X (.List es pos) (TD (Gm X cv) W (dLst g)) :=
  (pe_lst h).imp fun σ H Q h => by
    obtain ⟨ι, ρ, S, hs, hh, q⟩ := h
    refine ⟨ι, ρ, S, hs, hh, FinG.bind q fun xs S1 ι1 H1 us e1 h1 r1 q1 => ?_⟩
    split at q1
    · rename_i hl
      refine ⟨by rw [← r1.length, sizeLine_eq]; exact hl, fun p hp => ?_⟩
      refine q1 _ _ _ (Ext.alloc hp) (h1.alloc hp r1) (.ref ?_)
      rw [← h1.len]; simp
    · exact q1.elim
end
end PD

/-! ## PDStm -/
set_option Elab.async false
set_option linter.all false
set_option maxRecDepth 100000
set_option maxHeartbeats 2000000
namespace PD
open PySem PySem.Spec L2

/-! ### statements -/
inductive SRes where
  | next (ρ : Env) (S : Store) | ret (v : Val) (S : Store) | brk (ρ : Env) (S : Store) | cont (ρ : Env) (S : Store) | exc (e : Exn) (ρ : Env) (S : Store) | stuck
abbrev SD := Env → Store → SRes
def Res.toS {α : Type} (r : Res α) (ρ : Env) (k : α → Store → SRes) : SRes := match r with
  | .ok a S => k a S
  | .exc e S => .exc e ρ S
  | .stuck => .stuck
def SRes.seq (r : SRes) (k : Env → Store → SRes) : SRes := match r with
  | .next ρ S => k ρ S
  | r => r
def FinS (Γ : Cfg) (W : WX) (ι : List Addr) (H : Hp) (D : Ends) : SRes → Prop
  | .next ρ S => ∀ ι' H' σ', Ext ι H ι' H' → RH Γ.K ι' H' S → RS Γ.K ι' H' ρ σ' → D.nx σ' H'
  | .brk ρ S => ∀ ι' H' σ', Ext ι H ι' H' → RH Γ.K ι' H' S → RS Γ.K ι' H' ρ σ' → D.bk σ' H'
  | .cont ρ S => ∀ ι' H' σ', Ext ι H ι' H' → RH Γ.K ι' H' S → RS Γ.K ι' H' ρ σ' → D.ct σ' H'
  | .ret x S => ∀ ι' H' v, Ext ι H ι' H' → RH Γ.K ι' H' S → RV Γ.K ι' H' x v → D.rt v H'
  | .exc e ρ S => ∀ ι' H' σ' d, Ext ι H ι' H' → RH Γ.K ι' H' S → RS Γ.K ι' H' ρ σ' → XF Γ.K ι' H' e.fs d → W (Γ.cv e.cls) d σ' H'
  | .stuck => False
def TSD (Γ : Cfg) (W : WX) (f : SD) : TS := fun D σ H => ∃ ι ρ S, RS Γ.K ι H ρ σ ∧ RH Γ.K ι H S ∧ FinS Γ W ι H D (f ρ S)
section
variable {Γ : Cfg} {W : WX} {ι ι' : List Addr} {H H' : Hp} {D : Ends}
theorem FinS.weak {r : SRes} (e : Ext ι H ι' H') (h : FinS Γ W ι H D r) : FinS Γ W ι' H' D r := by
  cases r with
  | next ρ S => exact fun ι2 H2 v e2 a b => h ι2 H2 v (e.trans e2) a b
  | brk ρ S => exact fun ι2 H2 v e2 a b => h ι2 H2 v (e.trans e2) a b
  | cont ρ S => exact fun ι2 H2 v e2 a b => h ι2 H2 v (e.trans e2) a b
  | ret x S => exact fun ι2 H2 v e2 a b => h ι2 H2 v (e.trans e2) a b
  | exc x ρ S => exact fun ι2 H2 v d e2 a b c => h ι2 H2 v d (e.trans e2) a b c
  | stuck => exact h
theorem FinS.bind {α β : Type} {R : List Addr → Hp → α → β → Prop} {Q' : β → Hp → Prop} {r : Res α} {ρ : Env} {σ : L2.St} {k : α → Store → SRes} (h : FinS Γ W ι H D (r.toS ρ k)) (hs : RS Γ.K ι H ρ σ)
    (hk : ∀ x S1 ι1 H1 v, Ext ι H ι1 H1 → RH Γ.K ι1 H1 S1 → R ι1 H1 x v → FinS Γ W ι1 H1 D (k x S1) → Q' v H1) : FinG Γ R (fun c d H' => W c d σ H') ι H Q' r := by
  cases r with
  | ok x S => exact fun ι1 H1 v e a b => hk x S ι1 H1 v e a b (FinS.weak e h)
  | exc x S => exact fun ι1 H1 d e a b => h ι1 H1 σ d e a (hs.ext e) b
  | stuck => exact h
theorem FinS.next {ρ : Env} {σ : L2.St} {S : Store} (h : FinS Γ W ι H D (.next ρ S)) (a : RH Γ.K ι H S) (b : RS Γ.K ι H ρ σ) : D.nx σ H := h ι H σ .refl a b
theorem FinS.seq {r : SRes} {k : Env → Store → SRes} (h : FinS Γ W ι H D (r.seq k)) : FinS Γ W ι H { D with nx := TSD Γ W k D } r := by
  cases r with
  | next ρ S => exact fun ι1 H1 σ1 e a b => ⟨ι1, ρ, S, b, a, FinS.weak e h⟩
  | _ => exact h
theorem RS.set {K : PySem.W.Frag} {ρ : Env} {σ : L2.St} {x : Val} {v : V} (h : RS K ι H ρ σ) (r : RV K ι H x v) (i : Nat) : RS K ι H (ρ.set i (some x)) (σ.set i (some v)) := by
  refine ⟨by simp [h.1], fun j y e => ?_⟩
  by_cases q : i = j
  · subst q
    by_cases hl : i < ρ.length
    · rw [List.getElem?_set_self hl] at e
      cases e
      exact ⟨v, by rw [List.getElem?_set_self (by rw [← h.1]; exact hl)], r⟩
    · rw [List.getElem?_eq_none (by simp; omega)] at e; cases e
  · rw [List.getElem?_set_ne q] at e
    obtain ⟨u, a, b⟩ := h.2 j y e
    exact ⟨u, by rw [List.getElem?_set_ne q]; exact a, b⟩
end

def sNext : SD := fun ρ S => .next ρ S
def sSeq (f g : SD) : SD := fun ρ S => (f ρ S).seq g
def sIf (t : DT) (f g : SD) : SD := fun ρ S => (t ρ S).toS ρ fun b S1 => if b = true then f ρ S1 else g ρ S1
def sRet (f : D) : SD := fun ρ S => (f ρ S).toS ρ fun x S1 => .ret x S1
def sRetN : SD := fun _ S => .ret .non S
def sDrop (f : D) : SD := fun ρ S => (f ρ S).toS ρ fun _ S1 => .next ρ S1
def sSet (i : Nat) (f : D) : SD := fun ρ S => (f ρ S).toS ρ fun x S1 => .next (ρ.set i (some x)) S1
/-- targets -/
abbrev TgD := Val → Env → Option Env
def gN (i : Nat) : TgD := fun x ρ => some (ρ.set i (some x))
def gTs : List TgD → List Val → Env → Option Env
  | [], [], ρ => some ρ
  | t :: ts, x :: xs, ρ => (t x ρ).bind fun ρ' => gTs ts xs ρ'
  | _, _, _ => none
def gT (ts : List TgD) : TgD := fun x ρ => match x with
  | .tup xs => gTs ts xs ρ
  | _ => none
def sAsg (t : TgD) (f : D) : SD := fun ρ S => (f ρ S).toS ρ fun x S1 => match t x ρ with
  | some ρ' => .next ρ' S1
  | none => .stuck
/-- a, b = x, y -/
def sPar (i j : Nat) (g : DA) : SD := fun ρ S => (g ρ S).toS ρ fun xs S1 => match xs with
  | [x, y] => .next ((ρ.set i (some x)).set j (some y)) S1
  | _ => .stuck
/-- o[i] = e, o a list -/
def ixS (n : Nat) (k : Int) : Option Nat := if 0 ≤ k then (if k < n then some k.toNat else none) else if 0 ≤ k + n then some (k + n).toNat else none
def setAt (o i x : Val) (S : Store) : Option Store := match o, i with
  | .ref n, .int k => match S[n]? with
    | some (.lst xs) => match ixN xs.length k with
      | some j => some (S.set n (.lst (xs.set j x)))
      | none => none
    | _ => none
  | _, _ => none
def sPut (fo fi f : D) : SD := fun ρ S => (f ρ S).toS ρ fun x S1 => (fo ρ S1).toS ρ fun o S2 => (fi ρ S2).toS ρ fun i S3 => match setAt o i x S3 with
  | some S4 => .next ρ S4
  | none => .stuck
/-- a for's body, its outcome -/
def SRes.turn (r : SRes) (k : Env → Store → SRes) : SRes := match r with
  | .next ρ S => k ρ S
  | .cont ρ S => k ρ S
  | .brk ρ S => .next ρ S
  | r => r
/-- over values that stand still (a range, a tuple) -/
def loopV0 (t : TgD) (b : SD) : List Val → SD
  | [], ρ, S => .next ρ S
  | x :: xs, ρ, S => match t x ρ with
    | none => .stuck
    | some ρ1 => (b ρ1 S).turn (loopV0 t b xs)
@[irreducible] def loopV (t : TgD) (b : SD) : List Val → SD := loopV0 t b
theorem loopV_nil {t : TgD} {b : SD} {ρ : Env} {S : Store} : loopV t b [] ρ S = .next ρ S := by unfold loopV; rfl
theorem loopV_cons {t : TgD} {b : SD} {x : Val} {xs : List Val} {ρ : Env} {S : Store} : loopV t b (x :: xs) ρ S = match t x ρ with
    | none => .stuck
    | some ρ1 => (b ρ1 S).turn (loopV t b xs) := by unfold loopV; rfl
def Cell.items : Cell → List Val
  | .lst xs => xs
/-- over a list at n: i turns have been, at most m are left -/
def loopC (n : Nat) (t : TgD) (b : SD) : Nat → Nat → SD
  | 0, i, ρ, S => match S[n]? with
    | some c => if c.items.length ≤ i then .next ρ S else .stuck
    | none => .stuck
  | m + 1, i, ρ, S => match S[n]? with
    | some c => match c.items[i]? with
      | none => .next ρ S
      | some x => match t x ρ with
        | none => .stuck
        | some ρ1 => (b ρ1 S).turn (loopC n t b m (i + 1))
    | none => .stuck
def sForC (f : D) (t : TgD) (b : SD) : SD := fun ρ S => (f ρ S).toS ρ fun x S1 => match x with
  | .ref n => match S1[n]? with
    | some c => loopC n t b c.items.length 0 ρ S1
    | none => .stuck
  | _ => .stuck
def sForT (f : D) (t : TgD) (b : SD) : SD := fun ρ S => (f ρ S).toS ρ fun x S1 => match x with
  | .tup xs => loopV t b xs ρ S1
  | _ => .stuck
def rangeV (lo : Int) (n : Nat) : List Val := (List.range n).map fun (i : Nat) => Val.int (lo + (i : Int))
def sForR (g : DA) (t : TgD) (b : SD) : SD := fun ρ S => (g ρ S).toS ρ fun xs S1 => match xs with
  | [.int j] => if -(2 ^ 62) ≤ j ∧ j < 2 ^ 62 then loopV t b (rangeV 0 j.toNat) ρ S1 else .stuck
  | _ => .stuck

section
variable {X : Cx} {cv : Nat → Value} {W : WX} {e a b c o : Expr} {st : Stmt} {es rest : List Expr} {sts as bs : List Stmt} {pos pos' : Pos}
theorem ps_nil' : PSs X [] (TSD (Gm X cv) W sNext) := pss_nil.imp fun D σ H ⟨ι, ρ, S, hs, hh, q⟩ => q.next hh hs
theorem ps_cons' {f g : SD} (h1 : PS X st (TSD (Gm X cv) W f)) (h2 : PSs X sts (TSD (Gm X cv) W g)) : PSs X (st :: sts) (TSD (Gm X cv) W (sSeq f g)) :=
  (pss_cons h1 h2).imp fun D σ H ⟨ι, ρ, S, hs, hh, q⟩ => ⟨ι, ρ, S, hs, hh, FinS.seq q⟩
theorem ps_one' {f : SD} (h1 : PS X st (TSD (Gm X cv) W f)) : PSs X [st] (TSD (Gm X cv) W f) := pss_one h1
theorem ps_pass' : PS X (.Pass pos) (TSD (Gm X cv) W sNext) := ps_pass.imp fun D σ H ⟨ι, ρ, S, hs, hh, q⟩ => q.next hh hs
theorem ps_if' {t : DT} {f g : SD} (hc : PT X c (TDT (Gm X cv) W t)) (ha : PSs X as (TSD (Gm X cv) W f)) (hb : PSs X bs (TSD (Gm X cv) W g)) : PS X (.If c as bs pos) (TSD (Gm X cv) W (sIf t f g)) :=
  (ps_if hc ha hb).imp fun D σ H ⟨ι, ρ, S, hs, hh, q⟩ => by
    refine ⟨ι, ρ, S, hs, hh, FinS.bind (R := fun _ _ => Eq) q hs fun x S1 ι1 H1 u e1 h1 r1 q1 => ?_⟩
    cases r1
    cases x with
    | true => exact ⟨ι1, ρ, S1, hs.ext e1, h1, q1⟩
    | false => exact ⟨ι1, ρ, S1, hs.ext e1, h1, q1⟩
theorem ps_ret' {f : D} (h : PE X e (TD (Gm X cv) W f)) : PS X (.Return (some e) pos) (TSD (Gm X cv) W (sRet f)) :=
  (ps_ret h).imp fun D σ H ⟨ι, ρ, S, hs, hh, q⟩ => ⟨ι, ρ, S, hs, hh, FinS.bind q hs fun x S1 ι1 H1 u e1 h1 r1 q1 => q1 ι1 H1 u .refl h1 r1⟩
theorem ps_retN' : PS X (.Return none pos) (TSD (Gm X cv) W sRetN) := ps_retN.imp fun D σ H ⟨ι, ρ, S, hs, hh, q⟩ => q ι H .non .refl hh .non
theorem ps_expr' {f : D} (h : PE X e (TD (Gm X cv) W f)) (hs : swapsWith e none pos.line X.env = pure false := by rfl) : PS X (.Expr e pos) (TSD (Gm X cv) W (sDrop f)) :=
  (ps_expr h hs).imp fun D σ H ⟨ι, ρ, S, hs, hh, q⟩ => ⟨ι, ρ, S, hs, hh, FinS.bind q hs fun x S1 ι1 H1 u e1 h1 r1 q1 => q1.next h1 (hs.ext e1)⟩
theorem ps_set' {i : Nat} {x : Str} {f : D} (hN : X.N.Nodup) (hi : X.N[i]? = some x) (hx : Loc X.env.scope x) (he : PE X e (TD (Gm X cv) W f)) (hs : swapsWith e (some (.Name x pos')) pos.line X.env = pure false := by rfl)
    (hf : X.fn x = true ∨ X.env.scope.names.lookup x = some .local := by first | exact .inl rfl | exact .inr rfl | assumption) : PS X (.Assign [.Name x pos'] e pos) (TSD (Gm X cv) W (sSet i f)) :=
  (ps_set hN hi hx he hs hf).imp fun D σ H ⟨ι, ρ, S, hs, hh, q⟩ => ⟨ι, ρ, S, hs, hh, FinS.bind q hs fun x S1 ι1 H1 u e1 h1 r1 q1 => q1.next h1 ((hs.ext e1).set r1 i)⟩
/-- a target does as it says -/
def TgOk (K : PySem.W.Frag) (g : TG) (t : TgD) : Prop := ∀ (ι : List Addr) (H : Hp) (ρ ρ' : Env) (σ : L2.St) (x : Val) (v : V) (Q : L2.St → Hp → Prop),
  RS K ι H ρ σ → RV K ι H x v → t x ρ = some ρ' → (∀ σ', RS K ι H ρ' σ' → Q σ' H) → g v σ H Q
def TgsOk (K : PySem.W.Frag) (g : TGs) (ts : List TgD) : Prop := ∀ (ι : List Addr) (H : Hp) (ρ ρ' : Env) (σ : L2.St) (xs : List Val) (vs : List V) (Q : L2.St → Hp → Prop),
  RS K ι H ρ σ → RVs K ι H xs vs → gTs ts xs ρ = some ρ' → (∀ σ', RS K ι H ρ' σ' → Q σ' H) → g vs σ H Q
theorem tg_name (K : PySem.W.Frag) (i : Nat) : TgOk K (gName i) (gN i) := fun ι H ρ ρ' σ x v Q hs r e h => by
  cases e
  exact h _ (hs.set r i)
theorem tgs_nil (K : PySem.W.Frag) : TgsOk K gNil [] := fun ι H ρ ρ' σ xs vs Q hs r e h => by
  cases r with
  | nil => cases e; exact ⟨rfl, h _ hs⟩
  | cons _ _ => cases e
theorem tgs_cons {K : PySem.W.Frag} {g : TG} {gs : TGs} {t : TgD} {ts : List TgD} (h1 : TgOk K g t) (h2 : TgsOk K gs ts) : TgsOk K (gCons g gs) (t :: ts) := fun ι H ρ ρ' σ xs vs Q hs r e h => by
  cases r with
  | nil => cases e
  | cons r rr =>
    rename_i x v xs vs
    have e' : (t x ρ).bind (fun ρ' => gTs ts xs ρ') = some ρ' := e
    cases q : t x ρ with
    | none => rw [q] at e'; cases e'
    | some ρ1 =>
      rw [q] at e'
      exact ⟨v, vs, rfl, h1 ι H ρ ρ1 σ x v _ hs r q fun σ1 hs1 => h2 ι H ρ1 ρ' σ1 xs vs Q hs1 rr e' h⟩
theorem gTs_length : ∀ {ts : List TgD} {xs : List Val} {ρ ρ' : Env}, gTs ts xs ρ = some ρ' → xs.length = ts.length
  | [], [], _, _, _ => rfl
  | [], _ :: _, _, _, h => nomatch h
  | _ :: _, [], _, _, h => nomatch h
  | t :: ts, x :: xs, ρ, ρ', h => by
    have e' : (t x ρ).bind (fun ρ' => gTs ts xs ρ') = some ρ' := h
    cases q : t x ρ with
    | none => rw [q] at e'; cases e'
    | some ρ1 =>
      rw [q] at e'
      rw [List.length_cons, List.length_cons, gTs_length (show gTs ts xs ρ1 = some ρ' from e')]
theorem tg_tup {K : PySem.W.Frag} {gs : TGs} {ts : List TgD} {n : Nat} (h : TgsOk K gs ts) (hn : ts.length = n) : TgOk K (gTup K n gs) (gT ts) := fun ι H ρ ρ' σ x v Q hs r e hq => by
  cases r with
  | tup ha rr => exact ⟨_, _, rfl, ha, by rw [← rr.length, ← hn]; exact gTs_length e, h ι H ρ ρ' σ _ _ Q hs rr e hq⟩
  | _ => cases e
theorem ps_asg' {tg : Expr} {f : D} {g : TG} {t : TgD} (he : PE X e (TD (Gm X cv) W f)) (hg : PG X tg g) (ht : TgOk X.K g t) (hs : swapsWithSole [tg] e pos.line X.env = pure false := by rfl) (hw : swappedStores [tg] e X.env = pure none := by rfl)
    (h1 : (assignEach [tg] X.env).map (·.2) = [assign tg X.env] := by rfl) : PS X (.Assign [tg] e pos) (TSD (Gm X cv) W (sAsg t f)) :=
  (ps_asg he hg hs hw h1).imp fun D σ H ⟨ι, ρ, S, hs, hh, q⟩ => ⟨ι, ρ, S, hs, hh, FinS.bind q hs fun x S1 ι1 H1 u e1 h1 r1 q1 => by
    split at q1
    · rename_i ρ' e2
      exact ht ι1 H1 ρ ρ' σ x u _ (hs.ext e1) r1 e2 fun σ' hs' => q1.next h1 hs'
    · exact q1.elim⟩
theorem ps_par' {i j : Nat} {x y : Str} {g : DA} {px py pt : Pos} {kt k2 pt2} (hc : X.calm = true) (hN : X.N.Nodup) (hi : X.N[i]? = some x) (hj : X.N[j]? = some y) (hij : i ≠ j)
    (hx : X.env.scope.names.lookup x = some .local) (hy : X.env.scope.names.lookup y = some .local) (ha : PA X [a, b] (TDA (Gm X cv) W g))
    (hw : swappedStores [.Tuple [.Name x px, .Name y py] kt pt] (.Tuple [a, b] k2 pt2) X.env = pure (some [x, y]))
    (hs : swapsWithSole [.Tuple [.Name x px, .Name y py] kt pt] (.Tuple [a, b] k2 pt2) pos.line X.env = pure false := by rfl) :
    PS X (.Assign [.Tuple [.Name x px, .Name y py] kt pt] (.Tuple [a, b] k2 pt2) pos) (TSD (Gm X cv) W (sPar i j g)) :=
  (ps_par hc hN hi hj hij hx hy ha hw hs).imp fun D σ H ⟨ι, ρ, S, hs, hh, q⟩ => ⟨ι, ρ, S, hs, hh, FinS.bind q hs fun xs S1 ι1 H1 us e1 h1 r1 q1 => by
    cases r1 with
    | nil => exact q1.elim
    | cons ra r1 =>
      cases r1 with
      | nil => exact q1.elim
      | cons rb r1 =>
        cases r1 with
        | nil => exact ⟨_, _, rfl, q1.next h1 (((hs.ext e1).set ra i).set rb j)⟩
        | cons _ _ => exact q1.elim⟩
theorem ps_put' {o i : Expr} {fo fi f : D} (he : PE X e (TD (Gm X cv) W f)) (ho : PE X o (TD (Gm X cv) W fo)) (hi : PE X i (TD (Gm X cv) W fi))
    (hs : swapsWithSole [.Subscript o i pos'] e pos.line X.env = pure false := by rfl) (hw : swappedStores [.Subscript o i pos'] e X.env = pure none := by rfl) (h1 : (assignEach [.Subscript o i pos'] X.env).map (·.2) = [assign (.Subscript o i pos') X.env] := by rfl)
    (ha : ∀ v, assign (.Subscript o i pos') X.env v = (do
      let ov ← holding [v] (eval o X.env)
      let iv ← holding [v, ov] (eval i X.env)
      standAt pos'
      holding [v, ov, iv] (setItem ov iv v)
      release [v, ov, iv] []) := by intro _; rfl) : PS X (.Assign [.Subscript o i pos'] e pos) (TSD (Gm X cv) W (sPut fo fi f)) :=
  (ps_asg he (pg_sub ho hi set_list ha) hs hw h1).imp fun D σ H ⟨ι, ρ, S, hs, hh, q⟩ => by
    refine ⟨ι, ρ, S, hs, hh, FinS.bind q hs fun x S1 ι1 H1 u e1 h1 r1 q1 => ?_⟩
    refine ⟨ι1, ρ, S1, hs.ext e1, h1, FinS.bind q1 (hs.ext e1) fun y S2 ι2 H2 v e2 h2 r2 q2 => ?_⟩
    refine ⟨ι2, ρ, S2, (hs.ext e1).ext e2, h2, FinS.bind q2 ((hs.ext e1).ext e2) fun z S3 ι3 H3 w e3 h3 r3 q3 => ?_⟩
    have r1' := (r1.ext e2).ext e3
    have r2' := r2.ext e3
    unfold setAt at q3
    split at q3
    · rename_i S4 e4
      split at e4
      · rename_i n k
        split at e4
        · rename_i xs e5
          split at e4
          · rename_i j e6
            cases e4
            cases r2' with
            | ref hn =>
              cases r3
              obtain ⟨vs, rv, hv⟩ := h3.ok _ _ _ hn e5
              refine ⟨_, vs, k, j, rfl, rfl, hv, by rw [← rv.length]; exact e6, ?_⟩
              have ew := Ext.write (ws := vs.set j u) hn hv
              exact q3 _ _ _ ew (h3.write hn e5 hv (RVs.set r1' j rv)) ((((hs.ext e1).ext e2).ext e3).ext ew)
          · cases e4
        · cases e4
      · cases e4
    · exact q3.elim
/-! ### for -/
theorem CellOk.sq {K : PySem.W.Frag} {ι : List Addr} {H : Hp} {a : Addr} {c : Cell} (h : CellOk K ι H a c) : ∃ vs, RVs K ι H c.items vs ∧ SqL K H a vs := by
  cases c with
  | lst xs => obtain ⟨vs, r, q⟩ := h; exact ⟨vs, r, SqL.of q⟩
theorem sqL_item {K : PySem.W.Frag} {H : Hp} {a : Addr} {vs : List V} {i : Nat} {x : V} (h : SqL K H a vs) (q : ∀ xs, SqL K H a xs → xs[i]? = some x) : vs[i]? = some x := q vs h
/-- what is wanted behind a turn -/
theorem turn_end {Γ : Cfg} {W : WX} {ι : List Addr} {H : Hp} {D : Ends} {N : L2.St → Hp → Prop} {r : SRes} {k : Env → Store → SRes} (h : FinS Γ W ι H D (r.turn k))
    (hk : ∀ ι1 H1 ρ σ S, Ext ι H ι1 H1 → RH Γ.K ι1 H1 S → RS Γ.K ι1 H1 ρ σ → FinS Γ W ι1 H1 D (k ρ S) → N σ H1) : FinS Γ W ι H { D with nx := N, ct := N, bk := D.nx } r := by
  cases r with
  | next ρ S => exact fun ι1 H1 σ1 e a b => hk ι1 H1 ρ σ1 S e a b (FinS.weak e h)
  | cont ρ S => exact fun ι1 H1 σ1 e a b => hk ι1 H1 ρ σ1 S e a b (FinS.weak e h)
  | brk ρ S => exact h
  | ret x S => exact h
  | exc x ρ S => exact h
  | stuck => exact h
theorem ps_forC' {tg iter : Expr} {f : D} {g : TG} {t : TgD} {bd : SD} (hp : PassesOwn (model X.prog X.w) X.A X.env X.xe) (hc : X.calm = true) (he : PE X iter (TD (Gm X cv) W f)) (hg : PG X tg g) (ht : TgOk X.K g t) (hb : PSs X bs (TSD (Gm X cv) W bd)) (hfs : ∀ v, foldedSetIterable iter X.env v = pure v := by intro _; rfl) :
    PS X (.For tg iter bs [] pos) (TSD (Gm X cv) W (sForC f t bd)) :=
  (ps_for hp hc (pi_list he) hg hb hfs).imp fun D σ H ⟨ι, ρ, S, hs, hh, q⟩ => by
    refine ⟨ι, ρ, S, hs, hh, FinS.bind q hs fun x S1 ι1 H1 u e1 h1 r1 q1 => ?_⟩
    cases r1 with
    | ref hn =>
      rename_i n a
      have q1 : FinS (Gm X cv) W ι1 H1 D (match S1[n]? with | some c => loopC n t bd c.items.length 0 ρ S1 | none => .stuck) := q1
      split at q1
      · · rename_i c ec
          obtain ⟨vs, rv, hq⟩ := (h1.ok _ _ _ hn ec).sq
          refine ⟨a, rfl, ⟨vs, hq⟩, fun i m σ H => ∃ ι ρ S, RS X.K ι H ρ σ ∧ RH X.K ι H S ∧ ι[n]? = some a ∧ FinS (Gm X cv) W ι H D (loopC n t bd m i ρ S), ⟨_, ι1, ρ, S1, hs.ext e1, h1, hn, q1⟩, fun i m σ' H' ⟨ι', ρ', S', hs', hh', hn', q'⟩ => ?_⟩
          have stop : ∀ c, S'[n]? = some c → c.items.length ≤ i → FinS (Gm X cv) W ι' H' D (.next ρ' S') → (Itl X.K a).stop i H' ∧ D.nx σ' H' := fun c ec' hl q => by
            obtain ⟨vs', rv', hq'⟩ := (hh'.ok _ _ _ hn' ec').sq
            exact ⟨⟨vs', hq', by rw [← rv'.length]; exact hl⟩, q.next hh' hs'⟩
          cases m with
          | zero =>
            unfold loopC at q'
            split at q'
            · rename_i c' ec'
              split at q'
              · rename_i hl
                exact .inl (stop c' ec' hl q')
              · exact q'.elim
            · exact q'.elim
          | succ m =>
            unfold loopC at q'
            split at q'
            · rename_i c' ec'
              split at q'
              · rename_i en
                exact .inl (stop c' ec' (List.getElem?_eq_none_iff.mp en) q')
              · rename_i x' ex
                obtain ⟨vs', rv', hq'⟩ := (hh'.ok _ _ _ hn' ec').sq
                obtain ⟨v', ev', rx'⟩ := rv'.get ex
                split at q'
                · exact q'.elim
                · rename_i ρ1 eρ
                  refine .inr ⟨⟨vs', v', hq', ev'⟩, fun σ H => ∃ ι ρ S, RS X.K ι H ρ σ ∧ RH X.K ι H S ∧ ι[n]? = some a ∧ FinS (Gm X cv) W ι H D (loopC n t bd m (i + 1) ρ S), fun σ2 H2 h2 => ⟨m, Nat.lt_succ_self m, h2⟩, fun y H2 hy => ?_⟩
                  obtain ⟨rfl, hy⟩ := hy
                  have ey := hy vs' hq'
                  rw [ev'] at ey; cases ey
                  refine ht ι' H2 ρ' ρ1 σ' x' v' _ hs' rx' eρ fun σ2 hs2 => ?_
                  refine ⟨ι', ρ1, S', hs2, hh', turn_end q' fun ι3 H3 ρ3 σ3 S3 e3 a3 b3 c3 => ?_⟩
                  exact ⟨ι3, ρ3, S3, b3, a3, e3.get hn', c3⟩
            · exact q'.elim
      · exact q1.elim
    | _ => exact q1.elim
/-- over values that stand still, given what the turns hand out -/
theorem for_vals {D : Ends} {g : TG} {t : TgD} {bd : SD} {J : It} (ht : TgOk X.K g t) (hb : True) {ι : List Addr} {H : Hp} {ρ : Env} {σ : L2.St} {S : Store} (xs : List Val) (Ok : List Addr → Hp → Prop) (hok : ∀ ι H ι' H', Ok ι H → Ext ι H ι' H' → Ok ι' H')
    (hstop : ∀ ι H, Ok ι H → J.stop xs.length H) (hgo : ∀ ι H i, Ok ι H → i < xs.length → J.go i H) (hy : ∀ ι H i y H', Ok ι H → i < xs.length → J.yld i H y H' → H' = H ∧ ∃ x, xs[i]? = some x ∧ RV X.K ι H x y)
    (hs : RS X.K ι H ρ σ) (hh : RH X.K ι H S) (h0 : Ok ι H) (q : FinS (Gm X cv) W ι H D (loopV t bd xs ρ S)) :
    ∃ W' : Nat → Nat → L2.St → Hp → Prop, (∃ m, W' 0 m σ H) ∧ ∀ i m σ H, W' i m σ H →
      (J.stop i H ∧ D.nx σ H) ∨ (J.go i H ∧ ∃ N : L2.St → Hp → Prop, (∀ σ' H', N σ' H' → ∃ m', m' < m ∧ W' (i + 1) m' σ' H') ∧ ∀ x H', J.yld i H x H' → g x σ H' fun σ2 H2 => TSD (Gm X cv) W bd { D with nx := N, ct := N, bk := D.nx } σ2 H2) := by
  refine ⟨fun i m σ H => i + m = xs.length ∧ ∃ ι ρ S, RS X.K ι H ρ σ ∧ RH X.K ι H S ∧ Ok ι H ∧ FinS (Gm X cv) W ι H D (loopV t bd (xs.drop i) ρ S), ⟨xs.length, Nat.zero_add _, ι, ρ, S, hs, hh, h0, q⟩, fun i m σ' H' ⟨hm, ι', ρ', S', hs', hh', h0', q'⟩ => ?_⟩
  cases m with
  | zero =>
    have : i = xs.length := by omega
    subst this
    rw [List.drop_length, loopV_nil] at q'
    exact .inl ⟨hstop ι' H' h0', q'.next hh' hs'⟩
  | succ m =>
    have hi : i < xs.length := by omega
    rw [List.drop_eq_getElem_cons hi, loopV_cons] at q'
    split at q'
    · exact q'.elim
    · rename_i ρ1 eρ
      refine .inr ⟨hgo ι' H' i h0' hi, fun σ H => ∃ ι ρ S, RS X.K ι H ρ σ ∧ RH X.K ι H S ∧ Ok ι H ∧ FinS (Gm X cv) W ι H D (loopV t bd (xs.drop (i + 1)) ρ S), fun σ2 H2 h2 => ⟨m, Nat.lt_succ_self m, by omega, h2⟩, fun y H2 hyd => ?_⟩
      obtain ⟨rfl, x, ex, rx⟩ := hy ι' H' i y H2 h0' hi hyd
      rw [List.getElem?_eq_getElem hi] at ex
      cases ex
      refine ht ι' H2 ρ' ρ1 σ' _ y _ hs' rx eρ fun σ2 hs2 => ?_
      refine ⟨ι', ρ1, S', hs2, hh', turn_end q' fun ι3 H3 ρ3 σ3 S3 e3 a3 b3 c3 => ?_⟩
      exact ⟨ι3, ρ3, S3, b3, a3, hok _ _ _ _ h0' e3, c3⟩
theorem rangeV_get {lo : Int} {n i : Nat} (h : i < n) : (rangeV lo n)[i]? = some (.int (lo + i)) := by
  unfold rangeV
  rw [List.getElem?_map, List.getElem?_range h]; rfl
theorem rangeV_length (lo : Int) (n : Nat) : (rangeV lo n).length = n := by simp [rangeV]
theorem ps_forR' {tg : Expr} {f : DA} {g : TG} {t : TgD} {bd : SD} {a : Expr} {p pos2 : Pos} (hp : PassesOwn (model X.prog X.w) X.A X.env X.xe) (hc : X.calm = true) (hgl : Gl X "range") (hm : X.mg "range" = none) (he : PA X [a] (TDA (Gm X cv) W f)) (hg : PG X tg g) (ht : TgOk X.K g t) (hb : PSs X bs (TSD (Gm X cv) W bd))
    (hs : starEach [a] X.env = [(false, eval a X.env)] := by rfl) :
    PS X (.For tg (.Call (.Name "range" p) [a] [] pos2) bs [] pos) (TSD (Gm X cv) W (sForR f t bd)) :=
  (ps_for hp hc (pi_range1 hgl hm he hs) hg hb).imp fun D σ H ⟨ι, ρ, S, hs, hh, q⟩ => by
    refine ⟨ι, ρ, S, hs, hh, FinS.bind q hs fun xs S1 ι1 H1 us e1 h1 r1 q1 => ?_⟩
    split at q1
    · rename_i j
      split at q1
      · rename_i hj
        cases r1 with
        | cons r1 r2 =>
          cases r1; cases r2
          refine ⟨j, rfl, hj.1, hj.2, ?_⟩
          refine for_vals ht trivial (rangeV 0 j.toNat) (fun _ _ => True) (fun _ _ _ _ _ _ => trivial) (fun _ _ _ => ?_) (fun _ _ i _ hi => ?_) (fun ι H i y H' _ hi hy => ?_) (hs.ext e1) h1 trivial q1
          · show j.toNat ≤ _; rw [rangeV_length]; exact Nat.le_refl _
          · rw [rangeV_length] at hi; exact hi
          · obtain ⟨rfl, rfl⟩ := hy
            rw [rangeV_length] at hi
            exact ⟨rfl, _, rangeV_get hi, .int _⟩
      · exact q1.elim
    · exact q1.elim
end
end PD

/-! ## PDCall -/
set_option Elab.async false
set_option linter.all false
set_option maxRecDepth 100000
set_option maxHeartbeats 2000000
namespace PD
open PySem PySem.Spec L2

/-! ### defs -/
def fnOf (n m : Nat) (b : SD) : Fn := fun xs S => if xs.length = n then (match b (xs.map some ++ List.replicate (m - n) none) S with
  | .ret v S' => .ok v S'
  | .next _ S' => .ok .non S'
  | .exc e _ S' => .exc e S'
  | _ => .stuck) else .stuck
def stuckF : Fn := fun _ _ => .stuck
def SpecOf (Γ : Cfg) (F : Fn) : Sp := fun vs H Q E => ∃ ι ds S, RVs Γ.K ι H ds vs ∧ RH Γ.K ι H S ∧ FinG Γ (RV Γ.K) E ι H Q (F ds S)
section
variable {P : Program} {w : World} {K : PySem.W.Frag} {mg : Str → Option Value} {base : Heap} {cv : Nat → Value} {f : Addr} {fd : FuncData} {ps : List Str}
/-- a def that keeps its promise wherever no repr of a container is under way -/
structure FnG (P : Program) (w : World) (K : PySem.W.Frag) (mg : Str → Option Value) (base : Heap) (k : Nat) (f : Addr) (fd : FuncData) (ps : List Str) (sp : Sp) : Prop where
  len : ∀ vs H Q E, sp vs H Q E → vs.length = ps.length
  go : ∀ (A : Around) (outer : List PySem.Env) (s : Shared) (H : Hp) (args : Args) (us : List Value) (vs : List V) (Q : VK) (E : XK), A.guards = some [] → Room k A → Env0 P w K mg base A outer s H →
    BindsTo s fd args (ps.zip us) → Vals vs us → sp vs H Q E → codeAny (model P w) A (.call (.ref f) args) (CR (L2.CX P w) outer P w H s Q E) s
theorem FnG.mono {j k : Nat} {sp : Sp} (F : FnG P w K mg base j f fd ps sp) (h : j ≤ k) : FnG P w K mg base k f fd ps sp :=
  ⟨F.len, fun A outer s H args us vs Q E hg hr => F.go A outer s H args us vs Q E hg (hr.mono h)⟩
theorem fn_zero (k : Nat) : FnG P w K mg base k f fd ps (SpecOf ⟨K, cv⟩ stuckF) :=
  ⟨fun _ _ _ _ ⟨_, _, _, _, _, z⟩ => z.elim, fun _ _ _ _ _ _ _ _ _ _ _ _ _ _ ⟨_, _, _, _, _, z⟩ => z.elim⟩
theorem start_rs {ι : List Addr} {H : Hp} {ds : List Val} {vs : List V} {N : List Str} (r : RVs K ι H ds vs) : RS K ι H (ds.map some ++ List.replicate (N.length - ds.length) none) (L2.start N vs) := by
  unfold L2.start
  rw [r.length]
  refine ⟨by simp [r.length], fun i x e => ?_⟩
  by_cases h : i < ds.length
  · rw [List.getElem?_append_left (by simpa using h), List.getElem?_map] at e
    rw [List.getElem?_append_left (by rw [List.length_map, ← r.length]; exact h), List.getElem?_map]
    cases q : ds[i]? with
    | none => rw [q] at e; cases e
    | some y =>
      rw [q] at e; cases e
      obtain ⟨v, a, b⟩ := r.get q
      exact ⟨v, by rw [a]; rfl, b⟩
  · rw [List.getElem?_append_right (by simp; omega), List.getElem?_replicate] at e
    split at e <;> cases e
/-- THE RULE of a def: its body's denotation -/
theorem fn_den {x qual : Str} {st : Stmt} {N : List Str} {k : Nat} {body : SD} (F : Fun K x qual st f fd) (S : FnScope N ps (defScope st))
    (hder : ∀ (cdv : Value) (A : Around) (outer : List PySem.Env) (s : Shared) (H : Hp) (E : XK), A.guards = some [] → Room k (A.deeper (PyProof.Rows.envOfC qual (defScope st) s.heap.objs.size f cdv)) →
      Takes (cxOf (L2.CX P w) P w K mg base N qual (defScope st) f cdv A outer s H E) (fun c d _ H => E c d H) →
      PassesOwn (model P w) (cxOf (L2.CX P w) P w K mg base N qual (defScope st) f cdv A outer s H E).A (cxOf (L2.CX P w) P w K mg base N qual (defScope st) f cdv A outer s H E).env (cxOf (L2.CX P w) P w K mg base N qual (defScope st) f cdv A outer s H E).xe →
      PSs (cxOf (L2.CX P w) P w K mg base N qual (defScope st) f cdv A outer s H E) (defBody st) (TSD ⟨K, cv⟩ (fun c d _ H => E c d H) body)) :
    FnG P w K mg base (k + 1) f fd ps (SpecOf ⟨K, cv⟩ (fnOf ps.length N.length body)) := by
  obtain ⟨oc, od, kV, doc, pm, an, cdv, ct, osl, hfd, lk, hcd⟩ := F.ex
  have leng : ∀ vs H Q E, SpecOf ⟨K, cv⟩ (fnOf ps.length N.length body) vs H Q E → vs.length = ps.length := fun vs H Q E h => by
    obtain ⟨ι, ds, S, r, _, q⟩ := h
    unfold fnOf at q
    split at q
    · rename_i e; rw [← r.length]; exact e
    · exact q.elim
  refine ⟨leng, fun A outer s H args us vs Q E hg hr e0 hb rv hsp => ?_⟩
  subst hfd
  have kk : ∀ b o, base.get? b = some o → s.heap.get? b = some o := fun b o e => (e0.bs b o e).1
  have KX : K.In s.heap := e0.mod.kin.keeps kk
  have kinds : ∀ y ∈ ps.zip us, (defScope st).names.lookup y.1 = some .local ∨ ((defScope st).names.lookup y.1 = some .cell ∧ ((cellsFrom (s.heap.objs.size + 1) (defScope st).names []).lookup y.1).isSome = true) := by
    rintro ⟨n, v⟩ hy
    exact (S.par n (List.of_mem_zip hy).1).elim .inl fun q => .inr ⟨q, PySem.W.cellsFrom_some _ _ _ (.inl q)⟩
  refine codeAny_call_function hr.depth (KX _ _ lk) rfl S.co S.gen rfl (PySem.W.codeRec_of KX hcd) (hb _ _ _ _ ?_)
  refine wpAny_newFunctionEnv_cells S.kind kinds fun env henv s1 hin => ?_
  subst henv
  refine ⟨(e0.mod.nolimit.keeps kk).keeps hin.toInCall.keep, codeAny_func ?_⟩
  have I0 := inv_start (CX := L2.CX P w) (mg := mg) (E := E) S hr.hd e0 (leng _ _ _ _ hsp) rv hin
  refine wpAny_mono ((hder cdv A outer s H E hg (hr.deeper _) (takes_of rfl rfl rfl rfl) (passes_of (X := cxOf (L2.CX P w) P w K mg base N qual (defScope st) f cdv A outer s H E) rfl)).run [] s1 (L2.start N vs) H { nx := fun _ H' => Q .non H', rt := Q } I0 ?_) (fun fl s2 hs => ?_) fun e s2 hx => hx
  · obtain ⟨ι, ds, S, r, hh, q⟩ := hsp
    unfold fnOf at q
    split at q
    · rename_i el
      refine ⟨ι, ds.map some ++ List.replicate (N.length - ds.length) none, S, start_rs r, hh, ?_⟩
      rw [el]
      revert q
      cases body (ds.map some ++ List.replicate (N.length - ps.length) none) S with
      | ret v S' => exact fun q ι' H' u a b c => q ι' H' u a b c
      | next ρ S' => exact fun q ι' H' u a b c => q ι' H' .non a b .non
      | exc e ρ S' => exact fun q ι' H' u d a b c e' => q ι' H' d a b e'
      | brk ρ S' => exact fun q => q.elim
      | cont ρ S' => exact fun q => q.elim
      | stuck => exact fun q => q.elim
    · exact q.elim
  · cases fl with
    | ret u =>
      obtain ⟨v, σ2, H2, J, ru, q⟩ := hs
      exact ⟨v, H2, J.os, J.bare, J.base, J.hok, ru, q⟩
    | next =>
      obtain ⟨σ2, H2, J, q⟩ := hs
      exact ⟨.non, H2, J.os, J.bare, J.base, J.hok, rfl, q⟩
    | brk => exact hs.elim fun _ h => h.elim fun _ h => h.2.elim
    | cont => exact hs.elim fun _ h => h.elim fun _ h => h.2.elim
end
section
variable {X : Cx} {cv : Nat → Value} {W : WX} {e a b c o : Expr} {st : Stmt} {es rest : List Expr} {sts as bs : List Stmt} {pos pos' p : Pos}
variable {k : Nat} {f : Addr} {fd : FuncData} {ps : List Str} {x : Str}
/-- the callee runs -/
theorem run_g {F : Fn} {pins : List (Addr × Obj)} {σ : L2.St} {H : Hp} {s : Shared} {Q : VK} {args : Args} {us : List Value} {vs : List V} (G : FnG X.prog X.w X.K X.mg X.base k f fd ps (SpecOf ⟨X.K, cv⟩ F)) (hgd : X.A.guards = some []) (hr : Room k X.A) (tk : Takes X W)
    (I : Inv X pins σ H s) (hb : BindsTo s fd args (ps.zip us)) (r : Vals vs us) (h : SpecOf ⟨X.K, cv⟩ F vs H Q (WE W σ)) : codeAny (model X.prog X.w) X.A (.call (.ref f) args) (fun res s' => match res with
      | .ok (.ret u) => EP X pins σ Q u s'
      | .ok _ => False
      | .error e => X.xe e s') s := by
  refine codeAny_mono (G.go X.A X.stack s H args us vs Q (WE W σ) hgd hr I.env0 hb r h) fun res s' hq => ?_
  rcases res with e | fl
  · exact passAt tk σ pins H s e s' I hq
  · cases fl with
    | ret u => exact I.after hq
    | _ => exact hq.elim
theorem ep_call {pins : List (Addr × Obj)} {σ : L2.St} {s : Shared} {Q : VK} {us : List Value} {kws : List (Str × Value)} (h : codeAny (model X.prog X.w) X.A (.call (.ref f) ⟨us, kws⟩) (fun res s' => match res with
      | .ok (.ret u) => EP X pins σ Q u s'
      | .ok _ => False
      | .error e => X.xe e s') s) : wpAny (model X.prog X.w) X.A (call (.ref f) us kws) (EP X pins σ Q) X.xe s := by
  refine wpAny_call (codeAny_mono h fun res s' hq => ?_)
  rcases res with e | fl
  · exact hq
  · cases fl with
    | ret u => exact hq
    | _ => exact hq.elim
/-- f(e, ..) -/
theorem pd_call {F : Fn} {g : DA} (G : FnG X.prog X.w X.K X.mg X.base k f fd ps (SpecOf ⟨X.K, cv⟩ F)) (hgd : X.A.guards = some []) (hr : Room k X.A) (hg : Gl X x) (hm : X.mg x = some (.ref f)) (hk : PySem.W.keepIn X.K (.ref f) = true) (hb : Binds X.K fd ps []) (tk : Takes X W)
    (ha : PA X (e :: es) (TDA (Gm X cv) W g)) (hdb : (x == ("__debug__" : Str)) = false := by decide) (he : starEach (e :: es) X.env = (false, eval e X.env) :: starEach es X.env := by rfl) (hpl : (backTo pos (starEach es X.env)).any (·.1) = false := by rfl) :
    PE X (.Call (.Name x p) (e :: es) [] pos) (TD (Gm X cv) W (dCall F g)) := by
  refine ⟨fun pins s σ H Q I h => ?_⟩
  obtain ⟨ι, ρ, S, hs, hh, q⟩ := h
  refine wpAny_Call_Name_kw (ld_glob I hg hm ?_ hdb)
  refine PySem.W.callWith_K (h₀ := X.base) I.ok.mod.kin hk (thn (ha.run pos pins s σ H (fun us H1 => SpecOf ⟨X.K, cv⟩ F us H1 Q (WE W σ)) I ⟨ι, ρ, S, hs, hh, FinG.bind q fun xs S1 ι1 H1 us e1 h1 r1 q1 => ⟨ι1, xs, S1, r1, h1, q1⟩⟩) fun us s1 ⟨vs, H1, I1, r, q1⟩ => ⟨I1.kIn, ?_⟩) he hpl
  have hl : us.length = ps.length := by rw [← r.length]; exact G.len _ _ _ _ q1
  have hb1 : BindsTo s1 fd ⟨us, []⟩ (ps.zip us) := by
    have := hb s1 us I1.kIn (by rw [List.append_nil]; exact hl)
    rwa [List.append_nil] at this
  exact ep_call (run_g G hgd hr tk I1 hb1 r q1)
/-- a built-in, a built-in class -/
theorem pd_callB {F : Fn} {g : DA} {r : List V → Hp → VK → Prop} {id : String} (hc : CallR X (.builtin id) r) (ho : OKA X.K r F) (hg : Gl X x) (hm : X.mg x = none) (hv : bootBuiltins x = some (.builtin id)) (ha : PA X (e :: es) (TDA (Gm X cv) W g)) (hn : x ≠ "__name__" := by decide) (hdb : (x == ("__debug__" : Str)) = false := by decide)
    (he : starEach (e :: es) X.env = (false, eval e X.env) :: starEach es X.env := by rfl) (hpl : (backTo pos (starEach es X.env)).any (·.1) = false := by rfl) : PE X (.Call (.Name x p) (e :: es) [] pos) (TD (Gm X cv) W (dCall F g)) :=
  (pe_callB hc hg hm hv ha hn hdb he hpl).imp fun σ H Q ⟨ι, ρ, S, hs, hh, q⟩ => by
    refine ⟨ι, ρ, S, hs, hh, FinG.bind q fun xs S1 ι1 H1 us e1 h1 r1 q1 => ?_⟩
    exact ho cv ι1 H1 S1 xs us _ Q h1 r1 q1
theorem pd_callTy {F : Fn} {g : DA} {r : List V → Hp → VK → Prop} {T : String} (hc : CallR X (.type T) r) (ho : OKA X.K r F) (hg : Gl X x) (hm : X.mg x = none) (hv : bootBuiltins x = some (.type T)) (ha : PA X (e :: es) (TDA (Gm X cv) W g)) (hn : x ≠ "__name__" := by decide) (hdb : (x == ("__debug__" : Str)) = false := by decide)
    (he : starEach (e :: es) X.env = (false, eval e X.env) :: starEach es X.env := by rfl) (hpl : (backTo pos (starEach es X.env)).any (·.1) = false := by rfl) : PE X (.Call (.Name x p) (e :: es) [] pos) (TD (Gm X cv) W (dCall F g)) :=
  (pe_callTy hc hg hm hv ha hn hdb he hpl).imp fun σ H Q ⟨ι, ρ, S, hs, hh, q⟩ => by
    refine ⟨ι, ρ, S, hs, hh, FinG.bind q fun xs S1 ι1 H1 us e1 h1 r1 q1 => ?_⟩
    exact ho cv ι1 H1 S1 xs us _ Q h1 r1 q1
/-! ### raise, try -/
/-- raise C('..'), C without __init__ -/
def sRaise (c : Nat) : SD := fun ρ S => .exc ⟨c, []⟩ ρ S
theorem pd_ty {n : String} {x : Str} (hg : Gl X x) (hm : X.mg x = none) (hv : bootBuiltins x = some (.type n)) (hn : x ≠ "__name__" := by decide) (hd : (x == ("__debug__" : Str)) = false := by decide) : PE X (.Name x pos) (TD (Gm X cv) W (dC (.ty n))) :=
  pd_c (pe_bltn (v := .ty n) hg hm hv rfl hn hd) fun _ _ => .ty _
theorem pd_gi {i : Int} {x : Str} (hg : Gl X x) (hm : ∃ t, X.mg x = some (.int i t)) (hd : (x == ("__debug__" : Str)) = false := by decide) : PE X (.Name x pos) (TD (Gm X cv) W (dC (.int i))) :=
  hm.elim fun t h => pd_c (pe_glob (v := .int i) hg h ⟨_, rfl⟩ hd) fun _ _ => .int _
theorem pd_gs {i : Str} {x : Str} (hg : Gl X x) (hm : ∃ t, X.mg x = some (.str i t)) (hd : (x == ("__debug__" : Str)) = false := by decide) : PE X (.Name x pos) (TD (Gm X cv) W (dC (.str i))) :=
  hm.elim fun t h => pd_c (pe_glob (v := .str i) hg h ⟨_, rfl⟩ hd) fun _ _ => .str _
theorem ps_raise' {c : Nat} {C : Value} (hcm : X.calm = true) (tk : Takes X W) (hC : cv c = C) (he : PMk X e (fun _ H Q => Q C none H)) : PS X (.Raise (some e) none pos) (TSD (Gm X cv) W (sRaise c)) :=
  (ps_raise hcm tk he).imp fun D σ H ⟨ι, ρ, S, hs, hh, q⟩ => by
    subst hC
    exact q ι H σ none .refl hh hs rfl
structure Clss (K : PySem.W.Frag) (cv : Nat → Value) (n : Nat) (mt : Nat → Nat → Bool) : Prop where
  ok : ∀ c k, c < n → k < n → PySem.W.exmOne K (cv c) (cv k) = some (mt c k)
/-- the clauses, one after the other -/
def sHds (n : Nat) (mt : Nat → Nat → Bool) : List (Nat × SD) → Exn → SD
  | [], e, ρ, S => .exc e ρ S
  | (k, b) :: r, e, ρ, S => if e.cls < n ∧ k < n then (if mt e.cls k = true then b ρ S else sHds n mt r e ρ S) else .stuck
def noExc (r : SRes) : SRes := match r with
  | .exc _ _ _ => .stuck
  | r => r
def sTry (n : Nat) (mt : Nat → Nat → Bool) (b : SD) (hds : List (Nat × SD)) : SD := fun ρ S => match b ρ S with
  | .exc e ρ1 S1 => sHds n mt (hds.map fun p => (p.1, fun ρ S => noExc (p.2 ρ S))) e ρ1 S1
  | r => r
inductive HdsD (X : Cx) (cv : Nat → Value) : List ExceptHandler → List (Nat × SD) → Prop
  | nil : HdsD X cv [] []
  | cons {x : Str} {c : Nat} {sd : SD} {b₀ : Stmt} {suite : List Stmt} {np pos' : Pos} {hds : List ExceptHandler} {l : List (Nat × SD)} (hc : Names X x (cv c))
      (hsu : ∀ (a : Addr) (pn : List (Addr × Obj)), PSs (X.suite a pn) (b₀ :: suite) (TSD (Gm (X.suite a pn) cv) (fun _ _ _ _ => False) sd)) (r : HdsD X cv hds l) :
      HdsD X cv (.ExceptHandler (some (.Name x np)) none (b₀ :: suite) pos' :: hds) ((c, sd) :: l)
theorem HdsD.ok : ∀ {hds : List ExceptHandler} {l : List (Nat × SD)}, HdsD X cv hds l → HdsOk X hds (l.map fun p => (cv p.1, fun _ _ _ => TSD ⟨X.K, cv⟩ (fun _ _ _ _ => False) p.2))
  | _, _, .nil => .nil
  | _, _, .cons hc hsu r => .cons hc (fun a oe cls d pn _ _ => hsu a ((a, oe) :: pn)) (HdsD.ok r)
theorem FinS.noexc {Γ : Cfg} {W W' : WX} {ι : List Addr} {H : Hp} {D : Ends} {r : SRes} (h : FinS Γ W ι H D (noExc r)) : FinS Γ W' ι H D r := by
  cases r with
  | exc e ρ S => exact h.elim
  | _ => exact h
theorem many_of {n : Nat} {mt : Nat → Nat → Bool} (C : Clss X.K cv n mt) {D : Ends} {ι : List Addr} {H : Hp} {ρ : Env} {σ : L2.St} {S : Store} {e : Exn} {d : Option Addr} (hs : RS X.K ι H ρ σ) (hh : RH X.K ι H S) (hx : XF X.K ι H e.fs d) :
    ∀ {l : List (Nat × SD)}, FinS (Gm X cv) W ι H D (sHds n mt (l.map fun p => (p.1, fun ρ S => noExc (p.2 ρ S))) e ρ S) → wMany X.K W D (l.map fun p => (cv p.1, fun _ _ _ => TSD ⟨X.K, cv⟩ (fun _ _ _ _ => False) p.2)) (cv e.cls) d σ H
  | [], q => q ι H σ d .refl hh hs hx
  | (k, b) :: r, q => by
    have q : FinS (Gm X cv) W ι H D (if e.cls < n ∧ k < n then (if mt e.cls k = true then noExc (b ρ S) else sHds n mt (r.map fun p => (p.1, fun ρ S => noExc (p.2 ρ S))) e ρ S) else .stuck) := q
    split at q
    · rename_i hk
      refine ⟨_, C.ok _ _ hk.1 hk.2, fun hb a ha => ?_, fun hb => ?_⟩
      · rw [if_pos hb] at q
        exact ⟨ι, ρ, S, hs, hh, FinS.noexc q⟩
      · rw [if_neg (by rw [hb]; decide)] at q
        exact many_of C hs hh hx q
    · exact q.elim
theorem ps_try' {n : Nat} {mt : Nat → Nat → Bool} {h₀ : ExceptHandler} {hds : List ExceptHandler} {l : List (Nat × SD)} {bd : SD} (C : Clss X.K cv n mt) (hs : X.stack = X.env :: X.outer) (hf : X.env.frame = some X.env.locals) (tk : Takes X W)
    (hb : ∀ (W : WX) (pn : List (Addr × Obj)) (xe : Value → Shared → Prop), Takes (X.tr pn xe) W → PassesOwn (model X.prog X.w) X.A X.env xe → PSs (X.tr pn xe) as (TSD (Gm (X.tr pn xe) cv) W bd))
    (hh : HdsD X cv (h₀ :: hds) l) : PS X (.Try as (h₀ :: hds) [] [] pos) (TSD (Gm X cv) W (sTry n mt bd l)) :=
  (ps_try_many (tb := fun W => TSD ⟨X.K, cv⟩ W bd) hs hf tk hb hh.ok).imp fun D σ H ⟨ι, ρ, S, hs, hh, q⟩ => by
    refine ⟨ι, ρ, S, hs, hh, ?_⟩
    unfold sTry at q
    revert q
    show FinS _ _ _ _ _ (match bd ρ S with | .exc e ρ1 S1 => _ | r => r) → FinS _ _ _ _ _ (bd ρ S)
    cases bd ρ S with
    | exc e ρ1 S1 => exact fun q ι' H' σ' d a b c x => many_of C c b x (FinS.weak a q)
    | _ => exact fun q => q
end
end PD

/-! ## PDOps -/
set_option Elab.async false
set_option linter.all false
set_option maxRecDepth 100000
set_option maxHeartbeats 2000000
namespace PD
open PySem PySem.Spec L2

/-! ### the operations by values -/
def okI (i : Int) (S : Store) : Res Val := .ok (.int i) S
def okB (b : Bool) (S : Store) : Res Val := .ok (.bl b) S
def alloc (xs : List Val) (S : Store) : Res Val := .ok (.ref S.length) (S ++ [.lst xs])
def oAdd : Op2 := fun x y S => match x, y with
  | .int a, .int b => okI (a + b) S
  | .str a, .str b => if a.length + b.length ≤ 16777216 then .ok (.str (a ++ b)) S else .stuck
  | .tup xs, .tup ys => if xs.length + ys.length ≤ 16777216 then .ok (.tup (xs ++ ys)) S else .stuck
  | .ref n, .ref m => match S[n]?, S[m]? with
    | some (.lst xs), some (.lst ys) => if xs.length + ys.length ≤ 16777216 then alloc (xs ++ ys) S else .stuck
    | _, _ => .stuck
  | _, _ => .stuck
def oSub : Op2 := fun x y S => match x, y with
  | .int a, .int b => okI (a - b) S
  | _, _ => .stuck
def oMul : Op2 := fun x y S => match x, y with
  | .int a, .int b => if a.natAbs.log2 + b.natAbs.log2 < 1000000 then okI (a * b) S else .stuck
  | _, _ => .stuck
def oMod : Op2 := fun x y S => match x, y with
  | .int a, .int b => if 0 < b then okI (a % b) S else .stuck
  | _, _ => .stuck
def oDiv : Op2 := fun x y S => match x, y with
  | .int a, .int b => if 0 < b ∧ b.natAbs.log2 < 9000 then okI (a / b) S else .stuck
  | _, _ => .stuck
def oPow : Op2 := fun x y S => match x, y with
  | .int a, .int b => if 0 ≤ b ∧ b ≤ 1000000 ∧ a.natAbs < 2 ^ 64 then okI (a ^ b.toNat) S else .stuck
  | _, _ => .stuck
def oNeg : Val → Store → Res Val := fun x S => match x with
  | .int a => okI (-a) S
  | _ => .stuck
def oInt2 (p : Int → Int → Bool) : Op2 := fun x y S => match x, y with
  | .int a, .int b => okB (p a b) S
  | _, _ => .stuck
def oLt := oInt2 fun i j => decide (i < j)
def oLe := oInt2 fun i j => decide (i ≤ j)
def oGt := oInt2 fun i j => decide (j < i)
def oGe := oInt2 fun i j => decide (j ≤ i)
/-! ### equality -/
def allSome {α : Type} : List (Option α) → Option (List α)
  | [] => some []
  | x :: xs => match x, allSome xs with
    | some a, some as => some (a :: as)
    | _, _ => none
def toD : Nat → Store → Val → Option PyData
  | 0, _, _ => none
  | f + 1, S, v => match v with
    | .non => some .none
    | .bl b => some (.bool b)
    | .int i => some (.int i)
    | .str x => some (.str x)
    | .tup xs => (allSome (xs.map (toD f S))).map .tuple
    | .ref n => match S[n]? with
      | some c => (allSome (c.items.map (toD f S))).map .list
      | none => none
    | .ty _ => none
    | .kl xs => (allSome (xs.map (toD f S))).map .list
def deq (x y : Val) (S : Store) : Option Bool := match x, y with
  | .int a, .int b => some (decide (a = b))
  | x, y => match toD 66 S x, toD 66 S y with
    | some d, some e => if SeqAt.shaped d = true ∧ SeqAt.shaped e = true then some (PyData.eqv d e) else none
    | _, _ => none
def oEq : Op2 := fun x y S => match deq x y S with
  | some b => okB b S
  | none => .stuck
def oNe : Op2 := fun x y S => match deq x y S with
  | some b => okB (!b) S
  | none => .stuck
/-- is None, is True, is False, is of two built-in classes -/
def oIs : Op2 := fun x y S => match y with
  | .non => okB (match x with | .non => true | _ => false) S
  | .bl b => okB (match x with | .bl a => a == b | _ => false) S
  | .ty b => match x with
    | .ty a => okB (decide (a = b)) S
    | _ => .stuck
  | _ => .stuck
def oIsNot : Op2 := fun x y S => match y with
  | .non => okB (match x with | .non => false | _ => true) S
  | .bl b => okB (match x with | .bl a => !(a == b) | _ => true) S
  | .ty b => match x with
    | .ty a => okB (!decide (a = b)) S
    | _ => .stuck
  | _ => .stuck

section
variable {K : PySem.W.Frag} {ι : List Addr} {H : Hp} {S : Store}
theorem allSome_get {α β : Type} {R : α → β → Prop} : ∀ {l : List (Option α)} {as : List α}, allSome l = some as → l = as.map some
  | [], _, h => by cases h; rfl
  | x :: xs, as, h => by
    unfold allSome at h
    split at h
    · rename_i a as' e1 e2
      cases h
      rw [allSome_get (R := R) e2]; rfl
    · cases h
theorem toDs_dp {f : Nat} (ih : ∀ (x : Val) (v : V) (d : PyData), RV K ι H x v → toD f S x = some d → Dp K H v d) : ∀ {xs : List Val} {vs : List V} {ds : List PyData}, RVs K ι H xs vs → allSome (xs.map (toD f S)) = some ds → DpAll K H vs ds
  | _, _, _, .nil, h => by cases h; exact .nil
  | x :: xs, _, _, .cons r rr, h => by
    rw [List.map_cons] at h
    unfold allSome at h
    split at h
    · rename_i a as' e1 e2
      cases h
      exact .cons (ih _ _ _ r e1) (toDs_dp ih rr e2)
    · cases h
theorem toD_dp (hh : RH K ι H S) : ∀ (f : Nat) (x : Val) (v : V) (d : PyData), RV K ι H x v → toD f S x = some d → Dp K H v d
  | 0, _, _, _, _, h => nomatch h
  | f + 1, x, v, d, r, h => by
    cases r with
    | non => cases h; exact .non
    | bl b => cases h; exact .bl b
    | int i => cases h; exact .int i
    | str i => cases h; exact .str i
    | ty n => cases h
    | tup ha rr =>
      rename_i a xs vs
      have h : (allSome (xs.map (toD f S))).map PyData.tuple = some d := h
      cases q : allSome (xs.map (toD f S)) with
      | none => rw [q] at h; cases h
      | some ds => rw [q] at h; cases h; exact .tup ha (toDs_dp (toD_dp hh f) rr q)
    | kl ha rr =>
      rename_i a xs vs
      have h : (allSome (xs.map (toD f S))).map PyData.list = some d := h
      cases q : allSome (xs.map (toD f S)) with
      | none => rw [q] at h; cases h
      | some ds => rw [q] at h; cases h; exact .lst ha.sq (toDs_dp (toD_dp hh f) rr q)
    | ref hn =>
      rename_i n a
      have h : (match S[n]? with
        | some c => (allSome (c.items.map (toD f S))).map PyData.list
        | none => none) = some d := h
      split at h
      · rename_i c ec
        obtain ⟨vs, rr, hq⟩ := (hh.ok _ _ _ hn ec).sq
        cases q : allSome (c.items.map (toD f S)) with
        | none => rw [q] at h; cases h
        | some ds => rw [q] at h; cases h; exact .lst hq (toDs_dp (toD_dp hh f) rr q)
      · cases h
end
abbrev rOr (r r' : L2.R2) : L2.R2 := fun x y H Q => r x y H Q ∨ r' x y H Q
/-- is, by one rule -/
def rIsA (neg : Bool) : L2.R2 := fun x y H Q => (y = .non ∧ Q (.bl (neg != decide (x = .non))) H) ∨ (∃ b, y = .bl b ∧ Q (.bl (neg != decide (x = .bl b))) H) ∨ (∃ m n, x = .ty m ∧ y = .ty n ∧ Q (.bl (neg != decide (m = n))) H)
section
variable {X : Cx}
theorem plain_bl {x : V} {v : Value} {b : Bool} (r : RelV x v) : PySem.plainIs v (.bool b) = true := by
  cases x with
  | non => cases r; rfl
  | bl _ => cases r; rfl
  | int _ => obtain ⟨t, rfl⟩ := r; rfl
  | str _ => obtain ⟨t, rfl⟩ := r; rfl
  | byt _ => obtain ⟨t, rfl⟩ := r; rfl
  | flt _ => obtain ⟨t, rfl⟩ := r; rfl
  | ref _ => cases r; rfl
  | ty _ => cases r; rfl
theorem rel_bl_iff {x : V} {v : Value} {b : Bool} (r : RelV x v) : v = .bool b ↔ x = .bl b := by
  constructor
  · intro e
    subst e
    exact r.inj (show RelV (.bl b) (.bool b) from rfl)
  · intro e; subst e; exact r
theorem op_isA : OpR X (compareOp .Is) (rIsA false) := by
  intro pins s σ H x y v u Q I rx ry h
  rcases h with ⟨rfl, q⟩ | ⟨b, rfl, q⟩ | ⟨m, n, rfl, rfl, q⟩
  · refine op_isN pins s σ H x .non v u Q I rx ry ⟨rfl, ?_⟩
    simpa using q
  · cases (show u = Value.bool b from ry)
    by_cases e : v = .bool b
    · have e' := (rel_bl_iff rx).mp e
      subst e
      exact wpAny_is_self rfl ⟨.bl true, H, I, rfl, by simpa [e'] using q⟩
    · have e' : ¬ x = .bl b := fun z => e ((rel_bl_iff rx).mpr z)
      exact wpAny_is_other (plain_bl rx) e ⟨.bl false, H, I, rfl, by simpa [e'] using q⟩
  · exact op_isTy pins s σ H _ _ v u Q I rx ry ⟨m, n, rfl, rfl, by simpa using q⟩
theorem op_isNotA : OpR X (compareOp .IsNot) (rIsA true) := by
  intro pins s σ H x y v u Q I rx ry h
  rcases h with ⟨rfl, q⟩ | ⟨b, rfl, q⟩ | ⟨m, n, rfl, rfl, q⟩
  · refine op_notN pins s σ H x .non v u Q I rx ry ⟨rfl, ?_⟩
    simpa using q
  · cases (show u = Value.bool b from ry)
    by_cases e : v = .bool b
    · have e' := (rel_bl_iff rx).mp e
      subst e
      exact wpAny_isNot_self rfl ⟨.bl false, H, I, rfl, by simpa [e'] using q⟩
    · have e' : ¬ x = .bl b := fun z => e ((rel_bl_iff rx).mpr z)
      exact wpAny_isNot_other (plain_bl rx) e ⟨.bl true, H, I, rfl, by simpa [e'] using q⟩
  · exact op_isNotTy pins s σ H _ _ v u Q I rx ry ⟨m, n, rfl, rfl, by simpa using q⟩
end
section
variable {K : PySem.W.Frag}
theorem ok_isA : OK2 K (rIsA false) oIs := by
  intro cv ι H S x y u v W Q hh rx ry q
  cases ry with
  | non =>
    refine .inl ⟨rfl, ?_⟩
    cases rx <;> exact q ι H _ .refl hh (.bl _)
  | bl b =>
    refine .inr (.inl ⟨b, rfl, ?_⟩)
    cases rx with
    | bl a =>
      have e : (false != decide (V.bl a = V.bl b)) = (a == b) := by cases a <;> cases b <;> rfl
      rw [e]; exact q ι H _ .refl hh (.bl _)
    | _ => exact q ι H _ .refl hh (.bl _)
  | ty b =>
    cases rx with
    | ty a =>
      refine .inr (.inr ⟨a, b, rfl, rfl, ?_⟩)
      have e : (false != decide (a = b)) = decide (a = b) := by simp
      rw [e]; exact q ι H _ .refl hh (.bl _)
    | _ => exact q.elim
  | _ => exact q.elim
theorem ok_isNotA : OK2 K (rIsA true) oIsNot := by
  intro cv ι H S x y u v W Q hh rx ry q
  cases ry with
  | non =>
    refine .inl ⟨rfl, ?_⟩
    cases rx <;> exact q ι H _ .refl hh (.bl _)
  | bl b =>
    refine .inr (.inl ⟨b, rfl, ?_⟩)
    cases rx with
    | bl a =>
      have e : (true != decide (V.bl a = V.bl b)) = !(a == b) := by cases a <;> cases b <;> rfl
      rw [e]; exact q ι H _ .refl hh (.bl _)
    | _ => exact q ι H _ .refl hh (.bl _)
  | ty b =>
    cases rx with
    | ty a =>
      refine .inr (.inr ⟨a, b, rfl, rfl, ?_⟩)
      have e : (true != decide (a = b)) = !decide (a = b) := by simp
      rw [e]; exact q ι H _ .refl hh (.bl _)
    | _ => exact q.elim
  | _ => exact q.elim
theorem ok_int2 {p : Int → Int → Bool} : OK2 K (rI0 fun i j => .bl (p i j)) (oInt2 p) := by
  intro cv ι H S x y u v W Q hh rx ry q
  cases rx with
  | int a =>
    cases ry with
    | int b => exact ⟨a, b, rfl, rfl, q ι H _ .refl hh (.bl _)⟩
    | _ => exact q.elim
  | _ => exact q.elim
theorem ok_sub : OK2 K (rI0 fun i j => .int (i - j)) oSub := by
  intro cv ι H S x y u v W Q hh rx ry q
  cases rx with
  | int a =>
    cases ry with
    | int b => exact ⟨a, b, rfl, rfl, q ι H _ .refl hh (.int _)⟩
    | _ => exact q.elim
  | _ => exact q.elim
theorem ok_cond {C : Int → Int → Prop} {g : Int → Int → Int} {o : Op2} (h : ∀ cv ι H S x y W Q, Fin ⟨K, cv⟩ W ι H Q (o x y S) → ∃ a b, x = .int a ∧ y = .int b ∧ C a b ∧ Fin ⟨K, cv⟩ W ι H Q (okI (g a b) S)) : OK2 K (rI C fun i j => .int (g i j)) o := by
  intro cv ι H S x y u v W Q hh rx ry q
  obtain ⟨a, b, rfl, rfl, c, q⟩ := h cv ι H S x y W Q q
  cases rx
  cases ry
  exact ⟨a, b, rfl, rfl, c, q ι H _ .refl hh (.int _)⟩
theorem ok_mul : OK2 K (rI CMulW fun i j => .int (i * j)) oMul := ok_cond (g := fun i j => i * j) fun cv ι H S x y W Q q => by
  unfold oMul at q
  split at q
  · split at q
    · rename_i hc; exact ⟨_, _, rfl, rfl, hc, q⟩
    · exact q.elim
  · exact q.elim
theorem ok_mod : OK2 K (rI (fun _ j => 0 < j) fun i j => .int (i % j)) oMod := ok_cond (g := fun i j => i % j) fun cv ι H S x y W Q q => by
  unfold oMod at q
  split at q
  · split at q
    · rename_i hc; exact ⟨_, _, rfl, rfl, hc, q⟩
    · exact q.elim
  · exact q.elim
theorem ok_div : OK2 K (rI CDivW fun i j => .int (i / j)) oDiv := ok_cond (g := fun i j => i / j) fun cv ι H S x y W Q q => by
  unfold oDiv at q
  split at q
  · split at q
    · rename_i hc; exact ⟨_, _, rfl, rfl, hc, q⟩
    · exact q.elim
  · exact q.elim
theorem ok_pow : OK2 K (rI CPow fun i j => .int (i ^ j.toNat)) oPow := ok_cond (g := fun i j => i ^ j.toNat) fun cv ι H S x y W Q q => by
  unfold oPow at q
  split at q
  · split at q
    · rename_i hc; exact ⟨_, _, rfl, rfl, hc, q⟩
    · exact q.elim
  · exact q.elim
theorem ok_neg : OK1 K (rU fun i => .int (-i)) oNeg := by
  intro cv ι H S x u W Q hh rx q
  cases rx with
  | int a => exact ⟨a, rfl, q ι H _ .refl hh (.int _)⟩
  | _ => exact q.elim
abbrev rStrA : L2.R2 := fun x y H Q => ∃ i j, x = .str i ∧ y = .str j ∧ i.length + j.length ≤ sizeLine ∧ Q (.str (i ++ j)) H
abbrev rAddA (K : PySem.W.Frag) : L2.R2 := rOr (rI0 fun i j => .int (i + j)) (rOr rStrA (rOr (rCatA K) rCat))
theorem op_addA {X : Cx} : OpR X (binaryOp .Add) (rAddA X.K) := op_add.or (op_add_str.or (op_catA.or op_cat))
theorem ok_add : OK2 K (rAddA K) oAdd := by
  intro cv ι H S x y u v W Q hh rx ry q
  cases rx with
  | int a =>
    cases ry with
    | int b => exact .inl ⟨a, b, rfl, rfl, q ι H _ .refl hh (.int _)⟩
    | _ => exact q.elim
  | str a =>
    cases ry with
    | str b =>
      have q : Fin ⟨K, cv⟩ W ι H Q (if a.length + b.length ≤ 16777216 then .ok (.str (a ++ b)) S else .stuck) := q
      split at q
      · rename_i hl
        exact .inr (.inl ⟨a, b, rfl, rfl, by rw [sizeLine_eq]; exact hl, q ι H _ .refl hh (.str _)⟩)
      · exact q.elim
    | _ => exact q.elim
  | tup ha ra =>
    cases ry with
    | tup hb rb =>
      rename_i a xs vs b ys ws
      have q : Fin ⟨K, cv⟩ W ι H Q (if xs.length + ys.length ≤ 16777216 then .ok (.tup (xs ++ ys)) S else .stuck) := q
      split at q
      · rename_i hl
        refine .inr (.inr (.inl ⟨a, b, vs, ws, rfl, rfl, ha, hb, by rw [← ra.length, ← rb.length, sizeLine_eq]; exact hl, fun e => ?_, fun e1 e2 => ?_, fun e1 e2 p hp => ?_⟩))
        · subst e; cases ra
          exact q ι H _ .refl hh (.tup hb rb)
        · subst e2; cases rb
          rw [List.append_nil] at q
          exact q ι H _ .refl hh (.tup ha ra)
        · exact q _ _ _ (Ext.fresh hp) (hh.fresh hp) (.tup (SqT.of upd_same) ((ra.append rb).ext (Ext.fresh hp)))
      · exact q.elim
    | _ => exact q.elim
  | ref hn =>
    cases ry with
    | ref hm =>
      rename_i n a m b
      have q : Fin ⟨K, cv⟩ W ι H Q (match S[n]?, S[m]? with
        | some (.lst xs), some (.lst ys) => if xs.length + ys.length ≤ 16777216 then alloc (xs ++ ys) S else .stuck
        | _, _ => .stuck) := q
      split at q
      · rename_i xs ys e1 e2
        split at q
        · rename_i hl
          obtain ⟨vs, ra, hv⟩ := hh.ok _ _ _ hn e1
          obtain ⟨ws, rb, hw⟩ := hh.ok _ _ _ hm e2
          refine .inr (.inr (.inr ⟨a, b, vs, ws, rfl, rfl, hv, hw, by rw [← ra.length, ← rb.length, sizeLine_eq]; exact hl, fun p hp => ?_⟩))
          refine q _ _ _ (Ext.alloc hp) (hh.alloc hp (ra.append rb)) (.ref ?_)
          rw [← hh.len]; simp
        · exact q.elim
      · exact q.elim
    | _ => exact q.elim
  | _ => exact q.elim
theorem deq_ok {ι : List Addr} {H : Hp} {S : Store} {x y : Val} {u v : V} {b : Bool} (hh : RH K ι H S) (rx : RV K ι H x u) (ry : RV K ι H y v) (h : deq x y S = some b) :
    ∃ d e, Dp K H u d ∧ Dp K H v e ∧ SeqAt.shaped d = true ∧ SeqAt.shaped e = true ∧ PyData.eqv d e = b := by
  unfold deq at h
  split at h
  · rename_i a c
    cases rx
    cases ry
    cases h
    exact ⟨_, _, .int a, .int c, rfl, rfl, by show (a == c) = _; rw [Bool.beq_eq_decide_eq]⟩
  · split at h
    · rename_i d e e1 e2
      split at h
      · rename_i hs
        cases h
        exact ⟨d, e, toD_dp hh _ _ _ _ rx e1, toD_dp hh _ _ _ _ ry e2, hs.1, hs.2, rfl⟩
      · cases h
    · cases h
theorem ok_eq : OK2 K (rEqD K) oEq := by
  intro cv ι H S x y u v W Q hh rx ry q
  unfold oEq at q
  split at q
  · rename_i b hb
    obtain ⟨d, e, h1, h2, h3, h4, h5⟩ := deq_ok hh rx ry hb
    exact ⟨d, e, h1, h2, h3, h4, by rw [h5]; exact q ι H _ .refl hh (.bl _)⟩
  · exact q.elim
theorem ok_ne : OK2 K (rNeD K) oNe := by
  intro cv ι H S x y u v W Q hh rx ry q
  unfold oNe at q
  split at q
  · rename_i b hb
    obtain ⟨d, e, h1, h2, h3, h4, h5⟩ := deq_ok hh rx ry hb
    exact ⟨d, e, h1, h2, h3, h4, by rw [h5]; exact q ι H _ .refl hh (.bl _)⟩
  · exact q.elim
end
end PD

/-! ## PDMore -/
set_option Elab.async false
set_option linter.all false
set_option maxRecDepth 100000
set_option maxHeartbeats 2000000
namespace PD
open PySem PySem.Spec L2

/-! ### f(k = v, ..) -/
def pick {α : Type} (is : List Nat) (xs : List α) : List α := is.filterMap fun i => xs[i]?
theorem pick_vals {zs : List V} {ws : List Value} (r : Vals zs ws) : ∀ is : List Nat, Vals (pick is zs) (pick is ws)
  | [] => .nil
  | i :: is => by
    unfold pick
    rw [List.filterMap_cons, List.filterMap_cons]
    cases h : zs[i]? with
    | none => rw [r.none_of h]; exact pick_vals r is
    | some z =>
      obtain ⟨u, e, q⟩ := r.get h
      rw [e]
      exact .cons q (pick_vals r is)
theorem pick_rvs {K : PySem.W.Frag} {ι : List Addr} {H : Hp} {xs : List Val} {vs : List V} (r : RVs K ι H xs vs) : ∀ is : List Nat, RVs K ι H (pick is xs) (pick is vs)
  | [] => .nil
  | i :: is => by
    unfold pick
    rw [List.filterMap_cons, List.filterMap_cons]
    cases h : xs[i]? with
    | none =>
      have : vs[i]? = none := by
        rw [List.getElem?_eq_none_iff] at h ⊢
        rw [← r.length]; exact h
      rw [this]; exact pick_rvs r is
    | some z =>
      obtain ⟨u, e, q⟩ := r.get h
      rw [e]
      exact .cons q (pick_rvs r is)
def KB0 (K : PySem.W.Frag) (fd : FuncData) (ps ks : List Str) (is : List Nat) : Prop :=
  ∀ (s : Shared) (ws : List Value), K.In s.heap → ws.length = ks.length → (pick is ws).length = ps.length → BindsTo s fd ⟨[], ks.zip ws⟩ (ps.zip (pick is ws))
theorem _root_.L2.PK.imp {X : Cx} {kws : List Keyword} {t t' : TA} (h : PK X kws t) (q : ∀ σ H Q, t' σ H Q → t σ H Q) : PK X kws t' := ⟨fun pos pins s σ H Q I hw => h.run pos pins s σ H Q I (q _ _ _ hw)⟩
def dCallK (is : List Nat) (n : Nat) (F : Fn) (g : DA) : D := fun ρ S => (g ρ S).bind fun xs S1 => if xs.length = n then F (pick is xs) S1 else .stuck
section
variable {X : Cx} {cv : Nat → Value} {W : WX} {e a b c o : Expr} {es : List Expr} {pos p : Pos} {kws : List Keyword}
variable {k : Nat} {f : Addr} {fd : FuncData} {ps ks : List Str} {x : Str}
theorem pdk_nil : PK X [] (TDA (Gm X cv) W aNil) := pk_nil.imp fun σ H Q ⟨ι, ρ, S, hs, hh, q⟩ => q.here hh .nil
theorem pdk_cons {nm : Option Str} {kpos : Pos} {f : D} {g : DA} (ha : PE X e (TD (Gm X cv) W f)) (hr : PK X kws (TDA (Gm X cv) W g)) : PK X (⟨nm, e, kpos⟩ :: kws) (TDA (Gm X cv) W (aCons f g)) :=
  (pk_cons ha hr).imp fun σ H Q h => by
    obtain ⟨ι, ρ, S, hs, hh, q⟩ := h
    refine ⟨ι, ρ, S, hs, hh, FinG.bind q fun x S1 ι1 H1 u e1 h1 r1 q1 => ?_⟩
    refine ⟨ι1, ρ, S1, hs.ext e1, h1, FinG.bind q1 fun y S2 ι2 H2 v e2 h2 r2 q2 => ?_⟩
    exact q2.here h2 (.cons (r1.ext e2) r2)
theorem pd_callK0 {F : Fn} {g : DA} {is : List Nat} {m : Nat} (G : FnG X.prog X.w X.K X.mg X.base k f fd ps (SpecOf ⟨X.K, cv⟩ F)) (hgd : X.A.guards = some []) (hr : Room k X.A) (hg : Gl X x) (hm : X.mg x = some (.ref f)) (hk : PySem.W.keepIn X.K (.ref f) = true) (hb : KB0 X.K fd ps ks is) (tk : Takes X W)
    (hkw : PK X kws (TDA (Gm X cv) W g)) (hall : (backToKw pos (keywordEach kws X.env)).all (·.1.isSome) = true := by rfl) (hks : (backToKw pos (keywordEach kws X.env)).filterMap (·.1) = ks := by rfl) (hdb : (x == ("__debug__" : Str)) = false := by decide)
    (hpl : ((backTo pos (starEach [] X.env)).any (·.1) || (backToKw pos (keywordEach kws X.env)).any (·.1.isNone)) = false := by rfl) (hm2 : ks.length = m := by rfl) :
    PE X (.Call (.Name x p) [] kws pos) (TD (Gm X cv) W (dCallK is m F g)) := by
  subst hm2
  refine ⟨fun pins s σ H Q I h => ?_⟩
  obtain ⟨ι, ρ, S, hs, hh, q⟩ := h
  refine wpAny_Call_Name_kw (ld_glob I hg hm ?_ hdb)
  refine PySem.W.callWith_KW0 (h₀ := X.base) I.ok.mod.kin hk hall ?_ hpl
  refine thn (hkw.run pos pins s σ H (fun us H1 => us.length = ks.length ∧ SpecOf ⟨X.K, cv⟩ F (pick is us) H1 Q (WE W σ)) I ⟨ι, ρ, S, hs, hh, FinG.bind q fun xs S1 ι1 H1 us e1 h1 r1 q1 => ?_⟩) fun ws s2 ⟨zs, H2, I2, rz, hl, q2⟩ => ⟨I2.kIn, ?_⟩
  · split at q1
    · rename_i hl
      exact ⟨by rw [← r1.length]; exact hl, ι1, pick is xs, S1, pick_rvs r1 is, h1, q1⟩
    · exact q1.elim
  · rw [hks]
    have r2 := pick_vals rz is
    have hl2 : (pick is ws).length = ps.length := by rw [← r2.length]; exact G.len _ _ _ _ q2
    exact ep_call (run_g G hgd hr tk I2 (hb s2 ws I2.kIn (by rw [← rz.length]; exact hl) hl2) r2 q2)
end

/-! ### items, slices, len -/
def oIx : Op2 := fun x y S => match y with
  | .int i => match x with
    | .tup xs => match atI xs i with
      | some z => .ok z S
      | none => .stuck
    | .ref n => match S[n]? with
      | some c => match atI c.items i with
        | some z => .ok z S
        | none => .stuck
      | none => .stuck
    | .kl xs => match atI xs i with
      | some z => .ok z S
      | none => .stuck
    | .str z => match atI z.cps.toList i with
      | some c => if z.length ≤ 16777216 then .ok (.str ⟨#[c]⟩) S else .stuck
      | none => .stuck
    | _ => .stuck
  | _ => .stuck
theorem RVs.atI {K : PySem.W.Frag} {ι : List Addr} {H : Hp} {xs : List Val} {vs : List V} {i : Int} {z : Val} (r : RVs K ι H xs vs) (h : atI xs i = some z) : ∃ v, L2.atI vs i = some v ∧ RV K ι H z v := by
  unfold L2.atI at h ⊢
  rw [← r.length]
  cases e : ixN xs.length i with
  | none => rw [e] at h; cases h
  | some j =>
    rw [e] at h
    exact r.get h
theorem ok_ix {K : PySem.W.Frag} : OK2 K (rIx K) oIx := by
  intro cv ι H S x y u v W Q hh rx ry q
  cases ry with
  | int i =>
    cases rx with
    | tup ha ra =>
      rename_i a xs vs
      have q : Fin ⟨K, cv⟩ W ι H Q (match atI xs i with | some z => .ok z S | none => .stuck) := q
      split at q
      · rename_i z e
        obtain ⟨v, e', r⟩ := ra.atI e
        exact .inr (.inl ⟨a, vs, i, v, rfl, rfl, ha, e', q ι H _ .refl hh r⟩)
      · exact q.elim
    | kl ha ra =>
      rename_i a xs vs
      have q : Fin ⟨K, cv⟩ W ι H Q (match atI xs i with | some z => .ok z S | none => .stuck) := q
      split at q
      · rename_i z e
        obtain ⟨v, e', r⟩ := ra.atI e
        exact .inl ⟨a, vs, i, v, rfl, rfl, ha.sq, e', q ι H _ .refl hh r⟩
      · exact q.elim
    | ref hn =>
      rename_i n a
      have q : Fin ⟨K, cv⟩ W ι H Q (match S[n]? with | some c => (match atI c.items i with | some z => .ok z S | none => .stuck) | none => .stuck) := q
      split at q
      · rename_i c ec
        obtain ⟨vs, rr, hq⟩ := (hh.ok _ _ _ hn ec).sq
        split at q
        · rename_i z e
          obtain ⟨v, e', r⟩ := rr.atI e
          exact .inl ⟨a, vs, i, v, rfl, rfl, hq, e', q ι H _ .refl hh r⟩
        · exact q.elim
      · exact q.elim
    | str z =>
      have q : Fin ⟨K, cv⟩ W ι H Q (match atI z.cps.toList i with | some c => (if z.length ≤ 16777216 then .ok (.str ⟨#[c]⟩) S else .stuck) | none => .stuck) := q
      split at q
      · rename_i c ec
        split at q
        · rename_i hl
          exact .inr (.inr ⟨z, i, c, rfl, rfl, by rw [sizeLine_eq]; exact hl, ec, q ι H _ .refl hh (.str _)⟩)
        · exact q.elim
      · exact q.elim
    | _ => exact q.elim
  | _ => exact q.elim
/-- a part of a slice -/
abbrev DO := PD.Env → Store → Res (Option Int)
def oNone : DO := fun _ S => .ok none S
def oSome (f : D) : DO := fun ρ S => (f ρ S).bind fun x S1 => match x with
  | .int i => .ok (some i) S1
  | _ => .stuck
def cutL {α : Type} (xs : List α) (lo hi : Option Int) : List α := (xs.drop (HT.sIx xs.length 0 lo)).take (HT.sIx xs.length xs.length hi - HT.sIx xs.length 0 lo)
def vSl (x : Val) (lo hi : Option Int) (S : Store) : Res Val := match x with
  | .tup xs => .ok (.tup (cutL xs lo hi)) S
  | .ref n => match S[n]? with
    | some c => alloc (cutL c.items lo hi) S
    | none => .stuck
  | .kl xs => alloc (cutL xs lo hi) S
  | .str z => if z.length ≤ 16777216 then .ok (.str (cutS z lo hi)) S else .stuck
  | _ => .stuck
def dSl (f : D) (l h : DO) : D := fun ρ S => (f ρ S).bind fun x S1 => (l ρ S1).bind fun lo S2 => (h ρ S2).bind fun hi S3 => vSl x lo hi S3
abbrev TDO (Γ : Cfg) (W : WX) (f : DO) : TO := TG' Γ (fun _ _ => Eq) W f
abbrev rSlAll (K : PySem.W.Frag) : V → Option Int → Option Int → Hp → VK → Prop := fun x lo hi H Q => rSlA K x lo hi H Q ∨ (rSlL K x lo hi H Q ∨ ∃ z, x = .str z ∧ z.length ≤ sizeLine ∧ Q (.str (cutS z lo hi)) H)
theorem sl_all {X : Cx} : SlR X (rSlAll X.K) := sl_tupA.or (sl_list.or sl_str)
section
variable {X : Cx} {cv : Nat → Value} {W : WX} {e a b c o : Expr} {es : List Expr} {pos p p2 : Pos} {lo hi : Option Expr}
theorem pd_ix {f g : D} (ha : PE X a (TD (Gm X cv) W f)) (hb : PE X b (TD (Gm X cv) W g)) (hs : PlainIx b) : PE X (.Subscript a b pos) (TD (Gm X cv) W (dOp oIx f g)) :=
  (pe_ix ix_seq ha hb hs).imp fun _ _ _ h => pd_two ok_ix h
theorem pdo_none : PO X none (TDO (Gm X cv) W oNone) := ⟨fun pins s σ H Q I h => po_none.run pins s σ H Q I (by
  obtain ⟨ι, ρ, S, hs, hh, q⟩ := h
  exact q.here hh rfl)⟩
theorem pdo_some {f : D} (h : PE X e (TD (Gm X cv) W f)) : PO X (some e) (TDO (Gm X cv) W (oSome f)) := ⟨fun pins s σ H Q I hw => (po_some h).run pins s σ H Q I (by
  obtain ⟨ι, ρ, S, hs, hh, q⟩ := hw
  refine ⟨ι, ρ, S, hs, hh, FinG.bind q fun x S1 ι1 H1 u e1 h1 r1 q1 => ?_⟩
  cases r1 with
  | int i => exact ⟨i, rfl, q1.here h1 rfl⟩
  | _ => exact q1.elim)⟩
theorem RVs.cut {K : PySem.W.Frag} {ι : List Addr} {H : Hp} {xs : List Val} {vs : List V} (lo hi : Option Int) (r : RVs K ι H xs vs) : RVs K ι H (cutL xs lo hi) (cutV vs lo hi) := by
  unfold cutL cutV
  rw [r.length]
  exact RVs.take _ (RVs.drop _ r)
theorem cutV_whole {vs : List V} {lo hi : Option Int} (h : HT.sIx vs.length 0 lo = 0 ∧ HT.sIx vs.length vs.length hi = vs.length) : cutV vs lo hi = vs := by
  unfold cutV
  rw [h.1, h.2]; simp
theorem ok_sl {K : PySem.W.Frag} {ι : List Addr} {H : Hp} {S : Store} {x : Val} {u : V} {lo hi : Option Int} {W : Value → Option Addr → Hp → Prop} {Q : VK} (hh : RH K ι H S) (rx : RV K ι H x u) (q : Fin ⟨K, cv⟩ W ι H Q (vSl x lo hi S)) : rSlAll K u lo hi H Q := by
  cases rx with
  | tup ha ra =>
    rename_i a xs vs
    refine .inl ⟨a, vs, rfl, ha, fun e => ?_, fun e p hp => ?_⟩
    · have rc := ra.cut lo hi
      rw [cutV_whole e] at rc
      exact q ι H _ .refl hh (.tup ha rc)
    · exact q _ _ _ (Ext.fresh hp) (hh.fresh hp) (.tup (SqT.of upd_same) ((ra.cut lo hi).ext (Ext.fresh hp)))
  | kl ha ra =>
    rename_i a xs vs
    refine .inr (.inl ⟨a, vs, rfl, ha.sq, fun p hp => ?_⟩)
    refine q _ _ _ (Ext.alloc hp) (hh.alloc hp (ra.cut lo hi)) (.ref ?_)
    rw [← hh.len]; simp
  | ref hn =>
    rename_i n a
    have q : Fin ⟨K, cv⟩ W ι H Q (match S[n]? with | some c => alloc (cutL c.items lo hi) S | none => .stuck) := q
    split at q
    · rename_i c ec
      obtain ⟨vs, rr, hq⟩ := (hh.ok _ _ _ hn ec).sq
      refine .inr (.inl ⟨a, vs, rfl, hq, fun p hp => ?_⟩)
      refine q _ _ _ (Ext.alloc hp) (hh.alloc hp (rr.cut lo hi)) (.ref ?_)
      rw [← hh.len]; simp
    · exact q.elim
  | str z =>
    have q : Fin ⟨K, cv⟩ W ι H Q (if z.length ≤ 16777216 then .ok (.str (cutS z lo hi)) S else .stuck) := q
    split at q
    · rename_i hl
      exact .inr (.inr ⟨z, rfl, by rw [sizeLine_eq]; exact hl, q ι H _ .refl hh (.str _)⟩)
    · exact q.elim
  | _ => exact q.elim
theorem pd_sl {f : D} {l h : DO} (he : PE X e (TD (Gm X cv) W f)) (hl : PO X lo (TDO (Gm X cv) W l)) (hu : PO X hi (TDO (Gm X cv) W h)) : PE X (.Subscript e (.Slice lo hi none p2) pos) (TD (Gm X cv) W (dSl f l h)) :=
  (pe_slice sl_all he hl hu).imp fun σ H Q hw => by
    obtain ⟨ι, ρ, S, hs, hh, q⟩ := hw
    refine ⟨ι, ρ, S, hs, hh, FinG.bind q fun x S1 ι1 H1 u e1 h1 r1 q1 => ?_⟩
    refine ⟨ι1, ρ, S1, hs.ext e1, h1, FinG.bind (R := fun _ _ => Eq) q1 fun lo S2 ι2 H2 lo' e2 h2 r2 q2 => ?_⟩
    cases r2
    refine ⟨ι2, ρ, S2, (hs.ext e1).ext e2, h2, FinG.bind (R := fun _ _ => Eq) q2 fun hi S3 ι3 H3 hi' e3 h3 r3 q3 => ?_⟩
    cases r3
    exact ok_sl h3 ((r1.ext e2).ext e3) q3
end
end PD

/-! ## PDBi -/
set_option Elab.async false
set_option linter.all false
set_option maxRecDepth 100000
set_option maxHeartbeats 2000000
namespace PD
open PySem PySem.Spec L2

/-! ### built-ins -/
def tyN (x : Val) (S : Store) : Option String := match x with
  | .non => some "NoneType"
  | .bl _ => some "bool"
  | .int _ => some "int"
  | .str _ => some "str"
  | .tup _ => some "tuple"
  | .ref n => match S[n]? with
    | some _ => some "list"
    | none => none
  | .ty _ => none
  | .kl _ => some "list"
def isT (T U : String) : Bool := decide (T = U) || (decide (T = "bool") && decide (U = "int"))
def knownT : List String := ["NoneType", "bool", "int", "str", "tuple", "list"]
def askedT : List String := ["bool", "int", "str", "tuple", "list"]
theorem kit_known : ∀ T ∈ knownT, ∀ U ∈ askedT, kitB T U = some (isT T U) := by decide +kernel
def bIsi : Fn := fun xs S => match xs with
  | [x, .ty U] => match tyN x S with
    | some T => if U ∈ askedT then okB (isT T U) S else .stuck
    | none => .stuck
  | _ => .stuck
def bType : Fn := fun xs S => match xs with
  | [x] => match tyN x S with
    | some T => .ok (.ty T) S
    | none => .stuck
  | _ => .stuck
def bLen : Fn := fun xs S => match xs with
  | [.tup ys] => okI ys.length S
  | [.ref n] => match S[n]? with
    | some c => okI c.items.length S
    | none => .stuck
  | [.str z] => if z.length ≤ 16777216 then okI z.length S else .stuck
  | [.kl ys] => okI ys.length S
  | _ => .stuck
def bInt : Fn := fun xs S => match xs with
  | [.int i] => okI i S
  | [.bl b] => okI (if b then 1 else 0) S
  | _ => .stuck
def bTuple : Fn := fun xs S => match xs with
  | [.ref n] => match S[n]? with
    | some c => .ok (.tup c.items) S
    | none => .stuck
  | [.tup ys] => .ok (.tup ys) S
  | _ => .stuck
def asB : Val → Option Bool
  | .bl b => some b
  | _ => none
def asI : Val → Option Int
  | .int i => some i
  | _ => none
def bAll : Fn := fun xs S => match xs with
  | [.ref n] => match S[n]? with
    | some c => match allSome (c.items.map asB) with
      | some bs => okB (bs.all id) S
      | none => .stuck
    | none => .stuck
  | _ => .stuck
def bSum : Fn := fun xs S => match xs with
  | [.ref n] => match S[n]? with
    | some c => match allSome (c.items.map asI) with
      | some ns => okI ns.sum S
      | none => .stuck
    | none => .stuck
  | _ => .stuck
def bMax2 : Fn := fun xs S => match xs with
  | [.int i, .int j] => okI (if j > i then j else i) S
  | _ => .stuck
def bMin2 : Fn := fun xs S => match xs with
  | [.int i, .int j] => okI (if j < i then j else i) S
  | _ => .stuck
section
variable {K : PySem.W.Frag}
theorem tyN_known {x : Val} {S : Store} {T : String} (h : tyN x S = some T) : T ∈ knownT := by
  cases x with
  | ref n =>
    have h : (match S[n]? with | some _ => some "list" | none => none) = some T := h
    split at h
    · cases h; decide
    · cases h
  | ty n => cases h
  | _ => cases h; decide
theorem tyX_of {ι : List Addr} {H : Hp} {S : Store} {x : Val} {u : V} {T : String} (hh : RH K ι H S) (r : RV K ι H x u) (h : tyN x S = some T) : TyX K H u (.type T) := by
  cases r with
  | non => cases h; exact .base .non
  | bl b => cases h; exact .base (.bl b)
  | int i => cases h; exact .base (.int i)
  | str z => cases h; exact .base (.str z)
  | ty n => cases h
  | tup ha ra =>
    cases h
    rcases ha with (ha | ⟨o, ha⟩) | ⟨o, its, n, hk, hc, _⟩
    · exact .base (.tup ha)
    · exact .fTuple ha
    · exact .kTuple hk hc
  | kl ha ra =>
    cases h
    rcases ha with ⟨o, ha⟩ | ⟨o, its, n, hk, hc, _⟩
    · exact .base (.frz ha)
    · exact .kList hk hc
  | ref hn =>
    rename_i n a
    have h : (match S[n]? with | some _ => some "list" | none => none) = some T := h
    split at h
    · rename_i c ec
      cases h
      have q := hh.ok _ _ _ hn ec
      cases c with
      | lst xs => obtain ⟨vs, _, q⟩ := q; exact .base (.lst q)
    · cases h
theorem tyB_of {ι : List Addr} {H : Hp} {S : Store} {x : Val} {u : V} {T : String} (hh : RH K ι H S) (r : RV K ι H x u) (h : tyN x S = some T) : TyB K H u T := by
  cases r with
  | non => cases h; exact .non
  | bl b => cases h; exact .bl b
  | int i => cases h; exact .int i
  | str z => cases h; exact .str z
  | ty n => cases h
  | tup ha ra => cases h; exact .tup ha
  | kl ha ra => cases h; exact .lst ha.sq
  | ref hn =>
    rename_i n a
    have h : (match S[n]? with | some _ => some "list" | none => none) = some T := h
    split at h
    · rename_i c ec
      cases h
      obtain ⟨vs, _, q⟩ := (hh.ok _ _ _ hn ec).sq
      exact .lst q
    · cases h
theorem ok_isi : OKA K (rIsi K) bIsi := by
  intro cv ι H S xs us W Q hh rx q
  unfold bIsi at q
  split at q
  · rename_i x U
    split at q
    · rename_i T eT
      split at q
      · rename_i hU
        cases rx with
        | cons r1 rr =>
          cases rr with
          | cons r2 rr =>
            cases rr
            cases r2
            exact ⟨_, _, _, _, isT T U, rfl, .ty U, tyX_of hh r1 eT, kit_ty (kit_known T (tyN_known eT) U hU), q ι H _ .refl hh (.bl _)⟩
      · exact q.elim
    · exact q.elim
  · exact q.elim
theorem ok_type : OKA K (rTyp K) bType := by
  intro cv ι H S xs us W Q hh rx q
  unfold bType at q
  split at q
  · rename_i x
    split at q
    · rename_i T eT
      cases rx with
      | cons r1 rr =>
        cases rr
        exact ⟨_, T, rfl, tyB_of hh r1 eT, q ι H _ .refl hh (.ty _)⟩
    · exact q.elim
  · exact q.elim
theorem ok_len : OKA K (fun xs H Q => ∃ x n, xs = [x] ∧ LenV K x H n ∧ Q (.int n) H) bLen := by
  intro cv ι H S xs us W Q hh rx q
  unfold bLen at q
  split at q
  · rename_i ys
    cases rx with
    | cons r1 rr =>
      cases rr
      cases r1 with
      | tup ha ra => exact ⟨_, _, rfl, .inr ⟨_, ha, rfl⟩, q ι H _ .refl hh (by rw [← ra.length]; exact .int _)⟩
  · rename_i n
    split at q
    · rename_i c ec
      cases rx with
      | cons r1 rr =>
        cases rr
        cases r1 with
        | ref hn =>
          obtain ⟨vs, rr, hq⟩ := (hh.ok _ _ _ hn ec).sq
          exact ⟨_, _, rfl, .inl ⟨_, hq, rfl⟩, q ι H _ .refl hh (by rw [← rr.length]; exact .int _)⟩
    · exact q.elim
  · rename_i z
    split at q
    · rename_i hl
      cases rx with
      | cons r1 rr =>
        cases rr
        cases r1
        exact ⟨_, _, rfl, ⟨by rw [sizeLine_eq]; exact hl, rfl⟩, q ι H _ .refl hh (.int _)⟩
    · exact q.elim
  · rename_i ys
    cases rx with
    | cons r1 rr =>
      cases rr
      cases r1 with
      | kl ha ra => exact ⟨_, _, rfl, .inl ⟨_, ha.sq, rfl⟩, q ι H _ .refl hh (by rw [← ra.length]; exact .int _)⟩
  · exact q.elim
theorem ok_int : OKA K (fun xs H Q => (∃ i, xs = [.int i] ∧ Q (.int i) H) ∨ ∃ k, xs = [.bl k] ∧ Q (.int (if k then 1 else 0)) H) bInt := by
  intro cv ι H S xs us W Q hh rx q
  unfold bInt at q
  split at q
  · cases rx with
    | cons r1 rr =>
      cases rr
      cases r1
      exact .inl ⟨_, rfl, q ι H _ .refl hh (.int _)⟩
  · cases rx with
    | cons r1 rr =>
      cases rr
      cases r1
      exact .inr ⟨_, rfl, q ι H _ .refl hh (.int _)⟩
  · exact q.elim
theorem ok_tuple : OKA K (fun xs H Q => ∃ p ys, xs = [.ref p] ∧ ((SqL K H p ys ∧ ∀ l, H l = none → Q (.ref l) (upd H l (.tup ys))) ∨ (SqT K H p ys ∧ Q (.ref p) H))) bTuple := by
  intro cv ι H S xs us W Q hh rx q
  unfold bTuple at q
  split at q
  · split at q
    · rename_i c ec
      cases rx with
      | cons r1 rr =>
        cases rr
        cases r1 with
        | ref hn =>
          obtain ⟨vs, rr, hq⟩ := (hh.ok _ _ _ hn ec).sq
          exact ⟨_, vs, rfl, .inl ⟨hq, fun l hl => q _ _ _ (Ext.fresh hl) (hh.fresh hl) (.tup (SqT.of upd_same) (rr.ext (Ext.fresh hl)))⟩⟩
    · exact q.elim
  · cases rx with
    | cons r1 rr =>
      cases rr
      cases r1 with
      | tup ha ra => exact ⟨_, _, rfl, .inr ⟨ha, q ι H _ .refl hh (.tup ha ra)⟩⟩
  · exact q.elim
theorem rvs_bools {ι : List Addr} {H : Hp} : ∀ {xs : List Val} {vs : List V} {bs : List Bool}, RVs K ι H xs vs → allSome (xs.map asB) = some bs → vs = bs.map V.bl
  | _, _, _, .nil, h => by cases h; rfl
  | x :: xs, _, _, .cons r rr, h => by
    rw [List.map_cons] at h
    unfold allSome at h
    split at h
    · rename_i a as e1 e2
      cases h
      have := rvs_bools rr e2
      cases r <;> first | (cases e1; rw [this]; rfl) | cases e1
    · cases h
theorem rvs_ints {ι : List Addr} {H : Hp} : ∀ {xs : List Val} {vs : List V} {bs : List Int}, RVs K ι H xs vs → allSome (xs.map asI) = some bs → vs = bs.map V.int
  | _, _, _, .nil, h => by cases h; rfl
  | x :: xs, _, _, .cons r rr, h => by
    rw [List.map_cons] at h
    unfold allSome at h
    split at h
    · rename_i a as e1 e2
      cases h
      have := rvs_ints rr e2
      cases r <;> first | (cases e1; rw [this]; rfl) | cases e1
    · cases h
theorem ok_all : OKA K (rAll K) bAll := by
  intro cv ι H S xs us W Q hh rx q
  unfold bAll at q
  split at q
  · split at q
    · rename_i c ec
      split at q
      · rename_i bs eb
        cases rx with
        | cons r1 rr =>
          cases rr
          cases r1 with
          | ref hn =>
            obtain ⟨vs, rr, hq⟩ := (hh.ok _ _ _ hn ec).sq
            have e := rvs_bools rr eb
            subst e
            exact ⟨_, bs, rfl, hq, q ι H _ .refl hh (.bl _)⟩
      · exact q.elim
    · exact q.elim
  · exact q.elim
theorem ok_sum : OKA K (rSum K) bSum := by
  intro cv ι H S xs us W Q hh rx q
  unfold bSum at q
  split at q
  · split at q
    · rename_i c ec
      split at q
      · rename_i bs eb
        cases rx with
        | cons r1 rr =>
          cases rr
          cases r1 with
          | ref hn =>
            obtain ⟨vs, rr, hq⟩ := (hh.ok _ _ _ hn ec).sq
            have e := rvs_ints rr eb
            subst e
            exact ⟨_, bs, rfl, hq, q ι H _ .refl hh (.int _)⟩
      · exact q.elim
    · exact q.elim
  · exact q.elim
theorem ok_max2 : OKA K (fun xs H Q => ∃ i j, xs = [.int i, .int j] ∧ Q (.int (if j > i then j else i)) H) bMax2 := by
  intro cv ι H S xs us W Q hh rx q
  unfold bMax2 at q
  split at q
  · cases rx with
    | cons r1 rr =>
      cases rr with
      | cons r2 rr =>
        cases rr
        cases r1
        cases r2
        exact ⟨_, _, rfl, q ι H _ .refl hh (.int _)⟩
  · exact q.elim
theorem ok_min2 : OKA K (fun xs H Q => ∃ i j, xs = [.int i, .int j] ∧ Q (.int (if j < i then j else i)) H) bMin2 := by
  intro cv ι H S xs us W Q hh rx q
  unfold bMin2 at q
  split at q
  · cases rx with
    | cons r1 rr =>
      cases rr with
      | cons r2 rr =>
        cases rr
        cases r1
        cases r2
        exact ⟨_, _, rfl, q ι H _ .refl hh (.int _)⟩
  · exact q.elim
end
/-! ### in, not in -/
def oInB (x y : Val) (S : Store) : Option Bool := match toD 66 S x, toD 66 S y with
  | some d, some (.list ds) => if SeqAt.shaped d = true ∧ SeqAt.shaped (.list ds) = true then some (ds.any fun z => PyData.eqv z d) else none
  | some d, some (.tuple ds) => if SeqAt.shaped d = true ∧ SeqAt.shaped (.tuple ds) = true then some (ds.any fun z => PyData.eqv z d) else none
  | _, _ => none
def oIn : Op2 := fun x y S => match oInB x y S with
  | some b => okB b S
  | none => .stuck
def oNotIn : Op2 := fun x y S => match oInB x y S with
  | some b => okB (!b) S
  | none => .stuck
def rInDT (K : PySem.W.Frag) (neg : Bool) : L2.R2 := fun x y H Q => ∃ d ds, Dp K H x d ∧ Dp K H y (.tuple ds) ∧ SeqAt.shaped d = true ∧ SeqAt.shaped (.tuple ds) = true ∧ Q (.bl (neg != (ds.any fun z => PyData.eqv z d))) H
section
variable {X : Cx}
theorem room_tup {A : Around} {xs : List PyData} {d : PyData} (hd : SeqAt.shaped d = true) (hu : A.units + 65 < cLine) : A.units + 1 + min (PyData.depthAll xs) d.depth < cLine := by
  have h1 : d.depth ≤ 64 := by
    have := hd
    unfold SeqAt.shaped at this
    rw [Bool.and_eq_true] at this
    exact of_decide_eq_true this.2
  omega
theorem op_inDT (hu : X.A.units + 65 < cLine) : OpR X (compareOp .In) (rInDT X.K false) := by
  intro pins s σ H x y v u Q I rx ry h
  obtain ⟨d, ds, hd, he, sd, se, q⟩ := h
  obtain ⟨as, r1⟩ := Dp.reads I d x v hd rx
  obtain ⟨bs, r2⟩ := Dp.reads I (.tuple ds) y u he ry
  exact SeqAt.in_tuple_reads r2 r1 (SeqAt.canLay_of_shaped se) (SeqAt.canLay_of_shaped sd) (room_tup sd hu) ⟨.bl _, H, I, rfl, by simpa using q⟩
theorem op_notInDT (hu : X.A.units + 65 < cLine) : OpR X (compareOp .NotIn) (rInDT X.K true) := by
  intro pins s σ H x y v u Q I rx ry h
  obtain ⟨d, ds, hd, he, sd, se, q⟩ := h
  obtain ⟨as, r1⟩ := Dp.reads I d x v hd rx
  obtain ⟨bs, r2⟩ := Dp.reads I (.tuple ds) y u he ry
  exact SeqAt.notIn_tuple_reads r2 r1 (SeqAt.canLay_of_shaped se) (SeqAt.canLay_of_shaped sd) (room_tup sd hu) ⟨.bl _, H, I, rfl, by simpa using q⟩
theorem op_inA (hu : X.A.units + 65 < cLine) : OpR X (compareOp .In) (rOr (rInD X.K) (rInDT X.K false)) := (op_inD hu).or (op_inDT hu)
theorem op_notInA (hu : X.A.units + 65 < cLine) : OpR X (compareOp .NotIn) (rOr (rNotInD X.K) (rInDT X.K true)) := (op_notInD hu).or (op_notInDT hu)
end
section
variable {K : PySem.W.Frag}
theorem inB_ok {ι : List Addr} {H : Hp} {S : Store} {x y : Val} {u v : V} {b : Bool} (hh : RH K ι H S) (rx : RV K ι H x u) (ry : RV K ι H y v) (h : oInB x y S = some b) :
    ∃ d ds, Dp K H u d ∧ SeqAt.shaped d = true ∧ (ds.any fun z => PyData.eqv z d) = b ∧ ((Dp K H v (.list ds) ∧ SeqAt.shaped (.list ds) = true) ∨ (Dp K H v (.tuple ds) ∧ SeqAt.shaped (.tuple ds) = true)) := by
  unfold oInB at h
  split at h
  · rename_i d ds e1 e2
    split at h
    · rename_i hs
      cases h
      exact ⟨d, ds, toD_dp hh _ _ _ _ rx e1, hs.1, rfl, .inl ⟨toD_dp hh _ _ _ _ ry e2, hs.2⟩⟩
    · cases h
  · rename_i d ds e1 e2
    split at h
    · rename_i hs
      cases h
      exact ⟨d, ds, toD_dp hh _ _ _ _ rx e1, hs.1, rfl, .inr ⟨toD_dp hh _ _ _ _ ry e2, hs.2⟩⟩
    · cases h
  · cases h
theorem ok_in : OK2 K (rOr (rInD K) (rInDT K false)) oIn := by
  intro cv ι H S x y u v W Q hh rx ry q
  unfold oIn at q
  split at q
  · rename_i b hb
    obtain ⟨d, ds, h1, h2, h3, h4 | h4⟩ := inB_ok hh rx ry hb
    · exact .inl ⟨d, ds, h1, h4.1, h2, h4.2, by rw [h3]; exact q ι H _ .refl hh (.bl _)⟩
    · exact .inr ⟨d, ds, h1, h4.1, h2, h4.2, by rw [h3]; simpa using q ι H _ .refl hh (.bl _)⟩
  · exact q.elim
theorem ok_notIn : OK2 K (rOr (rNotInD K) (rInDT K true)) oNotIn := by
  intro cv ι H S x y u v W Q hh rx ry q
  unfold oNotIn at q
  split at q
  · rename_i b hb
    obtain ⟨d, ds, h1, h2, h3, h4 | h4⟩ := inB_ok hh rx ry hb
    · exact .inl ⟨d, ds, h1, h4.1, h2, h4.2, by rw [h3]; exact q ι H _ .refl hh (.bl _)⟩
    · exact .inr ⟨d, ds, h1, h4.1, h2, h4.2, by rw [h3]; simpa using q ι H _ .refl hh (.bl _)⟩
  · exact q.elim
end
end PD

/-! ## PDComp -/
set_option Elab.async false
set_option linter.all false
set_option maxRecDepth 100000
set_option maxHeartbeats 2000000
namespace PD
open PySem PySem.Spec L2

/-! ### comprehensions -/
def noX {α : Type} (r : Res α) : Res α := match r with
  | .exc _ _ => .stuck
  | r => r
abbrev Src := Nat → Store → Option (Option Val)
def srcL (xs : List Val) : Src := fun i _ => some xs[i]?
def srcC (n : Nat) : Src := fun i S => match S[n]? with
  | some c => some c.items[i]?
  | none => none
def wipeE (ρ : PD.Env) : List Nat → PD.Env
  | [] => ρ
  | v :: vs => (wipeE ρ vs).set v none
def compG (src : Src) (t : TgD) (c : DT) (f : D) : Nat → Nat → List Val → PD.Env → Store → Res (List Val)
  | 0, i, acc, ρ, S => match src i S with
    | some none => .ok acc S
    | _ => .stuck
  | m + 1, i, acc, ρ, S => match src i S with
    | none => .stuck
    | some none => .ok acc S
    | some (some x) => match t x ρ with
      | none => .stuck
      | some ρ1 => (noX (c ρ1 S)).bind fun b S1 => if b = true then (noX (f ρ1 S1)).bind fun y S2 => if acc.length < 16777216 then compG src t c f m (i + 1) (acc ++ [y]) ρ S2 else .stuck
          else compG src t c f m (i + 1) acc ρ S1
def tYes' : DT := fun _ S => .ok true S
def dLCC (f : D) (t : TgD) (c : DT) (e : D) (vs : List Nat) : D := fun ρ S => (f ρ S).bind fun x S1 => match x with
  | .ref n => match S1[n]? with
    | some cc => (compG (srcC n) t c e cc.items.length 0 [] (wipeE ρ vs) S1).bind alloc
    | none => .stuck
  | _ => .stuck
def dLCT (f : D) (t : TgD) (c : DT) (e : D) (vs : List Nat) : D := fun ρ S => (f ρ S).bind fun x S1 => match x with
  | .tup xs => (compG (srcL xs) t c e xs.length 0 [] (wipeE ρ vs) S1).bind alloc
  | _ => .stuck
def dLCR (g : DA) (t : TgD) (c : DT) (e : D) (vs : List Nat) : D := fun ρ S => (g ρ S).bind fun xs S1 => match xs with
  | [.int j] => if -(2 ^ 62) ≤ j ∧ j < 2 ^ 62 then (compG (srcL (rangeV 0 j.toNat)) t c e j.toNat 0 [] (wipeE ρ vs) S1).bind alloc else .stuck
  | _ => .stuck
section
variable {K : PySem.W.Frag} {ι ι' : List Addr} {H H' : Hp} {S : Store} {ρ : PD.Env} {σ : L2.St}
theorem wipe_rs (h : RS K ι H ρ σ) : ∀ vs : List Nat, RS K ι H (wipeE ρ vs) (wipe σ vs)
  | [] => h
  | v :: vs => by
    have q := wipe_rs h vs
    refine ⟨by show ((wipeE ρ vs).set v none).length = ((wipe σ vs).set v none).length; simp [q.1], fun i x e => ?_⟩
    have e : ((wipeE ρ vs).set v none)[i]? = some (some x) := e
    by_cases hi : v = i
    · subst hi
      by_cases hl : v < (wipeE ρ vs).length
      · rw [List.getElem?_set_self hl] at e; cases e
      · rw [List.getElem?_eq_none (by simp; omega)] at e; cases e
    · rw [List.getElem?_set_ne hi] at e
      obtain ⟨u, a, b⟩ := q.2 i x e
      refine ⟨u, ?_, b⟩
      show ((wipe σ vs).set v none)[i]? = _
      rw [List.getElem?_set_ne hi]; exact a
/-- a list that is no cell yet is written -/
theorem Ext.side {D : Addr} {vs ws : List V} {ι1 : List Addr} {H1 : Hp} (e : Ext ι1 H1 ι H) (h1 : H1 D = none) (hd : H D = some (.lst vs)) : Ext ι1 H1 ι (upd H D (.lst ws)) := by
  refine ⟨e.pre, fun a o q n => ?_, e.new, fun a us q => ?_, fun a o u q => ?_⟩
  · rw [upd_ne (ne_of_none q h1)]; exact e.fr a o q n
  · rcases e.tp a us q with q | ⟨u, q⟩
    · exact .inl (by rw [upd_ne (ne_of q hd (by intro z; cases z))]; exact q)
    · exact .inr ⟨u, by rw [upd_ne (ne_of q hd (by intro z; cases z))]; exact q⟩
  · have q := e.fz a o u q
    rw [upd_ne (ne_of q hd (by intro z; cases z))]; exact q
mutual
theorem RV.carry (hg : ∀ (n : Nat) (a : Addr), ι[n]? = some a → ι'[n]? = some a) (ht : ∀ a vs, SqT K H a vs → SqT K H' a vs) (hl : ∀ a vs, RoL K H a vs → RoL K H' a vs) : ∀ {x : Val} {v : V}, RV K ι H x v → RV K ι' H' x v
  | _, _, .non => .non
  | _, _, .bl b => .bl b
  | _, _, .int i => .int i
  | _, _, .str x => .str x
  | _, _, .tup h r => .tup (ht _ _ h) (RVs.carry hg ht hl r)
  | _, _, .ref h => .ref (hg _ _ h)
  | _, _, .ty n => .ty n
  | _, _, .kl h r => .kl (hl _ _ h) (RVs.carry hg ht hl r)
theorem RVs.carry (hg : ∀ (n : Nat) (a : Addr), ι[n]? = some a → ι'[n]? = some a) (ht : ∀ a vs, SqT K H a vs → SqT K H' a vs) (hl : ∀ a vs, RoL K H a vs → RoL K H' a vs) : ∀ {xs : List Val} {vs : List V}, RVs K ι H xs vs → RVs K ι' H' xs vs
  | _, _, .nil => .nil
  | _, _, .cons h r => .cons (RV.carry hg ht hl h) (RVs.carry hg ht hl r)
end
theorem sqT_side {D : Addr} {vs ws : List V} (hd : H D = some (.lst vs)) (a : Addr) (us : List V) (h : SqT K H a us) : SqT K (upd H D (.lst ws)) a us := by
  rcases h with (h | ⟨o, h⟩) | h
  · exact .inl (.inl (by rw [upd_ne (ne_of h hd (by intro z; cases z))]; exact h))
  · exact .inl (.inr ⟨o, by rw [upd_ne (ne_of h hd (by intro z; cases z))]; exact h⟩)
  · exact .inr h
theorem roL_side {D : Addr} {vs ws : List V} (hd : H D = some (.lst vs)) (a : Addr) (us : List V) (h : RoL K H a us) : RoL K (upd H D (.lst ws)) a us := by
  rcases h with ⟨o, h⟩ | h
  · exact .inl ⟨o, by rw [upd_ne (ne_of h hd (by intro z; cases z))]; exact h⟩
  · exact .inr h
theorem RV.side {D : Addr} {vs ws : List V} (hd : H D = some (.lst vs)) {x : Val} {v : V} (r : RV K ι H x v) : RV K ι (upd H D (.lst ws)) x v := r.carry (fun _ _ h => h) (sqT_side hd) (roL_side hd)
theorem RVs.side {D : Addr} {vs ws : List V} (hd : H D = some (.lst vs)) {x : List Val} {v : List V} (r : RVs K ι H x v) : RVs K ι (upd H D (.lst ws)) x v := r.carry (fun _ _ h => h) (sqT_side hd) (roL_side hd)
theorem RS.side {D : Addr} {vs ws : List V} (hd : H D = some (.lst vs)) (h : RS K ι H ρ σ) : RS K ι (upd H D (.lst ws)) ρ σ := ⟨h.1, fun i x e => by
  obtain ⟨u, a, b⟩ := h.2 i x e
  exact ⟨u, a, b.side hd⟩⟩
theorem RH.side {D : Addr} {vs ws : List V} (hh : RH K ι H S) (hn : D ∉ ι) (hd : H D = some (.lst vs)) : RH K ι (upd H D (.lst ws)) S := by
  refine ⟨hh.len, fun n a c e1 e2 => ?_, hh.nd⟩
  have na : a ≠ D := fun z => hn (z ▸ List.mem_of_getElem? e1)
  have q := hh.ok n a c e1 e2
  cases c with
  | lst xs =>
    obtain ⟨us, r, q⟩ := q
    exact ⟨us, r.side hd, by rw [upd_ne na]; exact q⟩
theorem RH.adopt {D : Addr} {xs : List Val} {vs : List V} (hh : RH K ι H S) (hn : D ∉ ι) (hd : H D = some (.lst vs)) (r : RVs K ι H xs vs) : RH K (ι ++ [D]) H (S ++ [.lst xs]) := by
  have hg : ∀ (n : Nat) (a : Addr), ι[n]? = some a → (ι ++ [D])[n]? = some a := fun n a h => by
    rw [List.getElem?_append_left (List.getElem?_eq_some_iff.mp h).1]; exact h
  have cas : ∀ (n : Nat) (a : Addr) (c : Cell), (ι ++ [D])[n]? = some a → (S ++ [.lst xs])[n]? = some c → (ι[n]? = some a ∧ S[n]? = some c) ∨ (n = ι.length ∧ D = a ∧ c = .lst xs) := fun n a c e1 e2 => by
    rcases get_append_some e1 with e1 | ⟨rfl, rfl⟩
    · rcases get_append_some e2 with e2 | ⟨rfl, rfl⟩
      · exact .inl ⟨e1, e2⟩
      · exact absurd (List.getElem?_eq_some_iff.mp e1).1 (by rw [hh.len]; exact Nat.lt_irrefl _)
    · rcases get_append_some e2 with e2 | ⟨_, rfl⟩
      · exact absurd (List.getElem?_eq_some_iff.mp e2).1 (by rw [hh.len]; exact Nat.lt_irrefl _)
      · exact .inr ⟨rfl, rfl, rfl⟩
  refine ⟨by simp [hh.len], fun n a c e1 e2 => ?_, fun n m a e1 e2 => ?_⟩
  · rcases cas n a c e1 e2 with ⟨e1, e2⟩ | ⟨_, rfl, rfl⟩
    · have q := hh.ok n a c e1 e2
      cases c with
      | lst ys => obtain ⟨us, r, q⟩ := q; exact ⟨us, r.carry hg (fun _ _ h => h) fun _ _ h => h, q⟩
    · exact ⟨vs, r.carry hg (fun _ _ h => h) fun _ _ h => h, hd⟩
  · rcases get_append_some e1 with e1 | ⟨a1, b1⟩ <;> rcases get_append_some e2 with e2 | ⟨a2, b2⟩
    · exact hh.nd n m a e1 e2
    · exact absurd (List.mem_of_getElem? e1) (by rw [← b2]; exact hn)
    · exact absurd (List.mem_of_getElem? e2) (by rw [← b1]; exact hn)
    · rw [a1, a2]
theorem Ext.adopt {D : Addr} {ι1 : List Addr} {H1 : Hp} (e : Ext ι1 H1 ι H) (h1 : H1 D = none) : Ext ι1 H1 (ι ++ [D]) H := by
  refine ⟨e.pre.trans (List.prefix_append _ _), e.fr, fun a h n => ?_, e.tp, e.fz⟩
  rcases List.mem_append.mp h with z | z
  · exact e.new a z n
  · rw [List.mem_singleton.mp z]; exact h1
/-- where an own list stands behind a step -/
theorem Ext.own {D : Addr} {vs : List V} (e : Ext ι H ι' H') (hn : D ∉ ι) (hd : H D = some (.lst vs)) : D ∉ ι' ∧ H' D = some (.lst vs) := by
  refine ⟨fun z => ?_, e.fr D _ hd hn⟩
  have := e.new D z hn
  rw [hd] at this; cases this
theorem FinG.noX {Γ : Cfg} {α β : Type} {R : List Addr → Hp → α → β → Prop} {W W' : Value → Option Addr → Hp → Prop} {Q : β → Hp → Prop} {r : Res α} (h : FinG Γ R W ι H Q (PD.noX r)) : FinG Γ R W' ι H Q r := by
  cases r with
  | exc e S => exact h.elim
  | _ => exact h
theorem noX_bind {Γ : Cfg} {α β γ δ : Type} {R : List Addr → Hp → α → β → Prop} {R2 : List Addr → Hp → γ → δ → Prop} {W W' : Value → Option Addr → Hp → Prop} {Q : δ → Hp → Prop} {Q' : β → Hp → Prop} {r : Res α} {k : α → Store → Res γ} (h : FinG Γ R2 W ι H Q ((PD.noX r).bind k))
    (hk : ∀ x S1 ι1 H1 v, Ext ι H ι1 H1 → RH Γ.K ι1 H1 S1 → R ι1 H1 x v → FinG Γ R2 W ι1 H1 Q (k x S1) → Q' v H1) : FinG Γ R W' ι H Q' r := by
  cases r with
  | ok x S => exact fun ι1 H1 v e a b => hk x S ι1 H1 v e a b (FinG.weak e h)
  | exc x S => exact h.elim
  | stuck => exact h
theorem noX_bind0 {Γ : Cfg} {α β γ δ : Type} {R : List Addr → Hp → α → β → Prop} {R2 : List Addr → Hp → γ → δ → Prop} {W W' : Value → Option Addr → Hp → Prop} {Q : δ → Hp → Prop} {Q' : β → Hp → Prop} {r : Res α} {k : α → Store → Res γ} (h : FinG Γ R2 W ι H Q ((PD.noX r).bind k))
    (hk : ∀ x S1 ι1 H1 v, Ext ι' H' ι1 H1 → RH Γ.K ι1 H1 S1 → R ι1 H1 x v → FinG Γ R2 W ι H Q (k x S1) → Q' v H1) : FinG Γ R W' ι' H' Q' r := by
  cases r with
  | ok x S => exact fun ι1 H1 v e a b => hk x S ι1 H1 v e a b h
  | exc x S => exact h.elim
  | stuck => exact h.elim
end
section
variable {X : Cx} {cv : Nat → Value} {W : WX}
abbrev W0 : WX := fun _ _ _ _ => False
/-- what the source hands out -/
structure SrcOk (X : Cx) (src : Src) (J : It) (Ok : List Addr → Hp → Prop) : Prop where
  ext : ∀ ι H ι' H', Ok ι H → Ext ι H ι' H' → Ok ι' H'
  side : ∀ ι H (D : Addr) (vs ws : List V), Ok ι H → H D = some (.lst vs) → Ok ι (upd H D (.lst ws))
  stop : ∀ i ι H S, Ok ι H → RH X.K ι H S → src i S = some none → J.stop i H
  go : ∀ i ι H S x, Ok ι H → RH X.K ι H S → src i S = some (some x) → J.go i H
  yld : ∀ i ι H S x y H', Ok ι H → RH X.K ι H S → src i S = some (some x) → J.yld i H y H' → H' = H ∧ RV X.K ι H x y
theorem bind_assoc {α β γ : Type} (r : Res α) (k : α → Store → Res β) (l : β → Store → Res γ) : (r.bind k).bind l = r.bind fun x S => (k x S).bind l := by
  cases r <;> rfl
theorem comp_core {src : Src} {J : It} {Ok : List Addr → Hp → Prop} {g : TG} {t : TgD} {tt : TT} {te : TE} {c : DT} {f : D} {vs : List Nat} (so : SrcOk X src J Ok) (ht : TgOk X.K g t) (htt : ∀ σ H Q, TDT (Gm X cv) W0 c σ H Q → tt σ H Q) (hte : ∀ σ H Q, TD (Gm X cv) W0 f σ H Q → te σ H Q)
    {ι : List Addr} {H : Hp} {ρ : PD.Env} {σ : L2.St} {S : Store} {WW : Value → Option Addr → Hp → Prop} {Q : VK} (hgw : ∀ v σ H (Q : L2.St → Hp → Prop), g v (wipe σ vs) H Q → g v (wipe σ vs) H fun σ2 H2 => wipe σ2 vs = wipe σ vs ∧ Q σ2 H2)
    (hs : RS X.K ι H ρ σ) (hh : RH X.K ι H S) (h0 : Ok ι H) {m : Nat} (q : Fin (Gm X cv) WW ι H Q ((compG src t c f m 0 [] (wipeE ρ vs) S).bind alloc)) :
    ∀ D, H D = none → ∃ W' : Nat → Nat → Hp → Prop, (∃ m, W' 0 m (upd H D (.lst []))) ∧ ∀ i m H, W' i m H →
      (J.stop i H ∧ Q (.ref D) H) ∨ (J.go i H ∧ ∃ Nx : Hp → Prop, (∀ H', Nx H' → ∃ m', m' < m ∧ W' (i + 1) m' H') ∧ ∀ x H', J.yld i H x H' → g x (wipe σ vs) H' fun σ2 H2 => wipe σ2 vs = wipe σ vs ∧ tt σ2 H2 fun b H3 =>
        if b = true then te σ2 H3 fun y H4 => ∃ acc, H4 D = some (.lst acc) ∧ acc.length < sizeLine ∧ Nx (upd H4 D (.lst (acc ++ [y]))) else Nx H3) := by
  intro D hD
  have hw0 := wipe_rs hs vs
  refine ⟨fun i m H' => ∃ ι' S' acc us, Ext ι H ι' H' ∧ RH X.K ι' H' S' ∧ Ok ι' H' ∧ D ∉ ι' ∧ H' D = some (.lst us) ∧ RVs X.K ι' H' acc us ∧ Fin (Gm X cv) WW ι H Q ((compG src t c f m i acc (wipeE ρ vs) S').bind alloc), ⟨m, ι, S, [], [], Ext.fresh hD, hh.fresh hD, so.ext _ _ _ _ h0 (Ext.fresh hD), fun z => ?_, upd_same, .nil, q⟩, fun i m' H' ⟨ι', S', acc, us, e, hh', h0', nD, hd, ra, q'⟩ => ?_⟩
  · exact hh.trk z hD
  · have rs' := hw0.ext e
    have stop : src i S' = some none → Fin (Gm X cv) WW ι H Q (alloc acc S') → J.stop i H' ∧ Q (.ref D) H' := fun es qa => by
      refine ⟨so.stop i ι' H' S' h0' hh' es, qa _ _ _ (e.adopt hD) (hh'.adopt nD hd ra) (.ref ?_)⟩
      rw [← hh'.len]; simp
    cases m' with
    | zero =>
      unfold compG at q'
      split at q'
      · rename_i es
        exact .inl (stop es q')
      · exact q'.elim
    | succ m' =>
      unfold compG at q'
      split at q'
      · exact q'.elim
      · rename_i es
        exact .inl (stop es q')
      · rename_i x ex
        split at q'
        · exact q'.elim
        · rename_i ρ1 eρ
          refine .inr ⟨so.go i ι' H' S' x h0' hh' ex, fun H2 => ∃ ι' S' acc us, Ext ι H ι' H2 ∧ RH X.K ι' H2 S' ∧ Ok ι' H2 ∧ D ∉ ι' ∧ H2 D = some (.lst us) ∧ RVs X.K ι' H2 acc us ∧ Fin (Gm X cv) WW ι H Q ((compG src t c f m' (i + 1) acc (wipeE ρ vs) S').bind alloc), fun H2 h2 => ⟨m', Nat.lt_succ_self m', h2⟩, fun y H2 hy => ?_⟩
          obtain ⟨rfl, rx⟩ := so.yld i ι' H' S' x y H2 h0' hh' ex hy
          refine hgw _ _ _ _ (ht ι' H2 _ ρ1 (wipe σ vs) x y _ rs' rx eρ fun σ2 hs2 => ?_)
          rw [bind_assoc] at q'
          refine htt σ2 H2 _ ⟨ι', ρ1, S', hs2, hh', noX_bind0 (R := fun _ _ => Eq) q' fun b S1 ι1 H1 b' e1 h1 r1 q1 => ?_⟩
          cases r1
          obtain ⟨nD1, hd1⟩ := e1.own nD hd
          have o1 := so.ext _ _ _ _ h0' e1
          cases b with
          | false => exact ⟨ι1, S1, acc, us, e.trans e1, h1, o1, nD1, hd1, ra.ext e1, q1⟩
          | true =>
            have q1 : Fin (Gm X cv) WW ι H Q (((PD.noX (f ρ1 S1)).bind fun y S2 => if acc.length < 16777216 then compG src t c f m' (i + 1) (acc ++ [y]) (wipeE ρ vs) S2 else .stuck).bind alloc) := q1
            rw [bind_assoc] at q1
            refine hte σ2 H1 _ ⟨ι1, ρ1, S1, hs2.ext e1, h1, noX_bind0 q1 fun y S2 ι2 H2 v e2 h2 r2 q2 => ?_⟩
            obtain ⟨nD2, hd2⟩ := e2.own nD1 hd1
            split at q2
            · rename_i hl
              have ra2 := (ra.ext e1).ext e2
              refine ⟨us, hd2, by rw [← ra.length, sizeLine_eq]; exact hl, ι2, S2, acc ++ [y], us ++ [v], ((e.trans e1).trans e2).side hD hd2, h2.side nD2 hd2, so.side _ _ _ _ _ (so.ext _ _ _ _ o1 e2) hd2, nD2, upd_same, (ra2.append (.cons r2 .nil)).side hd2, q2⟩
            · exact q2.elim
theorem wipe_name {i : Nat} : ∀ (v : V) (σ : L2.St) (H : Hp) (Q : L2.St → Hp → Prop), gName i v (wipe σ [i]) H Q → gName i v (wipe σ [i]) H fun σ2 H2 => wipe σ2 [i] = wipe σ [i] ∧ Q σ2 H2 := fun v σ H Q q => by
  refine ⟨?_, q⟩
  show ((σ.set i none).set i (some v)).set i none = σ.set i none
  rw [List.set_set, List.set_set]
theorem src_list {n : Nat} {a : Addr} : SrcOk X (srcC n) (Itl X.K a) (fun ι _ => ι[n]? = some a) where
  ext := fun ι H ι' H' h e => e.get h
  side := fun _ _ _ _ _ h _ => h
  stop := fun i ι H S h hh q => by
    unfold srcC at q
    split at q
    · rename_i c ec
      obtain ⟨vs, rv, hq⟩ := (hh.ok _ _ _ h ec).sq
      have := Option.some.inj q
      exact ⟨vs, hq, by rw [← rv.length]; exact List.getElem?_eq_none_iff.mp this⟩
    · cases q
  go := fun i ι H S x h hh q => by
    unfold srcC at q
    split at q
    · rename_i c ec
      obtain ⟨vs, rv, hq⟩ := (hh.ok _ _ _ h ec).sq
      obtain ⟨v, ev, _⟩ := rv.get (Option.some.inj q)
      exact ⟨vs, v, hq, ev⟩
    · cases q
  yld := fun i ι H S x y H' h hh q hy => by
    unfold srcC at q
    split at q
    · rename_i c ec
      obtain ⟨vs, rv, hq⟩ := (hh.ok _ _ _ h ec).sq
      obtain ⟨v, ev, r⟩ := rv.get (Option.some.inj q)
      obtain ⟨rfl, hy⟩ := hy
      have := hy vs hq
      rw [ev] at this; cases this
      exact ⟨rfl, r⟩
    · cases q
theorem src_tup {a : Addr} {xs : List Val} {vs : List V} : SrcOk X (srcL xs) (Itt X.K a) (fun ι H => SqT X.K H a vs ∧ RVs X.K ι H xs vs) where
  ext := fun ι H ι' H' h e => ⟨e.sqT h.1, h.2.ext e⟩
  side := fun ι H D us ws h hd => ⟨sqT_side hd _ _ h.1, h.2.side hd⟩
  stop := fun i ι H S h hh q => ⟨vs, h.1, by rw [← h.2.length]; exact List.getElem?_eq_none_iff.mp (Option.some.inj q)⟩
  go := fun i ι H S x h hh q => by
    obtain ⟨v, ev, _⟩ := h.2.get (Option.some.inj q)
    exact ⟨vs, v, h.1, ev⟩
  yld := fun i ι H S x y H' h hh q hy => by
    obtain ⟨v, ev, r⟩ := h.2.get (Option.some.inj q)
    obtain ⟨rfl, hy⟩ := hy
    have := hy vs h.1
    rw [ev] at this; cases this
    exact ⟨rfl, r⟩
theorem src_rng {n : Nat} : SrcOk X (srcL (rangeV 0 n)) (Itr 0 n) (fun _ _ => True) where
  ext := fun _ _ _ _ _ _ => trivial
  side := fun _ _ _ _ _ _ _ => trivial
  stop := fun i ι H S h hh q => by
    have := List.getElem?_eq_none_iff.mp (Option.some.inj q)
    rw [rangeV_length] at this
    exact this
  go := fun i ι H S x h hh q => by
    have := (List.getElem?_eq_some_iff.mp (Option.some.inj q)).1
    rw [rangeV_length] at this
    exact this
  yld := fun i ι H S x y H' h hh q hy => by
    obtain ⟨rfl, rfl⟩ := hy
    have hi := (List.getElem?_eq_some_iff.mp (Option.some.inj q)).1
    rw [rangeV_length] at hi
    have e := Option.some.inj q
    rw [rangeV_get hi] at e
    cases e
    exact ⟨rfl, .int _⟩
variable {elt tg iter : Expr} {ifs : List Expr} {scope : Scope} {own : List (Str × Nat)} {pos spos : Pos} {g : TG} {t : TgD} {c : DT} {e f : D}
theorem pdts_nil : PTs X [] (TDT (Gm X cv) W tYes') := ⟨fun pins s σ H Q I ⟨ι, ρ, S, hs, hh, q⟩ => pts_nil.run pins s σ H Q I (q.here hh rfl)⟩
theorem pdts_one {e : Expr} {t : DT} (h : PT X e (TDT (Gm X cv) W t)) : PTs X [e] (TDT (Gm X cv) W t) := pts_one h
abbrev Wp (g : TG) (vs : List Nat) : Prop := ∀ (v : V) (σ : L2.St) (H : Hp) (Q : L2.St → Hp → Prop), g v (wipe σ vs) H Q → g v (wipe σ vs) H fun σ2 H2 => wipe σ2 vs = wipe σ vs ∧ Q σ2 H2
abbrev tLcD (X : Cx) (cv : Nat → Value) (wi : TI) (g : TG) (c : DT) (e : D) (vs : List Nat) : TE := tLc wi g (TDT (Gm X cv) W0 c) (TD (Gm X cv) W0 e) vs
theorem lcC {vs : List Nat} (ht : TgOk X.K g t) (hw : Wp g vs) (σ : L2.St) (H : Hp) (Q : VK) (h : TD (Gm X cv) W (dLCC f t c e vs) σ H Q) : tLcD X cv (iList X.K (TD (Gm X cv) W f)) g c e vs σ H Q := by
  obtain ⟨ι, ρ, S, hs, hh, q⟩ := h
  refine ⟨ι, ρ, S, hs, hh, FinG.bind q fun x S1 ι1 H1 u e1 h1 r1 q1 => ?_⟩
  cases r1 with
  | ref hn =>
    rename_i n a
    have q1 : Fin (Gm X cv) (fun c d H' => W c d σ H') ι1 H1 Q (match S1[n]? with | some cc => (compG (srcC n) t c e cc.items.length 0 [] (wipeE ρ vs) S1).bind alloc | none => .stuck) := q1
    split at q1
    · rename_i cc ec
      obtain ⟨us, rv, hq⟩ := (h1.ok _ _ _ hn ec).sq
      exact ⟨a, rfl, ⟨us, hq⟩, comp_core src_list ht (fun _ _ _ h => h) (fun _ _ _ h => h) hw (hs.ext e1) h1 hn q1⟩
    · exact q1.elim
  | _ => exact q1.elim
theorem lcT {vs : List Nat} (ht : TgOk X.K g t) (hw : Wp g vs) (σ : L2.St) (H : Hp) (Q : VK) (h : TD (Gm X cv) W (dLCT f t c e vs) σ H Q) : tLcD X cv (iTup X.K (TD (Gm X cv) W f)) g c e vs σ H Q := by
  obtain ⟨ι, ρ, S, hs, hh, q⟩ := h
  refine ⟨ι, ρ, S, hs, hh, FinG.bind q fun x S1 ι1 H1 u e1 h1 r1 q1 => ?_⟩
  cases r1 with
  | tup ha ra => exact ⟨_, rfl, ⟨_, ha⟩, comp_core src_tup ht (fun _ _ _ h => h) (fun _ _ _ h => h) hw (hs.ext e1) h1 ⟨ha, ra⟩ q1⟩
  | _ => exact q1.elim
theorem lcR {vs : List Nat} {fa : DA} (ht : TgOk X.K g t) (hw : Wp g vs) (σ : L2.St) (H : Hp) (Q : VK) (h : TD (Gm X cv) W (dLCR fa t c e vs) σ H Q) : tLcD X cv (iRng1 (TDA (Gm X cv) W fa)) g c e vs σ H Q := by
  obtain ⟨ι, ρ, S, hs, hh, q⟩ := h
  refine ⟨ι, ρ, S, hs, hh, FinG.bind q fun xs S1 ι1 H1 us e1 h1 r1 q1 => ?_⟩
  split at q1
  · rename_i j
    split at q1
    · rename_i hj
      cases r1 with
      | cons r1 r2 =>
        cases r1; cases r2
        exact ⟨j, rfl, hj.1, hj.2, comp_core src_rng ht (fun _ _ _ h => h) (fun _ _ _ h => h) hw (hs.ext e1) h1 trivial q1⟩
    · exact q1.elim
  · exact q1.elim
/-- the block's parts -/
structure LcOk (X : Cx) (cv : Nat → Value) (elt tg : Expr) (ifs : List Expr) (scope : Scope) (own : List (Str × Nat)) (g : TG) (t : TgD) (c : DT) (e : D) : Prop where
  ok : BlkOk X.N X.env.scope scope own
  tg : ∀ (s : Shared) (H : Hp) (C : Addr) (cl : List (Str × Addr)) (fp : List Addr), PG (X.blk s H scope (PySem.compEnvC scope cl C X.env) fp) tg g
  tok : TgOk X.K g t
  wp : Wp g (own.map (·.2))
  ifs : ∀ (s : Shared) (H : Hp) (C : Addr) (cl : List (Str × Addr)) (fp : List Addr), PTs (X.blk s H scope (PySem.compEnvC scope cl C X.env) fp) ifs (TDT (Gm X cv) W0 c)
  elt : ∀ (s : Shared) (H : Hp) (C : Addr) (cl : List (Str × Addr)) (fp : List Addr), PE (X.blk s H scope (PySem.compEnvC scope cl C X.env) fp) elt (TD (Gm X cv) W0 e)
theorem pd_lcC (hc : X.calm = true) (hN : X.N.Nodup) (hi : PE X iter (TD (Gm X cv) W f)) (L : LcOk X cv elt tg ifs scope own g t c e) (hs : ∀ x, foldedSetIterable iter X.env x = pure x := by intro _; rfl) :
    PE X (.ListComp elt [⟨tg, iter, ifs, 0⟩] scope pos) (TD (Gm X cv) W (dLCC f t c e (own.map (·.2)))) :=
  (pe_lc hc hN (pi_list hi) L.ok L.tg L.ifs L.elt hs).imp fun σ H Q h => lcC L.tok L.wp σ H Q h
theorem pd_lcT (hc : X.calm = true) (hN : X.N.Nodup) (hi : PE X iter (TD (Gm X cv) W f)) (L : LcOk X cv elt tg ifs scope own g t c e) (hs : ∀ x, foldedSetIterable iter X.env x = pure x := by intro _; rfl) :
    PE X (.ListComp elt [⟨tg, iter, ifs, 0⟩] scope pos) (TD (Gm X cv) W (dLCT f t c e (own.map (·.2)))) :=
  (pe_lc hc hN (pi_tup hi) L.ok L.tg L.ifs L.elt hs).imp fun σ H Q h => lcT L.tok L.wp σ H Q h
theorem pd_lcR {a : Expr} {fa : DA} {p pos2 : Pos} (hc : X.calm = true) (hN : X.N.Nodup) (hgl : Gl X "range") (hm : X.mg "range" = none) (hi : PA X [a] (TDA (Gm X cv) W fa)) (L : LcOk X cv elt tg ifs scope own g t c e)
    (hst : starEach [a] X.env = [(false, eval a X.env)] := by rfl) (hs : ∀ x, foldedSetIterable (.Call (.Name "range" p) [a] [] pos2) X.env x = pure x := by intro _; rfl) :
    PE X (.ListComp elt [⟨tg, .Call (.Name "range" p) [a] [] pos2, ifs, 0⟩] scope pos) (TD (Gm X cv) W (dLCR fa t c e (own.map (·.2)))) :=
  (pe_lc hc hN (pi_range1 hgl hm hi hst) L.ok L.tg L.ifs L.elt hs).imp fun σ H Q h => lcR L.tok L.wp σ H Q h
end
end PD

/-! ## PDEnd -/
set_option Elab.async false
set_option linter.all false
set_option maxRecDepth 100000
set_option maxHeartbeats 2000000
namespace PD
open PySem PySem.Spec L2

/-! ### repr -/
def bRepr : Fn := fun xs S => match xs with
  | [x] => match toD 66 S x with
    | some d => if d.showable = true ∧ SeqAt.shaped d = true ∧ d.shown.length ≤ 16777216 then .ok (.str d.shown) S else .stuck
    | none => .stuck
  | _ => .stuck
def rRepr (K : PySem.W.Frag) : List V → Hp → VK → Prop := fun xs H Q => ∃ x d, xs = [x] ∧ Dp K H x d ∧ d.showable = true ∧ SeqAt.shaped d = true ∧ d.shown.length ≤ sizeLine ∧ Q (.str d.shown) H
theorem ok_repr {K : PySem.W.Frag} : OKA K (rRepr K) bRepr := by
  intro cv ι H S xs us W Q hh rx q
  unfold bRepr at q
  split at q
  · split at q
    · rename_i d ed
      split at q
      · rename_i hc
        cases rx with
        | cons r1 rr =>
          cases rr
          exact ⟨_, d, rfl, toD_dp hh _ _ _ _ r1 ed, hc.1, hc.2.1, by rw [sizeLine_eq]; exact hc.2.2, q ι H _ .refl hh (.str _)⟩
      · exact q.elim
    · exact q.elim
  · exact q.elim
theorem call_reprD {X : Cx} (hgd : X.A.guards = some []) (hu : X.A.units + 65 < cLine) : CallR X (.builtin "repr") (rRepr X.K) := by
  intro pins s σ H xs us Q I r h
  obtain ⟨x, d, rfl, hd, hs, hsh, hz, q⟩ := h
  obtain ⟨u, rfl, rx⟩ := vals1 r
  have fin : ∀ t, EP X pins σ Q (.str d.shown t) { s with toks := s.toks + 1 } := fun t => ⟨.str d.shown, H, I.tok _, ⟨t, rfl⟩, q⟩
  have big : ∀ a, x = .ref a → wpAny (model X.prog X.w) X.A (call (.builtin "repr") [u]) (EP X pins σ Q) X.xe s := fun a e => by
    subst e
    cases rx
    obtain ⟨as, rd⟩ := Dp.reads I d _ _ hd rfl
    have dep : d.depth ≤ 64 := by
      have q := hsh
      unfold SeqAt.shaped at q
      rw [Bool.and_eq_true] at q
      exact of_decide_eq_true q.2
    refine repr_of_reads' rd hs (PyData.noDict_hsm (PyData.hasDict_of_canLay d (SeqAt.canLay_of_shaped hsh))) hgd (by omega) (fun _ _ e => e) (fun h' t tk hk => ?_) hz
    exact ⟨.str d.shown, H, I.kept hk, ⟨t, rfl⟩, q⟩
  cases hd with
  | non => cases rx; exact P.repr_of_none ⟨.str PyData.none.shown, H, I.tok _, ⟨_, rfl⟩, q⟩
  | bl b => cases rx; exact P.repr_of_bool ⟨.str (PyData.bool b).shown, H, I.tok _, ⟨_, by cases b <;> rfl⟩, q⟩
  | int i =>
    obtain ⟨t, rfl⟩ := rx
    exact P.repr_of_int (of_decide_eq_true hs) ⟨.str (PyData.int i).shown, H, I.tok _, ⟨_, rfl⟩, q⟩
  | str z =>
    obtain ⟨t, rfl⟩ := rx
    exact P.repr_of_str ⟨.str (PyData.str z).shown, H, I.tok _, ⟨_, rfl⟩, q⟩ hz
  | lst ha _ => exact big _ rfl
  | tup ha _ => exact big _ rfl

/-! ### the end -/
section
variable {P : Program} {w : World} {K : PySem.W.Frag} {mg mb : Str → Option Value} {k : Nat} {fa a : Addr} {fd : FuncData} {x : Str} {cv : Nat → Value} {F : Fn} {s₁ : Shared} {vs : List Value} {ns : List Int}
abbrev Told (s₁ : Shared) (r : Result) (s' : Shared) : Prop := r = .ok (.ret (.bool true)) ∧ OldK s₁.heap s'.heap ∧ s'.os = s₁.os ∧ PyProof.Rows.AllBare s'.gens
theorem rvs_of_ints {ι : List Addr} {H : Hp} : ∀ ns : List Int, RVs K ι H (ns.map Val.int) (ns.map V.int)
  | [] => .nil
  | n :: r => .cons (.int n) (rvs_of_ints r)
/-- from a heap of which at most the script is tracked -/
theorem law_at (KX : K.In s₁.heap) (hns : s₁.heap.Ns mainGlobals mg) (hb : s₁.heap.Ns builtinsNs mb) (hbb : ∀ x : Str, x ≠ "__name__" → mb x = bootBuiltins x) (hlim : s₁.heap.NoLimit) (hg : s₁.gens = #[])
    (ha : s₁.heap.get? a = some { cls := .type "list", data := .seq vs.toArray }) (hr : Room k callerA)
    (G : ∀ base : Heap, K.In base → base.Ns mainGlobals mg → FnG P w K mg base k fa fd [x] (SpecOf ⟨K, cv⟩ F)) (hbind : ∀ (s : Shared) (u : Value), BindsTo s fd ⟨[u], []⟩ [(x, u)])
    {S : Store} (hT : F [.kl (ns.map Val.int)] [] = .ok (.bl true) S)
    (H : Hp) (hro : RoL K H a (ns.map V.int)) (hok : HOk P w H s₁.heap) (hA : ∀ b, H b ≠ none → b = a) (hfr : ∀ b u, H b = some u → ∃ o xs, u = .frz o (.lst xs)) (hK : H a ≠ none → K.lookup a = none) :
    codeAny (model P w) callerA (.call (.ref fa) ⟨[.ref a], []⟩) (Told s₁) s₁ := by
  have free : ∀ {b : Addr} {o : Obj} {es : Array DictEntry} {ep : Nat}, s₁.heap.get? b = some o → o.data = .dict es ep → H b = none := by
    intro b o es ep e d
    by_cases q : H b = none
    · exact q
    · have := hA b q
      subst this
      rw [ha] at e
      cases e
      cases d
  have keepNs : ∀ {b : Addr} {m : Str → Option Value}, s₁.heap.Ns b m → (hidT s₁.heap H).Ns b m := by
    rintro b m ⟨o, es, ep, e, d, r⟩
    exact ⟨o, es, ep, hidT_get e (free e d), d, r⟩
  have inB : K.In (hidT s₁.heap H) := fun b o e => by
    refine hidT_get (KX b o e) ?_
    by_cases q : H b = none
    · exact q
    · have := hA b q
      subst this
      rw [hK q] at e; cases e
  have md : Mod K mg (hidT s₁.heap H) := ⟨inB, keepNs hns, ⟨mb, keepNs hb, hbb⟩, by
    obtain ⟨mc, h1, h2⟩ := hlim
    exact ⟨mc, keepNs h1, h2⟩⟩
  have env : Env0 P w K mg (hidT s₁.heap H) callerA [] s₁ H :=
    ⟨rfl, md, fun _ _ e => of_hidT e, Nat.le_of_eq (hidT_size _ _), trivial, fun _ z => (nomatch z), hok, .of_eq hg⟩
  have spec : SpecOf ⟨K, cv⟩ F [.ref a] H (fun v _ => v = .bl true) (fun _ _ _ => False) := by
    refine ⟨[], [.kl (ns.map Val.int)], [], .cons (.kl hro (rvs_of_ints ns)) .nil, ⟨rfl, fun n a c e => by simp at e, fun n m a e => by simp at e⟩, ?_⟩
    rw [hT]
    intro ι' H' v e hh r
    cases r; rfl
  refine codeAny_mono ((G _ inB (keepNs hns)).go callerA [] s₁ H ⟨[.ref a], []⟩ [.ref a] [.ref a] _ _ rfl hr env (hbind s₁ (.ref a)) (.cons rfl .nil) spec) fun r s' h => ?_
  rcases r with e | fl
  · obtain ⟨_, _, _, _, _, _, _, _, _, _, _, _, z⟩ := h
    exact z.elim
  · cases fl with
    | ret u =>
      obtain ⟨v, H', os, bare, un, hok', r', q⟩ := h
      have q : v = .bl true := q
      subst q
      cases r'
      refine ⟨rfl, OldK.of_keep fun b o e => ?_, os, bare⟩
      by_cases q : H b = none
      · exact un.keep b o e q (fun z => by cases z) (by simp)
      · obtain ⟨u, hu⟩ := Option.ne_none_iff_exists'.mp q
        obtain ⟨ob, xs, rfl⟩ := hfr b u hu
        have e1 := (hok b _ hu).1
        have e2 := (hok' b _ (un.frzs b ob _ hu)).1
        rw [e] at e1
        cases e1
        exact e2
    | _ => exact h.elim
theorem law_g (KX : K.In s₁.heap) (hns : s₁.heap.Ns mainGlobals mg) (hb : s₁.heap.Ns builtinsNs mb) (hbb : ∀ x : Str, x ≠ "__name__" → mb x = bootBuiltins x) (hlim : s₁.heap.NoLimit) (hg : s₁.gens = #[])
    (ha : s₁.heap.get? a = some { cls := .type "list", data := .seq vs.toArray }) (hi : PyProof.Rows.IntsAre vs ns) (hl : ns.length ≤ sizeLine) (hr : Room k callerA)
    (G : ∀ base : Heap, K.In base → base.Ns mainGlobals mg → FnG P w K mg base k fa fd [x] (SpecOf ⟨K, cv⟩ F)) (hbind : ∀ (s : Shared) (u : Value), BindsTo s fd ⟨[u], []⟩ [(x, u)])
    {S : Store} (hT : F [.kl (ns.map Val.int)] [] = .ok (.bl true) S) : codeAny (model P w) callerA (.call (.ref fa) ⟨[.ref a], []⟩) (Told s₁) s₁ := by
  have rv := vals_ints hi
  cases hk : K.lookup a with
  | some o =>
    have e := KX a o hk
    rw [ha] at e
    cases e
    exact law_at KX hns hb hbb hlim hg ha hr G hbind hT (fun _ => none) (.inr ⟨_, _, _, hk, rfl, rfl, rfl, by rw [List.size_toArray, hi.length]; exact hl, by simpa using rv⟩) (fun _ _ z => by cases z) (fun _ z => absurd rfl z) (fun _ _ z => by cases z) fun z => absurd rfl z
  | none =>
    have only : ∀ b u, (if b = a then some (HO.frz { cls := .type "list", data := .seq vs.toArray } (.lst (ns.map V.int))) else none) = some u → b = a ∧ u = HO.frz { cls := .type "list", data := .seq vs.toArray } (.lst (ns.map V.int)) := fun b u z => by
      split at z
      · rename_i q; cases z; exact ⟨q, rfl⟩
      · cases z
    refine law_at KX hns hb hbb hlim hg ha hr G hbind hT (fun b => if b = a then some (.frz { cls := .type "list", data := .seq vs.toArray } (.lst (ns.map V.int))) else none) (.inl ⟨_, if_pos rfl⟩) (fun b u z => ?_) (fun b z => ?_) (fun b u z => ?_) fun _ => hk
    · obtain ⟨rfl, rfl⟩ := only b u z
      exact ⟨ha, by rw [List.length_map]; exact hl, vs, _, rv, ha⟩
    · obtain ⟨u, hu⟩ := Option.ne_none_iff_exists'.mp z
      exact (only b u hu).1
    · exact ⟨_, _, (only b u z).2⟩
end
theorem walk_g {l : PySem.W.OpenLaw} {n k : Nat} {q : Program} {loose : List Str} {XP : (Str → Option Value) → Heap → Prop} {YP : World → Heap → Prop} {d : DefRec} {K : Params → PySem.W.Frag} {x : Str} {F : Fn}
    (hn : l.most = some n) (hn2 : n ≤ sizeLine) (hdf : d.params.defaults = []) (hr : Room k callerA) (hY : ∀ (w : World) (h : Heap), YP w h → (K w.params).In h)
    (G : ∀ (w : World) (mg : Str → Option Value) (fa : Addr) (h : Heap), (K w.params).In h → h.Ns mainGlobals mg → mg d.name = some (.ref fa) →
      ∃ (fd : FuncData) (cv : Nat → Value), (∀ (s : Shared) (u : Value), BindsTo s fd ⟨[u], []⟩ [(x, u)]) ∧ ∀ base : Heap, (K w.params).In base → base.Ns mainGlobals mg → FnG l.prog w (K w.params) mg base k fa fd [x] (SpecOf ⟨K w.params, cv⟩ F))
    (hT : ∀ ns : List Int, ns.length ≤ n → (∀ z ∈ ns, Builtin.Int.intBits z ≤ 1048576) → ∃ S, F [.kl (ns.map Val.int)] [] = .ok (.bl true) S) : PySem.W.WalkO q loose XP YP l.row.toRowW d [] (fun f vs => PySem.call f vs) := by
  refine Att.attach_callB hn hdf fun w s₀ s₁ mg mb fa o pm cd doc a vs ns Gr Y ho hd hcd hmg hobj hints hlen hbits hg => ?_
  obtain ⟨fd, cv, hb, hF⟩ := G w mg fa _ (hY w _ Y) Gr.T.g hmg
  obtain ⟨S, e⟩ := hT ns hlen hbits
  exact law_g (hY w _ Y) Gr.T.g Gr.T.b Gr.T.builtins Gr.T.nolimit hg hobj hints (Nat.le_trans hlen hn2) hr hF hb e
end PD

/-! ## PDMisc -/
set_option Elab.async false
set_option linter.all false
set_option maxRecDepth 100000
set_option maxHeartbeats 2000000
namespace PD
open PySem PySem.Spec L2

/-! ### xs * n -/
def repV {α : Type} (k : Nat) (xs : List α) : List α := (List.replicate k xs).flatten
def oRepL : Op2 := fun x y S => match x, y with
  | .ref n, .int k => match S[n]? with
    | some (.lst xs) => if -(2 ^ 63) ≤ k ∧ k < 2 ^ 63 ∧ xs.length * k.toNat ≤ 16777216 then alloc (repV k.toNat xs) S else .stuck
    | _ => .stuck
  | _, _ => .stuck
def oRepT : Op2 := fun x y S => match x, y with
  | .tup xs, .int k => if xs ≠ [] ∧ 2 ≤ k ∧ k ≤ 1000000 ∧ xs.length * k.toNat ≤ 1000000 then .ok (.tup (repV k.toNat xs)) S else .stuck
  | _, _ => .stuck
def rRepTB (K : PySem.W.Frag) : L2.R2 := fun x y H Q => ∃ l k xs, x = .ref l ∧ y = .int k ∧ SqT K H l xs ∧ xs ≠ [] ∧ 2 ≤ k ∧ k ≤ 1000000 ∧ xs.length * k.toNat ≤ 1000000 ∧ ∀ p, H p = none → Q (.ref p) (upd H p (.tup (repV k.toNat xs)))
theorem op_repTB {X : Cx} : OpR X (binaryOp .Mult) (rRepTB X.K) := by
  intro pins s σ H x y v u Q I rx ry h
  obtain ⟨l, k, xs, rfl, rfl, hT, hne, h1, h2, hz, q⟩ := h
  cases rx
  obtain ⟨t, rfl⟩ := ry
  obtain ⟨its, r, ⟨⟨cls, dd, data, sl⟩, ho, hc, n, hd⟩, hs⟩ := I.tuple hT
  simp only at hc hd
  subst hc hd
  have len : its.length = xs.length := r.length.symm
  have ne : its ≠ [] := by
    intro e
    rw [e] at len
    exact hne (List.eq_nil_of_length_eq_zero len.symm)
  have em : its.toArray.isEmpty = false := by
    cases its with
    | nil => exact absurd rfl ne
    | cons _ _ => rfl
  have prod : ((its.toArray.size : Nat) : Int) * k = ((xs.length * k.toNat : Nat) : Int) := by
    rw [List.size_toArray, len, Int.natCast_mul]
    congr 1
    omega
  have small : (List.replicate k.toNat its).flatten.length ≤ 1000000 := by
    rw [PyProof.Rows.lm_len_rep_flat, len, Nat.mul_comm]
    exact hz
  have fits : (List.replicate k.toNat its).flatten.length ≤ sizeLine := by
    rw [sizeLine_eq]; omega
  have d0 : (decide (k < -(2 ^ 63)) || decide (k ≥ 2 ^ 63)) = false := by
    simp only [Bool.or_eq_false_iff, decide_eq_false_iff_not]; omega
  have d1 : (its.toArray.isEmpty || k == 1) = false := by
    rw [em]
    simp only [Bool.false_or, beq_eq_false_iff_ne]; omega
  have d2 : (decide (k ≤ 0) || its.toArray.isEmpty) = false := by
    rw [em]
    simp only [Bool.or_false, decide_eq_false_iff_not]; omega
  have d4 : Builtin.Tuple.tupleTooMany (((its.toArray.size : Nat) : Int) * k) = false := by
    rw [prod]
    unfold Builtin.Tuple.tupleTooMany
    rw [sizeLine_eq]
    simp only [decide_eq_false_iff_not]; omega
  have d3 : ¬ ((its.toArray.size : Nat) : Int) * k > (2 ^ 63 - 1) / 8 := by
    rw [prod]; omega
  have step := tuple_mulW l its.toArray n dd sl k t d0 d1 d2 d3 d4 (by rw [size_rep, List.size_toArray]; exact fits)
  have back := int_rmul_tuple k t l its.toArray n dd sl
  refine wpAny_binaryOp_repeat_ref (T := "tuple") (U := "int") (by decide) ⟨_, ho, rfl⟩ (fun s' => typeIs_int s' k t) noFill_tuple_mul F.fills_int_mul F.slot_int_rmul repeat_tuple F.slot_int_index.lookup ?_
  refine call_meets F.slot_int_rmul (typeIs_int s k t) F.entry_int_rmul (F.args_int_rmul_2 _ _) back ⟨ho, rfl, ⟨_, ho, rfl⟩, ?_⟩
  refine call_meets F.slot_tuple_mul ⟨_, ho, rfl⟩ F.entry_tuple_mul (F.args_tuple_mul_2 _ _) step ⟨ho, ?_⟩
  rw [size_rep]
  have vr : Vals (repV k.toNat xs) (List.replicate k.toNat its).flatten := r.rep k.toNat
  refine ⟨.ref s.heap.objs.size, _, I.laid (t' := s.toks) (o := .tup (repV k.toNat xs)) (fun b ob q => Heap.get?_push_of_some _ q) (Nat.le_refl _) ?_, rfl, q _ (I.hok.fresh (Nat.le_refl _))⟩
  exact ⟨by rw [vr.length]; exact fits, _, vr, PyProof.Rows.IsTup.new _ _⟩
section
variable {K : PySem.W.Frag}
theorem RVs.rep {ι : List Addr} {H : Hp} {xs : List Val} {vs : List V} (r : RVs K ι H xs vs) : ∀ n : Nat, RVs K ι H (repV n xs) (repV n vs)
  | 0 => .nil
  | n + 1 => by
    unfold repV
    rw [List.replicate_succ, List.replicate_succ, List.flatten_cons, List.flatten_cons]
    exact r.append (RVs.rep r n)
theorem ok_repL : OK2 K rRep oRepL := by
  intro cv ι H S x y u v W Q hh rx ry q
  cases rx with
  | ref hn =>
    cases ry with
    | int k =>
      rename_i n a
      have q : Fin ⟨K, cv⟩ W ι H Q (match S[n]? with
        | some (.lst xs) => if -(2 ^ 63) ≤ k ∧ k < 2 ^ 63 ∧ xs.length * k.toNat ≤ 16777216 then alloc (repV k.toNat xs) S else .stuck
        | _ => .stuck) := q
      split at q
      · rename_i xs e1
        split at q
        · rename_i hl
          obtain ⟨vs, ra, hv⟩ := hh.ok _ _ _ hn e1
          refine ⟨a, k, vs, rfl, rfl, hv, hl.1, hl.2.1, by rw [← ra.length, sizeLine_eq]; exact hl.2.2, fun p hp => ?_⟩
          refine q _ _ _ (Ext.alloc hp) (hh.alloc hp (ra.rep _)) (.ref ?_)
          rw [← hh.len]; simp
        · exact q.elim
      · exact q.elim
    | _ => exact q.elim
  | _ => exact q.elim
theorem ok_repT : OK2 K (rRepTB K) oRepT := by
  intro cv ι H S x y u v W Q hh rx ry q
  cases rx with
  | tup ha ra =>
    cases ry with
    | int k =>
      rename_i a xs vs
      have q : Fin ⟨K, cv⟩ W ι H Q (if xs ≠ [] ∧ 2 ≤ k ∧ k ≤ 1000000 ∧ xs.length * k.toNat ≤ 1000000 then .ok (.tup (repV k.toNat xs)) S else .stuck) := q
      split at q
      · rename_i hl
        refine ⟨a, k, vs, rfl, rfl, ha, fun e => hl.1 ?_, hl.2.1, hl.2.2.1, by rw [← ra.length]; exact hl.2.2.2, fun p hp => ?_⟩
        · subst e; cases ra; rfl
        · exact q _ _ _ (Ext.fresh hp) (hh.fresh hp) (.tup (SqT.of upd_same) ((ra.rep _).ext (Ext.fresh hp)))
      · exact q.elim
    | _ => exact q.elim
  | _ => exact q.elim
end
/-! ### xs.append(e) -/
def dApp (fo f : D) : D := fun ρ S => (fo ρ S).bind fun o S1 => match o with
  | .ref n => (f ρ S1).bind fun x S2 => match S2[n]? with
    | some (.lst xs) => if xs.length < 16777216 then .ok .non (S2.set n (.lst (xs ++ [x]))) else .stuck
    | _ => .stuck
  | _ => .stuck
section
variable {X : Cx} {cv : Nat → Value} {W : WX} {o e iter tg : Expr} {bs : List Stmt} {pos apos cpos : Pos}
theorem pd_append {fo f : D} (ho : PE X o (TD (Gm X cv) W fo)) (he : PE X e (TD (Gm X cv) W f)) (hm : MtR X "list.append" rAppend)
    (hbase : attributeBase o "append" X.env (eval o X.env) = eval o X.env := by rfl)
    (hfew : ((backTo cpos (starEach [e] X.env)).all (fun x => !x.1) && (backToKw cpos (keywordEach [] X.env)).all (fun x => x.1.isSome)
      && decide ([e].length + ([] : List Keyword).length + (if ([] : List Keyword).isEmpty then 0 else 1) < 30)) = true := by rfl)
    (hline : (apos.endLine == cpos.line) = true := by rfl) (hs : starEach [e] X.env = (false, eval e X.env) :: starEach [] X.env := by rfl) (hplain : (backTo cpos (starEach [] X.env)).any (·.1) = false := by rfl) :
    PE X (.Call (.Attribute o "append" apos) [e] [] cpos) (TD (Gm X cv) W (dApp fo f)) := by
  have pa : PA X [e] (tCons (TD (Gm X cv) W f) tNil) := pa_cons he pa_nil hs
  refine (pe_bm PySem.F.plainAttrs_list PySem.F.slot_list_append PySem.F.type_list_append hm ho pa hbase hfew hline hs hplain).imp fun σ H Q h => ?_
  obtain ⟨ι, ρ, S, hs, hh, q⟩ := h
  refine ⟨ι, ρ, S, hs, hh, FinG.bind q fun ov S1 ι1 H1 u e1 h1 r1 q1 => ?_⟩
  have cell : ∀ n, ov = .ref n → ∃ a, u = .ref a ∧ ι1[n]? = some a := fun n e => by
    subst e; cases r1 with
    | ref hn => exact ⟨_, rfl, hn⟩
  cases ov with
  | ref n =>
    obtain ⟨a, rfl, hn⟩ := cell n rfl
    refine ⟨?_, ι1, ρ, S1, hs.ext e1, h1, FinG.bind q1 fun x S2 ι2 H2 v e2 h2 r2 q2 => ?_⟩
    · have hl : n < S1.length := by rw [← h1.len]; exact (List.getElem?_eq_some_iff.mp hn).1
      obtain ⟨vs, _, hq⟩ := (h1.ok n a _ hn (List.getElem?_eq_getElem hl)).sq
      exact .inl ⟨rfl, _, hq⟩
    · show rAppend (.ref a) [v] H2 Q
      have q2 : Fin (Gm X cv) (fun c d H' => W c d σ H') ι2 H2 Q (match S2[n]? with
        | some (.lst xs) => if xs.length < 16777216 then .ok .non (S2.set n (.lst (xs ++ [x]))) else .stuck
        | _ => .stuck) := q2
      split at q2
      · rename_i xs ex
        split at q2
        · rename_i hl
          have hn2 := e2.get hn
          obtain ⟨vs, rv, hv⟩ := h2.ok _ _ _ hn2 ex
          refine ⟨a, vs, v, rfl, rfl, hv, by rw [← rv.length, sizeLine_eq]; exact hl, ?_⟩
          exact q2 _ _ _ (Ext.write hn2 hv) (h2.write hn2 ex hv (rv.append (.cons r2 .nil))) .non
        · exact q2.elim
      · exact q2.elim
  | _ => exact q1.elim
/-! ### for over a tuple -/
theorem ps_forT' {f : D} {g : TG} {t : TgD} {bd : SD} (hp : PassesOwn (model X.prog X.w) X.A X.env X.xe) (hc : X.calm = true) (he : PE X iter (TD (Gm X cv) W f)) (hg : PG X tg g) (ht : TgOk X.K g t) (hb : PSs X bs (TSD (Gm X cv) W bd)) (hfs : ∀ v, foldedSetIterable iter X.env v = pure v := by intro _; rfl) :
    PS X (.For tg iter bs [] pos) (TSD (Gm X cv) W (sForT f t bd)) :=
  (ps_for hp hc (pi_tup he) hg hb hfs).imp fun D σ H ⟨ι, ρ, S, hs, hh, q⟩ => by
    refine ⟨ι, ρ, S, hs, hh, FinS.bind q hs fun x S1 ι1 H1 u e1 h1 r1 q1 => ?_⟩
    cases r1 with
    | tup ha ra =>
      rename_i a xs vs
      refine ⟨a, rfl, ⟨_, ha⟩, for_vals ht trivial xs (fun ι H => SqT X.K H a vs ∧ RVs X.K ι H xs vs) (fun ι H ι' H' h e => ⟨e.sqT h.1, h.2.ext e⟩) (fun ι H h => ⟨vs, h.1, by rw [h.2.length]; exact Nat.le_refl _⟩) (fun ι H i h hi => ?_) (fun ι H i y H' h hi hy => ?_) (hs.ext e1) h1 ⟨ha, ra⟩ q1⟩
      · obtain ⟨v, ev, _⟩ := h.2.get (List.getElem?_eq_getElem hi)
        exact ⟨vs, v, h.1, ev⟩
      · obtain ⟨v, ev, r⟩ := h.2.get (List.getElem?_eq_getElem hi)
        obtain ⟨rfl, hy⟩ := hy
        have := hy vs h.1
        rw [ev] at this; cases this
        exact ⟨rfl, _, List.getElem?_eq_getElem hi, r⟩
    | _ => exact q1.elim
end
end PD

/-! ## PDWp -/
set_option Elab.async false
set_option linter.all false
set_option maxRecDepth 100000
set_option maxHeartbeats 2000000
namespace PD
open PySem PySem.Spec L2

/-! ### what holds behind a run -/
def Run {α : Type} (r : Res α) (Q : α → Store → Prop) : Prop := match r with
  | .ok a S => Q a S
  | _ => False
def RunS (r : SRes) (N : PD.Env → Store → Prop) (R : Val → Store → Prop) : Prop := match r with
  | .next ρ S => N ρ S
  | .ret v S => R v S
  | _ => False
theorem Run.mono {α : Type} {r : Res α} {Q Q' : α → Store → Prop} (h : Run r Q) (q : ∀ a S, Q a S → Q' a S) : Run r Q' := by
  cases r with
  | ok a S => exact q a S h
  | _ => exact h
theorem Run.to {α : Type} {r : Res α} {Q : α → Store → Prop} (h : Run r Q) : ∃ a S, r = .ok a S ∧ Q a S := by
  cases r with
  | ok a S => exact ⟨a, S, rfl, h⟩
  | _ => exact h.elim
theorem Run.of {α : Type} {r : Res α} {a : α} {S : Store} {Q : α → Store → Prop} (e : r = .ok a S) (h : Q a S) : Run r Q := by rw [e]; exact h
theorem run_ok {α : Type} {a : α} {S : Store} {Q : α → Store → Prop} : Run (.ok a S) Q = Q a S := rfl
theorem run_stuck {α : Type} {Q : α → Store → Prop} : Run (.stuck : Res α) Q = False := rfl
theorem run_bind {α β : Type} {r : Res α} {k : α → Store → Res β} {Q : β → Store → Prop} : Run (r.bind k) Q = Run r fun a S => Run (k a S) Q := by cases r <;> rfl
theorem run_noX {α : Type} {r : Res α} {Q : α → Store → Prop} : Run (noX r) Q = Run r Q := by cases r <;> rfl
theorem run_ite {α : Type} {c : Prop} [Decidable c] {r r' : Res α} {Q : α → Store → Prop} : Run (if c then r else r') Q = if c then Run r Q else Run r' Q := by split <;> rfl
theorem runS_ite {c : Prop} [Decidable c] {r r' : SRes} {N R} : RunS (if c then r else r') N R = if c then RunS r N R else RunS r' N R := by split <;> rfl
theorem runS_toS {α : Type} {r : Res α} {ρ : PD.Env} {k : α → Store → SRes} {N R} : RunS (r.toS ρ k) N R = Run r fun a S => RunS (k a S) N R := by cases r <;> rfl
theorem runS_seq {r : SRes} {k : PD.Env → Store → SRes} {N R} : RunS (r.seq k) N R = RunS r (fun ρ S => RunS (k ρ S) N R) R := by cases r <;> rfl
theorem runS_next {ρ : PD.Env} {S : Store} {N R} : RunS (.next ρ S) N R = N ρ S := rfl
theorem runS_ret {v : Val} {S : Store} {N R} : RunS (.ret v S) N R = R v S := rfl
theorem runS_stuck {N R} : RunS .stuck N R = False := rfl
theorem run_fnOf {n m : Nat} {b : SD} {xs : List Val} {S : Store} {Q : Val → Store → Prop} : Run (fnOf n m b xs S) Q = if xs.length = n then RunS (b (xs.map some ++ List.replicate (m - n) none) S) (fun _ S' => Q .non S') Q else False := by
  unfold fnOf
  split
  · cases b (xs.map some ++ List.replicate (m - n) none) S <;> rfl
  · rfl
section
variable {Q : Val → Store → Prop} {QB : Bool → Store → Prop} {QA : List Val → Store → Prop} {ρ : PD.Env} {S : Store} {f g : D} {t u : DT} {as : DA} {N : PD.Env → Store → Prop} {R : Val → Store → Prop} {b c : SD}
theorem w_c {v : Val} : Run (dC v ρ S) Q = Q v S := rfl
theorem w_op {o : Op2} : Run (dOp o f g ρ S) Q = Run (f ρ S) fun x S1 => Run (g ρ S1) fun y S2 => Run (o x y S2) Q := by
  unfold dOp
  rw [run_bind]
  congr; funext x S1
  rw [run_bind]
theorem w_un {o : Val → Store → Res Val} : Run (dUn o f ρ S) Q = Run (f ρ S) fun x S1 => Run (o x S1) Q := by unfold dUn; rw [run_bind]
theorem w_call {F : Fn} : Run (dCall F as ρ S) Q = Run (as ρ S) fun xs S1 => Run (F xs S1) Q := by unfold dCall; rw [run_bind]
theorem w_callK {F : Fn} {is : List Nat} {n : Nat} : Run (dCallK is n F as ρ S) Q = Run (as ρ S) fun xs S1 => if xs.length = n then Run (F (pick is xs) S1) Q else False := by
  unfold dCallK
  rw [run_bind]
  congr; funext xs S1
  rw [run_ite]; rfl
theorem w_nil : Run (aNil ρ S) QA = QA [] S := rfl
theorem w_cons : Run (aCons f as ρ S) QA = Run (f ρ S) fun x S1 => Run (as ρ S1) fun xs S2 => QA (x :: xs) S2 := by
  unfold aCons
  rw [run_bind]
  congr; funext x S1
  rw [run_bind]; rfl
theorem w_tup : Run (dTup as ρ S) Q = Run (as ρ S) fun xs S1 => xs.length ≤ 16777216 ∧ Q (.tup xs) S1 := by
  unfold dTup
  rw [run_bind]
  congr; funext xs S1
  rw [run_ite]
  by_cases h : xs.length ≤ 16777216
  · rw [if_pos h]; exact propext ⟨fun q => ⟨h, q⟩, fun q => q.2⟩
  · rw [if_neg h]; exact propext ⟨fun q => q.elim, fun q => h q.1⟩
theorem w_lst : Run (dLst as ρ S) Q = Run (as ρ S) fun xs S1 => xs.length ≤ 16777216 ∧ Q (.ref S1.length) (S1 ++ [.lst xs]) := by
  unfold dLst
  rw [run_bind]
  congr; funext xs S1
  rw [run_ite]
  by_cases h : xs.length ≤ 16777216
  · rw [if_pos h]; exact propext ⟨fun q => ⟨h, q⟩, fun q => q.2⟩
  · rw [if_neg h]; exact propext ⟨fun q => q.elim, fun q => h q.1⟩
/-- a value that is a bool, and holds so -/
def IsB (Q : Bool → Store → Prop) (v : Val) (S : Store) : Prop := match v with
  | .bl b => Q b S
  | _ => False
theorem isB_bl {b : Bool} : IsB QB (.bl b) S = QB b S := rfl
theorem w_tval : Run (tVal f ρ S) QB = Run (f ρ S) (IsB QB) := by
  unfold tVal
  rw [run_bind]
  congr; funext x S1
  cases x <;> rfl
theorem w_tand : Run (tAnd' t u ρ S) QB = Run (t ρ S) fun b S1 => if b = true then Run (u ρ S1) QB else QB false S1 := by
  unfold tAnd'
  rw [run_bind]
  congr; funext b S1
  rw [run_ite]; rfl
theorem w_tor : Run (tOr' t u ρ S) QB = Run (t ρ S) fun b S1 => if b = true then QB true S1 else Run (u ρ S1) QB := by
  unfold tOr'
  rw [run_bind]
  congr; funext b S1
  rw [run_ite]; rfl
theorem w_tnot : Run (tNot' t ρ S) QB = Run (t ρ S) fun b S1 => QB (!b) S1 := by unfold tNot'; rw [run_bind]; rfl
theorem w_and : Run (dAnd f g ρ S) Q = Run (f ρ S) (IsB fun b S1 => if b = true then Run (g ρ S1) Q else Q (.bl false) S1) := by
  unfold dAnd
  rw [run_bind]
  congr; funext x S1
  cases x with
  | bl b => cases b <;> rfl
  | _ => rfl
theorem w_or : Run (dOr f g ρ S) Q = Run (f ρ S) (IsB fun b S1 => if b = true then Q (.bl true) S1 else Run (g ρ S1) Q) := by
  unfold dOr
  rw [run_bind]
  congr; funext x S1
  cases x with
  | bl b => cases b <;> rfl
  | _ => rfl
theorem w_not : Run (dNot f ρ S) Q = Run (f ρ S) (IsB fun b S1 => Q (.bl (!b)) S1) := by
  unfold dNot
  rw [run_bind]
  congr; funext x S1
  cases x <;> rfl
theorem w_if : Run (dIf t f g ρ S) Q = Run (t ρ S) fun b S1 => if b = true then Run (f ρ S1) Q else Run (g ρ S1) Q := by
  unfold dIf
  rw [run_bind]
  congr; funext b S1
  rw [run_ite]
theorem s_next : RunS (sNext ρ S) N R = N ρ S := rfl
theorem s_seq : RunS (sSeq b c ρ S) N R = RunS (b ρ S) (fun ρ S => RunS (c ρ S) N R) R := by unfold sSeq; rw [runS_seq]
theorem s_if : RunS (sIf t b c ρ S) N R = Run (t ρ S) fun d S1 => if d = true then RunS (b ρ S1) N R else RunS (c ρ S1) N R := by
  unfold sIf
  rw [runS_toS]
  congr; funext d S1
  rw [runS_ite]
theorem s_ret : RunS (sRet f ρ S) N R = Run (f ρ S) R := by unfold sRet; rw [runS_toS]; rfl
theorem s_drop : RunS (sDrop f ρ S) N R = Run (f ρ S) fun _ S1 => N ρ S1 := by unfold sDrop; rw [runS_toS]; rfl
theorem s_set {i : Nat} : RunS (sSet i f ρ S) N R = Run (f ρ S) fun x S1 => N (ρ.set i (some x)) S1 := by unfold sSet; rw [runS_toS]; rfl
theorem s_par {i j : Nat} : RunS (sPar i j as ρ S) N R = Run (as ρ S) fun xs S1 => match xs with | [x, y] => N ((ρ.set i (some x)).set j (some y)) S1 | _ => False := by
  unfold sPar
  rw [runS_toS]
  congr; funext xs S1
  match xs with
  | [] => rfl
  | [_] => rfl
  | [_, _] => rfl
  | _ :: _ :: _ :: _ => rfl
theorem s_put {fo fi : D} : RunS (sPut fo fi f ρ S) N R = Run (f ρ S) fun x S1 => Run (fo ρ S1) fun o S2 => Run (fi ρ S2) fun i S3 => match setAt o i x S3 with | some S4 => N ρ S4 | none => False := by
  unfold sPut
  rw [runS_toS]
  congr; funext x S1
  rw [runS_toS]
  congr; funext o S2
  rw [runS_toS]
  congr; funext i S3
  cases setAt o i x S3 <;> rfl
theorem s_asg {tg : TgD} : RunS (sAsg tg f ρ S) N R = Run (f ρ S) fun x S1 => match tg x ρ with | some ρ' => N ρ' S1 | none => False := by
  unfold sAsg
  rw [runS_toS]
  congr; funext x S1
  cases tg x ρ <;> rfl
theorem w_var {i : Nat} {v : Val} (h : ρ[i]? = some (some v)) : Run (dVar i ρ S) Q = Q v S := by
  unfold dVar
  rw [h]; rfl
end
end PD

/-! ## PDNew -/
set_option Elab.async false
set_option linter.all false
set_option maxRecDepth 100000
set_option maxHeartbeats 2000000
namespace PD
open PySem PySem.Spec L2

/-! ### a list that is only read + a list -/
theorem list_add_g (l : Addr) (items : Array Value) (n : Nat) (dd : Option Addr) (sl : Array (Option Value)) (b : Addr) (items2 : Array Value) (n2 : Nat) (hc0 : items.size + items2.size ≤ sizeLine) :
    Meets (Builtin.«list.__add__» ⟨[.ref l, .ref b], []⟩) (fun _ R s => s.heap.get? l = some { cls := .type "list", dict := dd, data := .seq items n, slots := sl } ∧ s.heap.get? b = some { cls := .type "list", dict := none, data := .seq items2 n2, slots := #[] } ∧ R (.ok (.ret (Value.ref s.heap.objs.size))) { s with heap := s.heap.push { cls := Value.type "list", data := Data.seq (items ++ items2) }, toks := s.toks }) :=
  .of_wp fun prog w A R s h => by obtain ⟨hp, g, d, tk, os⟩ := s; obtain ⟨hl, hb, h⟩ := h; have f1 := AutoSeq1.idx_int; have f2 := AutoSeq1.sub_tuple_tuple; have f3 := AutoSeq1.sub_list_list; have f4 := AutoSeq1.sub_tuple_list; have f5 := AutoSeq1.sub_list_tuple; wp_walk using AutoSeq1.wpAny_loadPart' hl, AutoSeq1.wpAny_loadPart' hb; exact ⟨_, rfl, h⟩
def rCatK (K : PySem.W.Frag) : L2.R2 := fun x y H Q => ∃ l b xs zs, x = .ref l ∧ y = .ref b ∧ SqL K H l xs ∧ H b = some (.lst zs) ∧ xs.length + zs.length ≤ sizeLine ∧ ∀ p, H p = none → Q (.ref p) (upd H p (.lst (xs ++ zs)))
theorem op_catK {X : Cx} : OpR X (binaryOp .Add) (rCatK X.K) := by
  intro pins s σ H x y v u Q I rx ry h
  obtain ⟨l, b, xs, zs, rfl, rfl, hL, hB, hz, q⟩ := h
  cases rx
  cases ry
  obtain ⟨its, r, ⟨⟨cls, dd, data, sl⟩, n, e, hc, hd, hdt⟩, hz1⟩ := I.list hL
  simp only at hc hd hdt
  subst hc hd hdt
  obtain ⟨z2, its2, n2, r2, hl2, e2⟩ := I.lstM hB
  have hl := r.length
  refine concat_meets ⟨_, e, rfl⟩ ⟨_, e2, rfl⟩ noFill_list_add seq_list_add F.slot_list_add F.entry_list_add (F.args_list_add_2 _ _) (list_add_g l its.toArray n none sl b its2.toArray n2 (by rw [List.size_toArray, List.size_toArray]; omega)) ⟨e, e2, ?_⟩
  have ea : its.toArray ++ its2.toArray = (its ++ its2).toArray := by simp
  rw [ea]
  exact ⟨.ref _, _, I.lnew (t' := s.toks) (r.append r2) (by rw [List.length_append]; omega), rfl, q _ I.fresh⟩
def oAddE : Op2 := fun x y S => match x, y with
  | .kl xs, .ref m => match S[m]? with
    | some (.lst ys) => if xs.length + ys.length ≤ 16777216 then alloc (xs ++ ys) S else .stuck
    | _ => .stuck
  | x, y => oAdd x y S
abbrev rAddE (K : PySem.W.Frag) : L2.R2 := rOr (rAddA K) (rCatK K)
theorem op_addE {X : Cx} : OpR X (binaryOp .Add) (rAddE X.K) := op_addA.or op_catK
section
variable {K : PySem.W.Frag}
theorem ok_addE : OK2 K (rAddE K) oAddE := by
  intro cv ι H S x y u v W Q hh rx ry q
  unfold oAddE at q
  split at q
  · rename_i xs m
    cases rx with
    | kl ha ra =>
      cases ry with
      | ref hm =>
        split at q
        · rename_i ys e2
          split at q
          · rename_i hl
            obtain ⟨ws, rb, hw⟩ := hh.ok _ _ _ hm e2
            refine .inr ⟨_, _, _, ws, rfl, rfl, ha.sq, hw, by rw [← ra.length, ← rb.length, sizeLine_eq]; exact hl, fun p hp => ?_⟩
            refine q _ _ _ (Ext.alloc hp) (hh.alloc hp (ra.append rb)) (.ref ?_)
            rw [← hh.len]; simp
          · exact q.elim
        · exact q.elim
  · exact .inl (ok_add cv ι H S x y u v W Q hh rx ry q)
end
/-! ### a product one side of which is small -/
def oMulE : Op2 := fun x y S => match x, y with
  | .int a, .int b => if a.natAbs < 2 ^ 63 ∨ b.natAbs < 2 ^ 63 ∨ a.natAbs.log2 + b.natAbs.log2 < 1000000 then okI (a * b) S else .stuck
  | _, _ => .stuck
theorem ok_mulE {K : PySem.W.Frag} : OK2 K (rOr (rI CMul fun i j => .int (i * j)) (rI CMulW fun i j => .int (i * j))) oMulE := by
  intro cv ι H S x y u v W Q hh rx ry q
  cases rx with
  | int a =>
    cases ry with
    | int b =>
      have q : Fin ⟨K, cv⟩ W ι H Q (if a.natAbs < 2 ^ 63 ∨ b.natAbs < 2 ^ 63 ∨ a.natAbs.log2 + b.natAbs.log2 < 1000000 then okI (a * b) S else .stuck) := q
      split at q
      · rename_i hc
        have q' := q ι H _ .refl hh (.int _)
        rcases hc with hc | hc | hc
        · exact .inl ⟨a, b, rfl, rfl, .inl (by omega), q'⟩
        · exact .inl ⟨a, b, rfl, rfl, .inr (by omega), q'⟩
        · exact .inr ⟨a, b, rfl, rfl, hc, q'⟩
      · exact q.elim
    | _ => exact q.elim
  | _ => exact q.elim
theorem op_mulE {X : Cx} : OpR X (binaryOp .Mult) (rOr (rI CMul fun i j => .int (i * j)) (rI CMulW fun i j => .int (i * j))) := op_mul.or op_mulW
/-! ### a text times an int -/
def oRepS : Op2 := fun x y S => match x, y with
  | .str z, .int k => if 1 ≤ k ∧ k ≤ 1000000 ∧ z.length = 1 then .ok (.str (Txt.mul z k)) S else .stuck
  | _, _ => .stuck
def rRepS : L2.R2 := fun x y H Q => ∃ z k, x = .str z ∧ y = .int k ∧ 1 ≤ k ∧ k ≤ 1000000 ∧ z.length = 1 ∧ Q (.str (Txt.mul z k)) H
theorem op_repS {X : Cx} : OpR X (binaryOp .Mult) rRepS := by
  intro pins s σ H x y v u Q I rx ry h
  obtain ⟨z, k, rfl, rfl, h1, h2, h3, q⟩ := h
  obtain ⟨t, rfl⟩ := rx
  obtain ⟨t', rfl⟩ := ry
  refine SB.mul ⟨by simp only [Bool.or_eq_false_iff, decide_eq_false_iff_not]; omega, fun _ _ => ?_, fun _ _ => ?_⟩ fun t' k' => ?_
  · rw [h3]
    have : (1 : Int) ≤ (2 ^ 63 - 1) / k := Int.le_ediv_of_mul_le (by omega) (by omega)
    omega
  · rw [h3]
    unfold Builtin.Str.tooLong
    rw [sizeLine_eq]
    exact decide_eq_false (by omega)
  · exact ⟨.str _, H, I.tok _, ⟨_, rfl⟩, q⟩
theorem ok_repS {K : PySem.W.Frag} : OK2 K rRepS oRepS := by
  intro cv ι H S x y u v W Q hh rx ry q
  cases rx with
  | str z =>
    cases ry with
    | int k =>
      have q : Fin ⟨K, cv⟩ W ι H Q (if 1 ≤ k ∧ k ≤ 1000000 ∧ z.length = 1 then .ok (.str (Txt.mul z k)) S else .stuck) := q
      split at q
      · rename_i hc
        exact ⟨z, k, rfl, rfl, hc.1, hc.2.1, hc.2.2, q ι H _ .refl hh (.str _)⟩
      · exact q.elim
    | _ => exact q.elim
  | _ => exact q.elim
/-! ### abs, min of a list, list(..) -/
def bAbs : Fn := fun xs S => match xs with
  | [.int i] => okI (if i < 0 then -i else i) S
  | _ => .stuck
theorem ok_abs {K : PySem.W.Frag} : OKA K (fun xs H Q => ∃ i, xs = [.int i] ∧ Q (.int (if i < 0 then -i else i)) H) bAbs := by
  intro cv ι H S xs us W Q hh rx q
  unfold bAbs at q
  split at q
  · cases rx with
    | cons r1 rr =>
      cases rr
      cases r1
      exact ⟨_, rfl, q ι H _ .refl hh (.int _)⟩
  · exact q.elim
def minI : List Int → Int
  | [] => 0
  | [x] => x
  | x :: y :: r => min x (minI (y :: r))
theorem minI_mem : ∀ {xs : List Int}, xs ≠ [] → minI xs ∈ xs
  | [x], _ => List.mem_cons_self
  | x :: y :: r, _ => by
    have h := minI_mem (xs := y :: r) (by simp)
    show min x (minI (y :: r)) ∈ _
    rcases Int.le_total x (minI (y :: r)) with q | q
    · rw [Int.min_eq_left q]; exact List.mem_cons_self
    · rw [Int.min_eq_right q]; exact List.mem_cons_of_mem _ h
theorem minI_le : ∀ {xs : List Int} {y : Int}, y ∈ xs → minI xs ≤ y
  | [x], y, h => by rw [List.mem_singleton.mp h]; exact Int.le_refl _
  | x :: z :: r, y, h => by
    show min x (minI (z :: r)) ≤ y
    rcases List.mem_cons.mp h with rfl | h
    · exact Int.min_le_left _ _
    · exact Int.le_trans (Int.min_le_right _ _) (minI_le h)
def bMinL : Fn := fun xs S => match xs with
  | [.ref n] => match S[n]? with
    | some c => match allSome (c.items.map asI) with
      | some ns => if ns ≠ [] then okI (minI ns) S else .stuck
      | none => .stuck
    | none => .stuck
  | _ => .stuck
theorem ok_minL {K : PySem.W.Frag} : OKA K (rMin K) bMinL := by
  intro cv ι H S xs us W Q hh rx q
  unfold bMinL at q
  split at q
  · split at q
    · rename_i c ec
      split at q
      · rename_i bs eb
        split at q
        · rename_i hne
          cases rx with
          | cons r1 rr =>
            cases rr
            cases r1 with
            | ref hn =>
              obtain ⟨vs, rr, hq⟩ := (hh.ok _ _ _ hn ec).sq
              have e := rvs_ints rr eb
              subst e
              refine ⟨_, bs, rfl, hq, List.length_pos_iff.mpr hne, fun m hm hle => ?_⟩
              have : m = minI bs := Int.le_antisymm (hle _ (minI_mem hne)) (minI_le hm)
              rw [this]
              exact q ι H _ .refl hh (.int _)
        · exact q.elim
      · exact q.elim
    · exact q.elim
  · exact q.elim
def bListOf : Fn := fun xs S => match xs with
  | [.ref n] => match S[n]? with
    | some c => alloc c.items S
    | none => .stuck
  | [.tup ys] => alloc ys S
  | _ => .stuck
theorem ok_listOf {K : PySem.W.Frag} : OKA K (fun xs H Q => ∃ p ys, xs = [.ref p] ∧ (SqL K H p ys ∨ SqT K H p ys) ∧ ∀ l, H l = none → Q (.ref l) (upd H l (.lst ys))) bListOf := by
  intro cv ι H S xs us W Q hh rx q
  unfold bListOf at q
  split at q
  · split at q
    · rename_i c ec
      cases rx with
      | cons r1 rr =>
        cases rr
        cases r1 with
        | ref hn =>
          obtain ⟨vs, rr, hq⟩ := (hh.ok _ _ _ hn ec).sq
          exact ⟨_, vs, rfl, .inl hq, fun l hl => q _ _ _ (Ext.alloc hl) (hh.alloc hl rr) (.ref (by rw [← hh.len]; simp))⟩
    · exact q.elim
  · cases rx with
    | cons r1 rr =>
      cases rr
      cases r1 with
      | tup ha ra => exact ⟨_, _, rfl, .inr ha, fun l hl => q _ _ _ (Ext.alloc hl) (hh.alloc hl ra) (.ref (by rw [← hh.len]; simp))⟩
  · exact q.elim
/-! ### a comprehension's target of several names -/
theorem wipe_set {σ : L2.St} {i : Nat} {o : Option V} : ∀ {vs : List Nat}, i ∈ vs → wipe (σ.set i o) vs = wipe σ vs
  | v :: vs, h => by
    show (wipe (σ.set i o) vs).set v none = (wipe σ vs).set v none
    by_cases hv : i ∈ vs
    · rw [wipe_set hv]
    · rcases List.mem_cons.mp h with rfl | h
      · have push : ∀ (vs : List Nat), i ∉ vs → wipe (σ.set i o) vs = (wipe σ vs).set i o := fun vs => by
          induction vs with
          | nil => intro _; rfl
          | cons w ws ih =>
            intro hn
            show (wipe (σ.set i o) ws).set w none = ((wipe σ ws).set w none).set i o
            rw [ih (fun z => hn (List.mem_cons_of_mem _ z)), List.set_comm _ _ (fun z => hn (by rw [z]; exact List.mem_cons_self))]
        rw [push vs hv, List.set_set]
      · exact absurd h hv
theorem wipe_wipe (σ : L2.St) : ∀ vs : List Nat, wipe (wipe σ vs) vs = wipe σ vs := fun vs => by
  have gen : ∀ (us : List Nat), (∀ u ∈ us, u ∈ vs) → wipe (wipe σ us) vs = wipe σ vs := fun us => by
    induction us with
    | nil => intro _; rfl
    | cons u us ih =>
      intro h
      show wipe ((wipe σ us).set u none) vs = _
      rw [wipe_set (h u List.mem_cons_self), ih fun w hw => h w (List.mem_cons_of_mem _ hw)]
  exact gen vs fun _ h => h
/-- a target that stores into own names alone -/
def Own (vs : List Nat) (g : TG) : Prop := ∀ (v : V) (σ : L2.St) (H : Hp) (Q : L2.St → Hp → Prop), g v σ H Q → g v σ H fun σ2 H2 => wipe σ2 vs = wipe σ vs ∧ Q σ2 H2
def Owns (vs : List Nat) (g : TGs) : Prop := ∀ (v : List V) (σ : L2.St) (H : Hp) (Q : L2.St → Hp → Prop), g v σ H Q → g v σ H fun σ2 H2 => wipe σ2 vs = wipe σ vs ∧ Q σ2 H2
theorem own_name {i : Nat} {vs : List Nat} (h : i ∈ vs) : Own vs (gName i) := fun v σ H Q q => ⟨wipe_set h, q⟩
theorem owns_nil {vs : List Nat} : Owns vs gNil := fun v σ H Q q => ⟨q.1, rfl, q.2⟩
theorem owns_cons {vs : List Nat} {g : TG} {gs : TGs} (h1 : Own vs g) (h2 : Owns vs gs) (hm : ∀ v σ H (Q Q' : L2.St → Hp → Prop), (∀ a b, Q a b → Q' a b) → g v σ H Q → g v σ H Q') (hm2 : ∀ v σ H (Q Q' : L2.St → Hp → Prop), (∀ a b, Q a b → Q' a b) → gs v σ H Q → gs v σ H Q') : Owns vs (gCons g gs) := fun v σ H Q ⟨x, r, e, q⟩ => by
  refine ⟨x, r, e, hm _ _ _ _ _ (fun σ2 H2 h => ?_) (h1 x σ H _ q)⟩
  exact hm2 _ _ _ _ _ (fun σ3 H3 h3 => ⟨h3.1.trans h.1, h3.2⟩) (h2 r σ2 H2 Q h.2)
theorem own_tup {K : PySem.W.Frag} {vs : List Nat} {n : Nat} {gs : TGs} (h : Owns vs gs) : Own vs (gTup K n gs) := fun v σ H Q ⟨a, xs, e, h1, h2, q⟩ => ⟨a, xs, e, h1, h2, h xs σ H Q q⟩
theorem own_wp {vs : List Nat} {g : TG} (h : Own vs g) : Wp g vs := fun v σ H Q q => by
  have := h v (wipe σ vs) H Q q
  rwa [wipe_wipe] at this
theorem mono_name {i : Nat} : ∀ (v : V) (σ : L2.St) (H : Hp) (Q Q' : L2.St → Hp → Prop), (∀ a b, Q a b → Q' a b) → gName i v σ H Q → gName i v σ H Q' := fun _ _ _ _ _ h q => h _ _ q
theorem mono_nil : ∀ (v : List V) (σ : L2.St) (H : Hp) (Q Q' : L2.St → Hp → Prop), (∀ a b, Q a b → Q' a b) → gNil v σ H Q → gNil v σ H Q' := fun _ _ _ _ _ h q => ⟨q.1, h _ _ q.2⟩
theorem mono_cons {g : TG} {gs : TGs} (hm : ∀ v σ H (Q Q' : L2.St → Hp → Prop), (∀ a b, Q a b → Q' a b) → g v σ H Q → g v σ H Q') (hm2 : ∀ v σ H (Q Q' : L2.St → Hp → Prop), (∀ a b, Q a b → Q' a b) → gs v σ H Q → gs v σ H Q') :
    ∀ (v : List V) (σ : L2.St) (H : Hp) (Q Q' : L2.St → Hp → Prop), (∀ a b, Q a b → Q' a b) → gCons g gs v σ H Q → gCons g gs v σ H Q' := fun v σ H Q Q' h ⟨x, r, e, q⟩ => ⟨x, r, e, hm _ _ _ _ _ (fun a b q => hm2 _ _ _ _ _ h q) q⟩
theorem wp_two {K : PySem.W.Frag} {n i j : Nat} : Wp (gTup K n (gCons (gName i) (gCons (gName j) gNil))) [i, j] :=
  own_wp (own_tup (owns_cons (own_name List.mem_cons_self) (owns_cons (own_name (by simp)) owns_nil mono_name mono_nil) mono_name (mono_cons mono_name mono_nil)))
/-! ### name = [..] -/
section
variable {X : Cx} {cv : Nat → Value} {W : WX} {elt tg iter : Expr} {ifs : List Expr} {scope : Scope} {own : List (Str × Nat)} {pos spos py : Pos} {g : TG} {t : TgD} {c : DT} {e f : D} {i : Nat} {y : Str}
theorem set_td {f : D} {D : Ends} {σ : L2.St} {H : Hp} (h : TSD (Gm X cv) W (sSet i f) D σ H) : TD (Gm X cv) W f σ H fun x H1 => gName i x σ H1 D.nx := by
  obtain ⟨ι, ρ, S, hs, hh, q⟩ := h
  exact ⟨ι, ρ, S, hs, hh, FinS.bind q hs fun x S1 ι1 H1 u e1 h1 r1 q1 => q1.next h1 ((hs.ext e1).set r1 i)⟩
theorem ps_setLcC (hc : X.calm = true) (hN : X.N.Nodup) (hy : X.N[i]? = some y) (hyl : X.env.scope.names.lookup y = some .local) (hsw : swapsWith (.ListComp elt [⟨tg, iter, ifs, 0⟩] scope pos) (some (.Name y py)) spos.line X.env = pure true)
    (hi : PE X iter (TD (Gm X cv) W f)) (L : LcOk X cv elt tg ifs scope own g t c e) (hs : ∀ x, foldedSetIterable iter X.env x = pure x := by intro _; rfl) :
    PS X (.Assign [.Name y py] (.ListComp elt [⟨tg, iter, ifs, 0⟩] scope pos) spos) (TSD (Gm X cv) W (sSet i (dLCC f t c e (own.map (·.2))))) :=
  (ps_setLc hc hN hy hyl hsw (pi_list hi) L.ok L.tg L.ifs L.elt hs).imp fun D σ H h => lcC L.tok L.wp σ H _ (set_td h)
theorem ps_setLcT (hc : X.calm = true) (hN : X.N.Nodup) (hy : X.N[i]? = some y) (hyl : X.env.scope.names.lookup y = some .local) (hsw : swapsWith (.ListComp elt [⟨tg, iter, ifs, 0⟩] scope pos) (some (.Name y py)) spos.line X.env = pure true)
    (hi : PE X iter (TD (Gm X cv) W f)) (L : LcOk X cv elt tg ifs scope own g t c e) (hs : ∀ x, foldedSetIterable iter X.env x = pure x := by intro _; rfl) :
    PS X (.Assign [.Name y py] (.ListComp elt [⟨tg, iter, ifs, 0⟩] scope pos) spos) (TSD (Gm X cv) W (sSet i (dLCT f t c e (own.map (·.2))))) :=
  (ps_setLc hc hN hy hyl hsw (pi_tup hi) L.ok L.tg L.ifs L.elt hs).imp fun D σ H h => lcT L.tok L.wp σ H _ (set_td h)
theorem ps_setLcR {a : Expr} {fa : DA} {p pos2 : Pos} (hc : X.calm = true) (hN : X.N.Nodup) (hy : X.N[i]? = some y) (hyl : X.env.scope.names.lookup y = some .local) (hsw : swapsWith (.ListComp elt [⟨tg, .Call (.Name "range" p) [a] [] pos2, ifs, 0⟩] scope pos) (some (.Name y py)) spos.line X.env = pure true)
    (hgl : Gl X "range") (hm : X.mg "range" = none) (hi : PA X [a] (TDA (Gm X cv) W fa)) (L : LcOk X cv elt tg ifs scope own g t c e)
    (hst : starEach [a] X.env = [(false, eval a X.env)] := by rfl) (hs : ∀ x, foldedSetIterable (.Call (.Name "range" p) [a] [] pos2) X.env x = pure x := by intro _; rfl) :
    PS X (.Assign [.Name y py] (.ListComp elt [⟨tg, .Call (.Name "range" p) [a] [] pos2, ifs, 0⟩] scope pos) spos) (TSD (Gm X cv) W (sSet i (dLCR fa t c e (own.map (·.2))))) :=
  (ps_setLc hc hN hy hyl hsw (pi_range1 hgl hm hi hst) L.ok L.tg L.ifs L.elt hs).imp fun D σ H h => lcR L.tok L.wp σ H _ (set_td h)
end
end PD

/-! ## K01Den -/
set_option Elab.async false
set_option linter.all false
set_option maxRecDepth 100000
set_option maxHeartbeats 4000000
namespace PD.K01
open PySem PySem.Spec L2 PD
def topS (i : Nat) : Stmt := PySem.Challenge.pw_heirstamps_k01_shares_counts_stamps_judg.main.body.getD i (.Pass ⟨0, 0, 0, 0⟩)
abbrev s_tuple_count : Stmt := topS 8
abbrev s_is_share : Stmt := topS 10
abbrev s__is_share_tree : Stmt := topS 11
abbrev s_check_share : Stmt := topS 12
abbrev s_is_path : Stmt := topS 13
abbrev s_check_path : Stmt := topS 14
abbrev s_owned_paths : Stmt := topS 15
abbrev s_paths_had : Stmt := topS 16
abbrev s_least : Stmt := topS 18
abbrev s_greatest : Stmt := topS 19
abbrev s_lifted : Stmt := topS 20
abbrev s_halves : Stmt := topS 21
abbrev s_is_counts : Stmt := topS 23
abbrev s__is_counts_tree : Stmt := topS 24
abbrev s_check_counts : Stmt := topS 25
abbrev s_worth_at : Stmt := topS 26
abbrev s_is_stamp : Stmt := topS 27
abbrev s__law_cup : Stmt := topS 29
abbrev s__law_sip : Stmt := topS 30
abbrev s__law_same : Stmt := topS 31
abbrev s__law_share : Stmt := topS 32
abbrev s__law_counts : Stmt := topS 33
abbrev s__law_long : Stmt := topS 34
abbrev s__law_is_share : Stmt := topS 35
abbrev s__law_is_counts : Stmt := topS 36
abbrev s__law_least : Stmt := topS 37
abbrev s__law_size : Stmt := topS 38
abbrev s__law_bent : Stmt := topS 39
abbrev s__law_door : Stmt := topS 40
abbrev s__law_chain : Stmt := topS 41
abbrev s__law_value_right : Stmt := topS 42
abbrev s_law : Stmt := topS 43
/-! ### the classes of errors by number -/
def mtL : List (Nat × Nat) := [(0, 0), (1, 0), (1, 1), (2, 0), (2, 2), (3, 0), (3, 3)]
def mt (c k : Nat) : Bool := mtL.contains (c, k)
/-! ### the denotations: all defs at once, by the number of calls that may be nested -/
structure Fns where
  tuple_count : Fn
  is_share : Fn
  _is_share_tree : Fn
  check_share : Fn
  is_path : Fn
  check_path : Fn
  owned_paths : Fn
  paths_had : Fn
  least : Fn
  greatest : Fn
  lifted : Fn
  halves : Fn
  is_counts : Fn
  _is_counts_tree : Fn
  check_counts : Fn
  worth_at : Fn
  is_stamp : Fn
  _law_cup : Fn
  _law_sip : Fn
  _law_same : Fn
  _law_share : Fn
  _law_counts : Fn
  _law_long : Fn
  _law_is_share : Fn
  _law_is_counts : Fn
  _law_least : Fn
  _law_size : Fn
  _law_bent : Fn
  _law_door : Fn
  _law_chain : Fn
  _law_value_right : Fn
  law : Fn
def b_tuple_count (p : Fns) : SD := (sSeq (sIf (tVal (dOp oIs (dCall bType (aCons (dVar 0) aNil)) (dC (.ty "int")))) (sRet (dC (.int 0))) sNext)
    (sRet (dOp oAdd (dC (.int 1)) (dCall bSum (aCons (dLCT (dVar 0) (gN 1) tYes' (dCall p.tuple_count (aCons (dVar 1) aNil)) [1]) aNil)))))
def b_is_share (p : Fns) : SD := (sRet (dAnd (dCall p._is_share_tree (aCons (dVar 0) (aCons (dC (.int 12)) aNil))) (dOp oLe (dCall p.tuple_count (aCons (dVar 0) aNil)) (dC (.int 63)))))
def b__is_share_tree (p : Fns) : SD := (sSeq (sIf (tVal (dOp oIs (dCall bType (aCons (dVar 0) aNil)) (dC (.ty "int")))) (sRet (dOr (dOp oEq (dVar 0) (dC (.int 0))) (dOp oEq (dVar 0) (dC (.int 1))))) sNext)
    (sSeq (sIf (tOr' (tVal (dOp oIsNot (dCall bType (aCons (dVar 0) aNil)) (dC (.ty "tuple")))) (tOr' (tVal (dOp oNe (dCall bLen (aCons (dVar 0) aNil)) (dC (.int 2)))) (tVal (dOp oEq (dVar 1) (dC (.int 0)))))) (sRet (dC (.bl false))) sNext)
    (sSeq (sIf (tOr' (tVal (dOp oEq (dVar 0) (dTup (aCons (dC (.int 0)) (aCons (dC (.int 0)) aNil))))) (tVal (dOp oEq (dVar 0) (dTup (aCons (dC (.int 1)) (aCons (dC (.int 1)) aNil)))))) (sRet (dC (.bl false))) sNext)
    (sRet (dAnd (dCall p._is_share_tree (aCons (dOp oIx (dVar 0) (dC (.int 0))) (aCons (dOp oSub (dVar 1) (dC (.int 1))) aNil))) (dCall p._is_share_tree (aCons (dOp oIx (dVar 0) (dC (.int 1))) (aCons (dOp oSub (dVar 1) (dC (.int 1))) aNil))))))))
def b_check_share (p : Fns) : SD := (sIf (tNot' (tVal (dCall p.is_share (aCons (dVar 0) aNil)))) (sRaise 1) sNext)
def b_is_path (p : Fns) : SD := (sSeq (sIf (tOr' (tVal (dOp oIsNot (dCall bType (aCons (dVar 0) aNil)) (dC (.ty "tuple")))) (tVal (dOp oGt (dCall bLen (aCons (dVar 0) aNil)) (dC (.int 12))))) (sRet (dC (.bl false))) sNext)
    (sRet (dCall bAll (aCons (dLCT (dVar 0) (gN 1) tYes' (dAnd (dOp oIs (dCall bType (aCons (dVar 1) aNil)) (dC (.ty "int"))) (dOr (dOp oEq (dVar 1) (dC (.int 0))) (dOp oEq (dVar 1) (dC (.int 1))))) [1]) aNil))))
def b_check_path (p : Fns) : SD := (sIf (tNot' (tVal (dCall p.is_path (aCons (dVar 0) aNil)))) (sRaise 3) sNext)
def b_owned_paths (p : Fns) : SD := (sSeq (sDrop (dCall p.check_share (aCons (dVar 0) aNil)))
    (sRet (dCall p.paths_had (aCons (dVar 0) aNil))))
def b_paths_had (p : Fns) : SD := (sSeq (sIf (tVal (dOp oEq (dVar 0) (dC (.int 0)))) (sRet (dLst aNil)) sNext)
    (sSeq (sIf (tVal (dOp oEq (dVar 0) (dC (.int 1)))) (sRet (dLst (aCons (dTup aNil) aNil))) sNext)
    (sSeq (sSet 1 (dLCC (dCall p.paths_had (aCons (dOp oIx (dVar 0) (dC (.int 0))) aNil)) (gN 2) tYes' (dOp oAdd (dTup (aCons (dC (.int 0)) aNil)) (dVar 2)) [2]))
    (sRet (dOp oAdd (dVar 1) (dLCC (dCall p.paths_had (aCons (dOp oIx (dVar 0) (dC (.int 1))) aNil)) (gN 2) tYes' (dOp oAdd (dTup (aCons (dC (.int 1)) aNil)) (dVar 2)) [2]))))))
def b_least (p : Fns) : SD := (sSeq (sIf (tVal (dOp oIs (dCall bType (aCons (dVar 0) aNil)) (dC (.ty "int")))) (sRet (dVar 0)) sNext)
    (sRet (dOp oIx (dVar 0) (dC (.int 0)))))
def b_greatest (p : Fns) : SD := (sSeq (sIf (tVal (dOp oIs (dCall bType (aCons (dVar 0) aNil)) (dC (.ty "int")))) (sRet (dVar 0)) sNext)
    (sRet (dOp oAdd (dOp oIx (dVar 0) (dC (.int 0))) (dCall bMax2 (aCons (dCall p.greatest (aCons (dOp oIx (dVar 0) (dC (.int 1))) aNil)) (aCons (dCall p.greatest (aCons (dOp oIx (dVar 0) (dC (.int 2))) aNil)) aNil))))))
def b_lifted (p : Fns) : SD := (sSeq (sIf (tVal (dOp oIs (dCall bType (aCons (dVar 0) aNil)) (dC (.ty "int")))) (sRet (dOp oAdd (dVar 0) (dVar 1))) sNext)
    (sRet (dTup (aCons (dOp oAdd (dOp oIx (dVar 0) (dC (.int 0))) (dVar 1)) (aCons (dOp oIx (dVar 0) (dC (.int 1))) (aCons (dOp oIx (dVar 0) (dC (.int 2))) aNil))))))
def b_halves (p : Fns) : SD := (sSeq (sIf (tVal (dOp oIs (dCall bType (aCons (dVar 0) aNil)) (dC (.ty "int")))) (sRet (dTup (aCons (dVar 0) (aCons (dVar 0) aNil)))) sNext)
    (sRet (dTup (aCons (dCall p.lifted (aCons (dOp oIx (dVar 0) (dC (.int 1))) (aCons (dOp oIx (dVar 0) (dC (.int 0))) aNil))) (aCons (dCall p.lifted (aCons (dOp oIx (dVar 0) (dC (.int 2))) (aCons (dOp oIx (dVar 0) (dC (.int 0))) aNil))) aNil)))))
def b_is_counts (p : Fns) : SD := (sRet (dAnd (dCall p._is_counts_tree (aCons (dVar 0) (aCons (dC (.int 12)) aNil))) (dOp oLe (dCall p.tuple_count (aCons (dVar 0) aNil)) (dC (.int 63)))))
def b__is_counts_tree (p : Fns) : SD := (sSeq (sIf (tVal (dOp oIs (dCall bType (aCons (dVar 0) aNil)) (dC (.ty "int")))) (sRet (dOp oGe (dVar 0) (dC (.int 0)))) sNext)
    (sSeq (sIf (tOr' (tVal (dOp oIsNot (dCall bType (aCons (dVar 0) aNil)) (dC (.ty "tuple")))) (tOr' (tVal (dOp oNe (dCall bLen (aCons (dVar 0) aNil)) (dC (.int 3)))) (tVal (dOp oEq (dVar 1) (dC (.int 0)))))) (sRet (dC (.bl false))) sNext)
    (sSeq (sAsg (gT [(gN 2), (gN 3), (gN 4)]) (dVar 0))
    (sSeq (sIf (tOr' (tVal (dOp oIsNot (dCall bType (aCons (dVar 2) aNil)) (dC (.ty "int")))) (tVal (dOp oLt (dVar 2) (dC (.int 0))))) (sRet (dC (.bl false))) sNext)
    (sSeq (sIf (tOr' (tNot' (tVal (dCall p._is_counts_tree (aCons (dVar 3) (aCons (dOp oSub (dVar 1) (dC (.int 1))) aNil))))) (tNot' (tVal (dCall p._is_counts_tree (aCons (dVar 4) (aCons (dOp oSub (dVar 1) (dC (.int 1))) aNil)))))) (sRet (dC (.bl false))) sNext)
    (sSeq (sIf (tAnd' (tVal (dOp oIs (dCall bType (aCons (dVar 3) aNil)) (dC (.ty "int")))) (tVal (dOp oEq (dVar 3) (dVar 4)))) (sRet (dC (.bl false))) sNext)
    (sRet (dOr (dOp oEq (dCall p.least (aCons (dVar 3) aNil)) (dC (.int 0))) (dOp oEq (dCall p.least (aCons (dVar 4) aNil)) (dC (.int 0)))))))))))
def b_check_counts (p : Fns) : SD := (sIf (tNot' (tVal (dCall p.is_counts (aCons (dVar 0) aNil)))) (sRaise 2) sNext)
def b_worth_at (p : Fns) : SD := (sSeq (sDrop (dCall p.check_counts (aCons (dVar 0) aNil)))
    (sSeq (sDrop (dCall p.check_path (aCons (dVar 1) aNil)))
    (sSeq (sSet 2 (dVar 0))
    (sSeq (sForT (dVar 1) (gN 3)
    (sSet 2 (dOp oIx (dCall p.halves (aCons (dVar 2) aNil)) (dVar 3))))
    (sRet (dTup (aCons (dCall p.least (aCons (dVar 2) aNil)) (aCons (dCall p.greatest (aCons (dVar 2) aNil)) aNil))))))))
def b_is_stamp (p : Fns) : SD := (sSeq (sIf (tOr' (tVal (dOp oIsNot (dCall bType (aCons (dVar 0) aNil)) (dC (.ty "tuple")))) (tVal (dOp oNe (dCall bLen (aCons (dVar 0) aNil)) (dC (.int 2))))) (sRet (dC (.bl false))) sNext)
    (sRet (dAnd (dCall p.is_share (aCons (dOp oIx (dVar 0) (dC (.int 0))) aNil)) (dCall p.is_counts (aCons (dOp oIx (dVar 0) (dC (.int 1))) aNil)))))
def b__law_cup (p : Fns) : SD := (sRet (dLst (aCons (dIf (tVal (dOp oGe (dVar 0) (dOp oPow (dC (.int 10)) (dC (.int 18))))) (dOp oSub (dCall bInt (aCons (dVar 0) aNil)) (dOp oPow (dC (.int 10)) (dC (.int 18)))) (dC (.int 0))) (aCons (dOp oAdd (dOp oMod (dCall bInt (aCons (dVar 0) aNil)) (dC (.int 2147483629))) (dC (.int 3))) aNil))))
def b__law_sip (p : Fns) : SD := (sSeq (sIf (tVal (dOp oGt (dOp oIx (dVar 0) (dC (.int 0))) (dC (.int 0)))) (sSeq (sSet 2 (dOp oMod (dCall bInt (aCons (dOp oIx (dVar 0) (dC (.int 0))) aNil)) (dVar 1)))
    (sSeq (sPut (dVar 0) (dC (.int 0)) (dOp oDiv (dOp oIx (dVar 0) (dC (.int 0))) (dVar 1)))
    (sRet (dVar 2)))) sNext)
    (sSeq (sPut (dVar 0) (dC (.int 1)) (dOp oMod (dCall bInt (aCons (dOp oMul (dOp oIx (dVar 0) (dC (.int 1))) (dC (.int 69621))) aNil)) (dC (.int 2147483647))))
    (sRet (dOp oMod (dOp oDiv (dOp oMod (dCall bInt (aCons (dOp oMul (dOp oIx (dVar 0) (dC (.int 1))) (dOp oIx (dVar 0) (dC (.int 1)))) aNil)) (dC (.int 2147483629))) (dC (.int 32))) (dVar 1)))))
def b__law_same (p : Fns) : SD := (sSeq (sIf (tVal (dOp oIs (dVar 1) (dC .non))) (sRet (dOp oIs (dVar 0) (dC .non))) sNext)
    (sSeq (sIf (tVal (dOp oIs (dVar 1) (dC (.bl true)))) (sRet (dOp oIs (dVar 0) (dC (.bl true)))) sNext)
    (sSeq (sIf (tVal (dOp oIs (dVar 1) (dC (.bl false)))) (sRet (dOp oIs (dVar 0) (dC (.bl false)))) sNext)
    (sSeq (sIf (tVal (dCall bIsi (aCons (dVar 1) (aCons (dC (.ty "int")) aNil)))) (sRet (dAnd (dCall bIsi (aCons (dVar 0) (aCons (dC (.ty "int")) aNil))) (dAnd (dNot (dCall bIsi (aCons (dVar 0) (aCons (dC (.ty "bool")) aNil)))) (dOp oEq (dVar 0) (dVar 1))))) sNext)
    (sSeq (sIf (tVal (dCall bIsi (aCons (dVar 1) (aCons (dC (.ty "str")) aNil)))) (sRet (dAnd (dCall bIsi (aCons (dVar 0) (aCons (dC (.ty "str")) aNil))) (dOp oEq (dVar 0) (dVar 1)))) sNext)
    (sSeq (sIf (tOr' (tVal (dOp oNe (dCall bIsi (aCons (dVar 1) (aCons (dC (.ty "tuple")) aNil))) (dCall bIsi (aCons (dVar 0) (aCons (dC (.ty "tuple")) aNil))))) (tVal (dOp oNe (dCall bIsi (aCons (dVar 1) (aCons (dC (.ty "list")) aNil))) (dCall bIsi (aCons (dVar 0) (aCons (dC (.ty "list")) aNil)))))) (sRet (dC (.bl false))) sNext)
    (sSeq (sIf (tVal (dOp oNe (dCall bLen (aCons (dVar 0) aNil)) (dCall bLen (aCons (dVar 1) aNil)))) (sRet (dC (.bl false))) sNext)
    (sRet (dCall bAll (aCons (dLCR (aCons (dCall bLen (aCons (dVar 1) aNil)) aNil) (gN 2) tYes' (dCall p._law_same (aCons (dOp oIx (dVar 0) (dVar 2)) (aCons (dOp oIx (dVar 1) (dVar 2)) aNil))) [2]) aNil))))))))))
def b__law_share (p : Fns) : SD := (sSeq (sIf (tOr' (tVal (dOp oEq (dVar 1) (dC (.int 0)))) (tVal (dOp oEq (dCall p._law_sip (aCons (dVar 0) (aCons (dC (.int 3)) aNil))) (dC (.int 0))))) (sRet (dCall p._law_sip (aCons (dVar 0) (aCons (dC (.int 2)) aNil)))) sNext)
    (sSeq (sPar 2 3 (aCons (dCall p._law_share (aCons (dVar 0) (aCons (dOp oSub (dVar 1) (dC (.int 1))) aNil))) (aCons (dCall p._law_share (aCons (dVar 0) (aCons (dOp oSub (dVar 1) (dC (.int 1))) aNil))) aNil)))
    (sSeq (sIf (tAnd' (tVal (dOp oEq (dVar 2) (dVar 3))) (tVal (dOp oIn (dVar 2) (dTup (aCons (dC (.int 0)) (aCons (dC (.int 1)) aNil)))))) (sSet 3 (dOp oSub (dC (.int 1)) (dVar 2))) sNext)
    (sRet (dTup (aCons (dVar 2) (aCons (dVar 3) aNil)))))))
def b__law_counts (p : Fns) : SD := (sSeq (sSet 2 (dOp oAdd (dOp oIx (dLst (aCons (dOp oPow (dC (.int 10)) (dC (.int 20))) (aCons (dOp oMul (dOp oPow (dC (.int 10)) (dC (.int 60))) (dOp oPow (dC (.int 10)) (dC (.int 28)))) aNil))) (dCall p._law_sip (aCons (dVar 0) (aCons (dC (.int 2)) aNil)))) (dCall p._law_sip (aCons (dVar 0) (aCons (dC (.int 9)) aNil)))))
    (sSeq (sSet 3 (dOp oIx (dLst (aCons (dCall p._law_sip (aCons (dVar 0) (aCons (dC (.int 3)) aNil))) (aCons (dCall p._law_sip (aCons (dVar 0) (aCons (dC (.int 3)) aNil))) (aCons (dCall p._law_sip (aCons (dVar 0) (aCons (dC (.int 40)) aNil))) (aCons (dVar 2) aNil))))) (dCall p._law_sip (aCons (dVar 0) (aCons (dC (.int 4)) aNil)))))
    (sSeq (sIf (tOr' (tVal (dOp oEq (dVar 1) (dC (.int 0)))) (tVal (dOp oEq (dCall p._law_sip (aCons (dVar 0) (aCons (dC (.int 3)) aNil))) (dC (.int 0))))) (sRet (dVar 3)) sNext)
    (sSeq (sPar 4 5 (aCons (dCall p._law_counts (aCons (dVar 0) (aCons (dOp oSub (dVar 1) (dC (.int 1))) aNil))) (aCons (dCall p._law_counts (aCons (dVar 0) (aCons (dOp oSub (dVar 1) (dC (.int 1))) aNil))) aNil)))
    (sSeq (sIf (tVal (dOp oEq (dCall p._law_sip (aCons (dVar 0) (aCons (dC (.int 2)) aNil))) (dC (.int 0)))) (sPar 4 5 (aCons (dVar 5) (aCons (dVar 4) aNil))) sNext)
    (sSeq (sIf (tVal (dCall bIsi (aCons (dVar 4) (aCons (dC (.ty "tuple")) aNil)))) (sSet 4 (dTup (aCons (dC (.int 0)) (aCons (dOp oIx (dVar 4) (dC (.int 1))) (aCons (dOp oIx (dVar 4) (dC (.int 2))) aNil))))) (sSet 4 (dC (.int 0))))
    (sSeq (sIf (tVal (dOp oEq (dVar 5) (dC (.int 0)))) (sSet 5 (dOp oAdd (dC (.int 1)) (dCall p._law_sip (aCons (dVar 0) (aCons (dC (.int 3)) aNil))))) sNext)
    (sSeq (sIf (tVal (dOp oEq (dCall p._law_sip (aCons (dVar 0) (aCons (dC (.int 2)) aNil))) (dC (.int 0)))) (sPar 4 5 (aCons (dVar 5) (aCons (dVar 4) aNil))) sNext)
    (sRet (dTup (aCons (dVar 3) (aCons (dVar 4) (aCons (dVar 5) aNil)))))))))))))
def b__law_long (p : Fns) : SD := (sSeq (sSet 2 (dIf (tNot' (tVal (dVar 1))) (dCall p._law_sip (aCons (dVar 0) (aCons (dC (.int 2)) aNil))) (dCall p._law_sip (aCons (dVar 0) (aCons (dC (.int 5)) aNil)))))
    (sSeq (sIf (tVal (dOp oGt (dCall p._law_sip (aCons (dVar 0) (aCons (dC (.int 3)) aNil))) (dC (.int 0)))) (sSeq (sForR (aCons (dOp oAdd (dC (.int 6)) (dCall p._law_sip (aCons (dVar 0) (aCons (dC (.int 7)) aNil)))) aNil) (gN 3)
    (sSeq (sSet 4 (dCall p._law_sip (aCons (dVar 0) (aCons (dC (.int 2)) aNil))))
    (sSeq (sIf (tAnd' (tNot' (tVal (dCall bIsi (aCons (dVar 2) (aCons (dC (.ty "tuple")) aNil))))) (tNot' (tVal (dVar 1)))) (sSet 4 (dOp oSub (dC (.int 1)) (dVar 2))) sNext)
    (sSeq (sIf (tVal (dVar 1)) (sAsg (gT [(gN 2), (gN 4)]) (dIf (tVal (dOp oNe (dVar 2) (dC (.int 0)))) (dTup (aCons (dVar 2) (aCons (dC (.int 0)) aNil))) (dTup (aCons (dC (.int 1)) (aCons (dC (.int 0)) aNil))))) sNext)
    (sSeq (sIf (tVal (dOp oEq (dCall p._law_sip (aCons (dVar 0) (aCons (dC (.int 2)) aNil))) (dC (.int 0)))) (sPar 2 4 (aCons (dVar 4) (aCons (dVar 2) aNil))) sNext)
    (sSet 2 (dIf (tVal (dVar 1)) (dTup (aCons (dCall p._law_sip (aCons (dVar 0) (aCons (dC (.int 3)) aNil))) (aCons (dVar 2) (aCons (dVar 4) aNil)))) (dTup (aCons (dVar 2) (aCons (dVar 4) aNil))))))))))
    (sRet (dVar 2))) sNext)
    (sSeq (sSet 5 (dIf (tNot' (tVal (dVar 1))) (dOp oIx (dLst (aCons (dC (.int 1)) (aCons (dTup (aCons (dC (.int 0)) (aCons (dC (.int 1)) aNil))) aNil))) (dCall bInt (aCons (dNot (dVar 1)) aNil))) (dTup (aCons (dC (.int 0)) (aCons (dC (.int 0)) (aCons (dC (.int 1)) aNil))))))
    (sSeq (sForR (aCons (dC (.int 5)) aNil) (gN 3)
    (sSet 5 (dIf (tVal (dVar 1)) (dTup (aCons (dC (.int 0)) (aCons (dVar 5) (aCons (dVar 5) aNil)))) (dTup (aCons (dVar 5) (aCons (dVar 5) aNil))))))
    (sRet (dVar 5))))))
def b__law_is_share (p : Fns) : SD := (sSeq (sIf (tNot' (tVal (dCall bIsi (aCons (dVar 0) (aCons (dC (.ty "tuple")) aNil))))) (sRet (dAnd (dCall bIsi (aCons (dVar 0) (aCons (dC (.ty "int")) aNil))) (dAnd (dNot (dCall bIsi (aCons (dVar 0) (aCons (dC (.ty "bool")) aNil)))) (dOp oIn (dVar 0) (dTup (aCons (dC (.int 0)) (aCons (dC (.int 1)) aNil))))))) sNext)
    (sSeq (sIf (tOr' (tVal (dOp oEq (dVar 1) (dC (.int 0)))) (tOr' (tVal (dOp oNe (dCall bLen (aCons (dVar 0) aNil)) (dC (.int 2)))) (tOr' (tNot' (tVal (dCall p._law_is_share (aCons (dOp oIx (dVar 0) (dC (.int 0))) (aCons (dOp oSub (dVar 1) (dC (.int 1))) aNil))))) (tNot' (tVal (dCall p._law_is_share (aCons (dOp oIx (dVar 0) (dC (.int 1))) (aCons (dOp oSub (dVar 1) (dC (.int 1))) aNil)))))))) (sRet (dC (.bl false))) sNext)
    (sRet (dOr (dOp oNe (dOp oIx (dVar 0) (dC (.int 0))) (dOp oIx (dVar 0) (dC (.int 1)))) (dCall bIsi (aCons (dOp oIx (dVar 0) (dC (.int 0))) (aCons (dC (.ty "tuple")) aNil)))))))
def b__law_is_counts (p : Fns) : SD := (sSeq (sIf (tNot' (tVal (dCall bIsi (aCons (dVar 0) (aCons (dC (.ty "tuple")) aNil))))) (sRet (dAnd (dCall bIsi (aCons (dVar 0) (aCons (dC (.ty "int")) aNil))) (dAnd (dNot (dCall bIsi (aCons (dVar 0) (aCons (dC (.ty "bool")) aNil)))) (dOp oGe (dVar 0) (dC (.int 0)))))) sNext)
    (sSeq (sIf (tOr' (tVal (dOp oEq (dVar 1) (dC (.int 0)))) (tOr' (tVal (dOp oNe (dCall bLen (aCons (dVar 0) aNil)) (dC (.int 3)))) (tOr' (tVal (dCall bIsi (aCons (dOp oIx (dVar 0) (dC (.int 0))) (aCons (dC (.ty "tuple")) aNil)))) (tNot' (tVal (dCall p._law_is_counts (aCons (dOp oIx (dVar 0) (dC (.int 0))) (aCons (dC (.int 0)) aNil)))))))) (sRet (dC (.bl false))) sNext)
    (sSeq (sIf (tOr' (tNot' (tVal (dCall p._law_is_counts (aCons (dOp oIx (dVar 0) (dC (.int 1))) (aCons (dOp oSub (dVar 1) (dC (.int 1))) aNil))))) (tNot' (tVal (dCall p._law_is_counts (aCons (dOp oIx (dVar 0) (dC (.int 2))) (aCons (dOp oSub (dVar 1) (dC (.int 1))) aNil)))))) (sRet (dC (.bl false))) sNext)
    (sSeq (sIf (tAnd' (tVal (dOp oGt (dCall p._law_least (aCons (dOp oIx (dVar 0) (dC (.int 1))) aNil)) (dC (.int 0)))) (tVal (dOp oGt (dCall p._law_least (aCons (dOp oIx (dVar 0) (dC (.int 2))) aNil)) (dC (.int 0))))) (sRet (dC (.bl false))) sNext)
    (sRet (dOr (dCall bIsi (aCons (dOp oIx (dVar 0) (dC (.int 1))) (aCons (dC (.ty "tuple")) aNil))) (dOr (dCall bIsi (aCons (dOp oIx (dVar 0) (dC (.int 2))) (aCons (dC (.ty "tuple")) aNil))) (dOp oNe (dOp oIx (dVar 0) (dC (.int 1))) (dOp oIx (dVar 0) (dC (.int 2)))))))))))
def b__law_least (p : Fns) : SD := (sSeq (sIf (tNot' (tVal (dCall bIsi (aCons (dVar 0) (aCons (dC (.ty "tuple")) aNil))))) (sRet (dVar 0)) sNext)
    (sRet (dOp oAdd (dOp oIx (dVar 0) (dC (.int 0))) (dCall bMin2 (aCons (dCall p._law_least (aCons (dOp oIx (dVar 0) (dC (.int 1))) aNil)) (aCons (dCall p._law_least (aCons (dOp oIx (dVar 0) (dC (.int 2))) aNil)) aNil))))))
def b__law_size (p : Fns) : SD := (sSeq (sIf (tNot' (tVal (dCall bIsi (aCons (dVar 0) (aCons (dC (.ty "tuple")) aNil))))) (sRet (dC (.int 0))) sNext)
    (sRet (dOp oAdd (dOp oAdd (dC (.int 1)) (dCall p._law_size (aCons (dOp oIx (dVar 0) (dUn oNeg (dC (.int 2)))) aNil))) (dCall p._law_size (aCons (dOp oIx (dVar 0) (dUn oNeg (dC (.int 1)))) aNil)))))
def b__law_bent (p : Fns) : SD := (sSeq (sIf (tAnd' (tVal (dCall bIsi (aCons (dVar 1) (aCons (dC (.ty "tuple")) aNil)))) (tVal (dOp oGt (dCall p._law_sip (aCons (dVar 0) (aCons (dC (.int 4)) aNil))) (dC (.int 0))))) (sSeq (sSet 3 (dCall p._law_sip (aCons (dVar 0) (aCons (dCall bLen (aCons (dVar 1) aNil)) aNil))))
    (sRet (dOp oAdd (dOp oAdd (dSl (dVar 1) oNone (oSome (dVar 3))) (dTup (aCons (dCall p._law_bent (aCons (dVar 0) (aCons (dOp oIx (dVar 1) (dVar 3)) (aCons (dAnd (dVar 2) (dOp oGt (dVar 3) (dC (.int 0)))) aNil)))) aNil))) (dSl (dVar 1) (oSome (dOp oAdd (dVar 3) (dC (.int 1)))) oNone)))) sNext)
    (sSeq (sSet 4 (dLst (aCons (dC (.int 0)) (aCons (dC (.int 1)) (aCons (dC (.int 2)) (aCons (dUn oNeg (dC (.int 1))) (aCons (dC (.bl true)) (aCons (dC (.bl false)) (aCons (dC .non) (aCons (dC (.str "0")) (aCons (dTup aNil) (aCons (dTup (aCons (dC (.int 0)) (aCons (dC (.int 0)) aNil))) (aCons (dTup (aCons (dC (.int 1)) (aCons (dC (.int 1)) aNil))) (aCons (dTup (aCons (dC (.int 0)) (aCons (dC (.int 1)) aNil))) (aCons (dTup (aCons (dC (.int 1)) (aCons (dC (.int 0)) aNil))) (aCons (dTup (aCons (dC (.int 0)) (aCons (dC (.int 0)) (aCons (dC (.int 1)) aNil)))) (aCons (dTup (aCons (dC (.int 0)) (aCons (dC (.int 1)) (aCons (dC (.int 1)) aNil)))) (aCons (dTup (aCons (dC (.int 0)) (aCons (dC (.int 2)) (aCons (dC (.int 2)) aNil)))) aNil))))))))))))))))))
    (sSeq (sSet 4 (dOp oAdd (dVar 4) (dLst (aCons (dLst (aCons (dC (.int 0)) (aCons (dC (.int 1)) aNil))) (aCons (dLst (aCons (dC (.int 0)) (aCons (dC (.int 0)) (aCons (dC (.int 1)) aNil)))) (aCons (dTup (aCons (dVar 1) (aCons (dVar 1) aNil))) (aCons (dTup (aCons (dC (.int 0)) (aCons (dVar 1) (aCons (dVar 1) aNil)))) (aCons (dTup (aCons (dVar 1) aNil)) (aCons (dLst (aCons (dVar 1) aNil)) (aCons (dOp oPow (dC (.int 10)) (dC (.int 30))) (aCons (dTup (aCons (dC (.int 0)) (aCons (dC (.int 1)) (aCons (dC (.int 0)) (aCons (dC (.int 1)) aNil))))) aNil)))))))))))
    (sSeq (sSet 4 (dOp oAdd (dVar 4) (dLst (aCons (dTup (aCons (dC (.int 1)) (aCons (dC (.int 0)) (aCons (dTup (aCons (dC (.int 0)) (aCons (dC (.int 1)) aNil))) aNil)))) (aCons (dTup (aCons (dC (.bl true)) (aCons (dC (.int 0)) (aCons (dC (.int 1)) aNil)))) (aCons (dTup (aCons (dC (.int 0)) (aCons (dC (.bl true)) aNil))) (aCons (dTup (aCons (dC (.int 0)) (aCons (dTup (aCons (dC (.int 0)) (aCons (dC (.int 0)) aNil))) aNil))) (aCons (dC (.str "1")) aNil))))))))
    (sRet (dOp oIx (dVar 4) (dCall p._law_sip (aCons (dVar 0) (aCons (dC (.int 29)) aNil)))))))))
def b__law_door (p : Fns) : SD := (sSeq (sSet 2 (dC (.str "let")))
    (sSeq (sTry 4 mt (sIf (tVal (dOp oEq (dVar 0) (dC (.int 0)))) (sDrop (dCallK [0] 1 p.owned_paths (aCons (dVar 1) aNil))) (sDrop (dCallK [1, 0] 2 p.worth_at (aCons (dTup aNil) (aCons (dVar 1) aNil)))))
    [(1, (sSet 2 (dC (.str "share")))), (2, (sSet 2 (dC (.str "counts")))), (0, (sSet 2 (dC (.str "other"))))])
    (sRet (dVar 2))))
def b__law_chain (p : Fns) : SD := (sSeq (sSet 1 (dC (.int 1)))
    (sSeq (sForR (aCons (dOp oAdd (dC (.int 11)) (dCall p._law_sip (aCons (dVar 0) (aCons (dC (.int 25)) aNil)))) aNil) (gN 2)
    (sSeq (sSet 3 (dOp oIx (dLst (aCons (dC (.int 0)) (aCons (dC (.int 0)) (aCons (dC (.int 0)) (aCons (dC (.int 1)) (aCons (dC (.int 1)) (aCons (dC (.int 1)) (aCons (dC (.int 2)) aNil)))))))) (dCall p._law_sip (aCons (dVar 0) (aCons (dC (.int 7)) aNil)))))
    (sSet 1 (dOp oIx (dLst (aCons (dTup (aCons (dC (.int 0)) (aCons (dVar 1) aNil))) (aCons (dTup (aCons (dC (.int 0)) (aCons (dC (.int 0)) (aCons (dVar 1) aNil)))) (aCons (dLst (aCons (dVar 1) aNil)) aNil)))) (dVar 3)))))
    (sRet (dVar 1))))
def b__law_value_right (p : Fns) : SD := (sSeq (sSet 2 (dCall bRepr (aCons (dVar 1) aNil)))
    (sSeq (sSet 3 (dLst (aCons (dAnd (dCall p._law_is_share (aCons (dVar 1) (aCons (dC (.int 12)) aNil))) (dOp oLt (dCall p._law_size (aCons (dVar 1) aNil)) (dC (.int 64)))) (aCons (dAnd (dCall p._law_is_counts (aCons (dVar 1) (aCons (dC (.int 12)) aNil))) (dOp oLt (dCall p._law_size (aCons (dVar 1) aNil)) (dC (.int 64)))) aNil))))
    (sSeq (sIf (tNot' (tVal (dCall p._law_same (aCons (dLst (aCons (dCall p.is_share (aCons (dVar 1) aNil)) (aCons (dCall p.is_counts (aCons (dVar 1) aNil)) aNil))) (aCons (dVar 3) aNil))))) (sRet (dC (.bl false))) sNext)
    (sSeq (sIf (tNot' (tVal (dCall p._law_same (aCons (dLst (aCons (dCallK [0] 1 p.is_share (aCons (dVar 1) aNil)) (aCons (dCallK [0] 1 p.is_counts (aCons (dVar 1) aNil)) aNil))) (aCons (dVar 3) aNil))))) (sRet (dC (.bl false))) sNext)
    (sSeq (sSet 4 (dLst (aCons (dOp oIx (dLst (aCons (dC (.str "share")) (aCons (dC (.str "let")) aNil))) (dCall bInt (aCons (dOp oIx (dVar 3) (dC (.int 0))) aNil))) (aCons (dOp oIx (dLst (aCons (dC (.str "counts")) (aCons (dC (.str "let")) aNil))) (dCall bInt (aCons (dOp oIx (dVar 3) (dC (.int 1))) aNil))) aNil))))
    (sSeq (sIf (tVal (dOp oNe (dLst (aCons (dCall p._law_door (aCons (dC (.int 0)) (aCons (dVar 1) aNil))) (aCons (dCall p._law_door (aCons (dC (.int 1)) (aCons (dVar 1) aNil))) aNil))) (dVar 4))) (sRet (dC (.bl false))) sNext)
    (sSeq (sSet 5 (dAnd (dCall p._law_is_share (aCons (dVar 0) (aCons (dC (.int 12)) aNil))) (dAnd (dOp oLt (dCall p._law_size (aCons (dVar 0) aNil)) (dC (.int 64))) (dOp oIx (dVar 3) (dC (.int 1))))))
    (sSeq (sSet 6 (dLst (aCons (dCall p.is_stamp (aCons (dTup (aCons (dVar 0) (aCons (dVar 1) aNil))) aNil)) (aCons (dCallK [0] 1 p.is_stamp (aCons (dTup (aCons (dVar 0) (aCons (dVar 1) aNil))) aNil)) aNil))))
    (sSeq (sSet 6 (dOp oAdd (dVar 6) (dLst (aCons (dCall p.is_stamp (aCons (dLst (aCons (dVar 0) (aCons (dVar 1) aNil))) aNil)) (aCons (dCall p.is_stamp (aCons (dTup (aCons (dVar 0) (aCons (dVar 1) (aCons (dC (.int 0)) aNil)))) aNil)) aNil)))))
    (sRet (dAnd (dCall p._law_same (aCons (dVar 6) (aCons (dLst (aCons (dVar 5) (aCons (dVar 5) (aCons (dC (.bl false)) (aCons (dC (.bl false)) aNil))))) aNil))) (dAnd (dOp oIs (dCall p.is_stamp (aCons (dTup (aCons (dVar 0) aNil)) aNil)) (dC (.bl false))) (dOp oEq (dCall bRepr (aCons (dVar 1) aNil)) (dVar 2))))))))))))))
def st_law_0 (p : Fns) : SD := (sSet 2 (dCall p._law_cup (aCons (dVar 1) aNil)))
def st_law_1 (p : Fns) : SD := (sPar 3 4 (aCons (dCall p._law_share (aCons (dVar 2) (aCons (dC (.int 4)) aNil))) (aCons (dCall p._law_counts (aCons (dVar 2) (aCons (dC (.int 3)) aNil))) aNil)))
def st_law_2 (p : Fns) : SD := (sSet 5 (dCall p._law_long (aCons (dVar 2) (aCons (dC (.bl false)) aNil))))
def st_law_3 (p : Fns) : SD := (sSet 6 (dLst (aCons (dVar 3) (aCons (dVar 4) (aCons (dVar 5) (aCons (dCall p._law_long (aCons (dVar 2) (aCons (dC (.bl true)) aNil))) (aCons (dCall p._law_chain (aCons (dVar 2) aNil)) (aCons (dTup (aCons (dVar 5) (aCons (dVar 5) aNil))) (aCons (dTup (aCons (dC (.int 0)) (aCons (dVar 5) (aCons (dVar 5) aNil)))) (aCons (dOp oRepT (dTup (aCons (dC (.int 0)) aNil)) (dC (.int 2900))) aNil))))))))))
def st_law_4 (p : Fns) : SD := (sSet 7 (dCall p._law_long (aCons (dVar 2) (aCons (dC (.bl true)) aNil))))
def st_law_5 (p : Fns) : SD := (sSet 6 (dOp oAdd (dVar 6) (dLst (aCons (dCall p._law_bent (aCons (dVar 2) (aCons (dVar 7) (aCons (dC (.bl true)) aNil)))) (aCons (dTup (aCons (dC (.int 0)) (aCons (dVar 7) (aCons (dVar 7) aNil)))) aNil)))))
def st_law_6 (p : Fns) : SD := (sIf (tNot' (tVal (dCall p._law_same (aCons (dLCC (dLst (aCons (dC .non) (aCons (dC (.int 0)) (aCons (dC (.str "01")) (aCons (dTup aNil) aNil))))) (gN 8) tYes' (dCall p.is_stamp (aCons (dVar 8) aNil)) [8]) (aCons (dOp oRepL (dLst (aCons (dC (.bl false)) aNil)) (dC (.int 4))) aNil))))) (sRet (dC (.bl false))) sNext)
def st_law_7 (p : Fns) : SD := (sForR (aCons (dC (.int 4)) aNil) (gN 9)
    (sSet 6 (dOp oAdd (dVar 6) (dLst (aCons (dCall p._law_bent (aCons (dVar 2) (aCons (dVar 3) (aCons (dC (.bl false)) aNil)))) (aCons (dCall p._law_bent (aCons (dVar 2) (aCons (dVar 4) (aCons (dC (.bl true)) aNil)))) (aCons (dCall p._law_bent (aCons (dVar 2) (aCons (dVar 5) (aCons (dC (.bl false)) aNil)))) aNil)))))))
def st_law_8 (p : Fns) : SD := (sForC (dOp oAdd (dVar 6) (dLst (aCons (dC .non) (aCons (dC (.str "0")) (aCons (dC (.bl true)) (aCons (dC (.int 0)) (aCons (dC (.int 1)) (aCons (dUn oNeg (dC (.int 1))) aNil)))))))) (gN 10)
    (sIf (tNot' (tVal (dCall p._law_value_right (aCons (dOp oIx (dLst (aCons (dVar 3) (aCons (dC (.int 1)) (aCons (dVar 10) (aCons (dVar 5) (aCons (dVar 4) aNil)))))) (dCall p._law_sip (aCons (dVar 2) (aCons (dC (.int 5)) aNil)))) (aCons (dVar 10) aNil))))) (sRet (dC (.bl false))) sNext))
def b_law (p : Fns) : SD := (sSeq (sForC (dOp oAdd (dLst (aCons (dC (.int 66359386868121849920000000000000000000000494814815315814814821)) aNil)) (dSl (dVar 0) oNone (oSome (dC (.int 5))))) (gN 1)
    (sSeq (st_law_0 p)
    (sSeq (st_law_1 p)
    (sSeq (st_law_2 p)
    (sSeq (st_law_3 p)
    (sSeq (st_law_4 p)
    (sSeq (st_law_5 p)
    (sSeq (st_law_6 p)
    (sSeq (st_law_7 p)
    (st_law_8 p))))))))))
    (sRet (dC (.bl true))))
def fns : Nat → Fns
  | 0 => ⟨stuckF, stuckF, stuckF, stuckF, stuckF, stuckF, stuckF, stuckF, stuckF, stuckF, stuckF, stuckF, stuckF, stuckF, stuckF, stuckF, stuckF, stuckF, stuckF, stuckF, stuckF, stuckF, stuckF, stuckF, stuckF, stuckF, stuckF, stuckF, stuckF, stuckF, stuckF, stuckF⟩
  | n + 1 => ⟨fnOf 1 2 (b_tuple_count (fns n)), fnOf 1 1 (b_is_share (fns n)), fnOf 2 2 (b__is_share_tree (fns n)), fnOf 1 1 (b_check_share (fns n)), fnOf 1 2 (b_is_path (fns n)), fnOf 1 1 (b_check_path (fns n)), fnOf 1 1 (b_owned_paths (fns n)), fnOf 1 3 (b_paths_had (fns n)), fnOf 1 1 (b_least (fns n)), fnOf 1 1 (b_greatest (fns n)), fnOf 2 2 (b_lifted (fns n)), fnOf 1 1 (b_halves (fns n)), fnOf 1 1 (b_is_counts (fns n)), fnOf 2 5 (b__is_counts_tree (fns n)), fnOf 1 1 (b_check_counts (fns n)), fnOf 2 4 (b_worth_at (fns n)), fnOf 1 1 (b_is_stamp (fns n)), fnOf 1 1 (b__law_cup (fns n)), fnOf 2 3 (b__law_sip (fns n)), fnOf 2 3 (b__law_same (fns n)), fnOf 2 4 (b__law_share (fns n)), fnOf 2 6 (b__law_counts (fns n)), fnOf 2 6 (b__law_long (fns n)), fnOf 2 2 (b__law_is_share (fns n)), fnOf 2 2 (b__law_is_counts (fns n)), fnOf 1 1 (b__law_least (fns n)), fnOf 1 1 (b__law_size (fns n)), fnOf 3 5 (b__law_bent (fns n)), fnOf 2 3 (b__law_door (fns n)), fnOf 1 4 (b__law_chain (fns n)), fnOf 2 7 (b__law_value_right (fns n)), fnOf 1 11 (b_law (fns n))⟩
theorem sc_tuple_count : FnScope ["tree", "part"] ["tree"] (defScope s_tuple_count) := ⟨rfl, rfl, rfl, by decide +kernel, rfl, by decide +kernel, by decide +kernel⟩
theorem sc_is_share : FnScope ["value"] ["value"] (defScope s_is_share) := ⟨rfl, rfl, rfl, by decide +kernel, rfl, by decide +kernel, by decide +kernel⟩
theorem sc__is_share_tree : FnScope ["value", "deepest"] ["value", "deepest"] (defScope s__is_share_tree) := ⟨rfl, rfl, rfl, by decide +kernel, rfl, by decide +kernel, by decide +kernel⟩
theorem sc_check_share : FnScope ["value"] ["value"] (defScope s_check_share) := ⟨rfl, rfl, rfl, by decide +kernel, rfl, by decide +kernel, by decide +kernel⟩
theorem sc_is_path : FnScope ["value", "half"] ["value"] (defScope s_is_path) := ⟨rfl, rfl, rfl, by decide +kernel, rfl, by decide +kernel, by decide +kernel⟩
theorem sc_check_path : FnScope ["value"] ["value"] (defScope s_check_path) := ⟨rfl, rfl, rfl, by decide +kernel, rfl, by decide +kernel, by decide +kernel⟩
theorem sc_owned_paths : FnScope ["share"] ["share"] (defScope s_owned_paths) := ⟨rfl, rfl, rfl, by decide +kernel, rfl, by decide +kernel, by decide +kernel⟩
theorem sc_paths_had : FnScope ["share", "left", "path"] ["share"] (defScope s_paths_had) := ⟨rfl, rfl, rfl, by decide +kernel, rfl, by decide +kernel, by decide +kernel⟩
theorem sc_least : FnScope ["counts"] ["counts"] (defScope s_least) := ⟨rfl, rfl, rfl, by decide +kernel, rfl, by decide +kernel, by decide +kernel⟩
theorem sc_greatest : FnScope ["counts"] ["counts"] (defScope s_greatest) := ⟨rfl, rfl, rfl, by decide +kernel, rfl, by decide +kernel, by decide +kernel⟩
theorem sc_lifted : FnScope ["counts", "number"] ["counts", "number"] (defScope s_lifted) := ⟨rfl, rfl, rfl, by decide +kernel, rfl, by decide +kernel, by decide +kernel⟩
theorem sc_halves : FnScope ["counts"] ["counts"] (defScope s_halves) := ⟨rfl, rfl, rfl, by decide +kernel, rfl, by decide +kernel, by decide +kernel⟩
theorem sc_is_counts : FnScope ["value"] ["value"] (defScope s_is_counts) := ⟨rfl, rfl, rfl, by decide +kernel, rfl, by decide +kernel, by decide +kernel⟩
theorem sc__is_counts_tree : FnScope ["value", "deepest", "base", "left", "right"] ["value", "deepest"] (defScope s__is_counts_tree) := ⟨rfl, rfl, rfl, by decide +kernel, rfl, by decide +kernel, by decide +kernel⟩
theorem sc_check_counts : FnScope ["value"] ["value"] (defScope s_check_counts) := ⟨rfl, rfl, rfl, by decide +kernel, rfl, by decide +kernel, by decide +kernel⟩
theorem sc_worth_at : FnScope ["counts", "path", "part", "half"] ["counts", "path"] (defScope s_worth_at) := ⟨rfl, rfl, rfl, by decide +kernel, rfl, by decide +kernel, by decide +kernel⟩
theorem sc_is_stamp : FnScope ["value"] ["value"] (defScope s_is_stamp) := ⟨rfl, rfl, rfl, by decide +kernel, rfl, by decide +kernel, by decide +kernel⟩
theorem sc__law_cup : FnScope ["cell"] ["cell"] (defScope s__law_cup) := ⟨rfl, rfl, rfl, by decide +kernel, rfl, by decide +kernel, by decide +kernel⟩
theorem sc__law_sip : FnScope ["cup", "many", "drop"] ["cup", "many"] (defScope s__law_sip) := ⟨rfl, rfl, rfl, by decide +kernel, rfl, by decide +kernel, by decide +kernel⟩
theorem sc__law_same : FnScope ["found", "due", "k"] ["found", "due"] (defScope s__law_same) := ⟨rfl, rfl, rfl, by decide +kernel, rfl, by decide +kernel, by decide +kernel⟩
theorem sc__law_share : FnScope ["cup", "deep", "left", "right"] ["cup", "deep"] (defScope s__law_share) := ⟨rfl, rfl, rfl, by decide +kernel, rfl, by decide +kernel, by decide +kernel⟩
theorem sc__law_counts : FnScope ["cup", "deep", "great", "number", "left", "right"] ["cup", "deep"] (defScope s__law_counts) := ⟨rfl, rfl, rfl, by decide +kernel, rfl, by decide +kernel, by decide +kernel⟩
theorem sc__law_long : FnScope ["cup", "counts", "found", "turn", "other", "level"] ["cup", "counts"] (defScope s__law_long) := ⟨rfl, rfl, rfl, by decide +kernel, rfl, by decide +kernel, by decide +kernel⟩
theorem sc__law_is_share : FnScope ["value", "deep"] ["value", "deep"] (defScope s__law_is_share) := ⟨rfl, rfl, rfl, by decide +kernel, rfl, by decide +kernel, by decide +kernel⟩
theorem sc__law_is_counts : FnScope ["value", "deep"] ["value", "deep"] (defScope s__law_is_counts) := ⟨rfl, rfl, rfl, by decide +kernel, rfl, by decide +kernel, by decide +kernel⟩
theorem sc__law_least : FnScope ["counts"] ["counts"] (defScope s__law_least) := ⟨rfl, rfl, rfl, by decide +kernel, rfl, by decide +kernel, by decide +kernel⟩
theorem sc__law_size : FnScope ["tree"] ["tree"] (defScope s__law_size) := ⟨rfl, rfl, rfl, by decide +kernel, rfl, by decide +kernel, by decide +kernel⟩
theorem sc__law_bent : FnScope ["cup", "tree", "counts", "at", "odd"] ["cup", "tree", "counts"] (defScope s__law_bent) := ⟨rfl, rfl, rfl, by decide +kernel, rfl, by decide +kernel, by decide +kernel⟩
theorem sc__law_door : FnScope ["door", "value", "found"] ["door", "value"] (defScope s__law_door) := ⟨rfl, rfl, rfl, by decide +kernel, rfl, by decide +kernel, by decide +kernel⟩
theorem sc__law_chain : FnScope ["cup", "deep", "turn", "kind"] ["cup"] (defScope s__law_chain) := ⟨rfl, rfl, rfl, by decide +kernel, rfl, by decide +kernel, by decide +kernel⟩
theorem sc__law_value_right : FnScope ["share", "value", "kept", "dues", "words", "due", "told"] ["share", "value"] (defScope s__law_value_right) := ⟨rfl, rfl, rfl, by decide +kernel, rfl, by decide +kernel, by decide +kernel⟩
theorem sc_law : FnScope ["script", "cell", "cup", "share", "counts", "wide", "some", "long", "one", "turn", "value"] ["script"] (defScope s_law) := ⟨rfl, rfl, rfl, by decide +kernel, rfl, by decide +kernel, by decide +kernel⟩
/-- what the top has left -/
structure Txt (K : PySem.W.Frag) (mg : Str → Option Value) where
  a_tuple_count : Addr
  d_tuple_count : FuncData
  F_tuple_count : Fun K "tuple_count" "tuple_count" s_tuple_count a_tuple_count d_tuple_count
  m_tuple_count : mg "tuple_count" = some (.ref a_tuple_count)
  b_tuple_count : Binds K d_tuple_count ["tree"] []
  a_is_share : Addr
  d_is_share : FuncData
  F_is_share : Fun K "is_share" "is_share" s_is_share a_is_share d_is_share
  m_is_share : mg "is_share" = some (.ref a_is_share)
  b_is_share : Binds K d_is_share ["value"] []
  a__is_share_tree : Addr
  d__is_share_tree : FuncData
  F__is_share_tree : Fun K "_is_share_tree" "_is_share_tree" s__is_share_tree a__is_share_tree d__is_share_tree
  m__is_share_tree : mg "_is_share_tree" = some (.ref a__is_share_tree)
  b__is_share_tree : Binds K d__is_share_tree ["value", "deepest"] []
  a_check_share : Addr
  d_check_share : FuncData
  F_check_share : Fun K "check_share" "check_share" s_check_share a_check_share d_check_share
  m_check_share : mg "check_share" = some (.ref a_check_share)
  b_check_share : Binds K d_check_share ["value"] []
  a_is_path : Addr
  d_is_path : FuncData
  F_is_path : Fun K "is_path" "is_path" s_is_path a_is_path d_is_path
  m_is_path : mg "is_path" = some (.ref a_is_path)
  b_is_path : Binds K d_is_path ["value"] []
  a_check_path : Addr
  d_check_path : FuncData
  F_check_path : Fun K "check_path" "check_path" s_check_path a_check_path d_check_path
  m_check_path : mg "check_path" = some (.ref a_check_path)
  b_check_path : Binds K d_check_path ["value"] []
  a_owned_paths : Addr
  d_owned_paths : FuncData
  F_owned_paths : Fun K "owned_paths" "owned_paths" s_owned_paths a_owned_paths d_owned_paths
  m_owned_paths : mg "owned_paths" = some (.ref a_owned_paths)
  b_owned_paths : Binds K d_owned_paths ["share"] []
  a_paths_had : Addr
  d_paths_had : FuncData
  F_paths_had : Fun K "paths_had" "paths_had" s_paths_had a_paths_had d_paths_had
  m_paths_had : mg "paths_had" = some (.ref a_paths_had)
  b_paths_had : Binds K d_paths_had ["share"] []
  a_least : Addr
  d_least : FuncData
  F_least : Fun K "least" "least" s_least a_least d_least
  m_least : mg "least" = some (.ref a_least)
  b_least : Binds K d_least ["counts"] []
  a_greatest : Addr
  d_greatest : FuncData
  F_greatest : Fun K "greatest" "greatest" s_greatest a_greatest d_greatest
  m_greatest : mg "greatest" = some (.ref a_greatest)
  b_greatest : Binds K d_greatest ["counts"] []
  a_lifted : Addr
  d_lifted : FuncData
  F_lifted : Fun K "lifted" "lifted" s_lifted a_lifted d_lifted
  m_lifted : mg "lifted" = some (.ref a_lifted)
  b_lifted : Binds K d_lifted ["counts", "number"] []
  a_halves : Addr
  d_halves : FuncData
  F_halves : Fun K "halves" "halves" s_halves a_halves d_halves
  m_halves : mg "halves" = some (.ref a_halves)
  b_halves : Binds K d_halves ["counts"] []
  a_is_counts : Addr
  d_is_counts : FuncData
  F_is_counts : Fun K "is_counts" "is_counts" s_is_counts a_is_counts d_is_counts
  m_is_counts : mg "is_counts" = some (.ref a_is_counts)
  b_is_counts : Binds K d_is_counts ["value"] []
  a__is_counts_tree : Addr
  d__is_counts_tree : FuncData
  F__is_counts_tree : Fun K "_is_counts_tree" "_is_counts_tree" s__is_counts_tree a__is_counts_tree d__is_counts_tree
  m__is_counts_tree : mg "_is_counts_tree" = some (.ref a__is_counts_tree)
  b__is_counts_tree : Binds K d__is_counts_tree ["value", "deepest"] []
  a_check_counts : Addr
  d_check_counts : FuncData
  F_check_counts : Fun K "check_counts" "check_counts" s_check_counts a_check_counts d_check_counts
  m_check_counts : mg "check_counts" = some (.ref a_check_counts)
  b_check_counts : Binds K d_check_counts ["value"] []
  a_worth_at : Addr
  d_worth_at : FuncData
  F_worth_at : Fun K "worth_at" "worth_at" s_worth_at a_worth_at d_worth_at
  m_worth_at : mg "worth_at" = some (.ref a_worth_at)
  b_worth_at : Binds K d_worth_at ["counts", "path"] []
  a_is_stamp : Addr
  d_is_stamp : FuncData
  F_is_stamp : Fun K "is_stamp" "is_stamp" s_is_stamp a_is_stamp d_is_stamp
  m_is_stamp : mg "is_stamp" = some (.ref a_is_stamp)
  b_is_stamp : Binds K d_is_stamp ["value"] []
  a__law_cup : Addr
  d__law_cup : FuncData
  F__law_cup : Fun K "_law_cup" "_law_cup" s__law_cup a__law_cup d__law_cup
  m__law_cup : mg "_law_cup" = some (.ref a__law_cup)
  b__law_cup : Binds K d__law_cup ["cell"] []
  a__law_sip : Addr
  d__law_sip : FuncData
  F__law_sip : Fun K "_law_sip" "_law_sip" s__law_sip a__law_sip d__law_sip
  m__law_sip : mg "_law_sip" = some (.ref a__law_sip)
  b__law_sip : Binds K d__law_sip ["cup", "many"] []
  a__law_same : Addr
  d__law_same : FuncData
  F__law_same : Fun K "_law_same" "_law_same" s__law_same a__law_same d__law_same
  m__law_same : mg "_law_same" = some (.ref a__law_same)
  b__law_same : Binds K d__law_same ["found", "due"] []
  a__law_share : Addr
  d__law_share : FuncData
  F__law_share : Fun K "_law_share" "_law_share" s__law_share a__law_share d__law_share
  m__law_share : mg "_law_share" = some (.ref a__law_share)
  b__law_share : Binds K d__law_share ["cup", "deep"] []
  a__law_counts : Addr
  d__law_counts : FuncData
  F__law_counts : Fun K "_law_counts" "_law_counts" s__law_counts a__law_counts d__law_counts
  m__law_counts : mg "_law_counts" = some (.ref a__law_counts)
  b__law_counts : Binds K d__law_counts ["cup", "deep"] []
  a__law_long : Addr
  d__law_long : FuncData
  F__law_long : Fun K "_law_long" "_law_long" s__law_long a__law_long d__law_long
  m__law_long : mg "_law_long" = some (.ref a__law_long)
  b__law_long : Binds K d__law_long ["cup", "counts"] []
  a__law_is_share : Addr
  d__law_is_share : FuncData
  F__law_is_share : Fun K "_law_is_share" "_law_is_share" s__law_is_share a__law_is_share d__law_is_share
  m__law_is_share : mg "_law_is_share" = some (.ref a__law_is_share)
  b__law_is_share : Binds K d__law_is_share ["value", "deep"] []
  a__law_is_counts : Addr
  d__law_is_counts : FuncData
  F__law_is_counts : Fun K "_law_is_counts" "_law_is_counts" s__law_is_counts a__law_is_counts d__law_is_counts
  m__law_is_counts : mg "_law_is_counts" = some (.ref a__law_is_counts)
  b__law_is_counts : Binds K d__law_is_counts ["value", "deep"] []
  a__law_least : Addr
  d__law_least : FuncData
  F__law_least : Fun K "_law_least" "_law_least" s__law_least a__law_least d__law_least
  m__law_least : mg "_law_least" = some (.ref a__law_least)
  b__law_least : Binds K d__law_least ["counts"] []
  a__law_size : Addr
  d__law_size : FuncData
  F__law_size : Fun K "_law_size" "_law_size" s__law_size a__law_size d__law_size
  m__law_size : mg "_law_size" = some (.ref a__law_size)
  b__law_size : Binds K d__law_size ["tree"] []
  a__law_bent : Addr
  d__law_bent : FuncData
  F__law_bent : Fun K "_law_bent" "_law_bent" s__law_bent a__law_bent d__law_bent
  m__law_bent : mg "_law_bent" = some (.ref a__law_bent)
  b__law_bent : Binds K d__law_bent ["cup", "tree", "counts"] []
  a__law_door : Addr
  d__law_door : FuncData
  F__law_door : Fun K "_law_door" "_law_door" s__law_door a__law_door d__law_door
  m__law_door : mg "_law_door" = some (.ref a__law_door)
  b__law_door : Binds K d__law_door ["door", "value"] []
  a__law_chain : Addr
  d__law_chain : FuncData
  F__law_chain : Fun K "_law_chain" "_law_chain" s__law_chain a__law_chain d__law_chain
  m__law_chain : mg "_law_chain" = some (.ref a__law_chain)
  b__law_chain : Binds K d__law_chain ["cup"] []
  a__law_value_right : Addr
  d__law_value_right : FuncData
  F__law_value_right : Fun K "_law_value_right" "_law_value_right" s__law_value_right a__law_value_right d__law_value_right
  m__law_value_right : mg "_law_value_right" = some (.ref a__law_value_right)
  b__law_value_right : Binds K d__law_value_right ["share", "value"] []
  a_law : Addr
  d_law : FuncData
  F_law : Fun K "law" "law" s_law a_law d_law
  m_law : mg "law" = some (.ref a_law)
  b_law : Binds K d_law ["script"] []
  kb_is_counts_value : KB0 K d_is_counts ["value"] ["value"] [0]
  kb_is_share_value : KB0 K d_is_share ["value"] ["value"] [0]
  kb_is_stamp_value : KB0 K d_is_stamp ["value"] ["value"] [0]
  kb_owned_paths_share : KB0 K d_owned_paths ["share"] ["share"] [0]
  kb_worth_at_path_counts : KB0 K d_worth_at ["counts", "path"] ["path", "counts"] [1, 0]
  g_DEEPEST : ∃ t, mg "DEEPEST" = some (.int 12 t)
  g_MOST_TUPLES : ∃ t, mg "MOST_TUPLES" = some (.int 63 t)
  n_all : mg "all" = none
  n_bool : mg "bool" = none
  n_int : mg "int" = none
  n_isinstance : mg "isinstance" = none
  n_len : mg "len" = none
  n_list : mg "list" = none
  n_max : mg "max" = none
  n_min : mg "min" = none
  n_range : mg "range" = none
  n_repr : mg "repr" = none
  n_str : mg "str" = none
  n_sum : mg "sum" = none
  n_tuple : mg "tuple" = none
  n_type : mg "type" = none
  c_StampError : Addr
  m_StampError : mg "StampError" = some (.ref c_StampError)
  c_InvalidShare : Addr
  m_InvalidShare : mg "InvalidShare" = some (.ref c_InvalidShare)
  c_InvalidCounts : Addr
  m_InvalidCounts : mg "InvalidCounts" = some (.ref c_InvalidCounts)
  c_InvalidPath : Addr
  m_InvalidPath : mg "InvalidPath" = some (.ref c_InvalidPath)
  x_StampError : PySem.W.excIn K c_StampError [.type "ValueError", .type "Exception", .type "BaseException", .type "object"] "ValueError.__new__" = true
  kp_StampError : PySem.W.keepIn K (.ref c_StampError) = true
  sb_StampError : PySem.W.subIn K (.ref c_StampError) (.type "BaseException") = some true
  ty_StampError : PySem.W.typeIn K (.ref c_StampError) = some (.type "type")
  x_InvalidShare : PySem.W.excIn K c_InvalidShare [.type "ValueError", .type "Exception", .type "BaseException", .type "object"] "ValueError.__new__" = true
  kp_InvalidShare : PySem.W.keepIn K (.ref c_InvalidShare) = true
  sb_InvalidShare : PySem.W.subIn K (.ref c_InvalidShare) (.type "BaseException") = some true
  ty_InvalidShare : PySem.W.typeIn K (.ref c_InvalidShare) = some (.type "type")
  x_InvalidCounts : PySem.W.excIn K c_InvalidCounts [.type "ValueError", .type "Exception", .type "BaseException", .type "object"] "ValueError.__new__" = true
  kp_InvalidCounts : PySem.W.keepIn K (.ref c_InvalidCounts) = true
  sb_InvalidCounts : PySem.W.subIn K (.ref c_InvalidCounts) (.type "BaseException") = some true
  ty_InvalidCounts : PySem.W.typeIn K (.ref c_InvalidCounts) = some (.type "type")
  x_InvalidPath : PySem.W.excIn K c_InvalidPath [.type "ValueError", .type "Exception", .type "BaseException", .type "object"] "ValueError.__new__" = true
  kp_InvalidPath : PySem.W.keepIn K (.ref c_InvalidPath) = true
  sb_InvalidPath : PySem.W.subIn K (.ref c_InvalidPath) (.type "BaseException") = some true
  ty_InvalidPath : PySem.W.typeIn K (.ref c_InvalidPath) = some (.type "type")
section
variable {K : PySem.W.Frag} {mg : Str → Option Value}
def Txt.cv (T : Txt K mg) : Nat → Value
  | 0 => .ref T.c_StampError
  | 1 => .ref T.c_InvalidShare
  | 2 => .ref T.c_InvalidCounts
  | 3 => .ref T.c_InvalidPath
  | _ => .none
end
structure TxtC (K : PySem.W.Frag) (mg : Str → Option Value) extends Txt K mg where
  cls : Clss K toTxt.cv 4 mt
def TxtC.cv {K : PySem.W.Frag} {mg : Str → Option Value} (T : TxtC K mg) : Nat → Value := T.toTxt.cv
end PD.K01

/-! ## K01Der -/
set_option Elab.async false
set_option linter.all false
set_option maxRecDepth 100000
set_option maxHeartbeats 4000000
namespace PD.K01
open PySem PySem.Spec L2 PD
/-- all defs keep their promises with n calls -/
structure AllG (P : Program) (w : World) {K : PySem.W.Frag} {mg : Str → Option Value} (base : Heap) (T : TxtC K mg) (n : Nat) : Prop where
  g_tuple_count : FnG P w K mg base n T.a_tuple_count T.d_tuple_count ["tree"] (SpecOf ⟨K, T.cv⟩ (fns n).tuple_count)
  g_is_share : FnG P w K mg base n T.a_is_share T.d_is_share ["value"] (SpecOf ⟨K, T.cv⟩ (fns n).is_share)
  g__is_share_tree : FnG P w K mg base n T.a__is_share_tree T.d__is_share_tree ["value", "deepest"] (SpecOf ⟨K, T.cv⟩ (fns n)._is_share_tree)
  g_check_share : FnG P w K mg base n T.a_check_share T.d_check_share ["value"] (SpecOf ⟨K, T.cv⟩ (fns n).check_share)
  g_is_path : FnG P w K mg base n T.a_is_path T.d_is_path ["value"] (SpecOf ⟨K, T.cv⟩ (fns n).is_path)
  g_check_path : FnG P w K mg base n T.a_check_path T.d_check_path ["value"] (SpecOf ⟨K, T.cv⟩ (fns n).check_path)
  g_owned_paths : FnG P w K mg base n T.a_owned_paths T.d_owned_paths ["share"] (SpecOf ⟨K, T.cv⟩ (fns n).owned_paths)
  g_paths_had : FnG P w K mg base n T.a_paths_had T.d_paths_had ["share"] (SpecOf ⟨K, T.cv⟩ (fns n).paths_had)
  g_least : FnG P w K mg base n T.a_least T.d_least ["counts"] (SpecOf ⟨K, T.cv⟩ (fns n).least)
  g_greatest : FnG P w K mg base n T.a_greatest T.d_greatest ["counts"] (SpecOf ⟨K, T.cv⟩ (fns n).greatest)
  g_lifted : FnG P w K mg base n T.a_lifted T.d_lifted ["counts", "number"] (SpecOf ⟨K, T.cv⟩ (fns n).lifted)
  g_halves : FnG P w K mg base n T.a_halves T.d_halves ["counts"] (SpecOf ⟨K, T.cv⟩ (fns n).halves)
  g_is_counts : FnG P w K mg base n T.a_is_counts T.d_is_counts ["value"] (SpecOf ⟨K, T.cv⟩ (fns n).is_counts)
  g__is_counts_tree : FnG P w K mg base n T.a__is_counts_tree T.d__is_counts_tree ["value", "deepest"] (SpecOf ⟨K, T.cv⟩ (fns n)._is_counts_tree)
  g_check_counts : FnG P w K mg base n T.a_check_counts T.d_check_counts ["value"] (SpecOf ⟨K, T.cv⟩ (fns n).check_counts)
  g_worth_at : FnG P w K mg base n T.a_worth_at T.d_worth_at ["counts", "path"] (SpecOf ⟨K, T.cv⟩ (fns n).worth_at)
  g_is_stamp : FnG P w K mg base n T.a_is_stamp T.d_is_stamp ["value"] (SpecOf ⟨K, T.cv⟩ (fns n).is_stamp)
  g__law_cup : FnG P w K mg base n T.a__law_cup T.d__law_cup ["cell"] (SpecOf ⟨K, T.cv⟩ (fns n)._law_cup)
  g__law_sip : FnG P w K mg base n T.a__law_sip T.d__law_sip ["cup", "many"] (SpecOf ⟨K, T.cv⟩ (fns n)._law_sip)
  g__law_same : FnG P w K mg base n T.a__law_same T.d__law_same ["found", "due"] (SpecOf ⟨K, T.cv⟩ (fns n)._law_same)
  g__law_share : FnG P w K mg base n T.a__law_share T.d__law_share ["cup", "deep"] (SpecOf ⟨K, T.cv⟩ (fns n)._law_share)
  g__law_counts : FnG P w K mg base n T.a__law_counts T.d__law_counts ["cup", "deep"] (SpecOf ⟨K, T.cv⟩ (fns n)._law_counts)
  g__law_long : FnG P w K mg base n T.a__law_long T.d__law_long ["cup", "counts"] (SpecOf ⟨K, T.cv⟩ (fns n)._law_long)
  g__law_is_share : FnG P w K mg base n T.a__law_is_share T.d__law_is_share ["value", "deep"] (SpecOf ⟨K, T.cv⟩ (fns n)._law_is_share)
  g__law_is_counts : FnG P w K mg base n T.a__law_is_counts T.d__law_is_counts ["value", "deep"] (SpecOf ⟨K, T.cv⟩ (fns n)._law_is_counts)
  g__law_least : FnG P w K mg base n T.a__law_least T.d__law_least ["counts"] (SpecOf ⟨K, T.cv⟩ (fns n)._law_least)
  g__law_size : FnG P w K mg base n T.a__law_size T.d__law_size ["tree"] (SpecOf ⟨K, T.cv⟩ (fns n)._law_size)
  g__law_bent : FnG P w K mg base n T.a__law_bent T.d__law_bent ["cup", "tree", "counts"] (SpecOf ⟨K, T.cv⟩ (fns n)._law_bent)
  g__law_door : FnG P w K mg base n T.a__law_door T.d__law_door ["door", "value"] (SpecOf ⟨K, T.cv⟩ (fns n)._law_door)
  g__law_chain : FnG P w K mg base n T.a__law_chain T.d__law_chain ["cup"] (SpecOf ⟨K, T.cv⟩ (fns n)._law_chain)
  g__law_value_right : FnG P w K mg base n T.a__law_value_right T.d__law_value_right ["share", "value"] (SpecOf ⟨K, T.cv⟩ (fns n)._law_value_right)
  g_law : FnG P w K mg base n T.a_law T.d_law ["script"] (SpecOf ⟨K, T.cv⟩ (fns n).law)
theorem u65 {A : Around} {k : Nat} (hr : Room k A) : A.units + 65 < cLine := by have := hr.un; omega
section
variable {P : Program} {w : World} {K : PySem.W.Frag} {mg : Str → Option Value} {base : Heap} {n : Nat}
theorem g_tuple_count (T : TxtC K mg) (G : AllG P w base T n) : FnG P w K mg base (n + 1) T.a_tuple_count T.d_tuple_count ["tree"] (SpecOf ⟨K, T.cv⟩ (fnOf 1 2 (b_tuple_count (fns n)))) :=
  fn_den T.F_tuple_count sc_tuple_count fun cdv A outer s H E hG hr tk po =>
    (ps_cons' (ps_if' (pdt_cmp op_isA ok_isA (pd_callTy call_type1 ok_type (by rfl) T.n_type (by decide +kernel) (pda_cons (pd_var (pv 0)) pda_nil)) (pd_ty (n := "int") rfl T.n_int (by decide +kernel)) (nomark _)) (ps_one' (ps_ret' pd_int)) ps_nil')
    (ps_one' (ps_ret' (pd_op op_addA ok_add pd_int (pd_callB (cr_sum rfl) ok_sum (by rfl) T.n_sum (by decide +kernel) (pda_cons (pd_lcT (own := [("part", 1)]) rfl sc_tuple_count.nd (pd_var (pv 0)) ⟨(blkOk_by (own := [("part", 1)]) (N := ["tree", "part"]) (sc := defScope s_tuple_count) (by decide +kernel)), (fun _ _ _ _ _ => pg_name (i := 1) sc_tuple_count.nd rfl (by first | exact Or.inl rfl | exact Or.inr rfl)), (tg_name _ 1), wipe_name, (fun _ _ _ _ _ => pdts_nil), (fun _ _ _ _ _ => have tk := takes0; (pd_call G.g_tuple_count hG hr rfl T.m_tuple_count T.F_tuple_count.kp T.b_tuple_count tk (pda_cons (pd_var (pv 1)) pda_nil)))⟩) pda_nil))))))
theorem g_is_share (T : TxtC K mg) (G : AllG P w base T n) : FnG P w K mg base (n + 1) T.a_is_share T.d_is_share ["value"] (SpecOf ⟨K, T.cv⟩ (fnOf 1 1 (b_is_share (fns n)))) :=
  fn_den T.F_is_share sc_is_share fun cdv A outer s H E hG hr tk po =>
    (ps_one' (ps_ret' (pd_and (pd_call G.g__is_share_tree hG hr rfl T.m__is_share_tree T.F__is_share_tree.kp T.b__is_share_tree tk (pda_cons (pd_var (pv 0)) (pda_cons (pd_gi rfl T.g_DEEPEST) pda_nil))) (pd_one (pd_cmp op_le ok_int2 (pd_call G.g_tuple_count hG hr rfl T.m_tuple_count T.F_tuple_count.kp T.b_tuple_count tk (pda_cons (pd_var (pv 0)) pda_nil)) (pd_gi rfl T.g_MOST_TUPLES) (nomark _))))))
theorem g__is_share_tree (T : TxtC K mg) (G : AllG P w base T n) : FnG P w K mg base (n + 1) T.a__is_share_tree T.d__is_share_tree ["value", "deepest"] (SpecOf ⟨K, T.cv⟩ (fnOf 2 2 (b__is_share_tree (fns n)))) :=
  fn_den T.F__is_share_tree sc__is_share_tree fun cdv A outer s H E hG hr tk po =>
    (ps_cons' (ps_if' (pdt_cmp op_isA ok_isA (pd_callTy call_type1 ok_type (by rfl) T.n_type (by decide +kernel) (pda_cons (pd_var (pv 0)) pda_nil)) (pd_ty (n := "int") rfl T.n_int (by decide +kernel)) (nomark _)) (ps_one' (ps_ret' (pd_or (pd_cmp (op_eqD hr.units) ok_eq (pd_var (pv 0)) pd_int (nomark _)) (pd_one (pd_cmp (op_eqD hr.units) ok_eq (pd_var (pv 0)) pd_int (nomark _)))))) ps_nil')
    (ps_cons' (ps_if' (PW.pt (pdw_or (pdt_cmp op_isNotA ok_isNotA (pd_callTy call_type1 ok_type (by rfl) T.n_type (by decide +kernel) (pda_cons (pd_var (pv 0)) pda_nil)) (pd_ty (n := "tuple") rfl T.n_tuple (by decide +kernel)) (nomark _)) (pdw_or (pdt_cmp (op_neD hr.units) ok_ne (pd_callB call_len ok_len (by rfl) T.n_len (by decide +kernel) (pda_cons (pd_var (pv 0)) pda_nil)) pd_int (nomark _)) (pdw_one (pdt_cmp (op_eqD hr.units) ok_eq (pd_var (pv 1)) pd_int (nomark _)) (by decide))))) (ps_one' (ps_ret' pd_bl)) ps_nil')
    (ps_cons' (ps_if' (PW.pt (pdw_or (pdt_cmp (op_eqD hr.units) ok_eq (pd_var (pv 0)) (pd_tup (pda_cons pd_int (pda_cons pd_int pda_nil))) (nomark _)) (pdw_one (pdt_cmp (op_eqD hr.units) ok_eq (pd_var (pv 0)) (pd_tup (pda_cons pd_int (pda_cons pd_int pda_nil))) (nomark _)) (by decide)))) (ps_one' (ps_ret' pd_bl)) ps_nil')
    (ps_one' (ps_ret' (pd_and (pd_call G.g__is_share_tree hG hr rfl T.m__is_share_tree T.F__is_share_tree.kp T.b__is_share_tree tk (pda_cons (pd_ix (pd_var (pv 0)) pd_int (fun _ _ => rfl)) (pda_cons (pd_op op_sub ok_sub (pd_var (pv 1)) pd_int) pda_nil))) (pd_one (pd_call G.g__is_share_tree hG hr rfl T.m__is_share_tree T.F__is_share_tree.kp T.b__is_share_tree tk (pda_cons (pd_ix (pd_var (pv 0)) pd_int (fun _ _ => rfl)) (pda_cons (pd_op op_sub ok_sub (pd_var (pv 1)) pd_int) pda_nil))))))))))
theorem g_check_share (T : TxtC K mg) (G : AllG P w base T n) : FnG P w K mg base (n + 1) T.a_check_share T.d_check_share ["value"] (SpecOf ⟨K, T.cv⟩ (fnOf 1 1 (b_check_share (fns n)))) :=
  fn_den T.F_check_share sc_check_share fun cdv A outer s H E hG hr tk po =>
    (ps_one' (ps_if' (pdt_not (pdt_val (pd_call G.g_is_share hG hr rfl T.m_is_share T.F_is_share.kp T.b_is_share tk (pda_cons (pd_var (pv 0)) pda_nil)))) (ps_one' (ps_raise' (c := 1) rfl tk rfl (pmk_own PySem.F.excBase_ValueError T.x_InvalidShare T.m_InvalidShare T.kp_InvalidShare (raises_own T.sb_InvalidShare T.ty_InvalidShare) (by exact rfl)))) ps_nil'))
theorem g_is_path (T : TxtC K mg) (G : AllG P w base T n) : FnG P w K mg base (n + 1) T.a_is_path T.d_is_path ["value"] (SpecOf ⟨K, T.cv⟩ (fnOf 1 2 (b_is_path (fns n)))) :=
  fn_den T.F_is_path sc_is_path fun cdv A outer s H E hG hr tk po =>
    (ps_cons' (ps_if' (PW.pt (pdw_or (pdt_cmp op_isNotA ok_isNotA (pd_callTy call_type1 ok_type (by rfl) T.n_type (by decide +kernel) (pda_cons (pd_var (pv 0)) pda_nil)) (pd_ty (n := "tuple") rfl T.n_tuple (by decide +kernel)) (nomark _)) (pdw_one (pdt_cmp op_gt ok_int2 (pd_callB call_len ok_len (by rfl) T.n_len (by decide +kernel) (pda_cons (pd_var (pv 0)) pda_nil)) (pd_gi rfl T.g_DEEPEST) (nomark _)) (by decide)))) (ps_one' (ps_ret' pd_bl)) ps_nil')
    (ps_one' (ps_ret' (pd_callB (cr_all rfl) ok_all (by rfl) T.n_all (by decide +kernel) (pda_cons (pd_lcT (own := [("half", 1)]) rfl sc_is_path.nd (pd_var (pv 0)) ⟨(blkOk_by (own := [("half", 1)]) (N := ["value", "half"]) (sc := defScope s_is_path) (by decide +kernel)), (fun _ _ _ _ _ => pg_name (i := 1) sc_is_path.nd rfl (by first | exact Or.inl rfl | exact Or.inr rfl)), (tg_name _ 1), wipe_name, (fun _ _ _ _ _ => pdts_nil), (fun _ _ _ _ _ => (pd_and (pd_cmp op_isA ok_isA (pd_callTy call_type1 ok_type (by rfl) T.n_type (by decide +kernel) (pda_cons (pd_var (pv 1)) pda_nil)) (pd_ty (n := "int") rfl T.n_int (by decide +kernel)) (nomark _)) (pd_one (pd_or (pd_cmp (op_eqD hr.units) ok_eq (pd_var (pv 1)) pd_int (nomark _)) (pd_one (pd_cmp (op_eqD hr.units) ok_eq (pd_var (pv 1)) pd_int (nomark _)))))))⟩) pda_nil)))))
theorem g_check_path (T : TxtC K mg) (G : AllG P w base T n) : FnG P w K mg base (n + 1) T.a_check_path T.d_check_path ["value"] (SpecOf ⟨K, T.cv⟩ (fnOf 1 1 (b_check_path (fns n)))) :=
  fn_den T.F_check_path sc_check_path fun cdv A outer s H E hG hr tk po =>
    (ps_one' (ps_if' (pdt_not (pdt_val (pd_call G.g_is_path hG hr rfl T.m_is_path T.F_is_path.kp T.b_is_path tk (pda_cons (pd_var (pv 0)) pda_nil)))) (ps_one' (ps_raise' (c := 3) rfl tk rfl (pmk_own PySem.F.excBase_ValueError T.x_InvalidPath T.m_InvalidPath T.kp_InvalidPath (raises_own T.sb_InvalidPath T.ty_InvalidPath) (by exact rfl)))) ps_nil'))
theorem g_owned_paths (T : TxtC K mg) (G : AllG P w base T n) : FnG P w K mg base (n + 1) T.a_owned_paths T.d_owned_paths ["share"] (SpecOf ⟨K, T.cv⟩ (fnOf 1 1 (b_owned_paths (fns n)))) :=
  fn_den T.F_owned_paths sc_owned_paths fun cdv A outer s H E hG hr tk po =>
    (ps_cons' (ps_expr' (pd_call G.g_check_share hG hr rfl T.m_check_share T.F_check_share.kp T.b_check_share tk (pda_cons (pd_var (pv 0)) pda_nil)))
    (ps_one' (ps_ret' (pd_call G.g_paths_had hG hr rfl T.m_paths_had T.F_paths_had.kp T.b_paths_had tk (pda_cons (pd_var (pv 0)) pda_nil)))))
theorem g_paths_had (T : TxtC K mg) (G : AllG P w base T n) : FnG P w K mg base (n + 1) T.a_paths_had T.d_paths_had ["share"] (SpecOf ⟨K, T.cv⟩ (fnOf 1 3 (b_paths_had (fns n)))) :=
  fn_den T.F_paths_had sc_paths_had fun cdv A outer s H E hG hr tk po =>
    (ps_cons' (ps_if' (pdt_cmp (op_eqD hr.units) ok_eq (pd_var (pv 0)) pd_int (nomark _)) (ps_one' (ps_ret' (pd_lst pda_nil))) ps_nil')
    (ps_cons' (ps_if' (pdt_cmp (op_eqD hr.units) ok_eq (pd_var (pv 0)) pd_int (nomark _)) (ps_one' (ps_ret' (pd_lst (pda_cons (pd_tup pda_nil) pda_nil)))) ps_nil')
    (ps_cons' (ps_setLcC (own := [("path", 2)]) (i := 1) rfl sc_paths_had.nd rfl rfl (sw_true rfl rfl rfl (by decide +kernel)) (pd_call G.g_paths_had hG hr rfl T.m_paths_had T.F_paths_had.kp T.b_paths_had tk (pda_cons (pd_ix (pd_var (pv 0)) pd_int (fun _ _ => rfl)) pda_nil)) ⟨(blkOk_by (own := [("path", 2)]) (N := ["share", "left", "path"]) (sc := defScope s_paths_had) (by decide +kernel)), (fun _ _ _ _ _ => pg_name (i := 2) sc_paths_had.nd rfl (by first | exact Or.inl rfl | exact Or.inr rfl)), (tg_name _ 2), wipe_name, (fun _ _ _ _ _ => pdts_nil), (fun _ _ _ _ _ => (pd_op op_addA ok_add (pd_tup (pda_cons pd_int pda_nil)) (pd_var (pv 2))))⟩)
    (ps_one' (ps_ret' (pd_op op_addA ok_add (pd_var (pv 1)) (pd_lcC (own := [("path", 2)]) rfl sc_paths_had.nd (pd_call G.g_paths_had hG hr rfl T.m_paths_had T.F_paths_had.kp T.b_paths_had tk (pda_cons (pd_ix (pd_var (pv 0)) pd_int (fun _ _ => rfl)) pda_nil)) ⟨(blkOk_by (own := [("path", 2)]) (N := ["share", "left", "path"]) (sc := defScope s_paths_had) (by decide +kernel)), (fun _ _ _ _ _ => pg_name (i := 2) sc_paths_had.nd rfl (by first | exact Or.inl rfl | exact Or.inr rfl)), (tg_name _ 2), wipe_name, (fun _ _ _ _ _ => pdts_nil), (fun _ _ _ _ _ => (pd_op op_addA ok_add (pd_tup (pda_cons pd_int pda_nil)) (pd_var (pv 2))))⟩)))))))
theorem g_least (T : TxtC K mg) (G : AllG P w base T n) : FnG P w K mg base (n + 1) T.a_least T.d_least ["counts"] (SpecOf ⟨K, T.cv⟩ (fnOf 1 1 (b_least (fns n)))) :=
  fn_den T.F_least sc_least fun cdv A outer s H E hG hr tk po =>
    (ps_cons' (ps_if' (pdt_cmp op_isA ok_isA (pd_callTy call_type1 ok_type (by rfl) T.n_type (by decide +kernel) (pda_cons (pd_var (pv 0)) pda_nil)) (pd_ty (n := "int") rfl T.n_int (by decide +kernel)) (nomark _)) (ps_one' (ps_ret' (pd_var (pv 0)))) ps_nil')
    (ps_one' (ps_ret' (pd_ix (pd_var (pv 0)) pd_int (fun _ _ => rfl)))))
theorem g_greatest (T : TxtC K mg) (G : AllG P w base T n) : FnG P w K mg base (n + 1) T.a_greatest T.d_greatest ["counts"] (SpecOf ⟨K, T.cv⟩ (fnOf 1 1 (b_greatest (fns n)))) :=
  fn_den T.F_greatest sc_greatest fun cdv A outer s H E hG hr tk po =>
    (ps_cons' (ps_if' (pdt_cmp op_isA ok_isA (pd_callTy call_type1 ok_type (by rfl) T.n_type (by decide +kernel) (pda_cons (pd_var (pv 0)) pda_nil)) (pd_ty (n := "int") rfl T.n_int (by decide +kernel)) (nomark _)) (ps_one' (ps_ret' (pd_var (pv 0)))) ps_nil')
    (ps_one' (ps_ret' (pd_op op_addA ok_add (pd_ix (pd_var (pv 0)) pd_int (fun _ _ => rfl)) (pd_callB (call_max2 rfl) ok_max2 (by rfl) T.n_max (by decide +kernel) (pda_cons (pd_call G.g_greatest hG hr rfl T.m_greatest T.F_greatest.kp T.b_greatest tk (pda_cons (pd_ix (pd_var (pv 0)) pd_int (fun _ _ => rfl)) pda_nil)) (pda_cons (pd_call G.g_greatest hG hr rfl T.m_greatest T.F_greatest.kp T.b_greatest tk (pda_cons (pd_ix (pd_var (pv 0)) pd_int (fun _ _ => rfl)) pda_nil)) pda_nil)))))))
theorem g_lifted (T : TxtC K mg) (G : AllG P w base T n) : FnG P w K mg base (n + 1) T.a_lifted T.d_lifted ["counts", "number"] (SpecOf ⟨K, T.cv⟩ (fnOf 2 2 (b_lifted (fns n)))) :=
  fn_den T.F_lifted sc_lifted fun cdv A outer s H E hG hr tk po =>
    (ps_cons' (ps_if' (pdt_cmp op_isA ok_isA (pd_callTy call_type1 ok_type (by rfl) T.n_type (by decide +kernel) (pda_cons (pd_var (pv 0)) pda_nil)) (pd_ty (n := "int") rfl T.n_int (by decide +kernel)) (nomark _)) (ps_one' (ps_ret' (pd_op op_addA ok_add (pd_var (pv 0)) (pd_var (pv 1))))) ps_nil')
    (ps_one' (ps_ret' (pd_tup (pda_cons (pd_op op_addA ok_add (pd_ix (pd_var (pv 0)) pd_int (fun _ _ => rfl)) (pd_var (pv 1))) (pda_cons (pd_ix (pd_var (pv 0)) pd_int (fun _ _ => rfl)) (pda_cons (pd_ix (pd_var (pv 0)) pd_int (fun _ _ => rfl)) pda_nil)))))))
theorem g_halves (T : TxtC K mg) (G : AllG P w base T n) : FnG P w K mg base (n + 1) T.a_halves T.d_halves ["counts"] (SpecOf ⟨K, T.cv⟩ (fnOf 1 1 (b_halves (fns n)))) :=
  fn_den T.F_halves sc_halves fun cdv A outer s H E hG hr tk po =>
    (ps_cons' (ps_if' (pdt_cmp op_isA ok_isA (pd_callTy call_type1 ok_type (by rfl) T.n_type (by decide +kernel) (pda_cons (pd_var (pv 0)) pda_nil)) (pd_ty (n := "int") rfl T.n_int (by decide +kernel)) (nomark _)) (ps_one' (ps_ret' (pd_tup (pda_cons (pd_var (pv 0)) (pda_cons (pd_var (pv 0)) pda_nil))))) ps_nil')
    (ps_one' (ps_ret' (pd_tup (pda_cons (pd_call G.g_lifted hG hr rfl T.m_lifted T.F_lifted.kp T.b_lifted tk (pda_cons (pd_ix (pd_var (pv 0)) pd_int (fun _ _ => rfl)) (pda_cons (pd_ix (pd_var (pv 0)) pd_int (fun _ _ => rfl)) pda_nil))) (pda_cons (pd_call G.g_lifted hG hr rfl T.m_lifted T.F_lifted.kp T.b_lifted tk (pda_cons (pd_ix (pd_var (pv 0)) pd_int (fun _ _ => rfl)) (pda_cons (pd_ix (pd_var (pv 0)) pd_int (fun _ _ => rfl)) pda_nil))) pda_nil))))))
theorem g_is_counts (T : TxtC K mg) (G : AllG P w base T n) : FnG P w K mg base (n + 1) T.a_is_counts T.d_is_counts ["value"] (SpecOf ⟨K, T.cv⟩ (fnOf 1 1 (b_is_counts (fns n)))) :=
  fn_den T.F_is_counts sc_is_counts fun cdv A outer s H E hG hr tk po =>
    (ps_one' (ps_ret' (pd_and (pd_call G.g__is_counts_tree hG hr rfl T.m__is_counts_tree T.F__is_counts_tree.kp T.b__is_counts_tree tk (pda_cons (pd_var (pv 0)) (pda_cons (pd_gi rfl T.g_DEEPEST) pda_nil))) (pd_one (pd_cmp op_le ok_int2 (pd_call G.g_tuple_count hG hr rfl T.m_tuple_count T.F_tuple_count.kp T.b_tuple_count tk (pda_cons (pd_var (pv 0)) pda_nil)) (pd_gi rfl T.g_MOST_TUPLES) (nomark _))))))
theorem g__is_counts_tree (T : TxtC K mg) (G : AllG P w base T n) : FnG P w K mg base (n + 1) T.a__is_counts_tree T.d__is_counts_tree ["value", "deepest"] (SpecOf ⟨K, T.cv⟩ (fnOf 2 5 (b__is_counts_tree (fns n)))) :=
  fn_den T.F__is_counts_tree sc__is_counts_tree fun cdv A outer s H E hG hr tk po =>
    (ps_cons' (ps_if' (pdt_cmp op_isA ok_isA (pd_callTy call_type1 ok_type (by rfl) T.n_type (by decide +kernel) (pda_cons (pd_var (pv 0)) pda_nil)) (pd_ty (n := "int") rfl T.n_int (by decide +kernel)) (nomark _)) (ps_one' (ps_ret' (pd_cmp op_ge ok_int2 (pd_var (pv 0)) pd_int (nomark _)))) ps_nil')
    (ps_cons' (ps_if' (PW.pt (pdw_or (pdt_cmp op_isNotA ok_isNotA (pd_callTy call_type1 ok_type (by rfl) T.n_type (by decide +kernel) (pda_cons (pd_var (pv 0)) pda_nil)) (pd_ty (n := "tuple") rfl T.n_tuple (by decide +kernel)) (nomark _)) (pdw_or (pdt_cmp (op_neD hr.units) ok_ne (pd_callB call_len ok_len (by rfl) T.n_len (by decide +kernel) (pda_cons (pd_var (pv 0)) pda_nil)) pd_int (nomark _)) (pdw_one (pdt_cmp (op_eqD hr.units) ok_eq (pd_var (pv 1)) pd_int (nomark _)) (by decide))))) (ps_one' (ps_ret' pd_bl)) ps_nil')
    (ps_cons' (ps_asg' (pd_var (pv 0)) (pg_tup rfl (pgs_cons (pg_name (i := 2) sc__is_counts_tree.nd rfl (by first | exact Or.inl rfl | exact Or.inr rfl)) (pgs_cons (pg_name (i := 3) sc__is_counts_tree.nd rfl (by first | exact Or.inl rfl | exact Or.inr rfl)) (pgs_cons (pg_name (i := 4) sc__is_counts_tree.nd rfl (by first | exact Or.inl rfl | exact Or.inr rfl)) pgs_nil)))) (tg_tup (tgs_cons (tg_name _ 2) (tgs_cons (tg_name _ 3) (tgs_cons (tg_name _ 4) (tgs_nil _)))) rfl))
    (ps_cons' (ps_if' (PW.pt (pdw_or (pdt_cmp op_isNotA ok_isNotA (pd_callTy call_type1 ok_type (by rfl) T.n_type (by decide +kernel) (pda_cons (pd_var (pv 2)) pda_nil)) (pd_ty (n := "int") rfl T.n_int (by decide +kernel)) (nomark _)) (pdw_one (pdt_cmp op_lt ok_int2 (pd_var (pv 2)) pd_int (nomark _)) (by decide)))) (ps_one' (ps_ret' pd_bl)) ps_nil')
    (ps_cons' (ps_if' (PW.pt (pdw_or (pdt_not (pdt_val (pd_call G.g__is_counts_tree hG hr rfl T.m__is_counts_tree T.F__is_counts_tree.kp T.b__is_counts_tree tk (pda_cons (pd_var (pv 3)) (pda_cons (pd_op op_sub ok_sub (pd_var (pv 1)) pd_int) pda_nil))))) (pdw_one (pdt_not (pdt_val (pd_call G.g__is_counts_tree hG hr rfl T.m__is_counts_tree T.F__is_counts_tree.kp T.b__is_counts_tree tk (pda_cons (pd_var (pv 4)) (pda_cons (pd_op op_sub ok_sub (pd_var (pv 1)) pd_int) pda_nil))))) (by decide)))) (ps_one' (ps_ret' pd_bl)) ps_nil')
    (ps_cons' (ps_if' (PW.pt (pdw_and (pdt_cmp op_isA ok_isA (pd_callTy call_type1 ok_type (by rfl) T.n_type (by decide +kernel) (pda_cons (pd_var (pv 3)) pda_nil)) (pd_ty (n := "int") rfl T.n_int (by decide +kernel)) (nomark _)) (pdw_one (pdt_cmp (op_eqD hr.units) ok_eq (pd_var (pv 3)) (pd_var (pv 4)) (nomark _)) (by decide)))) (ps_one' (ps_ret' pd_bl)) ps_nil')
    (ps_one' (ps_ret' (pd_or (pd_cmp (op_eqD hr.units) ok_eq (pd_call G.g_least hG hr rfl T.m_least T.F_least.kp T.b_least tk (pda_cons (pd_var (pv 3)) pda_nil)) pd_int (nomark _)) (pd_one (pd_cmp (op_eqD hr.units) ok_eq (pd_call G.g_least hG hr rfl T.m_least T.F_least.kp T.b_least tk (pda_cons (pd_var (pv 4)) pda_nil)) pd_int (nomark _))))))))))))
theorem g_check_counts (T : TxtC K mg) (G : AllG P w base T n) : FnG P w K mg base (n + 1) T.a_check_counts T.d_check_counts ["value"] (SpecOf ⟨K, T.cv⟩ (fnOf 1 1 (b_check_counts (fns n)))) :=
  fn_den T.F_check_counts sc_check_counts fun cdv A outer s H E hG hr tk po =>
    (ps_one' (ps_if' (pdt_not (pdt_val (pd_call G.g_is_counts hG hr rfl T.m_is_counts T.F_is_counts.kp T.b_is_counts tk (pda_cons (pd_var (pv 0)) pda_nil)))) (ps_one' (ps_raise' (c := 2) rfl tk rfl (pmk_own PySem.F.excBase_ValueError T.x_InvalidCounts T.m_InvalidCounts T.kp_InvalidCounts (raises_own T.sb_InvalidCounts T.ty_InvalidCounts) (by exact rfl)))) ps_nil'))
theorem g_worth_at (T : TxtC K mg) (G : AllG P w base T n) : FnG P w K mg base (n + 1) T.a_worth_at T.d_worth_at ["counts", "path"] (SpecOf ⟨K, T.cv⟩ (fnOf 2 4 (b_worth_at (fns n)))) :=
  fn_den T.F_worth_at sc_worth_at fun cdv A outer s H E hG hr tk po =>
    (ps_cons' (ps_expr' (pd_call G.g_check_counts hG hr rfl T.m_check_counts T.F_check_counts.kp T.b_check_counts tk (pda_cons (pd_var (pv 0)) pda_nil)))
    (ps_cons' (ps_expr' (pd_call G.g_check_path hG hr rfl T.m_check_path T.F_check_path.kp T.b_check_path tk (pda_cons (pd_var (pv 1)) pda_nil)))
    (ps_cons' (ps_set' (i := 2) sc_worth_at.nd rfl (by first | exact Or.inl rfl | exact Or.inr rfl) (pd_var (pv 0)))
    (ps_cons' (ps_forT' po rfl (pd_var (pv 1)) (pg_name (i := 3) sc_worth_at.nd rfl (by first | exact Or.inl rfl | exact Or.inr rfl)) (tg_name _ 3)
    (ps_one' (ps_set' (i := 2) sc_worth_at.nd rfl (by first | exact Or.inl rfl | exact Or.inr rfl) (pd_ix (pd_call G.g_halves hG hr rfl T.m_halves T.F_halves.kp T.b_halves tk (pda_cons (pd_var (pv 2)) pda_nil)) (pd_var (pv 3)) (fun _ _ => rfl)))))
    (ps_one' (ps_ret' (pd_tup (pda_cons (pd_call G.g_least hG hr rfl T.m_least T.F_least.kp T.b_least tk (pda_cons (pd_var (pv 2)) pda_nil)) (pda_cons (pd_call G.g_greatest hG hr rfl T.m_greatest T.F_greatest.kp T.b_greatest tk (pda_cons (pd_var (pv 2)) pda_nil)) pda_nil)))))))))
theorem g_is_stamp (T : TxtC K mg) (G : AllG P w base T n) : FnG P w K mg base (n + 1) T.a_is_stamp T.d_is_stamp ["value"] (SpecOf ⟨K, T.cv⟩ (fnOf 1 1 (b_is_stamp (fns n)))) :=
  fn_den T.F_is_stamp sc_is_stamp fun cdv A outer s H E hG hr tk po =>
    (ps_cons' (ps_if' (PW.pt (pdw_or (pdt_cmp op_isNotA ok_isNotA (pd_callTy call_type1 ok_type (by rfl) T.n_type (by decide +kernel) (pda_cons (pd_var (pv 0)) pda_nil)) (pd_ty (n := "tuple") rfl T.n_tuple (by decide +kernel)) (nomark _)) (pdw_one (pdt_cmp (op_neD hr.units) ok_ne (pd_callB call_len ok_len (by rfl) T.n_len (by decide +kernel) (pda_cons (pd_var (pv 0)) pda_nil)) pd_int (nomark _)) (by decide)))) (ps_one' (ps_ret' pd_bl)) ps_nil')
    (ps_one' (ps_ret' (pd_and (pd_call G.g_is_share hG hr rfl T.m_is_share T.F_is_share.kp T.b_is_share tk (pda_cons (pd_ix (pd_var (pv 0)) pd_int (fun _ _ => rfl)) pda_nil)) (pd_one (pd_call G.g_is_counts hG hr rfl T.m_is_counts T.F_is_counts.kp T.b_is_counts tk (pda_cons (pd_ix (pd_var (pv 0)) pd_int (fun _ _ => rfl)) pda_nil)))))))
theorem g__law_cup (T : TxtC K mg) (G : AllG P w base T n) : FnG P w K mg base (n + 1) T.a__law_cup T.d__law_cup ["cell"] (SpecOf ⟨K, T.cv⟩ (fnOf 1 1 (b__law_cup (fns n)))) :=
  fn_den T.F__law_cup sc__law_cup fun cdv A outer s H E hG hr tk po =>
    (ps_one' (ps_ret' (pd_lst (pda_cons (pd_if (pdt_cmp op_ge ok_int2 (pd_var (pv 0)) (pd_op op_pow ok_pow pd_int pd_int) (nomark _)) (pd_op op_sub ok_sub (pd_callTy call_int1 ok_int (by rfl) T.n_int (by decide +kernel) (pda_cons (pd_var (pv 0)) pda_nil)) (pd_op op_pow ok_pow pd_int pd_int)) pd_int) (pda_cons (pd_op op_addA ok_add (pd_op op_mod ok_mod (pd_callTy call_int1 ok_int (by rfl) T.n_int (by decide +kernel) (pda_cons (pd_var (pv 0)) pda_nil)) pd_int) pd_int) pda_nil)))))
theorem g__law_sip (T : TxtC K mg) (G : AllG P w base T n) : FnG P w K mg base (n + 1) T.a__law_sip T.d__law_sip ["cup", "many"] (SpecOf ⟨K, T.cv⟩ (fnOf 2 3 (b__law_sip (fns n)))) :=
  fn_den T.F__law_sip sc__law_sip fun cdv A outer s H E hG hr tk po =>
    (ps_cons' (ps_if' (pdt_cmp op_gt ok_int2 (pd_ix (pd_var (pv 0)) pd_int (fun _ _ => rfl)) pd_int (nomark _)) (ps_cons' (ps_set' (i := 2) sc__law_sip.nd rfl (by first | exact Or.inl rfl | exact Or.inr rfl) (pd_op op_mod ok_mod (pd_callTy call_int1 ok_int (by rfl) T.n_int (by decide +kernel) (pda_cons (pd_ix (pd_var (pv 0)) pd_int (fun _ _ => rfl)) pda_nil)) (pd_var (pv 1))))
    (ps_cons' (ps_put' (pd_op op_fdivW ok_div (pd_ix (pd_var (pv 0)) pd_int (fun _ _ => rfl)) (pd_var (pv 1))) (pd_var (pv 0)) pd_int)
    (ps_one' (ps_ret' (pd_var (pv 2)))))) ps_nil')
    (ps_cons' (ps_put' (pd_op op_mod ok_mod (pd_callTy call_int1 ok_int (by rfl) T.n_int (by decide +kernel) (pda_cons (pd_op op_mulW ok_mul (pd_ix (pd_var (pv 0)) pd_int (fun _ _ => rfl)) pd_int) pda_nil)) pd_int) (pd_var (pv 0)) pd_int)
    (ps_one' (ps_ret' (pd_op op_mod ok_mod (pd_op op_fdivW ok_div (pd_op op_mod ok_mod (pd_callTy call_int1 ok_int (by rfl) T.n_int (by decide +kernel) (pda_cons (pd_op op_mulW ok_mul (pd_ix (pd_var (pv 0)) pd_int (fun _ _ => rfl)) (pd_ix (pd_var (pv 0)) pd_int (fun _ _ => rfl))) pda_nil)) pd_int) pd_int) (pd_var (pv 1)))))))
theorem g__law_same (T : TxtC K mg) (G : AllG P w base T n) : FnG P w K mg base (n + 1) T.a__law_same T.d__law_same ["found", "due"] (SpecOf ⟨K, T.cv⟩ (fnOf 2 3 (b__law_same (fns n)))) :=
  fn_den T.F__law_same sc__law_same fun cdv A outer s H E hG hr tk po =>
    (ps_cons' (ps_if' (pdt_cmp op_isA ok_isA (pd_var (pv 1)) pd_non (nomark _)) (ps_one' (ps_ret' (pd_cmp op_isA ok_isA (pd_var (pv 0)) pd_non (nomark _)))) ps_nil')
    (ps_cons' (ps_if' (pdt_cmp op_isA ok_isA (pd_var (pv 1)) pd_bl (nomark _)) (ps_one' (ps_ret' (pd_cmp op_isA ok_isA (pd_var (pv 0)) pd_bl (nomark _)))) ps_nil')
    (ps_cons' (ps_if' (pdt_cmp op_isA ok_isA (pd_var (pv 1)) pd_bl (nomark _)) (ps_one' (ps_ret' (pd_cmp op_isA ok_isA (pd_var (pv 0)) pd_bl (nomark _)))) ps_nil')
    (ps_cons' (ps_if' (pdt_val (pd_callB call_isi ok_isi (by rfl) T.n_isinstance (by decide +kernel) (pda_cons (pd_var (pv 1)) (pda_cons (pd_ty (n := "int") rfl T.n_int (by decide +kernel)) pda_nil)))) (ps_one' (ps_ret' (pd_and (pd_callB call_isi ok_isi (by rfl) T.n_isinstance (by decide +kernel) (pda_cons (pd_var (pv 0)) (pda_cons (pd_ty (n := "int") rfl T.n_int (by decide +kernel)) pda_nil))) (pd_and (pd_not (pd_callB call_isi ok_isi (by rfl) T.n_isinstance (by decide +kernel) (pda_cons (pd_var (pv 0)) (pda_cons (pd_ty (n := "bool") rfl T.n_bool (by decide +kernel)) pda_nil)))) (pd_one (pd_cmp (op_eqD hr.units) ok_eq (pd_var (pv 0)) (pd_var (pv 1)) (nomark _))))))) ps_nil')
    (ps_cons' (ps_if' (pdt_val (pd_callB call_isi ok_isi (by rfl) T.n_isinstance (by decide +kernel) (pda_cons (pd_var (pv 1)) (pda_cons (pd_ty (n := "str") rfl T.n_str (by decide +kernel)) pda_nil)))) (ps_one' (ps_ret' (pd_and (pd_callB call_isi ok_isi (by rfl) T.n_isinstance (by decide +kernel) (pda_cons (pd_var (pv 0)) (pda_cons (pd_ty (n := "str") rfl T.n_str (by decide +kernel)) pda_nil))) (pd_one (pd_cmp (op_eqD hr.units) ok_eq (pd_var (pv 0)) (pd_var (pv 1)) (nomark _)))))) ps_nil')
    (ps_cons' (ps_if' (PW.pt (pdw_or (pdt_cmp (op_neD hr.units) ok_ne (pd_callB call_isi ok_isi (by rfl) T.n_isinstance (by decide +kernel) (pda_cons (pd_var (pv 1)) (pda_cons (pd_ty (n := "tuple") rfl T.n_tuple (by decide +kernel)) pda_nil))) (pd_callB call_isi ok_isi (by rfl) T.n_isinstance (by decide +kernel) (pda_cons (pd_var (pv 0)) (pda_cons (pd_ty (n := "tuple") rfl T.n_tuple (by decide +kernel)) pda_nil))) (nomark _)) (pdw_one (pdt_cmp (op_neD hr.units) ok_ne (pd_callB call_isi ok_isi (by rfl) T.n_isinstance (by decide +kernel) (pda_cons (pd_var (pv 1)) (pda_cons (pd_ty (n := "list") rfl T.n_list (by decide +kernel)) pda_nil))) (pd_callB call_isi ok_isi (by rfl) T.n_isinstance (by decide +kernel) (pda_cons (pd_var (pv 0)) (pda_cons (pd_ty (n := "list") rfl T.n_list (by decide +kernel)) pda_nil))) (nomark _)) (by decide)))) (ps_one' (ps_ret' pd_bl)) ps_nil')
    (ps_cons' (ps_if' (pdt_cmp (op_neD hr.units) ok_ne (pd_callB call_len ok_len (by rfl) T.n_len (by decide +kernel) (pda_cons (pd_var (pv 0)) pda_nil)) (pd_callB call_len ok_len (by rfl) T.n_len (by decide +kernel) (pda_cons (pd_var (pv 1)) pda_nil)) (nomark _)) (ps_one' (ps_ret' pd_bl)) ps_nil')
    (ps_one' (ps_ret' (pd_callB (cr_all rfl) ok_all (by rfl) T.n_all (by decide +kernel) (pda_cons (pd_lcR (own := [("k", 2)]) rfl sc__law_same.nd (by rfl) T.n_range (pda_cons (pd_callB call_len ok_len (by rfl) T.n_len (by decide +kernel) (pda_cons (pd_var (pv 1)) pda_nil)) pda_nil) ⟨(blkOk_by (own := [("k", 2)]) (N := ["found", "due", "k"]) (sc := defScope s__law_same) (by decide +kernel)), (fun _ _ _ _ _ => pg_name (i := 2) sc__law_same.nd rfl (by first | exact Or.inl rfl | exact Or.inr rfl)), (tg_name _ 2), wipe_name, (fun _ _ _ _ _ => pdts_nil), (fun _ _ _ _ _ => have tk := takes0; (pd_call G.g__law_same hG hr rfl T.m__law_same T.F__law_same.kp T.b__law_same tk (pda_cons (pd_ix (pd_var (pv 0)) (pd_var (pv 2)) (fun _ _ => rfl)) (pda_cons (pd_ix (pd_var (pv 1)) (pd_var (pv 2)) (fun _ _ => rfl)) pda_nil))))⟩) pda_nil)))))))))))
theorem g__law_share (T : TxtC K mg) (G : AllG P w base T n) : FnG P w K mg base (n + 1) T.a__law_share T.d__law_share ["cup", "deep"] (SpecOf ⟨K, T.cv⟩ (fnOf 2 4 (b__law_share (fns n)))) :=
  fn_den T.F__law_share sc__law_share fun cdv A outer s H E hG hr tk po =>
    (ps_cons' (ps_if' (PW.pt (pdw_or (pdt_cmp (op_eqD hr.units) ok_eq (pd_var (pv 1)) pd_int (nomark _)) (pdw_one (pdt_cmp (op_eqD hr.units) ok_eq (pd_call G.g__law_sip hG hr rfl T.m__law_sip T.F__law_sip.kp T.b__law_sip tk (pda_cons (pd_var (pv 0)) (pda_cons pd_int pda_nil))) pd_int (nomark _)) (by decide)))) (ps_one' (ps_ret' (pd_call G.g__law_sip hG hr rfl T.m__law_sip T.F__law_sip.kp T.b__law_sip tk (pda_cons (pd_var (pv 0)) (pda_cons pd_int pda_nil))))) ps_nil')
    (ps_cons' (ps_par' (i := 2) (j := 3) rfl sc__law_share.nd rfl rfl (by decide) rfl rfl (pda_cons (pd_call G.g__law_share hG hr rfl T.m__law_share T.F__law_share.kp T.b__law_share tk (pda_cons (pd_var (pv 0)) (pda_cons (pd_op op_sub ok_sub (pd_var (pv 1)) pd_int) pda_nil))) (pda_cons (pd_call G.g__law_share hG hr rfl T.m__law_share T.F__law_share.kp T.b__law_share tk (pda_cons (pd_var (pv 0)) (pda_cons (pd_op op_sub ok_sub (pd_var (pv 1)) pd_int) pda_nil))) pda_nil)) (by rfl))
    (ps_cons' (ps_if' (PW.pt (pdw_and (pdt_cmp (op_eqD hr.units) ok_eq (pd_var (pv 2)) (pd_var (pv 3)) (nomark _)) (pdw_one (pdt_cmp (op_inA (u65 hr)) ok_in (pd_var (pv 2)) (pd_tup (pda_cons pd_int (pda_cons pd_int pda_nil))) rfl) (by decide)))) (ps_one' (ps_set' (i := 3) sc__law_share.nd rfl (by first | exact Or.inl rfl | exact Or.inr rfl) (pd_op op_sub ok_sub pd_int (pd_var (pv 2))))) ps_nil')
    (ps_one' (ps_ret' (pd_tup (pda_cons (pd_var (pv 2)) (pda_cons (pd_var (pv 3)) pda_nil))))))))
theorem g__law_counts (T : TxtC K mg) (G : AllG P w base T n) : FnG P w K mg base (n + 1) T.a__law_counts T.d__law_counts ["cup", "deep"] (SpecOf ⟨K, T.cv⟩ (fnOf 2 6 (b__law_counts (fns n)))) :=
  fn_den T.F__law_counts sc__law_counts fun cdv A outer s H E hG hr tk po =>
    (ps_cons' (ps_set' (i := 2) sc__law_counts.nd rfl (by first | exact Or.inl rfl | exact Or.inr rfl) (pd_op op_addA ok_add (pd_ix (pd_lst (pda_cons (pd_op op_pow ok_pow pd_int pd_int) (pda_cons (pd_op op_mulW ok_mul (pd_op op_pow ok_pow pd_int pd_int) (pd_op op_pow ok_pow pd_int pd_int)) pda_nil))) (pd_call G.g__law_sip hG hr rfl T.m__law_sip T.F__law_sip.kp T.b__law_sip tk (pda_cons (pd_var (pv 0)) (pda_cons pd_int pda_nil))) (fun _ _ => rfl)) (pd_call G.g__law_sip hG hr rfl T.m__law_sip T.F__law_sip.kp T.b__law_sip tk (pda_cons (pd_var (pv 0)) (pda_cons pd_int pda_nil)))))
    (ps_cons' (ps_set' (i := 3) sc__law_counts.nd rfl (by first | exact Or.inl rfl | exact Or.inr rfl) (pd_ix (pd_lst (pda_cons (pd_call G.g__law_sip hG hr rfl T.m__law_sip T.F__law_sip.kp T.b__law_sip tk (pda_cons (pd_var (pv 0)) (pda_cons pd_int pda_nil))) (pda_cons (pd_call G.g__law_sip hG hr rfl T.m__law_sip T.F__law_sip.kp T.b__law_sip tk (pda_cons (pd_var (pv 0)) (pda_cons pd_int pda_nil))) (pda_cons (pd_call G.g__law_sip hG hr rfl T.m__law_sip T.F__law_sip.kp T.b__law_sip tk (pda_cons (pd_var (pv 0)) (pda_cons pd_int pda_nil))) (pda_cons (pd_var (pv 2)) pda_nil))))) (pd_call G.g__law_sip hG hr rfl T.m__law_sip T.F__law_sip.kp T.b__law_sip tk (pda_cons (pd_var (pv 0)) (pda_cons pd_int pda_nil))) (fun _ _ => rfl)))
    (ps_cons' (ps_if' (PW.pt (pdw_or (pdt_cmp (op_eqD hr.units) ok_eq (pd_var (pv 1)) pd_int (nomark _)) (pdw_one (pdt_cmp (op_eqD hr.units) ok_eq (pd_call G.g__law_sip hG hr rfl T.m__law_sip T.F__law_sip.kp T.b__law_sip tk (pda_cons (pd_var (pv 0)) (pda_cons pd_int pda_nil))) pd_int (nomark _)) (by decide)))) (ps_one' (ps_ret' (pd_var (pv 3)))) ps_nil')
    (ps_cons' (ps_par' (i := 4) (j := 5) rfl sc__law_counts.nd rfl rfl (by decide) rfl rfl (pda_cons (pd_call G.g__law_counts hG hr rfl T.m__law_counts T.F__law_counts.kp T.b__law_counts tk (pda_cons (pd_var (pv 0)) (pda_cons (pd_op op_sub ok_sub (pd_var (pv 1)) pd_int) pda_nil))) (pda_cons (pd_call G.g__law_counts hG hr rfl T.m__law_counts T.F__law_counts.kp T.b__law_counts tk (pda_cons (pd_var (pv 0)) (pda_cons (pd_op op_sub ok_sub (pd_var (pv 1)) pd_int) pda_nil))) pda_nil)) (by rfl))
    (ps_cons' (ps_if' (pdt_cmp (op_eqD hr.units) ok_eq (pd_call G.g__law_sip hG hr rfl T.m__law_sip T.F__law_sip.kp T.b__law_sip tk (pda_cons (pd_var (pv 0)) (pda_cons pd_int pda_nil))) pd_int (nomark _)) (ps_one' (ps_par' (i := 4) (j := 5) rfl sc__law_counts.nd rfl rfl (by decide) rfl rfl (pda_cons (pd_var (pv 5)) (pda_cons (pd_var (pv 4)) pda_nil)) (by rfl))) ps_nil')
    (ps_cons' (ps_if' (pdt_val (pd_callB call_isi ok_isi (by rfl) T.n_isinstance (by decide +kernel) (pda_cons (pd_var (pv 4)) (pda_cons (pd_ty (n := "tuple") rfl T.n_tuple (by decide +kernel)) pda_nil)))) (ps_one' (ps_set' (i := 4) sc__law_counts.nd rfl (by first | exact Or.inl rfl | exact Or.inr rfl) (pd_tup (pda_cons pd_int (pda_cons (pd_ix (pd_var (pv 4)) pd_int (fun _ _ => rfl)) (pda_cons (pd_ix (pd_var (pv 4)) pd_int (fun _ _ => rfl)) pda_nil)))))) (ps_one' (ps_set' (i := 4) sc__law_counts.nd rfl (by first | exact Or.inl rfl | exact Or.inr rfl) pd_int)))
    (ps_cons' (ps_if' (pdt_cmp (op_eqD hr.units) ok_eq (pd_var (pv 5)) pd_int (nomark _)) (ps_one' (ps_set' (i := 5) sc__law_counts.nd rfl (by first | exact Or.inl rfl | exact Or.inr rfl) (pd_op op_addA ok_add pd_int (pd_call G.g__law_sip hG hr rfl T.m__law_sip T.F__law_sip.kp T.b__law_sip tk (pda_cons (pd_var (pv 0)) (pda_cons pd_int pda_nil)))))) ps_nil')
    (ps_cons' (ps_if' (pdt_cmp (op_eqD hr.units) ok_eq (pd_call G.g__law_sip hG hr rfl T.m__law_sip T.F__law_sip.kp T.b__law_sip tk (pda_cons (pd_var (pv 0)) (pda_cons pd_int pda_nil))) pd_int (nomark _)) (ps_one' (ps_par' (i := 4) (j := 5) rfl sc__law_counts.nd rfl rfl (by decide) rfl rfl (pda_cons (pd_var (pv 5)) (pda_cons (pd_var (pv 4)) pda_nil)) (by rfl))) ps_nil')
    (ps_one' (ps_ret' (pd_tup (pda_cons (pd_var (pv 3)) (pda_cons (pd_var (pv 4)) (pda_cons (pd_var (pv 5)) pda_nil))))))))))))))
theorem g__law_long (T : TxtC K mg) (G : AllG P w base T n) : FnG P w K mg base (n + 1) T.a__law_long T.d__law_long ["cup", "counts"] (SpecOf ⟨K, T.cv⟩ (fnOf 2 6 (b__law_long (fns n)))) :=
  fn_den T.F__law_long sc__law_long fun cdv A outer s H E hG hr tk po =>
    (ps_cons' (ps_set' (i := 2) sc__law_long.nd rfl (by first | exact Or.inl rfl | exact Or.inr rfl) (pd_if (pdt_not (pdt_val (pd_var (pv 1)))) (pd_call G.g__law_sip hG hr rfl T.m__law_sip T.F__law_sip.kp T.b__law_sip tk (pda_cons (pd_var (pv 0)) (pda_cons pd_int pda_nil))) (pd_call G.g__law_sip hG hr rfl T.m__law_sip T.F__law_sip.kp T.b__law_sip tk (pda_cons (pd_var (pv 0)) (pda_cons pd_int pda_nil)))))
    (ps_cons' (ps_if' (pdt_cmp op_gt ok_int2 (pd_call G.g__law_sip hG hr rfl T.m__law_sip T.F__law_sip.kp T.b__law_sip tk (pda_cons (pd_var (pv 0)) (pda_cons pd_int pda_nil))) pd_int (nomark _)) (ps_cons' (ps_forR' po rfl (by rfl) T.n_range (pda_cons (pd_op op_addA ok_add pd_int (pd_call G.g__law_sip hG hr rfl T.m__law_sip T.F__law_sip.kp T.b__law_sip tk (pda_cons (pd_var (pv 0)) (pda_cons pd_int pda_nil)))) pda_nil) (pg_name (i := 3) sc__law_long.nd rfl (by first | exact Or.inl rfl | exact Or.inr rfl)) (tg_name _ 3)
    (ps_cons' (ps_set' (i := 4) sc__law_long.nd rfl (by first | exact Or.inl rfl | exact Or.inr rfl) (pd_call G.g__law_sip hG hr rfl T.m__law_sip T.F__law_sip.kp T.b__law_sip tk (pda_cons (pd_var (pv 0)) (pda_cons pd_int pda_nil))))
    (ps_cons' (ps_if' (PW.pt (pdw_and (pdt_not (pdt_val (pd_callB call_isi ok_isi (by rfl) T.n_isinstance (by decide +kernel) (pda_cons (pd_var (pv 2)) (pda_cons (pd_ty (n := "tuple") rfl T.n_tuple (by decide +kernel)) pda_nil))))) (pdw_one (pdt_not (pdt_val (pd_var (pv 1)))) (by decide)))) (ps_one' (ps_set' (i := 4) sc__law_long.nd rfl (by first | exact Or.inl rfl | exact Or.inr rfl) (pd_op op_sub ok_sub pd_int (pd_var (pv 2))))) ps_nil')
    (ps_cons' (ps_if' (pdt_val (pd_var (pv 1))) (ps_one' (ps_asg' (pd_if (pdt_cmp (op_neD hr.units) ok_ne (pd_var (pv 2)) pd_int (nomark _)) (pd_tup (pda_cons (pd_var (pv 2)) (pda_cons pd_int pda_nil))) (pd_tup (pda_cons pd_int (pda_cons pd_int pda_nil)))) (pg_tup rfl (pgs_cons (pg_name (i := 2) sc__law_long.nd rfl (by first | exact Or.inl rfl | exact Or.inr rfl)) (pgs_cons (pg_name (i := 4) sc__law_long.nd rfl (by first | exact Or.inl rfl | exact Or.inr rfl)) pgs_nil))) (tg_tup (tgs_cons (tg_name _ 2) (tgs_cons (tg_name _ 4) (tgs_nil _))) rfl))) ps_nil')
    (ps_cons' (ps_if' (pdt_cmp (op_eqD hr.units) ok_eq (pd_call G.g__law_sip hG hr rfl T.m__law_sip T.F__law_sip.kp T.b__law_sip tk (pda_cons (pd_var (pv 0)) (pda_cons pd_int pda_nil))) pd_int (nomark _)) (ps_one' (ps_par' (i := 2) (j := 4) rfl sc__law_long.nd rfl rfl (by decide) rfl rfl (pda_cons (pd_var (pv 4)) (pda_cons (pd_var (pv 2)) pda_nil)) (by rfl))) ps_nil')
    (ps_one' (ps_set' (i := 2) sc__law_long.nd rfl (by first | exact Or.inl rfl | exact Or.inr rfl) (pd_if (pdt_val (pd_var (pv 1))) (pd_tup (pda_cons (pd_call G.g__law_sip hG hr rfl T.m__law_sip T.F__law_sip.kp T.b__law_sip tk (pda_cons (pd_var (pv 0)) (pda_cons pd_int pda_nil))) (pda_cons (pd_var (pv 2)) (pda_cons (pd_var (pv 4)) pda_nil)))) (pd_tup (pda_cons (pd_var (pv 2)) (pda_cons (pd_var (pv 4)) pda_nil)))))))))))
    (ps_one' (ps_ret' (pd_var (pv 2))))) ps_nil')
    (ps_cons' (ps_set' (i := 5) sc__law_long.nd rfl (by first | exact Or.inl rfl | exact Or.inr rfl) (pd_if (pdt_not (pdt_val (pd_var (pv 1)))) (pd_ix (pd_lst (pda_cons pd_int (pda_cons (pd_tup (pda_cons pd_int (pda_cons pd_int pda_nil))) pda_nil))) (pd_callTy call_int1 ok_int (by rfl) T.n_int (by decide +kernel) (pda_cons (pd_not (pd_var (pv 1))) pda_nil)) (fun _ _ => rfl)) (pd_tup (pda_cons pd_int (pda_cons pd_int (pda_cons pd_int pda_nil))))))
    (ps_cons' (ps_forR' po rfl (by rfl) T.n_range (pda_cons pd_int pda_nil) (pg_name (i := 3) sc__law_long.nd rfl (by first | exact Or.inl rfl | exact Or.inr rfl)) (tg_name _ 3)
    (ps_one' (ps_set' (i := 5) sc__law_long.nd rfl (by first | exact Or.inl rfl | exact Or.inr rfl) (pd_if (pdt_val (pd_var (pv 1))) (pd_tup (pda_cons pd_int (pda_cons (pd_var (pv 5)) (pda_cons (pd_var (pv 5)) pda_nil)))) (pd_tup (pda_cons (pd_var (pv 5)) (pda_cons (pd_var (pv 5)) pda_nil)))))))
    (ps_one' (ps_ret' (pd_var (pv 5))))))))
theorem g__law_is_share (T : TxtC K mg) (G : AllG P w base T n) : FnG P w K mg base (n + 1) T.a__law_is_share T.d__law_is_share ["value", "deep"] (SpecOf ⟨K, T.cv⟩ (fnOf 2 2 (b__law_is_share (fns n)))) :=
  fn_den T.F__law_is_share sc__law_is_share fun cdv A outer s H E hG hr tk po =>
    (ps_cons' (ps_if' (pdt_not (pdt_val (pd_callB call_isi ok_isi (by rfl) T.n_isinstance (by decide +kernel) (pda_cons (pd_var (pv 0)) (pda_cons (pd_ty (n := "tuple") rfl T.n_tuple (by decide +kernel)) pda_nil))))) (ps_one' (ps_ret' (pd_and (pd_callB call_isi ok_isi (by rfl) T.n_isinstance (by decide +kernel) (pda_cons (pd_var (pv 0)) (pda_cons (pd_ty (n := "int") rfl T.n_int (by decide +kernel)) pda_nil))) (pd_and (pd_not (pd_callB call_isi ok_isi (by rfl) T.n_isinstance (by decide +kernel) (pda_cons (pd_var (pv 0)) (pda_cons (pd_ty (n := "bool") rfl T.n_bool (by decide +kernel)) pda_nil)))) (pd_one (pd_cmp (op_inA (u65 hr)) ok_in (pd_var (pv 0)) (pd_tup (pda_cons pd_int (pda_cons pd_int pda_nil))) rfl)))))) ps_nil')
    (ps_cons' (ps_if' (PW.pt (pdw_or (pdt_cmp (op_eqD hr.units) ok_eq (pd_var (pv 1)) pd_int (nomark _)) (pdw_or (pdt_cmp (op_neD hr.units) ok_ne (pd_callB call_len ok_len (by rfl) T.n_len (by decide +kernel) (pda_cons (pd_var (pv 0)) pda_nil)) pd_int (nomark _)) (pdw_or (pdt_not (pdt_val (pd_call G.g__law_is_share hG hr rfl T.m__law_is_share T.F__law_is_share.kp T.b__law_is_share tk (pda_cons (pd_ix (pd_var (pv 0)) pd_int (fun _ _ => rfl)) (pda_cons (pd_op op_sub ok_sub (pd_var (pv 1)) pd_int) pda_nil))))) (pdw_one (pdt_not (pdt_val (pd_call G.g__law_is_share hG hr rfl T.m__law_is_share T.F__law_is_share.kp T.b__law_is_share tk (pda_cons (pd_ix (pd_var (pv 0)) pd_int (fun _ _ => rfl)) (pda_cons (pd_op op_sub ok_sub (pd_var (pv 1)) pd_int) pda_nil))))) (by decide)))))) (ps_one' (ps_ret' pd_bl)) ps_nil')
    (ps_one' (ps_ret' (pd_or (pd_cmp (op_neD hr.units) ok_ne (pd_ix (pd_var (pv 0)) pd_int (fun _ _ => rfl)) (pd_ix (pd_var (pv 0)) pd_int (fun _ _ => rfl)) (nomark _)) (pd_one (pd_callB call_isi ok_isi (by rfl) T.n_isinstance (by decide +kernel) (pda_cons (pd_ix (pd_var (pv 0)) pd_int (fun _ _ => rfl)) (pda_cons (pd_ty (n := "tuple") rfl T.n_tuple (by decide +kernel)) pda_nil)))))))))
theorem g__law_is_counts (T : TxtC K mg) (G : AllG P w base T n) : FnG P w K mg base (n + 1) T.a__law_is_counts T.d__law_is_counts ["value", "deep"] (SpecOf ⟨K, T.cv⟩ (fnOf 2 2 (b__law_is_counts (fns n)))) :=
  fn_den T.F__law_is_counts sc__law_is_counts fun cdv A outer s H E hG hr tk po =>
    (ps_cons' (ps_if' (pdt_not (pdt_val (pd_callB call_isi ok_isi (by rfl) T.n_isinstance (by decide +kernel) (pda_cons (pd_var (pv 0)) (pda_cons (pd_ty (n := "tuple") rfl T.n_tuple (by decide +kernel)) pda_nil))))) (ps_one' (ps_ret' (pd_and (pd_callB call_isi ok_isi (by rfl) T.n_isinstance (by decide +kernel) (pda_cons (pd_var (pv 0)) (pda_cons (pd_ty (n := "int") rfl T.n_int (by decide +kernel)) pda_nil))) (pd_and (pd_not (pd_callB call_isi ok_isi (by rfl) T.n_isinstance (by decide +kernel) (pda_cons (pd_var (pv 0)) (pda_cons (pd_ty (n := "bool") rfl T.n_bool (by decide +kernel)) pda_nil)))) (pd_one (pd_cmp op_ge ok_int2 (pd_var (pv 0)) pd_int (nomark _))))))) ps_nil')
    (ps_cons' (ps_if' (PW.pt (pdw_or (pdt_cmp (op_eqD hr.units) ok_eq (pd_var (pv 1)) pd_int (nomark _)) (pdw_or (pdt_cmp (op_neD hr.units) ok_ne (pd_callB call_len ok_len (by rfl) T.n_len (by decide +kernel) (pda_cons (pd_var (pv 0)) pda_nil)) pd_int (nomark _)) (pdw_or (pdt_val (pd_callB call_isi ok_isi (by rfl) T.n_isinstance (by decide +kernel) (pda_cons (pd_ix (pd_var (pv 0)) pd_int (fun _ _ => rfl)) (pda_cons (pd_ty (n := "tuple") rfl T.n_tuple (by decide +kernel)) pda_nil)))) (pdw_one (pdt_not (pdt_val (pd_call G.g__law_is_counts hG hr rfl T.m__law_is_counts T.F__law_is_counts.kp T.b__law_is_counts tk (pda_cons (pd_ix (pd_var (pv 0)) pd_int (fun _ _ => rfl)) (pda_cons pd_int pda_nil))))) (by decide)))))) (ps_one' (ps_ret' pd_bl)) ps_nil')
    (ps_cons' (ps_if' (PW.pt (pdw_or (pdt_not (pdt_val (pd_call G.g__law_is_counts hG hr rfl T.m__law_is_counts T.F__law_is_counts.kp T.b__law_is_counts tk (pda_cons (pd_ix (pd_var (pv 0)) pd_int (fun _ _ => rfl)) (pda_cons (pd_op op_sub ok_sub (pd_var (pv 1)) pd_int) pda_nil))))) (pdw_one (pdt_not (pdt_val (pd_call G.g__law_is_counts hG hr rfl T.m__law_is_counts T.F__law_is_counts.kp T.b__law_is_counts tk (pda_cons (pd_ix (pd_var (pv 0)) pd_int (fun _ _ => rfl)) (pda_cons (pd_op op_sub ok_sub (pd_var (pv 1)) pd_int) pda_nil))))) (by decide)))) (ps_one' (ps_ret' pd_bl)) ps_nil')
    (ps_cons' (ps_if' (PW.pt (pdw_and (pdt_cmp op_gt ok_int2 (pd_call G.g__law_least hG hr rfl T.m__law_least T.F__law_least.kp T.b__law_least tk (pda_cons (pd_ix (pd_var (pv 0)) pd_int (fun _ _ => rfl)) pda_nil)) pd_int (nomark _)) (pdw_one (pdt_cmp op_gt ok_int2 (pd_call G.g__law_least hG hr rfl T.m__law_least T.F__law_least.kp T.b__law_least tk (pda_cons (pd_ix (pd_var (pv 0)) pd_int (fun _ _ => rfl)) pda_nil)) pd_int (nomark _)) (by decide)))) (ps_one' (ps_ret' pd_bl)) ps_nil')
    (ps_one' (ps_ret' (pd_or (pd_callB call_isi ok_isi (by rfl) T.n_isinstance (by decide +kernel) (pda_cons (pd_ix (pd_var (pv 0)) pd_int (fun _ _ => rfl)) (pda_cons (pd_ty (n := "tuple") rfl T.n_tuple (by decide +kernel)) pda_nil))) (pd_or (pd_callB call_isi ok_isi (by rfl) T.n_isinstance (by decide +kernel) (pda_cons (pd_ix (pd_var (pv 0)) pd_int (fun _ _ => rfl)) (pda_cons (pd_ty (n := "tuple") rfl T.n_tuple (by decide +kernel)) pda_nil))) (pd_one (pd_cmp (op_neD hr.units) ok_ne (pd_ix (pd_var (pv 0)) pd_int (fun _ _ => rfl)) (pd_ix (pd_var (pv 0)) pd_int (fun _ _ => rfl)) (nomark _)))))))))))
theorem g__law_least (T : TxtC K mg) (G : AllG P w base T n) : FnG P w K mg base (n + 1) T.a__law_least T.d__law_least ["counts"] (SpecOf ⟨K, T.cv⟩ (fnOf 1 1 (b__law_least (fns n)))) :=
  fn_den T.F__law_least sc__law_least fun cdv A outer s H E hG hr tk po =>
    (ps_cons' (ps_if' (pdt_not (pdt_val (pd_callB call_isi ok_isi (by rfl) T.n_isinstance (by decide +kernel) (pda_cons (pd_var (pv 0)) (pda_cons (pd_ty (n := "tuple") rfl T.n_tuple (by decide +kernel)) pda_nil))))) (ps_one' (ps_ret' (pd_var (pv 0)))) ps_nil')
    (ps_one' (ps_ret' (pd_op op_addA ok_add (pd_ix (pd_var (pv 0)) pd_int (fun _ _ => rfl)) (pd_callB (call_min2 rfl) ok_min2 (by rfl) T.n_min (by decide +kernel) (pda_cons (pd_call G.g__law_least hG hr rfl T.m__law_least T.F__law_least.kp T.b__law_least tk (pda_cons (pd_ix (pd_var (pv 0)) pd_int (fun _ _ => rfl)) pda_nil)) (pda_cons (pd_call G.g__law_least hG hr rfl T.m__law_least T.F__law_least.kp T.b__law_least tk (pda_cons (pd_ix (pd_var (pv 0)) pd_int (fun _ _ => rfl)) pda_nil)) pda_nil)))))))
theorem g__law_size (T : TxtC K mg) (G : AllG P w base T n) : FnG P w K mg base (n + 1) T.a__law_size T.d__law_size ["tree"] (SpecOf ⟨K, T.cv⟩ (fnOf 1 1 (b__law_size (fns n)))) :=
  fn_den T.F__law_size sc__law_size fun cdv A outer s H E hG hr tk po =>
    (ps_cons' (ps_if' (pdt_not (pdt_val (pd_callB call_isi ok_isi (by rfl) T.n_isinstance (by decide +kernel) (pda_cons (pd_var (pv 0)) (pda_cons (pd_ty (n := "tuple") rfl T.n_tuple (by decide +kernel)) pda_nil))))) (ps_one' (ps_ret' pd_int)) ps_nil')
    (ps_one' (ps_ret' (pd_op op_addA ok_add (pd_op op_addA ok_add pd_int (pd_call G.g__law_size hG hr rfl T.m__law_size T.F__law_size.kp T.b__law_size tk (pda_cons (pd_ix (pd_var (pv 0)) (pd_un un_neg ok_neg pd_int) (fun _ _ => rfl)) pda_nil))) (pd_call G.g__law_size hG hr rfl T.m__law_size T.F__law_size.kp T.b__law_size tk (pda_cons (pd_ix (pd_var (pv 0)) (pd_un un_neg ok_neg pd_int) (fun _ _ => rfl)) pda_nil))))))
theorem g__law_bent (T : TxtC K mg) (G : AllG P w base T n) : FnG P w K mg base (n + 1) T.a__law_bent T.d__law_bent ["cup", "tree", "counts"] (SpecOf ⟨K, T.cv⟩ (fnOf 3 5 (b__law_bent (fns n)))) :=
  fn_den T.F__law_bent sc__law_bent fun cdv A outer s H E hG hr tk po =>
    (ps_cons' (ps_if' (PW.pt (pdw_and (pdt_val (pd_callB call_isi ok_isi (by rfl) T.n_isinstance (by decide +kernel) (pda_cons (pd_var (pv 1)) (pda_cons (pd_ty (n := "tuple") rfl T.n_tuple (by decide +kernel)) pda_nil)))) (pdw_one (pdt_cmp op_gt ok_int2 (pd_call G.g__law_sip hG hr rfl T.m__law_sip T.F__law_sip.kp T.b__law_sip tk (pda_cons (pd_var (pv 0)) (pda_cons pd_int pda_nil))) pd_int (nomark _)) (by decide)))) (ps_cons' (ps_set' (i := 3) sc__law_bent.nd rfl (by first | exact Or.inl rfl | exact Or.inr rfl) (pd_call G.g__law_sip hG hr rfl T.m__law_sip T.F__law_sip.kp T.b__law_sip tk (pda_cons (pd_var (pv 0)) (pda_cons (pd_callB call_len ok_len (by rfl) T.n_len (by decide +kernel) (pda_cons (pd_var (pv 1)) pda_nil)) pda_nil))))
    (ps_one' (ps_ret' (pd_op op_addA ok_add (pd_op op_addA ok_add (pd_sl (pd_var (pv 1)) pdo_none (pdo_some (pd_var (pv 3)))) (pd_tup (pda_cons (pd_call G.g__law_bent hG hr rfl T.m__law_bent T.F__law_bent.kp T.b__law_bent tk (pda_cons (pd_var (pv 0)) (pda_cons (pd_ix (pd_var (pv 1)) (pd_var (pv 3)) (fun _ _ => rfl)) (pda_cons (pd_and (pd_var (pv 2)) (pd_one (pd_cmp op_gt ok_int2 (pd_var (pv 3)) pd_int (nomark _)))) pda_nil)))) pda_nil))) (pd_sl (pd_var (pv 1)) (pdo_some (pd_op op_addA ok_add (pd_var (pv 3)) pd_int)) pdo_none))))) ps_nil')
    (ps_cons' (ps_set' (i := 4) sc__law_bent.nd rfl (by first | exact Or.inl rfl | exact Or.inr rfl) (pd_lst (pda_cons pd_int (pda_cons pd_int (pda_cons pd_int (pda_cons (pd_un un_neg ok_neg pd_int) (pda_cons pd_bl (pda_cons pd_bl (pda_cons pd_non (pda_cons pd_str (pda_cons (pd_tup pda_nil) (pda_cons (pd_tup (pda_cons pd_int (pda_cons pd_int pda_nil))) (pda_cons (pd_tup (pda_cons pd_int (pda_cons pd_int pda_nil))) (pda_cons (pd_tup (pda_cons pd_int (pda_cons pd_int pda_nil))) (pda_cons (pd_tup (pda_cons pd_int (pda_cons pd_int pda_nil))) (pda_cons (pd_tup (pda_cons pd_int (pda_cons pd_int (pda_cons pd_int pda_nil)))) (pda_cons (pd_tup (pda_cons pd_int (pda_cons pd_int (pda_cons pd_int pda_nil)))) (pda_cons (pd_tup (pda_cons pd_int (pda_cons pd_int (pda_cons pd_int pda_nil)))) pda_nil))))))))))))))))))
    (ps_cons' (ps_set' (i := 4) sc__law_bent.nd rfl (by first | exact Or.inl rfl | exact Or.inr rfl) (pd_op op_addA ok_add (pd_var (pv 4)) (pd_lst (pda_cons (pd_lst (pda_cons pd_int (pda_cons pd_int pda_nil))) (pda_cons (pd_lst (pda_cons pd_int (pda_cons pd_int (pda_cons pd_int pda_nil)))) (pda_cons (pd_tup (pda_cons (pd_var (pv 1)) (pda_cons (pd_var (pv 1)) pda_nil))) (pda_cons (pd_tup (pda_cons pd_int (pda_cons (pd_var (pv 1)) (pda_cons (pd_var (pv 1)) pda_nil)))) (pda_cons (pd_tup (pda_cons (pd_var (pv 1)) pda_nil)) (pda_cons (pd_lst (pda_cons (pd_var (pv 1)) pda_nil)) (pda_cons (pd_op op_pow ok_pow pd_int pd_int) (pda_cons (pd_tup (pda_cons pd_int (pda_cons pd_int (pda_cons pd_int (pda_cons pd_int pda_nil))))) pda_nil)))))))))))
    (ps_cons' (ps_set' (i := 4) sc__law_bent.nd rfl (by first | exact Or.inl rfl | exact Or.inr rfl) (pd_op op_addA ok_add (pd_var (pv 4)) (pd_lst (pda_cons (pd_tup (pda_cons pd_int (pda_cons pd_int (pda_cons (pd_tup (pda_cons pd_int (pda_cons pd_int pda_nil))) pda_nil)))) (pda_cons (pd_tup (pda_cons pd_bl (pda_cons pd_int (pda_cons pd_int pda_nil)))) (pda_cons (pd_tup (pda_cons pd_int (pda_cons pd_bl pda_nil))) (pda_cons (pd_tup (pda_cons pd_int (pda_cons (pd_tup (pda_cons pd_int (pda_cons pd_int pda_nil))) pda_nil))) (pda_cons pd_str pda_nil))))))))
    (ps_one' (ps_ret' (pd_ix (pd_var (pv 4)) (pd_call G.g__law_sip hG hr rfl T.m__law_sip T.F__law_sip.kp T.b__law_sip tk (pda_cons (pd_var (pv 0)) (pda_cons pd_int pda_nil))) (fun _ _ => rfl))))))))
theorem g__law_door (T : TxtC K mg) (G : AllG P w base T n) : FnG P w K mg base (n + 1) T.a__law_door T.d__law_door ["door", "value"] (SpecOf ⟨K, T.cv⟩ (fnOf 2 3 (b__law_door (fns n)))) :=
  fn_den T.F__law_door sc__law_door fun cdv A outer s H E hG hr tk po =>
    (ps_cons' (ps_set' (i := 2) sc__law_door.nd rfl (by first | exact Or.inl rfl | exact Or.inr rfl) pd_str)
    (ps_cons' (ps_try' T.cls rfl rfl tk (fun W pn xe tk po => (ps_one' (ps_if' (pdt_cmp (op_eqD hr.units) ok_eq (pd_var (pv 0)) pd_int (nomark _)) (ps_one' (ps_expr' (pd_callK0 (is := [0]) G.g_owned_paths hG hr rfl T.m_owned_paths T.F_owned_paths.kp T.kb_owned_paths_share tk (pdk_cons (pd_var (pv 1)) pdk_nil)))) (ps_one' (ps_expr' (pd_callK0 (is := [1, 0]) G.g_worth_at hG hr rfl T.m_worth_at T.F_worth_at.kp T.kb_worth_at_path_counts tk (pdk_cons (pd_tup pda_nil) (pdk_cons (pd_var (pv 1)) pdk_nil))))))))
    (.cons (c := 1) ⟨rfl, by decide, Or.inl T.m_InvalidShare⟩ (fun _ _ => (ps_one' (ps_set' (i := 2) sc__law_door.nd rfl (by first | exact Or.inl rfl | exact Or.inr rfl) pd_str))) (.cons (c := 2) ⟨rfl, by decide, Or.inl T.m_InvalidCounts⟩ (fun _ _ => (ps_one' (ps_set' (i := 2) sc__law_door.nd rfl (by first | exact Or.inl rfl | exact Or.inr rfl) pd_str))) (.cons (c := 0) ⟨rfl, by decide, Or.inl T.m_StampError⟩ (fun _ _ => (ps_one' (ps_set' (i := 2) sc__law_door.nd rfl (by first | exact Or.inl rfl | exact Or.inr rfl) pd_str))) .nil))))
    (ps_one' (ps_ret' (pd_var (pv 2))))))
theorem g__law_chain (T : TxtC K mg) (G : AllG P w base T n) : FnG P w K mg base (n + 1) T.a__law_chain T.d__law_chain ["cup"] (SpecOf ⟨K, T.cv⟩ (fnOf 1 4 (b__law_chain (fns n)))) :=
  fn_den T.F__law_chain sc__law_chain fun cdv A outer s H E hG hr tk po =>
    (ps_cons' (ps_set' (i := 1) sc__law_chain.nd rfl (by first | exact Or.inl rfl | exact Or.inr rfl) pd_int)
    (ps_cons' (ps_forR' po rfl (by rfl) T.n_range (pda_cons (pd_op op_addA ok_add pd_int (pd_call G.g__law_sip hG hr rfl T.m__law_sip T.F__law_sip.kp T.b__law_sip tk (pda_cons (pd_var (pv 0)) (pda_cons pd_int pda_nil)))) pda_nil) (pg_name (i := 2) sc__law_chain.nd rfl (by first | exact Or.inl rfl | exact Or.inr rfl)) (tg_name _ 2)
    (ps_cons' (ps_set' (i := 3) sc__law_chain.nd rfl (by first | exact Or.inl rfl | exact Or.inr rfl) (pd_ix (pd_lst (pda_cons pd_int (pda_cons pd_int (pda_cons pd_int (pda_cons pd_int (pda_cons pd_int (pda_cons pd_int (pda_cons pd_int pda_nil)))))))) (pd_call G.g__law_sip hG hr rfl T.m__law_sip T.F__law_sip.kp T.b__law_sip tk (pda_cons (pd_var (pv 0)) (pda_cons pd_int pda_nil))) (fun _ _ => rfl)))
    (ps_one' (ps_set' (i := 1) sc__law_chain.nd rfl (by first | exact Or.inl rfl | exact Or.inr rfl) (pd_ix (pd_lst (pda_cons (pd_tup (pda_cons pd_int (pda_cons (pd_var (pv 1)) pda_nil))) (pda_cons (pd_tup (pda_cons pd_int (pda_cons pd_int (pda_cons (pd_var (pv 1)) pda_nil)))) (pda_cons (pd_lst (pda_cons (pd_var (pv 1)) pda_nil)) pda_nil)))) (pd_var (pv 3)) (fun _ _ => rfl))))))
    (ps_one' (ps_ret' (pd_var (pv 1))))))
theorem g__law_value_right (T : TxtC K mg) (G : AllG P w base T n) : FnG P w K mg base (n + 1) T.a__law_value_right T.d__law_value_right ["share", "value"] (SpecOf ⟨K, T.cv⟩ (fnOf 2 7 (b__law_value_right (fns n)))) :=
  fn_den T.F__law_value_right sc__law_value_right fun cdv A outer s H E hG hr tk po =>
    (ps_cons' (ps_set' (i := 2) sc__law_value_right.nd rfl (by first | exact Or.inl rfl | exact Or.inr rfl) (pd_callB (call_reprD hG (u65 hr)) ok_repr (by rfl) T.n_repr (by decide +kernel) (pda_cons (pd_var (pv 1)) pda_nil)))
    (ps_cons' (ps_set' (i := 3) sc__law_value_right.nd rfl (by first | exact Or.inl rfl | exact Or.inr rfl) (pd_lst (pda_cons (pd_and (pd_call G.g__law_is_share hG hr rfl T.m__law_is_share T.F__law_is_share.kp T.b__law_is_share tk (pda_cons (pd_var (pv 1)) (pda_cons pd_int pda_nil))) (pd_one (pd_cmp op_lt ok_int2 (pd_call G.g__law_size hG hr rfl T.m__law_size T.F__law_size.kp T.b__law_size tk (pda_cons (pd_var (pv 1)) pda_nil)) pd_int (nomark _)))) (pda_cons (pd_and (pd_call G.g__law_is_counts hG hr rfl T.m__law_is_counts T.F__law_is_counts.kp T.b__law_is_counts tk (pda_cons (pd_var (pv 1)) (pda_cons pd_int pda_nil))) (pd_one (pd_cmp op_lt ok_int2 (pd_call G.g__law_size hG hr rfl T.m__law_size T.F__law_size.kp T.b__law_size tk (pda_cons (pd_var (pv 1)) pda_nil)) pd_int (nomark _)))) pda_nil))))
    (ps_cons' (ps_if' (pdt_not (pdt_val (pd_call G.g__law_same hG hr rfl T.m__law_same T.F__law_same.kp T.b__law_same tk (pda_cons (pd_lst (pda_cons (pd_call G.g_is_share hG hr rfl T.m_is_share T.F_is_share.kp T.b_is_share tk (pda_cons (pd_var (pv 1)) pda_nil)) (pda_cons (pd_call G.g_is_counts hG hr rfl T.m_is_counts T.F_is_counts.kp T.b_is_counts tk (pda_cons (pd_var (pv 1)) pda_nil)) pda_nil))) (pda_cons (pd_var (pv 3)) pda_nil))))) (ps_one' (ps_ret' pd_bl)) ps_nil')
    (ps_cons' (ps_if' (pdt_not (pdt_val (pd_call G.g__law_same hG hr rfl T.m__law_same T.F__law_same.kp T.b__law_same tk (pda_cons (pd_lst (pda_cons (pd_callK0 (is := [0]) G.g_is_share hG hr rfl T.m_is_share T.F_is_share.kp T.kb_is_share_value tk (pdk_cons (pd_var (pv 1)) pdk_nil)) (pda_cons (pd_callK0 (is := [0]) G.g_is_counts hG hr rfl T.m_is_counts T.F_is_counts.kp T.kb_is_counts_value tk (pdk_cons (pd_var (pv 1)) pdk_nil)) pda_nil))) (pda_cons (pd_var (pv 3)) pda_nil))))) (ps_one' (ps_ret' pd_bl)) ps_nil')
    (ps_cons' (ps_set' (i := 4) sc__law_value_right.nd rfl (by first | exact Or.inl rfl | exact Or.inr rfl) (pd_lst (pda_cons (pd_ix (pd_lst (pda_cons pd_str (pda_cons pd_str pda_nil))) (pd_callTy call_int1 ok_int (by rfl) T.n_int (by decide +kernel) (pda_cons (pd_ix (pd_var (pv 3)) pd_int (fun _ _ => rfl)) pda_nil)) (fun _ _ => rfl)) (pda_cons (pd_ix (pd_lst (pda_cons pd_str (pda_cons pd_str pda_nil))) (pd_callTy call_int1 ok_int (by rfl) T.n_int (by decide +kernel) (pda_cons (pd_ix (pd_var (pv 3)) pd_int (fun _ _ => rfl)) pda_nil)) (fun _ _ => rfl)) pda_nil))))
    (ps_cons' (ps_if' (pdt_cmp (op_neD hr.units) ok_ne (pd_lst (pda_cons (pd_call G.g__law_door hG hr rfl T.m__law_door T.F__law_door.kp T.b__law_door tk (pda_cons pd_int (pda_cons (pd_var (pv 1)) pda_nil))) (pda_cons (pd_call G.g__law_door hG hr rfl T.m__law_door T.F__law_door.kp T.b__law_door tk (pda_cons pd_int (pda_cons (pd_var (pv 1)) pda_nil))) pda_nil))) (pd_var (pv 4)) (nomark _)) (ps_one' (ps_ret' pd_bl)) ps_nil')
    (ps_cons' (ps_set' (i := 5) sc__law_value_right.nd rfl (by first | exact Or.inl rfl | exact Or.inr rfl) (pd_and (pd_call G.g__law_is_share hG hr rfl T.m__law_is_share T.F__law_is_share.kp T.b__law_is_share tk (pda_cons (pd_var (pv 0)) (pda_cons pd_int pda_nil))) (pd_and (pd_cmp op_lt ok_int2 (pd_call G.g__law_size hG hr rfl T.m__law_size T.F__law_size.kp T.b__law_size tk (pda_cons (pd_var (pv 0)) pda_nil)) pd_int (nomark _)) (pd_one (pd_ix (pd_var (pv 3)) pd_int (fun _ _ => rfl))))))
    (ps_cons' (ps_set' (i := 6) sc__law_value_right.nd rfl (by first | exact Or.inl rfl | exact Or.inr rfl) (pd_lst (pda_cons (pd_call G.g_is_stamp hG hr rfl T.m_is_stamp T.F_is_stamp.kp T.b_is_stamp tk (pda_cons (pd_tup (pda_cons (pd_var (pv 0)) (pda_cons (pd_var (pv 1)) pda_nil))) pda_nil)) (pda_cons (pd_callK0 (is := [0]) G.g_is_stamp hG hr rfl T.m_is_stamp T.F_is_stamp.kp T.kb_is_stamp_value tk (pdk_cons (pd_tup (pda_cons (pd_var (pv 0)) (pda_cons (pd_var (pv 1)) pda_nil))) pdk_nil)) pda_nil))))
    (ps_cons' (ps_set' (i := 6) sc__law_value_right.nd rfl (by first | exact Or.inl rfl | exact Or.inr rfl) (pd_op op_addA ok_add (pd_var (pv 6)) (pd_lst (pda_cons (pd_call G.g_is_stamp hG hr rfl T.m_is_stamp T.F_is_stamp.kp T.b_is_stamp tk (pda_cons (pd_lst (pda_cons (pd_var (pv 0)) (pda_cons (pd_var (pv 1)) pda_nil))) pda_nil)) (pda_cons (pd_call G.g_is_stamp hG hr rfl T.m_is_stamp T.F_is_stamp.kp T.b_is_stamp tk (pda_cons (pd_tup (pda_cons (pd_var (pv 0)) (pda_cons (pd_var (pv 1)) (pda_cons pd_int pda_nil)))) pda_nil)) pda_nil)))))
    (ps_one' (ps_ret' (pd_and (pd_call G.g__law_same hG hr rfl T.m__law_same T.F__law_same.kp T.b__law_same tk (pda_cons (pd_var (pv 6)) (pda_cons (pd_lst (pda_cons (pd_var (pv 5)) (pda_cons (pd_var (pv 5)) (pda_cons pd_bl (pda_cons pd_bl pda_nil))))) pda_nil))) (pd_and (pd_cmp op_isA ok_isA (pd_call G.g_is_stamp hG hr rfl T.m_is_stamp T.F_is_stamp.kp T.b_is_stamp tk (pda_cons (pd_tup (pda_cons (pd_var (pv 0)) pda_nil)) pda_nil)) pd_bl (nomark _)) (pd_one (pd_cmp (op_eqD hr.units) ok_eq (pd_callB (call_reprD hG (u65 hr)) ok_repr (by rfl) T.n_repr (by decide +kernel) (pda_cons (pd_var (pv 1)) pda_nil)) (pd_var (pv 2)) (nomark _))))))))))))))))
theorem g_law (T : TxtC K mg) (G : AllG P w base T n) : FnG P w K mg base (n + 1) T.a_law T.d_law ["script"] (SpecOf ⟨K, T.cv⟩ (fnOf 1 11 (b_law (fns n)))) :=
  fn_den T.F_law sc_law fun cdv A outer s H E hG hr tk po =>
    (ps_cons' (ps_forC' po rfl (pd_op op_addA ok_add (pd_lst (pda_cons pd_int pda_nil)) (pd_sl (pd_var (pv 0)) pdo_none (pdo_some pd_int))) (pg_name (i := 1) sc_law.nd rfl (by first | exact Or.inl rfl | exact Or.inr rfl)) (tg_name _ 1)
    (ps_cons' (ps_set' (i := 2) sc_law.nd rfl (by first | exact Or.inl rfl | exact Or.inr rfl) (pd_call G.g__law_cup hG hr rfl T.m__law_cup T.F__law_cup.kp T.b__law_cup tk (pda_cons (pd_var (pv 1)) pda_nil)))
    (ps_cons' (ps_par' (i := 3) (j := 4) rfl sc_law.nd rfl rfl (by decide) rfl rfl (pda_cons (pd_call G.g__law_share hG hr rfl T.m__law_share T.F__law_share.kp T.b__law_share tk (pda_cons (pd_var (pv 2)) (pda_cons pd_int pda_nil))) (pda_cons (pd_call G.g__law_counts hG hr rfl T.m__law_counts T.F__law_counts.kp T.b__law_counts tk (pda_cons (pd_var (pv 2)) (pda_cons pd_int pda_nil))) pda_nil)) (by rfl))
    (ps_cons' (ps_set' (i := 5) sc_law.nd rfl (by first | exact Or.inl rfl | exact Or.inr rfl) (pd_call G.g__law_long hG hr rfl T.m__law_long T.F__law_long.kp T.b__law_long tk (pda_cons (pd_var (pv 2)) (pda_cons pd_bl pda_nil))))
    (ps_cons' (ps_set' (i := 6) sc_law.nd rfl (by first | exact Or.inl rfl | exact Or.inr rfl) (pd_lst (pda_cons (pd_var (pv 3)) (pda_cons (pd_var (pv 4)) (pda_cons (pd_var (pv 5)) (pda_cons (pd_call G.g__law_long hG hr rfl T.m__law_long T.F__law_long.kp T.b__law_long tk (pda_cons (pd_var (pv 2)) (pda_cons pd_bl pda_nil))) (pda_cons (pd_call G.g__law_chain hG hr rfl T.m__law_chain T.F__law_chain.kp T.b__law_chain tk (pda_cons (pd_var (pv 2)) pda_nil)) (pda_cons (pd_tup (pda_cons (pd_var (pv 5)) (pda_cons (pd_var (pv 5)) pda_nil))) (pda_cons (pd_tup (pda_cons pd_int (pda_cons (pd_var (pv 5)) (pda_cons (pd_var (pv 5)) pda_nil)))) (pda_cons (pd_op op_repTB ok_repT (pd_tup (pda_cons pd_int pda_nil)) pd_int) pda_nil))))))))))
    (ps_cons' (ps_set' (i := 7) sc_law.nd rfl (by first | exact Or.inl rfl | exact Or.inr rfl) (pd_call G.g__law_long hG hr rfl T.m__law_long T.F__law_long.kp T.b__law_long tk (pda_cons (pd_var (pv 2)) (pda_cons pd_bl pda_nil))))
    (ps_cons' (ps_set' (i := 6) sc_law.nd rfl (by first | exact Or.inl rfl | exact Or.inr rfl) (pd_op op_addA ok_add (pd_var (pv 6)) (pd_lst (pda_cons (pd_call G.g__law_bent hG hr rfl T.m__law_bent T.F__law_bent.kp T.b__law_bent tk (pda_cons (pd_var (pv 2)) (pda_cons (pd_var (pv 7)) (pda_cons pd_bl pda_nil)))) (pda_cons (pd_tup (pda_cons pd_int (pda_cons (pd_var (pv 7)) (pda_cons (pd_var (pv 7)) pda_nil)))) pda_nil)))))
    (ps_cons' (ps_if' (pdt_not (pdt_val (pd_call G.g__law_same hG hr rfl T.m__law_same T.F__law_same.kp T.b__law_same tk (pda_cons (pd_lcC (own := [("one", 8)]) rfl sc_law.nd (pd_lst (pda_cons pd_non (pda_cons pd_int (pda_cons pd_str (pda_cons (pd_tup pda_nil) pda_nil))))) ⟨(blkOk_by (own := [("one", 8)]) (N := ["script", "cell", "cup", "share", "counts", "wide", "some", "long", "one", "turn", "value"]) (sc := defScope s_law) (by decide +kernel)), (fun _ _ _ _ _ => pg_name (i := 8) sc_law.nd rfl (by first | exact Or.inl rfl | exact Or.inr rfl)), (tg_name _ 8), wipe_name, (fun _ _ _ _ _ => pdts_nil), (fun _ _ _ _ _ => have tk := takes0; (pd_call G.g_is_stamp hG hr rfl T.m_is_stamp T.F_is_stamp.kp T.b_is_stamp tk (pda_cons (pd_var (pv 8)) pda_nil)))⟩) (pda_cons (pd_op op_rep ok_repL (pd_lst (pda_cons pd_bl pda_nil)) pd_int) pda_nil))))) (ps_one' (ps_ret' pd_bl)) ps_nil')
    (ps_cons' (ps_forR' po rfl (by rfl) T.n_range (pda_cons pd_int pda_nil) (pg_name (i := 9) sc_law.nd rfl (by first | exact Or.inl rfl | exact Or.inr rfl)) (tg_name _ 9)
    (ps_one' (ps_set' (i := 6) sc_law.nd rfl (by first | exact Or.inl rfl | exact Or.inr rfl) (pd_op op_addA ok_add (pd_var (pv 6)) (pd_lst (pda_cons (pd_call G.g__law_bent hG hr rfl T.m__law_bent T.F__law_bent.kp T.b__law_bent tk (pda_cons (pd_var (pv 2)) (pda_cons (pd_var (pv 3)) (pda_cons pd_bl pda_nil)))) (pda_cons (pd_call G.g__law_bent hG hr rfl T.m__law_bent T.F__law_bent.kp T.b__law_bent tk (pda_cons (pd_var (pv 2)) (pda_cons (pd_var (pv 4)) (pda_cons pd_bl pda_nil)))) (pda_cons (pd_call G.g__law_bent hG hr rfl T.m__law_bent T.F__law_bent.kp T.b__law_bent tk (pda_cons (pd_var (pv 2)) (pda_cons (pd_var (pv 5)) (pda_cons pd_bl pda_nil)))) pda_nil))))))))
    (ps_one' (ps_forC' po rfl (pd_op op_addA ok_add (pd_var (pv 6)) (pd_lst (pda_cons pd_non (pda_cons pd_str (pda_cons pd_bl (pda_cons pd_int (pda_cons pd_int (pda_cons (pd_un un_neg ok_neg pd_int) pda_nil)))))))) (pg_name (i := 10) sc_law.nd rfl (by first | exact Or.inl rfl | exact Or.inr rfl)) (tg_name _ 10)
    (ps_one' (ps_if' (pdt_not (pdt_val (pd_call G.g__law_value_right hG hr rfl T.m__law_value_right T.F__law_value_right.kp T.b__law_value_right tk (pda_cons (pd_ix (pd_lst (pda_cons (pd_var (pv 3)) (pda_cons pd_int (pda_cons (pd_var (pv 10)) (pda_cons (pd_var (pv 5)) (pda_cons (pd_var (pv 4)) pda_nil)))))) (pd_call G.g__law_sip hG hr rfl T.m__law_sip T.F__law_sip.kp T.b__law_sip tk (pda_cons (pd_var (pv 2)) (pda_cons pd_int pda_nil))) (fun _ _ => rfl)) (pda_cons (pd_var (pv 10)) pda_nil))))) (ps_one' (ps_ret' pd_bl)) ps_nil')))))))))))))
    (ps_one' (ps_ret' pd_bl)))
theorem all_g (T : TxtC K mg) : ∀ n, AllG P w base T n
  | 0 => ⟨fn_zero 0, fn_zero 0, fn_zero 0, fn_zero 0, fn_zero 0, fn_zero 0, fn_zero 0, fn_zero 0, fn_zero 0, fn_zero 0, fn_zero 0, fn_zero 0, fn_zero 0, fn_zero 0, fn_zero 0, fn_zero 0, fn_zero 0, fn_zero 0, fn_zero 0, fn_zero 0, fn_zero 0, fn_zero 0, fn_zero 0, fn_zero 0, fn_zero 0, fn_zero 0, fn_zero 0, fn_zero 0, fn_zero 0, fn_zero 0, fn_zero 0, fn_zero 0⟩
  | n + 1 => have G := all_g T n; ⟨g_tuple_count T G, g_is_share T G, g__is_share_tree T G, g_check_share T G, g_is_path T G, g_check_path T G, g_owned_paths T G, g_paths_had T G, g_least T G, g_greatest T G, g_lifted T G, g_halves T G, g_is_counts T G, g__is_counts_tree T G, g_check_counts T G, g_worth_at T G, g_is_stamp T G, g__law_cup T G, g__law_sip T G, g__law_same T G, g__law_share T G, g__law_counts T G, g__law_long T G, g__law_is_share T G, g__law_is_counts T G, g__law_least T G, g__law_size T G, g__law_bent T G, g__law_door T G, g__law_chain T G, g__law_value_right T G, g_law T G⟩
end
end PD.K01

/-! ## K01M1 -/
set_option Elab.async false
set_option linter.all false
set_option maxRecDepth 100000
set_option maxHeartbeats 4000000
namespace PD.K01
open PySem PySem.Spec L2 PD
theorem w_var' {i : Nat} {ρ : PD.Env} {S : Store} {Q : Val → Store → Prop} : Run (dVar i ρ S) Q = match ρ[i]? with | some (some v) => Q v S | _ => False := by
  unfold dVar
  cases ρ[i]? with
  | none => rfl
  | some o => cases o <;> rfl
theorem match_some {v : Val} {Q : Val → Prop} : (match (some (some v) : Option (Option Val)) with | some (some v) => Q v | _ => False) = Q v := rfl
theorem run_alloc {xs : List Val} {S : Store} {Q : Val → Store → Prop} : Run (alloc xs S) Q = Q (.ref S.length) (S ++ [.lst xs]) := rfl
theorem run_okI {i : Int} {S : Store} {Q : Val → Store → Prop} : Run (okI i S) Q = Q (.int i) S := rfl
theorem run_okB {i : Bool} {S : Store} {Q : Val → Store → Prop} : Run (okB i S) Q = Q (.bl i) S := rfl
local macro_rules | `(tactic| walk_at "wp") => `(tactic| simp only [run_ok, run_okI, run_okB, run_alloc, run_stuck, run_bind, run_ite, run_noX, run_fnOf, w_c, w_op, w_un, w_call, w_callK, w_nil, w_cons, w_tup, w_lst, isB_bl, w_tval, w_tand, w_tor, w_tnot, w_and, w_or, w_not, w_if,
  s_next, s_seq, s_if, s_ret, s_drop, s_set, s_par, s_put, s_asg, w_var', runS_next, runS_ret, runS_stuck, List.length_cons, List.length_nil, List.length_singleton, List.map_cons, List.map_nil, List.cons_append, List.nil_append, List.replicate_succ, List.replicate_zero, List.getElem?_cons_zero, List.getElem?_cons_succ,
  List.set_cons_zero, List.set_cons_succ, Nat.reduceAdd, Nat.reduceSub, Nat.reduceEqDiff, ite_true, ite_false, if_true, if_false, reduceIte, Bool.false_eq_true, decide_true, decide_false, String.reduceEq, Int.reduceEq, Nat.reduceLeDiff, true_and, and_true, Bool.not_true, Bool.not_false, decide_eq_true_eq, List.append_nil])
/-! ### stores that only grow -/
def Gr (S S' : Store) : Prop := ∃ G, S' = S ++ G
theorem Gr.refl (S : Store) : Gr S S := ⟨[], (List.append_nil S).symm⟩
theorem Gr.trans {S S' S2 : Store} (a : Gr S S') (b : Gr S' S2) : Gr S S2 := by
  obtain ⟨G, rfl⟩ := a
  obtain ⟨G', rfl⟩ := b
  exact ⟨G ++ G', List.append_assoc _ _ _⟩
theorem Gr.add (S : Store) (G : Store) : Gr S (S ++ G) := ⟨G, rfl⟩
theorem Gr.get {S S' : Store} (h : Gr S S') {n : Nat} {c : Cell} (e : S[n]? = some c) : S'[n]? = some c := by
  obtain ⟨G, rfl⟩ := h
  rw [List.getElem?_append_left (List.getElem?_eq_some_iff.mp e).1]; exact e
theorem get_new (S : Store) (c : Cell) : (S ++ [c])[S.length]? = some c := by simp
/-- the answer is a, and the store only grew -/
abbrev PureQ {α : Type} (S : Store) (a : α) : α → Store → Prop := fun b S' => b = a ∧ Gr S S'
/-- a comprehension over values, whose element is pure -/
theorem comp_pure {f : D} {v : Nat} {ρ : PD.Env} {g : Val → Val} : ∀ (xs : List Val) (i : Nat) (acc : List Val) (S0 S : Store), Gr S0 S → acc.length + xs.length < 16777216 →
    (∀ x ∈ xs, ∀ S', Gr S0 S' → Run (f (ρ.set v (some x)) S') (PureQ S' (g x))) → ∀ ys, ys.drop i = xs → i ≤ ys.length →
    Run (compG (srcL ys) (gN v) tYes' f xs.length i acc ρ S) (PureQ S (acc ++ xs.map g))
  | [], i, acc, S0, S, _, _, _, ys, hd, hi => by
    have : ys[i]? = none := by
      rw [List.getElem?_eq_none_iff]
      have := congrArg List.length hd
      simp at this; omega
    show Run (match srcL ys i S with | some none => Res.ok acc S | _ => .stuck) _
    unfold srcL
    rw [this]
    exact ⟨by simp, .refl S⟩
  | x :: xs, i, acc, S0, S, hg, hl, he, ys, hd, hi => by
    have hlt : i < ys.length := by
      have := congrArg List.length hd
      simp at this; omega
    have e0 := List.drop_eq_getElem_cons hlt
    rw [hd] at e0
    have hx : ys[i]? = some x := by rw [List.getElem?_eq_getElem hlt, (List.cons.inj e0).1]
    have hl' : acc.length + (xs.length + 1) < 16777216 := hl
    show Run (match srcL ys i S with
      | none => Res.stuck
      | some none => .ok acc S
      | some (some x) => match gN v x ρ with
        | none => .stuck
        | some ρ1 => (noX (tYes' ρ1 S)).bind fun b S1 => if b = true then (noX (f ρ1 S1)).bind fun y S2 => if acc.length < 16777216 then compG (srcL ys) (gN v) tYes' f xs.length (i + 1) (acc ++ [y]) ρ S2 else .stuck
            else compG (srcL ys) (gN v) tYes' f xs.length (i + 1) acc ρ S1) _
    have es : srcL ys i S = some (some x) := by unfold srcL; rw [hx]
    rw [es]
    show Run ((noX (f (ρ.set v (some x)) S)).bind fun y S2 => if acc.length < 16777216 then compG (srcL ys) (gN v) tYes' f xs.length (i + 1) (acc ++ [y]) ρ S2 else .stuck) _
    rw [run_bind, run_noX]
    refine Run.mono (he x List.mem_cons_self S hg) fun y S1 ⟨ey, g1⟩ => ?_
    rw [if_pos (by omega)]
    refine Run.mono (comp_pure (g := g) xs (i + 1) (acc ++ [y]) S0 S1 (hg.trans g1) (by simp; omega) (fun y hy => he y (List.mem_cons_of_mem _ hy)) ys (List.cons.inj e0).2.symm hlt) fun zs S2 ⟨ez, g2⟩ => ?_
    exact ⟨by rw [ez, ey]; simp, g1.trans g2⟩
theorem comp_pure0 {f : D} {g : Val → Val} {v : Nat} {ρ : PD.Env} (xs : List Val) (S : Store) (hl : xs.length < 16777216) (he : ∀ x ∈ xs, ∀ S', Gr S S' → Run (f (ρ.set v (some x)) S') (PureQ S' (g x))) :
    Run (compG (srcL xs) (gN v) tYes' f xs.length 0 [] ρ S) (PureQ S (xs.map g)) := by
  have := comp_pure (f := f) (g := g) (v := v) (ρ := ρ) xs 0 [] S S (.refl S) (by simpa using hl) he xs rfl (Nat.zero_le _)
  simpa using this
/-! ### trees: ints and tuples of trees -/
inductive Tr : Nat → Nat → Val → Prop
  | int (d w : Nat) (i : Int) : Tr d w (.int i)
  | tup {d w : Nat} {xs : List Val} : xs.length ≤ w → (∀ x ∈ xs, Tr d w x) → Tr (d + 1) w (.tup xs)
mutual
def tcount : Val → Int
  | .tup xs => 1 + tcounts xs
  | _ => 0
def tcounts : List Val → Int
  | [] => 0
  | x :: xs => tcount x + tcounts xs
end
theorem tcounts_sum : ∀ xs : List Val, tcounts xs = (xs.map tcount).sum
  | [] => rfl
  | x :: xs => by rw [tcounts, tcounts_sum xs]; rfl
theorem allSome_ints (xs : List Val) : allSome ((xs.map fun x => Val.int (tcount x)).map asI) = some (xs.map tcount) := by
  induction xs with
  | nil => rfl
  | cons x xs ih =>
    rw [List.map_cons, List.map_cons, List.map_cons]
    unfold allSome
    rw [ih]; rfl
theorem p_tuple_count : ∀ (d n : Nat) (v : Val) (S : Store), Tr d 1000 v → d < n → Run ((fns n).tuple_count [v] S) (PureQ S (.int (tcount v)))
  | d, 0, v, S, _, h => absurd h (Nat.not_lt_zero _)
  | d, n + 1, v, S, ht, h => by
    show Run (fnOf 1 2 (b_tuple_count (fns n)) [v] S) _
    unfold b_tuple_count
    cases ht with
    | int _ _ i =>
      walk_at "wp"
      simp only [bType, tyN, oIs, run_ok, run_okB, isB_bl, decide_true, ite_true, w_c, run_okI]
      exact ⟨rfl, .refl S⟩
    | @tup d _ xs hl hx =>
      walk_at "wp"
      simp only [bType, tyN, oIs, run_ok, run_okB, isB_bl, String.reduceEq, decide_false, Bool.false_eq_true, ite_false, dLCT, run_bind, w_var', List.getElem?_cons_zero]
      refine Run.mono (comp_pure0 (g := fun x => .int (tcount x)) xs S (by omega) fun x hxm S' _ => ?_) fun ys S1 ⟨e1, g1⟩ => ?_
      · walk_at "wp"
        simp only [wipeE, List.set_cons_succ, List.set_cons_zero, List.getElem?_cons_succ, List.getElem?_cons_zero]
        exact p_tuple_count d n x S' (hx x hxm) (by omega)
      · subst e1
        simp only [run_alloc, bSum, get_new, Cell.items, allSome_ints, run_okI, oAdd]
        refine ⟨?_, g1.trans (Gr.add _ _)⟩
        rw [tcount, tcounts_sum]
end PD.K01

/-! ## K01M2 -/
set_option Elab.async false
set_option linter.all false
set_option maxRecDepth 100000
set_option maxHeartbeats 4000000
namespace PD.K01
open PySem PySem.Spec L2 PD
/-! ### data: what a value holds, to some depth -/
inductive Da (S : Store) : Nat → Val → Prop
  | non (d : Nat) : Da S d .non
  | bl (d : Nat) (b : Bool) : Da S d (.bl b)
  | int (d : Nat) (i : Int) : Da S d (.int i)
  | str (d : Nat) (z : Str) : (PyData.str z).canLay0 = true → Da S d (.str z)
  | tup {d : Nat} {xs : List Val} : (∀ x ∈ xs, Da S d x) → Da S (d + 1) (.tup xs)
  | ref {d n : Nat} {xs : List Val} : S[n]? = some (.lst xs) → (∀ x ∈ xs, Da S d x) → Da S (d + 1) (.ref n)
theorem Da.up {S : Store} {d : Nat} {v : Val} (h : Da S d v) : ∀ {e : Nat}, d ≤ e → Da S e v := by
  induction h with
  | non d => exact fun _ => .non _
  | bl d b => exact fun _ => .bl _ b
  | int d i => exact fun _ => .int _ i
  | str d z h => exact fun _ => .str _ z h
  | @tup d xs _ ih =>
    intro e he
    obtain ⟨e', rfl⟩ : ∃ e', e = e' + 1 := ⟨e - 1, by omega⟩
    exact .tup fun x hx => ih x hx (by omega)
  | @ref d n xs hn _ ih =>
    intro e he
    obtain ⟨e', rfl⟩ : ∃ e', e = e' + 1 := ⟨e - 1, by omega⟩
    exact .ref hn fun x hx => ih x hx (by omega)
/-- where another store has the same cells -/
theorem Da.same {S S' : Store} {d : Nat} {v : Val} (h : Da S d v) (k : ∀ (n : Nat) (c : Cell), S[n]? = some c → S'[n]? = some c) : Da S' d v := by
  induction h with
  | non d => exact .non _
  | bl d b => exact .bl _ b
  | int d i => exact .int _ i
  | str d z h => exact .str _ z h
  | tup _ ih => exact .tup ih
  | ref hn _ ih => exact .ref (k _ _ hn) ih
theorem Da.gr {S S' : Store} {d : Nat} {v : Val} (h : Da S d v) (g : Gr S S') : Da S' d v := h.same fun _ _ e => g.get e
theorem allSome_all {α β : Type} {f : α → Option β} {g : α → β} : ∀ {xs : List α}, (∀ x ∈ xs, f x = some (g x)) → allSome (xs.map f) = some (xs.map g)
  | [], _ => rfl
  | x :: xs, h => by
    rw [List.map_cons, List.map_cons]
    unfold allSome
    rw [h x List.mem_cons_self, allSome_all fun y hy => h y (List.mem_cons_of_mem _ hy)]
/-- what it is as data -/
def dat (S : Store) (v : Val) : PyData := (toD 66 S v).getD .none
theorem Da.toD {S : Store} {d : Nat} {v : Val} (h : Da S d v) : ∀ f f' : Nat, d < f → d < f' → toD f S v = toD f' S v ∧ ∃ p, toD f S v = some p := by
  induction h with
  | non d => intro f f' h1 h2; obtain ⟨f, rfl⟩ : ∃ g, f = g + 1 := ⟨f - 1, by omega⟩; obtain ⟨f', rfl⟩ : ∃ g, f' = g + 1 := ⟨f' - 1, by omega⟩; exact ⟨rfl, _, rfl⟩
  | bl d b => intro f f' h1 h2; obtain ⟨f, rfl⟩ : ∃ g, f = g + 1 := ⟨f - 1, by omega⟩; obtain ⟨f', rfl⟩ : ∃ g, f' = g + 1 := ⟨f' - 1, by omega⟩; exact ⟨rfl, _, rfl⟩
  | int d b => intro f f' h1 h2; obtain ⟨f, rfl⟩ : ∃ g, f = g + 1 := ⟨f - 1, by omega⟩; obtain ⟨f', rfl⟩ : ∃ g, f' = g + 1 := ⟨f' - 1, by omega⟩; exact ⟨rfl, _, rfl⟩
  | str d b => intro f f' h1 h2; obtain ⟨f, rfl⟩ : ∃ g, f = g + 1 := ⟨f - 1, by omega⟩; obtain ⟨f', rfl⟩ : ∃ g, f' = g + 1 := ⟨f' - 1, by omega⟩; exact ⟨rfl, _, rfl⟩
  | @tup d xs _ ih =>
    intro f f' h1 h2
    obtain ⟨f, rfl⟩ : ∃ g, f = g + 1 := ⟨f - 1, by omega⟩
    obtain ⟨f', rfl⟩ : ∃ g, f' = g + 1 := ⟨f' - 1, by omega⟩
    have e : xs.map (PD.toD f S) = xs.map (PD.toD f' S) := List.map_congr_left fun x hx => (ih x hx f f' (by omega) (by omega)).1
    have a : allSome (xs.map (PD.toD f S)) = some (xs.map fun x => (PD.toD f S x).getD .none) := allSome_all fun x hx => by
      obtain ⟨p, hp⟩ := (ih x hx f f' (by omega) (by omega)).2
      rw [hp]; rfl
    refine ⟨?_, ?_⟩
    · show (allSome (xs.map (PD.toD f S))).map PyData.tuple = (allSome (xs.map (PD.toD f' S))).map PyData.tuple
      rw [e]
    · exact ⟨_, show (allSome (xs.map (PD.toD f S))).map PyData.tuple = _ by rw [a]; rfl⟩
  | @ref d n xs hn _ ih =>
    intro f f' h1 h2
    obtain ⟨f, rfl⟩ : ∃ g, f = g + 1 := ⟨f - 1, by omega⟩
    obtain ⟨f', rfl⟩ : ∃ g, f' = g + 1 := ⟨f' - 1, by omega⟩
    have e : xs.map (PD.toD f S) = xs.map (PD.toD f' S) := List.map_congr_left fun x hx => (ih x hx f f' (by omega) (by omega)).1
    have a : allSome (xs.map (PD.toD f S)) = some (xs.map fun x => (PD.toD f S x).getD .none) := allSome_all fun x hx => by
      obtain ⟨p, hp⟩ := (ih x hx f f' (by omega) (by omega)).2
      rw [hp]; rfl
    have u : ∀ g, PD.toD (g + 1) S (.ref n) = (allSome (xs.map (PD.toD g S))).map PyData.list := fun g => by
      show (match S[n]? with | some c => (allSome (c.items.map (PD.toD g S))).map PyData.list | none => none) = _
      rw [hn]; rfl
    exact ⟨by rw [u, u, e], _, by rw [u, a]; rfl⟩
theorem Da.dat {S : Store} {d : Nat} {v : Val} (h : Da S d v) {f : Nat} (h1 : d < f) (h2 : d < 66) : PD.toD f S v = some (dat S v) := by
  obtain ⟨e, p, hp⟩ := h.toD 66 f h2 h1
  unfold PD.K01.dat
  rw [← e, hp]; rfl
theorem dat_tup {S : Store} {d : Nat} {xs : List Val} (h : ∀ x ∈ xs, Da S d x) (hd : d < 65) : dat S (.tup xs) = .tuple (xs.map (dat S)) := by
  unfold dat
  have : allSome (xs.map (PD.toD 65 S)) = some (xs.map fun x => (toD 66 S x).getD .none) := allSome_all fun x hx => (h x hx).dat (by omega) (by omega)
  show ((allSome (xs.map (PD.toD 65 S))).map PyData.tuple).getD .none = _
  rw [this]; rfl
theorem dat_ref {S : Store} {d n : Nat} {xs : List Val} (hn : S[n]? = some (.lst xs)) (h : ∀ x ∈ xs, Da S d x) (hd : d < 65) : dat S (.ref n) = .list (xs.map (dat S)) := by
  unfold dat
  have : allSome (xs.map (PD.toD 65 S)) = some (xs.map fun x => (toD 66 S x).getD .none) := allSome_all fun x hx => (h x hx).dat (by omega) (by omega)
  show ((match S[n]? with | some c => (allSome (c.items.map (PD.toD 65 S))).map PyData.list | none => none)).getD .none = _
  rw [hn]
  show ((allSome (xs.map (PD.toD 65 S))).map PyData.list).getD .none = _
  rw [this]; rfl
theorem canLay_all : ∀ {ps : List PyData}, (∀ p ∈ ps, p.canLay0 = true) → PyData.canLayAll0 ps = true
  | [], _ => rfl
  | p :: ps, h => by
    show (p.canLay0 && PyData.canLayAll0 ps) = true
    rw [h p List.mem_cons_self, canLay_all fun q hq => h q (List.mem_cons_of_mem _ hq)]; rfl
theorem depth_all {d : Nat} : ∀ {ps : List PyData}, (∀ p ∈ ps, p.depth ≤ d) → PyData.depthAll ps ≤ d
  | [], _ => Nat.zero_le _
  | p :: ps, h => by
    have h1 := h p List.mem_cons_self
    have h2 := depth_all fun q hq => h q (List.mem_cons_of_mem _ hq)
    show max p.depth (PyData.depthAll ps) ≤ d
    omega
theorem Da.lay {S : Store} {d : Nat} {v : Val} (h : Da S d v) : d < 65 → (PD.K01.dat S v).canLay0 = true ∧ (PD.K01.dat S v).depth ≤ d := by
  induction h with
  | non d => exact fun _ => ⟨rfl, Nat.zero_le _⟩
  | bl d b => exact fun _ => ⟨rfl, Nat.zero_le _⟩
  | int d i => exact fun _ => ⟨rfl, Nat.zero_le _⟩
  | str d z hz => exact fun _ => ⟨hz, Nat.zero_le _⟩
  | @tup d xs hx ih =>
    intro hd
    rw [dat_tup hx (by omega)]
    refine ⟨canLay_all fun p hp => ?_, ?_⟩
    · obtain ⟨x, hx', rfl⟩ := List.mem_map.mp hp
      exact (ih x hx' (by omega)).1
    · have : PyData.depthAll (xs.map (PD.K01.dat S)) ≤ d := depth_all fun p hp => by
        obtain ⟨x, hx', rfl⟩ := List.mem_map.mp hp
        exact (ih x hx' (by omega)).2
      show PyData.depthAll (xs.map (PD.K01.dat S)) + 1 ≤ d + 1
      omega
  | @ref d n xs hn hx ih =>
    intro hd
    rw [dat_ref hn hx (by omega)]
    refine ⟨canLay_all fun p hp => ?_, ?_⟩
    · obtain ⟨x, hx', rfl⟩ := List.mem_map.mp hp
      exact (ih x hx' (by omega)).1
    · have : PyData.depthAll (xs.map (PD.K01.dat S)) ≤ d := depth_all fun p hp => by
        obtain ⟨x, hx', rfl⟩ := List.mem_map.mp hp
        exact (ih x hx' (by omega)).2
      show PyData.depthAll (xs.map (PD.K01.dat S)) + 1 ≤ d + 1
      omega
theorem Da.shaped {S : Store} {d : Nat} {v : Val} (h : Da S d v) (hd : d < 65) : SeqAt.shaped (PD.K01.dat S v) = true := by
  obtain ⟨h1, h2⟩ := h.lay hd
  unfold SeqAt.shaped
  rw [h1, decide_eq_true (by omega)]; rfl
theorem deq_dat {S : Store} {d e : Nat} {x y : Val} (hx : Da S d x) (hy : Da S e y) (hd : d < 65) (he : e < 65) : deq x y S = some (PyData.eqv (dat S x) (dat S y)) := by
  have gen : (match toD 66 S x, toD 66 S y with
    | some d, some e => if SeqAt.shaped d = true ∧ SeqAt.shaped e = true then some (PyData.eqv d e) else none
    | _, _ => none) = some (PyData.eqv (dat S x) (dat S y)) := by
    rw [hx.dat (f := 66) (by omega) (by omega), hy.dat (f := 66) (by omega) (by omega)]
    show (if SeqAt.shaped (dat S x) = true ∧ SeqAt.shaped (dat S y) = true then some _ else none) = _
    rw [if_pos ⟨hx.shaped hd, hy.shaped he⟩]
  cases hx with
  | int _ a =>
    cases hy with
    | int _ b =>
      show some (decide (a = b)) = some (a == b)
      rw [Bool.beq_eq_decide_eq]
    | _ => exact gen
  | _ => exact gen
theorem run_eq {S : Store} {d e : Nat} {x y : Val} {Q : Val → Store → Prop} (hx : Da S d x) (hy : Da S e y) (hd : d < 65) (he : e < 65) : Run (oEq x y S) Q = Q (.bl (PyData.eqv (dat S x) (dat S y))) S := by
  unfold oEq
  rw [deq_dat hx hy hd he]; rfl
theorem run_ne {S : Store} {d e : Nat} {x y : Val} {Q : Val → Store → Prop} (hx : Da S d x) (hy : Da S e y) (hd : d < 65) (he : e < 65) : Run (oNe x y S) Q = Q (.bl (!PyData.eqv (dat S x) (dat S y))) S := by
  unfold oNe
  rw [deq_dat hx hy hd he]; rfl
theorem run_eqI {S : Store} {a b : Int} {Q : Val → Store → Prop} : Run (oEq (.int a) (.int b) S) Q = Q (.bl (decide (a = b))) S := rfl
theorem run_neI {S : Store} {a b : Int} {Q : Val → Store → Prop} : Run (oNe (.int a) (.int b) S) Q = Q (.bl (!decide (a = b))) S := rfl
end PD.K01

/-! ## K01M3 -/
set_option Elab.async false
set_option linter.all false
set_option maxRecDepth 100000
set_option maxHeartbeats 4000000
namespace PD.K01
open PySem PySem.Spec L2 PD
theorem ty_int {i : Int} {S : Store} : tyN (.int i) S = some "int" := rfl
theorem ty_bl {i : Bool} {S : Store} : tyN (.bl i) S = some "bool" := rfl
theorem ty_str {i : Str} {S : Store} : tyN (.str i) S = some "str" := rfl
theorem ty_non {S : Store} : tyN .non S = some "NoneType" := rfl
theorem ty_tup {i : List Val} {S : Store} : tyN (.tup i) S = some "tuple" := rfl
theorem ty_ref {m : Nat} {c : Cell} {S : Store} (h : S[m]? = some c) : tyN (.ref m) S = some "list" := by
  show (match S[m]? with | some _ => some "list" | none => none) = _
  rw [h]
local macro_rules | `(tactic| walk_at "wp") => `(tactic| simp only [run_ok, run_okI, run_okB, run_alloc, run_stuck, run_bind, run_ite, run_noX, run_fnOf, w_c, w_op, w_un, w_call, w_callK, w_nil, w_cons, w_tup, w_lst, isB_bl, w_tval, w_tand, w_tor, w_tnot, w_and, w_or, w_not, w_if,
  s_next, s_seq, s_if, s_ret, s_drop, s_set, s_par, s_put, s_asg, w_var', runS_next, runS_ret, runS_stuck, List.length_cons, List.length_nil, List.length_singleton, List.map_cons, List.map_nil, List.cons_append, List.nil_append, List.replicate_succ, List.replicate_zero, List.getElem?_cons_zero, List.getElem?_cons_succ,
  List.set_cons_zero, List.set_cons_succ, Nat.reduceAdd, Nat.reduceSub, Nat.reduceEqDiff, ite_true, ite_false, if_true, if_false, reduceIte, Bool.false_eq_true, decide_true, decide_false, String.reduceEq, Int.reduceEq, Nat.reduceLeDiff, true_and, and_true, Bool.not_true, Bool.not_false, decide_eq_true_eq, List.append_nil,
  bType, bIsi, bLen, bInt, ty_int, ty_bl, ty_str, ty_non, ty_tup, isT, oIs, oIsNot, oSub, oAdd, oIx, run_eqI, run_neI, Bool.or_false, Bool.or_true, Bool.false_or, Bool.true_or, Bool.and_true, Bool.and_false, Bool.true_and, Bool.false_and, reduceCtorEq, List.mem_cons, true_or, or_true, decide_not, Bool.not_eq_true', decide_eq_false_iff_not])
theorem askInt : "int" ∈ askedT := by decide
theorem askBool : "bool" ∈ askedT := by decide
theorem askTuple : "tuple" ∈ askedT := by decide
theorem askList : "list" ∈ askedT := by decide
theorem askStr : "str" ∈ askedT := by decide
/-- a share, nested at most so deep -/
def isSh : Nat → Val → Bool
  | _, .int i => decide (i = 0) || decide (i = 1)
  | d + 1, .tup [a, b] => isSh d a && isSh d b && !(match a, b with | .int i, .int j => decide (i = j) | _, _ => false)
  | _, _ => false
theorem atI0 {α : Type} {a : α} {as : List α} : L2.atI (a :: as) 0 = some a := atI_nat (j := 0) rfl
theorem atI1 {α : Type} {a b : α} {as : List α} : L2.atI (a :: b :: as) 1 = some b := atI_nat (j := 1) rfl
theorem atI2 {α : Type} {a b c : α} {as : List α} : L2.atI (a :: b :: c :: as) 2 = some c := atI_nat (j := 2) rfl
theorem dat_int (S : Store) (i : Int) : dat S (.int i) = .int i := rfl
theorem dat_bl (S : Store) (i : Bool) : dat S (.bl i) = .bool i := rfl
theorem eqv_pair {S : Store} {d : Nat} {a b : Val} {i j : Int} (ha : Da S d a) (hb : Da S d b) (hd : d < 64) : PyData.eqv (dat S (.tup [a, b])) (dat S (.tup [.int i, .int j])) = (PyData.eqv (dat S a) (.int i) && PyData.eqv (dat S b) (.int j)) := by
  rw [dat_tup (d := d) (by intro x hx; rcases List.mem_cons.mp hx with rfl | hx; exact ha; rw [List.mem_singleton.mp hx]; exact hb) (by omega),
    dat_tup (d := 0) (by intro x hx; rcases List.mem_cons.mp hx with rfl | hx; exact .int _ _; rw [List.mem_singleton.mp hx]; exact .int _ _) (by omega)]
  show (PyData.eqv (dat S a) (.int i) && (PyData.eqv (dat S b) (.int j) && true)) = _
  rw [Bool.and_true]
theorem da_pair {S : Store} {d : Nat} {a b : Val} (ha : Da S d a) (hb : Da S d b) : Da S (d + 1) (.tup [a, b]) := .tup (by intro x hx; rcases List.mem_cons.mp hx with rfl | hx; exact ha; rw [List.mem_singleton.mp hx]; exact hb)
def isI (v : Val) (i : Int) : Bool := match v with
  | .int j => decide (j = i)
  | _ => false
/-- a share that equals a number is it -/
theorem sh_eq {S : Store} {d e : Nat} {v : Val} {i : Int} (h : isSh d v = true) (hv : Da S e v) (he : e < 65) : PyData.eqv (dat S v) (.int i) = isI v i := by
  cases hv with
  | int _ j => show (j == i) = decide (j = i); rw [Bool.beq_eq_decide_eq]
  | @tup e' xs hx => rw [dat_tup hx (by omega)]; rfl
  | non => cases d <;> cases h
  | bl => cases d <;> cases h
  | str => cases d <;> cases h
  | ref => cases d <;> cases h
theorem isSh_len {k : Nat} {xs : List Val} (h : xs.length ≠ 2) : isSh k (.tup xs) = false := by
  cases k with
  | zero => simp [isSh]
  | succ k =>
    match xs, h with
    | [], _ => simp [isSh]
    | [_], _ => simp [isSh]
    | [_, _], h => exact absurd rfl h
    | _ :: _ :: _ :: _, _ => simp [isSh]
theorem two_of {α : Type} {xs : List α} (h : xs.length = 2) : ∃ a b, xs = [a, b] := by
  match xs, h with
  | [a, b], _ => exact ⟨a, b, rfl⟩
theorem three_of {α : Type} {xs : List α} (h : xs.length = 3) : ∃ a b c, xs = [a, b, c] := by
  match xs, h with
  | [a, b, c], _ => exact ⟨a, b, c, rfl⟩
/-- two numbers that are the same -/
def sameI (a b : Val) : Bool := match a, b with
  | .int i, .int j => decide (i = j)
  | _, _ => false
theorem isSh_pair {k : Nat} {a b : Val} : isSh (k + 1) (.tup [a, b]) = (isSh k a && isSh k b && !sameI a b) := rfl
theorem sh_int {k : Nat} {i : Int} (h : isSh k (.int i) = true) : i = 0 ∨ i = 1 := by
  cases k <;> (rcases Bool.or_eq_true _ _ ▸ (show (decide (i = 0) || decide (i = 1)) = true from h) with h | h) <;> simp_all
theorem same_of {a b : Val} {i : Int} (h1 : isI a i = true) (h2 : isI b i = true) : sameI a b = true := by
  cases a <;> first | cases h1 | skip
  cases b <;> first | cases h2 | skip
  have e1 := of_decide_eq_true h1
  have e2 := of_decide_eq_true h2
  exact decide_eq_true (e1.trans e2.symm)
theorem p_is_share_tree : ∀ (e n k : Nat) (v : Val) (S : Store), Da S e v → e < 60 → e < n → Run ((fns n)._is_share_tree [v, .int k] S) (fun r S' => r = .bl (isSh k v) ∧ S' = S)
  | e, 0, k, v, S, _, _, h => absurd h (Nat.not_lt_zero _)
  | e, n + 1, k, v, S, hv, h60, h => by
    show Run (fnOf 2 2 (b__is_share_tree (fns n)) [v, .int k] S) _
    unfold b__is_share_tree
    have hv0 := hv
    cases hv with
    | int _ i =>
      walk_at "wp"
      have e : isSh k (.int i) = (decide (i = 0) || decide (i = 1)) := by cases k <;> rfl
      rw [e]
      split <;> simp_all
    | non => walk_at "wp"; cases k <;> rfl
    | bl => walk_at "wp"; cases k <;> rfl
    | str => walk_at "wp"; cases k <;> rfl
    | @ref _ m ys hn _ =>
      walk_at "wp"
      simp only [ty_ref hn, run_ok, run_okB, isB_bl, String.reduceEq, decide_false, Bool.not_false, if_true]
      cases k <;> simp [isSh]
    | @tup e' xs hx =>
      walk_at "wp"
      by_cases hl : xs.length = 2
      · obtain ⟨a, b, rfl⟩ := two_of hl
        have ha := hx a (by simp)
        have hb := hx b (by simp)
        rw [if_neg (by simp)]
        cases k with
        | zero => rw [if_pos (by rfl)]; simp [isSh]
        | succ k =>
          rw [if_neg (by omega), run_eq hv0 (da_pair (.int 0 0) (.int 0 0)) (by omega) (by omega), eqv_pair ha hb (by omega), isB_bl]
          have ek : ((k + 1 : Nat) : Int) - 1 = (k : Int) := by omega
          split
          · rename_i h0
            refine ⟨?_, rfl⟩
            cases hs : isSh (k + 1) (.tup [a, b]) with
            | false => rfl
            | true =>
              rw [isSh_pair] at hs
              simp only [Bool.and_eq_true] at hs h0
              rw [sh_eq hs.1.1 ha (by omega), sh_eq hs.1.2 hb (by omega)] at h0
              rw [same_of h0.1 h0.2] at hs
              exact absurd hs.2 (by decide)
          · rename_i h0
            rw [run_eq hv0 (da_pair (.int 0 1) (.int 0 1)) (by omega) (by omega), eqv_pair ha hb (by omega), isB_bl]
            split
            · rename_i h1
              refine ⟨?_, rfl⟩
              cases hs : isSh (k + 1) (.tup [a, b]) with
              | false => rfl
              | true =>
                rw [isSh_pair] at hs
                simp only [Bool.and_eq_true] at hs h1
                rw [sh_eq hs.1.1 ha (by omega), sh_eq hs.1.2 hb (by omega)] at h1
                rw [same_of h1.1 h1.2] at hs
                exact absurd hs.2 (by decide)
            · rename_i h1
              simp only [atI0, atI1, run_ok, ek]
              refine Run.mono (p_is_share_tree e' n k a S ha (by omega) (by omega)) fun r S1 ⟨er, eS⟩ => ?_
              subst er eS
              rw [isB_bl, isSh_pair]
              split
              · rename_i hsa
                refine Run.mono (p_is_share_tree e' n k b S1 hb (by omega) (by omega)) fun r S2 ⟨er, eS⟩ => ⟨?_, eS⟩
                rw [er, hsa]
                congr 1
                cases hsb : isSh k b with
                | false => rfl
                | true =>
                  rw [sh_eq hsa ha (by omega), sh_eq hsb hb (by omega)] at h0 h1
                  have : sameI a b = false := by
                    cases a <;> cases b <;> first | rfl | skip
                    rename_i i j
                    have h2 := sh_int hsa
                    have h3 := sh_int hsb
                    rcases h2 with rfl | rfl <;> rcases h3 with rfl | rfl <;> simp_all [sameI, isI]
                  rw [this]; rfl
              · rename_i hsa
                rw [Bool.not_eq_true] at hsa
                rw [hsa]
                exact ⟨rfl, rfl⟩
      · rw [if_pos (by omega), isSh_len hl]
end PD.K01

/-! ## K01M4 -/
set_option Elab.async false
set_option linter.all false
set_option maxRecDepth 100000
set_option maxHeartbeats 4000000
namespace PD.K01
open PySem PySem.Spec L2 PD
theorem isSh_tr : ∀ (e k : Nat) (v : Val) (S : Store), isSh k v = true → Da S e v → Tr e 1000 v := fun e k v S h hv => by
  induction hv generalizing k with
  | int d i => exact .int _ _ i
  | non => cases k <;> cases h
  | bl => cases k <;> cases h
  | str => cases k <;> cases h
  | ref => cases k <;> cases h
  | @tup d xs hx ih =>
    by_cases hl : xs.length = 2
    · obtain ⟨a, b, rfl⟩ := two_of hl
      cases k with
      | zero => simp [isSh] at h
      | succ k =>
        rw [isSh_pair] at h
        simp only [Bool.and_eq_true] at h
        refine .tup (by simp) fun x hm => ?_
        rcases List.mem_cons.mp hm with rfl | hm
        · exact ih _ (by simp) k h.1.1
        · rw [List.mem_singleton.mp hm]
          exact ih _ (by simp) k h.1.2
    · rw [isSh_len hl] at h; cases h
/-- a share: its form, its size -/
def shOk (v : Val) : Bool := isSh 12 v && decide (tcount v ≤ 63)
theorem p_is_share {e n : Nat} {v : Val} {S : Store} (hv : Da S e v) (he : e < 60) (hn : 61 < n) : Run ((fns n).is_share [v] S) (PureQ S (.bl (shOk v))) := by
  obtain ⟨n, rfl⟩ : ∃ m, n = m + 1 := ⟨n - 1, by omega⟩
  show Run (fnOf 1 1 (b_is_share (fns n)) [v] S) _
  unfold b_is_share
  simp only [run_ok, run_okI, run_okB, run_alloc, run_stuck, run_bind, run_ite, run_noX, run_fnOf, w_c, w_op, w_un, w_call, w_callK, w_nil, w_cons, w_tup, w_lst, isB_bl, w_tval, w_tand, w_tor, w_tnot, w_and, w_or, w_not, w_if, s_next, s_seq, s_if, s_ret, s_drop, s_set, s_par, s_put, s_asg, w_var', runS_next, runS_ret, runS_stuck, runS_ite, List.length_cons, List.length_nil, List.length_singleton, List.map_cons, List.map_nil, List.cons_append, List.nil_append, List.replicate_succ, List.replicate_zero, List.getElem?_cons_zero, List.getElem?_cons_succ, List.set_cons_zero, List.set_cons_succ, Nat.reduceAdd, Nat.reduceSub, Nat.reduceEqDiff, ite_true, ite_false, if_true, if_false, reduceIte, Bool.false_eq_true, decide_true, decide_false, String.reduceEq, Int.reduceEq, Nat.reduceLeDiff, true_and, and_true, Bool.not_true, Bool.not_false, decide_eq_true_eq, List.append_nil, bType, bIsi, bLen, bInt, ty_int, ty_bl, ty_str, ty_non, ty_tup, isT, oIs, oIsNot, oSub, oAdd, oIx, run_eqI, run_neI, Bool.or_false, Bool.or_true, Bool.false_or, Bool.true_or, Bool.and_true, Bool.and_false, Bool.true_and, Bool.false_and, reduceCtorEq, decide_not, Bool.not_eq_true', decide_eq_false_iff_not, askInt, askBool, askTuple, askList, askStr, oLe, oLt, oGe, oGt, oInt2, atI0, atI1, atI2]
  refine Run.mono (p_is_share_tree e n 12 v S hv he (by omega)) fun r S1 ⟨er, eS⟩ => ?_
  subst er eS
  simp only [run_ok, run_okI, run_okB, run_alloc, run_stuck, run_bind, run_ite, run_noX, run_fnOf, w_c, w_op, w_un, w_call, w_callK, w_nil, w_cons, w_tup, w_lst, isB_bl, w_tval, w_tand, w_tor, w_tnot, w_and, w_or, w_not, w_if, s_next, s_seq, s_if, s_ret, s_drop, s_set, s_par, s_put, s_asg, w_var', runS_next, runS_ret, runS_stuck, runS_ite, List.length_cons, List.length_nil, List.length_singleton, List.map_cons, List.map_nil, List.cons_append, List.nil_append, List.replicate_succ, List.replicate_zero, List.getElem?_cons_zero, List.getElem?_cons_succ, List.set_cons_zero, List.set_cons_succ, Nat.reduceAdd, Nat.reduceSub, Nat.reduceEqDiff, ite_true, ite_false, if_true, if_false, reduceIte, Bool.false_eq_true, decide_true, decide_false, String.reduceEq, Int.reduceEq, Nat.reduceLeDiff, true_and, and_true, Bool.not_true, Bool.not_false, decide_eq_true_eq, List.append_nil, bType, bIsi, bLen, bInt, ty_int, ty_bl, ty_str, ty_non, ty_tup, isT, oIs, oIsNot, oSub, oAdd, oIx, run_eqI, run_neI, Bool.or_false, Bool.or_true, Bool.false_or, Bool.true_or, Bool.and_true, Bool.and_false, Bool.true_and, Bool.false_and, reduceCtorEq, decide_not, Bool.not_eq_true', decide_eq_false_iff_not, askInt, askBool, askTuple, askList, askStr, oLe, oLt, oGe, oGt, oInt2, atI0, atI1, atI2]
  unfold shOk
  split
  · rename_i hs
    refine Run.mono (p_tuple_count e n v S1 (isSh_tr _ _ _ _ hs hv) (by omega)) fun r S2 ⟨er, g⟩ => ?_
    subst er
    simp only [run_ok, run_okI, run_okB, run_alloc, run_stuck, run_bind, run_ite, run_noX, run_fnOf, w_c, w_op, w_un, w_call, w_callK, w_nil, w_cons, w_tup, w_lst, isB_bl, w_tval, w_tand, w_tor, w_tnot, w_and, w_or, w_not, w_if, s_next, s_seq, s_if, s_ret, s_drop, s_set, s_par, s_put, s_asg, w_var', runS_next, runS_ret, runS_stuck, runS_ite, List.length_cons, List.length_nil, List.length_singleton, List.map_cons, List.map_nil, List.cons_append, List.nil_append, List.replicate_succ, List.replicate_zero, List.getElem?_cons_zero, List.getElem?_cons_succ, List.set_cons_zero, List.set_cons_succ, Nat.reduceAdd, Nat.reduceSub, Nat.reduceEqDiff, ite_true, ite_false, if_true, if_false, reduceIte, Bool.false_eq_true, decide_true, decide_false, String.reduceEq, Int.reduceEq, Nat.reduceLeDiff, true_and, and_true, Bool.not_true, Bool.not_false, decide_eq_true_eq, List.append_nil, bType, bIsi, bLen, bInt, ty_int, ty_bl, ty_str, ty_non, ty_tup, isT, oIs, oIsNot, oSub, oAdd, oIx, run_eqI, run_neI, Bool.or_false, Bool.or_true, Bool.false_or, Bool.true_or, Bool.and_true, Bool.and_false, Bool.true_and, Bool.false_and, reduceCtorEq, decide_not, Bool.not_eq_true', decide_eq_false_iff_not, askInt, askBool, askTuple, askList, askStr, oLe, oLt, oGe, oGt, oInt2, atI0, atI1, atI2]
    exact ⟨by rw [hs, Bool.true_and], g⟩
  · rename_i hs
    rw [Bool.not_eq_true] at hs
    exact ⟨by rw [hs, Bool.false_and], .refl _⟩
/-! ### the law's own look -/
theorem in01 {S : Store} {i : Int} {Q : Val → Store → Prop} : Run (oIn (.int i) (.tup [.int 0, .int 1]) S) Q = Q (.bl (decide (i = 0) || decide (i = 1))) S := by
  show Q (.bl ((0 == i) || ((1 == i) || false))) S = _
  congr 2
  rw [Bool.or_false, Bool.beq_eq_decide_eq, Bool.beq_eq_decide_eq]
  congr 1 <;> exact decide_eq_decide.mpr ⟨Eq.symm, Eq.symm⟩
theorem l_is_share : ∀ (e n k : Nat) (v : Val) (S : Store), Da S e v → e < 60 → e < n → Run ((fns n)._law_is_share [v, .int k] S) (fun r S' => r = .bl (isSh k v) ∧ S' = S)
  | e, 0, k, v, S, _, _, h => absurd h (Nat.not_lt_zero _)
  | e, n + 1, k, v, S, hv, h60, h => by
    show Run (fnOf 2 2 (b__law_is_share (fns n)) [v, .int k] S) _
    unfold b__law_is_share
    cases hv with
    | int _ i =>
      simp only [run_ok, run_okI, run_okB, run_alloc, run_stuck, run_bind, run_ite, run_noX, run_fnOf, w_c, w_op, w_un, w_call, w_callK, w_nil, w_cons, w_tup, w_lst, isB_bl, w_tval, w_tand, w_tor, w_tnot, w_and, w_or, w_not, w_if, s_next, s_seq, s_if, s_ret, s_drop, s_set, s_par, s_put, s_asg, w_var', runS_next, runS_ret, runS_stuck, runS_ite, List.length_cons, List.length_nil, List.length_singleton, List.map_cons, List.map_nil, List.cons_append, List.nil_append, List.replicate_succ, List.replicate_zero, List.getElem?_cons_zero, List.getElem?_cons_succ, List.set_cons_zero, List.set_cons_succ, Nat.reduceAdd, Nat.reduceSub, Nat.reduceEqDiff, ite_true, ite_false, if_true, if_false, reduceIte, Bool.false_eq_true, decide_true, decide_false, String.reduceEq, Int.reduceEq, Nat.reduceLeDiff, true_and, and_true, Bool.not_true, Bool.not_false, decide_eq_true_eq, List.append_nil, bType, bIsi, bLen, bInt, ty_int, ty_bl, ty_str, ty_non, ty_tup, isT, oIs, oIsNot, oSub, oAdd, oIx, run_eqI, run_neI, Bool.or_false, Bool.or_true, Bool.false_or, Bool.true_or, Bool.and_true, Bool.and_false, Bool.true_and, Bool.false_and, reduceCtorEq, decide_not, Bool.not_eq_true', decide_eq_false_iff_not, askInt, askBool, askTuple, askList, askStr, oLe, oLt, oGe, oGt, oInt2, atI0, atI1, atI2]
      rw [in01]
      refine ⟨?_, rfl⟩
      cases k <;> rfl
    | non => simp only [run_ok, run_okI, run_okB, run_alloc, run_stuck, run_bind, run_ite, run_noX, run_fnOf, w_c, w_op, w_un, w_call, w_callK, w_nil, w_cons, w_tup, w_lst, isB_bl, w_tval, w_tand, w_tor, w_tnot, w_and, w_or, w_not, w_if, s_next, s_seq, s_if, s_ret, s_drop, s_set, s_par, s_put, s_asg, w_var', runS_next, runS_ret, runS_stuck, runS_ite, List.length_cons, List.length_nil, List.length_singleton, List.map_cons, List.map_nil, List.cons_append, List.nil_append, List.replicate_succ, List.replicate_zero, List.getElem?_cons_zero, List.getElem?_cons_succ, List.set_cons_zero, List.set_cons_succ, Nat.reduceAdd, Nat.reduceSub, Nat.reduceEqDiff, ite_true, ite_false, if_true, if_false, reduceIte, Bool.false_eq_true, decide_true, decide_false, String.reduceEq, Int.reduceEq, Nat.reduceLeDiff, true_and, and_true, Bool.not_true, Bool.not_false, decide_eq_true_eq, List.append_nil, bType, bIsi, bLen, bInt, ty_int, ty_bl, ty_str, ty_non, ty_tup, isT, oIs, oIsNot, oSub, oAdd, oIx, run_eqI, run_neI, Bool.or_false, Bool.or_true, Bool.false_or, Bool.true_or, Bool.and_true, Bool.and_false, Bool.true_and, Bool.false_and, reduceCtorEq, decide_not, Bool.not_eq_true', decide_eq_false_iff_not, askInt, askBool, askTuple, askList, askStr, oLe, oLt, oGe, oGt, oInt2, atI0, atI1, atI2]; cases k <;> simp [isSh]
    | bl => simp only [run_ok, run_okI, run_okB, run_alloc, run_stuck, run_bind, run_ite, run_noX, run_fnOf, w_c, w_op, w_un, w_call, w_callK, w_nil, w_cons, w_tup, w_lst, isB_bl, w_tval, w_tand, w_tor, w_tnot, w_and, w_or, w_not, w_if, s_next, s_seq, s_if, s_ret, s_drop, s_set, s_par, s_put, s_asg, w_var', runS_next, runS_ret, runS_stuck, runS_ite, List.length_cons, List.length_nil, List.length_singleton, List.map_cons, List.map_nil, List.cons_append, List.nil_append, List.replicate_succ, List.replicate_zero, List.getElem?_cons_zero, List.getElem?_cons_succ, List.set_cons_zero, List.set_cons_succ, Nat.reduceAdd, Nat.reduceSub, Nat.reduceEqDiff, ite_true, ite_false, if_true, if_false, reduceIte, Bool.false_eq_true, decide_true, decide_false, String.reduceEq, Int.reduceEq, Nat.reduceLeDiff, true_and, and_true, Bool.not_true, Bool.not_false, decide_eq_true_eq, List.append_nil, bType, bIsi, bLen, bInt, ty_int, ty_bl, ty_str, ty_non, ty_tup, isT, oIs, oIsNot, oSub, oAdd, oIx, run_eqI, run_neI, Bool.or_false, Bool.or_true, Bool.false_or, Bool.true_or, Bool.and_true, Bool.and_false, Bool.true_and, Bool.false_and, reduceCtorEq, decide_not, Bool.not_eq_true', decide_eq_false_iff_not, askInt, askBool, askTuple, askList, askStr, oLe, oLt, oGe, oGt, oInt2, atI0, atI1, atI2]; cases k <;> simp [isSh]
    | str => simp only [run_ok, run_okI, run_okB, run_alloc, run_stuck, run_bind, run_ite, run_noX, run_fnOf, w_c, w_op, w_un, w_call, w_callK, w_nil, w_cons, w_tup, w_lst, isB_bl, w_tval, w_tand, w_tor, w_tnot, w_and, w_or, w_not, w_if, s_next, s_seq, s_if, s_ret, s_drop, s_set, s_par, s_put, s_asg, w_var', runS_next, runS_ret, runS_stuck, runS_ite, List.length_cons, List.length_nil, List.length_singleton, List.map_cons, List.map_nil, List.cons_append, List.nil_append, List.replicate_succ, List.replicate_zero, List.getElem?_cons_zero, List.getElem?_cons_succ, List.set_cons_zero, List.set_cons_succ, Nat.reduceAdd, Nat.reduceSub, Nat.reduceEqDiff, ite_true, ite_false, if_true, if_false, reduceIte, Bool.false_eq_true, decide_true, decide_false, String.reduceEq, Int.reduceEq, Nat.reduceLeDiff, true_and, and_true, Bool.not_true, Bool.not_false, decide_eq_true_eq, List.append_nil, bType, bIsi, bLen, bInt, ty_int, ty_bl, ty_str, ty_non, ty_tup, isT, oIs, oIsNot, oSub, oAdd, oIx, run_eqI, run_neI, Bool.or_false, Bool.or_true, Bool.false_or, Bool.true_or, Bool.and_true, Bool.and_false, Bool.true_and, Bool.false_and, reduceCtorEq, decide_not, Bool.not_eq_true', decide_eq_false_iff_not, askInt, askBool, askTuple, askList, askStr, oLe, oLt, oGe, oGt, oInt2, atI0, atI1, atI2]; cases k <;> simp [isSh]
    | @ref _ m ys hn _ =>
      simp only [ty_ref hn, run_ok, run_okI, run_okB, run_alloc, run_stuck, run_bind, run_ite, run_noX, run_fnOf, w_c, w_op, w_un, w_call, w_callK, w_nil, w_cons, w_tup, w_lst, isB_bl, w_tval, w_tand, w_tor, w_tnot, w_and, w_or, w_not, w_if, s_next, s_seq, s_if, s_ret, s_drop, s_set, s_par, s_put, s_asg, w_var', runS_next, runS_ret, runS_stuck, runS_ite, List.length_cons, List.length_nil, List.length_singleton, List.map_cons, List.map_nil, List.cons_append, List.nil_append, List.replicate_succ, List.replicate_zero, List.getElem?_cons_zero, List.getElem?_cons_succ, List.set_cons_zero, List.set_cons_succ, Nat.reduceAdd, Nat.reduceSub, Nat.reduceEqDiff, ite_true, ite_false, if_true, if_false, reduceIte, Bool.false_eq_true, decide_true, decide_false, String.reduceEq, Int.reduceEq, Nat.reduceLeDiff, true_and, and_true, Bool.not_true, Bool.not_false, decide_eq_true_eq, List.append_nil, bType, bIsi, bLen, bInt, ty_int, ty_bl, ty_str, ty_non, ty_tup, isT, oIs, oIsNot, oSub, oAdd, oIx, run_eqI, run_neI, Bool.or_false, Bool.or_true, Bool.false_or, Bool.true_or, Bool.and_true, Bool.and_false, Bool.true_and, Bool.false_and, reduceCtorEq, decide_not, Bool.not_eq_true', decide_eq_false_iff_not, askInt, askBool, askTuple, askList, askStr, oLe, oLt, oGe, oGt, oInt2, atI0, atI1, atI2]
      cases k <;> simp [isSh]
    | @tup e' xs hx =>
      simp only [run_ok, run_okI, run_okB, run_alloc, run_stuck, run_bind, run_ite, run_noX, run_fnOf, w_c, w_op, w_un, w_call, w_callK, w_nil, w_cons, w_tup, w_lst, isB_bl, w_tval, w_tand, w_tor, w_tnot, w_and, w_or, w_not, w_if, s_next, s_seq, s_if, s_ret, s_drop, s_set, s_par, s_put, s_asg, w_var', runS_next, runS_ret, runS_stuck, runS_ite, List.length_cons, List.length_nil, List.length_singleton, List.map_cons, List.map_nil, List.cons_append, List.nil_append, List.replicate_succ, List.replicate_zero, List.getElem?_cons_zero, List.getElem?_cons_succ, List.set_cons_zero, List.set_cons_succ, Nat.reduceAdd, Nat.reduceSub, Nat.reduceEqDiff, ite_true, ite_false, if_true, if_false, reduceIte, Bool.false_eq_true, decide_true, decide_false, String.reduceEq, Int.reduceEq, Nat.reduceLeDiff, true_and, and_true, Bool.not_true, Bool.not_false, decide_eq_true_eq, List.append_nil, bType, bIsi, bLen, bInt, ty_int, ty_bl, ty_str, ty_non, ty_tup, isT, oIs, oIsNot, oSub, oAdd, oIx, run_eqI, run_neI, Bool.or_false, Bool.or_true, Bool.false_or, Bool.true_or, Bool.and_true, Bool.and_false, Bool.true_and, Bool.false_and, reduceCtorEq, decide_not, Bool.not_eq_true', decide_eq_false_iff_not, askInt, askBool, askTuple, askList, askStr, oLe, oLt, oGe, oGt, oInt2, atI0, atI1, atI2]
      by_cases hk : k = 0
      · subst hk
        rw [if_pos (by rfl)]
        simp [isSh]
      · rw [if_neg (by omega)]
        by_cases hl : xs.length = 2
        · obtain ⟨a, b, rfl⟩ := two_of hl
          have ha := hx a (by simp)
          have hb := hx b (by simp)
          obtain ⟨k, rfl⟩ : ∃ j, k = j + 1 := ⟨k - 1, by omega⟩
          have ek : ((k + 1 : Nat) : Int) - 1 = (k : Int) := by omega
          rw [if_neg (by simp)]
          simp only [ek, run_ok, run_okI, run_okB, run_alloc, run_stuck, run_bind, run_ite, run_noX, run_fnOf, w_c, w_op, w_un, w_call, w_callK, w_nil, w_cons, w_tup, w_lst, isB_bl, w_tval, w_tand, w_tor, w_tnot, w_and, w_or, w_not, w_if, s_next, s_seq, s_if, s_ret, s_drop, s_set, s_par, s_put, s_asg, w_var', runS_next, runS_ret, runS_stuck, runS_ite, List.length_cons, List.length_nil, List.length_singleton, List.map_cons, List.map_nil, List.cons_append, List.nil_append, List.replicate_succ, List.replicate_zero, List.getElem?_cons_zero, List.getElem?_cons_succ, List.set_cons_zero, List.set_cons_succ, Nat.reduceAdd, Nat.reduceSub, Nat.reduceEqDiff, ite_true, ite_false, if_true, if_false, reduceIte, Bool.false_eq_true, decide_true, decide_false, String.reduceEq, Int.reduceEq, Nat.reduceLeDiff, true_and, and_true, Bool.not_true, Bool.not_false, decide_eq_true_eq, List.append_nil, bType, bIsi, bLen, bInt, ty_int, ty_bl, ty_str, ty_non, ty_tup, isT, oIs, oIsNot, oSub, oAdd, oIx, run_eqI, run_neI, Bool.or_false, Bool.or_true, Bool.false_or, Bool.true_or, Bool.and_true, Bool.and_false, Bool.true_and, Bool.false_and, reduceCtorEq, decide_not, Bool.not_eq_true', decide_eq_false_iff_not, askInt, askBool, askTuple, askList, askStr, oLe, oLt, oGe, oGt, oInt2, atI0, atI1, atI2]
          refine Run.mono (l_is_share e' n k a S ha (by omega) (by omega)) fun r S1 ⟨er, eS⟩ => ?_
          subst er eS
          rw [isB_bl, isSh_pair]
          cases hsa : isSh k a with
          | false => simp
          | true =>
            simp only [run_ok, run_okI, run_okB, run_alloc, run_stuck, run_bind, run_ite, run_noX, run_fnOf, w_c, w_op, w_un, w_call, w_callK, w_nil, w_cons, w_tup, w_lst, isB_bl, w_tval, w_tand, w_tor, w_tnot, w_and, w_or, w_not, w_if, s_next, s_seq, s_if, s_ret, s_drop, s_set, s_par, s_put, s_asg, w_var', runS_next, runS_ret, runS_stuck, runS_ite, List.length_cons, List.length_nil, List.length_singleton, List.map_cons, List.map_nil, List.cons_append, List.nil_append, List.replicate_succ, List.replicate_zero, List.getElem?_cons_zero, List.getElem?_cons_succ, List.set_cons_zero, List.set_cons_succ, Nat.reduceAdd, Nat.reduceSub, Nat.reduceEqDiff, ite_true, ite_false, if_true, if_false, reduceIte, Bool.false_eq_true, decide_true, decide_false, String.reduceEq, Int.reduceEq, Nat.reduceLeDiff, true_and, and_true, Bool.not_true, Bool.not_false, decide_eq_true_eq, List.append_nil, bType, bIsi, bLen, bInt, ty_int, ty_bl, ty_str, ty_non, ty_tup, isT, oIs, oIsNot, oSub, oAdd, oIx, run_eqI, run_neI, Bool.or_false, Bool.or_true, Bool.false_or, Bool.true_or, Bool.and_true, Bool.and_false, Bool.true_and, Bool.false_and, reduceCtorEq, decide_not, Bool.not_eq_true', decide_eq_false_iff_not, askInt, askBool, askTuple, askList, askStr, oLe, oLt, oGe, oGt, oInt2, atI0, atI1, atI2]
            refine Run.mono (l_is_share e' n k b S1 hb (by omega) (by omega)) fun r S2 ⟨er, eS⟩ => ?_
            subst er eS
            rw [isB_bl]
            cases hsb : isSh k b with
            | false => simp
            | true =>
              simp only [run_ok, run_okI, run_okB, run_alloc, run_stuck, run_bind, run_ite, run_noX, run_fnOf, w_c, w_op, w_un, w_call, w_callK, w_nil, w_cons, w_tup, w_lst, isB_bl, w_tval, w_tand, w_tor, w_tnot, w_and, w_or, w_not, w_if, s_next, s_seq, s_if, s_ret, s_drop, s_set, s_par, s_put, s_asg, w_var', runS_next, runS_ret, runS_stuck, runS_ite, List.length_cons, List.length_nil, List.length_singleton, List.map_cons, List.map_nil, List.cons_append, List.nil_append, List.replicate_succ, List.replicate_zero, List.getElem?_cons_zero, List.getElem?_cons_succ, List.set_cons_zero, List.set_cons_succ, Nat.reduceAdd, Nat.reduceSub, Nat.reduceEqDiff, ite_true, ite_false, if_true, if_false, reduceIte, Bool.false_eq_true, decide_true, decide_false, String.reduceEq, Int.reduceEq, Nat.reduceLeDiff, true_and, and_true, Bool.not_true, Bool.not_false, decide_eq_true_eq, List.append_nil, bType, bIsi, bLen, bInt, ty_int, ty_bl, ty_str, ty_non, ty_tup, isT, oIs, oIsNot, oSub, oAdd, oIx, run_eqI, run_neI, Bool.or_false, Bool.or_true, Bool.false_or, Bool.true_or, Bool.and_true, Bool.and_false, Bool.true_and, Bool.false_and, reduceCtorEq, decide_not, Bool.not_eq_true', decide_eq_false_iff_not, askInt, askBool, askTuple, askList, askStr, oLe, oLt, oGe, oGt, oInt2, atI0, atI1, atI2]
              rw [run_ne ha hb (by omega) (by omega)]
              simp only [run_ok, run_okI, run_okB, run_alloc, run_stuck, run_bind, run_ite, run_noX, run_fnOf, w_c, w_op, w_un, w_call, w_callK, w_nil, w_cons, w_tup, w_lst, isB_bl, w_tval, w_tand, w_tor, w_tnot, w_and, w_or, w_not, w_if, s_next, s_seq, s_if, s_ret, s_drop, s_set, s_par, s_put, s_asg, w_var', runS_next, runS_ret, runS_stuck, runS_ite, List.length_cons, List.length_nil, List.length_singleton, List.map_cons, List.map_nil, List.cons_append, List.nil_append, List.replicate_succ, List.replicate_zero, List.getElem?_cons_zero, List.getElem?_cons_succ, List.set_cons_zero, List.set_cons_succ, Nat.reduceAdd, Nat.reduceSub, Nat.reduceEqDiff, ite_true, ite_false, if_true, if_false, reduceIte, Bool.false_eq_true, decide_true, decide_false, String.reduceEq, Int.reduceEq, Nat.reduceLeDiff, true_and, and_true, Bool.not_true, Bool.not_false, decide_eq_true_eq, List.append_nil, bType, bIsi, bLen, bInt, ty_int, ty_bl, ty_str, ty_non, ty_tup, isT, oIs, oIsNot, oSub, oAdd, oIx, run_eqI, run_neI, Bool.or_false, Bool.or_true, Bool.false_or, Bool.true_or, Bool.and_true, Bool.and_false, Bool.true_and, Bool.false_and, reduceCtorEq, decide_not, Bool.not_eq_true', decide_eq_false_iff_not, askInt, askBool, askTuple, askList, askStr, oLe, oLt, oGe, oGt, oInt2, atI0, atI1, atI2]
              have fin : ∀ i : Int, a = .int i → (PyData.eqv (dat S2 a) (dat S2 b)) = sameI a b := fun i e => by
                subst e
                rw [dat_int]
                cases hb with
                | int _ j => show (i == j) = decide (i = j); rw [Bool.beq_eq_decide_eq]
                | tup hy => rw [dat_tup hy (by omega)]; rfl
                | _ => cases k <;> cases hsb
              cases ha with
              | int _ i =>
                rw [fin i rfl]
                cases sameI (.int i) b with
                | false => simp
                | true => simp only [run_ok, run_okI, run_okB, run_alloc, run_stuck, run_bind, run_ite, run_noX, run_fnOf, w_c, w_op, w_un, w_call, w_callK, w_nil, w_cons, w_tup, w_lst, isB_bl, w_tval, w_tand, w_tor, w_tnot, w_and, w_or, w_not, w_if, s_next, s_seq, s_if, s_ret, s_drop, s_set, s_par, s_put, s_asg, w_var', runS_next, runS_ret, runS_stuck, runS_ite, List.length_cons, List.length_nil, List.length_singleton, List.map_cons, List.map_nil, List.cons_append, List.nil_append, List.replicate_succ, List.replicate_zero, List.getElem?_cons_zero, List.getElem?_cons_succ, List.set_cons_zero, List.set_cons_succ, Nat.reduceAdd, Nat.reduceSub, Nat.reduceEqDiff, ite_true, ite_false, if_true, if_false, reduceIte, Bool.false_eq_true, decide_true, decide_false, String.reduceEq, Int.reduceEq, Nat.reduceLeDiff, true_and, and_true, Bool.not_true, Bool.not_false, decide_eq_true_eq, List.append_nil, bType, bIsi, bLen, bInt, ty_int, ty_bl, ty_str, ty_non, ty_tup, isT, oIs, oIsNot, oSub, oAdd, oIx, run_eqI, run_neI, Bool.or_false, Bool.or_true, Bool.false_or, Bool.true_or, Bool.and_true, Bool.and_false, Bool.true_and, Bool.false_and, reduceCtorEq, decide_not, Bool.not_eq_true', decide_eq_false_iff_not, askInt, askBool, askTuple, askList, askStr, oLe, oLt, oGe, oGt, oInt2, atI0, atI1, atI2]
              | tup hy => 
                have : ∀ xs, sameI (.tup xs) b = false := fun _ => rfl
                rw [this]
                split
                · rfl
                · simp only [run_ok, run_okI, run_okB, run_alloc, run_stuck, run_bind, run_ite, run_noX, run_fnOf, w_c, w_op, w_un, w_call, w_callK, w_nil, w_cons, w_tup, w_lst, isB_bl, w_tval, w_tand, w_tor, w_tnot, w_and, w_or, w_not, w_if, s_next, s_seq, s_if, s_ret, s_drop, s_set, s_par, s_put, s_asg, w_var', runS_next, runS_ret, runS_stuck, runS_ite, List.length_cons, List.length_nil, List.length_singleton, List.map_cons, List.map_nil, List.cons_append, List.nil_append, List.replicate_succ, List.replicate_zero, List.getElem?_cons_zero, List.getElem?_cons_succ, List.set_cons_zero, List.set_cons_succ, Nat.reduceAdd, Nat.reduceSub, Nat.reduceEqDiff, ite_true, ite_false, if_true, if_false, reduceIte, Bool.false_eq_true, decide_true, decide_false, String.reduceEq, Int.reduceEq, Nat.reduceLeDiff, true_and, and_true, Bool.not_true, Bool.not_false, decide_eq_true_eq, List.append_nil, bType, bIsi, bLen, bInt, ty_int, ty_bl, ty_str, ty_non, ty_tup, isT, oIs, oIsNot, oSub, oAdd, oIx, run_eqI, run_neI, Bool.or_false, Bool.or_true, Bool.false_or, Bool.true_or, Bool.and_true, Bool.and_false, Bool.true_and, Bool.false_and, reduceCtorEq, decide_not, Bool.not_eq_true', decide_eq_false_iff_not, askInt, askBool, askTuple, askList, askStr, oLe, oLt, oGe, oGt, oInt2, atI0, atI1, atI2]
              | _ => cases k <;> cases hsa
        · rw [if_pos (by omega)]
          rw [isSh_len hl]
end PD.K01

/-! ## K01M5 -/
set_option Elab.async false
set_option linter.all false
set_option maxRecDepth 100000
set_option maxHeartbeats 4000000
namespace PD.K01
open PySem PySem.Spec L2 PD
/-! ### counts -/
def leastV : Val → Int
  | .int i => i
  | .tup (.int n :: _) => n
  | _ => 0
def intV : Val → Bool
  | .int _ => true
  | _ => false
/-- counts, nested at most so deep -/
def isCo : Nat → Val → Bool
  | _, .int i => decide (0 ≤ i)
  | d + 1, .tup [.int n, l, r] => decide (0 ≤ n) && (isCo d l && (isCo d r && (!sameI l r && (decide (leastV l = 0) || decide (leastV r = 0)))))
  | _, _ => false
theorem isCo_len {k : Nat} {xs : List Val} (h : xs.length ≠ 3) : isCo k (.tup xs) = false := by
  cases k with
  | zero => simp [isCo]
  | succ k =>
    match xs, h with
    | [], _ => simp [isCo]
    | [_], _ => simp [isCo]
    | [_, _], _ => simp [isCo]
    | [_, _, _], h => exact absurd rfl h
    | _ :: _ :: _ :: _ :: _, _ => simp [isCo]
theorem isCo_first {k : Nat} {a b c : Val} (h : intV a = false) : isCo k (.tup [a, b, c]) = false := by
  cases k with
  | zero => simp [isCo]
  | succ k =>
    cases a with
    | int i => cases h
    | _ => simp [isCo]
theorem isCo_three {k : Nat} {n : Int} {l r : Val} : isCo (k + 1) (.tup [.int n, l, r]) = (decide (0 ≤ n) && (isCo k l && (isCo k r && (!sameI l r && (decide (leastV l = 0) || decide (leastV r = 0)))))) := rfl
theorem isCo_none {k : Nat} {v : Val} (h : isCo k v = true) : (∃ i, v = .int i ∧ 0 ≤ i) ∨ ∃ k' n l r, k = k' + 1 ∧ v = .tup [.int n, l, r] := by
  cases v with
  | int i => exact .inl ⟨i, rfl, of_decide_eq_true (by cases k <;> exact h)⟩
  | tup xs =>
    by_cases hl : xs.length = 3
    · obtain ⟨a, b, c, rfl⟩ := three_of hl
      cases ha : intV a with
      | false => rw [isCo_first ha] at h; cases h
      | true =>
        cases k with
        | zero => simp [isCo] at h
        | succ k =>
          cases a with
          | int i => exact .inr ⟨k, i, b, c, rfl, rfl⟩
          | _ => cases ha
    · rw [isCo_len hl] at h; cases h
  | _ => cases k <;> cases h
theorem atIm1 {α : Type} {a b : α} : L2.atI [a, b] (-1) = some b := rfl
theorem atIm2 {α : Type} {a b : α} : L2.atI [a, b] (-2) = some a := rfl
theorem atIm1' {α : Type} {a b c : α} : L2.atI [a, b, c] (-1) = some c := rfl
theorem atIm2' {α : Type} {a b c : α} : L2.atI [a, b, c] (-2) = some b := rfl
/-- a tree whose size the law tells so -/
inductive Sz : Nat → Val → Prop
  | int (d : Nat) (i : Int) : Sz d (.int i)
  | two {d : Nat} {a b : Val} : Sz d a → Sz d b → Sz (d + 1) (.tup [a, b])
  | three {d : Nat} {n : Int} {a b : Val} : Sz d a → Sz d b → Sz (d + 1) (.tup [.int n, a, b])
theorem isSh_sz : ∀ (k : Nat) (v : Val), isSh k v = true → Sz k v
  | k, v, h => by
    cases v with
    | int i => exact .int _ i
    | tup xs =>
      by_cases hl : xs.length = 2
      · obtain ⟨a, b, rfl⟩ := two_of hl
        cases k with
        | zero => simp [isSh] at h
        | succ k =>
          rw [isSh_pair] at h
          simp only [Bool.and_eq_true] at h
          exact .two (isSh_sz k a h.1.1) (isSh_sz k b h.1.2)
      · rw [isSh_len hl] at h; cases h
    | _ => cases k <;> cases h
theorem isCo_sz : ∀ (k : Nat) (v : Val), isCo k v = true → Sz k v
  | k, v, h => by
    rcases isCo_none h with ⟨i, rfl, _⟩ | ⟨k', n, l, r, rfl, rfl⟩
    · exact .int _ i
    · rw [isCo_three] at h
      simp only [Bool.and_eq_true] at h
      exact .three (isCo_sz k' l h.2.1) (isCo_sz k' r h.2.2.1)
theorem l_size : ∀ (k n : Nat) (v : Val) (S : Store), Sz k v → k < n → Run ((fns n)._law_size [v] S) (fun r S' => r = .int (tcount v) ∧ S' = S)
  | k, 0, v, S, _, h => absurd h (Nat.not_lt_zero _)
  | k, n + 1, v, S, hv, h => by
    show Run (fnOf 1 1 (b__law_size (fns n)) [v] S) _
    unfold b__law_size
    cases hv with
    | int _ i => simp only [run_ok, run_okI, run_okB, run_alloc, run_stuck, run_bind, run_ite, run_noX, run_fnOf, w_c, w_op, w_un, w_call, w_callK, w_nil, w_cons, w_tup, w_lst, isB_bl, w_tval, w_tand, w_tor, w_tnot, w_and, w_or, w_not, w_if, s_next, s_seq, s_if, s_ret, s_drop, s_set, s_par, s_put, s_asg, w_var', runS_next, runS_ret, runS_stuck, runS_ite, List.length_cons, List.length_nil, List.length_singleton, List.map_cons, List.map_nil, List.cons_append, List.nil_append, List.replicate_succ, List.replicate_zero, List.getElem?_cons_zero, List.getElem?_cons_succ, List.set_cons_zero, List.set_cons_succ, Nat.reduceAdd, Nat.reduceSub, Nat.reduceEqDiff, ite_true, ite_false, if_true, if_false, reduceIte, Bool.false_eq_true, decide_true, decide_false, String.reduceEq, Int.reduceEq, Nat.reduceLeDiff, true_and, and_true, Bool.not_true, Bool.not_false, decide_eq_true_eq, List.append_nil, bType, bIsi, bLen, bInt, ty_int, ty_bl, ty_str, ty_non, ty_tup, isT, oIs, oIsNot, oSub, oAdd, oIx, run_eqI, run_neI, Bool.or_false, Bool.or_true, Bool.false_or, Bool.true_or, Bool.and_true, Bool.and_false, Bool.true_and, Bool.false_and, reduceCtorEq, decide_not, Bool.not_eq_true', decide_eq_false_iff_not, askInt, askBool, askTuple, askList, askStr, oLe, oLt, oGe, oGt, oInt2, atI0, atI1, atI2]; rfl
    | @two k a b ha hb =>
      simp only [w_un, oNeg, atIm1, atIm2, run_ok, run_okI, run_okB, run_alloc, run_stuck, run_bind, run_ite, run_noX, run_fnOf, w_c, w_op, w_un, w_call, w_callK, w_nil, w_cons, w_tup, w_lst, isB_bl, w_tval, w_tand, w_tor, w_tnot, w_and, w_or, w_not, w_if, s_next, s_seq, s_if, s_ret, s_drop, s_set, s_par, s_put, s_asg, w_var', runS_next, runS_ret, runS_stuck, runS_ite, List.length_cons, List.length_nil, List.length_singleton, List.map_cons, List.map_nil, List.cons_append, List.nil_append, List.replicate_succ, List.replicate_zero, List.getElem?_cons_zero, List.getElem?_cons_succ, List.set_cons_zero, List.set_cons_succ, Nat.reduceAdd, Nat.reduceSub, Nat.reduceEqDiff, ite_true, ite_false, if_true, if_false, reduceIte, Bool.false_eq_true, decide_true, decide_false, String.reduceEq, Int.reduceEq, Nat.reduceLeDiff, true_and, and_true, Bool.not_true, Bool.not_false, decide_eq_true_eq, List.append_nil, bType, bIsi, bLen, bInt, ty_int, ty_bl, ty_str, ty_non, ty_tup, isT, oIs, oIsNot, oSub, oAdd, oIx, run_eqI, run_neI, Bool.or_false, Bool.or_true, Bool.false_or, Bool.true_or, Bool.and_true, Bool.and_false, Bool.true_and, Bool.false_and, reduceCtorEq, decide_not, Bool.not_eq_true', decide_eq_false_iff_not, askInt, askBool, askTuple, askList, askStr, oLe, oLt, oGe, oGt, oInt2, atI0, atI1, atI2]
      refine Run.mono (l_size k n a S ha (by omega)) fun r S1 ⟨er, eS⟩ => ?_
      subst er eS
      simp only [w_un, oNeg, atIm1, atIm2, run_ok, run_okI, run_okB, run_alloc, run_stuck, run_bind, run_ite, run_noX, run_fnOf, w_c, w_op, w_un, w_call, w_callK, w_nil, w_cons, w_tup, w_lst, isB_bl, w_tval, w_tand, w_tor, w_tnot, w_and, w_or, w_not, w_if, s_next, s_seq, s_if, s_ret, s_drop, s_set, s_par, s_put, s_asg, w_var', runS_next, runS_ret, runS_stuck, runS_ite, List.length_cons, List.length_nil, List.length_singleton, List.map_cons, List.map_nil, List.cons_append, List.nil_append, List.replicate_succ, List.replicate_zero, List.getElem?_cons_zero, List.getElem?_cons_succ, List.set_cons_zero, List.set_cons_succ, Nat.reduceAdd, Nat.reduceSub, Nat.reduceEqDiff, ite_true, ite_false, if_true, if_false, reduceIte, Bool.false_eq_true, decide_true, decide_false, String.reduceEq, Int.reduceEq, Nat.reduceLeDiff, true_and, and_true, Bool.not_true, Bool.not_false, decide_eq_true_eq, List.append_nil, bType, bIsi, bLen, bInt, ty_int, ty_bl, ty_str, ty_non, ty_tup, isT, oIs, oIsNot, oSub, oAdd, oIx, run_eqI, run_neI, Bool.or_false, Bool.or_true, Bool.false_or, Bool.true_or, Bool.and_true, Bool.and_false, Bool.true_and, Bool.false_and, reduceCtorEq, decide_not, Bool.not_eq_true', decide_eq_false_iff_not, askInt, askBool, askTuple, askList, askStr, oLe, oLt, oGe, oGt, oInt2, atI0, atI1, atI2]
      refine Run.mono (l_size k n b S1 hb (by omega)) fun r S2 ⟨er, eS⟩ => ?_
      subst er eS
      simp only [run_ok, run_okI, run_okB, run_alloc, run_stuck, run_bind, run_ite, run_noX, run_fnOf, w_c, w_op, w_un, w_call, w_callK, w_nil, w_cons, w_tup, w_lst, isB_bl, w_tval, w_tand, w_tor, w_tnot, w_and, w_or, w_not, w_if, s_next, s_seq, s_if, s_ret, s_drop, s_set, s_par, s_put, s_asg, w_var', runS_next, runS_ret, runS_stuck, runS_ite, List.length_cons, List.length_nil, List.length_singleton, List.map_cons, List.map_nil, List.cons_append, List.nil_append, List.replicate_succ, List.replicate_zero, List.getElem?_cons_zero, List.getElem?_cons_succ, List.set_cons_zero, List.set_cons_succ, Nat.reduceAdd, Nat.reduceSub, Nat.reduceEqDiff, ite_true, ite_false, if_true, if_false, reduceIte, Bool.false_eq_true, decide_true, decide_false, String.reduceEq, Int.reduceEq, Nat.reduceLeDiff, true_and, and_true, Bool.not_true, Bool.not_false, decide_eq_true_eq, List.append_nil, bType, bIsi, bLen, bInt, ty_int, ty_bl, ty_str, ty_non, ty_tup, isT, oIs, oIsNot, oSub, oAdd, oIx, run_eqI, run_neI, Bool.or_false, Bool.or_true, Bool.false_or, Bool.true_or, Bool.and_true, Bool.and_false, Bool.true_and, Bool.false_and, reduceCtorEq, decide_not, Bool.not_eq_true', decide_eq_false_iff_not, askInt, askBool, askTuple, askList, askStr, oLe, oLt, oGe, oGt, oInt2, atI0, atI1, atI2]
      simp only [tcount, tcounts]
      congr 1; omega
    | @three k i a b ha hb =>
      simp only [w_un, oNeg, atIm1', atIm2', run_ok, run_okI, run_okB, run_alloc, run_stuck, run_bind, run_ite, run_noX, run_fnOf, w_c, w_op, w_un, w_call, w_callK, w_nil, w_cons, w_tup, w_lst, isB_bl, w_tval, w_tand, w_tor, w_tnot, w_and, w_or, w_not, w_if, s_next, s_seq, s_if, s_ret, s_drop, s_set, s_par, s_put, s_asg, w_var', runS_next, runS_ret, runS_stuck, runS_ite, List.length_cons, List.length_nil, List.length_singleton, List.map_cons, List.map_nil, List.cons_append, List.nil_append, List.replicate_succ, List.replicate_zero, List.getElem?_cons_zero, List.getElem?_cons_succ, List.set_cons_zero, List.set_cons_succ, Nat.reduceAdd, Nat.reduceSub, Nat.reduceEqDiff, ite_true, ite_false, if_true, if_false, reduceIte, Bool.false_eq_true, decide_true, decide_false, String.reduceEq, Int.reduceEq, Nat.reduceLeDiff, true_and, and_true, Bool.not_true, Bool.not_false, decide_eq_true_eq, List.append_nil, bType, bIsi, bLen, bInt, ty_int, ty_bl, ty_str, ty_non, ty_tup, isT, oIs, oIsNot, oSub, oAdd, oIx, run_eqI, run_neI, Bool.or_false, Bool.or_true, Bool.false_or, Bool.true_or, Bool.and_true, Bool.and_false, Bool.true_and, Bool.false_and, reduceCtorEq, decide_not, Bool.not_eq_true', decide_eq_false_iff_not, askInt, askBool, askTuple, askList, askStr, oLe, oLt, oGe, oGt, oInt2, atI0, atI1, atI2]
      refine Run.mono (l_size k n a S ha (by omega)) fun r S1 ⟨er, eS⟩ => ?_
      subst er eS
      simp only [w_un, oNeg, atIm1', atIm2', run_ok, run_okI, run_okB, run_alloc, run_stuck, run_bind, run_ite, run_noX, run_fnOf, w_c, w_op, w_un, w_call, w_callK, w_nil, w_cons, w_tup, w_lst, isB_bl, w_tval, w_tand, w_tor, w_tnot, w_and, w_or, w_not, w_if, s_next, s_seq, s_if, s_ret, s_drop, s_set, s_par, s_put, s_asg, w_var', runS_next, runS_ret, runS_stuck, runS_ite, List.length_cons, List.length_nil, List.length_singleton, List.map_cons, List.map_nil, List.cons_append, List.nil_append, List.replicate_succ, List.replicate_zero, List.getElem?_cons_zero, List.getElem?_cons_succ, List.set_cons_zero, List.set_cons_succ, Nat.reduceAdd, Nat.reduceSub, Nat.reduceEqDiff, ite_true, ite_false, if_true, if_false, reduceIte, Bool.false_eq_true, decide_true, decide_false, String.reduceEq, Int.reduceEq, Nat.reduceLeDiff, true_and, and_true, Bool.not_true, Bool.not_false, decide_eq_true_eq, List.append_nil, bType, bIsi, bLen, bInt, ty_int, ty_bl, ty_str, ty_non, ty_tup, isT, oIs, oIsNot, oSub, oAdd, oIx, run_eqI, run_neI, Bool.or_false, Bool.or_true, Bool.false_or, Bool.true_or, Bool.and_true, Bool.and_false, Bool.true_and, Bool.false_and, reduceCtorEq, decide_not, Bool.not_eq_true', decide_eq_false_iff_not, askInt, askBool, askTuple, askList, askStr, oLe, oLt, oGe, oGt, oInt2, atI0, atI1, atI2]
      refine Run.mono (l_size k n b S1 hb (by omega)) fun r S2 ⟨er, eS⟩ => ?_
      subst er eS
      simp only [run_ok, run_okI, run_okB, run_alloc, run_stuck, run_bind, run_ite, run_noX, run_fnOf, w_c, w_op, w_un, w_call, w_callK, w_nil, w_cons, w_tup, w_lst, isB_bl, w_tval, w_tand, w_tor, w_tnot, w_and, w_or, w_not, w_if, s_next, s_seq, s_if, s_ret, s_drop, s_set, s_par, s_put, s_asg, w_var', runS_next, runS_ret, runS_stuck, runS_ite, List.length_cons, List.length_nil, List.length_singleton, List.map_cons, List.map_nil, List.cons_append, List.nil_append, List.replicate_succ, List.replicate_zero, List.getElem?_cons_zero, List.getElem?_cons_succ, List.set_cons_zero, List.set_cons_succ, Nat.reduceAdd, Nat.reduceSub, Nat.reduceEqDiff, ite_true, ite_false, if_true, if_false, reduceIte, Bool.false_eq_true, decide_true, decide_false, String.reduceEq, Int.reduceEq, Nat.reduceLeDiff, true_and, and_true, Bool.not_true, Bool.not_false, decide_eq_true_eq, List.append_nil, bType, bIsi, bLen, bInt, ty_int, ty_bl, ty_str, ty_non, ty_tup, isT, oIs, oIsNot, oSub, oAdd, oIx, run_eqI, run_neI, Bool.or_false, Bool.or_true, Bool.false_or, Bool.true_or, Bool.and_true, Bool.and_false, Bool.true_and, Bool.false_and, reduceCtorEq, decide_not, Bool.not_eq_true', decide_eq_false_iff_not, askInt, askBool, askTuple, askList, askStr, oLe, oLt, oGe, oGt, oInt2, atI0, atI1, atI2]
      simp only [tcount, tcounts]
      congr 1; omega
theorem p_least {n : Nat} {v : Val} {S : Store} {k : Nat} (h : isCo k v = true) (hn : 0 < n) : Run ((fns n).least [v] S) (fun r S' => r = .int (leastV v) ∧ S' = S) := by
  obtain ⟨n, rfl⟩ : ∃ m, n = m + 1 := ⟨n - 1, by omega⟩
  show Run (fnOf 1 1 (b_least (fns n)) [v] S) _
  unfold b_least
  rcases isCo_none h with ⟨i, rfl, _⟩ | ⟨k', m, l, r, rfl, rfl⟩
  · simp only [run_ok, run_okI, run_okB, run_alloc, run_stuck, run_bind, run_ite, run_noX, run_fnOf, w_c, w_op, w_un, w_call, w_callK, w_nil, w_cons, w_tup, w_lst, isB_bl, w_tval, w_tand, w_tor, w_tnot, w_and, w_or, w_not, w_if, s_next, s_seq, s_if, s_ret, s_drop, s_set, s_par, s_put, s_asg, w_var', runS_next, runS_ret, runS_stuck, runS_ite, List.length_cons, List.length_nil, List.length_singleton, List.map_cons, List.map_nil, List.cons_append, List.nil_append, List.replicate_succ, List.replicate_zero, List.getElem?_cons_zero, List.getElem?_cons_succ, List.set_cons_zero, List.set_cons_succ, Nat.reduceAdd, Nat.reduceSub, Nat.reduceEqDiff, ite_true, ite_false, if_true, if_false, reduceIte, Bool.false_eq_true, decide_true, decide_false, String.reduceEq, Int.reduceEq, Nat.reduceLeDiff, true_and, and_true, Bool.not_true, Bool.not_false, decide_eq_true_eq, List.append_nil, bType, bIsi, bLen, bInt, ty_int, ty_bl, ty_str, ty_non, ty_tup, isT, oIs, oIsNot, oSub, oAdd, oIx, run_eqI, run_neI, Bool.or_false, Bool.or_true, Bool.false_or, Bool.true_or, Bool.and_true, Bool.and_false, Bool.true_and, Bool.false_and, reduceCtorEq, decide_not, Bool.not_eq_true', decide_eq_false_iff_not, askInt, askBool, askTuple, askList, askStr, oLe, oLt, oGe, oGt, oInt2, atI0, atI1, atI2]; rfl
  · simp only [run_ok, run_okI, run_okB, run_alloc, run_stuck, run_bind, run_ite, run_noX, run_fnOf, w_c, w_op, w_un, w_call, w_callK, w_nil, w_cons, w_tup, w_lst, isB_bl, w_tval, w_tand, w_tor, w_tnot, w_and, w_or, w_not, w_if, s_next, s_seq, s_if, s_ret, s_drop, s_set, s_par, s_put, s_asg, w_var', runS_next, runS_ret, runS_stuck, runS_ite, List.length_cons, List.length_nil, List.length_singleton, List.map_cons, List.map_nil, List.cons_append, List.nil_append, List.replicate_succ, List.replicate_zero, List.getElem?_cons_zero, List.getElem?_cons_succ, List.set_cons_zero, List.set_cons_succ, Nat.reduceAdd, Nat.reduceSub, Nat.reduceEqDiff, ite_true, ite_false, if_true, if_false, reduceIte, Bool.false_eq_true, decide_true, decide_false, String.reduceEq, Int.reduceEq, Nat.reduceLeDiff, true_and, and_true, Bool.not_true, Bool.not_false, decide_eq_true_eq, List.append_nil, bType, bIsi, bLen, bInt, ty_int, ty_bl, ty_str, ty_non, ty_tup, isT, oIs, oIsNot, oSub, oAdd, oIx, run_eqI, run_neI, Bool.or_false, Bool.or_true, Bool.false_or, Bool.true_or, Bool.and_true, Bool.and_false, Bool.true_and, Bool.false_and, reduceCtorEq, decide_not, Bool.not_eq_true', decide_eq_false_iff_not, askInt, askBool, askTuple, askList, askStr, oLe, oLt, oGe, oGt, oInt2, atI0, atI1, atI2]; rfl
theorem leastV_nn {k : Nat} {v : Val} (h : isCo k v = true) : 0 ≤ leastV v := by
  rcases isCo_none h with ⟨i, rfl, hi⟩ | ⟨k', m, l, r, rfl, rfl⟩
  · exact hi
  · rw [isCo_three] at h
    simp only [Bool.and_eq_true] at h
    exact of_decide_eq_true h.1
theorem l_least : ∀ (k n : Nat) (v : Val) (S : Store), isCo k v = true → k < n → Run ((fns n)._law_least [v] S) (fun r S' => r = .int (leastV v) ∧ S' = S)
  | k, 0, v, S, _, h => absurd h (Nat.not_lt_zero _)
  | k, n + 1, v, S, hv, h => by
    show Run (fnOf 1 1 (b__law_least (fns n)) [v] S) _
    unfold b__law_least
    rcases isCo_none hv with ⟨i, rfl, _⟩ | ⟨k', m, l, r, rfl, rfl⟩
    · simp only [run_ok, run_okI, run_okB, run_alloc, run_stuck, run_bind, run_ite, run_noX, run_fnOf, w_c, w_op, w_un, w_call, w_callK, w_nil, w_cons, w_tup, w_lst, isB_bl, w_tval, w_tand, w_tor, w_tnot, w_and, w_or, w_not, w_if, s_next, s_seq, s_if, s_ret, s_drop, s_set, s_par, s_put, s_asg, w_var', runS_next, runS_ret, runS_stuck, runS_ite, List.length_cons, List.length_nil, List.length_singleton, List.map_cons, List.map_nil, List.cons_append, List.nil_append, List.replicate_succ, List.replicate_zero, List.getElem?_cons_zero, List.getElem?_cons_succ, List.set_cons_zero, List.set_cons_succ, Nat.reduceAdd, Nat.reduceSub, Nat.reduceEqDiff, ite_true, ite_false, if_true, if_false, reduceIte, Bool.false_eq_true, decide_true, decide_false, String.reduceEq, Int.reduceEq, Nat.reduceLeDiff, true_and, and_true, Bool.not_true, Bool.not_false, decide_eq_true_eq, List.append_nil, bType, bIsi, bLen, bInt, ty_int, ty_bl, ty_str, ty_non, ty_tup, isT, oIs, oIsNot, oSub, oAdd, oIx, run_eqI, run_neI, Bool.or_false, Bool.or_true, Bool.false_or, Bool.true_or, Bool.and_true, Bool.and_false, Bool.true_and, Bool.false_and, reduceCtorEq, decide_not, Bool.not_eq_true', decide_eq_false_iff_not, askInt, askBool, askTuple, askList, askStr, oLe, oLt, oGe, oGt, oInt2, atI0, atI1, atI2]; rfl
    · have hv' := hv
      rw [isCo_three] at hv'
      simp only [Bool.and_eq_true] at hv'
      have hl := leastV_nn hv'.2.1
      have hr := leastV_nn hv'.2.2.1
      simp only [run_ok, run_okI, run_okB, run_alloc, run_stuck, run_bind, run_ite, run_noX, run_fnOf, w_c, w_op, w_un, w_call, w_callK, w_nil, w_cons, w_tup, w_lst, isB_bl, w_tval, w_tand, w_tor, w_tnot, w_and, w_or, w_not, w_if, s_next, s_seq, s_if, s_ret, s_drop, s_set, s_par, s_put, s_asg, w_var', runS_next, runS_ret, runS_stuck, runS_ite, List.length_cons, List.length_nil, List.length_singleton, List.map_cons, List.map_nil, List.cons_append, List.nil_append, List.replicate_succ, List.replicate_zero, List.getElem?_cons_zero, List.getElem?_cons_succ, List.set_cons_zero, List.set_cons_succ, Nat.reduceAdd, Nat.reduceSub, Nat.reduceEqDiff, ite_true, ite_false, if_true, if_false, reduceIte, Bool.false_eq_true, decide_true, decide_false, String.reduceEq, Int.reduceEq, Nat.reduceLeDiff, true_and, and_true, Bool.not_true, Bool.not_false, decide_eq_true_eq, List.append_nil, bType, bIsi, bLen, bInt, ty_int, ty_bl, ty_str, ty_non, ty_tup, isT, oIs, oIsNot, oSub, oAdd, oIx, run_eqI, run_neI, Bool.or_false, Bool.or_true, Bool.false_or, Bool.true_or, Bool.and_true, Bool.and_false, Bool.true_and, Bool.false_and, reduceCtorEq, decide_not, Bool.not_eq_true', decide_eq_false_iff_not, askInt, askBool, askTuple, askList, askStr, oLe, oLt, oGe, oGt, oInt2, atI0, atI1, atI2]
      refine Run.mono (l_least k' n l S hv'.2.1 (by omega)) fun x S1 ⟨er, eS⟩ => ?_
      subst er eS
      refine Run.mono (l_least k' n r S1 hv'.2.2.1 (by omega)) fun x S2 ⟨er, eS⟩ => ?_
      subst er eS
      simp only [bMin2, run_ok, run_okI, run_okB, run_alloc, run_stuck, run_bind, run_ite, run_noX, run_fnOf, w_c, w_op, w_un, w_call, w_callK, w_nil, w_cons, w_tup, w_lst, isB_bl, w_tval, w_tand, w_tor, w_tnot, w_and, w_or, w_not, w_if, s_next, s_seq, s_if, s_ret, s_drop, s_set, s_par, s_put, s_asg, w_var', runS_next, runS_ret, runS_stuck, runS_ite, List.length_cons, List.length_nil, List.length_singleton, List.map_cons, List.map_nil, List.cons_append, List.nil_append, List.replicate_succ, List.replicate_zero, List.getElem?_cons_zero, List.getElem?_cons_succ, List.set_cons_zero, List.set_cons_succ, Nat.reduceAdd, Nat.reduceSub, Nat.reduceEqDiff, ite_true, ite_false, if_true, if_false, reduceIte, Bool.false_eq_true, decide_true, decide_false, String.reduceEq, Int.reduceEq, Nat.reduceLeDiff, true_and, and_true, Bool.not_true, Bool.not_false, decide_eq_true_eq, List.append_nil, bType, bIsi, bLen, bInt, ty_int, ty_bl, ty_str, ty_non, ty_tup, isT, oIs, oIsNot, oSub, oAdd, oIx, run_eqI, run_neI, Bool.or_false, Bool.or_true, Bool.false_or, Bool.true_or, Bool.and_true, Bool.and_false, Bool.true_and, Bool.false_and, reduceCtorEq, decide_not, Bool.not_eq_true', decide_eq_false_iff_not, askInt, askBool, askTuple, askList, askStr, oLe, oLt, oGe, oGt, oInt2, atI0, atI1, atI2]
      have h0 := hv'.2.2.2.2
      rw [Bool.or_eq_true, decide_eq_true_eq, decide_eq_true_eq] at h0
      show Val.int (m + if leastV r < leastV l then leastV r else leastV l) = Val.int m
      congr 1
      split <;> omega
end PD.K01

/-! ## K01M6 -/
set_option Elab.async false
set_option linter.all false
set_option maxRecDepth 100000
set_option maxHeartbeats 4000000
namespace PD.K01
open PySem PySem.Spec L2 PD
theorem gT3 {i j k : Nat} {a b c : Val} {ρ : PD.Env} : gT [gN i, gN j, gN k] (.tup [a, b, c]) ρ = some (((ρ.set i (some a)).set j (some b)).set k (some c)) := rfl
theorem co_eq {S : Store} {d e f : Nat} {a b : Val} (h1 : isCo d a = true) (h2 : isCo d b = true) (ha : Da S e a) (hb : Da S f b) (he : e < 65) (hf : f < 65) (hi : intV a = true) : PyData.eqv (dat S a) (dat S b) = sameI a b := by
  cases a with
  | int i =>
    rw [dat_int]
    cases hb with
    | int _ j => show (i == j) = decide (i = j); rw [Bool.beq_eq_decide_eq]
    | tup hy => rw [dat_tup hy (by omega)]; rfl
    | _ => cases d <;> cases h2
  | _ => cases hi
theorem p_is_counts_tree : ∀ (e n k : Nat) (v : Val) (S : Store), Da S e v → e < 60 → e < n → Run ((fns n)._is_counts_tree [v, .int k] S) (fun r S' => r = .bl (isCo k v) ∧ S' = S)
  | e, 0, k, v, S, _, _, h => absurd h (Nat.not_lt_zero _)
  | e, n + 1, k, v, S, hv, h60, h => by
    show Run (fnOf 2 5 (b__is_counts_tree (fns n)) [v, .int k] S) _
    unfold b__is_counts_tree
    cases hv with
    | int _ i =>
      simp only [run_ok, run_okI, run_okB, run_alloc, run_stuck, run_bind, run_ite, run_noX, run_fnOf, w_c, w_op, w_un, w_call, w_callK, w_nil, w_cons, w_tup, w_lst, isB_bl, w_tval, w_tand, w_tor, w_tnot, w_and, w_or, w_not, w_if, s_next, s_seq, s_if, s_ret, s_drop, s_set, s_par, s_put, s_asg, w_var', runS_next, runS_ret, runS_stuck, runS_ite, List.length_cons, List.length_nil, List.length_singleton, List.map_cons, List.map_nil, List.cons_append, List.nil_append, List.replicate_succ, List.replicate_zero, List.getElem?_cons_zero, List.getElem?_cons_succ, List.set_cons_zero, List.set_cons_succ, Nat.reduceAdd, Nat.reduceSub, Nat.reduceEqDiff, ite_true, ite_false, if_true, if_false, reduceIte, Bool.false_eq_true, decide_true, decide_false, String.reduceEq, Int.reduceEq, Nat.reduceLeDiff, true_and, and_true, Bool.not_true, Bool.not_false, decide_eq_true_eq, List.append_nil, bType, bIsi, bLen, bInt, ty_int, ty_bl, ty_str, ty_non, ty_tup, isT, oIs, oIsNot, oSub, oAdd, oIx, run_eqI, run_neI, Bool.or_false, Bool.or_true, Bool.false_or, Bool.true_or, Bool.and_true, Bool.and_false, Bool.true_and, Bool.false_and, reduceCtorEq, decide_not, Bool.not_eq_true', decide_eq_false_iff_not, askInt, askBool, askTuple, askList, askStr, oLe, oLt, oGe, oGt, oInt2, atI0, atI1, atI2]
      cases k <;> simp [isCo]
    | non => simp only [run_ok, run_okI, run_okB, run_alloc, run_stuck, run_bind, run_ite, run_noX, run_fnOf, w_c, w_op, w_un, w_call, w_callK, w_nil, w_cons, w_tup, w_lst, isB_bl, w_tval, w_tand, w_tor, w_tnot, w_and, w_or, w_not, w_if, s_next, s_seq, s_if, s_ret, s_drop, s_set, s_par, s_put, s_asg, w_var', runS_next, runS_ret, runS_stuck, runS_ite, List.length_cons, List.length_nil, List.length_singleton, List.map_cons, List.map_nil, List.cons_append, List.nil_append, List.replicate_succ, List.replicate_zero, List.getElem?_cons_zero, List.getElem?_cons_succ, List.set_cons_zero, List.set_cons_succ, Nat.reduceAdd, Nat.reduceSub, Nat.reduceEqDiff, ite_true, ite_false, if_true, if_false, reduceIte, Bool.false_eq_true, decide_true, decide_false, String.reduceEq, Int.reduceEq, Nat.reduceLeDiff, true_and, and_true, Bool.not_true, Bool.not_false, decide_eq_true_eq, List.append_nil, bType, bIsi, bLen, bInt, ty_int, ty_bl, ty_str, ty_non, ty_tup, isT, oIs, oIsNot, oSub, oAdd, oIx, run_eqI, run_neI, Bool.or_false, Bool.or_true, Bool.false_or, Bool.true_or, Bool.and_true, Bool.and_false, Bool.true_and, Bool.false_and, reduceCtorEq, decide_not, Bool.not_eq_true', decide_eq_false_iff_not, askInt, askBool, askTuple, askList, askStr, oLe, oLt, oGe, oGt, oInt2, atI0, atI1, atI2]; cases k <;> simp [isCo]
    | bl => simp only [run_ok, run_okI, run_okB, run_alloc, run_stuck, run_bind, run_ite, run_noX, run_fnOf, w_c, w_op, w_un, w_call, w_callK, w_nil, w_cons, w_tup, w_lst, isB_bl, w_tval, w_tand, w_tor, w_tnot, w_and, w_or, w_not, w_if, s_next, s_seq, s_if, s_ret, s_drop, s_set, s_par, s_put, s_asg, w_var', runS_next, runS_ret, runS_stuck, runS_ite, List.length_cons, List.length_nil, List.length_singleton, List.map_cons, List.map_nil, List.cons_append, List.nil_append, List.replicate_succ, List.replicate_zero, List.getElem?_cons_zero, List.getElem?_cons_succ, List.set_cons_zero, List.set_cons_succ, Nat.reduceAdd, Nat.reduceSub, Nat.reduceEqDiff, ite_true, ite_false, if_true, if_false, reduceIte, Bool.false_eq_true, decide_true, decide_false, String.reduceEq, Int.reduceEq, Nat.reduceLeDiff, true_and, and_true, Bool.not_true, Bool.not_false, decide_eq_true_eq, List.append_nil, bType, bIsi, bLen, bInt, ty_int, ty_bl, ty_str, ty_non, ty_tup, isT, oIs, oIsNot, oSub, oAdd, oIx, run_eqI, run_neI, Bool.or_false, Bool.or_true, Bool.false_or, Bool.true_or, Bool.and_true, Bool.and_false, Bool.true_and, Bool.false_and, reduceCtorEq, decide_not, Bool.not_eq_true', decide_eq_false_iff_not, askInt, askBool, askTuple, askList, askStr, oLe, oLt, oGe, oGt, oInt2, atI0, atI1, atI2]; cases k <;> simp [isCo]
    | str => simp only [run_ok, run_okI, run_okB, run_alloc, run_stuck, run_bind, run_ite, run_noX, run_fnOf, w_c, w_op, w_un, w_call, w_callK, w_nil, w_cons, w_tup, w_lst, isB_bl, w_tval, w_tand, w_tor, w_tnot, w_and, w_or, w_not, w_if, s_next, s_seq, s_if, s_ret, s_drop, s_set, s_par, s_put, s_asg, w_var', runS_next, runS_ret, runS_stuck, runS_ite, List.length_cons, List.length_nil, List.length_singleton, List.map_cons, List.map_nil, List.cons_append, List.nil_append, List.replicate_succ, List.replicate_zero, List.getElem?_cons_zero, List.getElem?_cons_succ, List.set_cons_zero, List.set_cons_succ, Nat.reduceAdd, Nat.reduceSub, Nat.reduceEqDiff, ite_true, ite_false, if_true, if_false, reduceIte, Bool.false_eq_true, decide_true, decide_false, String.reduceEq, Int.reduceEq, Nat.reduceLeDiff, true_and, and_true, Bool.not_true, Bool.not_false, decide_eq_true_eq, List.append_nil, bType, bIsi, bLen, bInt, ty_int, ty_bl, ty_str, ty_non, ty_tup, isT, oIs, oIsNot, oSub, oAdd, oIx, run_eqI, run_neI, Bool.or_false, Bool.or_true, Bool.false_or, Bool.true_or, Bool.and_true, Bool.and_false, Bool.true_and, Bool.false_and, reduceCtorEq, decide_not, Bool.not_eq_true', decide_eq_false_iff_not, askInt, askBool, askTuple, askList, askStr, oLe, oLt, oGe, oGt, oInt2, atI0, atI1, atI2]; cases k <;> simp [isCo]
    | @ref _ m ys hn _ =>
      simp only [ty_ref hn, run_ok, run_okI, run_okB, run_alloc, run_stuck, run_bind, run_ite, run_noX, run_fnOf, w_c, w_op, w_un, w_call, w_callK, w_nil, w_cons, w_tup, w_lst, isB_bl, w_tval, w_tand, w_tor, w_tnot, w_and, w_or, w_not, w_if, s_next, s_seq, s_if, s_ret, s_drop, s_set, s_par, s_put, s_asg, w_var', runS_next, runS_ret, runS_stuck, runS_ite, List.length_cons, List.length_nil, List.length_singleton, List.map_cons, List.map_nil, List.cons_append, List.nil_append, List.replicate_succ, List.replicate_zero, List.getElem?_cons_zero, List.getElem?_cons_succ, List.set_cons_zero, List.set_cons_succ, Nat.reduceAdd, Nat.reduceSub, Nat.reduceEqDiff, ite_true, ite_false, if_true, if_false, reduceIte, Bool.false_eq_true, decide_true, decide_false, String.reduceEq, Int.reduceEq, Nat.reduceLeDiff, true_and, and_true, Bool.not_true, Bool.not_false, decide_eq_true_eq, List.append_nil, bType, bIsi, bLen, bInt, ty_int, ty_bl, ty_str, ty_non, ty_tup, isT, oIs, oIsNot, oSub, oAdd, oIx, run_eqI, run_neI, Bool.or_false, Bool.or_true, Bool.false_or, Bool.true_or, Bool.and_true, Bool.and_false, Bool.true_and, Bool.false_and, reduceCtorEq, decide_not, Bool.not_eq_true', decide_eq_false_iff_not, askInt, askBool, askTuple, askList, askStr, oLe, oLt, oGe, oGt, oInt2, atI0, atI1, atI2]
      cases k <;> simp [isCo]
    | @tup e' xs hx =>
      simp only [run_ok, run_okI, run_okB, run_alloc, run_stuck, run_bind, run_ite, run_noX, run_fnOf, w_c, w_op, w_un, w_call, w_callK, w_nil, w_cons, w_tup, w_lst, isB_bl, w_tval, w_tand, w_tor, w_tnot, w_and, w_or, w_not, w_if, s_next, s_seq, s_if, s_ret, s_drop, s_set, s_par, s_put, s_asg, w_var', runS_next, runS_ret, runS_stuck, runS_ite, List.length_cons, List.length_nil, List.length_singleton, List.map_cons, List.map_nil, List.cons_append, List.nil_append, List.replicate_succ, List.replicate_zero, List.getElem?_cons_zero, List.getElem?_cons_succ, List.set_cons_zero, List.set_cons_succ, Nat.reduceAdd, Nat.reduceSub, Nat.reduceEqDiff, ite_true, ite_false, if_true, if_false, reduceIte, Bool.false_eq_true, decide_true, decide_false, String.reduceEq, Int.reduceEq, Nat.reduceLeDiff, true_and, and_true, Bool.not_true, Bool.not_false, decide_eq_true_eq, List.append_nil, bType, bIsi, bLen, bInt, ty_int, ty_bl, ty_str, ty_non, ty_tup, isT, oIs, oIsNot, oSub, oAdd, oIx, run_eqI, run_neI, Bool.or_false, Bool.or_true, Bool.false_or, Bool.true_or, Bool.and_true, Bool.and_false, Bool.true_and, Bool.false_and, reduceCtorEq, decide_not, Bool.not_eq_true', decide_eq_false_iff_not, askInt, askBool, askTuple, askList, askStr, oLe, oLt, oGe, oGt, oInt2, atI0, atI1, atI2]
      by_cases hl : xs.length = 3
      · obtain ⟨a, b, c, rfl⟩ := three_of hl
        have ha := hx a (by simp)
        have hb := hx b (by simp)
        have hc := hx c (by simp)
        rw [if_neg (by simp)]
        by_cases hk : k = 0
        · subst hk
          rw [if_pos (by rfl)]
          simp [isCo]
        · rw [if_neg (by omega)]
          obtain ⟨k, rfl⟩ : ∃ j, k = j + 1 := ⟨k - 1, by omega⟩
          have ek : ((k + 1 : Nat) : Int) - 1 = (k : Int) := by omega
          simp only [gT3, ek, run_ok, run_okI, run_okB, run_alloc, run_stuck, run_bind, run_ite, run_noX, run_fnOf, w_c, w_op, w_un, w_call, w_callK, w_nil, w_cons, w_tup, w_lst, isB_bl, w_tval, w_tand, w_tor, w_tnot, w_and, w_or, w_not, w_if, s_next, s_seq, s_if, s_ret, s_drop, s_set, s_par, s_put, s_asg, w_var', runS_next, runS_ret, runS_stuck, runS_ite, List.length_cons, List.length_nil, List.length_singleton, List.map_cons, List.map_nil, List.cons_append, List.nil_append, List.replicate_succ, List.replicate_zero, List.getElem?_cons_zero, List.getElem?_cons_succ, List.set_cons_zero, List.set_cons_succ, Nat.reduceAdd, Nat.reduceSub, Nat.reduceEqDiff, ite_true, ite_false, if_true, if_false, reduceIte, Bool.false_eq_true, decide_true, decide_false, String.reduceEq, Int.reduceEq, Nat.reduceLeDiff, true_and, and_true, Bool.not_true, Bool.not_false, decide_eq_true_eq, List.append_nil, bType, bIsi, bLen, bInt, ty_int, ty_bl, ty_str, ty_non, ty_tup, isT, oIs, oIsNot, oSub, oAdd, oIx, run_eqI, run_neI, Bool.or_false, Bool.or_true, Bool.false_or, Bool.true_or, Bool.and_true, Bool.and_false, Bool.true_and, Bool.false_and, reduceCtorEq, decide_not, Bool.not_eq_true', decide_eq_false_iff_not, askInt, askBool, askTuple, askList, askStr, oLe, oLt, oGe, oGt, oInt2, atI0, atI1, atI2]
          cases ha with
          | int _ m =>
            simp only [run_ok, run_okI, run_okB, run_alloc, run_stuck, run_bind, run_ite, run_noX, run_fnOf, w_c, w_op, w_un, w_call, w_callK, w_nil, w_cons, w_tup, w_lst, isB_bl, w_tval, w_tand, w_tor, w_tnot, w_and, w_or, w_not, w_if, s_next, s_seq, s_if, s_ret, s_drop, s_set, s_par, s_put, s_asg, w_var', runS_next, runS_ret, runS_stuck, runS_ite, List.length_cons, List.length_nil, List.length_singleton, List.map_cons, List.map_nil, List.cons_append, List.nil_append, List.replicate_succ, List.replicate_zero, List.getElem?_cons_zero, List.getElem?_cons_succ, List.set_cons_zero, List.set_cons_succ, Nat.reduceAdd, Nat.reduceSub, Nat.reduceEqDiff, ite_true, ite_false, if_true, if_false, reduceIte, Bool.false_eq_true, decide_true, decide_false, String.reduceEq, Int.reduceEq, Nat.reduceLeDiff, true_and, and_true, Bool.not_true, Bool.not_false, decide_eq_true_eq, List.append_nil, bType, bIsi, bLen, bInt, ty_int, ty_bl, ty_str, ty_non, ty_tup, isT, oIs, oIsNot, oSub, oAdd, oIx, run_eqI, run_neI, Bool.or_false, Bool.or_true, Bool.false_or, Bool.true_or, Bool.and_true, Bool.and_false, Bool.true_and, Bool.false_and, reduceCtorEq, decide_not, Bool.not_eq_true', decide_eq_false_iff_not, askInt, askBool, askTuple, askList, askStr, oLe, oLt, oGe, oGt, oInt2, atI0, atI1, atI2]
            rw [isCo_three]
            by_cases hm : m < 0
            · rw [if_pos hm, decide_eq_false (by omega)]; simp
            · rw [if_neg hm, decide_eq_true (by omega)]
              refine Run.mono (p_is_counts_tree e' n k b S hb (by omega) (by omega)) fun r S1 ⟨er, eS⟩ => ?_
              subst er eS
              rw [isB_bl]
              cases hcb : isCo k b with
              | false => simp
              | true =>
                simp only [run_ok, run_okI, run_okB, run_alloc, run_stuck, run_bind, run_ite, run_noX, run_fnOf, w_c, w_op, w_un, w_call, w_callK, w_nil, w_cons, w_tup, w_lst, isB_bl, w_tval, w_tand, w_tor, w_tnot, w_and, w_or, w_not, w_if, s_next, s_seq, s_if, s_ret, s_drop, s_set, s_par, s_put, s_asg, w_var', runS_next, runS_ret, runS_stuck, runS_ite, List.length_cons, List.length_nil, List.length_singleton, List.map_cons, List.map_nil, List.cons_append, List.nil_append, List.replicate_succ, List.replicate_zero, List.getElem?_cons_zero, List.getElem?_cons_succ, List.set_cons_zero, List.set_cons_succ, Nat.reduceAdd, Nat.reduceSub, Nat.reduceEqDiff, ite_true, ite_false, if_true, if_false, reduceIte, Bool.false_eq_true, decide_true, decide_false, String.reduceEq, Int.reduceEq, Nat.reduceLeDiff, true_and, and_true, Bool.not_true, Bool.not_false, decide_eq_true_eq, List.append_nil, bType, bIsi, bLen, bInt, ty_int, ty_bl, ty_str, ty_non, ty_tup, isT, oIs, oIsNot, oSub, oAdd, oIx, run_eqI, run_neI, Bool.or_false, Bool.or_true, Bool.false_or, Bool.true_or, Bool.and_true, Bool.and_false, Bool.true_and, Bool.false_and, reduceCtorEq, decide_not, Bool.not_eq_true', decide_eq_false_iff_not, askInt, askBool, askTuple, askList, askStr, oLe, oLt, oGe, oGt, oInt2, atI0, atI1, atI2]
                refine Run.mono (p_is_counts_tree e' n k c S1 hc (by omega) (by omega)) fun r S2 ⟨er, eS⟩ => ?_
                subst er eS
                rw [isB_bl]
                cases hcc : isCo k c with
                | false => simp
                | true =>
                  simp only [run_ok, run_okI, run_okB, run_alloc, run_stuck, run_bind, run_ite, run_noX, run_fnOf, w_c, w_op, w_un, w_call, w_callK, w_nil, w_cons, w_tup, w_lst, isB_bl, w_tval, w_tand, w_tor, w_tnot, w_and, w_or, w_not, w_if, s_next, s_seq, s_if, s_ret, s_drop, s_set, s_par, s_put, s_asg, w_var', runS_next, runS_ret, runS_stuck, runS_ite, List.length_cons, List.length_nil, List.length_singleton, List.map_cons, List.map_nil, List.cons_append, List.nil_append, List.replicate_succ, List.replicate_zero, List.getElem?_cons_zero, List.getElem?_cons_succ, List.set_cons_zero, List.set_cons_succ, Nat.reduceAdd, Nat.reduceSub, Nat.reduceEqDiff, ite_true, ite_false, if_true, if_false, reduceIte, Bool.false_eq_true, decide_true, decide_false, String.reduceEq, Int.reduceEq, Nat.reduceLeDiff, true_and, and_true, Bool.not_true, Bool.not_false, decide_eq_true_eq, List.append_nil, bType, bIsi, bLen, bInt, ty_int, ty_bl, ty_str, ty_non, ty_tup, isT, oIs, oIsNot, oSub, oAdd, oIx, run_eqI, run_neI, Bool.or_false, Bool.or_true, Bool.false_or, Bool.true_or, Bool.and_true, Bool.and_false, Bool.true_and, Bool.false_and, reduceCtorEq, decide_not, Bool.not_eq_true', decide_eq_false_iff_not, askInt, askBool, askTuple, askList, askStr, oLe, oLt, oGe, oGt, oInt2, atI0, atI1, atI2]
                  have rest : Run ((fns n).least [b] S2) (fun x S1 => Run (oEq x (.int 0) S1) (IsB fun b_5 S1 => if b_5 = true then Val.bl true = Val.bl (decide (leastV b = 0) || decide (leastV c = 0)) ∧ S1 = S2
                      else Run ((fns n).least [c] S1) fun x S1 => Run (oEq x (.int 0) S1) fun r S' => r = Val.bl (decide (leastV b = 0) || decide (leastV c = 0)) ∧ S' = S2)) := by
                    refine Run.mono (p_least hcb (by omega)) fun r S3 ⟨er, eS⟩ => ?_
                    subst er eS
                    simp only [run_ok, run_okI, run_okB, run_alloc, run_stuck, run_bind, run_ite, run_noX, run_fnOf, w_c, w_op, w_un, w_call, w_callK, w_nil, w_cons, w_tup, w_lst, isB_bl, w_tval, w_tand, w_tor, w_tnot, w_and, w_or, w_not, w_if, s_next, s_seq, s_if, s_ret, s_drop, s_set, s_par, s_put, s_asg, w_var', runS_next, runS_ret, runS_stuck, runS_ite, List.length_cons, List.length_nil, List.length_singleton, List.map_cons, List.map_nil, List.cons_append, List.nil_append, List.replicate_succ, List.replicate_zero, List.getElem?_cons_zero, List.getElem?_cons_succ, List.set_cons_zero, List.set_cons_succ, Nat.reduceAdd, Nat.reduceSub, Nat.reduceEqDiff, ite_true, ite_false, if_true, if_false, reduceIte, Bool.false_eq_true, decide_true, decide_false, String.reduceEq, Int.reduceEq, Nat.reduceLeDiff, true_and, and_true, Bool.not_true, Bool.not_false, decide_eq_true_eq, List.append_nil, bType, bIsi, bLen, bInt, ty_int, ty_bl, ty_str, ty_non, ty_tup, isT, oIs, oIsNot, oSub, oAdd, oIx, run_eqI, run_neI, Bool.or_false, Bool.or_true, Bool.false_or, Bool.true_or, Bool.and_true, Bool.and_false, Bool.true_and, Bool.false_and, reduceCtorEq, decide_not, Bool.not_eq_true', decide_eq_false_iff_not, askInt, askBool, askTuple, askList, askStr, oLe, oLt, oGe, oGt, oInt2, atI0, atI1, atI2]
                    split
                    · rename_i h0; simp [h0]
                    · rename_i h0
                      refine Run.mono (p_least hcc (by omega)) fun r S4 ⟨er, eS⟩ => ?_
                      subst er eS
                      simp only [run_ok, run_okI, run_okB, run_alloc, run_stuck, run_bind, run_ite, run_noX, run_fnOf, w_c, w_op, w_un, w_call, w_callK, w_nil, w_cons, w_tup, w_lst, isB_bl, w_tval, w_tand, w_tor, w_tnot, w_and, w_or, w_not, w_if, s_next, s_seq, s_if, s_ret, s_drop, s_set, s_par, s_put, s_asg, w_var', runS_next, runS_ret, runS_stuck, runS_ite, List.length_cons, List.length_nil, List.length_singleton, List.map_cons, List.map_nil, List.cons_append, List.nil_append, List.replicate_succ, List.replicate_zero, List.getElem?_cons_zero, List.getElem?_cons_succ, List.set_cons_zero, List.set_cons_succ, Nat.reduceAdd, Nat.reduceSub, Nat.reduceEqDiff, ite_true, ite_false, if_true, if_false, reduceIte, Bool.false_eq_true, decide_true, decide_false, String.reduceEq, Int.reduceEq, Nat.reduceLeDiff, true_and, and_true, Bool.not_true, Bool.not_false, decide_eq_true_eq, List.append_nil, bType, bIsi, bLen, bInt, ty_int, ty_bl, ty_str, ty_non, ty_tup, isT, oIs, oIsNot, oSub, oAdd, oIx, run_eqI, run_neI, Bool.or_false, Bool.or_true, Bool.false_or, Bool.true_or, Bool.and_true, Bool.and_false, Bool.true_and, Bool.false_and, reduceCtorEq, decide_not, Bool.not_eq_true', decide_eq_false_iff_not, askInt, askBool, askTuple, askList, askStr, oLe, oLt, oGe, oGt, oInt2, atI0, atI1, atI2]
                      simp [h0]
                  have tb : intV b = true → tyN b S2 = some "int" := fun q => by cases b <;> first | rfl | cases q
                  cases hib : intV b with
                  | true =>
                    rw [tb hib]
                    simp only [run_ok, run_okI, run_okB, run_alloc, run_stuck, run_bind, run_ite, run_noX, run_fnOf, w_c, w_op, w_un, w_call, w_callK, w_nil, w_cons, w_tup, w_lst, isB_bl, w_tval, w_tand, w_tor, w_tnot, w_and, w_or, w_not, w_if, s_next, s_seq, s_if, s_ret, s_drop, s_set, s_par, s_put, s_asg, w_var', runS_next, runS_ret, runS_stuck, runS_ite, List.length_cons, List.length_nil, List.length_singleton, List.map_cons, List.map_nil, List.cons_append, List.nil_append, List.replicate_succ, List.replicate_zero, List.getElem?_cons_zero, List.getElem?_cons_succ, List.set_cons_zero, List.set_cons_succ, Nat.reduceAdd, Nat.reduceSub, Nat.reduceEqDiff, ite_true, ite_false, if_true, if_false, reduceIte, Bool.false_eq_true, decide_true, decide_false, String.reduceEq, Int.reduceEq, Nat.reduceLeDiff, true_and, and_true, Bool.not_true, Bool.not_false, decide_eq_true_eq, List.append_nil, bType, bIsi, bLen, bInt, ty_int, ty_bl, ty_str, ty_non, ty_tup, isT, oIs, oIsNot, oSub, oAdd, oIx, run_eqI, run_neI, Bool.or_false, Bool.or_true, Bool.false_or, Bool.true_or, Bool.and_true, Bool.and_false, Bool.true_and, Bool.false_and, reduceCtorEq, decide_not, Bool.not_eq_true', decide_eq_false_iff_not, askInt, askBool, askTuple, askList, askStr, oLe, oLt, oGe, oGt, oInt2, atI0, atI1, atI2]
                    rw [run_eq hb hc (by omega) (by omega), co_eq hcb hcc hb hc (by omega) (by omega) hib]
                    simp only [run_ok, run_okI, run_okB, run_alloc, run_stuck, run_bind, run_ite, run_noX, run_fnOf, w_c, w_op, w_un, w_call, w_callK, w_nil, w_cons, w_tup, w_lst, isB_bl, w_tval, w_tand, w_tor, w_tnot, w_and, w_or, w_not, w_if, s_next, s_seq, s_if, s_ret, s_drop, s_set, s_par, s_put, s_asg, w_var', runS_next, runS_ret, runS_stuck, runS_ite, List.length_cons, List.length_nil, List.length_singleton, List.map_cons, List.map_nil, List.cons_append, List.nil_append, List.replicate_succ, List.replicate_zero, List.getElem?_cons_zero, List.getElem?_cons_succ, List.set_cons_zero, List.set_cons_succ, Nat.reduceAdd, Nat.reduceSub, Nat.reduceEqDiff, ite_true, ite_false, if_true, if_false, reduceIte, Bool.false_eq_true, decide_true, decide_false, String.reduceEq, Int.reduceEq, Nat.reduceLeDiff, true_and, and_true, Bool.not_true, Bool.not_false, decide_eq_true_eq, List.append_nil, bType, bIsi, bLen, bInt, ty_int, ty_bl, ty_str, ty_non, ty_tup, isT, oIs, oIsNot, oSub, oAdd, oIx, run_eqI, run_neI, Bool.or_false, Bool.or_true, Bool.false_or, Bool.true_or, Bool.and_true, Bool.and_false, Bool.true_and, Bool.false_and, reduceCtorEq, decide_not, Bool.not_eq_true', decide_eq_false_iff_not, askInt, askBool, askTuple, askList, askStr, oLe, oLt, oGe, oGt, oInt2, atI0, atI1, atI2]
                    cases sameI b c with
                    | true => simp
                    | false => simpa using rest
                  | false =>
                    have e1 : sameI b c = false := by cases b <;> first | rfl | cases hib
                    have e2 : tyN b S2 = some "tuple" := by
                      rcases isCo_none hcb with ⟨i, rfl, _⟩ | ⟨_, _, _, _, _, rfl⟩
                      · cases hib
                      · rfl
                    rw [e1, e2]
                    simp only [run_ok, run_okI, run_okB, run_alloc, run_stuck, run_bind, run_ite, run_noX, run_fnOf, w_c, w_op, w_un, w_call, w_callK, w_nil, w_cons, w_tup, w_lst, isB_bl, w_tval, w_tand, w_tor, w_tnot, w_and, w_or, w_not, w_if, s_next, s_seq, s_if, s_ret, s_drop, s_set, s_par, s_put, s_asg, w_var', runS_next, runS_ret, runS_stuck, runS_ite, List.length_cons, List.length_nil, List.length_singleton, List.map_cons, List.map_nil, List.cons_append, List.nil_append, List.replicate_succ, List.replicate_zero, List.getElem?_cons_zero, List.getElem?_cons_succ, List.set_cons_zero, List.set_cons_succ, Nat.reduceAdd, Nat.reduceSub, Nat.reduceEqDiff, ite_true, ite_false, if_true, if_false, reduceIte, Bool.false_eq_true, decide_true, decide_false, String.reduceEq, Int.reduceEq, Nat.reduceLeDiff, true_and, and_true, Bool.not_true, Bool.not_false, decide_eq_true_eq, List.append_nil, bType, bIsi, bLen, bInt, ty_int, ty_bl, ty_str, ty_non, ty_tup, isT, oIs, oIsNot, oSub, oAdd, oIx, run_eqI, run_neI, Bool.or_false, Bool.or_true, Bool.false_or, Bool.true_or, Bool.and_true, Bool.and_false, Bool.true_and, Bool.false_and, reduceCtorEq, decide_not, Bool.not_eq_true', decide_eq_false_iff_not, askInt, askBool, askTuple, askList, askStr, oLe, oLt, oGe, oGt, oInt2, atI0, atI1, atI2]
                    simpa using rest
          | non => simp only [run_ok, run_okI, run_okB, run_alloc, run_stuck, run_bind, run_ite, run_noX, run_fnOf, w_c, w_op, w_un, w_call, w_callK, w_nil, w_cons, w_tup, w_lst, isB_bl, w_tval, w_tand, w_tor, w_tnot, w_and, w_or, w_not, w_if, s_next, s_seq, s_if, s_ret, s_drop, s_set, s_par, s_put, s_asg, w_var', runS_next, runS_ret, runS_stuck, runS_ite, List.length_cons, List.length_nil, List.length_singleton, List.map_cons, List.map_nil, List.cons_append, List.nil_append, List.replicate_succ, List.replicate_zero, List.getElem?_cons_zero, List.getElem?_cons_succ, List.set_cons_zero, List.set_cons_succ, Nat.reduceAdd, Nat.reduceSub, Nat.reduceEqDiff, ite_true, ite_false, if_true, if_false, reduceIte, Bool.false_eq_true, decide_true, decide_false, String.reduceEq, Int.reduceEq, Nat.reduceLeDiff, true_and, and_true, Bool.not_true, Bool.not_false, decide_eq_true_eq, List.append_nil, bType, bIsi, bLen, bInt, ty_int, ty_bl, ty_str, ty_non, ty_tup, isT, oIs, oIsNot, oSub, oAdd, oIx, run_eqI, run_neI, Bool.or_false, Bool.or_true, Bool.false_or, Bool.true_or, Bool.and_true, Bool.and_false, Bool.true_and, Bool.false_and, reduceCtorEq, decide_not, Bool.not_eq_true', decide_eq_false_iff_not, askInt, askBool, askTuple, askList, askStr, oLe, oLt, oGe, oGt, oInt2, atI0, atI1, atI2]; simp [isCo]
          | bl => simp only [run_ok, run_okI, run_okB, run_alloc, run_stuck, run_bind, run_ite, run_noX, run_fnOf, w_c, w_op, w_un, w_call, w_callK, w_nil, w_cons, w_tup, w_lst, isB_bl, w_tval, w_tand, w_tor, w_tnot, w_and, w_or, w_not, w_if, s_next, s_seq, s_if, s_ret, s_drop, s_set, s_par, s_put, s_asg, w_var', runS_next, runS_ret, runS_stuck, runS_ite, List.length_cons, List.length_nil, List.length_singleton, List.map_cons, List.map_nil, List.cons_append, List.nil_append, List.replicate_succ, List.replicate_zero, List.getElem?_cons_zero, List.getElem?_cons_succ, List.set_cons_zero, List.set_cons_succ, Nat.reduceAdd, Nat.reduceSub, Nat.reduceEqDiff, ite_true, ite_false, if_true, if_false, reduceIte, Bool.false_eq_true, decide_true, decide_false, String.reduceEq, Int.reduceEq, Nat.reduceLeDiff, true_and, and_true, Bool.not_true, Bool.not_false, decide_eq_true_eq, List.append_nil, bType, bIsi, bLen, bInt, ty_int, ty_bl, ty_str, ty_non, ty_tup, isT, oIs, oIsNot, oSub, oAdd, oIx, run_eqI, run_neI, Bool.or_false, Bool.or_true, Bool.false_or, Bool.true_or, Bool.and_true, Bool.and_false, Bool.true_and, Bool.false_and, reduceCtorEq, decide_not, Bool.not_eq_true', decide_eq_false_iff_not, askInt, askBool, askTuple, askList, askStr, oLe, oLt, oGe, oGt, oInt2, atI0, atI1, atI2]; simp [isCo]
          | str => simp only [run_ok, run_okI, run_okB, run_alloc, run_stuck, run_bind, run_ite, run_noX, run_fnOf, w_c, w_op, w_un, w_call, w_callK, w_nil, w_cons, w_tup, w_lst, isB_bl, w_tval, w_tand, w_tor, w_tnot, w_and, w_or, w_not, w_if, s_next, s_seq, s_if, s_ret, s_drop, s_set, s_par, s_put, s_asg, w_var', runS_next, runS_ret, runS_stuck, runS_ite, List.length_cons, List.length_nil, List.length_singleton, List.map_cons, List.map_nil, List.cons_append, List.nil_append, List.replicate_succ, List.replicate_zero, List.getElem?_cons_zero, List.getElem?_cons_succ, List.set_cons_zero, List.set_cons_succ, Nat.reduceAdd, Nat.reduceSub, Nat.reduceEqDiff, ite_true, ite_false, if_true, if_false, reduceIte, Bool.false_eq_true, decide_true, decide_false, String.reduceEq, Int.reduceEq, Nat.reduceLeDiff, true_and, and_true, Bool.not_true, Bool.not_false, decide_eq_true_eq, List.append_nil, bType, bIsi, bLen, bInt, ty_int, ty_bl, ty_str, ty_non, ty_tup, isT, oIs, oIsNot, oSub, oAdd, oIx, run_eqI, run_neI, Bool.or_false, Bool.or_true, Bool.false_or, Bool.true_or, Bool.and_true, Bool.and_false, Bool.true_and, Bool.false_and, reduceCtorEq, decide_not, Bool.not_eq_true', decide_eq_false_iff_not, askInt, askBool, askTuple, askList, askStr, oLe, oLt, oGe, oGt, oInt2, atI0, atI1, atI2]; simp [isCo]
          | tup => simp only [run_ok, run_okI, run_okB, run_alloc, run_stuck, run_bind, run_ite, run_noX, run_fnOf, w_c, w_op, w_un, w_call, w_callK, w_nil, w_cons, w_tup, w_lst, isB_bl, w_tval, w_tand, w_tor, w_tnot, w_and, w_or, w_not, w_if, s_next, s_seq, s_if, s_ret, s_drop, s_set, s_par, s_put, s_asg, w_var', runS_next, runS_ret, runS_stuck, runS_ite, List.length_cons, List.length_nil, List.length_singleton, List.map_cons, List.map_nil, List.cons_append, List.nil_append, List.replicate_succ, List.replicate_zero, List.getElem?_cons_zero, List.getElem?_cons_succ, List.set_cons_zero, List.set_cons_succ, Nat.reduceAdd, Nat.reduceSub, Nat.reduceEqDiff, ite_true, ite_false, if_true, if_false, reduceIte, Bool.false_eq_true, decide_true, decide_false, String.reduceEq, Int.reduceEq, Nat.reduceLeDiff, true_and, and_true, Bool.not_true, Bool.not_false, decide_eq_true_eq, List.append_nil, bType, bIsi, bLen, bInt, ty_int, ty_bl, ty_str, ty_non, ty_tup, isT, oIs, oIsNot, oSub, oAdd, oIx, run_eqI, run_neI, Bool.or_false, Bool.or_true, Bool.false_or, Bool.true_or, Bool.and_true, Bool.and_false, Bool.true_and, Bool.false_and, reduceCtorEq, decide_not, Bool.not_eq_true', decide_eq_false_iff_not, askInt, askBool, askTuple, askList, askStr, oLe, oLt, oGe, oGt, oInt2, atI0, atI1, atI2]; simp [isCo]
          | ref hn _ => simp only [ty_ref hn, run_ok, run_okI, run_okB, run_alloc, run_stuck, run_bind, run_ite, run_noX, run_fnOf, w_c, w_op, w_un, w_call, w_callK, w_nil, w_cons, w_tup, w_lst, isB_bl, w_tval, w_tand, w_tor, w_tnot, w_and, w_or, w_not, w_if, s_next, s_seq, s_if, s_ret, s_drop, s_set, s_par, s_put, s_asg, w_var', runS_next, runS_ret, runS_stuck, runS_ite, List.length_cons, List.length_nil, List.length_singleton, List.map_cons, List.map_nil, List.cons_append, List.nil_append, List.replicate_succ, List.replicate_zero, List.getElem?_cons_zero, List.getElem?_cons_succ, List.set_cons_zero, List.set_cons_succ, Nat.reduceAdd, Nat.reduceSub, Nat.reduceEqDiff, ite_true, ite_false, if_true, if_false, reduceIte, Bool.false_eq_true, decide_true, decide_false, String.reduceEq, Int.reduceEq, Nat.reduceLeDiff, true_and, and_true, Bool.not_true, Bool.not_false, decide_eq_true_eq, List.append_nil, bType, bIsi, bLen, bInt, ty_int, ty_bl, ty_str, ty_non, ty_tup, isT, oIs, oIsNot, oSub, oAdd, oIx, run_eqI, run_neI, Bool.or_false, Bool.or_true, Bool.false_or, Bool.true_or, Bool.and_true, Bool.and_false, Bool.true_and, Bool.false_and, reduceCtorEq, decide_not, Bool.not_eq_true', decide_eq_false_iff_not, askInt, askBool, askTuple, askList, askStr, oLe, oLt, oGe, oGt, oInt2, atI0, atI1, atI2]; simp [isCo]
      · rw [if_pos (by omega), isCo_len hl]
end PD.K01

/-! ## K01M7 -/
set_option Elab.async false
set_option linter.all false
set_option maxRecDepth 100000
set_option maxHeartbeats 4000000
namespace PD.K01
open PySem PySem.Spec L2 PD
theorem isCo_tr : ∀ (e k : Nat) (v : Val) (S : Store), isCo k v = true → Da S e v → Tr e 1000 v := fun e k v S h hv => by
  induction hv generalizing k with
  | int d i => exact .int _ _ i
  | non => cases k <;> cases h
  | bl => cases k <;> cases h
  | str => cases k <;> cases h
  | ref => cases k <;> cases h
  | @tup d xs hx ih =>
    rcases isCo_none h with ⟨i, q, _⟩ | ⟨k', m, l, r, rfl, q⟩
    · cases q
    · cases q
      rw [isCo_three] at h
      simp only [Bool.and_eq_true] at h
      refine .tup (by simp) fun x hm => ?_
      rcases List.mem_cons.mp hm with rfl | hm
      · exact .int _ _ m
      · rcases List.mem_cons.mp hm with rfl | hm
        · exact ih _ (by simp) k' h.2.1
        · rw [List.mem_singleton.mp hm]
          exact ih _ (by simp) k' h.2.2.1
def coOk (v : Val) : Bool := isCo 12 v && decide (tcount v ≤ 63)
theorem p_is_counts {e n : Nat} {v : Val} {S : Store} (hv : Da S e v) (he : e < 60) (hn : 61 < n) : Run ((fns n).is_counts [v] S) (PureQ S (.bl (coOk v))) := by
  obtain ⟨n, rfl⟩ : ∃ m, n = m + 1 := ⟨n - 1, by omega⟩
  show Run (fnOf 1 1 (b_is_counts (fns n)) [v] S) _
  unfold b_is_counts
  simp only [run_ok, run_okI, run_okB, run_alloc, run_stuck, run_bind, run_ite, run_noX, run_fnOf, w_c, w_op, w_un, w_call, w_callK, w_nil, w_cons, w_tup, w_lst, isB_bl, w_tval, w_tand, w_tor, w_tnot, w_and, w_or, w_not, w_if, s_next, s_seq, s_if, s_ret, s_drop, s_set, s_par, s_put, s_asg, w_var', runS_next, runS_ret, runS_stuck, runS_ite, List.length_cons, List.length_nil, List.length_singleton, List.map_cons, List.map_nil, List.cons_append, List.nil_append, List.replicate_succ, List.replicate_zero, List.getElem?_cons_zero, List.getElem?_cons_succ, List.set_cons_zero, List.set_cons_succ, Nat.reduceAdd, Nat.reduceSub, Nat.reduceEqDiff, ite_true, ite_false, if_true, if_false, reduceIte, Bool.false_eq_true, decide_true, decide_false, String.reduceEq, Int.reduceEq, Nat.reduceLeDiff, true_and, and_true, Bool.not_true, Bool.not_false, decide_eq_true_eq, List.append_nil, bType, bIsi, bLen, bInt, ty_int, ty_bl, ty_str, ty_non, ty_tup, isT, oIs, oIsNot, oSub, oAdd, oIx, run_eqI, run_neI, Bool.or_false, Bool.or_true, Bool.false_or, Bool.true_or, Bool.and_true, Bool.and_false, Bool.true_and, Bool.false_and, reduceCtorEq, decide_not, Bool.not_eq_true', decide_eq_false_iff_not, askInt, askBool, askTuple, askList, askStr, oLe, oLt, oGe, oGt, oInt2, atI0, atI1, atI2]
  refine Run.mono (p_is_counts_tree e n 12 v S hv he (by omega)) fun r S1 ⟨er, eS⟩ => ?_
  subst er eS
  simp only [run_ok, run_okI, run_okB, run_alloc, run_stuck, run_bind, run_ite, run_noX, run_fnOf, w_c, w_op, w_un, w_call, w_callK, w_nil, w_cons, w_tup, w_lst, isB_bl, w_tval, w_tand, w_tor, w_tnot, w_and, w_or, w_not, w_if, s_next, s_seq, s_if, s_ret, s_drop, s_set, s_par, s_put, s_asg, w_var', runS_next, runS_ret, runS_stuck, runS_ite, List.length_cons, List.length_nil, List.length_singleton, List.map_cons, List.map_nil, List.cons_append, List.nil_append, List.replicate_succ, List.replicate_zero, List.getElem?_cons_zero, List.getElem?_cons_succ, List.set_cons_zero, List.set_cons_succ, Nat.reduceAdd, Nat.reduceSub, Nat.reduceEqDiff, ite_true, ite_false, if_true, if_false, reduceIte, Bool.false_eq_true, decide_true, decide_false, String.reduceEq, Int.reduceEq, Nat.reduceLeDiff, true_and, and_true, Bool.not_true, Bool.not_false, decide_eq_true_eq, List.append_nil, bType, bIsi, bLen, bInt, ty_int, ty_bl, ty_str, ty_non, ty_tup, isT, oIs, oIsNot, oSub, oAdd, oIx, run_eqI, run_neI, Bool.or_false, Bool.or_true, Bool.false_or, Bool.true_or, Bool.and_true, Bool.and_false, Bool.true_and, Bool.false_and, reduceCtorEq, decide_not, Bool.not_eq_true', decide_eq_false_iff_not, askInt, askBool, askTuple, askList, askStr, oLe, oLt, oGe, oGt, oInt2, atI0, atI1, atI2]
  unfold coOk
  split
  · rename_i hs
    refine Run.mono (p_tuple_count e n v S1 (isCo_tr _ _ _ _ hs hv) (by omega)) fun r S2 ⟨er, g⟩ => ?_
    subst er
    simp only [run_ok, run_okI, run_okB, run_alloc, run_stuck, run_bind, run_ite, run_noX, run_fnOf, w_c, w_op, w_un, w_call, w_callK, w_nil, w_cons, w_tup, w_lst, isB_bl, w_tval, w_tand, w_tor, w_tnot, w_and, w_or, w_not, w_if, s_next, s_seq, s_if, s_ret, s_drop, s_set, s_par, s_put, s_asg, w_var', runS_next, runS_ret, runS_stuck, runS_ite, List.length_cons, List.length_nil, List.length_singleton, List.map_cons, List.map_nil, List.cons_append, List.nil_append, List.replicate_succ, List.replicate_zero, List.getElem?_cons_zero, List.getElem?_cons_succ, List.set_cons_zero, List.set_cons_succ, Nat.reduceAdd, Nat.reduceSub, Nat.reduceEqDiff, ite_true, ite_false, if_true, if_false, reduceIte, Bool.false_eq_true, decide_true, decide_false, String.reduceEq, Int.reduceEq, Nat.reduceLeDiff, true_and, and_true, Bool.not_true, Bool.not_false, decide_eq_true_eq, List.append_nil, bType, bIsi, bLen, bInt, ty_int, ty_bl, ty_str, ty_non, ty_tup, isT, oIs, oIsNot, oSub, oAdd, oIx, run_eqI, run_neI, Bool.or_false, Bool.or_true, Bool.false_or, Bool.true_or, Bool.and_true, Bool.and_false, Bool.true_and, Bool.false_and, reduceCtorEq, decide_not, Bool.not_eq_true', decide_eq_false_iff_not, askInt, askBool, askTuple, askList, askStr, oLe, oLt, oGe, oGt, oInt2, atI0, atI1, atI2]
    exact ⟨by rw [hs, Bool.true_and], g⟩
  · rename_i hs
    rw [Bool.not_eq_true] at hs
    exact ⟨by rw [hs, Bool.false_and], .refl _⟩
theorem co_ty {k : Nat} {v : Val} {S : Store} (h : isCo k v = true) : (intV v = true ∧ tyN v S = some "int") ∨ (intV v = false ∧ tyN v S = some "tuple") := by
  rcases isCo_none h with ⟨i, rfl, _⟩ | ⟨_, _, _, _, _, rfl⟩
  · exact .inl ⟨rfl, rfl⟩
  · exact .inr ⟨rfl, rfl⟩
theorem same_int {a b : Val} (h : sameI a b = true) : intV a = true ∧ intV b = true := by
  cases a <;> first | cases h | skip
  cases b <;> first | cases h | exact ⟨rfl, rfl⟩
theorem l_is_counts : ∀ (e n k : Nat) (v : Val) (S : Store), Da S e v → e < 50 → e + 2 < n → k + 1 < n → Run ((fns n)._law_is_counts [v, .int k] S) (fun r S' => r = .bl (isCo k v) ∧ S' = S)
  | e, 0, k, v, S, _, _, h, _ => absurd h (Nat.not_lt_zero _)
  | e, n + 1, k, v, S, hv, h60, h, h13 => by
    show Run (fnOf 2 2 (b__law_is_counts (fns n)) [v, .int k] S) _
    unfold b__law_is_counts
    cases hv with
    | int _ i => simp only [run_ok, run_okI, run_okB, run_alloc, run_stuck, run_bind, run_ite, run_noX, run_fnOf, w_c, w_op, w_un, w_call, w_callK, w_nil, w_cons, w_tup, w_lst, isB_bl, w_tval, w_tand, w_tor, w_tnot, w_and, w_or, w_not, w_if, s_next, s_seq, s_if, s_ret, s_drop, s_set, s_par, s_put, s_asg, w_var', runS_next, runS_ret, runS_stuck, runS_ite, List.length_cons, List.length_nil, List.length_singleton, List.map_cons, List.map_nil, List.cons_append, List.nil_append, List.replicate_succ, List.replicate_zero, List.getElem?_cons_zero, List.getElem?_cons_succ, List.set_cons_zero, List.set_cons_succ, Nat.reduceAdd, Nat.reduceSub, Nat.reduceEqDiff, ite_true, ite_false, if_true, if_false, reduceIte, Bool.false_eq_true, decide_true, decide_false, String.reduceEq, Int.reduceEq, Nat.reduceLeDiff, true_and, and_true, Bool.not_true, Bool.not_false, decide_eq_true_eq, List.append_nil, bType, bIsi, bLen, bInt, ty_int, ty_bl, ty_str, ty_non, ty_tup, isT, oIs, oIsNot, oSub, oAdd, oIx, run_eqI, run_neI, Bool.or_false, Bool.or_true, Bool.false_or, Bool.true_or, Bool.and_true, Bool.and_false, Bool.true_and, Bool.false_and, reduceCtorEq, decide_not, Bool.not_eq_true', decide_eq_false_iff_not, askInt, askBool, askTuple, askList, askStr, oLe, oLt, oGe, oGt, oInt2, atI0, atI1, atI2]; cases k <;> simp [isCo]
    | non => simp only [run_ok, run_okI, run_okB, run_alloc, run_stuck, run_bind, run_ite, run_noX, run_fnOf, w_c, w_op, w_un, w_call, w_callK, w_nil, w_cons, w_tup, w_lst, isB_bl, w_tval, w_tand, w_tor, w_tnot, w_and, w_or, w_not, w_if, s_next, s_seq, s_if, s_ret, s_drop, s_set, s_par, s_put, s_asg, w_var', runS_next, runS_ret, runS_stuck, runS_ite, List.length_cons, List.length_nil, List.length_singleton, List.map_cons, List.map_nil, List.cons_append, List.nil_append, List.replicate_succ, List.replicate_zero, List.getElem?_cons_zero, List.getElem?_cons_succ, List.set_cons_zero, List.set_cons_succ, Nat.reduceAdd, Nat.reduceSub, Nat.reduceEqDiff, ite_true, ite_false, if_true, if_false, reduceIte, Bool.false_eq_true, decide_true, decide_false, String.reduceEq, Int.reduceEq, Nat.reduceLeDiff, true_and, and_true, Bool.not_true, Bool.not_false, decide_eq_true_eq, List.append_nil, bType, bIsi, bLen, bInt, ty_int, ty_bl, ty_str, ty_non, ty_tup, isT, oIs, oIsNot, oSub, oAdd, oIx, run_eqI, run_neI, Bool.or_false, Bool.or_true, Bool.false_or, Bool.true_or, Bool.and_true, Bool.and_false, Bool.true_and, Bool.false_and, reduceCtorEq, decide_not, Bool.not_eq_true', decide_eq_false_iff_not, askInt, askBool, askTuple, askList, askStr, oLe, oLt, oGe, oGt, oInt2, atI0, atI1, atI2]; cases k <;> simp [isCo]
    | bl => simp only [run_ok, run_okI, run_okB, run_alloc, run_stuck, run_bind, run_ite, run_noX, run_fnOf, w_c, w_op, w_un, w_call, w_callK, w_nil, w_cons, w_tup, w_lst, isB_bl, w_tval, w_tand, w_tor, w_tnot, w_and, w_or, w_not, w_if, s_next, s_seq, s_if, s_ret, s_drop, s_set, s_par, s_put, s_asg, w_var', runS_next, runS_ret, runS_stuck, runS_ite, List.length_cons, List.length_nil, List.length_singleton, List.map_cons, List.map_nil, List.cons_append, List.nil_append, List.replicate_succ, List.replicate_zero, List.getElem?_cons_zero, List.getElem?_cons_succ, List.set_cons_zero, List.set_cons_succ, Nat.reduceAdd, Nat.reduceSub, Nat.reduceEqDiff, ite_true, ite_false, if_true, if_false, reduceIte, Bool.false_eq_true, decide_true, decide_false, String.reduceEq, Int.reduceEq, Nat.reduceLeDiff, true_and, and_true, Bool.not_true, Bool.not_false, decide_eq_true_eq, List.append_nil, bType, bIsi, bLen, bInt, ty_int, ty_bl, ty_str, ty_non, ty_tup, isT, oIs, oIsNot, oSub, oAdd, oIx, run_eqI, run_neI, Bool.or_false, Bool.or_true, Bool.false_or, Bool.true_or, Bool.and_true, Bool.and_false, Bool.true_and, Bool.false_and, reduceCtorEq, decide_not, Bool.not_eq_true', decide_eq_false_iff_not, askInt, askBool, askTuple, askList, askStr, oLe, oLt, oGe, oGt, oInt2, atI0, atI1, atI2]; cases k <;> simp [isCo]
    | str => simp only [run_ok, run_okI, run_okB, run_alloc, run_stuck, run_bind, run_ite, run_noX, run_fnOf, w_c, w_op, w_un, w_call, w_callK, w_nil, w_cons, w_tup, w_lst, isB_bl, w_tval, w_tand, w_tor, w_tnot, w_and, w_or, w_not, w_if, s_next, s_seq, s_if, s_ret, s_drop, s_set, s_par, s_put, s_asg, w_var', runS_next, runS_ret, runS_stuck, runS_ite, List.length_cons, List.length_nil, List.length_singleton, List.map_cons, List.map_nil, List.cons_append, List.nil_append, List.replicate_succ, List.replicate_zero, List.getElem?_cons_zero, List.getElem?_cons_succ, List.set_cons_zero, List.set_cons_succ, Nat.reduceAdd, Nat.reduceSub, Nat.reduceEqDiff, ite_true, ite_false, if_true, if_false, reduceIte, Bool.false_eq_true, decide_true, decide_false, String.reduceEq, Int.reduceEq, Nat.reduceLeDiff, true_and, and_true, Bool.not_true, Bool.not_false, decide_eq_true_eq, List.append_nil, bType, bIsi, bLen, bInt, ty_int, ty_bl, ty_str, ty_non, ty_tup, isT, oIs, oIsNot, oSub, oAdd, oIx, run_eqI, run_neI, Bool.or_false, Bool.or_true, Bool.false_or, Bool.true_or, Bool.and_true, Bool.and_false, Bool.true_and, Bool.false_and, reduceCtorEq, decide_not, Bool.not_eq_true', decide_eq_false_iff_not, askInt, askBool, askTuple, askList, askStr, oLe, oLt, oGe, oGt, oInt2, atI0, atI1, atI2]; cases k <;> simp [isCo]
    | @ref _ m ys hn _ =>
      simp only [ty_ref hn, run_ok, run_okI, run_okB, run_alloc, run_stuck, run_bind, run_ite, run_noX, run_fnOf, w_c, w_op, w_un, w_call, w_callK, w_nil, w_cons, w_tup, w_lst, isB_bl, w_tval, w_tand, w_tor, w_tnot, w_and, w_or, w_not, w_if, s_next, s_seq, s_if, s_ret, s_drop, s_set, s_par, s_put, s_asg, w_var', runS_next, runS_ret, runS_stuck, runS_ite, List.length_cons, List.length_nil, List.length_singleton, List.map_cons, List.map_nil, List.cons_append, List.nil_append, List.replicate_succ, List.replicate_zero, List.getElem?_cons_zero, List.getElem?_cons_succ, List.set_cons_zero, List.set_cons_succ, Nat.reduceAdd, Nat.reduceSub, Nat.reduceEqDiff, ite_true, ite_false, if_true, if_false, reduceIte, Bool.false_eq_true, decide_true, decide_false, String.reduceEq, Int.reduceEq, Nat.reduceLeDiff, true_and, and_true, Bool.not_true, Bool.not_false, decide_eq_true_eq, List.append_nil, bType, bIsi, bLen, bInt, ty_int, ty_bl, ty_str, ty_non, ty_tup, isT, oIs, oIsNot, oSub, oAdd, oIx, run_eqI, run_neI, Bool.or_false, Bool.or_true, Bool.false_or, Bool.true_or, Bool.and_true, Bool.and_false, Bool.true_and, Bool.false_and, reduceCtorEq, decide_not, Bool.not_eq_true', decide_eq_false_iff_not, askInt, askBool, askTuple, askList, askStr, oLe, oLt, oGe, oGt, oInt2, atI0, atI1, atI2]
      cases k <;> simp [isCo]
    | @tup e' xs hx =>
      simp only [run_ok, run_okI, run_okB, run_alloc, run_stuck, run_bind, run_ite, run_noX, run_fnOf, w_c, w_op, w_un, w_call, w_callK, w_nil, w_cons, w_tup, w_lst, isB_bl, w_tval, w_tand, w_tor, w_tnot, w_and, w_or, w_not, w_if, s_next, s_seq, s_if, s_ret, s_drop, s_set, s_par, s_put, s_asg, w_var', runS_next, runS_ret, runS_stuck, runS_ite, List.length_cons, List.length_nil, List.length_singleton, List.map_cons, List.map_nil, List.cons_append, List.nil_append, List.replicate_succ, List.replicate_zero, List.getElem?_cons_zero, List.getElem?_cons_succ, List.set_cons_zero, List.set_cons_succ, Nat.reduceAdd, Nat.reduceSub, Nat.reduceEqDiff, ite_true, ite_false, if_true, if_false, reduceIte, Bool.false_eq_true, decide_true, decide_false, String.reduceEq, Int.reduceEq, Nat.reduceLeDiff, true_and, and_true, Bool.not_true, Bool.not_false, decide_eq_true_eq, List.append_nil, bType, bIsi, bLen, bInt, ty_int, ty_bl, ty_str, ty_non, ty_tup, isT, oIs, oIsNot, oSub, oAdd, oIx, run_eqI, run_neI, Bool.or_false, Bool.or_true, Bool.false_or, Bool.true_or, Bool.and_true, Bool.and_false, Bool.true_and, Bool.false_and, reduceCtorEq, decide_not, Bool.not_eq_true', decide_eq_false_iff_not, askInt, askBool, askTuple, askList, askStr, oLe, oLt, oGe, oGt, oInt2, atI0, atI1, atI2]
      by_cases hk : k = 0
      · subst hk
        rw [if_pos (by rfl)]
        simp [isCo]
      · rw [if_neg (by omega)]
        by_cases hl : xs.length = 3
        · obtain ⟨a, b, c, rfl⟩ := three_of hl
          have ha := hx a (by simp)
          have hb := hx b (by simp)
          have hc := hx c (by simp)
          rw [if_neg (by simp)]
          obtain ⟨k, rfl⟩ : ∃ j, k = j + 1 := ⟨k - 1, by omega⟩
          have ek : ((k + 1 : Nat) : Int) - 1 = (k : Int) := by omega
          simp only [ek, run_ok, run_okI, run_okB, run_alloc, run_stuck, run_bind, run_ite, run_noX, run_fnOf, w_c, w_op, w_un, w_call, w_callK, w_nil, w_cons, w_tup, w_lst, isB_bl, w_tval, w_tand, w_tor, w_tnot, w_and, w_or, w_not, w_if, s_next, s_seq, s_if, s_ret, s_drop, s_set, s_par, s_put, s_asg, w_var', runS_next, runS_ret, runS_stuck, runS_ite, List.length_cons, List.length_nil, List.length_singleton, List.map_cons, List.map_nil, List.cons_append, List.nil_append, List.replicate_succ, List.replicate_zero, List.getElem?_cons_zero, List.getElem?_cons_succ, List.set_cons_zero, List.set_cons_succ, Nat.reduceAdd, Nat.reduceSub, Nat.reduceEqDiff, ite_true, ite_false, if_true, if_false, reduceIte, Bool.false_eq_true, decide_true, decide_false, String.reduceEq, Int.reduceEq, Nat.reduceLeDiff, true_and, and_true, Bool.not_true, Bool.not_false, decide_eq_true_eq, List.append_nil, bType, bIsi, bLen, bInt, ty_int, ty_bl, ty_str, ty_non, ty_tup, isT, oIs, oIsNot, oSub, oAdd, oIx, run_eqI, run_neI, Bool.or_false, Bool.or_true, Bool.false_or, Bool.true_or, Bool.and_true, Bool.and_false, Bool.true_and, Bool.false_and, reduceCtorEq, decide_not, Bool.not_eq_true', decide_eq_false_iff_not, askInt, askBool, askTuple, askList, askStr, oLe, oLt, oGe, oGt, oInt2, atI0, atI1, atI2]
          cases ha with
          | int _ m =>
            simp only [run_ok, run_okI, run_okB, run_alloc, run_stuck, run_bind, run_ite, run_noX, run_fnOf, w_c, w_op, w_un, w_call, w_callK, w_nil, w_cons, w_tup, w_lst, isB_bl, w_tval, w_tand, w_tor, w_tnot, w_and, w_or, w_not, w_if, s_next, s_seq, s_if, s_ret, s_drop, s_set, s_par, s_put, s_asg, w_var', runS_next, runS_ret, runS_stuck, runS_ite, List.length_cons, List.length_nil, List.length_singleton, List.map_cons, List.map_nil, List.cons_append, List.nil_append, List.replicate_succ, List.replicate_zero, List.getElem?_cons_zero, List.getElem?_cons_succ, List.set_cons_zero, List.set_cons_succ, Nat.reduceAdd, Nat.reduceSub, Nat.reduceEqDiff, ite_true, ite_false, if_true, if_false, reduceIte, Bool.false_eq_true, decide_true, decide_false, String.reduceEq, Int.reduceEq, Nat.reduceLeDiff, true_and, and_true, Bool.not_true, Bool.not_false, decide_eq_true_eq, List.append_nil, bType, bIsi, bLen, bInt, ty_int, ty_bl, ty_str, ty_non, ty_tup, isT, oIs, oIsNot, oSub, oAdd, oIx, run_eqI, run_neI, Bool.or_false, Bool.or_true, Bool.false_or, Bool.true_or, Bool.and_true, Bool.and_false, Bool.true_and, Bool.false_and, reduceCtorEq, decide_not, Bool.not_eq_true', decide_eq_false_iff_not, askInt, askBool, askTuple, askList, askStr, oLe, oLt, oGe, oGt, oInt2, atI0, atI1, atI2]
            refine Run.mono (l_is_counts 0 n 0 (.int m) S (.int 0 m) (by omega) (by omega) (by omega)) fun r S1 ⟨er, eS⟩ => ?_
            subst er eS
            rw [isB_bl, isCo_three]
            have e0 : isCo 0 (.int m) = decide (0 ≤ m) := rfl
            rw [e0]
            cases hm : decide (0 ≤ m) with
            | false => simp
            | true =>
              simp only [run_ok, run_okI, run_okB, run_alloc, run_stuck, run_bind, run_ite, run_noX, run_fnOf, w_c, w_op, w_un, w_call, w_callK, w_nil, w_cons, w_tup, w_lst, isB_bl, w_tval, w_tand, w_tor, w_tnot, w_and, w_or, w_not, w_if, s_next, s_seq, s_if, s_ret, s_drop, s_set, s_par, s_put, s_asg, w_var', runS_next, runS_ret, runS_stuck, runS_ite, List.length_cons, List.length_nil, List.length_singleton, List.map_cons, List.map_nil, List.cons_append, List.nil_append, List.replicate_succ, List.replicate_zero, List.getElem?_cons_zero, List.getElem?_cons_succ, List.set_cons_zero, List.set_cons_succ, Nat.reduceAdd, Nat.reduceSub, Nat.reduceEqDiff, ite_true, ite_false, if_true, if_false, reduceIte, Bool.false_eq_true, decide_true, decide_false, String.reduceEq, Int.reduceEq, Nat.reduceLeDiff, true_and, and_true, Bool.not_true, Bool.not_false, decide_eq_true_eq, List.append_nil, bType, bIsi, bLen, bInt, ty_int, ty_bl, ty_str, ty_non, ty_tup, isT, oIs, oIsNot, oSub, oAdd, oIx, run_eqI, run_neI, Bool.or_false, Bool.or_true, Bool.false_or, Bool.true_or, Bool.and_true, Bool.and_false, Bool.true_and, Bool.false_and, reduceCtorEq, decide_not, Bool.not_eq_true', decide_eq_false_iff_not, askInt, askBool, askTuple, askList, askStr, oLe, oLt, oGe, oGt, oInt2, atI0, atI1, atI2]
              refine Run.mono (l_is_counts e' n k b S1 hb (by omega) (by omega) (by omega)) fun r S2 ⟨er, eS⟩ => ?_
              subst er eS
              rw [isB_bl]
              cases hcb : isCo k b with
              | false => simp
              | true =>
                simp only [run_ok, run_okI, run_okB, run_alloc, run_stuck, run_bind, run_ite, run_noX, run_fnOf, w_c, w_op, w_un, w_call, w_callK, w_nil, w_cons, w_tup, w_lst, isB_bl, w_tval, w_tand, w_tor, w_tnot, w_and, w_or, w_not, w_if, s_next, s_seq, s_if, s_ret, s_drop, s_set, s_par, s_put, s_asg, w_var', runS_next, runS_ret, runS_stuck, runS_ite, List.length_cons, List.length_nil, List.length_singleton, List.map_cons, List.map_nil, List.cons_append, List.nil_append, List.replicate_succ, List.replicate_zero, List.getElem?_cons_zero, List.getElem?_cons_succ, List.set_cons_zero, List.set_cons_succ, Nat.reduceAdd, Nat.reduceSub, Nat.reduceEqDiff, ite_true, ite_false, if_true, if_false, reduceIte, Bool.false_eq_true, decide_true, decide_false, String.reduceEq, Int.reduceEq, Nat.reduceLeDiff, true_and, and_true, Bool.not_true, Bool.not_false, decide_eq_true_eq, List.append_nil, bType, bIsi, bLen, bInt, ty_int, ty_bl, ty_str, ty_non, ty_tup, isT, oIs, oIsNot, oSub, oAdd, oIx, run_eqI, run_neI, Bool.or_false, Bool.or_true, Bool.false_or, Bool.true_or, Bool.and_true, Bool.and_false, Bool.true_and, Bool.false_and, reduceCtorEq, decide_not, Bool.not_eq_true', decide_eq_false_iff_not, askInt, askBool, askTuple, askList, askStr, oLe, oLt, oGe, oGt, oInt2, atI0, atI1, atI2]
                refine Run.mono (l_is_counts e' n k c S2 hc (by omega) (by omega) (by omega)) fun r S3 ⟨er, eS⟩ => ?_
                subst er eS
                rw [isB_bl]
                cases hcc : isCo k c with
                | false => simp
                | true =>
                  simp only [run_ok, run_okI, run_okB, run_alloc, run_stuck, run_bind, run_ite, run_noX, run_fnOf, w_c, w_op, w_un, w_call, w_callK, w_nil, w_cons, w_tup, w_lst, isB_bl, w_tval, w_tand, w_tor, w_tnot, w_and, w_or, w_not, w_if, s_next, s_seq, s_if, s_ret, s_drop, s_set, s_par, s_put, s_asg, w_var', runS_next, runS_ret, runS_stuck, runS_ite, List.length_cons, List.length_nil, List.length_singleton, List.map_cons, List.map_nil, List.cons_append, List.nil_append, List.replicate_succ, List.replicate_zero, List.getElem?_cons_zero, List.getElem?_cons_succ, List.set_cons_zero, List.set_cons_succ, Nat.reduceAdd, Nat.reduceSub, Nat.reduceEqDiff, ite_true, ite_false, if_true, if_false, reduceIte, Bool.false_eq_true, decide_true, decide_false, String.reduceEq, Int.reduceEq, Nat.reduceLeDiff, true_and, and_true, Bool.not_true, Bool.not_false, decide_eq_true_eq, List.append_nil, bType, bIsi, bLen, bInt, ty_int, ty_bl, ty_str, ty_non, ty_tup, isT, oIs, oIsNot, oSub, oAdd, oIx, run_eqI, run_neI, Bool.or_false, Bool.or_true, Bool.false_or, Bool.true_or, Bool.and_true, Bool.and_false, Bool.true_and, Bool.false_and, reduceCtorEq, decide_not, Bool.not_eq_true', decide_eq_false_iff_not, askInt, askBool, askTuple, askList, askStr, oLe, oLt, oGe, oGt, oInt2, atI0, atI1, atI2]
                  have nb := leastV_nn hcb
                  have nc := leastV_nn hcc
                  have rest : ∀ z : Bool, (z = true ↔ (leastV b = 0 ∨ leastV c = 0)) → z = true → Run (match tyN b S3 with | some T => okB (decide (T = "tuple")) S3 | none => Res.stuck) (IsB fun b_6 S1 => if b_6 = true then Val.bl true = Val.bl (!sameI b c && z) ∧ S1 = S3
                      else Run (match tyN c S1 with | some T => okB (decide (T = "tuple")) S1 | none => Res.stuck) (IsB fun b_7 S1 => if b_7 = true then Val.bl true = Val.bl (!sameI b c && z) ∧ S1 = S3 else Run (oNe b c S1) fun r S' => r = Val.bl (!sameI b c && z) ∧ S' = S3)) := fun z hz hzt => by
                    subst hzt
                    rcases co_ty (S := S3) hcb with ⟨i1, t1⟩ | ⟨i1, t1⟩
                    · rw [t1]
                      simp only [run_ok, run_okI, run_okB, run_alloc, run_stuck, run_bind, run_ite, run_noX, run_fnOf, w_c, w_op, w_un, w_call, w_callK, w_nil, w_cons, w_tup, w_lst, isB_bl, w_tval, w_tand, w_tor, w_tnot, w_and, w_or, w_not, w_if, s_next, s_seq, s_if, s_ret, s_drop, s_set, s_par, s_put, s_asg, w_var', runS_next, runS_ret, runS_stuck, runS_ite, List.length_cons, List.length_nil, List.length_singleton, List.map_cons, List.map_nil, List.cons_append, List.nil_append, List.replicate_succ, List.replicate_zero, List.getElem?_cons_zero, List.getElem?_cons_succ, List.set_cons_zero, List.set_cons_succ, Nat.reduceAdd, Nat.reduceSub, Nat.reduceEqDiff, ite_true, ite_false, if_true, if_false, reduceIte, Bool.false_eq_true, decide_true, decide_false, String.reduceEq, Int.reduceEq, Nat.reduceLeDiff, true_and, and_true, Bool.not_true, Bool.not_false, decide_eq_true_eq, List.append_nil, bType, bIsi, bLen, bInt, ty_int, ty_bl, ty_str, ty_non, ty_tup, isT, oIs, oIsNot, oSub, oAdd, oIx, run_eqI, run_neI, Bool.or_false, Bool.or_true, Bool.false_or, Bool.true_or, Bool.and_true, Bool.and_false, Bool.true_and, Bool.false_and, reduceCtorEq, decide_not, Bool.not_eq_true', decide_eq_false_iff_not, askInt, askBool, askTuple, askList, askStr, oLe, oLt, oGe, oGt, oInt2, atI0, atI1, atI2]
                      rcases co_ty (S := S3) hcc with ⟨i2, t2⟩ | ⟨i2, t2⟩
                      · rw [t2]
                        simp only [run_ok, run_okI, run_okB, run_alloc, run_stuck, run_bind, run_ite, run_noX, run_fnOf, w_c, w_op, w_un, w_call, w_callK, w_nil, w_cons, w_tup, w_lst, isB_bl, w_tval, w_tand, w_tor, w_tnot, w_and, w_or, w_not, w_if, s_next, s_seq, s_if, s_ret, s_drop, s_set, s_par, s_put, s_asg, w_var', runS_next, runS_ret, runS_stuck, runS_ite, List.length_cons, List.length_nil, List.length_singleton, List.map_cons, List.map_nil, List.cons_append, List.nil_append, List.replicate_succ, List.replicate_zero, List.getElem?_cons_zero, List.getElem?_cons_succ, List.set_cons_zero, List.set_cons_succ, Nat.reduceAdd, Nat.reduceSub, Nat.reduceEqDiff, ite_true, ite_false, if_true, if_false, reduceIte, Bool.false_eq_true, decide_true, decide_false, String.reduceEq, Int.reduceEq, Nat.reduceLeDiff, true_and, and_true, Bool.not_true, Bool.not_false, decide_eq_true_eq, List.append_nil, bType, bIsi, bLen, bInt, ty_int, ty_bl, ty_str, ty_non, ty_tup, isT, oIs, oIsNot, oSub, oAdd, oIx, run_eqI, run_neI, Bool.or_false, Bool.or_true, Bool.false_or, Bool.true_or, Bool.and_true, Bool.and_false, Bool.true_and, Bool.false_and, reduceCtorEq, decide_not, Bool.not_eq_true', decide_eq_false_iff_not, askInt, askBool, askTuple, askList, askStr, oLe, oLt, oGe, oGt, oInt2, atI0, atI1, atI2]
                        rw [run_ne hb hc (by omega) (by omega), co_eq hcb hcc hb hc (by omega) (by omega) i1]
                        exact ⟨rfl, rfl⟩
                      · rw [t2]
                        simp only [run_ok, run_okI, run_okB, run_alloc, run_stuck, run_bind, run_ite, run_noX, run_fnOf, w_c, w_op, w_un, w_call, w_callK, w_nil, w_cons, w_tup, w_lst, isB_bl, w_tval, w_tand, w_tor, w_tnot, w_and, w_or, w_not, w_if, s_next, s_seq, s_if, s_ret, s_drop, s_set, s_par, s_put, s_asg, w_var', runS_next, runS_ret, runS_stuck, runS_ite, List.length_cons, List.length_nil, List.length_singleton, List.map_cons, List.map_nil, List.cons_append, List.nil_append, List.replicate_succ, List.replicate_zero, List.getElem?_cons_zero, List.getElem?_cons_succ, List.set_cons_zero, List.set_cons_succ, Nat.reduceAdd, Nat.reduceSub, Nat.reduceEqDiff, ite_true, ite_false, if_true, if_false, reduceIte, Bool.false_eq_true, decide_true, decide_false, String.reduceEq, Int.reduceEq, Nat.reduceLeDiff, true_and, and_true, Bool.not_true, Bool.not_false, decide_eq_true_eq, List.append_nil, bType, bIsi, bLen, bInt, ty_int, ty_bl, ty_str, ty_non, ty_tup, isT, oIs, oIsNot, oSub, oAdd, oIx, run_eqI, run_neI, Bool.or_false, Bool.or_true, Bool.false_or, Bool.true_or, Bool.and_true, Bool.and_false, Bool.true_and, Bool.false_and, reduceCtorEq, decide_not, Bool.not_eq_true', decide_eq_false_iff_not, askInt, askBool, askTuple, askList, askStr, oLe, oLt, oGe, oGt, oInt2, atI0, atI1, atI2]
                        cases hsm : sameI b c with
                        | false => rfl
                        | true => rw [(same_int hsm).2] at i2; cases i2
                    · rw [t1]
                      simp only [run_ok, run_okI, run_okB, run_alloc, run_stuck, run_bind, run_ite, run_noX, run_fnOf, w_c, w_op, w_un, w_call, w_callK, w_nil, w_cons, w_tup, w_lst, isB_bl, w_tval, w_tand, w_tor, w_tnot, w_and, w_or, w_not, w_if, s_next, s_seq, s_if, s_ret, s_drop, s_set, s_par, s_put, s_asg, w_var', runS_next, runS_ret, runS_stuck, runS_ite, List.length_cons, List.length_nil, List.length_singleton, List.map_cons, List.map_nil, List.cons_append, List.nil_append, List.replicate_succ, List.replicate_zero, List.getElem?_cons_zero, List.getElem?_cons_succ, List.set_cons_zero, List.set_cons_succ, Nat.reduceAdd, Nat.reduceSub, Nat.reduceEqDiff, ite_true, ite_false, if_true, if_false, reduceIte, Bool.false_eq_true, decide_true, decide_false, String.reduceEq, Int.reduceEq, Nat.reduceLeDiff, true_and, and_true, Bool.not_true, Bool.not_false, decide_eq_true_eq, List.append_nil, bType, bIsi, bLen, bInt, ty_int, ty_bl, ty_str, ty_non, ty_tup, isT, oIs, oIsNot, oSub, oAdd, oIx, run_eqI, run_neI, Bool.or_false, Bool.or_true, Bool.false_or, Bool.true_or, Bool.and_true, Bool.and_false, Bool.true_and, Bool.false_and, reduceCtorEq, decide_not, Bool.not_eq_true', decide_eq_false_iff_not, askInt, askBool, askTuple, askList, askStr, oLe, oLt, oGe, oGt, oInt2, atI0, atI1, atI2]
                      cases hsm : sameI b c with
                      | false => rfl
                      | true => rw [(same_int hsm).1] at i1; cases i1
                  refine Run.mono (l_least k n b S3 hcb (by omega)) fun r S4 ⟨er, eS⟩ => ?_
                  subst er eS
                  simp only [run_ok, run_okI, run_okB, run_alloc, run_stuck, run_bind, run_ite, run_noX, run_fnOf, w_c, w_op, w_un, w_call, w_callK, w_nil, w_cons, w_tup, w_lst, isB_bl, w_tval, w_tand, w_tor, w_tnot, w_and, w_or, w_not, w_if, s_next, s_seq, s_if, s_ret, s_drop, s_set, s_par, s_put, s_asg, w_var', runS_next, runS_ret, runS_stuck, runS_ite, List.length_cons, List.length_nil, List.length_singleton, List.map_cons, List.map_nil, List.cons_append, List.nil_append, List.replicate_succ, List.replicate_zero, List.getElem?_cons_zero, List.getElem?_cons_succ, List.set_cons_zero, List.set_cons_succ, Nat.reduceAdd, Nat.reduceSub, Nat.reduceEqDiff, ite_true, ite_false, if_true, if_false, reduceIte, Bool.false_eq_true, decide_true, decide_false, String.reduceEq, Int.reduceEq, Nat.reduceLeDiff, true_and, and_true, Bool.not_true, Bool.not_false, decide_eq_true_eq, List.append_nil, bType, bIsi, bLen, bInt, ty_int, ty_bl, ty_str, ty_non, ty_tup, isT, oIs, oIsNot, oSub, oAdd, oIx, run_eqI, run_neI, Bool.or_false, Bool.or_true, Bool.false_or, Bool.true_or, Bool.and_true, Bool.and_false, Bool.true_and, Bool.false_and, reduceCtorEq, decide_not, Bool.not_eq_true', decide_eq_false_iff_not, askInt, askBool, askTuple, askList, askStr, oLe, oLt, oGe, oGt, oInt2, atI0, atI1, atI2]
                  split
                  · rename_i h1
                    refine Run.mono (l_least k n c S4 hcc (by omega)) fun r S5 ⟨er, eS⟩ => ?_
                    subst er eS
                    simp only [run_ok, run_okI, run_okB, run_alloc, run_stuck, run_bind, run_ite, run_noX, run_fnOf, w_c, w_op, w_un, w_call, w_callK, w_nil, w_cons, w_tup, w_lst, isB_bl, w_tval, w_tand, w_tor, w_tnot, w_and, w_or, w_not, w_if, s_next, s_seq, s_if, s_ret, s_drop, s_set, s_par, s_put, s_asg, w_var', runS_next, runS_ret, runS_stuck, runS_ite, List.length_cons, List.length_nil, List.length_singleton, List.map_cons, List.map_nil, List.cons_append, List.nil_append, List.replicate_succ, List.replicate_zero, List.getElem?_cons_zero, List.getElem?_cons_succ, List.set_cons_zero, List.set_cons_succ, Nat.reduceAdd, Nat.reduceSub, Nat.reduceEqDiff, ite_true, ite_false, if_true, if_false, reduceIte, Bool.false_eq_true, decide_true, decide_false, String.reduceEq, Int.reduceEq, Nat.reduceLeDiff, true_and, and_true, Bool.not_true, Bool.not_false, decide_eq_true_eq, List.append_nil, bType, bIsi, bLen, bInt, ty_int, ty_bl, ty_str, ty_non, ty_tup, isT, oIs, oIsNot, oSub, oAdd, oIx, run_eqI, run_neI, Bool.or_false, Bool.or_true, Bool.false_or, Bool.true_or, Bool.and_true, Bool.and_false, Bool.true_and, Bool.false_and, reduceCtorEq, decide_not, Bool.not_eq_true', decide_eq_false_iff_not, askInt, askBool, askTuple, askList, askStr, oLe, oLt, oGe, oGt, oInt2, atI0, atI1, atI2]
                    split
                    · rename_i h2
                      rw [decide_eq_false (by omega), decide_eq_false (by omega)]; simp
                    · rename_i h2
                      refine Run.mono (rest (decide (leastV b = 0) || decide (leastV c = 0)) (by simp) (by simp; omega)) fun r S6 q => q
                  · rename_i h1
                    refine Run.mono (rest (decide (leastV b = 0) || decide (leastV c = 0)) (by simp) (by simp; omega)) fun r S6 q => q
          | non =>
            simp only [run_ok, run_okI, run_okB, run_alloc, run_stuck, run_bind, run_ite, run_noX, run_fnOf, w_c, w_op, w_un, w_call, w_callK, w_nil, w_cons, w_tup, w_lst, isB_bl, w_tval, w_tand, w_tor, w_tnot, w_and, w_or, w_not, w_if, s_next, s_seq, s_if, s_ret, s_drop, s_set, s_par, s_put, s_asg, w_var', runS_next, runS_ret, runS_stuck, runS_ite, List.length_cons, List.length_nil, List.length_singleton, List.map_cons, List.map_nil, List.cons_append, List.nil_append, List.replicate_succ, List.replicate_zero, List.getElem?_cons_zero, List.getElem?_cons_succ, List.set_cons_zero, List.set_cons_succ, Nat.reduceAdd, Nat.reduceSub, Nat.reduceEqDiff, ite_true, ite_false, if_true, if_false, reduceIte, Bool.false_eq_true, decide_true, decide_false, String.reduceEq, Int.reduceEq, Nat.reduceLeDiff, true_and, and_true, Bool.not_true, Bool.not_false, decide_eq_true_eq, List.append_nil, bType, bIsi, bLen, bInt, ty_int, ty_bl, ty_str, ty_non, ty_tup, isT, oIs, oIsNot, oSub, oAdd, oIx, run_eqI, run_neI, Bool.or_false, Bool.or_true, Bool.false_or, Bool.true_or, Bool.and_true, Bool.and_false, Bool.true_and, Bool.false_and, reduceCtorEq, decide_not, Bool.not_eq_true', decide_eq_false_iff_not, askInt, askBool, askTuple, askList, askStr, oLe, oLt, oGe, oGt, oInt2, atI0, atI1, atI2]
            refine Run.mono (l_is_counts 0 n 0 .non S (.non 0) (by omega) (by omega) (by omega)) fun r S1 ⟨er, eS⟩ => ?_
            subst er eS
            simp [isB_bl, isCo]
          | bl _ z =>
            simp only [run_ok, run_okI, run_okB, run_alloc, run_stuck, run_bind, run_ite, run_noX, run_fnOf, w_c, w_op, w_un, w_call, w_callK, w_nil, w_cons, w_tup, w_lst, isB_bl, w_tval, w_tand, w_tor, w_tnot, w_and, w_or, w_not, w_if, s_next, s_seq, s_if, s_ret, s_drop, s_set, s_par, s_put, s_asg, w_var', runS_next, runS_ret, runS_stuck, runS_ite, List.length_cons, List.length_nil, List.length_singleton, List.map_cons, List.map_nil, List.cons_append, List.nil_append, List.replicate_succ, List.replicate_zero, List.getElem?_cons_zero, List.getElem?_cons_succ, List.set_cons_zero, List.set_cons_succ, Nat.reduceAdd, Nat.reduceSub, Nat.reduceEqDiff, ite_true, ite_false, if_true, if_false, reduceIte, Bool.false_eq_true, decide_true, decide_false, String.reduceEq, Int.reduceEq, Nat.reduceLeDiff, true_and, and_true, Bool.not_true, Bool.not_false, decide_eq_true_eq, List.append_nil, bType, bIsi, bLen, bInt, ty_int, ty_bl, ty_str, ty_non, ty_tup, isT, oIs, oIsNot, oSub, oAdd, oIx, run_eqI, run_neI, Bool.or_false, Bool.or_true, Bool.false_or, Bool.true_or, Bool.and_true, Bool.and_false, Bool.true_and, Bool.false_and, reduceCtorEq, decide_not, Bool.not_eq_true', decide_eq_false_iff_not, askInt, askBool, askTuple, askList, askStr, oLe, oLt, oGe, oGt, oInt2, atI0, atI1, atI2]
            refine Run.mono (l_is_counts 0 n 0 (.bl z) S (.bl 0 z) (by omega) (by omega) (by omega)) fun r S1 ⟨er, eS⟩ => ?_
            subst er eS
            simp [isB_bl, isCo]
          | str _ z hz =>
            simp only [run_ok, run_okI, run_okB, run_alloc, run_stuck, run_bind, run_ite, run_noX, run_fnOf, w_c, w_op, w_un, w_call, w_callK, w_nil, w_cons, w_tup, w_lst, isB_bl, w_tval, w_tand, w_tor, w_tnot, w_and, w_or, w_not, w_if, s_next, s_seq, s_if, s_ret, s_drop, s_set, s_par, s_put, s_asg, w_var', runS_next, runS_ret, runS_stuck, runS_ite, List.length_cons, List.length_nil, List.length_singleton, List.map_cons, List.map_nil, List.cons_append, List.nil_append, List.replicate_succ, List.replicate_zero, List.getElem?_cons_zero, List.getElem?_cons_succ, List.set_cons_zero, List.set_cons_succ, Nat.reduceAdd, Nat.reduceSub, Nat.reduceEqDiff, ite_true, ite_false, if_true, if_false, reduceIte, Bool.false_eq_true, decide_true, decide_false, String.reduceEq, Int.reduceEq, Nat.reduceLeDiff, true_and, and_true, Bool.not_true, Bool.not_false, decide_eq_true_eq, List.append_nil, bType, bIsi, bLen, bInt, ty_int, ty_bl, ty_str, ty_non, ty_tup, isT, oIs, oIsNot, oSub, oAdd, oIx, run_eqI, run_neI, Bool.or_false, Bool.or_true, Bool.false_or, Bool.true_or, Bool.and_true, Bool.and_false, Bool.true_and, Bool.false_and, reduceCtorEq, decide_not, Bool.not_eq_true', decide_eq_false_iff_not, askInt, askBool, askTuple, askList, askStr, oLe, oLt, oGe, oGt, oInt2, atI0, atI1, atI2]
            refine Run.mono (l_is_counts 0 n 0 (.str z) S (.str 0 z hz) (by omega) (by omega) (by omega)) fun r S1 ⟨er, eS⟩ => ?_
            subst er eS
            simp [isB_bl, isCo]
          | tup => simp only [run_ok, run_okI, run_okB, run_alloc, run_stuck, run_bind, run_ite, run_noX, run_fnOf, w_c, w_op, w_un, w_call, w_callK, w_nil, w_cons, w_tup, w_lst, isB_bl, w_tval, w_tand, w_tor, w_tnot, w_and, w_or, w_not, w_if, s_next, s_seq, s_if, s_ret, s_drop, s_set, s_par, s_put, s_asg, w_var', runS_next, runS_ret, runS_stuck, runS_ite, List.length_cons, List.length_nil, List.length_singleton, List.map_cons, List.map_nil, List.cons_append, List.nil_append, List.replicate_succ, List.replicate_zero, List.getElem?_cons_zero, List.getElem?_cons_succ, List.set_cons_zero, List.set_cons_succ, Nat.reduceAdd, Nat.reduceSub, Nat.reduceEqDiff, ite_true, ite_false, if_true, if_false, reduceIte, Bool.false_eq_true, decide_true, decide_false, String.reduceEq, Int.reduceEq, Nat.reduceLeDiff, true_and, and_true, Bool.not_true, Bool.not_false, decide_eq_true_eq, List.append_nil, bType, bIsi, bLen, bInt, ty_int, ty_bl, ty_str, ty_non, ty_tup, isT, oIs, oIsNot, oSub, oAdd, oIx, run_eqI, run_neI, Bool.or_false, Bool.or_true, Bool.false_or, Bool.true_or, Bool.and_true, Bool.and_false, Bool.true_and, Bool.false_and, reduceCtorEq, decide_not, Bool.not_eq_true', decide_eq_false_iff_not, askInt, askBool, askTuple, askList, askStr, oLe, oLt, oGe, oGt, oInt2, atI0, atI1, atI2]; simp [isCo]
          | ref hn hy =>
            simp only [ty_ref hn, run_ok, run_okI, run_okB, run_alloc, run_stuck, run_bind, run_ite, run_noX, run_fnOf, w_c, w_op, w_un, w_call, w_callK, w_nil, w_cons, w_tup, w_lst, isB_bl, w_tval, w_tand, w_tor, w_tnot, w_and, w_or, w_not, w_if, s_next, s_seq, s_if, s_ret, s_drop, s_set, s_par, s_put, s_asg, w_var', runS_next, runS_ret, runS_stuck, runS_ite, List.length_cons, List.length_nil, List.length_singleton, List.map_cons, List.map_nil, List.cons_append, List.nil_append, List.replicate_succ, List.replicate_zero, List.getElem?_cons_zero, List.getElem?_cons_succ, List.set_cons_zero, List.set_cons_succ, Nat.reduceAdd, Nat.reduceSub, Nat.reduceEqDiff, ite_true, ite_false, if_true, if_false, reduceIte, Bool.false_eq_true, decide_true, decide_false, String.reduceEq, Int.reduceEq, Nat.reduceLeDiff, true_and, and_true, Bool.not_true, Bool.not_false, decide_eq_true_eq, List.append_nil, bType, bIsi, bLen, bInt, ty_int, ty_bl, ty_str, ty_non, ty_tup, isT, oIs, oIsNot, oSub, oAdd, oIx, run_eqI, run_neI, Bool.or_false, Bool.or_true, Bool.false_or, Bool.true_or, Bool.and_true, Bool.and_false, Bool.true_and, Bool.false_and, reduceCtorEq, decide_not, Bool.not_eq_true', decide_eq_false_iff_not, askInt, askBool, askTuple, askList, askStr, oLe, oLt, oGe, oGt, oInt2, atI0, atI1, atI2]
            refine Run.mono (l_is_counts _ n 0 _ S (.ref hn hy) (by omega) (by omega) (by omega)) fun r S1 ⟨er, eS⟩ => ?_
            subst er eS
            simp [isB_bl, isCo]
        · rw [if_pos (by omega), isCo_len hl]
end PD.K01

/-! ## K01M8 -/
set_option Elab.async false
set_option linter.all false
set_option maxRecDepth 100000
set_option maxHeartbeats 4000000
namespace PD.K01
open PySem PySem.Spec L2 PD
/-- what stood stands -/
def Kp (S S' : Store) : Prop := ∀ (n : Nat) (c : Cell), S[n]? = some c → S'[n]? = some c
theorem Kp.refl (S : Store) : Kp S S := fun _ _ h => h
theorem Kp.trans {S S' S2 : Store} (a : Kp S S') (b : Kp S' S2) : Kp S S2 := fun n c h => b n c (a n c h)
theorem Gr.kp {S S' : Store} (g : Gr S S') : Kp S S' := fun _ _ e => g.get e
theorem Da.kp {S S' : Store} {d : Nat} {v : Val} (h : Da S d v) (k : Kp S S') : Da S' d v := h.same k
abbrev PureK {α : Type} (S : Store) (a : α) : α → Store → Prop := fun b S' => b = a ∧ Kp S S'
theorem p_is_stamp {e n : Nat} {v : Val} {S : Store} (hv : Da S e v) (he : e < 60) (hn : 62 < n) : Run ((fns n).is_stamp [v] S) (PureK S (.bl (match v with | .tup [a, b] => shOk a && coOk b | _ => false))) := by
  obtain ⟨n, rfl⟩ : ∃ m, n = m + 1 := ⟨n - 1, by omega⟩
  show Run (fnOf 1 1 (b_is_stamp (fns n)) [v] S) _
  unfold b_is_stamp
  cases hv with
  | @tup e' xs hx =>
    simp only [run_ok, run_okI, run_okB, run_alloc, run_stuck, run_bind, run_ite, run_noX, run_fnOf, w_c, w_op, w_un, w_call, w_callK, w_nil, w_cons, w_tup, w_lst, isB_bl, w_tval, w_tand, w_tor, w_tnot, w_and, w_or, w_not, w_if, s_next, s_seq, s_if, s_ret, s_drop, s_set, s_par, s_put, s_asg, w_var', runS_next, runS_ret, runS_stuck, runS_ite, List.length_cons, List.length_nil, List.length_singleton, List.map_cons, List.map_nil, List.cons_append, List.nil_append, List.replicate_succ, List.replicate_zero, List.getElem?_cons_zero, List.getElem?_cons_succ, List.set_cons_zero, List.set_cons_succ, Nat.reduceAdd, Nat.reduceSub, Nat.reduceEqDiff, ite_true, ite_false, if_true, if_false, reduceIte, Bool.false_eq_true, decide_true, decide_false, String.reduceEq, Int.reduceEq, Nat.reduceLeDiff, true_and, and_true, Bool.not_true, Bool.not_false, decide_eq_true_eq, List.append_nil, bType, bIsi, bLen, bInt, ty_int, ty_bl, ty_str, ty_non, ty_tup, isT, oIs, oIsNot, oSub, oAdd, oIx, run_eqI, run_neI, Bool.or_false, Bool.or_true, Bool.false_or, Bool.true_or, Bool.and_true, Bool.and_false, Bool.true_and, Bool.false_and, reduceCtorEq, decide_not, Bool.not_eq_true', decide_eq_false_iff_not, askInt, askBool, askTuple, askList, askStr, oLe, oLt, oGe, oGt, oInt2, atI0, atI1, atI2]
    by_cases hl : xs.length = 2
    · obtain ⟨a, b, rfl⟩ := two_of hl
      have ha := hx a (by simp)
      have hb := hx b (by simp)
      rw [if_neg (by simp)]
      simp only [run_ok, run_okI, run_okB, run_alloc, run_stuck, run_bind, run_ite, run_noX, run_fnOf, w_c, w_op, w_un, w_call, w_callK, w_nil, w_cons, w_tup, w_lst, isB_bl, w_tval, w_tand, w_tor, w_tnot, w_and, w_or, w_not, w_if, s_next, s_seq, s_if, s_ret, s_drop, s_set, s_par, s_put, s_asg, w_var', runS_next, runS_ret, runS_stuck, runS_ite, List.length_cons, List.length_nil, List.length_singleton, List.map_cons, List.map_nil, List.cons_append, List.nil_append, List.replicate_succ, List.replicate_zero, List.getElem?_cons_zero, List.getElem?_cons_succ, List.set_cons_zero, List.set_cons_succ, Nat.reduceAdd, Nat.reduceSub, Nat.reduceEqDiff, ite_true, ite_false, if_true, if_false, reduceIte, Bool.false_eq_true, decide_true, decide_false, String.reduceEq, Int.reduceEq, Nat.reduceLeDiff, true_and, and_true, Bool.not_true, Bool.not_false, decide_eq_true_eq, List.append_nil, bType, bIsi, bLen, bInt, ty_int, ty_bl, ty_str, ty_non, ty_tup, isT, oIs, oIsNot, oSub, oAdd, oIx, run_eqI, run_neI, Bool.or_false, Bool.or_true, Bool.false_or, Bool.true_or, Bool.and_true, Bool.and_false, Bool.true_and, Bool.false_and, reduceCtorEq, decide_not, Bool.not_eq_true', decide_eq_false_iff_not, askInt, askBool, askTuple, askList, askStr, oLe, oLt, oGe, oGt, oInt2, atI0, atI1, atI2]
      refine Run.mono (p_is_share ha (by omega) (by omega)) fun r S1 ⟨er, g1⟩ => ?_
      subst er
      rw [isB_bl]
      cases hs : shOk a with
      | false => exact ⟨rfl, g1.kp⟩
      | true =>
        simp only [run_ok, run_okI, run_okB, run_alloc, run_stuck, run_bind, run_ite, run_noX, run_fnOf, w_c, w_op, w_un, w_call, w_callK, w_nil, w_cons, w_tup, w_lst, isB_bl, w_tval, w_tand, w_tor, w_tnot, w_and, w_or, w_not, w_if, s_next, s_seq, s_if, s_ret, s_drop, s_set, s_par, s_put, s_asg, w_var', runS_next, runS_ret, runS_stuck, runS_ite, List.length_cons, List.length_nil, List.length_singleton, List.map_cons, List.map_nil, List.cons_append, List.nil_append, List.replicate_succ, List.replicate_zero, List.getElem?_cons_zero, List.getElem?_cons_succ, List.set_cons_zero, List.set_cons_succ, Nat.reduceAdd, Nat.reduceSub, Nat.reduceEqDiff, ite_true, ite_false, if_true, if_false, reduceIte, Bool.false_eq_true, decide_true, decide_false, String.reduceEq, Int.reduceEq, Nat.reduceLeDiff, true_and, and_true, Bool.not_true, Bool.not_false, decide_eq_true_eq, List.append_nil, bType, bIsi, bLen, bInt, ty_int, ty_bl, ty_str, ty_non, ty_tup, isT, oIs, oIsNot, oSub, oAdd, oIx, run_eqI, run_neI, Bool.or_false, Bool.or_true, Bool.false_or, Bool.true_or, Bool.and_true, Bool.and_false, Bool.true_and, Bool.false_and, reduceCtorEq, decide_not, Bool.not_eq_true', decide_eq_false_iff_not, askInt, askBool, askTuple, askList, askStr, oLe, oLt, oGe, oGt, oInt2, atI0, atI1, atI2]
        refine Run.mono (p_is_counts (hb.gr g1) (by omega) (by omega)) fun r S2 ⟨er, g2⟩ => ?_
        exact ⟨er, (g1.trans g2).kp⟩
    · rw [if_pos (by omega)]
      refine ⟨?_, .refl S⟩
      match xs, hl with
      | [], _ => rfl
      | [_], _ => rfl
      | [_, _], h => exact absurd rfl h
      | _ :: _ :: _ :: _, _ => rfl
  | ref hn' _ => simp only [ty_ref hn', run_ok, run_okI, run_okB, run_alloc, run_stuck, run_bind, run_ite, run_noX, run_fnOf, w_c, w_op, w_un, w_call, w_callK, w_nil, w_cons, w_tup, w_lst, isB_bl, w_tval, w_tand, w_tor, w_tnot, w_and, w_or, w_not, w_if, s_next, s_seq, s_if, s_ret, s_drop, s_set, s_par, s_put, s_asg, w_var', runS_next, runS_ret, runS_stuck, runS_ite, List.length_cons, List.length_nil, List.length_singleton, List.map_cons, List.map_nil, List.cons_append, List.nil_append, List.replicate_succ, List.replicate_zero, List.getElem?_cons_zero, List.getElem?_cons_succ, List.set_cons_zero, List.set_cons_succ, Nat.reduceAdd, Nat.reduceSub, Nat.reduceEqDiff, ite_true, ite_false, if_true, if_false, reduceIte, Bool.false_eq_true, decide_true, decide_false, String.reduceEq, Int.reduceEq, Nat.reduceLeDiff, true_and, and_true, Bool.not_true, Bool.not_false, decide_eq_true_eq, List.append_nil, bType, bIsi, bLen, bInt, ty_int, ty_bl, ty_str, ty_non, ty_tup, isT, oIs, oIsNot, oSub, oAdd, oIx, run_eqI, run_neI, Bool.or_false, Bool.or_true, Bool.false_or, Bool.true_or, Bool.and_true, Bool.and_false, Bool.true_and, Bool.false_and, reduceCtorEq, decide_not, Bool.not_eq_true', decide_eq_false_iff_not, askInt, askBool, askTuple, askList, askStr, oLe, oLt, oGe, oGt, oInt2, atI0, atI1, atI2]; exact ⟨rfl, Kp.refl S⟩
  | _ => simp only [run_ok, run_okI, run_okB, run_alloc, run_stuck, run_bind, run_ite, run_noX, run_fnOf, w_c, w_op, w_un, w_call, w_callK, w_nil, w_cons, w_tup, w_lst, isB_bl, w_tval, w_tand, w_tor, w_tnot, w_and, w_or, w_not, w_if, s_next, s_seq, s_if, s_ret, s_drop, s_set, s_par, s_put, s_asg, w_var', runS_next, runS_ret, runS_stuck, runS_ite, List.length_cons, List.length_nil, List.length_singleton, List.map_cons, List.map_nil, List.cons_append, List.nil_append, List.replicate_succ, List.replicate_zero, List.getElem?_cons_zero, List.getElem?_cons_succ, List.set_cons_zero, List.set_cons_succ, Nat.reduceAdd, Nat.reduceSub, Nat.reduceEqDiff, ite_true, ite_false, if_true, if_false, reduceIte, Bool.false_eq_true, decide_true, decide_false, String.reduceEq, Int.reduceEq, Nat.reduceLeDiff, true_and, and_true, Bool.not_true, Bool.not_false, decide_eq_true_eq, List.append_nil, bType, bIsi, bLen, bInt, ty_int, ty_bl, ty_str, ty_non, ty_tup, isT, oIs, oIsNot, oSub, oAdd, oIx, run_eqI, run_neI, Bool.or_false, Bool.or_true, Bool.false_or, Bool.true_or, Bool.and_true, Bool.and_false, Bool.true_and, Bool.false_and, reduceCtorEq, decide_not, Bool.not_eq_true', decide_eq_false_iff_not, askInt, askBool, askTuple, askList, askStr, oLe, oLt, oGe, oGt, oInt2, atI0, atI1, atI2]; exact ⟨rfl, Kp.refl S⟩
/-! ### owned_paths: it comes through exactly for shares -/
theorem check_share_ok {e n : Nat} {v : Val} {S : Store} (hv : Da S e v) (he : e < 60) (hn : 62 < n) : ∃ S', Kp S S' ∧ (fns n).check_share [v] S = if shOk v = true then .ok .non S' else .exc ⟨1, []⟩ S' := by
  obtain ⟨n, rfl⟩ : ∃ m, n = m + 1 := ⟨n - 1, by omega⟩
  obtain ⟨r, S', e1, e2, g⟩ := (p_is_share (n := n) hv he (by omega)).to
  subst e2
  refine ⟨S', g.kp, ?_⟩
  show fnOf 1 1 (b_check_share (fns n)) [v] S = _
  simp only [fnOf, b_check_share, sIf, tNot', tVal, dCall, aCons, aNil, dVar, Res.bind, Res.toS, List.length_cons, List.length_nil, List.map_cons, List.map_nil, Nat.reduceAdd, Nat.reduceSub, List.replicate_zero, List.append_nil, List.getElem?_cons_zero, e1, if_true]
  cases shOk v <;> rfl
theorem check_counts_ok {e n : Nat} {v : Val} {S : Store} (hv : Da S e v) (he : e < 60) (hn : 62 < n) : ∃ S', Kp S S' ∧ (fns n).check_counts [v] S = if coOk v = true then .ok .non S' else .exc ⟨2, []⟩ S' := by
  obtain ⟨n, rfl⟩ : ∃ m, n = m + 1 := ⟨n - 1, by omega⟩
  obtain ⟨r, S', e1, e2, g⟩ := (p_is_counts (n := n) hv he (by omega)).to
  subst e2
  refine ⟨S', g.kp, ?_⟩
  show fnOf 1 1 (b_check_counts (fns n)) [v] S = _
  simp only [fnOf, b_check_counts, sIf, tNot', tVal, dCall, aCons, aNil, dVar, Res.bind, Res.toS, List.length_cons, List.length_nil, List.map_cons, List.map_nil, Nat.reduceAdd, Nat.reduceSub, List.replicate_zero, List.append_nil, List.getElem?_cons_zero, e1, if_true]
  cases coOk v <;> rfl
theorem set_get {S : Store} {m : Nat} {c d : Cell} (h : S[m]? = some c) : (S.set m d)[m]? = some d := by
  rw [List.getElem?_set_self (List.getElem?_eq_some_iff.mp h).1]
theorem set_self {S : Store} {m : Nat} {c : Cell} (h : S[m]? = some c) : S.set m c = S := by
  apply List.ext_getElem?
  intro i
  by_cases e : m = i
  · subst e; rw [set_get h, h]
  · rw [List.getElem?_set_ne e]
theorem sh_da : ∀ (k : Nat) (v : Val) (S : Store), isSh k v = true → Da S k v
  | k, v, S, h => by
    cases v with
    | int i => exact .int _ i
    | tup xs =>
      by_cases hl : xs.length = 2
      · obtain ⟨a, b, rfl⟩ := two_of hl
        cases k with
        | zero => simp [isSh] at h
        | succ k =>
          rw [isSh_pair] at h
          simp only [Bool.and_eq_true] at h
          exact da_pair (sh_da k a S h.1.1) (sh_da k b S h.1.2)
      · rw [isSh_len hl] at h; cases h
    | _ => cases k <;> cases h
theorem comp_pureC {f : D} {n v : Nat} {ρ : PD.Env} {g : Val → Val} {ys : List Val} : ∀ (xs : List Val) (i : Nat) (acc : List Val) (S : Store), S[n]? = some (.lst ys) → acc.length + xs.length < 16777216 →
    (∀ x ∈ xs, ∀ S', Run (f (ρ.set v (some x)) S') (PureK S' (g x))) → ys.drop i = xs → i ≤ ys.length →
    Run (compG (srcC n) (gN v) tYes' f xs.length i acc ρ S) (PureK S (acc ++ xs.map g))
  | [], i, acc, S, hn, _, _, hd, hi => by
    have : ys[i]? = none := by
      rw [List.getElem?_eq_none_iff]
      have := congrArg List.length hd
      simp at this; omega
    show Run (match srcC n i S with | some none => Res.ok acc S | _ => .stuck) _
    have es : srcC n i S = some none := by
      unfold srcC; rw [hn]; show some ys[i]? = _; rw [this]
    rw [es]
    exact ⟨by simp, .refl S⟩
  | x :: xs, i, acc, S, hn, hl, he, hd, hi => by
    have hlt : i < ys.length := by
      have := congrArg List.length hd
      simp at this; omega
    have e0 := List.drop_eq_getElem_cons hlt
    rw [hd] at e0
    have hx : ys[i]? = some x := by rw [List.getElem?_eq_getElem hlt, (List.cons.inj e0).1]
    have hl' : acc.length + (xs.length + 1) < 16777216 := hl
    show Run (match srcC n i S with
      | none => Res.stuck
      | some none => .ok acc S
      | some (some x) => match gN v x ρ with
        | none => .stuck
        | some ρ1 => (noX (tYes' ρ1 S)).bind fun b S1 => if b = true then (noX (f ρ1 S1)).bind fun y S2 => if acc.length < 16777216 then compG (srcC n) (gN v) tYes' f xs.length (i + 1) (acc ++ [y]) ρ S2 else .stuck
            else compG (srcC n) (gN v) tYes' f xs.length (i + 1) acc ρ S1) _
    have es : srcC n i S = some (some x) := by unfold srcC; rw [hn]; show some ys[i]? = _; rw [hx]
    rw [es]
    show Run ((noX (f (ρ.set v (some x)) S)).bind fun y S2 => if acc.length < 16777216 then compG (srcC n) (gN v) tYes' f xs.length (i + 1) (acc ++ [y]) ρ S2 else .stuck) _
    rw [run_bind, run_noX]
    refine Run.mono (he x List.mem_cons_self S) fun y S1 ⟨ey, g1⟩ => ?_
    rw [if_pos (by omega)]
    refine Run.mono (comp_pureC (g := g) xs (i + 1) (acc ++ [y]) S1 (g1 _ _ hn) (by simp; omega) (fun y hy => he y (List.mem_cons_of_mem _ hy)) (List.cons.inj e0).2.symm hlt) fun zs S2 ⟨ez, g2⟩ => ?_
    exact ⟨by rw [ez, ey]; simp, g1.trans g2⟩
theorem jx0 {a : Val} {xs : List Val} {S : Store} {Q : Val → Store → Prop} : Run (oIx (.tup (a :: xs)) (.int 0) S) Q = Q a S := by
  unfold oIx
  simp only [atI0]; rfl
theorem jx1 {a b : Val} {xs : List Val} {S : Store} {Q : Val → Store → Prop} : Run (oIx (.tup (a :: b :: xs)) (.int 1) S) Q = Q b S := by
  unfold oIx
  simp only [atI1]; rfl
/-- a half before a path -/
def pre (b : Val) : Val → Val
  | .tup ps => .tup (b :: ps)
  | v => v
def Pth (k : Nat) (x : Val) : Prop := ∃ ps, x = .tup ps ∧ ps.length ≤ k
theorem run_half {h : D} {b : Int} {k : Nat} {ρ : PD.Env} {S : Store} (hk : k ≤ 1000) (hr : 2 < ρ.length) (e : Run (h ρ S) fun r S' => (∃ m xs, r = .ref m ∧ S'[m]? = some (.lst xs) ∧ xs.length ≤ 1000000 ∧ xs.length ≤ 2 ^ k ∧ ∀ x ∈ xs, Pth k x) ∧ Kp S S') :
    Run (dLCC h (gN 2) tYes' (dOp oAdd (dTup (aCons (dC (.int b)) aNil)) (dVar 2)) [2] ρ S) (fun r S' => (∃ m xs, r = .ref m ∧ S'[m]? = some (.lst xs) ∧ xs.length ≤ 1000000 ∧ xs.length ≤ 2 ^ k ∧ ∀ x ∈ xs, Pth (k + 1) x) ∧ Kp S S') := by
  unfold dLCC
  rw [run_bind]
  refine Run.mono e fun x S1 ⟨⟨m, xs, e1, em, h1, h2, hp⟩, k1⟩ => ?_
  subst e1
  show Run (match S1[m]? with
    | some cc => (compG (srcC m) (gN 2) tYes' (dOp oAdd (dTup (aCons (dC (.int b)) aNil)) (dVar 2)) cc.items.length 0 [] (wipeE ρ [2]) S1).bind alloc
    | none => .stuck) _
  rw [em]
  show Run ((compG (srcC m) (gN 2) tYes' (dOp oAdd (dTup (aCons (dC (.int b)) aNil)) (dVar 2)) xs.length 0 [] (wipeE ρ [2]) S1).bind alloc) _
  rw [run_bind]
  refine Run.mono (comp_pureC (g := pre (.int b)) (ys := xs) xs 0 [] S1 em (by simp; omega) (fun x hx S' => ?_) rfl (Nat.zero_le _)) fun ys S2 ⟨e2, k2⟩ => ?_
  · obtain ⟨ps, rfl, hl⟩ := hp x hx
    have e2 : ((wipeE ρ [2]).set 2 (some (.tup ps)))[2]? = some (some (.tup ps)) := by
      rw [List.getElem?_set_self]
      show 2 < (ρ.set 2 none).length
      rw [List.length_set]; exact hr
    have el : 1 + ps.length ≤ 16777216 := by omega
    generalize (wipeE ρ [2]).set 2 (some (.tup ps)) = ρ2 at *
    simp only [e2, el, run_ok, run_okI, run_okB, run_alloc, run_stuck, run_bind, run_ite, run_noX, run_fnOf, w_c, w_op, w_un, w_call, w_callK, w_nil, w_cons, w_tup, w_lst, isB_bl, w_tval, w_tand, w_tor, w_tnot, w_and, w_or, w_not, w_if, s_next, s_seq, s_if, s_ret, s_drop, s_set, s_par, s_put, s_asg, w_var', runS_next, runS_ret, runS_stuck, runS_ite, List.length_cons, List.length_nil, List.length_singleton, List.map_cons, List.map_nil, List.cons_append, List.nil_append, List.replicate_succ, List.replicate_zero, List.getElem?_cons_zero, List.getElem?_cons_succ, List.set_cons_zero, List.set_cons_succ, Nat.reduceAdd, Nat.reduceSub, Nat.reduceEqDiff, ite_true, ite_false, if_true, if_false, reduceIte, Bool.false_eq_true, decide_true, decide_false, String.reduceEq, Int.reduceEq, Nat.reduceLeDiff, true_and, and_true, Bool.not_true, Bool.not_false, decide_eq_true_eq, List.append_nil, bType, bIsi, bLen, bInt, ty_int, ty_bl, ty_str, ty_non, ty_tup, isT, oIs, oIsNot, oSub, oAdd, oIx, run_eqI, run_neI, Bool.or_false, Bool.or_true, Bool.false_or, Bool.true_or, Bool.and_true, Bool.and_false, Bool.true_and, Bool.false_and, reduceCtorEq, decide_not, Bool.not_eq_true', decide_eq_false_iff_not, askInt, askBool, askTuple, askList, askStr, oLe, oLt, oGe, oGt, oInt2, atI0, atI1, atI2]
    exact ⟨rfl, .refl _⟩
  · subst e2
    refine ⟨⟨_, _, rfl, get_new _ _, by simp; omega, by simp; omega, fun x hx => ?_⟩, (k1.trans k2).trans (Gr.add _ _).kp⟩
    rw [List.nil_append] at hx
    obtain ⟨y, hy, rfl⟩ := List.mem_map.mp hx
    obtain ⟨ps, rfl, hl⟩ := hp y hy
    exact ⟨.int b :: ps, rfl, by rw [List.length_cons]; omega⟩
theorem p_paths : ∀ (k n : Nat) (v : Val) (S : Store), isSh k v = true → k ≤ 12 → k < n →
    Run ((fns n).paths_had [v] S) (fun r S' => (∃ m xs, r = .ref m ∧ S'[m]? = some (.lst xs) ∧ xs.length ≤ 1000000 ∧ xs.length ≤ 2 ^ k ∧ ∀ x ∈ xs, Pth k x) ∧ Kp S S')
  | k, 0, _, _, _, _, h => absurd h (Nat.not_lt_zero _)
  | k, n + 1, v, S, hs, h12, hk => by
    show Run (fnOf 1 3 (b_paths_had (fns n)) [v] S) _
    unfold b_paths_had
    have hv := sh_da k v S hs
    have p2 : 1 ≤ 2 ^ k := Nat.one_le_two_pow
    cases v with
    | int i =>
      have hi : i = 0 ∨ i = 1 := by cases k <;> simpa [isSh] using hs
      rcases hi with rfl | rfl
      · simp only [run_ok, run_okI, run_okB, run_alloc, run_stuck, run_bind, run_ite, run_noX, run_fnOf, w_c, w_op, w_un, w_call, w_callK, w_nil, w_cons, w_tup, w_lst, isB_bl, w_tval, w_tand, w_tor, w_tnot, w_and, w_or, w_not, w_if, s_next, s_seq, s_if, s_ret, s_drop, s_set, s_par, s_put, s_asg, w_var', runS_next, runS_ret, runS_stuck, runS_ite, List.length_cons, List.length_nil, List.length_singleton, List.map_cons, List.map_nil, List.cons_append, List.nil_append, List.replicate_succ, List.replicate_zero, List.getElem?_cons_zero, List.getElem?_cons_succ, List.set_cons_zero, List.set_cons_succ, Nat.reduceAdd, Nat.reduceSub, Nat.reduceEqDiff, ite_true, ite_false, if_true, if_false, reduceIte, Bool.false_eq_true, decide_true, decide_false, String.reduceEq, Int.reduceEq, Nat.reduceLeDiff, true_and, and_true, Bool.not_true, Bool.not_false, decide_eq_true_eq, List.append_nil, bType, bIsi, bLen, bInt, ty_int, ty_bl, ty_str, ty_non, ty_tup, isT, oIs, oIsNot, oSub, oAdd, oIx, run_eqI, run_neI, Bool.or_false, Bool.or_true, Bool.false_or, Bool.true_or, Bool.and_true, Bool.and_false, Bool.true_and, Bool.false_and, reduceCtorEq, decide_not, Bool.not_eq_true', decide_eq_false_iff_not, askInt, askBool, askTuple, askList, askStr, oLe, oLt, oGe, oGt, oInt2, atI0, atI1, atI2]
        exact ⟨⟨_, [], rfl, get_new _ _, Nat.zero_le _, Nat.zero_le _, fun _ h => nomatch h⟩, (Gr.add _ _).kp⟩
      · simp only [run_ok, run_okI, run_okB, run_alloc, run_stuck, run_bind, run_ite, run_noX, run_fnOf, w_c, w_op, w_un, w_call, w_callK, w_nil, w_cons, w_tup, w_lst, isB_bl, w_tval, w_tand, w_tor, w_tnot, w_and, w_or, w_not, w_if, s_next, s_seq, s_if, s_ret, s_drop, s_set, s_par, s_put, s_asg, w_var', runS_next, runS_ret, runS_stuck, runS_ite, List.length_cons, List.length_nil, List.length_singleton, List.map_cons, List.map_nil, List.cons_append, List.nil_append, List.replicate_succ, List.replicate_zero, List.getElem?_cons_zero, List.getElem?_cons_succ, List.set_cons_zero, List.set_cons_succ, Nat.reduceAdd, Nat.reduceSub, Nat.reduceEqDiff, ite_true, ite_false, if_true, if_false, reduceIte, Bool.false_eq_true, decide_true, decide_false, String.reduceEq, Int.reduceEq, Nat.reduceLeDiff, true_and, and_true, Bool.not_true, Bool.not_false, decide_eq_true_eq, List.append_nil, bType, bIsi, bLen, bInt, ty_int, ty_bl, ty_str, ty_non, ty_tup, isT, oIs, oIsNot, oSub, oAdd, oIx, run_eqI, run_neI, Bool.or_false, Bool.or_true, Bool.false_or, Bool.true_or, Bool.and_true, Bool.and_false, Bool.true_and, Bool.false_and, reduceCtorEq, decide_not, Bool.not_eq_true', decide_eq_false_iff_not, askInt, askBool, askTuple, askList, askStr, oLe, oLt, oGe, oGt, oInt2, atI0, atI1, atI2]
        refine ⟨⟨_, [.tup []], rfl, get_new _ _, by simp, by simpa using p2, fun x hx => ?_⟩, (Gr.add _ _).kp⟩
        exact ⟨[], List.mem_singleton.mp hx, Nat.zero_le _⟩
    | tup zs =>
      by_cases hl : zs.length = 2
      · obtain ⟨a, b, rfl⟩ := two_of hl
        cases k with
        | zero => simp [isSh] at hs
        | succ k =>
          rw [isSh_pair] at hs
          simp only [Bool.and_eq_true] at hs
          have e0 : ∀ (i : Int), PyData.eqv (dat S (.tup [a, b])) (dat S (.int i)) = false := fun i => by
            rw [dat_int, dat_tup (d := k) (by intro x hx; rcases List.mem_cons.mp hx with rfl | hx; exact sh_da k _ S hs.1.1; rw [List.mem_singleton.mp hx]; exact sh_da k _ S hs.1.2) (by omega)]
            rfl
          have ep : 2 ^ (k + 1) = 2 ^ k + 2 ^ k := by rw [Nat.pow_succ]; omega
          have p12 : 2 ^ k ≤ 2 ^ 11 := Nat.pow_le_pow_right (by decide) (by omega)
          have half : ∀ (b' : Int) (w : Val) (i : Int) (y : Option Val) (S1 : Store), isSh k w = true → (∀ Q S2, Run (oIx (.tup [a, b]) (.int i) S2) Q = Q w S2) → Run (dLCC (dCall (fns n).paths_had (aCons (dOp oIx (dVar 0) (dC (.int i))) aNil)) (gN 2) tYes' (dOp oAdd (dTup (aCons (dC (.int b')) aNil)) (dVar 2)) [2] [some (.tup [a, b]), y, none] S1) (fun r S' => (∃ m xs, r = .ref m ∧ S'[m]? = some (.lst xs) ∧ xs.length ≤ 1000000 ∧ xs.length ≤ 2 ^ k ∧ ∀ x ∈ xs, Pth (k + 1) x) ∧ Kp S1 S') := fun b' w i y S1 hw hi => by
            refine run_half (by omega) (Nat.le_of_ble_eq_true rfl) ?_
            rw [w_call, w_cons, w_op, w_var']
            show Run (oIx (.tup [a, b]) (.int i) S1) _
            rw [hi]
            exact p_paths k n w S1 hw (by omega) (by omega)
          simp only [run_ok, run_okI, run_okB, run_alloc, run_stuck, run_bind, run_ite, run_noX, run_fnOf, w_c, w_op, w_un, w_call, w_callK, w_nil, w_cons, w_tup, w_lst, isB_bl, w_tval, w_tand, w_tor, w_tnot, w_and, w_or, w_not, w_if, s_next, s_seq, s_if, s_ret, s_drop, s_set, s_par, s_put, s_asg, w_var', runS_next, runS_ret, runS_stuck, runS_ite, List.length_cons, List.length_nil, List.length_singleton, List.map_cons, List.map_nil, List.cons_append, List.nil_append, List.replicate_succ, List.replicate_zero, List.getElem?_cons_zero, List.getElem?_cons_succ, List.set_cons_zero, List.set_cons_succ, Nat.reduceAdd, Nat.reduceSub, Nat.reduceEqDiff, ite_true, ite_false, if_true, if_false, reduceIte, Bool.false_eq_true, decide_true, decide_false, String.reduceEq, Int.reduceEq, Nat.reduceLeDiff, true_and, and_true, Bool.not_true, Bool.not_false, decide_eq_true_eq, List.append_nil, bType, bIsi, bLen, bInt, ty_int, ty_bl, ty_str, ty_non, ty_tup, isT, oIs, oIsNot, oSub, oAdd, oIx, run_eqI, run_neI, Bool.or_false, Bool.or_true, Bool.false_or, Bool.true_or, Bool.and_true, Bool.and_false, Bool.true_and, Bool.false_and, reduceCtorEq, decide_not, Bool.not_eq_true', decide_eq_false_iff_not, askInt, askBool, askTuple, askList, askStr, oLe, oLt, oGe, oGt, oInt2, atI0, atI1, atI2]
          rw [run_eq hv (.int 0 0) (by omega) (by omega), e0]
          simp only [run_ok, run_okI, run_okB, run_alloc, run_stuck, run_bind, run_ite, run_noX, run_fnOf, w_c, w_op, w_un, w_call, w_callK, w_nil, w_cons, w_tup, w_lst, isB_bl, w_tval, w_tand, w_tor, w_tnot, w_and, w_or, w_not, w_if, s_next, s_seq, s_if, s_ret, s_drop, s_set, s_par, s_put, s_asg, w_var', runS_next, runS_ret, runS_stuck, runS_ite, List.length_cons, List.length_nil, List.length_singleton, List.map_cons, List.map_nil, List.cons_append, List.nil_append, List.replicate_succ, List.replicate_zero, List.getElem?_cons_zero, List.getElem?_cons_succ, List.set_cons_zero, List.set_cons_succ, Nat.reduceAdd, Nat.reduceSub, Nat.reduceEqDiff, ite_true, ite_false, if_true, if_false, reduceIte, Bool.false_eq_true, decide_true, decide_false, String.reduceEq, Int.reduceEq, Nat.reduceLeDiff, true_and, and_true, Bool.not_true, Bool.not_false, decide_eq_true_eq, List.append_nil, bType, bIsi, bLen, bInt, ty_int, ty_bl, ty_str, ty_non, ty_tup, isT, oIs, oIsNot, oSub, oAdd, oIx, run_eqI, run_neI, Bool.or_false, Bool.or_true, Bool.false_or, Bool.true_or, Bool.and_true, Bool.and_false, Bool.true_and, Bool.false_and, reduceCtorEq, decide_not, Bool.not_eq_true', decide_eq_false_iff_not, askInt, askBool, askTuple, askList, askStr, oLe, oLt, oGe, oGt, oInt2, atI0, atI1, atI2]
          rw [run_eq hv (.int 0 1) (by omega) (by omega), e0]
          simp only [run_ok, run_okI, run_okB, run_alloc, run_stuck, run_bind, run_ite, run_noX, run_fnOf, w_c, w_op, w_un, w_call, w_callK, w_nil, w_cons, w_tup, w_lst, isB_bl, w_tval, w_tand, w_tor, w_tnot, w_and, w_or, w_not, w_if, s_next, s_seq, s_if, s_ret, s_drop, s_set, s_par, s_put, s_asg, w_var', runS_next, runS_ret, runS_stuck, runS_ite, List.length_cons, List.length_nil, List.length_singleton, List.map_cons, List.map_nil, List.cons_append, List.nil_append, List.replicate_succ, List.replicate_zero, List.getElem?_cons_zero, List.getElem?_cons_succ, List.set_cons_zero, List.set_cons_succ, Nat.reduceAdd, Nat.reduceSub, Nat.reduceEqDiff, ite_true, ite_false, if_true, if_false, reduceIte, Bool.false_eq_true, decide_true, decide_false, String.reduceEq, Int.reduceEq, Nat.reduceLeDiff, true_and, and_true, Bool.not_true, Bool.not_false, decide_eq_true_eq, List.append_nil, bType, bIsi, bLen, bInt, ty_int, ty_bl, ty_str, ty_non, ty_tup, isT, oIs, oIsNot, oSub, oAdd, oIx, run_eqI, run_neI, Bool.or_false, Bool.or_true, Bool.false_or, Bool.true_or, Bool.and_true, Bool.and_false, Bool.true_and, Bool.false_and, reduceCtorEq, decide_not, Bool.not_eq_true', decide_eq_false_iff_not, askInt, askBool, askTuple, askList, askStr, oLe, oLt, oGe, oGt, oInt2, atI0, atI1, atI2]
          refine Run.mono (half 0 a 0 none S hs.1.1 (fun Q S2 => jx0)) fun r S1 ⟨⟨m, xs, e1, em, hx, hx2, hp⟩, k1⟩ => ?_
          subst e1
          try simp only [run_ok, run_okI, run_okB, run_alloc, run_stuck, run_bind, run_ite, run_noX, run_fnOf, w_c, w_op, w_un, w_call, w_callK, w_nil, w_cons, w_tup, w_lst, isB_bl, w_tval, w_tand, w_tor, w_tnot, w_and, w_or, w_not, w_if, s_next, s_seq, s_if, s_ret, s_drop, s_set, s_par, s_put, s_asg, w_var', runS_next, runS_ret, runS_stuck, runS_ite, List.length_cons, List.length_nil, List.length_singleton, List.map_cons, List.map_nil, List.cons_append, List.nil_append, List.replicate_succ, List.replicate_zero, List.getElem?_cons_zero, List.getElem?_cons_succ, List.set_cons_zero, List.set_cons_succ, Nat.reduceAdd, Nat.reduceSub, Nat.reduceEqDiff, ite_true, ite_false, if_true, if_false, reduceIte, Bool.false_eq_true, decide_true, decide_false, String.reduceEq, Int.reduceEq, Nat.reduceLeDiff, true_and, and_true, Bool.not_true, Bool.not_false, decide_eq_true_eq, List.append_nil, bType, bIsi, bLen, bInt, ty_int, ty_bl, ty_str, ty_non, ty_tup, isT, oIs, oIsNot, oSub, oAdd, oIx, run_eqI, run_neI, Bool.or_false, Bool.or_true, Bool.false_or, Bool.true_or, Bool.and_true, Bool.and_false, Bool.true_and, Bool.false_and, reduceCtorEq, decide_not, Bool.not_eq_true', decide_eq_false_iff_not, askInt, askBool, askTuple, askList, askStr, oLe, oLt, oGe, oGt, oInt2, atI0, atI1, atI2]
          refine Run.mono (half 1 b 1 (some (.ref m)) S1 hs.1.2 (fun Q S2 => jx1)) fun r S2 ⟨⟨m2, ys, e1, em2, hy, hy2, hq⟩, k2⟩ => ?_
          subst e1
          have em3 := k2 _ _ em
          show Run (match S2[m]?, S2[m2]? with
              | some (.lst xs), some (.lst ys) => if xs.length + ys.length ≤ 16777216 then alloc (xs ++ ys) S2 else .stuck
              | _, _ => .stuck) _
          rw [em3, em2]
          show Run (if xs.length + ys.length ≤ 16777216 then alloc (xs ++ ys) S2 else .stuck) _
          rw [if_pos (by omega)]
          refine ⟨⟨_, _, rfl, get_new _ _, by rw [List.length_append]; omega, by rw [List.length_append]; omega, fun x hx => ?_⟩, (k1.trans k2).trans (Gr.add _ _).kp⟩
          rcases List.mem_append.mp hx with hx | hx
          · exact hp x hx
          · exact hq x hx
      · rw [isSh_len hl] at hs; cases hs
    | _ => cases k <;> cases hs
theorem owned_ok {e n : Nat} {v : Val} {S : Store} (hv : Da S e v) (he : e < 60) (hn : 63 < n) : ∃ S', Kp S S' ∧ if shOk v = true then ∃ r, (fns n).owned_paths [v] S = .ok r S' else (fns n).owned_paths [v] S = .exc ⟨1, []⟩ S' := by
  obtain ⟨n, rfl⟩ : ∃ m, n = m + 1 := ⟨n - 1, by omega⟩
  obtain ⟨S1, g1, e1⟩ := check_share_ok (n := n) hv he (by omega)
  cases hs : shOk v with
  | false =>
    rw [hs] at e1
    refine ⟨S1, g1, ?_⟩
    show fnOf 1 1 (b_owned_paths (fns n)) [v] S = _
    simp only [fnOf, b_owned_paths, sSeq, sDrop, sRet, dCall, aCons, aNil, dVar, Res.bind, Res.toS, SRes.seq, List.length_cons, List.length_nil, List.map_cons, List.map_nil, Nat.reduceAdd, Nat.reduceSub, List.replicate_zero, List.replicate_succ, List.append_nil, List.cons_append, List.nil_append, List.getElem?_cons_zero, e1, if_true]
    rfl
  | true =>
    rw [hs] at e1
    have hs12 : isSh 12 v = true := by
      unfold shOk at hs
      rw [Bool.and_eq_true] at hs
      exact hs.1
    obtain ⟨r, S2, e2, _, k2⟩ := (p_paths 12 n v S1 hs12 (by omega) (by omega)).to
    refine ⟨S2, g1.trans k2, r, ?_⟩
    show fnOf 1 1 (b_owned_paths (fns n)) [v] S = _
    simp only [fnOf, b_owned_paths, sSeq, sDrop, sRet, dCall, aCons, aNil, dVar, Res.bind, Res.toS, SRes.seq, List.length_cons, List.length_nil, List.map_cons, List.map_nil, Nat.reduceAdd, Nat.reduceSub, List.replicate_zero, List.append_nil, List.getElem?_cons_zero, e1, e2, if_true]
end PD.K01

/-! ## K01M9 -/
set_option Elab.async false
set_option linter.all false
set_option maxRecDepth 100000
set_option maxHeartbeats 4000000
namespace PD.K01
open PySem PySem.Spec L2 PD
theorem p_greatest : ∀ (k n : Nat) (v : Val) (S : Store), isCo k v = true → k < n → Run ((fns n).greatest [v] S) (fun r S' => (∃ i, r = .int i) ∧ S' = S)
  | k, 0, v, S, _, h => absurd h (Nat.not_lt_zero _)
  | k, n + 1, v, S, hv, h => by
    show Run (fnOf 1 1 (b_greatest (fns n)) [v] S) _
    unfold b_greatest
    rcases isCo_none hv with ⟨i, rfl, _⟩ | ⟨k', m, l, r, rfl, rfl⟩
    · simp only [run_ok, run_okI, run_okB, run_alloc, run_stuck, run_bind, run_ite, run_noX, run_fnOf, w_c, w_op, w_un, w_call, w_callK, w_nil, w_cons, w_tup, w_lst, isB_bl, w_tval, w_tand, w_tor, w_tnot, w_and, w_or, w_not, w_if, s_next, s_seq, s_if, s_ret, s_drop, s_set, s_par, s_put, s_asg, w_var', runS_next, runS_ret, runS_stuck, runS_ite, List.length_cons, List.length_nil, List.length_singleton, List.map_cons, List.map_nil, List.cons_append, List.nil_append, List.replicate_succ, List.replicate_zero, List.getElem?_cons_zero, List.getElem?_cons_succ, List.set_cons_zero, List.set_cons_succ, Nat.reduceAdd, Nat.reduceSub, Nat.reduceEqDiff, ite_true, ite_false, if_true, if_false, reduceIte, Bool.false_eq_true, decide_true, decide_false, String.reduceEq, Int.reduceEq, Nat.reduceLeDiff, true_and, and_true, Bool.not_true, Bool.not_false, decide_eq_true_eq, List.append_nil, bType, bIsi, bLen, bInt, ty_int, ty_bl, ty_str, ty_non, ty_tup, isT, oIs, oIsNot, oSub, oAdd, oIx, run_eqI, run_neI, Bool.or_false, Bool.or_true, Bool.false_or, Bool.true_or, Bool.and_true, Bool.and_false, Bool.true_and, Bool.false_and, reduceCtorEq, decide_not, Bool.not_eq_true', decide_eq_false_iff_not, askInt, askBool, askTuple, askList, askStr, oLe, oLt, oGe, oGt, oInt2, atI0, atI1, atI2]; exact ⟨_, rfl⟩
    · have hv' := hv
      rw [isCo_three] at hv'
      simp only [Bool.and_eq_true] at hv'
      simp only [run_ok, run_okI, run_okB, run_alloc, run_stuck, run_bind, run_ite, run_noX, run_fnOf, w_c, w_op, w_un, w_call, w_callK, w_nil, w_cons, w_tup, w_lst, isB_bl, w_tval, w_tand, w_tor, w_tnot, w_and, w_or, w_not, w_if, s_next, s_seq, s_if, s_ret, s_drop, s_set, s_par, s_put, s_asg, w_var', runS_next, runS_ret, runS_stuck, runS_ite, List.length_cons, List.length_nil, List.length_singleton, List.map_cons, List.map_nil, List.cons_append, List.nil_append, List.replicate_succ, List.replicate_zero, List.getElem?_cons_zero, List.getElem?_cons_succ, List.set_cons_zero, List.set_cons_succ, Nat.reduceAdd, Nat.reduceSub, Nat.reduceEqDiff, ite_true, ite_false, if_true, if_false, reduceIte, Bool.false_eq_true, decide_true, decide_false, String.reduceEq, Int.reduceEq, Nat.reduceLeDiff, true_and, and_true, Bool.not_true, Bool.not_false, decide_eq_true_eq, List.append_nil, bType, bIsi, bLen, bInt, ty_int, ty_bl, ty_str, ty_non, ty_tup, isT, oIs, oIsNot, oSub, oAdd, oIx, run_eqI, run_neI, Bool.or_false, Bool.or_true, Bool.false_or, Bool.true_or, Bool.and_true, Bool.and_false, Bool.true_and, Bool.false_and, reduceCtorEq, decide_not, Bool.not_eq_true', decide_eq_false_iff_not, askInt, askBool, askTuple, askList, askStr, oLe, oLt, oGe, oGt, oInt2, atI0, atI1, atI2]
      refine Run.mono (p_greatest k' n l S hv'.2.1 (by omega)) fun x S1 ⟨⟨i, er⟩, eS⟩ => ?_
      subst er eS
      refine Run.mono (p_greatest k' n r S1 hv'.2.2.1 (by omega)) fun x S2 ⟨⟨j, er⟩, eS⟩ => ?_
      subst er eS
      simp only [bMax2, run_ok, run_okI, run_okB, run_alloc, run_stuck, run_bind, run_ite, run_noX, run_fnOf, w_c, w_op, w_un, w_call, w_callK, w_nil, w_cons, w_tup, w_lst, isB_bl, w_tval, w_tand, w_tor, w_tnot, w_and, w_or, w_not, w_if, s_next, s_seq, s_if, s_ret, s_drop, s_set, s_par, s_put, s_asg, w_var', runS_next, runS_ret, runS_stuck, runS_ite, List.length_cons, List.length_nil, List.length_singleton, List.map_cons, List.map_nil, List.cons_append, List.nil_append, List.replicate_succ, List.replicate_zero, List.getElem?_cons_zero, List.getElem?_cons_succ, List.set_cons_zero, List.set_cons_succ, Nat.reduceAdd, Nat.reduceSub, Nat.reduceEqDiff, ite_true, ite_false, if_true, if_false, reduceIte, Bool.false_eq_true, decide_true, decide_false, String.reduceEq, Int.reduceEq, Nat.reduceLeDiff, true_and, and_true, Bool.not_true, Bool.not_false, decide_eq_true_eq, List.append_nil, bType, bIsi, bLen, bInt, ty_int, ty_bl, ty_str, ty_non, ty_tup, isT, oIs, oIsNot, oSub, oAdd, oIx, run_eqI, run_neI, Bool.or_false, Bool.or_true, Bool.false_or, Bool.true_or, Bool.and_true, Bool.and_false, Bool.true_and, Bool.false_and, reduceCtorEq, decide_not, Bool.not_eq_true', decide_eq_false_iff_not, askInt, askBool, askTuple, askList, askStr, oLe, oLt, oGe, oGt, oInt2, atI0, atI1, atI2]
      exact ⟨_, rfl⟩
theorem path_nil {n : Nat} {S : Store} (hn : 1 < n) : ∃ S', Kp S S' ∧ (fns n).check_path [.tup []] S = .ok .non S' := by
  obtain ⟨n, rfl⟩ : ∃ m, n = m + 2 := ⟨n - 2, by omega⟩
  have e : Run ((fns (n + 1)).is_path [.tup []] S) (PureK S (.bl true)) := by
    show Run (fnOf 1 2 (b_is_path (fns n)) [.tup []] S) _
    unfold b_is_path
    simp only [dLCT, (by decide : ¬ (0 : Int) > 12), run_ok, run_okI, run_okB, run_alloc, run_stuck, run_bind, run_ite, run_noX, run_fnOf, w_c, w_op, w_un, w_call, w_callK, w_nil, w_cons, w_tup, w_lst, isB_bl, w_tval, w_tand, w_tor, w_tnot, w_and, w_or, w_not, w_if, s_next, s_seq, s_if, s_ret, s_drop, s_set, s_par, s_put, s_asg, w_var', runS_next, runS_ret, runS_stuck, runS_ite, List.length_cons, List.length_nil, List.length_singleton, List.map_cons, List.map_nil, List.cons_append, List.nil_append, List.replicate_succ, List.replicate_zero, List.getElem?_cons_zero, List.getElem?_cons_succ, List.set_cons_zero, List.set_cons_succ, Nat.reduceAdd, Nat.reduceSub, Nat.reduceEqDiff, ite_true, ite_false, if_true, if_false, reduceIte, Bool.false_eq_true, decide_true, decide_false, String.reduceEq, Int.reduceEq, Nat.reduceLeDiff, true_and, and_true, Bool.not_true, Bool.not_false, decide_eq_true_eq, List.append_nil, bType, bIsi, bLen, bInt, ty_int, ty_bl, ty_str, ty_non, ty_tup, isT, oIs, oIsNot, oSub, oAdd, oIx, run_eqI, run_neI, Bool.or_false, Bool.or_true, Bool.false_or, Bool.true_or, Bool.and_true, Bool.and_false, Bool.true_and, Bool.false_and, reduceCtorEq, decide_not, Bool.not_eq_true', decide_eq_false_iff_not, askInt, askBool, askTuple, askList, askStr, oLe, oLt, oGe, oGt, oInt2, atI0, atI1, atI2]
    refine Run.of (S := S ++ [Cell.lst []]) (a := Val.bl true) ?_ ⟨rfl, (Gr.add _ _).kp⟩
    show (match (S ++ [Cell.lst []])[S.length]? with
          | some c => match allSome (c.items.map asB) with
            | some bs => okB (bs.all id) (S ++ [Cell.lst []])
            | none => .stuck
          | none => Res.stuck) = _
    rw [get_new]; rfl
  obtain ⟨r, S', e1, e2, g⟩ := e.to
  subst e2
  refine ⟨S', g, ?_⟩
  show fnOf 1 1 (b_check_path (fns (n + 1))) [.tup []] S = _
  simp only [fnOf, b_check_path, sIf, tNot', tVal, dCall, aCons, aNil, dVar, Res.bind, Res.toS, List.length_cons, List.length_nil, List.map_cons, List.map_nil, Nat.reduceAdd, Nat.reduceSub, List.replicate_zero, List.append_nil, List.getElem?_cons_zero, e1, if_true]
  rfl
theorem worth_ok {e n : Nat} {v : Val} {S : Store} (hv : Da S e v) (he : e < 60) (hn : 63 < n) : ∃ S', Kp S S' ∧ if coOk v = true then ∃ r, (fns n).worth_at [v, .tup []] S = .ok r S' else (fns n).worth_at [v, .tup []] S = .exc ⟨2, []⟩ S' := by
  obtain ⟨n, rfl⟩ : ∃ m, n = m + 1 := ⟨n - 1, by omega⟩
  obtain ⟨S1, g1, e1⟩ := check_counts_ok (n := n) hv he (by omega)
  cases hs : coOk v with
  | false =>
    rw [hs] at e1
    refine ⟨S1, g1, ?_⟩
    show fnOf 2 4 (b_worth_at (fns n)) [v, .tup []] S = _
    simp only [fnOf, b_worth_at, sSeq, sDrop, dCall, aCons, aNil, dVar, Res.bind, Res.toS, SRes.seq, List.length_cons, List.length_nil, List.map_cons, List.map_nil, Nat.reduceAdd, Nat.reduceSub, List.replicate_zero, List.replicate_succ, List.append_nil, List.cons_append, List.nil_append, List.getElem?_cons_zero, e1, if_true]
    rfl
  | true =>
    rw [hs] at e1
    have h12 : isCo 12 v = true := by
      unfold coOk at hs
      rw [Bool.and_eq_true] at hs
      exact hs.1
    obtain ⟨S2, g2, e2⟩ := path_nil (n := n) (S := S1) (by omega)
    obtain ⟨r3, S3, e3, q3, rfl⟩ := (p_least (n := n) (S := S2) h12 (by omega)).to
    obtain ⟨r4, S4, e4, q4, rfl⟩ := (p_greatest 12 n v S3 h12 (by omega)).to
    refine ⟨S4, g1.trans g2, .tup [r3, r4], ?_⟩
    show fnOf 2 4 (b_worth_at (fns n)) [v, .tup []] S = _
    simp only [fnOf, b_worth_at, sSeq, sDrop, sSet, sRet, sForT, loopV_nil, dLst, dTup, dCall, aCons, aNil, dVar, Res.bind, Res.toS, SRes.seq, List.length_cons, List.length_nil, List.map_cons, List.map_nil, Nat.reduceAdd, Nat.reduceSub, List.replicate_zero, List.replicate_succ, List.append_nil, List.cons_append, List.nil_append, List.getElem?_cons_zero, List.getElem?_cons_succ, List.set_cons_succ, List.set_cons_zero, e1, e2, e3, e4, if_true, Nat.reduceLeDiff]
/-- the law's doors: what is told of each -/
theorem l_door {e n : Nat} {v : Val} {S : Store} (b : Bool) (hv : Da S e v) (he : e < 60) (hn : 64 < n) : Run ((fns n)._law_door [.int (if b then 1 else 0), v] S) (PureK S (.str (if b then (if coOk v then "let" else "counts") else (if shOk v then "let" else "share")))) := by
  obtain ⟨n, rfl⟩ : ∃ m, n = m + 1 := ⟨n - 1, by omega⟩
  show Run (fnOf 2 3 (b__law_door (fns n)) [.int (if b then 1 else 0), v] S) _
  cases b with
  | false =>
    obtain ⟨S1, g1, e1⟩ := owned_ok (n := n) hv he (by omega)
    cases hs : shOk v with
    | true =>
      rw [hs, if_pos rfl] at e1
      obtain ⟨r, e1⟩ := e1
      refine Run.of (S := S1) (a := .str "let") ?_ ⟨rfl, g1⟩
      simp only [fnOf, b__law_door, sSeq, sSet, sTry, sIf, tVal, dOp, dC, oEq, deq, sDrop, dCallK, pick, sRet, dCall, aCons, aNil, dVar, Res.bind, Res.toS, SRes.seq, List.length_cons, List.length_nil, List.map_cons, List.map_nil, Nat.reduceAdd, Nat.reduceSub, List.replicate_zero, List.replicate_succ, List.append_nil, List.cons_append, List.nil_append, List.getElem?_cons_zero, List.getElem?_cons_succ, List.set_cons_succ, List.set_cons_zero, e1, if_true, okB, List.filterMap_cons, List.filterMap_nil, decide_true, Bool.false_eq_true, if_false]
    | false =>
      rw [hs] at e1
      have e1 : (fns n).owned_paths [v] S = .exc ⟨1, []⟩ S1 := by simpa using e1
      refine Run.of (S := S1) (a := .str "share") ?_ ⟨rfl, g1⟩
      simp only [fnOf, b__law_door, sSeq, sSet, sTry, sIf, tVal, dOp, dC, oEq, deq, sDrop, dCallK, pick, sRet, dCall, aCons, aNil, dVar, Res.bind, Res.toS, SRes.seq, List.length_cons, List.length_nil, List.map_cons, List.map_nil, Nat.reduceAdd, Nat.reduceSub, List.replicate_zero, List.replicate_succ, List.append_nil, List.cons_append, List.nil_append, List.getElem?_cons_zero, List.getElem?_cons_succ, List.set_cons_succ, List.set_cons_zero, e1, if_true, okB, List.filterMap_cons, List.filterMap_nil, decide_true, Bool.false_eq_true, if_false]
      rfl
  | true =>
    obtain ⟨S1, g1, e1⟩ := worth_ok (n := n) hv he (by omega)
    cases hs : coOk v with
    | true =>
      rw [hs, if_pos rfl] at e1
      obtain ⟨r, e1⟩ := e1
      refine Run.of (S := S1) (a := .str "let") ?_ ⟨rfl, g1⟩
      simp only [fnOf, b__law_door, sSeq, sSet, sTry, sIf, tVal, dOp, dC, oEq, deq, sDrop, dCallK, pick, sRet, dCall, dTup, aCons, aNil, dVar, Res.bind, Res.toS, SRes.seq, List.length_cons, List.length_nil, List.map_cons, List.map_nil, Nat.reduceAdd, Nat.reduceSub, List.replicate_zero, List.replicate_succ, List.append_nil, List.cons_append, List.nil_append, List.getElem?_cons_zero, List.getElem?_cons_succ, List.set_cons_succ, List.set_cons_zero, e1, if_true, okB, List.filterMap_cons, List.filterMap_nil, decide_true, Bool.false_eq_true, if_false, Int.reduceEq, decide_false, Nat.zero_le]
    | false =>
      rw [hs] at e1
      have e1 : (fns n).worth_at [v, .tup []] S = .exc ⟨2, []⟩ S1 := by simpa using e1
      refine Run.of (S := S1) (a := .str "counts") ?_ ⟨rfl, g1⟩
      simp only [fnOf, b__law_door, sSeq, sSet, sTry, sIf, tVal, dOp, dC, oEq, deq, sDrop, dCallK, pick, sRet, dCall, dTup, aCons, aNil, dVar, Res.bind, Res.toS, SRes.seq, List.length_cons, List.length_nil, List.map_cons, List.map_nil, Nat.reduceAdd, Nat.reduceSub, List.replicate_zero, List.replicate_succ, List.append_nil, List.cons_append, List.nil_append, List.getElem?_cons_zero, List.getElem?_cons_succ, List.set_cons_succ, List.set_cons_zero, e1, if_true, okB, List.filterMap_cons, List.filterMap_nil, decide_true, Bool.false_eq_true, if_false, Int.reduceEq, decide_false, Nat.zero_le]
      rfl
end PD.K01

/-! ## K01N1 -/
set_option Elab.async false
set_option linter.all false
set_option maxRecDepth 100000
set_option maxHeartbeats 4000000
namespace PD.K01
open PySem PySem.Spec L2 PD
/-! ### the cup -/
def CupAt (c : Nat) (S : Store) : Prop := ∃ a b : Int, S[c]? = some (.lst [.int a, .int b]) ∧ 0 ≤ a ∧ 0 ≤ b ∧ b < 2147483648
/-- a draw: the cup stands, all else that stood stands -/
def Cs (c : Nat) (S S' : Store) : Prop := CupAt c S' ∧ ∀ (n : Nat) (d : Cell), n ≠ c → S[n]? = some d → S'[n]? = some d
theorem Cs.refl {c : Nat} {S : Store} (h : CupAt c S) : Cs c S S := ⟨h, fun _ _ _ e => e⟩
theorem Cs.trans {c : Nat} {S S' S2 : Store} (a : Cs c S S') (b : Cs c S' S2) : Cs c S S2 := ⟨b.1, fun n d h e => b.2 n d h (a.2 n d h e)⟩
theorem Cs.kp {c : Nat} {S S' S2 : Store} (a : Cs c S S') (b : Kp S' S2) : Cs c S S2 := by
  obtain ⟨x, y, e, h⟩ := a.1
  exact ⟨⟨x, y, b _ _ e, h⟩, fun n d hn q => b _ _ (a.2 n d hn q)⟩
theorem CupAt.kp {c : Nat} {S S2 : Store} (a : CupAt c S) (b : Kp S S2) : CupAt c S2 := by
  obtain ⟨x, y, e, h⟩ := a
  exact ⟨x, y, b _ _ e, h⟩
theorem log_small {b : Int} (h0 : 0 ≤ b) (h : b < 2147483648) : b.natAbs.log2 < 1000 := by
  have : b.natAbs < 2 ^ 1000 := Nat.lt_of_lt_of_le (show b.natAbs < 2 ^ 31 by omega) (Nat.pow_le_pow_right (by decide) (by decide))
  exact PySem.Flt.log2_lt_of (by decide) this
theorem log_many {b : Int} (h0 : 0 < b) (h : b ≤ 1000000) : b.natAbs.log2 < 9000 := Nat.lt_of_lt_of_le (log_small (by omega) (by omega)) (by decide)
theorem set2_0 {a b x : Val} {c : Nat} {S : Store} (h : S[c]? = some (.lst [a, b])) : setAt (.ref c) (.int 0) x S = some (S.set c (.lst [x, b])) := by
  show (match S[c]? with
    | some (.lst xs) => match ixN xs.length 0 with
      | some j => some (S.set c (.lst (xs.set j x)))
      | none => none
    | _ => none) = _
  rw [h]; rfl
theorem set2_1 {a b x : Val} {c : Nat} {S : Store} (h : S[c]? = some (.lst [a, b])) : setAt (.ref c) (.int 1) x S = some (S.set c (.lst [a, x])) := by
  show (match S[c]? with
    | some (.lst xs) => match ixN xs.length 1 with
      | some j => some (S.set c (.lst (xs.set j x)))
      | none => none
    | _ => none) = _
  rw [h]; rfl
theorem set_other {S : Store} {c n : Nat} {d e : Cell} (h : n ≠ c) (q : S[n]? = some d) : (S.set c e)[n]? = some d := by
  rw [List.getElem?_set_ne (Ne.symm h)]; exact q
theorem run_ixR {c : Nat} {xs : List Val} {S : Store} {i : Int} {Q : Val → Store → Prop} (h : S[c]? = some (.lst xs)) : Run (oIx (.ref c) (.int i) S) Q = Run (match L2.atI xs i with | some z => Res.ok z S | none => .stuck) Q := by
  show Run (match S[c]? with | some d => (match L2.atI d.items i with | some z => Res.ok z S | none => .stuck) | none => .stuck) Q = _
  rw [h]; rfl
theorem run_modP {a m : Int} {S : Store} {Q : Val → Store → Prop} (h : 0 < m) : Run (oMod (.int a) (.int m) S) Q = Q (.int (a % m)) S := by
  show Run (if 0 < m then okI (a % m) S else .stuck) Q = _
  rw [if_pos h]; rfl
theorem run_divP {a m : Int} {S : Store} {Q : Val → Store → Prop} (h : 0 < m) (h1 : m ≤ 1000000) : Run (oDiv (.int a) (.int m) S) Q = Q (.int (a / m)) S := by
  show Run (if 0 < m ∧ m.natAbs.log2 < 9000 then okI (a / m) S else .stuck) Q = _
  rw [if_pos ⟨h, log_many h h1⟩]; rfl
theorem run_mulP {a b : Int} {S : Store} {Q : Val → Store → Prop} (h0 : 0 ≤ a) (h1 : a < 2147483648) (g0 : 0 ≤ b) (g1 : b < 2147483648) : Run (oMul (.int a) (.int b) S) Q = Q (.int (a * b)) S := by
  show Run (if a.natAbs.log2 + b.natAbs.log2 < 1000000 then okI (a * b) S else .stuck) Q = _
  have := log_small h0 h1
  have := log_small g0 g1
  rw [if_pos (by omega)]; rfl
theorem run_gtI {a b : Int} {S : Store} {Q : Val → Store → Prop} : Run (oGt (.int a) (.int b) S) Q = Q (.bl (decide (b < a))) S := rfl
theorem run_bIntI {a : Int} {S : Store} {Q : Val → Store → Prop} : Run (bInt [.int a] S) Q = Q (.int a) S := rfl
theorem l_sip {c n : Nat} {many : Int} {S : Store} (hc : CupAt c S) (h0 : 0 < many) (h1 : many ≤ 1000000) (hn : 0 < n) : Run ((fns n)._law_sip [.ref c, .int many] S) (fun r S' => (∃ i, r = .int i ∧ 0 ≤ i ∧ i < many) ∧ Cs c S S') := by
  obtain ⟨n, rfl⟩ : ∃ m, n = m + 1 := ⟨n - 1, by omega⟩
  obtain ⟨a, b, e, ha, hb, hb2⟩ := hc
  show Run (fnOf 2 3 (b__law_sip (fns n)) [.ref c, .int many] S) _
  unfold b__law_sip
  have w0 : ∀ {T : Store} {x y : Val} {Q : Val → Store → Prop}, Run (match L2.atI [x, y] 0 with | some z => Res.ok z T | none => .stuck) Q = Q x T := rfl
  have w1 : ∀ {T : Store} {x y : Val} {Q : Val → Store → Prop}, Run (match L2.atI [x, y] 1 with | some z => Res.ok z T | none => .stuck) Q = Q y T := rfl
  have hlt : c < S.length := (List.getElem?_eq_some_iff.mp e).1
  have e1 : ∀ x y : Val, (S.set c (.lst [x, y]))[c]? = some (.lst [x, y]) := fun x y => set_get e
  simp only [run_fnOf, s_seq, s_if, w_tval, w_op, w_var', w_c, s_set, s_put, s_ret, w_call, w_cons, w_nil, List.length_cons, List.length_nil, List.map_cons, List.map_nil, Nat.reduceAdd, Nat.reduceSub, List.replicate_succ, List.replicate_zero, List.cons_append, List.nil_append, List.getElem?_cons_zero, List.getElem?_cons_succ, List.set_cons_zero, List.set_cons_succ, if_true, run_ixR e, w0, w1, s_next, run_gtI, isB_bl, run_bIntI, run_modP h0, run_divP h0 h1, set2_0 e, set2_1 e, run_mulP hb hb2 (by decide : (0:Int) ≤ 69621) (by decide : (69621:Int) < 2147483648), run_modP (by decide : (0:Int) < 2147483647), run_ixR (e1 _ _)]
  have hm0 := Int.emod_nonneg (b * 69621) (by decide : (2147483647 : Int) ≠ 0)
  have hm1 := Int.emod_lt_of_pos (b * 69621) (by decide : (0 : Int) < 2147483647)
  simp only [run_mulP hm0 (by omega) hm0 (by omega), run_bIntI, run_modP (by decide : (0:Int) < 2147483629), run_divP (by decide : (0:Int) < 32) (by decide), run_modP h0]
  by_cases h : 0 < a
  · rw [if_pos (by simpa using h)]
    refine ⟨⟨_, rfl, Int.emod_nonneg _ (by omega), Int.emod_lt_of_pos _ h0⟩, ⟨_, _, e1 _ _, Int.ediv_nonneg ha (by omega), hb, hb2⟩, fun m d hm q => set_other hm q⟩
  · rw [if_neg (by simpa using h)]
    refine ⟨⟨_, rfl, Int.emod_nonneg _ (by omega), Int.emod_lt_of_pos _ h0⟩, ⟨_, _, e1 _ _, ha, hm0, by omega⟩, fun m d hm q => set_other hm q⟩
end PD.K01

/-! ## K01N2 -/
set_option Elab.async false
set_option linter.all false
set_option maxRecDepth 100000
set_option maxHeartbeats 4000000
namespace PD.K01
open PySem PySem.Spec L2 PD
/-! ### data that does not hold the cup -/
def Kx (c : Nat) (S S' : Store) : Prop := ∀ (n : Nat) (d : Cell), n ≠ c → S[n]? = some d → S'[n]? = some d
theorem Kx.refl (c : Nat) (S : Store) : Kx c S S := fun _ _ _ e => e
theorem Kx.trans {c : Nat} {S S' S2 : Store} (a : Kx c S S') (b : Kx c S' S2) : Kx c S S2 := fun n d h e => b n d h (a n d h e)
theorem Kp.kx {c : Nat} {S S' : Store} (a : Kp S S') : Kx c S S' := fun n d _ e => a n d e
inductive Dc (c : Nat) (S : Store) : Nat → Val → Prop
  | non (d : Nat) : Dc c S d .non
  | bl (d : Nat) (b : Bool) : Dc c S d (.bl b)
  | int (d : Nat) (i : Int) : Dc c S d (.int i)
  | str (d : Nat) (z : Str) : (PyData.str z).canLay0 = true → Dc c S d (.str z)
  | tup {d : Nat} {xs : List Val} : (∀ x ∈ xs, Dc c S d x) → Dc c S (d + 1) (.tup xs)
  | ref {d n : Nat} {xs : List Val} : n ≠ c → S[n]? = some (.lst xs) → (∀ x ∈ xs, Dc c S d x) → Dc c S (d + 1) (.ref n)
theorem Dc.da {c : Nat} {S : Store} {d : Nat} {v : Val} (h : Dc c S d v) : Da S d v := by
  induction h with
  | non d => exact .non _
  | bl d b => exact .bl _ _
  | int d i => exact .int _ _
  | str d z h => exact .str _ z h
  | tup _ ih => exact .tup ih
  | ref _ hn _ ih => exact .ref hn ih
theorem Dc.kx {c : Nat} {S S' : Store} {d : Nat} {v : Val} (h : Dc c S d v) (k : Kx c S S') : Dc c S' d v := by
  induction h with
  | non d => exact .non _
  | bl d b => exact .bl _ _
  | int d i => exact .int _ _
  | str d z h => exact .str _ z h
  | tup _ ih => exact .tup ih
  | ref hc hn _ ih => exact .ref hc (k _ _ hc hn) ih
theorem Dc.up {c : Nat} {S : Store} {d : Nat} {v : Val} (h : Dc c S d v) : ∀ {e : Nat}, d ≤ e → Dc c S e v := by
  induction h with
  | non d => exact fun _ => .non _
  | bl d b => exact fun _ => .bl _ b
  | int d i => exact fun _ => .int _ i
  | str d z h => exact fun _ => .str _ z h
  | @tup d xs _ ih =>
    intro e he
    obtain ⟨e', rfl⟩ : ∃ e', e = e' + 1 := ⟨e - 1, by omega⟩
    exact .tup fun x hx => ih x hx (by omega)
  | @ref d n xs hc hn _ ih =>
    intro e he
    obtain ⟨e', rfl⟩ : ∃ e', e = e' + 1 := ⟨e - 1, by omega⟩
    exact .ref hc hn fun x hx => ih x hx (by omega)
theorem Dc.dat_kx {c : Nat} {S S' : Store} (k : Kx c S S') {d : Nat} {v : Val} (h : Dc c S d v) : d < 66 → PD.K01.dat S v = PD.K01.dat S' v := by
  induction h with
  | non d => exact fun _ => rfl
  | bl d b => exact fun _ => rfl
  | int d i => exact fun _ => rfl
  | str d z h => exact fun _ => rfl
  | @tup d xs hx ih =>
    intro hd
    rw [dat_tup (fun x h => (hx x h).da) (by omega), dat_tup (fun x h => ((hx x h).kx k).da) (by omega), List.map_congr_left fun x h => ih x h (by omega)]
  | @ref d n xs hc hn hx ih =>
    intro hd
    rw [dat_ref hn (fun x h => (hx x h).da) (by omega), dat_ref (k _ _ hc hn) (fun x h => ((hx x h).kx k).da) (by omega), List.map_congr_left fun x h => ih x h (by omega)]
/-! ### the lengths of what repr shows -/
theorem tuple_len (ts : List Str) : (tupleText ts).length ≤ piled ts + 3 := by
  unfold tupleText
  rw [strLen_append, strLen_append]
  have e1 : ((("(" : String) : Str)).length = 1 := rfl
  have e3 : (((if ts.length == 1 then ",)" else ")" : String) : Str)).length ≤ 2 := by split <;> decide
  rw [e1]
  by_cases h : ts = []
  · subst h
    show 1 + (Str.join ", " []).length + 1 ≤ 0 + 3
    decide
  · have := join_length_add ts h
    omega
theorem list_len : ∀ ts : List Str, (listText ts).length ≤ piled ts + 3
  | [] => by decide
  | t :: r => by
    have h := textFrom_length_pos r 1 (("[" : Str) ++ (if (0 : Nat) > 0 then ", " else "" : String) ++ t) (Nat.succ_pos 0)
    have e : ((("[" : Str) ++ (if (0 : Nat) > 0 then ", " else "" : String) ++ t)).length = 1 + t.length := by
      rw [strLen_append, strLen_append]; rfl
    have hX : (listText (t :: r)).length = (textFrom 0 "[" (t :: r)).length + 1 := by
      show (textFrom 0 "[" (t :: r) ++ "]").length = _
      rw [strLen_append]; rfl
    have hY : (textFrom 0 "[" (t :: r)).length = (textFrom 1 (("[" : Str) ++ (if (0 : Nat) > 0 then ", " else "" : String) ++ t) r).length := rfl
    rw [hX, hY, h, e, piled_cons]; omega
/-! ### what repr shows is text -/
theorem ok_app {a b : Str} (ha : PyData.strOk a = true) (hb : PyData.strOk b = true) : PyData.strOk (a ++ b) = true := by
  unfold PyData.strOk at *
  show (a.cps ++ b.cps).all _ = true
  rw [Array.all_append, ha, hb]; rfl
theorem ok_of (s : String) : PyData.strOk (Str.ofString s) = true := by
  unfold PyData.strOk Str.ofString
  simp only [cpsOfBytes_string, List.all_toArray, List.all_map, List.all_eq_true, Function.comp, decide_eq_true_eq]
  intro c _
  have := c.valid
  rcases this with h | ⟨_, h⟩
  · exact Nat.lt_trans h (by decide)
  · exact h
theorem ok_from : ∀ (ts : List Str) (k : Nat) (acc : Str), PyData.strOk acc = true → (∀ t ∈ ts, PyData.strOk t = true) → PyData.strOk (textFrom k acc ts) = true
  | [], _, acc, h, _ => h
  | t :: r, k, acc, h, q => ok_from r (k + 1) _ (ok_app (ok_app h (ok_of _)) (q t List.mem_cons_self)) fun u hu => q u (List.mem_cons_of_mem _ hu)
theorem ok_list {ts : List Str} (q : ∀ t ∈ ts, PyData.strOk t = true) : PyData.strOk (listText ts) = true := ok_app (ok_from ts 0 _ (ok_of _) q) (ok_of _)
theorem ok_join : ∀ ts : List Str, (∀ t ∈ ts, PyData.strOk t = true) → PyData.strOk (Str.join ", " ts) = true
  | [], _ => by decide +kernel
  | [x], q => q x List.mem_cons_self
  | x :: y :: r, q => ok_app (ok_app (q x List.mem_cons_self) (ok_of _)) (ok_join (y :: r) fun u hu => q u (List.mem_cons_of_mem _ hu))
theorem ok_tuple {ts : List Str} (q : ∀ t ∈ ts, PyData.strOk t = true) : PyData.strOk (tupleText ts) = true := ok_app (ok_app (ok_of _) (ok_join ts q)) (ok_of _)
/-- data off the cup, of a depth, and of a length when shown -/
structure Good (c : Nat) (S : Store) (d L : Nat) (v : Val) : Prop where
  da : Dc c S d v
  sh : (dat S v).showable = true
  ln : (dat S v).shown.length ≤ L
  ok : PyData.strOk (dat S v).shown = true
theorem Good.kx {c : Nat} {S S' : Store} {d L : Nat} {v : Val} (h : Good c S d L v) (k : Kx c S S') (hd : d < 66) : Good c S' d L v :=
  ⟨h.da.kx k, by rw [← h.da.dat_kx k hd]; exact h.sh, by rw [← h.da.dat_kx k hd]; exact h.ln, by rw [← h.da.dat_kx k hd]; exact h.ok⟩
theorem Good.up {c : Nat} {S : Store} {d L d' L' : Nat} {v : Val} (h : Good c S d L v) (h1 : d ≤ d') (h2 : L ≤ L') : Good c S d' L' v := ⟨h.da.up h1, h.sh, Nat.le_trans h.ln h2, h.ok⟩
section
variable {c : Nat} {S : Store} {d : Nat}
theorem Good.int {L : Nat} {i : Int} (h : i.natAbs < 10 ^ 100) (hL : 101 ≤ L) : Good c S d L (.int i) :=
  ⟨.int _ _, by
    show decide (i.natAbs.log2 < 1920) = true
    exact decide_eq_true (PySem.Flt.log2_lt_of (by decide) (Nat.lt_of_lt_of_le h (by decide +kernel))), by
    show (Str.ofString (toString i)).length ≤ L
    have := int_text_length_le10 (k := 100) (by decide) h
    clear h
    rw [ofString_length]
    omega, ok_of _⟩
theorem Good.non {L : Nat} (h : 4 ≤ L) : Good c S d L .non := ⟨.non _, rfl, h, ok_of _⟩
theorem Good.bl {L : Nat} {b : Bool} (h : 5 ≤ L) : Good c S d L (.bl b) := ⟨.bl _ _, rfl, by cases b; exact h; exact Nat.le_trans (show (4 : Nat) ≤ 5 by omega) h, by cases b <;> exact ok_of _⟩
theorem Good.str {L : Nat} {z : Str} (h : (PyData.str z).canLay0 = true) (hl : (reprText z).length ≤ L) (ho : PyData.strOk (reprText z) = true) : Good c S d L (.str z) := ⟨.str _ _ h, rfl, hl, ho⟩
/-- the items of a sequence, with the length that they pile up to -/
inductive Goods (c : Nat) (S : Store) (d : Nat) : Nat → List Val → Prop
  | nil (L : Nat) : Goods c S d L []
  | cons {L M N : Nat} {x : Val} {xs : List Val} : Good c S d L x → Goods c S d M xs → L + 2 + M ≤ N → Goods c S d N (x :: xs)
theorem Goods.all {L : Nat} {xs : List Val} (h : Goods c S d L xs) : (∀ x ∈ xs, Dc c S d x) ∧ PyData.showableAll (xs.map (dat S)) = true ∧ piled (PyData.shownAll (xs.map (dat S))) ≤ L ∧ ∀ t ∈ PyData.shownAll (xs.map (dat S)), PyData.strOk t = true := by
  induction h with
  | nil L => exact ⟨(fun _ h => nomatch h), rfl, Nat.zero_le _, fun _ h => nomatch h⟩
  | @cons L M N x xs hx _ hN ih =>
    obtain ⟨i1, i2, i3, i4⟩ := ih
    refine ⟨fun y hy => ?_, ?_, ?_, fun t ht => ?_⟩
    · rcases List.mem_cons.mp hy with rfl | hy
      · exact hx.da
      · exact i1 y hy
    · show (PyData.showable (dat S x) && PyData.showableAll (xs.map (dat S))) = true
      rw [hx.sh, i2]; rfl
    · show piled (PyData.shown (dat S x) :: PyData.shownAll (xs.map (dat S))) ≤ N
      rw [piled_cons]
      have := hx.ln
      omega
    · rcases List.mem_cons.mp ht with rfl | ht
      · exact hx.ok
      · exact i4 t ht
theorem Good.tup {L N : Nat} {xs : List Val} (h : Goods c S d L xs) (hd : d < 65) (hN : L + 3 ≤ N) : Good c S (d + 1) N (.tup xs) := by
  obtain ⟨i1, i2, i3, i4⟩ := h.all
  have e := dat_tup (fun x hx => (i1 x hx).da) hd
  refine ⟨.tup i1, by rw [e]; exact i2, ?_, by rw [e]; exact ok_tuple i4⟩
  rw [e]
  show (tupleText (PyData.shownAll (xs.map (dat S)))).length ≤ N
  have := tuple_len (PyData.shownAll (xs.map (dat S)))
  omega
theorem Good.ref {L N n : Nat} {xs : List Val} (hc : n ≠ c) (hn : S[n]? = some (.lst xs)) (h : Goods c S d L xs) (hd : d < 65) (hN : L + 3 ≤ N) : Good c S (d + 1) N (.ref n) := by
  obtain ⟨i1, i2, i3, i4⟩ := h.all
  have e := dat_ref hn (fun x hx => (i1 x hx).da) hd
  refine ⟨.ref hc hn i1, by rw [e]; exact i2, ?_, by rw [e]; exact ok_list i4⟩
  rw [e]
  show (listText (PyData.shownAll (xs.map (dat S)))).length ≤ N
  have := list_len (PyData.shownAll (xs.map (dat S)))
  omega
theorem Good.one {L N : Nat} {a : Val} (ha : Good c S d L a) (hd : d < 65) (hN : L + 5 ≤ N) : Good c S (d + 1) N (.tup [a]) :=
  .tup (L := L + 2) (.cons ha (.nil 0) (by omega)) hd (by omega)
theorem Good.two {L M N : Nat} {a b : Val} (ha : Good c S d L a) (hb : Good c S d M b) (hd : d < 65) (hN : L + M + 7 ≤ N) : Good c S (d + 1) N (.tup [a, b]) :=
  .tup (L := L + M + 4) (.cons ha (.cons hb (.nil 0) (Nat.le_refl _)) (by omega)) hd (by omega)
theorem Good.three {L M K N : Nat} {a b e : Val} (ha : Good c S d L a) (hb : Good c S d M b) (he : Good c S d K e) (hd : d < 65) (hN : L + M + K + 9 ≤ N) : Good c S (d + 1) N (.tup [a, b, e]) :=
  .tup (L := L + M + K + 6) (.cons ha (.cons hb (.cons he (.nil 0) (Nat.le_refl _)) (Nat.le_refl _)) (by omega)) hd (by omega)
theorem Goods.same {L : Nat} {a : Val} (ha : Good c S d L a) : ∀ k : Nat, Goods c S d (k * (L + 2)) (List.replicate k a)
  | 0 => .nil _
  | k + 1 => .cons ha (Goods.same ha k) (by rw [Nat.succ_mul]; omega)
end
/-- repr on data -/
theorem run_repr {c : Nat} {S : Store} {d L : Nat} {v : Val} {Q : Val → Store → Prop} (h : Good c S d L v) (hd : d < 65) (hL : L ≤ 16777216) : Run (bRepr [v] S) Q = Q (.str (dat S v).shown) S := by
  unfold bRepr
  show Run (match PD.toD 66 S v with
    | some d => if d.showable = true ∧ SeqAt.shaped d = true ∧ d.shown.length ≤ 16777216 then .ok (.str d.shown) S else .stuck
    | none => .stuck) Q = _
  rw [h.da.da.dat (f := 66) (by omega) (by omega)]
  show Run (if _ then Res.ok (Val.str (dat S v).shown) S else Res.stuck) Q = _
  rw [if_pos ⟨h.sh, h.da.da.shaped hd, Nat.le_trans h.ln hL⟩]; rfl
end PD.K01

/-! ## K01N3 -/
set_option Elab.async false
set_option linter.all false
set_option maxRecDepth 100000
set_option maxHeartbeats 4000000
namespace PD.K01
open PySem PySem.Spec L2 PD
/-! ### the trees that the law draws -/
inductive Tw : Nat → Nat → Val → Prop
  | int {d L : Nat} {i : Int} : i.natAbs < 10 ^ 100 → 101 ≤ L → Tw d L (.int i)
  | two {d L M N : Nat} {a b : Val} : Tw d L a → Tw d M b → L + M + 7 ≤ N → Tw (d + 1) N (.tup [a, b])
  | three {d L M K N : Nat} {a b e : Val} : Tw d L a → Tw d M b → Tw d K e → L + M + K + 9 ≤ N → Tw (d + 1) N (.tup [a, b, e])
theorem Tw.good {c : Nat} {S : Store} {d L : Nat} {v : Val} (h : Tw d L v) : d < 66 → Good c S d L v := by
  induction h with
  | int h hL => exact fun _ => .int h hL
  | two _ _ hN iha ihb => exact fun hd => .two (iha (by omega)) (ihb (by omega)) (by omega) hN
  | three _ _ _ hN iha ihb ihe => exact fun hd => .three (iha (by omega)) (ihb (by omega)) (ihe (by omega)) (by omega) hN
theorem Tw.up {d L : Nat} {v : Val} (h : Tw d L v) : ∀ {d' L' : Nat}, d ≤ d' → L ≤ L' → Tw d' L' v := by
  induction h with
  | int h hL => exact fun _ hl => .int h (by omega)
  | two ha hb hN iha ihb =>
    intro d' L' hd hl
    obtain ⟨e', rfl⟩ : ∃ e', d' = e' + 1 := ⟨d' - 1, by omega⟩
    exact .two (iha (by omega) (Nat.le_refl _)) (ihb (by omega) (Nat.le_refl _)) (by omega)
  | three ha hb he hN iha ihb ihe =>
    intro d' L' hd hl
    obtain ⟨e', rfl⟩ : ∃ e', d' = e' + 1 := ⟨d' - 1, by omega⟩
    exact .three (iha (by omega) (Nat.le_refl _)) (ihb (by omega) (Nat.le_refl _)) (ihe (by omega) (Nat.le_refl _)) (by omega)
theorem Tw.num {d L : Nat} {i : Int} (h : -1000000 ≤ i) (h' : i ≤ 1000000) (hL : 101 ≤ L) : Tw d L (.int i) :=
  .int (Nat.lt_of_lt_of_le (show i.natAbs < 10 ^ 7 by omega) (Nat.pow_le_pow_right (by decide) (by decide))) hL
theorem Tw.da {S : Store} {d L : Nat} {v : Val} (h : Tw d L v) (hd : d < 66) : Da S d v := (h.good (c := 0) (S := S) hd).da.da
theorem Tw.eqI {S : Store} {d L : Nat} {v : Val} {i : Int} (h : Tw d L v) (hd : d < 65) : PyData.eqv (dat S v) (.int i) = isI v i := by
  cases h with
  | @int d L j _ _ => show (j == i) = decide (j = i); rw [Bool.beq_eq_decide_eq]
  | two ha hb _ => rw [dat_tup (S := S) (d := 64) (by
      intro x hx
      rcases List.mem_cons.mp hx with rfl | hx
      · exact (ha.da (by omega)).up (by omega)
      · rw [List.mem_singleton.mp hx]; exact (hb.da (by omega)).up (by omega)) (by omega)]; rfl
  | three ha hb he _ => rw [dat_tup (S := S) (d := 64) (by
      intro x hx
      rcases List.mem_cons.mp hx with rfl | hx
      · exact (ha.da (by omega)).up (by omega)
      · rcases List.mem_cons.mp hx with rfl | hx
        · exact (hb.da (by omega)).up (by omega)
        · rw [List.mem_singleton.mp hx]; exact (he.da (by omega)).up (by omega)) (by omega)]; rfl
theorem Tw.eqI' {S : Store} {d L : Nat} {v : Val} {i : Int} (h : Tw d L v) (hd : d < 65) : PyData.eqv (.int i) (dat S v) = isI v i := by
  cases h with
  | @int d L j _ _ => show (i == j) = decide (j = i); rw [Bool.beq_eq_decide_eq]; exact decide_eq_decide.mpr ⟨Eq.symm, Eq.symm⟩
  | two ha hb _ => rw [dat_tup (S := S) (d := 64) (by
      intro x hx
      rcases List.mem_cons.mp hx with rfl | hx
      · exact (ha.da (by omega)).up (by omega)
      · rw [List.mem_singleton.mp hx]; exact (hb.da (by omega)).up (by omega)) (by omega)]; rfl
  | three ha hb he _ => rw [dat_tup (S := S) (d := 64) (by
      intro x hx
      rcases List.mem_cons.mp hx with rfl | hx
      · exact (ha.da (by omega)).up (by omega)
      · rcases List.mem_cons.mp hx with rfl | hx
        · exact (hb.da (by omega)).up (by omega)
        · rw [List.mem_singleton.mp hx]; exact (he.da (by omega)).up (by omega)) (by omega)]; rfl
theorem Tw.run_eqI {S : Store} {d L : Nat} {v : Val} {i : Int} {Q : Val → Store → Prop} (h : Tw d L v) (hd : d < 65) : Run (oEq v (.int i) S) Q = Q (.bl (isI v i)) S := by
  rw [run_eq (h.da (by omega)) (Da.int 0 i) hd (by omega)]
  show Q (.bl (PyData.eqv (dat S v) (.int i))) S = _
  rw [h.eqI hd]
theorem Tw.run_neI {S : Store} {d L : Nat} {v : Val} {i : Int} {Q : Val → Store → Prop} (h : Tw d L v) (hd : d < 65) : Run (oNe v (.int i) S) Q = Q (.bl (!isI v i)) S := by
  rw [run_ne (h.da (by omega)) (Da.int 0 i) hd (by omega)]
  show Q (.bl (!PyData.eqv (dat S v) (.int i))) S = _
  rw [h.eqI hd]
theorem Tw.run_eq {S : Store} {d e L M : Nat} {v w : Val} {Q : Val → Store → Prop} (h : Tw d L v) (g : Tw e M w) (hd : d < 65) (he : e < 65) : Run (oEq v w S) Q = Q (.bl (PyData.eqv (dat S v) (dat S w))) S := PD.K01.run_eq (h.da (by omega)) (g.da (by omega)) hd he
theorem run_in01 {S : Store} {d L : Nat} {v : Val} {Q : Val → Store → Prop} (h : Tw d L v) (hd : d < 65) : Run (oIn v (.tup [.int 0, .int 1]) S) Q = Q (.bl (isI v 0 || isI v 1)) S := by
  have sw : ∀ i : Int, PyData.eqv (.int i) (dat S v) = isI v i := fun i => h.eqI' hd
  have hp : PD.toD 66 S (.tup [.int 0, .int 1]) = some (.tuple [.int 0, .int 1]) := rfl
  show Run (match oInB v (.tup [.int 0, .int 1]) S with | some b => okB b S | none => .stuck) Q = _
  have : oInB v (.tup [.int 0, .int 1]) S = some (isI v 0 || isI v 1) := by
    unfold oInB
    rw [(h.da (S := S) (by omega)).dat (f := 66) (by omega) (by omega), hp]
    show (if SeqAt.shaped (dat S v) = true ∧ SeqAt.shaped (.tuple [.int 0, .int 1]) = true then some (PyData.eqv (.int 0) (dat S v) || (PyData.eqv (.int 1) (dat S v) || false)) else none) = _
    rw [if_pos ⟨(h.da (by omega)).shaped hd, by decide⟩, sw, sw, Bool.or_false]
  rw [this]; rfl
theorem isI_of {v : Val} {i : Int} (h : isI v i = true) : v = .int i := by
  cases v with
  | int j => rw [show j = i by simpa [isI] using h]
  | _ => cases h
def Lsh : Nat → Nat
  | 0 => 101
  | k + 1 => Lsh k + Lsh k + 7
theorem Lsh_ge : ∀ k, 101 ≤ Lsh k
  | 0 => Nat.le_refl _
  | k + 1 => by have := Lsh_ge k; show 101 ≤ Lsh k + Lsh k + 7; omega
theorem l_cup {n : Nat} {z : Int} {S : Store} (hn : 0 < n) : Run ((fns n)._law_cup [.int z] S) (fun r S' => r = .ref S.length ∧ Kp S S' ∧ CupAt S.length S') := by
  obtain ⟨n, rfl⟩ : ∃ m, n = m + 1 := ⟨n - 1, by omega⟩
  show Run (fnOf 1 1 (b__law_cup (fns n)) [.int z] S) _
  unfold b__law_cup
  have p18 : ∀ {S : Store} {Q : Val → Store → Prop}, Run (oPow (.int 10) (.int 18) S) Q = Q (.int 1000000000000000000) S := fun {S Q} => by
    show Run (if (0 : Int) ≤ 18 ∧ (18 : Int) ≤ 1000000 ∧ (10 : Int).natAbs < 2 ^ 64 then okI ((10 : Int) ^ (18 : Int).toNat) S else .stuck) Q = _
    rw [if_pos (by decide)]; rfl
  simp only [p18, run_modP (by decide : (0 : Int) < 2147483629), run_ok, run_okI, run_okB, run_alloc, run_stuck, run_bind, run_ite, run_noX, run_fnOf, w_c, w_op, w_un, w_call, w_callK, w_nil, w_cons, w_tup, w_lst, isB_bl, w_tval, w_tand, w_tor, w_tnot, w_and, w_or, w_not, w_if, s_next, s_seq, s_if, s_ret, s_drop, s_set, s_par, s_put, s_asg, w_var', runS_next, runS_ret, runS_stuck, runS_ite, List.length_cons, List.length_nil, List.length_singleton, List.map_cons, List.map_nil, List.cons_append, List.nil_append, List.replicate_succ, List.replicate_zero, List.getElem?_cons_zero, List.getElem?_cons_succ, List.set_cons_zero, List.set_cons_succ, Nat.reduceAdd, Nat.reduceSub, Nat.reduceEqDiff, ite_true, ite_false, if_true, if_false, reduceIte, Bool.false_eq_true, decide_true, decide_false, String.reduceEq, Int.reduceEq, Nat.reduceLeDiff, true_and, and_true, Bool.not_true, Bool.not_false, decide_eq_true_eq, List.append_nil, bType, bIsi, bLen, bInt, ty_int, ty_bl, ty_str, ty_non, ty_tup, isT, oIs, oIsNot, oSub, oAdd, oIx, run_eqI, run_neI, Bool.or_false, Bool.or_true, Bool.false_or, Bool.true_or, Bool.and_true, Bool.and_false, Bool.true_and, Bool.false_and, reduceCtorEq, decide_not, Bool.not_eq_true', decide_eq_false_iff_not, askInt, askBool, askTuple, askList, askStr, oLe, oLt, oGe, oGt, oInt2, atI0, atI1, atI2]
  have m0 := Int.emod_nonneg z (by decide : (2147483629 : Int) ≠ 0)
  have m1 := Int.emod_lt_of_pos z (by decide : (0 : Int) < 2147483629)
  split
  · exact ⟨(Gr.add _ _).kp, _, _, get_new _ _, by omega, by omega, by omega⟩
  · exact ⟨(Gr.add _ _).kp, _, _, get_new _ _, by omega, by omega, by omega⟩
end PD.K01

/-! ## K01N4 -/
set_option Elab.async false
set_option linter.all false
set_option maxRecDepth 100000
set_option maxHeartbeats 4000000
namespace PD.K01
open PySem PySem.Spec L2 PD
theorem Tw.sip {d L : Nat} {i : Int} (h0 : 0 ≤ i) (h1 : i < 1000) (hL : 101 ≤ L) : Tw d L (.int i) := .num (by omega) (by omega) hL
theorem l_share : ∀ (k n c : Nat) (S : Store), CupAt c S → k + 1 < n → k < 50 → Run ((fns n)._law_share [.ref c, .int k] S) (fun r S' => Tw k (Lsh k) r ∧ Cs c S S')
  | k, 0, c, S, _, h, _ => absurd h (Nat.not_lt_zero _)
  | k, n + 1, c, S, hc, h, hk => by
    show Run (fnOf 2 4 (b__law_share (fns n)) [.ref c, .int k] S) _
    unfold b__law_share
    have hL := Lsh_ge k
    have hb : ∀ S0, Cs c S S0 → Run ((fns n)._law_sip [.ref c, .int 2] S0) (fun r S' => Tw k (Lsh k) r ∧ Cs c S S') := fun S0 h0 =>
      Run.mono (l_sip h0.1 (by decide) (by decide) (by omega)) fun r S2 ⟨⟨i, e, h1, h2⟩, cs⟩ => by subst e; exact ⟨.sip h1 (by omega) hL, h0.trans cs⟩
    by_cases h0 : (k : Int) = 0
    · simp only [h0, run_ok, run_okI, run_okB, run_alloc, run_stuck, run_bind, run_ite, run_noX, run_fnOf, w_c, w_op, w_un, w_call, w_callK, w_nil, w_cons, w_tup, w_lst, isB_bl, w_tval, w_tand, w_tor, w_tnot, w_and, w_or, w_not, w_if, s_next, s_seq, s_if, s_ret, s_drop, s_set, s_par, s_put, s_asg, w_var', runS_next, runS_ret, runS_stuck, runS_ite, List.length_cons, List.length_nil, List.length_singleton, List.map_cons, List.map_nil, List.cons_append, List.nil_append, List.replicate_succ, List.replicate_zero, List.getElem?_cons_zero, List.getElem?_cons_succ, List.set_cons_zero, List.set_cons_succ, Nat.reduceAdd, Nat.reduceSub, Nat.reduceEqDiff, ite_true, ite_false, if_true, if_false, reduceIte, Bool.false_eq_true, decide_true, decide_false, String.reduceEq, Int.reduceEq, Nat.reduceLeDiff, true_and, and_true, Bool.not_true, Bool.not_false, decide_eq_true_eq, List.append_nil, bType, bIsi, bLen, bInt, ty_int, ty_bl, ty_str, ty_non, ty_tup, isT, oIs, oIsNot, oSub, oAdd, oIx, run_eqI, run_neI, Bool.or_false, Bool.or_true, Bool.false_or, Bool.true_or, Bool.and_true, Bool.and_false, Bool.true_and, Bool.false_and, reduceCtorEq, decide_not, Bool.not_eq_true', decide_eq_false_iff_not, askInt, askBool, askTuple, askList, askStr, oLe, oLt, oGe, oGt, oInt2, atI0, atI1, atI2]
      rw [h0] at *
      have := hb S (.refl hc)
      simpa using this
    · obtain ⟨k, rfl⟩ : ∃ j, k = j + 1 := ⟨k - 1, by omega⟩
      have hk1 : ((k + 1 : Nat) : Int) - 1 = (k : Int) := by omega
      simp only [h0, run_ok, run_okI, run_okB, run_alloc, run_stuck, run_bind, run_ite, run_noX, run_fnOf, w_c, w_op, w_un, w_call, w_callK, w_nil, w_cons, w_tup, w_lst, isB_bl, w_tval, w_tand, w_tor, w_tnot, w_and, w_or, w_not, w_if, s_next, s_seq, s_if, s_ret, s_drop, s_set, s_par, s_put, s_asg, w_var', runS_next, runS_ret, runS_stuck, runS_ite, List.length_cons, List.length_nil, List.length_singleton, List.map_cons, List.map_nil, List.cons_append, List.nil_append, List.replicate_succ, List.replicate_zero, List.getElem?_cons_zero, List.getElem?_cons_succ, List.set_cons_zero, List.set_cons_succ, Nat.reduceAdd, Nat.reduceSub, Nat.reduceEqDiff, ite_true, ite_false, if_true, if_false, reduceIte, Bool.false_eq_true, decide_true, decide_false, String.reduceEq, Int.reduceEq, Nat.reduceLeDiff, true_and, and_true, Bool.not_true, Bool.not_false, decide_eq_true_eq, List.append_nil, bType, bIsi, bLen, bInt, ty_int, ty_bl, ty_str, ty_non, ty_tup, isT, oIs, oIsNot, oSub, oAdd, oIx, run_eqI, run_neI, Bool.or_false, Bool.or_true, Bool.false_or, Bool.true_or, Bool.and_true, Bool.and_false, Bool.true_and, Bool.false_and, reduceCtorEq, decide_not, Bool.not_eq_true', decide_eq_false_iff_not, askInt, askBool, askTuple, askList, askStr, oLe, oLt, oGe, oGt, oInt2, atI0, atI1, atI2]
      refine Run.mono (l_sip hc (by decide) (by decide) (by omega)) fun r S1 ⟨⟨i, e, g0, g1⟩, cs1⟩ => ?_
      subst e
      simp only [run_ok, run_okI, run_okB, run_alloc, run_stuck, run_bind, run_ite, run_noX, run_fnOf, w_c, w_op, w_un, w_call, w_callK, w_nil, w_cons, w_tup, w_lst, isB_bl, w_tval, w_tand, w_tor, w_tnot, w_and, w_or, w_not, w_if, s_next, s_seq, s_if, s_ret, s_drop, s_set, s_par, s_put, s_asg, w_var', runS_next, runS_ret, runS_stuck, runS_ite, List.length_cons, List.length_nil, List.length_singleton, List.map_cons, List.map_nil, List.cons_append, List.nil_append, List.replicate_succ, List.replicate_zero, List.getElem?_cons_zero, List.getElem?_cons_succ, List.set_cons_zero, List.set_cons_succ, Nat.reduceAdd, Nat.reduceSub, Nat.reduceEqDiff, ite_true, ite_false, if_true, if_false, reduceIte, Bool.false_eq_true, decide_true, decide_false, String.reduceEq, Int.reduceEq, Nat.reduceLeDiff, true_and, and_true, Bool.not_true, Bool.not_false, decide_eq_true_eq, List.append_nil, bType, bIsi, bLen, bInt, ty_int, ty_bl, ty_str, ty_non, ty_tup, isT, oIs, oIsNot, oSub, oAdd, oIx, run_eqI, run_neI, Bool.or_false, Bool.or_true, Bool.false_or, Bool.true_or, Bool.and_true, Bool.and_false, Bool.true_and, Bool.false_and, reduceCtorEq, decide_not, Bool.not_eq_true', decide_eq_false_iff_not, askInt, askBool, askTuple, askList, askStr, oLe, oLt, oGe, oGt, oInt2, atI0, atI1, atI2]
      by_cases hi : i = 0
      · rw [if_pos hi]; exact hb S1 cs1
      · rw [if_neg hi, hk1]
        refine Run.mono (l_share k n c S1 cs1.1 (by omega) (by omega)) fun l S2 ⟨hl, cs2⟩ => ?_
        refine Run.mono (l_share k n c S2 cs2.1 (by omega) (by omega)) fun r S3 ⟨hr, cs3⟩ => ?_
        have cs := (cs1.trans cs2).trans cs3
        simp only [hl.run_eq hr (by omega) (by omega), run_in01 hl (by omega), run_ok, run_okI, run_okB, run_alloc, run_stuck, run_bind, run_ite, run_noX, run_fnOf, w_c, w_op, w_un, w_call, w_callK, w_nil, w_cons, w_tup, w_lst, isB_bl, w_tval, w_tand, w_tor, w_tnot, w_and, w_or, w_not, w_if, s_next, s_seq, s_if, s_ret, s_drop, s_set, s_par, s_put, s_asg, w_var', runS_next, runS_ret, runS_stuck, runS_ite, List.length_cons, List.length_nil, List.length_singleton, List.map_cons, List.map_nil, List.cons_append, List.nil_append, List.replicate_succ, List.replicate_zero, List.getElem?_cons_zero, List.getElem?_cons_succ, List.set_cons_zero, List.set_cons_succ, Nat.reduceAdd, Nat.reduceSub, Nat.reduceEqDiff, ite_true, ite_false, if_true, if_false, reduceIte, Bool.false_eq_true, decide_true, decide_false, String.reduceEq, Int.reduceEq, Nat.reduceLeDiff, true_and, and_true, Bool.not_true, Bool.not_false, decide_eq_true_eq, List.append_nil, bType, bIsi, bLen, bInt, ty_int, ty_bl, ty_str, ty_non, ty_tup, isT, oIs, oIsNot, oSub, oAdd, oIx, run_eqI, run_neI, Bool.or_false, Bool.or_true, Bool.false_or, Bool.true_or, Bool.and_true, Bool.and_false, Bool.true_and, Bool.false_and, reduceCtorEq, decide_not, Bool.not_eq_true', decide_eq_false_iff_not, askInt, askBool, askTuple, askList, askStr, oLe, oLt, oGe, oGt, oInt2, atI0, atI1, atI2]
        have done : Tw (k + 1) (Lsh (k + 1)) (.tup [l, r]) := .two hl hr (Nat.le_refl _)
        have num : ∀ j : Int, j = 0 ∨ j = 1 → l = .int j → Tw (k + 1) (Lsh (k + 1)) (.tup [l, .int (1 - j)]) := fun j hj e =>
          .two hl (.num (d := k) (L := Lsh k) (by omega) (by omega) (Lsh_ge k)) (Nat.le_refl _)
        split
        · split
          · rename_i ho
            rcases Bool.or_eq_true _ _ |>.mp ho with hj | hj
            · have e := isI_of hj
              subst e
              exact ⟨num 0 (.inl rfl) rfl, cs⟩
            · have e := isI_of hj
              subst e
              exact ⟨num 1 (.inr rfl) rfl, cs⟩
          · exact ⟨done, cs⟩
        · exact ⟨done, cs⟩
/-! ### counts -/
inductive T3 : Nat → Nat → Val → Prop
  | int {d L : Nat} {i : Int} : i.natAbs < 10 ^ 100 → 101 ≤ L → T3 d L (.int i)
  | three {d M K N : Nat} {i : Int} {b e : Val} : i.natAbs < 10 ^ 100 → T3 d M b → T3 d K e → 101 + M + K + 9 ≤ N → T3 (d + 1) N (.tup [.int i, b, e])
theorem T3.ge {d L : Nat} {v : Val} (h : T3 d L v) : 101 ≤ L := by
  cases h <;> omega
theorem T3.tw {d L : Nat} {v : Val} (h : T3 d L v) : Tw d L v := by
  induction h with
  | int h hL => exact .int h hL
  | three hi _ _ hN ihb ihe => exact .three (.int hi (Nat.le_refl _)) ihb ihe hN
def Lco : Nat → Nat
  | 0 => 101
  | k + 1 => 101 + Lco k + Lco k + 9
theorem Lco_ge : ∀ k, 101 ≤ Lco k
  | 0 => Nat.le_refl _
  | k + 1 => by show 101 ≤ 101 + Lco k + Lco k + 9; omega
def Small (v : Val) : Prop := ∃ i : Int, v = .int i ∧ 0 ≤ i ∧ i < 10 ^ 99
theorem small_num {i : Int} (h : 0 ≤ i) (h' : i < 1000000) : Small (.int i) := ⟨i, rfl, h, Int.lt_of_lt_of_le h' (by decide)⟩
theorem Small.bound {v : Val} (h : Small v) : ∃ i : Int, v = .int i ∧ i.natAbs < 10 ^ 100 := by
  obtain ⟨i, e, h0, h1⟩ := h
  refine ⟨i, e, ?_⟩
  have : (i.natAbs : Int) < ((10 ^ 100 : Nat) : Int) := by
    rw [Int.natAbs_of_nonneg h0]
    exact Int.lt_of_lt_of_le h1 (by decide)
  exact Int.ofNat_lt.mp this
theorem run_addI {a b : Int} {S : Store} {Q : Val → Store → Prop} : Run (oAdd (.int a) (.int b) S) Q = Q (.int (a + b)) S := rfl
theorem run_subI {a b : Int} {S : Store} {Q : Val → Store → Prop} : Run (oSub (.int a) (.int b) S) Q = Q (.int (a - b)) S := rfl
theorem run_pick {m : Nat} {xs : List Val} {S : Store} {i : Int} (P : Val → Prop) (h : S[m]? = some (.lst xs)) (h0 : 0 ≤ i) (h1 : i < xs.length) (hP : ∀ x ∈ xs, P x) : Run (oIx (.ref m) (.int i) S) (fun r S' => P r ∧ S' = S) := by
  rw [run_ixR h]
  obtain ⟨j, rfl⟩ : ∃ j : Nat, i = (j : Int) := ⟨i.toNat, by omega⟩
  have hj : j < xs.length := by omega
  have e : xs[j]? = some xs[j] := List.getElem?_eq_getElem hj
  rw [atI_nat e]
  exact ⟨hP _ (List.getElem_mem hj), rfl⟩
theorem Cs.off {c : Nat} {S S' : Store} {d : Cell} (h : Cs c (S ++ [d]) S') (hc : CupAt c S) : S'[S.length]? = some d ∧ Cs c S S' := by
  obtain ⟨a, b, e, _⟩ := hc
  have hlt : c < S.length := (List.getElem?_eq_some_iff.mp e).1
  exact ⟨h.2 _ _ (by omega) (get_new _ _), h.1, fun n d' hn q => h.2 n d' hn ((Gr.add S [d]).get q)⟩
theorem CupAt.add {c : Nat} {S : Store} {d : Cell} (h : CupAt c S) : CupAt c (S ++ [d]) := h.kp (Gr.add _ _).kp
/-- one of a new list's values, by a draw -/
theorem l_draw {c n m : Nat} {xs : List Val} {S : Store} {k : Nat} (hc : CupAt c S) (hm : m = S.length) (hk : xs.length = k) (h0 : 0 < k) (h1 : k ≤ 1000) (hn : 0 < n) (P : Val → Prop) (hP : ∀ x ∈ xs, P x) :
    Run ((fns n)._law_sip [.ref c, .int k] (S ++ [.lst xs])) (fun y S2 => Run (oIx (.ref m) y S2) fun r S3 => P r ∧ Cs c S S3) := by
  subst hm
  refine Run.mono (l_sip hc.add (by omega) (by omega) hn) fun r S2 ⟨⟨i, e, g0, g1⟩, cs⟩ => ?_
  subst e
  obtain ⟨o1, o2⟩ := cs.off hc
  refine Run.mono (run_pick P o1 g0 (by omega) hP) fun r S3 ⟨hr, e⟩ => ?_
  subst e
  exact ⟨hr, o2⟩
theorem RunS.mono {r : SRes} {N N' : PD.Env → Store → Prop} {R R' : Val → Store → Prop} (h : RunS r N R) (q : ∀ ρ S, N ρ S → N' ρ S) (p : ∀ v S, R v S → R' v S) : RunS r N' R' := by
  cases r with
  | next ρ S => exact q ρ S h
  | ret v S => exact p v S h
  | _ => exact h
theorem s_step {b d : SD} {ρ : PD.Env} {S : Store} {N N' : PD.Env → Store → Prop} {R : Val → Store → Prop} (h : RunS (b ρ S) N' R) (q : ∀ ρ' S', N' ρ' S' → RunS (d ρ' S') N R) : RunS (sSeq b d ρ S) N R := by
  rw [s_seq]; exact RunS.mono h q fun _ _ h => h
theorem run_fn {n m : Nat} {b : SD} {xs : List Val} {ρ : PD.Env} {S : Store} {Q : Val → Store → Prop} (h : xs.length = n) (e : xs.map some ++ List.replicate (m - n) none = ρ) (q : RunS (b ρ S) (fun _ S' => Q .non S') Q) : Run (fnOf n m b xs S) Q := by
  subst e
  rw [run_fnOf, if_pos h]; exact q
theorem ix1 {a b : Val} {xs : List Val} {S : Store} {Q : Val → Store → Prop} : Run (oIx (.tup (a :: b :: xs)) (.int 1) S) Q = Q b S := by
  unfold oIx
  simp only [atI1]; rfl
theorem ix2 {a b e : Val} {xs : List Val} {S : Store} {Q : Val → Store → Prop} : Run (oIx (.tup (a :: b :: e :: xs)) (.int 2) S) Q = Q e S := by
  unfold oIx
  simp only [atI2]; rfl
def Num88 (v : Val) : Prop := ∃ i : Int, v = .int i ∧ 0 ≤ i ∧ i ≤ 10 ^ 88 + 1000
theorem num88 {i : Int} (h : 0 ≤ i) (h' : i < 1000) : Num88 (.int i) := ⟨i, rfl, h, Int.le_trans (show i ≤ 1000 by omega) (by decide +kernel)⟩
theorem Num88.bound {v : Val} (h : Num88 v) : ∃ i : Int, v = .int i ∧ i.natAbs < 10 ^ 100 := by
  obtain ⟨i, e, h0, h1⟩ := h
  refine ⟨i, e, ?_⟩
  have : (i.natAbs : Int) < ((10 ^ 100 : Nat) : Int) := by
    rw [Int.natAbs_of_nonneg h0]
    exact Int.lt_of_le_of_lt h1 (by decide +kernel)
  exact Int.ofNat_lt.mp this
theorem big88 {i j : Int} (h0 : 0 ≤ i) (h1 : i ≤ 10 ^ 88) (g0 : 0 ≤ j) (g1 : j < 9) : Num88 (.int (i + j)) := ⟨_, rfl, by omega, Int.add_le_add h1 (by omega)⟩
theorem k_20 : (0 : Int) ≤ 10 ^ 20 ∧ (10 : Int) ^ 20 ≤ 10 ^ 88 := by decide +kernel
theorem k_88 : (0 : Int) ≤ 10 ^ 88 := by decide +kernel
def CoI (c k : Nat) (d L : Nat) (S0 : Store) (ρ : PD.Env) (S : Store) : Prop := ∃ b num x y : Val, ρ = [some (.ref c), some (.int k), some b, some num, some x, some y] ∧ Num88 num ∧ T3 d L x ∧ T3 d L y ∧ Cs c S0 S
theorem l_counts : ∀ (k n c : Nat) (S : Store), CupAt c S → k + 1 < n → k < 50 → Run ((fns n)._law_counts [.ref c, .int k] S) (fun r S' => T3 k (Lco k) r ∧ Cs c S S')
  | k, 0, c, S, _, h, _ => absurd h (Nat.not_lt_zero _)
  | k, n + 1, c, S, hc, h, hk => by
    show Run (fnOf 2 6 (b__law_counts (fns n)) [.ref c, .int k] S) _
    unfold b__law_counts
    have hp : ∀ {S : Store} {Q : Val → Store → Prop} (m : Int), 0 ≤ m → m ≤ 100 → Run (oPow (.int 10) (.int m) S) Q = Q (.int (10 ^ m.toNat)) S := fun {S Q} m h0 h1 => by
      show Run (if (0 : Int) ≤ m ∧ m ≤ 1000000 ∧ (10 : Int).natAbs < 2 ^ 64 then okI ((10 : Int) ^ m.toNat) S else .stuck) Q = _
      rw [if_pos ⟨h0, by omega, by decide⟩]; rfl
    have hm : ∀ {S : Store} {Q : Val → Store → Prop}, Run (oMul (.int (10 ^ (60 : Int).toNat)) (.int (10 ^ (28 : Int).toNat)) S) Q = Q (.int (10 ^ 88)) S := fun {S Q} => by
      show Run (if ((10 : Int) ^ (60 : Int).toNat).natAbs.log2 + ((10 : Int) ^ (28 : Int).toNat).natAbs.log2 < 1000000 then okI ((10 : Int) ^ (60 : Int).toNat * (10 : Int) ^ (28 : Int).toNat) S else .stuck) Q = _
      rw [if_pos (by decide +kernel)]
      show Q (.int ((10 : Int) ^ 60 * (10 : Int) ^ 28)) S = _
      rw [← Int.pow_add]
    refine run_fn rfl rfl ?_
    -- the big number
    refine s_step (N' := fun ρ S' => (∃ b, Num88 b ∧ ρ = [some (.ref c), some (.int k), some b, none, none, none]) ∧ Cs c S S') ?_ ?_
    · simp only [hp 20 (by decide) (by decide), hp 60 (by decide) (by decide), hp 28 (by decide) (by decide), hm, run_ok, run_okI, run_okB, run_alloc, run_stuck, run_bind, run_ite, run_noX, run_fnOf, w_c, w_op, w_un, w_call, w_callK, w_nil, w_cons, w_tup, w_lst, isB_bl, w_tval, w_tand, w_tor, w_tnot, w_and, w_or, w_not, w_if, s_next, s_seq, s_if, s_ret, s_drop, s_set, s_par, s_put, s_asg, w_var', runS_next, runS_ret, runS_stuck, runS_ite, List.length_cons, List.length_nil, List.length_singleton, List.map_cons, List.map_nil, List.cons_append, List.nil_append, List.replicate_succ, List.replicate_zero, List.getElem?_cons_zero, List.getElem?_cons_succ, List.set_cons_zero, List.set_cons_succ, Nat.reduceAdd, Nat.reduceSub, Nat.reduceEqDiff, ite_true, ite_false, if_true, if_false, reduceIte, Bool.false_eq_true, decide_true, decide_false, String.reduceEq, Int.reduceEq, Nat.reduceLeDiff, true_and, and_true, Bool.not_true, Bool.not_false, decide_eq_true_eq, List.append_nil, bType, bIsi, bLen, bInt, ty_int, ty_bl, ty_str, ty_non, ty_tup, isT, oIs, oIsNot, run_eqI, run_neI, Bool.or_false, Bool.or_true, Bool.false_or, Bool.true_or, Bool.and_true, Bool.and_false, Bool.true_and, Bool.false_and, reduceCtorEq, decide_not, Bool.not_eq_true', decide_eq_false_iff_not, askInt, askBool, askTuple, askList, askStr, oLe, oLt, oGe, oGt, oInt2, atI0, atI1, atI2, run_addI, run_subI]
      refine Run.mono (l_draw (k := 2) (P := fun x => ∃ i : Int, x = .int i ∧ 0 ≤ i ∧ i ≤ 10 ^ 88) hc rfl rfl (by decide) (by decide) (by omega) ?_) fun x S1 hx => Run.mono hx fun x S2 hx => ?_
      · intro x hx
        rcases List.mem_cons.mp hx with rfl | hx
        · exact ⟨_, rfl, k_20.1, k_20.2⟩
        · rw [List.mem_singleton.mp hx]; exact ⟨_, rfl, k_88, Int.le_refl _⟩
      · obtain ⟨⟨i, e, h0, h1⟩, cs⟩ := hx
        subst e
        refine Run.mono (l_sip cs.1 (by decide) (by decide) (by omega)) fun y S3 ⟨⟨j, e, g0, g1⟩, cs2⟩ => ?_
        subst e
        rw [run_addI]
        exact ⟨⟨_, big88 h0 h1 g0 g1, rfl⟩, cs.trans cs2⟩
    -- the number
    rintro ρ S1 ⟨⟨b, hb, rfl⟩, cs1⟩
    refine s_step (N' := fun ρ S' => (∃ num, Num88 num ∧ ρ = [some (.ref c), some (.int k), some b, some num, none, none]) ∧ Cs c S S') ?_ ?_
    · simp only [run_ok, run_okI, run_okB, run_alloc, run_stuck, run_bind, run_ite, run_noX, run_fnOf, w_c, w_op, w_un, w_call, w_callK, w_nil, w_cons, w_tup, w_lst, isB_bl, w_tval, w_tand, w_tor, w_tnot, w_and, w_or, w_not, w_if, s_next, s_seq, s_if, s_ret, s_drop, s_set, s_par, s_put, s_asg, w_var', runS_next, runS_ret, runS_stuck, runS_ite, List.length_cons, List.length_nil, List.length_singleton, List.map_cons, List.map_nil, List.cons_append, List.nil_append, List.replicate_succ, List.replicate_zero, List.getElem?_cons_zero, List.getElem?_cons_succ, List.set_cons_zero, List.set_cons_succ, Nat.reduceAdd, Nat.reduceSub, Nat.reduceEqDiff, ite_true, ite_false, if_true, if_false, reduceIte, Bool.false_eq_true, decide_true, decide_false, String.reduceEq, Int.reduceEq, Nat.reduceLeDiff, true_and, and_true, Bool.not_true, Bool.not_false, decide_eq_true_eq, List.append_nil, bType, bIsi, bLen, bInt, ty_int, ty_bl, ty_str, ty_non, ty_tup, isT, oIs, oIsNot, run_eqI, run_neI, Bool.or_false, Bool.or_true, Bool.false_or, Bool.true_or, Bool.and_true, Bool.and_false, Bool.true_and, Bool.false_and, reduceCtorEq, decide_not, Bool.not_eq_true', decide_eq_false_iff_not, askInt, askBool, askTuple, askList, askStr, oLe, oLt, oGe, oGt, oInt2, atI0, atI1, atI2, run_addI, run_subI]
      refine Run.mono (l_sip cs1.1 (by decide) (by decide) (by omega)) fun x1 S2 ⟨⟨i1, e, h10, h11⟩, cs2⟩ => ?_
      subst e
      refine Run.mono (l_sip cs2.1 (by decide) (by decide) (by omega)) fun x1 S3 ⟨⟨i2, e, h20, h21⟩, cs3⟩ => ?_
      subst e
      refine Run.mono (l_sip cs3.1 (by decide) (by decide) (by omega)) fun x1 S4 ⟨⟨i3, e, h30, h31⟩, cs4⟩ => ?_
      subst e
      refine Run.mono (l_draw (k := 4) (P := Num88) cs4.1 rfl rfl (by decide) (by decide) (by omega) ?_) fun x S1 hx => Run.mono hx fun x S5 hx => ?_
      · intro x hx
        rcases List.mem_cons.mp hx with rfl | hx
        · exact num88 h10 (by omega)
        rcases List.mem_cons.mp hx with rfl | hx
        · exact num88 h20 (by omega)
        rcases List.mem_cons.mp hx with rfl | hx
        · exact num88 h30 (by omega)
        rw [List.mem_singleton.mp hx]; exact hb
      · exact ⟨⟨_, hx.1, rfl⟩, ((((cs1.trans cs2).trans cs3).trans cs4).trans hx.2)⟩
    rintro ρ S2 ⟨⟨num, hnum, rfl⟩, cs2⟩
    obtain ⟨ni, rfl, hni⟩ := hnum.bound
    have leaf : T3 k (Lco k) (.int ni) := .int hni (Lco_ge k)
    -- a leaf?
    refine s_step (N' := fun ρ S' => (∃ j, k = j + 1) ∧ ρ = [some (.ref c), some (.int k), some b, some (.int ni), none, none] ∧ Cs c S S') ?_ ?_
    · by_cases h0 : (k : Int) = 0
      · simp only [h0, run_ok, run_okI, run_okB, run_alloc, run_stuck, run_bind, run_ite, run_noX, run_fnOf, w_c, w_op, w_un, w_call, w_callK, w_nil, w_cons, w_tup, w_lst, isB_bl, w_tval, w_tand, w_tor, w_tnot, w_and, w_or, w_not, w_if, s_next, s_seq, s_if, s_ret, s_drop, s_set, s_par, s_put, s_asg, w_var', runS_next, runS_ret, runS_stuck, runS_ite, List.length_cons, List.length_nil, List.length_singleton, List.map_cons, List.map_nil, List.cons_append, List.nil_append, List.replicate_succ, List.replicate_zero, List.getElem?_cons_zero, List.getElem?_cons_succ, List.set_cons_zero, List.set_cons_succ, Nat.reduceAdd, Nat.reduceSub, Nat.reduceEqDiff, ite_true, ite_false, if_true, if_false, reduceIte, Bool.false_eq_true, decide_true, decide_false, String.reduceEq, Int.reduceEq, Nat.reduceLeDiff, true_and, and_true, Bool.not_true, Bool.not_false, decide_eq_true_eq, List.append_nil, bType, bIsi, bLen, bInt, ty_int, ty_bl, ty_str, ty_non, ty_tup, isT, oIs, oIsNot, run_eqI, run_neI, Bool.or_false, Bool.or_true, Bool.false_or, Bool.true_or, Bool.and_true, Bool.and_false, Bool.true_and, Bool.false_and, reduceCtorEq, decide_not, Bool.not_eq_true', decide_eq_false_iff_not, askInt, askBool, askTuple, askList, askStr, oLe, oLt, oGe, oGt, oInt2, atI0, atI1, atI2, run_addI, run_subI]
        exact ⟨leaf, cs2⟩
      · simp only [h0, run_ok, run_okI, run_okB, run_alloc, run_stuck, run_bind, run_ite, run_noX, run_fnOf, w_c, w_op, w_un, w_call, w_callK, w_nil, w_cons, w_tup, w_lst, isB_bl, w_tval, w_tand, w_tor, w_tnot, w_and, w_or, w_not, w_if, s_next, s_seq, s_if, s_ret, s_drop, s_set, s_par, s_put, s_asg, w_var', runS_next, runS_ret, runS_stuck, runS_ite, List.length_cons, List.length_nil, List.length_singleton, List.map_cons, List.map_nil, List.cons_append, List.nil_append, List.replicate_succ, List.replicate_zero, List.getElem?_cons_zero, List.getElem?_cons_succ, List.set_cons_zero, List.set_cons_succ, Nat.reduceAdd, Nat.reduceSub, Nat.reduceEqDiff, ite_true, ite_false, if_true, if_false, reduceIte, Bool.false_eq_true, decide_true, decide_false, String.reduceEq, Int.reduceEq, Nat.reduceLeDiff, true_and, and_true, Bool.not_true, Bool.not_false, decide_eq_true_eq, List.append_nil, bType, bIsi, bLen, bInt, ty_int, ty_bl, ty_str, ty_non, ty_tup, isT, oIs, oIsNot, run_eqI, run_neI, Bool.or_false, Bool.or_true, Bool.false_or, Bool.true_or, Bool.and_true, Bool.and_false, Bool.true_and, Bool.false_and, reduceCtorEq, decide_not, Bool.not_eq_true', decide_eq_false_iff_not, askInt, askBool, askTuple, askList, askStr, oLe, oLt, oGe, oGt, oInt2, atI0, atI1, atI2, run_addI, run_subI]
        refine Run.mono (l_sip cs2.1 (by decide) (by decide) (by omega)) fun x1 S3 ⟨⟨i1, e, h10, h11⟩, cs3⟩ => ?_
        subst e
        simp only [run_ok, run_okI, run_okB, run_alloc, run_stuck, run_bind, run_ite, run_noX, run_fnOf, w_c, w_op, w_un, w_call, w_callK, w_nil, w_cons, w_tup, w_lst, isB_bl, w_tval, w_tand, w_tor, w_tnot, w_and, w_or, w_not, w_if, s_next, s_seq, s_if, s_ret, s_drop, s_set, s_par, s_put, s_asg, w_var', runS_next, runS_ret, runS_stuck, runS_ite, List.length_cons, List.length_nil, List.length_singleton, List.map_cons, List.map_nil, List.cons_append, List.nil_append, List.replicate_succ, List.replicate_zero, List.getElem?_cons_zero, List.getElem?_cons_succ, List.set_cons_zero, List.set_cons_succ, Nat.reduceAdd, Nat.reduceSub, Nat.reduceEqDiff, ite_true, ite_false, if_true, if_false, reduceIte, Bool.false_eq_true, decide_true, decide_false, String.reduceEq, Int.reduceEq, Nat.reduceLeDiff, true_and, and_true, Bool.not_true, Bool.not_false, decide_eq_true_eq, List.append_nil, bType, bIsi, bLen, bInt, ty_int, ty_bl, ty_str, ty_non, ty_tup, isT, oIs, oIsNot, run_eqI, run_neI, Bool.or_false, Bool.or_true, Bool.false_or, Bool.true_or, Bool.and_true, Bool.and_false, Bool.true_and, Bool.false_and, reduceCtorEq, decide_not, Bool.not_eq_true', decide_eq_false_iff_not, askInt, askBool, askTuple, askList, askStr, oLe, oLt, oGe, oGt, oInt2, atI0, atI1, atI2, run_addI, run_subI]
        split
        · exact ⟨leaf, cs2.trans cs3⟩
        · exact ⟨⟨k - 1, by omega⟩, cs2.trans cs3⟩
    rintro ρ S3 ⟨⟨k, rfl⟩, rfl, cs3⟩
    have hk1 : ((k + 1 : Nat) : Int) - 1 = (k : Int) := by omega
    -- the children
    refine s_step (N' := CoI c (k + 1) k (Lco k) S) ?_ ?_
    · simp only [hk1, run_ok, run_okI, run_okB, run_alloc, run_stuck, run_bind, run_ite, run_noX, run_fnOf, w_c, w_op, w_un, w_call, w_callK, w_nil, w_cons, w_tup, w_lst, isB_bl, w_tval, w_tand, w_tor, w_tnot, w_and, w_or, w_not, w_if, s_next, s_seq, s_if, s_ret, s_drop, s_set, s_par, s_put, s_asg, w_var', runS_next, runS_ret, runS_stuck, runS_ite, List.length_cons, List.length_nil, List.length_singleton, List.map_cons, List.map_nil, List.cons_append, List.nil_append, List.replicate_succ, List.replicate_zero, List.getElem?_cons_zero, List.getElem?_cons_succ, List.set_cons_zero, List.set_cons_succ, Nat.reduceAdd, Nat.reduceSub, Nat.reduceEqDiff, ite_true, ite_false, if_true, if_false, reduceIte, Bool.false_eq_true, decide_true, decide_false, String.reduceEq, Int.reduceEq, Nat.reduceLeDiff, true_and, and_true, Bool.not_true, Bool.not_false, decide_eq_true_eq, List.append_nil, bType, bIsi, bLen, bInt, ty_int, ty_bl, ty_str, ty_non, ty_tup, isT, oIs, oIsNot, run_eqI, run_neI, Bool.or_false, Bool.or_true, Bool.false_or, Bool.true_or, Bool.and_true, Bool.and_false, Bool.true_and, Bool.false_and, reduceCtorEq, decide_not, Bool.not_eq_true', decide_eq_false_iff_not, askInt, askBool, askTuple, askList, askStr, oLe, oLt, oGe, oGt, oInt2, atI0, atI1, atI2, run_addI, run_subI]
      refine Run.mono (l_counts k n c S3 cs3.1 (by omega) (by omega)) fun x S4 ⟨hx, cs4⟩ => ?_
      refine Run.mono (l_counts k n c S4 cs4.1 (by omega) (by omega)) fun y S5 ⟨hy, cs5⟩ => ?_
      exact ⟨_, _, _, _, rfl, hnum, hx, hy, (cs3.trans cs4).trans cs5⟩
    clear cs3 cs2 cs1 hnum leaf hni hb
    have swap : ∀ ρ S1, CoI c (k + 1) k (Lco k) S ρ S1 → RunS (sIf (tVal (dOp oEq (dCall (fns n)._law_sip (aCons (dVar 0) (aCons (dC (.int 2)) aNil))) (dC (.int 0)))) (sPar 4 5 (aCons (dVar 5) (aCons (dVar 4) aNil))) sNext ρ S1) (CoI c (k + 1) k (Lco k) S) (fun r S' => T3 (k + 1) (Lco (k + 1)) r ∧ Cs c S S') := by
      rintro ρ S1 ⟨b, num, x, y, rfl, hnum, hx, hy, cs⟩
      simp only [run_ok, run_okI, run_okB, run_alloc, run_stuck, run_bind, run_ite, run_noX, run_fnOf, w_c, w_op, w_un, w_call, w_callK, w_nil, w_cons, w_tup, w_lst, isB_bl, w_tval, w_tand, w_tor, w_tnot, w_and, w_or, w_not, w_if, s_next, s_seq, s_if, s_ret, s_drop, s_set, s_par, s_put, s_asg, w_var', runS_next, runS_ret, runS_stuck, runS_ite, List.length_cons, List.length_nil, List.length_singleton, List.map_cons, List.map_nil, List.cons_append, List.nil_append, List.replicate_succ, List.replicate_zero, List.getElem?_cons_zero, List.getElem?_cons_succ, List.set_cons_zero, List.set_cons_succ, Nat.reduceAdd, Nat.reduceSub, Nat.reduceEqDiff, ite_true, ite_false, if_true, if_false, reduceIte, Bool.false_eq_true, decide_true, decide_false, String.reduceEq, Int.reduceEq, Nat.reduceLeDiff, true_and, and_true, Bool.not_true, Bool.not_false, decide_eq_true_eq, List.append_nil, bType, bIsi, bLen, bInt, ty_int, ty_bl, ty_str, ty_non, ty_tup, isT, oIs, oIsNot, run_eqI, run_neI, Bool.or_false, Bool.or_true, Bool.false_or, Bool.true_or, Bool.and_true, Bool.and_false, Bool.true_and, Bool.false_and, reduceCtorEq, decide_not, Bool.not_eq_true', decide_eq_false_iff_not, askInt, askBool, askTuple, askList, askStr, oLe, oLt, oGe, oGt, oInt2, atI0, atI1, atI2, run_addI, run_subI]
      refine Run.mono (l_sip cs.1 (by decide) (by decide) (by omega)) fun x1 S3 ⟨⟨i1, e, h10, h11⟩, cs3⟩ => ?_
      subst e
      simp only [run_ok, run_okI, run_okB, run_alloc, run_stuck, run_bind, run_ite, run_noX, run_fnOf, w_c, w_op, w_un, w_call, w_callK, w_nil, w_cons, w_tup, w_lst, isB_bl, w_tval, w_tand, w_tor, w_tnot, w_and, w_or, w_not, w_if, s_next, s_seq, s_if, s_ret, s_drop, s_set, s_par, s_put, s_asg, w_var', runS_next, runS_ret, runS_stuck, runS_ite, List.length_cons, List.length_nil, List.length_singleton, List.map_cons, List.map_nil, List.cons_append, List.nil_append, List.replicate_succ, List.replicate_zero, List.getElem?_cons_zero, List.getElem?_cons_succ, List.set_cons_zero, List.set_cons_succ, Nat.reduceAdd, Nat.reduceSub, Nat.reduceEqDiff, ite_true, ite_false, if_true, if_false, reduceIte, Bool.false_eq_true, decide_true, decide_false, String.reduceEq, Int.reduceEq, Nat.reduceLeDiff, true_and, and_true, Bool.not_true, Bool.not_false, decide_eq_true_eq, List.append_nil, bType, bIsi, bLen, bInt, ty_int, ty_bl, ty_str, ty_non, ty_tup, isT, oIs, oIsNot, run_eqI, run_neI, Bool.or_false, Bool.or_true, Bool.false_or, Bool.true_or, Bool.and_true, Bool.and_false, Bool.true_and, Bool.false_and, reduceCtorEq, decide_not, Bool.not_eq_true', decide_eq_false_iff_not, askInt, askBool, askTuple, askList, askStr, oLe, oLt, oGe, oGt, oInt2, atI0, atI1, atI2, run_addI, run_subI]
      split
      · exact ⟨_, _, _, _, rfl, hnum, hy, hx, cs.trans cs3⟩
      · exact ⟨_, _, _, _, rfl, hnum, hx, hy, cs.trans cs3⟩
    intro ρ S1 h1
    refine s_step (swap ρ S1 h1) ?_
    clear h1 ρ S1
    -- the left at 0
    rintro ρ S1 ⟨b, num, x, y, rfl, hnum, hx, hy, cs⟩
    refine s_step (N' := CoI c (k + 1) k (Lco k) S) ?_ ?_
    · cases hx with
      | int hi hL =>
        simp only [run_ok, run_okI, run_okB, run_alloc, run_stuck, run_bind, run_ite, run_noX, run_fnOf, w_c, w_op, w_un, w_call, w_callK, w_nil, w_cons, w_tup, w_lst, isB_bl, w_tval, w_tand, w_tor, w_tnot, w_and, w_or, w_not, w_if, s_next, s_seq, s_if, s_ret, s_drop, s_set, s_par, s_put, s_asg, w_var', runS_next, runS_ret, runS_stuck, runS_ite, List.length_cons, List.length_nil, List.length_singleton, List.map_cons, List.map_nil, List.cons_append, List.nil_append, List.replicate_succ, List.replicate_zero, List.getElem?_cons_zero, List.getElem?_cons_succ, List.set_cons_zero, List.set_cons_succ, Nat.reduceAdd, Nat.reduceSub, Nat.reduceEqDiff, ite_true, ite_false, if_true, if_false, reduceIte, Bool.false_eq_true, decide_true, decide_false, String.reduceEq, Int.reduceEq, Nat.reduceLeDiff, true_and, and_true, Bool.not_true, Bool.not_false, decide_eq_true_eq, List.append_nil, bType, bIsi, bLen, bInt, ty_int, ty_bl, ty_str, ty_non, ty_tup, isT, oIs, oIsNot, run_eqI, run_neI, Bool.or_false, Bool.or_true, Bool.false_or, Bool.true_or, Bool.and_true, Bool.and_false, Bool.true_and, Bool.false_and, reduceCtorEq, decide_not, Bool.not_eq_true', decide_eq_false_iff_not, askInt, askBool, askTuple, askList, askStr, oLe, oLt, oGe, oGt, oInt2, atI0, atI1, atI2, run_addI, run_subI]
        exact ⟨_, _, _, _, rfl, hnum, .int (by decide +kernel) (Lco_ge k), hy, cs⟩
      | three hi h2 h3 hN =>
        simp only [ix1, ix2, run_ok, run_okI, run_okB, run_alloc, run_stuck, run_bind, run_ite, run_noX, run_fnOf, w_c, w_op, w_un, w_call, w_callK, w_nil, w_cons, w_tup, w_lst, isB_bl, w_tval, w_tand, w_tor, w_tnot, w_and, w_or, w_not, w_if, s_next, s_seq, s_if, s_ret, s_drop, s_set, s_par, s_put, s_asg, w_var', runS_next, runS_ret, runS_stuck, runS_ite, List.length_cons, List.length_nil, List.length_singleton, List.map_cons, List.map_nil, List.cons_append, List.nil_append, List.replicate_succ, List.replicate_zero, List.getElem?_cons_zero, List.getElem?_cons_succ, List.set_cons_zero, List.set_cons_succ, Nat.reduceAdd, Nat.reduceSub, Nat.reduceEqDiff, ite_true, ite_false, if_true, if_false, reduceIte, Bool.false_eq_true, decide_true, decide_false, String.reduceEq, Int.reduceEq, Nat.reduceLeDiff, true_and, and_true, Bool.not_true, Bool.not_false, decide_eq_true_eq, List.append_nil, bType, bIsi, bLen, bInt, ty_int, ty_bl, ty_str, ty_non, ty_tup, isT, oIs, oIsNot, run_eqI, run_neI, Bool.or_false, Bool.or_true, Bool.false_or, Bool.true_or, Bool.and_true, Bool.and_false, Bool.true_and, Bool.false_and, reduceCtorEq, decide_not, Bool.not_eq_true', decide_eq_false_iff_not, askInt, askBool, askTuple, askList, askStr, oLe, oLt, oGe, oGt, oInt2, atI0, atI1, atI2, run_addI, run_subI]
        exact ⟨_, _, _, _, rfl, hnum, .three (by decide +kernel) h2 h3 hN, hy, cs⟩
    clear hnum hx hy cs
    -- the right off 0
    rintro ρ S1 ⟨b, num, x, y, rfl, hnum, hx, hy, cs⟩
    refine s_step (N' := CoI c (k + 1) k (Lco k) S) ?_ ?_
    · simp only [hy.tw.run_eqI (by omega : k < 65), run_ok, run_okI, run_okB, run_alloc, run_stuck, run_bind, run_ite, run_noX, run_fnOf, w_c, w_op, w_un, w_call, w_callK, w_nil, w_cons, w_tup, w_lst, isB_bl, w_tval, w_tand, w_tor, w_tnot, w_and, w_or, w_not, w_if, s_next, s_seq, s_if, s_ret, s_drop, s_set, s_par, s_put, s_asg, w_var', runS_next, runS_ret, runS_stuck, runS_ite, List.length_cons, List.length_nil, List.length_singleton, List.map_cons, List.map_nil, List.cons_append, List.nil_append, List.replicate_succ, List.replicate_zero, List.getElem?_cons_zero, List.getElem?_cons_succ, List.set_cons_zero, List.set_cons_succ, Nat.reduceAdd, Nat.reduceSub, Nat.reduceEqDiff, ite_true, ite_false, if_true, if_false, reduceIte, Bool.false_eq_true, decide_true, decide_false, String.reduceEq, Int.reduceEq, Nat.reduceLeDiff, true_and, and_true, Bool.not_true, Bool.not_false, decide_eq_true_eq, List.append_nil, bType, bIsi, bLen, bInt, ty_int, ty_bl, ty_str, ty_non, ty_tup, isT, oIs, oIsNot, run_eqI, run_neI, Bool.or_false, Bool.or_true, Bool.false_or, Bool.true_or, Bool.and_true, Bool.and_false, Bool.true_and, Bool.false_and, reduceCtorEq, decide_not, Bool.not_eq_true', decide_eq_false_iff_not, askInt, askBool, askTuple, askList, askStr, oLe, oLt, oGe, oGt, oInt2, atI0, atI1, atI2, run_addI, run_subI]
      split
      · refine Run.mono (l_sip cs.1 (by decide) (by decide) (by omega)) fun x1 S3 ⟨⟨i1, e, h10, h11⟩, cs3⟩ => ?_
        subst e
        simp only [run_ok, run_okI, run_okB, run_alloc, run_stuck, run_bind, run_ite, run_noX, run_fnOf, w_c, w_op, w_un, w_call, w_callK, w_nil, w_cons, w_tup, w_lst, isB_bl, w_tval, w_tand, w_tor, w_tnot, w_and, w_or, w_not, w_if, s_next, s_seq, s_if, s_ret, s_drop, s_set, s_par, s_put, s_asg, w_var', runS_next, runS_ret, runS_stuck, runS_ite, List.length_cons, List.length_nil, List.length_singleton, List.map_cons, List.map_nil, List.cons_append, List.nil_append, List.replicate_succ, List.replicate_zero, List.getElem?_cons_zero, List.getElem?_cons_succ, List.set_cons_zero, List.set_cons_succ, Nat.reduceAdd, Nat.reduceSub, Nat.reduceEqDiff, ite_true, ite_false, if_true, if_false, reduceIte, Bool.false_eq_true, decide_true, decide_false, String.reduceEq, Int.reduceEq, Nat.reduceLeDiff, true_and, and_true, Bool.not_true, Bool.not_false, decide_eq_true_eq, List.append_nil, bType, bIsi, bLen, bInt, ty_int, ty_bl, ty_str, ty_non, ty_tup, isT, oIs, oIsNot, run_eqI, run_neI, Bool.or_false, Bool.or_true, Bool.false_or, Bool.true_or, Bool.and_true, Bool.and_false, Bool.true_and, Bool.false_and, reduceCtorEq, decide_not, Bool.not_eq_true', decide_eq_false_iff_not, askInt, askBool, askTuple, askList, askStr, oLe, oLt, oGe, oGt, oInt2, atI0, atI1, atI2, run_addI, run_subI]
        refine ⟨_, _, _, _, rfl, hnum, hx, .int ?_ (Lco_ge k), cs.trans cs3⟩
        exact Nat.lt_of_lt_of_le (show (1 + i1).natAbs < 10 ^ 7 by omega) (Nat.pow_le_pow_right (by decide) (by decide))
      · exact ⟨_, _, _, _, rfl, hnum, hx, hy, cs⟩
    intro ρ S1 h1
    refine s_step (swap ρ S1 h1) ?_
    clear h1 ρ S1 hnum hx hy cs
    rintro ρ S1 ⟨b, num, x, y, rfl, hnum, hx, hy, cs⟩
    obtain ⟨ni, rfl, hni⟩ := hnum.bound
    simp only [run_ok, run_okI, run_okB, run_alloc, run_stuck, run_bind, run_ite, run_noX, run_fnOf, w_c, w_op, w_un, w_call, w_callK, w_nil, w_cons, w_tup, w_lst, isB_bl, w_tval, w_tand, w_tor, w_tnot, w_and, w_or, w_not, w_if, s_next, s_seq, s_if, s_ret, s_drop, s_set, s_par, s_put, s_asg, w_var', runS_next, runS_ret, runS_stuck, runS_ite, List.length_cons, List.length_nil, List.length_singleton, List.map_cons, List.map_nil, List.cons_append, List.nil_append, List.replicate_succ, List.replicate_zero, List.getElem?_cons_zero, List.getElem?_cons_succ, List.set_cons_zero, List.set_cons_succ, Nat.reduceAdd, Nat.reduceSub, Nat.reduceEqDiff, ite_true, ite_false, if_true, if_false, reduceIte, Bool.false_eq_true, decide_true, decide_false, String.reduceEq, Int.reduceEq, Nat.reduceLeDiff, true_and, and_true, Bool.not_true, Bool.not_false, decide_eq_true_eq, List.append_nil, bType, bIsi, bLen, bInt, ty_int, ty_bl, ty_str, ty_non, ty_tup, isT, oIs, oIsNot, run_eqI, run_neI, Bool.or_false, Bool.or_true, Bool.false_or, Bool.true_or, Bool.and_true, Bool.and_false, Bool.true_and, Bool.false_and, reduceCtorEq, decide_not, Bool.not_eq_true', decide_eq_false_iff_not, askInt, askBool, askTuple, askList, askStr, oLe, oLt, oGe, oGt, oInt2, atI0, atI1, atI2, run_addI, run_subI]
    exact ⟨.three hni hx hy (Nat.le_refl _), cs⟩
end PD.K01

/-! ## K01N5 -/
set_option Elab.async false
set_option linter.all false
set_option maxRecDepth 100000
set_option maxHeartbeats 4000000
namespace PD.K01
open PySem PySem.Spec L2 PD
theorem runS_loopV {t : TgD} {b : SD} {R : Val → Store → Prop} (m : Nat) (I : Nat → PD.Env → Store → Prop) (step : ∀ j x ρ S, j < m → I j ρ S → ∃ ρ1, t x ρ = some ρ1 ∧ RunS (b ρ1 S) (I (j + 1)) R) : ∀ (xs : List Val) (j : Nat) (ρ : PD.Env) (S : Store), j + xs.length ≤ m → I j ρ S → RunS (loopV t b xs ρ S) (I (j + xs.length)) R
  | [], j, ρ, S, _, h => by rw [loopV_nil]; exact h
  | x :: xs, j, ρ, S, hm, h => by
    rw [List.length_cons] at hm
    obtain ⟨ρ1, e, q⟩ := step j x ρ S (by omega) h
    rw [loopV_cons, e]
    show RunS ((b ρ1 S).turn (loopV t b xs)) _ _
    cases hr : b ρ1 S with
    | next ρ2 S2 =>
      rw [hr] at q
      have := runS_loopV m I step xs (j + 1) ρ2 S2 (by omega) q
      rw [show j + (x :: xs).length = j + 1 + xs.length by rw [List.length_cons]; omega]
      exact this
    | ret v S2 => rw [hr] at q; exact q
    | brk ρ2 S2 => rw [hr] at q; exact q.elim
    | cont ρ2 S2 => rw [hr] at q; exact q.elim
    | exc e ρ2 S2 => rw [hr] at q; exact q.elim
    | stuck => rw [hr] at q; exact q.elim
theorem rangeV_len (lo : Int) (n : Nat) : (rangeV lo n).length = n := by simp [rangeV]
theorem s_forR {as : DA} {t : TgD} {b : SD} {ρ : PD.Env} {S : Store} {N : PD.Env → Store → Prop} {R : Val → Store → Prop} : RunS (sForR as t b ρ S) N R = Run (as ρ S) fun xs S1 => match xs with | [.int j] => if -(2 ^ 62) ≤ j ∧ j < 2 ^ 62 then RunS (loopV t b (rangeV 0 j.toNat) ρ S1) N R else False | _ => False := by
  unfold sForR
  rw [runS_toS]
  congr; funext xs S1
  match xs with
  | [] => rfl
  | [.int j] =>
    show RunS (if -(2 ^ 62) ≤ j ∧ j < 2 ^ 62 then loopV t b (rangeV 0 j.toNat) ρ S1 else .stuck) N R = if -(2 ^ 62) ≤ j ∧ j < 2 ^ 62 then RunS (loopV t b (rangeV 0 j.toNat) ρ S1) N R else False
    split <;> rfl
  | [.non] => rfl
  | [.bl _] => rfl
  | [.str _] => rfl
  | [.tup _] => rfl
  | [.ref _] => rfl
  | [.ty _] => rfl
  | [.kl _] => rfl
  | .int _ :: _ :: _ => rfl
  | .non :: _ :: _ => rfl
  | .bl _ :: _ :: _ => rfl
  | .str _ :: _ :: _ => rfl
  | .tup _ :: _ :: _ => rfl
  | .ref _ :: _ :: _ => rfl
  | .ty _ :: _ :: _ => rfl
  | .kl _ :: _ :: _ => rfl
def LoI (c : Nat) (b : Bool) (S0 : Store) (j : Nat) (ρ : PD.Env) (S : Store) : Prop := ∃ v x3 x4, ρ = [some (.ref c), some (.bl b), some v, x3, x4, none] ∧ Tw j (101 + 211 * j) v ∧ (∀ i, v = .int i → 0 ≤ i ∧ i < 1000) ∧ Cs c S0 S
def LoJ (c : Nat) (b : Bool) (S0 : Store) (j : Nat) (ρ : PD.Env) (S : Store) : Prop := ∃ x y x3 L M, ρ = [some (.ref c), some (.bl b), some x, x3, some y, none] ∧ Tw j L x ∧ Tw j M y ∧ L + M ≤ 202 + 211 * j ∧ Cs c S0 S
def Lq : Nat → Nat
  | 0 => 413
  | j + 1 => 101 + 2 * Lq j + 9
def LoK (c : Nat) (b : Bool) (S0 : Store) (j : Nat) (ρ : PD.Env) (S : Store) : Prop := ∃ v x y z, ρ = [some (.ref c), some (.bl b), x, y, z, some v] ∧ Tw (j + 2) (Lq j) v ∧ Cs c S0 S
theorem l_long {c n : Nat} {b : Bool} {S : Store} (hc : CupAt c S) (hn : 1 < n) : Run ((fns n)._law_long [.ref c, .bl b] S) (fun r S' => Tw 13 20000 r ∧ Cs c S S') := by
  obtain ⟨n, rfl⟩ : ∃ m, n = m + 2 := ⟨n - 2, by omega⟩
  show Run (fnOf 2 6 (b__law_long (fns (n + 1))) [.ref c, .bl b] S) _
  unfold b__law_long
  refine run_fn rfl rfl ?_
  refine s_step (N' := LoI c b S 0) ?_ ?_
  · cases b
    all_goals
      simp only [run_ok, run_okI, run_okB, run_alloc, run_stuck, run_bind, run_ite, run_noX, run_fnOf, w_c, w_op, w_un, w_call, w_callK, w_nil, w_cons, w_tup, w_lst, isB_bl, w_tval, w_tand, w_tor, w_tnot, w_and, w_or, w_not, w_if, s_next, s_seq, s_if, s_ret, s_drop, s_set, s_par, s_put, s_asg, w_var', runS_next, runS_ret, runS_stuck, runS_ite, List.length_cons, List.length_nil, List.length_singleton, List.map_cons, List.map_nil, List.cons_append, List.nil_append, List.replicate_succ, List.replicate_zero, List.getElem?_cons_zero, List.getElem?_cons_succ, List.set_cons_zero, List.set_cons_succ, Nat.reduceAdd, Nat.reduceSub, Nat.reduceEqDiff, ite_true, ite_false, if_true, if_false, reduceIte, Bool.false_eq_true, decide_true, decide_false, String.reduceEq, Int.reduceEq, Nat.reduceLeDiff, true_and, and_true, Bool.not_true, Bool.not_false, decide_eq_true_eq, List.append_nil, bType, bIsi, bLen, bInt, ty_int, ty_bl, ty_str, ty_non, ty_tup, isT, oIs, oIsNot, run_eqI, run_neI, Bool.or_false, Bool.or_true, Bool.false_or, Bool.true_or, Bool.and_true, Bool.and_false, Bool.true_and, Bool.false_and, reduceCtorEq, decide_not, Bool.not_eq_true', decide_eq_false_iff_not, askInt, askBool, askTuple, askList, askStr, oLe, oLt, oGe, oGt, oInt2, atI0, atI1, atI2, run_addI, run_subI]
      refine Run.mono (l_sip hc (by decide) (by decide) (by omega)) fun x S1 ⟨⟨i, e, h0, h1⟩, cs⟩ => ?_
      subst e
      exact ⟨_, _, _, rfl, .num (by omega) (by omega) (by omega), fun j e => by cases e; omega, cs⟩
  intro ρ S1 h1
  obtain ⟨v, x3, x4, rfl, hv, hi, cs⟩ := h1
  have hturn : ∀ (j : Nat) (x : Val) (ρ : PD.Env) (S1 : Store), j < 12 → LoI c b S j ρ S1 → ∃ ρ1, gN 3 x ρ = some ρ1 ∧ RunS ((sSeq (sSet 4 (dCall (fns (n + 1))._law_sip (aCons (dVar 0) (aCons (dC (.int 2)) aNil))))
    (sSeq (sIf (tAnd' (tNot' (tVal (dCall bIsi (aCons (dVar 2) (aCons (dC (.ty "tuple")) aNil))))) (tNot' (tVal (dVar 1)))) (sSet 4 (dOp oSub (dC (.int 1)) (dVar 2))) sNext)
    (sSeq (sIf (tVal (dVar 1)) (sAsg (gT [(gN 2), (gN 4)]) (dIf (tVal (dOp oNe (dVar 2) (dC (.int 0)))) (dTup (aCons (dVar 2) (aCons (dC (.int 0)) aNil))) (dTup (aCons (dC (.int 1)) (aCons (dC (.int 0)) aNil))))) sNext)
    (sSeq (sIf (tVal (dOp oEq (dCall (fns (n + 1))._law_sip (aCons (dVar 0) (aCons (dC (.int 2)) aNil))) (dC (.int 0)))) (sPar 2 4 (aCons (dVar 4) (aCons (dVar 2) aNil))) sNext)
    (sSet 2 (dIf (tVal (dVar 1)) (dTup (aCons (dCall (fns (n + 1))._law_sip (aCons (dVar 0) (aCons (dC (.int 3)) aNil))) (aCons (dVar 2) (aCons (dVar 4) aNil)))) (dTup (aCons (dVar 2) (aCons (dVar 4) aNil))))))))) ρ1 S1) (LoI c b S (j + 1)) (fun r S' => Tw 13 20000 r ∧ Cs c S S') := by
    rintro j x ρ S1 hj ⟨v, x3, x4, rfl, hv, hi, cs⟩
    refine ⟨[some (.ref c), some (.bl b), some v, some x, x4, none], rfl, ?_⟩
    refine s_step (N' := fun ρ S' => (∃ i : Int, ρ = [some (.ref c), some (.bl b), some v, some x, some (.int i), none] ∧ 0 ≤ i ∧ i < 2) ∧ Cs c S S') ?_ ?_
    · simp only [run_ok, run_okI, run_okB, run_alloc, run_stuck, run_bind, run_ite, run_noX, run_fnOf, w_c, w_op, w_un, w_call, w_callK, w_nil, w_cons, w_tup, w_lst, isB_bl, w_tval, w_tand, w_tor, w_tnot, w_and, w_or, w_not, w_if, s_next, s_seq, s_if, s_ret, s_drop, s_set, s_par, s_put, s_asg, w_var', runS_next, runS_ret, runS_stuck, runS_ite, List.length_cons, List.length_nil, List.length_singleton, List.map_cons, List.map_nil, List.cons_append, List.nil_append, List.replicate_succ, List.replicate_zero, List.getElem?_cons_zero, List.getElem?_cons_succ, List.set_cons_zero, List.set_cons_succ, Nat.reduceAdd, Nat.reduceSub, Nat.reduceEqDiff, ite_true, ite_false, if_true, if_false, reduceIte, Bool.false_eq_true, decide_true, decide_false, String.reduceEq, Int.reduceEq, Nat.reduceLeDiff, true_and, and_true, Bool.not_true, Bool.not_false, decide_eq_true_eq, List.append_nil, bType, bIsi, bLen, bInt, ty_int, ty_bl, ty_str, ty_non, ty_tup, isT, oIs, oIsNot, run_eqI, run_neI, Bool.or_false, Bool.or_true, Bool.false_or, Bool.true_or, Bool.and_true, Bool.and_false, Bool.true_and, Bool.false_and, reduceCtorEq, decide_not, Bool.not_eq_true', decide_eq_false_iff_not, askInt, askBool, askTuple, askList, askStr, oLe, oLt, oGe, oGt, oInt2, atI0, atI1, atI2, run_addI, run_subI]
      refine Run.mono (l_sip cs.1 (by decide) (by decide) (by omega)) fun x S2 ⟨⟨i, e, h0, h1⟩, cs2⟩ => ?_
      subst e
      exact ⟨⟨_, rfl, h0, h1⟩, cs.trans cs2⟩
    clear cs
    rintro ρ S1 ⟨⟨i, rfl, h0, h1⟩, cs⟩
    refine s_step (N' := fun ρ S' => (∃ i : Int, ρ = [some (.ref c), some (.bl b), some v, some x, some (.int i), none] ∧ -1000 ≤ i ∧ i < 1000) ∧ Cs c S S') ?_ ?_
    · cases hv with
      | int =>
        obtain ⟨g0, g1⟩ := hi _ rfl
        cases b
        · simp only [run_ok, run_okI, run_okB, run_alloc, run_stuck, run_bind, run_ite, run_noX, run_fnOf, w_c, w_op, w_un, w_call, w_callK, w_nil, w_cons, w_tup, w_lst, isB_bl, w_tval, w_tand, w_tor, w_tnot, w_and, w_or, w_not, w_if, s_next, s_seq, s_if, s_ret, s_drop, s_set, s_par, s_put, s_asg, w_var', runS_next, runS_ret, runS_stuck, runS_ite, List.length_cons, List.length_nil, List.length_singleton, List.map_cons, List.map_nil, List.cons_append, List.nil_append, List.replicate_succ, List.replicate_zero, List.getElem?_cons_zero, List.getElem?_cons_succ, List.set_cons_zero, List.set_cons_succ, Nat.reduceAdd, Nat.reduceSub, Nat.reduceEqDiff, ite_true, ite_false, if_true, if_false, reduceIte, Bool.false_eq_true, decide_true, decide_false, String.reduceEq, Int.reduceEq, Nat.reduceLeDiff, true_and, and_true, Bool.not_true, Bool.not_false, decide_eq_true_eq, List.append_nil, bType, bIsi, bLen, bInt, ty_int, ty_bl, ty_str, ty_non, ty_tup, isT, oIs, oIsNot, run_eqI, run_neI, Bool.or_false, Bool.or_true, Bool.false_or, Bool.true_or, Bool.and_true, Bool.and_false, Bool.true_and, Bool.false_and, reduceCtorEq, decide_not, Bool.not_eq_true', decide_eq_false_iff_not, askInt, askBool, askTuple, askList, askStr, oLe, oLt, oGe, oGt, oInt2, atI0, atI1, atI2, run_addI, run_subI]
          exact ⟨⟨_, rfl, by omega, by omega⟩, cs⟩
        · simp only [run_ok, run_okI, run_okB, run_alloc, run_stuck, run_bind, run_ite, run_noX, run_fnOf, w_c, w_op, w_un, w_call, w_callK, w_nil, w_cons, w_tup, w_lst, isB_bl, w_tval, w_tand, w_tor, w_tnot, w_and, w_or, w_not, w_if, s_next, s_seq, s_if, s_ret, s_drop, s_set, s_par, s_put, s_asg, w_var', runS_next, runS_ret, runS_stuck, runS_ite, List.length_cons, List.length_nil, List.length_singleton, List.map_cons, List.map_nil, List.cons_append, List.nil_append, List.replicate_succ, List.replicate_zero, List.getElem?_cons_zero, List.getElem?_cons_succ, List.set_cons_zero, List.set_cons_succ, Nat.reduceAdd, Nat.reduceSub, Nat.reduceEqDiff, ite_true, ite_false, if_true, if_false, reduceIte, Bool.false_eq_true, decide_true, decide_false, String.reduceEq, Int.reduceEq, Nat.reduceLeDiff, true_and, and_true, Bool.not_true, Bool.not_false, decide_eq_true_eq, List.append_nil, bType, bIsi, bLen, bInt, ty_int, ty_bl, ty_str, ty_non, ty_tup, isT, oIs, oIsNot, run_eqI, run_neI, Bool.or_false, Bool.or_true, Bool.false_or, Bool.true_or, Bool.and_true, Bool.and_false, Bool.true_and, Bool.false_and, reduceCtorEq, decide_not, Bool.not_eq_true', decide_eq_false_iff_not, askInt, askBool, askTuple, askList, askStr, oLe, oLt, oGe, oGt, oInt2, atI0, atI1, atI2, run_addI, run_subI]
          exact ⟨⟨_, rfl, by omega, by omega⟩, cs⟩
      | two =>
        simp only [run_ok, run_okI, run_okB, run_alloc, run_stuck, run_bind, run_ite, run_noX, run_fnOf, w_c, w_op, w_un, w_call, w_callK, w_nil, w_cons, w_tup, w_lst, isB_bl, w_tval, w_tand, w_tor, w_tnot, w_and, w_or, w_not, w_if, s_next, s_seq, s_if, s_ret, s_drop, s_set, s_par, s_put, s_asg, w_var', runS_next, runS_ret, runS_stuck, runS_ite, List.length_cons, List.length_nil, List.length_singleton, List.map_cons, List.map_nil, List.cons_append, List.nil_append, List.replicate_succ, List.replicate_zero, List.getElem?_cons_zero, List.getElem?_cons_succ, List.set_cons_zero, List.set_cons_succ, Nat.reduceAdd, Nat.reduceSub, Nat.reduceEqDiff, ite_true, ite_false, if_true, if_false, reduceIte, Bool.false_eq_true, decide_true, decide_false, String.reduceEq, Int.reduceEq, Nat.reduceLeDiff, true_and, and_true, Bool.not_true, Bool.not_false, decide_eq_true_eq, List.append_nil, bType, bIsi, bLen, bInt, ty_int, ty_bl, ty_str, ty_non, ty_tup, isT, oIs, oIsNot, run_eqI, run_neI, Bool.or_false, Bool.or_true, Bool.false_or, Bool.true_or, Bool.and_true, Bool.and_false, Bool.true_and, Bool.false_and, reduceCtorEq, decide_not, Bool.not_eq_true', decide_eq_false_iff_not, askInt, askBool, askTuple, askList, askStr, oLe, oLt, oGe, oGt, oInt2, atI0, atI1, atI2, run_addI, run_subI]
        exact ⟨⟨_, rfl, by omega, by omega⟩, cs⟩
      | three =>
        simp only [run_ok, run_okI, run_okB, run_alloc, run_stuck, run_bind, run_ite, run_noX, run_fnOf, w_c, w_op, w_un, w_call, w_callK, w_nil, w_cons, w_tup, w_lst, isB_bl, w_tval, w_tand, w_tor, w_tnot, w_and, w_or, w_not, w_if, s_next, s_seq, s_if, s_ret, s_drop, s_set, s_par, s_put, s_asg, w_var', runS_next, runS_ret, runS_stuck, runS_ite, List.length_cons, List.length_nil, List.length_singleton, List.map_cons, List.map_nil, List.cons_append, List.nil_append, List.replicate_succ, List.replicate_zero, List.getElem?_cons_zero, List.getElem?_cons_succ, List.set_cons_zero, List.set_cons_succ, Nat.reduceAdd, Nat.reduceSub, Nat.reduceEqDiff, ite_true, ite_false, if_true, if_false, reduceIte, Bool.false_eq_true, decide_true, decide_false, String.reduceEq, Int.reduceEq, Nat.reduceLeDiff, true_and, and_true, Bool.not_true, Bool.not_false, decide_eq_true_eq, List.append_nil, bType, bIsi, bLen, bInt, ty_int, ty_bl, ty_str, ty_non, ty_tup, isT, oIs, oIsNot, run_eqI, run_neI, Bool.or_false, Bool.or_true, Bool.false_or, Bool.true_or, Bool.and_true, Bool.and_false, Bool.true_and, Bool.false_and, reduceCtorEq, decide_not, Bool.not_eq_true', decide_eq_false_iff_not, askInt, askBool, askTuple, askList, askStr, oLe, oLt, oGe, oGt, oInt2, atI0, atI1, atI2, run_addI, run_subI]
        exact ⟨⟨_, rfl, by omega, by omega⟩, cs⟩
    clear h0 h1 cs
    rintro ρ S1 ⟨⟨i, rfl, h0, h1⟩, cs⟩
    refine s_step (N' := LoJ c b S j) ?_ ?_
    · cases b with
      | false =>
        simp only [run_ok, run_okI, run_okB, run_alloc, run_stuck, run_bind, run_ite, run_noX, run_fnOf, w_c, w_op, w_un, w_call, w_callK, w_nil, w_cons, w_tup, w_lst, isB_bl, w_tval, w_tand, w_tor, w_tnot, w_and, w_or, w_not, w_if, s_next, s_seq, s_if, s_ret, s_drop, s_set, s_par, s_put, s_asg, w_var', runS_next, runS_ret, runS_stuck, runS_ite, List.length_cons, List.length_nil, List.length_singleton, List.map_cons, List.map_nil, List.cons_append, List.nil_append, List.replicate_succ, List.replicate_zero, List.getElem?_cons_zero, List.getElem?_cons_succ, List.set_cons_zero, List.set_cons_succ, Nat.reduceAdd, Nat.reduceSub, Nat.reduceEqDiff, ite_true, ite_false, if_true, if_false, reduceIte, Bool.false_eq_true, decide_true, decide_false, String.reduceEq, Int.reduceEq, Nat.reduceLeDiff, true_and, and_true, Bool.not_true, Bool.not_false, decide_eq_true_eq, List.append_nil, bType, bIsi, bLen, bInt, ty_int, ty_bl, ty_str, ty_non, ty_tup, isT, oIs, oIsNot, run_eqI, run_neI, Bool.or_false, Bool.or_true, Bool.false_or, Bool.true_or, Bool.and_true, Bool.and_false, Bool.true_and, Bool.false_and, reduceCtorEq, decide_not, Bool.not_eq_true', decide_eq_false_iff_not, askInt, askBool, askTuple, askList, askStr, oLe, oLt, oGe, oGt, oInt2, atI0, atI1, atI2, run_addI, run_subI]
        exact ⟨_, _, _, _, _, rfl, hv, .num (by omega) (by omega) (Nat.le_refl 101), by omega, cs⟩
      | true =>
        have g2 : ∀ (a b : Val) (ρ : PD.Env), gT [gN 2, gN 4] (.tup [a, b]) ρ = some ((ρ.set 2 (some a)).set 4 (some b)) := fun _ _ _ => rfl
        simp only [hv.run_neI (by omega : j < 65), g2, run_ok, run_okI, run_okB, run_alloc, run_stuck, run_bind, run_ite, run_noX, run_fnOf, w_c, w_op, w_un, w_call, w_callK, w_nil, w_cons, w_tup, w_lst, isB_bl, w_tval, w_tand, w_tor, w_tnot, w_and, w_or, w_not, w_if, s_next, s_seq, s_if, s_ret, s_drop, s_set, s_par, s_put, s_asg, w_var', runS_next, runS_ret, runS_stuck, runS_ite, List.length_cons, List.length_nil, List.length_singleton, List.map_cons, List.map_nil, List.cons_append, List.nil_append, List.replicate_succ, List.replicate_zero, List.getElem?_cons_zero, List.getElem?_cons_succ, List.set_cons_zero, List.set_cons_succ, Nat.reduceAdd, Nat.reduceSub, Nat.reduceEqDiff, ite_true, ite_false, if_true, if_false, reduceIte, Bool.false_eq_true, decide_true, decide_false, String.reduceEq, Int.reduceEq, Nat.reduceLeDiff, true_and, and_true, Bool.not_true, Bool.not_false, decide_eq_true_eq, List.append_nil, bType, bIsi, bLen, bInt, ty_int, ty_bl, ty_str, ty_non, ty_tup, isT, oIs, oIsNot, run_eqI, run_neI, Bool.or_false, Bool.or_true, Bool.false_or, Bool.true_or, Bool.and_true, Bool.and_false, Bool.true_and, Bool.false_and, reduceCtorEq, decide_not, Bool.not_eq_true', decide_eq_false_iff_not, askInt, askBool, askTuple, askList, askStr, oLe, oLt, oGe, oGt, oInt2, atI0, atI1, atI2, run_addI, run_subI]
        split
        · refine ⟨_, _, _, _, _, rfl, hv, .num (by omega) (by omega) (Nat.le_refl 101), by omega, cs⟩
        · refine ⟨_, _, _, _, _, rfl, .num (by omega) (by omega) (Nat.le_refl 101), .num (by omega) (by omega) (Nat.le_refl 101), by omega, cs⟩
    clear cs hv hi h0 h1
    rintro ρ S1 ⟨x, y, x3, L, M, rfl, hx, hy, hL, cs⟩
    refine s_step (N' := LoJ c b S j) ?_ ?_
    · simp only [run_ok, run_okI, run_okB, run_alloc, run_stuck, run_bind, run_ite, run_noX, run_fnOf, w_c, w_op, w_un, w_call, w_callK, w_nil, w_cons, w_tup, w_lst, isB_bl, w_tval, w_tand, w_tor, w_tnot, w_and, w_or, w_not, w_if, s_next, s_seq, s_if, s_ret, s_drop, s_set, s_par, s_put, s_asg, w_var', runS_next, runS_ret, runS_stuck, runS_ite, List.length_cons, List.length_nil, List.length_singleton, List.map_cons, List.map_nil, List.cons_append, List.nil_append, List.replicate_succ, List.replicate_zero, List.getElem?_cons_zero, List.getElem?_cons_succ, List.set_cons_zero, List.set_cons_succ, Nat.reduceAdd, Nat.reduceSub, Nat.reduceEqDiff, ite_true, ite_false, if_true, if_false, reduceIte, Bool.false_eq_true, decide_true, decide_false, String.reduceEq, Int.reduceEq, Nat.reduceLeDiff, true_and, and_true, Bool.not_true, Bool.not_false, decide_eq_true_eq, List.append_nil, bType, bIsi, bLen, bInt, ty_int, ty_bl, ty_str, ty_non, ty_tup, isT, oIs, oIsNot, run_eqI, run_neI, Bool.or_false, Bool.or_true, Bool.false_or, Bool.true_or, Bool.and_true, Bool.and_false, Bool.true_and, Bool.false_and, reduceCtorEq, decide_not, Bool.not_eq_true', decide_eq_false_iff_not, askInt, askBool, askTuple, askList, askStr, oLe, oLt, oGe, oGt, oInt2, atI0, atI1, atI2, run_addI, run_subI]
      refine Run.mono (l_sip cs.1 (by decide) (by decide) (by omega)) fun x S2 ⟨⟨i, e, h0, h1⟩, cs2⟩ => ?_
      subst e
      simp only [run_ok, run_okI, run_okB, run_alloc, run_stuck, run_bind, run_ite, run_noX, run_fnOf, w_c, w_op, w_un, w_call, w_callK, w_nil, w_cons, w_tup, w_lst, isB_bl, w_tval, w_tand, w_tor, w_tnot, w_and, w_or, w_not, w_if, s_next, s_seq, s_if, s_ret, s_drop, s_set, s_par, s_put, s_asg, w_var', runS_next, runS_ret, runS_stuck, runS_ite, List.length_cons, List.length_nil, List.length_singleton, List.map_cons, List.map_nil, List.cons_append, List.nil_append, List.replicate_succ, List.replicate_zero, List.getElem?_cons_zero, List.getElem?_cons_succ, List.set_cons_zero, List.set_cons_succ, Nat.reduceAdd, Nat.reduceSub, Nat.reduceEqDiff, ite_true, ite_false, if_true, if_false, reduceIte, Bool.false_eq_true, decide_true, decide_false, String.reduceEq, Int.reduceEq, Nat.reduceLeDiff, true_and, and_true, Bool.not_true, Bool.not_false, decide_eq_true_eq, List.append_nil, bType, bIsi, bLen, bInt, ty_int, ty_bl, ty_str, ty_non, ty_tup, isT, oIs, oIsNot, run_eqI, run_neI, Bool.or_false, Bool.or_true, Bool.false_or, Bool.true_or, Bool.and_true, Bool.and_false, Bool.true_and, Bool.false_and, reduceCtorEq, decide_not, Bool.not_eq_true', decide_eq_false_iff_not, askInt, askBool, askTuple, askList, askStr, oLe, oLt, oGe, oGt, oInt2, atI0, atI1, atI2, run_addI, run_subI]
      split
      · exact ⟨_, _, _, _, _, rfl, hy, hx, by omega, cs.trans cs2⟩
      · exact ⟨_, _, _, _, _, rfl, hx, hy, hL, cs.trans cs2⟩
    clear cs hx hy hL
    rintro ρ S1 ⟨x, y, x3, L, M, rfl, hx, hy, hL, cs⟩
    cases b with
    | true =>
      simp only [run_ok, run_okI, run_okB, run_alloc, run_stuck, run_bind, run_ite, run_noX, run_fnOf, w_c, w_op, w_un, w_call, w_callK, w_nil, w_cons, w_tup, w_lst, isB_bl, w_tval, w_tand, w_tor, w_tnot, w_and, w_or, w_not, w_if, s_next, s_seq, s_if, s_ret, s_drop, s_set, s_par, s_put, s_asg, w_var', runS_next, runS_ret, runS_stuck, runS_ite, List.length_cons, List.length_nil, List.length_singleton, List.map_cons, List.map_nil, List.cons_append, List.nil_append, List.replicate_succ, List.replicate_zero, List.getElem?_cons_zero, List.getElem?_cons_succ, List.set_cons_zero, List.set_cons_succ, Nat.reduceAdd, Nat.reduceSub, Nat.reduceEqDiff, ite_true, ite_false, if_true, if_false, reduceIte, Bool.false_eq_true, decide_true, decide_false, String.reduceEq, Int.reduceEq, Nat.reduceLeDiff, true_and, and_true, Bool.not_true, Bool.not_false, decide_eq_true_eq, List.append_nil, bType, bIsi, bLen, bInt, ty_int, ty_bl, ty_str, ty_non, ty_tup, isT, oIs, oIsNot, run_eqI, run_neI, Bool.or_false, Bool.or_true, Bool.false_or, Bool.true_or, Bool.and_true, Bool.and_false, Bool.true_and, Bool.false_and, reduceCtorEq, decide_not, Bool.not_eq_true', decide_eq_false_iff_not, askInt, askBool, askTuple, askList, askStr, oLe, oLt, oGe, oGt, oInt2, atI0, atI1, atI2, run_addI, run_subI]
      refine Run.mono (l_sip cs.1 (by decide) (by decide) (by omega)) fun x S2 ⟨⟨i, e, h0, h1⟩, cs2⟩ => ?_
      subst e
      exact ⟨_, _, _, rfl, .three (.num (by omega) (by omega) (Nat.le_refl 101)) hx hy (by omega), (fun i e => nomatch e), cs.trans cs2⟩
    | false =>
      simp only [run_ok, run_okI, run_okB, run_alloc, run_stuck, run_bind, run_ite, run_noX, run_fnOf, w_c, w_op, w_un, w_call, w_callK, w_nil, w_cons, w_tup, w_lst, isB_bl, w_tval, w_tand, w_tor, w_tnot, w_and, w_or, w_not, w_if, s_next, s_seq, s_if, s_ret, s_drop, s_set, s_par, s_put, s_asg, w_var', runS_next, runS_ret, runS_stuck, runS_ite, List.length_cons, List.length_nil, List.length_singleton, List.map_cons, List.map_nil, List.cons_append, List.nil_append, List.replicate_succ, List.replicate_zero, List.getElem?_cons_zero, List.getElem?_cons_succ, List.set_cons_zero, List.set_cons_succ, Nat.reduceAdd, Nat.reduceSub, Nat.reduceEqDiff, ite_true, ite_false, if_true, if_false, reduceIte, Bool.false_eq_true, decide_true, decide_false, String.reduceEq, Int.reduceEq, Nat.reduceLeDiff, true_and, and_true, Bool.not_true, Bool.not_false, decide_eq_true_eq, List.append_nil, bType, bIsi, bLen, bInt, ty_int, ty_bl, ty_str, ty_non, ty_tup, isT, oIs, oIsNot, run_eqI, run_neI, Bool.or_false, Bool.or_true, Bool.false_or, Bool.true_or, Bool.and_true, Bool.and_false, Bool.true_and, Bool.false_and, reduceCtorEq, decide_not, Bool.not_eq_true', decide_eq_false_iff_not, askInt, askBool, askTuple, askList, askStr, oLe, oLt, oGe, oGt, oInt2, atI0, atI1, atI2, run_addI, run_subI]
      exact ⟨_, _, _, rfl, .two hx hy (by omega), (fun i e => nomatch e), cs⟩
  refine s_step (N' := fun ρ S' => (∃ x y z, ρ = [some (.ref c), some (.bl b), x, y, z, none]) ∧ Cs c S S') ?_ ?_
  · rw [s_if, w_tval, w_op, w_call]
    simp only [run_ok, run_okI, run_okB, run_alloc, run_stuck, run_bind, run_ite, run_noX, run_fnOf, w_c, w_op, w_un, w_call, w_callK, w_nil, w_cons, w_tup, w_lst, isB_bl, w_tval, w_tand, w_tor, w_tnot, w_and, w_or, w_not, w_if, s_next, s_seq, s_if, s_ret, s_drop, s_set, s_par, s_put, s_asg, w_var', runS_next, runS_ret, runS_stuck, runS_ite, List.length_cons, List.length_nil, List.length_singleton, List.map_cons, List.map_nil, List.cons_append, List.nil_append, List.replicate_succ, List.replicate_zero, List.getElem?_cons_zero, List.getElem?_cons_succ, List.set_cons_zero, List.set_cons_succ, Nat.reduceAdd, Nat.reduceSub, Nat.reduceEqDiff, ite_true, ite_false, if_true, if_false, reduceIte, Bool.false_eq_true, decide_true, decide_false, String.reduceEq, Int.reduceEq, Nat.reduceLeDiff, true_and, and_true, Bool.not_true, Bool.not_false, decide_eq_true_eq, List.append_nil, bType, bIsi, bLen, bInt, ty_int, ty_bl, ty_str, ty_non, ty_tup, isT, oIs, oIsNot, run_eqI, run_neI, Bool.or_false, Bool.or_true, Bool.false_or, Bool.true_or, Bool.and_true, Bool.and_false, Bool.true_and, Bool.false_and, reduceCtorEq, decide_not, Bool.not_eq_true', decide_eq_false_iff_not, askInt, askBool, askTuple, askList, askStr, oLe, oLt, oGe, oGt, oInt2, atI0, atI1, atI2, run_addI, run_subI]
    refine Run.mono (l_sip cs.1 (by decide) (by decide) (by omega)) fun x S2 ⟨⟨i, e, h0, h1⟩, cs2⟩ => ?_
    subst e
    have cs' := cs.trans cs2
    simp only [run_ok, run_okI, run_okB, run_alloc, run_stuck, run_bind, run_ite, run_noX, run_fnOf, w_c, w_op, w_un, w_call, w_callK, w_nil, w_cons, w_tup, w_lst, isB_bl, w_tval, w_tand, w_tor, w_tnot, w_and, w_or, w_not, w_if, s_next, s_seq, s_if, s_ret, s_drop, s_set, s_par, s_put, s_asg, w_var', runS_next, runS_ret, runS_stuck, runS_ite, List.length_cons, List.length_nil, List.length_singleton, List.map_cons, List.map_nil, List.cons_append, List.nil_append, List.replicate_succ, List.replicate_zero, List.getElem?_cons_zero, List.getElem?_cons_succ, List.set_cons_zero, List.set_cons_succ, Nat.reduceAdd, Nat.reduceSub, Nat.reduceEqDiff, ite_true, ite_false, if_true, if_false, reduceIte, Bool.false_eq_true, decide_true, decide_false, String.reduceEq, Int.reduceEq, Nat.reduceLeDiff, true_and, and_true, Bool.not_true, Bool.not_false, decide_eq_true_eq, List.append_nil, bType, bIsi, bLen, bInt, ty_int, ty_bl, ty_str, ty_non, ty_tup, isT, oIs, oIsNot, run_eqI, run_neI, Bool.or_false, Bool.or_true, Bool.false_or, Bool.true_or, Bool.and_true, Bool.and_false, Bool.true_and, Bool.false_and, reduceCtorEq, decide_not, Bool.not_eq_true', decide_eq_false_iff_not, askInt, askBool, askTuple, askList, askStr, oLe, oLt, oGe, oGt, oInt2, atI0, atI1, atI2, run_addI, run_subI]
    split
    · rw [s_forR]
      simp only [run_ok, run_okI, run_okB, run_alloc, run_stuck, run_bind, run_ite, run_noX, run_fnOf, w_c, w_op, w_un, w_call, w_callK, w_nil, w_cons, w_tup, w_lst, isB_bl, w_tval, w_tand, w_tor, w_tnot, w_and, w_or, w_not, w_if, s_next, s_seq, s_if, s_ret, s_drop, s_set, s_par, s_put, s_asg, w_var', runS_next, runS_ret, runS_stuck, runS_ite, List.length_cons, List.length_nil, List.length_singleton, List.map_cons, List.map_nil, List.cons_append, List.nil_append, List.replicate_succ, List.replicate_zero, List.getElem?_cons_zero, List.getElem?_cons_succ, List.set_cons_zero, List.set_cons_succ, Nat.reduceAdd, Nat.reduceSub, Nat.reduceEqDiff, ite_true, ite_false, if_true, if_false, reduceIte, Bool.false_eq_true, decide_true, decide_false, String.reduceEq, Int.reduceEq, Nat.reduceLeDiff, true_and, and_true, Bool.not_true, Bool.not_false, decide_eq_true_eq, List.append_nil, bType, bIsi, bLen, bInt, ty_int, ty_bl, ty_str, ty_non, ty_tup, isT, oIs, oIsNot, run_eqI, run_neI, Bool.or_false, Bool.or_true, Bool.false_or, Bool.true_or, Bool.and_true, Bool.and_false, Bool.true_and, Bool.false_and, reduceCtorEq, decide_not, Bool.not_eq_true', decide_eq_false_iff_not, askInt, askBool, askTuple, askList, askStr, oLe, oLt, oGe, oGt, oInt2, atI0, atI1, atI2, run_addI, run_subI]
      refine Run.mono (l_sip cs'.1 (by decide) (by decide) (by omega)) fun x S3 ⟨⟨i, e, g0, g1⟩, cs3⟩ => ?_
      subst e
      rw [run_addI]
      show if -(2 ^ 62) ≤ 6 + i ∧ 6 + i < 2 ^ 62 then _ else False
      rw [if_pos (by constructor <;> omega)]
      refine RunS.mono (runS_loopV 12 (LoI c b S) hturn (rangeV 0 (6 + i).toNat) 0 _ _ (by rw [rangeV_len]; omega) ⟨_, _, _, rfl, hv, hi, cs'.trans cs3⟩) ?_ fun _ _ h => h
      rw [rangeV_len]
      rintro ρ S4 ⟨v, x3, x4, rfl, hv, hi, cs⟩
      show Tw 13 20000 v ∧ Cs c S S4
      exact ⟨hv.up (by omega) (by omega), cs⟩
    · exact ⟨⟨_, _, _, rfl⟩, cs'⟩
  clear cs hv hi hturn
  rintro ρ S1 ⟨⟨x, y, z, rfl⟩, cs⟩
  refine s_step (N' := fun ρ S' => (∃ v x y z, ρ = [some (.ref c), some (.bl b), x, y, z, some v] ∧ Tw 2 413 v) ∧ Cs c S S') ?_ ?_
  · have n0 : ∀ i : Int, 0 ≤ i → i ≤ 1 → Tw 0 101 (.int i) := fun i h0 h1 => .num (by omega) (by omega) (Nat.le_refl _)
    cases b with
    | false =>
      simp only [run_ok, run_okI, run_okB, run_alloc, run_stuck, run_bind, run_ite, run_noX, run_fnOf, w_c, w_op, w_un, w_call, w_callK, w_nil, w_cons, w_tup, w_lst, isB_bl, w_tval, w_tand, w_tor, w_tnot, w_and, w_or, w_not, w_if, s_next, s_seq, s_if, s_ret, s_drop, s_set, s_par, s_put, s_asg, w_var', runS_next, runS_ret, runS_stuck, runS_ite, List.length_cons, List.length_nil, List.length_singleton, List.map_cons, List.map_nil, List.cons_append, List.nil_append, List.replicate_succ, List.replicate_zero, List.getElem?_cons_zero, List.getElem?_cons_succ, List.set_cons_zero, List.set_cons_succ, Nat.reduceAdd, Nat.reduceSub, Nat.reduceEqDiff, ite_true, ite_false, if_true, if_false, reduceIte, Bool.false_eq_true, decide_true, decide_false, String.reduceEq, Int.reduceEq, Nat.reduceLeDiff, true_and, and_true, Bool.not_true, Bool.not_false, decide_eq_true_eq, List.append_nil, bType, bIsi, bLen, bInt, ty_int, ty_bl, ty_str, ty_non, ty_tup, isT, oIs, oIsNot, run_eqI, run_neI, Bool.or_false, Bool.or_true, Bool.false_or, Bool.true_or, Bool.and_true, Bool.and_false, Bool.true_and, Bool.false_and, reduceCtorEq, decide_not, Bool.not_eq_true', decide_eq_false_iff_not, askInt, askBool, askTuple, askList, askStr, oLe, oLt, oGe, oGt, oInt2, atI0, atI1, atI2, run_addI, run_subI]
      refine Run.mono (run_pick (Tw 2 413) (get_new _ _) (by decide) (by decide) ?_) fun x S2 ⟨hx, e⟩ => ?_
      · intro x hx
        rcases List.mem_cons.mp hx with rfl | hx
        · exact (n0 1 (by decide) (by decide)).up (by decide) (by decide)
        · rw [List.mem_singleton.mp hx]; exact (Tw.two (n0 0 (by decide) (by decide)) (n0 1 (by decide) (by decide)) (Nat.le_refl _)).up (by decide) (by decide)
      · subst e
        exact ⟨⟨_, _, _, _, rfl, hx⟩, cs.kp (Gr.add _ _).kp⟩
    | true =>
      simp only [run_ok, run_okI, run_okB, run_alloc, run_stuck, run_bind, run_ite, run_noX, run_fnOf, w_c, w_op, w_un, w_call, w_callK, w_nil, w_cons, w_tup, w_lst, isB_bl, w_tval, w_tand, w_tor, w_tnot, w_and, w_or, w_not, w_if, s_next, s_seq, s_if, s_ret, s_drop, s_set, s_par, s_put, s_asg, w_var', runS_next, runS_ret, runS_stuck, runS_ite, List.length_cons, List.length_nil, List.length_singleton, List.map_cons, List.map_nil, List.cons_append, List.nil_append, List.replicate_succ, List.replicate_zero, List.getElem?_cons_zero, List.getElem?_cons_succ, List.set_cons_zero, List.set_cons_succ, Nat.reduceAdd, Nat.reduceSub, Nat.reduceEqDiff, ite_true, ite_false, if_true, if_false, reduceIte, Bool.false_eq_true, decide_true, decide_false, String.reduceEq, Int.reduceEq, Nat.reduceLeDiff, true_and, and_true, Bool.not_true, Bool.not_false, decide_eq_true_eq, List.append_nil, bType, bIsi, bLen, bInt, ty_int, ty_bl, ty_str, ty_non, ty_tup, isT, oIs, oIsNot, run_eqI, run_neI, Bool.or_false, Bool.or_true, Bool.false_or, Bool.true_or, Bool.and_true, Bool.and_false, Bool.true_and, Bool.false_and, reduceCtorEq, decide_not, Bool.not_eq_true', decide_eq_false_iff_not, askInt, askBool, askTuple, askList, askStr, oLe, oLt, oGe, oGt, oInt2, atI0, atI1, atI2, run_addI, run_subI]
      exact ⟨⟨_, _, _, _, rfl, (Tw.three (n0 0 (by decide) (by decide)) (n0 0 (by decide) (by decide)) (n0 1 (by decide) (by decide)) (Nat.le_refl _)).up (by decide) (by decide)⟩, cs⟩
  clear cs
  rintro ρ S1 ⟨⟨v, x, y, z, rfl, hv⟩, cs⟩
  refine s_step (N' := LoK c b S 5) ?_ ?_
  · rw [s_forR]
    simp only [run_ok, run_okI, run_okB, run_alloc, run_stuck, run_bind, run_ite, run_noX, run_fnOf, w_c, w_op, w_un, w_call, w_callK, w_nil, w_cons, w_tup, w_lst, isB_bl, w_tval, w_tand, w_tor, w_tnot, w_and, w_or, w_not, w_if, s_next, s_seq, s_if, s_ret, s_drop, s_set, s_par, s_put, s_asg, w_var', runS_next, runS_ret, runS_stuck, runS_ite, List.length_cons, List.length_nil, List.length_singleton, List.map_cons, List.map_nil, List.cons_append, List.nil_append, List.replicate_succ, List.replicate_zero, List.getElem?_cons_zero, List.getElem?_cons_succ, List.set_cons_zero, List.set_cons_succ, Nat.reduceAdd, Nat.reduceSub, Nat.reduceEqDiff, ite_true, ite_false, if_true, if_false, reduceIte, Bool.false_eq_true, decide_true, decide_false, String.reduceEq, Int.reduceEq, Nat.reduceLeDiff, true_and, and_true, Bool.not_true, Bool.not_false, decide_eq_true_eq, List.append_nil, bType, bIsi, bLen, bInt, ty_int, ty_bl, ty_str, ty_non, ty_tup, isT, oIs, oIsNot, run_eqI, run_neI, Bool.or_false, Bool.or_true, Bool.false_or, Bool.true_or, Bool.and_true, Bool.and_false, Bool.true_and, Bool.false_and, reduceCtorEq, decide_not, Bool.not_eq_true', decide_eq_false_iff_not, askInt, askBool, askTuple, askList, askStr, oLe, oLt, oGe, oGt, oInt2, atI0, atI1, atI2, run_addI, run_subI]
    show if -(2 ^ 62) ≤ (5 : Int) ∧ (5 : Int) < 2 ^ 62 then _ else False
    rw [if_pos (by decide)]
    refine RunS.mono (runS_loopV 5 (LoK c b S) ?_ (rangeV 0 5) 0 _ _ (by rw [rangeV_len]; omega) ⟨_, _, _, _, rfl, hv, cs⟩) ?_ fun _ _ h => h
    · clear hv cs
      rintro j x0 ρ S1 hj ⟨v, x, y, z, rfl, hv, cs⟩
      refine ⟨[some (.ref c), some (.bl b), x, some x0, z, some v], rfl, ?_⟩
      cases b with
      | false =>
        simp only [run_ok, run_okI, run_okB, run_alloc, run_stuck, run_bind, run_ite, run_noX, run_fnOf, w_c, w_op, w_un, w_call, w_callK, w_nil, w_cons, w_tup, w_lst, isB_bl, w_tval, w_tand, w_tor, w_tnot, w_and, w_or, w_not, w_if, s_next, s_seq, s_if, s_ret, s_drop, s_set, s_par, s_put, s_asg, w_var', runS_next, runS_ret, runS_stuck, runS_ite, List.length_cons, List.length_nil, List.length_singleton, List.map_cons, List.map_nil, List.cons_append, List.nil_append, List.replicate_succ, List.replicate_zero, List.getElem?_cons_zero, List.getElem?_cons_succ, List.set_cons_zero, List.set_cons_succ, Nat.reduceAdd, Nat.reduceSub, Nat.reduceEqDiff, ite_true, ite_false, if_true, if_false, reduceIte, Bool.false_eq_true, decide_true, decide_false, String.reduceEq, Int.reduceEq, Nat.reduceLeDiff, true_and, and_true, Bool.not_true, Bool.not_false, decide_eq_true_eq, List.append_nil, bType, bIsi, bLen, bInt, ty_int, ty_bl, ty_str, ty_non, ty_tup, isT, oIs, oIsNot, run_eqI, run_neI, Bool.or_false, Bool.or_true, Bool.false_or, Bool.true_or, Bool.and_true, Bool.and_false, Bool.true_and, Bool.false_and, reduceCtorEq, decide_not, Bool.not_eq_true', decide_eq_false_iff_not, askInt, askBool, askTuple, askList, askStr, oLe, oLt, oGe, oGt, oInt2, atI0, atI1, atI2, run_addI, run_subI]
        exact ⟨_, _, _, _, rfl, .two hv hv (by show _ ≤ 101 + 2 * Lq j + 9; omega), cs⟩
      | true =>
        simp only [run_ok, run_okI, run_okB, run_alloc, run_stuck, run_bind, run_ite, run_noX, run_fnOf, w_c, w_op, w_un, w_call, w_callK, w_nil, w_cons, w_tup, w_lst, isB_bl, w_tval, w_tand, w_tor, w_tnot, w_and, w_or, w_not, w_if, s_next, s_seq, s_if, s_ret, s_drop, s_set, s_par, s_put, s_asg, w_var', runS_next, runS_ret, runS_stuck, runS_ite, List.length_cons, List.length_nil, List.length_singleton, List.map_cons, List.map_nil, List.cons_append, List.nil_append, List.replicate_succ, List.replicate_zero, List.getElem?_cons_zero, List.getElem?_cons_succ, List.set_cons_zero, List.set_cons_succ, Nat.reduceAdd, Nat.reduceSub, Nat.reduceEqDiff, ite_true, ite_false, if_true, if_false, reduceIte, Bool.false_eq_true, decide_true, decide_false, String.reduceEq, Int.reduceEq, Nat.reduceLeDiff, true_and, and_true, Bool.not_true, Bool.not_false, decide_eq_true_eq, List.append_nil, bType, bIsi, bLen, bInt, ty_int, ty_bl, ty_str, ty_non, ty_tup, isT, oIs, oIsNot, run_eqI, run_neI, Bool.or_false, Bool.or_true, Bool.false_or, Bool.true_or, Bool.and_true, Bool.and_false, Bool.true_and, Bool.false_and, reduceCtorEq, decide_not, Bool.not_eq_true', decide_eq_false_iff_not, askInt, askBool, askTuple, askList, askStr, oLe, oLt, oGe, oGt, oInt2, atI0, atI1, atI2, run_addI, run_subI]
        exact ⟨_, _, _, _, rfl, .three (.num (by omega) (by omega) (Nat.le_refl 101)) hv hv (by show _ ≤ 101 + 2 * Lq j + 9; omega), cs⟩
    · rw [rangeV_len]
      exact fun _ _ h => h
  clear hv cs
  rintro ρ S1 ⟨v, x, y, z, rfl, hv, cs⟩
  simp only [run_ok, run_okI, run_okB, run_alloc, run_stuck, run_bind, run_ite, run_noX, run_fnOf, w_c, w_op, w_un, w_call, w_callK, w_nil, w_cons, w_tup, w_lst, isB_bl, w_tval, w_tand, w_tor, w_tnot, w_and, w_or, w_not, w_if, s_next, s_seq, s_if, s_ret, s_drop, s_set, s_par, s_put, s_asg, w_var', runS_next, runS_ret, runS_stuck, runS_ite, List.length_cons, List.length_nil, List.length_singleton, List.map_cons, List.map_nil, List.cons_append, List.nil_append, List.replicate_succ, List.replicate_zero, List.getElem?_cons_zero, List.getElem?_cons_succ, List.set_cons_zero, List.set_cons_succ, Nat.reduceAdd, Nat.reduceSub, Nat.reduceEqDiff, ite_true, ite_false, if_true, if_false, reduceIte, Bool.false_eq_true, decide_true, decide_false, String.reduceEq, Int.reduceEq, Nat.reduceLeDiff, true_and, and_true, Bool.not_true, Bool.not_false, decide_eq_true_eq, List.append_nil, bType, bIsi, bLen, bInt, ty_int, ty_bl, ty_str, ty_non, ty_tup, isT, oIs, oIsNot, run_eqI, run_neI, Bool.or_false, Bool.or_true, Bool.false_or, Bool.true_or, Bool.and_true, Bool.and_false, Bool.true_and, Bool.false_and, reduceCtorEq, decide_not, Bool.not_eq_true', decide_eq_false_iff_not, askInt, askBool, askTuple, askList, askStr, oLe, oLt, oGe, oGt, oInt2, atI0, atI1, atI2, run_addI, run_subI]
  exact ⟨hv.up (by decide) (by decide), cs⟩
end PD.K01

/-! ## K01N6 -/
set_option Elab.async false
set_option linter.all false
set_option maxRecDepth 100000
set_option maxHeartbeats 4000000
namespace PD.K01
open PySem PySem.Spec L2 PD
theorem Good.gr {c : Nat} {S S' : Store} {d L : Nat} {v : Val} (h : Good c S d L v) (k : Kp S S') (hd : d < 66) : Good c S' d L v := h.kx k.kx hd
theorem Good.cs {c : Nat} {S S' : Store} {d L : Nat} {v : Val} (h : Good c S d L v) (k : Cs c S S') (hd : d < 66) : Good c S' d L v := h.kx k.2 hd
theorem CupAt.lt {c : Nat} {S : Store} (h : CupAt c S) : c < S.length := by
  obtain ⟨a, b, e, _⟩ := h
  exact (List.getElem?_eq_some_iff.mp e).1
theorem Good.num {c : Nat} {S : Store} {d : Nat} {i : Int} (h : -1000000 ≤ i) (h' : i ≤ 1000000) : Good c S d 101 (.int i) :=
  .int (Nat.lt_of_lt_of_le (show i.natAbs < 10 ^ 7 by omega) (Nat.pow_le_pow_right (by decide) (by decide))) (Nat.le_refl _)
def ChI (c : Nat) (S0 : Store) (j : Nat) (ρ : PD.Env) (S : Store) : Prop := ∃ v x y, ρ = [some (.ref c), some v, x, y] ∧ Good c S j (101 + 211 * j) v ∧ Cs c S0 S
theorem l_chain {c n : Nat} {S : Store} (hc : CupAt c S) (hn : 1 < n) : Run ((fns n)._law_chain [.ref c] S) (fun r S' => Good c S' 36 8000 r ∧ Cs c S S') := by
  obtain ⟨n, rfl⟩ : ∃ m, n = m + 2 := ⟨n - 2, by omega⟩
  show Run (fnOf 1 4 (b__law_chain (fns (n + 1))) [.ref c] S) _
  unfold b__law_chain
  refine run_fn rfl rfl ?_
  refine s_step (N' := ChI c S 0) ?_ ?_
  · simp only [run_ok, run_okI, run_okB, run_alloc, run_stuck, run_bind, run_ite, run_noX, run_fnOf, w_c, w_op, w_un, w_call, w_callK, w_nil, w_cons, w_tup, w_lst, isB_bl, w_tval, w_tand, w_tor, w_tnot, w_and, w_or, w_not, w_if, s_next, s_seq, s_if, s_ret, s_drop, s_set, s_par, s_put, s_asg, w_var', runS_next, runS_ret, runS_stuck, runS_ite, List.length_cons, List.length_nil, List.length_singleton, List.map_cons, List.map_nil, List.cons_append, List.nil_append, List.replicate_succ, List.replicate_zero, List.getElem?_cons_zero, List.getElem?_cons_succ, List.set_cons_zero, List.set_cons_succ, Nat.reduceAdd, Nat.reduceSub, Nat.reduceEqDiff, ite_true, ite_false, if_true, if_false, reduceIte, Bool.false_eq_true, decide_true, decide_false, String.reduceEq, Int.reduceEq, Nat.reduceLeDiff, true_and, and_true, Bool.not_true, Bool.not_false, decide_eq_true_eq, List.append_nil, bType, bIsi, bLen, bInt, ty_int, ty_bl, ty_str, ty_non, ty_tup, isT, oIs, oIsNot, run_eqI, run_neI, Bool.or_false, Bool.or_true, Bool.false_or, Bool.true_or, Bool.and_true, Bool.and_false, Bool.true_and, Bool.false_and, reduceCtorEq, decide_not, Bool.not_eq_true', decide_eq_false_iff_not, askInt, askBool, askTuple, askList, askStr, oLe, oLt, oGe, oGt, oInt2, atI0, atI1, atI2, run_addI, run_subI]
    exact ⟨_, _, _, rfl, .num (by decide) (by decide), .refl hc⟩
  rintro ρ S1 ⟨v, x, y, rfl, hv, cs⟩
  have hturn : ∀ (j : Nat) (x : Val) (ρ : PD.Env) (S1 : Store), j < 36 → ChI c S j ρ S1 → ∃ ρ1, gN 2 x ρ = some ρ1 ∧ RunS ((sSeq (sSet 3 (dOp oIx (dLst (aCons (dC (.int 0)) (aCons (dC (.int 0)) (aCons (dC (.int 0)) (aCons (dC (.int 1)) (aCons (dC (.int 1)) (aCons (dC (.int 1)) (aCons (dC (.int 2)) aNil)))))))) (dCall (fns (n + 1))._law_sip (aCons (dVar 0) (aCons (dC (.int 7)) aNil)))))
    (sSet 1 (dOp oIx (dLst (aCons (dTup (aCons (dC (.int 0)) (aCons (dVar 1) aNil))) (aCons (dTup (aCons (dC (.int 0)) (aCons (dC (.int 0)) (aCons (dVar 1) aNil)))) (aCons (dLst (aCons (dVar 1) aNil)) aNil)))) (dVar 3)))) ρ1 S1) (ChI c S (j + 1)) (fun r S' => Good c S' 36 8000 r ∧ Cs c S S') := by
    rintro j x0 ρ S1 hj ⟨v, x, y, rfl, hv, cs⟩
    refine ⟨[some (.ref c), some v, some x0, y], rfl, ?_⟩
    refine s_step (N' := fun ρ S' => (∃ i : Int, ρ = [some (.ref c), some v, some x0, some (.int i)] ∧ 0 ≤ i ∧ i < 3) ∧ Cs c S1 S') ?_ ?_
    · simp only [run_ok, run_okI, run_okB, run_alloc, run_stuck, run_bind, run_ite, run_noX, run_fnOf, w_c, w_op, w_un, w_call, w_callK, w_nil, w_cons, w_tup, w_lst, isB_bl, w_tval, w_tand, w_tor, w_tnot, w_and, w_or, w_not, w_if, s_next, s_seq, s_if, s_ret, s_drop, s_set, s_par, s_put, s_asg, w_var', runS_next, runS_ret, runS_stuck, runS_ite, List.length_cons, List.length_nil, List.length_singleton, List.map_cons, List.map_nil, List.cons_append, List.nil_append, List.replicate_succ, List.replicate_zero, List.getElem?_cons_zero, List.getElem?_cons_succ, List.set_cons_zero, List.set_cons_succ, Nat.reduceAdd, Nat.reduceSub, Nat.reduceEqDiff, ite_true, ite_false, if_true, if_false, reduceIte, Bool.false_eq_true, decide_true, decide_false, String.reduceEq, Int.reduceEq, Nat.reduceLeDiff, true_and, and_true, Bool.not_true, Bool.not_false, decide_eq_true_eq, List.append_nil, bType, bIsi, bLen, bInt, ty_int, ty_bl, ty_str, ty_non, ty_tup, isT, oIs, oIsNot, run_eqI, run_neI, Bool.or_false, Bool.or_true, Bool.false_or, Bool.true_or, Bool.and_true, Bool.and_false, Bool.true_and, Bool.false_and, reduceCtorEq, decide_not, Bool.not_eq_true', decide_eq_false_iff_not, askInt, askBool, askTuple, askList, askStr, oLe, oLt, oGe, oGt, oInt2, atI0, atI1, atI2, run_addI, run_subI]
      refine Run.mono (l_draw (k := 7) (P := fun x => ∃ i : Int, x = .int i ∧ 0 ≤ i ∧ i < 3) cs.1 rfl rfl (by decide) (by decide) (by omega) ?_) fun x S1 hx => Run.mono hx fun x S5 hx => ?_
      · intro x hx
        simp only [List.mem_cons, List.not_mem_nil, or_false] at hx
        rcases hx with rfl | rfl | rfl | rfl | rfl | rfl | rfl <;> exact ⟨_, rfl, by decide, by decide⟩
      · obtain ⟨⟨i, rfl, h0, h1⟩, cs2⟩ := hx
        exact ⟨⟨_, rfl, h0, h1⟩, cs2⟩
    rintro ρ S2 ⟨⟨i, rfl, h0, h1⟩, cs2⟩
    have hv2 := hv.cs cs2 (by omega)
    have cs3 := cs.trans cs2
    simp only [run_ok, run_okI, run_okB, run_alloc, run_stuck, run_bind, run_ite, run_noX, run_fnOf, w_c, w_op, w_un, w_call, w_callK, w_nil, w_cons, w_tup, w_lst, isB_bl, w_tval, w_tand, w_tor, w_tnot, w_and, w_or, w_not, w_if, s_next, s_seq, s_if, s_ret, s_drop, s_set, s_par, s_put, s_asg, w_var', runS_next, runS_ret, runS_stuck, runS_ite, List.length_cons, List.length_nil, List.length_singleton, List.map_cons, List.map_nil, List.cons_append, List.nil_append, List.replicate_succ, List.replicate_zero, List.getElem?_cons_zero, List.getElem?_cons_succ, List.set_cons_zero, List.set_cons_succ, Nat.reduceAdd, Nat.reduceSub, Nat.reduceEqDiff, ite_true, ite_false, if_true, if_false, reduceIte, Bool.false_eq_true, decide_true, decide_false, String.reduceEq, Int.reduceEq, Nat.reduceLeDiff, true_and, and_true, Bool.not_true, Bool.not_false, decide_eq_true_eq, List.append_nil, bType, bIsi, bLen, bInt, ty_int, ty_bl, ty_str, ty_non, ty_tup, isT, oIs, oIsNot, run_eqI, run_neI, Bool.or_false, Bool.or_true, Bool.false_or, Bool.true_or, Bool.and_true, Bool.and_false, Bool.true_and, Bool.false_and, reduceCtorEq, decide_not, Bool.not_eq_true', decide_eq_false_iff_not, askInt, askBool, askTuple, askList, askStr, oLe, oLt, oGe, oGt, oInt2, atI0, atI1, atI2, run_addI, run_subI]
    have hlt := cs3.1.lt
    have hv3 : Good c (S2 ++ [Cell.lst [v]]) j (101 + 211 * j) v := hv2.gr (Gr.add _ _).kp (by omega)
    have hl : Good c (S2 ++ [Cell.lst [v]]) (j + 1) (101 + 211 * (j + 1)) (.ref S2.length) := .ref (L := 101 + 211 * j + 2) (by omega) (get_new _ _) (.cons hv3 (.nil 0) (by omega)) (by omega) (by omega)
    have n0 : Good c (S2 ++ [Cell.lst [v]]) j 101 (.int 0) := .num (by decide) (by decide)
    have h2 : Good c (S2 ++ [Cell.lst [v]]) (j + 1) (101 + 211 * (j + 1)) (.tup [.int 0, v]) := .two n0 hv3 (by omega) (by omega)
    have h3 : Good c (S2 ++ [Cell.lst [v]]) (j + 1) (101 + 211 * (j + 1)) (.tup [.int 0, .int 0, v]) := .three n0 n0 hv3 (by omega) (by omega)
    refine Run.mono (run_pick (Good c (S2 ++ [Cell.lst [v]]) (j + 1) (101 + 211 * (j + 1))) (get_new _ _) h0 h1 ?_) fun x S3 ⟨hx, e⟩ => ?_
    · intro x hx
      simp only [List.mem_cons, List.not_mem_nil, or_false] at hx
      rcases hx with rfl | rfl | rfl
      · exact h2
      · exact h3
      · exact hl
    · subst e
      exact ⟨_, _, _, rfl, hx.gr (Gr.add _ _).kp (by omega), (cs3.kp (Gr.add _ _).kp).kp (Gr.add _ _).kp⟩
  refine s_step (N' := fun ρ S' => (∃ v x y, ρ = [some (.ref c), some v, x, y] ∧ Good c S' 36 8000 v) ∧ Cs c S S') ?_ ?_
  · rw [s_forR]
    simp only [run_ok, run_okI, run_okB, run_alloc, run_stuck, run_bind, run_ite, run_noX, run_fnOf, w_c, w_op, w_un, w_call, w_callK, w_nil, w_cons, w_tup, w_lst, isB_bl, w_tval, w_tand, w_tor, w_tnot, w_and, w_or, w_not, w_if, s_next, s_seq, s_if, s_ret, s_drop, s_set, s_par, s_put, s_asg, w_var', runS_next, runS_ret, runS_stuck, runS_ite, List.length_cons, List.length_nil, List.length_singleton, List.map_cons, List.map_nil, List.cons_append, List.nil_append, List.replicate_succ, List.replicate_zero, List.getElem?_cons_zero, List.getElem?_cons_succ, List.set_cons_zero, List.set_cons_succ, Nat.reduceAdd, Nat.reduceSub, Nat.reduceEqDiff, ite_true, ite_false, if_true, if_false, reduceIte, Bool.false_eq_true, decide_true, decide_false, String.reduceEq, Int.reduceEq, Nat.reduceLeDiff, true_and, and_true, Bool.not_true, Bool.not_false, decide_eq_true_eq, List.append_nil, bType, bIsi, bLen, bInt, ty_int, ty_bl, ty_str, ty_non, ty_tup, isT, oIs, oIsNot, run_eqI, run_neI, Bool.or_false, Bool.or_true, Bool.false_or, Bool.true_or, Bool.and_true, Bool.and_false, Bool.true_and, Bool.false_and, reduceCtorEq, decide_not, Bool.not_eq_true', decide_eq_false_iff_not, askInt, askBool, askTuple, askList, askStr, oLe, oLt, oGe, oGt, oInt2, atI0, atI1, atI2, run_addI, run_subI]
    refine Run.mono (l_sip cs.1 (by decide) (by decide) (by omega)) fun x S3 ⟨⟨i, e, g0, g1⟩, cs3⟩ => ?_
    subst e
    rw [run_addI]
    show if -(2 ^ 62) ≤ 11 + i ∧ 11 + i < 2 ^ 62 then _ else False
    rw [if_pos (by constructor <;> omega)]
    refine RunS.mono (runS_loopV 36 (ChI c S) hturn (rangeV 0 (11 + i).toNat) 0 _ _ (by rw [rangeV_len]; omega) ⟨_, _, _, rfl, hv.cs cs3 (by omega), cs.trans cs3⟩) ?_ fun _ _ h => h
    rw [rangeV_len]
    rintro ρ S4 ⟨v, x, y, rfl, hv, cs⟩
    exact ⟨⟨_, _, _, rfl, hv.up (by omega) (by omega)⟩, cs⟩
  rintro ρ S2 ⟨⟨v, x, y, rfl, hv⟩, cs⟩
  simp only [run_ok, run_okI, run_okB, run_alloc, run_stuck, run_bind, run_ite, run_noX, run_fnOf, w_c, w_op, w_un, w_call, w_callK, w_nil, w_cons, w_tup, w_lst, isB_bl, w_tval, w_tand, w_tor, w_tnot, w_and, w_or, w_not, w_if, s_next, s_seq, s_if, s_ret, s_drop, s_set, s_par, s_put, s_asg, w_var', runS_next, runS_ret, runS_stuck, runS_ite, List.length_cons, List.length_nil, List.length_singleton, List.map_cons, List.map_nil, List.cons_append, List.nil_append, List.replicate_succ, List.replicate_zero, List.getElem?_cons_zero, List.getElem?_cons_succ, List.set_cons_zero, List.set_cons_succ, Nat.reduceAdd, Nat.reduceSub, Nat.reduceEqDiff, ite_true, ite_false, if_true, if_false, reduceIte, Bool.false_eq_true, decide_true, decide_false, String.reduceEq, Int.reduceEq, Nat.reduceLeDiff, true_and, and_true, Bool.not_true, Bool.not_false, decide_eq_true_eq, List.append_nil, bType, bIsi, bLen, bInt, ty_int, ty_bl, ty_str, ty_non, ty_tup, isT, oIs, oIsNot, run_eqI, run_neI, Bool.or_false, Bool.or_true, Bool.false_or, Bool.true_or, Bool.and_true, Bool.and_false, Bool.true_and, Bool.false_and, reduceCtorEq, decide_not, Bool.not_eq_true', decide_eq_false_iff_not, askInt, askBool, askTuple, askList, askStr, oLe, oLt, oGe, oGt, oInt2, atI0, atI1, atI2, run_addI, run_subI]
  exact ⟨hv, cs⟩
end PD.K01

/-! ## K01N7 -/
set_option Elab.async false
set_option linter.all false
set_option maxRecDepth 100000
set_option maxHeartbeats 4000000
namespace PD.K01
open PySem PySem.Spec L2 PD
theorem w_sl {f : D} {l h : DO} {ρ : PD.Env} {S : Store} {Q : Val → Store → Prop} : Run (dSl f l h ρ S) Q = Run (f ρ S) fun x S1 => Run (l ρ S1) fun lo S2 => Run (h ρ S2) fun hi S3 => Run (vSl x lo hi S3) Q := by
  unfold dSl
  rw [run_bind]
  congr; funext x S1
  rw [run_bind]
  congr; funext lo S2
  rw [run_bind]
theorem w_oNone {ρ : PD.Env} {S : Store} {Q : Option Int → Store → Prop} : Run (oNone ρ S) Q = Q none S := rfl
theorem w_oSome {f : D} {ρ : PD.Env} {S : Store} {Q : Option Int → Store → Prop} : Run (oSome f ρ S) Q = Run (f ρ S) fun x S1 => match x with | .int i => Q (some i) S1 | _ => False := by
  unfold oSome
  rw [run_bind]
  congr; funext x S1
  cases x <;> rfl
theorem run_slT {xs : List Val} {lo hi : Option Int} {S : Store} {Q : Val → Store → Prop} : Run (vSl (.tup xs) lo hi S) Q = Q (.tup (cutL xs lo hi)) S := rfl
theorem run_addT {xs ys : List Val} {S : Store} {Q : Val → Store → Prop} (h : xs.length + ys.length ≤ 16777216) : Run (oAdd (.tup xs) (.tup ys) S) Q = Q (.tup (xs ++ ys)) S := by
  show Run (if xs.length + ys.length ≤ 16777216 then .ok (.tup (xs ++ ys)) S else .stuck) Q = _
  rw [if_pos h]; rfl
theorem run_addL {xs ys : List Val} {n m : Nat} {S : Store} {Q : Val → Store → Prop} (h1 : S[n]? = some (.lst xs)) (h2 : S[m]? = some (.lst ys)) (h : xs.length + ys.length ≤ 16777216) : Run (oAdd (.ref n) (.ref m) S) Q = Q (.ref S.length) (S ++ [.lst (xs ++ ys)]) := by
  show Run (match S[n]?, S[m]? with
    | some (.lst xs), some (.lst ys) => if xs.length + ys.length ≤ 16777216 then alloc (xs ++ ys) S else .stuck
    | _, _ => .stuck) Q = _
  rw [h1, h2]
  show Run (if xs.length + ys.length ≤ 16777216 then alloc (xs ++ ys) S else .stuck) Q = _
  rw [if_pos h]; rfl
theorem run_neg {i : Int} {S : Store} {Q : Val → Store → Prop} : Run (oNeg (.int i) S) Q = Q (.int (-i)) S := rfl
theorem ix0 {a : Val} {xs : List Val} {S : Store} {Q : Val → Store → Prop} : Run (oIx (.tup (a :: xs)) (.int 0) S) Q = Q a S := by
  unfold oIx
  simp only [atI0]; rfl
/-- a list at var 4 of the law's bent values -/
def BeI (c d L len : Nat) (t : Val) (b : Bool) (S0 : Store) (ρ : PD.Env) (S : Store) : Prop := ∃ m xs, ρ = [some (.ref c), some t, some (.bl b), none, some (.ref m)] ∧ m ≠ c ∧ S[m]? = some (.lst xs) ∧ xs.length = len ∧ (∀ x ∈ xs, Good c S (d + 2) (2 * L + 500) x) ∧ Cs c S0 S
theorem canLay_ascii0 : (PyData.str (Str.ofString "0")).canLay0 = true ∧ (reprText (Str.ofString "0")).length ≤ 500 ∧ (PyData.str (Str.ofString "1")).canLay0 = true ∧ (reprText (Str.ofString "1")).length ≤ 500 ∧ PyData.strOk (reprText (Str.ofString "0")) = true ∧ PyData.strOk (reprText (Str.ofString "1")) = true := by decide +kernel
section
variable {x y w : Val}
theorem cut20 : cutL [x, y] none (some 0) = [] := rfl
theorem cut21 : cutL [x, y] none (some 1) = [x] := rfl
theorem cut2a : cutL [x, y] (some (0 + 1)) none = [y] := rfl
theorem cut2b : cutL [x, y] (some (1 + 1)) none = [] := rfl
theorem cut30 : cutL [x, y, w] none (some 0) = [] := rfl
theorem cut31 : cutL [x, y, w] none (some 1) = [x] := rfl
theorem cut32 : cutL [x, y, w] none (some 2) = [x, y] := rfl
theorem cut3a : cutL [x, y, w] (some (0 + 1)) none = [y, w] := rfl
theorem cut3b : cutL [x, y, w] (some (1 + 1)) none = [w] := rfl
theorem cut3c : cutL [x, y, w] (some (2 + 1)) none = [] := rfl
end
theorem bent_join {c e M N : Nat} {pre post : List Val} {S S2 : Store} {r : Res Val} (hr : Run r (fun r S' => Good c S' (e + 2) (2 * M + 500) r ∧ Cs c S2 S')) (cs : Cs c S S2) (h1 : pre.length ≤ 3) (h2 : post.length ≤ 3) (hG : ∀ (S' : Store) (r : Val), Good c S' (e + 2) (2 * M + 500) r → Good c S' (e + 2 + 1) N (.tup (pre ++ [r] ++ post))) :
    Run r fun x S1 => Run (oAdd (.tup pre) (.tup [x]) S1) fun x2 S1 => Run (oAdd x2 (.tup post) S1) fun r S' => Good c S' (e + 1 + 2) N r ∧ Cs c S S' := by
  refine Run.mono hr fun x S3 ⟨hx, cs3⟩ => ?_
  rw [run_addT (by rw [List.length_singleton]; omega), run_addT (by rw [List.length_append, List.length_singleton]; omega)]
  exact ⟨(hG S3 x hx).up (by omega) (Nat.le_refl _), cs.trans cs3⟩
theorem l_bent : ∀ (d L n c : Nat) (b : Bool) (t : Val) (S : Store), CupAt c S → Tw d L t → d + 1 < n → d < 40 → Run ((fns n)._law_bent [.ref c, t, .bl b] S) (fun r S' => Good c S' (d + 2) (2 * L + 500) r ∧ Cs c S S')
  | d, L, 0, c, b, t, S, _, _, h, _ => absurd h (Nat.not_lt_zero _)
  | d, L, n + 1, c, b, t, S, hc, ht, h, hd => by
    show Run (fnOf 3 5 (b__law_bent (fns n)) [.ref c, t, .bl b] S) _
    unfold b__law_bent
    refine run_fn rfl rfl ?_
    refine s_step (N' := fun ρ S' => ρ = [some (.ref c), some t, some (.bl b), none, none] ∧ Cs c S S') ?_ ?_
    · cases ht with
      | int => simp only [run_ok, run_okI, run_okB, run_alloc, run_stuck, run_bind, run_ite, run_noX, run_fnOf, w_c, w_op, w_un, w_call, w_callK, w_nil, w_cons, w_tup, w_lst, isB_bl, w_tval, w_tand, w_tor, w_tnot, w_and, w_or, w_not, w_if, s_next, s_seq, s_if, s_ret, s_drop, s_set, s_par, s_put, s_asg, w_var', runS_next, runS_ret, runS_stuck, runS_ite, List.length_cons, List.length_nil, List.length_singleton, List.map_cons, List.map_nil, List.cons_append, List.nil_append, List.replicate_succ, List.replicate_zero, List.getElem?_cons_zero, List.getElem?_cons_succ, List.set_cons_zero, List.set_cons_succ, Nat.reduceAdd, Nat.reduceSub, Nat.reduceEqDiff, ite_true, ite_false, if_true, if_false, reduceIte, Bool.false_eq_true, decide_true, decide_false, String.reduceEq, Int.reduceEq, Nat.reduceLeDiff, true_and, and_true, Bool.not_true, Bool.not_false, decide_eq_true_eq, List.append_nil, bType, bIsi, bLen, bInt, ty_int, ty_bl, ty_str, ty_non, ty_tup, isT, oIs, oIsNot, run_eqI, run_neI, Bool.or_false, Bool.or_true, Bool.false_or, Bool.true_or, Bool.and_true, Bool.and_false, Bool.true_and, Bool.false_and, reduceCtorEq, decide_not, Bool.not_eq_true', decide_eq_false_iff_not, askInt, askBool, askTuple, askList, askStr, oLe, oLt, oGe, oGt, oInt2, atI0, atI1, atI2, run_addI, run_subI]; exact .refl hc
      | @two d L M N x y hx hy hN =>
        simp only [run_ok, run_okI, run_okB, run_alloc, run_stuck, run_bind, run_ite, run_noX, run_fnOf, w_c, w_op, w_un, w_call, w_callK, w_nil, w_cons, w_tup, w_lst, isB_bl, w_tval, w_tand, w_tor, w_tnot, w_and, w_or, w_not, w_if, s_next, s_seq, s_if, s_ret, s_drop, s_set, s_par, s_put, s_asg, w_var', runS_next, runS_ret, runS_stuck, runS_ite, List.length_cons, List.length_nil, List.length_singleton, List.map_cons, List.map_nil, List.cons_append, List.nil_append, List.replicate_succ, List.replicate_zero, List.getElem?_cons_zero, List.getElem?_cons_succ, List.set_cons_zero, List.set_cons_succ, Nat.reduceAdd, Nat.reduceSub, Nat.reduceEqDiff, ite_true, ite_false, if_true, if_false, reduceIte, Bool.false_eq_true, decide_true, decide_false, String.reduceEq, Int.reduceEq, Nat.reduceLeDiff, true_and, and_true, Bool.not_true, Bool.not_false, decide_eq_true_eq, List.append_nil, bType, bIsi, bLen, bInt, ty_int, ty_bl, ty_str, ty_non, ty_tup, isT, oIs, oIsNot, run_eqI, run_neI, Bool.or_false, Bool.or_true, Bool.false_or, Bool.true_or, Bool.and_true, Bool.and_false, Bool.true_and, Bool.false_and, reduceCtorEq, decide_not, Bool.not_eq_true', decide_eq_false_iff_not, askInt, askBool, askTuple, askList, askStr, oLe, oLt, oGe, oGt, oInt2, atI0, atI1, atI2, run_addI, run_subI]
        refine Run.mono (l_sip hc (by decide) (by decide) (by omega)) fun z S1 ⟨⟨i, e, g0, g1⟩, cs1⟩ => ?_
        subst e
        simp only [run_ok, run_okI, run_okB, run_alloc, run_stuck, run_bind, run_ite, run_noX, run_fnOf, w_c, w_op, w_un, w_call, w_callK, w_nil, w_cons, w_tup, w_lst, isB_bl, w_tval, w_tand, w_tor, w_tnot, w_and, w_or, w_not, w_if, s_next, s_seq, s_if, s_ret, s_drop, s_set, s_par, s_put, s_asg, w_var', runS_next, runS_ret, runS_stuck, runS_ite, List.length_cons, List.length_nil, List.length_singleton, List.map_cons, List.map_nil, List.cons_append, List.nil_append, List.replicate_succ, List.replicate_zero, List.getElem?_cons_zero, List.getElem?_cons_succ, List.set_cons_zero, List.set_cons_succ, Nat.reduceAdd, Nat.reduceSub, Nat.reduceEqDiff, ite_true, ite_false, if_true, if_false, reduceIte, Bool.false_eq_true, decide_true, decide_false, String.reduceEq, Int.reduceEq, Nat.reduceLeDiff, true_and, and_true, Bool.not_true, Bool.not_false, decide_eq_true_eq, List.append_nil, bType, bIsi, bLen, bInt, ty_int, ty_bl, ty_str, ty_non, ty_tup, isT, oIs, oIsNot, run_eqI, run_neI, Bool.or_false, Bool.or_true, Bool.false_or, Bool.true_or, Bool.and_true, Bool.and_false, Bool.true_and, Bool.false_and, reduceCtorEq, decide_not, Bool.not_eq_true', decide_eq_false_iff_not, askInt, askBool, askTuple, askList, askStr, oLe, oLt, oGe, oGt, oInt2, atI0, atI1, atI2, run_addI, run_subI]
        split
        · refine Run.mono (l_sip cs1.1 (by decide) (by decide) (by omega)) fun z S2 ⟨⟨i, e, g0, g1⟩, cs2⟩ => ?_
          subst e
          have cs := cs1.trans cs2
          rcases (by omega : i = 0 ∨ i = 1) with rfl | rfl
          · simp only [w_sl, w_oNone, w_oSome, run_slT, ix0, ix1, cut20, cut21, cut2a, cut2b, run_ok, run_okI, run_okB, run_alloc, run_stuck, run_bind, run_ite, run_noX, run_fnOf, w_c, w_op, w_un, w_call, w_callK, w_nil, w_cons, w_tup, w_lst, isB_bl, w_tval, w_tand, w_tor, w_tnot, w_and, w_or, w_not, w_if, s_next, s_seq, s_if, s_ret, s_drop, s_set, s_par, s_put, s_asg, w_var', runS_next, runS_ret, runS_stuck, runS_ite, List.length_cons, List.length_nil, List.length_singleton, List.map_cons, List.map_nil, List.cons_append, List.nil_append, List.replicate_succ, List.replicate_zero, List.getElem?_cons_zero, List.getElem?_cons_succ, List.set_cons_zero, List.set_cons_succ, Nat.reduceAdd, Nat.reduceSub, Nat.reduceEqDiff, ite_true, ite_false, if_true, if_false, reduceIte, Bool.false_eq_true, decide_true, decide_false, String.reduceEq, Int.reduceEq, Nat.reduceLeDiff, true_and, and_true, Bool.not_true, Bool.not_false, decide_eq_true_eq, List.append_nil, bType, bIsi, bLen, bInt, ty_int, ty_bl, ty_str, ty_non, ty_tup, isT, oIs, oIsNot, run_eqI, run_neI, Bool.or_false, Bool.or_true, Bool.false_or, Bool.true_or, Bool.and_true, Bool.and_false, Bool.true_and, Bool.false_and, reduceCtorEq, decide_not, Bool.not_eq_true', decide_eq_false_iff_not, askInt, askBool, askTuple, askList, askStr, oLe, oLt, oGe, oGt, oInt2, atI0, atI1, atI2, run_addI, run_subI]
            split
            all_goals exact bent_join (pre := []) (post := [y]) (l_bent d L n c _ x S2 cs.1 hx (by omega) (by omega)) cs (Nat.le_of_ble_eq_true rfl) (Nat.le_of_ble_eq_true rfl) fun S' r hr => .two hr ((hy.good (by omega)).up (by omega) (Nat.le_refl _)) (by omega) (by omega)
          · simp only [w_sl, w_oNone, w_oSome, run_slT, ix0, ix1, cut20, cut21, cut2a, cut2b, run_ok, run_okI, run_okB, run_alloc, run_stuck, run_bind, run_ite, run_noX, run_fnOf, w_c, w_op, w_un, w_call, w_callK, w_nil, w_cons, w_tup, w_lst, isB_bl, w_tval, w_tand, w_tor, w_tnot, w_and, w_or, w_not, w_if, s_next, s_seq, s_if, s_ret, s_drop, s_set, s_par, s_put, s_asg, w_var', runS_next, runS_ret, runS_stuck, runS_ite, List.length_cons, List.length_nil, List.length_singleton, List.map_cons, List.map_nil, List.cons_append, List.nil_append, List.replicate_succ, List.replicate_zero, List.getElem?_cons_zero, List.getElem?_cons_succ, List.set_cons_zero, List.set_cons_succ, Nat.reduceAdd, Nat.reduceSub, Nat.reduceEqDiff, ite_true, ite_false, if_true, if_false, reduceIte, Bool.false_eq_true, decide_true, decide_false, String.reduceEq, Int.reduceEq, Nat.reduceLeDiff, true_and, and_true, Bool.not_true, Bool.not_false, decide_eq_true_eq, List.append_nil, bType, bIsi, bLen, bInt, ty_int, ty_bl, ty_str, ty_non, ty_tup, isT, oIs, oIsNot, run_eqI, run_neI, Bool.or_false, Bool.or_true, Bool.false_or, Bool.true_or, Bool.and_true, Bool.and_false, Bool.true_and, Bool.false_and, reduceCtorEq, decide_not, Bool.not_eq_true', decide_eq_false_iff_not, askInt, askBool, askTuple, askList, askStr, oLe, oLt, oGe, oGt, oInt2, atI0, atI1, atI2, run_addI, run_subI]
            split
            all_goals exact bent_join (pre := [x]) (post := []) (l_bent d M n c _ y S2 cs.1 hy (by omega) (by omega)) cs (Nat.le_of_ble_eq_true rfl) (Nat.le_of_ble_eq_true rfl) fun S' r hr => .two ((hx.good (by omega)).up (by omega) (Nat.le_refl _)) hr (by omega) (by omega)
        · exact cs1
      | @three d L M K N x y w hx hy hw hN =>
        simp only [run_ok, run_okI, run_okB, run_alloc, run_stuck, run_bind, run_ite, run_noX, run_fnOf, w_c, w_op, w_un, w_call, w_callK, w_nil, w_cons, w_tup, w_lst, isB_bl, w_tval, w_tand, w_tor, w_tnot, w_and, w_or, w_not, w_if, s_next, s_seq, s_if, s_ret, s_drop, s_set, s_par, s_put, s_asg, w_var', runS_next, runS_ret, runS_stuck, runS_ite, List.length_cons, List.length_nil, List.length_singleton, List.map_cons, List.map_nil, List.cons_append, List.nil_append, List.replicate_succ, List.replicate_zero, List.getElem?_cons_zero, List.getElem?_cons_succ, List.set_cons_zero, List.set_cons_succ, Nat.reduceAdd, Nat.reduceSub, Nat.reduceEqDiff, ite_true, ite_false, if_true, if_false, reduceIte, Bool.false_eq_true, decide_true, decide_false, String.reduceEq, Int.reduceEq, Nat.reduceLeDiff, true_and, and_true, Bool.not_true, Bool.not_false, decide_eq_true_eq, List.append_nil, bType, bIsi, bLen, bInt, ty_int, ty_bl, ty_str, ty_non, ty_tup, isT, oIs, oIsNot, run_eqI, run_neI, Bool.or_false, Bool.or_true, Bool.false_or, Bool.true_or, Bool.and_true, Bool.and_false, Bool.true_and, Bool.false_and, reduceCtorEq, decide_not, Bool.not_eq_true', decide_eq_false_iff_not, askInt, askBool, askTuple, askList, askStr, oLe, oLt, oGe, oGt, oInt2, atI0, atI1, atI2, run_addI, run_subI]
        refine Run.mono (l_sip hc (by decide) (by decide) (by omega)) fun z S1 ⟨⟨i, e, g0, g1⟩, cs1⟩ => ?_
        subst e
        simp only [run_ok, run_okI, run_okB, run_alloc, run_stuck, run_bind, run_ite, run_noX, run_fnOf, w_c, w_op, w_un, w_call, w_callK, w_nil, w_cons, w_tup, w_lst, isB_bl, w_tval, w_tand, w_tor, w_tnot, w_and, w_or, w_not, w_if, s_next, s_seq, s_if, s_ret, s_drop, s_set, s_par, s_put, s_asg, w_var', runS_next, runS_ret, runS_stuck, runS_ite, List.length_cons, List.length_nil, List.length_singleton, List.map_cons, List.map_nil, List.cons_append, List.nil_append, List.replicate_succ, List.replicate_zero, List.getElem?_cons_zero, List.getElem?_cons_succ, List.set_cons_zero, List.set_cons_succ, Nat.reduceAdd, Nat.reduceSub, Nat.reduceEqDiff, ite_true, ite_false, if_true, if_false, reduceIte, Bool.false_eq_true, decide_true, decide_false, String.reduceEq, Int.reduceEq, Nat.reduceLeDiff, true_and, and_true, Bool.not_true, Bool.not_false, decide_eq_true_eq, List.append_nil, bType, bIsi, bLen, bInt, ty_int, ty_bl, ty_str, ty_non, ty_tup, isT, oIs, oIsNot, run_eqI, run_neI, Bool.or_false, Bool.or_true, Bool.false_or, Bool.true_or, Bool.and_true, Bool.and_false, Bool.true_and, Bool.false_and, reduceCtorEq, decide_not, Bool.not_eq_true', decide_eq_false_iff_not, askInt, askBool, askTuple, askList, askStr, oLe, oLt, oGe, oGt, oInt2, atI0, atI1, atI2, run_addI, run_subI]
        split
        · refine Run.mono (l_sip cs1.1 (by decide) (by decide) (by omega)) fun z S2 ⟨⟨i, e, g0, g1⟩, cs2⟩ => ?_
          subst e
          have cs := cs1.trans cs2
          rcases (by omega : i = 0 ∨ i = 1 ∨ i = 2) with rfl | rfl | rfl
          · simp only [w_sl, w_oNone, w_oSome, run_slT, ix0, ix1, ix2, cut30, cut31, cut32, cut3a, cut3b, cut3c, run_ok, run_okI, run_okB, run_alloc, run_stuck, run_bind, run_ite, run_noX, run_fnOf, w_c, w_op, w_un, w_call, w_callK, w_nil, w_cons, w_tup, w_lst, isB_bl, w_tval, w_tand, w_tor, w_tnot, w_and, w_or, w_not, w_if, s_next, s_seq, s_if, s_ret, s_drop, s_set, s_par, s_put, s_asg, w_var', runS_next, runS_ret, runS_stuck, runS_ite, List.length_cons, List.length_nil, List.length_singleton, List.map_cons, List.map_nil, List.cons_append, List.nil_append, List.replicate_succ, List.replicate_zero, List.getElem?_cons_zero, List.getElem?_cons_succ, List.set_cons_zero, List.set_cons_succ, Nat.reduceAdd, Nat.reduceSub, Nat.reduceEqDiff, ite_true, ite_false, if_true, if_false, reduceIte, Bool.false_eq_true, decide_true, decide_false, String.reduceEq, Int.reduceEq, Nat.reduceLeDiff, true_and, and_true, Bool.not_true, Bool.not_false, decide_eq_true_eq, List.append_nil, bType, bIsi, bLen, bInt, ty_int, ty_bl, ty_str, ty_non, ty_tup, isT, oIs, oIsNot, run_eqI, run_neI, Bool.or_false, Bool.or_true, Bool.false_or, Bool.true_or, Bool.and_true, Bool.and_false, Bool.true_and, Bool.false_and, reduceCtorEq, decide_not, Bool.not_eq_true', decide_eq_false_iff_not, askInt, askBool, askTuple, askList, askStr, oLe, oLt, oGe, oGt, oInt2, atI0, atI1, atI2, run_addI, run_subI]
            split
            all_goals exact bent_join (pre := []) (post := [y, w]) (l_bent d L n c _ x S2 cs.1 hx (by omega) (by omega)) cs (Nat.le_of_ble_eq_true rfl) (Nat.le_of_ble_eq_true rfl) fun S' r hr => .three hr ((hy.good (by omega)).up (by omega) (Nat.le_refl _)) ((hw.good (by omega)).up (by omega) (Nat.le_refl _)) (by omega) (by omega)
          · simp only [w_sl, w_oNone, w_oSome, run_slT, ix0, ix1, ix2, cut30, cut31, cut32, cut3a, cut3b, cut3c, run_ok, run_okI, run_okB, run_alloc, run_stuck, run_bind, run_ite, run_noX, run_fnOf, w_c, w_op, w_un, w_call, w_callK, w_nil, w_cons, w_tup, w_lst, isB_bl, w_tval, w_tand, w_tor, w_tnot, w_and, w_or, w_not, w_if, s_next, s_seq, s_if, s_ret, s_drop, s_set, s_par, s_put, s_asg, w_var', runS_next, runS_ret, runS_stuck, runS_ite, List.length_cons, List.length_nil, List.length_singleton, List.map_cons, List.map_nil, List.cons_append, List.nil_append, List.replicate_succ, List.replicate_zero, List.getElem?_cons_zero, List.getElem?_cons_succ, List.set_cons_zero, List.set_cons_succ, Nat.reduceAdd, Nat.reduceSub, Nat.reduceEqDiff, ite_true, ite_false, if_true, if_false, reduceIte, Bool.false_eq_true, decide_true, decide_false, String.reduceEq, Int.reduceEq, Nat.reduceLeDiff, true_and, and_true, Bool.not_true, Bool.not_false, decide_eq_true_eq, List.append_nil, bType, bIsi, bLen, bInt, ty_int, ty_bl, ty_str, ty_non, ty_tup, isT, oIs, oIsNot, run_eqI, run_neI, Bool.or_false, Bool.or_true, Bool.false_or, Bool.true_or, Bool.and_true, Bool.and_false, Bool.true_and, Bool.false_and, reduceCtorEq, decide_not, Bool.not_eq_true', decide_eq_false_iff_not, askInt, askBool, askTuple, askList, askStr, oLe, oLt, oGe, oGt, oInt2, atI0, atI1, atI2, run_addI, run_subI]
            split
            all_goals exact bent_join (pre := [x]) (post := [w]) (l_bent d M n c _ y S2 cs.1 hy (by omega) (by omega)) cs (Nat.le_of_ble_eq_true rfl) (Nat.le_of_ble_eq_true rfl) fun S' r hr => .three ((hx.good (by omega)).up (by omega) (Nat.le_refl _)) hr ((hw.good (by omega)).up (by omega) (Nat.le_refl _)) (by omega) (by omega)
          · simp only [w_sl, w_oNone, w_oSome, run_slT, ix0, ix1, ix2, cut30, cut31, cut32, cut3a, cut3b, cut3c, run_ok, run_okI, run_okB, run_alloc, run_stuck, run_bind, run_ite, run_noX, run_fnOf, w_c, w_op, w_un, w_call, w_callK, w_nil, w_cons, w_tup, w_lst, isB_bl, w_tval, w_tand, w_tor, w_tnot, w_and, w_or, w_not, w_if, s_next, s_seq, s_if, s_ret, s_drop, s_set, s_par, s_put, s_asg, w_var', runS_next, runS_ret, runS_stuck, runS_ite, List.length_cons, List.length_nil, List.length_singleton, List.map_cons, List.map_nil, List.cons_append, List.nil_append, List.replicate_succ, List.replicate_zero, List.getElem?_cons_zero, List.getElem?_cons_succ, List.set_cons_zero, List.set_cons_succ, Nat.reduceAdd, Nat.reduceSub, Nat.reduceEqDiff, ite_true, ite_false, if_true, if_false, reduceIte, Bool.false_eq_true, decide_true, decide_false, String.reduceEq, Int.reduceEq, Nat.reduceLeDiff, true_and, and_true, Bool.not_true, Bool.not_false, decide_eq_true_eq, List.append_nil, bType, bIsi, bLen, bInt, ty_int, ty_bl, ty_str, ty_non, ty_tup, isT, oIs, oIsNot, run_eqI, run_neI, Bool.or_false, Bool.or_true, Bool.false_or, Bool.true_or, Bool.and_true, Bool.and_false, Bool.true_and, Bool.false_and, reduceCtorEq, decide_not, Bool.not_eq_true', decide_eq_false_iff_not, askInt, askBool, askTuple, askList, askStr, oLe, oLt, oGe, oGt, oInt2, atI0, atI1, atI2, run_addI, run_subI]
            split
            all_goals exact bent_join (pre := [x, y]) (post := []) (l_bent d K n c _ w S2 cs.1 hw (by omega) (by omega)) cs (Nat.le_of_ble_eq_true rfl) (Nat.le_of_ble_eq_true rfl) fun S' r hr => .three ((hx.good (by omega)).up (by omega) (Nat.le_refl _)) ((hy.good (by omega)).up (by omega) (Nat.le_refl _)) hr (by omega) (by omega)
        · exact cs1
    rintro ρ S1 ⟨rfl, cs⟩
    have hp : ∀ {S : Store} {Q : Val → Store → Prop}, Run (oPow (.int 10) (.int 30) S) Q = Q (.int (10 ^ (30 : Int).toNat)) S := fun {S Q} => by
      show Run (if (0 : Int) ≤ 30 ∧ (30 : Int) ≤ 1000000 ∧ (10 : Int).natAbs < 2 ^ 64 then okI ((10 : Int) ^ (30 : Int).toNat) S else .stuck) Q = _
      rw [if_pos ⟨by decide, by decide, by decide⟩]; rfl
    have num : ∀ (S : Store) (d : Nat) (i : Int), -10 ≤ i → i ≤ 10 → Good c S d 101 (.int i) := fun S d i h0 h1 => .num (by omega) (by omega)
    have tr : ∀ S : Store, Good c S d L t := fun S => ht.good (by omega)
    have two : ∀ (S : Store) (d : Nat) (i j : Int), d < 60 → -10 ≤ i → i ≤ 10 → -10 ≤ j → j ≤ 10 → Good c S (d + 1) 209 (.tup [.int i, .int j]) := fun S d i j hd h1 h2 h3 h4 => .two (num S d i h1 h2) (num S d j h3 h4) (by omega) (Nat.le_refl _)
    have three : ∀ (S : Store) (d : Nat) (i j k : Int), d < 60 → -10 ≤ i → i ≤ 10 → -10 ≤ j → j ≤ 10 → -10 ≤ k → k ≤ 10 → Good c S (d + 1) 312 (.tup [.int i, .int j, .int k]) := fun S d i j k hd h1 h2 h3 h4 h5 h6 => .three (num S d i h1 h2) (num S d j h3 h4) (num S d k h5 h6) (by omega) (Nat.le_refl _)
    have sN : ∀ (T : Store) (i : Int), -10 ≤ i → i ≤ 10 → Good c T (d + 2) (2 * L + 500) (.int i) := fun T i h0 h1 => (num T _ i h0 h1).up (Nat.le_refl _) (by omega)
    have s2 : ∀ (T : Store) (i j : Int), -10 ≤ i → i ≤ 10 → -10 ≤ j → j ≤ 10 → Good c T (d + 2) (2 * L + 500) (.tup [.int i, .int j]) := fun T i j h1 h2 h3 h4 => (two T (d + 1) i j (by omega) h1 h2 h3 h4).up (Nat.le_refl _) (by omega)
    have s3 : ∀ (T : Store) (i j k : Int), -10 ≤ i → i ≤ 10 → -10 ≤ j → j ≤ 10 → -10 ≤ k → k ≤ 10 → Good c T (d + 2) (2 * L + 500) (.tup [.int i, .int j, .int k]) := fun T i j k h1 h2 h3 h4 h5 h6 => (three T (d + 1) i j k (by omega) h1 h2 h3 h4 h5 h6).up (Nat.le_refl _) (by omega)
    refine s_step (N' := BeI c d L 16 t b S) ?_ ?_
    · simp only [w_un, run_neg, run_ok, run_okI, run_okB, run_alloc, run_stuck, run_bind, run_ite, run_noX, run_fnOf, w_c, w_op, w_un, w_call, w_callK, w_nil, w_cons, w_tup, w_lst, isB_bl, w_tval, w_tand, w_tor, w_tnot, w_and, w_or, w_not, w_if, s_next, s_seq, s_if, s_ret, s_drop, s_set, s_par, s_put, s_asg, w_var', runS_next, runS_ret, runS_stuck, runS_ite, List.length_cons, List.length_nil, List.length_singleton, List.map_cons, List.map_nil, List.cons_append, List.nil_append, List.replicate_succ, List.replicate_zero, List.getElem?_cons_zero, List.getElem?_cons_succ, List.set_cons_zero, List.set_cons_succ, Nat.reduceAdd, Nat.reduceSub, Nat.reduceEqDiff, ite_true, ite_false, if_true, if_false, reduceIte, Bool.false_eq_true, decide_true, decide_false, String.reduceEq, Int.reduceEq, Nat.reduceLeDiff, true_and, and_true, Bool.not_true, Bool.not_false, decide_eq_true_eq, List.append_nil, bType, bIsi, bLen, bInt, ty_int, ty_bl, ty_str, ty_non, ty_tup, isT, oIs, oIsNot, run_eqI, run_neI, Bool.or_false, Bool.or_true, Bool.false_or, Bool.true_or, Bool.and_true, Bool.and_false, Bool.true_and, Bool.false_and, reduceCtorEq, decide_not, Bool.not_eq_true', decide_eq_false_iff_not, askInt, askBool, askTuple, askList, askStr, oLe, oLt, oGe, oGt, oInt2, atI0, atI1, atI2, run_addI, run_subI]
      refine ⟨_, _, rfl, Nat.ne_of_gt cs.1.lt, get_new _ _, rfl, ?_, cs.kp (Gr.add _ _).kp⟩
      simp only [List.mem_cons, List.not_mem_nil, or_false, forall_eq_or_imp, forall_eq]
      generalize S1 ++ _ = T
      refine ⟨sN _ _ (by decide) (by decide), sN _ _ (by decide) (by decide), sN _ _ (by decide) (by decide), sN _ _ (by decide) (by decide), .bl (by omega), .bl (by omega), .non (by omega), .str canLay_ascii0.1 (Nat.le_trans canLay_ascii0.2.1 (by omega)) canLay_ascii0.2.2.2.2.1, .tup (L := 0) (.nil _) (by omega) (by omega), s2 _ _ _ ?_ ?_ ?_ ?_, s2 _ _ _ ?_ ?_ ?_ ?_, s2 _ _ _ ?_ ?_ ?_ ?_, s2 _ _ _ ?_ ?_ ?_ ?_, s3 _ _ _ _ ?_ ?_ ?_ ?_ ?_ ?_, s3 _ _ _ _ ?_ ?_ ?_ ?_ ?_ ?_, s3 _ _ _ _ ?_ ?_ ?_ ?_ ?_ ?_⟩ <;> decide
    clear cs
    rintro ρ S1 ⟨m, xs, rfl, hmc, hm, hlen, hxs, cs⟩
    refine s_step (N' := BeI c d L 24 t b S) ?_ ?_
    · simp only [hp, run_ok, run_okI, run_okB, run_alloc, run_stuck, run_bind, run_ite, run_noX, run_fnOf, w_c, w_op, w_un, w_call, w_callK, w_nil, w_cons, w_tup, w_lst, isB_bl, w_tval, w_tand, w_tor, w_tnot, w_and, w_or, w_not, w_if, s_next, s_seq, s_if, s_ret, s_drop, s_set, s_par, s_put, s_asg, w_var', runS_next, runS_ret, runS_stuck, runS_ite, List.length_cons, List.length_nil, List.length_singleton, List.map_cons, List.map_nil, List.cons_append, List.nil_append, List.replicate_succ, List.replicate_zero, List.getElem?_cons_zero, List.getElem?_cons_succ, List.set_cons_zero, List.set_cons_succ, Nat.reduceAdd, Nat.reduceSub, Nat.reduceEqDiff, ite_true, ite_false, if_true, if_false, reduceIte, Bool.false_eq_true, decide_true, decide_false, String.reduceEq, Int.reduceEq, Nat.reduceLeDiff, true_and, and_true, Bool.not_true, Bool.not_false, decide_eq_true_eq, List.append_nil, bType, bIsi, bLen, bInt, ty_int, ty_bl, ty_str, ty_non, ty_tup, isT, oIs, oIsNot, run_eqI, run_neI, Bool.or_false, Bool.or_true, Bool.false_or, Bool.true_or, Bool.and_true, Bool.and_false, Bool.true_and, Bool.false_and, reduceCtorEq, decide_not, Bool.not_eq_true', decide_eq_false_iff_not, askInt, askBool, askTuple, askList, askStr, oLe, oLt, oGe, oGt, oInt2, atI0, atI1, atI2, run_addI, run_subI]
      have hlt := cs.1.lt
      have hA := (get_new S1 (.lst [.int 0, .int 1]))
      have hB := (get_new (S1 ++ [.lst [.int 0, .int 1]]) (.lst [.int 0, .int 0, .int 1]))
      have hC := (get_new (S1 ++ [.lst [.int 0, .int 1]] ++ [.lst [.int 0, .int 0, .int 1]]) (.lst [t]))
      have kA := (Gr.add S1 [.lst [.int 0, .int 1]])
      have kB := (Gr.add (S1 ++ [.lst [.int 0, .int 1]]) [.lst [.int 0, .int 0, .int 1]])
      have kC := (Gr.add (S1 ++ [.lst [.int 0, .int 1]] ++ [.lst [.int 0, .int 0, .int 1]]) [.lst [t]])
      have cA := cs.1.add (d := .lst [.int 0, .int 1])
      have cB := cA.add (d := .lst [.int 0, .int 0, .int 1])
      have lA := cA.lt
      have lB := cB.lt
      generalize S1 ++ [.lst [.int 0, .int 1]] = A at *
      generalize A ++ [.lst [.int 0, .int 0, .int 1]] = B at *
      generalize B ++ [.lst [t]] = C at *
      have kC' := (kA.trans kB).trans kC
      rw [run_addL ((Gr.add _ _).get (kC'.get hm)) (get_new _ _) (by rw [hlen]; show 16 + 8 ≤ 16777216; decide)]
      have cC : CupAt c C := cs.1.kp kC'.kp
      have k2 := fun (x y : Cell) => (Gr.add C [x]).trans (Gr.add _ [y])
      refine ⟨_, _, rfl, Nat.ne_of_gt cC.add.lt, get_new _ _, by rw [List.length_append, hlen]; rfl, ?_, cs.kp (kC'.trans (k2 _ _)).kp⟩
      intro x hx
      rcases List.mem_append.mp hx with hx' | hx'
      · exact (hxs x hx').gr (kC'.trans (k2 _ _)).kp (by omega)
      clear hx
      revert x
      have gA := ((kB.trans kC).trans (k2 (.lst [.ref S1.length, .ref A.length, .tup [t, t], .tup [.int 0, t, t], .tup [t], .ref B.length, .int (10 ^ (30 : Int).toNat), .tup [.int 0, .int 1, .int 0, .int 1]]) (.lst (xs ++ [.ref S1.length, .ref A.length, .tup [t, t], .tup [.int 0, t, t], .tup [t], .ref B.length, .int (10 ^ (30 : Int).toNat), .tup [.int 0, .int 1, .int 0, .int 1]])))).get hA
      have gB := (kC.trans (k2 (.lst [.ref S1.length, .ref A.length, .tup [t, t], .tup [.int 0, t, t], .tup [t], .ref B.length, .int (10 ^ (30 : Int).toNat), .tup [.int 0, .int 1, .int 0, .int 1]]) (.lst (xs ++ [.ref S1.length, .ref A.length, .tup [t, t], .tup [.int 0, t, t], .tup [t], .ref B.length, .int (10 ^ (30 : Int).toNat), .tup [.int 0, .int 1, .int 0, .int 1]])))).get hB
      have gC := (k2 (.lst [.ref S1.length, .ref A.length, .tup [t, t], .tup [.int 0, t, t], .tup [t], .ref B.length, .int (10 ^ (30 : Int).toNat), .tup [.int 0, .int 1, .int 0, .int 1]]) (.lst (xs ++ [.ref S1.length, .ref A.length, .tup [t, t], .tup [.int 0, t, t], .tup [t], .ref B.length, .int (10 ^ (30 : Int).toNat), .tup [.int 0, .int 1, .int 0, .int 1]]))).get hC
      simp only [List.mem_cons, List.not_mem_nil, or_false, forall_eq_or_imp, forall_eq]
      generalize (C ++ _) ++ _ = T at *
      have d0 := num T (d + 1) 0 (by decide) (by decide)
      have d1 := num T (d + 1) 1 (by decide) (by decide)
      have dt := (tr T).up (Nat.le_succ d) (Nat.le_refl L)
      refine ⟨.ref (L := 206) (by omega) gA (.cons d0 (.cons d1 (.nil 0) (Nat.le_refl _)) (by omega)) (by omega) (by omega), .ref (L := 309) (by omega) gB (.cons d0 (.cons d0 (.cons d1 (.nil 0) (Nat.le_refl _)) (Nat.le_refl _)) (by omega)) (by omega) (by omega), .two dt dt (by omega) (by omega), .three d0 dt dt (by omega) (by omega), .one dt (by omega) (by omega), .ref (L := L + 2) (by omega) gC (.cons dt (.nil 0) (by omega)) (by omega) (by omega), .int (by decide +kernel) (by omega), .tup (L := 412) (.cons d0 (.cons d1 (.cons d0 (.cons d1 (.nil 0) (Nat.le_refl _)) (Nat.le_refl _)) (Nat.le_refl _)) (by omega)) (by omega) (by omega)⟩
    clear cs hmc hm hlen hxs
    rintro ρ S1 ⟨m, xs, rfl, hmc, hm, hlen, hxs, cs⟩
    refine s_step (N' := BeI c d L 29 t b S) ?_ ?_
    · simp only [run_ok, run_okI, run_okB, run_alloc, run_stuck, run_bind, run_ite, run_noX, run_fnOf, w_c, w_op, w_un, w_call, w_callK, w_nil, w_cons, w_tup, w_lst, isB_bl, w_tval, w_tand, w_tor, w_tnot, w_and, w_or, w_not, w_if, s_next, s_seq, s_if, s_ret, s_drop, s_set, s_par, s_put, s_asg, w_var', runS_next, runS_ret, runS_stuck, runS_ite, List.length_cons, List.length_nil, List.length_singleton, List.map_cons, List.map_nil, List.cons_append, List.nil_append, List.replicate_succ, List.replicate_zero, List.getElem?_cons_zero, List.getElem?_cons_succ, List.set_cons_zero, List.set_cons_succ, Nat.reduceAdd, Nat.reduceSub, Nat.reduceEqDiff, ite_true, ite_false, if_true, if_false, reduceIte, Bool.false_eq_true, decide_true, decide_false, String.reduceEq, Int.reduceEq, Nat.reduceLeDiff, true_and, and_true, Bool.not_true, Bool.not_false, decide_eq_true_eq, List.append_nil, bType, bIsi, bLen, bInt, ty_int, ty_bl, ty_str, ty_non, ty_tup, isT, oIs, oIsNot, run_eqI, run_neI, Bool.or_false, Bool.or_true, Bool.false_or, Bool.true_or, Bool.and_true, Bool.and_false, Bool.true_and, Bool.false_and, reduceCtorEq, decide_not, Bool.not_eq_true', decide_eq_false_iff_not, askInt, askBool, askTuple, askList, askStr, oLe, oLt, oGe, oGt, oInt2, atI0, atI1, atI2, run_addI, run_subI]
      rw [run_addL ((Gr.add _ _).get hm) (get_new _ _) (by rw [hlen]; decide)]
      refine ⟨_, _, rfl, Nat.ne_of_gt (cs.1.add).lt, get_new _ _, by rw [List.length_append, hlen]; rfl, ?_, (cs.kp (Gr.add _ _).kp).kp (Gr.add _ _).kp⟩
      intro x hx
      rcases List.mem_append.mp hx with hx' | hx'
      · exact (hxs x hx').gr (Kp.trans (Gr.add _ _).kp (Gr.add _ _).kp) (by omega)
      clear hx
      revert x
      simp only [List.mem_cons, List.not_mem_nil, or_false, forall_eq_or_imp, forall_eq]
      generalize (S1 ++ _) ++ _ = T
      refine ⟨.three (num T _ 1 (by decide) (by decide)) (num T _ 0 (by decide) (by decide)) (two T d 0 1 (by omega) (by decide) (by decide) (by decide) (by decide)) (by omega) (by omega), .three (L := 5) (.bl (by decide)) (num T _ 0 (by decide) (by decide)) (num T _ 1 (by decide) (by decide)) (by omega) (by omega), .two (M := 5) (num T _ 0 (by decide) (by decide)) (.bl (by decide)) (by omega) (by omega), .two (num T _ 0 (by decide) (by decide)) (two T d 0 0 (by omega) (by decide) (by decide) (by decide) (by decide)) (by omega) (by omega), .str canLay_ascii0.2.2.1 (Nat.le_trans canLay_ascii0.2.2.2.1 (by omega)) canLay_ascii0.2.2.2.2.2⟩
    clear cs hmc hm hlen hxs
    rintro ρ S1 ⟨m, xs, rfl, hmc, hm, hlen, hxs, cs⟩
    simp only [run_ok, run_okI, run_okB, run_alloc, run_stuck, run_bind, run_ite, run_noX, run_fnOf, w_c, w_op, w_un, w_call, w_callK, w_nil, w_cons, w_tup, w_lst, isB_bl, w_tval, w_tand, w_tor, w_tnot, w_and, w_or, w_not, w_if, s_next, s_seq, s_if, s_ret, s_drop, s_set, s_par, s_put, s_asg, w_var', runS_next, runS_ret, runS_stuck, runS_ite, List.length_cons, List.length_nil, List.length_singleton, List.map_cons, List.map_nil, List.cons_append, List.nil_append, List.replicate_succ, List.replicate_zero, List.getElem?_cons_zero, List.getElem?_cons_succ, List.set_cons_zero, List.set_cons_succ, Nat.reduceAdd, Nat.reduceSub, Nat.reduceEqDiff, ite_true, ite_false, if_true, if_false, reduceIte, Bool.false_eq_true, decide_true, decide_false, String.reduceEq, Int.reduceEq, Nat.reduceLeDiff, true_and, and_true, Bool.not_true, Bool.not_false, decide_eq_true_eq, List.append_nil, bType, bIsi, bLen, bInt, ty_int, ty_bl, ty_str, ty_non, ty_tup, isT, oIs, oIsNot, run_eqI, run_neI, Bool.or_false, Bool.or_true, Bool.false_or, Bool.true_or, Bool.and_true, Bool.and_false, Bool.true_and, Bool.false_and, reduceCtorEq, decide_not, Bool.not_eq_true', decide_eq_false_iff_not, askInt, askBool, askTuple, askList, askStr, oLe, oLt, oGe, oGt, oInt2, atI0, atI1, atI2, run_addI, run_subI]
    refine Run.mono (l_sip cs.1 (by decide) (by decide) (by omega)) fun x S3 ⟨⟨i, e, g0, g1⟩, cs3⟩ => ?_
    subst e
    refine Run.mono (run_pick (Good c S3 (d + 2) (2 * L + 500)) (S := S3) (xs := xs) (cs3.2 _ _ hmc hm) g0 (by omega) fun x hx => (hxs x hx).cs cs3 (by omega)) fun x S4 ⟨hx, e⟩ => ?_
    subst e
    exact ⟨hx, cs.trans cs3⟩
end PD.K01

/-! ## K01N8 -/
set_option Elab.async false
set_option linter.all false
set_option maxRecDepth 100000
set_option maxHeartbeats 4000000
namespace PD.K01
open PySem PySem.Spec L2 PD
theorem l_same_bl {n : Nat} {a : Bool} {S : Store} : (fns (n + 1))._law_same [.bl a, .bl a] S = .ok (.bl true) S := by
  cases a <;> rfl
theorem oIs_ref {m : Nat} {S : Store} {Q : Val → Store → Prop} : Run (oIs (.ref m) .non S) Q = Q (.bl false) S := rfl
theorem oIs_refB {m : Nat} {b : Bool} {S : Store} {Q : Val → Store → Prop} : Run (oIs (.ref m) (.bl b) S) Q = Q (.bl false) S := rfl
theorem run_len {m : Nat} {xs : List Val} {S : Store} {Q : Val → Store → Prop} (h : S[m]? = some (.lst xs)) : Run (bLen [.ref m] S) Q = Q (.int xs.length) S := by
  show Run (match S[m]? with | some c => okI c.items.length S | none => .stuck) Q = _
  rw [h]; rfl
theorem isi_list {m : Nat} {xs : List Val} {S : Store} {T : String} {Q : Val → Store → Prop} (h : S[m]? = some (.lst xs)) (hT : T ∈ askedT) : Run (bIsi [.ref m, .ty T] S) Q = Q (.bl (isT "list" T)) S := by
  have := ty_ref (S := S) h
  simp only [this, hT, run_ok, run_okI, run_okB, run_alloc, run_stuck, run_bind, run_ite, run_noX, run_fnOf, w_c, w_op, w_un, w_call, w_callK, w_nil, w_cons, w_tup, w_lst, isB_bl, w_tval, w_tand, w_tor, w_tnot, w_and, w_or, w_not, w_if, s_next, s_seq, s_if, s_ret, s_drop, s_set, s_par, s_put, s_asg, w_var', runS_next, runS_ret, runS_stuck, runS_ite, List.length_cons, List.length_nil, List.length_singleton, List.map_cons, List.map_nil, List.cons_append, List.nil_append, List.replicate_succ, List.replicate_zero, List.getElem?_cons_zero, List.getElem?_cons_succ, List.set_cons_zero, List.set_cons_succ, Nat.reduceAdd, Nat.reduceSub, Nat.reduceEqDiff, ite_true, ite_false, if_true, if_false, reduceIte, Bool.false_eq_true, decide_true, decide_false, String.reduceEq, Int.reduceEq, Nat.reduceLeDiff, true_and, and_true, Bool.not_true, Bool.not_false, decide_eq_true_eq, List.append_nil, bType, bIsi, bLen, bInt, ty_int, ty_bl, ty_str, ty_non, ty_tup, isT, oIs, oIsNot, run_eqI, run_neI, Bool.or_false, Bool.or_true, Bool.false_or, Bool.true_or, Bool.and_true, Bool.and_false, Bool.true_and, Bool.false_and, reduceCtorEq, decide_not, Bool.not_eq_true', decide_eq_false_iff_not, askInt, askBool, askTuple, askList, askStr, oLe, oLt, oGe, oGt, oInt2, atI0, atI1, atI2, run_addI, run_subI]
theorem run_neB {a b : Bool} {S : Store} {Q : Val → Store → Prop} : Run (oNe (.bl a) (.bl b) S) Q = Q (.bl (!(a == b))) S := by
  cases a <;> cases b <;> rfl
theorem run_lcr {as : DA} {v : Nat} {f : D} {vs : List Nat} {ρ : PD.Env} {S : Store} {j : Nat} {g : Val → Val} (e : as ρ S = .ok [.int j] S) (hj : j ≤ 1000000) (he : ∀ x ∈ rangeV 0 j, ∀ S', Gr S S' → Run (f ((wipeE ρ vs).set v (some x)) S') (PureQ S' (g x))) :
    Run (dLCR as (gN v) tYes' f vs ρ S) (fun r S' => ∃ S1, r = .ref S1.length ∧ S' = S1 ++ [.lst ((rangeV 0 j).map g)] ∧ Gr S S1) := by
  unfold dLCR
  rw [run_bind, e, run_ok]
  show Run (if -(2 ^ 62) ≤ (j : Int) ∧ (j : Int) < 2 ^ 62 then (compG (srcL (rangeV 0 j)) (gN v) tYes' f j 0 [] (wipeE ρ vs) S).bind alloc else .stuck) _
  rw [if_pos (by constructor <;> omega), run_bind]
  have := comp_pure0 (f := f) (v := v) (ρ := wipeE ρ vs) (g := g) (rangeV 0 j) S (by rw [rangeV_len]; omega) he
  rw [rangeV_len] at this
  refine Run.mono this fun ys S1 ⟨e1, g1⟩ => ?_
  subst e1
  exact ⟨_, rfl, rfl, g1⟩
theorem l_same {n f g : Nat} {bs : List Bool} {S : Store} (hf : S[f]? = some (.lst (bs.map Val.bl))) (hg : S[g]? = some (.lst (bs.map Val.bl))) (hl : bs.length ≤ 1000) (hn : 1 < n) : Run ((fns n)._law_same [.ref f, .ref g] S) (fun r S' => r = .bl true ∧ Kp S S') := by
  obtain ⟨n, rfl⟩ : ∃ m, n = m + 2 := ⟨n - 2, by omega⟩
  show Run (fnOf 2 3 (b__law_same (fns (n + 1))) [.ref f, .ref g] S) _
  unfold b__law_same
  have tf := ty_ref (S := S) hf
  have tg := ty_ref (S := S) hg
  refine run_fn rfl rfl ?_
  have N : ∀ {b d : SD} {R : Val → Store → Prop} {M : PD.Env → Store → Prop}, RunS (b [some (.ref f), some (.ref g), none] S) (fun ρ S' => ρ = [some (.ref f), some (.ref g), none] ∧ S' = S) R → RunS (d [some (.ref f), some (.ref g), none] S) M R → RunS (sSeq b d [some (.ref f), some (.ref g), none] S) M R := fun {b d R M} h1 h2 => s_step h1 fun ρ S' ⟨e1, e2⟩ => by subst e1 e2; exact h2
  refine N ?_ (N ?_ (N ?_ (N ?_ (N ?_ (N ?_ (N ?_ ?_))))))
  · simp only [oIs_ref, run_ok, run_okI, run_okB, run_alloc, run_stuck, run_bind, run_ite, run_noX, run_fnOf, w_c, w_op, w_un, w_call, w_callK, w_nil, w_cons, w_tup, w_lst, isB_bl, w_tval, w_tand, w_tor, w_tnot, w_and, w_or, w_not, w_if, s_next, s_seq, s_if, s_ret, s_drop, s_set, s_par, s_put, s_asg, w_var', runS_next, runS_ret, runS_stuck, runS_ite, List.length_cons, List.length_nil, List.length_singleton, List.map_cons, List.map_nil, List.cons_append, List.nil_append, List.replicate_succ, List.replicate_zero, List.getElem?_cons_zero, List.getElem?_cons_succ, List.set_cons_zero, List.set_cons_succ, Nat.reduceAdd, Nat.reduceSub, Nat.reduceEqDiff, ite_true, ite_false, if_true, if_false, reduceIte, Bool.false_eq_true, decide_true, decide_false, String.reduceEq, Int.reduceEq, Nat.reduceLeDiff, true_and, and_true, Bool.not_true, Bool.not_false, decide_eq_true_eq, List.append_nil, bType, bIsi, bLen, bInt, ty_int, ty_bl, ty_str, ty_non, ty_tup, isT, oIs, oIsNot, run_eqI, run_neI, Bool.or_false, Bool.or_true, Bool.false_or, Bool.true_or, Bool.and_true, Bool.and_false, Bool.true_and, Bool.false_and, reduceCtorEq, decide_not, Bool.not_eq_true', decide_eq_false_iff_not, askInt, askBool, askTuple, askList, askStr, oLe, oLt, oGe, oGt, oInt2, atI0, atI1, atI2, run_addI, run_subI]
  · simp only [oIs_refB, run_ok, run_okI, run_okB, run_alloc, run_stuck, run_bind, run_ite, run_noX, run_fnOf, w_c, w_op, w_un, w_call, w_callK, w_nil, w_cons, w_tup, w_lst, isB_bl, w_tval, w_tand, w_tor, w_tnot, w_and, w_or, w_not, w_if, s_next, s_seq, s_if, s_ret, s_drop, s_set, s_par, s_put, s_asg, w_var', runS_next, runS_ret, runS_stuck, runS_ite, List.length_cons, List.length_nil, List.length_singleton, List.map_cons, List.map_nil, List.cons_append, List.nil_append, List.replicate_succ, List.replicate_zero, List.getElem?_cons_zero, List.getElem?_cons_succ, List.set_cons_zero, List.set_cons_succ, Nat.reduceAdd, Nat.reduceSub, Nat.reduceEqDiff, ite_true, ite_false, if_true, if_false, reduceIte, Bool.false_eq_true, decide_true, decide_false, String.reduceEq, Int.reduceEq, Nat.reduceLeDiff, true_and, and_true, Bool.not_true, Bool.not_false, decide_eq_true_eq, List.append_nil, bType, bIsi, bLen, bInt, ty_int, ty_bl, ty_str, ty_non, ty_tup, isT, oIs, oIsNot, run_eqI, run_neI, Bool.or_false, Bool.or_true, Bool.false_or, Bool.true_or, Bool.and_true, Bool.and_false, Bool.true_and, Bool.false_and, reduceCtorEq, decide_not, Bool.not_eq_true', decide_eq_false_iff_not, askInt, askBool, askTuple, askList, askStr, oLe, oLt, oGe, oGt, oInt2, atI0, atI1, atI2, run_addI, run_subI]
  · simp only [oIs_refB, run_ok, run_okI, run_okB, run_alloc, run_stuck, run_bind, run_ite, run_noX, run_fnOf, w_c, w_op, w_un, w_call, w_callK, w_nil, w_cons, w_tup, w_lst, isB_bl, w_tval, w_tand, w_tor, w_tnot, w_and, w_or, w_not, w_if, s_next, s_seq, s_if, s_ret, s_drop, s_set, s_par, s_put, s_asg, w_var', runS_next, runS_ret, runS_stuck, runS_ite, List.length_cons, List.length_nil, List.length_singleton, List.map_cons, List.map_nil, List.cons_append, List.nil_append, List.replicate_succ, List.replicate_zero, List.getElem?_cons_zero, List.getElem?_cons_succ, List.set_cons_zero, List.set_cons_succ, Nat.reduceAdd, Nat.reduceSub, Nat.reduceEqDiff, ite_true, ite_false, if_true, if_false, reduceIte, Bool.false_eq_true, decide_true, decide_false, String.reduceEq, Int.reduceEq, Nat.reduceLeDiff, true_and, and_true, Bool.not_true, Bool.not_false, decide_eq_true_eq, List.append_nil, bType, bIsi, bLen, bInt, ty_int, ty_bl, ty_str, ty_non, ty_tup, isT, oIs, oIsNot, run_eqI, run_neI, Bool.or_false, Bool.or_true, Bool.false_or, Bool.true_or, Bool.and_true, Bool.and_false, Bool.true_and, Bool.false_and, reduceCtorEq, decide_not, Bool.not_eq_true', decide_eq_false_iff_not, askInt, askBool, askTuple, askList, askStr, oLe, oLt, oGe, oGt, oInt2, atI0, atI1, atI2, run_addI, run_subI]
  · simp only [isi_list hg, tg, run_ok, run_okI, run_okB, run_alloc, run_stuck, run_bind, run_ite, run_noX, run_fnOf, w_c, w_op, w_un, w_call, w_callK, w_nil, w_cons, w_tup, w_lst, isB_bl, w_tval, w_tand, w_tor, w_tnot, w_and, w_or, w_not, w_if, s_next, s_seq, s_if, s_ret, s_drop, s_set, s_par, s_put, s_asg, w_var', runS_next, runS_ret, runS_stuck, runS_ite, List.length_cons, List.length_nil, List.length_singleton, List.map_cons, List.map_nil, List.cons_append, List.nil_append, List.replicate_succ, List.replicate_zero, List.getElem?_cons_zero, List.getElem?_cons_succ, List.set_cons_zero, List.set_cons_succ, Nat.reduceAdd, Nat.reduceSub, Nat.reduceEqDiff, ite_true, ite_false, if_true, if_false, reduceIte, Bool.false_eq_true, decide_true, decide_false, String.reduceEq, Int.reduceEq, Nat.reduceLeDiff, true_and, and_true, Bool.not_true, Bool.not_false, decide_eq_true_eq, List.append_nil, bType, bIsi, bLen, bInt, ty_int, ty_bl, ty_str, ty_non, ty_tup, isT, oIs, oIsNot, run_eqI, run_neI, Bool.or_false, Bool.or_true, Bool.false_or, Bool.true_or, Bool.and_true, Bool.and_false, Bool.true_and, Bool.false_and, reduceCtorEq, decide_not, Bool.not_eq_true', decide_eq_false_iff_not, askInt, askBool, askTuple, askList, askStr, oLe, oLt, oGe, oGt, oInt2, atI0, atI1, atI2, run_addI, run_subI]
  · simp only [tg, run_ok, run_okI, run_okB, run_alloc, run_stuck, run_bind, run_ite, run_noX, run_fnOf, w_c, w_op, w_un, w_call, w_callK, w_nil, w_cons, w_tup, w_lst, isB_bl, w_tval, w_tand, w_tor, w_tnot, w_and, w_or, w_not, w_if, s_next, s_seq, s_if, s_ret, s_drop, s_set, s_par, s_put, s_asg, w_var', runS_next, runS_ret, runS_stuck, runS_ite, List.length_cons, List.length_nil, List.length_singleton, List.map_cons, List.map_nil, List.cons_append, List.nil_append, List.replicate_succ, List.replicate_zero, List.getElem?_cons_zero, List.getElem?_cons_succ, List.set_cons_zero, List.set_cons_succ, Nat.reduceAdd, Nat.reduceSub, Nat.reduceEqDiff, ite_true, ite_false, if_true, if_false, reduceIte, Bool.false_eq_true, decide_true, decide_false, String.reduceEq, Int.reduceEq, Nat.reduceLeDiff, true_and, and_true, Bool.not_true, Bool.not_false, decide_eq_true_eq, List.append_nil, bType, bIsi, bLen, bInt, ty_int, ty_bl, ty_str, ty_non, ty_tup, isT, oIs, oIsNot, run_eqI, run_neI, Bool.or_false, Bool.or_true, Bool.false_or, Bool.true_or, Bool.and_true, Bool.and_false, Bool.true_and, Bool.false_and, reduceCtorEq, decide_not, Bool.not_eq_true', decide_eq_false_iff_not, askInt, askBool, askTuple, askList, askStr, oLe, oLt, oGe, oGt, oInt2, atI0, atI1, atI2, run_addI, run_subI]
  · simp only [tf, tg, run_neB, run_ok, run_okI, run_okB, run_alloc, run_stuck, run_bind, run_ite, run_noX, run_fnOf, w_c, w_op, w_un, w_call, w_callK, w_nil, w_cons, w_tup, w_lst, isB_bl, w_tval, w_tand, w_tor, w_tnot, w_and, w_or, w_not, w_if, s_next, s_seq, s_if, s_ret, s_drop, s_set, s_par, s_put, s_asg, w_var', runS_next, runS_ret, runS_stuck, runS_ite, List.length_cons, List.length_nil, List.length_singleton, List.map_cons, List.map_nil, List.cons_append, List.nil_append, List.replicate_succ, List.replicate_zero, List.getElem?_cons_zero, List.getElem?_cons_succ, List.set_cons_zero, List.set_cons_succ, Nat.reduceAdd, Nat.reduceSub, Nat.reduceEqDiff, ite_true, ite_false, if_true, if_false, reduceIte, Bool.false_eq_true, decide_true, decide_false, String.reduceEq, Int.reduceEq, Nat.reduceLeDiff, true_and, and_true, Bool.not_true, Bool.not_false, decide_eq_true_eq, List.append_nil, bType, bIsi, bLen, bInt, ty_int, ty_bl, ty_str, ty_non, ty_tup, isT, oIs, oIsNot, run_eqI, run_neI, Bool.or_false, Bool.or_true, Bool.false_or, Bool.true_or, Bool.and_true, Bool.and_false, Bool.true_and, Bool.false_and, reduceCtorEq, decide_not, Bool.not_eq_true', decide_eq_false_iff_not, askInt, askBool, askTuple, askList, askStr, oLe, oLt, oGe, oGt, oInt2, atI0, atI1, atI2, run_addI, run_subI]
    simp
  · simp only [hf, hg, Cell.items, List.length_map, run_ok, run_okI, run_okB, run_alloc, run_stuck, run_bind, run_ite, run_noX, run_fnOf, w_c, w_op, w_un, w_call, w_callK, w_nil, w_cons, w_tup, w_lst, isB_bl, w_tval, w_tand, w_tor, w_tnot, w_and, w_or, w_not, w_if, s_next, s_seq, s_if, s_ret, s_drop, s_set, s_par, s_put, s_asg, w_var', runS_next, runS_ret, runS_stuck, runS_ite, List.length_cons, List.length_nil, List.length_singleton, List.map_cons, List.map_nil, List.cons_append, List.nil_append, List.replicate_succ, List.replicate_zero, List.getElem?_cons_zero, List.getElem?_cons_succ, List.set_cons_zero, List.set_cons_succ, Nat.reduceAdd, Nat.reduceSub, Nat.reduceEqDiff, ite_true, ite_false, if_true, if_false, reduceIte, Bool.false_eq_true, decide_true, decide_false, String.reduceEq, Int.reduceEq, Nat.reduceLeDiff, true_and, and_true, Bool.not_true, Bool.not_false, decide_eq_true_eq, List.append_nil, bType, bIsi, bLen, bInt, ty_int, ty_bl, ty_str, ty_non, ty_tup, isT, oIs, oIsNot, run_eqI, run_neI, Bool.or_false, Bool.or_true, Bool.false_or, Bool.true_or, Bool.and_true, Bool.and_false, Bool.true_and, Bool.false_and, reduceCtorEq, decide_not, Bool.not_eq_true', decide_eq_false_iff_not, askInt, askBool, askTuple, askList, askStr, oLe, oLt, oGe, oGt, oInt2, atI0, atI1, atI2, run_addI, run_subI]
  · rw [s_ret, w_call, w_cons]
    refine Run.mono (run_lcr (j := bs.length) (g := fun _ => .bl true) (by
      have := run_len (Q := fun v S' => aNil [some (.ref f), some (.ref g), none] S' = .ok [] S' ∧ v = .int bs.length ∧ S' = S) hg
      show (bLen [.ref g] S).bind (fun x S1 => Res.ok [x] S1) = _
      show Res.bind (match S[g]? with | some c => okI c.items.length S | none => .stuck) _ = _
      rw [hg]
      show Res.ok [Val.int (bs.map Val.bl).length] S = _
      rw [List.length_map]) (by omega) fun x hx S' hS => ?_) fun r S1 ⟨S2, e1, e2, g1⟩ => ?_
    · obtain ⟨i, hi, rfl⟩ := List.mem_map.mp hx
      rw [List.mem_range] at hi
      have hi' : i < (bs.map Val.bl).length := by rw [List.length_map]; omega
      have ef := hS.get hf
      have eg := hS.get hg
      simp only [wipeE, List.set_cons_succ, List.set_cons_zero, w_call, w_cons, w_nil, w_op, w_var', List.getElem?_cons_succ, List.getElem?_cons_zero, Int.zero_add, run_ixR ef, run_ixR eg, atI_nat (List.getElem?_eq_getElem hi'), run_ok, List.getElem_map, l_same_bl]
      exact ⟨rfl, .refl _⟩
    · subst e1 e2
      rw [w_nil]
      show Run (match (S2 ++ [Cell.lst ((rangeV 0 bs.length).map fun _ => Val.bl true)])[S2.length]? with
        | some c => match allSome (c.items.map asB) with
          | some bs => okB (bs.all id) _
          | none => .stuck
        | none => .stuck) _
      rw [get_new]
      have ha : allSome (List.map asB (List.map (fun _ => Val.bl true) (rangeV 0 bs.length))) = some (List.map (fun _ => true) (rangeV 0 bs.length)) := by
        rw [List.map_map]
        exact allSome_all fun x _ => rfl
      simp only [Cell.items, ha, run_okB]
      refine ⟨?_, (g1.trans (Gr.add _ _)).kp⟩
      congr 1
      rw [List.all_eq_true]
      intro b hb
      obtain ⟨_, _, rfl⟩ := List.mem_map.mp hb
      rfl
end PD.K01

/-! ## K01N9 -/
set_option Elab.async false
set_option linter.all false
set_option maxRecDepth 100000
set_option maxHeartbeats 4000000
namespace PD.K01
open PySem PySem.Spec L2 PD
theorem lt_le {i : Int} : decide (i < 64) = decide (i ≤ 63) := decide_eq_decide.mpr ⟨fun h => by omega, fun h => by omega⟩
/-- the law's own judgement of a share, of counts, within 63 tuples -/
theorem l_shOk {n e k : Nat} {v : Val} {ρ : PD.Env} {S : Store} (hr : ρ[k]? = some (some v)) (hv : Da S e v) (he : e < 60) (hn : 62 < n) :
    Run (dAnd (dCall (fns n)._law_is_share (aCons (dVar k) (aCons (dC (.int 12)) aNil))) (dOp oLt (dCall (fns n)._law_size (aCons (dVar k) aNil)) (dC (.int 64))) ρ S) (fun r S' => r = .bl (shOk v) ∧ S' = S) := by
  rw [w_and, w_call, w_cons, w_var hr, w_cons, w_c, w_nil]
  refine Run.mono (l_is_share e n 12 v S hv he (by omega)) fun r S1 ⟨e1, e2⟩ => ?_
  subst e1 e2
  rw [isB_bl]
  unfold shOk
  split
  · rename_i h
    rw [w_op, w_call, w_cons, w_var hr, w_nil]
    refine Run.mono (l_size 12 n v S1 (isSh_sz 12 v h) (by omega)) fun r S2 ⟨e1, e2⟩ => ?_
    subst e1 e2
    rw [w_c]
    exact ⟨by rw [h, Bool.true_and, ← lt_le], rfl⟩
  · rename_i h
    exact ⟨by rw [Bool.not_eq_true] at h; rw [h, Bool.false_and], rfl⟩
theorem l_coOk {n e k : Nat} {v : Val} {ρ : PD.Env} {S : Store} (hr : ρ[k]? = some (some v)) (hv : Da S e v) (he : e < 50) (hn : 62 < n) :
    Run (dAnd (dCall (fns n)._law_is_counts (aCons (dVar k) (aCons (dC (.int 12)) aNil))) (dOp oLt (dCall (fns n)._law_size (aCons (dVar k) aNil)) (dC (.int 64))) ρ S) (fun r S' => r = .bl (coOk v) ∧ S' = S) := by
  rw [w_and, w_call, w_cons, w_var hr, w_cons, w_c, w_nil]
  refine Run.mono (l_is_counts e n 12 v S hv he (by omega) (by omega)) fun r S1 ⟨e1, e2⟩ => ?_
  subst e1 e2
  rw [isB_bl]
  unfold coOk
  split
  · rename_i h
    rw [w_op, w_call, w_cons, w_var hr, w_nil]
    refine Run.mono (l_size 12 n v S1 (isCo_sz 12 v h) (by omega)) fun r S2 ⟨e1, e2⟩ => ?_
    subst e1 e2
    rw [w_c]
    exact ⟨by rw [h, Bool.true_and, ← lt_le], rfl⟩
  · rename_i h
    exact ⟨by rw [Bool.not_eq_true] at h; rw [h, Bool.false_and], rfl⟩
section
variable {m : Nat} {a b : Val} {xs : List Val} {S : Store} {Q : Val → Store → Prop}
theorem ixr0 (h : S[m]? = some (.lst (a :: xs))) : Run (oIx (.ref m) (.int 0) S) Q = Q a S := by rw [run_ixR h, atI0]; rfl
theorem ixr1 (h : S[m]? = some (.lst (a :: b :: xs))) : Run (oIx (.ref m) (.int 1) S) Q = Q b S := by rw [run_ixR h, atI1]; rfl
theorem ixn0 : Run (oIx (.ref (List.length S)) (.int 0) (S ++ [.lst (a :: xs)])) Q = Q a (S ++ [.lst (a :: xs)]) := ixr0 (get_new _ _)
theorem ixn1 : Run (oIx (.ref (List.length S)) (.int 1) (S ++ [.lst (a :: b :: xs)])) Q = Q b (S ++ [.lst (a :: b :: xs)]) := ixr1 (get_new _ _)
end
theorem pick0 {v : Val} : pick [0] [v] = [v] := rfl
theorem str_da {S : Store} {d : Nat} {a b : Bool} : Da S d (.str (if a then (if b then "let" else "counts") else (if b then "let" else "share"))) := by
  cases a <;> cases b <;> exact .str _ _ (by decide +kernel)
theorem l_right {c n d L e : Nat} {s v : Val} {S : Store} (hv : Good c S d L v) (hd : d < 50) (hL : L ≤ 16777216) (hs : Da S e s) (he : e < 50) (hn : 70 < n) : Run ((fns n)._law_value_right [s, v] S) (fun r S' => r = .bl true ∧ Kp S S') := by
  obtain ⟨n, rfl⟩ : ∃ m, n = m + 1 := ⟨n - 1, by omega⟩
  show Run (fnOf 2 7 (b__law_value_right (fns n)) [s, v] S) _
  unfold b__law_value_right
  refine run_fn rfl rfl ?_
  refine s_step (N' := fun ρ S' => ρ = [some s, some v, some (.str (dat S v).shown), none, none, none, none] ∧ S' = S) ?_ ?_
  · rw [s_set, w_call, w_cons, show ∀ Q, Run (dVar 1 _ S) Q = Q v S from fun _ => rfl, w_nil, run_repr hv (by omega) hL]
    exact ⟨rfl, rfl⟩
  rintro ρ S1 ⟨rfl, rfl⟩
  generalize hT : (dat S1 v).shown = T
  have dv := hv.da.da
  refine s_step (N' := fun ρ S' => (∃ m, ρ = [some s, some v, some (.str T), some (.ref m), none, none, none] ∧ S'[m]? = some (.lst [.bl (shOk v), .bl (coOk v)])) ∧ Kp S1 S') ?_ ?_
  · rw [s_set, w_lst, w_cons]
    refine Run.mono (l_shOk rfl dv (by omega) (by omega)) fun r S2 ⟨e1, e2⟩ => ?_
    subst e1 e2
    rw [w_cons]
    refine Run.mono (l_coOk rfl dv (by omega) (by omega)) fun r S2 ⟨e1, e2⟩ => ?_
    subst e1 e2
    rw [w_nil]
    exact ⟨Nat.le_of_ble_eq_true rfl, ⟨_, rfl, get_new _ _⟩, (Gr.add _ _).kp⟩
  rintro ρ S2 ⟨⟨m, rfl, hm⟩, kp⟩
  refine s_step (N' := fun ρ S' => ρ = [some s, some v, some (.str T), some (.ref m), none, none, none] ∧ Kp S2 S') ?_ ?_
  · simp only [run_ok, run_okI, run_okB, run_alloc, run_stuck, run_bind, run_ite, run_noX, run_fnOf, w_c, w_op, w_un, w_call, w_callK, w_nil, w_cons, w_tup, w_lst, isB_bl, w_tval, w_tand, w_tor, w_tnot, w_and, w_or, w_not, w_if, s_next, s_seq, s_if, s_ret, s_drop, s_set, s_par, s_put, s_asg, w_var', runS_next, runS_ret, runS_stuck, runS_ite, List.length_cons, List.length_nil, List.length_singleton, List.map_cons, List.map_nil, List.cons_append, List.nil_append, List.replicate_succ, List.replicate_zero, List.getElem?_cons_zero, List.getElem?_cons_succ, List.set_cons_zero, List.set_cons_succ, Nat.reduceAdd, Nat.reduceSub, Nat.reduceEqDiff, ite_true, ite_false, if_true, if_false, reduceIte, Bool.false_eq_true, decide_true, decide_false, String.reduceEq, Int.reduceEq, Nat.reduceLeDiff, true_and, and_true, Bool.not_true, Bool.not_false, decide_eq_true_eq, List.append_nil, bType, bIsi, bLen, bInt, ty_int, ty_bl, ty_str, ty_non, ty_tup, isT, oIs, oIsNot, run_eqI, run_neI, Bool.or_false, Bool.or_true, Bool.false_or, Bool.true_or, Bool.and_true, Bool.and_false, Bool.true_and, Bool.false_and, reduceCtorEq, decide_not, Bool.not_eq_true', decide_eq_false_iff_not, askInt, askBool, askTuple, askList, askStr, oLe, oLt, oGe, oGt, oInt2, atI0, atI1, atI2, run_addI, run_subI]
    refine Run.mono (p_is_share (dv.kp kp) (by omega) (by omega)) fun r S3 ⟨e1, g3⟩ => ?_
    subst e1
    refine Run.mono (p_is_counts (dv.kp (kp.trans g3.kp)) (by omega) (by omega)) fun r S4 ⟨e1, g4⟩ => ?_
    subst e1
    refine Run.mono (l_same (bs := [shOk v, coOk v]) (get_new _ _) ((Gr.add _ _).get (g4.get (g3.get hm))) (Nat.le_of_ble_eq_true rfl) (by omega)) fun r S5 ⟨e1, k5⟩ => ?_
    subst e1
    simp only [run_ok, run_okI, run_okB, run_alloc, run_stuck, run_bind, run_ite, run_noX, run_fnOf, w_c, w_op, w_un, w_call, w_callK, w_nil, w_cons, w_tup, w_lst, isB_bl, w_tval, w_tand, w_tor, w_tnot, w_and, w_or, w_not, w_if, s_next, s_seq, s_if, s_ret, s_drop, s_set, s_par, s_put, s_asg, w_var', runS_next, runS_ret, runS_stuck, runS_ite, List.length_cons, List.length_nil, List.length_singleton, List.map_cons, List.map_nil, List.cons_append, List.nil_append, List.replicate_succ, List.replicate_zero, List.getElem?_cons_zero, List.getElem?_cons_succ, List.set_cons_zero, List.set_cons_succ, Nat.reduceAdd, Nat.reduceSub, Nat.reduceEqDiff, ite_true, ite_false, if_true, if_false, reduceIte, Bool.false_eq_true, decide_true, decide_false, String.reduceEq, Int.reduceEq, Nat.reduceLeDiff, true_and, and_true, Bool.not_true, Bool.not_false, decide_eq_true_eq, List.append_nil, bType, bIsi, bLen, bInt, ty_int, ty_bl, ty_str, ty_non, ty_tup, isT, oIs, oIsNot, run_eqI, run_neI, Bool.or_false, Bool.or_true, Bool.false_or, Bool.true_or, Bool.and_true, Bool.and_false, Bool.true_and, Bool.false_and, reduceCtorEq, decide_not, Bool.not_eq_true', decide_eq_false_iff_not, askInt, askBool, askTuple, askList, askStr, oLe, oLt, oGe, oGt, oInt2, atI0, atI1, atI2, run_addI, run_subI]
    exact ((g3.trans g4).trans (Gr.add _ _)).kp.trans k5
  rintro ρ S3 ⟨rfl, k3⟩
  replace hm := k3 _ _ hm
  replace kp := kp.trans k3
  clear k3 S2
  refine s_step (N' := fun ρ S' => ρ = [some s, some v, some (.str T), some (.ref m), none, none, none] ∧ Kp S3 S') ?_ ?_
  · simp only [pick0, run_ok, run_okI, run_okB, run_alloc, run_stuck, run_bind, run_ite, run_noX, run_fnOf, w_c, w_op, w_un, w_call, w_callK, w_nil, w_cons, w_tup, w_lst, isB_bl, w_tval, w_tand, w_tor, w_tnot, w_and, w_or, w_not, w_if, s_next, s_seq, s_if, s_ret, s_drop, s_set, s_par, s_put, s_asg, w_var', runS_next, runS_ret, runS_stuck, runS_ite, List.length_cons, List.length_nil, List.length_singleton, List.map_cons, List.map_nil, List.cons_append, List.nil_append, List.replicate_succ, List.replicate_zero, List.getElem?_cons_zero, List.getElem?_cons_succ, List.set_cons_zero, List.set_cons_succ, Nat.reduceAdd, Nat.reduceSub, Nat.reduceEqDiff, ite_true, ite_false, if_true, if_false, reduceIte, Bool.false_eq_true, decide_true, decide_false, String.reduceEq, Int.reduceEq, Nat.reduceLeDiff, true_and, and_true, Bool.not_true, Bool.not_false, decide_eq_true_eq, List.append_nil, bType, bIsi, bLen, bInt, ty_int, ty_bl, ty_str, ty_non, ty_tup, isT, oIs, oIsNot, run_eqI, run_neI, Bool.or_false, Bool.or_true, Bool.false_or, Bool.true_or, Bool.and_true, Bool.and_false, Bool.true_and, Bool.false_and, reduceCtorEq, decide_not, Bool.not_eq_true', decide_eq_false_iff_not, askInt, askBool, askTuple, askList, askStr, oLe, oLt, oGe, oGt, oInt2, atI0, atI1, atI2, run_addI, run_subI]
    refine Run.mono (p_is_share (dv.kp kp) (by omega) (by omega)) fun r S4 ⟨e1, g3⟩ => ?_
    subst e1
    refine Run.mono (p_is_counts (dv.kp (kp.trans g3.kp)) (by omega) (by omega)) fun r S5 ⟨e1, g4⟩ => ?_
    subst e1
    refine Run.mono (l_same (bs := [shOk v, coOk v]) (get_new _ _) ((Gr.add _ _).get (g4.get (g3.get hm))) (Nat.le_of_ble_eq_true rfl) (by omega)) fun r S6 ⟨e1, k5⟩ => ?_
    subst e1
    simp only [run_ok, run_okI, run_okB, run_alloc, run_stuck, run_bind, run_ite, run_noX, run_fnOf, w_c, w_op, w_un, w_call, w_callK, w_nil, w_cons, w_tup, w_lst, isB_bl, w_tval, w_tand, w_tor, w_tnot, w_and, w_or, w_not, w_if, s_next, s_seq, s_if, s_ret, s_drop, s_set, s_par, s_put, s_asg, w_var', runS_next, runS_ret, runS_stuck, runS_ite, List.length_cons, List.length_nil, List.length_singleton, List.map_cons, List.map_nil, List.cons_append, List.nil_append, List.replicate_succ, List.replicate_zero, List.getElem?_cons_zero, List.getElem?_cons_succ, List.set_cons_zero, List.set_cons_succ, Nat.reduceAdd, Nat.reduceSub, Nat.reduceEqDiff, ite_true, ite_false, if_true, if_false, reduceIte, Bool.false_eq_true, decide_true, decide_false, String.reduceEq, Int.reduceEq, Nat.reduceLeDiff, true_and, and_true, Bool.not_true, Bool.not_false, decide_eq_true_eq, List.append_nil, bType, bIsi, bLen, bInt, ty_int, ty_bl, ty_str, ty_non, ty_tup, isT, oIs, oIsNot, run_eqI, run_neI, Bool.or_false, Bool.or_true, Bool.false_or, Bool.true_or, Bool.and_true, Bool.and_false, Bool.true_and, Bool.false_and, reduceCtorEq, decide_not, Bool.not_eq_true', decide_eq_false_iff_not, askInt, askBool, askTuple, askList, askStr, oLe, oLt, oGe, oGt, oInt2, atI0, atI1, atI2, run_addI, run_subI]
    exact ((g3.trans g4).trans (Gr.add _ _)).kp.trans k5
  rintro ρ S4 ⟨rfl, k4⟩
  replace hm := k4 _ _ hm
  replace kp := kp.trans k4
  clear k4
  refine s_step (N' := fun ρ S' => (∃ m4, ρ = [some s, some v, some (.str T), some (.ref m), some (.ref m4), none, none] ∧ S'[m4]? = some (.lst [.str (if shOk v then "let" else "share"), .str (if coOk v then "let" else "counts")])) ∧ Kp S4 S') ?_ ?_
  · have h0 : ∀ {Z : Store} {Q : Val → Store → Prop}, Run (oIx (.ref m) (.int 0) (S4 ++ Z)) Q = Q (.bl (shOk v)) (S4 ++ Z) := ixr0 ((Gr.add _ _).get hm)
    have h1 : ∀ {Z Y : Store} {Q : Val → Store → Prop}, Run (oIx (.ref m) (.int 1) ((S4 ++ Z) ++ Y)) Q = Q (.bl (coOk v)) ((S4 ++ Z) ++ Y) := ixr1 ((Gr.add _ _).get ((Gr.add _ _).get hm))
    simp only [h0, h1, run_ok, run_okI, run_okB, run_alloc, run_stuck, run_bind, run_ite, run_noX, run_fnOf, w_c, w_op, w_un, w_call, w_callK, w_nil, w_cons, w_tup, w_lst, isB_bl, w_tval, w_tand, w_tor, w_tnot, w_and, w_or, w_not, w_if, s_next, s_seq, s_if, s_ret, s_drop, s_set, s_par, s_put, s_asg, w_var', runS_next, runS_ret, runS_stuck, runS_ite, List.length_cons, List.length_nil, List.length_singleton, List.map_cons, List.map_nil, List.cons_append, List.nil_append, List.replicate_succ, List.replicate_zero, List.getElem?_cons_zero, List.getElem?_cons_succ, List.set_cons_zero, List.set_cons_succ, Nat.reduceAdd, Nat.reduceSub, Nat.reduceEqDiff, ite_true, ite_false, if_true, if_false, reduceIte, Bool.false_eq_true, decide_true, decide_false, String.reduceEq, Int.reduceEq, Nat.reduceLeDiff, true_and, and_true, Bool.not_true, Bool.not_false, decide_eq_true_eq, List.append_nil, bType, bIsi, bLen, bInt, ty_int, ty_bl, ty_str, ty_non, ty_tup, isT, oIs, oIsNot, run_eqI, run_neI, Bool.or_false, Bool.or_true, Bool.false_or, Bool.true_or, Bool.and_true, Bool.and_false, Bool.true_and, Bool.false_and, reduceCtorEq, decide_not, Bool.not_eq_true', decide_eq_false_iff_not, askInt, askBool, askTuple, askList, askStr, oLe, oLt, oGe, oGt, oInt2, atI0, atI1, atI2, run_addI, run_subI]
    cases hA : shOk v <;> cases hB : coOk v <;> simp only [h0, h1, hA, hB, ixn0, ixn1, run_ok, run_okI, run_okB, run_alloc, run_stuck, run_bind, run_ite, run_noX, run_fnOf, w_c, w_op, w_un, w_call, w_callK, w_nil, w_cons, w_tup, w_lst, isB_bl, w_tval, w_tand, w_tor, w_tnot, w_and, w_or, w_not, w_if, s_next, s_seq, s_if, s_ret, s_drop, s_set, s_par, s_put, s_asg, w_var', runS_next, runS_ret, runS_stuck, runS_ite, List.length_cons, List.length_nil, List.length_singleton, List.map_cons, List.map_nil, List.cons_append, List.nil_append, List.replicate_succ, List.replicate_zero, List.getElem?_cons_zero, List.getElem?_cons_succ, List.set_cons_zero, List.set_cons_succ, Nat.reduceAdd, Nat.reduceSub, Nat.reduceEqDiff, ite_true, ite_false, if_true, if_false, reduceIte, Bool.false_eq_true, decide_true, decide_false, String.reduceEq, Int.reduceEq, Nat.reduceLeDiff, true_and, and_true, Bool.not_true, Bool.not_false, decide_eq_true_eq, List.append_nil, bType, bIsi, bLen, bInt, ty_int, ty_bl, ty_str, ty_non, ty_tup, isT, oIs, oIsNot, run_eqI, run_neI, Bool.or_false, Bool.or_true, Bool.false_or, Bool.true_or, Bool.and_true, Bool.and_false, Bool.true_and, Bool.false_and, reduceCtorEq, decide_not, Bool.not_eq_true', decide_eq_false_iff_not, askInt, askBool, askTuple, askList, askStr, oLe, oLt, oGe, oGt, oInt2, atI0, atI1, atI2, run_addI, run_subI]
    all_goals
      exact ⟨⟨_, rfl, get_new _ _⟩, (((Gr.add _ _).trans (Gr.add _ _)).trans (Gr.add _ _)).kp⟩
  rintro ρ S5 ⟨⟨m4, rfl, hm4⟩, k5⟩
  replace hm := k5 _ _ hm
  replace kp := kp.trans k5
  clear k5
  refine s_step (N' := fun ρ S' => ρ = [some s, some v, some (.str T), some (.ref m), some (.ref m4), none, none] ∧ Kp S5 S') ?_ ?_
  · simp only [run_ok, run_okI, run_okB, run_alloc, run_stuck, run_bind, run_ite, run_noX, run_fnOf, w_c, w_op, w_un, w_call, w_callK, w_nil, w_cons, w_tup, w_lst, isB_bl, w_tval, w_tand, w_tor, w_tnot, w_and, w_or, w_not, w_if, s_next, s_seq, s_if, s_ret, s_drop, s_set, s_par, s_put, s_asg, w_var', runS_next, runS_ret, runS_stuck, runS_ite, List.length_cons, List.length_nil, List.length_singleton, List.map_cons, List.map_nil, List.cons_append, List.nil_append, List.replicate_succ, List.replicate_zero, List.getElem?_cons_zero, List.getElem?_cons_succ, List.set_cons_zero, List.set_cons_succ, Nat.reduceAdd, Nat.reduceSub, Nat.reduceEqDiff, ite_true, ite_false, if_true, if_false, reduceIte, Bool.false_eq_true, decide_true, decide_false, String.reduceEq, Int.reduceEq, Nat.reduceLeDiff, true_and, and_true, Bool.not_true, Bool.not_false, decide_eq_true_eq, List.append_nil, bType, bIsi, bLen, bInt, ty_int, ty_bl, ty_str, ty_non, ty_tup, isT, oIs, oIsNot, run_eqI, run_neI, Bool.or_false, Bool.or_true, Bool.false_or, Bool.true_or, Bool.and_true, Bool.and_false, Bool.true_and, Bool.false_and, reduceCtorEq, decide_not, Bool.not_eq_true', decide_eq_false_iff_not, askInt, askBool, askTuple, askList, askStr, oLe, oLt, oGe, oGt, oInt2, atI0, atI1, atI2, run_addI, run_subI]
    refine Run.mono (l_door false (dv.kp kp) (by omega) (by omega)) fun r S6 ⟨e1, k6⟩ => ?_
    subst e1
    refine Run.mono (l_door true (dv.kp (kp.trans k6)) (by omega) (by omega)) fun r S7 ⟨e1, k7⟩ => ?_
    subst e1
    have kk := (k6.trans k7).trans (Gr.add S7 [.lst [.str (if shOk v then "let" else "share"), .str (if coOk v then "let" else "counts")]]).kp
    have hm4' := kk _ _ hm4
    have hnew := get_new S7 (.lst [.str (if shOk v then "let" else "share"), .str (if coOk v then "let" else "counts")])
    simp only [Bool.false_eq_true, if_false, if_true]
    generalize S7 ++ [.lst [.str (if shOk v then "let" else "share"), .str (if coOk v then "let" else "counts")]] = S8 at *
    have da : ∀ x ∈ [Val.str (if shOk v then "let" else "share"), .str (if coOk v then "let" else "counts")], Da S8 0 x := by
      simp only [List.mem_cons, List.not_mem_nil, or_false, forall_eq_or_imp, forall_eq]
      exact ⟨by have := @str_da S8 0 false (shOk v); simpa using this, by have := @str_da S8 0 true (coOk v); simpa using this⟩
    have d1 : Da S8 1 (.ref S7.length) := .ref hnew da
    have d2 : Da S8 1 (.ref m4) := .ref hm4' da
    rw [run_ne d1 d2 (by omega) (by omega), dat_ref hnew da (by omega), dat_ref hm4' da (by omega), isB_bl]
    have hc := (d1.lay (by omega)).1
    rw [dat_ref hnew da (by omega)] at hc
    rw [SeqAt.eqv_refl _ hc]
    exact kk
  rintro ρ S6 ⟨rfl, k6⟩
  replace hm := k6 _ _ hm
  replace kp := kp.trans k6
  clear k6 hm4
  refine s_step (N' := fun ρ S' => ρ = [some s, some v, some (.str T), some (.ref m), some (.ref m4), some (.bl (shOk s && coOk v)), none] ∧ Kp S6 S') ?_ ?_
  · have ds := hs.kp kp
    simp only [run_ok, run_okI, run_okB, run_alloc, run_stuck, run_bind, run_ite, run_noX, run_fnOf, w_c, w_op, w_un, w_call, w_callK, w_nil, w_cons, w_tup, w_lst, isB_bl, w_tval, w_tand, w_tor, w_tnot, w_and, w_or, w_not, w_if, s_next, s_seq, s_if, s_ret, s_drop, s_set, s_par, s_put, s_asg, w_var', runS_next, runS_ret, runS_stuck, runS_ite, List.length_cons, List.length_nil, List.length_singleton, List.map_cons, List.map_nil, List.cons_append, List.nil_append, List.replicate_succ, List.replicate_zero, List.getElem?_cons_zero, List.getElem?_cons_succ, List.set_cons_zero, List.set_cons_succ, Nat.reduceAdd, Nat.reduceSub, Nat.reduceEqDiff, ite_true, ite_false, if_true, if_false, reduceIte, Bool.false_eq_true, decide_true, decide_false, String.reduceEq, Int.reduceEq, Nat.reduceLeDiff, true_and, and_true, Bool.not_true, Bool.not_false, decide_eq_true_eq, List.append_nil, bType, bIsi, bLen, bInt, ty_int, ty_bl, ty_str, ty_non, ty_tup, isT, oIs, oIsNot, run_eqI, run_neI, Bool.or_false, Bool.or_true, Bool.false_or, Bool.true_or, Bool.and_true, Bool.and_false, Bool.true_and, Bool.false_and, reduceCtorEq, decide_not, Bool.not_eq_true', decide_eq_false_iff_not, askInt, askBool, askTuple, askList, askStr, oLe, oLt, oGe, oGt, oInt2, atI0, atI1, atI2, run_addI, run_subI]
    refine Run.mono (l_is_share e n 12 s S6 ds (by omega) (by omega)) fun r S7 ⟨e1, e2⟩ => ?_
    subst e1 e2
    unfold shOk
    simp only [run_ok, run_okI, run_okB, run_alloc, run_stuck, run_bind, run_ite, run_noX, run_fnOf, w_c, w_op, w_un, w_call, w_callK, w_nil, w_cons, w_tup, w_lst, isB_bl, w_tval, w_tand, w_tor, w_tnot, w_and, w_or, w_not, w_if, s_next, s_seq, s_if, s_ret, s_drop, s_set, s_par, s_put, s_asg, w_var', runS_next, runS_ret, runS_stuck, runS_ite, List.length_cons, List.length_nil, List.length_singleton, List.map_cons, List.map_nil, List.cons_append, List.nil_append, List.replicate_succ, List.replicate_zero, List.getElem?_cons_zero, List.getElem?_cons_succ, List.set_cons_zero, List.set_cons_succ, Nat.reduceAdd, Nat.reduceSub, Nat.reduceEqDiff, ite_true, ite_false, if_true, if_false, reduceIte, Bool.false_eq_true, decide_true, decide_false, String.reduceEq, Int.reduceEq, Nat.reduceLeDiff, true_and, and_true, Bool.not_true, Bool.not_false, decide_eq_true_eq, List.append_nil, bType, bIsi, bLen, bInt, ty_int, ty_bl, ty_str, ty_non, ty_tup, isT, oIs, oIsNot, run_eqI, run_neI, Bool.or_false, Bool.or_true, Bool.false_or, Bool.true_or, Bool.and_true, Bool.and_false, Bool.true_and, Bool.false_and, reduceCtorEq, decide_not, Bool.not_eq_true', decide_eq_false_iff_not, askInt, askBool, askTuple, askList, askStr, oLe, oLt, oGe, oGt, oInt2, atI0, atI1, atI2, run_addI, run_subI]
    cases hA : isSh 12 s with
    | false => simp only [run_ok, run_okI, run_okB, run_alloc, run_stuck, run_bind, run_ite, run_noX, run_fnOf, w_c, w_op, w_un, w_call, w_callK, w_nil, w_cons, w_tup, w_lst, isB_bl, w_tval, w_tand, w_tor, w_tnot, w_and, w_or, w_not, w_if, s_next, s_seq, s_if, s_ret, s_drop, s_set, s_par, s_put, s_asg, w_var', runS_next, runS_ret, runS_stuck, runS_ite, List.length_cons, List.length_nil, List.length_singleton, List.map_cons, List.map_nil, List.cons_append, List.nil_append, List.replicate_succ, List.replicate_zero, List.getElem?_cons_zero, List.getElem?_cons_succ, List.set_cons_zero, List.set_cons_succ, Nat.reduceAdd, Nat.reduceSub, Nat.reduceEqDiff, ite_true, ite_false, if_true, if_false, reduceIte, Bool.false_eq_true, decide_true, decide_false, String.reduceEq, Int.reduceEq, Nat.reduceLeDiff, true_and, and_true, Bool.not_true, Bool.not_false, decide_eq_true_eq, List.append_nil, bType, bIsi, bLen, bInt, ty_int, ty_bl, ty_str, ty_non, ty_tup, isT, oIs, oIsNot, run_eqI, run_neI, Bool.or_false, Bool.or_true, Bool.false_or, Bool.true_or, Bool.and_true, Bool.and_false, Bool.true_and, Bool.false_and, reduceCtorEq, decide_not, Bool.not_eq_true', decide_eq_false_iff_not, askInt, askBool, askTuple, askList, askStr, oLe, oLt, oGe, oGt, oInt2, atI0, atI1, atI2, run_addI, run_subI]; exact Kp.refl _
    | true =>
      simp only [run_ok, run_okI, run_okB, run_alloc, run_stuck, run_bind, run_ite, run_noX, run_fnOf, w_c, w_op, w_un, w_call, w_callK, w_nil, w_cons, w_tup, w_lst, isB_bl, w_tval, w_tand, w_tor, w_tnot, w_and, w_or, w_not, w_if, s_next, s_seq, s_if, s_ret, s_drop, s_set, s_par, s_put, s_asg, w_var', runS_next, runS_ret, runS_stuck, runS_ite, List.length_cons, List.length_nil, List.length_singleton, List.map_cons, List.map_nil, List.cons_append, List.nil_append, List.replicate_succ, List.replicate_zero, List.getElem?_cons_zero, List.getElem?_cons_succ, List.set_cons_zero, List.set_cons_succ, Nat.reduceAdd, Nat.reduceSub, Nat.reduceEqDiff, ite_true, ite_false, if_true, if_false, reduceIte, Bool.false_eq_true, decide_true, decide_false, String.reduceEq, Int.reduceEq, Nat.reduceLeDiff, true_and, and_true, Bool.not_true, Bool.not_false, decide_eq_true_eq, List.append_nil, bType, bIsi, bLen, bInt, ty_int, ty_bl, ty_str, ty_non, ty_tup, isT, oIs, oIsNot, run_eqI, run_neI, Bool.or_false, Bool.or_true, Bool.false_or, Bool.true_or, Bool.and_true, Bool.and_false, Bool.true_and, Bool.false_and, reduceCtorEq, decide_not, Bool.not_eq_true', decide_eq_false_iff_not, askInt, askBool, askTuple, askList, askStr, oLe, oLt, oGe, oGt, oInt2, atI0, atI1, atI2, run_addI, run_subI]
      refine Run.mono (l_size 12 n s S7 (isSh_sz 12 s hA) (by omega)) fun r S8 ⟨e1, e2⟩ => ?_
      subst e1 e2
      simp only [run_ok, run_okI, run_okB, run_alloc, run_stuck, run_bind, run_ite, run_noX, run_fnOf, w_c, w_op, w_un, w_call, w_callK, w_nil, w_cons, w_tup, w_lst, isB_bl, w_tval, w_tand, w_tor, w_tnot, w_and, w_or, w_not, w_if, s_next, s_seq, s_if, s_ret, s_drop, s_set, s_par, s_put, s_asg, w_var', runS_next, runS_ret, runS_stuck, runS_ite, List.length_cons, List.length_nil, List.length_singleton, List.map_cons, List.map_nil, List.cons_append, List.nil_append, List.replicate_succ, List.replicate_zero, List.getElem?_cons_zero, List.getElem?_cons_succ, List.set_cons_zero, List.set_cons_succ, Nat.reduceAdd, Nat.reduceSub, Nat.reduceEqDiff, ite_true, ite_false, if_true, if_false, reduceIte, Bool.false_eq_true, decide_true, decide_false, String.reduceEq, Int.reduceEq, Nat.reduceLeDiff, true_and, and_true, Bool.not_true, Bool.not_false, decide_eq_true_eq, List.append_nil, bType, bIsi, bLen, bInt, ty_int, ty_bl, ty_str, ty_non, ty_tup, isT, oIs, oIsNot, run_eqI, run_neI, Bool.or_false, Bool.or_true, Bool.false_or, Bool.true_or, Bool.and_true, Bool.and_false, Bool.true_and, Bool.false_and, reduceCtorEq, decide_not, Bool.not_eq_true', decide_eq_false_iff_not, askInt, askBool, askTuple, askList, askStr, oLe, oLt, oGe, oGt, oInt2, atI0, atI1, atI2, run_addI, run_subI]
      by_cases hz : tcount s < 64
      · simp only [hz, ixr1 hm, (by omega : tcount s ≤ 63), run_ok, run_okI, run_okB, run_alloc, run_stuck, run_bind, run_ite, run_noX, run_fnOf, w_c, w_op, w_un, w_call, w_callK, w_nil, w_cons, w_tup, w_lst, isB_bl, w_tval, w_tand, w_tor, w_tnot, w_and, w_or, w_not, w_if, s_next, s_seq, s_if, s_ret, s_drop, s_set, s_par, s_put, s_asg, w_var', runS_next, runS_ret, runS_stuck, runS_ite, List.length_cons, List.length_nil, List.length_singleton, List.map_cons, List.map_nil, List.cons_append, List.nil_append, List.replicate_succ, List.replicate_zero, List.getElem?_cons_zero, List.getElem?_cons_succ, List.set_cons_zero, List.set_cons_succ, Nat.reduceAdd, Nat.reduceSub, Nat.reduceEqDiff, ite_true, ite_false, if_true, if_false, reduceIte, Bool.false_eq_true, decide_true, decide_false, String.reduceEq, Int.reduceEq, Nat.reduceLeDiff, true_and, and_true, Bool.not_true, Bool.not_false, decide_eq_true_eq, List.append_nil, bType, bIsi, bLen, bInt, ty_int, ty_bl, ty_str, ty_non, ty_tup, isT, oIs, oIsNot, run_eqI, run_neI, Bool.or_false, Bool.or_true, Bool.false_or, Bool.true_or, Bool.and_true, Bool.and_false, Bool.true_and, Bool.false_and, reduceCtorEq, decide_not, Bool.not_eq_true', decide_eq_false_iff_not, askInt, askBool, askTuple, askList, askStr, oLe, oLt, oGe, oGt, oInt2, atI0, atI1, atI2, run_addI, run_subI]
        exact Kp.refl _
      · have h63 : decide (tcount s ≤ 63) = false := decide_eq_false (by omega)
        simp only [hz, h63, run_ok, run_okI, run_okB, run_alloc, run_stuck, run_bind, run_ite, run_noX, run_fnOf, w_c, w_op, w_un, w_call, w_callK, w_nil, w_cons, w_tup, w_lst, isB_bl, w_tval, w_tand, w_tor, w_tnot, w_and, w_or, w_not, w_if, s_next, s_seq, s_if, s_ret, s_drop, s_set, s_par, s_put, s_asg, w_var', runS_next, runS_ret, runS_stuck, runS_ite, List.length_cons, List.length_nil, List.length_singleton, List.map_cons, List.map_nil, List.cons_append, List.nil_append, List.replicate_succ, List.replicate_zero, List.getElem?_cons_zero, List.getElem?_cons_succ, List.set_cons_zero, List.set_cons_succ, Nat.reduceAdd, Nat.reduceSub, Nat.reduceEqDiff, ite_true, ite_false, if_true, if_false, reduceIte, Bool.false_eq_true, decide_true, decide_false, String.reduceEq, Int.reduceEq, Nat.reduceLeDiff, true_and, and_true, Bool.not_true, Bool.not_false, decide_eq_true_eq, List.append_nil, bType, bIsi, bLen, bInt, ty_int, ty_bl, ty_str, ty_non, ty_tup, isT, oIs, oIsNot, run_eqI, run_neI, Bool.or_false, Bool.or_true, Bool.false_or, Bool.true_or, Bool.and_true, Bool.and_false, Bool.true_and, Bool.false_and, reduceCtorEq, decide_not, Bool.not_eq_true', decide_eq_false_iff_not, askInt, askBool, askTuple, askList, askStr, oLe, oLt, oGe, oGt, oInt2, atI0, atI1, atI2, run_addI, run_subI]
        exact Kp.refl _
  rintro ρ S7 ⟨rfl, k7⟩
  replace kp := kp.trans k7
  clear k7 hm
  have ds := hs.kp kp
  have dv' := dv.kp kp
  have dat2 : ∀ {S a b}, Da S d a → Da S e b → Da S 50 (.tup [b, a]) := fun h1 h2 => .tup (d := 49) (by
    simp only [List.mem_cons, List.not_mem_nil, or_false, forall_eq_or_imp, forall_eq]
    exact ⟨h2.up (by omega), h1.up (by omega)⟩)
  refine s_step (N' := fun ρ S' => (∃ m6, ρ = [some s, some v, some (.str T), some (.ref m), some (.ref m4), some (.bl (shOk s && coOk v)), some (.ref m6)] ∧ S'[m6]? = some (.lst [.bl (shOk s && coOk v), .bl (shOk s && coOk v)])) ∧ Kp S7 S') ?_ ?_
  · simp only [pick0, run_ok, run_okI, run_okB, run_alloc, run_stuck, run_bind, run_ite, run_noX, run_fnOf, w_c, w_op, w_un, w_call, w_callK, w_nil, w_cons, w_tup, w_lst, isB_bl, w_tval, w_tand, w_tor, w_tnot, w_and, w_or, w_not, w_if, s_next, s_seq, s_if, s_ret, s_drop, s_set, s_par, s_put, s_asg, w_var', runS_next, runS_ret, runS_stuck, runS_ite, List.length_cons, List.length_nil, List.length_singleton, List.map_cons, List.map_nil, List.cons_append, List.nil_append, List.replicate_succ, List.replicate_zero, List.getElem?_cons_zero, List.getElem?_cons_succ, List.set_cons_zero, List.set_cons_succ, Nat.reduceAdd, Nat.reduceSub, Nat.reduceEqDiff, ite_true, ite_false, if_true, if_false, reduceIte, Bool.false_eq_true, decide_true, decide_false, String.reduceEq, Int.reduceEq, Nat.reduceLeDiff, true_and, and_true, Bool.not_true, Bool.not_false, decide_eq_true_eq, List.append_nil, bType, bIsi, bLen, bInt, ty_int, ty_bl, ty_str, ty_non, ty_tup, isT, oIs, oIsNot, run_eqI, run_neI, Bool.or_false, Bool.or_true, Bool.false_or, Bool.true_or, Bool.and_true, Bool.and_false, Bool.true_and, Bool.false_and, reduceCtorEq, decide_not, Bool.not_eq_true', decide_eq_false_iff_not, askInt, askBool, askTuple, askList, askStr, oLe, oLt, oGe, oGt, oInt2, atI0, atI1, atI2, run_addI, run_subI]
    refine Run.mono (p_is_stamp (dat2 dv' ds) (by omega) (by omega)) fun r S8 ⟨e1, k8⟩ => ?_
    subst e1
    refine Run.mono (p_is_stamp ((dat2 dv' ds).kp k8) (by omega) (by omega)) fun r S9 ⟨e1, k9⟩ => ?_
    subst e1
    exact ⟨⟨_, rfl, get_new _ _⟩, (k8.trans k9).trans (Gr.add _ _).kp⟩
  rintro ρ S8 ⟨⟨m6, rfl, hm6⟩, k8⟩
  replace kp := kp.trans k8
  clear k8 ds dv'
  have ds := hs.kp kp
  have dv' := dv.kp kp
  refine s_step (N' := fun ρ S' => (∃ m6, ρ = [some s, some v, some (.str T), some (.ref m), some (.ref m4), some (.bl (shOk s && coOk v)), some (.ref m6)] ∧ S'[m6]? = some (.lst ([shOk s && coOk v, shOk s && coOk v, false, false].map Val.bl))) ∧ Kp S8 S') ?_ ?_
  · simp only [run_ok, run_okI, run_okB, run_alloc, run_stuck, run_bind, run_ite, run_noX, run_fnOf, w_c, w_op, w_un, w_call, w_callK, w_nil, w_cons, w_tup, w_lst, isB_bl, w_tval, w_tand, w_tor, w_tnot, w_and, w_or, w_not, w_if, s_next, s_seq, s_if, s_ret, s_drop, s_set, s_par, s_put, s_asg, w_var', runS_next, runS_ret, runS_stuck, runS_ite, List.length_cons, List.length_nil, List.length_singleton, List.map_cons, List.map_nil, List.cons_append, List.nil_append, List.replicate_succ, List.replicate_zero, List.getElem?_cons_zero, List.getElem?_cons_succ, List.set_cons_zero, List.set_cons_succ, Nat.reduceAdd, Nat.reduceSub, Nat.reduceEqDiff, ite_true, ite_false, if_true, if_false, reduceIte, Bool.false_eq_true, decide_true, decide_false, String.reduceEq, Int.reduceEq, Nat.reduceLeDiff, true_and, and_true, Bool.not_true, Bool.not_false, decide_eq_true_eq, List.append_nil, bType, bIsi, bLen, bInt, ty_int, ty_bl, ty_str, ty_non, ty_tup, isT, oIs, oIsNot, run_eqI, run_neI, Bool.or_false, Bool.or_true, Bool.false_or, Bool.true_or, Bool.and_true, Bool.and_false, Bool.true_and, Bool.false_and, reduceCtorEq, decide_not, Bool.not_eq_true', decide_eq_false_iff_not, askInt, askBool, askTuple, askList, askStr, oLe, oLt, oGe, oGt, oInt2, atI0, atI1, atI2, run_addI, run_subI]
    have kA := (Gr.add S8 [.lst [s, v]]).kp
    have hA := get_new S8 (.lst [s, v])
    generalize S8 ++ [.lst [s, v]] = A at *
    have da : Da A 50 (.ref S8.length) := .ref (d := 49) hA (by
      simp only [List.mem_cons, List.not_mem_nil, or_false, forall_eq_or_imp, forall_eq]
      exact ⟨(ds.kp kA).up (by omega), (dv'.kp kA).up (by omega)⟩)
    refine Run.mono (p_is_stamp da (by omega) (by omega)) fun r S9 ⟨e1, k9⟩ => ?_
    subst e1
    have k89 := kA.trans k9
    have d3 : Da S9 50 (.tup [s, v, .int 0]) := .tup (d := 49) (by
      simp only [List.mem_cons, List.not_mem_nil, or_false, forall_eq_or_imp, forall_eq]
      exact ⟨(ds.kp k89).up (by omega), (dv'.kp k89).up (by omega), .int _ _⟩)
    refine Run.mono (p_is_stamp d3 (by omega) (by omega)) fun r S10 ⟨e1, k10⟩ => ?_
    subst e1
    have kk := k89.trans k10
    rw [run_addL ((Gr.add _ _).get (kk _ _ hm6)) (get_new _ _) (Nat.le_of_ble_eq_true rfl)]
    exact ⟨⟨_, rfl, get_new _ _⟩, (kk.trans (Gr.add _ _).kp).trans (Gr.add _ _).kp⟩
  rintro ρ S9 ⟨⟨m6, rfl, hm6⟩, k9⟩
  replace kp := kp.trans k9
  clear k9 ds dv'
  simp only [run_ok, run_okI, run_okB, run_alloc, run_stuck, run_bind, run_ite, run_noX, run_fnOf, w_c, w_op, w_un, w_call, w_callK, w_nil, w_cons, w_tup, w_lst, isB_bl, w_tval, w_tand, w_tor, w_tnot, w_and, w_or, w_not, w_if, s_next, s_seq, s_if, s_ret, s_drop, s_set, s_par, s_put, s_asg, w_var', runS_next, runS_ret, runS_stuck, runS_ite, List.length_cons, List.length_nil, List.length_singleton, List.map_cons, List.map_nil, List.cons_append, List.nil_append, List.replicate_succ, List.replicate_zero, List.getElem?_cons_zero, List.getElem?_cons_succ, List.set_cons_zero, List.set_cons_succ, Nat.reduceAdd, Nat.reduceSub, Nat.reduceEqDiff, ite_true, ite_false, if_true, if_false, reduceIte, Bool.false_eq_true, decide_true, decide_false, String.reduceEq, Int.reduceEq, Nat.reduceLeDiff, true_and, and_true, Bool.not_true, Bool.not_false, decide_eq_true_eq, List.append_nil, bType, bIsi, bLen, bInt, ty_int, ty_bl, ty_str, ty_non, ty_tup, isT, oIs, oIsNot, run_eqI, run_neI, Bool.or_false, Bool.or_true, Bool.false_or, Bool.true_or, Bool.and_true, Bool.and_false, Bool.true_and, Bool.false_and, reduceCtorEq, decide_not, Bool.not_eq_true', decide_eq_false_iff_not, askInt, askBool, askTuple, askList, askStr, oLe, oLt, oGe, oGt, oInt2, atI0, atI1, atI2, run_addI, run_subI]
  have kA := (Gr.add S9 [.lst [.bl (shOk s && coOk v), .bl (shOk s && coOk v), .bl false, .bl false]]).kp
  refine Run.mono (l_same (bs := [shOk s && coOk v, shOk s && coOk v, false, false]) (kA _ _ hm6) (get_new _ _) (Nat.le_of_ble_eq_true rfl) (by omega)) fun r S10 ⟨e1, k10⟩ => ?_
  subst e1
  replace kp := (kp.trans kA).trans k10
  simp only [run_ok, run_okI, run_okB, run_alloc, run_stuck, run_bind, run_ite, run_noX, run_fnOf, w_c, w_op, w_un, w_call, w_callK, w_nil, w_cons, w_tup, w_lst, isB_bl, w_tval, w_tand, w_tor, w_tnot, w_and, w_or, w_not, w_if, s_next, s_seq, s_if, s_ret, s_drop, s_set, s_par, s_put, s_asg, w_var', runS_next, runS_ret, runS_stuck, runS_ite, List.length_cons, List.length_nil, List.length_singleton, List.map_cons, List.map_nil, List.cons_append, List.nil_append, List.replicate_succ, List.replicate_zero, List.getElem?_cons_zero, List.getElem?_cons_succ, List.set_cons_zero, List.set_cons_succ, Nat.reduceAdd, Nat.reduceSub, Nat.reduceEqDiff, ite_true, ite_false, if_true, if_false, reduceIte, Bool.false_eq_true, decide_true, decide_false, String.reduceEq, Int.reduceEq, Nat.reduceLeDiff, true_and, and_true, Bool.not_true, Bool.not_false, decide_eq_true_eq, List.append_nil, bType, bIsi, bLen, bInt, ty_int, ty_bl, ty_str, ty_non, ty_tup, isT, oIs, oIsNot, run_eqI, run_neI, Bool.or_false, Bool.or_true, Bool.false_or, Bool.true_or, Bool.and_true, Bool.and_false, Bool.true_and, Bool.false_and, reduceCtorEq, decide_not, Bool.not_eq_true', decide_eq_false_iff_not, askInt, askBool, askTuple, askList, askStr, oLe, oLt, oGe, oGt, oInt2, atI0, atI1, atI2, run_addI, run_subI]
  have d1 : Da S10 50 (.tup [s]) := .tup (d := 49) (by
      simp only [List.mem_cons, List.not_mem_nil, or_false, forall_eq]
      exact (hs.kp kp).up (by omega))
  refine Run.mono (p_is_stamp d1 (by omega) (by omega)) fun r S11 ⟨e1, k11⟩ => ?_
  subst e1
  replace kp := kp.trans k11
  show if true = true then Run (bRepr [v] S11) _ else _
  rw [if_pos rfl, run_repr (hv.gr kp (by omega)) (by omega) hL, ← hv.da.dat_kx kp.kx (by omega), hT]
  have hok : (PyData.str T).canLay0 = true := by rw [← hT]; exact hv.ok
  rw [run_eq (Da.str 0 T hok) (Da.str 0 T hok) (by omega) (by omega)]
  refine ⟨?_, kp⟩
  congr 1
  exact SeqAt.eqv_refl (.str T) hok
end PD.K01

/-! ## K01P1 -/
set_option Elab.async false
set_option linter.all false
set_option maxRecDepth 100000
set_option maxHeartbeats 4000000
namespace PD.K01
open PySem PySem.Spec L2 PD
theorem runS_loopC {n : Nat} {xs : List Val} {t : TgD} {b : SD} {R : Val → Store → Prop} (I : Nat → PD.Env → Store → Prop) (hI : ∀ j ρ S, I j ρ S → S[n]? = some (.lst xs)) (step : ∀ j x ρ S, xs[j]? = some x → I j ρ S → ∃ ρ1, t x ρ = some ρ1 ∧ RunS (b ρ1 S) (I (j + 1)) R) :
    ∀ (m j : Nat) (ρ : PD.Env) (S : Store), j + m = xs.length → I j ρ S → RunS (loopC n t b m j ρ S) (I xs.length) R
  | 0, j, ρ, S, hm, h => by
    show RunS (match S[n]? with | some c => if c.items.length ≤ j then .next ρ S else .stuck | none => .stuck) _ _
    rw [hI j ρ S h]
    show RunS (if xs.length ≤ j then .next ρ S else .stuck) _ _
    rw [if_pos (by omega)]
    have : j = xs.length := by omega
    subst this
    exact h
  | m + 1, j, ρ, S, hm, h => by
    have hx : xs[j]? = some xs[j] := List.getElem?_eq_getElem (by omega)
    obtain ⟨ρ1, e, q⟩ := step j xs[j] ρ S hx h
    show RunS (match S[n]? with
      | some c => match c.items[j]? with
        | none => .next ρ S
        | some x => match t x ρ with
          | none => .stuck
          | some ρ1 => (b ρ1 S).turn (loopC n t b m (j + 1))
      | none => .stuck) _ _
    rw [hI j ρ S h]
    show RunS (match xs[j]? with
        | none => .next ρ S
        | some x => match t x ρ with
          | none => .stuck
          | some ρ1 => (b ρ1 S).turn (loopC n t b m (j + 1))) _ _
    rw [hx]
    show RunS (match t xs[j] ρ with
          | none => .stuck
          | some ρ1 => (b ρ1 S).turn (loopC n t b m (j + 1))) _ _
    rw [e]
    show RunS ((b ρ1 S).turn (loopC n t b m (j + 1))) _ _
    cases hr : b ρ1 S with
    | next ρ2 S2 =>
      rw [hr] at q
      exact runS_loopC I hI step m (j + 1) ρ2 S2 (by omega) q
    | ret v S2 => rw [hr] at q; exact q
    | brk ρ2 S2 => rw [hr] at q; exact q.elim
    | cont ρ2 S2 => rw [hr] at q; exact q.elim
    | exc e ρ2 S2 => rw [hr] at q; exact q.elim
    | stuck => rw [hr] at q; exact q.elim
theorem s_forC {f : D} {t : TgD} {b : SD} {ρ : PD.Env} {S : Store} {N : PD.Env → Store → Prop} {R : Val → Store → Prop} (h : Run (f ρ S) fun x S1 => ∃ n xs, x = .ref n ∧ S1[n]? = some (.lst xs) ∧ RunS (loopC n t b xs.length 0 ρ S1) N R) : RunS (sForC f t b ρ S) N R := by
  unfold sForC
  rw [runS_toS]
  refine Run.mono h fun x S1 ⟨n, xs, e, e1, q⟩ => ?_
  subst e
  show RunS (match S1[n]? with | some c => loopC n t b c.items.length 0 ρ S1 | none => .stuck) N R
  rw [e1]
  exact q
theorem run_lcc {h : D} {v : Nat} {f : D} {vs : List Nat} {ρ : PD.Env} {S : Store} {xs : List Val} {g : Val → Val} (hl : xs.length ≤ 1000000) (e : Run (h ρ S) fun x S1 => x = .ref S.length ∧ S1 = S ++ [.lst xs]) (he : ∀ x ∈ xs, ∀ S', Run (f ((wipeE ρ vs).set v (some x)) S') (PureK S' (g x))) :
    Run (dLCC h (gN v) tYes' f vs ρ S) (fun r S' => ∃ S1, r = .ref S1.length ∧ S' = S1 ++ [.lst (xs.map g)] ∧ Kp S S1) := by
  unfold dLCC
  rw [run_bind]
  refine Run.mono e fun x S1 ⟨e1, e2⟩ => ?_
  subst e1 e2
  show Run (match (S ++ [Cell.lst xs])[S.length]? with
    | some cc => (compG (srcC S.length) (gN v) tYes' f cc.items.length 0 [] (wipeE ρ vs) (S ++ [.lst xs])).bind alloc
    | none => .stuck) _
  rw [get_new]
  show Run ((compG (srcC S.length) (gN v) tYes' f xs.length 0 [] (wipeE ρ vs) (S ++ [.lst xs])).bind alloc) _
  rw [run_bind]
  refine Run.mono (comp_pureC (g := g) (ys := xs) xs 0 [] (S ++ [.lst xs]) (get_new _ _) (by simp; omega) he rfl (Nat.zero_le _)) fun ys S2 ⟨e1, k⟩ => ?_
  subst e1
  exact ⟨_, rfl, rfl, (Gr.add _ _).kp.trans k⟩
end PD.K01

/-! ## K01P2 -/
set_option Elab.async false
set_option linter.all false
set_option maxRecDepth 100000
set_option maxHeartbeats 4000000
namespace PD.K01
open PySem PySem.Spec L2 PD
theorem repV_one {k : Nat} {x : Val} : repV k [x] = List.replicate k x := by
  unfold repV
  induction k with
  | zero => rfl
  | succ k ih => rw [List.replicate_succ, List.flatten_cons, ih]; rfl
theorem run_repT {k : Nat} {x : Val} {S : Store} {Q : Val → Store → Prop} (h0 : 2 ≤ k) (h1 : k ≤ 1000000) : Run (oRepT (.tup [x]) (.int k) S) Q = Q (.tup (List.replicate k x)) S := by
  show Run (if [x] ≠ [] ∧ (2 : Int) ≤ k ∧ (k : Int) ≤ 1000000 ∧ [x].length * (k : Int).toNat ≤ 1000000 then .ok (.tup (repV (k : Int).toNat [x])) S else .stuck) Q = _
  rw [if_pos ⟨by simp, by omega, by omega, by rw [List.length_singleton]; omega⟩, Int.toNat_natCast, repV_one]; rfl
theorem run_repL1 {k : Nat} {x : Val} {S : Store} {Q : Val → Store → Prop} (h1 : k ≤ 1000000) : Run (oRepL (.ref S.length) (.int k) (S ++ [.lst [x]])) Q = Q (.ref (S ++ [Cell.lst [x]]).length) (S ++ [.lst [x]] ++ [.lst (List.replicate k x)]) := by
  show Run (match (S ++ [Cell.lst [x]])[S.length]? with
    | some (.lst xs) => if -(2 ^ 63) ≤ (k : Int) ∧ (k : Int) < 2 ^ 63 ∧ xs.length * (k : Int).toNat ≤ 16777216 then alloc (repV (k : Int).toNat xs) (S ++ [Cell.lst [x]]) else .stuck
    | _ => .stuck) Q = _
  rw [get_new]
  show Run (if -(2 ^ 63) ≤ (k : Int) ∧ (k : Int) < 2 ^ 63 ∧ [x].length * (k : Int).toNat ≤ 16777216 then alloc (repV (k : Int).toNat [x]) (S ++ [Cell.lst [x]]) else .stuck) Q = _
  rw [if_pos ⟨by omega, by omega, by rw [List.length_singleton]; omega⟩, Int.toNat_natCast, repV_one]; rfl
def Vals (c m : Nat) (S : Store) : Prop := m ≠ c ∧ ∃ xs, S[m]? = some (.lst xs) ∧ xs.length ≤ 100 ∧ ∀ x ∈ xs, Good c S 45 400000 x
theorem Vals.cs {c m : Nat} {S S' : Store} (h : Vals c m S) (k : Cs c S S') : Vals c m S' := by
  obtain ⟨a, xs, e, hl, hx⟩ := h
  exact ⟨a, xs, k.2 _ _ a e, hl, fun x h => (hx x h).cs k (by omega)⟩
/-- to the values, those of a new list -/
theorem Vals.more {c m : Nat} {S : Store} {ys : List Val} {Q : Val → Store → Prop} (h : Vals c m S) (hc : CupAt c S) (hy : ∀ y ∈ ys, Good c S 45 400000 y) (hl : ys.length ≤ 10) (hm : ∀ xs, S[m]? = some (.lst xs) → xs.length ≤ 50) (q : ∀ m' S', Cs c S S' → Vals c m' S' → (∀ xs, S[m]? = some (.lst xs) → ∃ zs, S'[m']? = some (.lst zs) ∧ zs.length = xs.length + ys.length) → Q (.ref m') S') : Run (oAdd (.ref m) (.ref S.length) (S ++ [.lst ys])) Q := by
  obtain ⟨a, xs, e, _, hx⟩ := h
  have hx50 := hm xs e
  rw [run_addL ((Gr.add _ _).get e) (get_new _ _) (by omega)]
  have k := ((Gr.add S [.lst ys]).trans (Gr.add _ [.lst (xs ++ ys)])).kp
  refine q _ _ ((Cs.refl hc).kp k) ⟨Nat.ne_of_gt hc.add.lt, xs ++ ys, get_new _ _, by rw [List.length_append]; omega, fun x h => ?_⟩ fun zs e' => ?_
  · rcases List.mem_append.mp h with h | h
    · exact (hx x h).gr k (by omega)
    · exact (hy x h).gr k (by omega)
  · rw [e] at e'
    cases e'
    exact ⟨_, get_new _ _, List.length_append⟩
/-- a turn of the law -/
def turnB (p : Fns) : SD :=     (sSeq (sSet 2 (dCall p._law_cup (aCons (dVar 1) aNil)))
    (sSeq (sPar 3 4 (aCons (dCall p._law_share (aCons (dVar 2) (aCons (dC (.int 4)) aNil))) (aCons (dCall p._law_counts (aCons (dVar 2) (aCons (dC (.int 3)) aNil))) aNil)))
    (sSeq (sSet 5 (dCall p._law_long (aCons (dVar 2) (aCons (dC (.bl false)) aNil))))
    (sSeq (sSet 6 (dLst (aCons (dVar 3) (aCons (dVar 4) (aCons (dVar 5) (aCons (dCall p._law_long (aCons (dVar 2) (aCons (dC (.bl true)) aNil))) (aCons (dCall p._law_chain (aCons (dVar 2) aNil)) (aCons (dTup (aCons (dVar 5) (aCons (dVar 5) aNil))) (aCons (dTup (aCons (dC (.int 0)) (aCons (dVar 5) (aCons (dVar 5) aNil)))) (aCons (dOp oRepT (dTup (aCons (dC (.int 0)) aNil)) (dC (.int 2900))) aNil))))))))))
    (sSeq (sSet 7 (dCall p._law_long (aCons (dVar 2) (aCons (dC (.bl true)) aNil))))
    (sSeq (sSet 6 (dOp oAdd (dVar 6) (dLst (aCons (dCall p._law_bent (aCons (dVar 2) (aCons (dVar 7) (aCons (dC (.bl true)) aNil)))) (aCons (dTup (aCons (dC (.int 0)) (aCons (dVar 7) (aCons (dVar 7) aNil)))) aNil)))))
    (sSeq (sIf (tNot' (tVal (dCall p._law_same (aCons (dLCC (dLst (aCons (dC .non) (aCons (dC (.int 0)) (aCons (dC (.str "01")) (aCons (dTup aNil) aNil))))) (gN 8) tYes' (dCall p.is_stamp (aCons (dVar 8) aNil)) [8]) (aCons (dOp oRepL (dLst (aCons (dC (.bl false)) aNil)) (dC (.int 4))) aNil))))) (sRet (dC (.bl false))) sNext)
    (sSeq (sForR (aCons (dC (.int 4)) aNil) (gN 9)
    (sSet 6 (dOp oAdd (dVar 6) (dLst (aCons (dCall p._law_bent (aCons (dVar 2) (aCons (dVar 3) (aCons (dC (.bl false)) aNil)))) (aCons (dCall p._law_bent (aCons (dVar 2) (aCons (dVar 4) (aCons (dC (.bl true)) aNil)))) (aCons (dCall p._law_bent (aCons (dVar 2) (aCons (dVar 5) (aCons (dC (.bl false)) aNil)))) aNil)))))))
    (sForC (dOp oAdd (dVar 6) (dLst (aCons (dC .non) (aCons (dC (.str "0")) (aCons (dC (.bl true)) (aCons (dC (.int 0)) (aCons (dC (.int 1)) (aCons (dUn oNeg (dC (.int 1))) aNil)))))))) (gN 10)
    (sIf (tNot' (tVal (dCall p._law_value_right (aCons (dOp oIx (dLst (aCons (dVar 3) (aCons (dC (.int 1)) (aCons (dVar 10) (aCons (dVar 5) (aCons (dVar 4) aNil)))))) (dCall p._law_sip (aCons (dVar 2) (aCons (dC (.int 5)) aNil)))) (aCons (dVar 10) aNil))))) (sRet (dC (.bl false))) sNext))))))))))
theorem lit4 : ((4 : Nat) : Int) = 4 := rfl
/-- what stands behind the drawing -/
structure Dr (c n0 : Nat) (xs0 : List Val) (S : Store) : Prop where
  cup : CupAt c S
  ne : n0 ≠ c
  out : S[n0]? = some (.lst xs0)
theorem Dr.cs {c n0 : Nat} {xs0 : List Val} {S S' : Store} (h : Dr c n0 xs0 S) (k : Cs c S S') : Dr c n0 xs0 S' := ⟨k.1, h.ne, k.2 _ _ h.ne h.out⟩
theorem Tw.val {c d L : Nat} {v : Val} {S : Store} (h : Tw d L v) (hd : d ≤ 45) (hL : L ≤ 400000) : Good c S 45 400000 v := (h.good (by omega)).up hd hL
theorem l_turn {n n0 : Nat} {xs0 : List Val} {v0 : Option Val} {z : Int} {x2 x3 x4 x5 x6 x7 x8 x9 x10 : Option Val} {S : Store} (hn : 118 < n) (h0 : S[n0]? = some (.lst xs0)) :
    RunS (turnB (fns n) [v0, some (.int z), x2, x3, x4, x5, x6, x7, x8, x9, x10] S) (fun ρ S' => (∃ x1 x2 x3 x4 x5 x6 x7 x8 x9 x10, ρ = [v0, x1, x2, x3, x4, x5, x6, x7, x8, x9, x10]) ∧ S'[n0]? = some (.lst xs0)) (fun r _ => r = .bl true) := by
  unfold turnB
  refine s_step (N' := fun ρ S' => ∃ c, ρ = [v0, some (.int z), some (.ref c), x3, x4, x5, x6, x7, x8, x9, x10] ∧ Dr c n0 xs0 S') ?_ ?_
  · simp only [run_ok, run_okI, run_okB, run_alloc, run_stuck, run_bind, run_ite, run_noX, run_fnOf, w_c, w_op, w_un, w_call, w_callK, w_nil, w_cons, w_tup, w_lst, isB_bl, w_tval, w_tand, w_tor, w_tnot, w_and, w_or, w_not, w_if, s_next, s_seq, s_if, s_ret, s_drop, s_set, s_par, s_put, s_asg, w_var', runS_next, runS_ret, runS_stuck, runS_ite, List.length_cons, List.length_nil, List.length_singleton, List.map_cons, List.map_nil, List.cons_append, List.nil_append, List.replicate_succ, List.replicate_zero, List.getElem?_cons_zero, List.getElem?_cons_succ, List.set_cons_zero, List.set_cons_succ, Nat.reduceAdd, Nat.reduceSub, Nat.reduceEqDiff, ite_true, ite_false, if_true, if_false, reduceIte, Bool.false_eq_true, decide_true, decide_false, String.reduceEq, Int.reduceEq, Nat.reduceLeDiff, true_and, and_true, Bool.not_true, Bool.not_false, decide_eq_true_eq, List.append_nil, bType, bIsi, bLen, bInt, ty_int, ty_bl, ty_str, ty_non, ty_tup, isT, oIs, oIsNot, run_eqI, run_neI, Bool.or_false, Bool.or_true, Bool.false_or, Bool.true_or, Bool.and_true, Bool.and_false, Bool.true_and, Bool.false_and, reduceCtorEq, decide_not, Bool.not_eq_true', decide_eq_false_iff_not, askInt, askBool, askTuple, askList, askStr, oLe, oLt, oGe, oGt, oInt2, atI0, atI1, atI2, run_addI, run_subI]
    refine Run.mono (l_cup (by omega)) fun r S1 ⟨e, k, hc⟩ => ?_
    subst e
    exact ⟨_, rfl, hc, Nat.ne_of_lt (List.getElem?_eq_some_iff.mp h0).1, k _ _ h0⟩
  clear h0
  rintro ρ S1 ⟨c, rfl, dr⟩
  refine s_step (N' := fun ρ S' => ∃ s k, ρ = [v0, some (.int z), some (.ref c), some s, some k, x5, x6, x7, x8, x9, x10] ∧ Tw 4 2000 s ∧ Tw 3 2000 k ∧ Dr c n0 xs0 S') ?_ ?_
  · simp only [run_ok, run_okI, run_okB, run_alloc, run_stuck, run_bind, run_ite, run_noX, run_fnOf, w_c, w_op, w_un, w_call, w_callK, w_nil, w_cons, w_tup, w_lst, isB_bl, w_tval, w_tand, w_tor, w_tnot, w_and, w_or, w_not, w_if, s_next, s_seq, s_if, s_ret, s_drop, s_set, s_par, s_put, s_asg, w_var', runS_next, runS_ret, runS_stuck, runS_ite, List.length_cons, List.length_nil, List.length_singleton, List.map_cons, List.map_nil, List.cons_append, List.nil_append, List.replicate_succ, List.replicate_zero, List.getElem?_cons_zero, List.getElem?_cons_succ, List.set_cons_zero, List.set_cons_succ, Nat.reduceAdd, Nat.reduceSub, Nat.reduceEqDiff, ite_true, ite_false, if_true, if_false, reduceIte, Bool.false_eq_true, decide_true, decide_false, String.reduceEq, Int.reduceEq, Nat.reduceLeDiff, true_and, and_true, Bool.not_true, Bool.not_false, decide_eq_true_eq, List.append_nil, bType, bIsi, bLen, bInt, ty_int, ty_bl, ty_str, ty_non, ty_tup, isT, oIs, oIsNot, run_eqI, run_neI, Bool.or_false, Bool.or_true, Bool.false_or, Bool.true_or, Bool.and_true, Bool.and_false, Bool.true_and, Bool.false_and, reduceCtorEq, decide_not, Bool.not_eq_true', decide_eq_false_iff_not, askInt, askBool, askTuple, askList, askStr, oLe, oLt, oGe, oGt, oInt2, atI0, atI1, atI2, run_addI, run_subI]
    refine Run.mono (l_share 4 n c S1 dr.cup (by omega) (by omega)) fun s S2 ⟨hs, k2⟩ => ?_
    refine Run.mono (l_counts 3 n c S2 k2.1 (by omega) (by omega)) fun k S3 ⟨hk, k3⟩ => ?_
    exact ⟨_, _, rfl, hs.up (by decide) (by decide), hk.tw.up (by decide) (by decide), (dr.cs k2).cs k3⟩
  clear dr
  rintro ρ S1 ⟨s, k, rfl, hs, hk, dr⟩
  refine s_step (N' := fun ρ S' => ∃ l, ρ = [v0, some (.int z), some (.ref c), some s, some k, some l, x6, x7, x8, x9, x10] ∧ Tw 13 20000 l ∧ Dr c n0 xs0 S') ?_ ?_
  · simp only [run_ok, run_okI, run_okB, run_alloc, run_stuck, run_bind, run_ite, run_noX, run_fnOf, w_c, w_op, w_un, w_call, w_callK, w_nil, w_cons, w_tup, w_lst, isB_bl, w_tval, w_tand, w_tor, w_tnot, w_and, w_or, w_not, w_if, s_next, s_seq, s_if, s_ret, s_drop, s_set, s_par, s_put, s_asg, w_var', runS_next, runS_ret, runS_stuck, runS_ite, List.length_cons, List.length_nil, List.length_singleton, List.map_cons, List.map_nil, List.cons_append, List.nil_append, List.replicate_succ, List.replicate_zero, List.getElem?_cons_zero, List.getElem?_cons_succ, List.set_cons_zero, List.set_cons_succ, Nat.reduceAdd, Nat.reduceSub, Nat.reduceEqDiff, ite_true, ite_false, if_true, if_false, reduceIte, Bool.false_eq_true, decide_true, decide_false, String.reduceEq, Int.reduceEq, Nat.reduceLeDiff, true_and, and_true, Bool.not_true, Bool.not_false, decide_eq_true_eq, List.append_nil, bType, bIsi, bLen, bInt, ty_int, ty_bl, ty_str, ty_non, ty_tup, isT, oIs, oIsNot, run_eqI, run_neI, Bool.or_false, Bool.or_true, Bool.false_or, Bool.true_or, Bool.and_true, Bool.and_false, Bool.true_and, Bool.false_and, reduceCtorEq, decide_not, Bool.not_eq_true', decide_eq_false_iff_not, askInt, askBool, askTuple, askList, askStr, oLe, oLt, oGe, oGt, oInt2, atI0, atI1, atI2, run_addI, run_subI]
    refine Run.mono (l_long dr.cup (by omega)) fun l S2 ⟨hl, k2⟩ => ?_
    exact ⟨_, rfl, hl, dr.cs k2⟩
  clear dr
  rintro ρ S1 ⟨l, rfl, hl, dr⟩
  refine s_step (N' := fun ρ S' => ∃ m, ρ = [v0, some (.int z), some (.ref c), some s, some k, some l, some (.ref m), x7, x8, x9, x10] ∧ Dr c n0 xs0 S' ∧ Vals c m S' ∧ ∃ xs, S'[m]? = some (.lst xs) ∧ xs.length = 8) ?_ ?_
  · simp only [run_ok, run_okI, run_okB, run_alloc, run_stuck, run_bind, run_ite, run_noX, run_fnOf, w_c, w_op, w_un, w_call, w_callK, w_nil, w_cons, w_tup, w_lst, isB_bl, w_tval, w_tand, w_tor, w_tnot, w_and, w_or, w_not, w_if, s_next, s_seq, s_if, s_ret, s_drop, s_set, s_par, s_put, s_asg, w_var', runS_next, runS_ret, runS_stuck, runS_ite, List.length_cons, List.length_nil, List.length_singleton, List.map_cons, List.map_nil, List.cons_append, List.nil_append, List.replicate_succ, List.replicate_zero, List.getElem?_cons_zero, List.getElem?_cons_succ, List.set_cons_zero, List.set_cons_succ, Nat.reduceAdd, Nat.reduceSub, Nat.reduceEqDiff, ite_true, ite_false, if_true, if_false, reduceIte, Bool.false_eq_true, decide_true, decide_false, String.reduceEq, Int.reduceEq, Nat.reduceLeDiff, true_and, and_true, Bool.not_true, Bool.not_false, decide_eq_true_eq, List.append_nil, bType, bIsi, bLen, bInt, ty_int, ty_bl, ty_str, ty_non, ty_tup, isT, oIs, oIsNot, run_eqI, run_neI, Bool.or_false, Bool.or_true, Bool.false_or, Bool.true_or, Bool.and_true, Bool.and_false, Bool.true_and, Bool.false_and, reduceCtorEq, decide_not, Bool.not_eq_true', decide_eq_false_iff_not, askInt, askBool, askTuple, askList, askStr, oLe, oLt, oGe, oGt, oInt2, atI0, atI1, atI2, run_addI, run_subI]
    refine Run.mono (l_long dr.cup (by omega)) fun l2 S2 ⟨hl2, k2⟩ => ?_
    refine Run.mono (l_chain k2.1 (by omega)) fun ch S3 ⟨hch, k3⟩ => ?_
    rw [show ∀ Q, Run (oRepT (.tup [.int 0]) (.int 2900) S3) Q = Q (.tup (List.replicate 2900 (.int 0))) S3 from fun Q => run_repT (k := 2900) (by decide) (by decide)]
    have cs := k2.trans k3
    have dr3 := dr.cs cs
    have k4 := (Gr.add S3 [.lst [s, k, l, l2, ch, .tup [l, l], .tup [.int 0, l, l], .tup (List.replicate 2900 (.int 0))]]).kp
    have hnew := get_new S3 (.lst [s, k, l, l2, ch, .tup [l, l], .tup [.int 0, l, l], .tup (List.replicate 2900 (.int 0))])
    refine ⟨_, rfl, dr3.cs ((Cs.refl dr3.cup).kp k4), ⟨Nat.ne_of_gt dr3.cup.lt, _, hnew, Nat.le_of_ble_eq_true rfl, ?_⟩, _, hnew, rfl⟩
    have hch' := hch.gr k4 (by omega)
    generalize S3 ++ _ = T at *
    simp only [List.mem_cons, List.not_mem_nil, or_false, forall_eq_or_imp, forall_eq]
    refine ⟨hs.val (by decide) (by decide), hk.val (by decide) (by decide), hl.val (by decide) (by decide), hl2.val (by decide) (by decide), hch'.up (by decide) (by decide), (Tw.two hl hl (Nat.le_refl _)).val (by decide) (by decide), (Tw.three (d := 13) (.num (i := 0) (by decide) (by decide) (Nat.le_refl 101)) hl hl (Nat.le_refl _)).val (by decide) (by decide), .tup (.same (.num (by decide) (by decide)) 2900) (by decide) (by decide)⟩
  clear dr
  rintro ρ S1 ⟨m, rfl, dr, hv, hlen⟩
  refine s_step (N' := fun ρ S' => ∃ l2, ρ = [v0, some (.int z), some (.ref c), some s, some k, some l, some (.ref m), some l2, x8, x9, x10] ∧ Tw 13 20000 l2 ∧ Dr c n0 xs0 S' ∧ Vals c m S' ∧ ∃ xs, S'[m]? = some (.lst xs) ∧ xs.length = 8) ?_ ?_
  · simp only [run_ok, run_okI, run_okB, run_alloc, run_stuck, run_bind, run_ite, run_noX, run_fnOf, w_c, w_op, w_un, w_call, w_callK, w_nil, w_cons, w_tup, w_lst, isB_bl, w_tval, w_tand, w_tor, w_tnot, w_and, w_or, w_not, w_if, s_next, s_seq, s_if, s_ret, s_drop, s_set, s_par, s_put, s_asg, w_var', runS_next, runS_ret, runS_stuck, runS_ite, List.length_cons, List.length_nil, List.length_singleton, List.map_cons, List.map_nil, List.cons_append, List.nil_append, List.replicate_succ, List.replicate_zero, List.getElem?_cons_zero, List.getElem?_cons_succ, List.set_cons_zero, List.set_cons_succ, Nat.reduceAdd, Nat.reduceSub, Nat.reduceEqDiff, ite_true, ite_false, if_true, if_false, reduceIte, Bool.false_eq_true, decide_true, decide_false, String.reduceEq, Int.reduceEq, Nat.reduceLeDiff, true_and, and_true, Bool.not_true, Bool.not_false, decide_eq_true_eq, List.append_nil, bType, bIsi, bLen, bInt, ty_int, ty_bl, ty_str, ty_non, ty_tup, isT, oIs, oIsNot, run_eqI, run_neI, Bool.or_false, Bool.or_true, Bool.false_or, Bool.true_or, Bool.and_true, Bool.and_false, Bool.true_and, Bool.false_and, reduceCtorEq, decide_not, Bool.not_eq_true', decide_eq_false_iff_not, askInt, askBool, askTuple, askList, askStr, oLe, oLt, oGe, oGt, oInt2, atI0, atI1, atI2, run_addI, run_subI]
    refine Run.mono (l_long dr.cup (by omega)) fun l2 S2 ⟨hl2, k2⟩ => ?_
    exact ⟨_, rfl, hl2, dr.cs k2, hv.cs k2, hlen.elim fun xs h => ⟨xs, k2.2 _ _ hv.1 h.1, h.2⟩⟩
  clear dr hv hlen
  rintro ρ S1 ⟨l2, rfl, hl2, dr, hv, hlen⟩
  refine s_step (N' := fun ρ S' => ∃ m, ρ = [v0, some (.int z), some (.ref c), some s, some k, some l, some (.ref m), some l2, x8, x9, x10] ∧ Dr c n0 xs0 S' ∧ Vals c m S' ∧ ∃ xs, S'[m]? = some (.lst xs) ∧ xs.length = 10) ?_ ?_
  · simp only [run_ok, run_okI, run_okB, run_alloc, run_stuck, run_bind, run_ite, run_noX, run_fnOf, w_c, w_op, w_un, w_call, w_callK, w_nil, w_cons, w_tup, w_lst, isB_bl, w_tval, w_tand, w_tor, w_tnot, w_and, w_or, w_not, w_if, s_next, s_seq, s_if, s_ret, s_drop, s_set, s_par, s_put, s_asg, w_var', runS_next, runS_ret, runS_stuck, runS_ite, List.length_cons, List.length_nil, List.length_singleton, List.map_cons, List.map_nil, List.cons_append, List.nil_append, List.replicate_succ, List.replicate_zero, List.getElem?_cons_zero, List.getElem?_cons_succ, List.set_cons_zero, List.set_cons_succ, Nat.reduceAdd, Nat.reduceSub, Nat.reduceEqDiff, ite_true, ite_false, if_true, if_false, reduceIte, Bool.false_eq_true, decide_true, decide_false, String.reduceEq, Int.reduceEq, Nat.reduceLeDiff, true_and, and_true, Bool.not_true, Bool.not_false, decide_eq_true_eq, List.append_nil, bType, bIsi, bLen, bInt, ty_int, ty_bl, ty_str, ty_non, ty_tup, isT, oIs, oIsNot, run_eqI, run_neI, Bool.or_false, Bool.or_true, Bool.false_or, Bool.true_or, Bool.and_true, Bool.and_false, Bool.true_and, Bool.false_and, reduceCtorEq, decide_not, Bool.not_eq_true', decide_eq_false_iff_not, askInt, askBool, askTuple, askList, askStr, oLe, oLt, oGe, oGt, oInt2, atI0, atI1, atI2, run_addI, run_subI]
    refine Run.mono (l_bent 13 20000 n c true l2 S1 dr.cup hl2 (by omega) (by omega)) fun b S2 ⟨hb, k2⟩ => ?_
    obtain ⟨xs, hxs, hxl⟩ := hlen
    have hxs2 := k2.2 _ _ hv.1 hxs
    refine Vals.more (hv.cs k2) k2.1 ?_ (Nat.le_of_ble_eq_true rfl) (fun zs e => by rw [hxs2] at e; cases e; omega) fun m' S' k3 hv' hz => ?_
    · simp only [List.mem_cons, List.not_mem_nil, or_false, forall_eq_or_imp, forall_eq]
      exact ⟨hb.up (by decide) (by decide), (Tw.three (d := 13) (.num (i := 0) (by decide) (by decide) (Nat.le_refl 101)) hl2 hl2 (Nat.le_refl _)).val (by decide) (by decide)⟩
    · obtain ⟨zs, hz, hzl⟩ := hz xs hxs2
      exact ⟨_, rfl, (dr.cs k2).cs k3, hv', zs, hz, by rw [hzl, hxl]; rfl⟩
  clear dr hv hlen
  rintro ρ S1 ⟨m, rfl, dr, hv, hlen⟩
  refine s_step (N' := fun ρ S' => ρ = [v0, some (.int z), some (.ref c), some s, some k, some l, some (.ref m), some l2, x8, x9, x10] ∧ Dr c n0 xs0 S' ∧ Vals c m S' ∧ ∃ xs, S'[m]? = some (.lst xs) ∧ xs.length = 10) ?_ ?_
  · rw [s_if]
    simp only [run_ok, run_okI, run_okB, run_alloc, run_stuck, run_bind, run_ite, run_noX, run_fnOf, w_c, w_op, w_un, w_call, w_callK, w_nil, w_cons, w_tup, w_lst, isB_bl, w_tval, w_tand, w_tor, w_tnot, w_and, w_or, w_not, w_if, s_next, s_seq, s_if, s_ret, s_drop, s_set, s_par, s_put, s_asg, w_var', runS_next, runS_ret, runS_stuck, runS_ite, List.length_cons, List.length_nil, List.length_singleton, List.map_cons, List.map_nil, List.cons_append, List.nil_append, List.replicate_succ, List.replicate_zero, List.getElem?_cons_zero, List.getElem?_cons_succ, List.set_cons_zero, List.set_cons_succ, Nat.reduceAdd, Nat.reduceSub, Nat.reduceEqDiff, ite_true, ite_false, if_true, if_false, reduceIte, Bool.false_eq_true, decide_true, decide_false, String.reduceEq, Int.reduceEq, Nat.reduceLeDiff, true_and, and_true, Bool.not_true, Bool.not_false, decide_eq_true_eq, List.append_nil, bType, bIsi, bLen, bInt, ty_int, ty_bl, ty_str, ty_non, ty_tup, isT, oIs, oIsNot, run_eqI, run_neI, Bool.or_false, Bool.or_true, Bool.false_or, Bool.true_or, Bool.and_true, Bool.and_false, Bool.true_and, Bool.false_and, reduceCtorEq, decide_not, Bool.not_eq_true', decide_eq_false_iff_not, askInt, askBool, askTuple, askList, askStr, oLe, oLt, oGe, oGt, oInt2, atI0, atI1, atI2, run_addI, run_subI]
    refine Run.mono (run_lcc (xs := [.non, .int 0, .str (Str.ofString "01"), .tup []]) (g := fun _ => .bl false) (by decide) ?_ fun x hx S' => ?_) fun r S2 ⟨S3, e1, e2, k3⟩ => ?_
    · simp only [run_ok, run_okI, run_okB, run_alloc, run_stuck, run_bind, run_ite, run_noX, run_fnOf, w_c, w_op, w_un, w_call, w_callK, w_nil, w_cons, w_tup, w_lst, isB_bl, w_tval, w_tand, w_tor, w_tnot, w_and, w_or, w_not, w_if, s_next, s_seq, s_if, s_ret, s_drop, s_set, s_par, s_put, s_asg, w_var', runS_next, runS_ret, runS_stuck, runS_ite, List.length_cons, List.length_nil, List.length_singleton, List.map_cons, List.map_nil, List.cons_append, List.nil_append, List.replicate_succ, List.replicate_zero, List.getElem?_cons_zero, List.getElem?_cons_succ, List.set_cons_zero, List.set_cons_succ, Nat.reduceAdd, Nat.reduceSub, Nat.reduceEqDiff, ite_true, ite_false, if_true, if_false, reduceIte, Bool.false_eq_true, decide_true, decide_false, String.reduceEq, Int.reduceEq, Nat.reduceLeDiff, true_and, and_true, Bool.not_true, Bool.not_false, decide_eq_true_eq, List.append_nil, bType, bIsi, bLen, bInt, ty_int, ty_bl, ty_str, ty_non, ty_tup, isT, oIs, oIsNot, run_eqI, run_neI, Bool.or_false, Bool.or_true, Bool.false_or, Bool.true_or, Bool.and_true, Bool.and_false, Bool.true_and, Bool.false_and, reduceCtorEq, decide_not, Bool.not_eq_true', decide_eq_false_iff_not, askInt, askBool, askTuple, askList, askStr, oLe, oLt, oGe, oGt, oInt2, atI0, atI1, atI2, run_addI, run_subI]
    · simp only [wipeE, run_ok, run_okI, run_okB, run_alloc, run_stuck, run_bind, run_ite, run_noX, run_fnOf, w_c, w_op, w_un, w_call, w_callK, w_nil, w_cons, w_tup, w_lst, isB_bl, w_tval, w_tand, w_tor, w_tnot, w_and, w_or, w_not, w_if, s_next, s_seq, s_if, s_ret, s_drop, s_set, s_par, s_put, s_asg, w_var', runS_next, runS_ret, runS_stuck, runS_ite, List.length_cons, List.length_nil, List.length_singleton, List.map_cons, List.map_nil, List.cons_append, List.nil_append, List.replicate_succ, List.replicate_zero, List.getElem?_cons_zero, List.getElem?_cons_succ, List.set_cons_zero, List.set_cons_succ, Nat.reduceAdd, Nat.reduceSub, Nat.reduceEqDiff, ite_true, ite_false, if_true, if_false, reduceIte, Bool.false_eq_true, decide_true, decide_false, String.reduceEq, Int.reduceEq, Nat.reduceLeDiff, true_and, and_true, Bool.not_true, Bool.not_false, decide_eq_true_eq, List.append_nil, bType, bIsi, bLen, bInt, ty_int, ty_bl, ty_str, ty_non, ty_tup, isT, oIs, oIsNot, run_eqI, run_neI, Bool.or_false, Bool.or_true, Bool.false_or, Bool.true_or, Bool.and_true, Bool.and_false, Bool.true_and, Bool.false_and, reduceCtorEq, decide_not, Bool.not_eq_true', decide_eq_false_iff_not, askInt, askBool, askTuple, askList, askStr, oLe, oLt, oGe, oGt, oInt2, atI0, atI1, atI2, run_addI, run_subI]
      have dx : Da S' 1 x := by
        simp only [List.mem_cons, List.not_mem_nil, or_false] at hx
        rcases hx with rfl | rfl | rfl | rfl
        · exact .non _
        · exact .int _ _
        · exact .str _ _ (by decide +kernel)
        · exact .tup fun _ h => nomatch h
      refine Run.mono (p_is_stamp dx (by omega) (by omega)) fun r S4 ⟨e, k4⟩ => ?_
      subst e
      simp only [List.mem_cons, List.not_mem_nil, or_false] at hx
      rcases hx with rfl | rfl | rfl | rfl <;> exact ⟨rfl, k4⟩
    · subst e1 e2
      simp only [run_ok, run_okI, run_okB, run_alloc, run_stuck, run_bind, run_ite, run_noX, run_fnOf, w_c, w_op, w_un, w_call, w_callK, w_nil, w_cons, w_tup, w_lst, isB_bl, w_tval, w_tand, w_tor, w_tnot, w_and, w_or, w_not, w_if, s_next, s_seq, s_if, s_ret, s_drop, s_set, s_par, s_put, s_asg, w_var', runS_next, runS_ret, runS_stuck, runS_ite, List.length_cons, List.length_nil, List.length_singleton, List.map_cons, List.map_nil, List.cons_append, List.nil_append, List.replicate_succ, List.replicate_zero, List.getElem?_cons_zero, List.getElem?_cons_succ, List.set_cons_zero, List.set_cons_succ, Nat.reduceAdd, Nat.reduceSub, Nat.reduceEqDiff, ite_true, ite_false, if_true, if_false, reduceIte, Bool.false_eq_true, decide_true, decide_false, String.reduceEq, Int.reduceEq, Nat.reduceLeDiff, true_and, and_true, Bool.not_true, Bool.not_false, decide_eq_true_eq, List.append_nil, bType, bIsi, bLen, bInt, ty_int, ty_bl, ty_str, ty_non, ty_tup, isT, oIs, oIsNot, run_eqI, run_neI, Bool.or_false, Bool.or_true, Bool.false_or, Bool.true_or, Bool.and_true, Bool.and_false, Bool.true_and, Bool.false_and, reduceCtorEq, decide_not, Bool.not_eq_true', decide_eq_false_iff_not, askInt, askBool, askTuple, askList, askStr, oLe, oLt, oGe, oGt, oInt2, atI0, atI1, atI2, run_addI, run_subI]
      rw [show (4 : Int) = ((4 : Nat) : Int) from rfl, run_repL1 (k := 4) (by decide)]
      simp only [run_ok, run_okI, run_okB, run_alloc, run_stuck, run_bind, run_ite, run_noX, run_fnOf, w_c, w_op, w_un, w_call, w_callK, w_nil, w_cons, w_tup, w_lst, isB_bl, w_tval, w_tand, w_tor, w_tnot, w_and, w_or, w_not, w_if, s_next, s_seq, s_if, s_ret, s_drop, s_set, s_par, s_put, s_asg, w_var', runS_next, runS_ret, runS_stuck, runS_ite, List.length_cons, List.length_nil, List.length_singleton, List.map_cons, List.map_nil, List.cons_append, List.nil_append, List.replicate_succ, List.replicate_zero, List.getElem?_cons_zero, List.getElem?_cons_succ, List.set_cons_zero, List.set_cons_succ, Nat.reduceAdd, Nat.reduceSub, Nat.reduceEqDiff, ite_true, ite_false, if_true, if_false, reduceIte, Bool.false_eq_true, decide_true, decide_false, String.reduceEq, Int.reduceEq, Nat.reduceLeDiff, true_and, and_true, Bool.not_true, Bool.not_false, decide_eq_true_eq, List.append_nil, bType, bIsi, bLen, bInt, ty_int, ty_bl, ty_str, ty_non, ty_tup, isT, oIs, oIsNot, run_eqI, run_neI, Bool.or_false, Bool.or_true, Bool.false_or, Bool.true_or, Bool.and_true, Bool.and_false, Bool.true_and, Bool.false_and, reduceCtorEq, decide_not, Bool.not_eq_true', decide_eq_false_iff_not, askInt, askBool, askTuple, askList, askStr, oLe, oLt, oGe, oGt, oInt2, atI0, atI1, atI2, run_addI, run_subI]
      refine Run.mono (l_same (bs := [false, false, false, false]) ((Gr.add _ _).get ((Gr.add _ _).get (get_new _ _))) (get_new _ _) (by decide) (by omega)) fun r S4 ⟨e, k4⟩ => ?_
      subst e
      simp only [run_ok, run_okI, run_okB, run_alloc, run_stuck, run_bind, run_ite, run_noX, run_fnOf, w_c, w_op, w_un, w_call, w_callK, w_nil, w_cons, w_tup, w_lst, isB_bl, w_tval, w_tand, w_tor, w_tnot, w_and, w_or, w_not, w_if, s_next, s_seq, s_if, s_ret, s_drop, s_set, s_par, s_put, s_asg, w_var', runS_next, runS_ret, runS_stuck, runS_ite, List.length_cons, List.length_nil, List.length_singleton, List.map_cons, List.map_nil, List.cons_append, List.nil_append, List.replicate_succ, List.replicate_zero, List.getElem?_cons_zero, List.getElem?_cons_succ, List.set_cons_zero, List.set_cons_succ, Nat.reduceAdd, Nat.reduceSub, Nat.reduceEqDiff, ite_true, ite_false, if_true, if_false, reduceIte, Bool.false_eq_true, decide_true, decide_false, String.reduceEq, Int.reduceEq, Nat.reduceLeDiff, true_and, and_true, Bool.not_true, Bool.not_false, decide_eq_true_eq, List.append_nil, bType, bIsi, bLen, bInt, ty_int, ty_bl, ty_str, ty_non, ty_tup, isT, oIs, oIsNot, run_eqI, run_neI, Bool.or_false, Bool.or_true, Bool.false_or, Bool.true_or, Bool.and_true, Bool.and_false, Bool.true_and, Bool.false_and, reduceCtorEq, decide_not, Bool.not_eq_true', decide_eq_false_iff_not, askInt, askBool, askTuple, askList, askStr, oLe, oLt, oGe, oGt, oInt2, atI0, atI1, atI2, run_addI, run_subI]
      have kk := (Cs.refl dr.cup).kp (k3.trans ((((Gr.add _ _).trans (Gr.add _ _)).trans (Gr.add _ _)).kp.trans k4))
      exact ⟨dr.cs kk, hv.cs kk, hlen.elim fun xs h => ⟨xs, kk.2 _ _ hv.1 h.1, h.2⟩⟩
  clear dr hv hlen
  rintro ρ S1 ⟨rfl, dr, hv, hlen⟩
  refine s_step (N' := fun ρ S' => ∃ m x9, ρ = [v0, some (.int z), some (.ref c), some s, some k, some l, some (.ref m), some l2, x8, x9, x10] ∧ Dr c n0 xs0 S' ∧ Vals c m S' ∧ ∃ xs, S'[m]? = some (.lst xs) ∧ xs.length = 22) ?_ ?_
  · rw [s_forR]
    simp only [run_ok, run_okI, run_okB, run_alloc, run_stuck, run_bind, run_ite, run_noX, run_fnOf, w_c, w_op, w_un, w_call, w_callK, w_nil, w_cons, w_tup, w_lst, isB_bl, w_tval, w_tand, w_tor, w_tnot, w_and, w_or, w_not, w_if, s_next, s_seq, s_if, s_ret, s_drop, s_set, s_par, s_put, s_asg, w_var', runS_next, runS_ret, runS_stuck, runS_ite, List.length_cons, List.length_nil, List.length_singleton, List.map_cons, List.map_nil, List.cons_append, List.nil_append, List.replicate_succ, List.replicate_zero, List.getElem?_cons_zero, List.getElem?_cons_succ, List.set_cons_zero, List.set_cons_succ, Nat.reduceAdd, Nat.reduceSub, Nat.reduceEqDiff, ite_true, ite_false, if_true, if_false, reduceIte, Bool.false_eq_true, decide_true, decide_false, String.reduceEq, Int.reduceEq, Nat.reduceLeDiff, true_and, and_true, Bool.not_true, Bool.not_false, decide_eq_true_eq, List.append_nil, bType, bIsi, bLen, bInt, ty_int, ty_bl, ty_str, ty_non, ty_tup, isT, oIs, oIsNot, run_eqI, run_neI, Bool.or_false, Bool.or_true, Bool.false_or, Bool.true_or, Bool.and_true, Bool.and_false, Bool.true_and, Bool.false_and, reduceCtorEq, decide_not, Bool.not_eq_true', decide_eq_false_iff_not, askInt, askBool, askTuple, askList, askStr, oLe, oLt, oGe, oGt, oInt2, atI0, atI1, atI2, run_addI, run_subI]
    show if -(2 ^ 62) ≤ (4 : Int) ∧ (4 : Int) < 2 ^ 62 then _ else False
    rw [if_pos (by decide)]
    refine RunS.mono (runS_loopV 4 (fun j ρ S' => ∃ m x9, ρ = [v0, some (.int z), some (.ref c), some s, some k, some l, some (.ref m), some l2, x8, x9, x10] ∧ Dr c n0 xs0 S' ∧ Vals c m S' ∧ ∃ xs, S'[m]? = some (.lst xs) ∧ xs.length = 10 + 3 * j) ?_ (rangeV 0 4) 0 _ _ (by rw [rangeV_len]; omega) ⟨_, _, rfl, dr, hv, hlen⟩) ?_ fun _ _ h => h
    · clear dr hv hlen
      rintro j x ρ S1 hj ⟨m, x9, rfl, dr, hv, xs, hxs, hxl⟩
      refine ⟨_, rfl, ?_⟩
      simp only [run_ok, run_okI, run_okB, run_alloc, run_stuck, run_bind, run_ite, run_noX, run_fnOf, w_c, w_op, w_un, w_call, w_callK, w_nil, w_cons, w_tup, w_lst, isB_bl, w_tval, w_tand, w_tor, w_tnot, w_and, w_or, w_not, w_if, s_next, s_seq, s_if, s_ret, s_drop, s_set, s_par, s_put, s_asg, w_var', runS_next, runS_ret, runS_stuck, runS_ite, List.length_cons, List.length_nil, List.length_singleton, List.map_cons, List.map_nil, List.cons_append, List.nil_append, List.replicate_succ, List.replicate_zero, List.getElem?_cons_zero, List.getElem?_cons_succ, List.set_cons_zero, List.set_cons_succ, Nat.reduceAdd, Nat.reduceSub, Nat.reduceEqDiff, ite_true, ite_false, if_true, if_false, reduceIte, Bool.false_eq_true, decide_true, decide_false, String.reduceEq, Int.reduceEq, Nat.reduceLeDiff, true_and, and_true, Bool.not_true, Bool.not_false, decide_eq_true_eq, List.append_nil, bType, bIsi, bLen, bInt, ty_int, ty_bl, ty_str, ty_non, ty_tup, isT, oIs, oIsNot, run_eqI, run_neI, Bool.or_false, Bool.or_true, Bool.false_or, Bool.true_or, Bool.and_true, Bool.and_false, Bool.true_and, Bool.false_and, reduceCtorEq, decide_not, Bool.not_eq_true', decide_eq_false_iff_not, askInt, askBool, askTuple, askList, askStr, oLe, oLt, oGe, oGt, oInt2, atI0, atI1, atI2, run_addI, run_subI]
      refine Run.mono (l_bent 4 2000 n c false s S1 dr.cup hs (by omega) (by omega)) fun b1 S2 ⟨hb1, k2⟩ => ?_
      refine Run.mono (l_bent 3 2000 n c true k S2 k2.1 hk (by omega) (by omega)) fun b2 S3 ⟨hb2, k3⟩ => ?_
      refine Run.mono (l_bent 13 20000 n c false l S3 k3.1 hl (by omega) (by omega)) fun b3 S4 ⟨hb3, k4⟩ => ?_
      have kk := (k2.trans k3).trans k4
      have hxs2 := kk.2 _ _ hv.1 hxs
      refine Vals.more (hv.cs kk) kk.1 ?_ (Nat.le_of_ble_eq_true rfl) (fun zs e => by rw [hxs2] at e; cases e; omega) fun m' S' k5 hv' hz => ?_
      · simp only [List.mem_cons, List.not_mem_nil, or_false, forall_eq_or_imp, forall_eq]
        exact ⟨(hb1.cs (k3.trans k4) (by decide)).up (by decide) (by decide), (hb2.cs k4 (by decide)).up (by decide) (by decide), hb3.up (by decide) (by decide)⟩
      · obtain ⟨zs, hz, hzl⟩ := hz xs hxs2
        exact ⟨_, _, rfl, (dr.cs kk).cs k5, hv', zs, hz, by rw [hzl, hxl]; show 10 + 3 * j + 3 = 10 + 3 * (j + 1); omega⟩
    · rw [rangeV_len]
      exact fun _ _ h => h
  clear dr hv hlen
  rintro ρ S1 ⟨m, x9, rfl, dr, hv, xs, hxs, hxl⟩
  refine s_forC ?_
  simp only [w_un, run_neg, run_ok, run_okI, run_okB, run_alloc, run_stuck, run_bind, run_ite, run_noX, run_fnOf, w_c, w_op, w_un, w_call, w_callK, w_nil, w_cons, w_tup, w_lst, isB_bl, w_tval, w_tand, w_tor, w_tnot, w_and, w_or, w_not, w_if, s_next, s_seq, s_if, s_ret, s_drop, s_set, s_par, s_put, s_asg, w_var', runS_next, runS_ret, runS_stuck, runS_ite, List.length_cons, List.length_nil, List.length_singleton, List.map_cons, List.map_nil, List.cons_append, List.nil_append, List.replicate_succ, List.replicate_zero, List.getElem?_cons_zero, List.getElem?_cons_succ, List.set_cons_zero, List.set_cons_succ, Nat.reduceAdd, Nat.reduceSub, Nat.reduceEqDiff, ite_true, ite_false, if_true, if_false, reduceIte, Bool.false_eq_true, decide_true, decide_false, String.reduceEq, Int.reduceEq, Nat.reduceLeDiff, true_and, and_true, Bool.not_true, Bool.not_false, decide_eq_true_eq, List.append_nil, bType, bIsi, bLen, bInt, ty_int, ty_bl, ty_str, ty_non, ty_tup, isT, oIs, oIsNot, run_eqI, run_neI, Bool.or_false, Bool.or_true, Bool.false_or, Bool.true_or, Bool.and_true, Bool.and_false, Bool.true_and, Bool.false_and, reduceCtorEq, decide_not, Bool.not_eq_true', decide_eq_false_iff_not, askInt, askBool, askTuple, askList, askStr, oLe, oLt, oGe, oGt, oInt2, atI0, atI1, atI2, run_addI, run_subI]
  refine Vals.more hv dr.cup ?_ (Nat.le_of_ble_eq_true rfl) (fun zs e => by rw [hxs] at e; cases e; omega) fun m' S' k5 hv' hz => ?_
  · simp only [List.mem_cons, List.not_mem_nil, or_false, forall_eq_or_imp, forall_eq]
    exact ⟨.non (by decide), .str canLay_ascii0.1 (Nat.le_trans canLay_ascii0.2.1 (by decide)) canLay_ascii0.2.2.2.2.1, .bl (by decide), (Good.num (by decide) (by decide)).up (Nat.le_refl _) (by decide), (Good.num (by decide) (by decide)).up (Nat.le_refl _) (by decide), (Good.num (by decide) (by decide)).up (Nat.le_refl _) (by decide)⟩
  clear hz
  obtain ⟨hmc, ys, hys, _, hgd⟩ := hv'
  refine ⟨m', ys, rfl, hys, ?_⟩
  refine RunS.mono (runS_loopC (n := m') (xs := ys) (fun j ρ S' => (∃ x10, ρ = [v0, some (.int z), some (.ref c), some s, some k, some l, some (.ref m), some l2, x8, x9, x10]) ∧ Dr c n0 xs0 S' ∧ S'[m']? = some (.lst ys) ∧ ∀ y ∈ ys, Good c S' 45 400000 y) (fun _ _ _ h => h.2.2.1) ?_ _ 0 _ _ (Nat.zero_add _) ⟨⟨_, rfl⟩, dr.cs k5, hys, hgd⟩) (fun ρ S2 h => ?_) fun _ _ h => h
  · clear hys hgd dr hv hxs k5
    rintro j x ρ S1 hx ⟨⟨x10, rfl⟩, dr, hys, hgd⟩
    refine ⟨_, rfl, ?_⟩
    have hgx := hgd x (List.mem_of_getElem? hx)
    rw [s_if]
    simp only [run_ok, run_okI, run_okB, run_alloc, run_stuck, run_bind, run_ite, run_noX, run_fnOf, w_c, w_op, w_un, w_call, w_callK, w_nil, w_cons, w_tup, w_lst, isB_bl, w_tval, w_tand, w_tor, w_tnot, w_and, w_or, w_not, w_if, s_next, s_seq, s_if, s_ret, s_drop, s_set, s_par, s_put, s_asg, w_var', runS_next, runS_ret, runS_stuck, runS_ite, List.length_cons, List.length_nil, List.length_singleton, List.map_cons, List.map_nil, List.cons_append, List.nil_append, List.replicate_succ, List.replicate_zero, List.getElem?_cons_zero, List.getElem?_cons_succ, List.set_cons_zero, List.set_cons_succ, Nat.reduceAdd, Nat.reduceSub, Nat.reduceEqDiff, ite_true, ite_false, if_true, if_false, reduceIte, Bool.false_eq_true, decide_true, decide_false, String.reduceEq, Int.reduceEq, Nat.reduceLeDiff, true_and, and_true, Bool.not_true, Bool.not_false, decide_eq_true_eq, List.append_nil, bType, bIsi, bLen, bInt, ty_int, ty_bl, ty_str, ty_non, ty_tup, isT, oIs, oIsNot, run_eqI, run_neI, Bool.or_false, Bool.or_true, Bool.false_or, Bool.true_or, Bool.and_true, Bool.and_false, Bool.true_and, Bool.false_and, reduceCtorEq, decide_not, Bool.not_eq_true', decide_eq_false_iff_not, askInt, askBool, askTuple, askList, askStr, oLe, oLt, oGe, oGt, oInt2, atI0, atI1, atI2, run_addI, run_subI]
    refine Run.mono (l_draw (k := 5) (P := fun y => ∀ T, Kx c S1 T → Da T 49 y) dr.cup rfl rfl (by decide) (by decide) (by omega) ?_) fun y S2 hy => Run.mono hy fun y S3 ⟨hy, k3⟩ => ?_
    · simp only [List.mem_cons, List.not_mem_nil, or_false, forall_eq_or_imp, forall_eq]
      exact ⟨fun T _ => (hs.da (by omega)).up (by omega), fun T _ => .int _ _, fun T k => ((hgx.kx k (by omega)).da.da).up (by omega), fun T _ => (hl.da (by omega)).up (by omega), fun T _ => (hk.da (by omega)).up (by omega)⟩
    · refine Run.mono (l_right (hgx.cs k3 (by omega)) (by omega) (by decide) (hy S3 k3.2) (by omega) (by omega)) fun r S4 ⟨e, k4⟩ => ?_
      subst e
      simp only [run_ok, run_okI, run_okB, run_alloc, run_stuck, run_bind, run_ite, run_noX, run_fnOf, w_c, w_op, w_un, w_call, w_callK, w_nil, w_cons, w_tup, w_lst, isB_bl, w_tval, w_tand, w_tor, w_tnot, w_and, w_or, w_not, w_if, s_next, s_seq, s_if, s_ret, s_drop, s_set, s_par, s_put, s_asg, w_var', runS_next, runS_ret, runS_stuck, runS_ite, List.length_cons, List.length_nil, List.length_singleton, List.map_cons, List.map_nil, List.cons_append, List.nil_append, List.replicate_succ, List.replicate_zero, List.getElem?_cons_zero, List.getElem?_cons_succ, List.set_cons_zero, List.set_cons_succ, Nat.reduceAdd, Nat.reduceSub, Nat.reduceEqDiff, ite_true, ite_false, if_true, if_false, reduceIte, Bool.false_eq_true, decide_true, decide_false, String.reduceEq, Int.reduceEq, Nat.reduceLeDiff, true_and, and_true, Bool.not_true, Bool.not_false, decide_eq_true_eq, List.append_nil, bType, bIsi, bLen, bInt, ty_int, ty_bl, ty_str, ty_non, ty_tup, isT, oIs, oIsNot, run_eqI, run_neI, Bool.or_false, Bool.or_true, Bool.false_or, Bool.true_or, Bool.and_true, Bool.and_false, Bool.true_and, Bool.false_and, reduceCtorEq, decide_not, Bool.not_eq_true', decide_eq_false_iff_not, askInt, askBool, askTuple, askList, askStr, oLe, oLt, oGe, oGt, oInt2, atI0, atI1, atI2, run_addI, run_subI]
      have kk := k3.kp k4
      exact ⟨⟨_, rfl⟩, dr.cs kk, kk.2 _ _ hmc hys, fun y hy => (hgd y hy).cs kk (by omega)⟩
  · obtain ⟨⟨x10, rfl⟩, dr, _⟩ := h
    exact ⟨⟨_, _, _, _, _, _, _, _, _, _, rfl⟩, dr.out⟩
theorem l_law (ns : List Int) : ∃ S, (fns 120).law [.kl (ns.map Val.int)] [] = .ok (.bl true) S := by
  have : Run ((fns 120).law [.kl (ns.map Val.int)] []) (fun r _ => r = .bl true) := by
    show Run (fnOf 1 11 (b_law (fns 119)) [.kl (ns.map Val.int)] []) _
    generalize hn : (119 : Nat) = n
    have hn : 118 < n := by omega
    unfold b_law
    refine run_fn rfl rfl ?_
    refine s_step (N' := fun _ _ => True) ?_ ?_
    · refine s_forC ?_
      simp only [w_sl, w_oNone, w_oSome, run_ok, run_okI, run_okB, run_alloc, run_stuck, run_bind, run_ite, run_noX, run_fnOf, w_c, w_op, w_un, w_call, w_callK, w_nil, w_cons, w_tup, w_lst, isB_bl, w_tval, w_tand, w_tor, w_tnot, w_and, w_or, w_not, w_if, s_next, s_seq, s_if, s_ret, s_drop, s_set, s_par, s_put, s_asg, w_var', runS_next, runS_ret, runS_stuck, runS_ite, List.length_cons, List.length_nil, List.length_singleton, List.map_cons, List.map_nil, List.cons_append, List.nil_append, List.replicate_succ, List.replicate_zero, List.getElem?_cons_zero, List.getElem?_cons_succ, List.set_cons_zero, List.set_cons_succ, Nat.reduceAdd, Nat.reduceSub, Nat.reduceEqDiff, ite_true, ite_false, if_true, if_false, reduceIte, Bool.false_eq_true, decide_true, decide_false, String.reduceEq, Int.reduceEq, Nat.reduceLeDiff, true_and, and_true, Bool.not_true, Bool.not_false, decide_eq_true_eq, List.append_nil, bType, bIsi, bLen, bInt, ty_int, ty_bl, ty_str, ty_non, ty_tup, isT, oIs, oIsNot, run_eqI, run_neI, Bool.or_false, Bool.or_true, Bool.false_or, Bool.true_or, Bool.and_true, Bool.and_false, Bool.true_and, Bool.false_and, reduceCtorEq, decide_not, Bool.not_eq_true', decide_eq_false_iff_not, askInt, askBool, askTuple, askList, askStr, oLe, oLt, oGe, oGt, oInt2, atI0, atI1, atI2, run_addI, run_subI]
      rw [show ∀ (S : Store) Q, Run (vSl (.kl (ns.map Val.int)) none (some 5) S) Q = Q (.ref S.length) (S ++ [.lst (cutL (ns.map Val.int) none (some 5))]) from fun _ _ => rfl]
      have hcut : (cutL (ns.map Val.int) none (some 5)).length ≤ 5 ∧ ∀ x ∈ cutL (ns.map Val.int) none (some 5), ∃ z : Int, x = .int z := by
        have hc : cutL (ns.map Val.int) none (some 5) = (ns.map Val.int).take (HT.sIx (ns.map Val.int).length (ns.map Val.int).length (some 5) - 0) := rfl
        have h5 : HT.sIx (ns.map Val.int).length (ns.map Val.int).length (some 5) ≤ 5 := by
          have := HT.sIx_nat (ns.map Val.int).length (ns.map Val.int).length 5
          rw [show (some (5 : Int)) = some ((5 : Nat) : Int) from rfl, this]
          exact Nat.min_le_left _ _
        rw [hc]
        refine ⟨by rw [List.length_take]; omega, fun x hx => ?_⟩
        obtain ⟨z, _, e⟩ := List.mem_map.mp (List.mem_of_mem_take hx)
        exact ⟨z, e.symm⟩
      generalize cutL (ns.map Val.int) none (some 5) = cut at *
      have e1 := (Gr.add [.lst [.int 66359386868121849920000000000000000000000494814815315814814821]] [.lst cut]).get (get_new [] (.lst [.int 66359386868121849920000000000000000000000494814815315814814821]))
      rw [show (0 : Nat) = List.length ([] : List Cell) from rfl, run_addL e1 (get_new _ _) (by rw [List.length_singleton]; omega)]
      have hy : ∀ x ∈ [Val.int 66359386868121849920000000000000000000000494814815315814814821] ++ cut, ∃ z : Int, x = .int z := fun x hmem => by
        rcases List.mem_append.mp hmem with h | h
        · exact ⟨_, List.mem_singleton.mp h⟩
        · exact hcut.2 _ h
      have hfin := get_new ([Cell.lst [.int 66359386868121849920000000000000000000000494814815315814814821]] ++ [.lst cut]) (.lst ([Val.int 66359386868121849920000000000000000000000494814815315814814821] ++ cut))
      refine ⟨_, _, rfl, hfin, ?_⟩
      generalize [Val.int 66359386868121849920000000000000000000000494814815315814814821] ++ cut = ys at *
      generalize List.length ([Cell.lst [.int 66359386868121849920000000000000000000000494814815315814814821]] ++ [.lst cut]) = n0 at *
      generalize [Cell.lst [.int 66359386868121849920000000000000000000000494814815315814814821]] ++ [.lst cut] ++ [Cell.lst ys] = S0 at *
      refine RunS.mono (runS_loopC (n := n0) (xs := ys) (fun j ρ S' => (∃ x1 x2 x3 x4 x5 x6 x7 x8 x9 x10, ρ = [some (.kl (ns.map Val.int)), x1, x2, x3, x4, x5, x6, x7, x8, x9, x10]) ∧ S'[n0]? = some (.lst ys)) (fun _ _ _ h => h.2) ?_ _ 0 _ _ (Nat.zero_add _) ⟨⟨_, _, _, _, _, _, _, _, _, _, rfl⟩, hfin⟩) (fun _ _ _ => trivial) fun _ _ h => h
      rintro j x ρ S1 hx ⟨⟨x1, x2, x3, x4, x5, x6, x7, x8, x9, x10, rfl⟩, h0⟩
      obtain ⟨z, rfl⟩ := hy x (List.mem_of_getElem? hx)
      exact ⟨_, rfl, l_turn hn h0⟩
    · rintro ρ S1 _
      simp only [run_ok, run_okI, run_okB, run_alloc, run_stuck, run_bind, run_ite, run_noX, run_fnOf, w_c, w_op, w_un, w_call, w_callK, w_nil, w_cons, w_tup, w_lst, isB_bl, w_tval, w_tand, w_tor, w_tnot, w_and, w_or, w_not, w_if, s_next, s_seq, s_if, s_ret, s_drop, s_set, s_par, s_put, s_asg, w_var', runS_next, runS_ret, runS_stuck, runS_ite, List.length_cons, List.length_nil, List.length_singleton, List.map_cons, List.map_nil, List.cons_append, List.nil_append, List.replicate_succ, List.replicate_zero, List.getElem?_cons_zero, List.getElem?_cons_succ, List.set_cons_zero, List.set_cons_succ, Nat.reduceAdd, Nat.reduceSub, Nat.reduceEqDiff, ite_true, ite_false, if_true, if_false, reduceIte, Bool.false_eq_true, decide_true, decide_false, String.reduceEq, Int.reduceEq, Nat.reduceLeDiff, true_and, and_true, Bool.not_true, Bool.not_false, decide_eq_true_eq, List.append_nil, bType, bIsi, bLen, bInt, ty_int, ty_bl, ty_str, ty_non, ty_tup, isT, oIs, oIsNot, run_eqI, run_neI, Bool.or_false, Bool.or_true, Bool.false_or, Bool.true_or, Bool.and_true, Bool.and_false, Bool.true_and, Bool.false_and, reduceCtorEq, decide_not, Bool.not_eq_true', decide_eq_false_iff_not, askInt, askBool, askTuple, askList, askStr, oLe, oLt, oGe, oGt, oInt2, atI0, atI1, atI2, run_addI, run_subI]
  obtain ⟨a, S, e, q⟩ := this.to
  exact ⟨S, by rw [e, q]⟩
end PD.K01

/-! ## K01End -/
set_option Elab.async false
set_option linter.all false
set_option maxRecDepth 100000
set_option maxHeartbeats 4000000
namespace PD.K01
open PySem PySem.Spec L2 PD
structure DefAt (K : PySem.W.Frag) (mg : Str → Option Value) (x : Str) (st : Stmt) (ps : List Str) where
  a : Addr
  d : FuncData
  F : Fun K x x st a d
  m : mg x = some (.ref a)
  b : Binds K d ps []
def mkDef {K : PySem.W.Frag} {h : Heap} {mg : Str → Option Value} (X : K.In h) (G : h.Ns mainGlobals mg) {x : Str} {st : Stmt} {ps : List Str} {f : Addr} {od an : Option Addr} {sl : Array (Option Value)} {oc kV dc pm cd ct : Value}
    (h1 : PySem.W.nsIn K mainGlobals x = some (some (.ref f))) (h2 : K.lookup f = some ⟨oc, od, .func (PySem.W.fnOf x x (defArgs st) (defBody st) (defScope st) .none kV dc pm an cd ct), sl⟩) (h3 : PySem.W.codeIn K cd x = true) (h4 : PySem.W.keepIn K (.ref f) = true)
    (hb : ∀ (kV doc pm : Value) (an : Option Addr) (cdv ct : Value) (us : List Value), us.length = ps.length → bindArgs (PySem.W.fnOf x x (defArgs st) (defBody st) (defScope st) .none kV doc pm an cdv ct) ⟨us, []⟩ = pure (ps.zip us)) : DefAt K mg x st ps :=
  ⟨f, _, fun_mk h2 h3 h4, PySem.W.mg_of X G h1, (fun_mk h2 h3 h4).binds hb⟩
theorem kbOf {K : PySem.W.Frag} {x : Str} {st : Stmt} {f : Addr} {fd : FuncData} {ps ks : List Str} {is : List Nat} (F : Fun K x x st f fd)
    (h : ∀ (kV doc pm : Value) (an : Option Addr) (cdv ct : Value) (ws : List Value), ws.length = ks.length → bindArgs (PySem.W.fnOf x x (defArgs st) (defBody st) (defScope st) .none kV doc pm an cdv ct) ⟨[], ks.zip ws⟩ = pure (ps.zip (pick is ws))) : KB0 K fd ps ks is := by
  obtain ⟨oc, od, kV, doc, pm, an, cdv, ct, osl, rfl, _, _⟩ := F.ex
  exact fun s ws _ hl _ => .of_eq (h kV doc pm an cdv ct ws hl)
theorem exm_b {K : PySem.W.Frag} {C D : Addr} {b : Bool} (h1 : PySem.W.subIn K (.ref D) (.type "BaseException") = some true) (h2 : PySem.W.isClsIn K D = true) (h3 : PySem.W.typeIn K (.ref D) = some (.type "type")) (h4 : PySem.W.subIn K (.ref C) (.ref D) = some b) :
    PySem.W.exmOne K (.ref C) (.ref D) = some b := by
  have e1 : (PySem.W.subIn K (.ref D) (.type "BaseException") == some true) = true := by rw [h1]; rfl
  have e2 : ((PySem.W.clsIn K D).isSome && PySem.W.typeIn K (.ref D) == some (.type "type")) = true := by
    rw [show (PySem.W.clsIn K D).isSome = true from h2, h3]; rfl
  show (if (PySem.W.subIn K (.ref D) (.type "BaseException") == some true) = true then (if ((PySem.W.clsIn K D).isSome && PySem.W.typeIn K (.ref D) == some (.type "type")) = true then PySem.W.subIn K (.ref C) (.ref D) else none) else none) = some b
  rw [if_pos e1, if_pos e2]
  exact h4
theorem mk_all {l : PySem.W.OpenLaw} {w : World} {K : PySem.W.Frag} {h : Heap} {mg : Str → Option Value} {fa : Addr} (X : K.In h) (G : h.Ns mainGlobals mg) (hfa : mg "law" = some (.ref fa))
    (D_tuple_count : DefAt K mg "tuple_count" s_tuple_count ["tree"])
    (D_is_share : DefAt K mg "is_share" s_is_share ["value"])
    (D__is_share_tree : DefAt K mg "_is_share_tree" s__is_share_tree ["value", "deepest"])
    (D_check_share : DefAt K mg "check_share" s_check_share ["value"])
    (D_is_path : DefAt K mg "is_path" s_is_path ["value"])
    (D_check_path : DefAt K mg "check_path" s_check_path ["value"])
    (D_owned_paths : DefAt K mg "owned_paths" s_owned_paths ["share"])
    (D_paths_had : DefAt K mg "paths_had" s_paths_had ["share"])
    (D_least : DefAt K mg "least" s_least ["counts"])
    (D_greatest : DefAt K mg "greatest" s_greatest ["counts"])
    (D_lifted : DefAt K mg "lifted" s_lifted ["counts", "number"])
    (D_halves : DefAt K mg "halves" s_halves ["counts"])
    (D_is_counts : DefAt K mg "is_counts" s_is_counts ["value"])
    (D__is_counts_tree : DefAt K mg "_is_counts_tree" s__is_counts_tree ["value", "deepest"])
    (D_check_counts : DefAt K mg "check_counts" s_check_counts ["value"])
    (D_worth_at : DefAt K mg "worth_at" s_worth_at ["counts", "path"])
    (D_is_stamp : DefAt K mg "is_stamp" s_is_stamp ["value"])
    (D__law_cup : DefAt K mg "_law_cup" s__law_cup ["cell"])
    (D__law_sip : DefAt K mg "_law_sip" s__law_sip ["cup", "many"])
    (D__law_same : DefAt K mg "_law_same" s__law_same ["found", "due"])
    (D__law_share : DefAt K mg "_law_share" s__law_share ["cup", "deep"])
    (D__law_counts : DefAt K mg "_law_counts" s__law_counts ["cup", "deep"])
    (D__law_long : DefAt K mg "_law_long" s__law_long ["cup", "counts"])
    (D__law_is_share : DefAt K mg "_law_is_share" s__law_is_share ["value", "deep"])
    (D__law_is_counts : DefAt K mg "_law_is_counts" s__law_is_counts ["value", "deep"])
    (D__law_least : DefAt K mg "_law_least" s__law_least ["counts"])
    (D__law_size : DefAt K mg "_law_size" s__law_size ["tree"])
    (D__law_bent : DefAt K mg "_law_bent" s__law_bent ["cup", "tree", "counts"])
    (D__law_door : DefAt K mg "_law_door" s__law_door ["door", "value"])
    (D__law_chain : DefAt K mg "_law_chain" s__law_chain ["cup"])
    (D__law_value_right : DefAt K mg "_law_value_right" s__law_value_right ["share", "value"])
    (D_law : DefAt K mg "law" s_law ["script"])
    {c_StampError : Addr} (a_StampError : PySem.W.nsIn K mainGlobals "StampError" = some (some (.ref c_StampError))) (x_StampError : PySem.W.excIn K c_StampError [.type "ValueError", .type "Exception", .type "BaseException", .type "object"] "ValueError.__new__" = true)
    (kp_StampError : PySem.W.keepIn K (.ref c_StampError) = true) (sb_StampError : PySem.W.subIn K (.ref c_StampError) (.type "BaseException") = some true) (ty_StampError : PySem.W.typeIn K (.ref c_StampError) = some (.type "type")) (ic_StampError : PySem.W.isClsIn K c_StampError = true)
    {c_InvalidShare : Addr} (a_InvalidShare : PySem.W.nsIn K mainGlobals "InvalidShare" = some (some (.ref c_InvalidShare))) (x_InvalidShare : PySem.W.excIn K c_InvalidShare [.type "ValueError", .type "Exception", .type "BaseException", .type "object"] "ValueError.__new__" = true)
    (kp_InvalidShare : PySem.W.keepIn K (.ref c_InvalidShare) = true) (sb_InvalidShare : PySem.W.subIn K (.ref c_InvalidShare) (.type "BaseException") = some true) (ty_InvalidShare : PySem.W.typeIn K (.ref c_InvalidShare) = some (.type "type")) (ic_InvalidShare : PySem.W.isClsIn K c_InvalidShare = true)
    {c_InvalidCounts : Addr} (a_InvalidCounts : PySem.W.nsIn K mainGlobals "InvalidCounts" = some (some (.ref c_InvalidCounts))) (x_InvalidCounts : PySem.W.excIn K c_InvalidCounts [.type "ValueError", .type "Exception", .type "BaseException", .type "object"] "ValueError.__new__" = true)
    (kp_InvalidCounts : PySem.W.keepIn K (.ref c_InvalidCounts) = true) (sb_InvalidCounts : PySem.W.subIn K (.ref c_InvalidCounts) (.type "BaseException") = some true) (ty_InvalidCounts : PySem.W.typeIn K (.ref c_InvalidCounts) = some (.type "type")) (ic_InvalidCounts : PySem.W.isClsIn K c_InvalidCounts = true)
    {c_InvalidPath : Addr} (a_InvalidPath : PySem.W.nsIn K mainGlobals "InvalidPath" = some (some (.ref c_InvalidPath))) (x_InvalidPath : PySem.W.excIn K c_InvalidPath [.type "ValueError", .type "Exception", .type "BaseException", .type "object"] "ValueError.__new__" = true)
    (kp_InvalidPath : PySem.W.keepIn K (.ref c_InvalidPath) = true) (sb_InvalidPath : PySem.W.subIn K (.ref c_InvalidPath) (.type "BaseException") = some true) (ty_InvalidPath : PySem.W.typeIn K (.ref c_InvalidPath) = some (.type "type")) (ic_InvalidPath : PySem.W.isClsIn K c_InvalidPath = true)
    (n_all : PySem.W.nsIn K mainGlobals "all" = some none)
    (n_bool : PySem.W.nsIn K mainGlobals "bool" = some none)
    (n_int : PySem.W.nsIn K mainGlobals "int" = some none)
    (n_isinstance : PySem.W.nsIn K mainGlobals "isinstance" = some none)
    (n_len : PySem.W.nsIn K mainGlobals "len" = some none)
    (n_list : PySem.W.nsIn K mainGlobals "list" = some none)
    (n_max : PySem.W.nsIn K mainGlobals "max" = some none)
    (n_min : PySem.W.nsIn K mainGlobals "min" = some none)
    (n_range : PySem.W.nsIn K mainGlobals "range" = some none)
    (n_repr : PySem.W.nsIn K mainGlobals "repr" = some none)
    (n_str : PySem.W.nsIn K mainGlobals "str" = some none)
    (n_sum : PySem.W.nsIn K mainGlobals "sum" = some none)
    (n_tuple : PySem.W.nsIn K mainGlobals "tuple" = some none)
    (n_type : PySem.W.nsIn K mainGlobals "type" = some none)
    {u_DEEPEST : Value} (h_DEEPEST : PySem.W.nsIn K mainGlobals "DEEPEST" = some (some u_DEEPEST)) (g_DEEPEST : ∃ t, u_DEEPEST = .int 12 t)
    {u_MOST_TUPLES : Value} (h_MOST_TUPLES : PySem.W.nsIn K mainGlobals "MOST_TUPLES" = some (some u_MOST_TUPLES)) (g_MOST_TUPLES : ∃ t, u_MOST_TUPLES = .int 63 t)
    (e_0_0 : PySem.W.subIn K (.ref c_StampError) (.ref c_StampError) = some true)
    (e_0_1 : PySem.W.subIn K (.ref c_StampError) (.ref c_InvalidShare) = some false)
    (e_0_2 : PySem.W.subIn K (.ref c_StampError) (.ref c_InvalidCounts) = some false)
    (e_0_3 : PySem.W.subIn K (.ref c_StampError) (.ref c_InvalidPath) = some false)
    (e_1_0 : PySem.W.subIn K (.ref c_InvalidShare) (.ref c_StampError) = some true)
    (e_1_1 : PySem.W.subIn K (.ref c_InvalidShare) (.ref c_InvalidShare) = some true)
    (e_1_2 : PySem.W.subIn K (.ref c_InvalidShare) (.ref c_InvalidCounts) = some false)
    (e_1_3 : PySem.W.subIn K (.ref c_InvalidShare) (.ref c_InvalidPath) = some false)
    (e_2_0 : PySem.W.subIn K (.ref c_InvalidCounts) (.ref c_StampError) = some true)
    (e_2_1 : PySem.W.subIn K (.ref c_InvalidCounts) (.ref c_InvalidShare) = some false)
    (e_2_2 : PySem.W.subIn K (.ref c_InvalidCounts) (.ref c_InvalidCounts) = some true)
    (e_2_3 : PySem.W.subIn K (.ref c_InvalidCounts) (.ref c_InvalidPath) = some false)
    (e_3_0 : PySem.W.subIn K (.ref c_InvalidPath) (.ref c_StampError) = some true)
    (e_3_1 : PySem.W.subIn K (.ref c_InvalidPath) (.ref c_InvalidShare) = some false)
    (e_3_2 : PySem.W.subIn K (.ref c_InvalidPath) (.ref c_InvalidCounts) = some false)
    (e_3_3 : PySem.W.subIn K (.ref c_InvalidPath) (.ref c_InvalidPath) = some true)
    : ∃ (fd : FuncData) (cv : Nat → Value), (∀ (s : Shared) (u : Value), BindsTo s fd ⟨[u], []⟩ [("script", u)]) ∧ ∀ base : Heap, K.In base → base.Ns mainGlobals mg → FnG l.prog w K mg base 120 fa fd ["script"] (SpecOf ⟨K, cv⟩ (fns 120).law) := by
  have e := hfa.symm.trans D_law.m
  cases e
  let T0 : Txt K mg := {
    a_tuple_count := D_tuple_count.a, d_tuple_count := D_tuple_count.d, F_tuple_count := D_tuple_count.F, m_tuple_count := D_tuple_count.m, b_tuple_count := D_tuple_count.b,
    a_is_share := D_is_share.a, d_is_share := D_is_share.d, F_is_share := D_is_share.F, m_is_share := D_is_share.m, b_is_share := D_is_share.b,
    a__is_share_tree := D__is_share_tree.a, d__is_share_tree := D__is_share_tree.d, F__is_share_tree := D__is_share_tree.F, m__is_share_tree := D__is_share_tree.m, b__is_share_tree := D__is_share_tree.b,
    a_check_share := D_check_share.a, d_check_share := D_check_share.d, F_check_share := D_check_share.F, m_check_share := D_check_share.m, b_check_share := D_check_share.b,
    a_is_path := D_is_path.a, d_is_path := D_is_path.d, F_is_path := D_is_path.F, m_is_path := D_is_path.m, b_is_path := D_is_path.b,
    a_check_path := D_check_path.a, d_check_path := D_check_path.d, F_check_path := D_check_path.F, m_check_path := D_check_path.m, b_check_path := D_check_path.b,
    a_owned_paths := D_owned_paths.a, d_owned_paths := D_owned_paths.d, F_owned_paths := D_owned_paths.F, m_owned_paths := D_owned_paths.m, b_owned_paths := D_owned_paths.b,
    a_paths_had := D_paths_had.a, d_paths_had := D_paths_had.d, F_paths_had := D_paths_had.F, m_paths_had := D_paths_had.m, b_paths_had := D_paths_had.b,
    a_least := D_least.a, d_least := D_least.d, F_least := D_least.F, m_least := D_least.m, b_least := D_least.b,
    a_greatest := D_greatest.a, d_greatest := D_greatest.d, F_greatest := D_greatest.F, m_greatest := D_greatest.m, b_greatest := D_greatest.b,
    a_lifted := D_lifted.a, d_lifted := D_lifted.d, F_lifted := D_lifted.F, m_lifted := D_lifted.m, b_lifted := D_lifted.b,
    a_halves := D_halves.a, d_halves := D_halves.d, F_halves := D_halves.F, m_halves := D_halves.m, b_halves := D_halves.b,
    a_is_counts := D_is_counts.a, d_is_counts := D_is_counts.d, F_is_counts := D_is_counts.F, m_is_counts := D_is_counts.m, b_is_counts := D_is_counts.b,
    a__is_counts_tree := D__is_counts_tree.a, d__is_counts_tree := D__is_counts_tree.d, F__is_counts_tree := D__is_counts_tree.F, m__is_counts_tree := D__is_counts_tree.m, b__is_counts_tree := D__is_counts_tree.b,
    a_check_counts := D_check_counts.a, d_check_counts := D_check_counts.d, F_check_counts := D_check_counts.F, m_check_counts := D_check_counts.m, b_check_counts := D_check_counts.b,
    a_worth_at := D_worth_at.a, d_worth_at := D_worth_at.d, F_worth_at := D_worth_at.F, m_worth_at := D_worth_at.m, b_worth_at := D_worth_at.b,
    a_is_stamp := D_is_stamp.a, d_is_stamp := D_is_stamp.d, F_is_stamp := D_is_stamp.F, m_is_stamp := D_is_stamp.m, b_is_stamp := D_is_stamp.b,
    a__law_cup := D__law_cup.a, d__law_cup := D__law_cup.d, F__law_cup := D__law_cup.F, m__law_cup := D__law_cup.m, b__law_cup := D__law_cup.b,
    a__law_sip := D__law_sip.a, d__law_sip := D__law_sip.d, F__law_sip := D__law_sip.F, m__law_sip := D__law_sip.m, b__law_sip := D__law_sip.b,
    a__law_same := D__law_same.a, d__law_same := D__law_same.d, F__law_same := D__law_same.F, m__law_same := D__law_same.m, b__law_same := D__law_same.b,
    a__law_share := D__law_share.a, d__law_share := D__law_share.d, F__law_share := D__law_share.F, m__law_share := D__law_share.m, b__law_share := D__law_share.b,
    a__law_counts := D__law_counts.a, d__law_counts := D__law_counts.d, F__law_counts := D__law_counts.F, m__law_counts := D__law_counts.m, b__law_counts := D__law_counts.b,
    a__law_long := D__law_long.a, d__law_long := D__law_long.d, F__law_long := D__law_long.F, m__law_long := D__law_long.m, b__law_long := D__law_long.b,
    a__law_is_share := D__law_is_share.a, d__law_is_share := D__law_is_share.d, F__law_is_share := D__law_is_share.F, m__law_is_share := D__law_is_share.m, b__law_is_share := D__law_is_share.b,
    a__law_is_counts := D__law_is_counts.a, d__law_is_counts := D__law_is_counts.d, F__law_is_counts := D__law_is_counts.F, m__law_is_counts := D__law_is_counts.m, b__law_is_counts := D__law_is_counts.b,
    a__law_least := D__law_least.a, d__law_least := D__law_least.d, F__law_least := D__law_least.F, m__law_least := D__law_least.m, b__law_least := D__law_least.b,
    a__law_size := D__law_size.a, d__law_size := D__law_size.d, F__law_size := D__law_size.F, m__law_size := D__law_size.m, b__law_size := D__law_size.b,
    a__law_bent := D__law_bent.a, d__law_bent := D__law_bent.d, F__law_bent := D__law_bent.F, m__law_bent := D__law_bent.m, b__law_bent := D__law_bent.b,
    a__law_door := D__law_door.a, d__law_door := D__law_door.d, F__law_door := D__law_door.F, m__law_door := D__law_door.m, b__law_door := D__law_door.b,
    a__law_chain := D__law_chain.a, d__law_chain := D__law_chain.d, F__law_chain := D__law_chain.F, m__law_chain := D__law_chain.m, b__law_chain := D__law_chain.b,
    a__law_value_right := D__law_value_right.a, d__law_value_right := D__law_value_right.d, F__law_value_right := D__law_value_right.F, m__law_value_right := D__law_value_right.m, b__law_value_right := D__law_value_right.b,
    a_law := D_law.a, d_law := D_law.d, F_law := D_law.F, m_law := D_law.m, b_law := D_law.b,
    kb_is_counts_value := kbOf D_is_counts.F (fun _ _ _ _ _ _ ws hl => match ws, hl with | [_], _ => rfl),
    kb_is_share_value := kbOf D_is_share.F (fun _ _ _ _ _ _ ws hl => match ws, hl with | [_], _ => rfl),
    kb_is_stamp_value := kbOf D_is_stamp.F (fun _ _ _ _ _ _ ws hl => match ws, hl with | [_], _ => rfl),
    kb_owned_paths_share := kbOf D_owned_paths.F (fun _ _ _ _ _ _ ws hl => match ws, hl with | [_], _ => rfl),
    kb_worth_at_path_counts := kbOf D_worth_at.F (fun _ _ _ _ _ _ ws hl => match ws, hl with | [_, _], _ => rfl),
    g_DEEPEST := g_DEEPEST.elim fun t z => ⟨t, z ▸ PySem.W.mg_of X G h_DEEPEST⟩,
    g_MOST_TUPLES := g_MOST_TUPLES.elim fun t z => ⟨t, z ▸ PySem.W.mg_of X G h_MOST_TUPLES⟩,
    n_all := PySem.W.mg_none_of X G n_all,
    n_bool := PySem.W.mg_none_of X G n_bool,
    n_int := PySem.W.mg_none_of X G n_int,
    n_isinstance := PySem.W.mg_none_of X G n_isinstance,
    n_len := PySem.W.mg_none_of X G n_len,
    n_list := PySem.W.mg_none_of X G n_list,
    n_max := PySem.W.mg_none_of X G n_max,
    n_min := PySem.W.mg_none_of X G n_min,
    n_range := PySem.W.mg_none_of X G n_range,
    n_repr := PySem.W.mg_none_of X G n_repr,
    n_str := PySem.W.mg_none_of X G n_str,
    n_sum := PySem.W.mg_none_of X G n_sum,
    n_tuple := PySem.W.mg_none_of X G n_tuple,
    n_type := PySem.W.mg_none_of X G n_type,
    c_StampError := c_StampError, m_StampError := PySem.W.mg_of X G a_StampError, x_StampError := x_StampError, kp_StampError := kp_StampError, sb_StampError := sb_StampError, ty_StampError := ty_StampError,
    c_InvalidShare := c_InvalidShare, m_InvalidShare := PySem.W.mg_of X G a_InvalidShare, x_InvalidShare := x_InvalidShare, kp_InvalidShare := kp_InvalidShare, sb_InvalidShare := sb_InvalidShare, ty_InvalidShare := ty_InvalidShare,
    c_InvalidCounts := c_InvalidCounts, m_InvalidCounts := PySem.W.mg_of X G a_InvalidCounts, x_InvalidCounts := x_InvalidCounts, kp_InvalidCounts := kp_InvalidCounts, sb_InvalidCounts := sb_InvalidCounts, ty_InvalidCounts := ty_InvalidCounts,
    c_InvalidPath := c_InvalidPath, m_InvalidPath := PySem.W.mg_of X G a_InvalidPath, x_InvalidPath := x_InvalidPath, kp_InvalidPath := kp_InvalidPath, sb_InvalidPath := sb_InvalidPath, ty_InvalidPath := ty_InvalidPath }
  have cl : Clss K T0.cv 4 mt := ⟨fun c k hc hk => by
    have z_0_0 := exm_b sb_StampError ic_StampError ty_StampError e_0_0
    have z_0_1 := exm_b sb_InvalidShare ic_InvalidShare ty_InvalidShare e_0_1
    have z_0_2 := exm_b sb_InvalidCounts ic_InvalidCounts ty_InvalidCounts e_0_2
    have z_0_3 := exm_b sb_InvalidPath ic_InvalidPath ty_InvalidPath e_0_3
    have z_1_0 := exm_b sb_StampError ic_StampError ty_StampError e_1_0
    have z_1_1 := exm_b sb_InvalidShare ic_InvalidShare ty_InvalidShare e_1_1
    have z_1_2 := exm_b sb_InvalidCounts ic_InvalidCounts ty_InvalidCounts e_1_2
    have z_1_3 := exm_b sb_InvalidPath ic_InvalidPath ty_InvalidPath e_1_3
    have z_2_0 := exm_b sb_StampError ic_StampError ty_StampError e_2_0
    have z_2_1 := exm_b sb_InvalidShare ic_InvalidShare ty_InvalidShare e_2_1
    have z_2_2 := exm_b sb_InvalidCounts ic_InvalidCounts ty_InvalidCounts e_2_2
    have z_2_3 := exm_b sb_InvalidPath ic_InvalidPath ty_InvalidPath e_2_3
    have z_3_0 := exm_b sb_StampError ic_StampError ty_StampError e_3_0
    have z_3_1 := exm_b sb_InvalidShare ic_InvalidShare ty_InvalidShare e_3_1
    have z_3_2 := exm_b sb_InvalidCounts ic_InvalidCounts ty_InvalidCounts e_3_2
    have z_3_3 := exm_b sb_InvalidPath ic_InvalidPath ty_InvalidPath e_3_3
    match c, k, hc, hk with
    | 0, 0, _, _ => exact z_0_0
    | 0, 1, _, _ => exact z_0_1
    | 0, 2, _, _ => exact z_0_2
    | 0, 3, _, _ => exact z_0_3
    | 1, 0, _, _ => exact z_1_0
    | 1, 1, _, _ => exact z_1_1
    | 1, 2, _, _ => exact z_1_2
    | 1, 3, _, _ => exact z_1_3
    | 2, 0, _, _ => exact z_2_0
    | 2, 1, _, _ => exact z_2_1
    | 2, 2, _, _ => exact z_2_2
    | 2, 3, _, _ => exact z_2_3
    | 3, 0, _, _ => exact z_3_0
    | 3, 1, _, _ => exact z_3_1
    | 3, 2, _, _ => exact z_3_2
    | 3, 3, _, _ => exact z_3_3
    | c + 4, _, hc, _ => exact absurd hc (by omega)
    | _, k + 4, _, hk => exact absurd hk (by omega)⟩
  let T : TxtC K mg := { T0 with cls := cl }
  refine ⟨D_law.d, T.cv, fun s u => ?_, fun base _ _ => (all_g T 120).g_law⟩
  obtain ⟨oc, od, kV, doc, pm, an, cdv, ct, osl, hfd, _, _⟩ := D_law.F.ex
  rw [hfd]
  exact .of_eq rfl
theorem law_true (ns : List Int) (h : ns.length ≤ 63) (hb : ∀ z ∈ ns, Builtin.Int.intBits z ≤ 1048576) : ∃ S, (fns 120).law [.kl (ns.map Val.int)] [] = .ok (.bl true) S := l_law ns
theorem walk {l : PySem.W.OpenLaw} {q : Program} {loose : List Str} {XP : (Str → Option Value) → Heap → Prop} {YP : World → Heap → Prop} {d : DefRec} {K : Params → PySem.W.Frag} (hn : l.most = some 63) (hdf : d.params.defaults = [])
    (hY : ∀ (w : World) (h : Heap), YP w h → (K w.params).In h)
    (F : ∀ (w : World) (mg : Str → Option Value) (fa : Addr) (h : Heap), (K w.params).In h → h.Ns mainGlobals mg → mg d.name = some (.ref fa) →
      ∃ (fd : FuncData) (cv : Nat → Value), (∀ (s : Shared) (u : Value), BindsTo s fd ⟨[u], []⟩ [("script", u)]) ∧ ∀ base : Heap, (K w.params).In base → base.Ns mainGlobals mg → FnG l.prog w (K w.params) mg base 120 fa fd ["script"] (SpecOf ⟨K w.params, cv⟩ (fns 120).law)) :
    PySem.W.WalkO q loose XP YP l.row.toRowW d [] (fun f vs => PySem.call f vs) :=
  walk_g (n := 63) (k := 120) hn (by rw [sizeLine_eq]; decide) hdf ⟨rfl, by decide, by decide⟩ hY F law_true
end PD.K01
open PySem PySem.W PyProof.Rows
set_option maxRecDepth 100000 in
set_option maxHeartbeats 0 in
theorem PySem.Challenge.cw_heirstamps_k01_shares_counts_stamps_judg_holds : PySem.Challenge.rw_heirstamps_k01_shares_counts_stamps_judg.Holds := by
  w_on; o_law; k_head; (case hw => w_witness2)
  k_fill
  refine PD.K01.walk (l := PySem.Challenge.rw_heirstamps_k01_shares_counts_stamps_judg) rfl rfl (fun w h Y => PySem.W.kIn_of Y) ?F
  case F =>
    intro w mg fa h KX G hmg
    have D_tuple_count : PD.K01.DefAt (L2.KOf KX) mg "tuple_count" PD.K01.s_tuple_count ["tree"] := by
      refine' PD.K01.mkDef KX G ?h1 ?h2 ?h3 ?h4 (fun _ _ _ _ _ _ us hl => match us, hl with | [_], _ => rfl); (case h1 => k_is); (case h2 => k_is); (case h3 => k_is); (case h4 => k_is)
    have D_is_share : PD.K01.DefAt (L2.KOf KX) mg "is_share" PD.K01.s_is_share ["value"] := by
      refine' PD.K01.mkDef KX G ?h1 ?h2 ?h3 ?h4 (fun _ _ _ _ _ _ us hl => match us, hl with | [_], _ => rfl); (case h1 => k_is); (case h2 => k_is); (case h3 => k_is); (case h4 => k_is)
    have D__is_share_tree : PD.K01.DefAt (L2.KOf KX) mg "_is_share_tree" PD.K01.s__is_share_tree ["value", "deepest"] := by
      refine' PD.K01.mkDef KX G ?h1 ?h2 ?h3 ?h4 (fun _ _ _ _ _ _ us hl => match us, hl with | [_, _], _ => rfl); (case h1 => k_is); (case h2 => k_is); (case h3 => k_is); (case h4 => k_is)
    have D_check_share : PD.K01.DefAt (L2.KOf KX) mg "check_share" PD.K01.s_check_share ["value"] := by
      refine' PD.K01.mkDef KX G ?h1 ?h2 ?h3 ?h4 (fun _ _ _ _ _ _ us hl => match us, hl with | [_], _ => rfl); (case h1 => k_is); (case h2 => k_is); (case h3 => k_is); (case h4 => k_is)
    have D_is_path : PD.K01.DefAt (L2.KOf KX) mg "is_path" PD.K01.s_is_path ["value"] := by
      refine' PD.K01.mkDef KX G ?h1 ?h2 ?h3 ?h4 (fun _ _ _ _ _ _ us hl => match us, hl with | [_], _ => rfl); (case h1 => k_is); (case h2 => k_is); (case h3 => k_is); (case h4 => k_is)
    have D_check_path : PD.K01.DefAt (L2.KOf KX) mg "check_path" PD.K01.s_check_path ["value"] := by
      refine' PD.K01.mkDef KX G ?h1 ?h2 ?h3 ?h4 (fun _ _ _ _ _ _ us hl => match us, hl with | [_], _ => rfl); (case h1 => k_is); (case h2 => k_is); (case h3 => k_is); (case h4 => k_is)
    have D_owned_paths : PD.K01.DefAt (L2.KOf KX) mg "owned_paths" PD.K01.s_owned_paths ["share"] := by
      refine' PD.K01.mkDef KX G ?h1 ?h2 ?h3 ?h4 (fun _ _ _ _ _ _ us hl => match us, hl with | [_], _ => rfl); (case h1 => k_is); (case h2 => k_is); (case h3 => k_is); (case h4 => k_is)
    have D_paths_had : PD.K01.DefAt (L2.KOf KX) mg "paths_had" PD.K01.s_paths_had ["share"] := by
      refine' PD.K01.mkDef KX G ?h1 ?h2 ?h3 ?h4 (fun _ _ _ _ _ _ us hl => match us, hl with | [_], _ => rfl); (case h1 => k_is); (case h2 => k_is); (case h3 => k_is); (case h4 => k_is)
    have D_least : PD.K01.DefAt (L2.KOf KX) mg "least" PD.K01.s_least ["counts"] := by
      refine' PD.K01.mkDef KX G ?h1 ?h2 ?h3 ?h4 (fun _ _ _ _ _ _ us hl => match us, hl with | [_], _ => rfl); (case h1 => k_is); (case h2 => k_is); (case h3 => k_is); (case h4 => k_is)
    have D_greatest : PD.K01.DefAt (L2.KOf KX) mg "greatest" PD.K01.s_greatest ["counts"] := by
      refine' PD.K01.mkDef KX G ?h1 ?h2 ?h3 ?h4 (fun _ _ _ _ _ _ us hl => match us, hl with | [_], _ => rfl); (case h1 => k_is); (case h2 => k_is); (case h3 => k_is); (case h4 => k_is)
    have D_lifted : PD.K01.DefAt (L2.KOf KX) mg "lifted" PD.K01.s_lifted ["counts", "number"] := by
      refine' PD.K01.mkDef KX G ?h1 ?h2 ?h3 ?h4 (fun _ _ _ _ _ _ us hl => match us, hl with | [_, _], _ => rfl); (case h1 => k_is); (case h2 => k_is); (case h3 => k_is); (case h4 => k_is)
    have D_halves : PD.K01.DefAt (L2.KOf KX) mg "halves" PD.K01.s_halves ["counts"] := by
      refine' PD.K01.mkDef KX G ?h1 ?h2 ?h3 ?h4 (fun _ _ _ _ _ _ us hl => match us, hl with | [_], _ => rfl); (case h1 => k_is); (case h2 => k_is); (case h3 => k_is); (case h4 => k_is)
    have D_is_counts : PD.K01.DefAt (L2.KOf KX) mg "is_counts" PD.K01.s_is_counts ["value"] := by
      refine' PD.K01.mkDef KX G ?h1 ?h2 ?h3 ?h4 (fun _ _ _ _ _ _ us hl => match us, hl with | [_], _ => rfl); (case h1 => k_is); (case h2 => k_is); (case h3 => k_is); (case h4 => k_is)
    have D__is_counts_tree : PD.K01.DefAt (L2.KOf KX) mg "_is_counts_tree" PD.K01.s__is_counts_tree ["value", "deepest"] := by
      refine' PD.K01.mkDef KX G ?h1 ?h2 ?h3 ?h4 (fun _ _ _ _ _ _ us hl => match us, hl with | [_, _], _ => rfl); (case h1 => k_is); (case h2 => k_is); (case h3 => k_is); (case h4 => k_is)
    have D_check_counts : PD.K01.DefAt (L2.KOf KX) mg "check_counts" PD.K01.s_check_counts ["value"] := by
      refine' PD.K01.mkDef KX G ?h1 ?h2 ?h3 ?h4 (fun _ _ _ _ _ _ us hl => match us, hl with | [_], _ => rfl); (case h1 => k_is); (case h2 => k_is); (case h3 => k_is); (case h4 => k_is)
    have D_worth_at : PD.K01.DefAt (L2.KOf KX) mg "worth_at" PD.K01.s_worth_at ["counts", "path"] := by
      refine' PD.K01.mkDef KX G ?h1 ?h2 ?h3 ?h4 (fun _ _ _ _ _ _ us hl => match us, hl with | [_, _], _ => rfl); (case h1 => k_is); (case h2 => k_is); (case h3 => k_is); (case h4 => k_is)
    have D_is_stamp : PD.K01.DefAt (L2.KOf KX) mg "is_stamp" PD.K01.s_is_stamp ["value"] := by
      refine' PD.K01.mkDef KX G ?h1 ?h2 ?h3 ?h4 (fun _ _ _ _ _ _ us hl => match us, hl with | [_], _ => rfl); (case h1 => k_is); (case h2 => k_is); (case h3 => k_is); (case h4 => k_is)
    have D__law_cup : PD.K01.DefAt (L2.KOf KX) mg "_law_cup" PD.K01.s__law_cup ["cell"] := by
      refine' PD.K01.mkDef KX G ?h1 ?h2 ?h3 ?h4 (fun _ _ _ _ _ _ us hl => match us, hl with | [_], _ => rfl); (case h1 => k_is); (case h2 => k_is); (case h3 => k_is); (case h4 => k_is)
    have D__law_sip : PD.K01.DefAt (L2.KOf KX) mg "_law_sip" PD.K01.s__law_sip ["cup", "many"] := by
      refine' PD.K01.mkDef KX G ?h1 ?h2 ?h3 ?h4 (fun _ _ _ _ _ _ us hl => match us, hl with | [_, _], _ => rfl); (case h1 => k_is); (case h2 => k_is); (case h3 => k_is); (case h4 => k_is)
    have D__law_same : PD.K01.DefAt (L2.KOf KX) mg "_law_same" PD.K01.s__law_same ["found", "due"] := by
      refine' PD.K01.mkDef KX G ?h1 ?h2 ?h3 ?h4 (fun _ _ _ _ _ _ us hl => match us, hl with | [_, _], _ => rfl); (case h1 => k_is); (case h2 => k_is); (case h3 => k_is); (case h4 => k_is)
    have D__law_share : PD.K01.DefAt (L2.KOf KX) mg "_law_share" PD.K01.s__law_share ["cup", "deep"] := by
      refine' PD.K01.mkDef KX G ?h1 ?h2 ?h3 ?h4 (fun _ _ _ _ _ _ us hl => match us, hl with | [_, _], _ => rfl); (case h1 => k_is); (case h2 => k_is); (case h3 => k_is); (case h4 => k_is)
    have D__law_counts : PD.K01.DefAt (L2.KOf KX) mg "_law_counts" PD.K01.s__law_counts ["cup", "deep"] := by
      refine' PD.K01.mkDef KX G ?h1 ?h2 ?h3 ?h4 (fun _ _ _ _ _ _ us hl => match us, hl with | [_, _], _ => rfl); (case h1 => k_is); (case h2 => k_is); (case h3 => k_is); (case h4 => k_is)
    have D__law_long : PD.K01.DefAt (L2.KOf KX) mg "_law_long" PD.K01.s__law_long ["cup", "counts"] := by
      refine' PD.K01.mkDef KX G ?h1 ?h2 ?h3 ?h4 (fun _ _ _ _ _ _ us hl => match us, hl with | [_, _], _ => rfl); (case h1 => k_is); (case h2 => k_is); (case h3 => k_is); (case h4 => k_is)
    have D__law_is_share : PD.K01.DefAt (L2.KOf KX) mg "_law_is_share" PD.K01.s__law_is_share ["value", "deep"] := by
      refine' PD.K01.mkDef KX G ?h1 ?h2 ?h3 ?h4 (fun _ _ _ _ _ _ us hl => match us, hl with | [_, _], _ => rfl); (case h1 => k_is); (case h2 => k_is); (case h3 => k_is); (case h4 => k_is)
    have D__law_is_counts : PD.K01.DefAt (L2.KOf KX) mg "_law_is_counts" PD.K01.s__law_is_counts ["value", "deep"] := by
      refine' PD.K01.mkDef KX G ?h1 ?h2 ?h3 ?h4 (fun _ _ _ _ _ _ us hl => match us, hl with | [_, _], _ => rfl); (case h1 => k_is); (case h2 => k_is); (case h3 => k_is); (case h4 => k_is)
    have D__law_least : PD.K01.DefAt (L2.KOf KX) mg "_law_least" PD.K01.s__law_least ["counts"] := by
      refine' PD.K01.mkDef KX G ?h1 ?h2 ?h3 ?h4 (fun _ _ _ _ _ _ us hl => match us, hl with | [_], _ => rfl); (case h1 => k_is); (case h2 => k_is); (case h3 => k_is); (case h4 => k_is)
    have D__law_size : PD.K01.DefAt (L2.KOf KX) mg "_law_size" PD.K01.s__law_size ["tree"] := by
      refine' PD.K01.mkDef KX G ?h1 ?h2 ?h3 ?h4 (fun _ _ _ _ _ _ us hl => match us, hl with | [_], _ => rfl); (case h1 => k_is); (case h2 => k_is); (case h3 => k_is); (case h4 => k_is)
    have D__law_bent : PD.K01.DefAt (L2.KOf KX) mg "_law_bent" PD.K01.s__law_bent ["cup", "tree", "counts"] := by
      refine' PD.K01.mkDef KX G ?h1 ?h2 ?h3 ?h4 (fun _ _ _ _ _ _ us hl => match us, hl with | [_, _, _], _ => rfl); (case h1 => k_is); (case h2 => k_is); (case h3 => k_is); (case h4 => k_is)
    have D__law_door : PD.K01.DefAt (L2.KOf KX) mg "_law_door" PD.K01.s__law_door ["door", "value"] := by
      refine' PD.K01.mkDef KX G ?h1 ?h2 ?h3 ?h4 (fun _ _ _ _ _ _ us hl => match us, hl with | [_, _], _ => rfl); (case h1 => k_is); (case h2 => k_is); (case h3 => k_is); (case h4 => k_is)
    have D__law_chain : PD.K01.DefAt (L2.KOf KX) mg "_law_chain" PD.K01.s__law_chain ["cup"] := by
      refine' PD.K01.mkDef KX G ?h1 ?h2 ?h3 ?h4 (fun _ _ _ _ _ _ us hl => match us, hl with | [_], _ => rfl); (case h1 => k_is); (case h2 => k_is); (case h3 => k_is); (case h4 => k_is)
    have D__law_value_right : PD.K01.DefAt (L2.KOf KX) mg "_law_value_right" PD.K01.s__law_value_right ["share", "value"] := by
      refine' PD.K01.mkDef KX G ?h1 ?h2 ?h3 ?h4 (fun _ _ _ _ _ _ us hl => match us, hl with | [_, _], _ => rfl); (case h1 => k_is); (case h2 => k_is); (case h3 => k_is); (case h4 => k_is)
    have D_law : PD.K01.DefAt (L2.KOf KX) mg "law" PD.K01.s_law ["script"] := by
      refine' PD.K01.mkDef KX G ?h1 ?h2 ?h3 ?h4 (fun _ _ _ _ _ _ us hl => match us, hl with | [_], _ => rfl); (case h1 => k_is); (case h2 => k_is); (case h3 => k_is); (case h4 => k_is)
    refine' PD.K01.mk_all (l := PySem.Challenge.rw_heirstamps_k01_shares_counts_stamps_judg) (w := w) KX G hmg D_tuple_count D_is_share D__is_share_tree D_check_share D_is_path D_check_path D_owned_paths D_paths_had D_least D_greatest D_lifted D_halves D_is_counts D__is_counts_tree D_check_counts D_worth_at D_is_stamp D__law_cup D__law_sip D__law_same D__law_share D__law_counts D__law_long D__law_is_share D__law_is_counts D__law_least D__law_size D__law_bent D__law_door D__law_chain D__law_value_right D_law ?a_StampError ?x_StampError ?kp_StampError ?sb_StampError ?ty_StampError ?ic_StampError ?a_InvalidShare ?x_InvalidShare ?kp_InvalidShare ?sb_InvalidShare ?ty_InvalidShare ?ic_InvalidShare ?a_InvalidCounts ?x_InvalidCounts ?kp_InvalidCounts ?sb_InvalidCounts ?ty_InvalidCounts ?ic_InvalidCounts ?a_InvalidPath ?x_InvalidPath ?kp_InvalidPath ?sb_InvalidPath ?ty_InvalidPath ?ic_InvalidPath ?n_all ?n_bool ?n_int ?n_isinstance ?n_len ?n_list ?n_max ?n_min ?n_range ?n_repr ?n_str ?n_sum ?n_tuple ?n_type ?hh_DEEPEST ?gg_DEEPEST ?hh_MOST_TUPLES ?gg_MOST_TUPLES ?e_0_0 ?e_0_1 ?e_0_2 ?e_0_3 ?e_1_0 ?e_1_1 ?e_1_2 ?e_1_3 ?e_2_0 ?e_2_1 ?e_2_2 ?e_2_3 ?e_3_0 ?e_3_1 ?e_3_2 ?e_3_3
    (case a_StampError => k_is)
    (case a_InvalidShare => k_is)
    (case a_InvalidCounts => k_is)
    (case a_InvalidPath => k_is)
    (case x_StampError => k_exc)
    (case kp_StampError => k_is)
    (case sb_StampError => k_is)
    (case ty_StampError => k_is)
    (case ic_StampError => k_is)
    (case x_InvalidShare => k_exc)
    (case kp_InvalidShare => k_is)
    (case sb_InvalidShare => k_is)
    (case ty_InvalidShare => k_is)
    (case ic_InvalidShare => k_is)
    (case x_InvalidCounts => k_exc)
    (case kp_InvalidCounts => k_is)
    (case sb_InvalidCounts => k_is)
    (case ty_InvalidCounts => k_is)
    (case ic_InvalidCounts => k_is)
    (case x_InvalidPath => k_exc)
    (case kp_InvalidPath => k_is)
    (case sb_InvalidPath => k_is)
    (case ty_InvalidPath => k_is)
    (case ic_InvalidPath => k_is)
    (case n_all => k_is)
    (case n_bool => k_is)
    (case n_int => k_is)
    (case n_isinstance => k_is)
    (case n_len => k_is)
    (case n_list => k_is)
    (case n_max => k_is)
    (case n_min => k_is)
    (case n_range => k_is)
    (case n_repr => k_is)
    (case n_str => k_is)
    (case n_sum => k_is)
    (case n_tuple => k_is)
    (case n_type => k_is)
    (case e_0_0 => first | rfl | k_is)
    (case e_0_1 => first | rfl | k_is)
    (case e_0_2 => first | rfl | k_is)
    (case e_0_3 => first | rfl | k_is)
    (case e_1_0 => first | rfl | k_is)
    (case e_1_1 => first | rfl | k_is)
    (case e_1_2 => first | rfl | k_is)
    (case e_1_3 => first | rfl | k_is)
    (case e_2_0 => first | rfl | k_is)
    (case e_2_1 => first | rfl | k_is)
    (case e_2_2 => first | rfl | k_is)
    (case e_2_3 => first | rfl | k_is)
    (case e_3_0 => first | rfl | k_is)
    (case e_3_1 => first | rfl | k_is)
    (case e_3_2 => first | rfl | k_is)
    (case e_3_3 => first | rfl | k_is)
    (case hh_DEEPEST => k_is)
    (case hh_MOST_TUPLES => k_is)
    (case gg_DEEPEST => exact ⟨_, rfl⟩)
    (case gg_MOST_TUPLES => exact ⟨_, rfl⟩)