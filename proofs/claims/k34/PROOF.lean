import PyProof.Rows.All
import Wide.All
import OpenK.AllK
import Wide.FinOn
import HandS.ForMost
import HandS.ForExc
import HandS.CallSlots
import HandS.TryMany
import HandS.ExcField
import HandS.ExcInit
import HandS.IsInst
import HandS.Conv
import HandS.Wide
import HandS.TupAny
import HandS.More
import HandS.Style
import HandS.MakeKw
import HandS.MakeKwOnly
import HandS.Deep
import HandS.EndBits
import HandS.TupMul
import HandS.ExcIs
import PySem.Challenge.RW_heirstamps_k34_dots_judged_and_had
/-! ## PDCore -/
set_option Elab.async false
set_option linter.all false
set_option maxRecDepth 100000
set_option maxHeartbeats 2000000
namespace PD
open PySem PySem.Spec L2

/-! ### values and the store -/
inductive Val where
  | non | bl (b : Bool) | int (i : Int) | str (x : Str) | tup (xs : List Val) | ref (n : Nat) | ty (n : String)
  /-- a list that is only read (the script), by what it holds -/
  | kl (xs : List Val)
inductive Cell where
  | lst (xs : List Val)
abbrev Store := List Cell
structure Exn where
  cls : Nat
  fs : List (Str × Val)
inductive Res (α : Type) where
  | ok (a : α) (S : Store) | exc (e : Exn) (S : Store) | stuck
def Res.bind {α β : Type} (r : Res α) (k : α → Store → Res β) : Res β := match r with
  | .ok a S => k a S
  | .exc e S => .exc e S
  | .stuck => .stuck
abbrev Env := List (Option Val)
abbrev D := Env → Store → Res Val
abbrev DT := Env → Store → Res Bool
abbrev DA := Env → Store → Res (List Val)

/-! ### the relation to the abstract heap -/
/-- a list that is only read -/
def RoL (K : PySem.W.Frag) (H : Hp) (a : Addr) (vs : List V) : Prop :=
  (∃ o, H a = some (.frz o (.lst vs))) ∨ ∃ (o : Obj) (its : Array Value) (n : Nat), K.lookup a = some o ∧ o.cls = .type "list" ∧ o.dict = none ∧ o.data = .seq its n ∧ its.size ≤ sizeLine ∧ Vals vs its.toList
theorem RoL.sq {K : PySem.W.Frag} {H : Hp} {a : Addr} {vs : List V} (h : RoL K H a vs) : SqL K H a vs := by
  rcases h with h | h
  · exact .inl (.inr h)
  · exact .inr h
mutual
inductive RV (K : PySem.W.Frag) (ι : List Addr) (H : Hp) : Val → V → Prop
  | non : RV K ι H .non .non
  | bl (b : Bool) : RV K ι H (.bl b) (.bl b)
  | int (i : Int) : RV K ι H (.int i) (.int i)
  | str (x : Str) : RV K ι H (.str x) (.str x)
  | tup {a : Addr} {xs : List Val} {vs : List V} : SqT K H a vs → RVs K ι H xs vs → RV K ι H (.tup xs) (.ref a)
  | ref {n : Nat} {a : Addr} : ι[n]? = some a → RV K ι H (.ref n) (.ref a)
  | ty (n : String) : RV K ι H (.ty n) (.ty n)
  | kl {a : Addr} {xs : List Val} {vs : List V} : RoL K H a vs → RVs K ι H xs vs → RV K ι H (.kl xs) (.ref a)
inductive RVs (K : PySem.W.Frag) (ι : List Addr) (H : Hp) : List Val → List V → Prop
  | nil : RVs K ι H [] []
  | cons {x : Val} {v : V} {xs : List Val} {vs : List V} : RV K ι H x v → RVs K ι H xs vs → RVs K ι H (x :: xs) (v :: vs)
end
def CellOk (K : PySem.W.Frag) (ι : List Addr) (H : Hp) (a : Addr) : Cell → Prop
  | .lst xs => ∃ vs, RVs K ι H xs vs ∧ H a = some (.lst vs)
structure RH (K : PySem.W.Frag) (ι : List Addr) (H : Hp) (S : Store) : Prop where
  len : ι.length = S.length
  ok : ∀ (n : Nat) (a : Addr) (c : Cell), ι[n]? = some a → S[n]? = some c → CellOk K ι H a c
  nd : ∀ (n m : Nat) (a : Addr), ι[n]? = some a → ι[m]? = some a → n = m
structure Ext (ι : List Addr) (H : Hp) (ι' : List Addr) (H' : Hp) : Prop where
  pre : ι <+: ι'
  fr : ∀ a o, H a = some o → a ∉ ι → H' a = some o
  new : ∀ a, a ∈ ι' → a ∉ ι → H a = none
  tp : ∀ a vs, Rd H a (.tup vs) → Rd H' a (.tup vs)
  fz : ∀ a o u, H a = some (.frz o u) → H' a = some (.frz o u)
def RS (K : PySem.W.Frag) (ι : List Addr) (H : Hp) (ρ : Env) (σ : St) : Prop :=
  ρ.length = σ.length ∧ ∀ (i : Nat) (x : Val), ρ[i]? = some (some x) → ∃ v, σ[i]? = some (some v) ∧ RV K ι H x v

section
variable {K : PySem.W.Frag} {ι ι' ι2 : List Addr} {H H' H2 : Hp} {S S' : Store} {ρ : Env} {σ : St}
theorem Ext.refl : Ext ι H ι H := ⟨List.prefix_refl _, fun _ _ h _ => h, fun _ h n => absurd h n, fun _ _ h => h, fun _ _ _ h => h⟩
theorem Ext.trans (a : Ext ι H ι' H') (b : Ext ι' H' ι2 H2) : Ext ι H ι2 H2 := by
  refine ⟨a.pre.trans b.pre, fun c o h n => ?_, fun c h n => ?_, fun c vs h => b.tp c vs (a.tp c vs h), fun c o u h => b.fz c o u (a.fz c o u h)⟩
  · refine b.fr c o (a.fr c o h n) fun z => ?_
    have := a.new c z n
    rw [h] at this; cases this
  · by_cases z : c ∈ ι'
    · exact a.new c z n
    · have q := b.new c h z
      cases e : H c with
      | none => rfl
      | some o =>
        have := a.fr c o e n
        rw [q] at this; cases this
theorem Ext.get (e : Ext ι H ι' H') {n : Nat} {a : Addr} (h : ι[n]? = some a) : ι'[n]? = some a := by
  obtain ⟨t, rfl⟩ := e.pre
  have hl : n < ι.length := (List.getElem?_eq_some_iff.mp h).1
  rw [List.getElem?_append_left hl]; exact h
theorem Ext.sqT (e : Ext ι H ι' H') {a : Addr} {vs : List V} (h : SqT K H a vs) : SqT K H' a vs := by
  rcases h with h | h
  · exact .inl (e.tp _ _ h)
  · exact .inr h
theorem Ext.roL (e : Ext ι H ι' H') {a : Addr} {vs : List V} (h : RoL K H a vs) : RoL K H' a vs := by
  rcases h with ⟨o, h⟩ | h
  · exact .inl ⟨o, e.fz _ _ _ h⟩
  · exact .inr h
mutual
theorem RV.ext (e : Ext ι H ι' H') : ∀ {x : Val} {v : V}, RV K ι H x v → RV K ι' H' x v
  | _, _, .non => .non
  | _, _, .bl b => .bl b
  | _, _, .int i => .int i
  | _, _, .str x => .str x
  | _, _, .tup h r => .tup (e.sqT h) (RVs.ext e r)
  | _, _, .ref h => .ref (e.get h)
  | _, _, .ty n => .ty n
  | _, _, .kl h r => .kl (e.roL h) (RVs.ext e r)
theorem RVs.ext (e : Ext ι H ι' H') : ∀ {xs : List Val} {vs : List V}, RVs K ι H xs vs → RVs K ι' H' xs vs
  | _, _, .nil => .nil
  | _, _, .cons h r => .cons (RV.ext e h) (RVs.ext e r)
end
theorem RS.ext (e : Ext ι H ι' H') (h : RS K ι H ρ σ) : RS K ι' H' ρ σ := ⟨h.1, fun i x q => by
  obtain ⟨v, a, b⟩ := h.2 i x q
  exact ⟨v, a, b.ext e⟩⟩
theorem RVs.length : ∀ {xs : List Val} {vs : List V}, RVs K ι H xs vs → xs.length = vs.length
  | _, _, .nil => rfl
  | _, _, .cons _ r => by rw [List.length_cons, List.length_cons, RVs.length r]
theorem RVs.append : ∀ {xs ys : List Val} {vs ws : List V}, RVs K ι H xs vs → RVs K ι H ys ws → RVs K ι H (xs ++ ys) (vs ++ ws)
  | _, _, _, _, .nil, s => s
  | _, _, _, _, .cons h r, s => .cons h (RVs.append r s)
theorem RVs.get : ∀ {xs : List Val} {vs : List V} {i : Nat} {x : Val}, RVs K ι H xs vs → xs[i]? = some x → ∃ v, vs[i]? = some v ∧ RV K ι H x v
  | _, _, _, _, .nil, h => by simp at h
  | _, _, 0, _, .cons h _, e => by simp at e; subst e; exact ⟨_, rfl, h⟩
  | _, _, i + 1, _, .cons _ r, e => by
    obtain ⟨v, a, b⟩ := RVs.get (i := i) r (by simpa using e)
    exact ⟨v, by simpa using a, b⟩
theorem RVs.set {x : Val} {v : V} (h : RV K ι H x v) : ∀ {xs : List Val} {vs : List V} (i : Nat), RVs K ι H xs vs → RVs K ι H (xs.set i x) (vs.set i v)
  | _, _, _, .nil => .nil
  | _, _, 0, .cons _ r => .cons h r
  | _, _, i + 1, .cons q r => .cons q (RVs.set h i r)
theorem RVs.take : ∀ {xs : List Val} {vs : List V} (n : Nat), RVs K ι H xs vs → RVs K ι H (xs.take n) (vs.take n)
  | _, _, 0, _ => by simp; exact .nil
  | _, _, n + 1, .nil => .nil
  | _, _, n + 1, .cons h r => .cons h (RVs.take n r)
theorem RVs.drop : ∀ {xs : List Val} {vs : List V} (n : Nat), RVs K ι H xs vs → RVs K ι H (xs.drop n) (vs.drop n)
  | _, _, 0, r => r
  | _, _, n + 1, .nil => .nil
  | _, _, n + 1, .cons _ r => RVs.drop n r
theorem CellOk.ext (e : Ext ι H ι' H') {a : Addr} {c : Cell} (hm : ∀ xs, H a = some (.lst xs) → H' a = some (.lst xs)) (h : CellOk K ι H a c) : CellOk K ι' H' a c := by
  cases c with
  | lst xs => obtain ⟨vs, r, q⟩ := h; exact ⟨vs, r.ext e, hm _ q⟩
/-- a fresh thing that is no cell (a tuple) -/
theorem Ext.fresh {p : Addr} {o : HO} (hp : H p = none) : Ext ι H ι (upd H p o) := by
  have ne : ∀ a u, H a = some u → a ≠ p := fun a u h => ne_of_none h hp
  refine ⟨List.prefix_refl _, fun a u h _ => ?_, fun _ h n => absurd h n, fun a vs h => ?_, fun a u v h => ?_⟩
  · rw [upd_ne (ne a u h)]; exact h
  · rcases h with h | ⟨u, h⟩
    · exact .inl (by rw [upd_ne (ne a _ h)]; exact h)
    · exact .inr ⟨u, by rw [upd_ne (ne a _ h)]; exact h⟩
  · rw [upd_ne (ne a _ h)]; exact h
theorem RH.fresh {p : Addr} {o : HO} (h : RH K ι H S) (hp : H p = none) : RH K ι (upd H p o) S := by
  refine ⟨h.len, fun n a c e1 e2 => (h.ok n a c e1 e2).ext (Ext.fresh hp) fun xs q => ?_, h.nd⟩
  rw [upd_ne (ne_of_none q hp)]; exact q
/-- a new cell -/
theorem Ext.alloc {p : Addr} {o : HO} (hp : H p = none) : Ext ι H (ι ++ [p]) (upd H p o) := by
  have e := Ext.fresh (ι := ι) (o := o) hp
  refine ⟨List.prefix_append _ _, e.fr, fun a h n => ?_, e.tp, e.fz⟩
  rcases List.mem_append.mp h with z | z
  · exact absurd z n
  · rw [List.mem_singleton.mp z]; exact hp
theorem RH.trk (h : RH K ι H S) {a : Addr} (ha : a ∈ ι) : H a ≠ none := fun z => by
  obtain ⟨n, hn, e⟩ := List.mem_iff_getElem.mp ha
  have e1 : ι[n]? = some a := by rw [List.getElem?_eq_getElem hn, e]
  have hs : n < S.length := by rw [← h.len]; exact hn
  have q := h.ok n a _ e1 (List.getElem?_eq_getElem hs)
  cases hc : S[n] with
  | lst xs =>
    rw [hc] at q
    obtain ⟨_, _, q⟩ := q
    rw [z] at q; cases q
theorem get_append_some {α : Type} {l : List α} {y x : α} {n : Nat} (h : (l ++ [y])[n]? = some x) : l[n]? = some x ∨ (n = l.length ∧ y = x) := by
  rcases Nat.lt_trichotomy n l.length with q | q | q
  · rw [List.getElem?_append_left q] at h; exact .inl h
  · subst q
    rw [List.getElem?_append_right (Nat.le_refl _)] at h
    simp at h; exact .inr ⟨rfl, h⟩
  · rw [List.getElem?_eq_none (by simp; omega)] at h; cases h
theorem RH.alloc {p : Addr} {xs : List Val} {vs : List V} (h : RH K ι H S) (hp : H p = none) (r : RVs K ι H xs vs) : RH K (ι ++ [p]) (upd H p (.lst vs)) (S ++ [.lst xs]) := by
  have e := Ext.alloc (ι := ι) (o := HO.lst vs) hp
  refine ⟨by simp [h.len], fun n a c e1 e2 => ?_, fun n m a e1 e2 => ?_⟩
  · rcases get_append_some e1 with e1 | ⟨rfl, rfl⟩
    · rcases get_append_some e2 with e2 | ⟨rfl, rfl⟩
      · refine (h.ok n a c e1 e2).ext e fun xs q => ?_
        rw [upd_ne (ne_of_none q hp)]; exact q
      · exact absurd (List.getElem?_eq_some_iff.mp e1).1 (by rw [h.len]; exact Nat.lt_irrefl _)
    · rcases get_append_some e2 with e2 | ⟨_, rfl⟩
      · exact absurd (List.getElem?_eq_some_iff.mp e2).1 (by rw [h.len]; exact Nat.lt_irrefl _)
      · exact ⟨vs, r.ext e, upd_same⟩
  · rcases get_append_some e1 with e1 | ⟨a1, rfl⟩ <;> rcases get_append_some e2 with e2 | ⟨a2, b2⟩
    · exact h.nd n m a e1 e2
    · exact absurd hp (h.trk (b2 ▸ List.mem_of_getElem? e1))
    · exact absurd hp (h.trk (List.mem_of_getElem? e2))
    · rw [a1, a2]
/-- a cell is written -/
theorem Ext.write {p : Addr} {n : Nat} {vs ws : List V} (hp : ι[n]? = some p) (hl : H p = some (.lst vs)) : Ext ι H ι (upd H p (.lst ws)) := by
  have hm : p ∈ ι := List.mem_of_getElem? hp
  refine ⟨List.prefix_refl _, fun a u h k => ?_, fun _ h n => absurd h n, fun a us h => ?_, fun a u v h => ?_⟩
  · rw [upd_ne (fun z => k (by rw [z]; exact hm))]; exact h
  · rcases h with h | ⟨u, h⟩
    · exact .inl (by rw [upd_ne (ne_of h hl (by intro z; cases z))]; exact h)
    · exact .inr ⟨u, by rw [upd_ne (ne_of h hl (by intro z; cases z))]; exact h⟩
  · rw [upd_ne (ne_of h hl (by intro z; cases z))]; exact h
theorem RH.write {p : Addr} {n : Nat} {xs ys : List Val} {vs ws : List V} (h : RH K ι H S) (hp : ι[n]? = some p) (hs : S[n]? = some (.lst xs)) (hl : H p = some (.lst vs)) (r : RVs K ι H ys ws) :
    RH K ι (upd H p (.lst ws)) (S.set n (.lst ys)) := by
  have e := Ext.write (ws := ws) hp hl
  have hn : n < S.length := (List.getElem?_eq_some_iff.mp hs).1
  refine ⟨by simp [h.len], fun m a c e1 e2 => ?_, h.nd⟩
  by_cases z : n = m
  · subst z
    rw [List.getElem?_set_self hn] at e2; cases e2
    rw [hp] at e1; cases e1
    exact ⟨ws, r.ext e, upd_same⟩
  · rw [List.getElem?_set_ne z] at e2
    have ha : a ≠ p := fun q => z (h.nd n m p hp (by rw [← q]; exact e1))
    refine (h.ok m a c e1 e2).ext e fun xs q => ?_
    rw [upd_ne ha]; exact q
end

/-! ### what is wanted behind a denotation -/
/-- the dict of an error: its fields -/
def XF (K : PySem.W.Frag) (ι : List Addr) (H : Hp) (fs : List (Str × Val)) : Option Addr → Prop
  | none => fs = []
  | some d => fs ≠ [] ∧ ∃ vs : List (Str × V), H d = some (.xd vs) ∧ ∀ f x, fs.lookup f = some x → ∃ v, vs.lookup f = some v ∧ RV K ι H x v
structure Cfg where
  K : PySem.W.Frag
  cv : Nat → Value
section
variable (Γ : Cfg)
def FinX (W : Value → Option Addr → Hp → Prop) (ι : List Addr) (H : Hp) (e : Exn) (S : Store) : Prop :=
  ∀ ι' H' d, Ext ι H ι' H' → RH Γ.K ι' H' S → XF Γ.K ι' H' e.fs d → W (Γ.cv e.cls) d H'
def FinG {α β : Type} (R : List Addr → Hp → α → β → Prop) (W : Value → Option Addr → Hp → Prop) (ι : List Addr) (H : Hp) (Q : β → Hp → Prop) : Res α → Prop
  | .ok x S => ∀ ι' H' v, Ext ι H ι' H' → RH Γ.K ι' H' S → R ι' H' x v → Q v H'
  | .exc e S => FinX Γ W ι H e S
  | .stuck => False
abbrev Fin (W : Value → Option Addr → Hp → Prop) (ι : List Addr) (H : Hp) (Q : VK) (r : Res Val) : Prop := FinG Γ (RV Γ.K) W ι H Q r
abbrev FinT (W : Value → Option Addr → Hp → Prop) (ι : List Addr) (H : Hp) (Q : Bool → Hp → Prop) (r : Res Bool) : Prop := FinG Γ (fun _ _ => Eq) W ι H Q r
abbrev FinA (W : Value → Option Addr → Hp → Prop) (ι : List Addr) (H : Hp) (Q : List V → Hp → Prop) (r : Res (List Val)) : Prop := FinG Γ (RVs Γ.K) W ι H Q r
/-- what a denotation promises, as a reading -/
def TG' {α β : Type} (R : List Addr → Hp → α → β → Prop) (W : WX) (f : Env → Store → Res α) : St → Hp → (β → Hp → Prop) → Prop := fun σ H Q =>
  ∃ ι ρ S, RS Γ.K ι H ρ σ ∧ RH Γ.K ι H S ∧ FinG Γ R (fun c d H' => W c d σ H') ι H Q (f ρ S)
abbrev TD (W : WX) (f : D) : TE := TG' Γ (RV Γ.K) W f
abbrev TDT (W : WX) (f : DT) : TT := TG' Γ (fun _ _ => Eq) W f
abbrev TDA (W : WX) (f : DA) : TA := TG' Γ (RVs Γ.K) W f
end
section
variable {Γ : Cfg} {α β γ δ : Type} {R : List Addr → Hp → α → β → Prop} {R2 : List Addr → Hp → γ → δ → Prop} {W : Value → Option Addr → Hp → Prop} {ι ι' : List Addr} {H H' : Hp}
theorem FinG.weak {Q : β → Hp → Prop} {r : Res α} (e : Ext ι H ι' H') (h : FinG Γ R W ι H Q r) : FinG Γ R W ι' H' Q r := by
  cases r with
  | ok x S => exact fun ι2 H2 v e2 a b => h ι2 H2 v (e.trans e2) a b
  | exc x S => exact fun ι2 H2 d e2 a b => h ι2 H2 d (e.trans e2) a b
  | stuck => exact h
theorem FinG.bind {Q : δ → Hp → Prop} {Q' : β → Hp → Prop} {r : Res α} {k : α → Store → Res γ} (h : FinG Γ R2 W ι H Q (r.bind k))
    (hk : ∀ x S1 ι1 H1 v, Ext ι H ι1 H1 → RH Γ.K ι1 H1 S1 → R ι1 H1 x v → FinG Γ R2 W ι1 H1 Q (k x S1) → Q' v H1) : FinG Γ R W ι H Q' r := by
  cases r with
  | ok x S => exact fun ι1 H1 v e a b => hk x S ι1 H1 v e a b (FinG.weak e h)
  | exc x S => exact h
  | stuck => exact h
/-- a value at once -/
theorem FinG.here {Q : β → Hp → Prop} {x : α} {v : β} {S : Store} (h : FinG Γ R W ι H Q (.ok x S)) (a : RH Γ.K ι H S) (b : R ι H x v) : Q v H := h ι H v .refl a b
end
theorem _root_.L2.PE.imp {X : Cx} {e : Expr} {t t' : TE} (h : PE X e t) (q : ∀ σ H Q, t' σ H Q → t σ H Q) : PE X e t' := ⟨fun pins s σ H Q I hw => h.run pins s σ H Q I (q _ _ _ hw)⟩
theorem _root_.L2.PT.imp {X : Cx} {e : Expr} {t t' : TT} (h : PT X e t) (q : ∀ σ H Q, t' σ H Q → t σ H Q) : PT X e t' := ⟨fun pins s σ H Q I hw => h.run pins s σ H Q I (q _ _ _ hw)⟩
theorem _root_.L2.PW.imp {X : Cx} {e : Expr} {t t' : TT} (h : PW X e t) (q : ∀ σ H Q, t' σ H Q → t σ H Q) : PW X e t' := ⟨fun wh pins s σ H Q I hw => h.run wh pins s σ H Q I (q _ _ _ hw)⟩
theorem _root_.L2.PA.imp {X : Cx} {es : List Expr} {t t' : TA} (h : PA X es t) (q : ∀ σ H Q, t' σ H Q → t σ H Q) : PA X es t' := ⟨fun pos pins s σ H Q I hw => h.run pos pins s σ H Q I (q _ _ _ hw)⟩
theorem _root_.L2.PS.imp {X : Cx} {e : Stmt} {t t' : TS} (h : PS X e t) (q : ∀ D σ H, t' D σ H → t D σ H) : PS X e t' := ⟨fun pins s σ H D I hw => h.run pins s σ H D I (q _ _ _ hw)⟩
theorem _root_.L2.PSs.imp {X : Cx} {e : List Stmt} {t t' : TS} (h : PSs X e t) (q : ∀ D σ H, t' D σ H → t D σ H) : PSs X e t' := ⟨fun pins s σ H D I hw => h.run pins s σ H D I (q _ _ _ hw)⟩
end PD

/-! ## PDRules -/
set_option Elab.async false
set_option linter.all false
set_option maxRecDepth 100000
set_option maxHeartbeats 2000000
namespace PD
open PySem PySem.Spec L2

/-! ### expressions -/
def dVar (i : Nat) : D := fun ρ S => match ρ[i]? with
  | some (some v) => .ok v S
  | _ => .stuck
def dC (v : Val) : D := fun _ S => .ok v S
abbrev Op2 := Val → Val → Store → Res Val
def dOp (o : Op2) (f g : D) : D := fun ρ S => (f ρ S).bind fun x S1 => (g ρ S1).bind fun y S2 => o x y S2
def dUn (o : Val → Store → Res Val) (f : D) : D := fun ρ S => (f ρ S).bind fun x S1 => o x S1
def aNil : DA := fun _ S => .ok [] S
def aCons (f : D) (g : DA) : DA := fun ρ S => (f ρ S).bind fun x S1 => (g ρ S1).bind fun xs S2 => .ok (x :: xs) S2
def dTup (g : DA) : D := fun ρ S => (g ρ S).bind fun xs S1 => if xs.length ≤ 16777216 then .ok (.tup xs) S1 else .stuck
def dLst (g : DA) : D := fun ρ S => (g ρ S).bind fun xs S1 => if xs.length ≤ 16777216 then .ok (.ref S1.length) (S1 ++ [.lst xs]) else .stuck
/-- a def, a built-in: of the values of its arguments -/
abbrev Fn := List Val → Store → Res Val
def dCall (F : Fn) (g : DA) : D := fun ρ S => (g ρ S).bind fun xs S1 => F xs S1
/-- tests -/
def tVal (f : D) : DT := fun ρ S => (f ρ S).bind fun x S1 => match x with
  | .bl b => .ok b S1
  | _ => .stuck
def tAnd' (f g : DT) : DT := fun ρ S => (f ρ S).bind fun b S1 => if b = true then g ρ S1 else .ok false S1
def tOr' (f g : DT) : DT := fun ρ S => (f ρ S).bind fun b S1 => if b = true then .ok true S1 else g ρ S1
def tNot' (f : DT) : DT := fun ρ S => (f ρ S).bind fun b S1 => .ok (!b) S1
def dAnd (f g : D) : D := fun ρ S => (f ρ S).bind fun x S1 => match x with
  | .bl true => g ρ S1
  | .bl false => .ok (.bl false) S1
  | _ => .stuck
def dOr (f g : D) : D := fun ρ S => (f ρ S).bind fun x S1 => match x with
  | .bl true => .ok (.bl true) S1
  | .bl false => g ρ S1
  | _ => .stuck
def dNot (f : D) : D := fun ρ S => (f ρ S).bind fun x S1 => match x with
  | .bl b => .ok (.bl (!b)) S1
  | _ => .stuck
def dIf (t : DT) (f g : D) : D := fun ρ S => (t ρ S).bind fun b S1 => if b = true then f ρ S1 else g ρ S1

section
variable {X : Cx} {cv : Nat → Value} {W : WX} {e a b : Expr} {es rest : List Expr} {pos : Pos}
abbrev Gm (X : Cx) (cv : Nat → Value) : Cfg := ⟨X.K, cv⟩
theorem pd_var {i : Nat} (h : PE X e (L2.tVar i)) : PE X e (TD (Gm X cv) W (dVar i)) := h.imp fun σ H Q ⟨ι, ρ, S, hs, hh, q⟩ => by
  unfold dVar at q
  split at q
  · rename_i v e1
    obtain ⟨u, e2, r⟩ := hs.2 i v e1
    exact ⟨u, e2, q.here hh r⟩
  · exact q.elim
theorem pd_c {v : Val} {u : V} (h : PE X e (L2.tC u)) (r : ∀ ι H, RV X.K ι H v u) : PE X e (TD (Gm X cv) W (dC v)) := h.imp fun σ H Q ⟨ι, ρ, S, hs, hh, q⟩ => q.here hh (r ι H)
theorem pd_int {i j pos} : PE X (.Constant (.int i) j pos) (TD (Gm X cv) W (dC (.int i))) := pd_c pe_int fun _ _ => .int i
theorem pd_bl {i j pos} : PE X (.Constant (.bool i) j pos) (TD (Gm X cv) W (dC (.bl i))) := pd_c pe_bl fun _ _ => .bl i
theorem pd_str {i j pos} : PE X (.Constant (.str i) j pos) (TD (Gm X cv) W (dC (.str i))) := pd_c pe_str fun _ _ => .str i
theorem pd_non {j pos} : PE X (.Constant .none j pos) (TD (Gm X cv) W (dC .non)) := pd_c pe_non fun _ _ => .non

/-- what a value-level operation must be for a rule -/
def OK2 (K : PySem.W.Frag) (r : L2.R2) (o : Op2) : Prop := ∀ (cv : Nat → Value) (ι : List Addr) (H : Hp) (S : Store) (x y : Val) (u v : V) (W : Value → Option Addr → Hp → Prop) (Q : VK),
  RH K ι H S → RV K ι H x u → RV K ι H y v → Fin ⟨K, cv⟩ W ι H Q (o x y S) → r u v H Q
def OK1 (K : PySem.W.Frag) (r : V → Hp → VK → Prop) (o : Val → Store → Res Val) : Prop := ∀ (cv : Nat → Value) (ι : List Addr) (H : Hp) (S : Store) (x : Val) (u : V) (W : Value → Option Addr → Hp → Prop) (Q : VK),
  RH K ι H S → RV K ι H x u → Fin ⟨K, cv⟩ W ι H Q (o x S) → r u H Q
def OKA (K : PySem.W.Frag) (r : List V → Hp → VK → Prop) (o : Fn) : Prop := ∀ (cv : Nat → Value) (ι : List Addr) (H : Hp) (S : Store) (xs : List Val) (us : List V) (W : Value → Option Addr → Hp → Prop) (Q : VK),
  RH K ι H S → RVs K ι H xs us → Fin ⟨K, cv⟩ W ι H Q (o xs S) → r us H Q
theorem pd_two {f g : D} {r : L2.R2} {o : Op2} (ho : OK2 X.K r o) {σ : L2.St} {H : Hp} {Q : VK} (h : TD (Gm X cv) W (dOp o f g) σ H Q) : tOp r (TD (Gm X cv) W f) (TD (Gm X cv) W g) σ H Q := by
  obtain ⟨ι, ρ, S, hs, hh, q⟩ := h
  refine ⟨ι, ρ, S, hs, hh, FinG.bind q fun x S1 ι1 H1 u e1 h1 r1 q1 => ?_⟩
  refine ⟨ι1, ρ, S1, hs.ext e1, h1, FinG.bind q1 fun y S2 ι2 H2 v e2 h2 r2 q2 => ?_⟩
  exact ho cv ι2 H2 S2 x y u v _ Q h2 (r1.ext e2) r2 q2
theorem pd_op {op : Operator} {f g : D} {r : L2.R2} {o : Op2} (hr : OpR X (binaryOp op) r) (ho : OK2 X.K r o) (ha : PE X a (TD (Gm X cv) W f)) (hb : PE X b (TD (Gm X cv) W g)) : PE X (.BinOp a op b pos) (TD (Gm X cv) W (dOp o f g)) :=
  (pe_op hr ha hb).imp fun _ _ _ h => pd_two ho h
theorem pd_un {op : UnaryOp} {f : D} {r : V → Hp → VK → Prop} {o : Val → Store → Res Val} (hr : UnR X (unaryOp op) r) (ho : OK1 X.K r o) (ha : PE X a (TD (Gm X cv) W f)) : PE X (.UnaryOp op a pos) (TD (Gm X cv) W (dUn o f)) :=
  (pe_un hr ha).imp fun σ H Q h => by
    obtain ⟨ι, ρ, S, hs, hh, q⟩ := h
    refine ⟨ι, ρ, S, hs, hh, FinG.bind q fun x S1 ι1 H1 u e1 h1 r1 q1 => ?_⟩
    exact ho cv ι1 H1 S1 x u _ Q h1 r1 q1
theorem pd_cmp {op : CmpOp} {f g : D} {r : L2.R2} {o : Op2} (hr : OpR X (compareOp op) r) (ho : OK2 X.K r o) (ha : PE X a (TD (Gm X cv) W f)) (hb : PE X b (TD (Gm X cv) W g)) (hm : behindInMarks op b = false) : PE X (.Compare a [op] [b] pos) (TD (Gm X cv) W (dOp o f g)) :=
  (pe_cmpR hr ha hb hm).imp fun _ _ _ h => pd_two ho h
theorem pdt_cmp {op : CmpOp} {f g : D} {r : L2.R2} {o : Op2} (hr : OpR X (compareOp op) r) (ho : OK2 X.K r o) (ha : PE X a (TD (Gm X cv) W f)) (hb : PE X b (TD (Gm X cv) W g)) (hm : behindInMarks op b = false) : PT X (.Compare a [op] [b] pos) (TDT (Gm X cv) W (tVal (dOp o f g))) :=
  (pt_cmpR hr ha hb hm).imp fun σ H Q h => by
    obtain ⟨ι, ρ, S, hs, hh, q⟩ := h
    refine pd_two (cv := cv) (W := W) ho ⟨ι, ρ, S, hs, hh, ?_⟩
    refine FinG.bind q fun x S1 ι1 H1 u e1 h1 r1 q1 => ?_
    cases x with
    | bl c => cases r1; exact ⟨c, rfl, q1.here h1 rfl⟩
    | _ => exact q1.elim
/-- a test by the value of an expression -/
theorem pdt_val {f : D} (h : PE X e (TD (Gm X cv) W f)) (he : ∀ whole, isTrue e X.env whole = (do let v ← whole; standAt e.pos; holding [v] (truthy v)) := by intro _; rfl) : PT X e (TDT (Gm X cv) W (tVal f)) :=
  (pt_val h he).imp fun σ H Q h => by
    obtain ⟨ι, ρ, S, hs, hh, q⟩ := h
    refine ⟨ι, ρ, S, hs, hh, ?_⟩
    refine FinG.bind q fun x S1 ι1 H1 u e1 h1 r1 q1 => ?_
    cases x with
    | bl c => cases r1; exact ⟨c, rfl, q1.here h1 rfl⟩
    | _ => exact q1.elim
theorem pdw_one {f : DT} {op} (h : PT X a (TDT (Gm X cv) W f)) (ho : op = BoolOp.And ∨ op = .Or) : PW X (.BoolOp op [a] pos) (TDT (Gm X cv) W f) := by
  rcases ho with rfl | rfl
  · exact pw_and1 h
  · exact pw_or1 h
theorem pdw_and {f g : DT} (ha : PT X a (TDT (Gm X cv) W f)) (hb : PW X (.BoolOp .And (b :: rest) pos) (TDT (Gm X cv) W g)) : PW X (.BoolOp .And (a :: b :: rest) pos) (TDT (Gm X cv) W (tAnd' f g)) :=
  (pw_and ha hb).imp fun σ H Q h => by
    obtain ⟨ι, ρ, S, hs, hh, q⟩ := h
    refine ⟨ι, ρ, S, hs, hh, FinG.bind q fun x S1 ι1 H1 u e1 h1 r1 q1 => ?_⟩
    cases r1
    cases x with
    | true => exact ⟨ι1, ρ, S1, hs.ext e1, h1, q1⟩
    | false => exact q1.here h1 rfl
theorem pdw_or {f g : DT} (ha : PT X a (TDT (Gm X cv) W f)) (hb : PW X (.BoolOp .Or (b :: rest) pos) (TDT (Gm X cv) W g)) : PW X (.BoolOp .Or (a :: b :: rest) pos) (TDT (Gm X cv) W (tOr' f g)) :=
  (pw_or ha hb).imp fun σ H Q h => by
    obtain ⟨ι, ρ, S, hs, hh, q⟩ := h
    refine ⟨ι, ρ, S, hs, hh, FinG.bind q fun x S1 ι1 H1 u e1 h1 r1 q1 => ?_⟩
    cases r1
    cases x with
    | false => exact ⟨ι1, ρ, S1, hs.ext e1, h1, q1⟩
    | true => exact q1.here h1 rfl
theorem pdt_not {f : DT} (h : PT X a (TDT (Gm X cv) W f)) : PT X (.UnaryOp .Not a pos) (TDT (Gm X cv) W (tNot' f)) :=
  (pt_not h).imp fun σ H Q h => by
    obtain ⟨ι, ρ, S, hs, hh, q⟩ := h
    refine ⟨ι, ρ, S, hs, hh, FinG.bind q fun x S1 ι1 H1 u e1 h1 r1 q1 => ?_⟩
    cases r1
    exact q1.here h1 rfl
theorem pd_one {op} {f : D} (h : PE X a (TD (Gm X cv) W f)) : PE X (.BoolOp op [a] pos) (TD (Gm X cv) W f) := pe_one h
theorem pd_and {f g : D} (ha : PE X a (TD (Gm X cv) W f)) (hb : PE X (.BoolOp .And (b :: rest) pos) (TD (Gm X cv) W g)) : PE X (.BoolOp .And (a :: b :: rest) pos) (TD (Gm X cv) W (dAnd f g)) :=
  (pe_and ha hb).imp fun σ H Q h => by
    obtain ⟨ι, ρ, S, hs, hh, q⟩ := h
    refine ⟨ι, ρ, S, hs, hh, FinG.bind q fun x S1 ι1 H1 u e1 h1 r1 q1 => ?_⟩
    cases x with
    | bl c =>
      cases r1
      refine ⟨c, rfl, ?_⟩
      cases c with
      | true => exact ⟨ι1, ρ, S1, hs.ext e1, h1, q1⟩
      | false => exact q1.here h1 (.bl false)
    | _ => exact q1.elim
theorem pd_or {f g : D} (ha : PE X a (TD (Gm X cv) W f)) (hb : PE X (.BoolOp .Or (b :: rest) pos) (TD (Gm X cv) W g)) : PE X (.BoolOp .Or (a :: b :: rest) pos) (TD (Gm X cv) W (dOr f g)) :=
  (pe_or ha hb).imp fun σ H Q h => by
    obtain ⟨ι, ρ, S, hs, hh, q⟩ := h
    refine ⟨ι, ρ, S, hs, hh, FinG.bind q fun x S1 ι1 H1 u e1 h1 r1 q1 => ?_⟩
    cases x with
    | bl c =>
      cases r1
      refine ⟨c, rfl, ?_⟩
      cases c with
      | false => exact ⟨ι1, ρ, S1, hs.ext e1, h1, q1⟩
      | true => exact q1.here h1 (.bl true)
    | _ => exact q1.elim
theorem pd_not {f : D} (ha : PE X a (TD (Gm X cv) W f)) : PE X (.UnaryOp .Not a pos) (TD (Gm X cv) W (dNot f)) :=
  (pe_not ha).imp fun σ H Q h => by
    obtain ⟨ι, ρ, S, hs, hh, q⟩ := h
    refine ⟨ι, ρ, S, hs, hh, FinG.bind q fun x S1 ι1 H1 u e1 h1 r1 q1 => ?_⟩
    cases x with
    | bl c => cases r1; exact ⟨c, rfl, q1.here h1 (.bl _)⟩
    | _ => exact q1.elim
theorem pd_if {t : DT} {f g : D} {c : Expr} (hc : PT X c (TDT (Gm X cv) W t)) (ha : PE X a (TD (Gm X cv) W f)) (hb : PE X b (TD (Gm X cv) W g)) : PE X (.IfExp c a b pos) (TD (Gm X cv) W (dIf t f g)) :=
  (pe_ifExp hc ha hb).imp fun σ H Q h => by
    obtain ⟨ι, ρ, S, hs, hh, q⟩ := h
    refine ⟨ι, ρ, S, hs, hh, FinG.bind q fun x S1 ι1 H1 u e1 h1 r1 q1 => ?_⟩
    cases r1
    cases x with
    | true => exact ⟨ι1, ρ, S1, hs.ext e1, h1, q1⟩
    | false => exact ⟨ι1, ρ, S1, hs.ext e1, h1, q1⟩
/-! ### lists of arguments, displays -/
theorem pda_nil : PA X [] (TDA (Gm X cv) W aNil) := pa_nil.imp fun σ H Q ⟨ι, ρ, S, hs, hh, q⟩ => q.here hh .nil
theorem pda_cons {f : D} {g : DA} (ha : PE X e (TD (Gm X cv) W f)) (hr : PA X es (TDA (Gm X cv) W g)) (hs : starEach (e :: es) X.env = (false, eval e X.env) :: starEach es X.env := by rfl) : PA X (e :: es) (TDA (Gm X cv) W (aCons f g)) :=
  (pa_cons ha hr hs).imp fun σ H Q h => by
    obtain ⟨ι, ρ, S, hs, hh, q⟩ := h
    refine ⟨ι, ρ, S, hs, hh, FinG.bind q fun x S1 ι1 H1 u e1 h1 r1 q1 => ?_⟩
    refine ⟨ι1, ρ, S1, hs.ext e1, h1, FinG.bind q1 fun y S2 ι2 H2 v e2 h2 r2 q2 => ?_⟩
    exact q2.here h2 (.cons (r1.ext e2) r2)
theorem pd_tup {g : DA} {k} (h : PA X es (TDA (Gm X cv) W g)) : PE X (.Tuple es k pos) (TD (Gm X cv) W (dTup g)) :=
  (pe_tup h).imp fun σ H Q h => by
    obtain ⟨ι, ρ, S, hs, hh, q⟩ := h
    refine ⟨ι, ρ, S, hs, hh, FinG.bind q fun xs S1 ι1 H1 us e1 h1 r1 q1 => ?_⟩
    split at q1
    · rename_i hl
      refine ⟨by rw [← r1.length, sizeLine_eq]; exact hl, fun p hp => ?_⟩
      exact q1 _ _ _ (Ext.fresh hp) (h1.fresh hp) (.tup (SqT.of upd_same) (r1.ext (Ext.fresh hp)))
    · exact q1.elim
theorem pd_lst {g : DA} (h : PA X es (TDA (Gm X cv) W g)) : PE X (.List es pos) (TD (Gm X cv) W (dLst g)) :=
  (pe_lst h).imp fun σ H Q h => by
    obtain ⟨ι, ρ, S, hs, hh, q⟩ := h
    refine ⟨ι, ρ, S, hs, hh, FinG.bind q fun xs S1 ι1 H1 us e1 h1 r1 q1 => ?_⟩
    split at q1
    · rename_i hl
      refine ⟨by rw [← r1.length, sizeLine_eq]; exact hl, fun p hp => ?_⟩
      refine q1 _ _ _ (Ext.alloc hp) (h1.alloc hp r1) (.ref ?_)
      rw [← h1.len]; simp
    · exact q1.elim
end
end PD

/-! ## PDStm -/
set_option Elab.async false
set_option linter.all false
set_option maxRecDepth 100000
set_option maxHeartbeats 2000000
namespace PD
open PySem PySem.Spec L2

/-! ### statements -/
inductive SRes where
  | next (ρ : Env) (S : Store) | ret (v : Val) (S : Store) | brk (ρ : Env) (S : Store) | cont (ρ : Env) (S : Store) | exc (e : Exn) (ρ : Env) (S : Store) | stuck
abbrev SD := Env → Store → SRes
def Res.toS {α : Type} (r : Res α) (ρ : Env) (k : α → Store → SRes) : SRes := match r with
  | .ok a S => k a S
  | .exc e S => .exc e ρ S
  | .stuck => .stuck
def SRes.seq (r : SRes) (k : Env → Store → SRes) : SRes := match r with
  | .next ρ S => k ρ S
  | r => r
def FinS (Γ : Cfg) (W : WX) (ι : List Addr) (H : Hp) (D : Ends) : SRes → Prop
  | .next ρ S => ∀ ι' H' σ', Ext ι H ι' H' → RH Γ.K ι' H' S → RS Γ.K ι' H' ρ σ' → D.nx σ' H'
  | .brk ρ S => ∀ ι' H' σ', Ext ι H ι' H' → RH Γ.K ι' H' S → RS Γ.K ι' H' ρ σ' → D.bk σ' H'
  | .cont ρ S => ∀ ι' H' σ', Ext ι H ι' H' → RH Γ.K ι' H' S → RS Γ.K ι' H' ρ σ' → D.ct σ' H'
  | .ret x S => ∀ ι' H' v, Ext ι H ι' H' → RH Γ.K ι' H' S → RV Γ.K ι' H' x v → D.rt v H'
  | .exc e ρ S => ∀ ι' H' σ' d, Ext ι H ι' H' → RH Γ.K ι' H' S → RS Γ.K ι' H' ρ σ' → XF Γ.K ι' H' e.fs d → W (Γ.cv e.cls) d σ' H'
  | .stuck => False
def TSD (Γ : Cfg) (W : WX) (f : SD) : TS := fun D σ H => ∃ ι ρ S, RS Γ.K ι H ρ σ ∧ RH Γ.K ι H S ∧ FinS Γ W ι H D (f ρ S)
section
variable {Γ : Cfg} {W : WX} {ι ι' : List Addr} {H H' : Hp} {D : Ends}
theorem FinS.weak {r : SRes} (e : Ext ι H ι' H') (h : FinS Γ W ι H D r) : FinS Γ W ι' H' D r := by
  cases r with
  | next ρ S => exact fun ι2 H2 v e2 a b => h ι2 H2 v (e.trans e2) a b
  | brk ρ S => exact fun ι2 H2 v e2 a b => h ι2 H2 v (e.trans e2) a b
  | cont ρ S => exact fun ι2 H2 v e2 a b => h ι2 H2 v (e.trans e2) a b
  | ret x S => exact fun ι2 H2 v e2 a b => h ι2 H2 v (e.trans e2) a b
  | exc x ρ S => exact fun ι2 H2 v d e2 a b c => h ι2 H2 v d (e.trans e2) a b c
  | stuck => exact h
theorem FinS.bind {α β : Type} {R : List Addr → Hp → α → β → Prop} {Q' : β → Hp → Prop} {r : Res α} {ρ : Env} {σ : L2.St} {k : α → Store → SRes} (h : FinS Γ W ι H D (r.toS ρ k)) (hs : RS Γ.K ι H ρ σ)
    (hk : ∀ x S1 ι1 H1 v, Ext ι H ι1 H1 → RH Γ.K ι1 H1 S1 → R ι1 H1 x v → FinS Γ W ι1 H1 D (k x S1) → Q' v H1) : FinG Γ R (fun c d H' => W c d σ H') ι H Q' r := by
  cases r with
  | ok x S => exact fun ι1 H1 v e a b => hk x S ι1 H1 v e a b (FinS.weak e h)
  | exc x S => exact fun ι1 H1 d e a b => h ι1 H1 σ d e a (hs.ext e) b
  | stuck => exact h
theorem FinS.next {ρ : Env} {σ : L2.St} {S : Store} (h : FinS Γ W ι H D (.next ρ S)) (a : RH Γ.K ι H S) (b : RS Γ.K ι H ρ σ) : D.nx σ H := h ι H σ .refl a b
theorem FinS.seq {r : SRes} {k : Env → Store → SRes} (h : FinS Γ W ι H D (r.seq k)) : FinS Γ W ι H { D with nx := TSD Γ W k D } r := by
  cases r with
  | next ρ S => exact fun ι1 H1 σ1 e a b => ⟨ι1, ρ, S, b, a, FinS.weak e h⟩
  | _ => exact h
theorem RS.set {K : PySem.W.Frag} {ρ : Env} {σ : L2.St} {x : Val} {v : V} (h : RS K ι H ρ σ) (r : RV K ι H x v) (i : Nat) : RS K ι H (ρ.set i (some x)) (σ.set i (some v)) := by
  refine ⟨by simp [h.1], fun j y e => ?_⟩
  by_cases q : i = j
  · subst q
    by_cases hl : i < ρ.length
    · rw [List.getElem?_set_self hl] at e
      cases e
      exact ⟨v, by rw [List.getElem?_set_self (by rw [← h.1]; exact hl)], r⟩
    · rw [List.getElem?_eq_none (by simp; omega)] at e; cases e
  · rw [List.getElem?_set_ne q] at e
    obtain ⟨u, a, b⟩ := h.2 j y e
    exact ⟨u, by rw [List.getElem?_set_ne q]; exact a, b⟩
end

def sNext : SD := fun ρ S => .next ρ S
def sSeq (f g : SD) : SD := fun ρ S => (f ρ S).seq g
def sIf (t : DT) (f g : SD) : SD := fun ρ S => (t ρ S).toS ρ fun b S1 => if b = true then f ρ S1 else g ρ S1
def sRet (f : D) : SD := fun ρ S => (f ρ S).toS ρ fun x S1 => .ret x S1
def sRetN : SD := fun _ S => .ret .non S
def sDrop (f : D) : SD := fun ρ S => (f ρ S).toS ρ fun _ S1 => .next ρ S1
def sSet (i : Nat) (f : D) : SD := fun ρ S => (f ρ S).toS ρ fun x S1 => .next (ρ.set i (some x)) S1
/-- targets -/
abbrev TgD := Val → Env → Option Env
def gN (i : Nat) : TgD := fun x ρ => some (ρ.set i (some x))
def gTs : List TgD → List Val → Env → Option Env
  | [], [], ρ => some ρ
  | t :: ts, x :: xs, ρ => (t x ρ).bind fun ρ' => gTs ts xs ρ'
  | _, _, _ => none
def gT (ts : List TgD) : TgD := fun x ρ => match x with
  | .tup xs => gTs ts xs ρ
  | _ => none
def sAsg (t : TgD) (f : D) : SD := fun ρ S => (f ρ S).toS ρ fun x S1 => match t x ρ with
  | some ρ' => .next ρ' S1
  | none => .stuck
/-- a, b = x, y -/
def sPar (i j : Nat) (g : DA) : SD := fun ρ S => (g ρ S).toS ρ fun xs S1 => match xs with
  | [x, y] => .next ((ρ.set i (some x)).set j (some y)) S1
  | _ => .stuck
/-- o[i] = e, o a list -/
def ixS (n : Nat) (k : Int) : Option Nat := if 0 ≤ k then (if k < n then some k.toNat else none) else if 0 ≤ k + n then some (k + n).toNat else none
def setAt (o i x : Val) (S : Store) : Option Store := match o, i with
  | .ref n, .int k => match S[n]? with
    | some (.lst xs) => match ixN xs.length k with
      | some j => some (S.set n (.lst (xs.set j x)))
      | none => none
    | _ => none
  | _, _ => none
def sPut (fo fi f : D) : SD := fun ρ S => (f ρ S).toS ρ fun x S1 => (fo ρ S1).toS ρ fun o S2 => (fi ρ S2).toS ρ fun i S3 => match setAt o i x S3 with
  | some S4 => .next ρ S4
  | none => .stuck
/-- a for's body, its outcome -/
def SRes.turn (r : SRes) (k : Env → Store → SRes) : SRes := match r with
  | .next ρ S => k ρ S
  | .cont ρ S => k ρ S
  | .brk ρ S => .next ρ S
  | r => r
/-- over values that stand still (a range, a tuple) -/
def loopV0 (t : TgD) (b : SD) : List Val → SD
  | [], ρ, S => .next ρ S
  | x :: xs, ρ, S => match t x ρ with
    | none => .stuck
    | some ρ1 => (b ρ1 S).turn (loopV0 t b xs)
@[irreducible] def loopV (t : TgD) (b : SD) : List Val → SD := loopV0 t b
theorem loopV_nil {t : TgD} {b : SD} {ρ : Env} {S : Store} : loopV t b [] ρ S = .next ρ S := by unfold loopV; rfl
theorem loopV_cons {t : TgD} {b : SD} {x : Val} {xs : List Val} {ρ : Env} {S : Store} : loopV t b (x :: xs) ρ S = match t x ρ with
    | none => .stuck
    | some ρ1 => (b ρ1 S).turn (loopV t b xs) := by unfold loopV; rfl
def Cell.items : Cell → List Val
  | .lst xs => xs
/-- over a list at n: i turns have been, at most m are left -/
def loopC (n : Nat) (t : TgD) (b : SD) : Nat → Nat → SD
  | 0, i, ρ, S => match S[n]? with
    | some c => if c.items.length ≤ i then .next ρ S else .stuck
    | none => .stuck
  | m + 1, i, ρ, S => match S[n]? with
    | some c => match c.items[i]? with
      | none => .next ρ S
      | some x => match t x ρ with
        | none => .stuck
        | some ρ1 => (b ρ1 S).turn (loopC n t b m (i + 1))
    | none => .stuck
def sForC (f : D) (t : TgD) (b : SD) : SD := fun ρ S => (f ρ S).toS ρ fun x S1 => match x with
  | .ref n => match S1[n]? with
    | some c => loopC n t b c.items.length 0 ρ S1
    | none => .stuck
  | _ => .stuck
def sForT (f : D) (t : TgD) (b : SD) : SD := fun ρ S => (f ρ S).toS ρ fun x S1 => match x with
  | .tup xs => loopV t b xs ρ S1
  | _ => .stuck
def rangeV (lo : Int) (n : Nat) : List Val := (List.range n).map fun (i : Nat) => Val.int (lo + (i : Int))
def sForR (g : DA) (t : TgD) (b : SD) : SD := fun ρ S => (g ρ S).toS ρ fun xs S1 => match xs with
  | [.int j] => if -(2 ^ 62) ≤ j ∧ j < 2 ^ 62 then loopV t b (rangeV 0 j.toNat) ρ S1 else .stuck
  | _ => .stuck

section
variable {X : Cx} {cv : Nat → Value} {W : WX} {e a b c o : Expr} {st : Stmt} {es rest : List Expr} {sts as bs : List Stmt} {pos pos' : Pos}
theorem ps_nil' : PSs X [] (TSD (Gm X cv) W sNext) := pss_nil.imp fun D σ H ⟨ι, ρ, S, hs, hh, q⟩ => q.next hh hs
theorem ps_cons' {f g : SD} (h1 : PS X st (TSD (Gm X cv) W f)) (h2 : PSs X sts (TSD (Gm X cv) W g)) : PSs X (st :: sts) (TSD (Gm X cv) W (sSeq f g)) :=
  (pss_cons h1 h2).imp fun D σ H ⟨ι, ρ, S, hs, hh, q⟩ => ⟨ι, ρ, S, hs, hh, FinS.seq q⟩
theorem ps_one' {f : SD} (h1 : PS X st (TSD (Gm X cv) W f)) : PSs X [st] (TSD (Gm X cv) W f) := pss_one h1
theorem ps_pass' : PS X (.Pass pos) (TSD (Gm X cv) W sNext) := ps_pass.imp fun D σ H ⟨ι, ρ, S, hs, hh, q⟩ => q.next hh hs
theorem ps_if' {t : DT} {f g : SD} (hc : PT X c (TDT (Gm X cv) W t)) (ha : PSs X as (TSD (Gm X cv) W f)) (hb : PSs X bs (TSD (Gm X cv) W g)) : PS X (.If c as bs pos) (TSD (Gm X cv) W (sIf t f g)) :=
  (ps_if hc ha hb).imp fun D σ H ⟨ι, ρ, S, hs, hh, q⟩ => by
    refine ⟨ι, ρ, S, hs, hh, FinS.bind (R := fun _ _ => Eq) q hs fun x S1 ι1 H1 u e1 h1 r1 q1 => ?_⟩
    cases r1
    cases x with
    | true => exact ⟨ι1, ρ, S1, hs.ext e1, h1, q1⟩
    | false => exact ⟨ι1, ρ, S1, hs.ext e1, h1, q1⟩
theorem ps_ret' {f : D} (h : PE X e (TD (Gm X cv) W f)) : PS X (.Return (some e) pos) (TSD (Gm X cv) W (sRet f)) :=
  (ps_ret h).imp fun D σ H ⟨ι, ρ, S, hs, hh, q⟩ => ⟨ι, ρ, S, hs, hh, FinS.bind q hs fun x S1 ι1 H1 u e1 h1 r1 q1 => q1 ι1 H1 u .refl h1 r1⟩
theorem ps_retN' : PS X (.Return none pos) (TSD (Gm X cv) W sRetN) := ps_retN.imp fun D σ H ⟨ι, ρ, S, hs, hh, q⟩ => q ι H .non .refl hh .non
theorem ps_expr' {f : D} (h : PE X e (TD (Gm X cv) W f)) (hs : swapsWith e none pos.line X.env = pure false := by rfl) : PS X (.Expr e pos) (TSD (Gm X cv) W (sDrop f)) :=
  (ps_expr h hs).imp fun D σ H ⟨ι, ρ, S, hs, hh, q⟩ => ⟨ι, ρ, S, hs, hh, FinS.bind q hs fun x S1 ι1 H1 u e1 h1 r1 q1 => q1.next h1 (hs.ext e1)⟩
theorem ps_set' {i : Nat} {x : Str} {f : D} (hN : X.N.Nodup) (hi : X.N[i]? = some x) (hx : Loc X.env.scope x) (he : PE X e (TD (Gm X cv) W f)) (hs : swapsWith e (some (.Name x pos')) pos.line X.env = pure false := by rfl)
    (hf : X.fn x = true ∨ X.env.scope.names.lookup x = some .local := by first | exact .inl rfl | exact .inr rfl | assumption) : PS X (.Assign [.Name x pos'] e pos) (TSD (Gm X cv) W (sSet i f)) :=
  (ps_set hN hi hx he hs hf).imp fun D σ H ⟨ι, ρ, S, hs, hh, q⟩ => ⟨ι, ρ, S, hs, hh, FinS.bind q hs fun x S1 ι1 H1 u e1 h1 r1 q1 => q1.next h1 ((hs.ext e1).set r1 i)⟩
/-- a target does as it says -/
def TgOk (K : PySem.W.Frag) (g : TG) (t : TgD) : Prop := ∀ (ι : List Addr) (H : Hp) (ρ ρ' : Env) (σ : L2.St) (x : Val) (v : V) (Q : L2.St → Hp → Prop),
  RS K ι H ρ σ → RV K ι H x v → t x ρ = some ρ' → (∀ σ', RS K ι H ρ' σ' → Q σ' H) → g v σ H Q
def TgsOk (K : PySem.W.Frag) (g : TGs) (ts : List TgD) : Prop := ∀ (ι : List Addr) (H : Hp) (ρ ρ' : Env) (σ : L2.St) (xs : List Val) (vs : List V) (Q : L2.St → Hp → Prop),
  RS K ι H ρ σ → RVs K ι H xs vs → gTs ts xs ρ = some ρ' → (∀ σ', RS K ι H ρ' σ' → Q σ' H) → g vs σ H Q
theorem tg_name (K : PySem.W.Frag) (i : Nat) : TgOk K (gName i) (gN i) := fun ι H ρ ρ' σ x v Q hs r e h => by
  cases e
  exact h _ (hs.set r i)
theorem tgs_nil (K : PySem.W.Frag) : TgsOk K gNil [] := fun ι H ρ ρ' σ xs vs Q hs r e h => by
  cases r with
  | nil => cases e; exact ⟨rfl, h _ hs⟩
  | cons _ _ => cases e
theorem tgs_cons {K : PySem.W.Frag} {g : TG} {gs : TGs} {t : TgD} {ts : List TgD} (h1 : TgOk K g t) (h2 : TgsOk K gs ts) : TgsOk K (gCons g gs) (t :: ts) := fun ι H ρ ρ' σ xs vs Q hs r e h => by
  cases r with
  | nil => cases e
  | cons r rr =>
    rename_i x v xs vs
    have e' : (t x ρ).bind (fun ρ' => gTs ts xs ρ') = some ρ' := e
    cases q : t x ρ with
    | none => rw [q] at e'; cases e'
    | some ρ1 =>
      rw [q] at e'
      exact ⟨v, vs, rfl, h1 ι H ρ ρ1 σ x v _ hs r q fun σ1 hs1 => h2 ι H ρ1 ρ' σ1 xs vs Q hs1 rr e' h⟩
theorem gTs_length : ∀ {ts : List TgD} {xs : List Val} {ρ ρ' : Env}, gTs ts xs ρ = some ρ' → xs.length = ts.length
  | [], [], _, _, _ => rfl
  | [], _ :: _, _, _, h => nomatch h
  | _ :: _, [], _, _, h => nomatch h
  | t :: ts, x :: xs, ρ, ρ', h => by
    have e' : (t x ρ).bind (fun ρ' => gTs ts xs ρ') = some ρ' := h
    cases q : t x ρ with
    | none => rw [q] at e'; cases e'
    | some ρ1 =>
      rw [q] at e'
      rw [List.length_cons, List.length_cons, gTs_length (show gTs ts xs ρ1 = some ρ' from e')]
theorem tg_tup {K : PySem.W.Frag} {gs : TGs} {ts : List TgD} {n : Nat} (h : TgsOk K gs ts) (hn : ts.length = n) : TgOk K (gTup K n gs) (gT ts) := fun ι H ρ ρ' σ x v Q hs r e hq => by
  cases r with
  | tup ha rr => exact ⟨_, _, rfl, ha, by rw [← rr.length, ← hn]; exact gTs_length e, h ι H ρ ρ' σ _ _ Q hs rr e hq⟩
  | _ => cases e
theorem ps_asg' {tg : Expr} {f : D} {g : TG} {t : TgD} (he : PE X e (TD (Gm X cv) W f)) (hg : PG X tg g) (ht : TgOk X.K g t) (hs : swapsWithSole [tg] e pos.line X.env = pure false := by rfl) (hw : swappedStores [tg] e X.env = pure none := by rfl)
    (h1 : (assignEach [tg] X.env).map (·.2) = [assign tg X.env] := by rfl) : PS X (.Assign [tg] e pos) (TSD (Gm X cv) W (sAsg t f)) :=
  (ps_asg he hg hs hw h1).imp fun D σ H ⟨ι, ρ, S, hs, hh, q⟩ => ⟨ι, ρ, S, hs, hh, FinS.bind q hs fun x S1 ι1 H1 u e1 h1 r1 q1 => by
    split at q1
    · rename_i ρ' e2
      exact ht ι1 H1 ρ ρ' σ x u _ (hs.ext e1) r1 e2 fun σ' hs' => q1.next h1 hs'
    · exact q1.elim⟩
theorem ps_par' {i j : Nat} {x y : Str} {g : DA} {px py pt : Pos} {kt k2 pt2} (hc : X.calm = true) (hN : X.N.Nodup) (hi : X.N[i]? = some x) (hj : X.N[j]? = some y) (hij : i ≠ j)
    (hx : X.env.scope.names.lookup x = some .local) (hy : X.env.scope.names.lookup y = some .local) (ha : PA X [a, b] (TDA (Gm X cv) W g))
    (hw : swappedStores [.Tuple [.Name x px, .Name y py] kt pt] (.Tuple [a, b] k2 pt2) X.env = pure (some [x, y]))
    (hs : swapsWithSole [.Tuple [.Name x px, .Name y py] kt pt] (.Tuple [a, b] k2 pt2) pos.line X.env = pure false := by rfl) :
    PS X (.Assign [.Tuple [.Name x px, .Name y py] kt pt] (.Tuple [a, b] k2 pt2) pos) (TSD (Gm X cv) W (sPar i j g)) :=
  (ps_par hc hN hi hj hij hx hy ha hw hs).imp fun D σ H ⟨ι, ρ, S, hs, hh, q⟩ => ⟨ι, ρ, S, hs, hh, FinS.bind q hs fun xs S1 ι1 H1 us e1 h1 r1 q1 => by
    cases r1 with
    | nil => exact q1.elim
    | cons ra r1 =>
      cases r1 with
      | nil => exact q1.elim
      | cons rb r1 =>
        cases r1 with
        | nil => exact ⟨_, _, rfl, q1.next h1 (((hs.ext e1).set ra i).set rb j)⟩
        | cons _ _ => exact q1.elim⟩
theorem ps_put' {o i : Expr} {fo fi f : D} (he : PE X e (TD (Gm X cv) W f)) (ho : PE X o (TD (Gm X cv) W fo)) (hi : PE X i (TD (Gm X cv) W fi))
    (hs : swapsWithSole [.Subscript o i pos'] e pos.line X.env = pure false := by rfl) (hw : swappedStores [.Subscript o i pos'] e X.env = pure none := by rfl) (h1 : (assignEach [.Subscript o i pos'] X.env).map (·.2) = [assign (.Subscript o i pos') X.env] := by rfl)
    (ha : ∀ v, assign (.Subscript o i pos') X.env v = (do
      let ov ← holding [v] (eval o X.env)
      let iv ← holding [v, ov] (eval i X.env)
      standAt pos'
      holding [v, ov, iv] (setItem ov iv v)
      release [v, ov, iv] []) := by intro _; rfl) : PS X (.Assign [.Subscript o i pos'] e pos) (TSD (Gm X cv) W (sPut fo fi f)) :=
  (ps_asg he (pg_sub ho hi set_list ha) hs hw h1).imp fun D σ H ⟨ι, ρ, S, hs, hh, q⟩ => by
    refine ⟨ι, ρ, S, hs, hh, FinS.bind q hs fun x S1 ι1 H1 u e1 h1 r1 q1 => ?_⟩
    refine ⟨ι1, ρ, S1, hs.ext e1, h1, FinS.bind q1 (hs.ext e1) fun y S2 ι2 H2 v e2 h2 r2 q2 => ?_⟩
    refine ⟨ι2, ρ, S2, (hs.ext e1).ext e2, h2, FinS.bind q2 ((hs.ext e1).ext e2) fun z S3 ι3 H3 w e3 h3 r3 q3 => ?_⟩
    have r1' := (r1.ext e2).ext e3
    have r2' := r2.ext e3
    unfold setAt at q3
    split at q3
    · rename_i S4 e4
      split at e4
      · rename_i n k
        split at e4
        · rename_i xs e5
          split at e4
          · rename_i j e6
            cases e4
            cases r2' with
            | ref hn =>
              cases r3
              obtain ⟨vs, rv, hv⟩ := h3.ok _ _ _ hn e5
              refine ⟨_, vs, k, j, rfl, rfl, hv, by rw [← rv.length]; exact e6, ?_⟩
              have ew := Ext.write (ws := vs.set j u) hn hv
              exact q3 _ _ _ ew (h3.write hn e5 hv (RVs.set r1' j rv)) ((((hs.ext e1).ext e2).ext e3).ext ew)
          · cases e4
        · cases e4
      · cases e4
    · exact q3.elim
/-! ### for -/
theorem CellOk.sq {K : PySem.W.Frag} {ι : List Addr} {H : Hp} {a : Addr} {c : Cell} (h : CellOk K ι H a c) : ∃ vs, RVs K ι H c.items vs ∧ SqL K H a vs := by
  cases c with
  | lst xs => obtain ⟨vs, r, q⟩ := h; exact ⟨vs, r, SqL.of q⟩
theorem sqL_item {K : PySem.W.Frag} {H : Hp} {a : Addr} {vs : List V} {i : Nat} {x : V} (h : SqL K H a vs) (q : ∀ xs, SqL K H a xs → xs[i]? = some x) : vs[i]? = some x := q vs h
/-- what is wanted behind a turn -/
theorem turn_end {Γ : Cfg} {W : WX} {ι : List Addr} {H : Hp} {D : Ends} {N : L2.St → Hp → Prop} {r : SRes} {k : Env → Store → SRes} (h : FinS Γ W ι H D (r.turn k))
    (hk : ∀ ι1 H1 ρ σ S, Ext ι H ι1 H1 → RH Γ.K ι1 H1 S → RS Γ.K ι1 H1 ρ σ → FinS Γ W ι1 H1 D (k ρ S) → N σ H1) : FinS Γ W ι H { D with nx := N, ct := N, bk := D.nx } r := by
  cases r with
  | next ρ S => exact fun ι1 H1 σ1 e a b => hk ι1 H1 ρ σ1 S e a b (FinS.weak e h)
  | cont ρ S => exact fun ι1 H1 σ1 e a b => hk ι1 H1 ρ σ1 S e a b (FinS.weak e h)
  | brk ρ S => exact h
  | ret x S => exact h
  | exc x ρ S => exact h
  | stuck => exact h
theorem ps_forC' {tg iter : Expr} {f : D} {g : TG} {t : TgD} {bd : SD} (hp : PassesOwn (model X.prog X.w) X.A X.env X.xe) (hc : X.calm = true) (he : PE X iter (TD (Gm X cv) W f)) (hg : PG X tg g) (ht : TgOk X.K g t) (hb : PSs X bs (TSD (Gm X cv) W bd)) (hfs : ∀ v, foldedSetIterable iter X.env v = pure v := by intro _; rfl) :
    PS X (.For tg iter bs [] pos) (TSD (Gm X cv) W (sForC f t bd)) :=
  (ps_for hp hc (pi_list he) hg hb hfs).imp fun D σ H ⟨ι, ρ, S, hs, hh, q⟩ => by
    refine ⟨ι, ρ, S, hs, hh, FinS.bind q hs fun x S1 ι1 H1 u e1 h1 r1 q1 => ?_⟩
    cases r1 with
    | ref hn =>
      rename_i n a
      have q1 : FinS (Gm X cv) W ι1 H1 D (match S1[n]? with | some c => loopC n t bd c.items.length 0 ρ S1 | none => .stuck) := q1
      split at q1
      · · rename_i c ec
          obtain ⟨vs, rv, hq⟩ := (h1.ok _ _ _ hn ec).sq
          refine ⟨a, rfl, ⟨vs, hq⟩, fun i m σ H => ∃ ι ρ S, RS X.K ι H ρ σ ∧ RH X.K ι H S ∧ ι[n]? = some a ∧ FinS (Gm X cv) W ι H D (loopC n t bd m i ρ S), ⟨_, ι1, ρ, S1, hs.ext e1, h1, hn, q1⟩, fun i m σ' H' ⟨ι', ρ', S', hs', hh', hn', q'⟩ => ?_⟩
          have stop : ∀ c, S'[n]? = some c → c.items.length ≤ i → FinS (Gm X cv) W ι' H' D (.next ρ' S') → (Itl X.K a).stop i H' ∧ D.nx σ' H' := fun c ec' hl q => by
            obtain ⟨vs', rv', hq'⟩ := (hh'.ok _ _ _ hn' ec').sq
            exact ⟨⟨vs', hq', by rw [← rv'.length]; exact hl⟩, q.next hh' hs'⟩
          cases m with
          | zero =>
            unfold loopC at q'
            split at q'
            · rename_i c' ec'
              split at q'
              · rename_i hl
                exact .inl (stop c' ec' hl q')
              · exact q'.elim
            · exact q'.elim
          | succ m =>
            unfold loopC at q'
            split at q'
            · rename_i c' ec'
              split at q'
              · rename_i en
                exact .inl (stop c' ec' (List.getElem?_eq_none_iff.mp en) q')
              · rename_i x' ex
                obtain ⟨vs', rv', hq'⟩ := (hh'.ok _ _ _ hn' ec').sq
                obtain ⟨v', ev', rx'⟩ := rv'.get ex
                split at q'
                · exact q'.elim
                · rename_i ρ1 eρ
                  refine .inr ⟨⟨vs', v', hq', ev'⟩, fun σ H => ∃ ι ρ S, RS X.K ι H ρ σ ∧ RH X.K ι H S ∧ ι[n]? = some a ∧ FinS (Gm X cv) W ι H D (loopC n t bd m (i + 1) ρ S), fun σ2 H2 h2 => ⟨m, Nat.lt_succ_self m, h2⟩, fun y H2 hy => ?_⟩
                  obtain ⟨rfl, hy⟩ := hy
                  have ey := hy vs' hq'
                  rw [ev'] at ey; cases ey
                  refine ht ι' H2 ρ' ρ1 σ' x' v' _ hs' rx' eρ fun σ2 hs2 => ?_
                  refine ⟨ι', ρ1, S', hs2, hh', turn_end q' fun ι3 H3 ρ3 σ3 S3 e3 a3 b3 c3 => ?_⟩
                  exact ⟨ι3, ρ3, S3, b3, a3, e3.get hn', c3⟩
            · exact q'.elim
      · exact q1.elim
    | _ => exact q1.elim
/-- over values that stand still, given what the turns hand out -/
theorem for_vals {D : Ends} {g : TG} {t : TgD} {bd : SD} {J : It} (ht : TgOk X.K g t) (hb : True) {ι : List Addr} {H : Hp} {ρ : Env} {σ : L2.St} {S : Store} (xs : List Val) (Ok : List Addr → Hp → Prop) (hok : ∀ ι H ι' H', Ok ι H → Ext ι H ι' H' → Ok ι' H')
    (hstop : ∀ ι H, Ok ι H → J.stop xs.length H) (hgo : ∀ ι H i, Ok ι H → i < xs.length → J.go i H) (hy : ∀ ι H i y H', Ok ι H → i < xs.length → J.yld i H y H' → H' = H ∧ ∃ x, xs[i]? = some x ∧ RV X.K ι H x y)
    (hs : RS X.K ι H ρ σ) (hh : RH X.K ι H S) (h0 : Ok ι H) (q : FinS (Gm X cv) W ι H D (loopV t bd xs ρ S)) :
    ∃ W' : Nat → Nat → L2.St → Hp → Prop, (∃ m, W' 0 m σ H) ∧ ∀ i m σ H, W' i m σ H →
      (J.stop i H ∧ D.nx σ H) ∨ (J.go i H ∧ ∃ N : L2.St → Hp → Prop, (∀ σ' H', N σ' H' → ∃ m', m' < m ∧ W' (i + 1) m' σ' H') ∧ ∀ x H', J.yld i H x H' → g x σ H' fun σ2 H2 => TSD (Gm X cv) W bd { D with nx := N, ct := N, bk := D.nx } σ2 H2) := by
  refine ⟨fun i m σ H => i + m = xs.length ∧ ∃ ι ρ S, RS X.K ι H ρ σ ∧ RH X.K ι H S ∧ Ok ι H ∧ FinS (Gm X cv) W ι H D (loopV t bd (xs.drop i) ρ S), ⟨xs.length, Nat.zero_add _, ι, ρ, S, hs, hh, h0, q⟩, fun i m σ' H' ⟨hm, ι', ρ', S', hs', hh', h0', q'⟩ => ?_⟩
  cases m with
  | zero =>
    have : i = xs.length := by omega
    subst this
    rw [List.drop_length, loopV_nil] at q'
    exact .inl ⟨hstop ι' H' h0', q'.next hh' hs'⟩
  | succ m =>
    have hi : i < xs.length := by omega
    rw [List.drop_eq_getElem_cons hi, loopV_cons] at q'
    split at q'
    · exact q'.elim
    · rename_i ρ1 eρ
      refine .inr ⟨hgo ι' H' i h0' hi, fun σ H => ∃ ι ρ S, RS X.K ι H ρ σ ∧ RH X.K ι H S ∧ Ok ι H ∧ FinS (Gm X cv) W ι H D (loopV t bd (xs.drop (i + 1)) ρ S), fun σ2 H2 h2 => ⟨m, Nat.lt_succ_self m, by omega, h2⟩, fun y H2 hyd => ?_⟩
      obtain ⟨rfl, x, ex, rx⟩ := hy ι' H' i y H2 h0' hi hyd
      rw [List.getElem?_eq_getElem hi] at ex
      cases ex
      refine ht ι' H2 ρ' ρ1 σ' _ y _ hs' rx eρ fun σ2 hs2 => ?_
      refine ⟨ι', ρ1, S', hs2, hh', turn_end q' fun ι3 H3 ρ3 σ3 S3 e3 a3 b3 c3 => ?_⟩
      exact ⟨ι3, ρ3, S3, b3, a3, hok _ _ _ _ h0' e3, c3⟩
theorem rangeV_get {lo : Int} {n i : Nat} (h : i < n) : (rangeV lo n)[i]? = some (.int (lo + i)) := by
  unfold rangeV
  rw [List.getElem?_map, List.getElem?_range h]; rfl
theorem rangeV_length (lo : Int) (n : Nat) : (rangeV lo n).length = n := by simp [rangeV]
theorem ps_forR' {tg : Expr} {f : DA} {g : TG} {t : TgD} {bd : SD} {a : Expr} {p pos2 : Pos} (hp : PassesOwn (model X.prog X.w) X.A X.env X.xe) (hc : X.calm = true) (hgl : Gl X "range") (hm : X.mg "range" = none) (he : PA X [a] (TDA (Gm X cv) W f)) (hg : PG X tg g) (ht : TgOk X.K g t) (hb : PSs X bs (TSD (Gm X cv) W bd))
    (hs : starEach [a] X.env = [(false, eval a X.env)] := by rfl) :
    PS X (.For tg (.Call (.Name "range" p) [a] [] pos2) bs [] pos) (TSD (Gm X cv) W (sForR f t bd)) :=
  (ps_for hp hc (pi_range1 hgl hm he hs) hg hb).imp fun D σ H ⟨ι, ρ, S, hs, hh, q⟩ => by
    refine ⟨ι, ρ, S, hs, hh, FinS.bind q hs fun xs S1 ι1 H1 us e1 h1 r1 q1 => ?_⟩
    split at q1
    · rename_i j
      split at q1
      · rename_i hj
        cases r1 with
        | cons r1 r2 =>
          cases r1; cases r2
          refine ⟨j, rfl, hj.1, hj.2, ?_⟩
          refine for_vals ht trivial (rangeV 0 j.toNat) (fun _ _ => True) (fun _ _ _ _ _ _ => trivial) (fun _ _ _ => ?_) (fun _ _ i _ hi => ?_) (fun ι H i y H' _ hi hy => ?_) (hs.ext e1) h1 trivial q1
          · show j.toNat ≤ _; rw [rangeV_length]; exact Nat.le_refl _
          · rw [rangeV_length] at hi; exact hi
          · obtain ⟨rfl, rfl⟩ := hy
            rw [rangeV_length] at hi
            exact ⟨rfl, _, rangeV_get hi, .int _⟩
      · exact q1.elim
    · exact q1.elim
end
end PD

/-! ## PDCall -/
set_option Elab.async false
set_option linter.all false
set_option maxRecDepth 100000
set_option maxHeartbeats 2000000
namespace PD
open PySem PySem.Spec L2

/-! ### defs -/
def fnOf (n m : Nat) (b : SD) : Fn := fun xs S => if xs.length = n then (match b (xs.map some ++ List.replicate (m - n) none) S with
  | .ret v S' => .ok v S'
  | .next _ S' => .ok .non S'
  | .exc e _ S' => .exc e S'
  | _ => .stuck) else .stuck
def stuckF : Fn := fun _ _ => .stuck
def SpecOf (Γ : Cfg) (F : Fn) : Sp := fun vs H Q E => ∃ ι ds S, RVs Γ.K ι H ds vs ∧ RH Γ.K ι H S ∧ FinG Γ (RV Γ.K) E ι H Q (F ds S)
section
variable {P : Program} {w : World} {K : PySem.W.Frag} {mg : Str → Option Value} {base : Heap} {cv : Nat → Value} {f : Addr} {fd : FuncData} {ps : List Str}
/-- a def that keeps its promise wherever no repr of a container is under way -/
structure FnG (P : Program) (w : World) (K : PySem.W.Frag) (mg : Str → Option Value) (base : Heap) (k : Nat) (f : Addr) (fd : FuncData) (ps : List Str) (sp : Sp) : Prop where
  len : ∀ vs H Q E, sp vs H Q E → vs.length = ps.length
  go : ∀ (A : Around) (outer : List PySem.Env) (s : Shared) (H : Hp) (args : Args) (us : List Value) (vs : List V) (Q : VK) (E : XK), A.guards = some [] → Room k A → Env0 P w K mg base A outer s H →
    BindsTo s fd args (ps.zip us) → Vals vs us → sp vs H Q E → codeAny (model P w) A (.call (.ref f) args) (CR (L2.CX P w) outer P w H s Q E) s
theorem FnG.mono {j k : Nat} {sp : Sp} (F : FnG P w K mg base j f fd ps sp) (h : j ≤ k) : FnG P w K mg base k f fd ps sp :=
  ⟨F.len, fun A outer s H args us vs Q E hg hr => F.go A outer s H args us vs Q E hg (hr.mono h)⟩
theorem fn_zero (k : Nat) : FnG P w K mg base k f fd ps (SpecOf ⟨K, cv⟩ stuckF) :=
  ⟨fun _ _ _ _ ⟨_, _, _, _, _, z⟩ => z.elim, fun _ _ _ _ _ _ _ _ _ _ _ _ _ _ ⟨_, _, _, _, _, z⟩ => z.elim⟩
theorem start_rs {ι : List Addr} {H : Hp} {ds : List Val} {vs : List V} {N : List Str} (r : RVs K ι H ds vs) : RS K ι H (ds.map some ++ List.replicate (N.length - ds.length) none) (L2.start N vs) := by
  unfold L2.start
  rw [r.length]
  refine ⟨by simp [r.length], fun i x e => ?_⟩
  by_cases h : i < ds.length
  · rw [List.getElem?_append_left (by simpa using h), List.getElem?_map] at e
    rw [List.getElem?_append_left (by rw [List.length_map, ← r.length]; exact h), List.getElem?_map]
    cases q : ds[i]? with
    | none => rw [q] at e; cases e
    | some y =>
      rw [q] at e; cases e
      obtain ⟨v, a, b⟩ := r.get q
      exact ⟨v, by rw [a]; rfl, b⟩
  · rw [List.getElem?_append_right (by simp; omega), List.getElem?_replicate] at e
    split at e <;> cases e
/-- THE RULE of a def: its body's denotation -/
theorem fn_den {x qual : Str} {st : Stmt} {N : List Str} {k : Nat} {body : SD} (F : Fun K x qual st f fd) (S : FnScope N ps (defScope st))
    (hder : ∀ (cdv : Value) (A : Around) (outer : List PySem.Env) (s : Shared) (H : Hp) (E : XK), A.guards = some [] → Room k (A.deeper (PyProof.Rows.envOfC qual (defScope st) s.heap.objs.size f cdv)) →
      Takes (cxOf (L2.CX P w) P w K mg base N qual (defScope st) f cdv A outer s H E) (fun c d _ H => E c d H) →
      PassesOwn (model P w) (cxOf (L2.CX P w) P w K mg base N qual (defScope st) f cdv A outer s H E).A (cxOf (L2.CX P w) P w K mg base N qual (defScope st) f cdv A outer s H E).env (cxOf (L2.CX P w) P w K mg base N qual (defScope st) f cdv A outer s H E).xe →
      PSs (cxOf (L2.CX P w) P w K mg base N qual (defScope st) f cdv A outer s H E) (defBody st) (TSD ⟨K, cv⟩ (fun c d _ H => E c d H) body)) :
    FnG P w K mg base (k + 1) f fd ps (SpecOf ⟨K, cv⟩ (fnOf ps.length N.length body)) := by
  obtain ⟨oc, od, kV, doc, pm, an, cdv, ct, osl, hfd, lk, hcd⟩ := F.ex
  have leng : ∀ vs H Q E, SpecOf ⟨K, cv⟩ (fnOf ps.length N.length body) vs H Q E → vs.length = ps.length := fun vs H Q E h => by
    obtain ⟨ι, ds, S, r, _, q⟩ := h
    unfold fnOf at q
    split at q
    · rename_i e; rw [← r.length]; exact e
    · exact q.elim
  refine ⟨leng, fun A outer s H args us vs Q E hg hr e0 hb rv hsp => ?_⟩
  subst hfd
  have kk : ∀ b o, base.get? b = some o → s.heap.get? b = some o := fun b o e => (e0.bs b o e).1
  have KX : K.In s.heap := e0.mod.kin.keeps kk
  have kinds : ∀ y ∈ ps.zip us, (defScope st).names.lookup y.1 = some .local ∨ ((defScope st).names.lookup y.1 = some .cell ∧ ((cellsFrom (s.heap.objs.size + 1) (defScope st).names []).lookup y.1).isSome = true) := by
    rintro ⟨n, v⟩ hy
    exact (S.par n (List.of_mem_zip hy).1).elim .inl fun q => .inr ⟨q, PySem.W.cellsFrom_some _ _ _ (.inl q)⟩
  refine codeAny_call_function hr.depth (KX _ _ lk) rfl S.co S.gen rfl (PySem.W.codeRec_of KX hcd) (hb _ _ _ _ ?_)
  refine wpAny_newFunctionEnv_cells S.kind kinds fun env henv s1 hin => ?_
  subst henv
  refine ⟨(e0.mod.nolimit.keeps kk).keeps hin.toInCall.keep, codeAny_func ?_⟩
  have I0 := inv_start (CX := L2.CX P w) (mg := mg) (E := E) S hr.hd e0 (leng _ _ _ _ hsp) rv hin
  refine wpAny_mono ((hder cdv A outer s H E hg (hr.deeper _) (takes_of rfl rfl rfl rfl) (passes_of (X := cxOf (L2.CX P w) P w K mg base N qual (defScope st) f cdv A outer s H E) rfl)).run [] s1 (L2.start N vs) H { nx := fun _ H' => Q .non H', rt := Q } I0 ?_) (fun fl s2 hs => ?_) fun e s2 hx => hx
  · obtain ⟨ι, ds, S, r, hh, q⟩ := hsp
    unfold fnOf at q
    split at q
    · rename_i el
      refine ⟨ι, ds.map some ++ List.replicate (N.length - ds.length) none, S, start_rs r, hh, ?_⟩
      rw [el]
      revert q
      cases body (ds.map some ++ List.replicate (N.length - ps.length) none) S with
      | ret v S' => exact fun q ι' H' u a b c => q ι' H' u a b c
      | next ρ S' => exact fun q ι' H' u a b c => q ι' H' .non a b .non
      | exc e ρ S' => exact fun q ι' H' u d a b c e' => q ι' H' d a b e'
      | brk ρ S' => exact fun q => q.elim
      | cont ρ S' => exact fun q => q.elim
      | stuck => exact fun q => q.elim
    · exact q.elim
  · cases fl with
    | ret u =>
      obtain ⟨v, σ2, H2, J, ru, q⟩ := hs
      exact ⟨v, H2, J.os, J.bare, J.base, J.hok, ru, q⟩
    | next =>
      obtain ⟨σ2, H2, J, q⟩ := hs
      exact ⟨.non, H2, J.os, J.bare, J.base, J.hok, rfl, q⟩
    | brk => exact hs.elim fun _ h => h.elim fun _ h => h.2.elim
    | cont => exact hs.elim fun _ h => h.elim fun _ h => h.2.elim
end
section
variable {X : Cx} {cv : Nat → Value} {W : WX} {e a b c o : Expr} {st : Stmt} {es rest : List Expr} {sts as bs : List Stmt} {pos pos' p : Pos}
variable {k : Nat} {f : Addr} {fd : FuncData} {ps : List Str} {x : Str}
/-- the callee runs -/
theorem run_g {F : Fn} {pins : List (Addr × Obj)} {σ : L2.St} {H : Hp} {s : Shared} {Q : VK} {args : Args} {us : List Value} {vs : List V} (G : FnG X.prog X.w X.K X.mg X.base k f fd ps (SpecOf ⟨X.K, cv⟩ F)) (hgd : X.A.guards = some []) (hr : Room k X.A) (tk : Takes X W)
    (I : Inv X pins σ H s) (hb : BindsTo s fd args (ps.zip us)) (r : Vals vs us) (h : SpecOf ⟨X.K, cv⟩ F vs H Q (WE W σ)) : codeAny (model X.prog X.w) X.A (.call (.ref f) args) (fun res s' => match res with
      | .ok (.ret u) => EP X pins σ Q u s'
      | .ok _ => False
      | .error e => X.xe e s') s := by
  refine codeAny_mono (G.go X.A X.stack s H args us vs Q (WE W σ) hgd hr I.env0 hb r h) fun res s' hq => ?_
  rcases res with e | fl
  · exact passAt tk σ pins H s e s' I hq
  · cases fl with
    | ret u => exact I.after hq
    | _ => exact hq.elim
theorem ep_call {pins : List (Addr × Obj)} {σ : L2.St} {s : Shared} {Q : VK} {us : List Value} {kws : List (Str × Value)} (h : codeAny (model X.prog X.w) X.A (.call (.ref f) ⟨us, kws⟩) (fun res s' => match res with
      | .ok (.ret u) => EP X pins σ Q u s'
      | .ok _ => False
      | .error e => X.xe e s') s) : wpAny (model X.prog X.w) X.A (call (.ref f) us kws) (EP X pins σ Q) X.xe s := by
  refine wpAny_call (codeAny_mono h fun res s' hq => ?_)
  rcases res with e | fl
  · exact hq
  · cases fl with
    | ret u => exact hq
    | _ => exact hq.elim
/-- f(e, ..) -/
theorem pd_call {F : Fn} {g : DA} (G : FnG X.prog X.w X.K X.mg X.base k f fd ps (SpecOf ⟨X.K, cv⟩ F)) (hgd : X.A.guards = some []) (hr : Room k X.A) (hg : Gl X x) (hm : X.mg x = some (.ref f)) (hk : PySem.W.keepIn X.K (.ref f) = true) (hb : Binds X.K fd ps []) (tk : Takes X W)
    (ha : PA X (e :: es) (TDA (Gm X cv) W g)) (hdb : (x == ("__debug__" : Str)) = false := by decide) (he : starEach (e :: es) X.env = (false, eval e X.env) :: starEach es X.env := by rfl) (hpl : (backTo pos (starEach es X.env)).any (·.1) = false := by rfl) :
    PE X (.Call (.Name x p) (e :: es) [] pos) (TD (Gm X cv) W (dCall F g)) := by
  refine ⟨fun pins s σ H Q I h => ?_⟩
  obtain ⟨ι, ρ, S, hs, hh, q⟩ := h
  refine wpAny_Call_Name_kw (ld_glob I hg hm ?_ hdb)
  refine PySem.W.callWith_K (h₀ := X.base) I.ok.mod.kin hk (thn (ha.run pos pins s σ H (fun us H1 => SpecOf ⟨X.K, cv⟩ F us H1 Q (WE W σ)) I ⟨ι, ρ, S, hs, hh, FinG.bind q fun xs S1 ι1 H1 us e1 h1 r1 q1 => ⟨ι1, xs, S1, r1, h1, q1⟩⟩) fun us s1 ⟨vs, H1, I1, r, q1⟩ => ⟨I1.kIn, ?_⟩) he hpl
  have hl : us.length = ps.length := by rw [← r.length]; exact G.len _ _ _ _ q1
  have hb1 : BindsTo s1 fd ⟨us, []⟩ (ps.zip us) := by
    have := hb s1 us I1.kIn (by rw [List.append_nil]; exact hl)
    rwa [List.append_nil] at this
  exact ep_call (run_g G hgd hr tk I1 hb1 r q1)
/-- a built-in, a built-in class -/
theorem pd_callB {F : Fn} {g : DA} {r : List V → Hp → VK → Prop} {id : String} (hc : CallR X (.builtin id) r) (ho : OKA X.K r F) (hg : Gl X x) (hm : X.mg x = none) (hv : bootBuiltins x = some (.builtin id)) (ha : PA X (e :: es) (TDA (Gm X cv) W g)) (hn : x ≠ "__name__" := by decide) (hdb : (x == ("__debug__" : Str)) = false := by decide)
    (he : starEach (e :: es) X.env = (false, eval e X.env) :: starEach es X.env := by rfl) (hpl : (backTo pos (starEach es X.env)).any (·.1) = false := by rfl) : PE X (.Call (.Name x p) (e :: es) [] pos) (TD (Gm X cv) W (dCall F g)) :=
  (pe_callB hc hg hm hv ha hn hdb he hpl).imp fun σ H Q ⟨ι, ρ, S, hs, hh, q⟩ => by
    refine ⟨ι, ρ, S, hs, hh, FinG.bind q fun xs S1 ι1 H1 us e1 h1 r1 q1 => ?_⟩
    exact ho cv ι1 H1 S1 xs us _ Q h1 r1 q1
theorem pd_callTy {F : Fn} {g : DA} {r : List V → Hp → VK → Prop} {T : String} (hc : CallR X (.type T) r) (ho : OKA X.K r F) (hg : Gl X x) (hm : X.mg x = none) (hv : bootBuiltins x = some (.type T)) (ha : PA X (e :: es) (TDA (Gm X cv) W g)) (hn : x ≠ "__name__" := by decide) (hdb : (x == ("__debug__" : Str)) = false := by decide)
    (he : starEach (e :: es) X.env = (false, eval e X.env) :: starEach es X.env := by rfl) (hpl : (backTo pos (starEach es X.env)).any (·.1) = false := by rfl) : PE X (.Call (.Name x p) (e :: es) [] pos) (TD (Gm X cv) W (dCall F g)) :=
  (pe_callTy hc hg hm hv ha hn hdb he hpl).imp fun σ H Q ⟨ι, ρ, S, hs, hh, q⟩ => by
    refine ⟨ι, ρ, S, hs, hh, FinG.bind q fun xs S1 ι1 H1 us e1 h1 r1 q1 => ?_⟩
    exact ho cv ι1 H1 S1 xs us _ Q h1 r1 q1
/-! ### raise, try -/
/-- raise C('..'), C without __init__ -/
def sRaise (c : Nat) : SD := fun ρ S => .exc ⟨c, []⟩ ρ S
theorem pd_ty {n : String} {x : Str} (hg : Gl X x) (hm : X.mg x = none) (hv : bootBuiltins x = some (.type n)) (hn : x ≠ "__name__" := by decide) (hd : (x == ("__debug__" : Str)) = false := by decide) : PE X (.Name x pos) (TD (Gm X cv) W (dC (.ty n))) :=
  pd_c (pe_bltn (v := .ty n) hg hm hv rfl hn hd) fun _ _ => .ty _
theorem pd_gi {i : Int} {x : Str} (hg : Gl X x) (hm : ∃ t, X.mg x = some (.int i t)) (hd : (x == ("__debug__" : Str)) = false := by decide) : PE X (.Name x pos) (TD (Gm X cv) W (dC (.int i))) :=
  hm.elim fun t h => pd_c (pe_glob (v := .int i) hg h ⟨_, rfl⟩ hd) fun _ _ => .int _
theorem pd_gs {i : Str} {x : Str} (hg : Gl X x) (hm : ∃ t, X.mg x = some (.str i t)) (hd : (x == ("__debug__" : Str)) = false := by decide) : PE X (.Name x pos) (TD (Gm X cv) W (dC (.str i))) :=
  hm.elim fun t h => pd_c (pe_glob (v := .str i) hg h ⟨_, rfl⟩ hd) fun _ _ => .str _
theorem ps_raise' {c : Nat} {C : Value} (hcm : X.calm = true) (tk : Takes X W) (hC : cv c = C) (he : PMk X e (fun _ H Q => Q C none H)) : PS X (.Raise (some e) none pos) (TSD (Gm X cv) W (sRaise c)) :=
  (ps_raise hcm tk he).imp fun D σ H ⟨ι, ρ, S, hs, hh, q⟩ => by
    subst hC
    exact q ι H σ none .refl hh hs rfl
structure Clss (K : PySem.W.Frag) (cv : Nat → Value) (n : Nat) (mt : Nat → Nat → Bool) : Prop where
  ok : ∀ c k, c < n → k < n → PySem.W.exmOne K (cv c) (cv k) = some (mt c k)
/-- the clauses, one after the other -/
def sHds (n : Nat) (mt : Nat → Nat → Bool) : List (Nat × SD) → Exn → SD
  | [], e, ρ, S => .exc e ρ S
  | (k, b) :: r, e, ρ, S => if e.cls < n ∧ k < n then (if mt e.cls k = true then b ρ S else sHds n mt r e ρ S) else .stuck
def noExc (r : SRes) : SRes := match r with
  | .exc _ _ _ => .stuck
  | r => r
def sTry (n : Nat) (mt : Nat → Nat → Bool) (b : SD) (hds : List (Nat × SD)) : SD := fun ρ S => match b ρ S with
  | .exc e ρ1 S1 => sHds n mt (hds.map fun p => (p.1, fun ρ S => noExc (p.2 ρ S))) e ρ1 S1
  | r => r
inductive HdsD (X : Cx) (cv : Nat → Value) : List ExceptHandler → List (Nat × SD) → Prop
  | nil : HdsD X cv [] []
  | cons {x : Str} {c : Nat} {sd : SD} {b₀ : Stmt} {suite : List Stmt} {np pos' : Pos} {hds : List ExceptHandler} {l : List (Nat × SD)} (hc : Names X x (cv c))
      (hsu : ∀ (a : Addr) (pn : List (Addr × Obj)), PSs (X.suite a pn) (b₀ :: suite) (TSD (Gm (X.suite a pn) cv) (fun _ _ _ _ => False) sd)) (r : HdsD X cv hds l) :
      HdsD X cv (.ExceptHandler (some (.Name x np)) none (b₀ :: suite) pos' :: hds) ((c, sd) :: l)
theorem HdsD.ok : ∀ {hds : List ExceptHandler} {l : List (Nat × SD)}, HdsD X cv hds l → HdsOk X hds (l.map fun p => (cv p.1, fun _ _ _ => TSD ⟨X.K, cv⟩ (fun _ _ _ _ => False) p.2))
  | _, _, .nil => .nil
  | _, _, .cons hc hsu r => .cons hc (fun a oe cls d pn _ _ => hsu a ((a, oe) :: pn)) (HdsD.ok r)
theorem FinS.noexc {Γ : Cfg} {W W' : WX} {ι : List Addr} {H : Hp} {D : Ends} {r : SRes} (h : FinS Γ W ι H D (noExc r)) : FinS Γ W' ι H D r := by
  cases r with
  | exc e ρ S => exact h.elim
  | _ => exact h
theorem many_of {n : Nat} {mt : Nat → Nat → Bool} (C : Clss X.K cv n mt) {D : Ends} {ι : List Addr} {H : Hp} {ρ : Env} {σ : L2.St} {S : Store} {e : Exn} {d : Option Addr} (hs : RS X.K ι H ρ σ) (hh : RH X.K ι H S) (hx : XF X.K ι H e.fs d) :
    ∀ {l : List (Nat × SD)}, FinS (Gm X cv) W ι H D (sHds n mt (l.map fun p => (p.1, fun ρ S => noExc (p.2 ρ S))) e ρ S) → wMany X.K W D (l.map fun p => (cv p.1, fun _ _ _ => TSD ⟨X.K, cv⟩ (fun _ _ _ _ => False) p.2)) (cv e.cls) d σ H
  | [], q => q ι H σ d .refl hh hs hx
  | (k, b) :: r, q => by
    have q : FinS (Gm X cv) W ι H D (if e.cls < n ∧ k < n then (if mt e.cls k = true then noExc (b ρ S) else sHds n mt (r.map fun p => (p.1, fun ρ S => noExc (p.2 ρ S))) e ρ S) else .stuck) := q
    split at q
    · rename_i hk
      refine ⟨_, C.ok _ _ hk.1 hk.2, fun hb a ha => ?_, fun hb => ?_⟩
      · rw [if_pos hb] at q
        exact ⟨ι, ρ, S, hs, hh, FinS.noexc q⟩
      · rw [if_neg (by rw [hb]; decide)] at q
        exact many_of C hs hh hx q
    · exact q.elim
theorem ps_try' {n : Nat} {mt : Nat → Nat → Bool} {h₀ : ExceptHandler} {hds : List ExceptHandler} {l : List (Nat × SD)} {bd : SD} (C : Clss X.K cv n mt) (hs : X.stack = X.env :: X.outer) (hf : X.env.frame = some X.env.locals) (tk : Takes X W)
    (hb : ∀ (W : WX) (pn : List (Addr × Obj)) (xe : Value → Shared → Prop), Takes (X.tr pn xe) W → PassesOwn (model X.prog X.w) X.A X.env xe → PSs (X.tr pn xe) as (TSD (Gm (X.tr pn xe) cv) W bd))
    (hh : HdsD X cv (h₀ :: hds) l) : PS X (.Try as (h₀ :: hds) [] [] pos) (TSD (Gm X cv) W (sTry n mt bd l)) :=
  (ps_try_many (tb := fun W => TSD ⟨X.K, cv⟩ W bd) hs hf tk hb hh.ok).imp fun D σ H ⟨ι, ρ, S, hs, hh, q⟩ => by
    refine ⟨ι, ρ, S, hs, hh, ?_⟩
    unfold sTry at q
    revert q
    show FinS _ _ _ _ _ (match bd ρ S with | .exc e ρ1 S1 => _ | r => r) → FinS _ _ _ _ _ (bd ρ S)
    cases bd ρ S with
    | exc e ρ1 S1 => exact fun q ι' H' σ' d a b c x => many_of C c b x (FinS.weak a q)
    | _ => exact fun q => q
end
end PD

/-! ## PDOps -/
set_option Elab.async false
set_option linter.all false
set_option maxRecDepth 100000
set_option maxHeartbeats 2000000
namespace PD
open PySem PySem.Spec L2

/-! ### the operations by values -/
def okI (i : Int) (S : Store) : Res Val := .ok (.int i) S
def okB (b : Bool) (S : Store) : Res Val := .ok (.bl b) S
def alloc (xs : List Val) (S : Store) : Res Val := .ok (.ref S.length) (S ++ [.lst xs])
def oAdd : Op2 := fun x y S => match x, y with
  | .int a, .int b => okI (a + b) S
  | .str a, .str b => if a.length + b.length ≤ 16777216 then .ok (.str (a ++ b)) S else .stuck
  | .tup xs, .tup ys => if xs.length + ys.length ≤ 16777216 then .ok (.tup (xs ++ ys)) S else .stuck
  | .ref n, .ref m => match S[n]?, S[m]? with
    | some (.lst xs), some (.lst ys) => if xs.length + ys.length ≤ 16777216 then alloc (xs ++ ys) S else .stuck
    | _, _ => .stuck
  | _, _ => .stuck
def oSub : Op2 := fun x y S => match x, y with
  | .int a, .int b => okI (a - b) S
  | _, _ => .stuck
def oMul : Op2 := fun x y S => match x, y with
  | .int a, .int b => if a.natAbs.log2 + b.natAbs.log2 < 1000000 then okI (a * b) S else .stuck
  | _, _ => .stuck
def oMod : Op2 := fun x y S => match x, y with
  | .int a, .int b => if 0 < b then okI (a % b) S else .stuck
  | _, _ => .stuck
def oDiv : Op2 := fun x y S => match x, y with
  | .int a, .int b => if 0 < b ∧ b.natAbs.log2 < 9000 then okI (a / b) S else .stuck
  | _, _ => .stuck
def oPow : Op2 := fun x y S => match x, y with
  | .int a, .int b => if 0 ≤ b ∧ b ≤ 1000000 ∧ a.natAbs < 2 ^ 64 then okI (a ^ b.toNat) S else .stuck
  | _, _ => .stuck
def oNeg : Val → Store → Res Val := fun x S => match x with
  | .int a => okI (-a) S
  | _ => .stuck
def oInt2 (p : Int → Int → Bool) : Op2 := fun x y S => match x, y with
  | .int a, .int b => okB (p a b) S
  | _, _ => .stuck
def oLt := oInt2 fun i j => decide (i < j)
def oLe := oInt2 fun i j => decide (i ≤ j)
def oGt := oInt2 fun i j => decide (j < i)
def oGe := oInt2 fun i j => decide (j ≤ i)
/-! ### equality -/
def allSome {α : Type} : List (Option α) → Option (List α)
  | [] => some []
  | x :: xs => match x, allSome xs with
    | some a, some as => some (a :: as)
    | _, _ => none
def toD : Nat → Store → Val → Option PyData
  | 0, _, _ => none
  | f + 1, S, v => match v with
    | .non => some .none
    | .bl b => some (.bool b)
    | .int i => some (.int i)
    | .str x => some (.str x)
    | .tup xs => (allSome (xs.map (toD f S))).map .tuple
    | .ref n => match S[n]? with
      | some c => (allSome (c.items.map (toD f S))).map .list
      | none => none
    | .ty _ => none
    | .kl xs => (allSome (xs.map (toD f S))).map .list
def deq (x y : Val) (S : Store) : Option Bool := match x, y with
  | .int a, .int b => some (decide (a = b))
  | x, y => match toD 66 S x, toD 66 S y with
    | some d, some e => if SeqAt.shaped d = true ∧ SeqAt.shaped e = true then some (PyData.eqv d e) else none
    | _, _ => none
def oEq : Op2 := fun x y S => match deq x y S with
  | some b => okB b S
  | none => .stuck
def oNe : Op2 := fun x y S => match deq x y S with
  | some b => okB (!b) S
  | none => .stuck
/-- is None, is True, is False, is of two built-in classes -/
def oIs : Op2 := fun x y S => match y with
  | .non => okB (match x with | .non => true | _ => false) S
  | .bl b => okB (match x with | .bl a => a == b | _ => false) S
  | .ty b => match x with
    | .ty a => okB (decide (a = b)) S
    | _ => .stuck
  | _ => .stuck
def oIsNot : Op2 := fun x y S => match y with
  | .non => okB (match x with | .non => false | _ => true) S
  | .bl b => okB (match x with | .bl a => !(a == b) | _ => true) S
  | .ty b => match x with
    | .ty a => okB (!decide (a = b)) S
    | _ => .stuck
  | _ => .stuck

section
variable {K : PySem.W.Frag} {ι : List Addr} {H : Hp} {S : Store}
theorem allSome_get {α β : Type} {R : α → β → Prop} : ∀ {l : List (Option α)} {as : List α}, allSome l = some as → l = as.map some
  | [], _, h => by cases h; rfl
  | x :: xs, as, h => by
    unfold allSome at h
    split at h
    · rename_i a as' e1 e2
      cases h
      rw [allSome_get (R := R) e2]; rfl
    · cases h
theorem toDs_dp {f : Nat} (ih : ∀ (x : Val) (v : V) (d : PyData), RV K ι H x v → toD f S x = some d → Dp K H v d) : ∀ {xs : List Val} {vs : List V} {ds : List PyData}, RVs K ι H xs vs → allSome (xs.map (toD f S)) = some ds → DpAll K H vs ds
  | _, _, _, .nil, h => by cases h; exact .nil
  | x :: xs, _, _, .cons r rr, h => by
    rw [List.map_cons] at h
    unfold allSome at h
    split at h
    · rename_i a as' e1 e2
      cases h
      exact .cons (ih _ _ _ r e1) (toDs_dp ih rr e2)
    · cases h
theorem toD_dp (hh : RH K ι H S) : ∀ (f : Nat) (x : Val) (v : V) (d : PyData), RV K ι H x v → toD f S x = some d → Dp K H v d
  | 0, _, _, _, _, h => nomatch h
  | f + 1, x, v, d, r, h => by
    cases r with
    | non => cases h; exact .non
    | bl b => cases h; exact .bl b
    | int i => cases h; exact .int i
    | str i => cases h; exact .str i
    | ty n => cases h
    | tup ha rr =>
      rename_i a xs vs
      have h : (allSome (xs.map (toD f S))).map PyData.tuple = some d := h
      cases q : allSome (xs.map (toD f S)) with
      | none => rw [q] at h; cases h
      | some ds => rw [q] at h; cases h; exact .tup ha (toDs_dp (toD_dp hh f) rr q)
    | kl ha rr =>
      rename_i a xs vs
      have h : (allSome (xs.map (toD f S))).map PyData.list = some d := h
      cases q : allSome (xs.map (toD f S)) with
      | none => rw [q] at h; cases h
      | some ds => rw [q] at h; cases h; exact .lst ha.sq (toDs_dp (toD_dp hh f) rr q)
    | ref hn =>
      rename_i n a
      have h : (match S[n]? with
        | some c => (allSome (c.items.map (toD f S))).map PyData.list
        | none => none) = some d := h
      split at h
      · rename_i c ec
        obtain ⟨vs, rr, hq⟩ := (hh.ok _ _ _ hn ec).sq
        cases q : allSome (c.items.map (toD f S)) with
        | none => rw [q] at h; cases h
        | some ds => rw [q] at h; cases h; exact .lst hq (toDs_dp (toD_dp hh f) rr q)
      · cases h
end
abbrev rOr (r r' : L2.R2) : L2.R2 := fun x y H Q => r x y H Q ∨ r' x y H Q
/-- is, by one rule -/
def rIsA (neg : Bool) : L2.R2 := fun x y H Q => (y = .non ∧ Q (.bl (neg != decide (x = .non))) H) ∨ (∃ b, y = .bl b ∧ Q (.bl (neg != decide (x = .bl b))) H) ∨ (∃ m n, x = .ty m ∧ y = .ty n ∧ Q (.bl (neg != decide (m = n))) H)
section
variable {X : Cx}
theorem plain_bl {x : V} {v : Value} {b : Bool} (r : RelV x v) : PySem.plainIs v (.bool b) = true := by
  cases x with
  | non => cases r; rfl
  | bl _ => cases r; rfl
  | int _ => obtain ⟨t, rfl⟩ := r; rfl
  | str _ => obtain ⟨t, rfl⟩ := r; rfl
  | byt _ => obtain ⟨t, rfl⟩ := r; rfl
  | flt _ => obtain ⟨t, rfl⟩ := r; rfl
  | ref _ => cases r; rfl
  | ty _ => cases r; rfl
theorem rel_bl_iff {x : V} {v : Value} {b : Bool} (r : RelV x v) : v = .bool b ↔ x = .bl b := by
  constructor
  · intro e
    subst e
    exact r.inj (show RelV (.bl b) (.bool b) from rfl)
  · intro e; subst e; exact r
theorem op_isA : OpR X (compareOp .Is) (rIsA false) := by
  intro pins s σ H x y v u Q I rx ry h
  rcases h with ⟨rfl, q⟩ | ⟨b, rfl, q⟩ | ⟨m, n, rfl, rfl, q⟩
  · refine op_isN pins s σ H x .non v u Q I rx ry ⟨rfl, ?_⟩
    simpa using q
  · cases (show u = Value.bool b from ry)
    by_cases e : v = .bool b
    · have e' := (rel_bl_iff rx).mp e
      subst e
      exact wpAny_is_self rfl ⟨.bl true, H, I, rfl, by simpa [e'] using q⟩
    · have e' : ¬ x = .bl b := fun z => e ((rel_bl_iff rx).mpr z)
      exact wpAny_is_other (plain_bl rx) e ⟨.bl false, H, I, rfl, by simpa [e'] using q⟩
  · exact op_isTy pins s σ H _ _ v u Q I rx ry ⟨m, n, rfl, rfl, by simpa using q⟩
theorem op_isNotA : OpR X (compareOp .IsNot) (rIsA true) := by
  intro pins s σ H x y v u Q I rx ry h
  rcases h with ⟨rfl, q⟩ | ⟨b, rfl, q⟩ | ⟨m, n, rfl, rfl, q⟩
  · refine op_notN pins s σ H x .non v u Q I rx ry ⟨rfl, ?_⟩
    simpa using q
  · cases (show u = Value.bool b from ry)
    by_cases e : v = .bool b
    · have e' := (rel_bl_iff rx).mp e
      subst e
      exact wpAny_isNot_self rfl ⟨.bl false, H, I, rfl, by simpa [e'] using q⟩
    · have e' : ¬ x = .bl b := fun z => e ((rel_bl_iff rx).mpr z)
      exact wpAny_isNot_other (plain_bl rx) e ⟨.bl true, H, I, rfl, by simpa [e'] using q⟩
  · exact op_isNotTy pins s σ H _ _ v u Q I rx ry ⟨m, n, rfl, rfl, by simpa using q⟩
end
section
variable {K : PySem.W.Frag}
theorem ok_isA : OK2 K (rIsA false) oIs := by
  intro cv ι H S x y u v W Q hh rx ry q
  cases ry with
  | non =>
    refine .inl ⟨rfl, ?_⟩
    cases rx <;> exact q ι H _ .refl hh (.bl _)
  | bl b =>
    refine .inr (.inl ⟨b, rfl, ?_⟩)
    cases rx with
    | bl a =>
      have e : (false != decide (V.bl a = V.bl b)) = (a == b) := by cases a <;> cases b <;> rfl
      rw [e]; exact q ι H _ .refl hh (.bl _)
    | _ => exact q ι H _ .refl hh (.bl _)
  | ty b =>
    cases rx with
    | ty a =>
      refine .inr (.inr ⟨a, b, rfl, rfl, ?_⟩)
      have e : (false != decide (a = b)) = decide (a = b) := by simp
      rw [e]; exact q ι H _ .refl hh (.bl _)
    | _ => exact q.elim
  | _ => exact q.elim
theorem ok_isNotA : OK2 K (rIsA true) oIsNot := by
  intro cv ι H S x y u v W Q hh rx ry q
  cases ry with
  | non =>
    refine .inl ⟨rfl, ?_⟩
    cases rx <;> exact q ι H _ .refl hh (.bl _)
  | bl b =>
    refine .inr (.inl ⟨b, rfl, ?_⟩)
    cases rx with
    | bl a =>
      have e : (true != decide (V.bl a = V.bl b)) = !(a == b) := by cases a <;> cases b <;> rfl
      rw [e]; exact q ι H _ .refl hh (.bl _)
    | _ => exact q ι H _ .refl hh (.bl _)
  | ty b =>
    cases rx with
    | ty a =>
      refine .inr (.inr ⟨a, b, rfl, rfl, ?_⟩)
      have e : (true != decide (a = b)) = !decide (a = b) := by simp
      rw [e]; exact q ι H _ .refl hh (.bl _)
    | _ => exact q.elim
  | _ => exact q.elim
theorem ok_int2 {p : Int → Int → Bool} : OK2 K (rI0 fun i j => .bl (p i j)) (oInt2 p) := by
  intro cv ι H S x y u v W Q hh rx ry q
  cases rx with
  | int a =>
    cases ry with
    | int b => exact ⟨a, b, rfl, rfl, q ι H _ .refl hh (.bl _)⟩
    | _ => exact q.elim
  | _ => exact q.elim
theorem ok_sub : OK2 K (rI0 fun i j => .int (i - j)) oSub := by
  intro cv ι H S x y u v W Q hh rx ry q
  cases rx with
  | int a =>
    cases ry with
    | int b => exact ⟨a, b, rfl, rfl, q ι H _ .refl hh (.int _)⟩
    | _ => exact q.elim
  | _ => exact q.elim
theorem ok_cond {C : Int → Int → Prop} {g : Int → Int → Int} {o : Op2} (h : ∀ cv ι H S x y W Q, Fin ⟨K, cv⟩ W ι H Q (o x y S) → ∃ a b, x = .int a ∧ y = .int b ∧ C a b ∧ Fin ⟨K, cv⟩ W ι H Q (okI (g a b) S)) : OK2 K (rI C fun i j => .int (g i j)) o := by
  intro cv ι H S x y u v W Q hh rx ry q
  obtain ⟨a, b, rfl, rfl, c, q⟩ := h cv ι H S x y W Q q
  cases rx
  cases ry
  exact ⟨a, b, rfl, rfl, c, q ι H _ .refl hh (.int _)⟩
theorem ok_mul : OK2 K (rI CMulW fun i j => .int (i * j)) oMul := ok_cond (g := fun i j => i * j) fun cv ι H S x y W Q q => by
  unfold oMul at q
  split at q
  · split at q
    · rename_i hc; exact ⟨_, _, rfl, rfl, hc, q⟩
    · exact q.elim
  · exact q.elim
theorem ok_mod : OK2 K (rI (fun _ j => 0 < j) fun i j => .int (i % j)) oMod := ok_cond (g := fun i j => i % j) fun cv ι H S x y W Q q => by
  unfold oMod at q
  split at q
  · split at q
    · rename_i hc; exact ⟨_, _, rfl, rfl, hc, q⟩
    · exact q.elim
  · exact q.elim
theorem ok_div : OK2 K (rI CDivW fun i j => .int (i / j)) oDiv := ok_cond (g := fun i j => i / j) fun cv ι H S x y W Q q => by
  unfold oDiv at q
  split at q
  · split at q
    · rename_i hc; exact ⟨_, _, rfl, rfl, hc, q⟩
    · exact q.elim
  · exact q.elim
theorem ok_pow : OK2 K (rI CPow fun i j => .int (i ^ j.toNat)) oPow := ok_cond (g := fun i j => i ^ j.toNat) fun cv ι H S x y W Q q => by
  unfold oPow at q
  split at q
  · split at q
    · rename_i hc; exact ⟨_, _, rfl, rfl, hc, q⟩
    · exact q.elim
  · exact q.elim
theorem ok_neg : OK1 K (rU fun i => .int (-i)) oNeg := by
  intro cv ι H S x u W Q hh rx q
  cases rx with
  | int a => exact ⟨a, rfl, q ι H _ .refl hh (.int _)⟩
  | _ => exact q.elim
abbrev rStrA : L2.R2 := fun x y H Q => ∃ i j, x = .str i ∧ y = .str j ∧ i.length + j.length ≤ sizeLine ∧ Q (.str (i ++ j)) H
abbrev rAddA (K : PySem.W.Frag) : L2.R2 := rOr (rI0 fun i j => .int (i + j)) (rOr rStrA (rOr (rCatA K) rCat))
theorem op_addA {X : Cx} : OpR X (binaryOp .Add) (rAddA X.K) := op_add.or (op_add_str.or (op_catA.or op_cat))
theorem ok_add : OK2 K (rAddA K) oAdd := by
  intro cv ι H S x y u v W Q hh rx ry q
  cases rx with
  | int a =>
    cases ry with
    | int b => exact .inl ⟨a, b, rfl, rfl, q ι H _ .refl hh (.int _)⟩
    | _ => exact q.elim
  | str a =>
    cases ry with
    | str b =>
      have q : Fin ⟨K, cv⟩ W ι H Q (if a.length + b.length ≤ 16777216 then .ok (.str (a ++ b)) S else .stuck) := q
      split at q
      · rename_i hl
        exact .inr (.inl ⟨a, b, rfl, rfl, by rw [sizeLine_eq]; exact hl, q ι H _ .refl hh (.str _)⟩)
      · exact q.elim
    | _ => exact q.elim
  | tup ha ra =>
    cases ry with
    | tup hb rb =>
      rename_i a xs vs b ys ws
      have q : Fin ⟨K, cv⟩ W ι H Q (if xs.length + ys.length ≤ 16777216 then .ok (.tup (xs ++ ys)) S else .stuck) := q
      split at q
      · rename_i hl
        refine .inr (.inr (.inl ⟨a, b, vs, ws, rfl, rfl, ha, hb, by rw [← ra.length, ← rb.length, sizeLine_eq]; exact hl, fun e => ?_, fun e1 e2 => ?_, fun e1 e2 p hp => ?_⟩))
        · subst e; cases ra
          exact q ι H _ .refl hh (.tup hb rb)
        · subst e2; cases rb
          rw [List.append_nil] at q
          exact q ι H _ .refl hh (.tup ha ra)
        · exact q _ _ _ (Ext.fresh hp) (hh.fresh hp) (.tup (SqT.of upd_same) ((ra.append rb).ext (Ext.fresh hp)))
      · exact q.elim
    | _ => exact q.elim
  | ref hn =>
    cases ry with
    | ref hm =>
      rename_i n a m b
      have q : Fin ⟨K, cv⟩ W ι H Q (match S[n]?, S[m]? with
        | some (.lst xs), some (.lst ys) => if xs.length + ys.length ≤ 16777216 then alloc (xs ++ ys) S else .stuck
        | _, _ => .stuck) := q
      split at q
      · rename_i xs ys e1 e2
        split at q
        · rename_i hl
          obtain ⟨vs, ra, hv⟩ := hh.ok _ _ _ hn e1
          obtain ⟨ws, rb, hw⟩ := hh.ok _ _ _ hm e2
          refine .inr (.inr (.inr ⟨a, b, vs, ws, rfl, rfl, hv, hw, by rw [← ra.length, ← rb.length, sizeLine_eq]; exact hl, fun p hp => ?_⟩))
          refine q _ _ _ (Ext.alloc hp) (hh.alloc hp (ra.append rb)) (.ref ?_)
          rw [← hh.len]; simp
        · exact q.elim
      · exact q.elim
    | _ => exact q.elim
  | _ => exact q.elim
theorem deq_ok {ι : List Addr} {H : Hp} {S : Store} {x y : Val} {u v : V} {b : Bool} (hh : RH K ι H S) (rx : RV K ι H x u) (ry : RV K ι H y v) (h : deq x y S = some b) :
    ∃ d e, Dp K H u d ∧ Dp K H v e ∧ SeqAt.shaped d = true ∧ SeqAt.shaped e = true ∧ PyData.eqv d e = b := by
  unfold deq at h
  split at h
  · rename_i a c
    cases rx
    cases ry
    cases h
    exact ⟨_, _, .int a, .int c, rfl, rfl, by show (a == c) = _; rw [Bool.beq_eq_decide_eq]⟩
  · split at h
    · rename_i d e e1 e2
      split at h
      · rename_i hs
        cases h
        exact ⟨d, e, toD_dp hh _ _ _ _ rx e1, toD_dp hh _ _ _ _ ry e2, hs.1, hs.2, rfl⟩
      · cases h
    · cases h
theorem ok_eq : OK2 K (rEqD K) oEq := by
  intro cv ι H S x y u v W Q hh rx ry q
  unfold oEq at q
  split at q
  · rename_i b hb
    obtain ⟨d, e, h1, h2, h3, h4, h5⟩ := deq_ok hh rx ry hb
    exact ⟨d, e, h1, h2, h3, h4, by rw [h5]; exact q ι H _ .refl hh (.bl _)⟩
  · exact q.elim
theorem ok_ne : OK2 K (rNeD K) oNe := by
  intro cv ι H S x y u v W Q hh rx ry q
  unfold oNe at q
  split at q
  · rename_i b hb
    obtain ⟨d, e, h1, h2, h3, h4, h5⟩ := deq_ok hh rx ry hb
    exact ⟨d, e, h1, h2, h3, h4, by rw [h5]; exact q ι H _ .refl hh (.bl _)⟩
  · exact q.elim
end
end PD

/-! ## PDMore -/
set_option Elab.async false
set_option linter.all false
set_option maxRecDepth 100000
set_option maxHeartbeats 2000000
namespace PD
open PySem PySem.Spec L2

/-! ### f(k = v, ..) -/
def pick {α : Type} (is : List Nat) (xs : List α) : List α := is.filterMap fun i => xs[i]?
theorem pick_vals {zs : List V} {ws : List Value} (r : Vals zs ws) : ∀ is : List Nat, Vals (pick is zs) (pick is ws)
  | [] => .nil
  | i :: is => by
    unfold pick
    rw [List.filterMap_cons, List.filterMap_cons]
    cases h : zs[i]? with
    | none => rw [r.none_of h]; exact pick_vals r is
    | some z =>
      obtain ⟨u, e, q⟩ := r.get h
      rw [e]
      exact .cons q (pick_vals r is)
theorem pick_rvs {K : PySem.W.Frag} {ι : List Addr} {H : Hp} {xs : List Val} {vs : List V} (r : RVs K ι H xs vs) : ∀ is : List Nat, RVs K ι H (pick is xs) (pick is vs)
  | [] => .nil
  | i :: is => by
    unfold pick
    rw [List.filterMap_cons, List.filterMap_cons]
    cases h : xs[i]? with
    | none =>
      have : vs[i]? = none := by
        rw [List.getElem?_eq_none_iff] at h ⊢
        rw [← r.length]; exact h
      rw [this]; exact pick_rvs r is
    | some z =>
      obtain ⟨u, e, q⟩ := r.get h
      rw [e]
      exact .cons q (pick_rvs r is)
def KB0 (K : PySem.W.Frag) (fd : FuncData) (ps ks : List Str) (is : List Nat) : Prop :=
  ∀ (s : Shared) (ws : List Value), K.In s.heap → ws.length = ks.length → (pick is ws).length = ps.length → BindsTo s fd ⟨[], ks.zip ws⟩ (ps.zip (pick is ws))
theorem _root_.L2.PK.imp {X : Cx} {kws : List Keyword} {t t' : TA} (h : PK X kws t) (q : ∀ σ H Q, t' σ H Q → t σ H Q) : PK X kws t' := ⟨fun pos pins s σ H Q I hw => h.run pos pins s σ H Q I (q _ _ _ hw)⟩
def dCallK (is : List Nat) (n : Nat) (F : Fn) (g : DA) : D := fun ρ S => (g ρ S).bind fun xs S1 => if xs.length = n then F (pick is xs) S1 else .stuck
section
variable {X : Cx} {cv : Nat → Value} {W : WX} {e a b c o : Expr} {es : List Expr} {pos p : Pos} {kws : List Keyword}
variable {k : Nat} {f : Addr} {fd : FuncData} {ps ks : List Str} {x : Str}
theorem pdk_nil : PK X [] (TDA (Gm X cv) W aNil) := pk_nil.imp fun σ H Q ⟨ι, ρ, S, hs, hh, q⟩ => q.here hh .nil
theorem pdk_cons {nm : Option Str} {kpos : Pos} {f : D} {g : DA} (ha : PE X e (TD (Gm X cv) W f)) (hr : PK X kws (TDA (Gm X cv) W g)) : PK X (⟨nm, e, kpos⟩ :: kws) (TDA (Gm X cv) W (aCons f g)) :=
  (pk_cons ha hr).imp fun σ H Q h => by
    obtain ⟨ι, ρ, S, hs, hh, q⟩ := h
    refine ⟨ι, ρ, S, hs, hh, FinG.bind q fun x S1 ι1 H1 u e1 h1 r1 q1 => ?_⟩
    refine ⟨ι1, ρ, S1, hs.ext e1, h1, FinG.bind q1 fun y S2 ι2 H2 v e2 h2 r2 q2 => ?_⟩
    exact q2.here h2 (.cons (r1.ext e2) r2)
theorem pd_callK0 {F : Fn} {g : DA} {is : List Nat} {m : Nat} (G : FnG X.prog X.w X.K X.mg X.base k f fd ps (SpecOf ⟨X.K, cv⟩ F)) (hgd : X.A.guards = some []) (hr : Room k X.A) (hg : Gl X x) (hm : X.mg x = some (.ref f)) (hk : PySem.W.keepIn X.K (.ref f) = true) (hb : KB0 X.K fd ps ks is) (tk : Takes X W)
    (hkw : PK X kws (TDA (Gm X cv) W g)) (hall : (backToKw pos (keywordEach kws X.env)).all (·.1.isSome) = true := by rfl) (hks : (backToKw pos (keywordEach kws X.env)).filterMap (·.1) = ks := by rfl) (hdb : (x == ("__debug__" : Str)) = false := by decide)
    (hpl : ((backTo pos (starEach [] X.env)).any (·.1) || (backToKw pos (keywordEach kws X.env)).any (·.1.isNone)) = false := by rfl) (hm2 : ks.length = m := by rfl) :
    PE X (.Call (.Name x p) [] kws pos) (TD (Gm X cv) W (dCallK is m F g)) := by
  subst hm2
  refine ⟨fun pins s σ H Q I h => ?_⟩
  obtain ⟨ι, ρ, S, hs, hh, q⟩ := h
  refine wpAny_Call_Name_kw (ld_glob I hg hm ?_ hdb)
  refine PySem.W.callWith_KW0 (h₀ := X.base) I.ok.mod.kin hk hall ?_ hpl
  refine thn (hkw.run pos pins s σ H (fun us H1 => us.length = ks.length ∧ SpecOf ⟨X.K, cv⟩ F (pick is us) H1 Q (WE W σ)) I ⟨ι, ρ, S, hs, hh, FinG.bind q fun xs S1 ι1 H1 us e1 h1 r1 q1 => ?_⟩) fun ws s2 ⟨zs, H2, I2, rz, hl, q2⟩ => ⟨I2.kIn, ?_⟩
  · split at q1
    · rename_i hl
      exact ⟨by rw [← r1.length]; exact hl, ι1, pick is xs, S1, pick_rvs r1 is, h1, q1⟩
    · exact q1.elim
  · rw [hks]
    have r2 := pick_vals rz is
    have hl2 : (pick is ws).length = ps.length := by rw [← r2.length]; exact G.len _ _ _ _ q2
    exact ep_call (run_g G hgd hr tk I2 (hb s2 ws I2.kIn (by rw [← rz.length]; exact hl) hl2) r2 q2)
end

/-! ### items, slices, len -/
def oIx : Op2 := fun x y S => match y with
  | .int i => match x with
    | .tup xs => match atI xs i with
      | some z => .ok z S
      | none => .stuck
    | .ref n => match S[n]? with
      | some c => match atI c.items i with
        | some z => .ok z S
        | none => .stuck
      | none => .stuck
    | .kl xs => match atI xs i with
      | some z => .ok z S
      | none => .stuck
    | .str z => match atI z.cps.toList i with
      | some c => if z.length ≤ 16777216 then .ok (.str ⟨#[c]⟩) S else .stuck
      | none => .stuck
    | _ => .stuck
  | _ => .stuck
theorem RVs.atI {K : PySem.W.Frag} {ι : List Addr} {H : Hp} {xs : List Val} {vs : List V} {i : Int} {z : Val} (r : RVs K ι H xs vs) (h : atI xs i = some z) : ∃ v, L2.atI vs i = some v ∧ RV K ι H z v := by
  unfold L2.atI at h ⊢
  rw [← r.length]
  cases e : ixN xs.length i with
  | none => rw [e] at h; cases h
  | some j =>
    rw [e] at h
    exact r.get h
theorem ok_ix {K : PySem.W.Frag} : OK2 K (rIx K) oIx := by
  intro cv ι H S x y u v W Q hh rx ry q
  cases ry with
  | int i =>
    cases rx with
    | tup ha ra =>
      rename_i a xs vs
      have q : Fin ⟨K, cv⟩ W ι H Q (match atI xs i with | some z => .ok z S | none => .stuck) := q
      split at q
      · rename_i z e
        obtain ⟨v, e', r⟩ := ra.atI e
        exact .inr (.inl ⟨a, vs, i, v, rfl, rfl, ha, e', q ι H _ .refl hh r⟩)
      · exact q.elim
    | kl ha ra =>
      rename_i a xs vs
      have q : Fin ⟨K, cv⟩ W ι H Q (match atI xs i with | some z => .ok z S | none => .stuck) := q
      split at q
      · rename_i z e
        obtain ⟨v, e', r⟩ := ra.atI e
        exact .inl ⟨a, vs, i, v, rfl, rfl, ha.sq, e', q ι H _ .refl hh r⟩
      · exact q.elim
    | ref hn =>
      rename_i n a
      have q : Fin ⟨K, cv⟩ W ι H Q (match S[n]? with | some c => (match atI c.items i with | some z => .ok z S | none => .stuck) | none => .stuck) := q
      split at q
      · rename_i c ec
        obtain ⟨vs, rr, hq⟩ := (hh.ok _ _ _ hn ec).sq
        split at q
        · rename_i z e
          obtain ⟨v, e', r⟩ := rr.atI e
          exact .inl ⟨a, vs, i, v, rfl, rfl, hq, e', q ι H _ .refl hh r⟩
        · exact q.elim
      · exact q.elim
    | str z =>
      have q : Fin ⟨K, cv⟩ W ι H Q (match atI z.cps.toList i with | some c => (if z.length ≤ 16777216 then .ok (.str ⟨#[c]⟩) S else .stuck) | none => .stuck) := q
      split at q
      · rename_i c ec
        split at q
        · rename_i hl
          exact .inr (.inr ⟨z, i, c, rfl, rfl, by rw [sizeLine_eq]; exact hl, ec, q ι H _ .refl hh (.str _)⟩)
        · exact q.elim
      · exact q.elim
    | _ => exact q.elim
  | _ => exact q.elim
/-- a part of a slice -/
abbrev DO := PD.Env → Store → Res (Option Int)
def oNone : DO := fun _ S => .ok none S
def oSome (f : D) : DO := fun ρ S => (f ρ S).bind fun x S1 => match x with
  | .int i => .ok (some i) S1
  | _ => .stuck
def cutL {α : Type} (xs : List α) (lo hi : Option Int) : List α := (xs.drop (HT.sIx xs.length 0 lo)).take (HT.sIx xs.length xs.length hi - HT.sIx xs.length 0 lo)
def vSl (x : Val) (lo hi : Option Int) (S : Store) : Res Val := match x with
  | .tup xs => .ok (.tup (cutL xs lo hi)) S
  | .ref n => match S[n]? with
    | some c => alloc (cutL c.items lo hi) S
    | none => .stuck
  | .kl xs => alloc (cutL xs lo hi) S
  | .str z => if z.length ≤ 16777216 then .ok (.str (cutS z lo hi)) S else .stuck
  | _ => .stuck
def dSl (f : D) (l h : DO) : D := fun ρ S => (f ρ S).bind fun x S1 => (l ρ S1).bind fun lo S2 => (h ρ S2).bind fun hi S3 => vSl x lo hi S3
abbrev TDO (Γ : Cfg) (W : WX) (f : DO) : TO := TG' Γ (fun _ _ => Eq) W f
abbrev rSlAll (K : PySem.W.Frag) : V → Option Int → Option Int → Hp → VK → Prop := fun x lo hi H Q => rSlA K x lo hi H Q ∨ (rSlL K x lo hi H Q ∨ ∃ z, x = .str z ∧ z.length ≤ sizeLine ∧ Q (.str (cutS z lo hi)) H)
theorem sl_all {X : Cx} : SlR X (rSlAll X.K) := sl_tupA.or (sl_list.or sl_str)
section
variable {X : Cx} {cv : Nat → Value} {W : WX} {e a b c o : Expr} {es : List Expr} {pos p p2 : Pos} {lo hi : Option Expr}
theorem pd_ix {f g : D} (ha : PE X a (TD (Gm X cv) W f)) (hb : PE X b (TD (Gm X cv) W g)) (hs : PlainIx b) : PE X (.Subscript a b pos) (TD (Gm X cv) W (dOp oIx f g)) :=
  (pe_ix ix_seq ha hb hs).imp fun _ _ _ h => pd_two ok_ix h
theorem pdo_none : PO X none (TDO (Gm X cv) W oNone) := ⟨fun pins s σ H Q I h => po_none.run pins s σ H Q I (by
  obtain ⟨ι, ρ, S, hs, hh, q⟩ := h
  exact q.here hh rfl)⟩
theorem pdo_some {f : D} (h : PE X e (TD (Gm X cv) W f)) : PO X (some e) (TDO (Gm X cv) W (oSome f)) := ⟨fun pins s σ H Q I hw => (po_some h).run pins s σ H Q I (by
  obtain ⟨ι, ρ, S, hs, hh, q⟩ := hw
  refine ⟨ι, ρ, S, hs, hh, FinG.bind q fun x S1 ι1 H1 u e1 h1 r1 q1 => ?_⟩
  cases r1 with
  | int i => exact ⟨i, rfl, q1.here h1 rfl⟩
  | _ => exact q1.elim)⟩
theorem RVs.cut {K : PySem.W.Frag} {ι : List Addr} {H : Hp} {xs : List Val} {vs : List V} (lo hi : Option Int) (r : RVs K ι H xs vs) : RVs K ι H (cutL xs lo hi) (cutV vs lo hi) := by
  unfold cutL cutV
  rw [r.length]
  exact RVs.take _ (RVs.drop _ r)
theorem cutV_whole {vs : List V} {lo hi : Option Int} (h : HT.sIx vs.length 0 lo = 0 ∧ HT.sIx vs.length vs.length hi = vs.length) : cutV vs lo hi = vs := by
  unfold cutV
  rw [h.1, h.2]; simp
theorem ok_sl {K : PySem.W.Frag} {ι : List Addr} {H : Hp} {S : Store} {x : Val} {u : V} {lo hi : Option Int} {W : Value → Option Addr → Hp → Prop} {Q : VK} (hh : RH K ι H S) (rx : RV K ι H x u) (q : Fin ⟨K, cv⟩ W ι H Q (vSl x lo hi S)) : rSlAll K u lo hi H Q := by
  cases rx with
  | tup ha ra =>
    rename_i a xs vs
    refine .inl ⟨a, vs, rfl, ha, fun e => ?_, fun e p hp => ?_⟩
    · have rc := ra.cut lo hi
      rw [cutV_whole e] at rc
      exact q ι H _ .refl hh (.tup ha rc)
    · exact q _ _ _ (Ext.fresh hp) (hh.fresh hp) (.tup (SqT.of upd_same) ((ra.cut lo hi).ext (Ext.fresh hp)))
  | kl ha ra =>
    rename_i a xs vs
    refine .inr (.inl ⟨a, vs, rfl, ha.sq, fun p hp => ?_⟩)
    refine q _ _ _ (Ext.alloc hp) (hh.alloc hp (ra.cut lo hi)) (.ref ?_)
    rw [← hh.len]; simp
  | ref hn =>
    rename_i n a
    have q : Fin ⟨K, cv⟩ W ι H Q (match S[n]? with | some c => alloc (cutL c.items lo hi) S | none => .stuck) := q
    split at q
    · rename_i c ec
      obtain ⟨vs, rr, hq⟩ := (hh.ok _ _ _ hn ec).sq
      refine .inr (.inl ⟨a, vs, rfl, hq, fun p hp => ?_⟩)
      refine q _ _ _ (Ext.alloc hp) (hh.alloc hp (rr.cut lo hi)) (.ref ?_)
      rw [← hh.len]; simp
    · exact q.elim
  | str z =>
    have q : Fin ⟨K, cv⟩ W ι H Q (if z.length ≤ 16777216 then .ok (.str (cutS z lo hi)) S else .stuck) := q
    split at q
    · rename_i hl
      exact .inr (.inr ⟨z, rfl, by rw [sizeLine_eq]; exact hl, q ι H _ .refl hh (.str _)⟩)
    · exact q.elim
  | _ => exact q.elim
theorem pd_sl {f : D} {l h : DO} (he : PE X e (TD (Gm X cv) W f)) (hl : PO X lo (TDO (Gm X cv) W l)) (hu : PO X hi (TDO (Gm X cv) W h)) : PE X (.Subscript e (.Slice lo hi none p2) pos) (TD (Gm X cv) W (dSl f l h)) :=
  (pe_slice sl_all he hl hu).imp fun σ H Q hw => by
    obtain ⟨ι, ρ, S, hs, hh, q⟩ := hw
    refine ⟨ι, ρ, S, hs, hh, FinG.bind q fun x S1 ι1 H1 u e1 h1 r1 q1 => ?_⟩
    refine ⟨ι1, ρ, S1, hs.ext e1, h1, FinG.bind (R := fun _ _ => Eq) q1 fun lo S2 ι2 H2 lo' e2 h2 r2 q2 => ?_⟩
    cases r2
    refine ⟨ι2, ρ, S2, (hs.ext e1).ext e2, h2, FinG.bind (R := fun _ _ => Eq) q2 fun hi S3 ι3 H3 hi' e3 h3 r3 q3 => ?_⟩
    cases r3
    exact ok_sl h3 ((r1.ext e2).ext e3) q3
end
end PD

/-! ## PDBi -/
set_option Elab.async false
set_option linter.all false
set_option maxRecDepth 100000
set_option maxHeartbeats 2000000
namespace PD
open PySem PySem.Spec L2

/-! ### built-ins -/
def tyN (x : Val) (S : Store) : Option String := match x with
  | .non => some "NoneType"
  | .bl _ => some "bool"
  | .int _ => some "int"
  | .str _ => some "str"
  | .tup _ => some "tuple"
  | .ref n => match S[n]? with
    | some _ => some "list"
    | none => none
  | .ty _ => none
  | .kl _ => some "list"
def isT (T U : String) : Bool := decide (T = U) || (decide (T = "bool") && decide (U = "int"))
def knownT : List String := ["NoneType", "bool", "int", "str", "tuple", "list"]
def askedT : List String := ["bool", "int", "str", "tuple", "list"]
theorem kit_known : ∀ T ∈ knownT, ∀ U ∈ askedT, kitB T U = some (isT T U) := by decide +kernel
def bIsi : Fn := fun xs S => match xs with
  | [x, .ty U] => match tyN x S with
    | some T => if U ∈ askedT then okB (isT T U) S else .stuck
    | none => .stuck
  | _ => .stuck
def bType : Fn := fun xs S => match xs with
  | [x] => match tyN x S with
    | some T => .ok (.ty T) S
    | none => .stuck
  | _ => .stuck
def bLen : Fn := fun xs S => match xs with
  | [.tup ys] => okI ys.length S
  | [.ref n] => match S[n]? with
    | some c => okI c.items.length S
    | none => .stuck
  | [.str z] => if z.length ≤ 16777216 then okI z.length S else .stuck
  | [.kl ys] => okI ys.length S
  | _ => .stuck
def bInt : Fn := fun xs S => match xs with
  | [.int i] => okI i S
  | [.bl b] => okI (if b then 1 else 0) S
  | _ => .stuck
def bTuple : Fn := fun xs S => match xs with
  | [.ref n] => match S[n]? with
    | some c => .ok (.tup c.items) S
    | none => .stuck
  | [.tup ys] => .ok (.tup ys) S
  | _ => .stuck
def asB : Val → Option Bool
  | .bl b => some b
  | _ => none
def asI : Val → Option Int
  | .int i => some i
  | _ => none
def bAll : Fn := fun xs S => match xs with
  | [.ref n] => match S[n]? with
    | some c => match allSome (c.items.map asB) with
      | some bs => okB (bs.all id) S
      | none => .stuck
    | none => .stuck
  | _ => .stuck
def bSum : Fn := fun xs S => match xs with
  | [.ref n] => match S[n]? with
    | some c => match allSome (c.items.map asI) with
      | some ns => okI ns.sum S
      | none => .stuck
    | none => .stuck
  | _ => .stuck
def bMax2 : Fn := fun xs S => match xs with
  | [.int i, .int j] => okI (if j > i then j else i) S
  | _ => .stuck
def bMin2 : Fn := fun xs S => match xs with
  | [.int i, .int j] => okI (if j < i then j else i) S
  | _ => .stuck
section
variable {K : PySem.W.Frag}
theorem tyN_known {x : Val} {S : Store} {T : String} (h : tyN x S = some T) : T ∈ knownT := by
  cases x with
  | ref n =>
    have h : (match S[n]? with | some _ => some "list" | none => none) = some T := h
    split at h
    · cases h; decide
    · cases h
  | ty n => cases h
  | _ => cases h; decide
theorem tyX_of {ι : List Addr} {H : Hp} {S : Store} {x : Val} {u : V} {T : String} (hh : RH K ι H S) (r : RV K ι H x u) (h : tyN x S = some T) : TyX K H u (.type T) := by
  cases r with
  | non => cases h; exact .base .non
  | bl b => cases h; exact .base (.bl b)
  | int i => cases h; exact .base (.int i)
  | str z => cases h; exact .base (.str z)
  | ty n => cases h
  | tup ha ra =>
    cases h
    rcases ha with (ha | ⟨o, ha⟩) | ⟨o, its, n, hk, hc, _⟩
    · exact .base (.tup ha)
    · exact .fTuple ha
    · exact .kTuple hk hc
  | kl ha ra =>
    cases h
    rcases ha with ⟨o, ha⟩ | ⟨o, its, n, hk, hc, _⟩
    · exact .base (.frz ha)
    · exact .kList hk hc
  | ref hn =>
    rename_i n a
    have h : (match S[n]? with | some _ => some "list" | none => none) = some T := h
    split at h
    · rename_i c ec
      cases h
      have q := hh.ok _ _ _ hn ec
      cases c with
      | lst xs => obtain ⟨vs, _, q⟩ := q; exact .base (.lst q)
    · cases h
theorem tyB_of {ι : List Addr} {H : Hp} {S : Store} {x : Val} {u : V} {T : String} (hh : RH K ι H S) (r : RV K ι H x u) (h : tyN x S = some T) : TyB K H u T := by
  cases r with
  | non => cases h; exact .non
  | bl b => cases h; exact .bl b
  | int i => cases h; exact .int i
  | str z => cases h; exact .str z
  | ty n => cases h
  | tup ha ra => cases h; exact .tup ha
  | kl ha ra => cases h; exact .lst ha.sq
  | ref hn =>
    rename_i n a
    have h : (match S[n]? with | some _ => some "list" | none => none) = some T := h
    split at h
    · rename_i c ec
      cases h
      obtain ⟨vs, _, q⟩ := (hh.ok _ _ _ hn ec).sq
      exact .lst q
    · cases h
theorem ok_isi : OKA K (rIsi K) bIsi := by
  intro cv ι H S xs us W Q hh rx q
  unfold bIsi at q
  split at q
  · rename_i x U
    split at q
    · rename_i T eT
      split at q
      · rename_i hU
        cases rx with
        | cons r1 rr =>
          cases rr with
          | cons r2 rr =>
            cases rr
            cases r2
            exact ⟨_, _, _, _, isT T U, rfl, .ty U, tyX_of hh r1 eT, kit_ty (kit_known T (tyN_known eT) U hU), q ι H _ .refl hh (.bl _)⟩
      · exact q.elim
    · exact q.elim
  · exact q.elim
theorem ok_type : OKA K (rTyp K) bType := by
  intro cv ι H S xs us W Q hh rx q
  unfold bType at q
  split at q
  · rename_i x
    split at q
    · rename_i T eT
      cases rx with
      | cons r1 rr =>
        cases rr
        exact ⟨_, T, rfl, tyB_of hh r1 eT, q ι H _ .refl hh (.ty _)⟩
    · exact q.elim
  · exact q.elim
theorem ok_len : OKA K (fun xs H Q => ∃ x n, xs = [x] ∧ LenV K x H n ∧ Q (.int n) H) bLen := by
  intro cv ι H S xs us W Q hh rx q
  unfold bLen at q
  split at q
  · rename_i ys
    cases rx with
    | cons r1 rr =>
      cases rr
      cases r1 with
      | tup ha ra => exact ⟨_, _, rfl, .inr ⟨_, ha, rfl⟩, q ι H _ .refl hh (by rw [← ra.length]; exact .int _)⟩
  · rename_i n
    split at q
    · rename_i c ec
      cases rx with
      | cons r1 rr =>
        cases rr
        cases r1 with
        | ref hn =>
          obtain ⟨vs, rr, hq⟩ := (hh.ok _ _ _ hn ec).sq
          exact ⟨_, _, rfl, .inl ⟨_, hq, rfl⟩, q ι H _ .refl hh (by rw [← rr.length]; exact .int _)⟩
    · exact q.elim
  · rename_i z
    split at q
    · rename_i hl
      cases rx with
      | cons r1 rr =>
        cases rr
        cases r1
        exact ⟨_, _, rfl, ⟨by rw [sizeLine_eq]; exact hl, rfl⟩, q ι H _ .refl hh (.int _)⟩
    · exact q.elim
  · rename_i ys
    cases rx with
    | cons r1 rr =>
      cases rr
      cases r1 with
      | kl ha ra => exact ⟨_, _, rfl, .inl ⟨_, ha.sq, rfl⟩, q ι H _ .refl hh (by rw [← ra.length]; exact .int _)⟩
  · exact q.elim
theorem ok_int : OKA K (fun xs H Q => (∃ i, xs = [.int i] ∧ Q (.int i) H) ∨ ∃ k, xs = [.bl k] ∧ Q (.int (if k then 1 else 0)) H) bInt := by
  intro cv ι H S xs us W Q hh rx q
  unfold bInt at q
  split at q
  · cases rx with
    | cons r1 rr =>
      cases rr
      cases r1
      exact .inl ⟨_, rfl, q ι H _ .refl hh (.int _)⟩
  · cases rx with
    | cons r1 rr =>
      cases rr
      cases r1
      exact .inr ⟨_, rfl, q ι H _ .refl hh (.int _)⟩
  · exact q.elim
theorem ok_tuple : OKA K (fun xs H Q => ∃ p ys, xs = [.ref p] ∧ ((SqL K H p ys ∧ ∀ l, H l = none → Q (.ref l) (upd H l (.tup ys))) ∨ (SqT K H p ys ∧ Q (.ref p) H))) bTuple := by
  intro cv ι H S xs us W Q hh rx q
  unfold bTuple at q
  split at q
  · split at q
    · rename_i c ec
      cases rx with
      | cons r1 rr =>
        cases rr
        cases r1 with
        | ref hn =>
          obtain ⟨vs, rr, hq⟩ := (hh.ok _ _ _ hn ec).sq
          exact ⟨_, vs, rfl, .inl ⟨hq, fun l hl => q _ _ _ (Ext.fresh hl) (hh.fresh hl) (.tup (SqT.of upd_same) (rr.ext (Ext.fresh hl)))⟩⟩
    · exact q.elim
  · cases rx with
    | cons r1 rr =>
      cases rr
      cases r1 with
      | tup ha ra => exact ⟨_, _, rfl, .inr ⟨ha, q ι H _ .refl hh (.tup ha ra)⟩⟩
  · exact q.elim
theorem rvs_bools {ι : List Addr} {H : Hp} : ∀ {xs : List Val} {vs : List V} {bs : List Bool}, RVs K ι H xs vs → allSome (xs.map asB) = some bs → vs = bs.map V.bl
  | _, _, _, .nil, h => by cases h; rfl
  | x :: xs, _, _, .cons r rr, h => by
    rw [List.map_cons] at h
    unfold allSome at h
    split at h
    · rename_i a as e1 e2
      cases h
      have := rvs_bools rr e2
      cases r <;> first | (cases e1; rw [this]; rfl) | cases e1
    · cases h
theorem rvs_ints {ι : List Addr} {H : Hp} : ∀ {xs : List Val} {vs : List V} {bs : List Int}, RVs K ι H xs vs → allSome (xs.map asI) = some bs → vs = bs.map V.int
  | _, _, _, .nil, h => by cases h; rfl
  | x :: xs, _, _, .cons r rr, h => by
    rw [List.map_cons] at h
    unfold allSome at h
    split at h
    · rename_i a as e1 e2
      cases h
      have := rvs_ints rr e2
      cases r <;> first | (cases e1; rw [this]; rfl) | cases e1
    · cases h
theorem ok_all : OKA K (rAll K) bAll := by
  intro cv ι H S xs us W Q hh rx q
  unfold bAll at q
  split at q
  · split at q
    · rename_i c ec
      split at q
      · rename_i bs eb
        cases rx with
        | cons r1 rr =>
          cases rr
          cases r1 with
          | ref hn =>
            obtain ⟨vs, rr, hq⟩ := (hh.ok _ _ _ hn ec).sq
            have e := rvs_bools rr eb
            subst e
            exact ⟨_, bs, rfl, hq, q ι H _ .refl hh (.bl _)⟩
      · exact q.elim
    · exact q.elim
  · exact q.elim
theorem ok_sum : OKA K (rSum K) bSum := by
  intro cv ι H S xs us W Q hh rx q
  unfold bSum at q
  split at q
  · split at q
    · rename_i c ec
      split at q
      · rename_i bs eb
        cases rx with
        | cons r1 rr =>
          cases rr
          cases r1 with
          | ref hn =>
            obtain ⟨vs, rr, hq⟩ := (hh.ok _ _ _ hn ec).sq
            have e := rvs_ints rr eb
            subst e
            exact ⟨_, bs, rfl, hq, q ι H _ .refl hh (.int _)⟩
      · exact q.elim
    · exact q.elim
  · exact q.elim
theorem ok_max2 : OKA K (fun xs H Q => ∃ i j, xs = [.int i, .int j] ∧ Q (.int (if j > i then j else i)) H) bMax2 := by
  intro cv ι H S xs us W Q hh rx q
  unfold bMax2 at q
  split at q
  · cases rx with
    | cons r1 rr =>
      cases rr with
      | cons r2 rr =>
        cases rr
        cases r1
        cases r2
        exact ⟨_, _, rfl, q ι H _ .refl hh (.int _)⟩
  · exact q.elim
theorem ok_min2 : OKA K (fun xs H Q => ∃ i j, xs = [.int i, .int j] ∧ Q (.int (if j < i then j else i)) H) bMin2 := by
  intro cv ι H S xs us W Q hh rx q
  unfold bMin2 at q
  split at q
  · cases rx with
    | cons r1 rr =>
      cases rr with
      | cons r2 rr =>
        cases rr
        cases r1
        cases r2
        exact ⟨_, _, rfl, q ι H _ .refl hh (.int _)⟩
  · exact q.elim
end
/-! ### in, not in -/
def oInB (x y : Val) (S : Store) : Option Bool := match toD 66 S x, toD 66 S y with
  | some d, some (.list ds) => if SeqAt.shaped d = true ∧ SeqAt.shaped (.list ds) = true then some (ds.any fun z => PyData.eqv z d) else none
  | some d, some (.tuple ds) => if SeqAt.shaped d = true ∧ SeqAt.shaped (.tuple ds) = true then some (ds.any fun z => PyData.eqv z d) else none
  | _, _ => none
def oIn : Op2 := fun x y S => match oInB x y S with
  | some b => okB b S
  | none => .stuck
def oNotIn : Op2 := fun x y S => match oInB x y S with
  | some b => okB (!b) S
  | none => .stuck
def rInDT (K : PySem.W.Frag) (neg : Bool) : L2.R2 := fun x y H Q => ∃ d ds, Dp K H x d ∧ Dp K H y (.tuple ds) ∧ SeqAt.shaped d = true ∧ SeqAt.shaped (.tuple ds) = true ∧ Q (.bl (neg != (ds.any fun z => PyData.eqv z d))) H
section
variable {X : Cx}
theorem room_tup {A : Around} {xs : List PyData} {d : PyData} (hd : SeqAt.shaped d = true) (hu : A.units + 65 < cLine) : A.units + 1 + min (PyData.depthAll xs) d.depth < cLine := by
  have h1 : d.depth ≤ 64 := by
    have := hd
    unfold SeqAt.shaped at this
    rw [Bool.and_eq_true] at this
    exact of_decide_eq_true this.2
  omega
theorem op_inDT (hu : X.A.units + 65 < cLine) : OpR X (compareOp .In) (rInDT X.K false) := by
  intro pins s σ H x y v u Q I rx ry h
  obtain ⟨d, ds, hd, he, sd, se, q⟩ := h
  obtain ⟨as, r1⟩ := Dp.reads I d x v hd rx
  obtain ⟨bs, r2⟩ := Dp.reads I (.tuple ds) y u he ry
  exact SeqAt.in_tuple_reads r2 r1 (SeqAt.canLay_of_shaped se) (SeqAt.canLay_of_shaped sd) (room_tup sd hu) ⟨.bl _, H, I, rfl, by simpa using q⟩
theorem op_notInDT (hu : X.A.units + 65 < cLine) : OpR X (compareOp .NotIn) (rInDT X.K true) := by
  intro pins s σ H x y v u Q I rx ry h
  obtain ⟨d, ds, hd, he, sd, se, q⟩ := h
  obtain ⟨as, r1⟩ := Dp.reads I d x v hd rx
  obtain ⟨bs, r2⟩ := Dp.reads I (.tuple ds) y u he ry
  exact SeqAt.notIn_tuple_reads r2 r1 (SeqAt.canLay_of_shaped se) (SeqAt.canLay_of_shaped sd) (room_tup sd hu) ⟨.bl _, H, I, rfl, by simpa using q⟩
theorem op_inA (hu : X.A.units + 65 < cLine) : OpR X (compareOp .In) (rOr (rInD X.K) (rInDT X.K false)) := (op_inD hu).or (op_inDT hu)
theorem op_notInA (hu : X.A.units + 65 < cLine) : OpR X (compareOp .NotIn) (rOr (rNotInD X.K) (rInDT X.K true)) := (op_notInD hu).or (op_notInDT hu)
end
section
variable {K : PySem.W.Frag}
theorem inB_ok {ι : List Addr} {H : Hp} {S : Store} {x y : Val} {u v : V} {b : Bool} (hh : RH K ι H S) (rx : RV K ι H x u) (ry : RV K ι H y v) (h : oInB x y S = some b) :
    ∃ d ds, Dp K H u d ∧ SeqAt.shaped d = true ∧ (ds.any fun z => PyData.eqv z d) = b ∧ ((Dp K H v (.list ds) ∧ SeqAt.shaped (.list ds) = true) ∨ (Dp K H v (.tuple ds) ∧ SeqAt.shaped (.tuple ds) = true)) := by
  unfold oInB at h
  split at h
  · rename_i d ds e1 e2
    split at h
    · rename_i hs
      cases h
      exact ⟨d, ds, toD_dp hh _ _ _ _ rx e1, hs.1, rfl, .inl ⟨toD_dp hh _ _ _ _ ry e2, hs.2⟩⟩
    · cases h
  · rename_i d ds e1 e2
    split at h
    · rename_i hs
      cases h
      exact ⟨d, ds, toD_dp hh _ _ _ _ rx e1, hs.1, rfl, .inr ⟨toD_dp hh _ _ _ _ ry e2, hs.2⟩⟩
    · cases h
  · cases h
theorem ok_in : OK2 K (rOr (rInD K) (rInDT K false)) oIn := by
  intro cv ι H S x y u v W Q hh rx ry q
  unfold oIn at q
  split at q
  · rename_i b hb
    obtain ⟨d, ds, h1, h2, h3, h4 | h4⟩ := inB_ok hh rx ry hb
    · exact .inl ⟨d, ds, h1, h4.1, h2, h4.2, by rw [h3]; exact q ι H _ .refl hh (.bl _)⟩
    · exact .inr ⟨d, ds, h1, h4.1, h2, h4.2, by rw [h3]; simpa using q ι H _ .refl hh (.bl _)⟩
  · exact q.elim
theorem ok_notIn : OK2 K (rOr (rNotInD K) (rInDT K true)) oNotIn := by
  intro cv ι H S x y u v W Q hh rx ry q
  unfold oNotIn at q
  split at q
  · rename_i b hb
    obtain ⟨d, ds, h1, h2, h3, h4 | h4⟩ := inB_ok hh rx ry hb
    · exact .inl ⟨d, ds, h1, h4.1, h2, h4.2, by rw [h3]; exact q ι H _ .refl hh (.bl _)⟩
    · exact .inr ⟨d, ds, h1, h4.1, h2, h4.2, by rw [h3]; simpa using q ι H _ .refl hh (.bl _)⟩
  · exact q.elim
end
end PD

/-! ## PDComp -/
set_option Elab.async false
set_option linter.all false
set_option maxRecDepth 100000
set_option maxHeartbeats 2000000
namespace PD
open PySem PySem.Spec L2

/-! ### comprehensions -/
def noX {α : Type} (r : Res α) : Res α := match r with
  | .exc _ _ => .stuck
  | r => r
abbrev Src := Nat → Store → Option (Option Val)
def srcL (xs : List Val) : Src := fun i _ => some xs[i]?
def srcC (n : Nat) : Src := fun i S => match S[n]? with
  | some c => some c.items[i]?
  | none => none
def wipeE (ρ : PD.Env) : List Nat → PD.Env
  | [] => ρ
  | v :: vs => (wipeE ρ vs).set v none
def compG (src : Src) (t : TgD) (c : DT) (f : D) : Nat → Nat → List Val → PD.Env → Store → Res (List Val)
  | 0, i, acc, ρ, S => match src i S with
    | some none => .ok acc S
    | _ => .stuck
  | m + 1, i, acc, ρ, S => match src i S with
    | none => .stuck
    | some none => .ok acc S
    | some (some x) => match t x ρ with
      | none => .stuck
      | some ρ1 => (noX (c ρ1 S)).bind fun b S1 => if b = true then (noX (f ρ1 S1)).bind fun y S2 => if acc.length < 16777216 then compG src t c f m (i + 1) (acc ++ [y]) ρ S2 else .stuck
          else compG src t c f m (i + 1) acc ρ S1
def tYes' : DT := fun _ S => .ok true S
def dLCC (f : D) (t : TgD) (c : DT) (e : D) (vs : List Nat) : D := fun ρ S => (f ρ S).bind fun x S1 => match x with
  | .ref n => match S1[n]? with
    | some cc => (compG (srcC n) t c e cc.items.length 0 [] (wipeE ρ vs) S1).bind alloc
    | none => .stuck
  | _ => .stuck
def dLCT (f : D) (t : TgD) (c : DT) (e : D) (vs : List Nat) : D := fun ρ S => (f ρ S).bind fun x S1 => match x with
  | .tup xs => (compG (srcL xs) t c e xs.length 0 [] (wipeE ρ vs) S1).bind alloc
  | _ => .stuck
def dLCR (g : DA) (t : TgD) (c : DT) (e : D) (vs : List Nat) : D := fun ρ S => (g ρ S).bind fun xs S1 => match xs with
  | [.int j] => if -(2 ^ 62) ≤ j ∧ j < 2 ^ 62 then (compG (srcL (rangeV 0 j.toNat)) t c e j.toNat 0 [] (wipeE ρ vs) S1).bind alloc else .stuck
  | _ => .stuck
section
variable {K : PySem.W.Frag} {ι ι' : List Addr} {H H' : Hp} {S : Store} {ρ : PD.Env} {σ : L2.St}
theorem wipe_rs (h : RS K ι H ρ σ) : ∀ vs : List Nat, RS K ι H (wipeE ρ vs) (wipe σ vs)
  | [] => h
  | v :: vs => by
    have q := wipe_rs h vs
    refine ⟨by show ((wipeE ρ vs).set v none).length = ((wipe σ vs).set v none).length; simp [q.1], fun i x e => ?_⟩
    have e : ((wipeE ρ vs).set v none)[i]? = some (some x) := e
    by_cases hi : v = i
    · subst hi
      by_cases hl : v < (wipeE ρ vs).length
      · rw [List.getElem?_set_self hl] at e; cases e
      · rw [List.getElem?_eq_none (by simp; omega)] at e; cases e
    · rw [List.getElem?_set_ne hi] at e
      obtain ⟨u, a, b⟩ := q.2 i x e
      refine ⟨u, ?_, b⟩
      show ((wipe σ vs).set v none)[i]? = _
      rw [List.getElem?_set_ne hi]; exact a
/-- a list that is no cell yet is written -/
theorem Ext.side {D : Addr} {vs ws : List V} {ι1 : List Addr} {H1 : Hp} (e : Ext ι1 H1 ι H) (h1 : H1 D = none) (hd : H D = some (.lst vs)) : Ext ι1 H1 ι (upd H D (.lst ws)) := by
  refine ⟨e.pre, fun a o q n => ?_, e.new, fun a us q => ?_, fun a o u q => ?_⟩
  · rw [upd_ne (ne_of_none q h1)]; exact e.fr a o q n
  · rcases e.tp a us q with q | ⟨u, q⟩
    · exact .inl (by rw [upd_ne (ne_of q hd (by intro z; cases z))]; exact q)
    · exact .inr ⟨u, by rw [upd_ne (ne_of q hd (by intro z; cases z))]; exact q⟩
  · have q := e.fz a o u q
    rw [upd_ne (ne_of q hd (by intro z; cases z))]; exact q
mutual
theorem RV.carry (hg : ∀ (n : Nat) (a : Addr), ι[n]? = some a → ι'[n]? = some a) (ht : ∀ a vs, SqT K H a vs → SqT K H' a vs) (hl : ∀ a vs, RoL K H a vs → RoL K H' a vs) : ∀ {x : Val} {v : V}, RV K ι H x v → RV K ι' H' x v
  | _, _, .non => .non
  | _, _, .bl b => .bl b
  | _, _, .int i => .int i
  | _, _, .str x => .str x
  | _, _, .tup h r => .tup (ht _ _ h) (RVs.carry hg ht hl r)
  | _, _, .ref h => .ref (hg _ _ h)
  | _, _, .ty n => .ty n
  | _, _, .kl h r => .kl (hl _ _ h) (RVs.carry hg ht hl r)
theorem RVs.carry (hg : ∀ (n : Nat) (a : Addr), ι[n]? = some a → ι'[n]? = some a) (ht : ∀ a vs, SqT K H a vs → SqT K H' a vs) (hl : ∀ a vs, RoL K H a vs → RoL K H' a vs) : ∀ {xs : List Val} {vs : List V}, RVs K ι H xs vs → RVs K ι' H' xs vs
  | _, _, .nil => .nil
  | _, _, .cons h r => .cons (RV.carry hg ht hl h) (RVs.carry hg ht hl r)
end
theorem sqT_side {D : Addr} {vs ws : List V} (hd : H D = some (.lst vs)) (a : Addr) (us : List V) (h : SqT K H a us) : SqT K (upd H D (.lst ws)) a us := by
  rcases h with (h | ⟨o, h⟩) | h
  · exact .inl (.inl (by rw [upd_ne (ne_of h hd (by intro z; cases z))]; exact h))
  · exact .inl (.inr ⟨o, by rw [upd_ne (ne_of h hd (by intro z; cases z))]; exact h⟩)
  · exact .inr h
theorem roL_side {D : Addr} {vs ws : List V} (hd : H D = some (.lst vs)) (a : Addr) (us : List V) (h : RoL K H a us) : RoL K (upd H D (.lst ws)) a us := by
  rcases h with ⟨o, h⟩ | h
  · exact .inl ⟨o, by rw [upd_ne (ne_of h hd (by intro z; cases z))]; exact h⟩
  · exact .inr h
theorem RV.side {D : Addr} {vs ws : List V} (hd : H D = some (.lst vs)) {x : Val} {v : V} (r : RV K ι H x v) : RV K ι (upd H D (.lst ws)) x v := r.carry (fun _ _ h => h) (sqT_side hd) (roL_side hd)
theorem RVs.side {D : Addr} {vs ws : List V} (hd : H D = some (.lst vs)) {x : List Val} {v : List V} (r : RVs K ι H x v) : RVs K ι (upd H D (.lst ws)) x v := r.carry (fun _ _ h => h) (sqT_side hd) (roL_side hd)
theorem RS.side {D : Addr} {vs ws : List V} (hd : H D = some (.lst vs)) (h : RS K ι H ρ σ) : RS K ι (upd H D (.lst ws)) ρ σ := ⟨h.1, fun i x e => by
  obtain ⟨u, a, b⟩ := h.2 i x e
  exact ⟨u, a, b.side hd⟩⟩
theorem RH.side {D : Addr} {vs ws : List V} (hh : RH K ι H S) (hn : D ∉ ι) (hd : H D = some (.lst vs)) : RH K ι (upd H D (.lst ws)) S := by
  refine ⟨hh.len, fun n a c e1 e2 => ?_, hh.nd⟩
  have na : a ≠ D := fun z => hn (z ▸ List.mem_of_getElem? e1)
  have q := hh.ok n a c e1 e2
  cases c with
  | lst xs =>
    obtain ⟨us, r, q⟩ := q
    exact ⟨us, r.side hd, by rw [upd_ne na]; exact q⟩
theorem RH.adopt {D : Addr} {xs : List Val} {vs : List V} (hh : RH K ι H S) (hn : D ∉ ι) (hd : H D = some (.lst vs)) (r : RVs K ι H xs vs) : RH K (ι ++ [D]) H (S ++ [.lst xs]) := by
  have hg : ∀ (n : Nat) (a : Addr), ι[n]? = some a → (ι ++ [D])[n]? = some a := fun n a h => by
    rw [List.getElem?_append_left (List.getElem?_eq_some_iff.mp h).1]; exact h
  have cas : ∀ (n : Nat) (a : Addr) (c : Cell), (ι ++ [D])[n]? = some a → (S ++ [.lst xs])[n]? = some c → (ι[n]? = some a ∧ S[n]? = some c) ∨ (n = ι.length ∧ D = a ∧ c = .lst xs) := fun n a c e1 e2 => by
    rcases get_append_some e1 with e1 | ⟨rfl, rfl⟩
    · rcases get_append_some e2 with e2 | ⟨rfl, rfl⟩
      · exact .inl ⟨e1, e2⟩
      · exact absurd (List.getElem?_eq_some_iff.mp e1).1 (by rw [hh.len]; exact Nat.lt_irrefl _)
    · rcases get_append_some e2 with e2 | ⟨_, rfl⟩
      · exact absurd (List.getElem?_eq_some_iff.mp e2).1 (by rw [hh.len]; exact Nat.lt_irrefl _)
      · exact .inr ⟨rfl, rfl, rfl⟩
  refine ⟨by simp [hh.len], fun n a c e1 e2 => ?_, fun n m a e1 e2 => ?_⟩
  · rcases cas n a c e1 e2 with ⟨e1, e2⟩ | ⟨_, rfl, rfl⟩
    · have q := hh.ok n a c e1 e2
      cases c with
      | lst ys => obtain ⟨us, r, q⟩ := q; exact ⟨us, r.carry hg (fun _ _ h => h) fun _ _ h => h, q⟩
    · exact ⟨vs, r.carry hg (fun _ _ h => h) fun _ _ h => h, hd⟩
  · rcases get_append_some e1 with e1 | ⟨a1, b1⟩ <;> rcases get_append_some e2 with e2 | ⟨a2, b2⟩
    · exact hh.nd n m a e1 e2
    · exact absurd (List.mem_of_getElem? e1) (by rw [← b2]; exact hn)
    · exact absurd (List.mem_of_getElem? e2) (by rw [← b1]; exact hn)
    · rw [a1, a2]
theorem Ext.adopt {D : Addr} {ι1 : List Addr} {H1 : Hp} (e : Ext ι1 H1 ι H) (h1 : H1 D = none) : Ext ι1 H1 (ι ++ [D]) H := by
  refine ⟨e.pre.trans (List.prefix_append _ _), e.fr, fun a h n => ?_, e.tp, e.fz⟩
  rcases List.mem_append.mp h with z | z
  · exact e.new a z n
  · rw [List.mem_singleton.mp z]; exact h1
/-- where an own list stands behind a step -/
theorem Ext.own {D : Addr} {vs : List V} (e : Ext ι H ι' H') (hn : D ∉ ι) (hd : H D = some (.lst vs)) : D ∉ ι' ∧ H' D = some (.lst vs) := by
  refine ⟨fun z => ?_, e.fr D _ hd hn⟩
  have := e.new D z hn
  rw [hd] at this; cases this
theorem FinG.noX {Γ : Cfg} {α β : Type} {R : List Addr → Hp → α → β → Prop} {W W' : Value → Option Addr → Hp → Prop} {Q : β → Hp → Prop} {r : Res α} (h : FinG Γ R W ι H Q (PD.noX r)) : FinG Γ R W' ι H Q r := by
  cases r with
  | exc e S => exact h.elim
  | _ => exact h
theorem noX_bind {Γ : Cfg} {α β γ δ : Type} {R : List Addr → Hp → α → β → Prop} {R2 : List Addr → Hp → γ → δ → Prop} {W W' : Value → Option Addr → Hp → Prop} {Q : δ → Hp → Prop} {Q' : β → Hp → Prop} {r : Res α} {k : α → Store → Res γ} (h : FinG Γ R2 W ι H Q ((PD.noX r).bind k))
    (hk : ∀ x S1 ι1 H1 v, Ext ι H ι1 H1 → RH Γ.K ι1 H1 S1 → R ι1 H1 x v → FinG Γ R2 W ι1 H1 Q (k x S1) → Q' v H1) : FinG Γ R W' ι H Q' r := by
  cases r with
  | ok x S => exact fun ι1 H1 v e a b => hk x S ι1 H1 v e a b (FinG.weak e h)
  | exc x S => exact h.elim
  | stuck => exact h
theorem noX_bind0 {Γ : Cfg} {α β γ δ : Type} {R : List Addr → Hp → α → β → Prop} {R2 : List Addr → Hp → γ → δ → Prop} {W W' : Value → Option Addr → Hp → Prop} {Q : δ → Hp → Prop} {Q' : β → Hp → Prop} {r : Res α} {k : α → Store → Res γ} (h : FinG Γ R2 W ι H Q ((PD.noX r).bind k))
    (hk : ∀ x S1 ι1 H1 v, Ext ι' H' ι1 H1 → RH Γ.K ι1 H1 S1 → R ι1 H1 x v → FinG Γ R2 W ι H Q (k x S1) → Q' v H1) : FinG Γ R W' ι' H' Q' r := by
  cases r with
  | ok x S => exact fun ι1 H1 v e a b => hk x S ι1 H1 v e a b h
  | exc x S => exact h.elim
  | stuck => exact h.elim
end
section
variable {X : Cx} {cv : Nat → Value} {W : WX}
abbrev W0 : WX := fun _ _ _ _ => False
/-- what the source hands out -/
structure SrcOk (X : Cx) (src : Src) (J : It) (Ok : List Addr → Hp → Prop) : Prop where
  ext : ∀ ι H ι' H', Ok ι H → Ext ι H ι' H' → Ok ι' H'
  side : ∀ ι H (D : Addr) (vs ws : List V), Ok ι H → H D = some (.lst vs) → Ok ι (upd H D (.lst ws))
  stop : ∀ i ι H S, Ok ι H → RH X.K ι H S → src i S = some none → J.stop i H
  go : ∀ i ι H S x, Ok ι H → RH X.K ι H S → src i S = some (some x) → J.go i H
  yld : ∀ i ι H S x y H', Ok ι H → RH X.K ι H S → src i S = some (some x) → J.yld i H y H' → H' = H ∧ RV X.K ι H x y
theorem bind_assoc {α β γ : Type} (r : Res α) (k : α → Store → Res β) (l : β → Store → Res γ) : (r.bind k).bind l = r.bind fun x S => (k x S).bind l := by
  cases r <;> rfl
theorem comp_core {src : Src} {J : It} {Ok : List Addr → Hp → Prop} {g : TG} {t : TgD} {tt : TT} {te : TE} {c : DT} {f : D} {vs : List Nat} (so : SrcOk X src J Ok) (ht : TgOk X.K g t) (htt : ∀ σ H Q, TDT (Gm X cv) W0 c σ H Q → tt σ H Q) (hte : ∀ σ H Q, TD (Gm X cv) W0 f σ H Q → te σ H Q)
    {ι : List Addr} {H : Hp} {ρ : PD.Env} {σ : L2.St} {S : Store} {WW : Value → Option Addr → Hp → Prop} {Q : VK} (hgw : ∀ v σ H (Q : L2.St → Hp → Prop), g v (wipe σ vs) H Q → g v (wipe σ vs) H fun σ2 H2 => wipe σ2 vs = wipe σ vs ∧ Q σ2 H2)
    (hs : RS X.K ι H ρ σ) (hh : RH X.K ι H S) (h0 : Ok ι H) {m : Nat} (q : Fin (Gm X cv) WW ι H Q ((compG src t c f m 0 [] (wipeE ρ vs) S).bind alloc)) :
    ∀ D, H D = none → ∃ W' : Nat → Nat → Hp → Prop, (∃ m, W' 0 m (upd H D (.lst []))) ∧ ∀ i m H, W' i m H →
      (J.stop i H ∧ Q (.ref D) H) ∨ (J.go i H ∧ ∃ Nx : Hp → Prop, (∀ H', Nx H' → ∃ m', m' < m ∧ W' (i + 1) m' H') ∧ ∀ x H', J.yld i H x H' → g x (wipe σ vs) H' fun σ2 H2 => wipe σ2 vs = wipe σ vs ∧ tt σ2 H2 fun b H3 =>
        if b = true then te σ2 H3 fun y H4 => ∃ acc, H4 D = some (.lst acc) ∧ acc.length < sizeLine ∧ Nx (upd H4 D (.lst (acc ++ [y]))) else Nx H3) := by
  intro D hD
  have hw0 := wipe_rs hs vs
  refine ⟨fun i m H' => ∃ ι' S' acc us, Ext ι H ι' H' ∧ RH X.K ι' H' S' ∧ Ok ι' H' ∧ D ∉ ι' ∧ H' D = some (.lst us) ∧ RVs X.K ι' H' acc us ∧ Fin (Gm X cv) WW ι H Q ((compG src t c f m i acc (wipeE ρ vs) S').bind alloc), ⟨m, ι, S, [], [], Ext.fresh hD, hh.fresh hD, so.ext _ _ _ _ h0 (Ext.fresh hD), fun z => ?_, upd_same, .nil, q⟩, fun i m' H' ⟨ι', S', acc, us, e, hh', h0', nD, hd, ra, q'⟩ => ?_⟩
  · exact hh.trk z hD
  · have rs' := hw0.ext e
    have stop : src i S' = some none → Fin (Gm X cv) WW ι H Q (alloc acc S') → J.stop i H' ∧ Q (.ref D) H' := fun es qa => by
      refine ⟨so.stop i ι' H' S' h0' hh' es, qa _ _ _ (e.adopt hD) (hh'.adopt nD hd ra) (.ref ?_)⟩
      rw [← hh'.len]; simp
    cases m' with
    | zero =>
      unfold compG at q'
      split at q'
      · rename_i es
        exact .inl (stop es q')
      · exact q'.elim
    | succ m' =>
      unfold compG at q'
      split at q'
      · exact q'.elim
      · rename_i es
        exact .inl (stop es q')
      · rename_i x ex
        split at q'
        · exact q'.elim
        · rename_i ρ1 eρ
          refine .inr ⟨so.go i ι' H' S' x h0' hh' ex, fun H2 => ∃ ι' S' acc us, Ext ι H ι' H2 ∧ RH X.K ι' H2 S' ∧ Ok ι' H2 ∧ D ∉ ι' ∧ H2 D = some (.lst us) ∧ RVs X.K ι' H2 acc us ∧ Fin (Gm X cv) WW ι H Q ((compG src t c f m' (i + 1) acc (wipeE ρ vs) S').bind alloc), fun H2 h2 => ⟨m', Nat.lt_succ_self m', h2⟩, fun y H2 hy => ?_⟩
          obtain ⟨rfl, rx⟩ := so.yld i ι' H' S' x y H2 h0' hh' ex hy
          refine hgw _ _ _ _ (ht ι' H2 _ ρ1 (wipe σ vs) x y _ rs' rx eρ fun σ2 hs2 => ?_)
          rw [bind_assoc] at q'
          refine htt σ2 H2 _ ⟨ι', ρ1, S', hs2, hh', noX_bind0 (R := fun _ _ => Eq) q' fun b S1 ι1 H1 b' e1 h1 r1 q1 => ?_⟩
          cases r1
          obtain ⟨nD1, hd1⟩ := e1.own nD hd
          have o1 := so.ext _ _ _ _ h0' e1
          cases b with
          | false => exact ⟨ι1, S1, acc, us, e.trans e1, h1, o1, nD1, hd1, ra.ext e1, q1⟩
          | true =>
            have q1 : Fin (Gm X cv) WW ι H Q (((PD.noX (f ρ1 S1)).bind fun y S2 => if acc.length < 16777216 then compG src t c f m' (i + 1) (acc ++ [y]) (wipeE ρ vs) S2 else .stuck).bind alloc) := q1
            rw [bind_assoc] at q1
            refine hte σ2 H1 _ ⟨ι1, ρ1, S1, hs2.ext e1, h1, noX_bind0 q1 fun y S2 ι2 H2 v e2 h2 r2 q2 => ?_⟩
            obtain ⟨nD2, hd2⟩ := e2.own nD1 hd1
            split at q2
            · rename_i hl
              have ra2 := (ra.ext e1).ext e2
              refine ⟨us, hd2, by rw [← ra.length, sizeLine_eq]; exact hl, ι2, S2, acc ++ [y], us ++ [v], ((e.trans e1).trans e2).side hD hd2, h2.side nD2 hd2, so.side _ _ _ _ _ (so.ext _ _ _ _ o1 e2) hd2, nD2, upd_same, (ra2.append (.cons r2 .nil)).side hd2, q2⟩
            · exact q2.elim
theorem wipe_name {i : Nat} : ∀ (v : V) (σ : L2.St) (H : Hp) (Q : L2.St → Hp → Prop), gName i v (wipe σ [i]) H Q → gName i v (wipe σ [i]) H fun σ2 H2 => wipe σ2 [i] = wipe σ [i] ∧ Q σ2 H2 := fun v σ H Q q => by
  refine ⟨?_, q⟩
  show ((σ.set i none).set i (some v)).set i none = σ.set i none
  rw [List.set_set, List.set_set]
theorem src_list {n : Nat} {a : Addr} : SrcOk X (srcC n) (Itl X.K a) (fun ι _ => ι[n]? = some a) where
  ext := fun ι H ι' H' h e => e.get h
  side := fun _ _ _ _ _ h _ => h
  stop := fun i ι H S h hh q => by
    unfold srcC at q
    split at q
    · rename_i c ec
      obtain ⟨vs, rv, hq⟩ := (hh.ok _ _ _ h ec).sq
      have := Option.some.inj q
      exact ⟨vs, hq, by rw [← rv.length]; exact List.getElem?_eq_none_iff.mp this⟩
    · cases q
  go := fun i ι H S x h hh q => by
    unfold srcC at q
    split at q
    · rename_i c ec
      obtain ⟨vs, rv, hq⟩ := (hh.ok _ _ _ h ec).sq
      obtain ⟨v, ev, _⟩ := rv.get (Option.some.inj q)
      exact ⟨vs, v, hq, ev⟩
    · cases q
  yld := fun i ι H S x y H' h hh q hy => by
    unfold srcC at q
    split at q
    · rename_i c ec
      obtain ⟨vs, rv, hq⟩ := (hh.ok _ _ _ h ec).sq
      obtain ⟨v, ev, r⟩ := rv.get (Option.some.inj q)
      obtain ⟨rfl, hy⟩ := hy
      have := hy vs hq
      rw [ev] at this; cases this
      exact ⟨rfl, r⟩
    · cases q
theorem src_tup {a : Addr} {xs : List Val} {vs : List V} : SrcOk X (srcL xs) (Itt X.K a) (fun ι H => SqT X.K H a vs ∧ RVs X.K ι H xs vs) where
  ext := fun ι H ι' H' h e => ⟨e.sqT h.1, h.2.ext e⟩
  side := fun ι H D us ws h hd => ⟨sqT_side hd _ _ h.1, h.2.side hd⟩
  stop := fun i ι H S h hh q => ⟨vs, h.1, by rw [← h.2.length]; exact List.getElem?_eq_none_iff.mp (Option.some.inj q)⟩
  go := fun i ι H S x h hh q => by
    obtain ⟨v, ev, _⟩ := h.2.get (Option.some.inj q)
    exact ⟨vs, v, h.1, ev⟩
  yld := fun i ι H S x y H' h hh q hy => by
    obtain ⟨v, ev, r⟩ := h.2.get (Option.some.inj q)
    obtain ⟨rfl, hy⟩ := hy
    have := hy vs h.1
    rw [ev] at this; cases this
    exact ⟨rfl, r⟩
theorem src_rng {n : Nat} : SrcOk X (srcL (rangeV 0 n)) (Itr 0 n) (fun _ _ => True) where
  ext := fun _ _ _ _ _ _ => trivial
  side := fun _ _ _ _ _ _ _ => trivial
  stop := fun i ι H S h hh q => by
    have := List.getElem?_eq_none_iff.mp (Option.some.inj q)
    rw [rangeV_length] at this
    exact this
  go := fun i ι H S x h hh q => by
    have := (List.getElem?_eq_some_iff.mp (Option.some.inj q)).1
    rw [rangeV_length] at this
    exact this
  yld := fun i ι H S x y H' h hh q hy => by
    obtain ⟨rfl, rfl⟩ := hy
    have hi := (List.getElem?_eq_some_iff.mp (Option.some.inj q)).1
    rw [rangeV_length] at hi
    have e := Option.some.inj q
    rw [rangeV_get hi] at e
    cases e
    exact ⟨rfl, .int _⟩
variable {elt tg iter : Expr} {ifs : List Expr} {scope : Scope} {own : List (Str × Nat)} {pos spos : Pos} {g : TG} {t : TgD} {c : DT} {e f : D}
theorem pdts_nil : PTs X [] (TDT (Gm X cv) W tYes') := ⟨fun pins s σ H Q I ⟨ι, ρ, S, hs, hh, q⟩ => pts_nil.run pins s σ H Q I (q.here hh rfl)⟩
theorem pdts_one {e : Expr} {t : DT} (h : PT X e (TDT (Gm X cv) W t)) : PTs X [e] (TDT (Gm X cv) W t) := pts_one h
abbrev Wp (g : TG) (vs : List Nat) : Prop := ∀ (v : V) (σ : L2.St) (H : Hp) (Q : L2.St → Hp → Prop), g v (wipe σ vs) H Q → g v (wipe σ vs) H fun σ2 H2 => wipe σ2 vs = wipe σ vs ∧ Q σ2 H2
abbrev tLcD (X : Cx) (cv : Nat → Value) (wi : TI) (g : TG) (c : DT) (e : D) (vs : List Nat) : TE := tLc wi g (TDT (Gm X cv) W0 c) (TD (Gm X cv) W0 e) vs
theorem lcC {vs : List Nat} (ht : TgOk X.K g t) (hw : Wp g vs) (σ : L2.St) (H : Hp) (Q : VK) (h : TD (Gm X cv) W (dLCC f t c e vs) σ H Q) : tLcD X cv (iList X.K (TD (Gm X cv) W f)) g c e vs σ H Q := by
  obtain ⟨ι, ρ, S, hs, hh, q⟩ := h
  refine ⟨ι, ρ, S, hs, hh, FinG.bind q fun x S1 ι1 H1 u e1 h1 r1 q1 => ?_⟩
  cases r1 with
  | ref hn =>
    rename_i n a
    have q1 : Fin (Gm X cv) (fun c d H' => W c d σ H') ι1 H1 Q (match S1[n]? with | some cc => (compG (srcC n) t c e cc.items.length 0 [] (wipeE ρ vs) S1).bind alloc | none => .stuck) := q1
    split at q1
    · rename_i cc ec
      obtain ⟨us, rv, hq⟩ := (h1.ok _ _ _ hn ec).sq
      exact ⟨a, rfl, ⟨us, hq⟩, comp_core src_list ht (fun _ _ _ h => h) (fun _ _ _ h => h) hw (hs.ext e1) h1 hn q1⟩
    · exact q1.elim
  | _ => exact q1.elim
theorem lcT {vs : List Nat} (ht : TgOk X.K g t) (hw : Wp g vs) (σ : L2.St) (H : Hp) (Q : VK) (h : TD (Gm X cv) W (dLCT f t c e vs) σ H Q) : tLcD X cv (iTup X.K (TD (Gm X cv) W f)) g c e vs σ H Q := by
  obtain ⟨ι, ρ, S, hs, hh, q⟩ := h
  refine ⟨ι, ρ, S, hs, hh, FinG.bind q fun x S1 ι1 H1 u e1 h1 r1 q1 => ?_⟩
  cases r1 with
  | tup ha ra => exact ⟨_, rfl, ⟨_, ha⟩, comp_core src_tup ht (fun _ _ _ h => h) (fun _ _ _ h => h) hw (hs.ext e1) h1 ⟨ha, ra⟩ q1⟩
  | _ => exact q1.elim
theorem lcR {vs : List Nat} {fa : DA} (ht : TgOk X.K g t) (hw : Wp g vs) (σ : L2.St) (H : Hp) (Q : VK) (h : TD (Gm X cv) W (dLCR fa t c e vs) σ H Q) : tLcD X cv (iRng1 (TDA (Gm X cv) W fa)) g c e vs σ H Q := by
  obtain ⟨ι, ρ, S, hs, hh, q⟩ := h
  refine ⟨ι, ρ, S, hs, hh, FinG.bind q fun xs S1 ι1 H1 us e1 h1 r1 q1 => ?_⟩
  split at q1
  · rename_i j
    split at q1
    · rename_i hj
      cases r1 with
      | cons r1 r2 =>
        cases r1; cases r2
        exact ⟨j, rfl, hj.1, hj.2, comp_core src_rng ht (fun _ _ _ h => h) (fun _ _ _ h => h) hw (hs.ext e1) h1 trivial q1⟩
    · exact q1.elim
  · exact q1.elim
/-- the block's parts -/
structure LcOk (X : Cx) (cv : Nat → Value) (elt tg : Expr) (ifs : List Expr) (scope : Scope) (own : List (Str × Nat)) (g : TG) (t : TgD) (c : DT) (e : D) : Prop where
  ok : BlkOk X.N X.env.scope scope own
  tg : ∀ (s : Shared) (H : Hp) (C : Addr) (cl : List (Str × Addr)) (fp : List Addr), PG (X.blk s H scope (PySem.compEnvC scope cl C X.env) fp) tg g
  tok : TgOk X.K g t
  wp : Wp g (own.map (·.2))
  ifs : ∀ (s : Shared) (H : Hp) (C : Addr) (cl : List (Str × Addr)) (fp : List Addr), PTs (X.blk s H scope (PySem.compEnvC scope cl C X.env) fp) ifs (TDT (Gm X cv) W0 c)
  elt : ∀ (s : Shared) (H : Hp) (C : Addr) (cl : List (Str × Addr)) (fp : List Addr), PE (X.blk s H scope (PySem.compEnvC scope cl C X.env) fp) elt (TD (Gm X cv) W0 e)
theorem pd_lcC (hc : X.calm = true) (hN : X.N.Nodup) (hi : PE X iter (TD (Gm X cv) W f)) (L : LcOk X cv elt tg ifs scope own g t c e) (hs : ∀ x, foldedSetIterable iter X.env x = pure x := by intro _; rfl) :
    PE X (.ListComp elt [⟨tg, iter, ifs, 0⟩] scope pos) (TD (Gm X cv) W (dLCC f t c e (own.map (·.2)))) :=
  (pe_lc hc hN (pi_list hi) L.ok L.tg L.ifs L.elt hs).imp fun σ H Q h => lcC L.tok L.wp σ H Q h
theorem pd_lcT (hc : X.calm = true) (hN : X.N.Nodup) (hi : PE X iter (TD (Gm X cv) W f)) (L : LcOk X cv elt tg ifs scope own g t c e) (hs : ∀ x, foldedSetIterable iter X.env x = pure x := by intro _; rfl) :
    PE X (.ListComp elt [⟨tg, iter, ifs, 0⟩] scope pos) (TD (Gm X cv) W (dLCT f t c e (own.map (·.2)))) :=
  (pe_lc hc hN (pi_tup hi) L.ok L.tg L.ifs L.elt hs).imp fun σ H Q h => lcT L.tok L.wp σ H Q h
theorem pd_lcR {a : Expr} {fa : DA} {p pos2 : Pos} (hc : X.calm = true) (hN : X.N.Nodup) (hgl : Gl X "range") (hm : X.mg "range" = none) (hi : PA X [a] (TDA (Gm X cv) W fa)) (L : LcOk X cv elt tg ifs scope own g t c e)
    (hst : starEach [a] X.env = [(false, eval a X.env)] := by rfl) (hs : ∀ x, foldedSetIterable (.Call (.Name "range" p) [a] [] pos2) X.env x = pure x := by intro _; rfl) :
    PE X (.ListComp elt [⟨tg, .Call (.Name "range" p) [a] [] pos2, ifs, 0⟩] scope pos) (TD (Gm X cv) W (dLCR fa t c e (own.map (·.2)))) :=
  (pe_lc hc hN (pi_range1 hgl hm hi hst) L.ok L.tg L.ifs L.elt hs).imp fun σ H Q h => lcR L.tok L.wp σ H Q h
end
end PD

/-! ## PDEnd -/
set_option Elab.async false
set_option linter.all false
set_option maxRecDepth 100000
set_option maxHeartbeats 2000000
namespace PD
open PySem PySem.Spec L2

/-! ### repr -/
def bRepr : Fn := fun xs S => match xs with
  | [x] => match toD 66 S x with
    | some d => if d.showable = true ∧ SeqAt.shaped d = true ∧ d.shown.length ≤ 16777216 then .ok (.str d.shown) S else .stuck
    | none => .stuck
  | _ => .stuck
def rRepr (K : PySem.W.Frag) : List V → Hp → VK → Prop := fun xs H Q => ∃ x d, xs = [x] ∧ Dp K H x d ∧ d.showable = true ∧ SeqAt.shaped d = true ∧ d.shown.length ≤ sizeLine ∧ Q (.str d.shown) H
theorem ok_repr {K : PySem.W.Frag} : OKA K (rRepr K) bRepr := by
  intro cv ι H S xs us W Q hh rx q
  unfold bRepr at q
  split at q
  · split at q
    · rename_i d ed
      split at q
      · rename_i hc
        cases rx with
        | cons r1 rr =>
          cases rr
          exact ⟨_, d, rfl, toD_dp hh _ _ _ _ r1 ed, hc.1, hc.2.1, by rw [sizeLine_eq]; exact hc.2.2, q ι H _ .refl hh (.str _)⟩
      · exact q.elim
    · exact q.elim
  · exact q.elim
theorem call_reprD {X : Cx} (hgd : X.A.guards = some []) (hu : X.A.units + 65 < cLine) : CallR X (.builtin "repr") (rRepr X.K) := by
  intro pins s σ H xs us Q I r h
  obtain ⟨x, d, rfl, hd, hs, hsh, hz, q⟩ := h
  obtain ⟨u, rfl, rx⟩ := vals1 r
  have fin : ∀ t, EP X pins σ Q (.str d.shown t) { s with toks := s.toks + 1 } := fun t => ⟨.str d.shown, H, I.tok _, ⟨t, rfl⟩, q⟩
  have big : ∀ a, x = .ref a → wpAny (model X.prog X.w) X.A (call (.builtin "repr") [u]) (EP X pins σ Q) X.xe s := fun a e => by
    subst e
    cases rx
    obtain ⟨as, rd⟩ := Dp.reads I d _ _ hd rfl
    have dep : d.depth ≤ 64 := by
      have q := hsh
      unfold SeqAt.shaped at q
      rw [Bool.and_eq_true] at q
      exact of_decide_eq_true q.2
    refine repr_of_reads' rd hs (PyData.noDict_hsm (PyData.hasDict_of_canLay d (SeqAt.canLay_of_shaped hsh))) hgd (by omega) (fun _ _ e => e) (fun h' t tk hk => ?_) hz
    exact ⟨.str d.shown, H, I.kept hk, ⟨t, rfl⟩, q⟩
  cases hd with
  | non => cases rx; exact P.repr_of_none ⟨.str PyData.none.shown, H, I.tok _, ⟨_, rfl⟩, q⟩
  | bl b => cases rx; exact P.repr_of_bool ⟨.str (PyData.bool b).shown, H, I.tok _, ⟨_, by cases b <;> rfl⟩, q⟩
  | int i =>
    obtain ⟨t, rfl⟩ := rx
    exact P.repr_of_int (of_decide_eq_true hs) ⟨.str (PyData.int i).shown, H, I.tok _, ⟨_, rfl⟩, q⟩
  | str z =>
    obtain ⟨t, rfl⟩ := rx
    exact P.repr_of_str ⟨.str (PyData.str z).shown, H, I.tok _, ⟨_, rfl⟩, q⟩ hz
  | lst ha _ => exact big _ rfl
  | tup ha _ => exact big _ rfl

/-! ### the end -/
section
variable {P : Program} {w : World} {K : PySem.W.Frag} {mg mb : Str → Option Value} {k : Nat} {fa a : Addr} {fd : FuncData} {x : Str} {cv : Nat → Value} {F : Fn} {s₁ : Shared} {vs : List Value} {ns : List Int}
abbrev Told (s₁ : Shared) (r : Result) (s' : Shared) : Prop := r = .ok (.ret (.bool true)) ∧ OldK s₁.heap s'.heap ∧ s'.os = s₁.os ∧ PyProof.Rows.AllBare s'.gens
theorem rvs_of_ints {ι : List Addr} {H : Hp} : ∀ ns : List Int, RVs K ι H (ns.map Val.int) (ns.map V.int)
  | [] => .nil
  | n :: r => .cons (.int n) (rvs_of_ints r)
/-- from a heap of which at most the script is tracked -/
theorem law_at (KX : K.In s₁.heap) (hns : s₁.heap.Ns mainGlobals mg) (hb : s₁.heap.Ns builtinsNs mb) (hbb : ∀ x : Str, x ≠ "__name__" → mb x = bootBuiltins x) (hlim : s₁.heap.NoLimit) (hg : s₁.gens = #[])
    (ha : s₁.heap.get? a = some { cls := .type "list", data := .seq vs.toArray }) (hr : Room k callerA)
    (G : ∀ base : Heap, K.In base → base.Ns mainGlobals mg → FnG P w K mg base k fa fd [x] (SpecOf ⟨K, cv⟩ F)) (hbind : ∀ (s : Shared) (u : Value), BindsTo s fd ⟨[u], []⟩ [(x, u)])
    {S : Store} (hT : F [.kl (ns.map Val.int)] [] = .ok (.bl true) S)
    (H : Hp) (hro : RoL K H a (ns.map V.int)) (hok : HOk P w H s₁.heap) (hA : ∀ b, H b ≠ none → b = a) (hfr : ∀ b u, H b = some u → ∃ o xs, u = .frz o (.lst xs)) (hK : H a ≠ none → K.lookup a = none) :
    codeAny (model P w) callerA (.call (.ref fa) ⟨[.ref a], []⟩) (Told s₁) s₁ := by
  have free : ∀ {b : Addr} {o : Obj} {es : Array DictEntry} {ep : Nat}, s₁.heap.get? b = some o → o.data = .dict es ep → H b = none := by
    intro b o es ep e d
    by_cases q : H b = none
    · exact q
    · have := hA b q
      subst this
      rw [ha] at e
      cases e
      cases d
  have keepNs : ∀ {b : Addr} {m : Str → Option Value}, s₁.heap.Ns b m → (hidT s₁.heap H).Ns b m := by
    rintro b m ⟨o, es, ep, e, d, r⟩
    exact ⟨o, es, ep, hidT_get e (free e d), d, r⟩
  have inB : K.In (hidT s₁.heap H) := fun b o e => by
    refine hidT_get (KX b o e) ?_
    by_cases q : H b = none
    · exact q
    · have := hA b q
      subst this
      rw [hK q] at e; cases e
  have md : Mod K mg (hidT s₁.heap H) := ⟨inB, keepNs hns, ⟨mb, keepNs hb, hbb⟩, by
    obtain ⟨mc, h1, h2⟩ := hlim
    exact ⟨mc, keepNs h1, h2⟩⟩
  have env : Env0 P w K mg (hidT s₁.heap H) callerA [] s₁ H :=
    ⟨rfl, md, fun _ _ e => of_hidT e, Nat.le_of_eq (hidT_size _ _), trivial, fun _ z => (nomatch z), hok, .of_eq hg⟩
  have spec : SpecOf ⟨K, cv⟩ F [.ref a] H (fun v _ => v = .bl true) (fun _ _ _ => False) := by
    refine ⟨[], [.kl (ns.map Val.int)], [], .cons (.kl hro (rvs_of_ints ns)) .nil, ⟨rfl, fun n a c e => by simp at e, fun n m a e => by simp at e⟩, ?_⟩
    rw [hT]
    intro ι' H' v e hh r
    cases r; rfl
  refine codeAny_mono ((G _ inB (keepNs hns)).go callerA [] s₁ H ⟨[.ref a], []⟩ [.ref a] [.ref a] _ _ rfl hr env (hbind s₁ (.ref a)) (.cons rfl .nil) spec) fun r s' h => ?_
  rcases r with e | fl
  · obtain ⟨_, _, _, _, _, _, _, _, _, _, _, _, z⟩ := h
    exact z.elim
  · cases fl with
    | ret u =>
      obtain ⟨v, H', os, bare, un, hok', r', q⟩ := h
      have q : v = .bl true := q
      subst q
      cases r'
      refine ⟨rfl, OldK.of_keep fun b o e => ?_, os, bare⟩
      by_cases q : H b = none
      · exact un.keep b o e q (fun z => by cases z) (by simp)
      · obtain ⟨u, hu⟩ := Option.ne_none_iff_exists'.mp q
        obtain ⟨ob, xs, rfl⟩ := hfr b u hu
        have e1 := (hok b _ hu).1
        have e2 := (hok' b _ (un.frzs b ob _ hu)).1
        rw [e] at e1
        cases e1
        exact e2
    | _ => exact h.elim
theorem law_g (KX : K.In s₁.heap) (hns : s₁.heap.Ns mainGlobals mg) (hb : s₁.heap.Ns builtinsNs mb) (hbb : ∀ x : Str, x ≠ "__name__" → mb x = bootBuiltins x) (hlim : s₁.heap.NoLimit) (hg : s₁.gens = #[])
    (ha : s₁.heap.get? a = some { cls := .type "list", data := .seq vs.toArray }) (hi : PyProof.Rows.IntsAre vs ns) (hl : ns.length ≤ sizeLine) (hr : Room k callerA)
    (G : ∀ base : Heap, K.In base → base.Ns mainGlobals mg → FnG P w K mg base k fa fd [x] (SpecOf ⟨K, cv⟩ F)) (hbind : ∀ (s : Shared) (u : Value), BindsTo s fd ⟨[u], []⟩ [(x, u)])
    {S : Store} (hT : F [.kl (ns.map Val.int)] [] = .ok (.bl true) S) : codeAny (model P w) callerA (.call (.ref fa) ⟨[.ref a], []⟩) (Told s₁) s₁ := by
  have rv := vals_ints hi
  cases hk : K.lookup a with
  | some o =>
    have e := KX a o hk
    rw [ha] at e
    cases e
    exact law_at KX hns hb hbb hlim hg ha hr G hbind hT (fun _ => none) (.inr ⟨_, _, _, hk, rfl, rfl, rfl, by rw [List.size_toArray, hi.length]; exact hl, by simpa using rv⟩) (fun _ _ z => by cases z) (fun _ z => absurd rfl z) (fun _ _ z => by cases z) fun z => absurd rfl z
  | none =>
    have only : ∀ b u, (if b = a then some (HO.frz { cls := .type "list", data := .seq vs.toArray } (.lst (ns.map V.int))) else none) = some u → b = a ∧ u = HO.frz { cls := .type "list", data := .seq vs.toArray } (.lst (ns.map V.int)) := fun b u z => by
      split at z
      · rename_i q; cases z; exact ⟨q, rfl⟩
      · cases z
    refine law_at KX hns hb hbb hlim hg ha hr G hbind hT (fun b => if b = a then some (.frz { cls := .type "list", data := .seq vs.toArray } (.lst (ns.map V.int))) else none) (.inl ⟨_, if_pos rfl⟩) (fun b u z => ?_) (fun b z => ?_) (fun b u z => ?_) fun _ => hk
    · obtain ⟨rfl, rfl⟩ := only b u z
      exact ⟨ha, by rw [List.length_map]; exact hl, vs, _, rv, ha⟩
    · obtain ⟨u, hu⟩ := Option.ne_none_iff_exists'.mp z
      exact (only b u hu).1
    · exact ⟨_, _, (only b u z).2⟩
end
theorem walk_g {l : PySem.W.OpenLaw} {n k : Nat} {q : Program} {loose : List Str} {XP : (Str → Option Value) → Heap → Prop} {YP : World → Heap → Prop} {d : DefRec} {K : Params → PySem.W.Frag} {x : Str} {F : Fn}
    (hn : l.most = some n) (hn2 : n ≤ sizeLine) (hdf : d.params.defaults = []) (hr : Room k callerA) (hY : ∀ (w : World) (h : Heap), YP w h → (K w.params).In h)
    (G : ∀ (w : World) (mg : Str → Option Value) (fa : Addr) (h : Heap), (K w.params).In h → h.Ns mainGlobals mg → mg d.name = some (.ref fa) →
      ∃ (fd : FuncData) (cv : Nat → Value), (∀ (s : Shared) (u : Value), BindsTo s fd ⟨[u], []⟩ [(x, u)]) ∧ ∀ base : Heap, (K w.params).In base → base.Ns mainGlobals mg → FnG l.prog w (K w.params) mg base k fa fd [x] (SpecOf ⟨K w.params, cv⟩ F))
    (hT : ∀ ns : List Int, ns.length ≤ n → (∀ z ∈ ns, Builtin.Int.intBits z ≤ 1048576) → ∃ S, F [.kl (ns.map Val.int)] [] = .ok (.bl true) S) : PySem.W.WalkO q loose XP YP l.row.toRowW d [] (fun f vs => PySem.call f vs) := by
  refine Att.attach_callB hn hdf fun w s₀ s₁ mg mb fa o pm cd doc a vs ns Gr Y ho hd hcd hmg hobj hints hlen hbits hg => ?_
  obtain ⟨fd, cv, hb, hF⟩ := G w mg fa _ (hY w _ Y) Gr.T.g hmg
  obtain ⟨S, e⟩ := hT ns hlen hbits
  exact law_g (hY w _ Y) Gr.T.g Gr.T.b Gr.T.builtins Gr.T.nolimit hg hobj hints (Nat.le_trans hlen hn2) hr hF hb e
end PD

/-! ## PDMisc -/
set_option Elab.async false
set_option linter.all false
set_option maxRecDepth 100000
set_option maxHeartbeats 2000000
namespace PD
open PySem PySem.Spec L2

/-! ### xs * n -/
def repV {α : Type} (k : Nat) (xs : List α) : List α := (List.replicate k xs).flatten
def oRepL : Op2 := fun x y S => match x, y with
  | .ref n, .int k => match S[n]? with
    | some (.lst xs) => if -(2 ^ 63) ≤ k ∧ k < 2 ^ 63 ∧ xs.length * k.toNat ≤ 16777216 then alloc (repV k.toNat xs) S else .stuck
    | _ => .stuck
  | _, _ => .stuck
def oRepT : Op2 := fun x y S => match x, y with
  | .tup xs, .int k => if xs ≠ [] ∧ 2 ≤ k ∧ k ≤ 1000000 ∧ xs.length * k.toNat ≤ 1000000 then .ok (.tup (repV k.toNat xs)) S else .stuck
  | _, _ => .stuck
def rRepTB (K : PySem.W.Frag) : L2.R2 := fun x y H Q => ∃ l k xs, x = .ref l ∧ y = .int k ∧ SqT K H l xs ∧ xs ≠ [] ∧ 2 ≤ k ∧ k ≤ 1000000 ∧ xs.length * k.toNat ≤ 1000000 ∧ ∀ p, H p = none → Q (.ref p) (upd H p (.tup (repV k.toNat xs)))
theorem op_repTB {X : Cx} : OpR X (binaryOp .Mult) (rRepTB X.K) := by
  intro pins s σ H x y v u Q I rx ry h
  obtain ⟨l, k, xs, rfl, rfl, hT, hne, h1, h2, hz, q⟩ := h
  cases rx
  obtain ⟨t, rfl⟩ := ry
  obtain ⟨its, r, ⟨⟨cls, dd, data, sl⟩, ho, hc, n, hd⟩, hs⟩ := I.tuple hT
  simp only at hc hd
  subst hc hd
  have len : its.length = xs.length := r.length.symm
  have ne : its ≠ [] := by
    intro e
    rw [e] at len
    exact hne (List.eq_nil_of_length_eq_zero len.symm)
  have em : its.toArray.isEmpty = false := by
    cases its with
    | nil => exact absurd rfl ne
    | cons _ _ => rfl
  have prod : ((its.toArray.size : Nat) : Int) * k = ((xs.length * k.toNat : Nat) : Int) := by
    rw [List.size_toArray, len, Int.natCast_mul]
    congr 1
    omega
  have small : (List.replicate k.toNat its).flatten.length ≤ 1000000 := by
    rw [PyProof.Rows.lm_len_rep_flat, len, Nat.mul_comm]
    exact hz
  have fits : (List.replicate k.toNat its).flatten.length ≤ sizeLine := by
    rw [sizeLine_eq]; omega
  have d0 : (decide (k < -(2 ^ 63)) || decide (k ≥ 2 ^ 63)) = false := by
    simp only [Bool.or_eq_false_iff, decide_eq_false_iff_not]; omega
  have d1 : (its.toArray.isEmpty || k == 1) = false := by
    rw [em]
    simp only [Bool.false_or, beq_eq_false_iff_ne]; omega
  have d2 : (decide (k ≤ 0) || its.toArray.isEmpty) = false := by
    rw [em]
    simp only [Bool.or_false, decide_eq_false_iff_not]; omega
  have d4 : Builtin.Tuple.tupleTooMany (((its.toArray.size : Nat) : Int) * k) = false := by
    rw [prod]
    unfold Builtin.Tuple.tupleTooMany
    rw [sizeLine_eq]
    simp only [decide_eq_false_iff_not]; omega
  have d3 : ¬ ((its.toArray.size : Nat) : Int) * k > (2 ^ 63 - 1) / 8 := by
    rw [prod]; omega
  have step := tuple_mulW l its.toArray n dd sl k t d0 d1 d2 d3 d4 (by rw [size_rep, List.size_toArray]; exact fits)
  have back := int_rmul_tuple k t l its.toArray n dd sl
  refine wpAny_binaryOp_repeat_ref (T := "tuple") (U := "int") (by decide) ⟨_, ho, rfl⟩ (fun s' => typeIs_int s' k t) noFill_tuple_mul F.fills_int_mul F.slot_int_rmul repeat_tuple F.slot_int_index.lookup ?_
  refine call_meets F.slot_int_rmul (typeIs_int s k t) F.entry_int_rmul (F.args_int_rmul_2 _ _) back ⟨ho, rfl, ⟨_, ho, rfl⟩, ?_⟩
  refine call_meets F.slot_tuple_mul ⟨_, ho, rfl⟩ F.entry_tuple_mul (F.args_tuple_mul_2 _ _) step ⟨ho, ?_⟩
  rw [size_rep]
  have vr : Vals (repV k.toNat xs) (List.replicate k.toNat its).flatten := r.rep k.toNat
  refine ⟨.ref s.heap.objs.size, _, I.laid (t' := s.toks) (o := .tup (repV k.toNat xs)) (fun b ob q => Heap.get?_push_of_some _ q) (Nat.le_refl _) ?_, rfl, q _ (I.hok.fresh (Nat.le_refl _))⟩
  exact ⟨by rw [vr.length]; exact fits, _, vr, PyProof.Rows.IsTup.new _ _⟩
section
variable {K : PySem.W.Frag}
theorem RVs.rep {ι : List Addr} {H : Hp} {xs : List Val} {vs : List V} (r : RVs K ι H xs vs) : ∀ n : Nat, RVs K ι H (repV n xs) (repV n vs)
  | 0 => .nil
  | n + 1 => by
    unfold repV
    rw [List.replicate_succ, List.replicate_succ, List.flatten_cons, List.flatten_cons]
    exact r.append (RVs.rep r n)
theorem ok_repL : OK2 K rRep oRepL := by
  intro cv ι H S x y u v W Q hh rx ry q
  cases rx with
  | ref hn =>
    cases ry with
    | int k =>
      rename_i n a
      have q : Fin ⟨K, cv⟩ W ι H Q (match S[n]? with
        | some (.lst xs) => if -(2 ^ 63) ≤ k ∧ k < 2 ^ 63 ∧ xs.length * k.toNat ≤ 16777216 then alloc (repV k.toNat xs) S else .stuck
        | _ => .stuck) := q
      split at q
      · rename_i xs e1
        split at q
        · rename_i hl
          obtain ⟨vs, ra, hv⟩ := hh.ok _ _ _ hn e1
          refine ⟨a, k, vs, rfl, rfl, hv, hl.1, hl.2.1, by rw [← ra.length, sizeLine_eq]; exact hl.2.2, fun p hp => ?_⟩
          refine q _ _ _ (Ext.alloc hp) (hh.alloc hp (ra.rep _)) (.ref ?_)
          rw [← hh.len]; simp
        · exact q.elim
      · exact q.elim
    | _ => exact q.elim
  | _ => exact q.elim
theorem ok_repT : OK2 K (rRepTB K) oRepT := by
  intro cv ι H S x y u v W Q hh rx ry q
  cases rx with
  | tup ha ra =>
    cases ry with
    | int k =>
      rename_i a xs vs
      have q : Fin ⟨K, cv⟩ W ι H Q (if xs ≠ [] ∧ 2 ≤ k ∧ k ≤ 1000000 ∧ xs.length * k.toNat ≤ 1000000 then .ok (.tup (repV k.toNat xs)) S else .stuck) := q
      split at q
      · rename_i hl
        refine ⟨a, k, vs, rfl, rfl, ha, fun e => hl.1 ?_, hl.2.1, hl.2.2.1, by rw [← ra.length]; exact hl.2.2.2, fun p hp => ?_⟩
        · subst e; cases ra; rfl
        · exact q _ _ _ (Ext.fresh hp) (hh.fresh hp) (.tup (SqT.of upd_same) ((ra.rep _).ext (Ext.fresh hp)))
      · exact q.elim
    | _ => exact q.elim
  | _ => exact q.elim
end
/-! ### xs.append(e) -/
def dApp (fo f : D) : D := fun ρ S => (fo ρ S).bind fun o S1 => match o with
  | .ref n => (f ρ S1).bind fun x S2 => match S2[n]? with
    | some (.lst xs) => if xs.length < 16777216 then .ok .non (S2.set n (.lst (xs ++ [x]))) else .stuck
    | _ => .stuck
  | _ => .stuck
section
variable {X : Cx} {cv : Nat → Value} {W : WX} {o e iter tg : Expr} {bs : List Stmt} {pos apos cpos : Pos}
theorem pd_append {fo f : D} (ho : PE X o (TD (Gm X cv) W fo)) (he : PE X e (TD (Gm X cv) W f)) (hm : MtR X "list.append" rAppend)
    (hbase : attributeBase o "append" X.env (eval o X.env) = eval o X.env := by rfl)
    (hfew : ((backTo cpos (starEach [e] X.env)).all (fun x => !x.1) && (backToKw cpos (keywordEach [] X.env)).all (fun x => x.1.isSome)
      && decide ([e].length + ([] : List Keyword).length + (if ([] : List Keyword).isEmpty then 0 else 1) < 30)) = true := by rfl)
    (hline : (apos.endLine == cpos.line) = true := by rfl) (hs : starEach [e] X.env = (false, eval e X.env) :: starEach [] X.env := by rfl) (hplain : (backTo cpos (starEach [] X.env)).any (·.1) = false := by rfl) :
    PE X (.Call (.Attribute o "append" apos) [e] [] cpos) (TD (Gm X cv) W (dApp fo f)) := by
  have pa : PA X [e] (tCons (TD (Gm X cv) W f) tNil) := pa_cons he pa_nil hs
  refine (pe_bm PySem.F.plainAttrs_list PySem.F.slot_list_append PySem.F.type_list_append hm ho pa hbase hfew hline hs hplain).imp fun σ H Q h => ?_
  obtain ⟨ι, ρ, S, hs, hh, q⟩ := h
  refine ⟨ι, ρ, S, hs, hh, FinG.bind q fun ov S1 ι1 H1 u e1 h1 r1 q1 => ?_⟩
  have cell : ∀ n, ov = .ref n → ∃ a, u = .ref a ∧ ι1[n]? = some a := fun n e => by
    subst e; cases r1 with
    | ref hn => exact ⟨_, rfl, hn⟩
  cases ov with
  | ref n =>
    obtain ⟨a, rfl, hn⟩ := cell n rfl
    refine ⟨?_, ι1, ρ, S1, hs.ext e1, h1, FinG.bind q1 fun x S2 ι2 H2 v e2 h2 r2 q2 => ?_⟩
    · have hl : n < S1.length := by rw [← h1.len]; exact (List.getElem?_eq_some_iff.mp hn).1
      obtain ⟨vs, _, hq⟩ := (h1.ok n a _ hn (List.getElem?_eq_getElem hl)).sq
      exact .inl ⟨rfl, _, hq⟩
    · show rAppend (.ref a) [v] H2 Q
      have q2 : Fin (Gm X cv) (fun c d H' => W c d σ H') ι2 H2 Q (match S2[n]? with
        | some (.lst xs) => if xs.length < 16777216 then .ok .non (S2.set n (.lst (xs ++ [x]))) else .stuck
        | _ => .stuck) := q2
      split at q2
      · rename_i xs ex
        split at q2
        · rename_i hl
          have hn2 := e2.get hn
          obtain ⟨vs, rv, hv⟩ := h2.ok _ _ _ hn2 ex
          refine ⟨a, vs, v, rfl, rfl, hv, by rw [← rv.length, sizeLine_eq]; exact hl, ?_⟩
          exact q2 _ _ _ (Ext.write hn2 hv) (h2.write hn2 ex hv (rv.append (.cons r2 .nil))) .non
        · exact q2.elim
      · exact q2.elim
  | _ => exact q1.elim
/-! ### for over a tuple -/
theorem ps_forT' {f : D} {g : TG} {t : TgD} {bd : SD} (hp : PassesOwn (model X.prog X.w) X.A X.env X.xe) (hc : X.calm = true) (he : PE X iter (TD (Gm X cv) W f)) (hg : PG X tg g) (ht : TgOk X.K g t) (hb : PSs X bs (TSD (Gm X cv) W bd)) (hfs : ∀ v, foldedSetIterable iter X.env v = pure v := by intro _; rfl) :
    PS X (.For tg iter bs [] pos) (TSD (Gm X cv) W (sForT f t bd)) :=
  (ps_for hp hc (pi_tup he) hg hb hfs).imp fun D σ H ⟨ι, ρ, S, hs, hh, q⟩ => by
    refine ⟨ι, ρ, S, hs, hh, FinS.bind q hs fun x S1 ι1 H1 u e1 h1 r1 q1 => ?_⟩
    cases r1 with
    | tup ha ra =>
      rename_i a xs vs
      refine ⟨a, rfl, ⟨_, ha⟩, for_vals ht trivial xs (fun ι H => SqT X.K H a vs ∧ RVs X.K ι H xs vs) (fun ι H ι' H' h e => ⟨e.sqT h.1, h.2.ext e⟩) (fun ι H h => ⟨vs, h.1, by rw [h.2.length]; exact Nat.le_refl _⟩) (fun ι H i h hi => ?_) (fun ι H i y H' h hi hy => ?_) (hs.ext e1) h1 ⟨ha, ra⟩ q1⟩
      · obtain ⟨v, ev, _⟩ := h.2.get (List.getElem?_eq_getElem hi)
        exact ⟨vs, v, h.1, ev⟩
      · obtain ⟨v, ev, r⟩ := h.2.get (List.getElem?_eq_getElem hi)
        obtain ⟨rfl, hy⟩ := hy
        have := hy vs h.1
        rw [ev] at this; cases this
        exact ⟨rfl, _, List.getElem?_eq_getElem hi, r⟩
    | _ => exact q1.elim
end
end PD

/-! ## PDWp -/
set_option Elab.async false
set_option linter.all false
set_option maxRecDepth 100000
set_option maxHeartbeats 2000000
namespace PD
open PySem PySem.Spec L2

/-! ### what holds behind a run -/
def Run {α : Type} (r : Res α) (Q : α → Store → Prop) : Prop := match r with
  | .ok a S => Q a S
  | _ => False
def RunS (r : SRes) (N : PD.Env → Store → Prop) (R : Val → Store → Prop) : Prop := match r with
  | .next ρ S => N ρ S
  | .ret v S => R v S
  | _ => False
theorem Run.mono {α : Type} {r : Res α} {Q Q' : α → Store → Prop} (h : Run r Q) (q : ∀ a S, Q a S → Q' a S) : Run r Q' := by
  cases r with
  | ok a S => exact q a S h
  | _ => exact h
theorem Run.to {α : Type} {r : Res α} {Q : α → Store → Prop} (h : Run r Q) : ∃ a S, r = .ok a S ∧ Q a S := by
  cases r with
  | ok a S => exact ⟨a, S, rfl, h⟩
  | _ => exact h.elim
theorem Run.of {α : Type} {r : Res α} {a : α} {S : Store} {Q : α → Store → Prop} (e : r = .ok a S) (h : Q a S) : Run r Q := by rw [e]; exact h
theorem run_ok {α : Type} {a : α} {S : Store} {Q : α → Store → Prop} : Run (.ok a S) Q = Q a S := rfl
theorem run_stuck {α : Type} {Q : α → Store → Prop} : Run (.stuck : Res α) Q = False := rfl
theorem run_bind {α β : Type} {r : Res α} {k : α → Store → Res β} {Q : β → Store → Prop} : Run (r.bind k) Q = Run r fun a S => Run (k a S) Q := by cases r <;> rfl
theorem run_noX {α : Type} {r : Res α} {Q : α → Store → Prop} : Run (noX r) Q = Run r Q := by cases r <;> rfl
theorem run_ite {α : Type} {c : Prop} [Decidable c] {r r' : Res α} {Q : α → Store → Prop} : Run (if c then r else r') Q = if c then Run r Q else Run r' Q := by split <;> rfl
theorem runS_ite {c : Prop} [Decidable c] {r r' : SRes} {N R} : RunS (if c then r else r') N R = if c then RunS r N R else RunS r' N R := by split <;> rfl
theorem runS_toS {α : Type} {r : Res α} {ρ : PD.Env} {k : α → Store → SRes} {N R} : RunS (r.toS ρ k) N R = Run r fun a S => RunS (k a S) N R := by cases r <;> rfl
theorem runS_seq {r : SRes} {k : PD.Env → Store → SRes} {N R} : RunS (r.seq k) N R = RunS r (fun ρ S => RunS (k ρ S) N R) R := by cases r <;> rfl
theorem runS_next {ρ : PD.Env} {S : Store} {N R} : RunS (.next ρ S) N R = N ρ S := rfl
theorem runS_ret {v : Val} {S : Store} {N R} : RunS (.ret v S) N R = R v S := rfl
theorem runS_stuck {N R} : RunS .stuck N R = False := rfl
theorem run_fnOf {n m : Nat} {b : SD} {xs : List Val} {S : Store} {Q : Val → Store → Prop} : Run (fnOf n m b xs S) Q = if xs.length = n then RunS (b (xs.map some ++ List.replicate (m - n) none) S) (fun _ S' => Q .non S') Q else False := by
  unfold fnOf
  split
  · cases b (xs.map some ++ List.replicate (m - n) none) S <;> rfl
  · rfl
section
variable {Q : Val → Store → Prop} {QB : Bool → Store → Prop} {QA : List Val → Store → Prop} {ρ : PD.Env} {S : Store} {f g : D} {t u : DT} {as : DA} {N : PD.Env → Store → Prop} {R : Val → Store → Prop} {b c : SD}
theorem w_c {v : Val} : Run (dC v ρ S) Q = Q v S := rfl
theorem w_op {o : Op2} : Run (dOp o f g ρ S) Q = Run (f ρ S) fun x S1 => Run (g ρ S1) fun y S2 => Run (o x y S2) Q := by
  unfold dOp
  rw [run_bind]
  congr; funext x S1
  rw [run_bind]
theorem w_un {o : Val → Store → Res Val} : Run (dUn o f ρ S) Q = Run (f ρ S) fun x S1 => Run (o x S1) Q := by unfold dUn; rw [run_bind]
theorem w_call {F : Fn} : Run (dCall F as ρ S) Q = Run (as ρ S) fun xs S1 => Run (F xs S1) Q := by unfold dCall; rw [run_bind]
theorem w_callK {F : Fn} {is : List Nat} {n : Nat} : Run (dCallK is n F as ρ S) Q = Run (as ρ S) fun xs S1 => if xs.length = n then Run (F (pick is xs) S1) Q else False := by
  unfold dCallK
  rw [run_bind]
  congr; funext xs S1
  rw [run_ite]; rfl
theorem w_nil : Run (aNil ρ S) QA = QA [] S := rfl
theorem w_cons : Run (aCons f as ρ S) QA = Run (f ρ S) fun x S1 => Run (as ρ S1) fun xs S2 => QA (x :: xs) S2 := by
  unfold aCons
  rw [run_bind]
  congr; funext x S1
  rw [run_bind]; rfl
theorem w_tup : Run (dTup as ρ S) Q = Run (as ρ S) fun xs S1 => xs.length ≤ 16777216 ∧ Q (.tup xs) S1 := by
  unfold dTup
  rw [run_bind]
  congr; funext xs S1
  rw [run_ite]
  by_cases h : xs.length ≤ 16777216
  · rw [if_pos h]; exact propext ⟨fun q => ⟨h, q⟩, fun q => q.2⟩
  · rw [if_neg h]; exact propext ⟨fun q => q.elim, fun q => h q.1⟩
theorem w_lst : Run (dLst as ρ S) Q = Run (as ρ S) fun xs S1 => xs.length ≤ 16777216 ∧ Q (.ref S1.length) (S1 ++ [.lst xs]) := by
  unfold dLst
  rw [run_bind]
  congr; funext xs S1
  rw [run_ite]
  by_cases h : xs.length ≤ 16777216
  · rw [if_pos h]; exact propext ⟨fun q => ⟨h, q⟩, fun q => q.2⟩
  · rw [if_neg h]; exact propext ⟨fun q => q.elim, fun q => h q.1⟩
/-- a value that is a bool, and holds so -/
def IsB (Q : Bool → Store → Prop) (v : Val) (S : Store) : Prop := match v with
  | .bl b => Q b S
  | _ => False
theorem isB_bl {b : Bool} : IsB QB (.bl b) S = QB b S := rfl
theorem w_tval : Run (tVal f ρ S) QB = Run (f ρ S) (IsB QB) := by
  unfold tVal
  rw [run_bind]
  congr; funext x S1
  cases x <;> rfl
theorem w_tand : Run (tAnd' t u ρ S) QB = Run (t ρ S) fun b S1 => if b = true then Run (u ρ S1) QB else QB false S1 := by
  unfold tAnd'
  rw [run_bind]
  congr; funext b S1
  rw [run_ite]; rfl
theorem w_tor : Run (tOr' t u ρ S) QB = Run (t ρ S) fun b S1 => if b = true then QB true S1 else Run (u ρ S1) QB := by
  unfold tOr'
  rw [run_bind]
  congr; funext b S1
  rw [run_ite]; rfl
theorem w_tnot : Run (tNot' t ρ S) QB = Run (t ρ S) fun b S1 => QB (!b) S1 := by unfold tNot'; rw [run_bind]; rfl
theorem w_and : Run (dAnd f g ρ S) Q = Run (f ρ S) (IsB fun b S1 => if b = true then Run (g ρ S1) Q else Q (.bl false) S1) := by
  unfold dAnd
  rw [run_bind]
  congr; funext x S1
  cases x with
  | bl b => cases b <;> rfl
  | _ => rfl
theorem w_or : Run (dOr f g ρ S) Q = Run (f ρ S) (IsB fun b S1 => if b = true then Q (.bl true) S1 else Run (g ρ S1) Q) := by
  unfold dOr
  rw [run_bind]
  congr; funext x S1
  cases x with
  | bl b => cases b <;> rfl
  | _ => rfl
theorem w_not : Run (dNot f ρ S) Q = Run (f ρ S) (IsB fun b S1 => Q (.bl (!b)) S1) := by
  unfold dNot
  rw [run_bind]
  congr; funext x S1
  cases x <;> rfl
theorem w_if : Run (dIf t f g ρ S) Q = Run (t ρ S) fun b S1 => if b = true then Run (f ρ S1) Q else Run (g ρ S1) Q := by
  unfold dIf
  rw [run_bind]
  congr; funext b S1
  rw [run_ite]
theorem s_next : RunS (sNext ρ S) N R = N ρ S := rfl
theorem s_seq : RunS (sSeq b c ρ S) N R = RunS (b ρ S) (fun ρ S => RunS (c ρ S) N R) R := by unfold sSeq; rw [runS_seq]
theorem s_if : RunS (sIf t b c ρ S) N R = Run (t ρ S) fun d S1 => if d = true then RunS (b ρ S1) N R else RunS (c ρ S1) N R := by
  unfold sIf
  rw [runS_toS]
  congr; funext d S1
  rw [runS_ite]
theorem s_ret : RunS (sRet f ρ S) N R = Run (f ρ S) R := by unfold sRet; rw [runS_toS]; rfl
theorem s_drop : RunS (sDrop f ρ S) N R = Run (f ρ S) fun _ S1 => N ρ S1 := by unfold sDrop; rw [runS_toS]; rfl
theorem s_set {i : Nat} : RunS (sSet i f ρ S) N R = Run (f ρ S) fun x S1 => N (ρ.set i (some x)) S1 := by unfold sSet; rw [runS_toS]; rfl
theorem s_par {i j : Nat} : RunS (sPar i j as ρ S) N R = Run (as ρ S) fun xs S1 => match xs with | [x, y] => N ((ρ.set i (some x)).set j (some y)) S1 | _ => False := by
  unfold sPar
  rw [runS_toS]
  congr; funext xs S1
  match xs with
  | [] => rfl
  | [_] => rfl
  | [_, _] => rfl
  | _ :: _ :: _ :: _ => rfl
theorem s_put {fo fi : D} : RunS (sPut fo fi f ρ S) N R = Run (f ρ S) fun x S1 => Run (fo ρ S1) fun o S2 => Run (fi ρ S2) fun i S3 => match setAt o i x S3 with | some S4 => N ρ S4 | none => False := by
  unfold sPut
  rw [runS_toS]
  congr; funext x S1
  rw [runS_toS]
  congr; funext o S2
  rw [runS_toS]
  congr; funext i S3
  cases setAt o i x S3 <;> rfl
theorem s_asg {tg : TgD} : RunS (sAsg tg f ρ S) N R = Run (f ρ S) fun x S1 => match tg x ρ with | some ρ' => N ρ' S1 | none => False := by
  unfold sAsg
  rw [runS_toS]
  congr; funext x S1
  cases tg x ρ <;> rfl
theorem w_var {i : Nat} {v : Val} (h : ρ[i]? = some (some v)) : Run (dVar i ρ S) Q = Q v S := by
  unfold dVar
  rw [h]; rfl
end
end PD

/-! ## PDNew -/
set_option Elab.async false
set_option linter.all false
set_option maxRecDepth 100000
set_option maxHeartbeats 2000000
namespace PD
open PySem PySem.Spec L2

/-! ### a list that is only read + a list -/
theorem list_add_g (l : Addr) (items : Array Value) (n : Nat) (dd : Option Addr) (sl : Array (Option Value)) (b : Addr) (items2 : Array Value) (n2 : Nat) (hc0 : items.size + items2.size ≤ sizeLine) :
    Meets (Builtin.«list.__add__» ⟨[.ref l, .ref b], []⟩) (fun _ R s => s.heap.get? l = some { cls := .type "list", dict := dd, data := .seq items n, slots := sl } ∧ s.heap.get? b = some { cls := .type "list", dict := none, data := .seq items2 n2, slots := #[] } ∧ R (.ok (.ret (Value.ref s.heap.objs.size))) { s with heap := s.heap.push { cls := Value.type "list", data := Data.seq (items ++ items2) }, toks := s.toks }) :=
  .of_wp fun prog w A R s h => by obtain ⟨hp, g, d, tk, os⟩ := s; obtain ⟨hl, hb, h⟩ := h; have f1 := AutoSeq1.idx_int; have f2 := AutoSeq1.sub_tuple_tuple; have f3 := AutoSeq1.sub_list_list; have f4 := AutoSeq1.sub_tuple_list; have f5 := AutoSeq1.sub_list_tuple; wp_walk using AutoSeq1.wpAny_loadPart' hl, AutoSeq1.wpAny_loadPart' hb; exact ⟨_, rfl, h⟩
def rCatK (K : PySem.W.Frag) : L2.R2 := fun x y H Q => ∃ l b xs zs, x = .ref l ∧ y = .ref b ∧ SqL K H l xs ∧ H b = some (.lst zs) ∧ xs.length + zs.length ≤ sizeLine ∧ ∀ p, H p = none → Q (.ref p) (upd H p (.lst (xs ++ zs)))
theorem op_catK {X : Cx} : OpR X (binaryOp .Add) (rCatK X.K) := by
  intro pins s σ H x y v u Q I rx ry h
  obtain ⟨l, b, xs, zs, rfl, rfl, hL, hB, hz, q⟩ := h
  cases rx
  cases ry
  obtain ⟨its, r, ⟨⟨cls, dd, data, sl⟩, n, e, hc, hd, hdt⟩, hz1⟩ := I.list hL
  simp only at hc hd hdt
  subst hc hd hdt
  obtain ⟨z2, its2, n2, r2, hl2, e2⟩ := I.lstM hB
  have hl := r.length
  refine concat_meets ⟨_, e, rfl⟩ ⟨_, e2, rfl⟩ noFill_list_add seq_list_add F.slot_list_add F.entry_list_add (F.args_list_add_2 _ _) (list_add_g l its.toArray n none sl b its2.toArray n2 (by rw [List.size_toArray, List.size_toArray]; omega)) ⟨e, e2, ?_⟩
  have ea : its.toArray ++ its2.toArray = (its ++ its2).toArray := by simp
  rw [ea]
  exact ⟨.ref _, _, I.lnew (t' := s.toks) (r.append r2) (by rw [List.length_append]; omega), rfl, q _ I.fresh⟩
def oAddE : Op2 := fun x y S => match x, y with
  | .kl xs, .ref m => match S[m]? with
    | some (.lst ys) => if xs.length + ys.length ≤ 16777216 then alloc (xs ++ ys) S else .stuck
    | _ => .stuck
  | x, y => oAdd x y S
abbrev rAddE (K : PySem.W.Frag) : L2.R2 := rOr (rAddA K) (rCatK K)
theorem op_addE {X : Cx} : OpR X (binaryOp .Add) (rAddE X.K) := op_addA.or op_catK
section
variable {K : PySem.W.Frag}
theorem ok_addE : OK2 K (rAddE K) oAddE := by
  intro cv ι H S x y u v W Q hh rx ry q
  unfold oAddE at q
  split at q
  · rename_i xs m
    cases rx with
    | kl ha ra =>
      cases ry with
      | ref hm =>
        split at q
        · rename_i ys e2
          split at q
          · rename_i hl
            obtain ⟨ws, rb, hw⟩ := hh.ok _ _ _ hm e2
            refine .inr ⟨_, _, _, ws, rfl, rfl, ha.sq, hw, by rw [← ra.length, ← rb.length, sizeLine_eq]; exact hl, fun p hp => ?_⟩
            refine q _ _ _ (Ext.alloc hp) (hh.alloc hp (ra.append rb)) (.ref ?_)
            rw [← hh.len]; simp
          · exact q.elim
        · exact q.elim
  · exact .inl (ok_add cv ι H S x y u v W Q hh rx ry q)
end
/-! ### a product one side of which is small -/
def oMulE : Op2 := fun x y S => match x, y with
  | .int a, .int b => if a.natAbs < 2 ^ 63 ∨ b.natAbs < 2 ^ 63 ∨ a.natAbs.log2 + b.natAbs.log2 < 1000000 then okI (a * b) S else .stuck
  | _, _ => .stuck
theorem ok_mulE {K : PySem.W.Frag} : OK2 K (rOr (rI CMul fun i j => .int (i * j)) (rI CMulW fun i j => .int (i * j))) oMulE := by
  intro cv ι H S x y u v W Q hh rx ry q
  cases rx with
  | int a =>
    cases ry with
    | int b =>
      have q : Fin ⟨K, cv⟩ W ι H Q (if a.natAbs < 2 ^ 63 ∨ b.natAbs < 2 ^ 63 ∨ a.natAbs.log2 + b.natAbs.log2 < 1000000 then okI (a * b) S else .stuck) := q
      split at q
      · rename_i hc
        have q' := q ι H _ .refl hh (.int _)
        rcases hc with hc | hc | hc
        · exact .inl ⟨a, b, rfl, rfl, .inl (by omega), q'⟩
        · exact .inl ⟨a, b, rfl, rfl, .inr (by omega), q'⟩
        · exact .inr ⟨a, b, rfl, rfl, hc, q'⟩
      · exact q.elim
    | _ => exact q.elim
  | _ => exact q.elim
theorem op_mulE {X : Cx} : OpR X (binaryOp .Mult) (rOr (rI CMul fun i j => .int (i * j)) (rI CMulW fun i j => .int (i * j))) := op_mul.or op_mulW
/-! ### a text times an int -/
def oRepS : Op2 := fun x y S => match x, y with
  | .str z, .int k => if 1 ≤ k ∧ k ≤ 1000000 ∧ z.length = 1 then .ok (.str (Txt.mul z k)) S else .stuck
  | _, _ => .stuck
def rRepS : L2.R2 := fun x y H Q => ∃ z k, x = .str z ∧ y = .int k ∧ 1 ≤ k ∧ k ≤ 1000000 ∧ z.length = 1 ∧ Q (.str (Txt.mul z k)) H
theorem op_repS {X : Cx} : OpR X (binaryOp .Mult) rRepS := by
  intro pins s σ H x y v u Q I rx ry h
  obtain ⟨z, k, rfl, rfl, h1, h2, h3, q⟩ := h
  obtain ⟨t, rfl⟩ := rx
  obtain ⟨t', rfl⟩ := ry
  refine SB.mul ⟨by simp only [Bool.or_eq_false_iff, decide_eq_false_iff_not]; omega, fun _ _ => ?_, fun _ _ => ?_⟩ fun t' k' => ?_
  · rw [h3]
    have : (1 : Int) ≤ (2 ^ 63 - 1) / k := Int.le_ediv_of_mul_le (by omega) (by omega)
    omega
  · rw [h3]
    unfold Builtin.Str.tooLong
    rw [sizeLine_eq]
    exact decide_eq_false (by omega)
  · exact ⟨.str _, H, I.tok _, ⟨_, rfl⟩, q⟩
theorem ok_repS {K : PySem.W.Frag} : OK2 K rRepS oRepS := by
  intro cv ι H S x y u v W Q hh rx ry q
  cases rx with
  | str z =>
    cases ry with
    | int k =>
      have q : Fin ⟨K, cv⟩ W ι H Q (if 1 ≤ k ∧ k ≤ 1000000 ∧ z.length = 1 then .ok (.str (Txt.mul z k)) S else .stuck) := q
      split at q
      · rename_i hc
        exact ⟨z, k, rfl, rfl, hc.1, hc.2.1, hc.2.2, q ι H _ .refl hh (.str _)⟩
      · exact q.elim
    | _ => exact q.elim
  | _ => exact q.elim
/-! ### abs, min of a list, list(..) -/
def bAbs : Fn := fun xs S => match xs with
  | [.int i] => okI (if i < 0 then -i else i) S
  | _ => .stuck
theorem ok_abs {K : PySem.W.Frag} : OKA K (fun xs H Q => ∃ i, xs = [.int i] ∧ Q (.int (if i < 0 then -i else i)) H) bAbs := by
  intro cv ι H S xs us W Q hh rx q
  unfold bAbs at q
  split at q
  · cases rx with
    | cons r1 rr =>
      cases rr
      cases r1
      exact ⟨_, rfl, q ι H _ .refl hh (.int _)⟩
  · exact q.elim
def minI : List Int → Int
  | [] => 0
  | [x] => x
  | x :: y :: r => min x (minI (y :: r))
theorem minI_mem : ∀ {xs : List Int}, xs ≠ [] → minI xs ∈ xs
  | [x], _ => List.mem_cons_self
  | x :: y :: r, _ => by
    have h := minI_mem (xs := y :: r) (by simp)
    show min x (minI (y :: r)) ∈ _
    rcases Int.le_total x (minI (y :: r)) with q | q
    · rw [Int.min_eq_left q]; exact List.mem_cons_self
    · rw [Int.min_eq_right q]; exact List.mem_cons_of_mem _ h
theorem minI_le : ∀ {xs : List Int} {y : Int}, y ∈ xs → minI xs ≤ y
  | [x], y, h => by rw [List.mem_singleton.mp h]; exact Int.le_refl _
  | x :: z :: r, y, h => by
    show min x (minI (z :: r)) ≤ y
    rcases List.mem_cons.mp h with rfl | h
    · exact Int.min_le_left _ _
    · exact Int.le_trans (Int.min_le_right _ _) (minI_le h)
def bMinL : Fn := fun xs S => match xs with
  | [.ref n] => match S[n]? with
    | some c => match allSome (c.items.map asI) with
      | some ns => if ns ≠ [] then okI (minI ns) S else .stuck
      | none => .stuck
    | none => .stuck
  | _ => .stuck
theorem ok_minL {K : PySem.W.Frag} : OKA K (rMin K) bMinL := by
  intro cv ι H S xs us W Q hh rx q
  unfold bMinL at q
  split at q
  · split at q
    · rename_i c ec
      split at q
      · rename_i bs eb
        split at q
        · rename_i hne
          cases rx with
          | cons r1 rr =>
            cases rr
            cases r1 with
            | ref hn =>
              obtain ⟨vs, rr, hq⟩ := (hh.ok _ _ _ hn ec).sq
              have e := rvs_ints rr eb
              subst e
              refine ⟨_, bs, rfl, hq, List.length_pos_iff.mpr hne, fun m hm hle => ?_⟩
              have : m = minI bs := Int.le_antisymm (hle _ (minI_mem hne)) (minI_le hm)
              rw [this]
              exact q ι H _ .refl hh (.int _)
        · exact q.elim
      · exact q.elim
    · exact q.elim
  · exact q.elim
def bListOf : Fn := fun xs S => match xs with
  | [.ref n] => match S[n]? with
    | some c => alloc c.items S
    | none => .stuck
  | [.tup ys] => alloc ys S
  | _ => .stuck
theorem ok_listOf {K : PySem.W.Frag} : OKA K (fun xs H Q => ∃ p ys, xs = [.ref p] ∧ (SqL K H p ys ∨ SqT K H p ys) ∧ ∀ l, H l = none → Q (.ref l) (upd H l (.lst ys))) bListOf := by
  intro cv ι H S xs us W Q hh rx q
  unfold bListOf at q
  split at q
  · split at q
    · rename_i c ec
      cases rx with
      | cons r1 rr =>
        cases rr
        cases r1 with
        | ref hn =>
          obtain ⟨vs, rr, hq⟩ := (hh.ok _ _ _ hn ec).sq
          exact ⟨_, vs, rfl, .inl hq, fun l hl => q _ _ _ (Ext.alloc hl) (hh.alloc hl rr) (.ref (by rw [← hh.len]; simp))⟩
    · exact q.elim
  · cases rx with
    | cons r1 rr =>
      cases rr
      cases r1 with
      | tup ha ra => exact ⟨_, _, rfl, .inr ha, fun l hl => q _ _ _ (Ext.alloc hl) (hh.alloc hl ra) (.ref (by rw [← hh.len]; simp))⟩
  · exact q.elim
/-! ### a comprehension's target of several names -/
theorem wipe_set {σ : L2.St} {i : Nat} {o : Option V} : ∀ {vs : List Nat}, i ∈ vs → wipe (σ.set i o) vs = wipe σ vs
  | v :: vs, h => by
    show (wipe (σ.set i o) vs).set v none = (wipe σ vs).set v none
    by_cases hv : i ∈ vs
    · rw [wipe_set hv]
    · rcases List.mem_cons.mp h with rfl | h
      · have push : ∀ (vs : List Nat), i ∉ vs → wipe (σ.set i o) vs = (wipe σ vs).set i o := fun vs => by
          induction vs with
          | nil => intro _; rfl
          | cons w ws ih =>
            intro hn
            show (wipe (σ.set i o) ws).set w none = ((wipe σ ws).set w none).set i o
            rw [ih (fun z => hn (List.mem_cons_of_mem _ z)), List.set_comm _ _ (fun z => hn (by rw [z]; exact List.mem_cons_self))]
        rw [push vs hv, List.set_set]
      · exact absurd h hv
theorem wipe_wipe (σ : L2.St) : ∀ vs : List Nat, wipe (wipe σ vs) vs = wipe σ vs := fun vs => by
  have gen : ∀ (us : List Nat), (∀ u ∈ us, u ∈ vs) → wipe (wipe σ us) vs = wipe σ vs := fun us => by
    induction us with
    | nil => intro _; rfl
    | cons u us ih =>
      intro h
      show wipe ((wipe σ us).set u none) vs = _
      rw [wipe_set (h u List.mem_cons_self), ih fun w hw => h w (List.mem_cons_of_mem _ hw)]
  exact gen vs fun _ h => h
/-- a target that stores into own names alone -/
def Own (vs : List Nat) (g : TG) : Prop := ∀ (v : V) (σ : L2.St) (H : Hp) (Q : L2.St → Hp → Prop), g v σ H Q → g v σ H fun σ2 H2 => wipe σ2 vs = wipe σ vs ∧ Q σ2 H2
def Owns (vs : List Nat) (g : TGs) : Prop := ∀ (v : List V) (σ : L2.St) (H : Hp) (Q : L2.St → Hp → Prop), g v σ H Q → g v σ H fun σ2 H2 => wipe σ2 vs = wipe σ vs ∧ Q σ2 H2
theorem own_name {i : Nat} {vs : List Nat} (h : i ∈ vs) : Own vs (gName i) := fun v σ H Q q => ⟨wipe_set h, q⟩
theorem owns_nil {vs : List Nat} : Owns vs gNil := fun v σ H Q q => ⟨q.1, rfl, q.2⟩
theorem owns_cons {vs : List Nat} {g : TG} {gs : TGs} (h1 : Own vs g) (h2 : Owns vs gs) (hm : ∀ v σ H (Q Q' : L2.St → Hp → Prop), (∀ a b, Q a b → Q' a b) → g v σ H Q → g v σ H Q') (hm2 : ∀ v σ H (Q Q' : L2.St → Hp → Prop), (∀ a b, Q a b → Q' a b) → gs v σ H Q → gs v σ H Q') : Owns vs (gCons g gs) := fun v σ H Q ⟨x, r, e, q⟩ => by
  refine ⟨x, r, e, hm _ _ _ _ _ (fun σ2 H2 h => ?_) (h1 x σ H _ q)⟩
  exact hm2 _ _ _ _ _ (fun σ3 H3 h3 => ⟨h3.1.trans h.1, h3.2⟩) (h2 r σ2 H2 Q h.2)
theorem own_tup {K : PySem.W.Frag} {vs : List Nat} {n : Nat} {gs : TGs} (h : Owns vs gs) : Own vs (gTup K n gs) := fun v σ H Q ⟨a, xs, e, h1, h2, q⟩ => ⟨a, xs, e, h1, h2, h xs σ H Q q⟩
theorem own_wp {vs : List Nat} {g : TG} (h : Own vs g) : Wp g vs := fun v σ H Q q => by
  have := h v (wipe σ vs) H Q q
  rwa [wipe_wipe] at this
theorem mono_name {i : Nat} : ∀ (v : V) (σ : L2.St) (H : Hp) (Q Q' : L2.St → Hp → Prop), (∀ a b, Q a b → Q' a b) → gName i v σ H Q → gName i v σ H Q' := fun _ _ _ _ _ h q => h _ _ q
theorem mono_nil : ∀ (v : List V) (σ : L2.St) (H : Hp) (Q Q' : L2.St → Hp → Prop), (∀ a b, Q a b → Q' a b) → gNil v σ H Q → gNil v σ H Q' := fun _ _ _ _ _ h q => ⟨q.1, h _ _ q.2⟩
theorem mono_cons {g : TG} {gs : TGs} (hm : ∀ v σ H (Q Q' : L2.St → Hp → Prop), (∀ a b, Q a b → Q' a b) → g v σ H Q → g v σ H Q') (hm2 : ∀ v σ H (Q Q' : L2.St → Hp → Prop), (∀ a b, Q a b → Q' a b) → gs v σ H Q → gs v σ H Q') :
    ∀ (v : List V) (σ : L2.St) (H : Hp) (Q Q' : L2.St → Hp → Prop), (∀ a b, Q a b → Q' a b) → gCons g gs v σ H Q → gCons g gs v σ H Q' := fun v σ H Q Q' h ⟨x, r, e, q⟩ => ⟨x, r, e, hm _ _ _ _ _ (fun a b q => hm2 _ _ _ _ _ h q) q⟩
theorem wp_two {K : PySem.W.Frag} {n i j : Nat} : Wp (gTup K n (gCons (gName i) (gCons (gName j) gNil))) [i, j] :=
  own_wp (own_tup (owns_cons (own_name List.mem_cons_self) (owns_cons (own_name (by simp)) owns_nil mono_name mono_nil) mono_name (mono_cons mono_name mono_nil)))
/-! ### name = [..] -/
section
variable {X : Cx} {cv : Nat → Value} {W : WX} {elt tg iter : Expr} {ifs : List Expr} {scope : Scope} {own : List (Str × Nat)} {pos spos py : Pos} {g : TG} {t : TgD} {c : DT} {e f : D} {i : Nat} {y : Str}
theorem set_td {f : D} {D : Ends} {σ : L2.St} {H : Hp} (h : TSD (Gm X cv) W (sSet i f) D σ H) : TD (Gm X cv) W f σ H fun x H1 => gName i x σ H1 D.nx := by
  obtain ⟨ι, ρ, S, hs, hh, q⟩ := h
  exact ⟨ι, ρ, S, hs, hh, FinS.bind q hs fun x S1 ι1 H1 u e1 h1 r1 q1 => q1.next h1 ((hs.ext e1).set r1 i)⟩
theorem ps_setLcC (hc : X.calm = true) (hN : X.N.Nodup) (hy : X.N[i]? = some y) (hyl : X.env.scope.names.lookup y = some .local) (hsw : swapsWith (.ListComp elt [⟨tg, iter, ifs, 0⟩] scope pos) (some (.Name y py)) spos.line X.env = pure true)
    (hi : PE X iter (TD (Gm X cv) W f)) (L : LcOk X cv elt tg ifs scope own g t c e) (hs : ∀ x, foldedSetIterable iter X.env x = pure x := by intro _; rfl) :
    PS X (.Assign [.Name y py] (.ListComp elt [⟨tg, iter, ifs, 0⟩] scope pos) spos) (TSD (Gm X cv) W (sSet i (dLCC f t c e (own.map (·.2))))) :=
  (ps_setLc hc hN hy hyl hsw (pi_list hi) L.ok L.tg L.ifs L.elt hs).imp fun D σ H h => lcC L.tok L.wp σ H _ (set_td h)
theorem ps_setLcT (hc : X.calm = true) (hN : X.N.Nodup) (hy : X.N[i]? = some y) (hyl : X.env.scope.names.lookup y = some .local) (hsw : swapsWith (.ListComp elt [⟨tg, iter, ifs, 0⟩] scope pos) (some (.Name y py)) spos.line X.env = pure true)
    (hi : PE X iter (TD (Gm X cv) W f)) (L : LcOk X cv elt tg ifs scope own g t c e) (hs : ∀ x, foldedSetIterable iter X.env x = pure x := by intro _; rfl) :
    PS X (.Assign [.Name y py] (.ListComp elt [⟨tg, iter, ifs, 0⟩] scope pos) spos) (TSD (Gm X cv) W (sSet i (dLCT f t c e (own.map (·.2))))) :=
  (ps_setLc hc hN hy hyl hsw (pi_tup hi) L.ok L.tg L.ifs L.elt hs).imp fun D σ H h => lcT L.tok L.wp σ H _ (set_td h)
theorem ps_setLcR {a : Expr} {fa : DA} {p pos2 : Pos} (hc : X.calm = true) (hN : X.N.Nodup) (hy : X.N[i]? = some y) (hyl : X.env.scope.names.lookup y = some .local) (hsw : swapsWith (.ListComp elt [⟨tg, .Call (.Name "range" p) [a] [] pos2, ifs, 0⟩] scope pos) (some (.Name y py)) spos.line X.env = pure true)
    (hgl : Gl X "range") (hm : X.mg "range" = none) (hi : PA X [a] (TDA (Gm X cv) W fa)) (L : LcOk X cv elt tg ifs scope own g t c e)
    (hst : starEach [a] X.env = [(false, eval a X.env)] := by rfl) (hs : ∀ x, foldedSetIterable (.Call (.Name "range" p) [a] [] pos2) X.env x = pure x := by intro _; rfl) :
    PS X (.Assign [.Name y py] (.ListComp elt [⟨tg, .Call (.Name "range" p) [a] [] pos2, ifs, 0⟩] scope pos) spos) (TSD (Gm X cv) W (sSet i (dLCR fa t c e (own.map (·.2))))) :=
  (ps_setLc hc hN hy hyl hsw (pi_range1 hgl hm hi hst) L.ok L.tg L.ifs L.elt hs).imp fun D σ H h => lcR L.tok L.wp σ H _ (set_td h)
end
end PD

/-! ## PDTry -/
set_option Elab.async false
set_option linter.all false
set_option maxRecDepth 100000
set_option maxHeartbeats 1000000
/-! several clauses, some of which name the error -/
namespace PD
open PySem PySem.Spec PyProof.Rows L2
/-- an error that has come to this frame's clauses -/
structure Down (X : Cx) (pins : List (Addr × Obj)) (σ : L2.St) (H : Hp) (a : Addr) (cls : Value) (d : Option Addr) (s : Shared) : Prop where
  na : H a = none
  ex : ∃ (B : Heap) (t : Shared), Inv X pins σ H t ∧ (∀ b o, t.heap.get? b = some o → b ∉ frs X.stack → B.get? b = some o) ∧ t.heap.UpToSlots s.heap ∧ HandSPX.FlyingZ B (X.env :: X.outer) a (Zc cls d) s.heap ∧ s.os = t.os ∧ AllBare s.gens
section
variable {X : Cx} {pins : List (Addr × Obj)} {σ : L2.St} {H : Hp} {a : Addr} {cls c : Value} {d : Option Addr} {s : Shared} {W : WX} {D : Ends} {x : Str} {np pos : Pos}
theorem Down.inv (w : Down X pins σ H a cls d s) : Inv X pins σ H s := by
  obtain ⟨_, _, j, j1, j2, j3, j4, j5⟩ := w.ex
  exact j.landed j1 j3.1 j2 j4 j5
theorem Down.pinned (w : Down X pins σ H a cls d s) (hf : X.env.frame = some X.env.locals) : ∃ o : Obj, Zc cls d o ∧ (∃ fv, o.data = .fields fv) ∧ s.heap.get? a = some o ∧ Inv (X.suite a ((a, o) :: (X.pn ++ pins))) [] σ H s := by
  obtain ⟨_, _, j, j1, j2, j3, j4, j5⟩ := w.ex
  obtain ⟨o, fv, g1, g2, g3⟩ := j3.there
  have out : a ∉ frs (X.env :: X.outer) := fun m => by
    obtain ⟨_, _, g4, no⟩ := j3.2.2.1.mem m
    cases g1.symm.trans g4
    exact no _ g3
  refine ⟨o, g2, ⟨fv, g3⟩, g1, w.inv.suite g1 g3 w.na (fun z => ?_) fun m => ?_⟩
  · refine out (List.mem_filterMap.mpr ⟨_, List.mem_cons_self, ?_⟩)
    rw [z]; exact hf
  · obtain ⟨v, v1, v2⟩ := List.mem_filterMap.mp m
    refine out (List.mem_filterMap.mpr ⟨v, ?_, v2⟩)
    exact List.mem_cons_of_mem _ v1
theorem Down.again {M : Model} {A : Around} {E : Value → Shared → Prop} {Q : Unit → Shared → Prop} (w : Down X pins σ H a cls d s) (q : ∀ s2, Down X pins σ H a cls d s2 → Q () s2) : wpAny M A (setFlight (.ref a) none) Q E s := by
  obtain ⟨B, t, j, j1, j2, j3, j4, j5⟩ := w.ex
  exact HandSPX.lands_againZ j3 fun h2 f2 u2 => q _ ⟨w.na, B, t, j, j1, j2.trans u2, f2, j4, j5⟩
theorem Down.test {R : Result → Shared → Prop} {b : Bool} (w : Down X pins σ H a cls d s) (hf : X.env.frame = some X.env.locals) (hc : Names X x c) (hb : PySem.W.exmOne X.K cls c = some b) (q : R (.ok (if b then .brk else .next)) s) :
    codeAny (model X.prog X.w) (X.A.mark (some (.ref a))) (.handlers (.ref a) [.ExceptHandler (some (.Name x np)) none [] pos] X.env) R s := by
  obtain ⟨o, z, _, g1, S⟩ := w.pinned hf
  have look : PySem.W.Looks (model X.prog X.w) s.heap (typeOf (.ref a)) cls := fun _ _ _ _ k h => wpAny_typeOf_ref (k _ _ g1) (by rw [z.1]; exact h)
  have m := PySem.W.exm_one (M := model X.prog X.w) w.inv.kIn look hb
  refine codeAny_handlers_test ?_
  obtain ⟨n1, n2, n3 | ⟨n3, n4, n5⟩⟩ := hc
  · exact ld_glob (X := X.suite a ((a, o) :: (X.pn ++ pins))) S n1 n3 (m.here q) n2
  · exact ld_blt (X := X.suite a ((a, o) :: (X.pn ++ pins))) S n1 n3 n4 (m.here q) n5 n2
/-- no clause is left: it flies on -/
theorem Down.on {Q : Flow → Shared → Prop} (w : Down X pins σ H a cls d s) (hs : X.stack = X.env :: X.outer) (hf : X.env.frame = some X.env.locals) (tk : Takes X W) (q : W cls d σ H) : wpAny (model X.prog X.w) X.A (handleBy (.ref a) X.env []) Q X.xe s := by
  obtain ⟨B, t, j, j1, j2, j3, j4, j5⟩ := w.ex
  obtain ⟨_, _, _, o, fv, T, _, _, g1, _, g2, g3, _⟩ := id j3
  refine wpAny_handleBy_nil ?_
  unfold PySem.passOn
  refine wpAny_bind (wpAny_field g1 g2 g3 ?_)
  rw [if_neg (by simp)]
  have up : wpAny (model X.prog X.w) X.A (setFlight (.ref a) X.env.frame) (fun _ s2 => wpAny (model X.prog X.w) X.A (throw (.ref a) : Sem Flow) Q X.xe s2) X.xe s := by
    rw [hf]
    exact HandSPX.setFlight_upZ j3 fun h2 f2 u2 => wpAny_throw (tk _ _ ⟨a, B, t, pins, σ, H, cls, d, rfl, j, j1, j2.trans u2, .inr (.inr (hs ▸ f2)), w.na, j4, j5, q⟩)
  first
    | exact wpAny_bind up
    | exact wpAny_bind (wpAny_pure (wpAny_bind up))
end
/-- behind a clause that names the error the name is gone -/
def gone (i : Nat) (D : Ends) : Ends := { D with nx := fun σ H => D.nx (σ.set i none) H, bk := fun σ H => D.bk (σ.set i none) H, ct := fun σ H => D.ct (σ.set i none) H }
abbrev Cl := Value × Option Nat × (Addr → Value → Option Addr → TS)
def ofCl (D : Ends) (σ : L2.St) (H : Hp) (cls : Value) (d : Option Addr) : Cl → Addr → Prop
  | (_, none, ts), a => ts a cls d D σ H
  | (_, some i, ts), a => ts a cls d (gone i D) (σ.set i (some (.ref a))) H
def wCls (K : PySem.W.Frag) (W : WX) (D : Ends) : List Cl → WX
  | [] => W
  | k :: r => fun cls d σ H => ∃ b, PySem.W.exmOne K cls k.1 = some b ∧ (b = true → ∀ a, H a = none → ofCl D σ H cls d k a) ∧ (b = false → wCls K W D r cls d σ H)
def NmOk (X : Cx) : Option Str → Option Nat → Prop
  | none, none => True
  | some n, some i => X.N[i]? = some n ∧ X.env.kindOf n = some .local
  | _, _ => False
inductive Hds (X : Cx) : List ExceptHandler → List Cl → Prop
  | nil : Hds X [] []
  | cons {x : Str} {c : Value} {n : Option Str} {i : Option Nat} {ts : Addr → Value → Option Addr → TS} {b : Stmt} {bs : List Stmt} {np pos : Pos} {r : List ExceptHandler} {l : List Cl} (hc : Names X x c) (hn : NmOk X n i)
      (hb : ∀ (a : Addr) (o : Obj) (cls : Value) (d : Option Addr) (pn : List (Addr × Obj)), Zc cls d o → (∃ fv, o.data = .fields fv) → PSs (X.suite a ((a, o) :: pn)) (b :: bs) (ts a cls d)) (hr : Hds X r l) :
      Hds X (.ExceptHandler (some (.Name x np)) n (b :: bs) pos :: r) ((c, i, ts) :: l)
section
variable {X : Cx} {pins : List (Addr × Obj)} {W : WX} {D : Ends} {hds : List ExceptHandler} {l : List Cl}
theorem go_clauses (hs : X.stack = X.env :: X.outer) (hf : X.env.frame = some X.env.locals) (hN : X.N.Nodup) (tk : Takes X W) (ok : X.Ok) {σ : L2.St} {H : Hp} {a : Addr} {cls : Value} {d : Option Addr} {s : Shared} (w : Down X pins σ H a cls d s) (h : Hds X hds l)
    (q : wCls X.K W D l cls d σ H) : wpAny (model X.prog X.w) X.A (handleBy (.ref a) X.env hds) (SP X pins D) X.xe s := by
  induction h with
  | nil => exact w.on hs hf tk q
  | @cons x c n i ts b bs np pos r l hc hn hb hr ih =>
    obtain ⟨y, y1, y2, y3⟩ := q
    refine wpAny_handleBy_cons (w.test hf hc y1 ?_) (by intro z; cases z)
    cases y with
    | false => exact ih (y3 rfl)
    | true =>
      have y2 := y2 rfl a w.na
      cases n with
      | none =>
        cases i with
        | some i => exact hn.elim
        | none =>
          refine codeAny_handlers_suite (w.again fun s2 w2 => ?_)
          obtain ⟨o, z, fv, _, S⟩ := w2.pinned hf
          refine wpAny_mono ((hb a o cls d _ z fv).run [] s2 σ H D S y2) (fun f s3 e => ?_) fun _ _ z => False.elim z
          cases f with
          | ret u => exact e.elim fun v e => e.elim fun σ3 e => e.elim fun H3 e => ⟨v, σ3, H3, e.1.unsuite ok, e.2⟩
          | next => exact e.elim fun σ3 e => e.elim fun H3 e => ⟨σ3, H3, e.1.unsuite ok, e.2⟩
          | brk => exact e.elim fun σ3 e => e.elim fun H3 e => ⟨σ3, H3, e.1.unsuite ok, e.2⟩
          | cont => exact e.elim fun σ3 e => e.elim fun H3 e => ⟨σ3, H3, e.1.unsuite ok, e.2⟩
      | some n =>
        cases i with
        | none => exact hn.elim
        | some i =>
          obtain ⟨n1, n2⟩ := hn
          refine codeAny_handlers_suite_as (w.again fun s2 w2 => ?_)
          obtain ⟨o, z, fv, _, S⟩ := w2.pinned hf
          refine store_ok (X := X.suite a ((a, o) :: (X.pn ++ pins))) (v := .ref a) S hN n1 (.inl n2) rfl (fun s3 S3 => ?_) (.inr n2)
          refine wpAny_mono ((hb a o cls d _ z fv).run [] s3 _ H _ S3 y2) (fun f s4 e => ?_) fun _ _ z => False.elim z
          cases f with
          | ret u => exact e.elim fun v e => e.elim fun σ3 e => e.elim fun H3 e => gone_ok (e.1.unsuite ok) hN n1 n2 fun _ J => ⟨v, _, H3, J, e.2⟩
          | next => exact e.elim fun σ3 e => e.elim fun H3 e => gone_ok (e.1.unsuite ok) hN n1 n2 fun _ J => ⟨_, H3, J, e.2⟩
          | brk => exact e.elim fun σ3 e => e.elim fun H3 e => gone_ok (e.1.unsuite ok) hN n1 n2 fun _ J => ⟨_, H3, J, e.2⟩
          | cont => exact e.elim fun σ3 e => e.elim fun H3 e => gone_ok (e.1.unsuite ok) hN n1 n2 fun _ J => ⟨_, H3, J, e.2⟩
/-- what an error of the body meets -/
def met (X : Cx) (pins : List (Addr × Obj)) (D : Ends) (hds : List ExceptHandler) : Value → Shared → Prop := fun u s1 => wpAny (model X.prog X.w) X.A (noteFrame u X.env) (fun _ s2 => wpAny (model X.prog X.w) X.A (setFlight u none)
  (fun _ s3 => wpAny (model X.prog X.w) X.A (handleBy u X.env hds) (SP X pins D) X.xe s3) X.xe s2) X.xe s1
theorem ps_try_cl {body : List Stmt} {h0 : ExceptHandler} {pos : Pos} {tb : WX → TS} (hs : X.stack = X.env :: X.outer) (hf : X.env.frame = some X.env.locals) (hN : X.N.Nodup) (tk : Takes X W)
    (hb : ∀ (W : WX) (pn : List (Addr × Obj)) (xe : Value → Shared → Prop), Takes (X.tr pn xe) W → PassesOwn (model X.prog X.w) X.A X.env xe → PSs (X.tr pn xe) body (tb W)) (hh : Hds X (h0 :: hds) l) :
    PS X (.Try body (h0 :: hds) [] [] pos) (fun D σ H => tb (wCls X.K W D l) D σ H) := by
  refine ⟨fun pins s σ H D I h => wpAny_Try_except ?_⟩
  have ok := I.ok
  have stk : X.A.frames = some (X.env :: X.outer) := ok.frames.trans (congrArg some hs)
  have meets : Takes (X.tr (X.pn ++ pins) (met X pins D (h0 :: hds))) (wCls X.K W D l) := by
    rintro u s1 ⟨a, B, t, p2, σ2, H2, cls, d, rfl, j, j1, j2, sky, na, j4, j5, q⟩
    refine Sky.land (B := B) Zc.steady stk hf (hs ▸ sky) fun h2 f2 u2 => ?_
    exact go_clauses hs hf hN tk ok ⟨na, B, t, j.ofTry ok, j1, j2.trans u2, f2, j4, j5⟩ hh q
  refine wpAny_mono ((hb _ _ _ meets PassesOwn.looking).run [] s σ H D (I.toTry _) h) (fun f s1 e => ?_) fun _ _ z => z
  cases f with
  | next => exact e.elim fun σ3 e => e.elim fun H3 e => wpAny_execs_nil ⟨σ3, H3, e.1.ofTry ok, e.2⟩
  | ret u => exact e.elim fun v e => e.elim fun σ3 e => e.elim fun H3 e => ⟨v, σ3, H3, e.1.ofTry ok, e.2⟩
  | brk => exact e.elim fun σ3 e => e.elim fun H3 e => ⟨σ3, H3, e.1.ofTry ok, e.2⟩
  | cont => exact e.elim fun σ3 e => e.elim fun H3 e => ⟨σ3, H3, e.1.ofTry ok, e.2⟩
end
end PD

/-! ## PDErr -/
set_option Elab.async false
set_option linter.all false
set_option maxRecDepth 100000
set_option maxHeartbeats 1000000
/-! errors with fields: a clause that names the error and keeps fields of it -/
namespace PD
open PySem PySem.Spec L2
theorem RS.hide {K : PySem.W.Frag} {ι : List Addr} {H : Hp} {ρ : Env} {σ : L2.St} (h : RS K ι H ρ σ) (i : Nat) (o : Option V) : RS K ι H (ρ.set i none) (σ.set i o) := by
  refine ⟨by simp [h.1], fun j y e => ?_⟩
  by_cases q : i = j
  · subst q
    by_cases hl : i < ρ.length
    · rw [List.getElem?_set_self hl] at e; cases e
    · rw [List.getElem?_eq_none (by simp; omega)] at e; cases e
  · rw [List.getElem?_set_ne q] at e
    obtain ⟨u, a, b⟩ := h.2 j y e
    exact ⟨u, by rw [List.getElem?_set_ne q]; exact a, b⟩
/-- a member of what the clause keeps: a constant, or a field of the error -/
abbrev Mb := Val ⊕ Str
def mbVal (e : Exn) : Mb → Option Val
  | .inl v => some v
  | .inr f => e.fs.lookup f
def sErTup (j : Nat) (ms : List Mb) (e : Exn) : SD := fun ρ S => match allSome (ms.map (mbVal e)) with
  | some xs => if xs.length ≤ 16777216 then .next (ρ.set j (some (.tup xs))) S else .stuck
  | none => .stuck
def sErLst (j : Nat) (ms : List Mb) (e : Exn) : SD := fun ρ S => match allSome (ms.map (mbVal e)) with
  | some xs => if xs.length ≤ 16777216 then .next (ρ.set j (some (.ref S.length))) (S ++ [.lst xs]) else .stuck
  | none => .stuck
/-- the members read: nothing changes -/
def MbOk (K : PySem.W.Frag) (a : Addr) (cls : Value) (d : Option Addr) (C : Addr) (i : Nat) (ms : List Mb) (t : TA) : Prop := ∀ (ι : List Addr) (H : Hp) (σ : L2.St) (e : Exn) (xs : List Val) (Q : List V → Hp → Prop),
  σ[i]? = some (some (.ref a)) → cls = .ref C → XF K ι H e.fs d → allSome (ms.map (mbVal e)) = some xs → (∀ vs, RVs K ι H xs vs → Q vs H) → t σ H Q
/-- a suite does as it says of the error -/
def SuOk (Γ : Cfg) (a : Addr) (cls : Value) (d : Option Addr) (C : Addr) (i : Nat) (b : Exn → SD) (t : TS) : Prop := ∀ (ι : List Addr) (H : Hp) (ρ : Env) (S : Store) (σ : L2.St) (e : Exn) (D : Ends),
  σ[i]? = some (some (.ref a)) → cls = .ref C → RS Γ.K ι H ρ σ → RH Γ.K ι H S → XF Γ.K ι H e.fs d → FinS Γ (fun _ _ _ _ => False) ι H D (b e ρ S) → t D σ H
section
variable {K : PySem.W.Frag} {Γ : Cfg} {a C : Addr} {cls : Value} {d : Option Addr} {i j : Nat} {ms : List Mb} {t : TA}
theorem allSome_cons {α : Type} {x : Option α} {r : List (Option α)} {zs : List α} (h : allSome (x :: r) = some zs) : ∃ y ys, x = some y ∧ allSome r = some ys ∧ zs = y :: ys := by
  unfold allSome at h
  split at h
  · rename_i y ys h2
    cases h
    exact ⟨y, ys, rfl, h2, rfl⟩
  · cases h
theorem mb_nil : MbOk K a cls d C i [] tNil := fun ι H σ e xs Q _ _ _ h q => by
  cases h
  exact q [] .nil
theorem mb_c {v : Val} {u : V} (r : ∀ ι H, RV K ι H v u) (h : MbOk K a cls d C i ms t) : MbOk K a cls d C i (.inl v :: ms) (tCons (L2.tC u) t) := fun ι H σ e xs Q h1 h2 h3 h4 q => by
  obtain ⟨y, ys, e1, e2, rfl⟩ := allSome_cons h4
  cases e1
  exact h ι H σ e ys _ h1 h2 h3 e2 fun vs rr => q _ (.cons (r ι H) rr)
theorem mb_f {f : Str} (h : MbOk K a cls d C i ms t) : MbOk K a cls d C i (.inr f :: ms) (tCons (tXf a cls d C f (tVar i)) t) := fun ι H σ e xs Q h1 h2 h3 h4 q => by
  obtain ⟨y, ys, e1, e2, rfl⟩ := allSome_cons h4
  have e1 : e.fs.lookup f = some y := e1
  cases d with
  | none =>
    have h3 : e.fs = [] := h3
    rw [h3] at e1; cases e1
  | some dd =>
    obtain ⟨_, fv, g1, g2⟩ := id h3
    obtain ⟨v, g3, g4⟩ := g2 f y e1
    exact ⟨_, h1, rfl, h2, dd, fv, v, rfl, g1, g3, h ι H σ e ys _ h1 h2 h3 e2 fun vs rr => q _ (.cons g4 rr)⟩
theorem su_tup (h : MbOk Γ.K a cls d C i ms t) : SuOk Γ a cls d C i (sErTup j ms) (tAsg (tTup t) (gName j)) := fun ι H ρ S σ e D h1 h2 hs hh hx q => by
  unfold sErTup at q
  split at q
  · rename_i xs ex
    split at q
    · rename_i hl
      refine h ι H σ e xs _ h1 h2 hx ex fun vs rr => ⟨by rw [← rr.length, sizeLine_eq]; exact hl, fun p hp => ?_⟩
      exact FinS.next (FinS.weak (Ext.fresh hp) q) (hh.fresh hp) ((hs.ext (Ext.fresh hp)).set (.tup (SqT.of upd_same) (rr.ext (Ext.fresh hp))) j)
    · exact q.elim
  · exact q.elim
theorem su_lst (h : MbOk Γ.K a cls d C i ms t) : SuOk Γ a cls d C i (sErLst j ms) (tAsg (tLst t) (gName j)) := fun ι H ρ S σ e D h1 h2 hs hh hx q => by
  unfold sErLst at q
  split at q
  · rename_i xs ex
    split at q
    · rename_i hl
      refine h ι H σ e xs _ h1 h2 hx ex fun vs rr => ⟨by rw [← rr.length, sizeLine_eq]; exact hl, fun p hp => ?_⟩
      exact FinS.next (FinS.weak (Ext.alloc hp) q) (hh.alloc hp rr) ((hs.ext (Ext.alloc hp)).set (.ref (by rw [← hh.len]; simp)) j)
    · exact q.elim
  · exact q.elim
end
/-! ### the clauses by value -/
def outE (i : Nat) (r : SRes) : SRes := match r with
  | .next ρ S => .next (ρ.set i none) S
  | .brk ρ S => .brk (ρ.set i none) S
  | .cont ρ S => .cont (ρ.set i none) S
  | .ret v S => .ret v S
  | .exc _ _ _ => .stuck
  | .stuck => .stuck
abbrev ClD := Nat × Option Nat × (Exn → SD)
def sHdsE (n : Nat) (mt : Nat → Nat → Bool) : List ClD → Exn → SD
  | [], e, ρ, S => .exc e ρ S
  | (k, i, b) :: r, e, ρ, S => if e.cls < n ∧ k < n then (if mt e.cls k = true then (match i with
    | none => noExc (b e ρ S)
    | some i => if e.cls = k ∧ i < ρ.length then outE i (b e (ρ.set i none) S) else .stuck) else sHdsE n mt r e ρ S) else .stuck
def sTryE (n : Nat) (mt : Nat → Nat → Bool) (b : SD) (hds : List ClD) : SD := fun ρ S => match b ρ S with
  | .exc e ρ1 S1 => sHdsE n mt hds e ρ1 S1
  | r => r
theorem FinS.outE {Γ : Cfg} {W W' : WX} {ι : List Addr} {H : Hp} {D : Ends} {i : Nat} {r : SRes} (h : FinS Γ W ι H D (outE i r)) : FinS Γ W' ι H (gone i D) r := by
  cases r with
  | next ρ S => exact fun ι2 H2 σ2 e a b => h ι2 H2 _ e a (b.hide i none)
  | brk ρ S => exact fun ι2 H2 σ2 e a b => h ι2 H2 _ e a (b.hide i none)
  | cont ρ S => exact fun ι2 H2 σ2 e a b => h ι2 H2 _ e a (b.hide i none)
  | ret v S => exact h
  | exc e ρ S => exact h.elim
  | stuck => exact h.elim
inductive HdsV (X : Cx) (cv : Nat → Value) : List ExceptHandler → List ClD → List Cl → Prop
  | nil : HdsV X cv [] [] []
  | plain {x : Str} {c : Nat} {sd : SD} {b₀ : Stmt} {bs : List Stmt} {np pos : Pos} {r : List ExceptHandler} {l : List ClD} {m : List Cl} (hc : Names X x (cv c))
      (hb : ∀ (a : Addr) (pn : List (Addr × Obj)), PSs (X.suite a pn) (b₀ :: bs) (TSD (Gm (X.suite a pn) cv) (fun _ _ _ _ => False) sd)) (hr : HdsV X cv r l m) :
      HdsV X cv (.ExceptHandler (some (.Name x np)) none (b₀ :: bs) pos :: r) ((c, none, fun _ => sd) :: l) ((cv c, none, fun _ _ _ => TSD ⟨X.K, cv⟩ (fun _ _ _ _ => False) sd) :: m)
  | named {x n : Str} {c i : Nat} {C : Addr} {b : Exn → SD} {b₀ : Stmt} {bs : List Stmt} {np pos : Pos} {ts : Addr → Value → Option Addr → TS} {r : List ExceptHandler} {l : List ClD} {m : List Cl} (hc : Names X x (cv c)) (hC : cv c = .ref C) (hi : X.N[i]? = some n)
      (hl : X.env.kindOf n = some .local) (hb : ∀ (a : Addr) (o : Obj) (cls : Value) (d : Option Addr) (pn : List (Addr × Obj)), Zc cls d o → (∃ fv, o.data = .fields fv) → PSs (X.suite a ((a, o) :: pn)) (b₀ :: bs) (ts a cls d))
      (hs : ∀ (a : Addr) (cls : Value) (d : Option Addr), SuOk ⟨X.K, cv⟩ a cls d C i b (ts a cls d)) (hr : HdsV X cv r l m) :
      HdsV X cv (.ExceptHandler (some (.Name x np)) (some n) (b₀ :: bs) pos :: r) ((c, some i, b) :: l) ((cv c, some i, ts) :: m)
section
variable {X : Cx} {cv : Nat → Value} {W : WX} {hds : List ExceptHandler} {l : List ClD} {m : List Cl}
theorem HdsV.ok (h : HdsV X cv hds l m) : Hds X hds m := by
  induction h with
  | nil => exact .nil
  | plain hc hb _ ih => exact .cons hc trivial (fun a o cls d pn _ _ => hb a ((a, o) :: pn)) ih
  | named hc _ hi hl hb _ _ ih => exact .cons hc ⟨hi, hl⟩ hb ih
theorem HdsV.go {n : Nat} {mt : Nat → Nat → Bool} (C : Clss X.K cv n mt) {D : Ends} {ι : List Addr} {H : Hp} {ρ : Env} {σ : L2.St} {S : Store} {e : Exn} {d : Option Addr} (hs : RS X.K ι H ρ σ) (hh : RH X.K ι H S) (hx : XF X.K ι H e.fs d) (h : HdsV X cv hds l m)
    (q : FinS (Gm X cv) W ι H D (sHdsE n mt l e ρ S)) : wCls X.K W D m (cv e.cls) d σ H := by
  induction h with
  | nil => exact q ι H σ d .refl hh hs hx
  | @plain x c sd b₀ bs np pos r l m hc hb hr ih =>
    have q : FinS (Gm X cv) W ι H D (if e.cls < n ∧ c < n then (if mt e.cls c = true then noExc (sd ρ S) else sHdsE n mt l e ρ S) else .stuck) := q
    split at q
    · rename_i hk
      refine ⟨_, C.ok _ _ hk.1 hk.2, fun hb a ha => ?_, fun hb => ih ?_⟩
      · rw [if_pos hb] at q
        exact ⟨ι, ρ, S, hs, hh, FinS.noexc q⟩
      · rwa [if_neg (by rw [hb]; decide)] at q
    · exact q.elim
  | @named x nm c i Ca b b₀ bs np pos ts r l m hc hC hi hl hb hsu hr ih =>
    have q : FinS (Gm X cv) W ι H D (if e.cls < n ∧ c < n then (if mt e.cls c = true then (if e.cls = c ∧ i < ρ.length then outE i (b e (ρ.set i none) S) else .stuck) else sHdsE n mt l e ρ S) else .stuck) := q
    split at q
    · rename_i hk
      refine ⟨_, C.ok _ _ hk.1 hk.2, fun hb a ha => ?_, fun hb => ih ?_⟩
      · rw [if_pos hb] at q
        split at q
        · rename_i h2
          refine hsu a (cv e.cls) d ι H (ρ.set i none) S (σ.set i (some (.ref a))) e (gone i D) ?_ (by rw [h2.1]; exact hC) (hs.hide i _) hh hx (FinS.outE q)
          rw [List.getElem?_set_self (by rw [← hs.1]; exact h2.2)]
        · exact q.elim
      · rwa [if_neg (by rw [hb]; decide)] at q
    · exact q.elim
theorem ps_tryE {n : Nat} {mt : Nat → Nat → Bool} {as : List Stmt} {h₀ : ExceptHandler} {bd : SD} {pos : Pos} (C : Clss X.K cv n mt) (hs : X.stack = X.env :: X.outer) (hf : X.env.frame = some X.env.locals) (hN : X.N.Nodup) (tk : Takes X W)
    (hb : ∀ (W : WX) (pn : List (Addr × Obj)) (xe : Value → Shared → Prop), Takes (X.tr pn xe) W → PassesOwn (model X.prog X.w) X.A X.env xe → PSs (X.tr pn xe) as (TSD (Gm (X.tr pn xe) cv) W bd)) (hh : HdsV X cv (h₀ :: hds) l m) :
    PS X (.Try as (h₀ :: hds) [] [] pos) (TSD (Gm X cv) W (sTryE n mt bd l)) :=
  (ps_try_cl (tb := fun W => TSD ⟨X.K, cv⟩ W bd) hs hf hN tk hb hh.ok).imp fun D σ H ⟨ι, ρ, S, rs, rh, q⟩ => by
    refine ⟨ι, ρ, S, rs, rh, ?_⟩
    revert q
    show FinS _ _ _ _ _ (match bd ρ S with | .exc e ρ1 S1 => sHdsE n mt l e ρ1 S1 | r => r) → FinS _ _ _ _ _ (bd ρ S)
    cases bd ρ S with
    | exc e ρ1 S1 => exact fun q ι' H' σ' d x1 x2 x3 x4 => hh.go C x3 x2 x4 (FinS.weak x1 q)
    | _ => exact fun q => q
end
end PD

/-! ## PDRaise -/
set_option Elab.async false
set_option linter.all false
set_option maxRecDepth 100000
set_option maxHeartbeats 1000000
/-! an error with one field is raised: its class has an __init__ of the one row self.f = f -/
namespace PD
open PySem PySem.Spec L2
/-- what such an __init__ does -/
def iniS (C : Addr) (f : Str) : Sp := fun vs H Q _ => ∃ (a : Addr) (v : V), vs = [.ref a, v] ∧ H a = some (exo a C none) ∧ ∀ dx, H dx = none → dx ≠ a → Q .non (upd (upd H dx (exd dx [(f, v)])) a (exo a C (some dx)))
theorem ini_ok {P : Program} {w : World} {K : PySem.W.Frag} {mg : Str → Option Value} {base : Heap} {qual f : Str} {st : Stmt} {fI C : Addr} {fd : FuncData} {N ps : List Str} (F : Fun K "__init__" qual st fI fd) (S : FnScope N ps (defScope st)) (h2 : ps.length = 2) (hN : N.length = 2) (T : OexC K C)
    (hn : PySem.W.findIn K (.ref C) f = some none)
    (hder : ∀ (cdv : Value) (A : Around) (outer : List PySem.Env) (s : Shared) (H : Hp) (E : XK), PSs (cxOf CX0 P w K mg base N qual (defScope st) fI cdv A outer s H E).nox (defBody st) (tOst K f (tVar 0) (tVar 1))) : FnOk P w K mg base CX0 1 fI fd ps (iniS C f) := by
  refine Fun.ok F S (fun vs H Q E h => ?_) fun cdv A outer s H vs Q E hr h => ⟨_, hder cdv A outer s H E, ?_⟩
  · obtain ⟨a, v, rfl, _⟩ := h
    exact h2.symm
  · obtain ⟨a, v, rfl, e, q⟩ := h
    have es : L2.start N [.ref a, v] = [some (.ref a), some v] := by
      unfold L2.start
      rw [hN]; rfl
    rw [es]
    exact ⟨v, rfl, .ref a, rfl, a, C, rfl, T, hn, .inl ⟨e, fun dx n ne => q dx n ne⟩⟩
/-- the denotation: lv calls may be nested yet -/
def sRaiseF (c : Nat) (f : Str) (d : D) (lv : Nat) : SD := fun ρ S => if 2 ≤ lv then (d ρ S).toS ρ fun x S1 => .exc ⟨c, [(f, x)]⟩ ρ S1 else .stuck
theorem xd_of {H : Hp} {a dx C : Addr} {f : Str} {v : V} (hd : H dx = none) (ha : H a = none) (ne : dx ≠ a) : upd (del (upd (upd (upd H a (exo a C none)) dx (exd dx [(f, v)])) a (exo a C (some dx))) a) dx (.xd [(f, v)]) = upd H dx (.xd [(f, v)]) := by
  funext b
  by_cases h1 : b = dx
  · rw [h1, upd_same, upd_same]
  · rw [upd_ne h1, upd_ne h1]
    by_cases h2 : b = a
    · rw [h2, del_same, ha]
    · rw [del_ne h2, upd_ne h2, upd_ne h1, upd_ne h2]
section
variable {X : Cx} {cv : Nat → Value} {W : WX}
theorem ps_raiseF {c k lv : Nat} {C fI : Addr} {x f : Str} {fd : FuncData} {ps : List Str} {e : Expr} {d : D} {p pos pos' : Pos} (hcm : X.calm = true) (tk : Takes X W) (hC : cv c = .ref C) (T : OexC X.K C) (iC : PySem.W.findIn X.K (.ref C) "__init__" = some (some (.ref fI)))
    (tI : PySem.W.typeIn X.K (.ref fI) = some (.type "function")) (F1 : FnOk X.prog X.w X.K X.mg X.base CX0 1 fI fd ps (iniS C f)) (hlv : lv = k) (hr : Room k X.A) (hb : Binds X.K fd ps []) (hg : Gl X x) (hm : X.mg x = some (.ref C)) (he : PE X e (TD (Gm X cv) W d))
    (hdb : (x == ("__debug__" : Str)) = false := by decide) (hst : starEach [e] X.env = (false, eval e X.env) :: starEach [] X.env := by rfl) :
    PS X (.Raise (some (.Call (.Name x p) [e] [] pos)) none pos') (TSD (Gm X cv) W (sRaiseF c f d lv)) := by
  by_cases h2 : 2 ≤ lv
  · refine (ps_raise hcm tk (pmk_oex T iC tI F1 (hr.mono (by omega)) hb .nil pass0 hg hm (pa_cons he pa_nil hst) hdb hst)).imp fun D σ H ⟨ι, ρ, S, hs, hh, q⟩ => ?_
    have q : FinS (Gm X cv) W ι H D ((d ρ S).toS ρ fun x S1 => .exc ⟨c, [(f, x)]⟩ ρ S1) := by
      have q := q
      unfold sRaiseF at q
      rwa [if_pos h2] at q
    refine ⟨ι, ρ, S, hs, hh, FinS.bind q hs fun xv S1 ι1 H1 v e1 h1 r1 q1 => ⟨Nat.le_of_ble_eq_true rfl, fun a na => ⟨a, v, rfl, upd_same, fun dx hn ne => ⟨rfl, dx, [(f, v)], upd_same, ?_, ?_, ?_⟩⟩⟩⟩
    · rw [upd_ne ne, upd_same]
    · rwa [upd_ne ne] at hn
    · rw [upd_ne ne] at hn
      rw [xd_of hn na ne, ← hC]
      refine q1 ι1 _ σ (some dx) (Ext.fresh hn) (h1.fresh hn) ((hs.ext e1).ext (Ext.fresh hn)) ⟨List.cons_ne_nil _ _, _, upd_same, fun g y hy => ?_⟩
      have hy : (match g == f with | true => some xv | false => none) = some y := hy
      have go : ∀ o, o = (g == f) → ∃ u, (match o with | true => some v | false => none : Option V) = some u ∧ RV X.K ι1 (upd H1 dx (.xd [(f, v)])) y u := fun o ho => by
        rw [← ho] at hy
        cases o with
        | true =>
          cases hy
          exact ⟨v, rfl, r1.ext (Ext.fresh hn)⟩
        | false => cases hy
      obtain ⟨u, u1, u2⟩ := go _ rfl
      refine ⟨u, ?_, u2⟩
      show (match g == f with | true => some v | false => List.lookup g []) = some u
      revert u1
      cases g == f <;> exact fun z => z
  · exact ⟨fun pins s σ H D I ⟨ι, ρ, S, hs, hh, q⟩ => by
      unfold sRaiseF at q
      rw [if_neg h2] at q
      exact q.elim⟩
end
/-! ### max of a list, any -/
def maxI : List Int → Int
  | [] => 0
  | [x] => x
  | x :: y :: r => max x (maxI (y :: r))
theorem maxI_mem : ∀ {xs : List Int}, xs ≠ [] → maxI xs ∈ xs
  | [x], _ => List.mem_cons_self
  | x :: y :: r, _ => by
    have h := maxI_mem (xs := y :: r) (by simp)
    show max x (maxI (y :: r)) ∈ _
    rcases Int.le_total x (maxI (y :: r)) with q | q
    · rw [Int.max_eq_right q]; exact List.mem_cons_of_mem _ h
    · rw [Int.max_eq_left q]; exact List.mem_cons_self
theorem le_maxI : ∀ {xs : List Int} {y : Int}, y ∈ xs → y ≤ maxI xs
  | [x], y, h => by rw [List.mem_singleton.mp h]; exact Int.le_refl _
  | x :: z :: r, y, h => by
    show y ≤ max x (maxI (z :: r))
    rcases List.mem_cons.mp h with rfl | h
    · exact Int.le_max_left _ _
    · exact Int.le_trans (le_maxI h) (Int.le_max_right _ _)
def bMaxL : Fn := fun xs S => match xs with
  | [.ref n] => match S[n]? with
    | some c => match allSome (c.items.map asI) with
      | some ns => if ns ≠ [] then okI (maxI ns) S else .stuck
      | none => .stuck
    | none => .stuck
  | _ => .stuck
theorem ok_maxL {K : PySem.W.Frag} : OKA K (rMax K) bMaxL := by
  intro cv ι H S xs us W Q hh rx q
  unfold bMaxL at q
  split at q
  · split at q
    · rename_i c ec
      split at q
      · rename_i bs eb
        split at q
        · rename_i hne
          cases rx with
          | cons r1 rr =>
            cases rr
            cases r1 with
            | ref hn =>
              obtain ⟨vs, rr, hq⟩ := (hh.ok _ _ _ hn ec).sq
              cases rvs_ints rr eb
              refine ⟨_, bs, rfl, hq, List.length_pos_iff.mpr hne, fun m hm hle => ?_⟩
              rw [show m = maxI bs from Int.le_antisymm (le_maxI hm) (hle _ (maxI_mem hne))]
              exact q ι H _ .refl hh (.int _)
        · exact q.elim
      · exact q.elim
    · exact q.elim
  · exact q.elim
def bAny : Fn := fun xs S => match xs with
  | [.ref n] => match S[n]? with
    | some c => match allSome (c.items.map asB) with
      | some bs => okB (bs.any id) S
      | none => .stuck
    | none => .stuck
  | _ => .stuck
theorem ok_any {K : PySem.W.Frag} : OKA K (rAny K) bAny := by
  intro cv ι H S xs us W Q hh rx q
  unfold bAny at q
  split at q
  · split at q
    · rename_i c ec
      split at q
      · rename_i bs eb
        cases rx with
        | cons r1 rr =>
          cases rr
          cases r1 with
          | ref hn =>
            obtain ⟨vs, rr, hq⟩ := (hh.ok _ _ _ hn ec).sq
            cases rvs_bools rr eb
            exact ⟨_, bs, rfl, hq, q ι H _ .refl hh (.bl _)⟩
      · exact q.elim
    · exact q.elim
  · exact q.elim
end PD

/-! ## PDIsE -/
set_option Elab.async false
set_option linter.all false
set_option maxRecDepth 100000
set_option maxHeartbeats 1000000
/-! a clause that asks isinstance of the error that it names; a longer text times an int -/
namespace PD
open PySem PySem.Spec L2
def oRepS2 : Op2 := fun x y S => match x, y with
  | .str z, .int k => if 1 ≤ k ∧ k ≤ 1000000 ∧ 1 ≤ z.length ∧ z.length ≤ 16 then .ok (.str (Txt.mul z k)) S else .stuck
  | _, _ => .stuck
def rRepS2 : L2.R2 := fun x y H Q => ∃ z k, x = .str z ∧ y = .int k ∧ 1 ≤ k ∧ k ≤ 1000000 ∧ 1 ≤ z.length ∧ z.length ≤ 16 ∧ Q (.str (Txt.mul z k)) H
theorem op_repS2 {X : Cx} : OpR X (binaryOp .Mult) rRepS2 := by
  intro pins s σ H x y v u Q I rx ry h
  obtain ⟨z, k, rfl, rfl, h1, h2, h3, h4, q⟩ := h
  obtain ⟨t, rfl⟩ := rx
  obtain ⟨t', rfl⟩ := ry
  have hm : (z.length : Int) * k ≤ 16000000 := by
    have a : (z.length : Int) * k ≤ 16 * k := Int.mul_le_mul_of_nonneg_right (by omega) (by omega)
    omega
  refine SB.mul ⟨by simp only [Bool.or_eq_false_iff, decide_eq_false_iff_not]; omega, fun _ _ => ?_, fun _ _ => ?_⟩ fun t' k' => ?_
  · have : (z.length : Int) ≤ (2 ^ 63 - 1) / k := Int.le_ediv_of_mul_le (by omega) (by omega)
    omega
  · unfold Builtin.Str.tooLong
    rw [sizeLine_eq]
    refine decide_eq_false ?_
    have e : (z.length * k.toNat : Nat) ≤ 16000000 := by
      have : ((z.length * k.toNat : Nat) : Int) ≤ 16000000 := by
        rw [Int.natCast_mul, Int.toNat_of_nonneg (by omega)]; exact hm
      omega
    omega
  · exact ⟨.str _, H, I.tok _, ⟨_, rfl⟩, q⟩
theorem ok_repS2 {K : PySem.W.Frag} : OK2 K rRepS2 oRepS2 := by
  intro cv ι H S x y u v W Q hh rx ry q
  cases rx with
  | str z =>
    cases ry with
    | int k =>
      have q : Fin ⟨K, cv⟩ W ι H Q (if 1 ≤ k ∧ k ≤ 1000000 ∧ 1 ≤ z.length ∧ z.length ≤ 16 then .ok (.str (Txt.mul z k)) S else .stuck) := q
      split at q
      · rename_i hc
        exact ⟨z, k, rfl, rfl, hc.1, hc.2.1, hc.2.2.1, hc.2.2.2, q ι H _ .refl hh (.str _)⟩
      · exact q.elim
    | _ => exact q.elim
  | _ => exact q.elim
/-! ### isinstance(error, D) in a clause that names the error -/
def rIsEx (K : PySem.W.Frag) (C a : Addr) (cls : Value) (d : Option Addr) : List V → Hp → VK → Prop := fun xs H Q => cls = .ref C ∧ d = none ∧ rIsE K C a xs H Q
theorem call_isEx {X : Cx} {a C : Addr} {cls : Value} {d : Option Addr} {oe : Obj} {pn : List (Addr × Obj)} (T : ExcC X.K C) (hz : Zc cls d oe) (hf : ∃ vs, oe.data = .fields vs) : CallR (X.suite a ((a, oe) :: pn)) (.builtin "isinstance") (rIsEx X.K C a cls d) := by
  intro pins s σ H xs us Q I r h
  obtain ⟨rfl, rfl, h⟩ := h
  exact call_isE T hz hf pins s σ H xs us Q I r h
theorem kit_t {K : PySem.W.Frag} {C D : Addr} (h2 : PySem.W.isClsIn K D = true) (h3 : PySem.W.typeIn K (.ref D) = some (.type "type")) (h4 : PySem.W.subIn K (.ref C) (.ref D) = some true) : PySem.W.kitOne K (.ref C) (.ref D) = some true := by
  have e2 : ((PySem.W.clsIn K D).isSome && PySem.W.typeIn K (.ref D) == some (.type "type")) = true := by
    rw [show (PySem.W.clsIn K D).isSome = true from h2, h3]; rfl
  have e3 : PySem.W.kitCls K (.ref C) (.ref D) = some true := by
    show (if ((PySem.W.clsIn K D).isSome && PySem.W.typeIn K (.ref D) == some (.type "type")) = true then PySem.W.subIn K (.ref C) (.ref D) else none) = some true
    rw [if_pos e2]; exact h4
  unfold PySem.W.kitOne
  rw [e3]
  exact ite_self _
/-- what the clause keeps -/
def sErIs (j : Nat) (b : Bool) (x y : Str) (e : Exn) : SD := fun ρ S => match e.fs with
  | [] => .next (ρ.set j (some (.str (if b = true then x else y)))) S
  | _ => .stuck
section
variable {Γ : Cfg} {a C D : Addr} {cls : Value} {d : Option Addr} {i j : Nat} {b : Bool} {x y : Str}
theorem su_is (hk : PySem.W.kitOne Γ.K (.ref C) (.ref D) = some b) : SuOk Γ a cls d C i (sErIs j b x y) (tAsg (tIf (tB (tCB (rIsEx Γ.K C a cls d) (tCons (tVar i) (tCons (L2.tC (.ref D)) tNil)))) (L2.tC (.str x)) (L2.tC (.str y))) (gName j)) := fun ι H ρ S σ e E h1 h2 hs hh hx q => by
  unfold sErIs at q
  split at q
  · rename_i ef
    have hd : d = none := by
      cases d with
      | none => rfl
      | some dd => exact absurd ef hx.1
    refine ⟨_, h1, h2, hd, .ref D, .ref D, b, rfl, fun u r => r, hk, b, rfl, ?_⟩
    cases b with
    | true => exact FinS.next q hh (hs.set (.str _) j)
    | false => exact FinS.next q hh (hs.set (.str _) j)
  · exact q.elim
end
end PD

/-! ## PDRun -/
set_option Elab.async false
set_option linter.all false
set_option maxRecDepth 100000
set_option maxHeartbeats 4000000
namespace PD
open PySem PySem.Spec L2
theorem w_var' {i : Nat} {ρ : PD.Env} {S : Store} {Q : Val → Store → Prop} : Run (dVar i ρ S) Q = match ρ[i]? with | some (some v) => Q v S | _ => False := by
  unfold dVar
  cases ρ[i]? with
  | none => rfl
  | some o => cases o <;> rfl
theorem run_alloc {xs : List Val} {S : Store} {Q : Val → Store → Prop} : Run (alloc xs S) Q = Q (.ref S.length) (S ++ [.lst xs]) := rfl
theorem run_okI {i : Int} {S : Store} {Q : Val → Store → Prop} : Run (okI i S) Q = Q (.int i) S := rfl
theorem run_okB {i : Bool} {S : Store} {Q : Val → Store → Prop} : Run (okB i S) Q = Q (.bl i) S := rfl
def Gr (S S' : Store) : Prop := ∃ G, S' = S ++ G
theorem Gr.refl (S : Store) : Gr S S := ⟨[], (List.append_nil S).symm⟩
theorem Gr.trans {S S' S2 : Store} (a : Gr S S') (b : Gr S' S2) : Gr S S2 := by
  obtain ⟨G, rfl⟩ := a
  obtain ⟨G', rfl⟩ := b
  exact ⟨G ++ G', List.append_assoc _ _ _⟩
theorem Gr.add (S : Store) (G : Store) : Gr S (S ++ G) := ⟨G, rfl⟩
theorem Gr.get {S S' : Store} (h : Gr S S') {n : Nat} {c : Cell} (e : S[n]? = some c) : S'[n]? = some c := by
  obtain ⟨G, rfl⟩ := h
  rw [List.getElem?_append_left (List.getElem?_eq_some_iff.mp e).1]; exact e
theorem get_new (S : Store) (c : Cell) : (S ++ [c])[S.length]? = some c := by simp
/-- the answer is a, and the store only grew -/
abbrev PureQ {α : Type} (S : Store) (a : α) : α → Store → Prop := fun b S' => b = a ∧ Gr S S'
/-- a comprehension over values, whose element is pure -/
theorem comp_pure {f : D} {v : Nat} {ρ : PD.Env} {g : Val → Val} : ∀ (xs : List Val) (i : Nat) (acc : List Val) (S0 S : Store), Gr S0 S → acc.length + xs.length < 16777216 →
    (∀ x ∈ xs, ∀ S', Gr S0 S' → Run (f (ρ.set v (some x)) S') (PureQ S' (g x))) → ∀ ys, ys.drop i = xs → i ≤ ys.length →
    Run (compG (srcL ys) (gN v) tYes' f xs.length i acc ρ S) (PureQ S (acc ++ xs.map g))
  | [], i, acc, S0, S, _, _, _, ys, hd, hi => by
    have : ys[i]? = none := by
      rw [List.getElem?_eq_none_iff]
      have := congrArg List.length hd
      simp at this; omega
    show Run (match srcL ys i S with | some none => Res.ok acc S | _ => .stuck) _
    unfold srcL
    rw [this]
    exact ⟨by simp, .refl S⟩
  | x :: xs, i, acc, S0, S, hg, hl, he, ys, hd, hi => by
    have hlt : i < ys.length := by
      have := congrArg List.length hd
      simp at this; omega
    have e0 := List.drop_eq_getElem_cons hlt
    rw [hd] at e0
    have hx : ys[i]? = some x := by rw [List.getElem?_eq_getElem hlt, (List.cons.inj e0).1]
    have hl' : acc.length + (xs.length + 1) < 16777216 := hl
    show Run (match srcL ys i S with
      | none => Res.stuck
      | some none => .ok acc S
      | some (some x) => match gN v x ρ with
        | none => .stuck
        | some ρ1 => (noX (tYes' ρ1 S)).bind fun b S1 => if b = true then (noX (f ρ1 S1)).bind fun y S2 => if acc.length < 16777216 then compG (srcL ys) (gN v) tYes' f xs.length (i + 1) (acc ++ [y]) ρ S2 else .stuck
            else compG (srcL ys) (gN v) tYes' f xs.length (i + 1) acc ρ S1) _
    have es : srcL ys i S = some (some x) := by unfold srcL; rw [hx]
    rw [es]
    show Run ((noX (f (ρ.set v (some x)) S)).bind fun y S2 => if acc.length < 16777216 then compG (srcL ys) (gN v) tYes' f xs.length (i + 1) (acc ++ [y]) ρ S2 else .stuck) _
    rw [run_bind, run_noX]
    refine Run.mono (he x List.mem_cons_self S hg) fun y S1 ⟨ey, g1⟩ => ?_
    rw [if_pos (by omega)]
    refine Run.mono (comp_pure (g := g) xs (i + 1) (acc ++ [y]) S0 S1 (hg.trans g1) (by simp; omega) (fun y hy => he y (List.mem_cons_of_mem _ hy)) ys (List.cons.inj e0).2.symm hlt) fun zs S2 ⟨ez, g2⟩ => ?_
    exact ⟨by rw [ez, ey]; simp, g1.trans g2⟩
theorem comp_pure0 {f : D} {g : Val → Val} {v : Nat} {ρ : PD.Env} (xs : List Val) (S : Store) (hl : xs.length < 16777216) (he : ∀ x ∈ xs, ∀ S', Gr S S' → Run (f (ρ.set v (some x)) S') (PureQ S' (g x))) :
    Run (compG (srcL xs) (gN v) tYes' f xs.length 0 [] ρ S) (PureQ S (xs.map g)) := by
  have := comp_pure (f := f) (g := g) (v := v) (ρ := ρ) xs 0 [] S S (.refl S) (by simpa using hl) he xs rfl (Nat.zero_le _)
  simpa using this
/-! ### data: what a value holds, to some depth -/
inductive Da (S : Store) : Nat → Val → Prop
  | non (d : Nat) : Da S d .non
  | bl (d : Nat) (b : Bool) : Da S d (.bl b)
  | int (d : Nat) (i : Int) : Da S d (.int i)
  | str (d : Nat) (z : Str) : (PyData.str z).canLay0 = true → Da S d (.str z)
  | tup {d : Nat} {xs : List Val} : (∀ x ∈ xs, Da S d x) → Da S (d + 1) (.tup xs)
  | ref {d n : Nat} {xs : List Val} : S[n]? = some (.lst xs) → (∀ x ∈ xs, Da S d x) → Da S (d + 1) (.ref n)
theorem Da.up {S : Store} {d : Nat} {v : Val} (h : Da S d v) : ∀ {e : Nat}, d ≤ e → Da S e v := by
  induction h with
  | non d => exact fun _ => .non _
  | bl d b => exact fun _ => .bl _ b
  | int d i => exact fun _ => .int _ i
  | str d z h => exact fun _ => .str _ z h
  | @tup d xs _ ih =>
    intro e he
    obtain ⟨e', rfl⟩ : ∃ e', e = e' + 1 := ⟨e - 1, by omega⟩
    exact .tup fun x hx => ih x hx (by omega)
  | @ref d n xs hn _ ih =>
    intro e he
    obtain ⟨e', rfl⟩ : ∃ e', e = e' + 1 := ⟨e - 1, by omega⟩
    exact .ref hn fun x hx => ih x hx (by omega)
/-- where another store has the same cells -/
theorem Da.same {S S' : Store} {d : Nat} {v : Val} (h : Da S d v) (k : ∀ (n : Nat) (c : Cell), S[n]? = some c → S'[n]? = some c) : Da S' d v := by
  induction h with
  | non d => exact .non _
  | bl d b => exact .bl _ b
  | int d i => exact .int _ i
  | str d z h => exact .str _ z h
  | tup _ ih => exact .tup ih
  | ref hn _ ih => exact .ref (k _ _ hn) ih
theorem Da.gr {S S' : Store} {d : Nat} {v : Val} (h : Da S d v) (g : Gr S S') : Da S' d v := h.same fun _ _ e => g.get e
theorem allSome_all {α β : Type} {f : α → Option β} {g : α → β} : ∀ {xs : List α}, (∀ x ∈ xs, f x = some (g x)) → allSome (xs.map f) = some (xs.map g)
  | [], _ => rfl
  | x :: xs, h => by
    rw [List.map_cons, List.map_cons]
    unfold allSome
    rw [h x List.mem_cons_self, allSome_all fun y hy => h y (List.mem_cons_of_mem _ hy)]
/-- what it is as data -/
def dat (S : Store) (v : Val) : PyData := (toD 66 S v).getD .none
theorem Da.toD {S : Store} {d : Nat} {v : Val} (h : Da S d v) : ∀ f f' : Nat, d < f → d < f' → toD f S v = toD f' S v ∧ ∃ p, toD f S v = some p := by
  induction h with
  | non d => intro f f' h1 h2; obtain ⟨f, rfl⟩ : ∃ g, f = g + 1 := ⟨f - 1, by omega⟩; obtain ⟨f', rfl⟩ : ∃ g, f' = g + 1 := ⟨f' - 1, by omega⟩; exact ⟨rfl, _, rfl⟩
  | bl d b => intro f f' h1 h2; obtain ⟨f, rfl⟩ : ∃ g, f = g + 1 := ⟨f - 1, by omega⟩; obtain ⟨f', rfl⟩ : ∃ g, f' = g + 1 := ⟨f' - 1, by omega⟩; exact ⟨rfl, _, rfl⟩
  | int d b => intro f f' h1 h2; obtain ⟨f, rfl⟩ : ∃ g, f = g + 1 := ⟨f - 1, by omega⟩; obtain ⟨f', rfl⟩ : ∃ g, f' = g + 1 := ⟨f' - 1, by omega⟩; exact ⟨rfl, _, rfl⟩
  | str d b => intro f f' h1 h2; obtain ⟨f, rfl⟩ : ∃ g, f = g + 1 := ⟨f - 1, by omega⟩; obtain ⟨f', rfl⟩ : ∃ g, f' = g + 1 := ⟨f' - 1, by omega⟩; exact ⟨rfl, _, rfl⟩
  | @tup d xs _ ih =>
    intro f f' h1 h2
    obtain ⟨f, rfl⟩ : ∃ g, f = g + 1 := ⟨f - 1, by omega⟩
    obtain ⟨f', rfl⟩ : ∃ g, f' = g + 1 := ⟨f' - 1, by omega⟩
    have e : xs.map (PD.toD f S) = xs.map (PD.toD f' S) := List.map_congr_left fun x hx => (ih x hx f f' (by omega) (by omega)).1
    have a : allSome (xs.map (PD.toD f S)) = some (xs.map fun x => (PD.toD f S x).getD .none) := allSome_all fun x hx => by
      obtain ⟨p, hp⟩ := (ih x hx f f' (by omega) (by omega)).2
      rw [hp]; rfl
    refine ⟨?_, ?_⟩
    · show (allSome (xs.map (PD.toD f S))).map PyData.tuple = (allSome (xs.map (PD.toD f' S))).map PyData.tuple
      rw [e]
    · exact ⟨_, show (allSome (xs.map (PD.toD f S))).map PyData.tuple = _ by rw [a]; rfl⟩
  | @ref d n xs hn _ ih =>
    intro f f' h1 h2
    obtain ⟨f, rfl⟩ : ∃ g, f = g + 1 := ⟨f - 1, by omega⟩
    obtain ⟨f', rfl⟩ : ∃ g, f' = g + 1 := ⟨f' - 1, by omega⟩
    have e : xs.map (PD.toD f S) = xs.map (PD.toD f' S) := List.map_congr_left fun x hx => (ih x hx f f' (by omega) (by omega)).1
    have a : allSome (xs.map (PD.toD f S)) = some (xs.map fun x => (PD.toD f S x).getD .none) := allSome_all fun x hx => by
      obtain ⟨p, hp⟩ := (ih x hx f f' (by omega) (by omega)).2
      rw [hp]; rfl
    have u : ∀ g, PD.toD (g + 1) S (.ref n) = (allSome (xs.map (PD.toD g S))).map PyData.list := fun g => by
      show (match S[n]? with | some c => (allSome (c.items.map (PD.toD g S))).map PyData.list | none => none) = _
      rw [hn]; rfl
    exact ⟨by rw [u, u, e], _, by rw [u, a]; rfl⟩
theorem Da.dat {S : Store} {d : Nat} {v : Val} (h : Da S d v) {f : Nat} (h1 : d < f) (h2 : d < 66) : PD.toD f S v = some (dat S v) := by
  obtain ⟨e, p, hp⟩ := h.toD 66 f h2 h1
  unfold PD.dat
  rw [← e, hp]; rfl
theorem dat_tup {S : Store} {d : Nat} {xs : List Val} (h : ∀ x ∈ xs, Da S d x) (hd : d < 65) : dat S (.tup xs) = .tuple (xs.map (dat S)) := by
  unfold dat
  have : allSome (xs.map (PD.toD 65 S)) = some (xs.map fun x => (toD 66 S x).getD .none) := allSome_all fun x hx => (h x hx).dat (by omega) (by omega)
  show ((allSome (xs.map (PD.toD 65 S))).map PyData.tuple).getD .none = _
  rw [this]; rfl
theorem dat_ref {S : Store} {d n : Nat} {xs : List Val} (hn : S[n]? = some (.lst xs)) (h : ∀ x ∈ xs, Da S d x) (hd : d < 65) : dat S (.ref n) = .list (xs.map (dat S)) := by
  unfold dat
  have : allSome (xs.map (PD.toD 65 S)) = some (xs.map fun x => (toD 66 S x).getD .none) := allSome_all fun x hx => (h x hx).dat (by omega) (by omega)
  show ((match S[n]? with | some c => (allSome (c.items.map (PD.toD 65 S))).map PyData.list | none => none)).getD .none = _
  rw [hn]
  show ((allSome (xs.map (PD.toD 65 S))).map PyData.list).getD .none = _
  rw [this]; rfl
theorem canLay_all : ∀ {ps : List PyData}, (∀ p ∈ ps, p.canLay0 = true) → PyData.canLayAll0 ps = true
  | [], _ => rfl
  | p :: ps, h => by
    show (p.canLay0 && PyData.canLayAll0 ps) = true
    rw [h p List.mem_cons_self, canLay_all fun q hq => h q (List.mem_cons_of_mem _ hq)]; rfl
theorem depth_all {d : Nat} : ∀ {ps : List PyData}, (∀ p ∈ ps, p.depth ≤ d) → PyData.depthAll ps ≤ d
  | [], _ => Nat.zero_le _
  | p :: ps, h => by
    have h1 := h p List.mem_cons_self
    have h2 := depth_all fun q hq => h q (List.mem_cons_of_mem _ hq)
    show max p.depth (PyData.depthAll ps) ≤ d
    omega
theorem Da.lay {S : Store} {d : Nat} {v : Val} (h : Da S d v) : d < 65 → (PD.dat S v).canLay0 = true ∧ (PD.dat S v).depth ≤ d := by
  induction h with
  | non d => exact fun _ => ⟨rfl, Nat.zero_le _⟩
  | bl d b => exact fun _ => ⟨rfl, Nat.zero_le _⟩
  | int d i => exact fun _ => ⟨rfl, Nat.zero_le _⟩
  | str d z hz => exact fun _ => ⟨hz, Nat.zero_le _⟩
  | @tup d xs hx ih =>
    intro hd
    rw [dat_tup hx (by omega)]
    refine ⟨canLay_all fun p hp => ?_, ?_⟩
    · obtain ⟨x, hx', rfl⟩ := List.mem_map.mp hp
      exact (ih x hx' (by omega)).1
    · have : PyData.depthAll (xs.map (PD.dat S)) ≤ d := depth_all fun p hp => by
        obtain ⟨x, hx', rfl⟩ := List.mem_map.mp hp
        exact (ih x hx' (by omega)).2
      show PyData.depthAll (xs.map (PD.dat S)) + 1 ≤ d + 1
      omega
  | @ref d n xs hn hx ih =>
    intro hd
    rw [dat_ref hn hx (by omega)]
    refine ⟨canLay_all fun p hp => ?_, ?_⟩
    · obtain ⟨x, hx', rfl⟩ := List.mem_map.mp hp
      exact (ih x hx' (by omega)).1
    · have : PyData.depthAll (xs.map (PD.dat S)) ≤ d := depth_all fun p hp => by
        obtain ⟨x, hx', rfl⟩ := List.mem_map.mp hp
        exact (ih x hx' (by omega)).2
      show PyData.depthAll (xs.map (PD.dat S)) + 1 ≤ d + 1
      omega
theorem Da.shaped {S : Store} {d : Nat} {v : Val} (h : Da S d v) (hd : d < 65) : SeqAt.shaped (PD.dat S v) = true := by
  obtain ⟨h1, h2⟩ := h.lay hd
  unfold SeqAt.shaped
  rw [h1, decide_eq_true (by omega)]; rfl
theorem deq_dat {S : Store} {d e : Nat} {x y : Val} (hx : Da S d x) (hy : Da S e y) (hd : d < 65) (he : e < 65) : deq x y S = some (PyData.eqv (dat S x) (dat S y)) := by
  have gen : (match toD 66 S x, toD 66 S y with
    | some d, some e => if SeqAt.shaped d = true ∧ SeqAt.shaped e = true then some (PyData.eqv d e) else none
    | _, _ => none) = some (PyData.eqv (dat S x) (dat S y)) := by
    rw [hx.dat (f := 66) (by omega) (by omega), hy.dat (f := 66) (by omega) (by omega)]
    show (if SeqAt.shaped (dat S x) = true ∧ SeqAt.shaped (dat S y) = true then some _ else none) = _
    rw [if_pos ⟨hx.shaped hd, hy.shaped he⟩]
  cases hx with
  | int _ a =>
    cases hy with
    | int _ b =>
      show some (decide (a = b)) = some (a == b)
      rw [Bool.beq_eq_decide_eq]
    | _ => exact gen
  | _ => exact gen
theorem run_eq {S : Store} {d e : Nat} {x y : Val} {Q : Val → Store → Prop} (hx : Da S d x) (hy : Da S e y) (hd : d < 65) (he : e < 65) : Run (oEq x y S) Q = Q (.bl (PyData.eqv (dat S x) (dat S y))) S := by
  unfold oEq
  rw [deq_dat hx hy hd he]; rfl
theorem run_ne {S : Store} {d e : Nat} {x y : Val} {Q : Val → Store → Prop} (hx : Da S d x) (hy : Da S e y) (hd : d < 65) (he : e < 65) : Run (oNe x y S) Q = Q (.bl (!PyData.eqv (dat S x) (dat S y))) S := by
  unfold oNe
  rw [deq_dat hx hy hd he]; rfl
theorem run_eqI {S : Store} {a b : Int} {Q : Val → Store → Prop} : Run (oEq (.int a) (.int b) S) Q = Q (.bl (decide (a = b))) S := rfl
theorem run_neI {S : Store} {a b : Int} {Q : Val → Store → Prop} : Run (oNe (.int a) (.int b) S) Q = Q (.bl (!decide (a = b))) S := rfl
/-- what stood stands -/
def Kp (S S' : Store) : Prop := ∀ (n : Nat) (c : Cell), S[n]? = some c → S'[n]? = some c
theorem Kp.refl (S : Store) : Kp S S := fun _ _ h => h
theorem Kp.trans {S S' S2 : Store} (a : Kp S S') (b : Kp S' S2) : Kp S S2 := fun n c h => b n c (a n c h)
theorem Gr.kp {S S' : Store} (g : Gr S S') : Kp S S' := fun _ _ e => g.get e
theorem Da.kp {S S' : Store} {d : Nat} {v : Val} (h : Da S d v) (k : Kp S S') : Da S' d v := h.same k
abbrev PureK {α : Type} (S : Store) (a : α) : α → Store → Prop := fun b S' => b = a ∧ Kp S S'
theorem set_get {S : Store} {m : Nat} {c d : Cell} (h : S[m]? = some c) : (S.set m d)[m]? = some d := by
  rw [List.getElem?_set_self (List.getElem?_eq_some_iff.mp h).1]
theorem set_self {S : Store} {m : Nat} {c : Cell} (h : S[m]? = some c) : S.set m c = S := by
  apply List.ext_getElem?
  intro i
  by_cases e : m = i
  · subst e; rw [set_get h, h]
  · rw [List.getElem?_set_ne e]
theorem ty_int {i : Int} {S : Store} : tyN (.int i) S = some "int" := rfl
theorem ty_bl {i : Bool} {S : Store} : tyN (.bl i) S = some "bool" := rfl
theorem ty_str {i : Str} {S : Store} : tyN (.str i) S = some "str" := rfl
theorem ty_non {S : Store} : tyN .non S = some "NoneType" := rfl
theorem ty_tup {i : List Val} {S : Store} : tyN (.tup i) S = some "tuple" := rfl
theorem ty_ref {m : Nat} {c : Cell} {S : Store} (h : S[m]? = some c) : tyN (.ref m) S = some "list" := by
  show (match S[m]? with | some _ => some "list" | none => none) = _
  rw [h]
theorem askInt : "int" ∈ askedT := by decide
theorem askBool : "bool" ∈ askedT := by decide
theorem askTuple : "tuple" ∈ askedT := by decide
theorem askList : "list" ∈ askedT := by decide
theorem askStr : "str" ∈ askedT := by decide
theorem atI0 {α : Type} {a : α} {as : List α} : L2.atI (a :: as) 0 = some a := atI_nat (j := 0) rfl
theorem atI1 {α : Type} {a b : α} {as : List α} : L2.atI (a :: b :: as) 1 = some b := atI_nat (j := 1) rfl
theorem atI2 {α : Type} {a b c : α} {as : List α} : L2.atI (a :: b :: c :: as) 2 = some c := atI_nat (j := 2) rfl
theorem dat_int (S : Store) (i : Int) : dat S (.int i) = .int i := rfl
theorem dat_bl (S : Store) (i : Bool) : dat S (.bl i) = .bool i := rfl
def isI (v : Val) (i : Int) : Bool := match v with
  | .int j => decide (j = i)
  | _ => false
theorem two_of {α : Type} {xs : List α} (h : xs.length = 2) : ∃ a b, xs = [a, b] := by
  match xs, h with
  | [a, b], _ => exact ⟨a, b, rfl⟩
theorem three_of {α : Type} {xs : List α} (h : xs.length = 3) : ∃ a b c, xs = [a, b, c] := by
  match xs, h with
  | [a, b, c], _ => exact ⟨a, b, c, rfl⟩
theorem atIm1 {α : Type} {a b : α} : L2.atI [a, b] (-1) = some b := rfl
theorem atIm2 {α : Type} {a b : α} : L2.atI [a, b] (-2) = some a := rfl
theorem atIm1' {α : Type} {a b c : α} : L2.atI [a, b, c] (-1) = some c := rfl
theorem atIm2' {α : Type} {a b c : α} : L2.atI [a, b, c] (-2) = some b := rfl
theorem log_small {b : Int} (h0 : 0 ≤ b) (h : b < 2147483648) : b.natAbs.log2 < 1000 := by
  have : b.natAbs < 2 ^ 1000 := Nat.lt_of_lt_of_le (show b.natAbs < 2 ^ 31 by omega) (Nat.pow_le_pow_right (by decide) (by decide))
  exact PySem.Flt.log2_lt_of (by decide) this
theorem log_many {b : Int} (h0 : 0 < b) (h : b ≤ 1000000) : b.natAbs.log2 < 9000 := Nat.lt_of_lt_of_le (log_small (by omega) (by omega)) (by decide)
theorem set_other {S : Store} {c n : Nat} {d e : Cell} (h : n ≠ c) (q : S[n]? = some d) : (S.set c e)[n]? = some d := by
  rw [List.getElem?_set_ne (Ne.symm h)]; exact q
theorem run_ixR {c : Nat} {xs : List Val} {S : Store} {i : Int} {Q : Val → Store → Prop} (h : S[c]? = some (.lst xs)) : Run (oIx (.ref c) (.int i) S) Q = Run (match L2.atI xs i with | some z => Res.ok z S | none => .stuck) Q := by
  show Run (match S[c]? with | some d => (match L2.atI d.items i with | some z => Res.ok z S | none => .stuck) | none => .stuck) Q = _
  rw [h]; rfl
theorem run_modP {a m : Int} {S : Store} {Q : Val → Store → Prop} (h : 0 < m) : Run (oMod (.int a) (.int m) S) Q = Q (.int (a % m)) S := by
  show Run (if 0 < m then okI (a % m) S else .stuck) Q = _
  rw [if_pos h]; rfl
theorem run_divP {a m : Int} {S : Store} {Q : Val → Store → Prop} (h : 0 < m) (h1 : m ≤ 1000000) : Run (oDiv (.int a) (.int m) S) Q = Q (.int (a / m)) S := by
  show Run (if 0 < m ∧ m.natAbs.log2 < 9000 then okI (a / m) S else .stuck) Q = _
  rw [if_pos ⟨h, log_many h h1⟩]; rfl
theorem run_mulP {a b : Int} {S : Store} {Q : Val → Store → Prop} (h0 : 0 ≤ a) (h1 : a < 2147483648) (g0 : 0 ≤ b) (g1 : b < 2147483648) : Run (oMul (.int a) (.int b) S) Q = Q (.int (a * b)) S := by
  show Run (if a.natAbs.log2 + b.natAbs.log2 < 1000000 then okI (a * b) S else .stuck) Q = _
  have := log_small h0 h1
  have := log_small g0 g1
  rw [if_pos (by omega)]; rfl
theorem run_gtI {a b : Int} {S : Store} {Q : Val → Store → Prop} : Run (oGt (.int a) (.int b) S) Q = Q (.bl (decide (b < a))) S := rfl
theorem run_bIntI {a : Int} {S : Store} {Q : Val → Store → Prop} : Run (bInt [.int a] S) Q = Q (.int a) S := rfl
/-! ### data that does not hold the cup -/
def Kx (c : Nat) (S S' : Store) : Prop := ∀ (n : Nat) (d : Cell), n ≠ c → S[n]? = some d → S'[n]? = some d
theorem Kx.refl (c : Nat) (S : Store) : Kx c S S := fun _ _ _ e => e
theorem Kx.trans {c : Nat} {S S' S2 : Store} (a : Kx c S S') (b : Kx c S' S2) : Kx c S S2 := fun n d h e => b n d h (a n d h e)
theorem Kp.kx {c : Nat} {S S' : Store} (a : Kp S S') : Kx c S S' := fun n d _ e => a n d e
inductive Dc (c : Nat) (S : Store) : Nat → Val → Prop
  | non (d : Nat) : Dc c S d .non
  | bl (d : Nat) (b : Bool) : Dc c S d (.bl b)
  | int (d : Nat) (i : Int) : Dc c S d (.int i)
  | str (d : Nat) (z : Str) : (PyData.str z).canLay0 = true → Dc c S d (.str z)
  | tup {d : Nat} {xs : List Val} : (∀ x ∈ xs, Dc c S d x) → Dc c S (d + 1) (.tup xs)
  | ref {d n : Nat} {xs : List Val} : n ≠ c → S[n]? = some (.lst xs) → (∀ x ∈ xs, Dc c S d x) → Dc c S (d + 1) (.ref n)
theorem Dc.da {c : Nat} {S : Store} {d : Nat} {v : Val} (h : Dc c S d v) : Da S d v := by
  induction h with
  | non d => exact .non _
  | bl d b => exact .bl _ _
  | int d i => exact .int _ _
  | str d z h => exact .str _ z h
  | tup _ ih => exact .tup ih
  | ref _ hn _ ih => exact .ref hn ih
theorem Dc.kx {c : Nat} {S S' : Store} {d : Nat} {v : Val} (h : Dc c S d v) (k : Kx c S S') : Dc c S' d v := by
  induction h with
  | non d => exact .non _
  | bl d b => exact .bl _ _
  | int d i => exact .int _ _
  | str d z h => exact .str _ z h
  | tup _ ih => exact .tup ih
  | ref hc hn _ ih => exact .ref hc (k _ _ hc hn) ih
theorem Dc.up {c : Nat} {S : Store} {d : Nat} {v : Val} (h : Dc c S d v) : ∀ {e : Nat}, d ≤ e → Dc c S e v := by
  induction h with
  | non d => exact fun _ => .non _
  | bl d b => exact fun _ => .bl _ b
  | int d i => exact fun _ => .int _ i
  | str d z h => exact fun _ => .str _ z h
  | @tup d xs _ ih =>
    intro e he
    obtain ⟨e', rfl⟩ : ∃ e', e = e' + 1 := ⟨e - 1, by omega⟩
    exact .tup fun x hx => ih x hx (by omega)
  | @ref d n xs hc hn _ ih =>
    intro e he
    obtain ⟨e', rfl⟩ : ∃ e', e = e' + 1 := ⟨e - 1, by omega⟩
    exact .ref hc hn fun x hx => ih x hx (by omega)
theorem Dc.dat_kx {c : Nat} {S S' : Store} (k : Kx c S S') {d : Nat} {v : Val} (h : Dc c S d v) : d < 66 → PD.dat S v = PD.dat S' v := by
  induction h with
  | non d => exact fun _ => rfl
  | bl d b => exact fun _ => rfl
  | int d i => exact fun _ => rfl
  | str d z h => exact fun _ => rfl
  | @tup d xs hx ih =>
    intro hd
    rw [dat_tup (fun x h => (hx x h).da) (by omega), dat_tup (fun x h => ((hx x h).kx k).da) (by omega), List.map_congr_left fun x h => ih x h (by omega)]
  | @ref d n xs hc hn hx ih =>
    intro hd
    rw [dat_ref hn (fun x h => (hx x h).da) (by omega), dat_ref (k _ _ hc hn) (fun x h => ((hx x h).kx k).da) (by omega), List.map_congr_left fun x h => ih x h (by omega)]
/-! ### the lengths of what repr shows -/
theorem tuple_len (ts : List Str) : (tupleText ts).length ≤ piled ts + 3 := by
  unfold tupleText
  rw [strLen_append, strLen_append]
  have e1 : ((("(" : String) : Str)).length = 1 := rfl
  have e3 : (((if ts.length == 1 then ",)" else ")" : String) : Str)).length ≤ 2 := by split <;> decide
  rw [e1]
  by_cases h : ts = []
  · subst h
    show 1 + (Str.join ", " []).length + 1 ≤ 0 + 3
    decide
  · have := join_length_add ts h
    omega
theorem list_len : ∀ ts : List Str, (listText ts).length ≤ piled ts + 3
  | [] => by decide
  | t :: r => by
    have h := textFrom_length_pos r 1 (("[" : Str) ++ (if (0 : Nat) > 0 then ", " else "" : String) ++ t) (Nat.succ_pos 0)
    have e : ((("[" : Str) ++ (if (0 : Nat) > 0 then ", " else "" : String) ++ t)).length = 1 + t.length := by
      rw [strLen_append, strLen_append]; rfl
    have hX : (listText (t :: r)).length = (textFrom 0 "[" (t :: r)).length + 1 := by
      show (textFrom 0 "[" (t :: r) ++ "]").length = _
      rw [strLen_append]; rfl
    have hY : (textFrom 0 "[" (t :: r)).length = (textFrom 1 (("[" : Str) ++ (if (0 : Nat) > 0 then ", " else "" : String) ++ t) r).length := rfl
    rw [hX, hY, h, e, piled_cons]; omega
/-! ### what repr shows is text -/
theorem ok_app {a b : Str} (ha : PyData.strOk a = true) (hb : PyData.strOk b = true) : PyData.strOk (a ++ b) = true := by
  unfold PyData.strOk at *
  show (a.cps ++ b.cps).all _ = true
  rw [Array.all_append, ha, hb]; rfl
theorem ok_of (s : String) : PyData.strOk (Str.ofString s) = true := by
  unfold PyData.strOk Str.ofString
  simp only [cpsOfBytes_string, List.all_toArray, List.all_map, List.all_eq_true, Function.comp, decide_eq_true_eq]
  intro c _
  have := c.valid
  rcases this with h | ⟨_, h⟩
  · exact Nat.lt_trans h (by decide)
  · exact h
theorem ok_from : ∀ (ts : List Str) (k : Nat) (acc : Str), PyData.strOk acc = true → (∀ t ∈ ts, PyData.strOk t = true) → PyData.strOk (textFrom k acc ts) = true
  | [], _, acc, h, _ => h
  | t :: r, k, acc, h, q => ok_from r (k + 1) _ (ok_app (ok_app h (ok_of _)) (q t List.mem_cons_self)) fun u hu => q u (List.mem_cons_of_mem _ hu)
theorem ok_list {ts : List Str} (q : ∀ t ∈ ts, PyData.strOk t = true) : PyData.strOk (listText ts) = true := ok_app (ok_from ts 0 _ (ok_of _) q) (ok_of _)
theorem ok_join : ∀ ts : List Str, (∀ t ∈ ts, PyData.strOk t = true) → PyData.strOk (Str.join ", " ts) = true
  | [], _ => by decide +kernel
  | [x], q => q x List.mem_cons_self
  | x :: y :: r, q => ok_app (ok_app (q x List.mem_cons_self) (ok_of _)) (ok_join (y :: r) fun u hu => q u (List.mem_cons_of_mem _ hu))
theorem okt_tuple {ts : List Str} (q : ∀ t ∈ ts, PyData.strOk t = true) : PyData.strOk (tupleText ts) = true := ok_app (ok_app (ok_of _) (ok_join ts q)) (ok_of _)
/-- data off the cup, of a depth, and of a length when shown -/
structure Good (c : Nat) (S : Store) (d L : Nat) (v : Val) : Prop where
  da : Dc c S d v
  sh : (dat S v).showable = true
  ln : (dat S v).shown.length ≤ L
  ok : PyData.strOk (dat S v).shown = true
theorem Good.kx {c : Nat} {S S' : Store} {d L : Nat} {v : Val} (h : Good c S d L v) (k : Kx c S S') (hd : d < 66) : Good c S' d L v :=
  ⟨h.da.kx k, by rw [← h.da.dat_kx k hd]; exact h.sh, by rw [← h.da.dat_kx k hd]; exact h.ln, by rw [← h.da.dat_kx k hd]; exact h.ok⟩
theorem Good.up {c : Nat} {S : Store} {d L d' L' : Nat} {v : Val} (h : Good c S d L v) (h1 : d ≤ d') (h2 : L ≤ L') : Good c S d' L' v := ⟨h.da.up h1, h.sh, Nat.le_trans h.ln h2, h.ok⟩
section
variable {c : Nat} {S : Store} {d : Nat}
theorem Good.int {L : Nat} {i : Int} (h : i.natAbs < 10 ^ 100) (hL : 101 ≤ L) : Good c S d L (.int i) :=
  ⟨.int _ _, by
    show decide (i.natAbs.log2 < 1920) = true
    exact decide_eq_true (PySem.Flt.log2_lt_of (by decide) (Nat.lt_of_lt_of_le h (by decide +kernel))), by
    show (Str.ofString (toString i)).length ≤ L
    have := int_text_length_le10 (k := 100) (by decide) h
    clear h
    rw [ofString_length]
    omega, ok_of _⟩
theorem Good.non {L : Nat} (h : 4 ≤ L) : Good c S d L .non := ⟨.non _, rfl, h, ok_of _⟩
theorem Good.bl {L : Nat} {b : Bool} (h : 5 ≤ L) : Good c S d L (.bl b) := ⟨.bl _ _, rfl, by cases b; exact h; exact Nat.le_trans (show (4 : Nat) ≤ 5 by omega) h, by cases b <;> exact ok_of _⟩
theorem Good.str {L : Nat} {z : Str} (h : (PyData.str z).canLay0 = true) (hl : (reprText z).length ≤ L) (ho : PyData.strOk (reprText z) = true) : Good c S d L (.str z) := ⟨.str _ _ h, rfl, hl, ho⟩
/-- the items of a sequence, with the length that they pile up to -/
inductive Goods (c : Nat) (S : Store) (d : Nat) : Nat → List Val → Prop
  | nil (L : Nat) : Goods c S d L []
  | cons {L M N : Nat} {x : Val} {xs : List Val} : Good c S d L x → Goods c S d M xs → L + 2 + M ≤ N → Goods c S d N (x :: xs)
theorem Goods.all {L : Nat} {xs : List Val} (h : Goods c S d L xs) : (∀ x ∈ xs, Dc c S d x) ∧ PyData.showableAll (xs.map (dat S)) = true ∧ piled (PyData.shownAll (xs.map (dat S))) ≤ L ∧ ∀ t ∈ PyData.shownAll (xs.map (dat S)), PyData.strOk t = true := by
  induction h with
  | nil L => exact ⟨(fun _ h => nomatch h), rfl, Nat.zero_le _, fun _ h => nomatch h⟩
  | @cons L M N x xs hx _ hN ih =>
    obtain ⟨i1, i2, i3, i4⟩ := ih
    refine ⟨fun y hy => ?_, ?_, ?_, fun t ht => ?_⟩
    · rcases List.mem_cons.mp hy with rfl | hy
      · exact hx.da
      · exact i1 y hy
    · show (PyData.showable (dat S x) && PyData.showableAll (xs.map (dat S))) = true
      rw [hx.sh, i2]; rfl
    · show piled (PyData.shown (dat S x) :: PyData.shownAll (xs.map (dat S))) ≤ N
      rw [piled_cons]
      have := hx.ln
      omega
    · rcases List.mem_cons.mp ht with rfl | ht
      · exact hx.ok
      · exact i4 t ht
theorem Good.tup {L N : Nat} {xs : List Val} (h : Goods c S d L xs) (hd : d < 65) (hN : L + 3 ≤ N) : Good c S (d + 1) N (.tup xs) := by
  obtain ⟨i1, i2, i3, i4⟩ := h.all
  have e := dat_tup (fun x hx => (i1 x hx).da) hd
  refine ⟨.tup i1, by rw [e]; exact i2, ?_, by rw [e]; exact okt_tuple i4⟩
  rw [e]
  show (tupleText (PyData.shownAll (xs.map (dat S)))).length ≤ N
  have := tuple_len (PyData.shownAll (xs.map (dat S)))
  omega
theorem Good.ref {L N n : Nat} {xs : List Val} (hc : n ≠ c) (hn : S[n]? = some (.lst xs)) (h : Goods c S d L xs) (hd : d < 65) (hN : L + 3 ≤ N) : Good c S (d + 1) N (.ref n) := by
  obtain ⟨i1, i2, i3, i4⟩ := h.all
  have e := dat_ref hn (fun x hx => (i1 x hx).da) hd
  refine ⟨.ref hc hn i1, by rw [e]; exact i2, ?_, by rw [e]; exact ok_list i4⟩
  rw [e]
  show (listText (PyData.shownAll (xs.map (dat S)))).length ≤ N
  have := list_len (PyData.shownAll (xs.map (dat S)))
  omega
theorem Good.one {L N : Nat} {a : Val} (ha : Good c S d L a) (hd : d < 65) (hN : L + 5 ≤ N) : Good c S (d + 1) N (.tup [a]) :=
  .tup (L := L + 2) (.cons ha (.nil 0) (by omega)) hd (by omega)
theorem Good.two {L M N : Nat} {a b : Val} (ha : Good c S d L a) (hb : Good c S d M b) (hd : d < 65) (hN : L + M + 7 ≤ N) : Good c S (d + 1) N (.tup [a, b]) :=
  .tup (L := L + M + 4) (.cons ha (.cons hb (.nil 0) (Nat.le_refl _)) (by omega)) hd (by omega)
theorem Good.three {L M K N : Nat} {a b e : Val} (ha : Good c S d L a) (hb : Good c S d M b) (he : Good c S d K e) (hd : d < 65) (hN : L + M + K + 9 ≤ N) : Good c S (d + 1) N (.tup [a, b, e]) :=
  .tup (L := L + M + K + 6) (.cons ha (.cons hb (.cons he (.nil 0) (Nat.le_refl _)) (Nat.le_refl _)) (by omega)) hd (by omega)
theorem Goods.same {L : Nat} {a : Val} (ha : Good c S d L a) : ∀ k : Nat, Goods c S d (k * (L + 2)) (List.replicate k a)
  | 0 => .nil _
  | k + 1 => .cons ha (Goods.same ha k) (by rw [Nat.succ_mul]; omega)
end
/-- repr on data -/
theorem run_repr {c : Nat} {S : Store} {d L : Nat} {v : Val} {Q : Val → Store → Prop} (h : Good c S d L v) (hd : d < 65) (hL : L ≤ 16777216) : Run (bRepr [v] S) Q = Q (.str (dat S v).shown) S := by
  unfold bRepr
  show Run (match PD.toD 66 S v with
    | some d => if d.showable = true ∧ SeqAt.shaped d = true ∧ d.shown.length ≤ 16777216 then .ok (.str d.shown) S else .stuck
    | none => .stuck) Q = _
  rw [h.da.da.dat (f := 66) (by omega) (by omega)]
  show Run (if _ then Res.ok (Val.str (dat S v).shown) S else Res.stuck) Q = _
  rw [if_pos ⟨h.sh, h.da.da.shaped hd, Nat.le_trans h.ln hL⟩]; rfl
theorem run_addI {a b : Int} {S : Store} {Q : Val → Store → Prop} : Run (oAdd (.int a) (.int b) S) Q = Q (.int (a + b)) S := rfl
theorem run_subI {a b : Int} {S : Store} {Q : Val → Store → Prop} : Run (oSub (.int a) (.int b) S) Q = Q (.int (a - b)) S := rfl
theorem run_pick {m : Nat} {xs : List Val} {S : Store} {i : Int} (P : Val → Prop) (h : S[m]? = some (.lst xs)) (h0 : 0 ≤ i) (h1 : i < xs.length) (hP : ∀ x ∈ xs, P x) : Run (oIx (.ref m) (.int i) S) (fun r S' => P r ∧ S' = S) := by
  rw [run_ixR h]
  obtain ⟨j, rfl⟩ : ∃ j : Nat, i = (j : Int) := ⟨i.toNat, by omega⟩
  have hj : j < xs.length := by omega
  have e : xs[j]? = some xs[j] := List.getElem?_eq_getElem hj
  rw [atI_nat e]
  exact ⟨hP _ (List.getElem_mem hj), rfl⟩
theorem RunS.mono {r : SRes} {N N' : PD.Env → Store → Prop} {R R' : Val → Store → Prop} (h : RunS r N R) (q : ∀ ρ S, N ρ S → N' ρ S) (p : ∀ v S, R v S → R' v S) : RunS r N' R' := by
  cases r with
  | next ρ S => exact q ρ S h
  | ret v S => exact p v S h
  | _ => exact h
theorem s_step {b d : SD} {ρ : PD.Env} {S : Store} {N N' : PD.Env → Store → Prop} {R : Val → Store → Prop} (h : RunS (b ρ S) N' R) (q : ∀ ρ' S', N' ρ' S' → RunS (d ρ' S') N R) : RunS (sSeq b d ρ S) N R := by
  rw [s_seq]; exact RunS.mono h q fun _ _ h => h
theorem run_fn {n m : Nat} {b : SD} {xs : List Val} {ρ : PD.Env} {S : Store} {Q : Val → Store → Prop} (h : xs.length = n) (e : xs.map some ++ List.replicate (m - n) none = ρ) (q : RunS (b ρ S) (fun _ S' => Q .non S') Q) : Run (fnOf n m b xs S) Q := by
  subst e
  rw [run_fnOf, if_pos h]; exact q
theorem ix1 {a b : Val} {xs : List Val} {S : Store} {Q : Val → Store → Prop} : Run (oIx (.tup (a :: b :: xs)) (.int 1) S) Q = Q b S := by
  unfold oIx
  simp only [atI1]; rfl
theorem ix2 {a b e : Val} {xs : List Val} {S : Store} {Q : Val → Store → Prop} : Run (oIx (.tup (a :: b :: e :: xs)) (.int 2) S) Q = Q e S := by
  unfold oIx
  simp only [atI2]; rfl
theorem runS_loopV {t : TgD} {b : SD} {R : Val → Store → Prop} (m : Nat) (I : Nat → PD.Env → Store → Prop) (step : ∀ j x ρ S, j < m → I j ρ S → ∃ ρ1, t x ρ = some ρ1 ∧ RunS (b ρ1 S) (I (j + 1)) R) : ∀ (xs : List Val) (j : Nat) (ρ : PD.Env) (S : Store), j + xs.length ≤ m → I j ρ S → RunS (loopV t b xs ρ S) (I (j + xs.length)) R
  | [], j, ρ, S, _, h => by rw [loopV_nil]; exact h
  | x :: xs, j, ρ, S, hm, h => by
    rw [List.length_cons] at hm
    obtain ⟨ρ1, e, q⟩ := step j x ρ S (by omega) h
    rw [loopV_cons, e]
    show RunS ((b ρ1 S).turn (loopV t b xs)) _ _
    cases hr : b ρ1 S with
    | next ρ2 S2 =>
      rw [hr] at q
      have := runS_loopV m I step xs (j + 1) ρ2 S2 (by omega) q
      rw [show j + (x :: xs).length = j + 1 + xs.length by rw [List.length_cons]; omega]
      exact this
    | ret v S2 => rw [hr] at q; exact q
    | brk ρ2 S2 => rw [hr] at q; exact q.elim
    | cont ρ2 S2 => rw [hr] at q; exact q.elim
    | exc e ρ2 S2 => rw [hr] at q; exact q.elim
    | stuck => rw [hr] at q; exact q.elim
theorem rangeV_len (lo : Int) (n : Nat) : (rangeV lo n).length = n := by simp [rangeV]
theorem s_forR {as : DA} {t : TgD} {b : SD} {ρ : PD.Env} {S : Store} {N : PD.Env → Store → Prop} {R : Val → Store → Prop} : RunS (sForR as t b ρ S) N R = Run (as ρ S) fun xs S1 => match xs with | [.int j] => if -(2 ^ 62) ≤ j ∧ j < 2 ^ 62 then RunS (loopV t b (rangeV 0 j.toNat) ρ S1) N R else False | _ => False := by
  unfold sForR
  rw [runS_toS]
  congr; funext xs S1
  match xs with
  | [] => rfl
  | [.int j] =>
    show RunS (if -(2 ^ 62) ≤ j ∧ j < 2 ^ 62 then loopV t b (rangeV 0 j.toNat) ρ S1 else .stuck) N R = if -(2 ^ 62) ≤ j ∧ j < 2 ^ 62 then RunS (loopV t b (rangeV 0 j.toNat) ρ S1) N R else False
    split <;> rfl
  | [.non] => rfl
  | [.bl _] => rfl
  | [.str _] => rfl
  | [.tup _] => rfl
  | [.ref _] => rfl
  | [.ty _] => rfl
  | [.kl _] => rfl
  | .int _ :: _ :: _ => rfl
  | .non :: _ :: _ => rfl
  | .bl _ :: _ :: _ => rfl
  | .str _ :: _ :: _ => rfl
  | .tup _ :: _ :: _ => rfl
  | .ref _ :: _ :: _ => rfl
  | .ty _ :: _ :: _ => rfl
  | .kl _ :: _ :: _ => rfl
theorem Good.gr {c : Nat} {S S' : Store} {d L : Nat} {v : Val} (h : Good c S d L v) (k : Kp S S') (hd : d < 66) : Good c S' d L v := h.kx k.kx hd
theorem Good.num {c : Nat} {S : Store} {d : Nat} {i : Int} (h : -1000000 ≤ i) (h' : i ≤ 1000000) : Good c S d 101 (.int i) :=
  .int (Nat.lt_of_lt_of_le (show i.natAbs < 10 ^ 7 by omega) (Nat.pow_le_pow_right (by decide) (by decide))) (Nat.le_refl _)
theorem w_sl {f : D} {l h : DO} {ρ : PD.Env} {S : Store} {Q : Val → Store → Prop} : Run (dSl f l h ρ S) Q = Run (f ρ S) fun x S1 => Run (l ρ S1) fun lo S2 => Run (h ρ S2) fun hi S3 => Run (vSl x lo hi S3) Q := by
  unfold dSl
  rw [run_bind]
  congr; funext x S1
  rw [run_bind]
  congr; funext lo S2
  rw [run_bind]
theorem w_oNone {ρ : PD.Env} {S : Store} {Q : Option Int → Store → Prop} : Run (oNone ρ S) Q = Q none S := rfl
theorem w_oSome {f : D} {ρ : PD.Env} {S : Store} {Q : Option Int → Store → Prop} : Run (oSome f ρ S) Q = Run (f ρ S) fun x S1 => match x with | .int i => Q (some i) S1 | _ => False := by
  unfold oSome
  rw [run_bind]
  congr; funext x S1
  cases x <;> rfl
theorem run_slT {xs : List Val} {lo hi : Option Int} {S : Store} {Q : Val → Store → Prop} : Run (vSl (.tup xs) lo hi S) Q = Q (.tup (cutL xs lo hi)) S := rfl
theorem run_addT {xs ys : List Val} {S : Store} {Q : Val → Store → Prop} (h : xs.length + ys.length ≤ 16777216) : Run (oAdd (.tup xs) (.tup ys) S) Q = Q (.tup (xs ++ ys)) S := by
  show Run (if xs.length + ys.length ≤ 16777216 then .ok (.tup (xs ++ ys)) S else .stuck) Q = _
  rw [if_pos h]; rfl
theorem run_addL {xs ys : List Val} {n m : Nat} {S : Store} {Q : Val → Store → Prop} (h1 : S[n]? = some (.lst xs)) (h2 : S[m]? = some (.lst ys)) (h : xs.length + ys.length ≤ 16777216) : Run (oAdd (.ref n) (.ref m) S) Q = Q (.ref S.length) (S ++ [.lst (xs ++ ys)]) := by
  show Run (match S[n]?, S[m]? with
    | some (.lst xs), some (.lst ys) => if xs.length + ys.length ≤ 16777216 then alloc (xs ++ ys) S else .stuck
    | _, _ => .stuck) Q = _
  rw [h1, h2]
  show Run (if xs.length + ys.length ≤ 16777216 then alloc (xs ++ ys) S else .stuck) Q = _
  rw [if_pos h]; rfl
theorem run_neg {i : Int} {S : Store} {Q : Val → Store → Prop} : Run (oNeg (.int i) S) Q = Q (.int (-i)) S := rfl
theorem ix0 {a : Val} {xs : List Val} {S : Store} {Q : Val → Store → Prop} : Run (oIx (.tup (a :: xs)) (.int 0) S) Q = Q a S := by
  unfold oIx
  simp only [atI0]; rfl
section
variable {x y w : Val}
theorem cut20 : cutL [x, y] none (some 0) = [] := rfl
theorem cut21 : cutL [x, y] none (some 1) = [x] := rfl
theorem cut2a : cutL [x, y] (some (0 + 1)) none = [y] := rfl
theorem cut2b : cutL [x, y] (some (1 + 1)) none = [] := rfl
theorem cut30 : cutL [x, y, w] none (some 0) = [] := rfl
theorem cut31 : cutL [x, y, w] none (some 1) = [x] := rfl
theorem cut32 : cutL [x, y, w] none (some 2) = [x, y] := rfl
theorem cut3a : cutL [x, y, w] (some (0 + 1)) none = [y, w] := rfl
theorem cut3b : cutL [x, y, w] (some (1 + 1)) none = [w] := rfl
theorem cut3c : cutL [x, y, w] (some (2 + 1)) none = [] := rfl
end
theorem oIs_ref {m : Nat} {S : Store} {Q : Val → Store → Prop} : Run (oIs (.ref m) .non S) Q = Q (.bl false) S := rfl
theorem oIs_refB {m : Nat} {b : Bool} {S : Store} {Q : Val → Store → Prop} : Run (oIs (.ref m) (.bl b) S) Q = Q (.bl false) S := rfl
theorem run_len {m : Nat} {xs : List Val} {S : Store} {Q : Val → Store → Prop} (h : S[m]? = some (.lst xs)) : Run (bLen [.ref m] S) Q = Q (.int xs.length) S := by
  show Run (match S[m]? with | some c => okI c.items.length S | none => .stuck) Q = _
  rw [h]; rfl
theorem isi_list {m : Nat} {xs : List Val} {S : Store} {T : String} {Q : Val → Store → Prop} (h : S[m]? = some (.lst xs)) (hT : T ∈ askedT) : Run (bIsi [.ref m, .ty T] S) Q = Q (.bl (isT "list" T)) S := by
  have := ty_ref (S := S) h
  simp only [this, hT, run_ok, run_okI, run_okB, run_alloc, run_stuck, run_bind, run_ite, run_noX, run_fnOf, w_c, w_op, w_un, w_call, w_callK, w_nil, w_cons, w_tup, w_lst, isB_bl, w_tval, w_tand, w_tor, w_tnot, w_and, w_or, w_not, w_if, s_next, s_seq, s_if, s_ret, s_drop, s_set, s_par, s_put, s_asg, w_var', runS_next, runS_ret, runS_stuck, runS_ite, List.length_cons, List.length_nil, List.length_singleton, List.map_cons, List.map_nil, List.cons_append, List.nil_append, List.replicate_succ, List.replicate_zero, List.getElem?_cons_zero, List.getElem?_cons_succ, List.set_cons_zero, List.set_cons_succ, Nat.reduceAdd, Nat.reduceSub, Nat.reduceEqDiff, ite_true, ite_false, if_true, if_false, reduceIte, Bool.false_eq_true, decide_true, decide_false, String.reduceEq, Int.reduceEq, Nat.reduceLeDiff, true_and, and_true, Bool.not_true, Bool.not_false, decide_eq_true_eq, List.append_nil, bType, bIsi, bLen, bInt, ty_int, ty_bl, ty_str, ty_non, ty_tup, isT, oIs, oIsNot, run_eqI, run_neI, Bool.or_false, Bool.or_true, Bool.false_or, Bool.true_or, Bool.and_true, Bool.and_false, Bool.true_and, Bool.false_and, reduceCtorEq, decide_not, Bool.not_eq_true', decide_eq_false_iff_not, askInt, askBool, askTuple, askList, askStr, oLe, oLt, oGe, oGt, oInt2, atI0, atI1, atI2, run_addI, run_subI]
theorem run_neB {a b : Bool} {S : Store} {Q : Val → Store → Prop} : Run (oNe (.bl a) (.bl b) S) Q = Q (.bl (!(a == b))) S := by
  cases a <;> cases b <;> rfl
theorem run_lcr {as : DA} {v : Nat} {f : D} {vs : List Nat} {ρ : PD.Env} {S : Store} {j : Nat} {g : Val → Val} (e : as ρ S = .ok [.int j] S) (hj : j ≤ 1000000) (he : ∀ x ∈ rangeV 0 j, ∀ S', Gr S S' → Run (f ((wipeE ρ vs).set v (some x)) S') (PureQ S' (g x))) :
    Run (dLCR as (gN v) tYes' f vs ρ S) (fun r S' => ∃ S1, r = .ref S1.length ∧ S' = S1 ++ [.lst ((rangeV 0 j).map g)] ∧ Gr S S1) := by
  unfold dLCR
  rw [run_bind, e, run_ok]
  show Run (if -(2 ^ 62) ≤ (j : Int) ∧ (j : Int) < 2 ^ 62 then (compG (srcL (rangeV 0 j)) (gN v) tYes' f j 0 [] (wipeE ρ vs) S).bind alloc else .stuck) _
  rw [if_pos (by constructor <;> omega), run_bind]
  have := comp_pure0 (f := f) (v := v) (ρ := wipeE ρ vs) (g := g) (rangeV 0 j) S (by rw [rangeV_len]; omega) he
  rw [rangeV_len] at this
  refine Run.mono this fun ys S1 ⟨e1, g1⟩ => ?_
  subst e1
  exact ⟨_, rfl, rfl, g1⟩
section
variable {m : Nat} {a b : Val} {xs : List Val} {S : Store} {Q : Val → Store → Prop}
theorem ixr0 (h : S[m]? = some (.lst (a :: xs))) : Run (oIx (.ref m) (.int 0) S) Q = Q a S := by rw [run_ixR h, atI0]; rfl
theorem ixr1 (h : S[m]? = some (.lst (a :: b :: xs))) : Run (oIx (.ref m) (.int 1) S) Q = Q b S := by rw [run_ixR h, atI1]; rfl
theorem ixn0 : Run (oIx (.ref (List.length S)) (.int 0) (S ++ [.lst (a :: xs)])) Q = Q a (S ++ [.lst (a :: xs)]) := ixr0 (get_new _ _)
theorem ixn1 : Run (oIx (.ref (List.length S)) (.int 1) (S ++ [.lst (a :: b :: xs)])) Q = Q b (S ++ [.lst (a :: b :: xs)]) := ixr1 (get_new _ _)
end
theorem pick0 {v : Val} : pick [0] [v] = [v] := rfl
theorem runS_loopC {n : Nat} {xs : List Val} {t : TgD} {b : SD} {R : Val → Store → Prop} (I : Nat → PD.Env → Store → Prop) (hI : ∀ j ρ S, I j ρ S → S[n]? = some (.lst xs)) (step : ∀ j x ρ S, xs[j]? = some x → I j ρ S → ∃ ρ1, t x ρ = some ρ1 ∧ RunS (b ρ1 S) (I (j + 1)) R) :
    ∀ (m j : Nat) (ρ : PD.Env) (S : Store), j + m = xs.length → I j ρ S → RunS (loopC n t b m j ρ S) (I xs.length) R
  | 0, j, ρ, S, hm, h => by
    show RunS (match S[n]? with | some c => if c.items.length ≤ j then .next ρ S else .stuck | none => .stuck) _ _
    rw [hI j ρ S h]
    show RunS (if xs.length ≤ j then .next ρ S else .stuck) _ _
    rw [if_pos (by omega)]
    have : j = xs.length := by omega
    subst this
    exact h
  | m + 1, j, ρ, S, hm, h => by
    have hx : xs[j]? = some xs[j] := List.getElem?_eq_getElem (by omega)
    obtain ⟨ρ1, e, q⟩ := step j xs[j] ρ S hx h
    show RunS (match S[n]? with
      | some c => match c.items[j]? with
        | none => .next ρ S
        | some x => match t x ρ with
          | none => .stuck
          | some ρ1 => (b ρ1 S).turn (loopC n t b m (j + 1))
      | none => .stuck) _ _
    rw [hI j ρ S h]
    show RunS (match xs[j]? with
        | none => .next ρ S
        | some x => match t x ρ with
          | none => .stuck
          | some ρ1 => (b ρ1 S).turn (loopC n t b m (j + 1))) _ _
    rw [hx]
    show RunS (match t xs[j] ρ with
          | none => .stuck
          | some ρ1 => (b ρ1 S).turn (loopC n t b m (j + 1))) _ _
    rw [e]
    show RunS ((b ρ1 S).turn (loopC n t b m (j + 1))) _ _
    cases hr : b ρ1 S with
    | next ρ2 S2 =>
      rw [hr] at q
      exact runS_loopC I hI step m (j + 1) ρ2 S2 (by omega) q
    | ret v S2 => rw [hr] at q; exact q
    | brk ρ2 S2 => rw [hr] at q; exact q.elim
    | cont ρ2 S2 => rw [hr] at q; exact q.elim
    | exc e ρ2 S2 => rw [hr] at q; exact q.elim
    | stuck => rw [hr] at q; exact q.elim
theorem s_forC {f : D} {t : TgD} {b : SD} {ρ : PD.Env} {S : Store} {N : PD.Env → Store → Prop} {R : Val → Store → Prop} (h : Run (f ρ S) fun x S1 => ∃ n xs, x = .ref n ∧ S1[n]? = some (.lst xs) ∧ RunS (loopC n t b xs.length 0 ρ S1) N R) : RunS (sForC f t b ρ S) N R := by
  unfold sForC
  rw [runS_toS]
  refine Run.mono h fun x S1 ⟨n, xs, e, e1, q⟩ => ?_
  subst e
  show RunS (match S1[n]? with | some c => loopC n t b c.items.length 0 ρ S1 | none => .stuck) N R
  rw [e1]
  exact q
theorem comp_pureC {f : D} {n v : Nat} {ρ : PD.Env} {g : Val → Val} {ys : List Val} : ∀ (xs : List Val) (i : Nat) (acc : List Val) (S : Store), S[n]? = some (.lst ys) → acc.length + xs.length < 16777216 →
    (∀ x ∈ xs, ∀ S', Run (f (ρ.set v (some x)) S') (PureK S' (g x))) → ys.drop i = xs → i ≤ ys.length →
    Run (compG (srcC n) (gN v) tYes' f xs.length i acc ρ S) (PureK S (acc ++ xs.map g))
  | [], i, acc, S, hn, _, _, hd, hi => by
    have : ys[i]? = none := by
      rw [List.getElem?_eq_none_iff]
      have := congrArg List.length hd
      simp at this; omega
    show Run (match srcC n i S with | some none => Res.ok acc S | _ => .stuck) _
    have es : srcC n i S = some none := by
      unfold srcC; rw [hn]; show some ys[i]? = _; rw [this]
    rw [es]
    exact ⟨by simp, .refl S⟩
  | x :: xs, i, acc, S, hn, hl, he, hd, hi => by
    have hlt : i < ys.length := by
      have := congrArg List.length hd
      simp at this; omega
    have e0 := List.drop_eq_getElem_cons hlt
    rw [hd] at e0
    have hx : ys[i]? = some x := by rw [List.getElem?_eq_getElem hlt, (List.cons.inj e0).1]
    have hl' : acc.length + (xs.length + 1) < 16777216 := hl
    show Run (match srcC n i S with
      | none => Res.stuck
      | some none => .ok acc S
      | some (some x) => match gN v x ρ with
        | none => .stuck
        | some ρ1 => (noX (tYes' ρ1 S)).bind fun b S1 => if b = true then (noX (f ρ1 S1)).bind fun y S2 => if acc.length < 16777216 then compG (srcC n) (gN v) tYes' f xs.length (i + 1) (acc ++ [y]) ρ S2 else .stuck
            else compG (srcC n) (gN v) tYes' f xs.length (i + 1) acc ρ S1) _
    have es : srcC n i S = some (some x) := by unfold srcC; rw [hn]; show some ys[i]? = _; rw [hx]
    rw [es]
    show Run ((noX (f (ρ.set v (some x)) S)).bind fun y S2 => if acc.length < 16777216 then compG (srcC n) (gN v) tYes' f xs.length (i + 1) (acc ++ [y]) ρ S2 else .stuck) _
    rw [run_bind, run_noX]
    refine Run.mono (he x List.mem_cons_self S) fun y S1 ⟨ey, g1⟩ => ?_
    rw [if_pos (by omega)]
    refine Run.mono (comp_pureC (g := g) xs (i + 1) (acc ++ [y]) S1 (g1 _ _ hn) (by simp; omega) (fun y hy => he y (List.mem_cons_of_mem _ hy)) (List.cons.inj e0).2.symm hlt) fun zs S2 ⟨ez, g2⟩ => ?_
    exact ⟨by rw [ez, ey]; simp, g1.trans g2⟩
theorem run_lcc {h : D} {v : Nat} {f : D} {vs : List Nat} {ρ : PD.Env} {S : Store} {xs : List Val} {g : Val → Val} (hl : xs.length ≤ 1000000) (e : Run (h ρ S) fun x S1 => x = .ref S.length ∧ S1 = S ++ [.lst xs]) (he : ∀ x ∈ xs, ∀ S', Run (f ((wipeE ρ vs).set v (some x)) S') (PureK S' (g x))) :
    Run (dLCC h (gN v) tYes' f vs ρ S) (fun r S' => ∃ S1, r = .ref S1.length ∧ S' = S1 ++ [.lst (xs.map g)] ∧ Kp S S1) := by
  unfold dLCC
  rw [run_bind]
  refine Run.mono e fun x S1 ⟨e1, e2⟩ => ?_
  subst e1 e2
  show Run (match (S ++ [Cell.lst xs])[S.length]? with
    | some cc => (compG (srcC S.length) (gN v) tYes' f cc.items.length 0 [] (wipeE ρ vs) (S ++ [.lst xs])).bind alloc
    | none => .stuck) _
  rw [get_new]
  show Run ((compG (srcC S.length) (gN v) tYes' f xs.length 0 [] (wipeE ρ vs) (S ++ [.lst xs])).bind alloc) _
  rw [run_bind]
  refine Run.mono (comp_pureC (g := g) (ys := xs) xs 0 [] (S ++ [.lst xs]) (get_new _ _) (by simp; omega) he rfl (Nat.zero_le _)) fun ys S2 ⟨e1, k⟩ => ?_
  subst e1
  exact ⟨_, rfl, rfl, (Gr.add _ _).kp.trans k⟩
theorem repV_one {k : Nat} {x : Val} : repV k [x] = List.replicate k x := by
  unfold repV
  induction k with
  | zero => rfl
  | succ k ih => rw [List.replicate_succ, List.flatten_cons, ih]; rfl
theorem run_repT {k : Nat} {x : Val} {S : Store} {Q : Val → Store → Prop} (h0 : 2 ≤ k) (h1 : k ≤ 1000000) : Run (oRepT (.tup [x]) (.int k) S) Q = Q (.tup (List.replicate k x)) S := by
  show Run (if [x] ≠ [] ∧ (2 : Int) ≤ k ∧ (k : Int) ≤ 1000000 ∧ [x].length * (k : Int).toNat ≤ 1000000 then .ok (.tup (repV (k : Int).toNat [x])) S else .stuck) Q = _
  rw [if_pos ⟨by simp, by omega, by omega, by rw [List.length_singleton]; omega⟩, Int.toNat_natCast, repV_one]; rfl
theorem run_repL1 {k : Nat} {x : Val} {S : Store} {Q : Val → Store → Prop} (h1 : k ≤ 1000000) : Run (oRepL (.ref S.length) (.int k) (S ++ [.lst [x]])) Q = Q (.ref (S ++ [Cell.lst [x]]).length) (S ++ [.lst [x]] ++ [.lst (List.replicate k x)]) := by
  show Run (match (S ++ [Cell.lst [x]])[S.length]? with
    | some (.lst xs) => if -(2 ^ 63) ≤ (k : Int) ∧ (k : Int) < 2 ^ 63 ∧ xs.length * (k : Int).toNat ≤ 16777216 then alloc (repV (k : Int).toNat xs) (S ++ [Cell.lst [x]]) else .stuck
    | _ => .stuck) Q = _
  rw [get_new]
  show Run (if -(2 ^ 63) ≤ (k : Int) ∧ (k : Int) < 2 ^ 63 ∧ [x].length * (k : Int).toNat ≤ 16777216 then alloc (repV (k : Int).toNat [x]) (S ++ [Cell.lst [x]]) else .stuck) Q = _
  rw [if_pos ⟨by omega, by omega, by rw [List.length_singleton]; omega⟩, Int.toNat_natCast, repV_one]; rfl
end PD

/-! ## LTree -/
set_option linter.all false
namespace PD.LT
/-! ### loose trees of ints: their least forms -/
inductive T where
  | leaf (i : Int) | node (n : Int) (l r : T)
deriving DecidableEq
namespace T
def isLeaf : T → Bool
  | leaf _ => true
  | _ => false
def lift : T → Int → T
  | leaf i, k => leaf (i + k)
  | node n l r, k => node (n + k) l r
/-- the first number -/
def top : T → Int
  | leaf i => i
  | node n _ _ => n
def sameL : T → T → Bool
  | leaf i, leaf j => decide (i = j)
  | _, _ => false
def whole (l r : T) : T := if sameL l r = true then l else node (min l.top r.top) (l.lift (-(min l.top r.top))) (r.lift (-(min l.top r.top)))
def lf : T → T
  | leaf i => leaf i
  | node n l r => (whole l.lf r.lf).lift n
/-- no number below 0 -/
def nn : T → Bool
  | leaf i => decide (0 ≤ i)
  | node n l r => decide (0 ≤ n) && (l.nn && r.nn)
/-- the least form of some tree, but for numbers below 0 at the top -/
def co : T → Bool
  | leaf _ => true
  | node _ l r => l.co && (r.co && (!sameL l r && (decide (0 ≤ l.top) && (decide (0 ≤ r.top) && (decide (l.top = 0) || decide (r.top = 0))))))
def dep : T → Nat
  | leaf _ => 0
  | node _ l r => 1 + max l.dep r.dep
def tc : T → Nat
  | leaf _ => 0
  | node _ l r => 1 + (l.tc + r.tc)
def sum : T → Int
  | leaf i => i
  | node n l r => n + l.sum + r.sum
theorem top_lift (t : T) (k : Int) : (t.lift k).top = t.top + k := by cases t <;> rfl
theorem lift_lift (t : T) (a b : Int) : (t.lift a).lift b = t.lift (a + b) := by cases t <;> simp [lift, Int.add_assoc]
theorem lift_zero (t : T) : t.lift 0 = t := by cases t <;> simp [lift]
theorem co_lift (t : T) (k : Int) : (t.lift k).co = t.co := by cases t <;> rfl
theorem dep_lift (t : T) (k : Int) : (t.lift k).dep = t.dep := by cases t <;> rfl
theorem tc_lift (t : T) (k : Int) : (t.lift k).tc = t.tc := by cases t <;> rfl
theorem sum_lift (t : T) (k : Int) : (t.lift k).sum = t.sum + k := by cases t <;> simp [lift, sum]; omega
theorem isLeaf_lift (t : T) (k : Int) : (t.lift k).isLeaf = t.isLeaf := by cases t <;> rfl
theorem sameL_lift (l r : T) (k : Int) : sameL (l.lift k) (r.lift k) = sameL l r := by
  cases l <;> cases r <;> first | rfl | skip
  rename_i i j
  show decide (i + k = j + k) = decide (i = j)
  exact decide_eq_decide.mpr ⟨fun h => by omega, fun h => by omega⟩
theorem sameL_eq {l r : T} (h : sameL l r = true) : ∃ i, l = leaf i ∧ r = leaf i := by
  cases l <;> cases r <;> first | cases h | skip
  rename_i i j
  exact ⟨i, rfl, by rw [of_decide_eq_true h]⟩
theorem whole_lift (l r : T) (k : Int) : whole (l.lift k) (r.lift k) = (whole l r).lift k := by
  unfold whole
  rw [sameL_lift]
  split
  · rfl
  · rw [top_lift, top_lift, lift_lift, lift_lift]
    show node _ _ _ = node _ _ _
    have e : min (l.top + k) (r.top + k) = min l.top r.top + k := by omega
    rw [e]
    congr 2 <;> congr 1 <;> omega
theorem top_whole (l r : T) : (whole l r).top = min l.top r.top := by
  unfold whole
  split
  · rename_i h
    obtain ⟨i, rfl, rfl⟩ := sameL_eq h
    show i = min i i
    omega
  · rfl
theorem co_whole {l r : T} (hl : l.co = true) (hr : r.co = true) : (whole l r).co = true := by
  unfold whole
  split
  · exact hl
  · rename_i h
    show (co (lift _ _) && (co (lift _ _) && (!sameL (lift _ _) (lift _ _) && _))) = true
    rw [co_lift, co_lift, hl, hr, sameL_lift, top_lift, top_lift]
    rw [Bool.not_eq_true] at h
    rw [h]
    simp only [Bool.true_and, Bool.not_false, Bool.and_eq_true, Bool.or_eq_true, decide_eq_true_eq]
    omega
theorem co_lf : ∀ t : T, t.lf.co = true
  | leaf _ => rfl
  | node n l r => by
    show ((whole l.lf r.lf).lift n).co = true
    rw [co_lift]
    exact co_whole (co_lf l) (co_lf r)
theorem top_nn {t : T} (h : t.nn = true) : 0 ≤ t.top := by
  cases t with
  | leaf i => exact of_decide_eq_true h
  | node n l r =>
    have h : (decide (0 ≤ n) && (l.nn && r.nn)) = true := h
    rw [Bool.and_eq_true] at h
    exact of_decide_eq_true h.1
/-- a canonical tree is not below 0 exactly if its top is not -/
theorem nn_of_co : ∀ {t : T}, t.co = true → 0 ≤ t.top → t.nn = true
  | leaf i, _, h => decide_eq_true h
  | node n l r, h, h0 => by
    have h : (l.co && (r.co && (!sameL l r && (decide (0 ≤ l.top) && (decide (0 ≤ r.top) && (decide (l.top = 0) || decide (r.top = 0))))))) = true := h
    simp only [Bool.and_eq_true, decide_eq_true_eq] at h
    show (decide (0 ≤ n) && (l.nn && r.nn)) = true
    rw [nn_of_co h.1 h.2.2.2.1, nn_of_co h.2.1 h.2.2.2.2.1, decide_eq_true (show 0 ≤ n from h0)]
    rfl
theorem top_lf : ∀ {t : T}, t.nn = true → 0 ≤ t.lf.top
  | leaf i, h => of_decide_eq_true h
  | node n l r, h => by
    have h : (decide (0 ≤ n) && (l.nn && r.nn)) = true := h
    simp only [Bool.and_eq_true, decide_eq_true_eq] at h
    show 0 ≤ ((whole l.lf r.lf).lift n).top
    rw [top_lift, top_whole]
    have := top_lf h.2.1
    have := top_lf h.2.2
    omega
theorem nn_lf {t : T} (h : t.nn = true) : t.lf.nn = true := nn_of_co (co_lf t) (top_lf h)
/-- a canonical tree is its own least form -/
theorem whole_of_co {n : Int} {l r : T} (h : (node n l r).co = true) : (whole l r).lift n = node n l r := by
  have h : (l.co && (r.co && (!sameL l r && (decide (0 ≤ l.top) && (decide (0 ≤ r.top) && (decide (l.top = 0) || decide (r.top = 0))))))) = true := h
  simp only [Bool.and_eq_true, Bool.or_eq_true, decide_eq_true_eq, Bool.not_eq_true'] at h
  unfold whole
  rw [if_neg (by rw [h.2.2.1]; decide)]
  have e : min l.top r.top = 0 := by omega
  rw [e]
  show node (0 + n) _ _ = _
  rw [show (-(0 : Int)) = 0 from rfl, lift_zero, lift_zero, Int.zero_add]
theorem lf_of_co : ∀ {t : T}, t.co = true → t.lf = t
  | leaf _, _ => rfl
  | node n l r, h => by
    have h' : (l.co && (r.co && (!sameL l r && (decide (0 ≤ l.top) && (decide (0 ≤ r.top) && (decide (l.top = 0) || decide (r.top = 0))))))) = true := h
    simp only [Bool.and_eq_true] at h'
    show (whole l.lf r.lf).lift n = _
    rw [lf_of_co h'.1, lf_of_co h'.2.1]
    exact whole_of_co h
theorem lf_lift (t : T) (k : Int) : (t.lift k).lf = t.lf.lift k := by
  cases t with
  | leaf i => rfl
  | node n l r =>
    show (whole l.lf r.lf).lift (n + k) = ((whole l.lf r.lf).lift n).lift k
    rw [lift_lift]
theorem tc_whole (l r : T) : (whole l r).tc ≤ 1 + (l.tc + r.tc) := by
  unfold whole
  split
  · omega
  · show 1 + ((lift _ _).tc + (lift _ _).tc) ≤ _
    rw [tc_lift, tc_lift]
    exact Nat.le_refl _
theorem tc_lf : ∀ t : T, t.lf.tc ≤ t.tc
  | leaf _ => Nat.le_refl _
  | node n l r => by
    show ((whole l.lf r.lf).lift n).tc ≤ 1 + (l.tc + r.tc)
    rw [tc_lift]
    have := tc_whole l.lf r.lf
    have := tc_lf l
    have := tc_lf r
    omega
theorem dep_whole (l r : T) : (whole l r).dep ≤ 1 + max l.dep r.dep := by
  unfold whole
  split
  · omega
  · show 1 + max (lift _ _).dep (lift _ _).dep ≤ _
    rw [dep_lift, dep_lift]
    exact Nat.le_refl _
theorem dep_lf : ∀ t : T, t.lf.dep ≤ t.dep
  | leaf _ => Nat.le_refl _
  | node n l r => by
    show ((whole l.lf r.lf).lift n).dep ≤ 1 + max l.dep r.dep
    rw [dep_lift]
    have := dep_whole l.lf r.lf
    have := dep_lf l
    have := dep_lf r
    omega
theorem sum_nn : ∀ {t : T}, t.nn = true → t.top ≤ t.sum
  | leaf i, _ => Int.le_refl _
  | node n l r, h => by
    have h : (decide (0 ≤ n) && (l.nn && r.nn)) = true := h
    simp only [Bool.and_eq_true, decide_eq_true_eq] at h
    have := sum_nn h.2.1
    have := sum_nn h.2.2
    have := top_nn h.2.1
    have := top_nn h.2.2
    show n ≤ n + l.sum + r.sum
    omega
theorem sum_whole {l r : T} (hl : l.nn = true) (hr : r.nn = true) : (whole l r).sum ≤ l.sum + r.sum := by
  have a := sum_nn hl
  have b := sum_nn hr
  have c := top_nn hl
  have d := top_nn hr
  unfold whole
  split
  · omega
  · show min l.top r.top + (lift _ _).sum + (lift _ _).sum ≤ _
    rw [sum_lift, sum_lift]
    omega
theorem sum_lf : ∀ {t : T}, t.nn = true → t.lf.sum ≤ t.sum
  | leaf _, _ => Int.le_refl _
  | node n l r, h => by
    have h : (decide (0 ≤ n) && (l.nn && r.nn)) = true := h
    simp only [Bool.and_eq_true, decide_eq_true_eq] at h
    show ((whole l.lf r.lf).lift n).sum ≤ n + l.sum + r.sum
    rw [sum_lift]
    have := sum_whole (nn_lf h.2.1) (nn_lf h.2.2)
    have := sum_lf h.2.1
    have := sum_lf h.2.2
    omega
/-! ### its leaves -/
def leaves : T → List Int → Int → List (List Int × Int)
  | leaf i, p, m => [(p, m + i)]
  | node n l r, p, m => leaves l (p ++ [0]) (m + n) ++ leaves r (p ++ [1]) (m + n)
def worths : T → Int → List Int
  | leaf i, m => [m + i]
  | node n l r, m => worths l (m + n) ++ worths r (m + n)
theorem leaves_worths : ∀ (t : T) (p : List Int) (m : Int), (leaves t p m).map (·.2) = worths t m
  | leaf i, p, m => rfl
  | node n l r, p, m => by
    show (leaves l _ _ ++ leaves r _ _).map (·.2) = worths l _ ++ worths r _
    rw [List.map_append, leaves_worths l, leaves_worths r]
theorem leaves_pre : ∀ (t : T) (p : List Int) (m : Int), ∀ x ∈ leaves t p m, p <+: x.1
  | leaf i, p, m, x, h => by
    rw [List.mem_singleton.mp h]; exact List.prefix_refl _
  | node n l r, p, m, x, h => by
    rcases List.mem_append.mp h with h | h
    · exact (List.prefix_append p [0]).trans (leaves_pre l _ _ x h)
    · exact (List.prefix_append p [1]).trans (leaves_pre r _ _ x h)
theorem leaves_ne : ∀ (t : T) (p : List Int) (m : Int), leaves t p m ≠ []
  | leaf i, p, m => by simp [leaves]
  | node n l r, p, m => by
    show leaves l _ _ ++ leaves r _ _ ≠ []
    have := leaves_ne l (p ++ [0]) (m + n)
    simp [this]
theorem leaves_len : ∀ (t : T) (p : List Int) (m : Int), (leaves t p m).length = t.tc + 1
  | leaf i, p, m => rfl
  | node n l r, p, m => by
    show (leaves l _ _ ++ leaves r _ _).length = 1 + (l.tc + r.tc) + 1
    rw [List.length_append, leaves_len l, leaves_len r]; omega
theorem leaves_path : ∀ (t : T) (p : List Int) (m : Int), ∀ x ∈ leaves t p m, x.1.length ≤ p.length + t.dep
  | leaf i, p, m, x, h => by
    rw [List.mem_singleton.mp h]; exact Nat.le_refl _
  | node n l r, p, m, x, h => by
    have e : (node n l r).dep = 1 + max l.dep r.dep := rfl
    rcases List.mem_append.mp h with h | h
    · have := leaves_path l _ _ x h
      rw [List.length_append, List.length_singleton] at this
      omega
    · have := leaves_path r _ _ x h
      rw [List.length_append, List.length_singleton] at this
      omega
theorem pre_take {p q : List Int} (h : p <+: q) : q.take p.length = p := by
  obtain ⟨t, rfl⟩ := h
  exact List.take_left
/-- the rows of the half -/
theorem filter_half {p : List Int} {b c : Int} (hbc : b ≠ c) {A B : List (List Int × Int)} (hA : ∀ x ∈ A, p ++ [b] <+: x.1) (hB : ∀ x ∈ B, p ++ [c] <+: x.1) :
    (A ++ B).filter (fun x => decide (x.1.take (p.length + 1) = p ++ [b])) = A := by
  have hp : ∀ d : Int, (p ++ [d]).length = p.length + 1 := fun d => by simp
  rw [List.filter_append, List.filter_eq_self.mpr (fun x hx => ?_), List.filter_eq_nil_iff.mpr (fun x hx => ?_), List.append_nil]
  · have := pre_take (hB x hx)
    rw [hp] at this
    rw [this]
    simp
    exact fun h => hbc h.symm
  · have := pre_take (hA x hx)
    rw [hp] at this
    rw [this]
    simp
theorem filter_half' {p : List Int} {b c : Int} (hbc : b ≠ c) {A B : List (List Int × Int)} (hA : ∀ x ∈ A, p ++ [b] <+: x.1) (hB : ∀ x ∈ B, p ++ [c] <+: x.1) :
    (A ++ B).filter (fun x => decide (x.1.take (p.length + 1) = p ++ [c])) = B := by
  have hp : ∀ d : Int, (p ++ [d]).length = p.length + 1 := fun d => by simp
  rw [List.filter_append, List.filter_eq_nil_iff.mpr (fun x hx => ?_), List.filter_eq_self.mpr (fun x hx => ?_), List.nil_append]
  · have := pre_take (hB x hx)
    rw [hp] at this
    rw [this]
    simp
  · have := pre_take (hA x hx)
    rw [hp] at this
    rw [this]
    simp
    exact hbc
theorem filter_here {p : List Int} {b c : Int} {A B : List (List Int × Int)} (hA : ∀ x ∈ A, p ++ [b] <+: x.1) (hB : ∀ x ∈ B, p ++ [c] <+: x.1) : (A ++ B).filter (fun x => decide (x.1 = p)) = [] := by
  refine List.filter_eq_nil_iff.mpr fun x hx => ?_
  simp only [decide_eq_true_eq]
  intro e
  rcases List.mem_append.mp hx with h | h
  · have := (hA x h).length_le
    rw [e] at this; simp at this; omega
  · have := (hB x h).length_le
    rw [e] at this; simp at this; omega
/-- the least worth of a canonical tree stands at its top -/
theorem worths_co : ∀ {t : T}, t.co = true → ∀ m : Int, (∀ w ∈ worths t m, m + t.top ≤ w) ∧ m + t.top ∈ worths t m
  | leaf i, _, m => by
    show (∀ w ∈ [m + i], m + i ≤ w) ∧ m + i ∈ [m + i]
    exact ⟨fun w h => by rw [List.mem_singleton.mp h]; exact Int.le_refl _, List.mem_singleton_self _⟩
  | node n l r, h, m => by
    have h : (l.co && (r.co && (!sameL l r && (decide (0 ≤ l.top) && (decide (0 ≤ r.top) && (decide (l.top = 0) || decide (r.top = 0))))))) = true := h
    simp only [Bool.and_eq_true, Bool.or_eq_true, decide_eq_true_eq] at h
    obtain ⟨a1, a2⟩ := worths_co h.1 (m + n)
    obtain ⟨b1, b2⟩ := worths_co h.2.1 (m + n)
    show (∀ w ∈ worths l (m + n) ++ worths r (m + n), m + n ≤ w) ∧ m + n ∈ worths l (m + n) ++ worths r (m + n)
    refine ⟨fun w hw => ?_, ?_⟩
    · rcases List.mem_append.mp hw with hw | hw
      · have := a1 w hw; omega
      · have := b1 w hw; omega
    · rcases h.2.2.2.2.2 with h0 | h0
      · rw [h0, Int.add_zero] at a2
        exact List.mem_append_left _ a2
      · rw [h0, Int.add_zero] at b2
        exact List.mem_append_right _ b2
/-- the greatest worth -/
def mx : T → Int
  | leaf i => i
  | node n l r => n + max l.mx r.mx
theorem mx_lift (t : T) (k : Int) : (t.lift k).mx = t.mx + k := by cases t <;> simp [lift, mx]; omega
theorem mx_whole (l r : T) : (whole l r).mx = max l.mx r.mx := by
  unfold whole
  split
  · rename_i h
    obtain ⟨i, rfl, rfl⟩ := sameL_eq h
    show i = max i i
    omega
  · show min l.top r.top + max (lift _ _).mx (lift _ _).mx = _
    rw [mx_lift, mx_lift]
    omega
theorem mx_lf : ∀ t : T, t.lf.mx = t.mx
  | leaf _ => rfl
  | node n l r => by
    show ((whole l.lf r.lf).lift n).mx = n + max l.mx r.mx
    rw [mx_lift, mx_whole, mx_lf l, mx_lf r]
    omega
theorem nn_node {n : Int} {l r : T} : (node n l r).nn = true ↔ 0 ≤ n ∧ l.nn = true ∧ r.nn = true := by
  show (decide (0 ≤ n) && (l.nn && r.nn)) = true ↔ _
  simp only [Bool.and_eq_true, decide_eq_true_eq]
theorem co_node {n : Int} {l r : T} : (node n l r).co = true ↔ l.co = true ∧ r.co = true ∧ sameL l r = false ∧ 0 ≤ l.top ∧ 0 ≤ r.top ∧ (l.top = 0 ∨ r.top = 0) := by
  show (l.co && (r.co && (!sameL l r && (decide (0 ≤ l.top) && (decide (0 ≤ r.top) && (decide (l.top = 0) || decide (r.top = 0))))))) = true ↔ _
  simp only [Bool.and_eq_true, Bool.or_eq_true, decide_eq_true_eq, Bool.not_eq_true']
theorem nn_mx : ∀ {t : T}, t.nn = true → 0 ≤ t.mx
  | leaf i, h => of_decide_eq_true h
  | node n l r, h => by
    rw [nn_node] at h
    have := nn_mx h.2.1
    show 0 ≤ n + max l.mx r.mx
    omega
theorem top_mx : ∀ {t : T}, t.nn = true → t.top ≤ t.mx
  | leaf i, h => Int.le_refl _
  | node n l r, h => by
    rw [nn_node] at h
    have := nn_mx h.2.1
    show n ≤ n + max l.mx r.mx
    omega
theorem nn_lift {t : T} {k : Int} (h : t.nn = true) (hk : 0 ≤ k) : (t.lift k).nn = true := by
  cases t with
  | leaf i => exact decide_eq_true (by have := of_decide_eq_true (show decide (0 ≤ i) = true from h); omega)
  | node n l r =>
    rw [nn_node] at h
    exact nn_node.mpr ⟨by omega, h.2⟩
/-- the numbers of a tree are below a bound -/
def under (B : Int) : T → Prop
  | leaf i => i < B
  | node n l r => n < B ∧ l.under B ∧ r.under B
theorem mx_below {B : Int} (hB : 0 ≤ B) : ∀ {t : T}, t.under B → t.nn = true → t.mx ≤ (t.dep + 1) * B
  | leaf i, h, _ => by
    have h : i < B := h
    show i ≤ ((0 : Nat) + 1) * B
    omega
  | node n l r, h, hn => by
    have h : n < B ∧ l.under B ∧ r.under B := h
    rw [nn_node] at hn
    have a := mx_below hB h.2.1 hn.2.1
    have b := mx_below hB h.2.2 hn.2.2
    show n + max l.mx r.mx ≤ (((1 + max l.dep r.dep : Nat) : Int) + 1) * B
    have e : (((1 + max l.dep r.dep : Nat) : Int) + 1) * B = B + ((max l.dep r.dep : Nat) + 1 : Int) * B := by
      rw [Int.natCast_add, Int.add_assoc, Int.add_mul]; simp
    have c1 : ((l.dep : Int) + 1) * B ≤ ((max l.dep r.dep : Nat) + 1 : Int) * B := Int.mul_le_mul_of_nonneg_right (by omega) hB
    have c2 : ((r.dep : Int) + 1) * B ≤ ((max l.dep r.dep : Nat) + 1 : Int) * B := Int.mul_le_mul_of_nonneg_right (by omega) hB
    rw [e]
    omega
/-- a tree that is loosened has the least form that it had -/
theorem lf_open {i k : Int} {a b : T} (ha : a.lf = leaf (i - k)) (hb : b.lf = leaf (i - k)) : (node k a b).lf = leaf i := by
  show (whole a.lf b.lf).lift k = _
  rw [ha, hb]
  unfold whole
  rw [if_pos (show sameL (leaf (i - k)) (leaf (i - k)) = true from decide_eq_true rfl)]
  show leaf (i - k + k) = leaf i
  congr 1
  omega
theorem lf_down {n k : Int} {l r a b : T} (h : (node n l r).co = true) (ha : a.lf = l.lift (n - k)) (hb : b.lf = r.lift (n - k)) : (node k a b).lf = node n l r := by
  show (whole a.lf b.lf).lift k = _
  rw [ha, hb, whole_lift, lift_lift, show n - k + k = n by omega]
  exact whole_of_co h
end T
end PD.LT

/-! ## LTV -/
set_option Elab.async false
set_option linter.all false
set_option maxRecDepth 100000
set_option maxHeartbeats 4000000
namespace PD
open PySem PySem.Spec L2 LT
theorem mem2 {α : Type} {P : α → Prop} {a b : α} (ha : P a) (hb : P b) : ∀ x ∈ [a, b], P x := by
  simp only [List.mem_cons, List.not_mem_nil, or_false, forall_eq_or_imp, forall_eq]; exact ⟨ha, hb⟩
theorem mem3 {α : Type} {P : α → Prop} {a b c : α} (ha : P a) (hb : P b) (hc : P c) : ∀ x ∈ [a, b, c], P x := by
  simp only [List.mem_cons, List.not_mem_nil, or_false, forall_eq_or_imp, forall_eq]; exact ⟨ha, hb, hc⟩
/-! ### trees as values -/
def toV : T → Val
  | .leaf i => .int i
  | .node n l r => .tup [.int n, toV l, toV r]
def pathV (p : List Int) : Val := .tup (p.map Val.int)
def rowV (x : List Int × Int) : Val := .tup [pathV x.1, .int x.2]
theorem toV_da {S : Store} : ∀ {t : T} {d : Nat}, t.dep ≤ d → Da S d (toV t)
  | .leaf i, d, _ => .int _ _
  | .node n l r, d, h => by
    have h : 1 + max l.dep r.dep ≤ d := h
    obtain ⟨d, rfl⟩ : ∃ e, d = e + 1 := ⟨d - 1, by omega⟩
    exact .tup (mem3 (.int _ _) (toV_da (by omega)) (toV_da (by omega)))
def tD : T → PyData
  | .leaf i => .int i
  | .node n l r => .tuple [.int n, tD l, tD r]
theorem toV_dat {S : Store} : ∀ {t : T}, t.dep < 65 → dat S (toV t) = tD t
  | .leaf i, _ => rfl
  | .node n l r, h => by
    have h : 1 + max l.dep r.dep < 65 := h
    show dat S (.tup [.int n, toV l, toV r]) = _
    rw [dat_tup (d := max l.dep r.dep) (mem3 (.int _ _) (toV_da (by omega)) (toV_da (by omega))) (by omega)]
    show PyData.tuple [.int n, dat S (toV l), dat S (toV r)] = _
    rw [toV_dat (by omega), toV_dat (by omega)]; rfl
theorem eq_leaf (i : Int) : ∀ t : T, PyData.eqv (.int i) (tD t) = T.sameL (.leaf i) t
  | .leaf j => by show (i == j) = decide (i = j); rw [Bool.beq_eq_decide_eq]
  | .node _ _ _ => rfl
theorem run_eq_leaf {i : Int} {t : T} {S : Store} {Q : Val → Store → Prop} (h : t.dep < 65) : Run (oEq (.int i) (toV t) S) Q = Q (.bl (T.sameL (.leaf i) t)) S := by
  rw [run_eq (Da.int 0 i) (toV_da (Nat.le_refl _)) (by omega) h, toV_dat h, dat_int, eq_leaf]
/-! ### paths -/
theorem path_da {S : Store} {p : List Int} : Da S 1 (pathV p) := .tup fun x hx => by
  obtain ⟨i, _, rfl⟩ := List.mem_map.mp hx
  exact .int _ _
theorem path_dat {S : Store} {p : List Int} : dat S (pathV p) = .tuple (p.map PyData.int) := by
  unfold pathV
  rw [dat_tup (d := 0) (fun x hx => by obtain ⟨i, _, rfl⟩ := List.mem_map.mp hx; exact .int _ _) (by omega), List.map_map]
  rfl
theorem eqv_ints : ∀ p q : List Int, PyData.eqv (.tuple (p.map PyData.int)) (.tuple (q.map PyData.int)) = decide (p = q)
  | [], [] => rfl
  | [], _ :: _ => rfl
  | _ :: _, [] => rfl
  | a :: p, b :: q => by
    have := eqv_ints p q
    show ((a == b) && PyData.eqv (.tuple (p.map PyData.int)) (.tuple (q.map PyData.int))) = _
    rw [this, Bool.beq_eq_decide_eq, ← Bool.decide_and]
    exact decide_eq_decide.mpr ⟨fun h => by rw [h.1, h.2], fun h => by cases h; exact ⟨rfl, rfl⟩⟩
theorem run_eqP {p q : List Int} {S : Store} {Q : Val → Store → Prop} : Run (oEq (pathV p) (pathV q) S) Q = Q (.bl (decide (p = q))) S := by
  rw [run_eq path_da path_da (by omega) (by omega), path_dat, path_dat, eqv_ints]
theorem run_addP {p : List Int} {i : Int} {S : Store} {Q : Val → Store → Prop} (h : p.length ≤ 1000) : Run (oAdd (pathV p) (.tup [.int i]) S) Q = Q (pathV (p ++ [i])) S := by
  unfold pathV
  rw [run_addT (by rw [List.length_map]; show p.length + 1 ≤ _; omega), List.map_append]
  rfl
/-! ### numbers that are small enough to be shown -/
@[irreducible] def BIG : Int := 10 ^ 99
theorem BIG_nat {i : Int} (h0 : 0 ≤ i) (h : i < BIG) : i.natAbs < 10 ^ 100 := by
  have : (i.natAbs : Int) < ((10 ^ 100 : Nat) : Int) := by
    rw [Int.natAbs_of_nonneg h0]
    exact Int.lt_of_lt_of_le h (by unfold BIG; decide)
  exact Int.ofNat_lt.mp this
theorem good_toV {c : Nat} {S : Store} : ∀ {t : T} {d : Nat}, t.nn = true → t.mx < BIG → t.dep ≤ d → d < 66 → Good c S d (211 * t.tc + 101) (toV t)
  | .leaf i, d, h, hm, _, _ => .int (BIG_nat (of_decide_eq_true h) hm) (by omega)
  | .node n l r, d, h, hm, hd, h66 => by
    rw [T.nn_node] at h
    have hd : 1 + max l.dep r.dep ≤ d := hd
    have hm : n + max l.mx r.mx < BIG := hm
    have hl := T.nn_mx h.2.1
    have hr := T.nn_mx h.2.2
    obtain ⟨d, rfl⟩ : ∃ e, d = e + 1 := ⟨d - 1, by omega⟩
    refine .three (L := 101) (.int (BIG_nat h.1 (by omega)) (Nat.le_refl _)) (good_toV h.2.1 (by omega) (by omega) (by omega)) (good_toV h.2.2 (by omega) (by omega) (by omega)) (by omega) ?_
    show _ ≤ 211 * (1 + (l.tc + r.tc)) + 101
    omega
/-! ### a comprehension over a list: with a condition, of pure parts -/
theorem comp_flt {f : D} {tg : TgD} {cd : DT} {n : Nat} {ρ : PD.Env} {ys : List Val} {P : Val → Bool} {g : Val → Val} : ∀ (xs : List Val) (i : Nat) (acc : List Val) (S : Store), S[n]? = some (.lst ys) → acc.length + xs.length < 16777216 →
    (∀ x ∈ xs, ∀ S', Kp S S' → ∃ ρ1, tg x ρ = some ρ1 ∧ Run (cd ρ1 S') (fun b S2 => b = P x ∧ Kp S' S2) ∧ (P x = true → ∀ S2, Kp S S2 → Run (f ρ1 S2) (PureK S2 (g x)))) → ys.drop i = xs → i ≤ ys.length →
    Run (compG (srcC n) tg cd f xs.length i acc ρ S) (PureK S (acc ++ (xs.filter P).map g))
  | [], i, acc, S, hn, _, _, hd, hi => by
    have : ys[i]? = none := by
      rw [List.getElem?_eq_none_iff]
      have := congrArg List.length hd
      simp at this; omega
    show Run (match srcC n i S with | some none => Res.ok acc S | _ => .stuck) _
    have es : srcC n i S = some none := by
      unfold srcC; rw [hn]; show some ys[i]? = _; rw [this]
    rw [es]
    exact ⟨by simp, .refl S⟩
  | x :: xs, i, acc, S, hn, hl, he, hd, hi => by
    have hlt : i < ys.length := by
      have := congrArg List.length hd
      simp at this; omega
    have e0 := List.drop_eq_getElem_cons hlt
    rw [hd] at e0
    have hx : ys[i]? = some x := by rw [List.getElem?_eq_getElem hlt, (List.cons.inj e0).1]
    have hl' : acc.length + (xs.length + 1) < 16777216 := hl
    obtain ⟨ρ1, et, hc, hf⟩ := he x List.mem_cons_self S (.refl S)
    show Run (match srcC n i S with
      | none => Res.stuck
      | some none => .ok acc S
      | some (some x) => match tg x ρ with
        | none => .stuck
        | some ρ1 => (noX (cd ρ1 S)).bind fun b S1 => if b = true then (noX (f ρ1 S1)).bind fun y S2 => if acc.length < 16777216 then compG (srcC n) tg cd f xs.length (i + 1) (acc ++ [y]) ρ S2 else .stuck
            else compG (srcC n) tg cd f xs.length (i + 1) acc ρ S1) _
    have es : srcC n i S = some (some x) := by unfold srcC; rw [hn]; show some ys[i]? = _; rw [hx]
    rw [es]
    show Run (match tg x ρ with
        | none => .stuck
        | some ρ1 => (noX (cd ρ1 S)).bind fun b S1 => if b = true then (noX (f ρ1 S1)).bind fun y S2 => if acc.length < 16777216 then compG (srcC n) tg cd f xs.length (i + 1) (acc ++ [y]) ρ S2 else .stuck
            else compG (srcC n) tg cd f xs.length (i + 1) acc ρ S1) _
    rw [et]
    show Run ((noX (cd ρ1 S)).bind fun b S1 => if b = true then (noX (f ρ1 S1)).bind fun y S2 => if acc.length < 16777216 then compG (srcC n) tg cd f xs.length (i + 1) (acc ++ [y]) ρ S2 else .stuck
            else compG (srcC n) tg cd f xs.length (i + 1) acc ρ S1) _
    rw [run_bind, run_noX]
    refine Run.mono hc fun b S1 ⟨eb, k1⟩ => ?_
    subst eb
    cases hP : P x with
    | false =>
      rw [if_neg (by decide), List.filter_cons_of_neg (by rw [hP]; decide)]
      refine Run.mono (comp_flt (P := P) (g := g) xs (i + 1) acc S1 (k1 _ _ hn) (by omega) (fun y hy S' k' => ?_) (List.cons.inj e0).2.symm hlt) fun zs S2 ⟨ez, g2⟩ => ⟨ez, k1.trans g2⟩
      obtain ⟨ρ2, a1, a2, a3⟩ := he y (List.mem_cons_of_mem _ hy) S' (k1.trans k')
      exact ⟨ρ2, a1, a2, fun hq S2 k2 => a3 hq S2 (k1.trans k2)⟩
    | true =>
      rw [if_pos rfl, run_bind, run_noX, List.filter_cons_of_pos hP]
      refine Run.mono (hf hP S1 k1) fun y S2 ⟨ey, k2⟩ => ?_
      subst ey
      rw [if_pos (by omega)]
      refine Run.mono (comp_flt (P := P) (g := g) xs (i + 1) (acc ++ [g x]) S2 (k2 _ _ (k1 _ _ hn)) (by simp; omega) (fun y hy S' k' => ?_) (List.cons.inj e0).2.symm hlt) fun zs S3 ⟨ez, g3⟩ => ⟨by rw [ez]; simp, (k1.trans k2).trans g3⟩
      obtain ⟨ρ2, a1, a2, a3⟩ := he y (List.mem_cons_of_mem _ hy) S' ((k1.trans k2).trans k')
      exact ⟨ρ2, a1, a2, fun hq S2' k2' => a3 hq S2' ((k1.trans k2).trans k2')⟩
theorem run_lccf {h : D} {tg : TgD} {cd : DT} {f : D} {vs : List Nat} {ρ : PD.Env} {S : Store} {xs : List Val} {P : Val → Bool} {g : Val → Val} (hl : xs.length ≤ 1000000) (e : Run (h ρ S) fun x S1 => ∃ n, x = .ref n ∧ S1[n]? = some (.lst xs) ∧ Kp S S1)
    (he : ∀ x ∈ xs, ∀ S', Kp S S' → ∃ ρ1, tg x (wipeE ρ vs) = some ρ1 ∧ Run (cd ρ1 S') (fun b S2 => b = P x ∧ Kp S' S2) ∧ (P x = true → ∀ S2, Kp S S2 → Run (f ρ1 S2) (PureK S2 (g x)))) :
    Run (dLCC h tg cd f vs ρ S) (fun r S' => ∃ S1, r = .ref S1.length ∧ S' = S1 ++ [.lst ((xs.filter P).map g)] ∧ Kp S S1) := by
  unfold dLCC
  rw [run_bind]
  refine Run.mono e fun x S1 ⟨n, e1, e2, k⟩ => ?_
  subst e1
  show Run (match S1[n]? with
    | some cc => (compG (srcC n) tg cd f cc.items.length 0 [] (wipeE ρ vs) S1).bind alloc
    | none => .stuck) _
  rw [e2]
  show Run ((compG (srcC n) tg cd f xs.length 0 [] (wipeE ρ vs) S1).bind alloc) _
  rw [run_bind]
  refine Run.mono (comp_flt (P := P) (g := g) (ys := xs) xs 0 [] S1 e2 (by simp; omega) (fun x hx S' k' => ?_) rfl (Nat.zero_le _)) fun ys S2 ⟨e1, k2⟩ => ?_
  · obtain ⟨ρ1, a1, a2, a3⟩ := he x hx S' (k.trans k')
    exact ⟨ρ1, a1, a2, fun hq S2 k2 => a3 hq S2 (k.trans k2)⟩
  · subst e1
    exact ⟨_, rfl, rfl, k.trans k2⟩
theorem run_tYes {ρ : PD.Env} {S : Store} {Q : Bool → Store → Prop} : Run (tYes' ρ S) Q = Q true S := rfl
/-! ### products, sums -/
theorem run_mulE {a b : Int} {S : Store} {Q : Val → Store → Prop} (h : a.natAbs < 2 ^ 63 ∨ b.natAbs < 2 ^ 63) : Run (oMulE (.int a) (.int b) S) Q = Q (.int (a * b)) S := by
  show Run (if a.natAbs < 2 ^ 63 ∨ b.natAbs < 2 ^ 63 ∨ a.natAbs.log2 + b.natAbs.log2 < 1000000 then okI (a * b) S else .stuck) Q = _
  rw [if_pos (by rcases h with h | h; exact .inl h; exact .inr (.inl h))]; rfl
theorem run_powE {a : Nat} {b : Nat} {S : Store} {Q : Val → Store → Prop} (h : b ≤ 1000000) (h' : a < 1000) : Run (oPow (.int a) (.int b) S) Q = Q (.int ((a : Int) ^ b)) S := by
  show Run (if (0 : Int) ≤ b ∧ (b : Int) ≤ 1000000 ∧ (a : Int).natAbs < 2 ^ 64 then okI ((a : Int) ^ (b : Int).toNat) S else .stuck) Q = _
  rw [if_pos ⟨by omega, by omega, by rw [Int.natAbs_natCast]; exact Nat.lt_of_lt_of_le h' (by decide)⟩, Int.toNat_natCast]; rfl
end PD

/-! ## PDGd -/
set_option Elab.async false
set_option linter.all false
set_option maxRecDepth 100000
set_option maxHeartbeats 4000000
namespace PD
open PySem PySem.Spec L2 LT
/-! ### written values that hold no list: depth and length, reckoned -/
mutual
def gd : Val → Option (Nat × Nat)
  | .non => some (0, 4)
  | .bl _ => some (0, 5)
  | .int i => if i.natAbs < 10 ^ 100 then some (0, 101) else none
  | .str z => if (PyData.str z).canLay0 = true ∧ PyData.strOk (reprText z) = true then some (0, (reprText z).length) else none
  | .tup xs => match gds xs with
    | some (d, L) => some (d + 1, L + 3)
    | none => none
  | _ => none
def gds : List Val → Option (Nat × Nat)
  | [] => some (0, 0)
  | x :: xs => match gd x, gds xs with
    | some (d, L), some (e, M) => some (max d e, L + 2 + M)
    | _, _ => none
end
section
variable {c : Nat} {S : Store}
mutual
theorem gd_good : ∀ (v : Val) (d L : Nat), gd v = some (d, L) → d < 66 → Good c S d L v
  | .non, d, L, h, _ => by cases h; exact .non (Nat.le_refl _)
  | .bl b, d, L, h, _ => by cases h; exact .bl (Nat.le_refl _)
  | .int i, d, L, h, _ => by
    unfold gd at h
    split at h
    · rename_i hi; cases h; exact .int hi (Nat.le_refl _)
    · cases h
  | .str z, d, L, h, _ => by
    unfold gd at h
    split at h
    · rename_i hi; cases h; exact .str hi.1 (Nat.le_refl _) hi.2
    · cases h
  | .tup xs, d, L, h, hd => by
    unfold gd at h
    split at h
    · rename_i e M he
      cases h
      exact .tup (gds_good xs e M he (by omega)) (by omega) (Nat.le_refl _)
    · cases h
  | .ref n, d, L, h, _ => by cases h
  | .ty n, d, L, h, _ => by cases h
  | .kl n, d, L, h, _ => by cases h
theorem gds_good : ∀ (xs : List Val) (d L : Nat), gds xs = some (d, L) → d < 66 → Goods c S d L xs
  | [], d, L, h, _ => .nil _
  | x :: xs, d, L, h, hd => by
    unfold gds at h
    split at h
    · rename_i d1 L1 d2 L2 h1 h2
      cases h
      exact .cons ((gd_good x d1 L1 h1 (by omega)).up (by omega) (Nat.le_refl _)) (Goods.up (gds_good xs d2 L2 h2 (by omega)) (by omega)) (Nat.le_refl _)
    · cases h
theorem Goods.up {d e L : Nat} {xs : List Val} (h : Goods c S d L xs) (he : d ≤ e) : Goods c S e L xs := by
  induction h with
  | nil L => exact .nil L
  | cons hx _ hN ih => exact .cons (hx.up he (Nat.le_refl _)) ih hN
end
theorem gd_up {v : Val} {d L d' L' : Nat} (h : gd v = some (d, L)) (hd : d ≤ d') (hL : L ≤ L') (h66 : d < 66) : Good c S d' L' v := (gd_good v d L h h66).up hd hL
theorem gd_all {v : Val} {d' L' : Nat} (h : (match gd v with | some (d, L) => decide (d ≤ d') && decide (L ≤ L') && decide (d < 66) | none => false) = true) : Good c S d' L' v := by
  split at h
  · rename_i d L e
    simp only [Bool.and_eq_true, decide_eq_true_eq] at h
    exact gd_up e h.1.1 h.1.2 h.2
  · cases h
/-- all of a written list -/
theorem gd_list {xs : List Val} {d' L' : Nat} (h : xs.all (fun v => match gd v with | some (d, L) => decide (d ≤ d') && decide (L ≤ L') && decide (d < 66) | none => false) = true) : ∀ x ∈ xs, Good c S d' L' x := fun x hx => gd_all (List.all_eq_true.mp h x hx)
end
/-! ### a list of values that are good -/
def Vs (c D L k m : Nat) (S : Store) : Prop := m ≠ c ∧ ∃ xs, S[m]? = some (.lst xs) ∧ xs.length = k ∧ ∀ x ∈ xs, Good c S D L x
theorem Vs.kx {c D L k m : Nat} {S S' : Store} (h : Vs c D L k m S) (q : Kx c S S') (hD : D < 66) : Vs c D L k m S' := by
  obtain ⟨a, xs, e, hl, hx⟩ := h
  exact ⟨a, xs, q _ _ a e, hl, fun x hm => (hx x hm).kx q hD⟩
theorem Vs.more {c D L k m : Nat} {S : Store} {ys : List Val} (h : Vs c D L k m S) (hc : c < S.length) (hD : D < 66) (hy : ∀ y ∈ ys, Good c S D L y) (hl : k + ys.length ≤ 1000) :
    Run (oAdd (.ref m) (.ref S.length) (S ++ [.lst ys])) (fun r S' => ∃ m', r = .ref m' ∧ Vs c D L (k + ys.length) m' S' ∧ Kp S S') := by
  obtain ⟨a, xs, e, hk, hx⟩ := h
  rw [run_addL ((Gr.add _ _).get e) (get_new _ _) (by omega)]
  have k := ((Gr.add S [.lst ys]).trans (Gr.add _ [.lst (xs ++ ys)])).kp
  refine ⟨_, rfl, ⟨by rw [List.length_append]; omega, xs ++ ys, get_new _ _, by rw [List.length_append, hk], fun x h => ?_⟩, k⟩
  rcases List.mem_append.mp h with h | h
  · exact (hx x h).gr k hD
  · exact (hy x h).gr k hD
theorem mem_repV {α : Type} {k : Nat} {xs : List α} {x : α} (h : x ∈ repV k xs) : x ∈ xs := by
  unfold repV at h
  obtain ⟨ys, hy, hx⟩ := List.mem_flatten.mp h
  rw [(List.mem_replicate.mp hy).2] at hx
  exact hx
theorem len_repV {α : Type} (k : Nat) (xs : List α) : (repV k xs).length = k * xs.length := by
  unfold repV
  induction k with
  | zero => simp
  | succ k ih => rw [List.replicate_succ, List.flatten_cons, List.length_append, ih, Nat.succ_mul]; omega
theorem run_repLL {k : Nat} {xs : List Val} {S : Store} {Q : Val → Store → Prop} (h : xs.length * k ≤ 1000000) (hk : k ≤ 1000000) : Run (oRepL (.ref S.length) (.int k) (S ++ [.lst xs])) Q = Q (.ref (S ++ [Cell.lst xs]).length) (S ++ [.lst xs] ++ [.lst (repV k xs)]) := by
  have hc : -(2 ^ 63) ≤ (k : Int) ∧ (k : Int) < 2 ^ 63 ∧ xs.length * (k : Int).toNat ≤ 16777216 := ⟨by omega, by omega, by rw [Int.toNat_natCast]; omega⟩
  unfold oRepL
  simp only [get_new]
  rw [if_pos hc, Int.toNat_natCast]
  rfl
/-- to the list, a written list k times -/
theorem Vs.moreK {c D L k m w : Nat} {S : Store} {ys : List Val} (h : Vs c D L k m S) (hc : c < S.length) (hD : D < 66) (hy : ∀ y ∈ ys, Good c S D L y) (hl : k + w * ys.length ≤ 1000) (hw : w ≤ 1000) :
    Run (oRepL (.ref S.length) (.int w) (S ++ [.lst ys])) (fun y S1 => Run (oAdd (.ref m) y S1) (fun r S' => ∃ m', r = .ref m' ∧ Vs c D L (k + w * ys.length) m' S' ∧ Kp S S')) := by
  have hz : ys.length * w ≤ 1000000 := by rw [Nat.mul_comm]; omega
  rw [run_repLL hz (by omega)]
  have k1 := (Gr.add S [.lst ys]).kp
  have h2 := h.kx k1.kx hD
  have := Vs.more (ys := repV w ys) h2 (by rw [List.length_append]; omega) hD (fun y hm => (hy y (mem_repV hm)).gr k1 hD) (by rw [len_repV]; omega)
  refine Run.mono this fun r S' ⟨m', e, hv, k2⟩ => ?_
  rw [len_repV] at hv
  exact ⟨m', e, hv, k1.trans k2⟩
end PD

/-! ## K34Den -/
set_option Elab.async false
set_option linter.all false
set_option maxRecDepth 100000
set_option maxHeartbeats 4000000
namespace PD.K34
open PySem PySem.Spec L2 PD
def topS (i : Nat) : Stmt := PySem.Challenge.pw_heirstamps_k34_dots_judged_and_had.main.body.getD i (.Pass ⟨0, 0, 0, 0⟩)
abbrev s_tuple_count : Stmt := topS 8
abbrev s_is_path : Stmt := topS 10
abbrev s_check_path : Stmt := topS 11
abbrev s_least : Stmt := topS 13
abbrev s_greatest : Stmt := topS 14
abbrev s_lifted : Stmt := topS 15
abbrev s_halves : Stmt := topS 16
abbrev s_is_counts : Stmt := topS 18
abbrev s__is_counts_tree : Stmt := topS 19
abbrev s_check_counts : Stmt := topS 20
abbrev s_worth_at : Stmt := topS 21
abbrev s_is_dot : Stmt := topS 23
abbrev s__check_dot : Stmt := topS 24
abbrev s__has : Stmt := topS 25
abbrev s_has_dot : Stmt := topS 26
abbrev s__law_source : Stmt := topS 28
abbrev s__law_draw : Stmt := topS 29
abbrev s__law_number : Stmt := topS 31
abbrev s__law_numbers : Stmt := topS 32
abbrev s__law_low : Stmt := topS 33
abbrev s__law_put : Stmt := topS 34
abbrev s__law_counts : Stmt := topS 35
abbrev s__law_part : Stmt := topS 36
abbrev s__law_is_dot : Stmt := topS 37
abbrev s__law_dot : Stmt := topS 38
abbrev s__law_bad_dot : Stmt := topS 39
abbrev s__law_has : Stmt := topS 42
abbrev s__law_great_counts : Stmt := topS 43
abbrev s__law_bad_counts : Stmt := topS 45
abbrev s__law_value_right : Stmt := topS 47
abbrev s__law_told : Stmt := topS 48
abbrev s__law_great_values : Stmt := topS 49
abbrev s_law : Stmt := topS 50
/-! ### the classes of errors by number -/
def mtL : List (Nat × Nat) := [(0, 0), (1, 0), (1, 1), (2, 0), (2, 2), (3, 0), (3, 3)]
def mt (c k : Nat) : Bool := mtL.contains (c, k)
/-! ### the denotations: all defs at once, by the number of calls that may be nested -/
structure Fns where
  tuple_count : Fn
  is_path : Fn
  check_path : Fn
  least : Fn
  greatest : Fn
  lifted : Fn
  halves : Fn
  is_counts : Fn
  _is_counts_tree : Fn
  check_counts : Fn
  worth_at : Fn
  is_dot : Fn
  _check_dot : Fn
  _has : Fn
  has_dot : Fn
  _law_source : Fn
  _law_draw : Fn
  _law_number : Fn
  _law_numbers : Fn
  _law_low : Fn
  _law_put : Fn
  _law_counts : Fn
  _law_part : Fn
  _law_is_dot : Fn
  _law_dot : Fn
  _law_bad_dot : Fn
  _law_has : Fn
  _law_great_counts : Fn
  _law_bad_counts : Fn
  _law_value_right : Fn
  _law_told : Fn
  _law_great_values : Fn
  law : Fn
def b_tuple_count (p : Fns) : SD := (sSeq (sIf (tVal (dOp oIs (dCall bType (aCons (dVar 0) aNil)) (dC (.ty "int")))) (sRet (dC (.int 0))) sNext)
    (sRet (dOp oAdd (dC (.int 1)) (dCall bSum (aCons (dLCT (dVar 0) (gN 1) tYes' (dCall p.tuple_count (aCons (dVar 1) aNil)) [1]) aNil)))))
def b_is_path (p : Fns) : SD := (sSeq (sIf (tOr' (tVal (dOp oIsNot (dCall bType (aCons (dVar 0) aNil)) (dC (.ty "tuple")))) (tVal (dOp oGt (dCall bLen (aCons (dVar 0) aNil)) (dC (.int 12))))) (sRet (dC (.bl false))) sNext)
    (sRet (dCall bAll (aCons (dLCT (dVar 0) (gN 1) tYes' (dAnd (dOp oIs (dCall bType (aCons (dVar 1) aNil)) (dC (.ty "int"))) (dOr (dOp oEq (dVar 1) (dC (.int 0))) (dOp oEq (dVar 1) (dC (.int 1))))) [1]) aNil))))
def b_check_path (p : Fns) : SD := (sIf (tNot' (tVal (dCall p.is_path (aCons (dVar 0) aNil)))) (sRaise 2) sNext)
def b_least (p : Fns) : SD := (sSeq (sIf (tVal (dOp oIs (dCall bType (aCons (dVar 0) aNil)) (dC (.ty "int")))) (sRet (dVar 0)) sNext)
    (sRet (dOp oIx (dVar 0) (dC (.int 0)))))
def b_greatest (p : Fns) : SD := (sSeq (sIf (tVal (dOp oIs (dCall bType (aCons (dVar 0) aNil)) (dC (.ty "int")))) (sRet (dVar 0)) sNext)
    (sRet (dOp oAdd (dOp oIx (dVar 0) (dC (.int 0))) (dCall bMax2 (aCons (dCall p.greatest (aCons (dOp oIx (dVar 0) (dC (.int 1))) aNil)) (aCons (dCall p.greatest (aCons (dOp oIx (dVar 0) (dC (.int 2))) aNil)) aNil))))))
def b_lifted (p : Fns) : SD := (sSeq (sIf (tVal (dOp oIs (dCall bType (aCons (dVar 0) aNil)) (dC (.ty "int")))) (sRet (dOp oAdd (dVar 0) (dVar 1))) sNext)
    (sRet (dTup (aCons (dOp oAdd (dOp oIx (dVar 0) (dC (.int 0))) (dVar 1)) (aCons (dOp oIx (dVar 0) (dC (.int 1))) (aCons (dOp oIx (dVar 0) (dC (.int 2))) aNil))))))
def b_halves (p : Fns) : SD := (sSeq (sIf (tVal (dOp oIs (dCall bType (aCons (dVar 0) aNil)) (dC (.ty "int")))) (sRet (dTup (aCons (dVar 0) (aCons (dVar 0) aNil)))) sNext)
    (sRet (dTup (aCons (dCall p.lifted (aCons (dOp oIx (dVar 0) (dC (.int 1))) (aCons (dOp oIx (dVar 0) (dC (.int 0))) aNil))) (aCons (dCall p.lifted (aCons (dOp oIx (dVar 0) (dC (.int 2))) (aCons (dOp oIx (dVar 0) (dC (.int 0))) aNil))) aNil)))))
def b_is_counts (p : Fns) : SD := (sRet (dAnd (dCall p._is_counts_tree (aCons (dVar 0) (aCons (dC (.int 12)) aNil))) (dOp oLe (dCall p.tuple_count (aCons (dVar 0) aNil)) (dC (.int 63)))))
def b__is_counts_tree (p : Fns) : SD := (sSeq (sIf (tVal (dOp oIs (dCall bType (aCons (dVar 0) aNil)) (dC (.ty "int")))) (sRet (dOp oGe (dVar 0) (dC (.int 0)))) sNext)
    (sSeq (sIf (tOr' (tVal (dOp oIsNot (dCall bType (aCons (dVar 0) aNil)) (dC (.ty "tuple")))) (tOr' (tVal (dOp oNe (dCall bLen (aCons (dVar 0) aNil)) (dC (.int 3)))) (tVal (dOp oEq (dVar 1) (dC (.int 0)))))) (sRet (dC (.bl false))) sNext)
    (sSeq (sAsg (gT [(gN 2), (gN 3), (gN 4)]) (dVar 0))
    (sSeq (sIf (tOr' (tVal (dOp oIsNot (dCall bType (aCons (dVar 2) aNil)) (dC (.ty "int")))) (tVal (dOp oLt (dVar 2) (dC (.int 0))))) (sRet (dC (.bl false))) sNext)
    (sSeq (sIf (tOr' (tNot' (tVal (dCall p._is_counts_tree (aCons (dVar 3) (aCons (dOp oSub (dVar 1) (dC (.int 1))) aNil))))) (tNot' (tVal (dCall p._is_counts_tree (aCons (dVar 4) (aCons (dOp oSub (dVar 1) (dC (.int 1))) aNil)))))) (sRet (dC (.bl false))) sNext)
    (sSeq (sIf (tAnd' (tVal (dOp oIs (dCall bType (aCons (dVar 3) aNil)) (dC (.ty "int")))) (tVal (dOp oEq (dVar 3) (dVar 4)))) (sRet (dC (.bl false))) sNext)
    (sRet (dOr (dOp oEq (dCall p.least (aCons (dVar 3) aNil)) (dC (.int 0))) (dOp oEq (dCall p.least (aCons (dVar 4) aNil)) (dC (.int 0)))))))))))
def b_check_counts (p : Fns) : SD := (sIf (tNot' (tVal (dCall p.is_counts (aCons (dVar 0) aNil)))) (sRaise 1) sNext)
def b_worth_at (p : Fns) : SD := (sSeq (sDrop (dCall p.check_counts (aCons (dVar 0) aNil)))
    (sSeq (sDrop (dCall p.check_path (aCons (dVar 1) aNil)))
    (sSeq (sSet 2 (dVar 0))
    (sSeq (sForT (dVar 1) (gN 3)
    (sSet 2 (dOp oIx (dCall p.halves (aCons (dVar 2) aNil)) (dVar 3))))
    (sRet (dTup (aCons (dCall p.least (aCons (dVar 2) aNil)) (aCons (dCall p.greatest (aCons (dVar 2) aNil)) aNil))))))))
def b_is_dot (p : Fns) : SD := (sSeq (sIf (tOr' (tVal (dOp oIsNot (dCall bType (aCons (dVar 0) aNil)) (dC (.ty "tuple")))) (tVal (dOp oNe (dCall bLen (aCons (dVar 0) aNil)) (dC (.int 2))))) (sRet (dC (.bl false))) sNext)
    (sRet (dAnd (dCall p.is_path (aCons (dOp oIx (dVar 0) (dC (.int 0))) aNil)) (dAnd (dOp oIs (dCall bType (aCons (dOp oIx (dVar 0) (dC (.int 1))) aNil)) (dC (.ty "int"))) (dOp oGe (dOp oIx (dVar 0) (dC (.int 1))) (dC (.int 1)))))))
def b__check_dot (p : Fns) : SD := (sIf (tNot' (tVal (dCall p.is_dot (aCons (dVar 0) aNil)))) (sRaise 3) sNext)
def b__has (p : Fns) : SD := (sRet (dOp oGe (dOp oIx (dCall p.worth_at (aCons (dVar 0) (aCons (dOp oIx (dVar 1) (dC (.int 0))) aNil))) (dC (.int 0))) (dOp oIx (dVar 1) (dC (.int 1)))))
def b_has_dot (p : Fns) : SD := (sSeq (sDrop (dCall p.check_counts (aCons (dVar 0) aNil)))
    (sSeq (sDrop (dCall p._check_dot (aCons (dVar 1) aNil)))
    (sRet (dCall p._has (aCons (dVar 0) (aCons (dVar 1) aNil))))))
def b__law_source (p : Fns) : SD := (sSeq (sSet 1 (dIf (tVal (dOp oGe (dVar 0) (dOp oPow (dC (.int 10)) (dC (.int 18))))) (dOp oSub (dVar 0) (dOp oPow (dC (.int 10)) (dC (.int 18)))) (dC (.int 0))))
    (sRet (dLst (aCons (dVar 1) (aCons (dOp oMod (dCall bInt (aCons (dVar 0) aNil)) (dC (.int 2305843009213693951))) (aCons (dC (.int 0)) aNil))))))
def b__law_draw (p : Fns) : SD := (sSeq (sIf (tAnd' (tVal (dOp oGt (dOp oIx (dVar 0) (dC (.int 0))) (dC (.int 0)))) (tVal (dOp oGt (dVar 1) (dC (.int 1))))) (sSeq (sSet 2 (dOp oDiv (dOp oIx (dVar 0) (dC (.int 0))) (dVar 1)))
    (sSeq (sSet 3 (dOp oSub (dOp oIx (dVar 0) (dC (.int 0))) (dOp oMulE (dVar 2) (dVar 1))))
    (sSeq (sPut (dVar 0) (dC (.int 0)) (dVar 2))
    (sRet (dVar 3))))) sNext)
    (sSeq (sPut (dVar 0) (dC (.int 2)) (dOp oAdd (dOp oIx (dVar 0) (dC (.int 2))) (dC (.int 1))))
    (sSeq (sSet 4 (dOp oIx (dVar 0) (dC (.int 2))))
    (sSeq (sSet 5 (dOp oMod (dCall bInt (aCons (dOp oAdd (dOp oAdd (dOp oMulE (dOp oIx (dVar 0) (dC (.int 1))) (dOp oAdd (dOp oMulE (dC (.int 2)) (dVar 4)) (dC (.int 31)))) (dOp oMulE (dOp oMulE (dC (.int 7919)) (dVar 4)) (dVar 4))) (dC (.int 17))) aNil)) (dC (.int 2305843009213693951))))
    (sSeq (sSet 5 (dOp oDiv (dOp oMod (dCall bInt (aCons (dOp oAdd (dOp oAdd (dOp oMulE (dVar 5) (dVar 5)) (dOp oMulE (dC (.int 104729)) (dVar 5))) (dVar 4)) aNil)) (dC (.int 2305843009213693951))) (dC (.int 1021))))
    (sSeq (sSet 5 (dOp oDiv (dOp oMod (dCall bInt (aCons (dOp oAdd (dOp oMulE (dVar 5) (dVar 5)) (dOp oMulE (dC (.int 611953)) (dVar 4))) aNil)) (dC (.int 1152921504606846883))) (dC (.int 4099))))
    (sRet (dOp oMod (dCall bInt (aCons (dVar 5) aNil)) (dVar 1)))))))))
def b__law_number (p : Fns) : SD := (sRet (dAnd (dCall bIsi (aCons (dVar 0) (aCons (dC (.ty "int")) aNil))) (dNot (dCall bIsi (aCons (dVar 0) (aCons (dC (.ty "bool")) aNil))))))
def b__law_numbers (p : Fns) : SD := (sRet (dAnd (dCall bIsi (aCons (dVar 0) (aCons (dC (.ty "tuple")) aNil))) (dOp oEq (dLCT (dVar 0) (gN 1) (tNot' (tVal (dCall p._law_number (aCons (dVar 1) aNil)))) (dVar 1) [1]) (dLst aNil))))
def b__law_low (p : Fns) : SD := (sRet (dIf (tNot' (tVal (dCall bIsi (aCons (dVar 0) (aCons (dC (.ty "tuple")) aNil))))) (dVar 0) (dOp oAdd (dOp oIx (dVar 0) (dC (.int 0))) (dCall bMin2 (aCons (dCall p._law_low (aCons (dOp oIx (dVar 0) (dC (.int 1))) aNil)) (aCons (dCall p._law_low (aCons (dOp oIx (dVar 0) (dC (.int 2))) aNil)) aNil))))))
def b__law_put (p : Fns) : SD := (sSeq (sIf (tAnd' (tNot' (tVal (dCall bIsi (aCons (dVar 1) (aCons (dC (.ty "tuple")) aNil))))) (tAnd' (tNot' (tVal (dCall bIsi (aCons (dVar 2) (aCons (dC (.ty "tuple")) aNil))))) (tVal (dOp oEq (dVar 1) (dVar 2))))) (sRet (dOp oAdd (dVar 0) (dVar 1))) sNext)
    (sSeq (sSet 3 (dCall bMin2 (aCons (dCall p._law_low (aCons (dVar 1) aNil)) (aCons (dCall p._law_low (aCons (dVar 2) aNil)) aNil))))
    (sSeq (sSet 4 (dLst (aCons (dOp oAdd (dVar 0) (dVar 3)) aNil)))
    (sSeq (sForC (dLst (aCons (dVar 1) (aCons (dVar 2) aNil))) (gN 5)
    (sDrop (dApp (dVar 4) (dIf (tVal (dCall bIsi (aCons (dVar 5) (aCons (dC (.ty "tuple")) aNil)))) (dTup (aCons (dOp oSub (dOp oIx (dVar 5) (dC (.int 0))) (dVar 3)) (aCons (dOp oIx (dVar 5) (dC (.int 1))) (aCons (dOp oIx (dVar 5) (dC (.int 2))) aNil)))) (dOp oSub (dVar 5) (dVar 3))))))
    (sRet (dCall bTuple (aCons (dVar 4) aNil)))))))
def b__law_counts (p : Fns) : SD := (sSeq (sIf (tOr' (tVal (dOp oEq (dVar 1) (dC (.int 0)))) (tVal (dOp oEq (dCall p._law_draw (aCons (dVar 0) (aCons (dC (.int 3)) aNil))) (dC (.int 0))))) (sRet (dCall p._law_draw (aCons (dVar 0) (aCons (dC (.int 4)) aNil)))) sNext)
    (sRet (dCall p._law_put (aCons (dCall p._law_draw (aCons (dVar 0) (aCons (dC (.int 3)) aNil))) (aCons (dCall p._law_counts (aCons (dVar 0) (aCons (dOp oSub (dVar 1) (dC (.int 1))) aNil))) (aCons (dCall p._law_counts (aCons (dVar 0) (aCons (dOp oSub (dVar 1) (dC (.int 1))) aNil))) aNil))))))
def b__law_part (p : Fns) : SD := (sSeq (sForT (dVar 1) (gN 2)
    (sIf (tVal (dCall bIsi (aCons (dVar 0) (aCons (dC (.ty "tuple")) aNil)))) (sSeq (sPar 3 4 (aCons (dOp oIx (dVar 0) (dC (.int 0))) (aCons (dOp oIx (dVar 0) (dOp oAdd (dC (.int 1)) (dVar 2))) aNil)))
    (sSet 0 (dIf (tVal (dCall bIsi (aCons (dVar 4) (aCons (dC (.ty "tuple")) aNil)))) (dTup (aCons (dOp oAdd (dOp oIx (dVar 4) (dC (.int 0))) (dVar 3)) (aCons (dOp oIx (dVar 4) (dC (.int 1))) (aCons (dOp oIx (dVar 4) (dC (.int 2))) aNil)))) (dOp oAdd (dVar 4) (dVar 3))))) sNext))
    (sRet (dVar 0)))
def b__law_is_dot (p : Fns) : SD := (sSeq (sIf (tOr' (tNot' (tVal (dCall bIsi (aCons (dVar 0) (aCons (dC (.ty "tuple")) aNil))))) (tOr' (tVal (dOp oNe (dCall bLen (aCons (dVar 0) aNil)) (dC (.int 2)))) (tOr' (tNot' (tVal (dCall p._law_numbers (aCons (dOp oIx (dVar 0) (dC (.int 0))) aNil)))) (tNot' (tVal (dCall p._law_number (aCons (dOp oIx (dVar 0) (dC (.int 1))) aNil))))))) (sRet (dC (.bl false))) sNext)
    (sRet (dAnd (dOp oLt (dCall bLen (aCons (dOp oIx (dVar 0) (dC (.int 0))) aNil)) (dC (.int 13))) (dAnd (dOp oEq (dLCT (dOp oIx (dVar 0) (dC (.int 0))) (gN 1) (tVal (dOp oNotIn (dVar 1) (dTup (aCons (dC (.int 0)) (aCons (dC (.int 1)) aNil))))) (dVar 1) [1]) (dLst aNil)) (dOp oGt (dOp oIx (dVar 0) (dC (.int 1))) (dC (.int 0)))))))
def b__law_dot (p : Fns) : SD := (sSeq (sSet 1 (dIf (tVal (dOp oGt (dCall p._law_draw (aCons (dVar 0) (aCons (dC (.int 8)) aNil))) (dC (.int 0)))) (dCall p._law_draw (aCons (dVar 0) (aCons (dC (.int 5)) aNil))) (dCall p._law_draw (aCons (dVar 0) (aCons (dC (.int 13)) aNil)))))
    (sRet (dTup (aCons (dCall bTuple (aCons (dLCR (aCons (dVar 1) aNil) (gN 2) tYes' (dCall p._law_draw (aCons (dVar 0) (aCons (dC (.int 2)) aNil))) [2]) aNil)) (aCons (dOp oAdd (dC (.int 1)) (dCall p._law_draw (aCons (dVar 0) (aCons (dC (.int 4)) aNil)))) aNil)))))
def st__law_bad_dot_0 (p : Fns) : SD := (sAsg (gT [(gN 1), (gN 2)]) (dCall p._law_dot (aCons (dVar 0) aNil)))
def st__law_bad_dot_1 (p : Fns) : SD := (sSet 3 (dCall p._law_draw (aCons (dVar 0) (aCons (dOp oAdd (dCall bLen (aCons (dVar 1) aNil)) (dC (.int 1))) aNil))))
def st__law_bad_dot_2 (p : Fns) : SD := (sSet 4 (dOp oIx (dLst (aCons (dC (.int 2)) (aCons (dUn oNeg (dC (.int 1))) (aCons (dC (.bl true)) (aCons (dC (.bl false)) (aCons (dC .non) (aCons (dC (.str "0")) (aCons (dTup (aCons (dC (.int 0)) aNil)) (aCons (dLst (aCons (dC (.int 0)) aNil)) (aCons (dOp oPow (dC (.int 10)) (dC (.int 30))) aNil)))))))))) (dCall p._law_draw (aCons (dVar 0) (aCons (dC (.int 9)) aNil)))))
def st__law_bad_dot_3 (p : Fns) : SD := (sSet 5 (dOp oIx (dLst (aCons (dC (.int 0)) (aCons (dUn oNeg (dC (.int 1))) (aCons (dC (.bl true)) (aCons (dC .non) (aCons (dC (.str "1")) (aCons (dTup (aCons (dC (.int 1)) aNil)) (aCons (dLst (aCons (dC (.int 1)) aNil)) (aCons (dUn oNeg (dOp oPow (dC (.int 10)) (dC (.int 30)))) (aCons (dC (.bl false)) aNil)))))))))) (dCall p._law_draw (aCons (dVar 0) (aCons (dC (.int 9)) aNil)))))
def st__law_bad_dot_4 (p : Fns) : SD := (sSet 6 (dOp oAdd (dOp oAdd (dOp oRepL (dLst (aCons (dTup (aCons (dOp oAdd (dOp oAdd (dSl (dVar 1) oNone (oSome (dVar 3))) (dTup (aCons (dVar 4) aNil))) (dSl (dVar 1) (oSome (dVar 3)) oNone)) (aCons (dVar 2) aNil))) aNil)) (dC (.int 4))) (dOp oRepL (dLst (aCons (dTup (aCons (dVar 1) (aCons (dVar 5) aNil))) aNil)) (dC (.int 3)))) (dLst (aCons (dTup (aCons (dOp oRepT (dTup (aCons (dC (.int 0)) aNil)) (dC (.int 13))) (aCons (dVar 2) aNil))) (aCons (dTup (aCons (dCall bListOf (aCons (dVar 1) aNil)) (aCons (dVar 2) aNil))) aNil)))))
def st__law_bad_dot_5 (p : Fns) : SD := (sSet 6 (dOp oAdd (dVar 6) (dLst (aCons (dLst (aCons (dVar 1) (aCons (dVar 2) aNil))) (aCons (dTup (aCons (dVar 1) aNil)) (aCons (dTup (aCons (dVar 1) (aCons (dVar 2) (aCons (dC (.int 0)) aNil)))) (aCons (dTup (aCons (dVar 2) (aCons (dVar 1) aNil))) (aCons (dC .non) (aCons (dC (.int 1)) (aCons (dC (.str "01")) (aCons (dTup aNil) (aCons (dOp oAdd (dVar 1) (dTup (aCons (dVar 2) aNil))) (aCons (dTup (aCons (dC .non) (aCons (dVar 2) aNil))) aNil)))))))))))))
def st__law_bad_dot_6 (p : Fns) : SD := (sSet 7 (dOp oIx (dVar 6) (dCall p._law_draw (aCons (dVar 0) (aCons (dCall bLen (aCons (dVar 6) aNil)) aNil)))))
def st__law_bad_dot_7 (p : Fns) : SD := (sRet (dIf (tVal (dCall p._law_is_dot (aCons (dVar 7) aNil))) (dC .non) (dVar 7)))
def b__law_bad_dot (p : Fns) : SD := (sSeq (st__law_bad_dot_0 p)
    (sSeq (st__law_bad_dot_1 p)
    (sSeq (st__law_bad_dot_2 p)
    (sSeq (st__law_bad_dot_3 p)
    (sSeq (st__law_bad_dot_4 p)
    (sSeq (st__law_bad_dot_5 p)
    (sSeq (st__law_bad_dot_6 p)
    (st__law_bad_dot_7 p))))))))
def b__law_has (p : Fns) : SD := (sRet (dOp oGe (dCall p._law_low (aCons (dCall p._law_part (aCons (dVar 0) (aCons (dOp oIx (dVar 1) (dC (.int 0))) aNil))) aNil)) (dOp oIx (dVar 1) (dC (.int 1)))))
def b__law_great_counts (p : Fns) : SD := (sSeq (sPar 1 2 (aCons (dOp oAdd (dC (.int 1)) (dCall p._law_draw (aCons (dVar 0) (aCons (dC (.int 3)) aNil)))) (aCons (dTup (aCons (dC (.int 0)) (aCons (dC (.int 0)) (aCons (dC (.int 1)) aNil)))) aNil)))
    (sSeq (sForR (aCons (dC (.int 13)) aNil) (gN 3)
    (sSet 1 (dIf (tVal (dOp oEq (dCall p._law_draw (aCons (dVar 0) (aCons (dC (.int 2)) aNil))) (dC (.int 0)))) (dTup (aCons (dC (.int 0)) (aCons (dVar 1) (aCons (dC (.int 0)) aNil)))) (dTup (aCons (dC (.int 0)) (aCons (dC (.int 0)) (aCons (dVar 1) aNil)))))))
    (sSeq (sForR (aCons (dC (.int 5)) aNil) (gN 3)
    (sSet 2 (dTup (aCons (dC (.int 0)) (aCons (dVar 2) (aCons (dVar 2) aNil))))))
    (sRet (dOp oIx (dLst (aCons (dVar 1) (aCons (dTup (aCons (dC (.int 0)) (aCons (dVar 2) (aCons (dC (.int 0)) aNil)))) (aCons (dTup (aCons (dC (.int 0)) (aCons (dVar 2) (aCons (dVar 2) aNil)))) aNil)))) (dCall p._law_draw (aCons (dVar 0) (aCons (dC (.int 3)) aNil))))))))
def st__law_bad_counts_0 (p : Fns) : SD := (sSet 1 (dOp oIx (dLst (aCons (dUn oNeg (dC (.int 1))) (aCons (dC (.bl true)) (aCons (dC .non) (aCons (dC (.str "0")) (aCons (dTup (aCons (dC (.int 0)) aNil)) (aCons (dLst (aCons (dC (.int 0)) aNil)) (aCons (dTup (aCons (dC (.int 0)) (aCons (dC (.int 1)) aNil))) (aCons (dUn oNeg (dOp oPow (dC (.int 10)) (dC (.int 30)))) (aCons (dC (.bl false)) (aCons (dTup aNil) aNil))))))))))) (dCall p._law_draw (aCons (dVar 0) (aCons (dC (.int 10)) aNil)))))
def st__law_bad_counts_1 (p : Fns) : SD := (sSet 2 (dLst (aCons (dVar 1) (aCons (dTup (aCons (dVar 1) (aCons (dC (.int 0)) (aCons (dC (.int 1)) aNil)))) (aCons (dTup (aCons (dC (.int 0)) (aCons (dVar 1) (aCons (dC (.int 1)) aNil)))) (aCons (dTup (aCons (dC (.int 0)) (aCons (dC (.int 0)) (aCons (dVar 1) aNil)))) (aCons (dTup (aCons (dC (.int 0)) (aCons (dC (.int 1)) (aCons (dC (.int 1)) aNil)))) (aCons (dTup (aCons (dC (.int 1)) (aCons (dC (.int 2)) (aCons (dC (.int 3)) aNil)))) (aCons (dTup (aCons (dC (.int 0)) (aCons (dC (.int 2)) (aCons (dC (.int 2)) aNil)))) (aCons (dTup (aCons (dC (.int 0)) (aCons (dTup (aCons (dC (.int 0)) (aCons (dC (.int 1)) (aCons (dC (.int 2)) aNil)))) (aCons (dC (.int 1)) aNil)))) (aCons (dTup (aCons (dC (.int 0)) (aCons (dC (.int 0)) (aCons (dC (.int 0)) aNil)))) aNil)))))))))))
def st__law_bad_counts_2 (p : Fns) : SD := (sSet 2 (dOp oAdd (dVar 2) (dLst (aCons (dCall bListOf (aCons (dTup (aCons (dC (.int 0)) (aCons (dC (.int 0)) (aCons (dC (.int 1)) aNil)))) aNil)) (aCons (dTup (aCons (dC (.int 0)) (aCons (dC (.int 0)) (aCons (dC (.int 1)) (aCons (dC (.int 0)) aNil))))) (aCons (dTup (aCons (dC (.int 0)) (aCons (dTup (aCons (dC (.int 0)) (aCons (dC (.int 0)) (aCons (dTup (aCons (dC (.int 0)) (aCons (dC (.int 0)) (aCons (dVar 1) aNil)))) aNil)))) (aCons (dC (.int 0)) aNil)))) (aCons (dTup (aCons (dC (.int 0)) (aCons (dTup (aCons (dC (.int 1)) (aCons (dC (.int 0)) (aCons (dC (.int 1)) aNil)))) (aCons (dC (.int 1)) aNil)))) aNil)))))))
def st__law_bad_counts_3 (p : Fns) : SD := (sSet 2 (dOp oAdd (dVar 2) (dOp oRepL (dLst (aCons (dCall p._law_great_counts (aCons (dVar 0) aNil)) aNil)) (dC (.int 4)))))
def st__law_bad_counts_4 (p : Fns) : SD := (sRet (dOp oIx (dVar 2) (dCall p._law_draw (aCons (dVar 0) (aCons (dCall bLen (aCons (dVar 2) aNil)) aNil)))))
def b__law_bad_counts (p : Fns) : SD := (sSeq (st__law_bad_counts_0 p)
    (sSeq (st__law_bad_counts_1 p)
    (sSeq (st__law_bad_counts_2 p)
    (sSeq (st__law_bad_counts_3 p)
    (st__law_bad_counts_4 p)))))
def b__law_value_right (p : Fns) : SD := (sSeq (sPar 1 2 (aCons (dCall bRepr (aCons (dVar 0) aNil)) (aCons (dCall p._law_is_dot (aCons (dVar 0) aNil)) aNil)))
    (sRet (dAnd (dOp oEq (dCall bRepr (aCons (dLst (aCons (dCall p.is_dot (aCons (dVar 0) aNil)) (aCons (dCallK [0] 1 p.is_dot (aCons (dVar 0) aNil)) aNil))) aNil)) (dCall bRepr (aCons (dLst (aCons (dVar 2) (aCons (dVar 2) aNil))) aNil))) (dOp oEq (dCall bRepr (aCons (dVar 0) aNil)) (dVar 1)))))
def b__law_told (p : Fns) : SD := (sSeq (sSet 2 (dC (.str "none")))
    (sSeq (sTryE 4 mt (sSet 2 (dCall p.has_dot (aCons (dVar 0) (aCons (dVar 1) aNil))))
    [(1, some 3, sErIs 2 true "counts" "other"), (3, some 3, sErIs 2 true "dot" "other")])
    (sRet (dVar 2))))
def st__law_great_values_0 (p : Fns) : SD := (sSet 1 (dTup (aCons (dC (.int 0)) (aCons (dC (.int 1)) aNil))))
def st__law_great_values_1 (p : Fns) : SD := (sForR (aCons (dC (.int 37)) aNil) (gN 2)
    (sSet 1 (dIf (tVal (dOp oEq (dCall p._law_draw (aCons (dVar 0) (aCons (dC (.int 2)) aNil))) (dC (.int 0)))) (dTup (aCons (dVar 1) aNil)) (dLst (aCons (dVar 1) aNil)))))
def st__law_great_values_2 (p : Fns) : SD := (sSet 3 (dCall bTuple (aCons (dLCR (aCons (dC (.int 12)) aNil) (gN 2) tYes' (dCall p._law_draw (aCons (dVar 0) (aCons (dC (.int 2)) aNil))) [2]) aNil)))
def st__law_great_values_3 (p : Fns) : SD := (sSet 4 (dLst (aCons (dVar 1) (aCons (dOp oRepT (dTup (aCons (dC (.int 0)) aNil)) (dC (.int 2900))) (aCons (dTup (aCons (dOp oRepT (dTup (aCons (dC (.int 0)) aNil)) (dC (.int 2900))) (aCons (dC (.int 1)) aNil))) (aCons (dTup (aCons (dTup aNil) (aCons (dC (.int 1)) aNil))) (aCons (dTup (aCons (dVar 3) (aCons (dOp oMulE (dOp oPow (dC (.int 10)) (dC (.int 60))) (dOp oPow (dC (.int 10)) (dC (.int 29)))) aNil))) (aCons (dOp oRepS2 (dC (.str "01")) (dC (.int 9000))) (aCons (dTup (aCons (dOp oAdd (dVar 3) (dTup (aCons (dC (.int 0)) aNil))) (aCons (dC (.int 1)) aNil))) (aCons (dTup (aCons (dTup (aCons (dC (.int 0)) (aCons (dC (.int 1)) aNil))) (aCons (dC (.int 1)) aNil))) aNil))))))))))
def st__law_great_values_4 (p : Fns) : SD := (sRet (dOp oIx (dVar 4) (dCall p._law_draw (aCons (dVar 0) (aCons (dC (.int 8)) aNil)))))
def b__law_great_values (p : Fns) : SD := (sSeq (st__law_great_values_0 p)
    (sSeq (st__law_great_values_1 p)
    (sSeq (st__law_great_values_2 p)
    (sSeq (st__law_great_values_3 p)
    (st__law_great_values_4 p)))))
def st_law_0 (p : Fns) : SD := (sSet 2 (dCall p._law_source (aCons (dVar 1) aNil)))
def st_law_1 (p : Fns) : SD := (sForC (dLst (aCons (dCall p._law_dot (aCons (dVar 2) aNil)) (aCons (dCall p._law_bad_dot (aCons (dVar 2) aNil)) (aCons (dCall p._law_bad_dot (aCons (dVar 2) aNil)) (aCons (dCall p._law_great_values (aCons (dVar 2) aNil)) aNil))))) (gN 3)
    (sIf (tNot' (tVal (dCall p._law_value_right (aCons (dVar 3) aNil)))) (sRet (dC (.bl false))) sNext))
def st_law_2 (p : Fns) : SD := (sSet 4 (dCall p._law_counts (aCons (dVar 2) (aCons (dC (.int 5)) aNil))))
def st_law_3 (p : Fns) : SD := (sSet 6 (dCall p._law_dot (aCons (dVar 2) aNil)))
def st_law_4 (p : Fns) : SD := (sSet 7 (dCall p._law_has (aCons (dVar 4) (aCons (dVar 6) aNil))))
def st_law_5 (p : Fns) : SD := (sIf (tVal (dOp oNe (dCall bRepr (aCons (dLst (aCons (dCall p.has_dot (aCons (dVar 4) (aCons (dVar 6) aNil))) (aCons (dCallK [1, 0] 2 p.has_dot (aCons (dVar 6) (aCons (dVar 4) aNil))) aNil))) aNil)) (dCall bRepr (aCons (dLst (aCons (dVar 7) (aCons (dVar 7) aNil))) aNil)))) (sRet (dC (.bl false))) sNext)
def st_law_6 (p : Fns) : SD := (sForR (aCons (dC (.int 4)) aNil) (gN 5)
    (sSeq (st_law_3 p)
    (sSeq (st_law_4 p)
    (st_law_5 p))))
def st_law_7 (p : Fns) : SD := (sPar 8 9 (aCons (dCall p._law_bad_counts (aCons (dVar 2) aNil)) (aCons (dCall p._law_bad_dot (aCons (dVar 2) aNil)) aNil)))
def st_law_8 (p : Fns) : SD := (sIf (tVal (dOp oNe (dLst (aCons (dCall p._law_told (aCons (dVar 8) (aCons (dVar 6) aNil))) (aCons (dCall p._law_told (aCons (dVar 8) (aCons (dVar 9) aNil))) (aCons (dCall p._law_told (aCons (dVar 4) (aCons (dVar 9) aNil))) aNil)))) (dLst (aCons (dC (.str "counts")) (aCons (dC (.str "counts")) (aCons (dC (.str "dot")) aNil)))))) (sRet (dC (.bl false))) sNext)
def b_law (p : Fns) : SD := (sSeq (sForC (dOp oAdd (dLst (aCons (dCall bLen (aCons (dVar 0) aNil)) aNil)) (dSl (dVar 0) oNone (oSome (dC (.int 5))))) (gN 1)
    (sSeq (st_law_0 p)
    (sSeq (st_law_1 p)
    (sSeq (st_law_2 p)
    (sSeq (st_law_6 p)
    (sSeq (st_law_7 p)
    (st_law_8 p)))))))
    (sRet (dC (.bl true))))
def fns : Nat → Fns
  | 0 => ⟨stuckF, stuckF, stuckF, stuckF, stuckF, stuckF, stuckF, stuckF, stuckF, stuckF, stuckF, stuckF, stuckF, stuckF, stuckF, stuckF, stuckF, stuckF, stuckF, stuckF, stuckF, stuckF, stuckF, stuckF, stuckF, stuckF, stuckF, stuckF, stuckF, stuckF, stuckF, stuckF, stuckF⟩
  | n + 1 => ⟨fnOf 1 2 (b_tuple_count (fns n)), fnOf 1 2 (b_is_path (fns n)), fnOf 1 1 (b_check_path (fns n)), fnOf 1 1 (b_least (fns n)), fnOf 1 1 (b_greatest (fns n)), fnOf 2 2 (b_lifted (fns n)), fnOf 1 1 (b_halves (fns n)), fnOf 1 1 (b_is_counts (fns n)), fnOf 2 5 (b__is_counts_tree (fns n)), fnOf 1 1 (b_check_counts (fns n)), fnOf 2 4 (b_worth_at (fns n)), fnOf 1 1 (b_is_dot (fns n)), fnOf 1 1 (b__check_dot (fns n)), fnOf 2 2 (b__has (fns n)), fnOf 2 2 (b_has_dot (fns n)), fnOf 1 2 (b__law_source (fns n)), fnOf 2 6 (b__law_draw (fns n)), fnOf 1 1 (b__law_number (fns n)), fnOf 1 2 (b__law_numbers (fns n)), fnOf 1 1 (b__law_low (fns n)), fnOf 3 6 (b__law_put (fns n)), fnOf 2 2 (b__law_counts (fns n)), fnOf 2 5 (b__law_part (fns n)), fnOf 1 2 (b__law_is_dot (fns n)), fnOf 1 3 (b__law_dot (fns n)), fnOf 1 8 (b__law_bad_dot (fns n)), fnOf 2 2 (b__law_has (fns n)), fnOf 1 4 (b__law_great_counts (fns n)), fnOf 1 3 (b__law_bad_counts (fns n)), fnOf 1 3 (b__law_value_right (fns n)), fnOf 2 4 (b__law_told (fns n)), fnOf 1 5 (b__law_great_values (fns n)), fnOf 1 10 (b_law (fns n))⟩
theorem sc_tuple_count : FnScope ["tree", "part"] ["tree"] (defScope s_tuple_count) := ⟨rfl, rfl, rfl, by decide +kernel, rfl, by decide +kernel, by decide +kernel⟩
theorem sc_is_path : FnScope ["value", "half"] ["value"] (defScope s_is_path) := ⟨rfl, rfl, rfl, by decide +kernel, rfl, by decide +kernel, by decide +kernel⟩
theorem sc_check_path : FnScope ["value"] ["value"] (defScope s_check_path) := ⟨rfl, rfl, rfl, by decide +kernel, rfl, by decide +kernel, by decide +kernel⟩
theorem sc_least : FnScope ["counts"] ["counts"] (defScope s_least) := ⟨rfl, rfl, rfl, by decide +kernel, rfl, by decide +kernel, by decide +kernel⟩
theorem sc_greatest : FnScope ["counts"] ["counts"] (defScope s_greatest) := ⟨rfl, rfl, rfl, by decide +kernel, rfl, by decide +kernel, by decide +kernel⟩
theorem sc_lifted : FnScope ["counts", "number"] ["counts", "number"] (defScope s_lifted) := ⟨rfl, rfl, rfl, by decide +kernel, rfl, by decide +kernel, by decide +kernel⟩
theorem sc_halves : FnScope ["counts"] ["counts"] (defScope s_halves) := ⟨rfl, rfl, rfl, by decide +kernel, rfl, by decide +kernel, by decide +kernel⟩
theorem sc_is_counts : FnScope ["value"] ["value"] (defScope s_is_counts) := ⟨rfl, rfl, rfl, by decide +kernel, rfl, by decide +kernel, by decide +kernel⟩
theorem sc__is_counts_tree : FnScope ["value", "deepest", "base", "left", "right"] ["value", "deepest"] (defScope s__is_counts_tree) := ⟨rfl, rfl, rfl, by decide +kernel, rfl, by decide +kernel, by decide +kernel⟩
theorem sc_check_counts : FnScope ["value"] ["value"] (defScope s_check_counts) := ⟨rfl, rfl, rfl, by decide +kernel, rfl, by decide +kernel, by decide +kernel⟩
theorem sc_worth_at : FnScope ["counts", "path", "part", "half"] ["counts", "path"] (defScope s_worth_at) := ⟨rfl, rfl, rfl, by decide +kernel, rfl, by decide +kernel, by decide +kernel⟩
theorem sc_is_dot : FnScope ["value"] ["value"] (defScope s_is_dot) := ⟨rfl, rfl, rfl, by decide +kernel, rfl, by decide +kernel, by decide +kernel⟩
theorem sc__check_dot : FnScope ["value"] ["value"] (defScope s__check_dot) := ⟨rfl, rfl, rfl, by decide +kernel, rfl, by decide +kernel, by decide +kernel⟩
theorem sc__has : FnScope ["counts", "dot"] ["counts", "dot"] (defScope s__has) := ⟨rfl, rfl, rfl, by decide +kernel, rfl, by decide +kernel, by decide +kernel⟩
theorem sc_has_dot : FnScope ["counts", "dot"] ["counts", "dot"] (defScope s_has_dot) := ⟨rfl, rfl, rfl, by decide +kernel, rfl, by decide +kernel, by decide +kernel⟩
theorem sc__law_source : FnScope ["cell", "digits"] ["cell"] (defScope s__law_source) := ⟨rfl, rfl, rfl, by decide +kernel, rfl, by decide +kernel, by decide +kernel⟩
theorem sc__law_draw : FnScope ["source", "many", "rest", "found", "turn", "mixed"] ["source", "many"] (defScope s__law_draw) := ⟨rfl, rfl, rfl, by decide +kernel, rfl, by decide +kernel, by decide +kernel⟩
theorem sc__law_number : FnScope ["value"] ["value"] (defScope s__law_number) := ⟨rfl, rfl, rfl, by decide +kernel, rfl, by decide +kernel, by decide +kernel⟩
theorem sc__law_numbers : FnScope ["value", "one"] ["value"] (defScope s__law_numbers) := ⟨rfl, rfl, rfl, by decide +kernel, rfl, by decide +kernel, by decide +kernel⟩
theorem sc__law_low : FnScope ["counts"] ["counts"] (defScope s__law_low) := ⟨rfl, rfl, rfl, by decide +kernel, rfl, by decide +kernel, by decide +kernel⟩
theorem sc__law_put : FnScope ["number", "left", "right", "least_v", "found", "half"] ["number", "left", "right"] (defScope s__law_put) := ⟨rfl, rfl, rfl, by decide +kernel, rfl, by decide +kernel, by decide +kernel⟩
theorem sc__law_counts : FnScope ["source", "deep"] ["source", "deep"] (defScope s__law_counts) := ⟨rfl, rfl, rfl, by decide +kernel, rfl, by decide +kernel, by decide +kernel⟩
theorem sc__law_part : FnScope ["counts", "path", "half", "number", "inner"] ["counts", "path"] (defScope s__law_part) := ⟨rfl, rfl, rfl, by decide +kernel, rfl, by decide +kernel, by decide +kernel⟩
theorem sc__law_is_dot : FnScope ["value", "half"] ["value"] (defScope s__law_is_dot) := ⟨rfl, rfl, rfl, by decide +kernel, rfl, by decide +kernel, by decide +kernel⟩
theorem sc__law_dot : FnScope ["source", "many", "turn"] ["source"] (defScope s__law_dot) := ⟨rfl, rfl, rfl, by decide +kernel, rfl, by decide +kernel, by decide +kernel⟩
theorem sc__law_bad_dot : FnScope ["source", "path", "worth", "at", "odd", "number", "some", "value"] ["source"] (defScope s__law_bad_dot) := ⟨rfl, rfl, rfl, by decide +kernel, rfl, by decide +kernel, by decide +kernel⟩
theorem sc__law_has : FnScope ["counts", "dot"] ["counts", "dot"] (defScope s__law_has) := ⟨rfl, rfl, rfl, by decide +kernel, rfl, by decide +kernel, by decide +kernel⟩
theorem sc__law_great_counts : FnScope ["source", "deep", "full", "turn"] ["source"] (defScope s__law_great_counts) := ⟨rfl, rfl, rfl, by decide +kernel, rfl, by decide +kernel, by decide +kernel⟩
theorem sc__law_bad_counts : FnScope ["source", "odd", "some"] ["source"] (defScope s__law_bad_counts) := ⟨rfl, rfl, rfl, by decide +kernel, rfl, by decide +kernel, by decide +kernel⟩
theorem sc__law_value_right : FnScope ["value", "kept", "due"] ["value"] (defScope s__law_value_right) := ⟨rfl, rfl, rfl, by decide +kernel, rfl, by decide +kernel, by decide +kernel⟩
theorem sc__law_told : FnScope ["counts", "dot", "found", "error"] ["counts", "dot"] (defScope s__law_told) := ⟨rfl, rfl, rfl, by decide +kernel, rfl, by decide +kernel, by decide +kernel⟩
theorem sc__law_great_values : FnScope ["source", "deep", "turn", "path", "some"] ["source"] (defScope s__law_great_values) := ⟨rfl, rfl, rfl, by decide +kernel, rfl, by decide +kernel, by decide +kernel⟩
theorem sc_law : FnScope ["script", "cell", "source", "value", "counts", "turn", "dot", "due", "bad", "wrong"] ["script"] (defScope s_law) := ⟨rfl, rfl, rfl, by decide +kernel, rfl, by decide +kernel, by decide +kernel⟩
/-- what the top has left -/
structure Txt (K : PySem.W.Frag) (mg : Str → Option Value) where
  a_tuple_count : Addr
  d_tuple_count : FuncData
  F_tuple_count : Fun K "tuple_count" "tuple_count" s_tuple_count a_tuple_count d_tuple_count
  m_tuple_count : mg "tuple_count" = some (.ref a_tuple_count)
  b_tuple_count : Binds K d_tuple_count ["tree"] []
  a_is_path : Addr
  d_is_path : FuncData
  F_is_path : Fun K "is_path" "is_path" s_is_path a_is_path d_is_path
  m_is_path : mg "is_path" = some (.ref a_is_path)
  b_is_path : Binds K d_is_path ["value"] []
  a_check_path : Addr
  d_check_path : FuncData
  F_check_path : Fun K "check_path" "check_path" s_check_path a_check_path d_check_path
  m_check_path : mg "check_path" = some (.ref a_check_path)
  b_check_path : Binds K d_check_path ["value"] []
  a_least : Addr
  d_least : FuncData
  F_least : Fun K "least" "least" s_least a_least d_least
  m_least : mg "least" = some (.ref a_least)
  b_least : Binds K d_least ["counts"] []
  a_greatest : Addr
  d_greatest : FuncData
  F_greatest : Fun K "greatest" "greatest" s_greatest a_greatest d_greatest
  m_greatest : mg "greatest" = some (.ref a_greatest)
  b_greatest : Binds K d_greatest ["counts"] []
  a_lifted : Addr
  d_lifted : FuncData
  F_lifted : Fun K "lifted" "lifted" s_lifted a_lifted d_lifted
  m_lifted : mg "lifted" = some (.ref a_lifted)
  b_lifted : Binds K d_lifted ["counts", "number"] []
  a_halves : Addr
  d_halves : FuncData
  F_halves : Fun K "halves" "halves" s_halves a_halves d_halves
  m_halves : mg "halves" = some (.ref a_halves)
  b_halves : Binds K d_halves ["counts"] []
  a_is_counts : Addr
  d_is_counts : FuncData
  F_is_counts : Fun K "is_counts" "is_counts" s_is_counts a_is_counts d_is_counts
  m_is_counts : mg "is_counts" = some (.ref a_is_counts)
  b_is_counts : Binds K d_is_counts ["value"] []
  a__is_counts_tree : Addr
  d__is_counts_tree : FuncData
  F__is_counts_tree : Fun K "_is_counts_tree" "_is_counts_tree" s__is_counts_tree a__is_counts_tree d__is_counts_tree
  m__is_counts_tree : mg "_is_counts_tree" = some (.ref a__is_counts_tree)
  b__is_counts_tree : Binds K d__is_counts_tree ["value", "deepest"] []
  a_check_counts : Addr
  d_check_counts : FuncData
  F_check_counts : Fun K "check_counts" "check_counts" s_check_counts a_check_counts d_check_counts
  m_check_counts : mg "check_counts" = some (.ref a_check_counts)
  b_check_counts : Binds K d_check_counts ["value"] []
  a_worth_at : Addr
  d_worth_at : FuncData
  F_worth_at : Fun K "worth_at" "worth_at" s_worth_at a_worth_at d_worth_at
  m_worth_at : mg "worth_at" = some (.ref a_worth_at)
  b_worth_at : Binds K d_worth_at ["counts", "path"] []
  a_is_dot : Addr
  d_is_dot : FuncData
  F_is_dot : Fun K "is_dot" "is_dot" s_is_dot a_is_dot d_is_dot
  m_is_dot : mg "is_dot" = some (.ref a_is_dot)
  b_is_dot : Binds K d_is_dot ["value"] []
  a__check_dot : Addr
  d__check_dot : FuncData
  F__check_dot : Fun K "_check_dot" "_check_dot" s__check_dot a__check_dot d__check_dot
  m__check_dot : mg "_check_dot" = some (.ref a__check_dot)
  b__check_dot : Binds K d__check_dot ["value"] []
  a__has : Addr
  d__has : FuncData
  F__has : Fun K "_has" "_has" s__has a__has d__has
  m__has : mg "_has" = some (.ref a__has)
  b__has : Binds K d__has ["counts", "dot"] []
  a_has_dot : Addr
  d_has_dot : FuncData
  F_has_dot : Fun K "has_dot" "has_dot" s_has_dot a_has_dot d_has_dot
  m_has_dot : mg "has_dot" = some (.ref a_has_dot)
  b_has_dot : Binds K d_has_dot ["counts", "dot"] []
  a__law_source : Addr
  d__law_source : FuncData
  F__law_source : Fun K "_law_source" "_law_source" s__law_source a__law_source d__law_source
  m__law_source : mg "_law_source" = some (.ref a__law_source)
  b__law_source : Binds K d__law_source ["cell"] []
  a__law_draw : Addr
  d__law_draw : FuncData
  F__law_draw : Fun K "_law_draw" "_law_draw" s__law_draw a__law_draw d__law_draw
  m__law_draw : mg "_law_draw" = some (.ref a__law_draw)
  b__law_draw : Binds K d__law_draw ["source", "many"] []
  a__law_number : Addr
  d__law_number : FuncData
  F__law_number : Fun K "_law_number" "_law_number" s__law_number a__law_number d__law_number
  m__law_number : mg "_law_number" = some (.ref a__law_number)
  b__law_number : Binds K d__law_number ["value"] []
  a__law_numbers : Addr
  d__law_numbers : FuncData
  F__law_numbers : Fun K "_law_numbers" "_law_numbers" s__law_numbers a__law_numbers d__law_numbers
  m__law_numbers : mg "_law_numbers" = some (.ref a__law_numbers)
  b__law_numbers : Binds K d__law_numbers ["value"] []
  a__law_low : Addr
  d__law_low : FuncData
  F__law_low : Fun K "_law_low" "_law_low" s__law_low a__law_low d__law_low
  m__law_low : mg "_law_low" = some (.ref a__law_low)
  b__law_low : Binds K d__law_low ["counts"] []
  a__law_put : Addr
  d__law_put : FuncData
  F__law_put : Fun K "_law_put" "_law_put" s__law_put a__law_put d__law_put
  m__law_put : mg "_law_put" = some (.ref a__law_put)
  b__law_put : Binds K d__law_put ["number", "left", "right"] []
  a__law_counts : Addr
  d__law_counts : FuncData
  F__law_counts : Fun K "_law_counts" "_law_counts" s__law_counts a__law_counts d__law_counts
  m__law_counts : mg "_law_counts" = some (.ref a__law_counts)
  b__law_counts : Binds K d__law_counts ["source", "deep"] []
  a__law_part : Addr
  d__law_part : FuncData
  F__law_part : Fun K "_law_part" "_law_part" s__law_part a__law_part d__law_part
  m__law_part : mg "_law_part" = some (.ref a__law_part)
  b__law_part : Binds K d__law_part ["counts", "path"] []
  a__law_is_dot : Addr
  d__law_is_dot : FuncData
  F__law_is_dot : Fun K "_law_is_dot" "_law_is_dot" s__law_is_dot a__law_is_dot d__law_is_dot
  m__law_is_dot : mg "_law_is_dot" = some (.ref a__law_is_dot)
  b__law_is_dot : Binds K d__law_is_dot ["value"] []
  a__law_dot : Addr
  d__law_dot : FuncData
  F__law_dot : Fun K "_law_dot" "_law_dot" s__law_dot a__law_dot d__law_dot
  m__law_dot : mg "_law_dot" = some (.ref a__law_dot)
  b__law_dot : Binds K d__law_dot ["source"] []
  a__law_bad_dot : Addr
  d__law_bad_dot : FuncData
  F__law_bad_dot : Fun K "_law_bad_dot" "_law_bad_dot" s__law_bad_dot a__law_bad_dot d__law_bad_dot
  m__law_bad_dot : mg "_law_bad_dot" = some (.ref a__law_bad_dot)
  b__law_bad_dot : Binds K d__law_bad_dot ["source"] []
  a__law_has : Addr
  d__law_has : FuncData
  F__law_has : Fun K "_law_has" "_law_has" s__law_has a__law_has d__law_has
  m__law_has : mg "_law_has" = some (.ref a__law_has)
  b__law_has : Binds K d__law_has ["counts", "dot"] []
  a__law_great_counts : Addr
  d__law_great_counts : FuncData
  F__law_great_counts : Fun K "_law_great_counts" "_law_great_counts" s__law_great_counts a__law_great_counts d__law_great_counts
  m__law_great_counts : mg "_law_great_counts" = some (.ref a__law_great_counts)
  b__law_great_counts : Binds K d__law_great_counts ["source"] []
  a__law_bad_counts : Addr
  d__law_bad_counts : FuncData
  F__law_bad_counts : Fun K "_law_bad_counts" "_law_bad_counts" s__law_bad_counts a__law_bad_counts d__law_bad_counts
  m__law_bad_counts : mg "_law_bad_counts" = some (.ref a__law_bad_counts)
  b__law_bad_counts : Binds K d__law_bad_counts ["source"] []
  a__law_value_right : Addr
  d__law_value_right : FuncData
  F__law_value_right : Fun K "_law_value_right" "_law_value_right" s__law_value_right a__law_value_right d__law_value_right
  m__law_value_right : mg "_law_value_right" = some (.ref a__law_value_right)
  b__law_value_right : Binds K d__law_value_right ["value"] []
  a__law_told : Addr
  d__law_told : FuncData
  F__law_told : Fun K "_law_told" "_law_told" s__law_told a__law_told d__law_told
  m__law_told : mg "_law_told" = some (.ref a__law_told)
  b__law_told : Binds K d__law_told ["counts", "dot"] []
  a__law_great_values : Addr
  d__law_great_values : FuncData
  F__law_great_values : Fun K "_law_great_values" "_law_great_values" s__law_great_values a__law_great_values d__law_great_values
  m__law_great_values : mg "_law_great_values" = some (.ref a__law_great_values)
  b__law_great_values : Binds K d__law_great_values ["source"] []
  a_law : Addr
  d_law : FuncData
  F_law : Fun K "law" "law" s_law a_law d_law
  m_law : mg "law" = some (.ref a_law)
  b_law : Binds K d_law ["script"] []
  kb_has_dot_dot_counts : KB0 K d_has_dot ["counts", "dot"] ["dot", "counts"] [1, 0]
  kb_is_dot_value : KB0 K d_is_dot ["value"] ["value"] [0]
  g_DEEPEST : ∃ t, mg "DEEPEST" = some (.int 12 t)
  g_MOST_TUPLES : ∃ t, mg "MOST_TUPLES" = some (.int 63 t)
  n_all : mg "all" = none
  n_bool : mg "bool" = none
  n_int : mg "int" = none
  n_isinstance : mg "isinstance" = none
  n_len : mg "len" = none
  n_list : mg "list" = none
  n_max : mg "max" = none
  n_min : mg "min" = none
  n_range : mg "range" = none
  n_repr : mg "repr" = none
  n_sum : mg "sum" = none
  n_tuple : mg "tuple" = none
  n_type : mg "type" = none
  c_StampError : Addr
  m_StampError : mg "StampError" = some (.ref c_StampError)
  c_InvalidCounts : Addr
  m_InvalidCounts : mg "InvalidCounts" = some (.ref c_InvalidCounts)
  c_InvalidPath : Addr
  m_InvalidPath : mg "InvalidPath" = some (.ref c_InvalidPath)
  c_InvalidDot : Addr
  m_InvalidDot : mg "InvalidDot" = some (.ref c_InvalidDot)
  x_StampError : PySem.W.excIn K c_StampError [.type "ValueError", .type "Exception", .type "BaseException", .type "object"] "ValueError.__new__" = true
  kp_StampError : PySem.W.keepIn K (.ref c_StampError) = true
  sb_StampError : PySem.W.subIn K (.ref c_StampError) (.type "BaseException") = some true
  ty_StampError : PySem.W.typeIn K (.ref c_StampError) = some (.type "type")
  x_InvalidCounts : PySem.W.excIn K c_InvalidCounts [.type "ValueError", .type "Exception", .type "BaseException", .type "object"] "ValueError.__new__" = true
  kp_InvalidCounts : PySem.W.keepIn K (.ref c_InvalidCounts) = true
  sb_InvalidCounts : PySem.W.subIn K (.ref c_InvalidCounts) (.type "BaseException") = some true
  ty_InvalidCounts : PySem.W.typeIn K (.ref c_InvalidCounts) = some (.type "type")
  x_InvalidPath : PySem.W.excIn K c_InvalidPath [.type "ValueError", .type "Exception", .type "BaseException", .type "object"] "ValueError.__new__" = true
  kp_InvalidPath : PySem.W.keepIn K (.ref c_InvalidPath) = true
  sb_InvalidPath : PySem.W.subIn K (.ref c_InvalidPath) (.type "BaseException") = some true
  ty_InvalidPath : PySem.W.typeIn K (.ref c_InvalidPath) = some (.type "type")
  x_InvalidDot : PySem.W.excIn K c_InvalidDot [.type "ValueError", .type "Exception", .type "BaseException", .type "object"] "ValueError.__new__" = true
  kp_InvalidDot : PySem.W.keepIn K (.ref c_InvalidDot) = true
  sb_InvalidDot : PySem.W.subIn K (.ref c_InvalidDot) (.type "BaseException") = some true
  ty_InvalidDot : PySem.W.typeIn K (.ref c_InvalidDot) = some (.type "type")
  ec_InvalidCounts : ExcC K c_InvalidCounts
  ec_InvalidDot : ExcC K c_InvalidDot
  ki_InvalidCounts_StampError : PySem.W.kitOne K (.ref c_InvalidCounts) (.ref c_StampError) = some true
  ki_InvalidDot_StampError : PySem.W.kitOne K (.ref c_InvalidDot) (.ref c_StampError) = some true
section
variable {K : PySem.W.Frag} {mg : Str → Option Value}
def Txt.cv (T : Txt K mg) : Nat → Value
  | 0 => .ref T.c_StampError
  | 1 => .ref T.c_InvalidCounts
  | 2 => .ref T.c_InvalidPath
  | 3 => .ref T.c_InvalidDot
  | _ => .none
end
structure TxtC (K : PySem.W.Frag) (mg : Str → Option Value) extends Txt K mg where
  cls : Clss K toTxt.cv 4 mt
def TxtC.cv {K : PySem.W.Frag} {mg : Str → Option Value} (T : TxtC K mg) : Nat → Value := T.toTxt.cv
end PD.K34

/-! ## K34Der -/
set_option Elab.async false
set_option linter.all false
set_option maxRecDepth 100000
set_option maxHeartbeats 4000000
namespace PD.K34
open PySem PySem.Spec L2 PD
/-- all defs keep their promises with n calls -/
structure AllG (P : Program) (w : World) {K : PySem.W.Frag} {mg : Str → Option Value} (base : Heap) (T : TxtC K mg) (n : Nat) : Prop where
  g_tuple_count : FnG P w K mg base n T.a_tuple_count T.d_tuple_count ["tree"] (SpecOf ⟨K, T.cv⟩ (fns n).tuple_count)
  g_is_path : FnG P w K mg base n T.a_is_path T.d_is_path ["value"] (SpecOf ⟨K, T.cv⟩ (fns n).is_path)
  g_check_path : FnG P w K mg base n T.a_check_path T.d_check_path ["value"] (SpecOf ⟨K, T.cv⟩ (fns n).check_path)
  g_least : FnG P w K mg base n T.a_least T.d_least ["counts"] (SpecOf ⟨K, T.cv⟩ (fns n).least)
  g_greatest : FnG P w K mg base n T.a_greatest T.d_greatest ["counts"] (SpecOf ⟨K, T.cv⟩ (fns n).greatest)
  g_lifted : FnG P w K mg base n T.a_lifted T.d_lifted ["counts", "number"] (SpecOf ⟨K, T.cv⟩ (fns n).lifted)
  g_halves : FnG P w K mg base n T.a_halves T.d_halves ["counts"] (SpecOf ⟨K, T.cv⟩ (fns n).halves)
  g_is_counts : FnG P w K mg base n T.a_is_counts T.d_is_counts ["value"] (SpecOf ⟨K, T.cv⟩ (fns n).is_counts)
  g__is_counts_tree : FnG P w K mg base n T.a__is_counts_tree T.d__is_counts_tree ["value", "deepest"] (SpecOf ⟨K, T.cv⟩ (fns n)._is_counts_tree)
  g_check_counts : FnG P w K mg base n T.a_check_counts T.d_check_counts ["value"] (SpecOf ⟨K, T.cv⟩ (fns n).check_counts)
  g_worth_at : FnG P w K mg base n T.a_worth_at T.d_worth_at ["counts", "path"] (SpecOf ⟨K, T.cv⟩ (fns n).worth_at)
  g_is_dot : FnG P w K mg base n T.a_is_dot T.d_is_dot ["value"] (SpecOf ⟨K, T.cv⟩ (fns n).is_dot)
  g__check_dot : FnG P w K mg base n T.a__check_dot T.d__check_dot ["value"] (SpecOf ⟨K, T.cv⟩ (fns n)._check_dot)
  g__has : FnG P w K mg base n T.a__has T.d__has ["counts", "dot"] (SpecOf ⟨K, T.cv⟩ (fns n)._has)
  g_has_dot : FnG P w K mg base n T.a_has_dot T.d_has_dot ["counts", "dot"] (SpecOf ⟨K, T.cv⟩ (fns n).has_dot)
  g__law_source : FnG P w K mg base n T.a__law_source T.d__law_source ["cell"] (SpecOf ⟨K, T.cv⟩ (fns n)._law_source)
  g__law_draw : FnG P w K mg base n T.a__law_draw T.d__law_draw ["source", "many"] (SpecOf ⟨K, T.cv⟩ (fns n)._law_draw)
  g__law_number : FnG P w K mg base n T.a__law_number T.d__law_number ["value"] (SpecOf ⟨K, T.cv⟩ (fns n)._law_number)
  g__law_numbers : FnG P w K mg base n T.a__law_numbers T.d__law_numbers ["value"] (SpecOf ⟨K, T.cv⟩ (fns n)._law_numbers)
  g__law_low : FnG P w K mg base n T.a__law_low T.d__law_low ["counts"] (SpecOf ⟨K, T.cv⟩ (fns n)._law_low)
  g__law_put : FnG P w K mg base n T.a__law_put T.d__law_put ["number", "left", "right"] (SpecOf ⟨K, T.cv⟩ (fns n)._law_put)
  g__law_counts : FnG P w K mg base n T.a__law_counts T.d__law_counts ["source", "deep"] (SpecOf ⟨K, T.cv⟩ (fns n)._law_counts)
  g__law_part : FnG P w K mg base n T.a__law_part T.d__law_part ["counts", "path"] (SpecOf ⟨K, T.cv⟩ (fns n)._law_part)
  g__law_is_dot : FnG P w K mg base n T.a__law_is_dot T.d__law_is_dot ["value"] (SpecOf ⟨K, T.cv⟩ (fns n)._law_is_dot)
  g__law_dot : FnG P w K mg base n T.a__law_dot T.d__law_dot ["source"] (SpecOf ⟨K, T.cv⟩ (fns n)._law_dot)
  g__law_bad_dot : FnG P w K mg base n T.a__law_bad_dot T.d__law_bad_dot ["source"] (SpecOf ⟨K, T.cv⟩ (fns n)._law_bad_dot)
  g__law_has : FnG P w K mg base n T.a__law_has T.d__law_has ["counts", "dot"] (SpecOf ⟨K, T.cv⟩ (fns n)._law_has)
  g__law_great_counts : FnG P w K mg base n T.a__law_great_counts T.d__law_great_counts ["source"] (SpecOf ⟨K, T.cv⟩ (fns n)._law_great_counts)
  g__law_bad_counts : FnG P w K mg base n T.a__law_bad_counts T.d__law_bad_counts ["source"] (SpecOf ⟨K, T.cv⟩ (fns n)._law_bad_counts)
  g__law_value_right : FnG P w K mg base n T.a__law_value_right T.d__law_value_right ["value"] (SpecOf ⟨K, T.cv⟩ (fns n)._law_value_right)
  g__law_told : FnG P w K mg base n T.a__law_told T.d__law_told ["counts", "dot"] (SpecOf ⟨K, T.cv⟩ (fns n)._law_told)
  g__law_great_values : FnG P w K mg base n T.a__law_great_values T.d__law_great_values ["source"] (SpecOf ⟨K, T.cv⟩ (fns n)._law_great_values)
  g_law : FnG P w K mg base n T.a_law T.d_law ["script"] (SpecOf ⟨K, T.cv⟩ (fns n).law)
theorem u65 {A : Around} {k : Nat} (hr : Room k A) : A.units + 65 < cLine := by have := hr.un; omega
section
variable {P : Program} {w : World} {K : PySem.W.Frag} {mg : Str → Option Value} {base : Heap} {n : Nat}
theorem g_tuple_count (T : TxtC K mg) (G : AllG P w base T n) : FnG P w K mg base (n + 1) T.a_tuple_count T.d_tuple_count ["tree"] (SpecOf ⟨K, T.cv⟩ (fnOf 1 2 (b_tuple_count (fns n)))) :=
  fn_den T.F_tuple_count sc_tuple_count fun cdv A outer s H E hG hr tk po =>
    (ps_cons' (ps_if' (pdt_cmp op_isA ok_isA (pd_callTy call_type1 ok_type (by rfl) T.n_type (by decide +kernel) (pda_cons (pd_var (pv 0)) pda_nil)) (pd_ty (n := "int") rfl T.n_int (by decide +kernel)) (nomark _)) (ps_one' (ps_ret' pd_int)) ps_nil')
    (ps_one' (ps_ret' (pd_op op_addA ok_add pd_int (pd_callB (cr_sum rfl) ok_sum (by rfl) T.n_sum (by decide +kernel) (pda_cons (pd_lcT (own := [("part", 1)]) rfl sc_tuple_count.nd (pd_var (pv 0)) ⟨(blkOk_by (own := [("part", 1)]) (N := ["tree", "part"]) (sc := defScope s_tuple_count) (by decide +kernel)), (fun _ _ _ _ _ => pg_name (i := 1) sc_tuple_count.nd rfl (by first | exact Or.inl rfl | exact Or.inr rfl)), (tg_name _ 1), wipe_name, (fun _ _ _ _ _ => pdts_nil), (fun _ _ _ _ _ => have tk := takes0; (pd_call G.g_tuple_count hG hr rfl T.m_tuple_count T.F_tuple_count.kp T.b_tuple_count tk (pda_cons (pd_var (pv 1)) pda_nil)))⟩) pda_nil))))))
theorem g_is_path (T : TxtC K mg) (G : AllG P w base T n) : FnG P w K mg base (n + 1) T.a_is_path T.d_is_path ["value"] (SpecOf ⟨K, T.cv⟩ (fnOf 1 2 (b_is_path (fns n)))) :=
  fn_den T.F_is_path sc_is_path fun cdv A outer s H E hG hr tk po =>
    (ps_cons' (ps_if' (PW.pt (pdw_or (pdt_cmp op_isNotA ok_isNotA (pd_callTy call_type1 ok_type (by rfl) T.n_type (by decide +kernel) (pda_cons (pd_var (pv 0)) pda_nil)) (pd_ty (n := "tuple") rfl T.n_tuple (by decide +kernel)) (nomark _)) (pdw_one (pdt_cmp op_gt ok_int2 (pd_callB call_len ok_len (by rfl) T.n_len (by decide +kernel) (pda_cons (pd_var (pv 0)) pda_nil)) (pd_gi rfl T.g_DEEPEST) (nomark _)) (by decide)))) (ps_one' (ps_ret' pd_bl)) ps_nil')
    (ps_one' (ps_ret' (pd_callB (cr_all rfl) ok_all (by rfl) T.n_all (by decide +kernel) (pda_cons (pd_lcT (own := [("half", 1)]) rfl sc_is_path.nd (pd_var (pv 0)) ⟨(blkOk_by (own := [("half", 1)]) (N := ["value", "half"]) (sc := defScope s_is_path) (by decide +kernel)), (fun _ _ _ _ _ => pg_name (i := 1) sc_is_path.nd rfl (by first | exact Or.inl rfl | exact Or.inr rfl)), (tg_name _ 1), wipe_name, (fun _ _ _ _ _ => pdts_nil), (fun _ _ _ _ _ => (pd_and (pd_cmp op_isA ok_isA (pd_callTy call_type1 ok_type (by rfl) T.n_type (by decide +kernel) (pda_cons (pd_var (pv 1)) pda_nil)) (pd_ty (n := "int") rfl T.n_int (by decide +kernel)) (nomark _)) (pd_one (pd_or (pd_cmp (op_eqD hr.units) ok_eq (pd_var (pv 1)) pd_int (nomark _)) (pd_one (pd_cmp (op_eqD hr.units) ok_eq (pd_var (pv 1)) pd_int (nomark _)))))))⟩) pda_nil)))))
theorem g_check_path (T : TxtC K mg) (G : AllG P w base T n) : FnG P w K mg base (n + 1) T.a_check_path T.d_check_path ["value"] (SpecOf ⟨K, T.cv⟩ (fnOf 1 1 (b_check_path (fns n)))) :=
  fn_den T.F_check_path sc_check_path fun cdv A outer s H E hG hr tk po =>
    (ps_one' (ps_if' (pdt_not (pdt_val (pd_call G.g_is_path hG hr rfl T.m_is_path T.F_is_path.kp T.b_is_path tk (pda_cons (pd_var (pv 0)) pda_nil)))) (ps_one' (ps_raise' (c := 2) rfl tk rfl (pmk_own PySem.F.excBase_ValueError T.x_InvalidPath T.m_InvalidPath T.kp_InvalidPath (raises_own T.sb_InvalidPath T.ty_InvalidPath) (by exact rfl)))) ps_nil'))
theorem g_least (T : TxtC K mg) (G : AllG P w base T n) : FnG P w K mg base (n + 1) T.a_least T.d_least ["counts"] (SpecOf ⟨K, T.cv⟩ (fnOf 1 1 (b_least (fns n)))) :=
  fn_den T.F_least sc_least fun cdv A outer s H E hG hr tk po =>
    (ps_cons' (ps_if' (pdt_cmp op_isA ok_isA (pd_callTy call_type1 ok_type (by rfl) T.n_type (by decide +kernel) (pda_cons (pd_var (pv 0)) pda_nil)) (pd_ty (n := "int") rfl T.n_int (by decide +kernel)) (nomark _)) (ps_one' (ps_ret' (pd_var (pv 0)))) ps_nil')
    (ps_one' (ps_ret' (pd_ix (pd_var (pv 0)) pd_int (fun _ _ => rfl)))))
theorem g_greatest (T : TxtC K mg) (G : AllG P w base T n) : FnG P w K mg base (n + 1) T.a_greatest T.d_greatest ["counts"] (SpecOf ⟨K, T.cv⟩ (fnOf 1 1 (b_greatest (fns n)))) :=
  fn_den T.F_greatest sc_greatest fun cdv A outer s H E hG hr tk po =>
    (ps_cons' (ps_if' (pdt_cmp op_isA ok_isA (pd_callTy call_type1 ok_type (by rfl) T.n_type (by decide +kernel) (pda_cons (pd_var (pv 0)) pda_nil)) (pd_ty (n := "int") rfl T.n_int (by decide +kernel)) (nomark _)) (ps_one' (ps_ret' (pd_var (pv 0)))) ps_nil')
    (ps_one' (ps_ret' (pd_op op_addA ok_add (pd_ix (pd_var (pv 0)) pd_int (fun _ _ => rfl)) (pd_callB (call_max2 rfl) ok_max2 (by rfl) T.n_max (by decide +kernel) (pda_cons (pd_call G.g_greatest hG hr rfl T.m_greatest T.F_greatest.kp T.b_greatest tk (pda_cons (pd_ix (pd_var (pv 0)) pd_int (fun _ _ => rfl)) pda_nil)) (pda_cons (pd_call G.g_greatest hG hr rfl T.m_greatest T.F_greatest.kp T.b_greatest tk (pda_cons (pd_ix (pd_var (pv 0)) pd_int (fun _ _ => rfl)) pda_nil)) pda_nil)))))))
theorem g_lifted (T : TxtC K mg) (G : AllG P w base T n) : FnG P w K mg base (n + 1) T.a_lifted T.d_lifted ["counts", "number"] (SpecOf ⟨K, T.cv⟩ (fnOf 2 2 (b_lifted (fns n)))) :=
  fn_den T.F_lifted sc_lifted fun cdv A outer s H E hG hr tk po =>
    (ps_cons' (ps_if' (pdt_cmp op_isA ok_isA (pd_callTy call_type1 ok_type (by rfl) T.n_type (by decide +kernel) (pda_cons (pd_var (pv 0)) pda_nil)) (pd_ty (n := "int") rfl T.n_int (by decide +kernel)) (nomark _)) (ps_one' (ps_ret' (pd_op op_addA ok_add (pd_var (pv 0)) (pd_var (pv 1))))) ps_nil')
    (ps_one' (ps_ret' (pd_tup (pda_cons (pd_op op_addA ok_add (pd_ix (pd_var (pv 0)) pd_int (fun _ _ => rfl)) (pd_var (pv 1))) (pda_cons (pd_ix (pd_var (pv 0)) pd_int (fun _ _ => rfl)) (pda_cons (pd_ix (pd_var (pv 0)) pd_int (fun _ _ => rfl)) pda_nil)))))))
theorem g_halves (T : TxtC K mg) (G : AllG P w base T n) : FnG P w K mg base (n + 1) T.a_halves T.d_halves ["counts"] (SpecOf ⟨K, T.cv⟩ (fnOf 1 1 (b_halves (fns n)))) :=
  fn_den T.F_halves sc_halves fun cdv A outer s H E hG hr tk po =>
    (ps_cons' (ps_if' (pdt_cmp op_isA ok_isA (pd_callTy call_type1 ok_type (by rfl) T.n_type (by decide +kernel) (pda_cons (pd_var (pv 0)) pda_nil)) (pd_ty (n := "int") rfl T.n_int (by decide +kernel)) (nomark _)) (ps_one' (ps_ret' (pd_tup (pda_cons (pd_var (pv 0)) (pda_cons (pd_var (pv 0)) pda_nil))))) ps_nil')
    (ps_one' (ps_ret' (pd_tup (pda_cons (pd_call G.g_lifted hG hr rfl T.m_lifted T.F_lifted.kp T.b_lifted tk (pda_cons (pd_ix (pd_var (pv 0)) pd_int (fun _ _ => rfl)) (pda_cons (pd_ix (pd_var (pv 0)) pd_int (fun _ _ => rfl)) pda_nil))) (pda_cons (pd_call G.g_lifted hG hr rfl T.m_lifted T.F_lifted.kp T.b_lifted tk (pda_cons (pd_ix (pd_var (pv 0)) pd_int (fun _ _ => rfl)) (pda_cons (pd_ix (pd_var (pv 0)) pd_int (fun _ _ => rfl)) pda_nil))) pda_nil))))))
theorem g_is_counts (T : TxtC K mg) (G : AllG P w base T n) : FnG P w K mg base (n + 1) T.a_is_counts T.d_is_counts ["value"] (SpecOf ⟨K, T.cv⟩ (fnOf 1 1 (b_is_counts (fns n)))) :=
  fn_den T.F_is_counts sc_is_counts fun cdv A outer s H E hG hr tk po =>
    (ps_one' (ps_ret' (pd_and (pd_call G.g__is_counts_tree hG hr rfl T.m__is_counts_tree T.F__is_counts_tree.kp T.b__is_counts_tree tk (pda_cons (pd_var (pv 0)) (pda_cons (pd_gi rfl T.g_DEEPEST) pda_nil))) (pd_one (pd_cmp op_le ok_int2 (pd_call G.g_tuple_count hG hr rfl T.m_tuple_count T.F_tuple_count.kp T.b_tuple_count tk (pda_cons (pd_var (pv 0)) pda_nil)) (pd_gi rfl T.g_MOST_TUPLES) (nomark _))))))
theorem g__is_counts_tree (T : TxtC K mg) (G : AllG P w base T n) : FnG P w K mg base (n + 1) T.a__is_counts_tree T.d__is_counts_tree ["value", "deepest"] (SpecOf ⟨K, T.cv⟩ (fnOf 2 5 (b__is_counts_tree (fns n)))) :=
  fn_den T.F__is_counts_tree sc__is_counts_tree fun cdv A outer s H E hG hr tk po =>
    (ps_cons' (ps_if' (pdt_cmp op_isA ok_isA (pd_callTy call_type1 ok_type (by rfl) T.n_type (by decide +kernel) (pda_cons (pd_var (pv 0)) pda_nil)) (pd_ty (n := "int") rfl T.n_int (by decide +kernel)) (nomark _)) (ps_one' (ps_ret' (pd_cmp op_ge ok_int2 (pd_var (pv 0)) pd_int (nomark _)))) ps_nil')
    (ps_cons' (ps_if' (PW.pt (pdw_or (pdt_cmp op_isNotA ok_isNotA (pd_callTy call_type1 ok_type (by rfl) T.n_type (by decide +kernel) (pda_cons (pd_var (pv 0)) pda_nil)) (pd_ty (n := "tuple") rfl T.n_tuple (by decide +kernel)) (nomark _)) (pdw_or (pdt_cmp (op_neD hr.units) ok_ne (pd_callB call_len ok_len (by rfl) T.n_len (by decide +kernel) (pda_cons (pd_var (pv 0)) pda_nil)) pd_int (nomark _)) (pdw_one (pdt_cmp (op_eqD hr.units) ok_eq (pd_var (pv 1)) pd_int (nomark _)) (by decide))))) (ps_one' (ps_ret' pd_bl)) ps_nil')
    (ps_cons' (ps_asg' (pd_var (pv 0)) (pg_tup rfl (pgs_cons (pg_name (i := 2) sc__is_counts_tree.nd rfl (by first | exact Or.inl rfl | exact Or.inr rfl)) (pgs_cons (pg_name (i := 3) sc__is_counts_tree.nd rfl (by first | exact Or.inl rfl | exact Or.inr rfl)) (pgs_cons (pg_name (i := 4) sc__is_counts_tree.nd rfl (by first | exact Or.inl rfl | exact Or.inr rfl)) pgs_nil)))) (tg_tup (tgs_cons (tg_name _ 2) (tgs_cons (tg_name _ 3) (tgs_cons (tg_name _ 4) (tgs_nil _)))) rfl))
    (ps_cons' (ps_if' (PW.pt (pdw_or (pdt_cmp op_isNotA ok_isNotA (pd_callTy call_type1 ok_type (by rfl) T.n_type (by decide +kernel) (pda_cons (pd_var (pv 2)) pda_nil)) (pd_ty (n := "int") rfl T.n_int (by decide +kernel)) (nomark _)) (pdw_one (pdt_cmp op_lt ok_int2 (pd_var (pv 2)) pd_int (nomark _)) (by decide)))) (ps_one' (ps_ret' pd_bl)) ps_nil')
    (ps_cons' (ps_if' (PW.pt (pdw_or (pdt_not (pdt_val (pd_call G.g__is_counts_tree hG hr rfl T.m__is_counts_tree T.F__is_counts_tree.kp T.b__is_counts_tree tk (pda_cons (pd_var (pv 3)) (pda_cons (pd_op op_sub ok_sub (pd_var (pv 1)) pd_int) pda_nil))))) (pdw_one (pdt_not (pdt_val (pd_call G.g__is_counts_tree hG hr rfl T.m__is_counts_tree T.F__is_counts_tree.kp T.b__is_counts_tree tk (pda_cons (pd_var (pv 4)) (pda_cons (pd_op op_sub ok_sub (pd_var (pv 1)) pd_int) pda_nil))))) (by decide)))) (ps_one' (ps_ret' pd_bl)) ps_nil')
    (ps_cons' (ps_if' (PW.pt (pdw_and (pdt_cmp op_isA ok_isA (pd_callTy call_type1 ok_type (by rfl) T.n_type (by decide +kernel) (pda_cons (pd_var (pv 3)) pda_nil)) (pd_ty (n := "int") rfl T.n_int (by decide +kernel)) (nomark _)) (pdw_one (pdt_cmp (op_eqD hr.units) ok_eq (pd_var (pv 3)) (pd_var (pv 4)) (nomark _)) (by decide)))) (ps_one' (ps_ret' pd_bl)) ps_nil')
    (ps_one' (ps_ret' (pd_or (pd_cmp (op_eqD hr.units) ok_eq (pd_call G.g_least hG hr rfl T.m_least T.F_least.kp T.b_least tk (pda_cons (pd_var (pv 3)) pda_nil)) pd_int (nomark _)) (pd_one (pd_cmp (op_eqD hr.units) ok_eq (pd_call G.g_least hG hr rfl T.m_least T.F_least.kp T.b_least tk (pda_cons (pd_var (pv 4)) pda_nil)) pd_int (nomark _))))))))))))
theorem g_check_counts (T : TxtC K mg) (G : AllG P w base T n) : FnG P w K mg base (n + 1) T.a_check_counts T.d_check_counts ["value"] (SpecOf ⟨K, T.cv⟩ (fnOf 1 1 (b_check_counts (fns n)))) :=
  fn_den T.F_check_counts sc_check_counts fun cdv A outer s H E hG hr tk po =>
    (ps_one' (ps_if' (pdt_not (pdt_val (pd_call G.g_is_counts hG hr rfl T.m_is_counts T.F_is_counts.kp T.b_is_counts tk (pda_cons (pd_var (pv 0)) pda_nil)))) (ps_one' (ps_raise' (c := 1) rfl tk rfl (pmk_own PySem.F.excBase_ValueError T.x_InvalidCounts T.m_InvalidCounts T.kp_InvalidCounts (raises_own T.sb_InvalidCounts T.ty_InvalidCounts) (by exact rfl)))) ps_nil'))
theorem g_worth_at (T : TxtC K mg) (G : AllG P w base T n) : FnG P w K mg base (n + 1) T.a_worth_at T.d_worth_at ["counts", "path"] (SpecOf ⟨K, T.cv⟩ (fnOf 2 4 (b_worth_at (fns n)))) :=
  fn_den T.F_worth_at sc_worth_at fun cdv A outer s H E hG hr tk po =>
    (ps_cons' (ps_expr' (pd_call G.g_check_counts hG hr rfl T.m_check_counts T.F_check_counts.kp T.b_check_counts tk (pda_cons (pd_var (pv 0)) pda_nil)))
    (ps_cons' (ps_expr' (pd_call G.g_check_path hG hr rfl T.m_check_path T.F_check_path.kp T.b_check_path tk (pda_cons (pd_var (pv 1)) pda_nil)))
    (ps_cons' (ps_set' (i := 2) sc_worth_at.nd rfl (by first | exact Or.inl rfl | exact Or.inr rfl) (pd_var (pv 0)))
    (ps_cons' (ps_forT' po rfl (pd_var (pv 1)) (pg_name (i := 3) sc_worth_at.nd rfl (by first | exact Or.inl rfl | exact Or.inr rfl)) (tg_name _ 3)
    (ps_one' (ps_set' (i := 2) sc_worth_at.nd rfl (by first | exact Or.inl rfl | exact Or.inr rfl) (pd_ix (pd_call G.g_halves hG hr rfl T.m_halves T.F_halves.kp T.b_halves tk (pda_cons (pd_var (pv 2)) pda_nil)) (pd_var (pv 3)) (fun _ _ => rfl)))))
    (ps_one' (ps_ret' (pd_tup (pda_cons (pd_call G.g_least hG hr rfl T.m_least T.F_least.kp T.b_least tk (pda_cons (pd_var (pv 2)) pda_nil)) (pda_cons (pd_call G.g_greatest hG hr rfl T.m_greatest T.F_greatest.kp T.b_greatest tk (pda_cons (pd_var (pv 2)) pda_nil)) pda_nil)))))))))
theorem g_is_dot (T : TxtC K mg) (G : AllG P w base T n) : FnG P w K mg base (n + 1) T.a_is_dot T.d_is_dot ["value"] (SpecOf ⟨K, T.cv⟩ (fnOf 1 1 (b_is_dot (fns n)))) :=
  fn_den T.F_is_dot sc_is_dot fun cdv A outer s H E hG hr tk po =>
    (ps_cons' (ps_if' (PW.pt (pdw_or (pdt_cmp op_isNotA ok_isNotA (pd_callTy call_type1 ok_type (by rfl) T.n_type (by decide +kernel) (pda_cons (pd_var (pv 0)) pda_nil)) (pd_ty (n := "tuple") rfl T.n_tuple (by decide +kernel)) (nomark _)) (pdw_one (pdt_cmp (op_neD hr.units) ok_ne (pd_callB call_len ok_len (by rfl) T.n_len (by decide +kernel) (pda_cons (pd_var (pv 0)) pda_nil)) pd_int (nomark _)) (by decide)))) (ps_one' (ps_ret' pd_bl)) ps_nil')
    (ps_one' (ps_ret' (pd_and (pd_call G.g_is_path hG hr rfl T.m_is_path T.F_is_path.kp T.b_is_path tk (pda_cons (pd_ix (pd_var (pv 0)) pd_int (fun _ _ => rfl)) pda_nil)) (pd_and (pd_cmp op_isA ok_isA (pd_callTy call_type1 ok_type (by rfl) T.n_type (by decide +kernel) (pda_cons (pd_ix (pd_var (pv 0)) pd_int (fun _ _ => rfl)) pda_nil)) (pd_ty (n := "int") rfl T.n_int (by decide +kernel)) (nomark _)) (pd_one (pd_cmp op_ge ok_int2 (pd_ix (pd_var (pv 0)) pd_int (fun _ _ => rfl)) pd_int (nomark _))))))))
theorem g__check_dot (T : TxtC K mg) (G : AllG P w base T n) : FnG P w K mg base (n + 1) T.a__check_dot T.d__check_dot ["value"] (SpecOf ⟨K, T.cv⟩ (fnOf 1 1 (b__check_dot (fns n)))) :=
  fn_den T.F__check_dot sc__check_dot fun cdv A outer s H E hG hr tk po =>
    (ps_one' (ps_if' (pdt_not (pdt_val (pd_call G.g_is_dot hG hr rfl T.m_is_dot T.F_is_dot.kp T.b_is_dot tk (pda_cons (pd_var (pv 0)) pda_nil)))) (ps_one' (ps_raise' (c := 3) rfl tk rfl (pmk_own PySem.F.excBase_ValueError T.x_InvalidDot T.m_InvalidDot T.kp_InvalidDot (raises_own T.sb_InvalidDot T.ty_InvalidDot) (by exact rfl)))) ps_nil'))
theorem g__has (T : TxtC K mg) (G : AllG P w base T n) : FnG P w K mg base (n + 1) T.a__has T.d__has ["counts", "dot"] (SpecOf ⟨K, T.cv⟩ (fnOf 2 2 (b__has (fns n)))) :=
  fn_den T.F__has sc__has fun cdv A outer s H E hG hr tk po =>
    (ps_one' (ps_ret' (pd_cmp op_ge ok_int2 (pd_ix (pd_call G.g_worth_at hG hr rfl T.m_worth_at T.F_worth_at.kp T.b_worth_at tk (pda_cons (pd_var (pv 0)) (pda_cons (pd_ix (pd_var (pv 1)) pd_int (fun _ _ => rfl)) pda_nil))) pd_int (fun _ _ => rfl)) (pd_ix (pd_var (pv 1)) pd_int (fun _ _ => rfl)) (nomark _))))
theorem g_has_dot (T : TxtC K mg) (G : AllG P w base T n) : FnG P w K mg base (n + 1) T.a_has_dot T.d_has_dot ["counts", "dot"] (SpecOf ⟨K, T.cv⟩ (fnOf 2 2 (b_has_dot (fns n)))) :=
  fn_den T.F_has_dot sc_has_dot fun cdv A outer s H E hG hr tk po =>
    (ps_cons' (ps_expr' (pd_call G.g_check_counts hG hr rfl T.m_check_counts T.F_check_counts.kp T.b_check_counts tk (pda_cons (pd_var (pv 0)) pda_nil)))
    (ps_cons' (ps_expr' (pd_call G.g__check_dot hG hr rfl T.m__check_dot T.F__check_dot.kp T.b__check_dot tk (pda_cons (pd_var (pv 1)) pda_nil)))
    (ps_one' (ps_ret' (pd_call G.g__has hG hr rfl T.m__has T.F__has.kp T.b__has tk (pda_cons (pd_var (pv 0)) (pda_cons (pd_var (pv 1)) pda_nil)))))))
theorem g__law_source (T : TxtC K mg) (G : AllG P w base T n) : FnG P w K mg base (n + 1) T.a__law_source T.d__law_source ["cell"] (SpecOf ⟨K, T.cv⟩ (fnOf 1 2 (b__law_source (fns n)))) :=
  fn_den T.F__law_source sc__law_source fun cdv A outer s H E hG hr tk po =>
    (ps_cons' (ps_set' (i := 1) sc__law_source.nd rfl (by first | exact Or.inl rfl | exact Or.inr rfl) (pd_if (pdt_cmp op_ge ok_int2 (pd_var (pv 0)) (pd_op op_pow ok_pow pd_int pd_int) (nomark _)) (pd_op op_sub ok_sub (pd_var (pv 0)) (pd_op op_pow ok_pow pd_int pd_int)) pd_int))
    (ps_one' (ps_ret' (pd_lst (pda_cons (pd_var (pv 1)) (pda_cons (pd_op op_mod ok_mod (pd_callTy call_int1 ok_int (by rfl) T.n_int (by decide +kernel) (pda_cons (pd_var (pv 0)) pda_nil)) pd_int) (pda_cons pd_int pda_nil)))))))
theorem g__law_draw (T : TxtC K mg) (G : AllG P w base T n) : FnG P w K mg base (n + 1) T.a__law_draw T.d__law_draw ["source", "many"] (SpecOf ⟨K, T.cv⟩ (fnOf 2 6 (b__law_draw (fns n)))) :=
  fn_den T.F__law_draw sc__law_draw fun cdv A outer s H E hG hr tk po =>
    (ps_cons' (ps_if' (PW.pt (pdw_and (pdt_cmp op_gt ok_int2 (pd_ix (pd_var (pv 0)) pd_int (fun _ _ => rfl)) pd_int (nomark _)) (pdw_one (pdt_cmp op_gt ok_int2 (pd_var (pv 1)) pd_int (nomark _)) (by decide)))) (ps_cons' (ps_set' (i := 2) sc__law_draw.nd rfl (by first | exact Or.inl rfl | exact Or.inr rfl) (pd_op op_fdivW ok_div (pd_ix (pd_var (pv 0)) pd_int (fun _ _ => rfl)) (pd_var (pv 1))))
    (ps_cons' (ps_set' (i := 3) sc__law_draw.nd rfl (by first | exact Or.inl rfl | exact Or.inr rfl) (pd_op op_sub ok_sub (pd_ix (pd_var (pv 0)) pd_int (fun _ _ => rfl)) (pd_op op_mulE ok_mulE (pd_var (pv 2)) (pd_var (pv 1)))))
    (ps_cons' (ps_put' (pd_var (pv 2)) (pd_var (pv 0)) pd_int)
    (ps_one' (ps_ret' (pd_var (pv 3))))))) ps_nil')
    (ps_cons' (ps_put' (pd_op op_addA ok_add (pd_ix (pd_var (pv 0)) pd_int (fun _ _ => rfl)) pd_int) (pd_var (pv 0)) pd_int)
    (ps_cons' (ps_set' (i := 4) sc__law_draw.nd rfl (by first | exact Or.inl rfl | exact Or.inr rfl) (pd_ix (pd_var (pv 0)) pd_int (fun _ _ => rfl)))
    (ps_cons' (ps_set' (i := 5) sc__law_draw.nd rfl (by first | exact Or.inl rfl | exact Or.inr rfl) (pd_op op_mod ok_mod (pd_callTy call_int1 ok_int (by rfl) T.n_int (by decide +kernel) (pda_cons (pd_op op_addA ok_add (pd_op op_addA ok_add (pd_op op_mulE ok_mulE (pd_ix (pd_var (pv 0)) pd_int (fun _ _ => rfl)) (pd_op op_addA ok_add (pd_op op_mulE ok_mulE pd_int (pd_var (pv 4))) pd_int)) (pd_op op_mulE ok_mulE (pd_op op_mulE ok_mulE pd_int (pd_var (pv 4))) (pd_var (pv 4)))) pd_int) pda_nil)) pd_int))
    (ps_cons' (ps_set' (i := 5) sc__law_draw.nd rfl (by first | exact Or.inl rfl | exact Or.inr rfl) (pd_op op_fdivW ok_div (pd_op op_mod ok_mod (pd_callTy call_int1 ok_int (by rfl) T.n_int (by decide +kernel) (pda_cons (pd_op op_addA ok_add (pd_op op_addA ok_add (pd_op op_mulE ok_mulE (pd_var (pv 5)) (pd_var (pv 5))) (pd_op op_mulE ok_mulE pd_int (pd_var (pv 5)))) (pd_var (pv 4))) pda_nil)) pd_int) pd_int))
    (ps_cons' (ps_set' (i := 5) sc__law_draw.nd rfl (by first | exact Or.inl rfl | exact Or.inr rfl) (pd_op op_fdivW ok_div (pd_op op_mod ok_mod (pd_callTy call_int1 ok_int (by rfl) T.n_int (by decide +kernel) (pda_cons (pd_op op_addA ok_add (pd_op op_mulE ok_mulE (pd_var (pv 5)) (pd_var (pv 5))) (pd_op op_mulE ok_mulE pd_int (pd_var (pv 4)))) pda_nil)) pd_int) pd_int))
    (ps_one' (ps_ret' (pd_op op_mod ok_mod (pd_callTy call_int1 ok_int (by rfl) T.n_int (by decide +kernel) (pda_cons (pd_var (pv 5)) pda_nil)) (pd_var (pv 1)))))))))))
theorem g__law_number (T : TxtC K mg) (G : AllG P w base T n) : FnG P w K mg base (n + 1) T.a__law_number T.d__law_number ["value"] (SpecOf ⟨K, T.cv⟩ (fnOf 1 1 (b__law_number (fns n)))) :=
  fn_den T.F__law_number sc__law_number fun cdv A outer s H E hG hr tk po =>
    (ps_one' (ps_ret' (pd_and (pd_callB call_isi ok_isi (by rfl) T.n_isinstance (by decide +kernel) (pda_cons (pd_var (pv 0)) (pda_cons (pd_ty (n := "int") rfl T.n_int (by decide +kernel)) pda_nil))) (pd_one (pd_not (pd_callB call_isi ok_isi (by rfl) T.n_isinstance (by decide +kernel) (pda_cons (pd_var (pv 0)) (pda_cons (pd_ty (n := "bool") rfl T.n_bool (by decide +kernel)) pda_nil))))))))
theorem g__law_numbers (T : TxtC K mg) (G : AllG P w base T n) : FnG P w K mg base (n + 1) T.a__law_numbers T.d__law_numbers ["value"] (SpecOf ⟨K, T.cv⟩ (fnOf 1 2 (b__law_numbers (fns n)))) :=
  fn_den T.F__law_numbers sc__law_numbers fun cdv A outer s H E hG hr tk po =>
    (ps_one' (ps_ret' (pd_and (pd_callB call_isi ok_isi (by rfl) T.n_isinstance (by decide +kernel) (pda_cons (pd_var (pv 0)) (pda_cons (pd_ty (n := "tuple") rfl T.n_tuple (by decide +kernel)) pda_nil))) (pd_one (pd_cmp (op_eqD hr.units) ok_eq (pd_lcT (own := [("one", 1)]) rfl sc__law_numbers.nd (pd_var (pv 0)) ⟨(blkOk_by (own := [("one", 1)]) (N := ["value", "one"]) (sc := defScope s__law_numbers) (by decide +kernel)), (fun _ _ _ _ _ => pg_name (i := 1) sc__law_numbers.nd rfl (by first | exact Or.inl rfl | exact Or.inr rfl)), (tg_name _ 1), wipe_name, (fun _ _ _ _ _ => have tk := takes0; pdts_one (pdt_not (pdt_val (pd_call G.g__law_number hG hr rfl T.m__law_number T.F__law_number.kp T.b__law_number tk (pda_cons (pd_var (pv 1)) pda_nil))))), (fun _ _ _ _ _ => (pd_var (pv 1)))⟩) (pd_lst pda_nil) (nomark _))))))
theorem g__law_low (T : TxtC K mg) (G : AllG P w base T n) : FnG P w K mg base (n + 1) T.a__law_low T.d__law_low ["counts"] (SpecOf ⟨K, T.cv⟩ (fnOf 1 1 (b__law_low (fns n)))) :=
  fn_den T.F__law_low sc__law_low fun cdv A outer s H E hG hr tk po =>
    (ps_one' (ps_ret' (pd_if (pdt_not (pdt_val (pd_callB call_isi ok_isi (by rfl) T.n_isinstance (by decide +kernel) (pda_cons (pd_var (pv 0)) (pda_cons (pd_ty (n := "tuple") rfl T.n_tuple (by decide +kernel)) pda_nil))))) (pd_var (pv 0)) (pd_op op_addA ok_add (pd_ix (pd_var (pv 0)) pd_int (fun _ _ => rfl)) (pd_callB (call_min2 rfl) ok_min2 (by rfl) T.n_min (by decide +kernel) (pda_cons (pd_call G.g__law_low hG hr rfl T.m__law_low T.F__law_low.kp T.b__law_low tk (pda_cons (pd_ix (pd_var (pv 0)) pd_int (fun _ _ => rfl)) pda_nil)) (pda_cons (pd_call G.g__law_low hG hr rfl T.m__law_low T.F__law_low.kp T.b__law_low tk (pda_cons (pd_ix (pd_var (pv 0)) pd_int (fun _ _ => rfl)) pda_nil)) pda_nil)))))))
theorem g__law_put (T : TxtC K mg) (G : AllG P w base T n) : FnG P w K mg base (n + 1) T.a__law_put T.d__law_put ["number", "left", "right"] (SpecOf ⟨K, T.cv⟩ (fnOf 3 6 (b__law_put (fns n)))) :=
  fn_den T.F__law_put sc__law_put fun cdv A outer s H E hG hr tk po =>
    (ps_cons' (ps_if' (PW.pt (pdw_and (pdt_not (pdt_val (pd_callB call_isi ok_isi (by rfl) T.n_isinstance (by decide +kernel) (pda_cons (pd_var (pv 1)) (pda_cons (pd_ty (n := "tuple") rfl T.n_tuple (by decide +kernel)) pda_nil))))) (pdw_and (pdt_not (pdt_val (pd_callB call_isi ok_isi (by rfl) T.n_isinstance (by decide +kernel) (pda_cons (pd_var (pv 2)) (pda_cons (pd_ty (n := "tuple") rfl T.n_tuple (by decide +kernel)) pda_nil))))) (pdw_one (pdt_cmp (op_eqD hr.units) ok_eq (pd_var (pv 1)) (pd_var (pv 2)) (nomark _)) (by decide))))) (ps_one' (ps_ret' (pd_op op_addA ok_add (pd_var (pv 0)) (pd_var (pv 1))))) ps_nil')
    (ps_cons' (ps_set' (i := 3) sc__law_put.nd rfl (by first | exact Or.inl rfl | exact Or.inr rfl) (pd_callB (call_min2 rfl) ok_min2 (by rfl) T.n_min (by decide +kernel) (pda_cons (pd_call G.g__law_low hG hr rfl T.m__law_low T.F__law_low.kp T.b__law_low tk (pda_cons (pd_var (pv 1)) pda_nil)) (pda_cons (pd_call G.g__law_low hG hr rfl T.m__law_low T.F__law_low.kp T.b__law_low tk (pda_cons (pd_var (pv 2)) pda_nil)) pda_nil))))
    (ps_cons' (ps_set' (i := 4) sc__law_put.nd rfl (by first | exact Or.inl rfl | exact Or.inr rfl) (pd_lst (pda_cons (pd_op op_addA ok_add (pd_var (pv 0)) (pd_var (pv 3))) pda_nil)))
    (ps_cons' (ps_forC' po rfl (pd_lst (pda_cons (pd_var (pv 1)) (pda_cons (pd_var (pv 2)) pda_nil))) (pg_name (i := 5) sc__law_put.nd rfl (by first | exact Or.inl rfl | exact Or.inr rfl)) (tg_name _ 5)
    (ps_one' (ps_expr' (pd_append (pd_var (pv 4)) (pd_if (pdt_val (pd_callB call_isi ok_isi (by rfl) T.n_isinstance (by decide +kernel) (pda_cons (pd_var (pv 5)) (pda_cons (pd_ty (n := "tuple") rfl T.n_tuple (by decide +kernel)) pda_nil)))) (pd_tup (pda_cons (pd_op op_sub ok_sub (pd_ix (pd_var (pv 5)) pd_int (fun _ _ => rfl)) (pd_var (pv 3))) (pda_cons (pd_ix (pd_var (pv 5)) pd_int (fun _ _ => rfl)) (pda_cons (pd_ix (pd_var (pv 5)) pd_int (fun _ _ => rfl)) pda_nil)))) (pd_op op_sub ok_sub (pd_var (pv 5)) (pd_var (pv 3)))) mt_append))))
    (ps_one' (ps_ret' (pd_callTy call_tuple_of ok_tuple (by rfl) T.n_tuple (by decide +kernel) (pda_cons (pd_var (pv 4)) pda_nil))))))))
theorem g__law_counts (T : TxtC K mg) (G : AllG P w base T n) : FnG P w K mg base (n + 1) T.a__law_counts T.d__law_counts ["source", "deep"] (SpecOf ⟨K, T.cv⟩ (fnOf 2 2 (b__law_counts (fns n)))) :=
  fn_den T.F__law_counts sc__law_counts fun cdv A outer s H E hG hr tk po =>
    (ps_cons' (ps_if' (PW.pt (pdw_or (pdt_cmp (op_eqD hr.units) ok_eq (pd_var (pv 1)) pd_int (nomark _)) (pdw_one (pdt_cmp (op_eqD hr.units) ok_eq (pd_call G.g__law_draw hG hr rfl T.m__law_draw T.F__law_draw.kp T.b__law_draw tk (pda_cons (pd_var (pv 0)) (pda_cons pd_int pda_nil))) pd_int (nomark _)) (by decide)))) (ps_one' (ps_ret' (pd_call G.g__law_draw hG hr rfl T.m__law_draw T.F__law_draw.kp T.b__law_draw tk (pda_cons (pd_var (pv 0)) (pda_cons pd_int pda_nil))))) ps_nil')
    (ps_one' (ps_ret' (pd_call G.g__law_put hG hr rfl T.m__law_put T.F__law_put.kp T.b__law_put tk (pda_cons (pd_call G.g__law_draw hG hr rfl T.m__law_draw T.F__law_draw.kp T.b__law_draw tk (pda_cons (pd_var (pv 0)) (pda_cons pd_int pda_nil))) (pda_cons (pd_call G.g__law_counts hG hr rfl T.m__law_counts T.F__law_counts.kp T.b__law_counts tk (pda_cons (pd_var (pv 0)) (pda_cons (pd_op op_sub ok_sub (pd_var (pv 1)) pd_int) pda_nil))) (pda_cons (pd_call G.g__law_counts hG hr rfl T.m__law_counts T.F__law_counts.kp T.b__law_counts tk (pda_cons (pd_var (pv 0)) (pda_cons (pd_op op_sub ok_sub (pd_var (pv 1)) pd_int) pda_nil))) pda_nil)))))))
theorem g__law_part (T : TxtC K mg) (G : AllG P w base T n) : FnG P w K mg base (n + 1) T.a__law_part T.d__law_part ["counts", "path"] (SpecOf ⟨K, T.cv⟩ (fnOf 2 5 (b__law_part (fns n)))) :=
  fn_den T.F__law_part sc__law_part fun cdv A outer s H E hG hr tk po =>
    (ps_cons' (ps_forT' po rfl (pd_var (pv 1)) (pg_name (i := 2) sc__law_part.nd rfl (by first | exact Or.inl rfl | exact Or.inr rfl)) (tg_name _ 2)
    (ps_one' (ps_if' (pdt_val (pd_callB call_isi ok_isi (by rfl) T.n_isinstance (by decide +kernel) (pda_cons (pd_var (pv 0)) (pda_cons (pd_ty (n := "tuple") rfl T.n_tuple (by decide +kernel)) pda_nil)))) (ps_cons' (ps_par' (i := 3) (j := 4) rfl sc__law_part.nd rfl rfl (by decide) rfl rfl (pda_cons (pd_ix (pd_var (pv 0)) pd_int (fun _ _ => rfl)) (pda_cons (pd_ix (pd_var (pv 0)) (pd_op op_addA ok_add pd_int (pd_var (pv 2))) (fun _ _ => rfl)) pda_nil)) (by rfl))
    (ps_one' (ps_set' (i := 0) sc__law_part.nd rfl (by first | exact Or.inl rfl | exact Or.inr rfl) (pd_if (pdt_val (pd_callB call_isi ok_isi (by rfl) T.n_isinstance (by decide +kernel) (pda_cons (pd_var (pv 4)) (pda_cons (pd_ty (n := "tuple") rfl T.n_tuple (by decide +kernel)) pda_nil)))) (pd_tup (pda_cons (pd_op op_addA ok_add (pd_ix (pd_var (pv 4)) pd_int (fun _ _ => rfl)) (pd_var (pv 3))) (pda_cons (pd_ix (pd_var (pv 4)) pd_int (fun _ _ => rfl)) (pda_cons (pd_ix (pd_var (pv 4)) pd_int (fun _ _ => rfl)) pda_nil)))) (pd_op op_addA ok_add (pd_var (pv 4)) (pd_var (pv 3))))))) ps_nil')))
    (ps_one' (ps_ret' (pd_var (pv 0)))))
theorem g__law_is_dot (T : TxtC K mg) (G : AllG P w base T n) : FnG P w K mg base (n + 1) T.a__law_is_dot T.d__law_is_dot ["value"] (SpecOf ⟨K, T.cv⟩ (fnOf 1 2 (b__law_is_dot (fns n)))) :=
  fn_den T.F__law_is_dot sc__law_is_dot fun cdv A outer s H E hG hr tk po =>
    (ps_cons' (ps_if' (PW.pt (pdw_or (pdt_not (pdt_val (pd_callB call_isi ok_isi (by rfl) T.n_isinstance (by decide +kernel) (pda_cons (pd_var (pv 0)) (pda_cons (pd_ty (n := "tuple") rfl T.n_tuple (by decide +kernel)) pda_nil))))) (pdw_or (pdt_cmp (op_neD hr.units) ok_ne (pd_callB call_len ok_len (by rfl) T.n_len (by decide +kernel) (pda_cons (pd_var (pv 0)) pda_nil)) pd_int (nomark _)) (pdw_or (pdt_not (pdt_val (pd_call G.g__law_numbers hG hr rfl T.m__law_numbers T.F__law_numbers.kp T.b__law_numbers tk (pda_cons (pd_ix (pd_var (pv 0)) pd_int (fun _ _ => rfl)) pda_nil)))) (pdw_one (pdt_not (pdt_val (pd_call G.g__law_number hG hr rfl T.m__law_number T.F__law_number.kp T.b__law_number tk (pda_cons (pd_ix (pd_var (pv 0)) pd_int (fun _ _ => rfl)) pda_nil)))) (by decide)))))) (ps_one' (ps_ret' pd_bl)) ps_nil')
    (ps_one' (ps_ret' (pd_and (pd_cmp op_lt ok_int2 (pd_callB call_len ok_len (by rfl) T.n_len (by decide +kernel) (pda_cons (pd_ix (pd_var (pv 0)) pd_int (fun _ _ => rfl)) pda_nil)) pd_int (nomark _)) (pd_and (pd_cmp (op_eqD hr.units) ok_eq (pd_lcT (own := [("half", 1)]) rfl sc__law_is_dot.nd (pd_ix (pd_var (pv 0)) pd_int (fun _ _ => rfl)) ⟨(blkOk_by (own := [("half", 1)]) (N := ["value", "half"]) (sc := defScope s__law_is_dot) (by decide +kernel)), (fun _ _ _ _ _ => pg_name (i := 1) sc__law_is_dot.nd rfl (by first | exact Or.inl rfl | exact Or.inr rfl)), (tg_name _ 1), wipe_name, (fun _ _ _ _ _ => pdts_one (pdt_cmp (op_notInA (u65 hr)) ok_notIn (pd_var (pv 1)) (pd_tup (pda_cons pd_int (pda_cons pd_int pda_nil))) rfl)), (fun _ _ _ _ _ => (pd_var (pv 1)))⟩) (pd_lst pda_nil) (nomark _)) (pd_one (pd_cmp op_gt ok_int2 (pd_ix (pd_var (pv 0)) pd_int (fun _ _ => rfl)) pd_int (nomark _))))))))
theorem g__law_dot (T : TxtC K mg) (G : AllG P w base T n) : FnG P w K mg base (n + 1) T.a__law_dot T.d__law_dot ["source"] (SpecOf ⟨K, T.cv⟩ (fnOf 1 3 (b__law_dot (fns n)))) :=
  fn_den T.F__law_dot sc__law_dot fun cdv A outer s H E hG hr tk po =>
    (ps_cons' (ps_set' (i := 1) sc__law_dot.nd rfl (by first | exact Or.inl rfl | exact Or.inr rfl) (pd_if (pdt_cmp op_gt ok_int2 (pd_call G.g__law_draw hG hr rfl T.m__law_draw T.F__law_draw.kp T.b__law_draw tk (pda_cons (pd_var (pv 0)) (pda_cons pd_int pda_nil))) pd_int (nomark _)) (pd_call G.g__law_draw hG hr rfl T.m__law_draw T.F__law_draw.kp T.b__law_draw tk (pda_cons (pd_var (pv 0)) (pda_cons pd_int pda_nil))) (pd_call G.g__law_draw hG hr rfl T.m__law_draw T.F__law_draw.kp T.b__law_draw tk (pda_cons (pd_var (pv 0)) (pda_cons pd_int pda_nil)))))
    (ps_one' (ps_ret' (pd_tup (pda_cons (pd_callTy call_tuple_of ok_tuple (by rfl) T.n_tuple (by decide +kernel) (pda_cons (pd_lcR (own := [("turn", 2)]) rfl sc__law_dot.nd (by rfl) T.n_range (pda_cons (pd_var (pv 1)) pda_nil) ⟨(blkOk_by (own := [("turn", 2)]) (N := ["source", "many", "turn"]) (sc := defScope s__law_dot) (by decide +kernel)), (fun _ _ _ _ _ => pg_name (i := 2) sc__law_dot.nd rfl (by first | exact Or.inl rfl | exact Or.inr rfl)), (tg_name _ 2), wipe_name, (fun _ _ _ _ _ => pdts_nil), (fun _ _ _ _ _ => have tk := takes0; (pd_call G.g__law_draw hG hr rfl T.m__law_draw T.F__law_draw.kp T.b__law_draw tk (pda_cons (pd_var (pv 0)) (pda_cons pd_int pda_nil))))⟩) pda_nil)) (pda_cons (pd_op op_addA ok_add pd_int (pd_call G.g__law_draw hG hr rfl T.m__law_draw T.F__law_draw.kp T.b__law_draw tk (pda_cons (pd_var (pv 0)) (pda_cons pd_int pda_nil)))) pda_nil))))))
theorem g__law_bad_dot (T : TxtC K mg) (G : AllG P w base T n) : FnG P w K mg base (n + 1) T.a__law_bad_dot T.d__law_bad_dot ["source"] (SpecOf ⟨K, T.cv⟩ (fnOf 1 8 (b__law_bad_dot (fns n)))) :=
  fn_den T.F__law_bad_dot sc__law_bad_dot fun cdv A outer s H E hG hr tk po =>
    (ps_cons' (ps_asg' (pd_call G.g__law_dot hG hr rfl T.m__law_dot T.F__law_dot.kp T.b__law_dot tk (pda_cons (pd_var (pv 0)) pda_nil)) (pg_tup rfl (pgs_cons (pg_name (i := 1) sc__law_bad_dot.nd rfl (by first | exact Or.inl rfl | exact Or.inr rfl)) (pgs_cons (pg_name (i := 2) sc__law_bad_dot.nd rfl (by first | exact Or.inl rfl | exact Or.inr rfl)) pgs_nil))) (tg_tup (tgs_cons (tg_name _ 1) (tgs_cons (tg_name _ 2) (tgs_nil _))) rfl))
    (ps_cons' (ps_set' (i := 3) sc__law_bad_dot.nd rfl (by first | exact Or.inl rfl | exact Or.inr rfl) (pd_call G.g__law_draw hG hr rfl T.m__law_draw T.F__law_draw.kp T.b__law_draw tk (pda_cons (pd_var (pv 0)) (pda_cons (pd_op op_addA ok_add (pd_callB call_len ok_len (by rfl) T.n_len (by decide +kernel) (pda_cons (pd_var (pv 1)) pda_nil)) pd_int) pda_nil))))
    (ps_cons' (ps_set' (i := 4) sc__law_bad_dot.nd rfl (by first | exact Or.inl rfl | exact Or.inr rfl) (pd_ix (pd_lst (pda_cons pd_int (pda_cons (pd_un un_neg ok_neg pd_int) (pda_cons pd_bl (pda_cons pd_bl (pda_cons pd_non (pda_cons pd_str (pda_cons (pd_tup (pda_cons pd_int pda_nil)) (pda_cons (pd_lst (pda_cons pd_int pda_nil)) (pda_cons (pd_op op_pow ok_pow pd_int pd_int) pda_nil)))))))))) (pd_call G.g__law_draw hG hr rfl T.m__law_draw T.F__law_draw.kp T.b__law_draw tk (pda_cons (pd_var (pv 0)) (pda_cons pd_int pda_nil))) (fun _ _ => rfl)))
    (ps_cons' (ps_set' (i := 5) sc__law_bad_dot.nd rfl (by first | exact Or.inl rfl | exact Or.inr rfl) (pd_ix (pd_lst (pda_cons pd_int (pda_cons (pd_un un_neg ok_neg pd_int) (pda_cons pd_bl (pda_cons pd_non (pda_cons pd_str (pda_cons (pd_tup (pda_cons pd_int pda_nil)) (pda_cons (pd_lst (pda_cons pd_int pda_nil)) (pda_cons (pd_un un_neg ok_neg (pd_op op_pow ok_pow pd_int pd_int)) (pda_cons pd_bl pda_nil)))))))))) (pd_call G.g__law_draw hG hr rfl T.m__law_draw T.F__law_draw.kp T.b__law_draw tk (pda_cons (pd_var (pv 0)) (pda_cons pd_int pda_nil))) (fun _ _ => rfl)))
    (ps_cons' (ps_set' (i := 6) sc__law_bad_dot.nd rfl (by first | exact Or.inl rfl | exact Or.inr rfl) (pd_op op_addA ok_add (pd_op op_addA ok_add (pd_op op_rep ok_repL (pd_lst (pda_cons (pd_tup (pda_cons (pd_op op_addA ok_add (pd_op op_addA ok_add (pd_sl (pd_var (pv 1)) pdo_none (pdo_some (pd_var (pv 3)))) (pd_tup (pda_cons (pd_var (pv 4)) pda_nil))) (pd_sl (pd_var (pv 1)) (pdo_some (pd_var (pv 3))) pdo_none)) (pda_cons (pd_var (pv 2)) pda_nil))) pda_nil)) pd_int) (pd_op op_rep ok_repL (pd_lst (pda_cons (pd_tup (pda_cons (pd_var (pv 1)) (pda_cons (pd_var (pv 5)) pda_nil))) pda_nil)) pd_int)) (pd_lst (pda_cons (pd_tup (pda_cons (pd_op op_repTB ok_repT (pd_tup (pda_cons pd_int pda_nil)) pd_int) (pda_cons (pd_var (pv 2)) pda_nil))) (pda_cons (pd_tup (pda_cons (pd_callTy call_list_of ok_listOf (by rfl) T.n_list (by decide +kernel) (pda_cons (pd_var (pv 1)) pda_nil)) (pda_cons (pd_var (pv 2)) pda_nil))) pda_nil)))))
    (ps_cons' (ps_set' (i := 6) sc__law_bad_dot.nd rfl (by first | exact Or.inl rfl | exact Or.inr rfl) (pd_op op_addA ok_add (pd_var (pv 6)) (pd_lst (pda_cons (pd_lst (pda_cons (pd_var (pv 1)) (pda_cons (pd_var (pv 2)) pda_nil))) (pda_cons (pd_tup (pda_cons (pd_var (pv 1)) pda_nil)) (pda_cons (pd_tup (pda_cons (pd_var (pv 1)) (pda_cons (pd_var (pv 2)) (pda_cons pd_int pda_nil)))) (pda_cons (pd_tup (pda_cons (pd_var (pv 2)) (pda_cons (pd_var (pv 1)) pda_nil))) (pda_cons pd_non (pda_cons pd_int (pda_cons pd_str (pda_cons (pd_tup pda_nil) (pda_cons (pd_op op_addA ok_add (pd_var (pv 1)) (pd_tup (pda_cons (pd_var (pv 2)) pda_nil))) (pda_cons (pd_tup (pda_cons pd_non (pda_cons (pd_var (pv 2)) pda_nil))) pda_nil)))))))))))))
    (ps_cons' (ps_set' (i := 7) sc__law_bad_dot.nd rfl (by first | exact Or.inl rfl | exact Or.inr rfl) (pd_ix (pd_var (pv 6)) (pd_call G.g__law_draw hG hr rfl T.m__law_draw T.F__law_draw.kp T.b__law_draw tk (pda_cons (pd_var (pv 0)) (pda_cons (pd_callB call_len ok_len (by rfl) T.n_len (by decide +kernel) (pda_cons (pd_var (pv 6)) pda_nil)) pda_nil))) (fun _ _ => rfl)))
    (ps_one' (ps_ret' (pd_if (pdt_val (pd_call G.g__law_is_dot hG hr rfl T.m__law_is_dot T.F__law_is_dot.kp T.b__law_is_dot tk (pda_cons (pd_var (pv 7)) pda_nil))) pd_non (pd_var (pv 7))))))))))))
theorem g__law_has (T : TxtC K mg) (G : AllG P w base T n) : FnG P w K mg base (n + 1) T.a__law_has T.d__law_has ["counts", "dot"] (SpecOf ⟨K, T.cv⟩ (fnOf 2 2 (b__law_has (fns n)))) :=
  fn_den T.F__law_has sc__law_has fun cdv A outer s H E hG hr tk po =>
    (ps_one' (ps_ret' (pd_cmp op_ge ok_int2 (pd_call G.g__law_low hG hr rfl T.m__law_low T.F__law_low.kp T.b__law_low tk (pda_cons (pd_call G.g__law_part hG hr rfl T.m__law_part T.F__law_part.kp T.b__law_part tk (pda_cons (pd_var (pv 0)) (pda_cons (pd_ix (pd_var (pv 1)) pd_int (fun _ _ => rfl)) pda_nil))) pda_nil)) (pd_ix (pd_var (pv 1)) pd_int (fun _ _ => rfl)) (nomark _))))
theorem g__law_great_counts (T : TxtC K mg) (G : AllG P w base T n) : FnG P w K mg base (n + 1) T.a__law_great_counts T.d__law_great_counts ["source"] (SpecOf ⟨K, T.cv⟩ (fnOf 1 4 (b__law_great_counts (fns n)))) :=
  fn_den T.F__law_great_counts sc__law_great_counts fun cdv A outer s H E hG hr tk po =>
    (ps_cons' (ps_par' (i := 1) (j := 2) rfl sc__law_great_counts.nd rfl rfl (by decide) rfl rfl (pda_cons (pd_op op_addA ok_add pd_int (pd_call G.g__law_draw hG hr rfl T.m__law_draw T.F__law_draw.kp T.b__law_draw tk (pda_cons (pd_var (pv 0)) (pda_cons pd_int pda_nil)))) (pda_cons (pd_tup (pda_cons pd_int (pda_cons pd_int (pda_cons pd_int pda_nil)))) pda_nil)) (by rfl))
    (ps_cons' (ps_forR' po rfl (by rfl) T.n_range (pda_cons pd_int pda_nil) (pg_name (i := 3) sc__law_great_counts.nd rfl (by first | exact Or.inl rfl | exact Or.inr rfl)) (tg_name _ 3)
    (ps_one' (ps_set' (i := 1) sc__law_great_counts.nd rfl (by first | exact Or.inl rfl | exact Or.inr rfl) (pd_if (pdt_cmp (op_eqD hr.units) ok_eq (pd_call G.g__law_draw hG hr rfl T.m__law_draw T.F__law_draw.kp T.b__law_draw tk (pda_cons (pd_var (pv 0)) (pda_cons pd_int pda_nil))) pd_int (nomark _)) (pd_tup (pda_cons pd_int (pda_cons (pd_var (pv 1)) (pda_cons pd_int pda_nil)))) (pd_tup (pda_cons pd_int (pda_cons pd_int (pda_cons (pd_var (pv 1)) pda_nil))))))))
    (ps_cons' (ps_forR' po rfl (by rfl) T.n_range (pda_cons pd_int pda_nil) (pg_name (i := 3) sc__law_great_counts.nd rfl (by first | exact Or.inl rfl | exact Or.inr rfl)) (tg_name _ 3)
    (ps_one' (ps_set' (i := 2) sc__law_great_counts.nd rfl (by first | exact Or.inl rfl | exact Or.inr rfl) (pd_tup (pda_cons pd_int (pda_cons (pd_var (pv 2)) (pda_cons (pd_var (pv 2)) pda_nil)))))))
    (ps_one' (ps_ret' (pd_ix (pd_lst (pda_cons (pd_var (pv 1)) (pda_cons (pd_tup (pda_cons pd_int (pda_cons (pd_var (pv 2)) (pda_cons pd_int pda_nil)))) (pda_cons (pd_tup (pda_cons pd_int (pda_cons (pd_var (pv 2)) (pda_cons (pd_var (pv 2)) pda_nil)))) pda_nil)))) (pd_call G.g__law_draw hG hr rfl T.m__law_draw T.F__law_draw.kp T.b__law_draw tk (pda_cons (pd_var (pv 0)) (pda_cons pd_int pda_nil))) (fun _ _ => rfl)))))))
theorem g__law_bad_counts (T : TxtC K mg) (G : AllG P w base T n) : FnG P w K mg base (n + 1) T.a__law_bad_counts T.d__law_bad_counts ["source"] (SpecOf ⟨K, T.cv⟩ (fnOf 1 3 (b__law_bad_counts (fns n)))) :=
  fn_den T.F__law_bad_counts sc__law_bad_counts fun cdv A outer s H E hG hr tk po =>
    (ps_cons' (ps_set' (i := 1) sc__law_bad_counts.nd rfl (by first | exact Or.inl rfl | exact Or.inr rfl) (pd_ix (pd_lst (pda_cons (pd_un un_neg ok_neg pd_int) (pda_cons pd_bl (pda_cons pd_non (pda_cons pd_str (pda_cons (pd_tup (pda_cons pd_int pda_nil)) (pda_cons (pd_lst (pda_cons pd_int pda_nil)) (pda_cons (pd_tup (pda_cons pd_int (pda_cons pd_int pda_nil))) (pda_cons (pd_un un_neg ok_neg (pd_op op_pow ok_pow pd_int pd_int)) (pda_cons pd_bl (pda_cons (pd_tup pda_nil) pda_nil))))))))))) (pd_call G.g__law_draw hG hr rfl T.m__law_draw T.F__law_draw.kp T.b__law_draw tk (pda_cons (pd_var (pv 0)) (pda_cons pd_int pda_nil))) (fun _ _ => rfl)))
    (ps_cons' (ps_set' (i := 2) sc__law_bad_counts.nd rfl (by first | exact Or.inl rfl | exact Or.inr rfl) (pd_lst (pda_cons (pd_var (pv 1)) (pda_cons (pd_tup (pda_cons (pd_var (pv 1)) (pda_cons pd_int (pda_cons pd_int pda_nil)))) (pda_cons (pd_tup (pda_cons pd_int (pda_cons (pd_var (pv 1)) (pda_cons pd_int pda_nil)))) (pda_cons (pd_tup (pda_cons pd_int (pda_cons pd_int (pda_cons (pd_var (pv 1)) pda_nil)))) (pda_cons (pd_tup (pda_cons pd_int (pda_cons pd_int (pda_cons pd_int pda_nil)))) (pda_cons (pd_tup (pda_cons pd_int (pda_cons pd_int (pda_cons pd_int pda_nil)))) (pda_cons (pd_tup (pda_cons pd_int (pda_cons pd_int (pda_cons pd_int pda_nil)))) (pda_cons (pd_tup (pda_cons pd_int (pda_cons (pd_tup (pda_cons pd_int (pda_cons pd_int (pda_cons pd_int pda_nil)))) (pda_cons pd_int pda_nil)))) (pda_cons (pd_tup (pda_cons pd_int (pda_cons pd_int (pda_cons pd_int pda_nil)))) pda_nil)))))))))))
    (ps_cons' (ps_set' (i := 2) sc__law_bad_counts.nd rfl (by first | exact Or.inl rfl | exact Or.inr rfl) (pd_op op_addA ok_add (pd_var (pv 2)) (pd_lst (pda_cons (pd_callTy call_list_of ok_listOf (by rfl) T.n_list (by decide +kernel) (pda_cons (pd_tup (pda_cons pd_int (pda_cons pd_int (pda_cons pd_int pda_nil)))) pda_nil)) (pda_cons (pd_tup (pda_cons pd_int (pda_cons pd_int (pda_cons pd_int (pda_cons pd_int pda_nil))))) (pda_cons (pd_tup (pda_cons pd_int (pda_cons (pd_tup (pda_cons pd_int (pda_cons pd_int (pda_cons (pd_tup (pda_cons pd_int (pda_cons pd_int (pda_cons (pd_var (pv 1)) pda_nil)))) pda_nil)))) (pda_cons pd_int pda_nil)))) (pda_cons (pd_tup (pda_cons pd_int (pda_cons (pd_tup (pda_cons pd_int (pda_cons pd_int (pda_cons pd_int pda_nil)))) (pda_cons pd_int pda_nil)))) pda_nil)))))))
    (ps_cons' (ps_set' (i := 2) sc__law_bad_counts.nd rfl (by first | exact Or.inl rfl | exact Or.inr rfl) (pd_op op_addA ok_add (pd_var (pv 2)) (pd_op op_rep ok_repL (pd_lst (pda_cons (pd_call G.g__law_great_counts hG hr rfl T.m__law_great_counts T.F__law_great_counts.kp T.b__law_great_counts tk (pda_cons (pd_var (pv 0)) pda_nil)) pda_nil)) pd_int)))
    (ps_one' (ps_ret' (pd_ix (pd_var (pv 2)) (pd_call G.g__law_draw hG hr rfl T.m__law_draw T.F__law_draw.kp T.b__law_draw tk (pda_cons (pd_var (pv 0)) (pda_cons (pd_callB call_len ok_len (by rfl) T.n_len (by decide +kernel) (pda_cons (pd_var (pv 2)) pda_nil)) pda_nil))) (fun _ _ => rfl))))))))
theorem g__law_value_right (T : TxtC K mg) (G : AllG P w base T n) : FnG P w K mg base (n + 1) T.a__law_value_right T.d__law_value_right ["value"] (SpecOf ⟨K, T.cv⟩ (fnOf 1 3 (b__law_value_right (fns n)))) :=
  fn_den T.F__law_value_right sc__law_value_right fun cdv A outer s H E hG hr tk po =>
    (ps_cons' (ps_par' (i := 1) (j := 2) rfl sc__law_value_right.nd rfl rfl (by decide) rfl rfl (pda_cons (pd_callB (call_reprD hG (u65 hr)) ok_repr (by rfl) T.n_repr (by decide +kernel) (pda_cons (pd_var (pv 0)) pda_nil)) (pda_cons (pd_call G.g__law_is_dot hG hr rfl T.m__law_is_dot T.F__law_is_dot.kp T.b__law_is_dot tk (pda_cons (pd_var (pv 0)) pda_nil)) pda_nil)) (by rfl))
    (ps_one' (ps_ret' (pd_and (pd_cmp (op_eqD hr.units) ok_eq (pd_callB (call_reprD hG (u65 hr)) ok_repr (by rfl) T.n_repr (by decide +kernel) (pda_cons (pd_lst (pda_cons (pd_call G.g_is_dot hG hr rfl T.m_is_dot T.F_is_dot.kp T.b_is_dot tk (pda_cons (pd_var (pv 0)) pda_nil)) (pda_cons (pd_callK0 (is := [0]) G.g_is_dot hG hr rfl T.m_is_dot T.F_is_dot.kp T.kb_is_dot_value tk (pdk_cons (pd_var (pv 0)) pdk_nil)) pda_nil))) pda_nil)) (pd_callB (call_reprD hG (u65 hr)) ok_repr (by rfl) T.n_repr (by decide +kernel) (pda_cons (pd_lst (pda_cons (pd_var (pv 2)) (pda_cons (pd_var (pv 2)) pda_nil))) pda_nil)) (nomark _)) (pd_one (pd_cmp (op_eqD hr.units) ok_eq (pd_callB (call_reprD hG (u65 hr)) ok_repr (by rfl) T.n_repr (by decide +kernel) (pda_cons (pd_var (pv 0)) pda_nil)) (pd_var (pv 1)) (nomark _)))))))
theorem g__law_told (T : TxtC K mg) (G : AllG P w base T n) : FnG P w K mg base (n + 1) T.a__law_told T.d__law_told ["counts", "dot"] (SpecOf ⟨K, T.cv⟩ (fnOf 2 4 (b__law_told (fns n)))) :=
  fn_den T.F__law_told sc__law_told fun cdv A outer s H E hG hr tk po =>
    (ps_cons' (ps_set' (i := 2) sc__law_told.nd rfl (by first | exact Or.inl rfl | exact Or.inr rfl) pd_str)
    (ps_cons' (ps_tryE T.cls rfl rfl sc__law_told.nd tk (fun W pn xe tk po => (ps_one' (ps_set' (i := 2) sc__law_told.nd rfl (by first | exact Or.inl rfl | exact Or.inr rfl) (pd_call G.g_has_dot hG hr rfl T.m_has_dot T.F_has_dot.kp T.b_has_dot tk (pda_cons (pd_var (pv 0)) (pda_cons (pd_var (pv 1)) pda_nil))))))
    (.named (c := 1) (i := 3) ⟨rfl, by decide, Or.inl T.m_InvalidCounts⟩ rfl rfl rfl (fun _ _ _ _ _ hz hv => (pss_one (ps_set (i := 2) sc__law_told.nd rfl (by first | exact Or.inl rfl | exact Or.inr rfl) (pe_ifExp (pt_val (pe_callB (call_isEx T.ec_InvalidCounts hz hv) rfl T.n_isinstance (by decide +kernel) (pa_cons (pv 3) (pa_cons (pe_glob (v := .ref T.c_StampError) rfl T.m_StampError rfl) pa_nil)))) pe_str pe_str)))) (fun _ _ _ => su_is T.ki_InvalidCounts_StampError) (.named (c := 3) (i := 3) ⟨rfl, by decide, Or.inl T.m_InvalidDot⟩ rfl rfl rfl (fun _ _ _ _ _ hz hv => (pss_one (ps_set (i := 2) sc__law_told.nd rfl (by first | exact Or.inl rfl | exact Or.inr rfl) (pe_ifExp (pt_val (pe_callB (call_isEx T.ec_InvalidDot hz hv) rfl T.n_isinstance (by decide +kernel) (pa_cons (pv 3) (pa_cons (pe_glob (v := .ref T.c_StampError) rfl T.m_StampError rfl) pa_nil)))) pe_str pe_str)))) (fun _ _ _ => su_is T.ki_InvalidDot_StampError) .nil)))
    (ps_one' (ps_ret' (pd_var (pv 2))))))
theorem g__law_great_values (T : TxtC K mg) (G : AllG P w base T n) : FnG P w K mg base (n + 1) T.a__law_great_values T.d__law_great_values ["source"] (SpecOf ⟨K, T.cv⟩ (fnOf 1 5 (b__law_great_values (fns n)))) :=
  fn_den T.F__law_great_values sc__law_great_values fun cdv A outer s H E hG hr tk po =>
    (ps_cons' (ps_set' (i := 1) sc__law_great_values.nd rfl (by first | exact Or.inl rfl | exact Or.inr rfl) (pd_tup (pda_cons pd_int (pda_cons pd_int pda_nil))))
    (ps_cons' (ps_forR' po rfl (by rfl) T.n_range (pda_cons pd_int pda_nil) (pg_name (i := 2) sc__law_great_values.nd rfl (by first | exact Or.inl rfl | exact Or.inr rfl)) (tg_name _ 2)
    (ps_one' (ps_set' (i := 1) sc__law_great_values.nd rfl (by first | exact Or.inl rfl | exact Or.inr rfl) (pd_if (pdt_cmp (op_eqD hr.units) ok_eq (pd_call G.g__law_draw hG hr rfl T.m__law_draw T.F__law_draw.kp T.b__law_draw tk (pda_cons (pd_var (pv 0)) (pda_cons pd_int pda_nil))) pd_int (nomark _)) (pd_tup (pda_cons (pd_var (pv 1)) pda_nil)) (pd_lst (pda_cons (pd_var (pv 1)) pda_nil))))))
    (ps_cons' (ps_set' (i := 3) sc__law_great_values.nd rfl (by first | exact Or.inl rfl | exact Or.inr rfl) (pd_callTy call_tuple_of ok_tuple (by rfl) T.n_tuple (by decide +kernel) (pda_cons (pd_lcR (own := [("turn", 2)]) rfl sc__law_great_values.nd (by rfl) T.n_range (pda_cons pd_int pda_nil) ⟨(blkOk_by (own := [("turn", 2)]) (N := ["source", "deep", "turn", "path", "some"]) (sc := defScope s__law_great_values) (by decide +kernel)), (fun _ _ _ _ _ => pg_name (i := 2) sc__law_great_values.nd rfl (by first | exact Or.inl rfl | exact Or.inr rfl)), (tg_name _ 2), wipe_name, (fun _ _ _ _ _ => pdts_nil), (fun _ _ _ _ _ => have tk := takes0; (pd_call G.g__law_draw hG hr rfl T.m__law_draw T.F__law_draw.kp T.b__law_draw tk (pda_cons (pd_var (pv 0)) (pda_cons pd_int pda_nil))))⟩) pda_nil)))
    (ps_cons' (ps_set' (i := 4) sc__law_great_values.nd rfl (by first | exact Or.inl rfl | exact Or.inr rfl) (pd_lst (pda_cons (pd_var (pv 1)) (pda_cons (pd_op op_repTB ok_repT (pd_tup (pda_cons pd_int pda_nil)) pd_int) (pda_cons (pd_tup (pda_cons (pd_op op_repTB ok_repT (pd_tup (pda_cons pd_int pda_nil)) pd_int) (pda_cons pd_int pda_nil))) (pda_cons (pd_tup (pda_cons (pd_tup pda_nil) (pda_cons pd_int pda_nil))) (pda_cons (pd_tup (pda_cons (pd_var (pv 3)) (pda_cons (pd_op op_mulE ok_mulE (pd_op op_pow ok_pow pd_int pd_int) (pd_op op_pow ok_pow pd_int pd_int)) pda_nil))) (pda_cons (pd_op op_repS2 ok_repS2 pd_str pd_int) (pda_cons (pd_tup (pda_cons (pd_op op_addA ok_add (pd_var (pv 3)) (pd_tup (pda_cons pd_int pda_nil))) (pda_cons pd_int pda_nil))) (pda_cons (pd_tup (pda_cons (pd_tup (pda_cons pd_int (pda_cons pd_int pda_nil))) (pda_cons pd_int pda_nil))) pda_nil))))))))))
    (ps_one' (ps_ret' (pd_ix (pd_var (pv 4)) (pd_call G.g__law_draw hG hr rfl T.m__law_draw T.F__law_draw.kp T.b__law_draw tk (pda_cons (pd_var (pv 0)) (pda_cons pd_int pda_nil))) (fun _ _ => rfl))))))))
theorem g_law (T : TxtC K mg) (G : AllG P w base T n) : FnG P w K mg base (n + 1) T.a_law T.d_law ["script"] (SpecOf ⟨K, T.cv⟩ (fnOf 1 10 (b_law (fns n)))) :=
  fn_den T.F_law sc_law fun cdv A outer s H E hG hr tk po =>
    (ps_cons' (ps_forC' po rfl (pd_op op_addA ok_add (pd_lst (pda_cons (pd_callB call_len ok_len (by rfl) T.n_len (by decide +kernel) (pda_cons (pd_var (pv 0)) pda_nil)) pda_nil)) (pd_sl (pd_var (pv 0)) pdo_none (pdo_some pd_int))) (pg_name (i := 1) sc_law.nd rfl (by first | exact Or.inl rfl | exact Or.inr rfl)) (tg_name _ 1)
    (ps_cons' (ps_set' (i := 2) sc_law.nd rfl (by first | exact Or.inl rfl | exact Or.inr rfl) (pd_call G.g__law_source hG hr rfl T.m__law_source T.F__law_source.kp T.b__law_source tk (pda_cons (pd_var (pv 1)) pda_nil)))
    (ps_cons' (ps_forC' po rfl (pd_lst (pda_cons (pd_call G.g__law_dot hG hr rfl T.m__law_dot T.F__law_dot.kp T.b__law_dot tk (pda_cons (pd_var (pv 2)) pda_nil)) (pda_cons (pd_call G.g__law_bad_dot hG hr rfl T.m__law_bad_dot T.F__law_bad_dot.kp T.b__law_bad_dot tk (pda_cons (pd_var (pv 2)) pda_nil)) (pda_cons (pd_call G.g__law_bad_dot hG hr rfl T.m__law_bad_dot T.F__law_bad_dot.kp T.b__law_bad_dot tk (pda_cons (pd_var (pv 2)) pda_nil)) (pda_cons (pd_call G.g__law_great_values hG hr rfl T.m__law_great_values T.F__law_great_values.kp T.b__law_great_values tk (pda_cons (pd_var (pv 2)) pda_nil)) pda_nil))))) (pg_name (i := 3) sc_law.nd rfl (by first | exact Or.inl rfl | exact Or.inr rfl)) (tg_name _ 3)
    (ps_one' (ps_if' (pdt_not (pdt_val (pd_call G.g__law_value_right hG hr rfl T.m__law_value_right T.F__law_value_right.kp T.b__law_value_right tk (pda_cons (pd_var (pv 3)) pda_nil)))) (ps_one' (ps_ret' pd_bl)) ps_nil')))
    (ps_cons' (ps_set' (i := 4) sc_law.nd rfl (by first | exact Or.inl rfl | exact Or.inr rfl) (pd_call G.g__law_counts hG hr rfl T.m__law_counts T.F__law_counts.kp T.b__law_counts tk (pda_cons (pd_var (pv 2)) (pda_cons pd_int pda_nil))))
    (ps_cons' (ps_forR' po rfl (by rfl) T.n_range (pda_cons pd_int pda_nil) (pg_name (i := 5) sc_law.nd rfl (by first | exact Or.inl rfl | exact Or.inr rfl)) (tg_name _ 5)
    (ps_cons' (ps_set' (i := 6) sc_law.nd rfl (by first | exact Or.inl rfl | exact Or.inr rfl) (pd_call G.g__law_dot hG hr rfl T.m__law_dot T.F__law_dot.kp T.b__law_dot tk (pda_cons (pd_var (pv 2)) pda_nil)))
    (ps_cons' (ps_set' (i := 7) sc_law.nd rfl (by first | exact Or.inl rfl | exact Or.inr rfl) (pd_call G.g__law_has hG hr rfl T.m__law_has T.F__law_has.kp T.b__law_has tk (pda_cons (pd_var (pv 4)) (pda_cons (pd_var (pv 6)) pda_nil))))
    (ps_one' (ps_if' (pdt_cmp (op_neD hr.units) ok_ne (pd_callB (call_reprD hG (u65 hr)) ok_repr (by rfl) T.n_repr (by decide +kernel) (pda_cons (pd_lst (pda_cons (pd_call G.g_has_dot hG hr rfl T.m_has_dot T.F_has_dot.kp T.b_has_dot tk (pda_cons (pd_var (pv 4)) (pda_cons (pd_var (pv 6)) pda_nil))) (pda_cons (pd_callK0 (is := [1, 0]) G.g_has_dot hG hr rfl T.m_has_dot T.F_has_dot.kp T.kb_has_dot_dot_counts tk (pdk_cons (pd_var (pv 6)) (pdk_cons (pd_var (pv 4)) pdk_nil))) pda_nil))) pda_nil)) (pd_callB (call_reprD hG (u65 hr)) ok_repr (by rfl) T.n_repr (by decide +kernel) (pda_cons (pd_lst (pda_cons (pd_var (pv 7)) (pda_cons (pd_var (pv 7)) pda_nil))) pda_nil)) (nomark _)) (ps_one' (ps_ret' pd_bl)) ps_nil')))))
    (ps_cons' (ps_par' (i := 8) (j := 9) rfl sc_law.nd rfl rfl (by decide) rfl rfl (pda_cons (pd_call G.g__law_bad_counts hG hr rfl T.m__law_bad_counts T.F__law_bad_counts.kp T.b__law_bad_counts tk (pda_cons (pd_var (pv 2)) pda_nil)) (pda_cons (pd_call G.g__law_bad_dot hG hr rfl T.m__law_bad_dot T.F__law_bad_dot.kp T.b__law_bad_dot tk (pda_cons (pd_var (pv 2)) pda_nil)) pda_nil)) (by rfl))
    (ps_one' (ps_if' (pdt_cmp (op_neD hr.units) ok_ne (pd_lst (pda_cons (pd_call G.g__law_told hG hr rfl T.m__law_told T.F__law_told.kp T.b__law_told tk (pda_cons (pd_var (pv 8)) (pda_cons (pd_var (pv 6)) pda_nil))) (pda_cons (pd_call G.g__law_told hG hr rfl T.m__law_told T.F__law_told.kp T.b__law_told tk (pda_cons (pd_var (pv 8)) (pda_cons (pd_var (pv 9)) pda_nil))) (pda_cons (pd_call G.g__law_told hG hr rfl T.m__law_told T.F__law_told.kp T.b__law_told tk (pda_cons (pd_var (pv 4)) (pda_cons (pd_var (pv 9)) pda_nil))) pda_nil)))) (pd_lst (pda_cons pd_str (pda_cons pd_str (pda_cons pd_str pda_nil)))) (nomark _)) (ps_one' (ps_ret' pd_bl)) ps_nil'))))))))
    (ps_one' (ps_ret' pd_bl)))
theorem all_g (T : TxtC K mg) : ∀ n, AllG P w base T n
  | 0 => ⟨fn_zero 0, fn_zero 0, fn_zero 0, fn_zero 0, fn_zero 0, fn_zero 0, fn_zero 0, fn_zero 0, fn_zero 0, fn_zero 0, fn_zero 0, fn_zero 0, fn_zero 0, fn_zero 0, fn_zero 0, fn_zero 0, fn_zero 0, fn_zero 0, fn_zero 0, fn_zero 0, fn_zero 0, fn_zero 0, fn_zero 0, fn_zero 0, fn_zero 0, fn_zero 0, fn_zero 0, fn_zero 0, fn_zero 0, fn_zero 0, fn_zero 0, fn_zero 0, fn_zero 0⟩
  | n + 1 => have G := all_g T n; ⟨g_tuple_count T G, g_is_path T G, g_check_path T G, g_least T G, g_greatest T G, g_lifted T G, g_halves T G, g_is_counts T G, g__is_counts_tree T G, g_check_counts T G, g_worth_at T G, g_is_dot T G, g__check_dot T G, g__has T G, g_has_dot T G, g__law_source T G, g__law_draw T G, g__law_number T G, g__law_numbers T G, g__law_low T G, g__law_put T G, g__law_counts T G, g__law_part T G, g__law_is_dot T G, g__law_dot T G, g__law_bad_dot T G, g__law_has T G, g__law_great_counts T G, g__law_bad_counts T G, g__law_value_right T G, g__law_told T G, g__law_great_values T G, g_law T G⟩
end
end PD.K34

/-! ## K34M1 -/
set_option Elab.async false
set_option linter.all false
set_option maxRecDepth 100000
set_option maxHeartbeats 4000000
namespace PD.K34
open PySem PySem.Spec L2 PD LT
theorem sub1 {k : Nat} : ((k + 1 : Nat) : Int) - 1 = (k : Int) := by omega
inductive Tr : Nat → Nat → Val → Prop
  | int (d w : Nat) (i : Int) : Tr d w (.int i)
  | tup {d w : Nat} {xs : List Val} : xs.length ≤ w → (∀ x ∈ xs, Tr d w x) → Tr (d + 1) w (.tup xs)
mutual
def tcount : Val → Int
  | .tup xs => 1 + tcounts xs
  | _ => 0
def tcounts : List Val → Int
  | [] => 0
  | x :: xs => tcount x + tcounts xs
end
theorem tcounts_sum : ∀ xs : List Val, tcounts xs = (xs.map tcount).sum
  | [] => rfl
  | x :: xs => by rw [tcounts, tcounts_sum xs]; rfl
theorem allSome_ints (xs : List Val) : allSome ((xs.map fun x => Val.int (tcount x)).map asI) = some (xs.map tcount) := by
  induction xs with
  | nil => rfl
  | cons x xs ih =>
    rw [List.map_cons, List.map_cons, List.map_cons]
    unfold allSome
    rw [ih]; rfl
theorem p_tuple_count : ∀ (d n : Nat) (v : Val) (S : Store), Tr d 1000 v → d < n → Run ((fns n).tuple_count [v] S) (PureQ S (.int (tcount v)))
  | d, 0, v, S, _, h => absurd h (Nat.not_lt_zero _)
  | d, n + 1, v, S, ht, h => by
    show Run (fnOf 1 2 (b_tuple_count (fns n)) [v] S) _
    unfold b_tuple_count
    cases ht with
    | int _ _ i =>
      simp only [run_ok, run_okI, run_okB, run_alloc, run_stuck, run_bind, run_ite, run_noX, run_fnOf, w_c, w_op, w_un, w_call, w_callK, w_nil, w_cons, w_tup, w_lst, isB_bl, w_tval, w_tand, w_tor, w_tnot, w_and, w_or, w_not, w_if, s_next, s_seq, s_if, s_ret, s_drop, s_set, s_par, s_put, s_asg, w_var', runS_next, runS_ret, runS_stuck, runS_ite, List.length_cons, List.length_nil, List.length_singleton, List.map_cons, List.map_nil, List.cons_append, List.nil_append, List.replicate_succ, List.replicate_zero, List.getElem?_cons_zero, List.getElem?_cons_succ, List.set_cons_zero, List.set_cons_succ, Nat.reduceAdd, Nat.reduceSub, Nat.reduceEqDiff, ite_true, ite_false, if_true, if_false, reduceIte, Bool.false_eq_true, decide_true, decide_false, String.reduceEq, Int.reduceEq, Nat.reduceLeDiff, true_and, and_true, Bool.not_true, Bool.not_false, decide_eq_true_eq, List.append_nil, bType, bIsi, bLen, bInt, ty_int, ty_bl, ty_str, ty_non, ty_tup, isT, oIs, oIsNot, oSub, oAdd, oIx, run_eqI, run_neI, Bool.or_false, Bool.or_true, Bool.false_or, Bool.true_or, Bool.and_true, Bool.and_false, Bool.true_and, Bool.false_and, reduceCtorEq, decide_not, Bool.not_eq_true', decide_eq_false_iff_not, askInt, askBool, askTuple, askList, askStr, oLe, oLt, oGe, oGt, oInt2, atI0, atI1, atI2]
      exact ⟨rfl, .refl S⟩
    | @tup d _ xs hl hx =>
      simp only [dLCT, run_ok, run_okI, run_okB, run_alloc, run_stuck, run_bind, run_ite, run_noX, run_fnOf, w_c, w_op, w_un, w_call, w_callK, w_nil, w_cons, w_tup, w_lst, isB_bl, w_tval, w_tand, w_tor, w_tnot, w_and, w_or, w_not, w_if, s_next, s_seq, s_if, s_ret, s_drop, s_set, s_par, s_put, s_asg, w_var', runS_next, runS_ret, runS_stuck, runS_ite, List.length_cons, List.length_nil, List.length_singleton, List.map_cons, List.map_nil, List.cons_append, List.nil_append, List.replicate_succ, List.replicate_zero, List.getElem?_cons_zero, List.getElem?_cons_succ, List.set_cons_zero, List.set_cons_succ, Nat.reduceAdd, Nat.reduceSub, Nat.reduceEqDiff, ite_true, ite_false, if_true, if_false, reduceIte, Bool.false_eq_true, decide_true, decide_false, String.reduceEq, Int.reduceEq, Nat.reduceLeDiff, true_and, and_true, Bool.not_true, Bool.not_false, decide_eq_true_eq, List.append_nil, bType, bIsi, bLen, bInt, ty_int, ty_bl, ty_str, ty_non, ty_tup, isT, oIs, oIsNot, oSub, oAdd, oIx, run_eqI, run_neI, Bool.or_false, Bool.or_true, Bool.false_or, Bool.true_or, Bool.and_true, Bool.and_false, Bool.true_and, Bool.false_and, reduceCtorEq, decide_not, Bool.not_eq_true', decide_eq_false_iff_not, askInt, askBool, askTuple, askList, askStr, oLe, oLt, oGe, oGt, oInt2, atI0, atI1, atI2]
      refine Run.mono (comp_pure0 (g := fun x => .int (tcount x)) xs S (by omega) fun x hxm S' _ => ?_) fun ys S1 ⟨e1, g1⟩ => ?_
      · simp only [wipeE, run_ok, run_okI, run_okB, run_alloc, run_stuck, run_bind, run_ite, run_noX, run_fnOf, w_c, w_op, w_un, w_call, w_callK, w_nil, w_cons, w_tup, w_lst, isB_bl, w_tval, w_tand, w_tor, w_tnot, w_and, w_or, w_not, w_if, s_next, s_seq, s_if, s_ret, s_drop, s_set, s_par, s_put, s_asg, w_var', runS_next, runS_ret, runS_stuck, runS_ite, List.length_cons, List.length_nil, List.length_singleton, List.map_cons, List.map_nil, List.cons_append, List.nil_append, List.replicate_succ, List.replicate_zero, List.getElem?_cons_zero, List.getElem?_cons_succ, List.set_cons_zero, List.set_cons_succ, Nat.reduceAdd, Nat.reduceSub, Nat.reduceEqDiff, ite_true, ite_false, if_true, if_false, reduceIte, Bool.false_eq_true, decide_true, decide_false, String.reduceEq, Int.reduceEq, Nat.reduceLeDiff, true_and, and_true, Bool.not_true, Bool.not_false, decide_eq_true_eq, List.append_nil, bType, bIsi, bLen, bInt, ty_int, ty_bl, ty_str, ty_non, ty_tup, isT, oIs, oIsNot, oSub, oAdd, oIx, run_eqI, run_neI, Bool.or_false, Bool.or_true, Bool.false_or, Bool.true_or, Bool.and_true, Bool.and_false, Bool.true_and, Bool.false_and, reduceCtorEq, decide_not, Bool.not_eq_true', decide_eq_false_iff_not, askInt, askBool, askTuple, askList, askStr, oLe, oLt, oGe, oGt, oInt2, atI0, atI1, atI2]
        exact p_tuple_count d n x S' (hx x hxm) (by omega)
      · subst e1
        simp only [run_alloc, bSum, get_new, Cell.items, allSome_ints, run_okI, oAdd]
        refine ⟨?_, g1.trans (Gr.add _ _)⟩
        rw [tcount, tcounts_sum]
theorem tr_toV : ∀ {t : T} {d : Nat}, t.dep ≤ d → Tr d 1000 (toV t)
  | .leaf i, d, _ => .int _ _ _
  | .node n l r, d, h => by
    have h : 1 + max l.dep r.dep ≤ d := h
    obtain ⟨d, rfl⟩ : ∃ e, d = e + 1 := ⟨d - 1, by omega⟩
    exact .tup (show 3 ≤ 1000 by decide) (mem3 (.int _ _ _) (tr_toV (by omega)) (tr_toV (by omega)))
theorem tcount_toV : ∀ t : T, tcount (toV t) = t.tc
  | .leaf i => rfl
  | .node n l r => by
    show tcount (.tup [.int n, toV l, toV r]) = ((1 + (l.tc + r.tc) : Nat) : Int)
    simp only [tcount, tcounts, tcount_toV l, tcount_toV r]
    omega
theorem ty_toV {t : T} {S : Store} : tyN (toV t) S = some (if t.isLeaf = true then "int" else "tuple") := by cases t <;> rfl
/-- two numbers that are the same -/
def sameI (a b : Val) : Bool := match a, b with
  | .int i, .int j => decide (i = j)
  | _, _ => false
def leastV : Val → Int
  | .int i => i
  | .tup (.int n :: _) => n
  | _ => 0
def intV : Val → Bool
  | .int _ => true
  | _ => false
/-- counts, nested at most so deep -/
def isCo : Nat → Val → Bool
  | _, .int i => decide (0 ≤ i)
  | d + 1, .tup [.int n, l, r] => decide (0 ≤ n) && (isCo d l && (isCo d r && (!sameI l r && (decide (leastV l = 0) || decide (leastV r = 0)))))
  | _, _ => false
theorem isCo_len {k : Nat} {xs : List Val} (h : xs.length ≠ 3) : isCo k (.tup xs) = false := by
  cases k with
  | zero => simp [isCo]
  | succ k =>
    match xs, h with
    | [], _ => simp [isCo]
    | [_], _ => simp [isCo]
    | [_, _], _ => simp [isCo]
    | [_, _, _], h => exact absurd rfl h
    | _ :: _ :: _ :: _ :: _, _ => simp [isCo]
theorem isCo_first {k : Nat} {a b c : Val} (h : intV a = false) : isCo k (.tup [a, b, c]) = false := by
  cases k with
  | zero => simp [isCo]
  | succ k =>
    cases a with
    | int i => cases h
    | _ => simp [isCo]
theorem isCo_three {k : Nat} {n : Int} {l r : Val} : isCo (k + 1) (.tup [.int n, l, r]) = (decide (0 ≤ n) && (isCo k l && (isCo k r && (!sameI l r && (decide (leastV l = 0) || decide (leastV r = 0)))))) := rfl
theorem isCo_none {k : Nat} {v : Val} (h : isCo k v = true) : (∃ i, v = .int i ∧ 0 ≤ i) ∨ ∃ k' n l r, k = k' + 1 ∧ v = .tup [.int n, l, r] := by
  cases v with
  | int i => exact .inl ⟨i, rfl, of_decide_eq_true (by cases k <;> exact h)⟩
  | tup xs =>
    by_cases hl : xs.length = 3
    · obtain ⟨a, b, c, rfl⟩ := three_of hl
      cases ha : intV a with
      | false => rw [isCo_first ha] at h; cases h
      | true =>
        cases k with
        | zero => simp [isCo] at h
        | succ k =>
          cases a with
          | int i => exact .inr ⟨k, i, b, c, rfl, rfl⟩
          | _ => cases ha
    · rw [isCo_len hl] at h; cases h
  | _ => cases k <;> cases h
theorem p_least {n : Nat} {v : Val} {S : Store} {k : Nat} (h : isCo k v = true) (hn : 0 < n) : Run ((fns n).least [v] S) (fun r S' => r = .int (leastV v) ∧ S' = S) := by
  obtain ⟨n, rfl⟩ : ∃ m, n = m + 1 := ⟨n - 1, by omega⟩
  show Run (fnOf 1 1 (b_least (fns n)) [v] S) _
  unfold b_least
  rcases isCo_none h with ⟨i, rfl, _⟩ | ⟨k', m, l, r, rfl, rfl⟩
  · simp only [run_ok, run_okI, run_okB, run_alloc, run_stuck, run_bind, run_ite, run_noX, run_fnOf, w_c, w_op, w_un, w_call, w_callK, w_nil, w_cons, w_tup, w_lst, isB_bl, w_tval, w_tand, w_tor, w_tnot, w_and, w_or, w_not, w_if, s_next, s_seq, s_if, s_ret, s_drop, s_set, s_par, s_put, s_asg, w_var', runS_next, runS_ret, runS_stuck, runS_ite, List.length_cons, List.length_nil, List.length_singleton, List.map_cons, List.map_nil, List.cons_append, List.nil_append, List.replicate_succ, List.replicate_zero, List.getElem?_cons_zero, List.getElem?_cons_succ, List.set_cons_zero, List.set_cons_succ, Nat.reduceAdd, Nat.reduceSub, Nat.reduceEqDiff, ite_true, ite_false, if_true, if_false, reduceIte, Bool.false_eq_true, decide_true, decide_false, String.reduceEq, Int.reduceEq, Nat.reduceLeDiff, true_and, and_true, Bool.not_true, Bool.not_false, decide_eq_true_eq, List.append_nil, bType, bIsi, bLen, bInt, ty_int, ty_bl, ty_str, ty_non, ty_tup, isT, oIs, oIsNot, oSub, oAdd, oIx, run_eqI, run_neI, Bool.or_false, Bool.or_true, Bool.false_or, Bool.true_or, Bool.and_true, Bool.and_false, Bool.true_and, Bool.false_and, reduceCtorEq, decide_not, Bool.not_eq_true', decide_eq_false_iff_not, askInt, askBool, askTuple, askList, askStr, oLe, oLt, oGe, oGt, oInt2, atI0, atI1, atI2]; rfl
  · simp only [run_ok, run_okI, run_okB, run_alloc, run_stuck, run_bind, run_ite, run_noX, run_fnOf, w_c, w_op, w_un, w_call, w_callK, w_nil, w_cons, w_tup, w_lst, isB_bl, w_tval, w_tand, w_tor, w_tnot, w_and, w_or, w_not, w_if, s_next, s_seq, s_if, s_ret, s_drop, s_set, s_par, s_put, s_asg, w_var', runS_next, runS_ret, runS_stuck, runS_ite, List.length_cons, List.length_nil, List.length_singleton, List.map_cons, List.map_nil, List.cons_append, List.nil_append, List.replicate_succ, List.replicate_zero, List.getElem?_cons_zero, List.getElem?_cons_succ, List.set_cons_zero, List.set_cons_succ, Nat.reduceAdd, Nat.reduceSub, Nat.reduceEqDiff, ite_true, ite_false, if_true, if_false, reduceIte, Bool.false_eq_true, decide_true, decide_false, String.reduceEq, Int.reduceEq, Nat.reduceLeDiff, true_and, and_true, Bool.not_true, Bool.not_false, decide_eq_true_eq, List.append_nil, bType, bIsi, bLen, bInt, ty_int, ty_bl, ty_str, ty_non, ty_tup, isT, oIs, oIsNot, oSub, oAdd, oIx, run_eqI, run_neI, Bool.or_false, Bool.or_true, Bool.false_or, Bool.true_or, Bool.and_true, Bool.and_false, Bool.true_and, Bool.false_and, reduceCtorEq, decide_not, Bool.not_eq_true', decide_eq_false_iff_not, askInt, askBool, askTuple, askList, askStr, oLe, oLt, oGe, oGt, oInt2, atI0, atI1, atI2]; rfl
theorem leastV_nn {k : Nat} {v : Val} (h : isCo k v = true) : 0 ≤ leastV v := by
  rcases isCo_none h with ⟨i, rfl, hi⟩ | ⟨k', m, l, r, rfl, rfl⟩
  · exact hi
  · rw [isCo_three] at h
    simp only [Bool.and_eq_true] at h
    exact of_decide_eq_true h.1
theorem gT3 {i j k : Nat} {a b c : Val} {ρ : PD.Env} : gT [gN i, gN j, gN k] (.tup [a, b, c]) ρ = some (((ρ.set i (some a)).set j (some b)).set k (some c)) := rfl
theorem co_eq {S : Store} {d e f : Nat} {a b : Val} (h1 : isCo d a = true) (h2 : isCo d b = true) (ha : Da S e a) (hb : Da S f b) (he : e < 65) (hf : f < 65) (hi : intV a = true) : PyData.eqv (dat S a) (dat S b) = sameI a b := by
  cases a with
  | int i =>
    rw [dat_int]
    cases hb with
    | int _ j => show (i == j) = decide (i = j); rw [Bool.beq_eq_decide_eq]
    | tup hy => rw [dat_tup hy (by omega)]; rfl
    | _ => cases d <;> cases h2
  | _ => cases hi
theorem p_is_counts_tree : ∀ (e n k : Nat) (v : Val) (S : Store), Da S e v → e < 60 → e < n → Run ((fns n)._is_counts_tree [v, .int k] S) (fun r S' => r = .bl (isCo k v) ∧ S' = S)
  | e, 0, k, v, S, _, _, h => absurd h (Nat.not_lt_zero _)
  | e, n + 1, k, v, S, hv, h60, h => by
    show Run (fnOf 2 5 (b__is_counts_tree (fns n)) [v, .int k] S) _
    unfold b__is_counts_tree
    cases hv with
    | int _ i =>
      simp only [run_ok, run_okI, run_okB, run_alloc, run_stuck, run_bind, run_ite, run_noX, run_fnOf, w_c, w_op, w_un, w_call, w_callK, w_nil, w_cons, w_tup, w_lst, isB_bl, w_tval, w_tand, w_tor, w_tnot, w_and, w_or, w_not, w_if, s_next, s_seq, s_if, s_ret, s_drop, s_set, s_par, s_put, s_asg, w_var', runS_next, runS_ret, runS_stuck, runS_ite, List.length_cons, List.length_nil, List.length_singleton, List.map_cons, List.map_nil, List.cons_append, List.nil_append, List.replicate_succ, List.replicate_zero, List.getElem?_cons_zero, List.getElem?_cons_succ, List.set_cons_zero, List.set_cons_succ, Nat.reduceAdd, Nat.reduceSub, Nat.reduceEqDiff, ite_true, ite_false, if_true, if_false, reduceIte, Bool.false_eq_true, decide_true, decide_false, String.reduceEq, Int.reduceEq, Nat.reduceLeDiff, true_and, and_true, Bool.not_true, Bool.not_false, decide_eq_true_eq, List.append_nil, bType, bIsi, bLen, bInt, ty_int, ty_bl, ty_str, ty_non, ty_tup, isT, oIs, oIsNot, oSub, oAdd, oIx, run_eqI, run_neI, Bool.or_false, Bool.or_true, Bool.false_or, Bool.true_or, Bool.and_true, Bool.and_false, Bool.true_and, Bool.false_and, reduceCtorEq, decide_not, Bool.not_eq_true', decide_eq_false_iff_not, askInt, askBool, askTuple, askList, askStr, oLe, oLt, oGe, oGt, oInt2, atI0, atI1, atI2]
      cases k <;> simp [isCo]
    | non => simp only [run_ok, run_okI, run_okB, run_alloc, run_stuck, run_bind, run_ite, run_noX, run_fnOf, w_c, w_op, w_un, w_call, w_callK, w_nil, w_cons, w_tup, w_lst, isB_bl, w_tval, w_tand, w_tor, w_tnot, w_and, w_or, w_not, w_if, s_next, s_seq, s_if, s_ret, s_drop, s_set, s_par, s_put, s_asg, w_var', runS_next, runS_ret, runS_stuck, runS_ite, List.length_cons, List.length_nil, List.length_singleton, List.map_cons, List.map_nil, List.cons_append, List.nil_append, List.replicate_succ, List.replicate_zero, List.getElem?_cons_zero, List.getElem?_cons_succ, List.set_cons_zero, List.set_cons_succ, Nat.reduceAdd, Nat.reduceSub, Nat.reduceEqDiff, ite_true, ite_false, if_true, if_false, reduceIte, Bool.false_eq_true, decide_true, decide_false, String.reduceEq, Int.reduceEq, Nat.reduceLeDiff, true_and, and_true, Bool.not_true, Bool.not_false, decide_eq_true_eq, List.append_nil, bType, bIsi, bLen, bInt, ty_int, ty_bl, ty_str, ty_non, ty_tup, isT, oIs, oIsNot, oSub, oAdd, oIx, run_eqI, run_neI, Bool.or_false, Bool.or_true, Bool.false_or, Bool.true_or, Bool.and_true, Bool.and_false, Bool.true_and, Bool.false_and, reduceCtorEq, decide_not, Bool.not_eq_true', decide_eq_false_iff_not, askInt, askBool, askTuple, askList, askStr, oLe, oLt, oGe, oGt, oInt2, atI0, atI1, atI2]; cases k <;> simp [isCo]
    | bl => simp only [run_ok, run_okI, run_okB, run_alloc, run_stuck, run_bind, run_ite, run_noX, run_fnOf, w_c, w_op, w_un, w_call, w_callK, w_nil, w_cons, w_tup, w_lst, isB_bl, w_tval, w_tand, w_tor, w_tnot, w_and, w_or, w_not, w_if, s_next, s_seq, s_if, s_ret, s_drop, s_set, s_par, s_put, s_asg, w_var', runS_next, runS_ret, runS_stuck, runS_ite, List.length_cons, List.length_nil, List.length_singleton, List.map_cons, List.map_nil, List.cons_append, List.nil_append, List.replicate_succ, List.replicate_zero, List.getElem?_cons_zero, List.getElem?_cons_succ, List.set_cons_zero, List.set_cons_succ, Nat.reduceAdd, Nat.reduceSub, Nat.reduceEqDiff, ite_true, ite_false, if_true, if_false, reduceIte, Bool.false_eq_true, decide_true, decide_false, String.reduceEq, Int.reduceEq, Nat.reduceLeDiff, true_and, and_true, Bool.not_true, Bool.not_false, decide_eq_true_eq, List.append_nil, bType, bIsi, bLen, bInt, ty_int, ty_bl, ty_str, ty_non, ty_tup, isT, oIs, oIsNot, oSub, oAdd, oIx, run_eqI, run_neI, Bool.or_false, Bool.or_true, Bool.false_or, Bool.true_or, Bool.and_true, Bool.and_false, Bool.true_and, Bool.false_and, reduceCtorEq, decide_not, Bool.not_eq_true', decide_eq_false_iff_not, askInt, askBool, askTuple, askList, askStr, oLe, oLt, oGe, oGt, oInt2, atI0, atI1, atI2]; cases k <;> simp [isCo]
    | str => simp only [run_ok, run_okI, run_okB, run_alloc, run_stuck, run_bind, run_ite, run_noX, run_fnOf, w_c, w_op, w_un, w_call, w_callK, w_nil, w_cons, w_tup, w_lst, isB_bl, w_tval, w_tand, w_tor, w_tnot, w_and, w_or, w_not, w_if, s_next, s_seq, s_if, s_ret, s_drop, s_set, s_par, s_put, s_asg, w_var', runS_next, runS_ret, runS_stuck, runS_ite, List.length_cons, List.length_nil, List.length_singleton, List.map_cons, List.map_nil, List.cons_append, List.nil_append, List.replicate_succ, List.replicate_zero, List.getElem?_cons_zero, List.getElem?_cons_succ, List.set_cons_zero, List.set_cons_succ, Nat.reduceAdd, Nat.reduceSub, Nat.reduceEqDiff, ite_true, ite_false, if_true, if_false, reduceIte, Bool.false_eq_true, decide_true, decide_false, String.reduceEq, Int.reduceEq, Nat.reduceLeDiff, true_and, and_true, Bool.not_true, Bool.not_false, decide_eq_true_eq, List.append_nil, bType, bIsi, bLen, bInt, ty_int, ty_bl, ty_str, ty_non, ty_tup, isT, oIs, oIsNot, oSub, oAdd, oIx, run_eqI, run_neI, Bool.or_false, Bool.or_true, Bool.false_or, Bool.true_or, Bool.and_true, Bool.and_false, Bool.true_and, Bool.false_and, reduceCtorEq, decide_not, Bool.not_eq_true', decide_eq_false_iff_not, askInt, askBool, askTuple, askList, askStr, oLe, oLt, oGe, oGt, oInt2, atI0, atI1, atI2]; cases k <;> simp [isCo]
    | @ref _ m ys hn _ =>
      simp only [ty_ref hn, run_ok, run_okI, run_okB, run_alloc, run_stuck, run_bind, run_ite, run_noX, run_fnOf, w_c, w_op, w_un, w_call, w_callK, w_nil, w_cons, w_tup, w_lst, isB_bl, w_tval, w_tand, w_tor, w_tnot, w_and, w_or, w_not, w_if, s_next, s_seq, s_if, s_ret, s_drop, s_set, s_par, s_put, s_asg, w_var', runS_next, runS_ret, runS_stuck, runS_ite, List.length_cons, List.length_nil, List.length_singleton, List.map_cons, List.map_nil, List.cons_append, List.nil_append, List.replicate_succ, List.replicate_zero, List.getElem?_cons_zero, List.getElem?_cons_succ, List.set_cons_zero, List.set_cons_succ, Nat.reduceAdd, Nat.reduceSub, Nat.reduceEqDiff, ite_true, ite_false, if_true, if_false, reduceIte, Bool.false_eq_true, decide_true, decide_false, String.reduceEq, Int.reduceEq, Nat.reduceLeDiff, true_and, and_true, Bool.not_true, Bool.not_false, decide_eq_true_eq, List.append_nil, bType, bIsi, bLen, bInt, ty_int, ty_bl, ty_str, ty_non, ty_tup, isT, oIs, oIsNot, oSub, oAdd, oIx, run_eqI, run_neI, Bool.or_false, Bool.or_true, Bool.false_or, Bool.true_or, Bool.and_true, Bool.and_false, Bool.true_and, Bool.false_and, reduceCtorEq, decide_not, Bool.not_eq_true', decide_eq_false_iff_not, askInt, askBool, askTuple, askList, askStr, oLe, oLt, oGe, oGt, oInt2, atI0, atI1, atI2]
      cases k <;> simp [isCo]
    | @tup e' xs hx =>
      simp only [run_ok, run_okI, run_okB, run_alloc, run_stuck, run_bind, run_ite, run_noX, run_fnOf, w_c, w_op, w_un, w_call, w_callK, w_nil, w_cons, w_tup, w_lst, isB_bl, w_tval, w_tand, w_tor, w_tnot, w_and, w_or, w_not, w_if, s_next, s_seq, s_if, s_ret, s_drop, s_set, s_par, s_put, s_asg, w_var', runS_next, runS_ret, runS_stuck, runS_ite, List.length_cons, List.length_nil, List.length_singleton, List.map_cons, List.map_nil, List.cons_append, List.nil_append, List.replicate_succ, List.replicate_zero, List.getElem?_cons_zero, List.getElem?_cons_succ, List.set_cons_zero, List.set_cons_succ, Nat.reduceAdd, Nat.reduceSub, Nat.reduceEqDiff, ite_true, ite_false, if_true, if_false, reduceIte, Bool.false_eq_true, decide_true, decide_false, String.reduceEq, Int.reduceEq, Nat.reduceLeDiff, true_and, and_true, Bool.not_true, Bool.not_false, decide_eq_true_eq, List.append_nil, bType, bIsi, bLen, bInt, ty_int, ty_bl, ty_str, ty_non, ty_tup, isT, oIs, oIsNot, oSub, oAdd, oIx, run_eqI, run_neI, Bool.or_false, Bool.or_true, Bool.false_or, Bool.true_or, Bool.and_true, Bool.and_false, Bool.true_and, Bool.false_and, reduceCtorEq, decide_not, Bool.not_eq_true', decide_eq_false_iff_not, askInt, askBool, askTuple, askList, askStr, oLe, oLt, oGe, oGt, oInt2, atI0, atI1, atI2]
      by_cases hl : xs.length = 3
      · obtain ⟨a, b, c, rfl⟩ := three_of hl
        have ha := hx a (by simp)
        have hb := hx b (by simp)
        have hc := hx c (by simp)
        rw [if_neg (by simp)]
        by_cases hk : k = 0
        · subst hk
          rw [if_pos (by rfl)]
          simp [isCo]
        · rw [if_neg (by omega)]
          obtain ⟨k, rfl⟩ : ∃ j, k = j + 1 := ⟨k - 1, by omega⟩
          have ek : ((k + 1 : Nat) : Int) - 1 = (k : Int) := by omega
          simp only [gT3, ek, run_ok, run_okI, run_okB, run_alloc, run_stuck, run_bind, run_ite, run_noX, run_fnOf, w_c, w_op, w_un, w_call, w_callK, w_nil, w_cons, w_tup, w_lst, isB_bl, w_tval, w_tand, w_tor, w_tnot, w_and, w_or, w_not, w_if, s_next, s_seq, s_if, s_ret, s_drop, s_set, s_par, s_put, s_asg, w_var', runS_next, runS_ret, runS_stuck, runS_ite, List.length_cons, List.length_nil, List.length_singleton, List.map_cons, List.map_nil, List.cons_append, List.nil_append, List.replicate_succ, List.replicate_zero, List.getElem?_cons_zero, List.getElem?_cons_succ, List.set_cons_zero, List.set_cons_succ, Nat.reduceAdd, Nat.reduceSub, Nat.reduceEqDiff, ite_true, ite_false, if_true, if_false, reduceIte, Bool.false_eq_true, decide_true, decide_false, String.reduceEq, Int.reduceEq, Nat.reduceLeDiff, true_and, and_true, Bool.not_true, Bool.not_false, decide_eq_true_eq, List.append_nil, bType, bIsi, bLen, bInt, ty_int, ty_bl, ty_str, ty_non, ty_tup, isT, oIs, oIsNot, oSub, oAdd, oIx, run_eqI, run_neI, Bool.or_false, Bool.or_true, Bool.false_or, Bool.true_or, Bool.and_true, Bool.and_false, Bool.true_and, Bool.false_and, reduceCtorEq, decide_not, Bool.not_eq_true', decide_eq_false_iff_not, askInt, askBool, askTuple, askList, askStr, oLe, oLt, oGe, oGt, oInt2, atI0, atI1, atI2]
          cases ha with
          | int _ m =>
            simp only [run_ok, run_okI, run_okB, run_alloc, run_stuck, run_bind, run_ite, run_noX, run_fnOf, w_c, w_op, w_un, w_call, w_callK, w_nil, w_cons, w_tup, w_lst, isB_bl, w_tval, w_tand, w_tor, w_tnot, w_and, w_or, w_not, w_if, s_next, s_seq, s_if, s_ret, s_drop, s_set, s_par, s_put, s_asg, w_var', runS_next, runS_ret, runS_stuck, runS_ite, List.length_cons, List.length_nil, List.length_singleton, List.map_cons, List.map_nil, List.cons_append, List.nil_append, List.replicate_succ, List.replicate_zero, List.getElem?_cons_zero, List.getElem?_cons_succ, List.set_cons_zero, List.set_cons_succ, Nat.reduceAdd, Nat.reduceSub, Nat.reduceEqDiff, ite_true, ite_false, if_true, if_false, reduceIte, Bool.false_eq_true, decide_true, decide_false, String.reduceEq, Int.reduceEq, Nat.reduceLeDiff, true_and, and_true, Bool.not_true, Bool.not_false, decide_eq_true_eq, List.append_nil, bType, bIsi, bLen, bInt, ty_int, ty_bl, ty_str, ty_non, ty_tup, isT, oIs, oIsNot, oSub, oAdd, oIx, run_eqI, run_neI, Bool.or_false, Bool.or_true, Bool.false_or, Bool.true_or, Bool.and_true, Bool.and_false, Bool.true_and, Bool.false_and, reduceCtorEq, decide_not, Bool.not_eq_true', decide_eq_false_iff_not, askInt, askBool, askTuple, askList, askStr, oLe, oLt, oGe, oGt, oInt2, atI0, atI1, atI2]
            rw [isCo_three]
            by_cases hm : m < 0
            · rw [if_pos hm, decide_eq_false (by omega)]; simp
            · rw [if_neg hm, decide_eq_true (by omega)]
              refine Run.mono (p_is_counts_tree e' n k b S hb (by omega) (by omega)) fun r S1 ⟨er, eS⟩ => ?_
              subst er eS
              rw [isB_bl]
              cases hcb : isCo k b with
              | false => simp
              | true =>
                simp only [run_ok, run_okI, run_okB, run_alloc, run_stuck, run_bind, run_ite, run_noX, run_fnOf, w_c, w_op, w_un, w_call, w_callK, w_nil, w_cons, w_tup, w_lst, isB_bl, w_tval, w_tand, w_tor, w_tnot, w_and, w_or, w_not, w_if, s_next, s_seq, s_if, s_ret, s_drop, s_set, s_par, s_put, s_asg, w_var', runS_next, runS_ret, runS_stuck, runS_ite, List.length_cons, List.length_nil, List.length_singleton, List.map_cons, List.map_nil, List.cons_append, List.nil_append, List.replicate_succ, List.replicate_zero, List.getElem?_cons_zero, List.getElem?_cons_succ, List.set_cons_zero, List.set_cons_succ, Nat.reduceAdd, Nat.reduceSub, Nat.reduceEqDiff, ite_true, ite_false, if_true, if_false, reduceIte, Bool.false_eq_true, decide_true, decide_false, String.reduceEq, Int.reduceEq, Nat.reduceLeDiff, true_and, and_true, Bool.not_true, Bool.not_false, decide_eq_true_eq, List.append_nil, bType, bIsi, bLen, bInt, ty_int, ty_bl, ty_str, ty_non, ty_tup, isT, oIs, oIsNot, oSub, oAdd, oIx, run_eqI, run_neI, Bool.or_false, Bool.or_true, Bool.false_or, Bool.true_or, Bool.and_true, Bool.and_false, Bool.true_and, Bool.false_and, reduceCtorEq, decide_not, Bool.not_eq_true', decide_eq_false_iff_not, askInt, askBool, askTuple, askList, askStr, oLe, oLt, oGe, oGt, oInt2, atI0, atI1, atI2]
                refine Run.mono (p_is_counts_tree e' n k c S1 hc (by omega) (by omega)) fun r S2 ⟨er, eS⟩ => ?_
                subst er eS
                rw [isB_bl]
                cases hcc : isCo k c with
                | false => simp
                | true =>
                  simp only [run_ok, run_okI, run_okB, run_alloc, run_stuck, run_bind, run_ite, run_noX, run_fnOf, w_c, w_op, w_un, w_call, w_callK, w_nil, w_cons, w_tup, w_lst, isB_bl, w_tval, w_tand, w_tor, w_tnot, w_and, w_or, w_not, w_if, s_next, s_seq, s_if, s_ret, s_drop, s_set, s_par, s_put, s_asg, w_var', runS_next, runS_ret, runS_stuck, runS_ite, List.length_cons, List.length_nil, List.length_singleton, List.map_cons, List.map_nil, List.cons_append, List.nil_append, List.replicate_succ, List.replicate_zero, List.getElem?_cons_zero, List.getElem?_cons_succ, List.set_cons_zero, List.set_cons_succ, Nat.reduceAdd, Nat.reduceSub, Nat.reduceEqDiff, ite_true, ite_false, if_true, if_false, reduceIte, Bool.false_eq_true, decide_true, decide_false, String.reduceEq, Int.reduceEq, Nat.reduceLeDiff, true_and, and_true, Bool.not_true, Bool.not_false, decide_eq_true_eq, List.append_nil, bType, bIsi, bLen, bInt, ty_int, ty_bl, ty_str, ty_non, ty_tup, isT, oIs, oIsNot, oSub, oAdd, oIx, run_eqI, run_neI, Bool.or_false, Bool.or_true, Bool.false_or, Bool.true_or, Bool.and_true, Bool.and_false, Bool.true_and, Bool.false_and, reduceCtorEq, decide_not, Bool.not_eq_true', decide_eq_false_iff_not, askInt, askBool, askTuple, askList, askStr, oLe, oLt, oGe, oGt, oInt2, atI0, atI1, atI2]
                  have rest : Run ((fns n).least [b] S2) (fun x S1 => Run (oEq x (.int 0) S1) (IsB fun b_5 S1 => if b_5 = true then Val.bl true = Val.bl (decide (leastV b = 0) || decide (leastV c = 0)) ∧ S1 = S2
                      else Run ((fns n).least [c] S1) fun x S1 => Run (oEq x (.int 0) S1) fun r S' => r = Val.bl (decide (leastV b = 0) || decide (leastV c = 0)) ∧ S' = S2)) := by
                    refine Run.mono (p_least hcb (by omega)) fun r S3 ⟨er, eS⟩ => ?_
                    subst er eS
                    simp only [run_ok, run_okI, run_okB, run_alloc, run_stuck, run_bind, run_ite, run_noX, run_fnOf, w_c, w_op, w_un, w_call, w_callK, w_nil, w_cons, w_tup, w_lst, isB_bl, w_tval, w_tand, w_tor, w_tnot, w_and, w_or, w_not, w_if, s_next, s_seq, s_if, s_ret, s_drop, s_set, s_par, s_put, s_asg, w_var', runS_next, runS_ret, runS_stuck, runS_ite, List.length_cons, List.length_nil, List.length_singleton, List.map_cons, List.map_nil, List.cons_append, List.nil_append, List.replicate_succ, List.replicate_zero, List.getElem?_cons_zero, List.getElem?_cons_succ, List.set_cons_zero, List.set_cons_succ, Nat.reduceAdd, Nat.reduceSub, Nat.reduceEqDiff, ite_true, ite_false, if_true, if_false, reduceIte, Bool.false_eq_true, decide_true, decide_false, String.reduceEq, Int.reduceEq, Nat.reduceLeDiff, true_and, and_true, Bool.not_true, Bool.not_false, decide_eq_true_eq, List.append_nil, bType, bIsi, bLen, bInt, ty_int, ty_bl, ty_str, ty_non, ty_tup, isT, oIs, oIsNot, oSub, oAdd, oIx, run_eqI, run_neI, Bool.or_false, Bool.or_true, Bool.false_or, Bool.true_or, Bool.and_true, Bool.and_false, Bool.true_and, Bool.false_and, reduceCtorEq, decide_not, Bool.not_eq_true', decide_eq_false_iff_not, askInt, askBool, askTuple, askList, askStr, oLe, oLt, oGe, oGt, oInt2, atI0, atI1, atI2]
                    split
                    · rename_i h0; simp [h0]
                    · rename_i h0
                      refine Run.mono (p_least hcc (by omega)) fun r S4 ⟨er, eS⟩ => ?_
                      subst er eS
                      simp only [run_ok, run_okI, run_okB, run_alloc, run_stuck, run_bind, run_ite, run_noX, run_fnOf, w_c, w_op, w_un, w_call, w_callK, w_nil, w_cons, w_tup, w_lst, isB_bl, w_tval, w_tand, w_tor, w_tnot, w_and, w_or, w_not, w_if, s_next, s_seq, s_if, s_ret, s_drop, s_set, s_par, s_put, s_asg, w_var', runS_next, runS_ret, runS_stuck, runS_ite, List.length_cons, List.length_nil, List.length_singleton, List.map_cons, List.map_nil, List.cons_append, List.nil_append, List.replicate_succ, List.replicate_zero, List.getElem?_cons_zero, List.getElem?_cons_succ, List.set_cons_zero, List.set_cons_succ, Nat.reduceAdd, Nat.reduceSub, Nat.reduceEqDiff, ite_true, ite_false, if_true, if_false, reduceIte, Bool.false_eq_true, decide_true, decide_false, String.reduceEq, Int.reduceEq, Nat.reduceLeDiff, true_and, and_true, Bool.not_true, Bool.not_false, decide_eq_true_eq, List.append_nil, bType, bIsi, bLen, bInt, ty_int, ty_bl, ty_str, ty_non, ty_tup, isT, oIs, oIsNot, oSub, oAdd, oIx, run_eqI, run_neI, Bool.or_false, Bool.or_true, Bool.false_or, Bool.true_or, Bool.and_true, Bool.and_false, Bool.true_and, Bool.false_and, reduceCtorEq, decide_not, Bool.not_eq_true', decide_eq_false_iff_not, askInt, askBool, askTuple, askList, askStr, oLe, oLt, oGe, oGt, oInt2, atI0, atI1, atI2]
                      simp [h0]
                  have tb : intV b = true → tyN b S2 = some "int" := fun q => by cases b <;> first | rfl | cases q
                  cases hib : intV b with
                  | true =>
                    rw [tb hib]
                    simp only [run_ok, run_okI, run_okB, run_alloc, run_stuck, run_bind, run_ite, run_noX, run_fnOf, w_c, w_op, w_un, w_call, w_callK, w_nil, w_cons, w_tup, w_lst, isB_bl, w_tval, w_tand, w_tor, w_tnot, w_and, w_or, w_not, w_if, s_next, s_seq, s_if, s_ret, s_drop, s_set, s_par, s_put, s_asg, w_var', runS_next, runS_ret, runS_stuck, runS_ite, List.length_cons, List.length_nil, List.length_singleton, List.map_cons, List.map_nil, List.cons_append, List.nil_append, List.replicate_succ, List.replicate_zero, List.getElem?_cons_zero, List.getElem?_cons_succ, List.set_cons_zero, List.set_cons_succ, Nat.reduceAdd, Nat.reduceSub, Nat.reduceEqDiff, ite_true, ite_false, if_true, if_false, reduceIte, Bool.false_eq_true, decide_true, decide_false, String.reduceEq, Int.reduceEq, Nat.reduceLeDiff, true_and, and_true, Bool.not_true, Bool.not_false, decide_eq_true_eq, List.append_nil, bType, bIsi, bLen, bInt, ty_int, ty_bl, ty_str, ty_non, ty_tup, isT, oIs, oIsNot, oSub, oAdd, oIx, run_eqI, run_neI, Bool.or_false, Bool.or_true, Bool.false_or, Bool.true_or, Bool.and_true, Bool.and_false, Bool.true_and, Bool.false_and, reduceCtorEq, decide_not, Bool.not_eq_true', decide_eq_false_iff_not, askInt, askBool, askTuple, askList, askStr, oLe, oLt, oGe, oGt, oInt2, atI0, atI1, atI2]
                    rw [run_eq hb hc (by omega) (by omega), co_eq hcb hcc hb hc (by omega) (by omega) hib]
                    simp only [run_ok, run_okI, run_okB, run_alloc, run_stuck, run_bind, run_ite, run_noX, run_fnOf, w_c, w_op, w_un, w_call, w_callK, w_nil, w_cons, w_tup, w_lst, isB_bl, w_tval, w_tand, w_tor, w_tnot, w_and, w_or, w_not, w_if, s_next, s_seq, s_if, s_ret, s_drop, s_set, s_par, s_put, s_asg, w_var', runS_next, runS_ret, runS_stuck, runS_ite, List.length_cons, List.length_nil, List.length_singleton, List.map_cons, List.map_nil, List.cons_append, List.nil_append, List.replicate_succ, List.replicate_zero, List.getElem?_cons_zero, List.getElem?_cons_succ, List.set_cons_zero, List.set_cons_succ, Nat.reduceAdd, Nat.reduceSub, Nat.reduceEqDiff, ite_true, ite_false, if_true, if_false, reduceIte, Bool.false_eq_true, decide_true, decide_false, String.reduceEq, Int.reduceEq, Nat.reduceLeDiff, true_and, and_true, Bool.not_true, Bool.not_false, decide_eq_true_eq, List.append_nil, bType, bIsi, bLen, bInt, ty_int, ty_bl, ty_str, ty_non, ty_tup, isT, oIs, oIsNot, oSub, oAdd, oIx, run_eqI, run_neI, Bool.or_false, Bool.or_true, Bool.false_or, Bool.true_or, Bool.and_true, Bool.and_false, Bool.true_and, Bool.false_and, reduceCtorEq, decide_not, Bool.not_eq_true', decide_eq_false_iff_not, askInt, askBool, askTuple, askList, askStr, oLe, oLt, oGe, oGt, oInt2, atI0, atI1, atI2]
                    cases sameI b c with
                    | true => simp
                    | false => simpa using rest
                  | false =>
                    have e1 : sameI b c = false := by cases b <;> first | rfl | cases hib
                    have e2 : tyN b S2 = some "tuple" := by
                      rcases isCo_none hcb with ⟨i, rfl, _⟩ | ⟨_, _, _, _, _, rfl⟩
                      · cases hib
                      · rfl
                    rw [e1, e2]
                    simp only [run_ok, run_okI, run_okB, run_alloc, run_stuck, run_bind, run_ite, run_noX, run_fnOf, w_c, w_op, w_un, w_call, w_callK, w_nil, w_cons, w_tup, w_lst, isB_bl, w_tval, w_tand, w_tor, w_tnot, w_and, w_or, w_not, w_if, s_next, s_seq, s_if, s_ret, s_drop, s_set, s_par, s_put, s_asg, w_var', runS_next, runS_ret, runS_stuck, runS_ite, List.length_cons, List.length_nil, List.length_singleton, List.map_cons, List.map_nil, List.cons_append, List.nil_append, List.replicate_succ, List.replicate_zero, List.getElem?_cons_zero, List.getElem?_cons_succ, List.set_cons_zero, List.set_cons_succ, Nat.reduceAdd, Nat.reduceSub, Nat.reduceEqDiff, ite_true, ite_false, if_true, if_false, reduceIte, Bool.false_eq_true, decide_true, decide_false, String.reduceEq, Int.reduceEq, Nat.reduceLeDiff, true_and, and_true, Bool.not_true, Bool.not_false, decide_eq_true_eq, List.append_nil, bType, bIsi, bLen, bInt, ty_int, ty_bl, ty_str, ty_non, ty_tup, isT, oIs, oIsNot, oSub, oAdd, oIx, run_eqI, run_neI, Bool.or_false, Bool.or_true, Bool.false_or, Bool.true_or, Bool.and_true, Bool.and_false, Bool.true_and, Bool.false_and, reduceCtorEq, decide_not, Bool.not_eq_true', decide_eq_false_iff_not, askInt, askBool, askTuple, askList, askStr, oLe, oLt, oGe, oGt, oInt2, atI0, atI1, atI2]
                    simpa using rest
          | non => simp only [run_ok, run_okI, run_okB, run_alloc, run_stuck, run_bind, run_ite, run_noX, run_fnOf, w_c, w_op, w_un, w_call, w_callK, w_nil, w_cons, w_tup, w_lst, isB_bl, w_tval, w_tand, w_tor, w_tnot, w_and, w_or, w_not, w_if, s_next, s_seq, s_if, s_ret, s_drop, s_set, s_par, s_put, s_asg, w_var', runS_next, runS_ret, runS_stuck, runS_ite, List.length_cons, List.length_nil, List.length_singleton, List.map_cons, List.map_nil, List.cons_append, List.nil_append, List.replicate_succ, List.replicate_zero, List.getElem?_cons_zero, List.getElem?_cons_succ, List.set_cons_zero, List.set_cons_succ, Nat.reduceAdd, Nat.reduceSub, Nat.reduceEqDiff, ite_true, ite_false, if_true, if_false, reduceIte, Bool.false_eq_true, decide_true, decide_false, String.reduceEq, Int.reduceEq, Nat.reduceLeDiff, true_and, and_true, Bool.not_true, Bool.not_false, decide_eq_true_eq, List.append_nil, bType, bIsi, bLen, bInt, ty_int, ty_bl, ty_str, ty_non, ty_tup, isT, oIs, oIsNot, oSub, oAdd, oIx, run_eqI, run_neI, Bool.or_false, Bool.or_true, Bool.false_or, Bool.true_or, Bool.and_true, Bool.and_false, Bool.true_and, Bool.false_and, reduceCtorEq, decide_not, Bool.not_eq_true', decide_eq_false_iff_not, askInt, askBool, askTuple, askList, askStr, oLe, oLt, oGe, oGt, oInt2, atI0, atI1, atI2]; simp [isCo]
          | bl => simp only [run_ok, run_okI, run_okB, run_alloc, run_stuck, run_bind, run_ite, run_noX, run_fnOf, w_c, w_op, w_un, w_call, w_callK, w_nil, w_cons, w_tup, w_lst, isB_bl, w_tval, w_tand, w_tor, w_tnot, w_and, w_or, w_not, w_if, s_next, s_seq, s_if, s_ret, s_drop, s_set, s_par, s_put, s_asg, w_var', runS_next, runS_ret, runS_stuck, runS_ite, List.length_cons, List.length_nil, List.length_singleton, List.map_cons, List.map_nil, List.cons_append, List.nil_append, List.replicate_succ, List.replicate_zero, List.getElem?_cons_zero, List.getElem?_cons_succ, List.set_cons_zero, List.set_cons_succ, Nat.reduceAdd, Nat.reduceSub, Nat.reduceEqDiff, ite_true, ite_false, if_true, if_false, reduceIte, Bool.false_eq_true, decide_true, decide_false, String.reduceEq, Int.reduceEq, Nat.reduceLeDiff, true_and, and_true, Bool.not_true, Bool.not_false, decide_eq_true_eq, List.append_nil, bType, bIsi, bLen, bInt, ty_int, ty_bl, ty_str, ty_non, ty_tup, isT, oIs, oIsNot, oSub, oAdd, oIx, run_eqI, run_neI, Bool.or_false, Bool.or_true, Bool.false_or, Bool.true_or, Bool.and_true, Bool.and_false, Bool.true_and, Bool.false_and, reduceCtorEq, decide_not, Bool.not_eq_true', decide_eq_false_iff_not, askInt, askBool, askTuple, askList, askStr, oLe, oLt, oGe, oGt, oInt2, atI0, atI1, atI2]; simp [isCo]
          | str => simp only [run_ok, run_okI, run_okB, run_alloc, run_stuck, run_bind, run_ite, run_noX, run_fnOf, w_c, w_op, w_un, w_call, w_callK, w_nil, w_cons, w_tup, w_lst, isB_bl, w_tval, w_tand, w_tor, w_tnot, w_and, w_or, w_not, w_if, s_next, s_seq, s_if, s_ret, s_drop, s_set, s_par, s_put, s_asg, w_var', runS_next, runS_ret, runS_stuck, runS_ite, List.length_cons, List.length_nil, List.length_singleton, List.map_cons, List.map_nil, List.cons_append, List.nil_append, List.replicate_succ, List.replicate_zero, List.getElem?_cons_zero, List.getElem?_cons_succ, List.set_cons_zero, List.set_cons_succ, Nat.reduceAdd, Nat.reduceSub, Nat.reduceEqDiff, ite_true, ite_false, if_true, if_false, reduceIte, Bool.false_eq_true, decide_true, decide_false, String.reduceEq, Int.reduceEq, Nat.reduceLeDiff, true_and, and_true, Bool.not_true, Bool.not_false, decide_eq_true_eq, List.append_nil, bType, bIsi, bLen, bInt, ty_int, ty_bl, ty_str, ty_non, ty_tup, isT, oIs, oIsNot, oSub, oAdd, oIx, run_eqI, run_neI, Bool.or_false, Bool.or_true, Bool.false_or, Bool.true_or, Bool.and_true, Bool.and_false, Bool.true_and, Bool.false_and, reduceCtorEq, decide_not, Bool.not_eq_true', decide_eq_false_iff_not, askInt, askBool, askTuple, askList, askStr, oLe, oLt, oGe, oGt, oInt2, atI0, atI1, atI2]; simp [isCo]
          | tup => simp only [run_ok, run_okI, run_okB, run_alloc, run_stuck, run_bind, run_ite, run_noX, run_fnOf, w_c, w_op, w_un, w_call, w_callK, w_nil, w_cons, w_tup, w_lst, isB_bl, w_tval, w_tand, w_tor, w_tnot, w_and, w_or, w_not, w_if, s_next, s_seq, s_if, s_ret, s_drop, s_set, s_par, s_put, s_asg, w_var', runS_next, runS_ret, runS_stuck, runS_ite, List.length_cons, List.length_nil, List.length_singleton, List.map_cons, List.map_nil, List.cons_append, List.nil_append, List.replicate_succ, List.replicate_zero, List.getElem?_cons_zero, List.getElem?_cons_succ, List.set_cons_zero, List.set_cons_succ, Nat.reduceAdd, Nat.reduceSub, Nat.reduceEqDiff, ite_true, ite_false, if_true, if_false, reduceIte, Bool.false_eq_true, decide_true, decide_false, String.reduceEq, Int.reduceEq, Nat.reduceLeDiff, true_and, and_true, Bool.not_true, Bool.not_false, decide_eq_true_eq, List.append_nil, bType, bIsi, bLen, bInt, ty_int, ty_bl, ty_str, ty_non, ty_tup, isT, oIs, oIsNot, oSub, oAdd, oIx, run_eqI, run_neI, Bool.or_false, Bool.or_true, Bool.false_or, Bool.true_or, Bool.and_true, Bool.and_false, Bool.true_and, Bool.false_and, reduceCtorEq, decide_not, Bool.not_eq_true', decide_eq_false_iff_not, askInt, askBool, askTuple, askList, askStr, oLe, oLt, oGe, oGt, oInt2, atI0, atI1, atI2]; simp [isCo]
          | ref hn _ => simp only [ty_ref hn, run_ok, run_okI, run_okB, run_alloc, run_stuck, run_bind, run_ite, run_noX, run_fnOf, w_c, w_op, w_un, w_call, w_callK, w_nil, w_cons, w_tup, w_lst, isB_bl, w_tval, w_tand, w_tor, w_tnot, w_and, w_or, w_not, w_if, s_next, s_seq, s_if, s_ret, s_drop, s_set, s_par, s_put, s_asg, w_var', runS_next, runS_ret, runS_stuck, runS_ite, List.length_cons, List.length_nil, List.length_singleton, List.map_cons, List.map_nil, List.cons_append, List.nil_append, List.replicate_succ, List.replicate_zero, List.getElem?_cons_zero, List.getElem?_cons_succ, List.set_cons_zero, List.set_cons_succ, Nat.reduceAdd, Nat.reduceSub, Nat.reduceEqDiff, ite_true, ite_false, if_true, if_false, reduceIte, Bool.false_eq_true, decide_true, decide_false, String.reduceEq, Int.reduceEq, Nat.reduceLeDiff, true_and, and_true, Bool.not_true, Bool.not_false, decide_eq_true_eq, List.append_nil, bType, bIsi, bLen, bInt, ty_int, ty_bl, ty_str, ty_non, ty_tup, isT, oIs, oIsNot, oSub, oAdd, oIx, run_eqI, run_neI, Bool.or_false, Bool.or_true, Bool.false_or, Bool.true_or, Bool.and_true, Bool.and_false, Bool.true_and, Bool.false_and, reduceCtorEq, decide_not, Bool.not_eq_true', decide_eq_false_iff_not, askInt, askBool, askTuple, askList, askStr, oLe, oLt, oGe, oGt, oInt2, atI0, atI1, atI2]; simp [isCo]
      · rw [if_pos (by omega), isCo_len hl]
theorem isCo_tr : ∀ (e k : Nat) (v : Val) (S : Store), isCo k v = true → Da S e v → Tr e 1000 v := fun e k v S h hv => by
  induction hv generalizing k with
  | int d i => exact .int _ _ i
  | non => cases k <;> cases h
  | bl => cases k <;> cases h
  | str => cases k <;> cases h
  | ref => cases k <;> cases h
  | @tup d xs hx ih =>
    rcases isCo_none h with ⟨i, q, _⟩ | ⟨k', m, l, r, rfl, q⟩
    · cases q
    · cases q
      rw [isCo_three] at h
      simp only [Bool.and_eq_true] at h
      refine .tup (by simp) fun x hm => ?_
      rcases List.mem_cons.mp hm with rfl | hm
      · exact .int _ _ m
      · rcases List.mem_cons.mp hm with rfl | hm
        · exact ih _ (by simp) k' h.2.1
        · rw [List.mem_singleton.mp hm]
          exact ih _ (by simp) k' h.2.2.1
def coOk (v : Val) : Bool := isCo 12 v && decide (tcount v ≤ 63)
theorem p_is_counts {e n : Nat} {v : Val} {S : Store} (hv : Da S e v) (he : e < 60) (hn : 61 < n) : Run ((fns n).is_counts [v] S) (PureQ S (.bl (coOk v))) := by
  obtain ⟨n, rfl⟩ : ∃ m, n = m + 1 := ⟨n - 1, by omega⟩
  show Run (fnOf 1 1 (b_is_counts (fns n)) [v] S) _
  unfold b_is_counts
  simp only [run_ok, run_okI, run_okB, run_alloc, run_stuck, run_bind, run_ite, run_noX, run_fnOf, w_c, w_op, w_un, w_call, w_callK, w_nil, w_cons, w_tup, w_lst, isB_bl, w_tval, w_tand, w_tor, w_tnot, w_and, w_or, w_not, w_if, s_next, s_seq, s_if, s_ret, s_drop, s_set, s_par, s_put, s_asg, w_var', runS_next, runS_ret, runS_stuck, runS_ite, List.length_cons, List.length_nil, List.length_singleton, List.map_cons, List.map_nil, List.cons_append, List.nil_append, List.replicate_succ, List.replicate_zero, List.getElem?_cons_zero, List.getElem?_cons_succ, List.set_cons_zero, List.set_cons_succ, Nat.reduceAdd, Nat.reduceSub, Nat.reduceEqDiff, ite_true, ite_false, if_true, if_false, reduceIte, Bool.false_eq_true, decide_true, decide_false, String.reduceEq, Int.reduceEq, Nat.reduceLeDiff, true_and, and_true, Bool.not_true, Bool.not_false, decide_eq_true_eq, List.append_nil, bType, bIsi, bLen, bInt, ty_int, ty_bl, ty_str, ty_non, ty_tup, isT, oIs, oIsNot, oSub, oAdd, oIx, run_eqI, run_neI, Bool.or_false, Bool.or_true, Bool.false_or, Bool.true_or, Bool.and_true, Bool.and_false, Bool.true_and, Bool.false_and, reduceCtorEq, decide_not, Bool.not_eq_true', decide_eq_false_iff_not, askInt, askBool, askTuple, askList, askStr, oLe, oLt, oGe, oGt, oInt2, atI0, atI1, atI2]
  refine Run.mono (p_is_counts_tree e n 12 v S hv he (by omega)) fun r S1 ⟨er, eS⟩ => ?_
  subst er eS
  simp only [run_ok, run_okI, run_okB, run_alloc, run_stuck, run_bind, run_ite, run_noX, run_fnOf, w_c, w_op, w_un, w_call, w_callK, w_nil, w_cons, w_tup, w_lst, isB_bl, w_tval, w_tand, w_tor, w_tnot, w_and, w_or, w_not, w_if, s_next, s_seq, s_if, s_ret, s_drop, s_set, s_par, s_put, s_asg, w_var', runS_next, runS_ret, runS_stuck, runS_ite, List.length_cons, List.length_nil, List.length_singleton, List.map_cons, List.map_nil, List.cons_append, List.nil_append, List.replicate_succ, List.replicate_zero, List.getElem?_cons_zero, List.getElem?_cons_succ, List.set_cons_zero, List.set_cons_succ, Nat.reduceAdd, Nat.reduceSub, Nat.reduceEqDiff, ite_true, ite_false, if_true, if_false, reduceIte, Bool.false_eq_true, decide_true, decide_false, String.reduceEq, Int.reduceEq, Nat.reduceLeDiff, true_and, and_true, Bool.not_true, Bool.not_false, decide_eq_true_eq, List.append_nil, bType, bIsi, bLen, bInt, ty_int, ty_bl, ty_str, ty_non, ty_tup, isT, oIs, oIsNot, oSub, oAdd, oIx, run_eqI, run_neI, Bool.or_false, Bool.or_true, Bool.false_or, Bool.true_or, Bool.and_true, Bool.and_false, Bool.true_and, Bool.false_and, reduceCtorEq, decide_not, Bool.not_eq_true', decide_eq_false_iff_not, askInt, askBool, askTuple, askList, askStr, oLe, oLt, oGe, oGt, oInt2, atI0, atI1, atI2]
  unfold coOk
  split
  · rename_i hs
    refine Run.mono (p_tuple_count e n v S1 (isCo_tr _ _ _ _ hs hv) (by omega)) fun r S2 ⟨er, g⟩ => ?_
    subst er
    simp only [run_ok, run_okI, run_okB, run_alloc, run_stuck, run_bind, run_ite, run_noX, run_fnOf, w_c, w_op, w_un, w_call, w_callK, w_nil, w_cons, w_tup, w_lst, isB_bl, w_tval, w_tand, w_tor, w_tnot, w_and, w_or, w_not, w_if, s_next, s_seq, s_if, s_ret, s_drop, s_set, s_par, s_put, s_asg, w_var', runS_next, runS_ret, runS_stuck, runS_ite, List.length_cons, List.length_nil, List.length_singleton, List.map_cons, List.map_nil, List.cons_append, List.nil_append, List.replicate_succ, List.replicate_zero, List.getElem?_cons_zero, List.getElem?_cons_succ, List.set_cons_zero, List.set_cons_succ, Nat.reduceAdd, Nat.reduceSub, Nat.reduceEqDiff, ite_true, ite_false, if_true, if_false, reduceIte, Bool.false_eq_true, decide_true, decide_false, String.reduceEq, Int.reduceEq, Nat.reduceLeDiff, true_and, and_true, Bool.not_true, Bool.not_false, decide_eq_true_eq, List.append_nil, bType, bIsi, bLen, bInt, ty_int, ty_bl, ty_str, ty_non, ty_tup, isT, oIs, oIsNot, oSub, oAdd, oIx, run_eqI, run_neI, Bool.or_false, Bool.or_true, Bool.false_or, Bool.true_or, Bool.and_true, Bool.and_false, Bool.true_and, Bool.false_and, reduceCtorEq, decide_not, Bool.not_eq_true', decide_eq_false_iff_not, askInt, askBool, askTuple, askList, askStr, oLe, oLt, oGe, oGt, oInt2, atI0, atI1, atI2]
    exact ⟨by rw [hs, Bool.true_and], g⟩
  · rename_i hs
    rw [Bool.not_eq_true] at hs
    exact ⟨by rw [hs, Bool.false_and], .refl _⟩
theorem check_counts_ok {e n : Nat} {v : Val} {S : Store} (hv : Da S e v) (he : e < 60) (hn : 62 < n) : ∃ S', Kp S S' ∧ (fns n).check_counts [v] S = if coOk v = true then .ok .non S' else .exc ⟨1, []⟩ S' := by
  obtain ⟨n, rfl⟩ : ∃ m, n = m + 1 := ⟨n - 1, by omega⟩
  obtain ⟨r, S', e1, e2, g⟩ := (p_is_counts (n := n) hv he (by omega)).to
  subst e2
  refine ⟨S', g.kp, ?_⟩
  show fnOf 1 1 (b_check_counts (fns n)) [v] S = _
  simp only [fnOf, b_check_counts, sIf, tNot', tVal, dCall, aCons, aNil, dVar, Res.bind, Res.toS, List.length_cons, List.length_nil, List.map_cons, List.map_nil, Nat.reduceAdd, Nat.reduceSub, List.replicate_zero, List.append_nil, List.getElem?_cons_zero, e1, if_true]
  cases coOk v <;> rfl
end PD.K34

/-! ## K34M2 -/
set_option Elab.async false
set_option linter.all false
set_option maxRecDepth 100000
set_option maxHeartbeats 1000000
namespace PD.K34
open PySem PySem.Spec L2 PD LT
/-! ### comprehensions over a tuple: with a condition; with what changes -/
theorem comp_fltT {f : D} {tg : TgD} {cd : DT} {ρ : PD.Env} {ys : List Val} {P : Val → Bool} {g : Val → Val} : ∀ (xs : List Val) (i : Nat) (acc : List Val) (S : Store), acc.length + xs.length < 16777216 →
    (∀ x ∈ xs, ∀ S', Kp S S' → ∃ ρ1, tg x ρ = some ρ1 ∧ Run (cd ρ1 S') (fun b S2 => b = P x ∧ Kp S' S2) ∧ (P x = true → ∀ S2, Kp S S2 → Run (f ρ1 S2) (PureK S2 (g x)))) → ys.drop i = xs → i ≤ ys.length →
    Run (compG (srcL ys) tg cd f xs.length i acc ρ S) (PureK S (acc ++ (xs.filter P).map g))
  | [], i, acc, S, _, _, hd, hi => by
    have : ys[i]? = none := by
      rw [List.getElem?_eq_none_iff]
      have := congrArg List.length hd
      simp at this; omega
    show Run (match srcL ys i S with | some none => Res.ok acc S | _ => .stuck) _
    have es : srcL ys i S = some none := by
      unfold srcL; rw [this]
    rw [es]
    exact ⟨by simp, .refl S⟩
  | x :: xs, i, acc, S, hl, he, hd, hi => by
    have hlt : i < ys.length := by
      have := congrArg List.length hd
      simp at this; omega
    have e0 := List.drop_eq_getElem_cons hlt
    rw [hd] at e0
    have hx : ys[i]? = some x := by rw [List.getElem?_eq_getElem hlt, (List.cons.inj e0).1]
    have hl' : acc.length + (xs.length + 1) < 16777216 := hl
    obtain ⟨ρ1, et, hc, hf⟩ := he x List.mem_cons_self S (.refl S)
    show Run (match srcL ys i S with
      | none => Res.stuck
      | some none => .ok acc S
      | some (some x) => match tg x ρ with
        | none => .stuck
        | some ρ1 => (noX (cd ρ1 S)).bind fun b S1 => if b = true then (noX (f ρ1 S1)).bind fun y S2 => if acc.length < 16777216 then compG (srcL ys) tg cd f xs.length (i + 1) (acc ++ [y]) ρ S2 else .stuck
            else compG (srcL ys) tg cd f xs.length (i + 1) acc ρ S1) _
    have es : srcL ys i S = some (some x) := by unfold srcL; rw [hx]
    rw [es]
    show Run (match tg x ρ with
        | none => .stuck
        | some ρ1 => (noX (cd ρ1 S)).bind fun b S1 => if b = true then (noX (f ρ1 S1)).bind fun y S2 => if acc.length < 16777216 then compG (srcL ys) tg cd f xs.length (i + 1) (acc ++ [y]) ρ S2 else .stuck
            else compG (srcL ys) tg cd f xs.length (i + 1) acc ρ S1) _
    rw [et]
    show Run ((noX (cd ρ1 S)).bind fun b S1 => if b = true then (noX (f ρ1 S1)).bind fun y S2 => if acc.length < 16777216 then compG (srcL ys) tg cd f xs.length (i + 1) (acc ++ [y]) ρ S2 else .stuck
            else compG (srcL ys) tg cd f xs.length (i + 1) acc ρ S1) _
    rw [run_bind, run_noX]
    refine Run.mono hc fun b S1 ⟨eb, k1⟩ => ?_
    subst eb
    cases hP : P x with
    | false =>
      rw [if_neg (by decide), List.filter_cons_of_neg (by rw [hP]; decide)]
      refine Run.mono (comp_fltT (P := P) (g := g) xs (i + 1) acc S1 (by omega) (fun y hy S' k' => ?_) (List.cons.inj e0).2.symm hlt) fun zs S2 ⟨ez, g2⟩ => ⟨ez, k1.trans g2⟩
      obtain ⟨ρ2, a1, a2, a3⟩ := he y (List.mem_cons_of_mem _ hy) S' (k1.trans k')
      exact ⟨ρ2, a1, a2, fun hq S2 k2 => a3 hq S2 (k1.trans k2)⟩
    | true =>
      rw [if_pos rfl, run_bind, run_noX, List.filter_cons_of_pos hP]
      refine Run.mono (hf hP S1 k1) fun y S2 ⟨ey, k2⟩ => ?_
      subst ey
      rw [if_pos (by omega)]
      refine Run.mono (comp_fltT (P := P) (g := g) xs (i + 1) (acc ++ [g x]) S2 (by simp; omega) (fun y hy S' k' => ?_) (List.cons.inj e0).2.symm hlt) fun zs S3 ⟨ez, g3⟩ => ⟨by rw [ez]; simp, (k1.trans k2).trans g3⟩
      obtain ⟨ρ2, a1, a2, a3⟩ := he y (List.mem_cons_of_mem _ hy) S' ((k1.trans k2).trans k')
      exact ⟨ρ2, a1, a2, fun hq S2' k2' => a3 hq S2' ((k1.trans k2).trans k2')⟩
theorem run_lctf {h : D} {tg : TgD} {cd : DT} {f : D} {vs : List Nat} {ρ : PD.Env} {S : Store} {xs : List Val} {P : Val → Bool} {g : Val → Val} (hl : xs.length ≤ 1000000) (e : Run (h ρ S) fun x S1 => x = .tup xs ∧ S1 = S)
    (he : ∀ x ∈ xs, ∀ S', Kp S S' → ∃ ρ1, tg x (wipeE ρ vs) = some ρ1 ∧ Run (cd ρ1 S') (fun b S2 => b = P x ∧ Kp S' S2) ∧ (P x = true → ∀ S2, Kp S S2 → Run (f ρ1 S2) (PureK S2 (g x)))) :
    Run (dLCT h tg cd f vs ρ S) (fun r S' => ∃ S1, r = .ref S1.length ∧ S' = S1 ++ [.lst ((xs.filter P).map g)] ∧ Kp S S1) := by
  unfold dLCT
  rw [run_bind]
  refine Run.mono e fun x S1 ⟨e1, e2⟩ => ?_
  subst e1 e2
  show Run ((compG (srcL xs) tg cd f xs.length 0 [] (wipeE ρ vs) S1).bind alloc) _
  rw [run_bind]
  refine Run.mono (comp_fltT (P := P) (g := g) (ys := xs) xs 0 [] S1 (by simp; omega) he rfl (Nat.zero_le _)) fun ys S2 ⟨e1, k2⟩ => ?_
  subst e1
  exact ⟨_, rfl, rfl, k2⟩
/-- whatever the parts do: what holds of the list so far -/
theorem comp_inv {f : D} {v : Nat} {ρ : PD.Env} {ys : List Val} (m : Nat) (I : List Val → Store → Prop) (he : ∀ x acc S, acc.length < m → I acc S → Run (f (ρ.set v (some x)) S) (fun y S' => I (acc ++ [y]) S')) : ∀ (xs : List Val) (i : Nat) (acc : List Val) (S : Store), acc.length + xs.length ≤ m → m < 16777216 → I acc S → ys.drop i = xs → i ≤ ys.length →
    Run (compG (srcL ys) (gN v) tYes' f xs.length i acc ρ S) (fun zs S' => zs.length = acc.length + xs.length ∧ I zs S')
  | [], i, acc, S, _, _, h, hd, hi => by
    have : ys[i]? = none := by
      rw [List.getElem?_eq_none_iff]
      have := congrArg List.length hd
      simp at this; omega
    show Run (match srcL ys i S with | some none => Res.ok acc S | _ => .stuck) _
    have es : srcL ys i S = some none := by
      unfold srcL; rw [this]
    rw [es]
    exact ⟨rfl, h⟩
  | x :: xs, i, acc, S, hl, hm, h, hd, hi => by
    have hlt : i < ys.length := by
      have := congrArg List.length hd
      simp at this; omega
    have e0 := List.drop_eq_getElem_cons hlt
    rw [hd] at e0
    have hx : ys[i]? = some x := by rw [List.getElem?_eq_getElem hlt, (List.cons.inj e0).1]
    rw [List.length_cons] at hl
    show Run (match srcL ys i S with
      | none => Res.stuck
      | some none => .ok acc S
      | some (some x) => match gN v x ρ with
        | none => .stuck
        | some ρ1 => (noX (tYes' ρ1 S)).bind fun b S1 => if b = true then (noX (f ρ1 S1)).bind fun y S2 => if acc.length < 16777216 then compG (srcL ys) (gN v) tYes' f xs.length (i + 1) (acc ++ [y]) ρ S2 else .stuck
            else compG (srcL ys) (gN v) tYes' f xs.length (i + 1) acc ρ S1) _
    have es : srcL ys i S = some (some x) := by unfold srcL; rw [hx]
    rw [es]
    show Run ((noX (f (ρ.set v (some x)) S)).bind fun y S2 => if acc.length < 16777216 then compG (srcL ys) (gN v) tYes' f xs.length (i + 1) (acc ++ [y]) ρ S2 else .stuck) _
    rw [run_bind, run_noX]
    refine Run.mono (he x acc S (by omega) h) fun y S1 h1 => ?_
    rw [if_pos (by omega)]
    refine Run.mono (comp_inv (ys := ys) m I he xs (i + 1) (acc ++ [y]) S1 (by rw [List.length_append, List.length_singleton]; omega) hm h1 (List.cons.inj e0).2.symm hlt) fun zs S2 ⟨ez, g2⟩ => ⟨?_, g2⟩
    rw [ez, List.length_append, List.length_singleton, List.length_cons]; omega
theorem run_lcrI {as : DA} {v : Nat} {f : D} {vs : List Nat} {ρ : PD.Env} {S : Store} {j : Nat} (I : List Val → Store → Prop) (e : Run (as ρ S) fun xs S1 => xs = [.int j] ∧ S1 = S) (hj : j ≤ 1000000) (h : I [] S)
    (he : ∀ x acc S, acc.length < j → I acc S → Run (f ((wipeE ρ vs).set v (some x)) S) (fun y S' => I (acc ++ [y]) S')) :
    Run (dLCR as (gN v) tYes' f vs ρ S) (fun r S' => ∃ S1 zs, r = .ref S1.length ∧ S' = S1 ++ [.lst zs] ∧ zs.length = j ∧ I zs S1) := by
  unfold dLCR
  rw [run_bind]
  refine Run.mono e fun xs S1 ⟨e1, e2⟩ => ?_
  subst e1 e2
  show Run (if -(2 ^ 62) ≤ (j : Int) ∧ (j : Int) < 2 ^ 62 then (compG (srcL (rangeV 0 j)) (gN v) tYes' f j 0 [] (wipeE ρ vs) S1).bind alloc else .stuck) _
  rw [if_pos (by constructor <;> omega), run_bind]
  have := comp_inv (f := f) (v := v) (ρ := wipeE ρ vs) (ys := rangeV 0 j) j I he (rangeV 0 j) 0 [] S1 (by rw [rangeV_len]; simp) (by omega) h rfl (Nat.zero_le _)
  rw [rangeV_len] at this
  refine Run.mono this fun zs S2 ⟨ez, h2⟩ => ⟨S2, zs, rfl, rfl, by simpa using ez, h2⟩
theorem all_bl {S : Store} {xs : List Val} {p : Val → Bool} : Run (bAll [.ref S.length] (S ++ [.lst (xs.map fun x => Val.bl (p x))])) (fun r S' => r = .bl (xs.all p) ∧ S' = S ++ [.lst (xs.map fun x => Val.bl (p x))]) := by
  have e : allSome ((xs.map fun x => Val.bl (p x)).map asB) = some (xs.map p) := by
    induction xs with
    | nil => rfl
    | cons x xs ih =>
      rw [List.map_cons, List.map_cons, List.map_cons]
      unfold allSome
      rw [ih]; rfl
  show Run (match (S ++ [Cell.lst (xs.map fun x => Val.bl (p x))])[S.length]? with
          | some c => match allSome (c.items.map asB) with
            | some bs => okB (bs.all id) (S ++ [Cell.lst (xs.map fun x => Val.bl (p x))])
            | none => .stuck
          | none => Res.stuck) _
  rw [get_new]
  show Run (match allSome ((xs.map fun x => Val.bl (p x)).map asB) with
            | some bs => okB (bs.all id) (S ++ [Cell.lst (xs.map fun x => Val.bl (p x))])
            | none => .stuck) _
  rw [e]
  refine ⟨?_, rfl⟩
  congr 1
  rw [List.all_map]; rfl
theorem eq_empty {S : Store} {a b d : Nat} {xs : List Val} {Q : Val → Store → Prop} (ha : S[a]? = some (.lst xs)) (hx : ∀ x ∈ xs, Da S d x) (hd : d < 60) (hb : S[b]? = some (.lst [])) : Run (oEq (.ref a) (.ref b) S) Q = Q (.bl xs.isEmpty) S := by
  rw [run_eq (d := d + 1) (e := 1) (.ref ha hx) (.ref (d := 0) hb fun _ h => nomatch h) (by omega) (by omega), dat_ref (d := d) ha hx (by omega), dat_ref (d := 0) hb (fun _ h => nomatch h) (by omega)]
  cases xs <;> rfl
/-! ### what a dot is -/
def isHalf : Val → Bool
  | .int i => decide (i = 0) || decide (i = 1)
  | _ => false
def isPa : Val → Bool
  | .tup xs => decide (xs.length ≤ 12) && xs.all isHalf
  | _ => false
def isDot : Val → Bool
  | .tup [p, .int w] => isPa p && decide (1 ≤ w)
  | _ => false
theorem p_is_path {e n : Nat} {v : Val} {S : Store} (hv : Da S e v) (he : e < 60) (hn : 0 < n) : Run ((fns n).is_path [v] S) (PureK S (.bl (isPa v))) := by
  obtain ⟨n, rfl⟩ : ∃ m, n = m + 1 := ⟨n - 1, by omega⟩
  show Run (fnOf 1 2 (b_is_path (fns n)) [v] S) _
  unfold b_is_path
  cases hv with
  | int _ i => simp only [run_ok, run_okI, run_okB, run_alloc, run_stuck, run_bind, run_ite, run_noX, run_fnOf, w_c, w_op, w_un, w_call, w_callK, w_nil, w_cons, w_tup, w_lst, isB_bl, w_tval, w_tand, w_tor, w_tnot, w_and, w_or, w_not, w_if, s_next, s_seq, s_if, s_ret, s_drop, s_set, s_par, s_put, s_asg, w_var', runS_next, runS_ret, runS_stuck, runS_ite, List.length_cons, List.length_nil, List.length_singleton, List.map_cons, List.map_nil, List.cons_append, List.nil_append, List.replicate_succ, List.replicate_zero, List.getElem?_cons_zero, List.getElem?_cons_succ, List.set_cons_zero, List.set_cons_succ, Nat.reduceAdd, Nat.reduceSub, Nat.reduceEqDiff, ite_true, ite_false, if_true, if_false, reduceIte, Bool.false_eq_true, decide_true, decide_false, String.reduceEq, Int.reduceEq, Nat.reduceLeDiff, true_and, and_true, Bool.not_true, Bool.not_false, decide_eq_true_eq, List.append_nil, bType, bIsi, bLen, bInt, ty_int, ty_bl, ty_str, ty_non, ty_tup, isT, oIs, oIsNot, oSub, oAdd, oIx, run_eqI, run_neI, Bool.or_false, Bool.or_true, Bool.false_or, Bool.true_or, Bool.and_true, Bool.and_false, Bool.true_and, Bool.false_and, reduceCtorEq, decide_not, Bool.not_eq_true', decide_eq_false_iff_not, askInt, askBool, askTuple, askList, askStr, oLe, oLt, oGe, oGt, oInt2, atI0, atI1, atI2]; exact ⟨rfl, .refl _⟩
  | non => simp only [run_ok, run_okI, run_okB, run_alloc, run_stuck, run_bind, run_ite, run_noX, run_fnOf, w_c, w_op, w_un, w_call, w_callK, w_nil, w_cons, w_tup, w_lst, isB_bl, w_tval, w_tand, w_tor, w_tnot, w_and, w_or, w_not, w_if, s_next, s_seq, s_if, s_ret, s_drop, s_set, s_par, s_put, s_asg, w_var', runS_next, runS_ret, runS_stuck, runS_ite, List.length_cons, List.length_nil, List.length_singleton, List.map_cons, List.map_nil, List.cons_append, List.nil_append, List.replicate_succ, List.replicate_zero, List.getElem?_cons_zero, List.getElem?_cons_succ, List.set_cons_zero, List.set_cons_succ, Nat.reduceAdd, Nat.reduceSub, Nat.reduceEqDiff, ite_true, ite_false, if_true, if_false, reduceIte, Bool.false_eq_true, decide_true, decide_false, String.reduceEq, Int.reduceEq, Nat.reduceLeDiff, true_and, and_true, Bool.not_true, Bool.not_false, decide_eq_true_eq, List.append_nil, bType, bIsi, bLen, bInt, ty_int, ty_bl, ty_str, ty_non, ty_tup, isT, oIs, oIsNot, oSub, oAdd, oIx, run_eqI, run_neI, Bool.or_false, Bool.or_true, Bool.false_or, Bool.true_or, Bool.and_true, Bool.and_false, Bool.true_and, Bool.false_and, reduceCtorEq, decide_not, Bool.not_eq_true', decide_eq_false_iff_not, askInt, askBool, askTuple, askList, askStr, oLe, oLt, oGe, oGt, oInt2, atI0, atI1, atI2]; exact ⟨rfl, .refl _⟩
  | bl => simp only [run_ok, run_okI, run_okB, run_alloc, run_stuck, run_bind, run_ite, run_noX, run_fnOf, w_c, w_op, w_un, w_call, w_callK, w_nil, w_cons, w_tup, w_lst, isB_bl, w_tval, w_tand, w_tor, w_tnot, w_and, w_or, w_not, w_if, s_next, s_seq, s_if, s_ret, s_drop, s_set, s_par, s_put, s_asg, w_var', runS_next, runS_ret, runS_stuck, runS_ite, List.length_cons, List.length_nil, List.length_singleton, List.map_cons, List.map_nil, List.cons_append, List.nil_append, List.replicate_succ, List.replicate_zero, List.getElem?_cons_zero, List.getElem?_cons_succ, List.set_cons_zero, List.set_cons_succ, Nat.reduceAdd, Nat.reduceSub, Nat.reduceEqDiff, ite_true, ite_false, if_true, if_false, reduceIte, Bool.false_eq_true, decide_true, decide_false, String.reduceEq, Int.reduceEq, Nat.reduceLeDiff, true_and, and_true, Bool.not_true, Bool.not_false, decide_eq_true_eq, List.append_nil, bType, bIsi, bLen, bInt, ty_int, ty_bl, ty_str, ty_non, ty_tup, isT, oIs, oIsNot, oSub, oAdd, oIx, run_eqI, run_neI, Bool.or_false, Bool.or_true, Bool.false_or, Bool.true_or, Bool.and_true, Bool.and_false, Bool.true_and, Bool.false_and, reduceCtorEq, decide_not, Bool.not_eq_true', decide_eq_false_iff_not, askInt, askBool, askTuple, askList, askStr, oLe, oLt, oGe, oGt, oInt2, atI0, atI1, atI2]; exact ⟨rfl, .refl _⟩
  | str => simp only [run_ok, run_okI, run_okB, run_alloc, run_stuck, run_bind, run_ite, run_noX, run_fnOf, w_c, w_op, w_un, w_call, w_callK, w_nil, w_cons, w_tup, w_lst, isB_bl, w_tval, w_tand, w_tor, w_tnot, w_and, w_or, w_not, w_if, s_next, s_seq, s_if, s_ret, s_drop, s_set, s_par, s_put, s_asg, w_var', runS_next, runS_ret, runS_stuck, runS_ite, List.length_cons, List.length_nil, List.length_singleton, List.map_cons, List.map_nil, List.cons_append, List.nil_append, List.replicate_succ, List.replicate_zero, List.getElem?_cons_zero, List.getElem?_cons_succ, List.set_cons_zero, List.set_cons_succ, Nat.reduceAdd, Nat.reduceSub, Nat.reduceEqDiff, ite_true, ite_false, if_true, if_false, reduceIte, Bool.false_eq_true, decide_true, decide_false, String.reduceEq, Int.reduceEq, Nat.reduceLeDiff, true_and, and_true, Bool.not_true, Bool.not_false, decide_eq_true_eq, List.append_nil, bType, bIsi, bLen, bInt, ty_int, ty_bl, ty_str, ty_non, ty_tup, isT, oIs, oIsNot, oSub, oAdd, oIx, run_eqI, run_neI, Bool.or_false, Bool.or_true, Bool.false_or, Bool.true_or, Bool.and_true, Bool.and_false, Bool.true_and, Bool.false_and, reduceCtorEq, decide_not, Bool.not_eq_true', decide_eq_false_iff_not, askInt, askBool, askTuple, askList, askStr, oLe, oLt, oGe, oGt, oInt2, atI0, atI1, atI2]; exact ⟨rfl, .refl _⟩
  | @ref _ m ys hm _ => simp only [ty_ref hm, run_ok, run_okI, run_okB, run_alloc, run_stuck, run_bind, run_ite, run_noX, run_fnOf, w_c, w_op, w_un, w_call, w_callK, w_nil, w_cons, w_tup, w_lst, isB_bl, w_tval, w_tand, w_tor, w_tnot, w_and, w_or, w_not, w_if, s_next, s_seq, s_if, s_ret, s_drop, s_set, s_par, s_put, s_asg, w_var', runS_next, runS_ret, runS_stuck, runS_ite, List.length_cons, List.length_nil, List.length_singleton, List.map_cons, List.map_nil, List.cons_append, List.nil_append, List.replicate_succ, List.replicate_zero, List.getElem?_cons_zero, List.getElem?_cons_succ, List.set_cons_zero, List.set_cons_succ, Nat.reduceAdd, Nat.reduceSub, Nat.reduceEqDiff, ite_true, ite_false, if_true, if_false, reduceIte, Bool.false_eq_true, decide_true, decide_false, String.reduceEq, Int.reduceEq, Nat.reduceLeDiff, true_and, and_true, Bool.not_true, Bool.not_false, decide_eq_true_eq, List.append_nil, bType, bIsi, bLen, bInt, ty_int, ty_bl, ty_str, ty_non, ty_tup, isT, oIs, oIsNot, oSub, oAdd, oIx, run_eqI, run_neI, Bool.or_false, Bool.or_true, Bool.false_or, Bool.true_or, Bool.and_true, Bool.and_false, Bool.true_and, Bool.false_and, reduceCtorEq, decide_not, Bool.not_eq_true', decide_eq_false_iff_not, askInt, askBool, askTuple, askList, askStr, oLe, oLt, oGe, oGt, oInt2, atI0, atI1, atI2]; exact ⟨rfl, .refl _⟩
  | @tup e' xs hx =>
    simp only [run_gtI, run_ok, run_okI, run_okB, run_alloc, run_stuck, run_bind, run_ite, run_noX, run_fnOf, w_c, w_op, w_un, w_call, w_callK, w_nil, w_cons, w_tup, w_lst, isB_bl, w_tval, w_tand, w_tor, w_tnot, w_and, w_or, w_not, w_if, s_next, s_seq, s_if, s_ret, s_drop, s_set, s_par, s_put, s_asg, w_var', runS_next, runS_ret, runS_stuck, runS_ite, List.length_cons, List.length_nil, List.length_singleton, List.map_cons, List.map_nil, List.cons_append, List.nil_append, List.replicate_succ, List.replicate_zero, List.getElem?_cons_zero, List.getElem?_cons_succ, List.set_cons_zero, List.set_cons_succ, Nat.reduceAdd, Nat.reduceSub, Nat.reduceEqDiff, ite_true, ite_false, if_true, if_false, reduceIte, Bool.false_eq_true, decide_true, decide_false, String.reduceEq, Int.reduceEq, Nat.reduceLeDiff, true_and, and_true, Bool.not_true, Bool.not_false, decide_eq_true_eq, List.append_nil, bType, bIsi, bLen, bInt, ty_int, ty_bl, ty_str, ty_non, ty_tup, isT, oIs, oIsNot, oSub, oAdd, oIx, run_eqI, run_neI, Bool.or_false, Bool.or_true, Bool.false_or, Bool.true_or, Bool.and_true, Bool.and_false, Bool.true_and, Bool.false_and, reduceCtorEq, decide_not, Bool.not_eq_true', decide_eq_false_iff_not, askInt, askBool, askTuple, askList, askStr, oLe, oLt, oGe, oGt, oInt2, atI0, atI1, atI2]
    by_cases hl : xs.length ≤ 12
    · rw [if_neg (by omega)]
      simp only [dLCT, run_ok, run_okI, run_okB, run_alloc, run_stuck, run_bind, run_ite, run_noX, run_fnOf, w_c, w_op, w_un, w_call, w_callK, w_nil, w_cons, w_tup, w_lst, isB_bl, w_tval, w_tand, w_tor, w_tnot, w_and, w_or, w_not, w_if, s_next, s_seq, s_if, s_ret, s_drop, s_set, s_par, s_put, s_asg, w_var', runS_next, runS_ret, runS_stuck, runS_ite, List.length_cons, List.length_nil, List.length_singleton, List.map_cons, List.map_nil, List.cons_append, List.nil_append, List.replicate_succ, List.replicate_zero, List.getElem?_cons_zero, List.getElem?_cons_succ, List.set_cons_zero, List.set_cons_succ, Nat.reduceAdd, Nat.reduceSub, Nat.reduceEqDiff, ite_true, ite_false, if_true, if_false, reduceIte, Bool.false_eq_true, decide_true, decide_false, String.reduceEq, Int.reduceEq, Nat.reduceLeDiff, true_and, and_true, Bool.not_true, Bool.not_false, decide_eq_true_eq, List.append_nil, bType, bIsi, bLen, bInt, ty_int, ty_bl, ty_str, ty_non, ty_tup, isT, oIs, oIsNot, oSub, oAdd, oIx, run_eqI, run_neI, Bool.or_false, Bool.or_true, Bool.false_or, Bool.true_or, Bool.and_true, Bool.and_false, Bool.true_and, Bool.false_and, reduceCtorEq, decide_not, Bool.not_eq_true', decide_eq_false_iff_not, askInt, askBool, askTuple, askList, askStr, oLe, oLt, oGe, oGt, oInt2, atI0, atI1, atI2]
      refine Run.mono (comp_pure0 (g := fun x => .bl (isHalf x)) xs S (by omega) fun x hxm S' g' => ?_) fun ys S1 ⟨e1, g1⟩ => ?_
      · have hx' := (hx x hxm).gr g'
        simp only [wipeE, run_ok, run_okI, run_okB, run_alloc, run_stuck, run_bind, run_ite, run_noX, run_fnOf, w_c, w_op, w_un, w_call, w_callK, w_nil, w_cons, w_tup, w_lst, isB_bl, w_tval, w_tand, w_tor, w_tnot, w_and, w_or, w_not, w_if, s_next, s_seq, s_if, s_ret, s_drop, s_set, s_par, s_put, s_asg, w_var', runS_next, runS_ret, runS_stuck, runS_ite, List.length_cons, List.length_nil, List.length_singleton, List.map_cons, List.map_nil, List.cons_append, List.nil_append, List.replicate_succ, List.replicate_zero, List.getElem?_cons_zero, List.getElem?_cons_succ, List.set_cons_zero, List.set_cons_succ, Nat.reduceAdd, Nat.reduceSub, Nat.reduceEqDiff, ite_true, ite_false, if_true, if_false, reduceIte, Bool.false_eq_true, decide_true, decide_false, String.reduceEq, Int.reduceEq, Nat.reduceLeDiff, true_and, and_true, Bool.not_true, Bool.not_false, decide_eq_true_eq, List.append_nil, bType, bIsi, bLen, bInt, ty_int, ty_bl, ty_str, ty_non, ty_tup, isT, oIs, oIsNot, oSub, oAdd, oIx, run_eqI, run_neI, Bool.or_false, Bool.or_true, Bool.false_or, Bool.true_or, Bool.and_true, Bool.and_false, Bool.true_and, Bool.false_and, reduceCtorEq, decide_not, Bool.not_eq_true', decide_eq_false_iff_not, askInt, askBool, askTuple, askList, askStr, oLe, oLt, oGe, oGt, oInt2, atI0, atI1, atI2]
        cases hx' with
        | int _ i =>
          simp only [run_ok, run_okI, run_okB, run_alloc, run_stuck, run_bind, run_ite, run_noX, run_fnOf, w_c, w_op, w_un, w_call, w_callK, w_nil, w_cons, w_tup, w_lst, isB_bl, w_tval, w_tand, w_tor, w_tnot, w_and, w_or, w_not, w_if, s_next, s_seq, s_if, s_ret, s_drop, s_set, s_par, s_put, s_asg, w_var', runS_next, runS_ret, runS_stuck, runS_ite, List.length_cons, List.length_nil, List.length_singleton, List.map_cons, List.map_nil, List.cons_append, List.nil_append, List.replicate_succ, List.replicate_zero, List.getElem?_cons_zero, List.getElem?_cons_succ, List.set_cons_zero, List.set_cons_succ, Nat.reduceAdd, Nat.reduceSub, Nat.reduceEqDiff, ite_true, ite_false, if_true, if_false, reduceIte, Bool.false_eq_true, decide_true, decide_false, String.reduceEq, Int.reduceEq, Nat.reduceLeDiff, true_and, and_true, Bool.not_true, Bool.not_false, decide_eq_true_eq, List.append_nil, bType, bIsi, bLen, bInt, ty_int, ty_bl, ty_str, ty_non, ty_tup, isT, oIs, oIsNot, oSub, oAdd, oIx, run_eqI, run_neI, Bool.or_false, Bool.or_true, Bool.false_or, Bool.true_or, Bool.and_true, Bool.and_false, Bool.true_and, Bool.false_and, reduceCtorEq, decide_not, Bool.not_eq_true', decide_eq_false_iff_not, askInt, askBool, askTuple, askList, askStr, oLe, oLt, oGe, oGt, oInt2, atI0, atI1, atI2]
          by_cases h0 : i = 0
          · subst h0; simp only [run_ok, run_okI, run_okB, run_alloc, run_stuck, run_bind, run_ite, run_noX, run_fnOf, w_c, w_op, w_un, w_call, w_callK, w_nil, w_cons, w_tup, w_lst, isB_bl, w_tval, w_tand, w_tor, w_tnot, w_and, w_or, w_not, w_if, s_next, s_seq, s_if, s_ret, s_drop, s_set, s_par, s_put, s_asg, w_var', runS_next, runS_ret, runS_stuck, runS_ite, List.length_cons, List.length_nil, List.length_singleton, List.map_cons, List.map_nil, List.cons_append, List.nil_append, List.replicate_succ, List.replicate_zero, List.getElem?_cons_zero, List.getElem?_cons_succ, List.set_cons_zero, List.set_cons_succ, Nat.reduceAdd, Nat.reduceSub, Nat.reduceEqDiff, ite_true, ite_false, if_true, if_false, reduceIte, Bool.false_eq_true, decide_true, decide_false, String.reduceEq, Int.reduceEq, Nat.reduceLeDiff, true_and, and_true, Bool.not_true, Bool.not_false, decide_eq_true_eq, List.append_nil, bType, bIsi, bLen, bInt, ty_int, ty_bl, ty_str, ty_non, ty_tup, isT, oIs, oIsNot, oSub, oAdd, oIx, run_eqI, run_neI, Bool.or_false, Bool.or_true, Bool.false_or, Bool.true_or, Bool.and_true, Bool.and_false, Bool.true_and, Bool.false_and, reduceCtorEq, decide_not, Bool.not_eq_true', decide_eq_false_iff_not, askInt, askBool, askTuple, askList, askStr, oLe, oLt, oGe, oGt, oInt2, atI0, atI1, atI2]; exact ⟨rfl, .refl _⟩
          · simp only [h0, run_ok, run_okI, run_okB, run_alloc, run_stuck, run_bind, run_ite, run_noX, run_fnOf, w_c, w_op, w_un, w_call, w_callK, w_nil, w_cons, w_tup, w_lst, isB_bl, w_tval, w_tand, w_tor, w_tnot, w_and, w_or, w_not, w_if, s_next, s_seq, s_if, s_ret, s_drop, s_set, s_par, s_put, s_asg, w_var', runS_next, runS_ret, runS_stuck, runS_ite, List.length_cons, List.length_nil, List.length_singleton, List.map_cons, List.map_nil, List.cons_append, List.nil_append, List.replicate_succ, List.replicate_zero, List.getElem?_cons_zero, List.getElem?_cons_succ, List.set_cons_zero, List.set_cons_succ, Nat.reduceAdd, Nat.reduceSub, Nat.reduceEqDiff, ite_true, ite_false, if_true, if_false, reduceIte, Bool.false_eq_true, decide_true, decide_false, String.reduceEq, Int.reduceEq, Nat.reduceLeDiff, true_and, and_true, Bool.not_true, Bool.not_false, decide_eq_true_eq, List.append_nil, bType, bIsi, bLen, bInt, ty_int, ty_bl, ty_str, ty_non, ty_tup, isT, oIs, oIsNot, oSub, oAdd, oIx, run_eqI, run_neI, Bool.or_false, Bool.or_true, Bool.false_or, Bool.true_or, Bool.and_true, Bool.and_false, Bool.true_and, Bool.false_and, reduceCtorEq, decide_not, Bool.not_eq_true', decide_eq_false_iff_not, askInt, askBool, askTuple, askList, askStr, oLe, oLt, oGe, oGt, oInt2, atI0, atI1, atI2]
            refine ⟨?_, .refl _⟩
            show Val.bl (decide (i = 1)) = Val.bl (decide (i = 0) || decide (i = 1))
            rw [decide_eq_false h0, Bool.false_or]
        | non => simp only [run_ok, run_okI, run_okB, run_alloc, run_stuck, run_bind, run_ite, run_noX, run_fnOf, w_c, w_op, w_un, w_call, w_callK, w_nil, w_cons, w_tup, w_lst, isB_bl, w_tval, w_tand, w_tor, w_tnot, w_and, w_or, w_not, w_if, s_next, s_seq, s_if, s_ret, s_drop, s_set, s_par, s_put, s_asg, w_var', runS_next, runS_ret, runS_stuck, runS_ite, List.length_cons, List.length_nil, List.length_singleton, List.map_cons, List.map_nil, List.cons_append, List.nil_append, List.replicate_succ, List.replicate_zero, List.getElem?_cons_zero, List.getElem?_cons_succ, List.set_cons_zero, List.set_cons_succ, Nat.reduceAdd, Nat.reduceSub, Nat.reduceEqDiff, ite_true, ite_false, if_true, if_false, reduceIte, Bool.false_eq_true, decide_true, decide_false, String.reduceEq, Int.reduceEq, Nat.reduceLeDiff, true_and, and_true, Bool.not_true, Bool.not_false, decide_eq_true_eq, List.append_nil, bType, bIsi, bLen, bInt, ty_int, ty_bl, ty_str, ty_non, ty_tup, isT, oIs, oIsNot, oSub, oAdd, oIx, run_eqI, run_neI, Bool.or_false, Bool.or_true, Bool.false_or, Bool.true_or, Bool.and_true, Bool.and_false, Bool.true_and, Bool.false_and, reduceCtorEq, decide_not, Bool.not_eq_true', decide_eq_false_iff_not, askInt, askBool, askTuple, askList, askStr, oLe, oLt, oGe, oGt, oInt2, atI0, atI1, atI2]; exact ⟨rfl, .refl _⟩
        | bl => simp only [run_ok, run_okI, run_okB, run_alloc, run_stuck, run_bind, run_ite, run_noX, run_fnOf, w_c, w_op, w_un, w_call, w_callK, w_nil, w_cons, w_tup, w_lst, isB_bl, w_tval, w_tand, w_tor, w_tnot, w_and, w_or, w_not, w_if, s_next, s_seq, s_if, s_ret, s_drop, s_set, s_par, s_put, s_asg, w_var', runS_next, runS_ret, runS_stuck, runS_ite, List.length_cons, List.length_nil, List.length_singleton, List.map_cons, List.map_nil, List.cons_append, List.nil_append, List.replicate_succ, List.replicate_zero, List.getElem?_cons_zero, List.getElem?_cons_succ, List.set_cons_zero, List.set_cons_succ, Nat.reduceAdd, Nat.reduceSub, Nat.reduceEqDiff, ite_true, ite_false, if_true, if_false, reduceIte, Bool.false_eq_true, decide_true, decide_false, String.reduceEq, Int.reduceEq, Nat.reduceLeDiff, true_and, and_true, Bool.not_true, Bool.not_false, decide_eq_true_eq, List.append_nil, bType, bIsi, bLen, bInt, ty_int, ty_bl, ty_str, ty_non, ty_tup, isT, oIs, oIsNot, oSub, oAdd, oIx, run_eqI, run_neI, Bool.or_false, Bool.or_true, Bool.false_or, Bool.true_or, Bool.and_true, Bool.and_false, Bool.true_and, Bool.false_and, reduceCtorEq, decide_not, Bool.not_eq_true', decide_eq_false_iff_not, askInt, askBool, askTuple, askList, askStr, oLe, oLt, oGe, oGt, oInt2, atI0, atI1, atI2]; exact ⟨rfl, .refl _⟩
        | str => simp only [run_ok, run_okI, run_okB, run_alloc, run_stuck, run_bind, run_ite, run_noX, run_fnOf, w_c, w_op, w_un, w_call, w_callK, w_nil, w_cons, w_tup, w_lst, isB_bl, w_tval, w_tand, w_tor, w_tnot, w_and, w_or, w_not, w_if, s_next, s_seq, s_if, s_ret, s_drop, s_set, s_par, s_put, s_asg, w_var', runS_next, runS_ret, runS_stuck, runS_ite, List.length_cons, List.length_nil, List.length_singleton, List.map_cons, List.map_nil, List.cons_append, List.nil_append, List.replicate_succ, List.replicate_zero, List.getElem?_cons_zero, List.getElem?_cons_succ, List.set_cons_zero, List.set_cons_succ, Nat.reduceAdd, Nat.reduceSub, Nat.reduceEqDiff, ite_true, ite_false, if_true, if_false, reduceIte, Bool.false_eq_true, decide_true, decide_false, String.reduceEq, Int.reduceEq, Nat.reduceLeDiff, true_and, and_true, Bool.not_true, Bool.not_false, decide_eq_true_eq, List.append_nil, bType, bIsi, bLen, bInt, ty_int, ty_bl, ty_str, ty_non, ty_tup, isT, oIs, oIsNot, oSub, oAdd, oIx, run_eqI, run_neI, Bool.or_false, Bool.or_true, Bool.false_or, Bool.true_or, Bool.and_true, Bool.and_false, Bool.true_and, Bool.false_and, reduceCtorEq, decide_not, Bool.not_eq_true', decide_eq_false_iff_not, askInt, askBool, askTuple, askList, askStr, oLe, oLt, oGe, oGt, oInt2, atI0, atI1, atI2]; exact ⟨rfl, .refl _⟩
        | tup => simp only [run_ok, run_okI, run_okB, run_alloc, run_stuck, run_bind, run_ite, run_noX, run_fnOf, w_c, w_op, w_un, w_call, w_callK, w_nil, w_cons, w_tup, w_lst, isB_bl, w_tval, w_tand, w_tor, w_tnot, w_and, w_or, w_not, w_if, s_next, s_seq, s_if, s_ret, s_drop, s_set, s_par, s_put, s_asg, w_var', runS_next, runS_ret, runS_stuck, runS_ite, List.length_cons, List.length_nil, List.length_singleton, List.map_cons, List.map_nil, List.cons_append, List.nil_append, List.replicate_succ, List.replicate_zero, List.getElem?_cons_zero, List.getElem?_cons_succ, List.set_cons_zero, List.set_cons_succ, Nat.reduceAdd, Nat.reduceSub, Nat.reduceEqDiff, ite_true, ite_false, if_true, if_false, reduceIte, Bool.false_eq_true, decide_true, decide_false, String.reduceEq, Int.reduceEq, Nat.reduceLeDiff, true_and, and_true, Bool.not_true, Bool.not_false, decide_eq_true_eq, List.append_nil, bType, bIsi, bLen, bInt, ty_int, ty_bl, ty_str, ty_non, ty_tup, isT, oIs, oIsNot, oSub, oAdd, oIx, run_eqI, run_neI, Bool.or_false, Bool.or_true, Bool.false_or, Bool.true_or, Bool.and_true, Bool.and_false, Bool.true_and, Bool.false_and, reduceCtorEq, decide_not, Bool.not_eq_true', decide_eq_false_iff_not, askInt, askBool, askTuple, askList, askStr, oLe, oLt, oGe, oGt, oInt2, atI0, atI1, atI2]; exact ⟨rfl, .refl _⟩
        | ref hm _ => simp only [ty_ref hm, run_ok, run_okI, run_okB, run_alloc, run_stuck, run_bind, run_ite, run_noX, run_fnOf, w_c, w_op, w_un, w_call, w_callK, w_nil, w_cons, w_tup, w_lst, isB_bl, w_tval, w_tand, w_tor, w_tnot, w_and, w_or, w_not, w_if, s_next, s_seq, s_if, s_ret, s_drop, s_set, s_par, s_put, s_asg, w_var', runS_next, runS_ret, runS_stuck, runS_ite, List.length_cons, List.length_nil, List.length_singleton, List.map_cons, List.map_nil, List.cons_append, List.nil_append, List.replicate_succ, List.replicate_zero, List.getElem?_cons_zero, List.getElem?_cons_succ, List.set_cons_zero, List.set_cons_succ, Nat.reduceAdd, Nat.reduceSub, Nat.reduceEqDiff, ite_true, ite_false, if_true, if_false, reduceIte, Bool.false_eq_true, decide_true, decide_false, String.reduceEq, Int.reduceEq, Nat.reduceLeDiff, true_and, and_true, Bool.not_true, Bool.not_false, decide_eq_true_eq, List.append_nil, bType, bIsi, bLen, bInt, ty_int, ty_bl, ty_str, ty_non, ty_tup, isT, oIs, oIsNot, oSub, oAdd, oIx, run_eqI, run_neI, Bool.or_false, Bool.or_true, Bool.false_or, Bool.true_or, Bool.and_true, Bool.and_false, Bool.true_and, Bool.false_and, reduceCtorEq, decide_not, Bool.not_eq_true', decide_eq_false_iff_not, askInt, askBool, askTuple, askList, askStr, oLe, oLt, oGe, oGt, oInt2, atI0, atI1, atI2]; exact ⟨rfl, .refl _⟩
      · subst e1
        refine Run.mono all_bl fun r S2 ⟨e2, e3⟩ => ?_
        subst e2 e3
        refine ⟨?_, (g1.trans (Gr.add _ _)).kp⟩
        show Val.bl (xs.all isHalf) = Val.bl (decide (xs.length ≤ 12) && xs.all isHalf)
        rw [decide_eq_true hl, Bool.true_and]
    · rw [if_pos (by omega)]
      refine ⟨?_, .refl _⟩
      show Val.bl false = Val.bl (decide (xs.length ≤ 12) && xs.all isHalf)
      rw [decide_eq_false hl, Bool.false_and]
theorem isDot_len {xs : List Val} (h : xs.length ≠ 2) : isDot (.tup xs) = false := by
  match xs, h with
  | [], _ => rfl
  | [_], _ => rfl
  | [_, _], h => exact absurd rfl h
  | _ :: b :: _ :: _, _ => cases b <;> rfl
theorem p_is_dot {e n : Nat} {v : Val} {S : Store} (hv : Da S e v) (he : e < 60) (hn : 1 < n) : Run ((fns n).is_dot [v] S) (PureK S (.bl (isDot v))) := by
  obtain ⟨n, rfl⟩ : ∃ m, n = m + 1 := ⟨n - 1, by omega⟩
  show Run (fnOf 1 1 (b_is_dot (fns n)) [v] S) _
  unfold b_is_dot
  cases hv with
  | int _ i => simp only [run_ok, run_okI, run_okB, run_alloc, run_stuck, run_bind, run_ite, run_noX, run_fnOf, w_c, w_op, w_un, w_call, w_callK, w_nil, w_cons, w_tup, w_lst, isB_bl, w_tval, w_tand, w_tor, w_tnot, w_and, w_or, w_not, w_if, s_next, s_seq, s_if, s_ret, s_drop, s_set, s_par, s_put, s_asg, w_var', runS_next, runS_ret, runS_stuck, runS_ite, List.length_cons, List.length_nil, List.length_singleton, List.map_cons, List.map_nil, List.cons_append, List.nil_append, List.replicate_succ, List.replicate_zero, List.getElem?_cons_zero, List.getElem?_cons_succ, List.set_cons_zero, List.set_cons_succ, Nat.reduceAdd, Nat.reduceSub, Nat.reduceEqDiff, ite_true, ite_false, if_true, if_false, reduceIte, Bool.false_eq_true, decide_true, decide_false, String.reduceEq, Int.reduceEq, Nat.reduceLeDiff, true_and, and_true, Bool.not_true, Bool.not_false, decide_eq_true_eq, List.append_nil, bType, bIsi, bLen, bInt, ty_int, ty_bl, ty_str, ty_non, ty_tup, isT, oIs, oIsNot, oSub, oAdd, oIx, run_eqI, run_neI, Bool.or_false, Bool.or_true, Bool.false_or, Bool.true_or, Bool.and_true, Bool.and_false, Bool.true_and, Bool.false_and, reduceCtorEq, decide_not, Bool.not_eq_true', decide_eq_false_iff_not, askInt, askBool, askTuple, askList, askStr, oLe, oLt, oGe, oGt, oInt2, atI0, atI1, atI2]; exact ⟨rfl, .refl _⟩
  | non => simp only [run_ok, run_okI, run_okB, run_alloc, run_stuck, run_bind, run_ite, run_noX, run_fnOf, w_c, w_op, w_un, w_call, w_callK, w_nil, w_cons, w_tup, w_lst, isB_bl, w_tval, w_tand, w_tor, w_tnot, w_and, w_or, w_not, w_if, s_next, s_seq, s_if, s_ret, s_drop, s_set, s_par, s_put, s_asg, w_var', runS_next, runS_ret, runS_stuck, runS_ite, List.length_cons, List.length_nil, List.length_singleton, List.map_cons, List.map_nil, List.cons_append, List.nil_append, List.replicate_succ, List.replicate_zero, List.getElem?_cons_zero, List.getElem?_cons_succ, List.set_cons_zero, List.set_cons_succ, Nat.reduceAdd, Nat.reduceSub, Nat.reduceEqDiff, ite_true, ite_false, if_true, if_false, reduceIte, Bool.false_eq_true, decide_true, decide_false, String.reduceEq, Int.reduceEq, Nat.reduceLeDiff, true_and, and_true, Bool.not_true, Bool.not_false, decide_eq_true_eq, List.append_nil, bType, bIsi, bLen, bInt, ty_int, ty_bl, ty_str, ty_non, ty_tup, isT, oIs, oIsNot, oSub, oAdd, oIx, run_eqI, run_neI, Bool.or_false, Bool.or_true, Bool.false_or, Bool.true_or, Bool.and_true, Bool.and_false, Bool.true_and, Bool.false_and, reduceCtorEq, decide_not, Bool.not_eq_true', decide_eq_false_iff_not, askInt, askBool, askTuple, askList, askStr, oLe, oLt, oGe, oGt, oInt2, atI0, atI1, atI2]; exact ⟨rfl, .refl _⟩
  | bl => simp only [run_ok, run_okI, run_okB, run_alloc, run_stuck, run_bind, run_ite, run_noX, run_fnOf, w_c, w_op, w_un, w_call, w_callK, w_nil, w_cons, w_tup, w_lst, isB_bl, w_tval, w_tand, w_tor, w_tnot, w_and, w_or, w_not, w_if, s_next, s_seq, s_if, s_ret, s_drop, s_set, s_par, s_put, s_asg, w_var', runS_next, runS_ret, runS_stuck, runS_ite, List.length_cons, List.length_nil, List.length_singleton, List.map_cons, List.map_nil, List.cons_append, List.nil_append, List.replicate_succ, List.replicate_zero, List.getElem?_cons_zero, List.getElem?_cons_succ, List.set_cons_zero, List.set_cons_succ, Nat.reduceAdd, Nat.reduceSub, Nat.reduceEqDiff, ite_true, ite_false, if_true, if_false, reduceIte, Bool.false_eq_true, decide_true, decide_false, String.reduceEq, Int.reduceEq, Nat.reduceLeDiff, true_and, and_true, Bool.not_true, Bool.not_false, decide_eq_true_eq, List.append_nil, bType, bIsi, bLen, bInt, ty_int, ty_bl, ty_str, ty_non, ty_tup, isT, oIs, oIsNot, oSub, oAdd, oIx, run_eqI, run_neI, Bool.or_false, Bool.or_true, Bool.false_or, Bool.true_or, Bool.and_true, Bool.and_false, Bool.true_and, Bool.false_and, reduceCtorEq, decide_not, Bool.not_eq_true', decide_eq_false_iff_not, askInt, askBool, askTuple, askList, askStr, oLe, oLt, oGe, oGt, oInt2, atI0, atI1, atI2]; exact ⟨rfl, .refl _⟩
  | str => simp only [run_ok, run_okI, run_okB, run_alloc, run_stuck, run_bind, run_ite, run_noX, run_fnOf, w_c, w_op, w_un, w_call, w_callK, w_nil, w_cons, w_tup, w_lst, isB_bl, w_tval, w_tand, w_tor, w_tnot, w_and, w_or, w_not, w_if, s_next, s_seq, s_if, s_ret, s_drop, s_set, s_par, s_put, s_asg, w_var', runS_next, runS_ret, runS_stuck, runS_ite, List.length_cons, List.length_nil, List.length_singleton, List.map_cons, List.map_nil, List.cons_append, List.nil_append, List.replicate_succ, List.replicate_zero, List.getElem?_cons_zero, List.getElem?_cons_succ, List.set_cons_zero, List.set_cons_succ, Nat.reduceAdd, Nat.reduceSub, Nat.reduceEqDiff, ite_true, ite_false, if_true, if_false, reduceIte, Bool.false_eq_true, decide_true, decide_false, String.reduceEq, Int.reduceEq, Nat.reduceLeDiff, true_and, and_true, Bool.not_true, Bool.not_false, decide_eq_true_eq, List.append_nil, bType, bIsi, bLen, bInt, ty_int, ty_bl, ty_str, ty_non, ty_tup, isT, oIs, oIsNot, oSub, oAdd, oIx, run_eqI, run_neI, Bool.or_false, Bool.or_true, Bool.false_or, Bool.true_or, Bool.and_true, Bool.and_false, Bool.true_and, Bool.false_and, reduceCtorEq, decide_not, Bool.not_eq_true', decide_eq_false_iff_not, askInt, askBool, askTuple, askList, askStr, oLe, oLt, oGe, oGt, oInt2, atI0, atI1, atI2]; exact ⟨rfl, .refl _⟩
  | @ref _ m ys hm _ => simp only [ty_ref hm, run_ok, run_okI, run_okB, run_alloc, run_stuck, run_bind, run_ite, run_noX, run_fnOf, w_c, w_op, w_un, w_call, w_callK, w_nil, w_cons, w_tup, w_lst, isB_bl, w_tval, w_tand, w_tor, w_tnot, w_and, w_or, w_not, w_if, s_next, s_seq, s_if, s_ret, s_drop, s_set, s_par, s_put, s_asg, w_var', runS_next, runS_ret, runS_stuck, runS_ite, List.length_cons, List.length_nil, List.length_singleton, List.map_cons, List.map_nil, List.cons_append, List.nil_append, List.replicate_succ, List.replicate_zero, List.getElem?_cons_zero, List.getElem?_cons_succ, List.set_cons_zero, List.set_cons_succ, Nat.reduceAdd, Nat.reduceSub, Nat.reduceEqDiff, ite_true, ite_false, if_true, if_false, reduceIte, Bool.false_eq_true, decide_true, decide_false, String.reduceEq, Int.reduceEq, Nat.reduceLeDiff, true_and, and_true, Bool.not_true, Bool.not_false, decide_eq_true_eq, List.append_nil, bType, bIsi, bLen, bInt, ty_int, ty_bl, ty_str, ty_non, ty_tup, isT, oIs, oIsNot, oSub, oAdd, oIx, run_eqI, run_neI, Bool.or_false, Bool.or_true, Bool.false_or, Bool.true_or, Bool.and_true, Bool.and_false, Bool.true_and, Bool.false_and, reduceCtorEq, decide_not, Bool.not_eq_true', decide_eq_false_iff_not, askInt, askBool, askTuple, askList, askStr, oLe, oLt, oGe, oGt, oInt2, atI0, atI1, atI2]; exact ⟨rfl, .refl _⟩
  | @tup e' xs hx =>
    by_cases hl : xs.length = 2
    · obtain ⟨a, b, rfl⟩ := two_of hl
      have ha := hx a (by simp)
      have hb := hx b (by simp)
      simp only [run_ok, run_okI, run_okB, run_alloc, run_stuck, run_bind, run_ite, run_noX, run_fnOf, w_c, w_op, w_un, w_call, w_callK, w_nil, w_cons, w_tup, w_lst, isB_bl, w_tval, w_tand, w_tor, w_tnot, w_and, w_or, w_not, w_if, s_next, s_seq, s_if, s_ret, s_drop, s_set, s_par, s_put, s_asg, w_var', runS_next, runS_ret, runS_stuck, runS_ite, List.length_cons, List.length_nil, List.length_singleton, List.map_cons, List.map_nil, List.cons_append, List.nil_append, List.replicate_succ, List.replicate_zero, List.getElem?_cons_zero, List.getElem?_cons_succ, List.set_cons_zero, List.set_cons_succ, Nat.reduceAdd, Nat.reduceSub, Nat.reduceEqDiff, ite_true, ite_false, if_true, if_false, reduceIte, Bool.false_eq_true, decide_true, decide_false, String.reduceEq, Int.reduceEq, Nat.reduceLeDiff, true_and, and_true, Bool.not_true, Bool.not_false, decide_eq_true_eq, List.append_nil, bType, bIsi, bLen, bInt, ty_int, ty_bl, ty_str, ty_non, ty_tup, isT, oIs, oIsNot, oSub, oAdd, oIx, run_eqI, run_neI, Bool.or_false, Bool.or_true, Bool.false_or, Bool.true_or, Bool.and_true, Bool.and_false, Bool.true_and, Bool.false_and, reduceCtorEq, decide_not, Bool.not_eq_true', decide_eq_false_iff_not, askInt, askBool, askTuple, askList, askStr, oLe, oLt, oGe, oGt, oInt2, atI0, atI1, atI2]
      rw [if_neg (by simp)]
      refine Run.mono (p_is_path ha (by omega) (by omega)) fun r S1 ⟨e1, k1⟩ => ?_
      subst e1
      have hb1 := hb.kp k1
      cases hp : isPa a with
      | false =>
        simp only [run_ok, run_okI, run_okB, run_alloc, run_stuck, run_bind, run_ite, run_noX, run_fnOf, w_c, w_op, w_un, w_call, w_callK, w_nil, w_cons, w_tup, w_lst, isB_bl, w_tval, w_tand, w_tor, w_tnot, w_and, w_or, w_not, w_if, s_next, s_seq, s_if, s_ret, s_drop, s_set, s_par, s_put, s_asg, w_var', runS_next, runS_ret, runS_stuck, runS_ite, List.length_cons, List.length_nil, List.length_singleton, List.map_cons, List.map_nil, List.cons_append, List.nil_append, List.replicate_succ, List.replicate_zero, List.getElem?_cons_zero, List.getElem?_cons_succ, List.set_cons_zero, List.set_cons_succ, Nat.reduceAdd, Nat.reduceSub, Nat.reduceEqDiff, ite_true, ite_false, if_true, if_false, reduceIte, Bool.false_eq_true, decide_true, decide_false, String.reduceEq, Int.reduceEq, Nat.reduceLeDiff, true_and, and_true, Bool.not_true, Bool.not_false, decide_eq_true_eq, List.append_nil, bType, bIsi, bLen, bInt, ty_int, ty_bl, ty_str, ty_non, ty_tup, isT, oIs, oIsNot, oSub, oAdd, oIx, run_eqI, run_neI, Bool.or_false, Bool.or_true, Bool.false_or, Bool.true_or, Bool.and_true, Bool.and_false, Bool.true_and, Bool.false_and, reduceCtorEq, decide_not, Bool.not_eq_true', decide_eq_false_iff_not, askInt, askBool, askTuple, askList, askStr, oLe, oLt, oGe, oGt, oInt2, atI0, atI1, atI2]
        refine ⟨?_, k1⟩
        cases b <;> simp [isDot, hp]
      | true =>
        simp only [run_ok, run_okI, run_okB, run_alloc, run_stuck, run_bind, run_ite, run_noX, run_fnOf, w_c, w_op, w_un, w_call, w_callK, w_nil, w_cons, w_tup, w_lst, isB_bl, w_tval, w_tand, w_tor, w_tnot, w_and, w_or, w_not, w_if, s_next, s_seq, s_if, s_ret, s_drop, s_set, s_par, s_put, s_asg, w_var', runS_next, runS_ret, runS_stuck, runS_ite, List.length_cons, List.length_nil, List.length_singleton, List.map_cons, List.map_nil, List.cons_append, List.nil_append, List.replicate_succ, List.replicate_zero, List.getElem?_cons_zero, List.getElem?_cons_succ, List.set_cons_zero, List.set_cons_succ, Nat.reduceAdd, Nat.reduceSub, Nat.reduceEqDiff, ite_true, ite_false, if_true, if_false, reduceIte, Bool.false_eq_true, decide_true, decide_false, String.reduceEq, Int.reduceEq, Nat.reduceLeDiff, true_and, and_true, Bool.not_true, Bool.not_false, decide_eq_true_eq, List.append_nil, bType, bIsi, bLen, bInt, ty_int, ty_bl, ty_str, ty_non, ty_tup, isT, oIs, oIsNot, oSub, oAdd, oIx, run_eqI, run_neI, Bool.or_false, Bool.or_true, Bool.false_or, Bool.true_or, Bool.and_true, Bool.and_false, Bool.true_and, Bool.false_and, reduceCtorEq, decide_not, Bool.not_eq_true', decide_eq_false_iff_not, askInt, askBool, askTuple, askList, askStr, oLe, oLt, oGe, oGt, oInt2, atI0, atI1, atI2]
        cases hb1 with
        | int _ w => simp only [run_ok, run_okI, run_okB, run_alloc, run_stuck, run_bind, run_ite, run_noX, run_fnOf, w_c, w_op, w_un, w_call, w_callK, w_nil, w_cons, w_tup, w_lst, isB_bl, w_tval, w_tand, w_tor, w_tnot, w_and, w_or, w_not, w_if, s_next, s_seq, s_if, s_ret, s_drop, s_set, s_par, s_put, s_asg, w_var', runS_next, runS_ret, runS_stuck, runS_ite, List.length_cons, List.length_nil, List.length_singleton, List.map_cons, List.map_nil, List.cons_append, List.nil_append, List.replicate_succ, List.replicate_zero, List.getElem?_cons_zero, List.getElem?_cons_succ, List.set_cons_zero, List.set_cons_succ, Nat.reduceAdd, Nat.reduceSub, Nat.reduceEqDiff, ite_true, ite_false, if_true, if_false, reduceIte, Bool.false_eq_true, decide_true, decide_false, String.reduceEq, Int.reduceEq, Nat.reduceLeDiff, true_and, and_true, Bool.not_true, Bool.not_false, decide_eq_true_eq, List.append_nil, bType, bIsi, bLen, bInt, ty_int, ty_bl, ty_str, ty_non, ty_tup, isT, oIs, oIsNot, oSub, oAdd, oIx, run_eqI, run_neI, Bool.or_false, Bool.or_true, Bool.false_or, Bool.true_or, Bool.and_true, Bool.and_false, Bool.true_and, Bool.false_and, reduceCtorEq, decide_not, Bool.not_eq_true', decide_eq_false_iff_not, askInt, askBool, askTuple, askList, askStr, oLe, oLt, oGe, oGt, oInt2, atI0, atI1, atI2]; exact ⟨by simp [isDot, hp], k1⟩
        | non => simp only [run_ok, run_okI, run_okB, run_alloc, run_stuck, run_bind, run_ite, run_noX, run_fnOf, w_c, w_op, w_un, w_call, w_callK, w_nil, w_cons, w_tup, w_lst, isB_bl, w_tval, w_tand, w_tor, w_tnot, w_and, w_or, w_not, w_if, s_next, s_seq, s_if, s_ret, s_drop, s_set, s_par, s_put, s_asg, w_var', runS_next, runS_ret, runS_stuck, runS_ite, List.length_cons, List.length_nil, List.length_singleton, List.map_cons, List.map_nil, List.cons_append, List.nil_append, List.replicate_succ, List.replicate_zero, List.getElem?_cons_zero, List.getElem?_cons_succ, List.set_cons_zero, List.set_cons_succ, Nat.reduceAdd, Nat.reduceSub, Nat.reduceEqDiff, ite_true, ite_false, if_true, if_false, reduceIte, Bool.false_eq_true, decide_true, decide_false, String.reduceEq, Int.reduceEq, Nat.reduceLeDiff, true_and, and_true, Bool.not_true, Bool.not_false, decide_eq_true_eq, List.append_nil, bType, bIsi, bLen, bInt, ty_int, ty_bl, ty_str, ty_non, ty_tup, isT, oIs, oIsNot, oSub, oAdd, oIx, run_eqI, run_neI, Bool.or_false, Bool.or_true, Bool.false_or, Bool.true_or, Bool.and_true, Bool.and_false, Bool.true_and, Bool.false_and, reduceCtorEq, decide_not, Bool.not_eq_true', decide_eq_false_iff_not, askInt, askBool, askTuple, askList, askStr, oLe, oLt, oGe, oGt, oInt2, atI0, atI1, atI2]; exact ⟨rfl, k1⟩
        | bl => simp only [run_ok, run_okI, run_okB, run_alloc, run_stuck, run_bind, run_ite, run_noX, run_fnOf, w_c, w_op, w_un, w_call, w_callK, w_nil, w_cons, w_tup, w_lst, isB_bl, w_tval, w_tand, w_tor, w_tnot, w_and, w_or, w_not, w_if, s_next, s_seq, s_if, s_ret, s_drop, s_set, s_par, s_put, s_asg, w_var', runS_next, runS_ret, runS_stuck, runS_ite, List.length_cons, List.length_nil, List.length_singleton, List.map_cons, List.map_nil, List.cons_append, List.nil_append, List.replicate_succ, List.replicate_zero, List.getElem?_cons_zero, List.getElem?_cons_succ, List.set_cons_zero, List.set_cons_succ, Nat.reduceAdd, Nat.reduceSub, Nat.reduceEqDiff, ite_true, ite_false, if_true, if_false, reduceIte, Bool.false_eq_true, decide_true, decide_false, String.reduceEq, Int.reduceEq, Nat.reduceLeDiff, true_and, and_true, Bool.not_true, Bool.not_false, decide_eq_true_eq, List.append_nil, bType, bIsi, bLen, bInt, ty_int, ty_bl, ty_str, ty_non, ty_tup, isT, oIs, oIsNot, oSub, oAdd, oIx, run_eqI, run_neI, Bool.or_false, Bool.or_true, Bool.false_or, Bool.true_or, Bool.and_true, Bool.and_false, Bool.true_and, Bool.false_and, reduceCtorEq, decide_not, Bool.not_eq_true', decide_eq_false_iff_not, askInt, askBool, askTuple, askList, askStr, oLe, oLt, oGe, oGt, oInt2, atI0, atI1, atI2]; exact ⟨rfl, k1⟩
        | str => simp only [run_ok, run_okI, run_okB, run_alloc, run_stuck, run_bind, run_ite, run_noX, run_fnOf, w_c, w_op, w_un, w_call, w_callK, w_nil, w_cons, w_tup, w_lst, isB_bl, w_tval, w_tand, w_tor, w_tnot, w_and, w_or, w_not, w_if, s_next, s_seq, s_if, s_ret, s_drop, s_set, s_par, s_put, s_asg, w_var', runS_next, runS_ret, runS_stuck, runS_ite, List.length_cons, List.length_nil, List.length_singleton, List.map_cons, List.map_nil, List.cons_append, List.nil_append, List.replicate_succ, List.replicate_zero, List.getElem?_cons_zero, List.getElem?_cons_succ, List.set_cons_zero, List.set_cons_succ, Nat.reduceAdd, Nat.reduceSub, Nat.reduceEqDiff, ite_true, ite_false, if_true, if_false, reduceIte, Bool.false_eq_true, decide_true, decide_false, String.reduceEq, Int.reduceEq, Nat.reduceLeDiff, true_and, and_true, Bool.not_true, Bool.not_false, decide_eq_true_eq, List.append_nil, bType, bIsi, bLen, bInt, ty_int, ty_bl, ty_str, ty_non, ty_tup, isT, oIs, oIsNot, oSub, oAdd, oIx, run_eqI, run_neI, Bool.or_false, Bool.or_true, Bool.false_or, Bool.true_or, Bool.and_true, Bool.and_false, Bool.true_and, Bool.false_and, reduceCtorEq, decide_not, Bool.not_eq_true', decide_eq_false_iff_not, askInt, askBool, askTuple, askList, askStr, oLe, oLt, oGe, oGt, oInt2, atI0, atI1, atI2]; exact ⟨rfl, k1⟩
        | tup => simp only [run_ok, run_okI, run_okB, run_alloc, run_stuck, run_bind, run_ite, run_noX, run_fnOf, w_c, w_op, w_un, w_call, w_callK, w_nil, w_cons, w_tup, w_lst, isB_bl, w_tval, w_tand, w_tor, w_tnot, w_and, w_or, w_not, w_if, s_next, s_seq, s_if, s_ret, s_drop, s_set, s_par, s_put, s_asg, w_var', runS_next, runS_ret, runS_stuck, runS_ite, List.length_cons, List.length_nil, List.length_singleton, List.map_cons, List.map_nil, List.cons_append, List.nil_append, List.replicate_succ, List.replicate_zero, List.getElem?_cons_zero, List.getElem?_cons_succ, List.set_cons_zero, List.set_cons_succ, Nat.reduceAdd, Nat.reduceSub, Nat.reduceEqDiff, ite_true, ite_false, if_true, if_false, reduceIte, Bool.false_eq_true, decide_true, decide_false, String.reduceEq, Int.reduceEq, Nat.reduceLeDiff, true_and, and_true, Bool.not_true, Bool.not_false, decide_eq_true_eq, List.append_nil, bType, bIsi, bLen, bInt, ty_int, ty_bl, ty_str, ty_non, ty_tup, isT, oIs, oIsNot, oSub, oAdd, oIx, run_eqI, run_neI, Bool.or_false, Bool.or_true, Bool.false_or, Bool.true_or, Bool.and_true, Bool.and_false, Bool.true_and, Bool.false_and, reduceCtorEq, decide_not, Bool.not_eq_true', decide_eq_false_iff_not, askInt, askBool, askTuple, askList, askStr, oLe, oLt, oGe, oGt, oInt2, atI0, atI1, atI2]; exact ⟨rfl, k1⟩
        | ref hm _ => simp only [ty_ref hm, run_ok, run_okI, run_okB, run_alloc, run_stuck, run_bind, run_ite, run_noX, run_fnOf, w_c, w_op, w_un, w_call, w_callK, w_nil, w_cons, w_tup, w_lst, isB_bl, w_tval, w_tand, w_tor, w_tnot, w_and, w_or, w_not, w_if, s_next, s_seq, s_if, s_ret, s_drop, s_set, s_par, s_put, s_asg, w_var', runS_next, runS_ret, runS_stuck, runS_ite, List.length_cons, List.length_nil, List.length_singleton, List.map_cons, List.map_nil, List.cons_append, List.nil_append, List.replicate_succ, List.replicate_zero, List.getElem?_cons_zero, List.getElem?_cons_succ, List.set_cons_zero, List.set_cons_succ, Nat.reduceAdd, Nat.reduceSub, Nat.reduceEqDiff, ite_true, ite_false, if_true, if_false, reduceIte, Bool.false_eq_true, decide_true, decide_false, String.reduceEq, Int.reduceEq, Nat.reduceLeDiff, true_and, and_true, Bool.not_true, Bool.not_false, decide_eq_true_eq, List.append_nil, bType, bIsi, bLen, bInt, ty_int, ty_bl, ty_str, ty_non, ty_tup, isT, oIs, oIsNot, oSub, oAdd, oIx, run_eqI, run_neI, Bool.or_false, Bool.or_true, Bool.false_or, Bool.true_or, Bool.and_true, Bool.and_false, Bool.true_and, Bool.false_and, reduceCtorEq, decide_not, Bool.not_eq_true', decide_eq_false_iff_not, askInt, askBool, askTuple, askList, askStr, oLe, oLt, oGe, oGt, oInt2, atI0, atI1, atI2]; exact ⟨rfl, k1⟩
    · simp only [run_ok, run_okI, run_okB, run_alloc, run_stuck, run_bind, run_ite, run_noX, run_fnOf, w_c, w_op, w_un, w_call, w_callK, w_nil, w_cons, w_tup, w_lst, isB_bl, w_tval, w_tand, w_tor, w_tnot, w_and, w_or, w_not, w_if, s_next, s_seq, s_if, s_ret, s_drop, s_set, s_par, s_put, s_asg, w_var', runS_next, runS_ret, runS_stuck, runS_ite, List.length_cons, List.length_nil, List.length_singleton, List.map_cons, List.map_nil, List.cons_append, List.nil_append, List.replicate_succ, List.replicate_zero, List.getElem?_cons_zero, List.getElem?_cons_succ, List.set_cons_zero, List.set_cons_succ, Nat.reduceAdd, Nat.reduceSub, Nat.reduceEqDiff, ite_true, ite_false, if_true, if_false, reduceIte, Bool.false_eq_true, decide_true, decide_false, String.reduceEq, Int.reduceEq, Nat.reduceLeDiff, true_and, and_true, Bool.not_true, Bool.not_false, decide_eq_true_eq, List.append_nil, bType, bIsi, bLen, bInt, ty_int, ty_bl, ty_str, ty_non, ty_tup, isT, oIs, oIsNot, oSub, oAdd, oIx, run_eqI, run_neI, Bool.or_false, Bool.or_true, Bool.false_or, Bool.true_or, Bool.and_true, Bool.and_false, Bool.true_and, Bool.false_and, reduceCtorEq, decide_not, Bool.not_eq_true', decide_eq_false_iff_not, askInt, askBool, askTuple, askList, askStr, oLe, oLt, oGe, oGt, oInt2, atI0, atI1, atI2]
      rw [if_pos (by omega), isDot_len hl]
      exact ⟨rfl, .refl _⟩
/-! ### the law's own look -/
theorem l_num {e n : Nat} {v : Val} {S : Store} (hv : Da S e v) (hn : 0 < n) : Run ((fns n)._law_number [v] S) (fun r S' => r = .bl (intV v) ∧ S' = S) := by
  obtain ⟨n, rfl⟩ : ∃ m, n = m + 1 := ⟨n - 1, by omega⟩
  show Run (fnOf 1 1 (b__law_number (fns n)) [v] S) _
  unfold b__law_number
  cases hv with
  | int _ i => simp only [run_ok, run_okI, run_okB, run_alloc, run_stuck, run_bind, run_ite, run_noX, run_fnOf, w_c, w_op, w_un, w_call, w_callK, w_nil, w_cons, w_tup, w_lst, isB_bl, w_tval, w_tand, w_tor, w_tnot, w_and, w_or, w_not, w_if, s_next, s_seq, s_if, s_ret, s_drop, s_set, s_par, s_put, s_asg, w_var', runS_next, runS_ret, runS_stuck, runS_ite, List.length_cons, List.length_nil, List.length_singleton, List.map_cons, List.map_nil, List.cons_append, List.nil_append, List.replicate_succ, List.replicate_zero, List.getElem?_cons_zero, List.getElem?_cons_succ, List.set_cons_zero, List.set_cons_succ, Nat.reduceAdd, Nat.reduceSub, Nat.reduceEqDiff, ite_true, ite_false, if_true, if_false, reduceIte, Bool.false_eq_true, decide_true, decide_false, String.reduceEq, Int.reduceEq, Nat.reduceLeDiff, true_and, and_true, Bool.not_true, Bool.not_false, decide_eq_true_eq, List.append_nil, bType, bIsi, bLen, bInt, ty_int, ty_bl, ty_str, ty_non, ty_tup, isT, oIs, oIsNot, oSub, oAdd, oIx, run_eqI, run_neI, Bool.or_false, Bool.or_true, Bool.false_or, Bool.true_or, Bool.and_true, Bool.and_false, Bool.true_and, Bool.false_and, reduceCtorEq, decide_not, Bool.not_eq_true', decide_eq_false_iff_not, askInt, askBool, askTuple, askList, askStr, oLe, oLt, oGe, oGt, oInt2, atI0, atI1, atI2]; exact rfl
  | non => simp only [run_ok, run_okI, run_okB, run_alloc, run_stuck, run_bind, run_ite, run_noX, run_fnOf, w_c, w_op, w_un, w_call, w_callK, w_nil, w_cons, w_tup, w_lst, isB_bl, w_tval, w_tand, w_tor, w_tnot, w_and, w_or, w_not, w_if, s_next, s_seq, s_if, s_ret, s_drop, s_set, s_par, s_put, s_asg, w_var', runS_next, runS_ret, runS_stuck, runS_ite, List.length_cons, List.length_nil, List.length_singleton, List.map_cons, List.map_nil, List.cons_append, List.nil_append, List.replicate_succ, List.replicate_zero, List.getElem?_cons_zero, List.getElem?_cons_succ, List.set_cons_zero, List.set_cons_succ, Nat.reduceAdd, Nat.reduceSub, Nat.reduceEqDiff, ite_true, ite_false, if_true, if_false, reduceIte, Bool.false_eq_true, decide_true, decide_false, String.reduceEq, Int.reduceEq, Nat.reduceLeDiff, true_and, and_true, Bool.not_true, Bool.not_false, decide_eq_true_eq, List.append_nil, bType, bIsi, bLen, bInt, ty_int, ty_bl, ty_str, ty_non, ty_tup, isT, oIs, oIsNot, oSub, oAdd, oIx, run_eqI, run_neI, Bool.or_false, Bool.or_true, Bool.false_or, Bool.true_or, Bool.and_true, Bool.and_false, Bool.true_and, Bool.false_and, reduceCtorEq, decide_not, Bool.not_eq_true', decide_eq_false_iff_not, askInt, askBool, askTuple, askList, askStr, oLe, oLt, oGe, oGt, oInt2, atI0, atI1, atI2]; exact rfl
  | bl => simp only [run_ok, run_okI, run_okB, run_alloc, run_stuck, run_bind, run_ite, run_noX, run_fnOf, w_c, w_op, w_un, w_call, w_callK, w_nil, w_cons, w_tup, w_lst, isB_bl, w_tval, w_tand, w_tor, w_tnot, w_and, w_or, w_not, w_if, s_next, s_seq, s_if, s_ret, s_drop, s_set, s_par, s_put, s_asg, w_var', runS_next, runS_ret, runS_stuck, runS_ite, List.length_cons, List.length_nil, List.length_singleton, List.map_cons, List.map_nil, List.cons_append, List.nil_append, List.replicate_succ, List.replicate_zero, List.getElem?_cons_zero, List.getElem?_cons_succ, List.set_cons_zero, List.set_cons_succ, Nat.reduceAdd, Nat.reduceSub, Nat.reduceEqDiff, ite_true, ite_false, if_true, if_false, reduceIte, Bool.false_eq_true, decide_true, decide_false, String.reduceEq, Int.reduceEq, Nat.reduceLeDiff, true_and, and_true, Bool.not_true, Bool.not_false, decide_eq_true_eq, List.append_nil, bType, bIsi, bLen, bInt, ty_int, ty_bl, ty_str, ty_non, ty_tup, isT, oIs, oIsNot, oSub, oAdd, oIx, run_eqI, run_neI, Bool.or_false, Bool.or_true, Bool.false_or, Bool.true_or, Bool.and_true, Bool.and_false, Bool.true_and, Bool.false_and, reduceCtorEq, decide_not, Bool.not_eq_true', decide_eq_false_iff_not, askInt, askBool, askTuple, askList, askStr, oLe, oLt, oGe, oGt, oInt2, atI0, atI1, atI2]; exact rfl
  | str => simp only [run_ok, run_okI, run_okB, run_alloc, run_stuck, run_bind, run_ite, run_noX, run_fnOf, w_c, w_op, w_un, w_call, w_callK, w_nil, w_cons, w_tup, w_lst, isB_bl, w_tval, w_tand, w_tor, w_tnot, w_and, w_or, w_not, w_if, s_next, s_seq, s_if, s_ret, s_drop, s_set, s_par, s_put, s_asg, w_var', runS_next, runS_ret, runS_stuck, runS_ite, List.length_cons, List.length_nil, List.length_singleton, List.map_cons, List.map_nil, List.cons_append, List.nil_append, List.replicate_succ, List.replicate_zero, List.getElem?_cons_zero, List.getElem?_cons_succ, List.set_cons_zero, List.set_cons_succ, Nat.reduceAdd, Nat.reduceSub, Nat.reduceEqDiff, ite_true, ite_false, if_true, if_false, reduceIte, Bool.false_eq_true, decide_true, decide_false, String.reduceEq, Int.reduceEq, Nat.reduceLeDiff, true_and, and_true, Bool.not_true, Bool.not_false, decide_eq_true_eq, List.append_nil, bType, bIsi, bLen, bInt, ty_int, ty_bl, ty_str, ty_non, ty_tup, isT, oIs, oIsNot, oSub, oAdd, oIx, run_eqI, run_neI, Bool.or_false, Bool.or_true, Bool.false_or, Bool.true_or, Bool.and_true, Bool.and_false, Bool.true_and, Bool.false_and, reduceCtorEq, decide_not, Bool.not_eq_true', decide_eq_false_iff_not, askInt, askBool, askTuple, askList, askStr, oLe, oLt, oGe, oGt, oInt2, atI0, atI1, atI2]; exact rfl
  | tup => simp only [run_ok, run_okI, run_okB, run_alloc, run_stuck, run_bind, run_ite, run_noX, run_fnOf, w_c, w_op, w_un, w_call, w_callK, w_nil, w_cons, w_tup, w_lst, isB_bl, w_tval, w_tand, w_tor, w_tnot, w_and, w_or, w_not, w_if, s_next, s_seq, s_if, s_ret, s_drop, s_set, s_par, s_put, s_asg, w_var', runS_next, runS_ret, runS_stuck, runS_ite, List.length_cons, List.length_nil, List.length_singleton, List.map_cons, List.map_nil, List.cons_append, List.nil_append, List.replicate_succ, List.replicate_zero, List.getElem?_cons_zero, List.getElem?_cons_succ, List.set_cons_zero, List.set_cons_succ, Nat.reduceAdd, Nat.reduceSub, Nat.reduceEqDiff, ite_true, ite_false, if_true, if_false, reduceIte, Bool.false_eq_true, decide_true, decide_false, String.reduceEq, Int.reduceEq, Nat.reduceLeDiff, true_and, and_true, Bool.not_true, Bool.not_false, decide_eq_true_eq, List.append_nil, bType, bIsi, bLen, bInt, ty_int, ty_bl, ty_str, ty_non, ty_tup, isT, oIs, oIsNot, oSub, oAdd, oIx, run_eqI, run_neI, Bool.or_false, Bool.or_true, Bool.false_or, Bool.true_or, Bool.and_true, Bool.and_false, Bool.true_and, Bool.false_and, reduceCtorEq, decide_not, Bool.not_eq_true', decide_eq_false_iff_not, askInt, askBool, askTuple, askList, askStr, oLe, oLt, oGe, oGt, oInt2, atI0, atI1, atI2]; exact rfl
  | ref hm _ => simp only [ty_ref hm, run_ok, run_okI, run_okB, run_alloc, run_stuck, run_bind, run_ite, run_noX, run_fnOf, w_c, w_op, w_un, w_call, w_callK, w_nil, w_cons, w_tup, w_lst, isB_bl, w_tval, w_tand, w_tor, w_tnot, w_and, w_or, w_not, w_if, s_next, s_seq, s_if, s_ret, s_drop, s_set, s_par, s_put, s_asg, w_var', runS_next, runS_ret, runS_stuck, runS_ite, List.length_cons, List.length_nil, List.length_singleton, List.map_cons, List.map_nil, List.cons_append, List.nil_append, List.replicate_succ, List.replicate_zero, List.getElem?_cons_zero, List.getElem?_cons_succ, List.set_cons_zero, List.set_cons_succ, Nat.reduceAdd, Nat.reduceSub, Nat.reduceEqDiff, ite_true, ite_false, if_true, if_false, reduceIte, Bool.false_eq_true, decide_true, decide_false, String.reduceEq, Int.reduceEq, Nat.reduceLeDiff, true_and, and_true, Bool.not_true, Bool.not_false, decide_eq_true_eq, List.append_nil, bType, bIsi, bLen, bInt, ty_int, ty_bl, ty_str, ty_non, ty_tup, isT, oIs, oIsNot, oSub, oAdd, oIx, run_eqI, run_neI, Bool.or_false, Bool.or_true, Bool.false_or, Bool.true_or, Bool.and_true, Bool.and_false, Bool.true_and, Bool.false_and, reduceCtorEq, decide_not, Bool.not_eq_true', decide_eq_false_iff_not, askInt, askBool, askTuple, askList, askStr, oLe, oLt, oGe, oGt, oInt2, atI0, atI1, atI2]; exact rfl
def numsV : Val → Bool
  | .tup xs => xs.all intV
  | _ => false
theorem filter_none {α : Type} {p : α → Bool} : ∀ xs : List α, (xs.filter fun x => !p x).isEmpty = xs.all p
  | [] => rfl
  | x :: xs => by
    cases h : p x with
    | true => rw [List.filter_cons_of_neg (by simp [h]), filter_none xs, List.all_cons, h, Bool.true_and]
    | false => rw [List.filter_cons_of_pos (by simp [h]), List.all_cons, h]; rfl
theorem l_nums {e n : Nat} {v : Val} {S : Store} (hv : Da S e v) (he : e < 60) (hn : 1 < n) (hw : ∀ xs, v = .tup xs → xs.length ≤ 1000000) : Run ((fns n)._law_numbers [v] S) (PureK S (.bl (numsV v))) := by
  obtain ⟨n, rfl⟩ : ∃ m, n = m + 1 := ⟨n - 1, by omega⟩
  show Run (fnOf 1 2 (b__law_numbers (fns n)) [v] S) _
  unfold b__law_numbers
  cases hv with
  | int _ i => simp only [run_ok, run_okI, run_okB, run_alloc, run_stuck, run_bind, run_ite, run_noX, run_fnOf, w_c, w_op, w_un, w_call, w_callK, w_nil, w_cons, w_tup, w_lst, isB_bl, w_tval, w_tand, w_tor, w_tnot, w_and, w_or, w_not, w_if, s_next, s_seq, s_if, s_ret, s_drop, s_set, s_par, s_put, s_asg, w_var', runS_next, runS_ret, runS_stuck, runS_ite, List.length_cons, List.length_nil, List.length_singleton, List.map_cons, List.map_nil, List.cons_append, List.nil_append, List.replicate_succ, List.replicate_zero, List.getElem?_cons_zero, List.getElem?_cons_succ, List.set_cons_zero, List.set_cons_succ, Nat.reduceAdd, Nat.reduceSub, Nat.reduceEqDiff, ite_true, ite_false, if_true, if_false, reduceIte, Bool.false_eq_true, decide_true, decide_false, String.reduceEq, Int.reduceEq, Nat.reduceLeDiff, true_and, and_true, Bool.not_true, Bool.not_false, decide_eq_true_eq, List.append_nil, bType, bIsi, bLen, bInt, ty_int, ty_bl, ty_str, ty_non, ty_tup, isT, oIs, oIsNot, oSub, oAdd, oIx, run_eqI, run_neI, Bool.or_false, Bool.or_true, Bool.false_or, Bool.true_or, Bool.and_true, Bool.and_false, Bool.true_and, Bool.false_and, reduceCtorEq, decide_not, Bool.not_eq_true', decide_eq_false_iff_not, askInt, askBool, askTuple, askList, askStr, oLe, oLt, oGe, oGt, oInt2, atI0, atI1, atI2]; exact ⟨rfl, .refl _⟩
  | non => simp only [run_ok, run_okI, run_okB, run_alloc, run_stuck, run_bind, run_ite, run_noX, run_fnOf, w_c, w_op, w_un, w_call, w_callK, w_nil, w_cons, w_tup, w_lst, isB_bl, w_tval, w_tand, w_tor, w_tnot, w_and, w_or, w_not, w_if, s_next, s_seq, s_if, s_ret, s_drop, s_set, s_par, s_put, s_asg, w_var', runS_next, runS_ret, runS_stuck, runS_ite, List.length_cons, List.length_nil, List.length_singleton, List.map_cons, List.map_nil, List.cons_append, List.nil_append, List.replicate_succ, List.replicate_zero, List.getElem?_cons_zero, List.getElem?_cons_succ, List.set_cons_zero, List.set_cons_succ, Nat.reduceAdd, Nat.reduceSub, Nat.reduceEqDiff, ite_true, ite_false, if_true, if_false, reduceIte, Bool.false_eq_true, decide_true, decide_false, String.reduceEq, Int.reduceEq, Nat.reduceLeDiff, true_and, and_true, Bool.not_true, Bool.not_false, decide_eq_true_eq, List.append_nil, bType, bIsi, bLen, bInt, ty_int, ty_bl, ty_str, ty_non, ty_tup, isT, oIs, oIsNot, oSub, oAdd, oIx, run_eqI, run_neI, Bool.or_false, Bool.or_true, Bool.false_or, Bool.true_or, Bool.and_true, Bool.and_false, Bool.true_and, Bool.false_and, reduceCtorEq, decide_not, Bool.not_eq_true', decide_eq_false_iff_not, askInt, askBool, askTuple, askList, askStr, oLe, oLt, oGe, oGt, oInt2, atI0, atI1, atI2]; exact ⟨rfl, .refl _⟩
  | bl => simp only [run_ok, run_okI, run_okB, run_alloc, run_stuck, run_bind, run_ite, run_noX, run_fnOf, w_c, w_op, w_un, w_call, w_callK, w_nil, w_cons, w_tup, w_lst, isB_bl, w_tval, w_tand, w_tor, w_tnot, w_and, w_or, w_not, w_if, s_next, s_seq, s_if, s_ret, s_drop, s_set, s_par, s_put, s_asg, w_var', runS_next, runS_ret, runS_stuck, runS_ite, List.length_cons, List.length_nil, List.length_singleton, List.map_cons, List.map_nil, List.cons_append, List.nil_append, List.replicate_succ, List.replicate_zero, List.getElem?_cons_zero, List.getElem?_cons_succ, List.set_cons_zero, List.set_cons_succ, Nat.reduceAdd, Nat.reduceSub, Nat.reduceEqDiff, ite_true, ite_false, if_true, if_false, reduceIte, Bool.false_eq_true, decide_true, decide_false, String.reduceEq, Int.reduceEq, Nat.reduceLeDiff, true_and, and_true, Bool.not_true, Bool.not_false, decide_eq_true_eq, List.append_nil, bType, bIsi, bLen, bInt, ty_int, ty_bl, ty_str, ty_non, ty_tup, isT, oIs, oIsNot, oSub, oAdd, oIx, run_eqI, run_neI, Bool.or_false, Bool.or_true, Bool.false_or, Bool.true_or, Bool.and_true, Bool.and_false, Bool.true_and, Bool.false_and, reduceCtorEq, decide_not, Bool.not_eq_true', decide_eq_false_iff_not, askInt, askBool, askTuple, askList, askStr, oLe, oLt, oGe, oGt, oInt2, atI0, atI1, atI2]; exact ⟨rfl, .refl _⟩
  | str => simp only [run_ok, run_okI, run_okB, run_alloc, run_stuck, run_bind, run_ite, run_noX, run_fnOf, w_c, w_op, w_un, w_call, w_callK, w_nil, w_cons, w_tup, w_lst, isB_bl, w_tval, w_tand, w_tor, w_tnot, w_and, w_or, w_not, w_if, s_next, s_seq, s_if, s_ret, s_drop, s_set, s_par, s_put, s_asg, w_var', runS_next, runS_ret, runS_stuck, runS_ite, List.length_cons, List.length_nil, List.length_singleton, List.map_cons, List.map_nil, List.cons_append, List.nil_append, List.replicate_succ, List.replicate_zero, List.getElem?_cons_zero, List.getElem?_cons_succ, List.set_cons_zero, List.set_cons_succ, Nat.reduceAdd, Nat.reduceSub, Nat.reduceEqDiff, ite_true, ite_false, if_true, if_false, reduceIte, Bool.false_eq_true, decide_true, decide_false, String.reduceEq, Int.reduceEq, Nat.reduceLeDiff, true_and, and_true, Bool.not_true, Bool.not_false, decide_eq_true_eq, List.append_nil, bType, bIsi, bLen, bInt, ty_int, ty_bl, ty_str, ty_non, ty_tup, isT, oIs, oIsNot, oSub, oAdd, oIx, run_eqI, run_neI, Bool.or_false, Bool.or_true, Bool.false_or, Bool.true_or, Bool.and_true, Bool.and_false, Bool.true_and, Bool.false_and, reduceCtorEq, decide_not, Bool.not_eq_true', decide_eq_false_iff_not, askInt, askBool, askTuple, askList, askStr, oLe, oLt, oGe, oGt, oInt2, atI0, atI1, atI2]; exact ⟨rfl, .refl _⟩
  | ref hm _ => simp only [ty_ref hm, run_ok, run_okI, run_okB, run_alloc, run_stuck, run_bind, run_ite, run_noX, run_fnOf, w_c, w_op, w_un, w_call, w_callK, w_nil, w_cons, w_tup, w_lst, isB_bl, w_tval, w_tand, w_tor, w_tnot, w_and, w_or, w_not, w_if, s_next, s_seq, s_if, s_ret, s_drop, s_set, s_par, s_put, s_asg, w_var', runS_next, runS_ret, runS_stuck, runS_ite, List.length_cons, List.length_nil, List.length_singleton, List.map_cons, List.map_nil, List.cons_append, List.nil_append, List.replicate_succ, List.replicate_zero, List.getElem?_cons_zero, List.getElem?_cons_succ, List.set_cons_zero, List.set_cons_succ, Nat.reduceAdd, Nat.reduceSub, Nat.reduceEqDiff, ite_true, ite_false, if_true, if_false, reduceIte, Bool.false_eq_true, decide_true, decide_false, String.reduceEq, Int.reduceEq, Nat.reduceLeDiff, true_and, and_true, Bool.not_true, Bool.not_false, decide_eq_true_eq, List.append_nil, bType, bIsi, bLen, bInt, ty_int, ty_bl, ty_str, ty_non, ty_tup, isT, oIs, oIsNot, oSub, oAdd, oIx, run_eqI, run_neI, Bool.or_false, Bool.or_true, Bool.false_or, Bool.true_or, Bool.and_true, Bool.and_false, Bool.true_and, Bool.false_and, reduceCtorEq, decide_not, Bool.not_eq_true', decide_eq_false_iff_not, askInt, askBool, askTuple, askList, askStr, oLe, oLt, oGe, oGt, oInt2, atI0, atI1, atI2]; exact ⟨rfl, .refl _⟩
  | @tup e' xs hx =>
    simp only [run_ok, run_okI, run_okB, run_alloc, run_stuck, run_bind, run_ite, run_noX, run_fnOf, w_c, w_op, w_un, w_call, w_callK, w_nil, w_cons, w_tup, w_lst, isB_bl, w_tval, w_tand, w_tor, w_tnot, w_and, w_or, w_not, w_if, s_next, s_seq, s_if, s_ret, s_drop, s_set, s_par, s_put, s_asg, w_var', runS_next, runS_ret, runS_stuck, runS_ite, List.length_cons, List.length_nil, List.length_singleton, List.map_cons, List.map_nil, List.cons_append, List.nil_append, List.replicate_succ, List.replicate_zero, List.getElem?_cons_zero, List.getElem?_cons_succ, List.set_cons_zero, List.set_cons_succ, Nat.reduceAdd, Nat.reduceSub, Nat.reduceEqDiff, ite_true, ite_false, if_true, if_false, reduceIte, Bool.false_eq_true, decide_true, decide_false, String.reduceEq, Int.reduceEq, Nat.reduceLeDiff, true_and, and_true, Bool.not_true, Bool.not_false, decide_eq_true_eq, List.append_nil, bType, bIsi, bLen, bInt, ty_int, ty_bl, ty_str, ty_non, ty_tup, isT, oIs, oIsNot, oSub, oAdd, oIx, run_eqI, run_neI, Bool.or_false, Bool.or_true, Bool.false_or, Bool.true_or, Bool.and_true, Bool.and_false, Bool.true_and, Bool.false_and, reduceCtorEq, decide_not, Bool.not_eq_true', decide_eq_false_iff_not, askInt, askBool, askTuple, askList, askStr, oLe, oLt, oGe, oGt, oInt2, atI0, atI1, atI2]
    refine Run.mono (run_lctf (P := fun x => !intV x) (g := id) (xs := xs) (hw xs rfl) (by simp only [run_ok, run_okI, run_okB, run_alloc, run_stuck, run_bind, run_ite, run_noX, run_fnOf, w_c, w_op, w_un, w_call, w_callK, w_nil, w_cons, w_tup, w_lst, isB_bl, w_tval, w_tand, w_tor, w_tnot, w_and, w_or, w_not, w_if, s_next, s_seq, s_if, s_ret, s_drop, s_set, s_par, s_put, s_asg, w_var', runS_next, runS_ret, runS_stuck, runS_ite, List.length_cons, List.length_nil, List.length_singleton, List.map_cons, List.map_nil, List.cons_append, List.nil_append, List.replicate_succ, List.replicate_zero, List.getElem?_cons_zero, List.getElem?_cons_succ, List.set_cons_zero, List.set_cons_succ, Nat.reduceAdd, Nat.reduceSub, Nat.reduceEqDiff, ite_true, ite_false, if_true, if_false, reduceIte, Bool.false_eq_true, decide_true, decide_false, String.reduceEq, Int.reduceEq, Nat.reduceLeDiff, true_and, and_true, Bool.not_true, Bool.not_false, decide_eq_true_eq, List.append_nil, bType, bIsi, bLen, bInt, ty_int, ty_bl, ty_str, ty_non, ty_tup, isT, oIs, oIsNot, oSub, oAdd, oIx, run_eqI, run_neI, Bool.or_false, Bool.or_true, Bool.false_or, Bool.true_or, Bool.and_true, Bool.and_false, Bool.true_and, Bool.false_and, reduceCtorEq, decide_not, Bool.not_eq_true', decide_eq_false_iff_not, askInt, askBool, askTuple, askList, askStr, oLe, oLt, oGe, oGt, oInt2, atI0, atI1, atI2]) fun x hxm S' k' => ?_) fun r S1 ⟨S2, e1, e2, k1⟩ => ?_
    · refine ⟨_, rfl, ?_, fun _ S2 k2 => ?_⟩
      · simp only [wipeE, run_ok, run_okI, run_okB, run_alloc, run_stuck, run_bind, run_ite, run_noX, run_fnOf, w_c, w_op, w_un, w_call, w_callK, w_nil, w_cons, w_tup, w_lst, isB_bl, w_tval, w_tand, w_tor, w_tnot, w_and, w_or, w_not, w_if, s_next, s_seq, s_if, s_ret, s_drop, s_set, s_par, s_put, s_asg, w_var', runS_next, runS_ret, runS_stuck, runS_ite, List.length_cons, List.length_nil, List.length_singleton, List.map_cons, List.map_nil, List.cons_append, List.nil_append, List.replicate_succ, List.replicate_zero, List.getElem?_cons_zero, List.getElem?_cons_succ, List.set_cons_zero, List.set_cons_succ, Nat.reduceAdd, Nat.reduceSub, Nat.reduceEqDiff, ite_true, ite_false, if_true, if_false, reduceIte, Bool.false_eq_true, decide_true, decide_false, String.reduceEq, Int.reduceEq, Nat.reduceLeDiff, true_and, and_true, Bool.not_true, Bool.not_false, decide_eq_true_eq, List.append_nil, bType, bIsi, bLen, bInt, ty_int, ty_bl, ty_str, ty_non, ty_tup, isT, oIs, oIsNot, oSub, oAdd, oIx, run_eqI, run_neI, Bool.or_false, Bool.or_true, Bool.false_or, Bool.true_or, Bool.and_true, Bool.and_false, Bool.true_and, Bool.false_and, reduceCtorEq, decide_not, Bool.not_eq_true', decide_eq_false_iff_not, askInt, askBool, askTuple, askList, askStr, oLe, oLt, oGe, oGt, oInt2, atI0, atI1, atI2]
        refine Run.mono (l_num ((hx x hxm).kp k') (by omega)) fun r S3 ⟨e1, e2⟩ => ?_
        subst e1 e2
        exact ⟨rfl, .refl _⟩
      · simp only [wipeE, run_ok, run_okI, run_okB, run_alloc, run_stuck, run_bind, run_ite, run_noX, run_fnOf, w_c, w_op, w_un, w_call, w_callK, w_nil, w_cons, w_tup, w_lst, isB_bl, w_tval, w_tand, w_tor, w_tnot, w_and, w_or, w_not, w_if, s_next, s_seq, s_if, s_ret, s_drop, s_set, s_par, s_put, s_asg, w_var', runS_next, runS_ret, runS_stuck, runS_ite, List.length_cons, List.length_nil, List.length_singleton, List.map_cons, List.map_nil, List.cons_append, List.nil_append, List.replicate_succ, List.replicate_zero, List.getElem?_cons_zero, List.getElem?_cons_succ, List.set_cons_zero, List.set_cons_succ, Nat.reduceAdd, Nat.reduceSub, Nat.reduceEqDiff, ite_true, ite_false, if_true, if_false, reduceIte, Bool.false_eq_true, decide_true, decide_false, String.reduceEq, Int.reduceEq, Nat.reduceLeDiff, true_and, and_true, Bool.not_true, Bool.not_false, decide_eq_true_eq, List.append_nil, bType, bIsi, bLen, bInt, ty_int, ty_bl, ty_str, ty_non, ty_tup, isT, oIs, oIsNot, oSub, oAdd, oIx, run_eqI, run_neI, Bool.or_false, Bool.or_true, Bool.false_or, Bool.true_or, Bool.and_true, Bool.and_false, Bool.true_and, Bool.false_and, reduceCtorEq, decide_not, Bool.not_eq_true', decide_eq_false_iff_not, askInt, askBool, askTuple, askList, askStr, oLe, oLt, oGe, oGt, oInt2, atI0, atI1, atI2]
        exact ⟨rfl, .refl _⟩
    · subst e1 e2
      rw [List.map_id, eq_empty (d := e') ((Gr.add _ _).get (get_new _ _)) (fun x hxm => ((hx x (List.mem_filter.mp hxm).1).kp k1).kp ((Gr.add _ _).trans (Gr.add _ _)).kp) (by omega) (get_new _ _), filter_none]
      exact ⟨rfl, k1.trans ((Gr.add _ _).trans (Gr.add _ _)).kp⟩
theorem notin01 {S : Store} {i : Int} {Q : Val → Store → Prop} : Run (oNotIn (.int i) (.tup [.int 0, .int 1]) S) Q = Q (.bl (!(decide (i = 0) || decide (i = 1)))) S := by
  show Q (.bl (!((0 == i) || ((1 == i) || false)))) S = _
  congr 3
  rw [Bool.or_false, Bool.beq_eq_decide_eq, Bool.beq_eq_decide_eq]
  congr 1 <;> exact decide_eq_decide.mpr ⟨Eq.symm, Eq.symm⟩
theorem intV_of {v : Val} (h : intV v = true) : ∃ i, v = .int i := by
  cases v with
  | int i => exact ⟨i, rfl⟩
  | _ => cases h
theorem all_int {xs : List Val} (h : xs.all isHalf = true) : xs.all intV = true := by
  rw [List.all_eq_true] at h ⊢
  intro x hx
  have := h x hx
  cases x <;> first | rfl | cases this
/-- tuples of which the law may list the members -/
def Wid : Val → Prop
  | .tup (.tup xs :: _) => xs.length ≤ 1000000
  | _ => True
theorem l_is_dot {e n : Nat} {v : Val} {S : Store} (hv : Da S e v) (he : e < 60) (hn : 2 < n) (hw : Wid v) : Run ((fns n)._law_is_dot [v] S) (PureK S (.bl (isDot v))) := by
  obtain ⟨n, rfl⟩ : ∃ m, n = m + 1 := ⟨n - 1, by omega⟩
  show Run (fnOf 1 2 (b__law_is_dot (fns n)) [v] S) _
  unfold b__law_is_dot
  cases hv with
  | int _ i => simp only [run_ok, run_okI, run_okB, run_alloc, run_stuck, run_bind, run_ite, run_noX, run_fnOf, w_c, w_op, w_un, w_call, w_callK, w_nil, w_cons, w_tup, w_lst, isB_bl, w_tval, w_tand, w_tor, w_tnot, w_and, w_or, w_not, w_if, s_next, s_seq, s_if, s_ret, s_drop, s_set, s_par, s_put, s_asg, w_var', runS_next, runS_ret, runS_stuck, runS_ite, List.length_cons, List.length_nil, List.length_singleton, List.map_cons, List.map_nil, List.cons_append, List.nil_append, List.replicate_succ, List.replicate_zero, List.getElem?_cons_zero, List.getElem?_cons_succ, List.set_cons_zero, List.set_cons_succ, Nat.reduceAdd, Nat.reduceSub, Nat.reduceEqDiff, ite_true, ite_false, if_true, if_false, reduceIte, Bool.false_eq_true, decide_true, decide_false, String.reduceEq, Int.reduceEq, Nat.reduceLeDiff, true_and, and_true, Bool.not_true, Bool.not_false, decide_eq_true_eq, List.append_nil, bType, bIsi, bLen, bInt, ty_int, ty_bl, ty_str, ty_non, ty_tup, isT, oIs, oIsNot, oSub, oAdd, oIx, run_eqI, run_neI, Bool.or_false, Bool.or_true, Bool.false_or, Bool.true_or, Bool.and_true, Bool.and_false, Bool.true_and, Bool.false_and, reduceCtorEq, decide_not, Bool.not_eq_true', decide_eq_false_iff_not, askInt, askBool, askTuple, askList, askStr, oLe, oLt, oGe, oGt, oInt2, atI0, atI1, atI2]; exact ⟨rfl, .refl _⟩
  | non => simp only [run_ok, run_okI, run_okB, run_alloc, run_stuck, run_bind, run_ite, run_noX, run_fnOf, w_c, w_op, w_un, w_call, w_callK, w_nil, w_cons, w_tup, w_lst, isB_bl, w_tval, w_tand, w_tor, w_tnot, w_and, w_or, w_not, w_if, s_next, s_seq, s_if, s_ret, s_drop, s_set, s_par, s_put, s_asg, w_var', runS_next, runS_ret, runS_stuck, runS_ite, List.length_cons, List.length_nil, List.length_singleton, List.map_cons, List.map_nil, List.cons_append, List.nil_append, List.replicate_succ, List.replicate_zero, List.getElem?_cons_zero, List.getElem?_cons_succ, List.set_cons_zero, List.set_cons_succ, Nat.reduceAdd, Nat.reduceSub, Nat.reduceEqDiff, ite_true, ite_false, if_true, if_false, reduceIte, Bool.false_eq_true, decide_true, decide_false, String.reduceEq, Int.reduceEq, Nat.reduceLeDiff, true_and, and_true, Bool.not_true, Bool.not_false, decide_eq_true_eq, List.append_nil, bType, bIsi, bLen, bInt, ty_int, ty_bl, ty_str, ty_non, ty_tup, isT, oIs, oIsNot, oSub, oAdd, oIx, run_eqI, run_neI, Bool.or_false, Bool.or_true, Bool.false_or, Bool.true_or, Bool.and_true, Bool.and_false, Bool.true_and, Bool.false_and, reduceCtorEq, decide_not, Bool.not_eq_true', decide_eq_false_iff_not, askInt, askBool, askTuple, askList, askStr, oLe, oLt, oGe, oGt, oInt2, atI0, atI1, atI2]; exact ⟨rfl, .refl _⟩
  | bl => simp only [run_ok, run_okI, run_okB, run_alloc, run_stuck, run_bind, run_ite, run_noX, run_fnOf, w_c, w_op, w_un, w_call, w_callK, w_nil, w_cons, w_tup, w_lst, isB_bl, w_tval, w_tand, w_tor, w_tnot, w_and, w_or, w_not, w_if, s_next, s_seq, s_if, s_ret, s_drop, s_set, s_par, s_put, s_asg, w_var', runS_next, runS_ret, runS_stuck, runS_ite, List.length_cons, List.length_nil, List.length_singleton, List.map_cons, List.map_nil, List.cons_append, List.nil_append, List.replicate_succ, List.replicate_zero, List.getElem?_cons_zero, List.getElem?_cons_succ, List.set_cons_zero, List.set_cons_succ, Nat.reduceAdd, Nat.reduceSub, Nat.reduceEqDiff, ite_true, ite_false, if_true, if_false, reduceIte, Bool.false_eq_true, decide_true, decide_false, String.reduceEq, Int.reduceEq, Nat.reduceLeDiff, true_and, and_true, Bool.not_true, Bool.not_false, decide_eq_true_eq, List.append_nil, bType, bIsi, bLen, bInt, ty_int, ty_bl, ty_str, ty_non, ty_tup, isT, oIs, oIsNot, oSub, oAdd, oIx, run_eqI, run_neI, Bool.or_false, Bool.or_true, Bool.false_or, Bool.true_or, Bool.and_true, Bool.and_false, Bool.true_and, Bool.false_and, reduceCtorEq, decide_not, Bool.not_eq_true', decide_eq_false_iff_not, askInt, askBool, askTuple, askList, askStr, oLe, oLt, oGe, oGt, oInt2, atI0, atI1, atI2]; exact ⟨rfl, .refl _⟩
  | str => simp only [run_ok, run_okI, run_okB, run_alloc, run_stuck, run_bind, run_ite, run_noX, run_fnOf, w_c, w_op, w_un, w_call, w_callK, w_nil, w_cons, w_tup, w_lst, isB_bl, w_tval, w_tand, w_tor, w_tnot, w_and, w_or, w_not, w_if, s_next, s_seq, s_if, s_ret, s_drop, s_set, s_par, s_put, s_asg, w_var', runS_next, runS_ret, runS_stuck, runS_ite, List.length_cons, List.length_nil, List.length_singleton, List.map_cons, List.map_nil, List.cons_append, List.nil_append, List.replicate_succ, List.replicate_zero, List.getElem?_cons_zero, List.getElem?_cons_succ, List.set_cons_zero, List.set_cons_succ, Nat.reduceAdd, Nat.reduceSub, Nat.reduceEqDiff, ite_true, ite_false, if_true, if_false, reduceIte, Bool.false_eq_true, decide_true, decide_false, String.reduceEq, Int.reduceEq, Nat.reduceLeDiff, true_and, and_true, Bool.not_true, Bool.not_false, decide_eq_true_eq, List.append_nil, bType, bIsi, bLen, bInt, ty_int, ty_bl, ty_str, ty_non, ty_tup, isT, oIs, oIsNot, oSub, oAdd, oIx, run_eqI, run_neI, Bool.or_false, Bool.or_true, Bool.false_or, Bool.true_or, Bool.and_true, Bool.and_false, Bool.true_and, Bool.false_and, reduceCtorEq, decide_not, Bool.not_eq_true', decide_eq_false_iff_not, askInt, askBool, askTuple, askList, askStr, oLe, oLt, oGe, oGt, oInt2, atI0, atI1, atI2]; exact ⟨rfl, .refl _⟩
  | ref hm _ => simp only [ty_ref hm, run_ok, run_okI, run_okB, run_alloc, run_stuck, run_bind, run_ite, run_noX, run_fnOf, w_c, w_op, w_un, w_call, w_callK, w_nil, w_cons, w_tup, w_lst, isB_bl, w_tval, w_tand, w_tor, w_tnot, w_and, w_or, w_not, w_if, s_next, s_seq, s_if, s_ret, s_drop, s_set, s_par, s_put, s_asg, w_var', runS_next, runS_ret, runS_stuck, runS_ite, List.length_cons, List.length_nil, List.length_singleton, List.map_cons, List.map_nil, List.cons_append, List.nil_append, List.replicate_succ, List.replicate_zero, List.getElem?_cons_zero, List.getElem?_cons_succ, List.set_cons_zero, List.set_cons_succ, Nat.reduceAdd, Nat.reduceSub, Nat.reduceEqDiff, ite_true, ite_false, if_true, if_false, reduceIte, Bool.false_eq_true, decide_true, decide_false, String.reduceEq, Int.reduceEq, Nat.reduceLeDiff, true_and, and_true, Bool.not_true, Bool.not_false, decide_eq_true_eq, List.append_nil, bType, bIsi, bLen, bInt, ty_int, ty_bl, ty_str, ty_non, ty_tup, isT, oIs, oIsNot, oSub, oAdd, oIx, run_eqI, run_neI, Bool.or_false, Bool.or_true, Bool.false_or, Bool.true_or, Bool.and_true, Bool.and_false, Bool.true_and, Bool.false_and, reduceCtorEq, decide_not, Bool.not_eq_true', decide_eq_false_iff_not, askInt, askBool, askTuple, askList, askStr, oLe, oLt, oGe, oGt, oInt2, atI0, atI1, atI2]; exact ⟨rfl, .refl _⟩
  | @tup e' xs hx =>
    by_cases hl : xs.length = 2
    · obtain ⟨a, b, rfl⟩ := two_of hl
      have ha := hx a (by simp)
      have hb := hx b (by simp)
      refine run_fn rfl rfl ?_
      refine s_step (N' := fun ρ S' => ρ = [some (.tup [a, b]), none] ∧ Kp S S' ∧ numsV a = true ∧ intV b = true) ?_ ?_
      · rw [s_if]
        simp only [run_ok, run_okI, run_okB, run_alloc, run_stuck, run_bind, run_ite, run_noX, run_fnOf, w_c, w_op, w_un, w_call, w_callK, w_nil, w_cons, w_tup, w_lst, isB_bl, w_tval, w_tand, w_tor, w_tnot, w_and, w_or, w_not, w_if, s_next, s_seq, s_if, s_ret, s_drop, s_set, s_par, s_put, s_asg, w_var', runS_next, runS_ret, runS_stuck, runS_ite, List.length_cons, List.length_nil, List.length_singleton, List.map_cons, List.map_nil, List.cons_append, List.nil_append, List.replicate_succ, List.replicate_zero, List.getElem?_cons_zero, List.getElem?_cons_succ, List.set_cons_zero, List.set_cons_succ, Nat.reduceAdd, Nat.reduceSub, Nat.reduceEqDiff, ite_true, ite_false, if_true, if_false, reduceIte, Bool.false_eq_true, decide_true, decide_false, String.reduceEq, Int.reduceEq, Nat.reduceLeDiff, true_and, and_true, Bool.not_true, Bool.not_false, decide_eq_true_eq, List.append_nil, bType, bIsi, bLen, bInt, ty_int, ty_bl, ty_str, ty_non, ty_tup, isT, oIs, oIsNot, oSub, oAdd, oIx, run_eqI, run_neI, Bool.or_false, Bool.or_true, Bool.false_or, Bool.true_or, Bool.and_true, Bool.and_false, Bool.true_and, Bool.false_and, reduceCtorEq, decide_not, Bool.not_eq_true', decide_eq_false_iff_not, askInt, askBool, askTuple, askList, askStr, oLe, oLt, oGe, oGt, oInt2, atI0, atI1, atI2]
        rw [if_neg (by simp)]
        refine Run.mono (l_nums ha (by omega) (by omega) (fun ys e => by subst e; exact hw)) fun r S1 ⟨e1, k1⟩ => ?_
        subst e1
        cases hna : numsV a with
        | false =>
          simp only [run_ok, run_okI, run_okB, run_alloc, run_stuck, run_bind, run_ite, run_noX, run_fnOf, w_c, w_op, w_un, w_call, w_callK, w_nil, w_cons, w_tup, w_lst, isB_bl, w_tval, w_tand, w_tor, w_tnot, w_and, w_or, w_not, w_if, s_next, s_seq, s_if, s_ret, s_drop, s_set, s_par, s_put, s_asg, w_var', runS_next, runS_ret, runS_stuck, runS_ite, List.length_cons, List.length_nil, List.length_singleton, List.map_cons, List.map_nil, List.cons_append, List.nil_append, List.replicate_succ, List.replicate_zero, List.getElem?_cons_zero, List.getElem?_cons_succ, List.set_cons_zero, List.set_cons_succ, Nat.reduceAdd, Nat.reduceSub, Nat.reduceEqDiff, ite_true, ite_false, if_true, if_false, reduceIte, Bool.false_eq_true, decide_true, decide_false, String.reduceEq, Int.reduceEq, Nat.reduceLeDiff, true_and, and_true, Bool.not_true, Bool.not_false, decide_eq_true_eq, List.append_nil, bType, bIsi, bLen, bInt, ty_int, ty_bl, ty_str, ty_non, ty_tup, isT, oIs, oIsNot, oSub, oAdd, oIx, run_eqI, run_neI, Bool.or_false, Bool.or_true, Bool.false_or, Bool.true_or, Bool.and_true, Bool.and_false, Bool.true_and, Bool.false_and, reduceCtorEq, decide_not, Bool.not_eq_true', decide_eq_false_iff_not, askInt, askBool, askTuple, askList, askStr, oLe, oLt, oGe, oGt, oInt2, atI0, atI1, atI2]
          refine ⟨?_, k1⟩
          have : isPa a = false := by
            cases a with
            | tup ys =>
              cases hh : ys.all isHalf with
              | true => rw [show numsV (.tup ys) = true from all_int hh] at hna; cases hna
              | false => simp [isPa, hh]
            | _ => rfl
          cases b <;> simp [isDot, this]
        | true =>
          simp only [run_ok, run_okI, run_okB, run_alloc, run_stuck, run_bind, run_ite, run_noX, run_fnOf, w_c, w_op, w_un, w_call, w_callK, w_nil, w_cons, w_tup, w_lst, isB_bl, w_tval, w_tand, w_tor, w_tnot, w_and, w_or, w_not, w_if, s_next, s_seq, s_if, s_ret, s_drop, s_set, s_par, s_put, s_asg, w_var', runS_next, runS_ret, runS_stuck, runS_ite, List.length_cons, List.length_nil, List.length_singleton, List.map_cons, List.map_nil, List.cons_append, List.nil_append, List.replicate_succ, List.replicate_zero, List.getElem?_cons_zero, List.getElem?_cons_succ, List.set_cons_zero, List.set_cons_succ, Nat.reduceAdd, Nat.reduceSub, Nat.reduceEqDiff, ite_true, ite_false, if_true, if_false, reduceIte, Bool.false_eq_true, decide_true, decide_false, String.reduceEq, Int.reduceEq, Nat.reduceLeDiff, true_and, and_true, Bool.not_true, Bool.not_false, decide_eq_true_eq, List.append_nil, bType, bIsi, bLen, bInt, ty_int, ty_bl, ty_str, ty_non, ty_tup, isT, oIs, oIsNot, oSub, oAdd, oIx, run_eqI, run_neI, Bool.or_false, Bool.or_true, Bool.false_or, Bool.true_or, Bool.and_true, Bool.and_false, Bool.true_and, Bool.false_and, reduceCtorEq, decide_not, Bool.not_eq_true', decide_eq_false_iff_not, askInt, askBool, askTuple, askList, askStr, oLe, oLt, oGe, oGt, oInt2, atI0, atI1, atI2]
          refine Run.mono (l_num (hb.kp k1) (by omega)) fun r S2 ⟨e1, e2⟩ => ?_
          subst e1 e2
          cases hib : intV b with
          | false =>
            simp only [run_ok, run_okI, run_okB, run_alloc, run_stuck, run_bind, run_ite, run_noX, run_fnOf, w_c, w_op, w_un, w_call, w_callK, w_nil, w_cons, w_tup, w_lst, isB_bl, w_tval, w_tand, w_tor, w_tnot, w_and, w_or, w_not, w_if, s_next, s_seq, s_if, s_ret, s_drop, s_set, s_par, s_put, s_asg, w_var', runS_next, runS_ret, runS_stuck, runS_ite, List.length_cons, List.length_nil, List.length_singleton, List.map_cons, List.map_nil, List.cons_append, List.nil_append, List.replicate_succ, List.replicate_zero, List.getElem?_cons_zero, List.getElem?_cons_succ, List.set_cons_zero, List.set_cons_succ, Nat.reduceAdd, Nat.reduceSub, Nat.reduceEqDiff, ite_true, ite_false, if_true, if_false, reduceIte, Bool.false_eq_true, decide_true, decide_false, String.reduceEq, Int.reduceEq, Nat.reduceLeDiff, true_and, and_true, Bool.not_true, Bool.not_false, decide_eq_true_eq, List.append_nil, bType, bIsi, bLen, bInt, ty_int, ty_bl, ty_str, ty_non, ty_tup, isT, oIs, oIsNot, oSub, oAdd, oIx, run_eqI, run_neI, Bool.or_false, Bool.or_true, Bool.false_or, Bool.true_or, Bool.and_true, Bool.and_false, Bool.true_and, Bool.false_and, reduceCtorEq, decide_not, Bool.not_eq_true', decide_eq_false_iff_not, askInt, askBool, askTuple, askList, askStr, oLe, oLt, oGe, oGt, oInt2, atI0, atI1, atI2]
            refine ⟨?_, k1⟩
            cases b <;> first | rfl | cases hib
          | true => simp only [run_ok, run_okI, run_okB, run_alloc, run_stuck, run_bind, run_ite, run_noX, run_fnOf, w_c, w_op, w_un, w_call, w_callK, w_nil, w_cons, w_tup, w_lst, isB_bl, w_tval, w_tand, w_tor, w_tnot, w_and, w_or, w_not, w_if, s_next, s_seq, s_if, s_ret, s_drop, s_set, s_par, s_put, s_asg, w_var', runS_next, runS_ret, runS_stuck, runS_ite, List.length_cons, List.length_nil, List.length_singleton, List.map_cons, List.map_nil, List.cons_append, List.nil_append, List.replicate_succ, List.replicate_zero, List.getElem?_cons_zero, List.getElem?_cons_succ, List.set_cons_zero, List.set_cons_succ, Nat.reduceAdd, Nat.reduceSub, Nat.reduceEqDiff, ite_true, ite_false, if_true, if_false, reduceIte, Bool.false_eq_true, decide_true, decide_false, String.reduceEq, Int.reduceEq, Nat.reduceLeDiff, true_and, and_true, Bool.not_true, Bool.not_false, decide_eq_true_eq, List.append_nil, bType, bIsi, bLen, bInt, ty_int, ty_bl, ty_str, ty_non, ty_tup, isT, oIs, oIsNot, oSub, oAdd, oIx, run_eqI, run_neI, Bool.or_false, Bool.or_true, Bool.false_or, Bool.true_or, Bool.and_true, Bool.and_false, Bool.true_and, Bool.false_and, reduceCtorEq, decide_not, Bool.not_eq_true', decide_eq_false_iff_not, askInt, askBool, askTuple, askList, askStr, oLe, oLt, oGe, oGt, oInt2, atI0, atI1, atI2]; exact k1
      · rintro ρ S1 ⟨rfl, k1, hna, hib⟩
        obtain ⟨w, rfl⟩ := intV_of hib
        cases a with
        | tup ys =>
          have hys : ∀ x ∈ ys, intV x = true := List.all_eq_true.mp hna
          simp only [run_ok, run_okI, run_okB, run_alloc, run_stuck, run_bind, run_ite, run_noX, run_fnOf, w_c, w_op, w_un, w_call, w_callK, w_nil, w_cons, w_tup, w_lst, isB_bl, w_tval, w_tand, w_tor, w_tnot, w_and, w_or, w_not, w_if, s_next, s_seq, s_if, s_ret, s_drop, s_set, s_par, s_put, s_asg, w_var', runS_next, runS_ret, runS_stuck, runS_ite, List.length_cons, List.length_nil, List.length_singleton, List.map_cons, List.map_nil, List.cons_append, List.nil_append, List.replicate_succ, List.replicate_zero, List.getElem?_cons_zero, List.getElem?_cons_succ, List.set_cons_zero, List.set_cons_succ, Nat.reduceAdd, Nat.reduceSub, Nat.reduceEqDiff, ite_true, ite_false, if_true, if_false, reduceIte, Bool.false_eq_true, decide_true, decide_false, String.reduceEq, Int.reduceEq, Nat.reduceLeDiff, true_and, and_true, Bool.not_true, Bool.not_false, decide_eq_true_eq, List.append_nil, bType, bIsi, bLen, bInt, ty_int, ty_bl, ty_str, ty_non, ty_tup, isT, oIs, oIsNot, oSub, oAdd, oIx, run_eqI, run_neI, Bool.or_false, Bool.or_true, Bool.false_or, Bool.true_or, Bool.and_true, Bool.and_false, Bool.true_and, Bool.false_and, reduceCtorEq, decide_not, Bool.not_eq_true', decide_eq_false_iff_not, askInt, askBool, askTuple, askList, askStr, oLe, oLt, oGe, oGt, oInt2, atI0, atI1, atI2]
          by_cases hl : ys.length ≤ 12
          · rw [if_pos (by omega)]
            refine Run.mono (run_lctf (P := fun x => !isHalf x) (g := id) (xs := ys) (by omega) (by simp only [run_ok, run_okI, run_okB, run_alloc, run_stuck, run_bind, run_ite, run_noX, run_fnOf, w_c, w_op, w_un, w_call, w_callK, w_nil, w_cons, w_tup, w_lst, isB_bl, w_tval, w_tand, w_tor, w_tnot, w_and, w_or, w_not, w_if, s_next, s_seq, s_if, s_ret, s_drop, s_set, s_par, s_put, s_asg, w_var', runS_next, runS_ret, runS_stuck, runS_ite, List.length_cons, List.length_nil, List.length_singleton, List.map_cons, List.map_nil, List.cons_append, List.nil_append, List.replicate_succ, List.replicate_zero, List.getElem?_cons_zero, List.getElem?_cons_succ, List.set_cons_zero, List.set_cons_succ, Nat.reduceAdd, Nat.reduceSub, Nat.reduceEqDiff, ite_true, ite_false, if_true, if_false, reduceIte, Bool.false_eq_true, decide_true, decide_false, String.reduceEq, Int.reduceEq, Nat.reduceLeDiff, true_and, and_true, Bool.not_true, Bool.not_false, decide_eq_true_eq, List.append_nil, bType, bIsi, bLen, bInt, ty_int, ty_bl, ty_str, ty_non, ty_tup, isT, oIs, oIsNot, oSub, oAdd, oIx, run_eqI, run_neI, Bool.or_false, Bool.or_true, Bool.false_or, Bool.true_or, Bool.and_true, Bool.and_false, Bool.true_and, Bool.false_and, reduceCtorEq, decide_not, Bool.not_eq_true', decide_eq_false_iff_not, askInt, askBool, askTuple, askList, askStr, oLe, oLt, oGe, oGt, oInt2, atI0, atI1, atI2]) fun x hxm S' k' => ?_) fun r S2 ⟨S3, e1, e2, k2⟩ => ?_
            · refine ⟨_, rfl, ?_, fun _ S2 k2 => ?_⟩
              · obtain ⟨i, rfl⟩ := intV_of (hys x hxm)
                simp only [wipeE, run_ok, run_okI, run_okB, run_alloc, run_stuck, run_bind, run_ite, run_noX, run_fnOf, w_c, w_op, w_un, w_call, w_callK, w_nil, w_cons, w_tup, w_lst, isB_bl, w_tval, w_tand, w_tor, w_tnot, w_and, w_or, w_not, w_if, s_next, s_seq, s_if, s_ret, s_drop, s_set, s_par, s_put, s_asg, w_var', runS_next, runS_ret, runS_stuck, runS_ite, List.length_cons, List.length_nil, List.length_singleton, List.map_cons, List.map_nil, List.cons_append, List.nil_append, List.replicate_succ, List.replicate_zero, List.getElem?_cons_zero, List.getElem?_cons_succ, List.set_cons_zero, List.set_cons_succ, Nat.reduceAdd, Nat.reduceSub, Nat.reduceEqDiff, ite_true, ite_false, if_true, if_false, reduceIte, Bool.false_eq_true, decide_true, decide_false, String.reduceEq, Int.reduceEq, Nat.reduceLeDiff, true_and, and_true, Bool.not_true, Bool.not_false, decide_eq_true_eq, List.append_nil, bType, bIsi, bLen, bInt, ty_int, ty_bl, ty_str, ty_non, ty_tup, isT, oIs, oIsNot, oSub, oAdd, oIx, run_eqI, run_neI, Bool.or_false, Bool.or_true, Bool.false_or, Bool.true_or, Bool.and_true, Bool.and_false, Bool.true_and, Bool.false_and, reduceCtorEq, decide_not, Bool.not_eq_true', decide_eq_false_iff_not, askInt, askBool, askTuple, askList, askStr, oLe, oLt, oGe, oGt, oInt2, atI0, atI1, atI2]
                rw [notin01]
                exact ⟨rfl, .refl _⟩
              · simp only [wipeE, run_ok, run_okI, run_okB, run_alloc, run_stuck, run_bind, run_ite, run_noX, run_fnOf, w_c, w_op, w_un, w_call, w_callK, w_nil, w_cons, w_tup, w_lst, isB_bl, w_tval, w_tand, w_tor, w_tnot, w_and, w_or, w_not, w_if, s_next, s_seq, s_if, s_ret, s_drop, s_set, s_par, s_put, s_asg, w_var', runS_next, runS_ret, runS_stuck, runS_ite, List.length_cons, List.length_nil, List.length_singleton, List.map_cons, List.map_nil, List.cons_append, List.nil_append, List.replicate_succ, List.replicate_zero, List.getElem?_cons_zero, List.getElem?_cons_succ, List.set_cons_zero, List.set_cons_succ, Nat.reduceAdd, Nat.reduceSub, Nat.reduceEqDiff, ite_true, ite_false, if_true, if_false, reduceIte, Bool.false_eq_true, decide_true, decide_false, String.reduceEq, Int.reduceEq, Nat.reduceLeDiff, true_and, and_true, Bool.not_true, Bool.not_false, decide_eq_true_eq, List.append_nil, bType, bIsi, bLen, bInt, ty_int, ty_bl, ty_str, ty_non, ty_tup, isT, oIs, oIsNot, oSub, oAdd, oIx, run_eqI, run_neI, Bool.or_false, Bool.or_true, Bool.false_or, Bool.true_or, Bool.and_true, Bool.and_false, Bool.true_and, Bool.false_and, reduceCtorEq, decide_not, Bool.not_eq_true', decide_eq_false_iff_not, askInt, askBool, askTuple, askList, askStr, oLe, oLt, oGe, oGt, oInt2, atI0, atI1, atI2]
                exact ⟨rfl, .refl _⟩
            · subst e1 e2
              rw [List.map_id, eq_empty (d := 0) ((Gr.add _ _).get (get_new _ _)) (fun x hxm => by
                obtain ⟨i, rfl⟩ := intV_of (hys x (List.mem_filter.mp hxm).1)
                exact .int _ _) (by omega) (get_new _ _), filter_none]
              have kk := (k1.trans k2).trans ((Gr.add S3 [Cell.lst (ys.filter fun x => !isHalf x)]).trans (Gr.add _ [Cell.lst []])).kp
              cases hh : ys.all isHalf with
              | false => simp only [run_ok, run_okI, run_okB, run_alloc, run_stuck, run_bind, run_ite, run_noX, run_fnOf, w_c, w_op, w_un, w_call, w_callK, w_nil, w_cons, w_tup, w_lst, isB_bl, w_tval, w_tand, w_tor, w_tnot, w_and, w_or, w_not, w_if, s_next, s_seq, s_if, s_ret, s_drop, s_set, s_par, s_put, s_asg, w_var', runS_next, runS_ret, runS_stuck, runS_ite, List.length_cons, List.length_nil, List.length_singleton, List.map_cons, List.map_nil, List.cons_append, List.nil_append, List.replicate_succ, List.replicate_zero, List.getElem?_cons_zero, List.getElem?_cons_succ, List.set_cons_zero, List.set_cons_succ, Nat.reduceAdd, Nat.reduceSub, Nat.reduceEqDiff, ite_true, ite_false, if_true, if_false, reduceIte, Bool.false_eq_true, decide_true, decide_false, String.reduceEq, Int.reduceEq, Nat.reduceLeDiff, true_and, and_true, Bool.not_true, Bool.not_false, decide_eq_true_eq, List.append_nil, bType, bIsi, bLen, bInt, ty_int, ty_bl, ty_str, ty_non, ty_tup, isT, oIs, oIsNot, oSub, oAdd, oIx, run_eqI, run_neI, Bool.or_false, Bool.or_true, Bool.false_or, Bool.true_or, Bool.and_true, Bool.and_false, Bool.true_and, Bool.false_and, reduceCtorEq, decide_not, Bool.not_eq_true', decide_eq_false_iff_not, askInt, askBool, askTuple, askList, askStr, oLe, oLt, oGe, oGt, oInt2, atI0, atI1, atI2]; exact ⟨by simp [isDot, isPa, hh], kk⟩
              | true =>
                simp only [run_gtI, run_ok, run_okI, run_okB, run_alloc, run_stuck, run_bind, run_ite, run_noX, run_fnOf, w_c, w_op, w_un, w_call, w_callK, w_nil, w_cons, w_tup, w_lst, isB_bl, w_tval, w_tand, w_tor, w_tnot, w_and, w_or, w_not, w_if, s_next, s_seq, s_if, s_ret, s_drop, s_set, s_par, s_put, s_asg, w_var', runS_next, runS_ret, runS_stuck, runS_ite, List.length_cons, List.length_nil, List.length_singleton, List.map_cons, List.map_nil, List.cons_append, List.nil_append, List.replicate_succ, List.replicate_zero, List.getElem?_cons_zero, List.getElem?_cons_succ, List.set_cons_zero, List.set_cons_succ, Nat.reduceAdd, Nat.reduceSub, Nat.reduceEqDiff, ite_true, ite_false, if_true, if_false, reduceIte, Bool.false_eq_true, decide_true, decide_false, String.reduceEq, Int.reduceEq, Nat.reduceLeDiff, true_and, and_true, Bool.not_true, Bool.not_false, decide_eq_true_eq, List.append_nil, bType, bIsi, bLen, bInt, ty_int, ty_bl, ty_str, ty_non, ty_tup, isT, oIs, oIsNot, oSub, oAdd, oIx, run_eqI, run_neI, Bool.or_false, Bool.or_true, Bool.false_or, Bool.true_or, Bool.and_true, Bool.and_false, Bool.true_and, Bool.false_and, reduceCtorEq, decide_not, Bool.not_eq_true', decide_eq_false_iff_not, askInt, askBool, askTuple, askList, askStr, oLe, oLt, oGe, oGt, oInt2, atI0, atI1, atI2]
                refine ⟨?_, kk⟩
                show Val.bl (decide (0 < w)) = Val.bl ((decide (ys.length ≤ 12) && ys.all isHalf) && decide (1 ≤ w))
                rw [hh, decide_eq_true hl, Bool.true_and, Bool.true_and]
                congr 1
          · rw [if_neg (by omega)]
            exact ⟨by simp [isDot, isPa, hl], k1⟩
        | _ => cases hna
    · simp only [run_ok, run_okI, run_okB, run_alloc, run_stuck, run_bind, run_ite, run_noX, run_fnOf, w_c, w_op, w_un, w_call, w_callK, w_nil, w_cons, w_tup, w_lst, isB_bl, w_tval, w_tand, w_tor, w_tnot, w_and, w_or, w_not, w_if, s_next, s_seq, s_if, s_ret, s_drop, s_set, s_par, s_put, s_asg, w_var', runS_next, runS_ret, runS_stuck, runS_ite, List.length_cons, List.length_nil, List.length_singleton, List.map_cons, List.map_nil, List.cons_append, List.nil_append, List.replicate_succ, List.replicate_zero, List.getElem?_cons_zero, List.getElem?_cons_succ, List.set_cons_zero, List.set_cons_succ, Nat.reduceAdd, Nat.reduceSub, Nat.reduceEqDiff, ite_true, ite_false, if_true, if_false, reduceIte, Bool.false_eq_true, decide_true, decide_false, String.reduceEq, Int.reduceEq, Nat.reduceLeDiff, true_and, and_true, Bool.not_true, Bool.not_false, decide_eq_true_eq, List.append_nil, bType, bIsi, bLen, bInt, ty_int, ty_bl, ty_str, ty_non, ty_tup, isT, oIs, oIsNot, oSub, oAdd, oIx, run_eqI, run_neI, Bool.or_false, Bool.or_true, Bool.false_or, Bool.true_or, Bool.and_true, Bool.and_false, Bool.true_and, Bool.false_and, reduceCtorEq, decide_not, Bool.not_eq_true', decide_eq_false_iff_not, askInt, askBool, askTuple, askList, askStr, oLe, oLt, oGe, oGt, oInt2, atI0, atI1, atI2]
      rw [if_pos (by omega), isDot_len hl]
      exact ⟨rfl, .refl _⟩
end PD.K34

/-! ## K34M3 -/
set_option Elab.async false
set_option linter.all false
set_option maxRecDepth 100000
set_option maxHeartbeats 1000000
namespace PD.K34
open PySem PySem.Spec L2 PD LT
/-! ### the source of draws -/
def SrcAt (c k : Nat) (S : Store) : Prop := ∃ a b t : Int, S[c]? = some (.lst [.int a, .int b, .int t]) ∧ 0 ≤ b ∧ b < 2305843009213693951 ∧ 0 ≤ t ∧ t ≤ k
def Cp (c k : Nat) (S S' : Store) : Prop := SrcAt c k S' ∧ Kx c S S'
theorem SrcAt.up {c k m : Nat} {S : Store} (h : SrcAt c k S) (hk : k ≤ m) : SrcAt c m S := by
  obtain ⟨a, b, t, e, b0, b1, t0, t1⟩ := h
  exact ⟨a, b, t, e, b0, b1, t0, by omega⟩
theorem Cp.up {c k m : Nat} {S S' : Store} (h : Cp c k S S') (hk : k ≤ m) : Cp c m S S' := ⟨h.1.up hk, h.2⟩
theorem Cp.refl {c k : Nat} {S : Store} (h : SrcAt c k S) : Cp c k S S := ⟨h, Kx.refl _ _⟩
theorem Cp.trans {c k m : Nat} {S S' S2 : Store} (a : Cp c k S S') (b : Cp c m S' S2) : Cp c m S S2 := ⟨b.1, a.2.trans b.2⟩
theorem SrcAt.kp {c k : Nat} {S S2 : Store} (a : SrcAt c k S) (b : Kp S S2) : SrcAt c k S2 := by
  obtain ⟨x, y, t, e, h⟩ := a
  exact ⟨x, y, t, b _ _ e, h⟩
theorem Cp.kp {c k : Nat} {S S' S2 : Store} (a : Cp c k S S') (b : Kp S' S2) : Cp c k S S2 := ⟨a.1.kp b, a.2.trans b.kx⟩
theorem Cp.of {c k : Nat} {S S' : Store} (h : SrcAt c k S) (b : Kp S S') : Cp c k S S' := ⟨h.kp b, b.kx⟩
theorem SrcAt.lt {c k : Nat} {S : Store} (h : SrcAt c k S) : c < S.length := by
  obtain ⟨_, _, _, e, _⟩ := h
  exact (List.getElem?_eq_some_iff.mp e).1
theorem Good.cp {c k : Nat} {S S' : Store} {d L : Nat} {v : Val} (h : Good c S d L v) (q : Cp c k S S') (hd : d < 66) : Good c S' d L v := h.kx q.2 hd
theorem setK {xs : List Val} {k c : Nat} {x : Val} {S : Store} (h : S[c]? = some (.lst xs)) (hk : k < xs.length) : setAt (.ref c) (.int (k : Int)) x S = some (S.set c (.lst (xs.set k x))) := by
  show (match S[c]? with
    | some (.lst xs) => match ixN xs.length (k : Int) with
      | some j => some (S.set c (.lst (xs.set j x)))
      | none => none
    | _ => none) = _
  rw [h]
  show (match ixN xs.length (k : Int) with
      | some j => some (S.set c (.lst (xs.set j x)))
      | none => none) = _
  have e : ixN xs.length (k : Int) = some k := by
    unfold ixN
    rw [if_pos (by omega), if_pos (by omega)]; simp
  rw [e]
section
variable {c : Nat} {x a b t : Val} {S : Store}
theorem put0 (h : S[c]? = some (.lst [a, b, t])) : setAt (.ref c) (.int 0) x S = some (S.set c (.lst [x, b, t])) := setK (k := 0) h (by decide : 0 < 3)
theorem put2 (h : S[c]? = some (.lst [a, b, t])) : setAt (.ref c) (.int 2) x S = some (S.set c (.lst [a, b, x])) := setK (k := 2) h (by decide : 2 < 3)
theorem ixr2 {Q : Val → Store → Prop} (h : S[c]? = some (.lst [a, b, t])) : Run (oIx (.ref c) (.int 2) S) Q = Q t S := by rw [run_ixR h, atI2]; rfl
end
theorem rest_rng {a m : Int} (h : 0 < m) : 0 ≤ a - a / m * m ∧ a - a / m * m < m := by
  have h0 := Int.emod_nonneg a (show m ≠ 0 by omega)
  have h1 := Int.emod_lt_of_pos a h
  have e := Int.emod_def a m
  rw [Int.mul_comm m] at e
  omega
theorem abs63 {a : Int} (h : 0 ≤ a) (h' : a < 2305843009213693951) : a.natAbs < 2 ^ 63 := Nat.lt_of_lt_of_le (show a.natAbs < 2305843009213693951 by omega) (by decide)
theorem l_draw {c n k : Nat} {many : Int} {S : Store} (hc : SrcAt c k S) (h0 : 0 < many) (h1 : many ≤ 1000000) (hk : k < 100000) (hn : 0 < n) : Run ((fns n)._law_draw [.ref c, .int many] S) (fun r S' => (∃ i, r = .int i ∧ 0 ≤ i ∧ i < many) ∧ Cp c (k + 1) S S') := by
  obtain ⟨n, rfl⟩ : ∃ m, n = m + 1 := ⟨n - 1, by omega⟩
  obtain ⟨a, b, t, e, b0, b1, t0, t1⟩ := hc
  show Run (fnOf 2 6 (b__law_draw (fns n)) [.ref c, .int many] S) _
  unfold b__law_draw
  have hm63 : many.natAbs < 2 ^ 63 := abs63 (by omega) (by omega)
  refine run_fn rfl rfl ?_
  refine s_step (N' := fun ρ S' => ρ = [some (.ref c), some (.int many), none, none, none, none] ∧ S' = S) ?_ ?_
  · have take : ∀ Q R, Q → RunS (sSeq (sSet 2 (dOp oDiv (dOp oIx (dVar 0) (dC (.int 0))) (dVar 1)))
    (sSeq (sSet 3 (dOp oSub (dOp oIx (dVar 0) (dC (.int 0))) (dOp oMulE (dVar 2) (dVar 1))))
    (sSeq (sPut (dVar 0) (dC (.int 0)) (dVar 2))
    (sRet (dVar 3)))) [some (.ref c), some (.int many), none, none, none, none] S) R (fun r S' => (∃ i, r = .int i ∧ 0 ≤ i ∧ i < many) ∧ Cp c (k + 1) S S') := fun Q R _ => by
      simp only [ixr0 e, run_divP h0 h1, run_mulE (.inr hm63), put0 e, run_ok, run_okI, run_okB, run_alloc, run_stuck, run_bind, run_ite, run_noX, run_fnOf, w_c, w_op, w_un, w_call, w_callK, w_nil, w_cons, w_tup, w_lst, isB_bl, w_tval, w_tand, w_tor, w_tnot, w_and, w_or, w_not, w_if, s_next, s_seq, s_if, s_ret, s_drop, s_set, s_par, s_put, s_asg, w_var', runS_next, runS_ret, runS_stuck, runS_ite, List.length_cons, List.length_nil, List.length_singleton, List.map_cons, List.map_nil, List.cons_append, List.nil_append, List.replicate_succ, List.replicate_zero, List.getElem?_cons_zero, List.getElem?_cons_succ, List.set_cons_zero, List.set_cons_succ, Nat.reduceAdd, Nat.reduceSub, Nat.reduceEqDiff, ite_true, ite_false, if_true, if_false, reduceIte, Bool.false_eq_true, decide_true, decide_false, String.reduceEq, Int.reduceEq, Nat.reduceLeDiff, true_and, and_true, Bool.not_true, Bool.not_false, decide_eq_true_eq, List.append_nil, bType, bIsi, bLen, bInt, ty_int, ty_bl, ty_str, ty_non, ty_tup, isT, oIs, oIsNot, run_eqI, run_neI, Bool.or_false, Bool.or_true, Bool.false_or, Bool.true_or, Bool.and_true, Bool.and_false, Bool.true_and, Bool.false_and, reduceCtorEq, decide_not, Bool.not_eq_true', decide_eq_false_iff_not, askInt, askBool, askTuple, askList, askStr, oLe, oLt, oGe, oGt, oInt2, atI0, atI1, atI2, run_addI, run_subI]
      refine ⟨⟨_, rfl, rest_rng h0⟩, ⟨_, _, _, set_get e, b0, b1, t0, by omega⟩, fun m d hm q => set_other hm q⟩
    rw [s_if]
    by_cases h2 : 0 < a ∧ 1 < many
    · simp only [ixr0 e, run_gtI, h2.1, h2.2, run_ok, run_okI, run_okB, run_alloc, run_stuck, run_bind, run_ite, run_noX, run_fnOf, w_c, w_op, w_un, w_call, w_callK, w_nil, w_cons, w_tup, w_lst, isB_bl, w_tval, w_tand, w_tor, w_tnot, w_and, w_or, w_not, w_if, s_next, s_seq, s_if, s_ret, s_drop, s_set, s_par, s_put, s_asg, w_var', runS_next, runS_ret, runS_stuck, runS_ite, List.length_cons, List.length_nil, List.length_singleton, List.map_cons, List.map_nil, List.cons_append, List.nil_append, List.replicate_succ, List.replicate_zero, List.getElem?_cons_zero, List.getElem?_cons_succ, List.set_cons_zero, List.set_cons_succ, Nat.reduceAdd, Nat.reduceSub, Nat.reduceEqDiff, ite_true, ite_false, if_true, if_false, reduceIte, Bool.false_eq_true, decide_true, decide_false, String.reduceEq, Int.reduceEq, Nat.reduceLeDiff, true_and, and_true, Bool.not_true, Bool.not_false, decide_eq_true_eq, List.append_nil, bType, bIsi, bLen, bInt, ty_int, ty_bl, ty_str, ty_non, ty_tup, isT, oIs, oIsNot, run_eqI, run_neI, Bool.or_false, Bool.or_true, Bool.false_or, Bool.true_or, Bool.and_true, Bool.and_false, Bool.true_and, Bool.false_and, reduceCtorEq, decide_not, Bool.not_eq_true', decide_eq_false_iff_not, askInt, askBool, askTuple, askList, askStr, oLe, oLt, oGe, oGt, oInt2, atI0, atI1, atI2, run_addI, run_subI]
      have := take True (fun ρ S' => ρ = [some (.ref c), some (.int many), none, none, none, none] ∧ S' = S) trivial
      simp only [ixr0 e, run_ok, run_okI, run_okB, run_alloc, run_stuck, run_bind, run_ite, run_noX, run_fnOf, w_c, w_op, w_un, w_call, w_callK, w_nil, w_cons, w_tup, w_lst, isB_bl, w_tval, w_tand, w_tor, w_tnot, w_and, w_or, w_not, w_if, s_next, s_seq, s_if, s_ret, s_drop, s_set, s_par, s_put, s_asg, w_var', runS_next, runS_ret, runS_stuck, runS_ite, List.length_cons, List.length_nil, List.length_singleton, List.map_cons, List.map_nil, List.cons_append, List.nil_append, List.replicate_succ, List.replicate_zero, List.getElem?_cons_zero, List.getElem?_cons_succ, List.set_cons_zero, List.set_cons_succ, Nat.reduceAdd, Nat.reduceSub, Nat.reduceEqDiff, ite_true, ite_false, if_true, if_false, reduceIte, Bool.false_eq_true, decide_true, decide_false, String.reduceEq, Int.reduceEq, Nat.reduceLeDiff, true_and, and_true, Bool.not_true, Bool.not_false, decide_eq_true_eq, List.append_nil, bType, bIsi, bLen, bInt, ty_int, ty_bl, ty_str, ty_non, ty_tup, isT, oIs, oIsNot, run_eqI, run_neI, Bool.or_false, Bool.or_true, Bool.false_or, Bool.true_or, Bool.and_true, Bool.and_false, Bool.true_and, Bool.false_and, reduceCtorEq, decide_not, Bool.not_eq_true', decide_eq_false_iff_not, askInt, askBool, askTuple, askList, askStr, oLe, oLt, oGe, oGt, oInt2, atI0, atI1, atI2, run_addI, run_subI] at this
      exact this
    · by_cases h3 : 0 < a
      · have h4 : ¬ 1 < many := fun q => h2 ⟨h3, q⟩
        simp only [ixr0 e, run_gtI, h3, h4, run_ok, run_okI, run_okB, run_alloc, run_stuck, run_bind, run_ite, run_noX, run_fnOf, w_c, w_op, w_un, w_call, w_callK, w_nil, w_cons, w_tup, w_lst, isB_bl, w_tval, w_tand, w_tor, w_tnot, w_and, w_or, w_not, w_if, s_next, s_seq, s_if, s_ret, s_drop, s_set, s_par, s_put, s_asg, w_var', runS_next, runS_ret, runS_stuck, runS_ite, List.length_cons, List.length_nil, List.length_singleton, List.map_cons, List.map_nil, List.cons_append, List.nil_append, List.replicate_succ, List.replicate_zero, List.getElem?_cons_zero, List.getElem?_cons_succ, List.set_cons_zero, List.set_cons_succ, Nat.reduceAdd, Nat.reduceSub, Nat.reduceEqDiff, ite_true, ite_false, if_true, if_false, reduceIte, Bool.false_eq_true, decide_true, decide_false, String.reduceEq, Int.reduceEq, Nat.reduceLeDiff, true_and, and_true, Bool.not_true, Bool.not_false, decide_eq_true_eq, List.append_nil, bType, bIsi, bLen, bInt, ty_int, ty_bl, ty_str, ty_non, ty_tup, isT, oIs, oIsNot, run_eqI, run_neI, Bool.or_false, Bool.or_true, Bool.false_or, Bool.true_or, Bool.and_true, Bool.and_false, Bool.true_and, Bool.false_and, reduceCtorEq, decide_not, Bool.not_eq_true', decide_eq_false_iff_not, askInt, askBool, askTuple, askList, askStr, oLe, oLt, oGe, oGt, oInt2, atI0, atI1, atI2, run_addI, run_subI]
      · simp only [ixr0 e, run_gtI, h3, run_ok, run_okI, run_okB, run_alloc, run_stuck, run_bind, run_ite, run_noX, run_fnOf, w_c, w_op, w_un, w_call, w_callK, w_nil, w_cons, w_tup, w_lst, isB_bl, w_tval, w_tand, w_tor, w_tnot, w_and, w_or, w_not, w_if, s_next, s_seq, s_if, s_ret, s_drop, s_set, s_par, s_put, s_asg, w_var', runS_next, runS_ret, runS_stuck, runS_ite, List.length_cons, List.length_nil, List.length_singleton, List.map_cons, List.map_nil, List.cons_append, List.nil_append, List.replicate_succ, List.replicate_zero, List.getElem?_cons_zero, List.getElem?_cons_succ, List.set_cons_zero, List.set_cons_succ, Nat.reduceAdd, Nat.reduceSub, Nat.reduceEqDiff, ite_true, ite_false, if_true, if_false, reduceIte, Bool.false_eq_true, decide_true, decide_false, String.reduceEq, Int.reduceEq, Nat.reduceLeDiff, true_and, and_true, Bool.not_true, Bool.not_false, decide_eq_true_eq, List.append_nil, bType, bIsi, bLen, bInt, ty_int, ty_bl, ty_str, ty_non, ty_tup, isT, oIs, oIsNot, run_eqI, run_neI, Bool.or_false, Bool.or_true, Bool.false_or, Bool.true_or, Bool.and_true, Bool.and_false, Bool.true_and, Bool.false_and, reduceCtorEq, decide_not, Bool.not_eq_true', decide_eq_false_iff_not, askInt, askBool, askTuple, askList, askStr, oLe, oLt, oGe, oGt, oInt2, atI0, atI1, atI2, run_addI, run_subI]
  rintro ρ S1 ⟨rfl, rfl⟩
  have e2 : (S1.set c (.lst [.int a, .int b, .int (t + 1)]))[c]? = some (.lst [.int a, .int b, .int (t + 1)]) := set_get e
  refine s_step (N' := fun ρ S' => ρ = [some (.ref c), some (.int many), none, none, none, none] ∧ S' = S1.set c (.lst [.int a, .int b, .int (t + 1)])) ?_ ?_
  · simp only [ixr2 e, put2 e, run_ok, run_okI, run_okB, run_alloc, run_stuck, run_bind, run_ite, run_noX, run_fnOf, w_c, w_op, w_un, w_call, w_callK, w_nil, w_cons, w_tup, w_lst, isB_bl, w_tval, w_tand, w_tor, w_tnot, w_and, w_or, w_not, w_if, s_next, s_seq, s_if, s_ret, s_drop, s_set, s_par, s_put, s_asg, w_var', runS_next, runS_ret, runS_stuck, runS_ite, List.length_cons, List.length_nil, List.length_singleton, List.map_cons, List.map_nil, List.cons_append, List.nil_append, List.replicate_succ, List.replicate_zero, List.getElem?_cons_zero, List.getElem?_cons_succ, List.set_cons_zero, List.set_cons_succ, Nat.reduceAdd, Nat.reduceSub, Nat.reduceEqDiff, ite_true, ite_false, if_true, if_false, reduceIte, Bool.false_eq_true, decide_true, decide_false, String.reduceEq, Int.reduceEq, Nat.reduceLeDiff, true_and, and_true, Bool.not_true, Bool.not_false, decide_eq_true_eq, List.append_nil, bType, bIsi, bLen, bInt, ty_int, ty_bl, ty_str, ty_non, ty_tup, isT, oIs, oIsNot, run_eqI, run_neI, Bool.or_false, Bool.or_true, Bool.false_or, Bool.true_or, Bool.and_true, Bool.and_false, Bool.true_and, Bool.false_and, reduceCtorEq, decide_not, Bool.not_eq_true', decide_eq_false_iff_not, askInt, askBool, askTuple, askList, askStr, oLe, oLt, oGe, oGt, oInt2, atI0, atI1, atI2, run_addI, run_subI]
  rintro ρ S2 ⟨rfl, rfl⟩
  have cs : Cp c (k + 1) S1 (S1.set c (.lst [.int a, .int b, .int (t + 1)])) := ⟨⟨_, _, _, e2, b0, b1, by omega, by omega⟩, fun m d hm q => set_other hm q⟩
  generalize S1.set c (.lst [.int a, .int b, .int (t + 1)]) = S2 at *
  refine s_step (N' := fun ρ S' => ρ = [some (.ref c), some (.int many), none, none, some (.int (t + 1)), none] ∧ S' = S2) ?_ ?_
  · simp only [ixr2 e2, run_ok, run_okI, run_okB, run_alloc, run_stuck, run_bind, run_ite, run_noX, run_fnOf, w_c, w_op, w_un, w_call, w_callK, w_nil, w_cons, w_tup, w_lst, isB_bl, w_tval, w_tand, w_tor, w_tnot, w_and, w_or, w_not, w_if, s_next, s_seq, s_if, s_ret, s_drop, s_set, s_par, s_put, s_asg, w_var', runS_next, runS_ret, runS_stuck, runS_ite, List.length_cons, List.length_nil, List.length_singleton, List.map_cons, List.map_nil, List.cons_append, List.nil_append, List.replicate_succ, List.replicate_zero, List.getElem?_cons_zero, List.getElem?_cons_succ, List.set_cons_zero, List.set_cons_succ, Nat.reduceAdd, Nat.reduceSub, Nat.reduceEqDiff, ite_true, ite_false, if_true, if_false, reduceIte, Bool.false_eq_true, decide_true, decide_false, String.reduceEq, Int.reduceEq, Nat.reduceLeDiff, true_and, and_true, Bool.not_true, Bool.not_false, decide_eq_true_eq, List.append_nil, bType, bIsi, bLen, bInt, ty_int, ty_bl, ty_str, ty_non, ty_tup, isT, oIs, oIsNot, run_eqI, run_neI, Bool.or_false, Bool.or_true, Bool.false_or, Bool.true_or, Bool.and_true, Bool.and_false, Bool.true_and, Bool.false_and, reduceCtorEq, decide_not, Bool.not_eq_true', decide_eq_false_iff_not, askInt, askBool, askTuple, askList, askStr, oLe, oLt, oGe, oGt, oInt2, atI0, atI1, atI2, run_addI, run_subI]
  rintro ρ S3 ⟨rfl, rfl⟩
  have hu : (t + 1).natAbs < 2 ^ 63 := abs63 (by omega) (by omega)
  have hb : b.natAbs < 2 ^ 63 := abs63 b0 b1
  generalize t + 1 = u at *
  refine s_step (N' := fun ρ S' => ∃ x : Int, ρ = [some (.ref c), some (.int many), none, none, some (.int u), some (.int x)] ∧ S' = S3 ∧ x.natAbs < 2 ^ 63) ?_ ?_
  · simp only [ixr1 e2, run_mulE (a := 2) (.inl (by decide)), run_mulE (a := b) (.inl hb), run_mulE (a := 7919) (.inl (by decide)), run_mulE (b := u) (.inr hu), run_bIntI, run_ok, run_okI, run_okB, run_alloc, run_stuck, run_bind, run_ite, run_noX, run_fnOf, w_c, w_op, w_un, w_call, w_callK, w_nil, w_cons, w_tup, w_lst, isB_bl, w_tval, w_tand, w_tor, w_tnot, w_and, w_or, w_not, w_if, s_next, s_seq, s_if, s_ret, s_drop, s_set, s_par, s_put, s_asg, w_var', runS_next, runS_ret, runS_stuck, runS_ite, List.length_cons, List.length_nil, List.length_singleton, List.map_cons, List.map_nil, List.cons_append, List.nil_append, List.replicate_succ, List.replicate_zero, List.getElem?_cons_zero, List.getElem?_cons_succ, List.set_cons_zero, List.set_cons_succ, Nat.reduceAdd, Nat.reduceSub, Nat.reduceEqDiff, ite_true, ite_false, if_true, if_false, reduceIte, Bool.false_eq_true, decide_true, decide_false, String.reduceEq, Int.reduceEq, Nat.reduceLeDiff, true_and, and_true, Bool.not_true, Bool.not_false, decide_eq_true_eq, List.append_nil, bType, bIsi, bLen, bInt, ty_int, ty_bl, ty_str, ty_non, ty_tup, isT, oIs, oIsNot, run_eqI, run_neI, Bool.or_false, Bool.or_true, Bool.false_or, Bool.true_or, Bool.and_true, Bool.and_false, Bool.true_and, Bool.false_and, reduceCtorEq, decide_not, Bool.not_eq_true', decide_eq_false_iff_not, askInt, askBool, askTuple, askList, askStr, oLe, oLt, oGe, oGt, oInt2, atI0, atI1, atI2, run_addI, run_subI]
    rw [run_modP (by decide)]
    exact ⟨_, rfl, rfl, abs63 (Int.emod_nonneg _ (by decide)) (Int.emod_lt_of_pos _ (by decide))⟩
  rintro ρ S4 ⟨x, rfl, rfl, hx⟩
  refine s_step (N' := fun ρ S' => ∃ x : Int, ρ = [some (.ref c), some (.int many), none, none, some (.int u), some (.int x)] ∧ S' = S4 ∧ x.natAbs < 2 ^ 63) ?_ ?_
  · simp only [run_mulE (a := x) (.inl hx), run_mulE (a := 104729) (.inl (by decide)), run_bIntI, run_ok, run_okI, run_okB, run_alloc, run_stuck, run_bind, run_ite, run_noX, run_fnOf, w_c, w_op, w_un, w_call, w_callK, w_nil, w_cons, w_tup, w_lst, isB_bl, w_tval, w_tand, w_tor, w_tnot, w_and, w_or, w_not, w_if, s_next, s_seq, s_if, s_ret, s_drop, s_set, s_par, s_put, s_asg, w_var', runS_next, runS_ret, runS_stuck, runS_ite, List.length_cons, List.length_nil, List.length_singleton, List.map_cons, List.map_nil, List.cons_append, List.nil_append, List.replicate_succ, List.replicate_zero, List.getElem?_cons_zero, List.getElem?_cons_succ, List.set_cons_zero, List.set_cons_succ, Nat.reduceAdd, Nat.reduceSub, Nat.reduceEqDiff, ite_true, ite_false, if_true, if_false, reduceIte, Bool.false_eq_true, decide_true, decide_false, String.reduceEq, Int.reduceEq, Nat.reduceLeDiff, true_and, and_true, Bool.not_true, Bool.not_false, decide_eq_true_eq, List.append_nil, bType, bIsi, bLen, bInt, ty_int, ty_bl, ty_str, ty_non, ty_tup, isT, oIs, oIsNot, run_eqI, run_neI, Bool.or_false, Bool.or_true, Bool.false_or, Bool.true_or, Bool.and_true, Bool.and_false, Bool.true_and, Bool.false_and, reduceCtorEq, decide_not, Bool.not_eq_true', decide_eq_false_iff_not, askInt, askBool, askTuple, askList, askStr, oLe, oLt, oGe, oGt, oInt2, atI0, atI1, atI2, run_addI, run_subI]
    rw [run_modP (by decide), run_divP (by decide) (by decide)]
    have g0 := Int.emod_nonneg (x * x + 104729 * x + u) (show (2305843009213693951 : Int) ≠ 0 by decide)
    have g1 := Int.emod_lt_of_pos (x * x + 104729 * x + u) (show (0 : Int) < 2305843009213693951 by decide)
    exact ⟨_, rfl, rfl, abs63 (Int.ediv_nonneg g0 (by decide)) (Int.lt_of_le_of_lt (Int.ediv_le_self _ g0) g1)⟩
  clear hx x
  rintro ρ S5 ⟨x, rfl, rfl, hx⟩
  refine s_step (N' := fun ρ S' => ∃ x : Int, ρ = [some (.ref c), some (.int many), none, none, some (.int u), some (.int x)] ∧ S' = S5) ?_ ?_
  · simp only [run_mulE (a := x) (.inl hx), run_mulE (a := 611953) (.inl (by decide)), run_bIntI, run_ok, run_okI, run_okB, run_alloc, run_stuck, run_bind, run_ite, run_noX, run_fnOf, w_c, w_op, w_un, w_call, w_callK, w_nil, w_cons, w_tup, w_lst, isB_bl, w_tval, w_tand, w_tor, w_tnot, w_and, w_or, w_not, w_if, s_next, s_seq, s_if, s_ret, s_drop, s_set, s_par, s_put, s_asg, w_var', runS_next, runS_ret, runS_stuck, runS_ite, List.length_cons, List.length_nil, List.length_singleton, List.map_cons, List.map_nil, List.cons_append, List.nil_append, List.replicate_succ, List.replicate_zero, List.getElem?_cons_zero, List.getElem?_cons_succ, List.set_cons_zero, List.set_cons_succ, Nat.reduceAdd, Nat.reduceSub, Nat.reduceEqDiff, ite_true, ite_false, if_true, if_false, reduceIte, Bool.false_eq_true, decide_true, decide_false, String.reduceEq, Int.reduceEq, Nat.reduceLeDiff, true_and, and_true, Bool.not_true, Bool.not_false, decide_eq_true_eq, List.append_nil, bType, bIsi, bLen, bInt, ty_int, ty_bl, ty_str, ty_non, ty_tup, isT, oIs, oIsNot, run_eqI, run_neI, Bool.or_false, Bool.or_true, Bool.false_or, Bool.true_or, Bool.and_true, Bool.and_false, Bool.true_and, Bool.false_and, reduceCtorEq, decide_not, Bool.not_eq_true', decide_eq_false_iff_not, askInt, askBool, askTuple, askList, askStr, oLe, oLt, oGe, oGt, oInt2, atI0, atI1, atI2, run_addI, run_subI]
    rw [run_modP (by decide), run_divP (by decide) (by decide)]
    exact ⟨_, rfl, rfl⟩
  clear hx x
  rintro ρ S6 ⟨x, rfl, rfl⟩
  simp only [run_bIntI, run_modP h0, run_ok, run_okI, run_okB, run_alloc, run_stuck, run_bind, run_ite, run_noX, run_fnOf, w_c, w_op, w_un, w_call, w_callK, w_nil, w_cons, w_tup, w_lst, isB_bl, w_tval, w_tand, w_tor, w_tnot, w_and, w_or, w_not, w_if, s_next, s_seq, s_if, s_ret, s_drop, s_set, s_par, s_put, s_asg, w_var', runS_next, runS_ret, runS_stuck, runS_ite, List.length_cons, List.length_nil, List.length_singleton, List.map_cons, List.map_nil, List.cons_append, List.nil_append, List.replicate_succ, List.replicate_zero, List.getElem?_cons_zero, List.getElem?_cons_succ, List.set_cons_zero, List.set_cons_succ, Nat.reduceAdd, Nat.reduceSub, Nat.reduceEqDiff, ite_true, ite_false, if_true, if_false, reduceIte, Bool.false_eq_true, decide_true, decide_false, String.reduceEq, Int.reduceEq, Nat.reduceLeDiff, true_and, and_true, Bool.not_true, Bool.not_false, decide_eq_true_eq, List.append_nil, bType, bIsi, bLen, bInt, ty_int, ty_bl, ty_str, ty_non, ty_tup, isT, oIs, oIsNot, run_eqI, run_neI, Bool.or_false, Bool.or_true, Bool.false_or, Bool.true_or, Bool.and_true, Bool.and_false, Bool.true_and, Bool.false_and, reduceCtorEq, decide_not, Bool.not_eq_true', decide_eq_false_iff_not, askInt, askBool, askTuple, askList, askStr, oLe, oLt, oGe, oGt, oInt2, atI0, atI1, atI2, run_addI, run_subI]
  exact ⟨⟨_, rfl, Int.emod_nonneg _ (by omega), Int.emod_lt_of_pos _ h0⟩, cs⟩
theorem l_source {n : Nat} {z : Int} {S : Store} (hn : 0 < n) : Run ((fns n)._law_source [.int z] S) (fun r S' => ∃ c, r = .ref c ∧ c = S.length ∧ SrcAt c 0 S' ∧ Kp S S') := by
  obtain ⟨n, rfl⟩ : ∃ m, n = m + 1 := ⟨n - 1, by omega⟩
  show Run (fnOf 1 2 (b__law_source (fns n)) [.int z] S) _
  unfold b__law_source
  have hp : ∀ Q, Run (oPow (.int 10) (.int 18) S) Q = Q (.int (10 ^ 18)) S := fun Q => run_powE (a := 10) (b := 18) (by decide) (by decide)
  refine run_fn rfl rfl ?_
  refine s_step (N' := fun ρ S' => ∃ a : Int, ρ = [some (.int z), some (.int a)] ∧ S' = S) ?_ ?_
  · simp only [hp, run_ok, run_okI, run_okB, run_alloc, run_stuck, run_bind, run_ite, run_noX, run_fnOf, w_c, w_op, w_un, w_call, w_callK, w_nil, w_cons, w_tup, w_lst, isB_bl, w_tval, w_tand, w_tor, w_tnot, w_and, w_or, w_not, w_if, s_next, s_seq, s_if, s_ret, s_drop, s_set, s_par, s_put, s_asg, w_var', runS_next, runS_ret, runS_stuck, runS_ite, List.length_cons, List.length_nil, List.length_singleton, List.map_cons, List.map_nil, List.cons_append, List.nil_append, List.replicate_succ, List.replicate_zero, List.getElem?_cons_zero, List.getElem?_cons_succ, List.set_cons_zero, List.set_cons_succ, Nat.reduceAdd, Nat.reduceSub, Nat.reduceEqDiff, ite_true, ite_false, if_true, if_false, reduceIte, Bool.false_eq_true, decide_true, decide_false, String.reduceEq, Int.reduceEq, Nat.reduceLeDiff, true_and, and_true, Bool.not_true, Bool.not_false, decide_eq_true_eq, List.append_nil, bType, bIsi, bLen, bInt, ty_int, ty_bl, ty_str, ty_non, ty_tup, isT, oIs, oIsNot, run_eqI, run_neI, Bool.or_false, Bool.or_true, Bool.false_or, Bool.true_or, Bool.and_true, Bool.and_false, Bool.true_and, Bool.false_and, reduceCtorEq, decide_not, Bool.not_eq_true', decide_eq_false_iff_not, askInt, askBool, askTuple, askList, askStr, oLe, oLt, oGe, oGt, oInt2, atI0, atI1, atI2, run_addI, run_subI]
    split
    · exact ⟨_, rfl⟩
    · exact ⟨_, rfl⟩
  rintro ρ S1 ⟨a, rfl, rfl⟩
  simp only [run_bIntI, run_ok, run_okI, run_okB, run_alloc, run_stuck, run_bind, run_ite, run_noX, run_fnOf, w_c, w_op, w_un, w_call, w_callK, w_nil, w_cons, w_tup, w_lst, isB_bl, w_tval, w_tand, w_tor, w_tnot, w_and, w_or, w_not, w_if, s_next, s_seq, s_if, s_ret, s_drop, s_set, s_par, s_put, s_asg, w_var', runS_next, runS_ret, runS_stuck, runS_ite, List.length_cons, List.length_nil, List.length_singleton, List.map_cons, List.map_nil, List.cons_append, List.nil_append, List.replicate_succ, List.replicate_zero, List.getElem?_cons_zero, List.getElem?_cons_succ, List.set_cons_zero, List.set_cons_succ, Nat.reduceAdd, Nat.reduceSub, Nat.reduceEqDiff, ite_true, ite_false, if_true, if_false, reduceIte, Bool.false_eq_true, decide_true, decide_false, String.reduceEq, Int.reduceEq, Nat.reduceLeDiff, true_and, and_true, Bool.not_true, Bool.not_false, decide_eq_true_eq, List.append_nil, bType, bIsi, bLen, bInt, ty_int, ty_bl, ty_str, ty_non, ty_tup, isT, oIs, oIsNot, run_eqI, run_neI, Bool.or_false, Bool.or_true, Bool.false_or, Bool.true_or, Bool.and_true, Bool.and_false, Bool.true_and, Bool.false_and, reduceCtorEq, decide_not, Bool.not_eq_true', decide_eq_false_iff_not, askInt, askBool, askTuple, askList, askStr, oLe, oLt, oGe, oGt, oInt2, atI0, atI1, atI2, run_addI, run_subI]
  rw [run_modP (by decide)]
  refine ⟨_, rfl, rfl, ⟨a, _, 0, get_new _ _, Int.emod_nonneg _ (by decide), Int.emod_lt_of_pos _ (by decide), Int.le_refl _, Int.le_refl _⟩, (Gr.add _ _).kp⟩
/-! ### drawn dots -/
def dotV (p : List Int) (w : Int) : Val := .tup [pathV p, .int w]
structure Dot (p : List Int) (w : Int) : Prop where
  len : p.length ≤ 12
  half : ∀ i ∈ p, i = 0 ∨ i = 1
  lo : 1 ≤ w
  hi : w ≤ 4
theorem half_all {p : List Int} (h : ∀ i ∈ p, i = 0 ∨ i = 1) : (p.map Val.int).all isHalf = true := by
  rw [List.all_map, List.all_eq_true]
  intro i hi
  rcases h i hi with rfl | rfl <;> rfl
theorem isDot_of {p : List Int} {w : Int} (h : Dot p w) : isDot (dotV p w) = true := by
  show ((decide ((p.map Val.int).length ≤ 12) && (p.map Val.int).all isHalf) && decide (1 ≤ w)) = true
  rw [half_all h.half, List.length_map, decide_eq_true h.len, decide_eq_true h.lo]; rfl
/-- a list of drawn halves -/
theorem l_halves {n c k j : Nat} {S : Store} {ρ : PD.Env} {v : Nat} {vs : List Nat} {as : DA} (hc : SrcAt c k S) (hn : 0 < n) (hk : k + j < 100000) (e : Run (as ρ S) fun xs S1 => xs = [.int j] ∧ S1 = S) (hv : ∀ x : Val, ((wipeE ρ vs).set v (some x))[0]? = some (some (.ref c))) (hj : j ≤ 12) :
    Run (dLCR as (gN v) tYes' (dCall (fns n)._law_draw (aCons (dVar 0) (aCons (dC (.int 2)) aNil))) vs ρ S) (fun r S' => ∃ p : List Int, p.length = j ∧ (∀ i ∈ p, i = 0 ∨ i = 1) ∧ (∃ m, r = .ref m ∧ S'[m]? = some (.lst (p.map Val.int))) ∧ Cp c (k + j) S S') := by
  refine Run.mono (run_lcrI (fun acc S' => ∃ p : List Int, acc = p.map Val.int ∧ (∀ i ∈ p, i = 0 ∨ i = 1) ∧ Cp c (k + acc.length) S S') e (by omega) ⟨[], rfl, (fun _ h => nomatch h), Cp.refl hc⟩ fun x acc S1 hl ⟨p, ea, hp, cs⟩ => ?_) fun r S' ⟨S1, zs, e1, e2, hl, p, ez, hp, cs⟩ => ?_
  · rw [w_call, w_cons, w_var (hv x), w_cons, w_c, w_nil]
    refine Run.mono (l_draw cs.1 (by decide) (by decide) (by omega) hn) fun r S2 ⟨⟨i, er, i0, i1⟩, c2⟩ => ?_
    subst er ea
    refine ⟨p ++ [i], by simp, fun y hy => ?_, (cs.trans c2).up (by simp; omega)⟩
    rcases List.mem_append.mp hy with hy | hy
    · exact hp y hy
    · rw [List.mem_singleton.mp hy]; omega
  · subst e1 e2 ez
    rw [List.length_map] at hl
    refine ⟨p, hl, hp, ⟨_, rfl, get_new _ _⟩, (cs.up (by rw [List.length_map]; omega)).kp (Gr.add _ _).kp⟩
theorem run_tuple {m : Nat} {xs : List Val} {S : Store} {Q : Val → Store → Prop} (h : S[m]? = some (.lst xs)) : Run (bTuple [.ref m] S) Q = Q (.tup xs) S := by
  show Run (match S[m]? with | some c => Res.ok (.tup c.items) S | none => .stuck) Q = _
  rw [h]; rfl
theorem l_dot {c n k : Nat} {S : Store} (hc : SrcAt c k S) (hk : k < 50000) (hn : 1 < n) : Run ((fns n)._law_dot [.ref c] S) (fun r S' => (∃ p w, r = dotV p w ∧ Dot p w) ∧ Cp c (k + 15) S S') := by
  obtain ⟨n, rfl⟩ : ∃ m, n = m + 1 := ⟨n - 1, by omega⟩
  show Run (fnOf 1 3 (b__law_dot (fns n)) [.ref c] S) _
  unfold b__law_dot
  refine run_fn rfl rfl ?_
  refine s_step (N' := fun ρ S' => ∃ j : Nat, ρ = [some (.ref c), some (.int j), none] ∧ j ≤ 12 ∧ Cp c (k + 2) S S') ?_ ?_
  · simp only [run_ok, run_okI, run_okB, run_alloc, run_stuck, run_bind, run_ite, run_noX, run_fnOf, w_c, w_op, w_un, w_call, w_callK, w_nil, w_cons, w_tup, w_lst, isB_bl, w_tval, w_tand, w_tor, w_tnot, w_and, w_or, w_not, w_if, s_next, s_seq, s_if, s_ret, s_drop, s_set, s_par, s_put, s_asg, w_var', runS_next, runS_ret, runS_stuck, runS_ite, List.length_cons, List.length_nil, List.length_singleton, List.map_cons, List.map_nil, List.cons_append, List.nil_append, List.replicate_succ, List.replicate_zero, List.getElem?_cons_zero, List.getElem?_cons_succ, List.set_cons_zero, List.set_cons_succ, Nat.reduceAdd, Nat.reduceSub, Nat.reduceEqDiff, ite_true, ite_false, if_true, if_false, reduceIte, Bool.false_eq_true, decide_true, decide_false, String.reduceEq, Int.reduceEq, Nat.reduceLeDiff, true_and, and_true, Bool.not_true, Bool.not_false, decide_eq_true_eq, List.append_nil, bType, bIsi, bLen, bInt, ty_int, ty_bl, ty_str, ty_non, ty_tup, isT, oIs, oIsNot, run_eqI, run_neI, Bool.or_false, Bool.or_true, Bool.false_or, Bool.true_or, Bool.and_true, Bool.and_false, Bool.true_and, Bool.false_and, reduceCtorEq, decide_not, Bool.not_eq_true', decide_eq_false_iff_not, askInt, askBool, askTuple, askList, askStr, oLe, oLt, oGe, oGt, oInt2, atI0, atI1, atI2, run_addI, run_subI]
    refine Run.mono (l_draw hc (by decide) (by decide) (by omega) (by omega)) fun r S1 ⟨⟨i, er, i0, i1⟩, c1⟩ => ?_
    subst er
    simp only [run_gtI, run_ok, run_okI, run_okB, run_alloc, run_stuck, run_bind, run_ite, run_noX, run_fnOf, w_c, w_op, w_un, w_call, w_callK, w_nil, w_cons, w_tup, w_lst, isB_bl, w_tval, w_tand, w_tor, w_tnot, w_and, w_or, w_not, w_if, s_next, s_seq, s_if, s_ret, s_drop, s_set, s_par, s_put, s_asg, w_var', runS_next, runS_ret, runS_stuck, runS_ite, List.length_cons, List.length_nil, List.length_singleton, List.map_cons, List.map_nil, List.cons_append, List.nil_append, List.replicate_succ, List.replicate_zero, List.getElem?_cons_zero, List.getElem?_cons_succ, List.set_cons_zero, List.set_cons_succ, Nat.reduceAdd, Nat.reduceSub, Nat.reduceEqDiff, ite_true, ite_false, if_true, if_false, reduceIte, Bool.false_eq_true, decide_true, decide_false, String.reduceEq, Int.reduceEq, Nat.reduceLeDiff, true_and, and_true, Bool.not_true, Bool.not_false, decide_eq_true_eq, List.append_nil, bType, bIsi, bLen, bInt, ty_int, ty_bl, ty_str, ty_non, ty_tup, isT, oIs, oIsNot, run_eqI, run_neI, Bool.or_false, Bool.or_true, Bool.false_or, Bool.true_or, Bool.and_true, Bool.and_false, Bool.true_and, Bool.false_and, reduceCtorEq, decide_not, Bool.not_eq_true', decide_eq_false_iff_not, askInt, askBool, askTuple, askList, askStr, oLe, oLt, oGe, oGt, oInt2, atI0, atI1, atI2, run_addI, run_subI]
    split
    · refine Run.mono (l_draw c1.1 (by decide) (by decide) (by omega) (by omega)) fun r S2 ⟨⟨j, er, j0, j1⟩, c2⟩ => ?_
      subst er
      obtain ⟨j, rfl⟩ : ∃ u : Nat, j = u := ⟨j.toNat, by omega⟩
      exact ⟨j, rfl, by omega, c1.trans c2⟩
    · refine Run.mono (l_draw c1.1 (by decide) (by decide) (by omega) (by omega)) fun r S2 ⟨⟨j, er, j0, j1⟩, c2⟩ => ?_
      subst er
      obtain ⟨j, rfl⟩ : ∃ u : Nat, j = u := ⟨j.toNat, by omega⟩
      exact ⟨j, rfl, by omega, c1.trans c2⟩
  intro ρ S1 h
  obtain ⟨j, e, hj, c1⟩ := h
  have h3 : ∀ x : Val, ((wipeE ρ [2]).set 2 (some x))[0]? = some (some (.ref c)) := fun x => by subst e; rfl
  have h4 : Run ((aCons (dVar 1) aNil) ρ S1) fun xs S2 => xs = [.int j] ∧ S2 = S1 := by
    subst e
    rw [w_cons, w_var rfl, w_nil]
    exact ⟨rfl, rfl⟩
  have h5 : ρ[0]? = some (some (.ref c)) := by subst e; rfl
  clear e
  rw [s_ret, w_tup, w_cons, w_call, w_cons]
  refine Run.mono (l_halves c1.1 (by omega) (by omega) h4 h3 hj) fun r S2 ⟨p, hl, hp, ⟨m, er, em⟩, c2⟩ => ?_
  subst er
  rw [w_nil, run_tuple em, w_cons, w_op, w_c, w_call, w_cons, w_var h5, w_cons, w_c, w_nil]
  refine Run.mono (l_draw c2.1 (by decide) (by decide) (by omega) (by omega)) fun r S3 ⟨⟨i, er, i0, i1⟩, c3⟩ => ?_
  subst er
  simp only [run_ok, run_okI, run_okB, run_alloc, run_stuck, run_bind, run_ite, run_noX, run_fnOf, w_c, w_op, w_un, w_call, w_callK, w_nil, w_cons, w_tup, w_lst, isB_bl, w_tval, w_tand, w_tor, w_tnot, w_and, w_or, w_not, w_if, s_next, s_seq, s_if, s_ret, s_drop, s_set, s_par, s_put, s_asg, w_var', runS_next, runS_ret, runS_stuck, runS_ite, List.length_cons, List.length_nil, List.length_singleton, List.map_cons, List.map_nil, List.cons_append, List.nil_append, List.replicate_succ, List.replicate_zero, List.getElem?_cons_zero, List.getElem?_cons_succ, List.set_cons_zero, List.set_cons_succ, Nat.reduceAdd, Nat.reduceSub, Nat.reduceEqDiff, ite_true, ite_false, if_true, if_false, reduceIte, Bool.false_eq_true, decide_true, decide_false, String.reduceEq, Int.reduceEq, Nat.reduceLeDiff, true_and, and_true, Bool.not_true, Bool.not_false, decide_eq_true_eq, List.append_nil, bType, bIsi, bLen, bInt, ty_int, ty_bl, ty_str, ty_non, ty_tup, isT, oIs, oIsNot, run_eqI, run_neI, Bool.or_false, Bool.or_true, Bool.false_or, Bool.true_or, Bool.and_true, Bool.and_false, Bool.true_and, Bool.false_and, reduceCtorEq, decide_not, Bool.not_eq_true', decide_eq_false_iff_not, askInt, askBool, askTuple, askList, askStr, oLe, oLt, oGe, oGt, oInt2, atI0, atI1, atI2, run_addI, run_subI]
  exact ⟨⟨p, _, rfl, by omega, hp, by omega, by omega⟩, (((c1.trans c2).trans c3).up (by omega))⟩
end PD.K34

/-! ## K34M4 -/
set_option Elab.async false
set_option linter.all false
set_option maxRecDepth 100000
set_option maxHeartbeats 1000000
namespace PD.K34
open PySem PySem.Spec L2 PD LT Builtin.Str
/-! ### how wide a good value is -/
theorem piled_len : ∀ ts : List Str, 2 * ts.length ≤ piled ts
  | [] => Nat.le_refl _
  | t :: ts => by
    have := piled_len ts
    rw [piled_cons, List.length_cons]; omega
theorem shownAll_len : ∀ ps : List PyData, (PyData.shownAll ps).length = ps.length
  | [] => rfl
  | p :: ps => by
    show (p.shown :: PyData.shownAll ps).length = _
    rw [List.length_cons, shownAll_len ps, List.length_cons]
theorem wid_of {c d L : Nat} {S : Store} {v : Val} (h : Good c S d L v) (hL : L ≤ 1000000) (hd : d < 65) : Wid v := by
  have go : ∀ (xs ys : List Val), v = .tup (.tup xs :: ys) → xs.length ≤ 1000000 := fun xs ys e => by
    subst e
    have hl := h.ln
    cases h.da with
    | @tup d' _ hx =>
      have h1 := hx (.tup xs) List.mem_cons_self
      rw [dat_tup (fun x hm => (hx x hm).da) (by omega)] at hl
      cases h1 with
      | @tup d2 _ hy =>
        have hl : (tupleText ((dat S (.tup xs)).shown :: PyData.shownAll (ys.map (dat S)))).length ≤ L := hl
        have a := piled_le_tupleText ((dat S (.tup xs)).shown :: PyData.shownAll (ys.map (dat S)))
        rw [piled_cons, dat_tup (fun x hm => (hy x hm).da) (by omega)] at a
        have b := piled_le_tupleText (PyData.shownAll (xs.map (dat S)))
        have b2 := piled_len (PyData.shownAll (xs.map (dat S)))
        rw [shownAll_len, List.length_map] at b2
        have e : (PyData.tuple (xs.map (dat S))).shown = tupleText (PyData.shownAll (xs.map (dat S))) := rfl
        rw [e] at a
        rw [dat_tup (fun x hm => (hy x hm).da) (by omega), e] at hl
        omega
  cases v with
  | tup zs =>
    cases zs with
    | nil => exact trivial
    | cons z zs =>
      cases z with
      | tup xs => exact go xs zs rfl
      | _ => exact trivial
  | _ => exact trivial
theorem goods_all {c d L : Nat} {S : Store} : ∀ {xs : List Val}, (∀ x ∈ xs, Good c S d L x) → Goods c S d (xs.length * (L + 2)) xs
  | [], _ => .nil _
  | x :: xs, h => .cons (h x List.mem_cons_self) (goods_all fun y hy => h y (List.mem_cons_of_mem _ hy)) (by rw [List.length_cons, Nat.succ_mul]; omega)
theorem mem_cut {α : Type} {xs : List α} {lo hi : Option Int} {x : α} (h : x ∈ cutL xs lo hi) : x ∈ xs := List.mem_of_mem_drop (List.mem_of_mem_take h)
theorem len_cut {α : Type} {xs : List α} {lo hi : Option Int} : (cutL xs lo hi).length ≤ xs.length := by
  unfold cutL
  rw [List.length_take, List.length_drop]; omega
theorem pickG {c k n D L m : Nat} {xs : List Val} {many : Int} {S : Store} {Q : Val → Store → Prop} (hm : m ≠ c) (e : S[m]? = some (.lst xs)) (hx : ∀ x ∈ xs, Good c S D L x) (hD : D < 66) (hc : SrcAt c k S) (hk : k < 100000) (hn : 0 < n) (hl : many = xs.length) (h0 : 0 < xs.length) (h1 : xs.length ≤ 1000000)
    (q : ∀ x S', Good c S' D L x → Cp c (k + 1) S S' → Q x S') : Run ((fns n)._law_draw [.ref c, .int many] S) (fun a S1 => Run (oIx (.ref m) a S1) Q) := by
  subst hl
  refine Run.mono (l_draw hc (by omega) (by omega) hk hn) fun r S1 ⟨⟨i, er, i0, i1⟩, cs⟩ => ?_
  subst er
  refine Run.mono (run_pick (fun x => Good c S1 D L x) (cs.2 _ _ hm e) i0 i1 fun x hm' => (hx x hm').kx cs.2 hD) fun x S2 ⟨g, e2⟩ => ?_
  subst e2
  exact q x S2 g cs
theorem gT2v {i j : Nat} {a b : Val} {ρ : PD.Env} : gT [gN i, gN j] (.tup [a, b]) ρ = some ((ρ.set i (some a)).set j (some b)) := rfl
theorem hp30 {S : Store} {Q : Val → Store → Prop} : Run (oPow (.int 10) (.int 30) S) Q = Q (.int (10 ^ 30)) S := run_powE (a := 10) (b := 30) (by decide) (by decide)
theorem hp60 {S : Store} {Q : Val → Store → Prop} : Run (oPow (.int 10) (.int 60) S) Q = Q (.int (10 ^ 60)) S := run_powE (a := 10) (b := 60) (by decide) (by decide)
theorem hp29 {S : Store} {Q : Val → Store → Prop} : Run (oPow (.int 10) (.int 29) S) Q = Q (.int (10 ^ 29)) S := run_powE (a := 10) (b := 29) (by decide) (by decide)
theorem hm89 {S : Store} {Q : Val → Store → Prop} : Run (oMulE (.int (10 ^ 60)) (.int (10 ^ 29)) S) Q = Q (.int (10 ^ 89)) S := by
  show Run (if ((10 : Int) ^ 60).natAbs < 2 ^ 63 ∨ ((10 : Int) ^ 29).natAbs < 2 ^ 63 ∨ ((10 : Int) ^ 60).natAbs.log2 + ((10 : Int) ^ 29).natAbs.log2 < 1000000 then okI ((10 : Int) ^ 60 * 10 ^ 29) S else .stuck) Q = _
  rw [if_pos (.inr (.inr (by decide +kernel)))]; rfl
def zs (k : Nat) : List Val := List.replicate k (.int 0)
theorem hr13 {S : Store} {Q : Val → Store → Prop} : Run (oRepT (.tup [.int 0]) (.int 13) S) Q = Q (.tup (zs 13)) S := run_repT (k := 13) (by decide) (by decide)
theorem hr2900 {S : Store} {Q : Val → Store → Prop} : Run (oRepT (.tup [.int 0]) (.int 2900) S) Q = Q (.tup (zs 2900)) S := run_repT (k := 2900) (by decide) (by decide)
theorem run_listT {ys : List Val} {S : Store} {Q : Val → Store → Prop} : Run (bListOf [.tup ys] S) Q = Q (.ref S.length) (S ++ [.lst ys]) := rfl
theorem run_lenT {ys : List Val} {S : Store} {Q : Val → Store → Prop} : Run (bLen [.tup ys] S) Q = Q (.int ys.length) S := rfl
theorem good_num {c d : Nat} {S : Store} {i : Int} (h : -10 ≤ i) (h' : i ≤ 10) : Good c S d 101 (.int i) := .num (by omega) (by omega)
theorem good_ints {c : Nat} {S : Store} {xs : List Val} (h : ∀ x ∈ xs, ∃ i : Int, x = .int i ∧ -10 ≤ i ∧ i ≤ 10) (hl : xs.length ≤ 20) : Good c S 1 2100 (.tup xs) := by
  refine (Good.tup (d := 0) (goods_all (L := 101) fun x hx => ?_) (by omega) (Nat.le_refl _)).up (Nat.le_refl _) ?_
  · obtain ⟨i, rfl, h0, h1⟩ := h x hx
    exact good_num h0 h1
  · have : xs.length * (101 + 2) ≤ 20 * (101 + 2) := Nat.mul_le_mul_right _ hl
    omega
theorem path_mem {p : List Int} {w : Int} (h : Dot p w) : ∀ x ∈ p.map Val.int, ∃ i : Int, x = .int i ∧ -10 ≤ i ∧ i ≤ 10 := fun x hx => by
  obtain ⟨i, hi, rfl⟩ := List.mem_map.mp hx
  rcases h.half i hi with rfl | rfl
  · exact ⟨0, rfl, by omega, by omega⟩
  · exact ⟨1, rfl, by omega, by omega⟩
theorem good_path {c : Nat} {S : Store} {p : List Int} {w : Int} (h : Dot p w) : Good c S 1 2100 (pathV p) := good_ints (path_mem h) (by have := h.len; rw [List.length_map]; omega)
theorem good_dot {c : Nat} {S : Store} {p : List Int} {w : Int} (h : Dot p w) : Good c S 10 40000 (dotV p w) :=
  (Good.two (d := 1) (N := 3000) (good_path h) (good_num (d := 1) (by have := h.lo; omega) (by have := h.hi; omega)) (by omega) (by omega)).up (by omega) (by omega)
/-! ### values that are no dots -/
abbrev BE (c : Nat) (p : List Int) (w : Int) (x3 x4 x5 x6 x7 : Option Val) : PD.Env := [some (.ref c), some (pathV p), some (.int w), x3, x4, x5, x6, x7]
section
variable {c n k m : Nat} {p : List Int} {w i : Int} {S : Store} {R : Val → Store → Prop} {x3 x4 x5 x6 x7 : Option Val} {o u v : Val}
theorem bd_0 (hc : SrcAt c k S) (hk : k < 40000) (hn : 1 < n) : RunS (st__law_bad_dot_0 (fns n) [some (.ref c), none, none, x3, x4, x5, x6, x7] S) (fun ρ S' => ∃ p w, ρ = BE c p w x3 x4 x5 x6 x7 ∧ Dot p w ∧ Cp c (k + 15) S S') R := by
  unfold st__law_bad_dot_0
  simp only [run_ok, run_okI, run_okB, run_alloc, run_stuck, run_bind, run_ite, run_noX, run_fnOf, w_c, w_op, w_un, w_call, w_callK, w_nil, w_cons, w_tup, w_lst, isB_bl, w_tval, w_tand, w_tor, w_tnot, w_and, w_or, w_not, w_if, s_next, s_seq, s_if, s_ret, s_drop, s_set, s_par, s_put, s_asg, w_var', runS_next, runS_ret, runS_stuck, runS_ite, List.length_cons, List.length_nil, List.length_singleton, List.map_cons, List.map_nil, List.cons_append, List.nil_append, List.replicate_succ, List.replicate_zero, List.getElem?_cons_zero, List.getElem?_cons_succ, List.set_cons_zero, List.set_cons_succ, Nat.reduceAdd, Nat.reduceSub, Nat.reduceEqDiff, ite_true, ite_false, if_true, if_false, reduceIte, Bool.false_eq_true, decide_true, decide_false, String.reduceEq, Int.reduceEq, Nat.reduceLeDiff, true_and, and_true, Bool.not_true, Bool.not_false, decide_eq_true_eq, List.append_nil, bType, bIsi, bLen, bInt, ty_int, ty_bl, ty_str, ty_non, ty_tup, isT, oIs, oIsNot, run_eqI, run_neI, Bool.or_false, Bool.or_true, Bool.false_or, Bool.true_or, Bool.and_true, Bool.and_false, Bool.true_and, Bool.false_and, reduceCtorEq, decide_not, Bool.not_eq_true', decide_eq_false_iff_not, askInt, askBool, askTuple, askList, askStr, oLe, oLt, oGe, oGt, oInt2, atI0, atI1, atI2, run_addI, run_subI]
  refine Run.mono (l_dot hc (by omega) hn) fun r S1 ⟨⟨p, w, e, h⟩, cs⟩ => ?_
  subst e
  exact ⟨p, w, rfl, h, cs⟩
theorem bd_1 (hc : SrcAt c k S) (hk : k < 40000) (hn : 0 < n) (hp : Dot p w) : RunS (st__law_bad_dot_1 (fns n) (BE c p w x3 x4 x5 x6 x7) S) (fun ρ S' => ∃ i : Int, ρ = BE c p w (some (.int i)) x4 x5 x6 x7 ∧ Cp c (k + 1) S S') R := by
  have hl := hp.len
  unfold st__law_bad_dot_1
  rw [s_set, w_call, w_cons, w_var rfl, w_cons, w_op, w_call, w_cons, w_var rfl, w_nil]
  unfold pathV
  rw [run_lenT, w_c, run_addI, w_nil, List.length_map]
  refine Run.mono (l_draw hc (by omega) (by omega) (by omega) hn) fun r S1 ⟨⟨i, e, i0, i1⟩, cs⟩ => ?_
  subst e
  exact ⟨i, rfl, cs⟩
theorem bd_2 (hc : SrcAt c k S) (hk : k < 40000) (hn : 0 < n) : RunS (st__law_bad_dot_2 (fns n) (BE c p w x3 x4 x5 x6 x7) S) (fun ρ S' => ∃ o, ρ = BE c p w x3 (some o) x5 x6 x7 ∧ Good c S' 3 500 o ∧ Cp c (k + 1) S S') R := by
  unfold st__law_bad_dot_2
  simp only [w_un, run_neg, hp30, run_ok, run_okI, run_okB, run_alloc, run_stuck, run_bind, run_ite, run_noX, run_fnOf, w_c, w_op, w_un, w_call, w_callK, w_nil, w_cons, w_tup, w_lst, isB_bl, w_tval, w_tand, w_tor, w_tnot, w_and, w_or, w_not, w_if, s_next, s_seq, s_if, s_ret, s_drop, s_set, s_par, s_put, s_asg, w_var', runS_next, runS_ret, runS_stuck, runS_ite, List.length_cons, List.length_nil, List.length_singleton, List.map_cons, List.map_nil, List.cons_append, List.nil_append, List.replicate_succ, List.replicate_zero, List.getElem?_cons_zero, List.getElem?_cons_succ, List.set_cons_zero, List.set_cons_succ, Nat.reduceAdd, Nat.reduceSub, Nat.reduceEqDiff, ite_true, ite_false, if_true, if_false, reduceIte, Bool.false_eq_true, decide_true, decide_false, String.reduceEq, Int.reduceEq, Nat.reduceLeDiff, true_and, and_true, Bool.not_true, Bool.not_false, decide_eq_true_eq, List.append_nil, bType, bIsi, bLen, bInt, ty_int, ty_bl, ty_str, ty_non, ty_tup, isT, oIs, oIsNot, run_eqI, run_neI, Bool.or_false, Bool.or_true, Bool.false_or, Bool.true_or, Bool.and_true, Bool.and_false, Bool.true_and, Bool.false_and, reduceCtorEq, decide_not, Bool.not_eq_true', decide_eq_false_iff_not, askInt, askBool, askTuple, askList, askStr, oLe, oLt, oGe, oGt, oInt2, atI0, atI1, atI2, run_addI, run_subI]
  have kA := (Gr.add S [.lst [.int 0]]).kp
  have hA := get_new S (.lst [.int 0])
  have cA := hc.kp kA
  have hlA : S.length ≠ c := Nat.ne_of_gt hc.lt
  generalize S ++ [.lst [.int 0]] = A at *
  have hlB : A.length ≠ c := Nat.ne_of_gt cA.lt
  have kB := fun x : Cell => (Gr.add A [x]).kp
  have g1 : ∀ x : Cell, Good c (A ++ [x]) 3 500 (.ref S.length) := fun x => (Good.ref (d := 0) (L := 103) (N := 106) hlA (kB x _ _ hA) (.cons (good_num (by decide) (by decide)) (.nil 0) (by omega)) (by omega) (by omega)).up (by omega) (by omega)
  refine pickG hlB (get_new _ _) ?_ (by omega) (cA.kp (kB _)) (by omega) hn rfl (by decide : 0 < 9) (by decide : 9 ≤ 1000000) fun x S' g cs => ⟨x, rfl, g, (Cp.of hc (kA.trans (kB _))).trans cs⟩
  simp only [List.mem_cons, List.not_mem_nil, or_false, forall_eq_or_imp, forall_eq]
  exact ⟨gd_all (by decide +kernel), gd_all (by decide +kernel), gd_all (by decide +kernel), gd_all (by decide +kernel), gd_all (by decide +kernel), gd_all (by decide +kernel), gd_all (by decide +kernel), g1 _, gd_all (by decide +kernel)⟩
theorem bd_3 (hc : SrcAt c k S) (hk : k < 40000) (hn : 0 < n) : RunS (st__law_bad_dot_3 (fns n) (BE c p w x3 x4 x5 x6 x7) S) (fun ρ S' => ∃ o, ρ = BE c p w x3 x4 (some o) x6 x7 ∧ Good c S' 3 500 o ∧ Cp c (k + 1) S S') R := by
  unfold st__law_bad_dot_3
  simp only [w_un, run_neg, hp30, run_ok, run_okI, run_okB, run_alloc, run_stuck, run_bind, run_ite, run_noX, run_fnOf, w_c, w_op, w_un, w_call, w_callK, w_nil, w_cons, w_tup, w_lst, isB_bl, w_tval, w_tand, w_tor, w_tnot, w_and, w_or, w_not, w_if, s_next, s_seq, s_if, s_ret, s_drop, s_set, s_par, s_put, s_asg, w_var', runS_next, runS_ret, runS_stuck, runS_ite, List.length_cons, List.length_nil, List.length_singleton, List.map_cons, List.map_nil, List.cons_append, List.nil_append, List.replicate_succ, List.replicate_zero, List.getElem?_cons_zero, List.getElem?_cons_succ, List.set_cons_zero, List.set_cons_succ, Nat.reduceAdd, Nat.reduceSub, Nat.reduceEqDiff, ite_true, ite_false, if_true, if_false, reduceIte, Bool.false_eq_true, decide_true, decide_false, String.reduceEq, Int.reduceEq, Nat.reduceLeDiff, true_and, and_true, Bool.not_true, Bool.not_false, decide_eq_true_eq, List.append_nil, bType, bIsi, bLen, bInt, ty_int, ty_bl, ty_str, ty_non, ty_tup, isT, oIs, oIsNot, run_eqI, run_neI, Bool.or_false, Bool.or_true, Bool.false_or, Bool.true_or, Bool.and_true, Bool.and_false, Bool.true_and, Bool.false_and, reduceCtorEq, decide_not, Bool.not_eq_true', decide_eq_false_iff_not, askInt, askBool, askTuple, askList, askStr, oLe, oLt, oGe, oGt, oInt2, atI0, atI1, atI2, run_addI, run_subI]
  have kA := (Gr.add S [.lst [.int 1]]).kp
  have hA := get_new S (.lst [.int 1])
  have cA := hc.kp kA
  have hlA : S.length ≠ c := Nat.ne_of_gt hc.lt
  generalize S ++ [.lst [.int 1]] = A at *
  have hlB : A.length ≠ c := Nat.ne_of_gt cA.lt
  have kB := fun x : Cell => (Gr.add A [x]).kp
  have g1 : ∀ x : Cell, Good c (A ++ [x]) 3 500 (.ref S.length) := fun x => (Good.ref (d := 0) (L := 103) (N := 106) hlA (kB x _ _ hA) (.cons (good_num (by decide) (by decide)) (.nil 0) (by omega)) (by omega) (by omega)).up (by omega) (by omega)
  refine pickG hlB (get_new _ _) ?_ (by omega) (cA.kp (kB _)) (by omega) hn rfl (by decide : 0 < 9) (by decide : 9 ≤ 1000000) fun x S' g cs => ⟨x, rfl, g, (Cp.of hc (kA.trans (kB _))).trans cs⟩
  simp only [List.mem_cons, List.not_mem_nil, or_false, forall_eq_or_imp, forall_eq]
  exact ⟨gd_all (by decide +kernel), gd_all (by decide +kernel), gd_all (by decide +kernel), gd_all (by decide +kernel), gd_all (by decide +kernel), gd_all (by decide +kernel), g1 _, gd_all (by decide +kernel), gd_all (by decide +kernel)⟩
theorem bd_4 (hc : SrcAt c k S) (hp : Dot p w) (ho : Good c S 3 500 o) (hu : Good c S 3 500 u) : RunS (st__law_bad_dot_4 (fns n) (BE c p w (some (.int i)) (some o) (some u) x6 x7) S) (fun ρ S' => ∃ m, ρ = BE c p w (some (.int i)) (some o) (some u) (some (.ref m)) x7 ∧ Vs c 10 40000 9 m S' ∧ Cp c k S S') R := by
  have hl := hp.len
  have hw : ∀ (d : Nat) (S' : Store), Good c S' d 101 (.int w) := fun d S' => good_num (by have := hp.lo; omega) (by have := hp.hi; omega)
  unfold st__law_bad_dot_4
  have l1 := len_cut (xs := p.map Val.int) (lo := none) (hi := some i)
  have l2 := len_cut (xs := p.map Val.int) (lo := some i) (hi := none)
  rw [List.length_map] at l1 l2
  have a1 : ∀ (S : Store) Q, Run (oAdd (.tup (cutL (p.map Val.int) none (some i))) (.tup [o]) S) Q = Q (.tup (cutL (p.map Val.int) none (some i) ++ [o])) S := fun S Q => run_addT (by rw [List.length_singleton]; omega)
  have a2 : ∀ (S : Store) Q, Run (oAdd (.tup (cutL (p.map Val.int) none (some i) ++ [o])) (.tup (cutL (p.map Val.int) (some i) none)) S) Q = Q (.tup (cutL (p.map Val.int) none (some i) ++ [o] ++ cutL (p.map Val.int) (some i) none)) S := fun S Q => run_addT (by rw [List.length_append, List.length_singleton]; omega)
  simp only [pathV, w_sl, w_oNone, w_oSome, run_slT, a1, a2, hr13, run_listT, run_ok, run_okI, run_okB, run_alloc, run_stuck, run_bind, run_ite, run_noX, run_fnOf, w_c, w_op, w_un, w_call, w_callK, w_nil, w_cons, w_tup, w_lst, isB_bl, w_tval, w_tand, w_tor, w_tnot, w_and, w_or, w_not, w_if, s_next, s_seq, s_if, s_ret, s_drop, s_set, s_par, s_put, s_asg, w_var', runS_next, runS_ret, runS_stuck, runS_ite, List.length_cons, List.length_nil, List.length_singleton, List.map_cons, List.map_nil, List.cons_append, List.nil_append, List.replicate_succ, List.replicate_zero, List.getElem?_cons_zero, List.getElem?_cons_succ, List.set_cons_zero, List.set_cons_succ, Nat.reduceAdd, Nat.reduceSub, Nat.reduceEqDiff, ite_true, ite_false, if_true, if_false, reduceIte, Bool.false_eq_true, decide_true, decide_false, String.reduceEq, Int.reduceEq, Nat.reduceLeDiff, true_and, and_true, Bool.not_true, Bool.not_false, decide_eq_true_eq, List.append_nil, bType, bIsi, bLen, bInt, ty_int, ty_bl, ty_str, ty_non, ty_tup, isT, oIs, oIsNot, run_eqI, run_neI, Bool.or_false, Bool.or_true, Bool.false_or, Bool.true_or, Bool.and_true, Bool.and_false, Bool.true_and, Bool.false_and, reduceCtorEq, decide_not, Bool.not_eq_true', decide_eq_false_iff_not, askInt, askBool, askTuple, askList, askStr, oLe, oLt, oGe, oGt, oInt2, atI0, atI1, atI2, run_addI, run_subI]
  have gA : ∀ S', Kp S S' → Good c S' 10 40000 (.tup [.tup (cutL (p.map Val.int) none (some i) ++ [o] ++ cutL (p.map Val.int) (some i) none), .int w]) := fun S' k' => by
    refine (Good.two (d := 4) (N := 20000) (Good.tup (d := 3) (N := 18000) (goods_all (L := 500) fun x hx => ?_) (by omega) ?_) (hw _ _) (by omega) (by omega)).up (by omega) (by omega)
    · rcases List.mem_append.mp hx with hx | hx
      · rcases List.mem_append.mp hx with hx | hx
        · obtain ⟨i, rfl, i0, i1⟩ := path_mem hp x (mem_cut hx)
          exact (good_num i0 i1).up (Nat.le_refl _) (by omega)
        · rw [List.mem_singleton.mp hx]
          exact ho.gr k' (by omega)
      · obtain ⟨i, rfl, i0, i1⟩ := path_mem hp x (mem_cut hx)
        exact (good_num i0 i1).up (Nat.le_refl _) (by omega)
    · have : (cutL (p.map Val.int) none (some i) ++ [o] ++ cutL (p.map Val.int) (some i) none).length ≤ 30 := by
        rw [List.length_append, List.length_append, List.length_singleton]; omega
      have := Nat.mul_le_mul_right (500 + 2) this
      omega
  generalize (.tup [.tup (cutL (p.map Val.int) none (some i) ++ [o] ++ cutL (p.map Val.int) (some i) none), .int w] : Val) = v1 at *
  have gB : ∀ S', Kp S S' → Good c S' 10 40000 (.tup [pathV p, u]) := fun S' k' => (Good.two (d := 3) (N := 3000) ((good_path hp).up (by omega) (Nat.le_refl _)) (hu.gr k' (by omega)) (by omega) (by omega)).up (by omega) (by omega)
  unfold pathV at gB
  rw [show ∀ Q, Run (oRepL (.ref S.length) (.int 4) (S ++ [.lst [v1]])) Q = Q (.ref (S ++ [Cell.lst [v1]]).length) (S ++ [.lst [v1]] ++ [.lst (repV 4 [v1])]) from fun Q => run_repLL (k := 4) (Nat.le_of_ble_eq_true rfl) (by decide)]
  have kA := ((Gr.add S [.lst [v1]]).trans (Gr.add _ [.lst (repV 4 [v1])])).kp
  have hA := get_new (S ++ [.lst [v1]]) (.lst (repV 4 [v1]))
  have cA := hc.kp kA
  have hlA : (S ++ [Cell.lst [v1]]).length ≠ c := by have := hc.lt; rw [List.length_append]; omega
  have vA : Vs c 10 40000 4 (S ++ [Cell.lst [v1]]).length (S ++ [Cell.lst [v1]] ++ [.lst (repV 4 [v1])]) := ⟨hlA, _, hA, rfl, fun x hx => by
    rw [List.mem_singleton.mp (mem_repV hx)]
    exact gA _ kA⟩
  generalize S ++ [Cell.lst [v1]] ++ [.lst (repV 4 [v1])] = A at *
  generalize (S ++ [Cell.lst [v1]]).length = m1 at *
  refine Run.mono (Vs.moreK (w := 3) (ys := [_]) vA cA.lt (by omega) (fun y hy => by rw [List.mem_singleton.mp hy]; exact gB _ kA) (Nat.le_of_ble_eq_true rfl) (by decide)) fun y S1 h => Run.mono h fun r S2 ⟨m2, e, vB, kB⟩ => ?_
  subst e
  have cB := cA.kp kB
  have kC := (Gr.add S2 [.lst (p.map Val.int)]).kp
  have hC := get_new S2 (.lst (p.map Val.int))
  have hlC : S2.length ≠ c := Nat.ne_of_gt cB.lt
  have cC := cB.kp kC
  have vC := vB.kx kC.kx (by omega)
  have gC : Good c (S2 ++ [.lst (p.map Val.int)]) 1 2100 (.ref S2.length) := by
    refine (Good.ref (d := 0) hlC hC (goods_all (L := 101) fun x hx => ?_) (by omega) (Nat.le_refl _)).up (Nat.le_refl _) ?_
    · obtain ⟨i, rfl, i0, i1⟩ := path_mem hp x hx
      exact good_num i0 i1
    · have := Nat.mul_le_mul_right (101 + 2) (show (p.map Val.int).length ≤ 12 by rw [List.length_map]; exact hl)
      omega
  generalize S2 ++ [.lst (p.map Val.int)] = C at *
  refine Run.mono (Vs.more (ys := [_, _]) vC cC.lt (by omega) ?_ (Nat.le_of_ble_eq_true rfl)) fun r S3 ⟨m3, e, vD, kD⟩ => ?_
  · simp only [List.mem_cons, List.not_mem_nil, or_false, forall_eq_or_imp, forall_eq]
    refine ⟨(Good.two (d := 1) (N := 3000) (Good.tup (d := 0) (N := 2000) (Goods.same (good_num (by decide) (by decide)) 13) (by omega) (by decide)) (hw _ _) (by omega) (by omega)).up (by omega) (by omega), (Good.two (d := 1) (N := 3000) gC (hw _ _) (by omega) (by omega)).up (by omega) (by omega)⟩
  · subst e
    exact ⟨m3, rfl, vD, Cp.of hc (((kA.trans kB).trans kC).trans kD)⟩
theorem bd_5 (hc : SrcAt c k S) (hp : Dot p w) (hv : Vs c 10 40000 9 m S) : RunS (st__law_bad_dot_5 (fns n) (BE c p w x3 x4 x5 (some (.ref m)) x7) S) (fun ρ S' => ∃ m, ρ = BE c p w x3 x4 x5 (some (.ref m)) x7 ∧ Vs c 10 40000 19 m S' ∧ Cp c k S S') R := by
  have hl := hp.len
  have hw : ∀ (d : Nat) (S' : Store), Good c S' d 101 (.int w) := fun d S' => good_num (by have := hp.lo; omega) (by have := hp.hi; omega)
  have gp : ∀ (d : Nat) (S' : Store), Good c S' (d + 1) 2100 (pathV p) := fun d S' => (good_path hp).up (by omega) (Nat.le_refl _)
  unfold st__law_bad_dot_5
  have a1 : ∀ (S : Store) Q, Run (oAdd (pathV p) (.tup [.int w]) S) Q = Q (.tup (p.map Val.int ++ [.int w])) S := fun S Q => run_addT (by rw [List.length_singleton, List.length_map]; omega)
  simp only [a1, run_ok, run_okI, run_okB, run_alloc, run_stuck, run_bind, run_ite, run_noX, run_fnOf, w_c, w_op, w_un, w_call, w_callK, w_nil, w_cons, w_tup, w_lst, isB_bl, w_tval, w_tand, w_tor, w_tnot, w_and, w_or, w_not, w_if, s_next, s_seq, s_if, s_ret, s_drop, s_set, s_par, s_put, s_asg, w_var', runS_next, runS_ret, runS_stuck, runS_ite, List.length_cons, List.length_nil, List.length_singleton, List.map_cons, List.map_nil, List.cons_append, List.nil_append, List.replicate_succ, List.replicate_zero, List.getElem?_cons_zero, List.getElem?_cons_succ, List.set_cons_zero, List.set_cons_succ, Nat.reduceAdd, Nat.reduceSub, Nat.reduceEqDiff, ite_true, ite_false, if_true, if_false, reduceIte, Bool.false_eq_true, decide_true, decide_false, String.reduceEq, Int.reduceEq, Nat.reduceLeDiff, true_and, and_true, Bool.not_true, Bool.not_false, decide_eq_true_eq, List.append_nil, bType, bIsi, bLen, bInt, ty_int, ty_bl, ty_str, ty_non, ty_tup, isT, oIs, oIsNot, run_eqI, run_neI, Bool.or_false, Bool.or_true, Bool.false_or, Bool.true_or, Bool.and_true, Bool.and_false, Bool.true_and, Bool.false_and, reduceCtorEq, decide_not, Bool.not_eq_true', decide_eq_false_iff_not, askInt, askBool, askTuple, askList, askStr, oLe, oLt, oGe, oGt, oInt2, atI0, atI1, atI2, run_addI, run_subI]
  have kA := (Gr.add S [.lst [pathV p, .int w]]).kp
  have hA := get_new S (.lst [pathV p, .int w])
  have cA := hc.kp kA
  have hlA : S.length ≠ c := Nat.ne_of_gt hc.lt
  have vA := hv.kx kA.kx (by omega)
  have gA : Good c (S ++ [.lst [pathV p, .int w]]) 10 40000 (.ref S.length) := (Good.ref (d := 1) (L := 2500) (N := 3000) hlA hA (.cons (gp 0 _) (.cons (hw _ _) (.nil 0) (Nat.le_refl _)) (by omega)) (by omega) (by omega)).up (by omega) (by omega)
  generalize S ++ [.lst [pathV p, .int w]] = A at *
  refine Run.mono (Vs.more (ys := [_, _, _, _, _, _, _, _, _, _]) vA cA.lt (by omega) ?_ (Nat.le_of_ble_eq_true rfl)) fun r S3 ⟨m3, e, vD, kD⟩ => ?_
  · simp only [List.mem_cons, List.not_mem_nil, or_false, forall_eq_or_imp, forall_eq]
    refine ⟨gA, (Good.one (d := 1) (N := 3000) (gp 0 _) (by omega) (by omega)).up (by omega) (by omega), (Good.three (d := 1) (N := 3000) (gp 0 _) (hw _ _) (good_num (d := 1) (i := 0) (by decide) (by decide)) (by omega) (by omega)).up (by omega) (by omega), (Good.two (d := 1) (N := 3000) (hw _ _) (gp 0 _) (by omega) (by omega)).up (by omega) (by omega),
      gd_all (by decide +kernel), gd_all (by decide +kernel), gd_all (by decide +kernel), gd_all (by decide +kernel), ?_, (Good.two (d := 1) (L := 10) (N := 3000) (.non (by decide)) (hw _ _) (by omega) (by omega)).up (by omega) (by omega)⟩
    refine (good_ints (fun x hx => ?_) ?_).up (by omega) (by omega)
    · rcases List.mem_append.mp hx with hx | hx
      · exact path_mem hp x hx
      · rw [List.mem_singleton.mp hx]
        exact ⟨w, rfl, by have := hp.lo; omega, by have := hp.hi; omega⟩
    · rw [List.length_append, List.length_map, List.length_singleton]; omega
  · subst e
    exact ⟨m3, rfl, vD, Cp.of hc (kA.trans kD)⟩
theorem bd_6 (hc : SrcAt c k S) (hk : k < 40000) (hn : 0 < n) (hv : Vs c 10 40000 19 m S) : RunS (st__law_bad_dot_6 (fns n) (BE c p w x3 x4 x5 (some (.ref m)) x7) S) (fun ρ S' => ∃ v, ρ = BE c p w x3 x4 x5 (some (.ref m)) (some v) ∧ Good c S' 10 40000 v ∧ Cp c (k + 1) S S') R := by
  obtain ⟨hm, xs, e, hl, hx⟩ := hv
  unfold st__law_bad_dot_6
  rw [s_set, w_op, w_var rfl, w_call, w_cons, w_var rfl, w_cons, w_call, w_cons, w_var rfl, w_nil, run_len e, w_nil]
  exact pickG hm e hx (by omega) hc (by omega) hn rfl (by omega) (by omega) fun x S' g cs => ⟨x, rfl, g, cs⟩
theorem bd_7 (hc : SrcAt c k S) (hn : 2 < n) (hv : Good c S 10 40000 v) {N : PD.Env → Store → Prop} : RunS (st__law_bad_dot_7 (fns n) (BE c p w x3 x4 x5 x6 (some v)) S) N (fun r S' => Good c S' 10 40000 r ∧ isDot r = false ∧ Cp c k S S') := by
  unfold st__law_bad_dot_7
  simp only [run_ok, run_okI, run_okB, run_alloc, run_stuck, run_bind, run_ite, run_noX, run_fnOf, w_c, w_op, w_un, w_call, w_callK, w_nil, w_cons, w_tup, w_lst, isB_bl, w_tval, w_tand, w_tor, w_tnot, w_and, w_or, w_not, w_if, s_next, s_seq, s_if, s_ret, s_drop, s_set, s_par, s_put, s_asg, w_var', runS_next, runS_ret, runS_stuck, runS_ite, List.length_cons, List.length_nil, List.length_singleton, List.map_cons, List.map_nil, List.cons_append, List.nil_append, List.replicate_succ, List.replicate_zero, List.getElem?_cons_zero, List.getElem?_cons_succ, List.set_cons_zero, List.set_cons_succ, Nat.reduceAdd, Nat.reduceSub, Nat.reduceEqDiff, ite_true, ite_false, if_true, if_false, reduceIte, Bool.false_eq_true, decide_true, decide_false, String.reduceEq, Int.reduceEq, Nat.reduceLeDiff, true_and, and_true, Bool.not_true, Bool.not_false, decide_eq_true_eq, List.append_nil, bType, bIsi, bLen, bInt, ty_int, ty_bl, ty_str, ty_non, ty_tup, isT, oIs, oIsNot, run_eqI, run_neI, Bool.or_false, Bool.or_true, Bool.false_or, Bool.true_or, Bool.and_true, Bool.and_false, Bool.true_and, Bool.false_and, reduceCtorEq, decide_not, Bool.not_eq_true', decide_eq_false_iff_not, askInt, askBool, askTuple, askList, askStr, oLe, oLt, oGe, oGt, oInt2, atI0, atI1, atI2, run_addI, run_subI]
  refine Run.mono (l_is_dot hv.da.da (by omega) hn (wid_of hv (by omega) (by omega))) fun r S1 ⟨e, k1⟩ => ?_
  subst e
  simp only [run_ok, run_okI, run_okB, run_alloc, run_stuck, run_bind, run_ite, run_noX, run_fnOf, w_c, w_op, w_un, w_call, w_callK, w_nil, w_cons, w_tup, w_lst, isB_bl, w_tval, w_tand, w_tor, w_tnot, w_and, w_or, w_not, w_if, s_next, s_seq, s_if, s_ret, s_drop, s_set, s_par, s_put, s_asg, w_var', runS_next, runS_ret, runS_stuck, runS_ite, List.length_cons, List.length_nil, List.length_singleton, List.map_cons, List.map_nil, List.cons_append, List.nil_append, List.replicate_succ, List.replicate_zero, List.getElem?_cons_zero, List.getElem?_cons_succ, List.set_cons_zero, List.set_cons_succ, Nat.reduceAdd, Nat.reduceSub, Nat.reduceEqDiff, ite_true, ite_false, if_true, if_false, reduceIte, Bool.false_eq_true, decide_true, decide_false, String.reduceEq, Int.reduceEq, Nat.reduceLeDiff, true_and, and_true, Bool.not_true, Bool.not_false, decide_eq_true_eq, List.append_nil, bType, bIsi, bLen, bInt, ty_int, ty_bl, ty_str, ty_non, ty_tup, isT, oIs, oIsNot, run_eqI, run_neI, Bool.or_false, Bool.or_true, Bool.false_or, Bool.true_or, Bool.and_true, Bool.and_false, Bool.true_and, Bool.false_and, reduceCtorEq, decide_not, Bool.not_eq_true', decide_eq_false_iff_not, askInt, askBool, askTuple, askList, askStr, oLe, oLt, oGe, oGt, oInt2, atI0, atI1, atI2, run_addI, run_subI]
  have cs := Cp.of hc k1
  split
  · exact ⟨.non (by omega), rfl, cs⟩
  · rename_i h
    exact ⟨Good.cp hv cs (by omega), by simpa using h, cs⟩
end
theorem l_bad_dot {c n k : Nat} {S : Store} (hc : SrcAt c k S) (hk : k < 30000) (hn : 3 < n) : Run ((fns n)._law_bad_dot [.ref c] S) (fun r S' => Good c S' 10 40000 r ∧ isDot r = false ∧ Cp c (k + 20) S S') := by
  obtain ⟨n, rfl⟩ : ∃ m, n = m + 1 := ⟨n - 1, by omega⟩
  show Run (fnOf 1 8 (b__law_bad_dot (fns n)) [.ref c] S) _
  unfold b__law_bad_dot
  refine run_fn rfl rfl ?_
  refine s_step (bd_0 hc (by omega) (by omega)) ?_
  rintro ρ S1 ⟨p, w, rfl, hp, c1⟩
  refine s_step (bd_1 c1.1 (by omega) (by omega) hp) ?_
  rintro ρ S2 ⟨i, rfl, c2⟩
  refine s_step (bd_2 c2.1 (by omega) (by omega)) ?_
  rintro ρ S3 ⟨o, rfl, ho, c3⟩
  refine s_step (bd_3 c3.1 (by omega) (by omega)) ?_
  rintro ρ S4 ⟨u, rfl, hu, c4⟩
  refine s_step (bd_4 c4.1 hp (Good.cp ho c4 (by omega)) hu) ?_
  rintro ρ S5 ⟨m, rfl, hv, c5⟩
  refine s_step (bd_5 c5.1 hp hv) ?_
  rintro ρ S6 ⟨m, rfl, hv, c6⟩
  refine s_step (bd_6 c6.1 (by omega) (by omega) hv) ?_
  rintro ρ S7 ⟨v, rfl, hg, c7⟩
  refine RunS.mono (bd_7 c7.1 (by omega) hg) (fun _ _ h => h) fun r S8 ⟨h1, h2, c8⟩ => ⟨h1, h2, ?_⟩
  exact (((((((c1.trans c2).trans c3).trans c4).trans c5).trans c6).trans c7).trans c8).up (by omega)
end PD.K34

/-! ## K34M5 -/
set_option Elab.async false
set_option linter.all false
set_option maxRecDepth 100000
set_option maxHeartbeats 1000000
namespace PD.K34
open PySem PySem.Spec L2 PD LT Builtin.Str
/-! ### a long text -/
def okC (c : Nat) : Bool := decide (c < 1114112)
theorem all_fold {f : Nat → List Nat} : ∀ (l : List Nat) (acc : Array Nat), (∀ c ∈ l, (f c).all okC = true) → acc.all okC = true → (l.foldl (fun out c => out ++ (f c).toArray) acc).all okC = true
  | [], acc, _, h => h
  | c :: l, acc, hl, h => by
    rw [List.foldl_cons]
    refine all_fold l _ (fun d hd => hl d (List.mem_cons_of_mem _ hd)) ?_
    rw [Array.all_append, h, List.all_toArray, hl c List.mem_cons_self]
    rfl
theorem ok_repr01 {x : Str} (h : ∀ c ∈ x.cps.toList, c = 48 ∨ c = 49) : PyData.strOk (reprText x) = true := by
  have hq : reprQuote x = 34 ∨ reprQuote x = 39 := by unfold reprQuote; split; exact .inl rfl; exact .inr rfl
  show ((x.cps.foldl (fun out c => out ++ (reprChar (reprQuote x) c).toArray) #[reprQuote x]).push (reprQuote x)).all okC = true
  rw [Array.all_push, ← Array.foldl_toList]
  have hall := all_fold (f := reprChar (reprQuote x)) x.cps.toList #[reprQuote x] (fun c hc => by
    rcases h c hc with e | e <;> rw [e] <;> rcases hq with q | q <;> rw [q] <;> decide +kernel) (by rcases hq with q | q <;> rw [q] <;> decide +kernel)
  rw [hall]
  rcases hq with q | q <;> rw [q] <;> rfl
theorem mul_fold : ∀ (k : Nat) (x acc : Array Nat), ((List.replicate k x).foldl (· ++ ·) acc).toList = acc.toList ++ (List.replicate k x.toList).flatten
  | 0, x, acc => by simp
  | k + 1, x, acc => by
    rw [List.replicate_succ, List.foldl_cons, mul_fold k x (acc ++ x), List.replicate_succ, List.flatten_cons, Array.toList_append, List.append_assoc]
theorem flat_rep {α : Type} {k : Nat} {xs : List α} : (List.replicate k xs).flatten.length = k * xs.length := by
  induction k with
  | zero => simp
  | succ k ih => rw [List.replicate_succ, List.flatten_cons, List.length_append, ih, Nat.succ_mul]; omega
theorem text01 {k : Nat} (hk : 2 ≤ k) : (Txt.mul (Str.ofString "01") k).cps.toList = (List.replicate k [48, 49]).flatten := by
  have e0 : (Str.ofString "01").cps.toList = [48, 49] := by decide +kernel
  have el : (Str.ofString "01").length = 2 := by decide +kernel
  unfold Txt.mul
  rw [if_neg (by omega), if_neg (by
    rw [el]
    simp only [Bool.or_eq_true, beq_iff_eq]
    omega), Int.toNat_natCast]
  show ((List.replicate k (Str.ofString "01").cps).foldl (· ++ ·) #[]).toList = _
  rw [mul_fold, e0]
  show [] ++ _ = _
  rw [List.nil_append]
theorem good_text {c : Nat} {S : Store} {d : Nat} : Good c S d 180010 (.str (Txt.mul (Str.ofString "01") (9000 : Nat))) := by
  have hz := text01 (k := 9000) (by decide)
  have h48 : ∀ x ∈ (Txt.mul (Str.ofString "01") (9000 : Nat)).cps.toList, x = 48 ∨ x = 49 := fun x hx => by
    rw [hz] at hx
    obtain ⟨l, hl, hx⟩ := List.mem_flatten.mp hx
    rw [(List.mem_replicate.mp hl).2] at hx
    simpa using hx
  refine .str ?_ ?_ (ok_repr01 h48)
  · show (Txt.mul (Str.ofString "01") (9000 : Nat)).cps.all okC = true
    rw [← Array.all_toList, List.all_eq_true]
    intro x hx
    rcases h48 x hx with e | e <;> rw [e] <;> rfl
  · refine Nat.le_trans (PySem.StrLaws.reprText_len _ fun x hx => by rcases h48 x hx with e | e <;> rw [e] <;> decide) ?_
    have : (Txt.mul (Str.ofString "01") (9000 : Nat)).length = 9000 * 2 := by
      show (Txt.mul (Str.ofString "01") (9000 : Nat)).cps.size = 9000 * 2
      rw [← Array.length_toList, hz, flat_rep]; rfl
    omega
theorem hs9000 {S : Store} {Q : Val → Store → Prop} : Run (oRepS2 (.str (Str.ofString "01")) (.int 9000) S) Q = Q (.str (Txt.mul (Str.ofString "01") (9000 : Nat))) S := by
  show Run (if (1 : Int) ≤ 9000 ∧ (9000 : Int) ≤ 1000000 ∧ 1 ≤ (Str.ofString "01").length ∧ (Str.ofString "01").length ≤ 16 then .ok (.str (Txt.mul (Str.ofString "01") 9000)) S else .stuck) Q = _
  rw [if_pos ⟨by decide, by decide, by decide +kernel, by decide +kernel⟩]; rfl
/-! ### great values -/
abbrev GE (c : Nat) (x1 x2 x3 x4 : Option Val) : PD.Env := [some (.ref c), x1, x2, x3, x4]
def GvI (c k : Nat) (x3 x4 : Option Val) (S0 : Store) (j : Nat) (ρ : PD.Env) (S : Store) : Prop := ∃ v x, ρ = GE c (some v) x x3 x4 ∧ Good c S (j + 1) (300 + 5 * j) v ∧ Cp c (k + j) S0 S
def gvBody (p : Fns) : SD := sSet 1 (dIf (tVal (dOp oEq (dCall p._law_draw (aCons (dVar 0) (aCons (dC (.int 2)) aNil))) (dC (.int 0)))) (dTup (aCons (dVar 1) aNil)) (dLst (aCons (dVar 1) aNil)))
theorem gv_turn {n c k j : Nat} {x : Val} {ρ : PD.Env} {x3 x4 : Option Val} {S0 S : Store} {R : Val → Store → Prop} (hn : 0 < n) (hk : k < 40000) (hj : j < 37) (h : GvI c k x3 x4 S0 j ρ S) : ∃ ρ1, gN 2 x ρ = some ρ1 ∧ RunS (gvBody (fns n) ρ1 S) (GvI c k x3 x4 S0 (j + 1)) R := by
  obtain ⟨v, y, rfl, g, cs⟩ := h
  refine ⟨_, rfl, ?_⟩
  unfold gvBody
  simp only [run_ok, run_okI, run_okB, run_alloc, run_stuck, run_bind, run_ite, run_noX, run_fnOf, w_c, w_op, w_un, w_call, w_callK, w_nil, w_cons, w_tup, w_lst, isB_bl, w_tval, w_tand, w_tor, w_tnot, w_and, w_or, w_not, w_if, s_next, s_seq, s_if, s_ret, s_drop, s_set, s_par, s_put, s_asg, w_var', runS_next, runS_ret, runS_stuck, runS_ite, List.length_cons, List.length_nil, List.length_singleton, List.map_cons, List.map_nil, List.cons_append, List.nil_append, List.replicate_succ, List.replicate_zero, List.getElem?_cons_zero, List.getElem?_cons_succ, List.set_cons_zero, List.set_cons_succ, Nat.reduceAdd, Nat.reduceSub, Nat.reduceEqDiff, ite_true, ite_false, if_true, if_false, reduceIte, Bool.false_eq_true, decide_true, decide_false, String.reduceEq, Int.reduceEq, Nat.reduceLeDiff, true_and, and_true, Bool.not_true, Bool.not_false, decide_eq_true_eq, List.append_nil, bType, bIsi, bLen, bInt, ty_int, ty_bl, ty_str, ty_non, ty_tup, isT, oIs, oIsNot, run_eqI, run_neI, Bool.or_false, Bool.or_true, Bool.false_or, Bool.true_or, Bool.and_true, Bool.and_false, Bool.true_and, Bool.false_and, reduceCtorEq, decide_not, Bool.not_eq_true', decide_eq_false_iff_not, askInt, askBool, askTuple, askList, askStr, oLe, oLt, oGe, oGt, oInt2, atI0, atI1, atI2, run_addI, run_subI]
  refine Run.mono (l_draw cs.1 (by decide) (by decide) (by omega) hn) fun r S1 ⟨⟨i, e, i0, i1⟩, c1⟩ => ?_
  subst e
  simp only [run_ok, run_okI, run_okB, run_alloc, run_stuck, run_bind, run_ite, run_noX, run_fnOf, w_c, w_op, w_un, w_call, w_callK, w_nil, w_cons, w_tup, w_lst, isB_bl, w_tval, w_tand, w_tor, w_tnot, w_and, w_or, w_not, w_if, s_next, s_seq, s_if, s_ret, s_drop, s_set, s_par, s_put, s_asg, w_var', runS_next, runS_ret, runS_stuck, runS_ite, List.length_cons, List.length_nil, List.length_singleton, List.map_cons, List.map_nil, List.cons_append, List.nil_append, List.replicate_succ, List.replicate_zero, List.getElem?_cons_zero, List.getElem?_cons_succ, List.set_cons_zero, List.set_cons_succ, Nat.reduceAdd, Nat.reduceSub, Nat.reduceEqDiff, ite_true, ite_false, if_true, if_false, reduceIte, Bool.false_eq_true, decide_true, decide_false, String.reduceEq, Int.reduceEq, Nat.reduceLeDiff, true_and, and_true, Bool.not_true, Bool.not_false, decide_eq_true_eq, List.append_nil, bType, bIsi, bLen, bInt, ty_int, ty_bl, ty_str, ty_non, ty_tup, isT, oIs, oIsNot, run_eqI, run_neI, Bool.or_false, Bool.or_true, Bool.false_or, Bool.true_or, Bool.and_true, Bool.and_false, Bool.true_and, Bool.false_and, reduceCtorEq, decide_not, Bool.not_eq_true', decide_eq_false_iff_not, askInt, askBool, askTuple, askList, askStr, oLe, oLt, oGe, oGt, oInt2, atI0, atI1, atI2, run_addI, run_subI]
  have g1 := Good.cp g c1 (by omega)
  have c2 := cs.trans c1
  split
  · exact ⟨_, _, rfl, Good.one g1 (by omega) (by omega), c2⟩
  · have kA := (Gr.add S1 [.lst [v]]).kp
    refine ⟨_, _, rfl, Good.ref (d := j + 1) (L := 300 + 5 * j + 2) (Nat.ne_of_gt c2.1.lt) (get_new _ _) (.cons (g1.gr kA (by omega)) (.nil 0) (by omega)) (by omega) (by omega), c2.kp kA⟩
section
variable {c n k : Nat} {p : List Int} {S : Store} {R : Val → Store → Prop} {x1 x2 x3 x4 : Option Val} {v : Val}
theorem gv_0 : RunS (st__law_great_values_0 (fns n) (GE c x1 x2 x3 x4) S) (fun ρ S' => ρ = GE c (some (.tup [.int 0, .int 1])) x2 x3 x4 ∧ S' = S) R := by
  unfold st__law_great_values_0
  simp only [run_ok, run_okI, run_okB, run_alloc, run_stuck, run_bind, run_ite, run_noX, run_fnOf, w_c, w_op, w_un, w_call, w_callK, w_nil, w_cons, w_tup, w_lst, isB_bl, w_tval, w_tand, w_tor, w_tnot, w_and, w_or, w_not, w_if, s_next, s_seq, s_if, s_ret, s_drop, s_set, s_par, s_put, s_asg, w_var', runS_next, runS_ret, runS_stuck, runS_ite, List.length_cons, List.length_nil, List.length_singleton, List.map_cons, List.map_nil, List.cons_append, List.nil_append, List.replicate_succ, List.replicate_zero, List.getElem?_cons_zero, List.getElem?_cons_succ, List.set_cons_zero, List.set_cons_succ, Nat.reduceAdd, Nat.reduceSub, Nat.reduceEqDiff, ite_true, ite_false, if_true, if_false, reduceIte, Bool.false_eq_true, decide_true, decide_false, String.reduceEq, Int.reduceEq, Nat.reduceLeDiff, true_and, and_true, Bool.not_true, Bool.not_false, decide_eq_true_eq, List.append_nil, bType, bIsi, bLen, bInt, ty_int, ty_bl, ty_str, ty_non, ty_tup, isT, oIs, oIsNot, run_eqI, run_neI, Bool.or_false, Bool.or_true, Bool.false_or, Bool.true_or, Bool.and_true, Bool.and_false, Bool.true_and, Bool.false_and, reduceCtorEq, decide_not, Bool.not_eq_true', decide_eq_false_iff_not, askInt, askBool, askTuple, askList, askStr, oLe, oLt, oGe, oGt, oInt2, atI0, atI1, atI2, run_addI, run_subI]
theorem gv_1 (hc : SrcAt c k S) (hk : k < 40000) (hn : 0 < n) : RunS (st__law_great_values_1 (fns n) (GE c (some (.tup [.int 0, .int 1])) x2 x3 x4) S) (fun ρ S' => ∃ v x, ρ = GE c (some v) x x3 x4 ∧ Good c S' 38 500 v ∧ Cp c (k + 37) S S') R := by
  show RunS (sForR (aCons (dC (.int 37)) aNil) (gN 2) (gvBody (fns n)) (GE c (some (.tup [.int 0, .int 1])) x2 x3 x4) S) _ R
  rw [s_forR, w_cons, w_c, w_nil]
  show if -(2 ^ 62) ≤ (37 : Int) ∧ (37 : Int) < 2 ^ 62 then _ else False
  rw [if_pos (by decide)]
  refine RunS.mono (runS_loopV 37 (GvI c k x3 x4 S) (fun j x ρ S' hj h => gv_turn hn hk hj h) _ 0 _ _ (by rw [rangeV_len]; decide) ⟨_, _, rfl, gd_all (by decide +kernel), Cp.refl hc⟩) (fun ρ S' h => ?_) fun _ _ h => h
  rw [rangeV_len] at h
  obtain ⟨v, x, e, g, cs⟩ := h
  exact ⟨v, x, e, g.up (by decide) (by decide), cs⟩
theorem gv_2 (hc : SrcAt c k S) (hk : k < 40000) (hn : 0 < n) : RunS (st__law_great_values_2 (fns n) (GE c x1 x2 x3 x4) S) (fun ρ S' => ∃ p : List Int, ρ = GE c x1 x2 (some (pathV p)) x4 ∧ Dot p 1 ∧ Cp c (k + 12) S S') R := by
  unfold st__law_great_values_2
  have h3 : ∀ x : Val, ((wipeE (GE c x1 x2 x3 x4) [2]).set 2 (some x))[0]? = some (some (.ref c)) := fun x => rfl
  generalize hρ : GE c x1 x2 x3 x4 = ρ at h3 ⊢
  rw [s_set, w_call, w_cons]
  refine Run.mono (l_halves (j := 12) hc hn (by omega) (by simp only [run_ok, run_okI, run_okB, run_alloc, run_stuck, run_bind, run_ite, run_noX, run_fnOf, w_c, w_op, w_un, w_call, w_callK, w_nil, w_cons, w_tup, w_lst, isB_bl, w_tval, w_tand, w_tor, w_tnot, w_and, w_or, w_not, w_if, s_next, s_seq, s_if, s_ret, s_drop, s_set, s_par, s_put, s_asg, w_var', runS_next, runS_ret, runS_stuck, runS_ite, List.length_cons, List.length_nil, List.length_singleton, List.map_cons, List.map_nil, List.cons_append, List.nil_append, List.replicate_succ, List.replicate_zero, List.getElem?_cons_zero, List.getElem?_cons_succ, List.set_cons_zero, List.set_cons_succ, Nat.reduceAdd, Nat.reduceSub, Nat.reduceEqDiff, ite_true, ite_false, if_true, if_false, reduceIte, Bool.false_eq_true, decide_true, decide_false, String.reduceEq, Int.reduceEq, Nat.reduceLeDiff, true_and, and_true, Bool.not_true, Bool.not_false, decide_eq_true_eq, List.append_nil, bType, bIsi, bLen, bInt, ty_int, ty_bl, ty_str, ty_non, ty_tup, isT, oIs, oIsNot, run_eqI, run_neI, Bool.or_false, Bool.or_true, Bool.false_or, Bool.true_or, Bool.and_true, Bool.and_false, Bool.true_and, Bool.false_and, reduceCtorEq, decide_not, Bool.not_eq_true', decide_eq_false_iff_not, askInt, askBool, askTuple, askList, askStr, oLe, oLt, oGe, oGt, oInt2, atI0, atI1, atI2, run_addI, run_subI]; exact rfl) h3 (by decide)) fun r S2 ⟨p, hl, hp, ⟨m, er, em⟩, c2⟩ => ?_
  subst er hρ
  rw [w_nil, run_tuple em]
  exact ⟨p, rfl, ⟨by omega, hp, by decide, by decide⟩, c2⟩
theorem gv_3 (hc : SrcAt c k S) (hp : Dot p 1) (hg : Good c S 38 500 v) : RunS (st__law_great_values_3 (fns n) (GE c (some v) x2 (some (pathV p)) x4) S) (fun ρ S' => ∃ m, ρ = GE c (some v) x2 (some (pathV p)) (some (.ref m)) ∧ Vs c 40 400000 8 m S' ∧ Cp c k S S') R := by
  have hl := hp.len
  unfold st__law_great_values_3
  have a1 : ∀ (S : Store) Q, Run (oAdd (pathV p) (.tup [.int 0]) S) Q = Q (.tup (p.map Val.int ++ [.int 0])) S := fun S Q => run_addT (by rw [List.length_singleton, List.length_map]; omega)
  simp only [a1, hr2900, hp60, hp29, hm89, hs9000, run_ok, run_okI, run_okB, run_alloc, run_stuck, run_bind, run_ite, run_noX, run_fnOf, w_c, w_op, w_un, w_call, w_callK, w_nil, w_cons, w_tup, w_lst, isB_bl, w_tval, w_tand, w_tor, w_tnot, w_and, w_or, w_not, w_if, s_next, s_seq, s_if, s_ret, s_drop, s_set, s_par, s_put, s_asg, w_var', runS_next, runS_ret, runS_stuck, runS_ite, List.length_cons, List.length_nil, List.length_singleton, List.map_cons, List.map_nil, List.cons_append, List.nil_append, List.replicate_succ, List.replicate_zero, List.getElem?_cons_zero, List.getElem?_cons_succ, List.set_cons_zero, List.set_cons_succ, Nat.reduceAdd, Nat.reduceSub, Nat.reduceEqDiff, ite_true, ite_false, if_true, if_false, reduceIte, Bool.false_eq_true, decide_true, decide_false, String.reduceEq, Int.reduceEq, Nat.reduceLeDiff, true_and, and_true, Bool.not_true, Bool.not_false, decide_eq_true_eq, List.append_nil, bType, bIsi, bLen, bInt, ty_int, ty_bl, ty_str, ty_non, ty_tup, isT, oIs, oIsNot, run_eqI, run_neI, Bool.or_false, Bool.or_true, Bool.false_or, Bool.true_or, Bool.and_true, Bool.and_false, Bool.true_and, Bool.false_and, reduceCtorEq, decide_not, Bool.not_eq_true', decide_eq_false_iff_not, askInt, askBool, askTuple, askList, askStr, oLe, oLt, oGe, oGt, oInt2, atI0, atI1, atI2, run_addI, run_subI]
  have kA := fun x : Cell => (Gr.add S [x]).kp
  refine ⟨_, rfl, ⟨Nat.ne_of_gt hc.lt, _, get_new _ _, rfl, ?_⟩, Cp.of hc (kA _)⟩
  have z2 : ∀ S', Good c S' 1 300000 (.tup (zs 2900)) := fun S' => Good.tup (d := 0) (.same (good_num (by decide) (by decide)) 2900) (by decide) (by decide)
  have nm : ∀ (d : Nat) (S' : Store), Good c S' d 101 (.int 1) := fun d S' => good_num (by decide) (by decide)
  simp only [List.mem_cons, List.not_mem_nil, or_false, forall_eq_or_imp, forall_eq]
  refine ⟨(hg.gr (kA _) (by omega)).up (by omega) (by omega), (z2 _).up (by omega) (by omega), (Good.two (d := 1) (N := 310000) (z2 _) (nm _ _) (by omega) (by omega)).up (by omega) (by omega), gd_all (by decide +kernel), ?_, (good_text (d := 0)).up (by omega) (by omega), ?_, gd_all (by decide +kernel)⟩
  · exact (Good.two (d := 1) (M := 101) (N := 3000) (good_path hp) (.int (by decide +kernel) (by decide)) (by omega) (by omega)).up (by omega) (by omega)
  · refine (Good.two (d := 1) (N := 3000) (good_ints (fun x hx => ?_) ?_) (nm _ _) (by omega) (by omega)).up (by omega) (by omega)
    · rcases List.mem_append.mp hx with hx | hx
      · exact path_mem hp x hx
      · rw [List.mem_singleton.mp hx]
        exact ⟨0, rfl, by decide, by decide⟩
    · rw [List.length_append, List.length_map, List.length_singleton]; omega
theorem gv_4 {m : Nat} (hc : SrcAt c k S) (hk : k < 40000) (hn : 0 < n) (hv : Vs c 40 400000 8 m S) {N : PD.Env → Store → Prop} : RunS (st__law_great_values_4 (fns n) (GE c x1 x2 x3 (some (.ref m))) S) N (fun r S' => Good c S' 40 400000 r ∧ Cp c (k + 1) S S') := by
  obtain ⟨hm, xs, e, hl, hx⟩ := hv
  unfold st__law_great_values_4
  simp only [run_ok, run_okI, run_okB, run_alloc, run_stuck, run_bind, run_ite, run_noX, run_fnOf, w_c, w_op, w_un, w_call, w_callK, w_nil, w_cons, w_tup, w_lst, isB_bl, w_tval, w_tand, w_tor, w_tnot, w_and, w_or, w_not, w_if, s_next, s_seq, s_if, s_ret, s_drop, s_set, s_par, s_put, s_asg, w_var', runS_next, runS_ret, runS_stuck, runS_ite, List.length_cons, List.length_nil, List.length_singleton, List.map_cons, List.map_nil, List.cons_append, List.nil_append, List.replicate_succ, List.replicate_zero, List.getElem?_cons_zero, List.getElem?_cons_succ, List.set_cons_zero, List.set_cons_succ, Nat.reduceAdd, Nat.reduceSub, Nat.reduceEqDiff, ite_true, ite_false, if_true, if_false, reduceIte, Bool.false_eq_true, decide_true, decide_false, String.reduceEq, Int.reduceEq, Nat.reduceLeDiff, true_and, and_true, Bool.not_true, Bool.not_false, decide_eq_true_eq, List.append_nil, bType, bIsi, bLen, bInt, ty_int, ty_bl, ty_str, ty_non, ty_tup, isT, oIs, oIsNot, run_eqI, run_neI, Bool.or_false, Bool.or_true, Bool.false_or, Bool.true_or, Bool.and_true, Bool.and_false, Bool.true_and, Bool.false_and, reduceCtorEq, decide_not, Bool.not_eq_true', decide_eq_false_iff_not, askInt, askBool, askTuple, askList, askStr, oLe, oLt, oGe, oGt, oInt2, atI0, atI1, atI2, run_addI, run_subI]
  exact pickG hm e hx (by omega) hc (by omega) hn (by omega) (by omega) (by omega) fun x S' g cs => ⟨g, cs⟩
end
theorem l_great_values {c n k : Nat} {S : Store} (hc : SrcAt c k S) (hk : k < 30000) (hn : 1 < n) : Run ((fns n)._law_great_values [.ref c] S) (fun r S' => Good c S' 40 400000 r ∧ Cp c (k + 50) S S') := by
  obtain ⟨n, rfl⟩ : ∃ m, n = m + 1 := ⟨n - 1, by omega⟩
  show Run (fnOf 1 5 (b__law_great_values (fns n)) [.ref c] S) _
  unfold b__law_great_values
  refine run_fn rfl rfl ?_
  refine s_step gv_0 ?_
  rintro ρ S1 ⟨rfl, rfl⟩
  refine s_step (gv_1 hc (by omega) (by omega)) ?_
  rintro ρ S2 ⟨v, x, rfl, g, c2⟩
  refine s_step (gv_2 c2.1 (by omega) (by omega)) ?_
  rintro ρ S3 ⟨p, rfl, hp, c3⟩
  refine s_step (gv_3 c3.1 hp (Good.cp g c3 (by omega))) ?_
  rintro ρ S4 ⟨m, rfl, hv, c4⟩
  refine RunS.mono (gv_4 c4.1 (by omega) (by omega) hv) (fun _ _ h => h) fun r S5 ⟨h1, c5⟩ => ⟨h1, ?_⟩
  exact (((c2.trans c3).trans c4).trans c5).up (by omega)
/-! ### a value judged -/
def twoB (b : Bool) : Str := (PyData.list [.bool b, .bool b]).shown
theorem two_ok (b : Bool) : (PyData.str (twoB b)).canLay0 = true := by cases b <;> decide +kernel
theorem repr_two {b : Bool} {S : Store} {Q : Val → Store → Prop} : Run (bRepr [.ref S.length] (S ++ [.lst [.bl b, .bl b]])) Q = Q (.str (twoB b)) (S ++ [.lst [.bl b, .bl b]]) := by
  have g : Good (S.length + 1) (S ++ [.lst [.bl b, .bl b]]) 1 100 (.ref S.length) := Good.ref (d := 0) (L := 20) (Nat.ne_of_lt (Nat.lt_succ_self _)) (get_new _ _) (.cons (.bl (by decide : 5 ≤ 5)) (.cons (.bl (by decide : 5 ≤ 5)) (.nil 0) (Nat.le_refl _)) (by decide)) (by decide) (by decide)
  rw [run_repr g (by decide) (by decide), dat_ref (d := 0) (get_new _ _) (fun x hx => (g.da.da |> fun _ => by
    rcases List.mem_cons.mp hx with rfl | hx
    · exact .bl _ _
    · rw [List.mem_singleton.mp hx]; exact .bl _ _)) (by decide)]
  rfl
theorem eq_str {W : Str} {S : Store} {Q : Val → Store → Prop} (h : (PyData.str W).canLay0 = true) : Run (oEq (.str W) (.str W) S) Q = Q (.bl true) S := by
  rw [run_eq (Da.str 0 W h) (Da.str 0 W h) (by omega) (by omega)]
  have er : PyData.eqv (dat S (.str W)) (dat S (.str W)) = true := SeqAt.eqv_refl (.str W) h
  rw [er]
theorem ne_str {W : Str} {S : Store} {Q : Val → Store → Prop} (h : (PyData.str W).canLay0 = true) : Run (oNe (.str W) (.str W) S) Q = Q (.bl false) S := by
  rw [run_ne (Da.str 0 W h) (Da.str 0 W h) (by omega) (by omega)]
  have er : PyData.eqv (dat S (.str W)) (dat S (.str W)) = true := SeqAt.eqv_refl (.str W) h
  rw [er]; rfl
theorem l_right {c n d L : Nat} {v : Val} {S : Store} (hv : Good c S d L v) (hd : d < 50) (hL : L ≤ 1000000) (hn : 5 < n) : Run ((fns n)._law_value_right [v] S) (PureK S (.bl true)) := by
  obtain ⟨n, rfl⟩ : ∃ m, n = m + 1 := ⟨n - 1, by omega⟩
  show Run (fnOf 1 3 (b__law_value_right (fns n)) [v] S) _
  unfold b__law_value_right
  have dv := hv.da.da
  refine run_fn rfl rfl ?_
  refine s_step (N' := fun ρ S' => ρ = [some v, some (.str (dat S v).shown), some (.bl (isDot v))] ∧ Kp S S') ?_ ?_
  · rw [s_par, w_cons, w_call, w_cons, w_var rfl, w_nil, run_repr hv (by omega) (by omega), w_cons, w_call, w_cons, w_var rfl, w_nil]
    refine Run.mono (l_is_dot dv (by omega) (by omega) (wid_of hv hL (by omega))) fun r S1 ⟨e, k1⟩ => ?_
    subst e
    exact ⟨rfl, k1⟩
  rintro ρ S1 ⟨rfl, k1⟩
  generalize hT : (dat S v).shown = W
  have hok : (PyData.str W).canLay0 = true := by rw [← hT]; exact hv.ok
  rw [s_ret, w_and, w_op, w_call, w_cons, w_lst, w_cons, w_call, w_cons, w_var rfl, w_nil]
  refine Run.mono (p_is_dot (dv.kp k1) (by omega) (by omega)) fun r S2 ⟨e, k2⟩ => ?_
  subst e
  rw [w_cons, w_callK, w_cons, w_var rfl, w_nil, if_pos (show [v].length = 1 from rfl), pick0]
  refine Run.mono (p_is_dot (dv.kp (k1.trans k2)) (by omega) (by omega)) fun r S3 ⟨e, k3⟩ => ?_
  subst e
  rw [w_nil]
  refine ⟨Nat.le_of_ble_eq_true rfl, ?_⟩
  rw [w_nil, repr_two]
  simp only [repr_two, eq_str (two_ok _), run_ok, run_okI, run_okB, run_alloc, run_stuck, run_bind, run_ite, run_noX, run_fnOf, w_c, w_op, w_un, w_call, w_callK, w_nil, w_cons, w_tup, w_lst, isB_bl, w_tval, w_tand, w_tor, w_tnot, w_and, w_or, w_not, w_if, s_next, s_seq, s_if, s_ret, s_drop, s_set, s_par, s_put, s_asg, w_var', runS_next, runS_ret, runS_stuck, runS_ite, List.length_cons, List.length_nil, List.length_singleton, List.map_cons, List.map_nil, List.cons_append, List.nil_append, List.replicate_succ, List.replicate_zero, List.getElem?_cons_zero, List.getElem?_cons_succ, List.set_cons_zero, List.set_cons_succ, Nat.reduceAdd, Nat.reduceSub, Nat.reduceEqDiff, ite_true, ite_false, if_true, if_false, reduceIte, Bool.false_eq_true, decide_true, decide_false, String.reduceEq, Int.reduceEq, Nat.reduceLeDiff, true_and, and_true, Bool.not_true, Bool.not_false, decide_eq_true_eq, List.append_nil, bType, bIsi, bLen, bInt, ty_int, ty_bl, ty_str, ty_non, ty_tup, isT, oIs, oIsNot, run_eqI, run_neI, Bool.or_false, Bool.or_true, Bool.false_or, Bool.true_or, Bool.and_true, Bool.and_false, Bool.true_and, Bool.false_and, reduceCtorEq, decide_not, Bool.not_eq_true', decide_eq_false_iff_not, askInt, askBool, askTuple, askList, askStr, oLe, oLt, oGe, oGt, oInt2, atI0, atI1, atI2, run_addI, run_subI]
  have kk := ((k1.trans k2).trans k3).trans ((Gr.add S3 [Cell.lst [Val.bl (isDot v), Val.bl (isDot v)]]).trans (Gr.add _ [Cell.lst [Val.bl (isDot v), Val.bl (isDot v)]])).kp
  rw [run_repr (hv.gr kk (by omega)) (by omega) (by omega), ← hv.da.dat_kx kk.kx (by omega), hT, eq_str hok]
  exact ⟨rfl, kk⟩
end PD.K34

/-! ## K34M6 -/
set_option Elab.async false
set_option linter.all false
set_option maxRecDepth 100000
set_option maxHeartbeats 1000000
namespace PD.LT.T
/-- the least worth -/
def low : T → Int
  | leaf i => i
  | node n l r => n + min l.low r.low
theorem low_co : ∀ {t : T}, t.co = true → t.low = t.top
  | leaf i, _ => rfl
  | node n l r, h => by
    obtain ⟨h1, h2, _, h4, h5, h6⟩ := co_node.mp h
    show n + min l.low r.low = n
    rw [low_co h1, low_co h2]; omega
/-- a half -/
def half (t : T) (h : Int) : T := match t with
  | leaf i => leaf i
  | node n l r => if h = 0 then l.lift n else r.lift n
def part : List Int → T → T
  | [], t => t
  | h :: p, t => part p (t.half h)
theorem co_half {t : T} {h : Int} (hc : t.co = true) : (t.half h).co = true := by
  cases t with
  | leaf i => exact hc
  | node n l r =>
    obtain ⟨h1, h2, _⟩ := co_node.mp hc
    show (if h = 0 then l.lift n else r.lift n).co = true
    split
    · rw [co_lift]; exact h1
    · rw [co_lift]; exact h2
theorem dep_half {t : T} {h : Int} : (t.half h).dep ≤ t.dep := by
  cases t with
  | leaf i => exact Nat.le_refl _
  | node n l r =>
    show (if h = 0 then l.lift n else r.lift n).dep ≤ 1 + max l.dep r.dep
    split
    · rw [dep_lift]; omega
    · rw [dep_lift]; omega
theorem co_part : ∀ {p : List Int} {t : T}, t.co = true → (part p t).co = true
  | [], _, h => h
  | x :: p, t, h => co_part (p := p) (t := t.half x) (co_half h)
theorem dep_part : ∀ {p : List Int} {t : T}, (part p t).dep ≤ t.dep
  | [], _ => Nat.le_refl _
  | x :: p, t => Nat.le_trans (dep_part (p := p) (t := t.half x)) dep_half
end PD.LT.T
namespace PD.K34
open PySem PySem.Spec L2 PD LT
/-! ### the program's side -/
theorem leastV_toV (t : T) : leastV (toV t) = t.top := by cases t <;> rfl
theorem sameI_toV (l r : T) : sameI (toV l) (toV r) = T.sameL l r := by
  cases l <;> cases r <;> rfl
theorem isCo_toV : ∀ {t : T} {k : Nat}, t.co = true → t.nn = true → t.dep ≤ k → isCo k (toV t) = true
  | .leaf i, k, _, hn, _ => by cases k <;> exact hn
  | .node n l r, k, hc, hn, hd => by
    have hd : 1 + max l.dep r.dep ≤ k := hd
    obtain ⟨k, rfl⟩ : ∃ j, k = j + 1 := ⟨k - 1, by omega⟩
    obtain ⟨h1, h2, h3, h4, h5, h6⟩ := T.co_node.mp hc
    obtain ⟨n1, n2, n3⟩ := T.nn_node.mp hn
    show isCo (k + 1) (.tup [.int n, toV l, toV r]) = true
    rw [isCo_three, isCo_toV h1 n2 (by omega), isCo_toV h2 n3 (by omega), sameI_toV, h3, leastV_toV, leastV_toV, decide_eq_true n1]
    rcases h6 with h | h
    · rw [decide_eq_true h]; rfl
    · rw [decide_eq_true h]; simp
theorem isCo_dep : ∀ {t : T} {k : Nat}, isCo k (toV t) = true → t.dep ≤ k
  | .leaf i, k, _ => Nat.zero_le _
  | .node n l r, 0, h => by cases h
  | .node n l r, k + 1, h => by
    have h : isCo (k + 1) (.tup [.int n, toV l, toV r]) = true := h
    rw [isCo_three] at h
    simp only [Bool.and_eq_true] at h
    have a := isCo_dep h.2.1
    have b := isCo_dep h.2.2.1
    show 1 + max l.dep r.dep ≤ k + 1
    omega
structure Cts (t : T) : Prop where
  co : t.co = true
  nn : t.nn = true
  dep : t.dep ≤ 12
  tc : t.tc ≤ 63
theorem coOk_toV {t : T} (h : Cts t) : coOk (toV t) = true := by
  unfold coOk
  rw [isCo_toV h.co h.nn h.dep, tcount_toV, decide_eq_true (by have := h.tc; omega)]; rfl
theorem p_leastT {n : Nat} {t : T} {S : Store} (hn : 0 < n) : Run ((fns n).least [toV t] S) (fun r S' => r = .int t.top ∧ S' = S) := by
  obtain ⟨n, rfl⟩ : ∃ m, n = m + 1 := ⟨n - 1, by omega⟩
  show Run (fnOf 1 1 (b_least (fns n)) [toV t] S) _
  unfold b_least
  cases t <;> simp only [toV, run_ok, run_okI, run_okB, run_alloc, run_stuck, run_bind, run_ite, run_noX, run_fnOf, w_c, w_op, w_un, w_call, w_callK, w_nil, w_cons, w_tup, w_lst, isB_bl, w_tval, w_tand, w_tor, w_tnot, w_and, w_or, w_not, w_if, s_next, s_seq, s_if, s_ret, s_drop, s_set, s_par, s_put, s_asg, w_var', runS_next, runS_ret, runS_stuck, runS_ite, List.length_cons, List.length_nil, List.length_singleton, List.map_cons, List.map_nil, List.cons_append, List.nil_append, List.replicate_succ, List.replicate_zero, List.getElem?_cons_zero, List.getElem?_cons_succ, List.set_cons_zero, List.set_cons_succ, Nat.reduceAdd, Nat.reduceSub, Nat.reduceEqDiff, ite_true, ite_false, if_true, if_false, reduceIte, Bool.false_eq_true, decide_true, decide_false, String.reduceEq, Int.reduceEq, Nat.reduceLeDiff, true_and, and_true, Bool.not_true, Bool.not_false, decide_eq_true_eq, List.append_nil, bType, bIsi, bLen, bInt, ty_int, ty_bl, ty_str, ty_non, ty_tup, isT, oIs, oIsNot, oSub, oAdd, oIx, run_eqI, run_neI, Bool.or_false, Bool.or_true, Bool.false_or, Bool.true_or, Bool.and_true, Bool.and_false, Bool.true_and, Bool.false_and, reduceCtorEq, decide_not, Bool.not_eq_true', decide_eq_false_iff_not, askInt, askBool, askTuple, askList, askStr, oLe, oLt, oGe, oGt, oInt2, atI0, atI1, atI2] <;> exact rfl
theorem p_lifted {n : Nat} {t : T} {k : Int} {S : Store} (hn : 0 < n) : Run ((fns n).lifted [toV t, .int k] S) (fun r S' => r = toV (t.lift k) ∧ S' = S) := by
  obtain ⟨n, rfl⟩ : ∃ m, n = m + 1 := ⟨n - 1, by omega⟩
  show Run (fnOf 2 2 (b_lifted (fns n)) [toV t, .int k] S) _
  unfold b_lifted
  cases t <;> simp only [toV, run_ok, run_okI, run_okB, run_alloc, run_stuck, run_bind, run_ite, run_noX, run_fnOf, w_c, w_op, w_un, w_call, w_callK, w_nil, w_cons, w_tup, w_lst, isB_bl, w_tval, w_tand, w_tor, w_tnot, w_and, w_or, w_not, w_if, s_next, s_seq, s_if, s_ret, s_drop, s_set, s_par, s_put, s_asg, w_var', runS_next, runS_ret, runS_stuck, runS_ite, List.length_cons, List.length_nil, List.length_singleton, List.map_cons, List.map_nil, List.cons_append, List.nil_append, List.replicate_succ, List.replicate_zero, List.getElem?_cons_zero, List.getElem?_cons_succ, List.set_cons_zero, List.set_cons_succ, Nat.reduceAdd, Nat.reduceSub, Nat.reduceEqDiff, ite_true, ite_false, if_true, if_false, reduceIte, Bool.false_eq_true, decide_true, decide_false, String.reduceEq, Int.reduceEq, Nat.reduceLeDiff, true_and, and_true, Bool.not_true, Bool.not_false, decide_eq_true_eq, List.append_nil, bType, bIsi, bLen, bInt, ty_int, ty_bl, ty_str, ty_non, ty_tup, isT, oIs, oIsNot, oSub, oAdd, oIx, run_eqI, run_neI, Bool.or_false, Bool.or_true, Bool.false_or, Bool.true_or, Bool.and_true, Bool.and_false, Bool.true_and, Bool.false_and, reduceCtorEq, decide_not, Bool.not_eq_true', decide_eq_false_iff_not, askInt, askBool, askTuple, askList, askStr, oLe, oLt, oGe, oGt, oInt2, atI0, atI1, atI2] <;> exact rfl
theorem p_halves {n : Nat} {t : T} {S : Store} (hn : 1 < n) : Run ((fns n).halves [toV t] S) (fun r S' => r = .tup [toV (t.half 0), toV (t.half 1)] ∧ S' = S) := by
  obtain ⟨n, rfl⟩ : ∃ m, n = m + 1 := ⟨n - 1, by omega⟩
  show Run (fnOf 1 1 (b_halves (fns n)) [toV t] S) _
  unfold b_halves
  cases t with
  | leaf i => simp only [toV, run_ok, run_okI, run_okB, run_alloc, run_stuck, run_bind, run_ite, run_noX, run_fnOf, w_c, w_op, w_un, w_call, w_callK, w_nil, w_cons, w_tup, w_lst, isB_bl, w_tval, w_tand, w_tor, w_tnot, w_and, w_or, w_not, w_if, s_next, s_seq, s_if, s_ret, s_drop, s_set, s_par, s_put, s_asg, w_var', runS_next, runS_ret, runS_stuck, runS_ite, List.length_cons, List.length_nil, List.length_singleton, List.map_cons, List.map_nil, List.cons_append, List.nil_append, List.replicate_succ, List.replicate_zero, List.getElem?_cons_zero, List.getElem?_cons_succ, List.set_cons_zero, List.set_cons_succ, Nat.reduceAdd, Nat.reduceSub, Nat.reduceEqDiff, ite_true, ite_false, if_true, if_false, reduceIte, Bool.false_eq_true, decide_true, decide_false, String.reduceEq, Int.reduceEq, Nat.reduceLeDiff, true_and, and_true, Bool.not_true, Bool.not_false, decide_eq_true_eq, List.append_nil, bType, bIsi, bLen, bInt, ty_int, ty_bl, ty_str, ty_non, ty_tup, isT, oIs, oIsNot, oSub, oAdd, oIx, run_eqI, run_neI, Bool.or_false, Bool.or_true, Bool.false_or, Bool.true_or, Bool.and_true, Bool.and_false, Bool.true_and, Bool.false_and, reduceCtorEq, decide_not, Bool.not_eq_true', decide_eq_false_iff_not, askInt, askBool, askTuple, askList, askStr, oLe, oLt, oGe, oGt, oInt2, atI0, atI1, atI2]; exact rfl
  | node m l r =>
    simp only [toV, run_ok, run_okI, run_okB, run_alloc, run_stuck, run_bind, run_ite, run_noX, run_fnOf, w_c, w_op, w_un, w_call, w_callK, w_nil, w_cons, w_tup, w_lst, isB_bl, w_tval, w_tand, w_tor, w_tnot, w_and, w_or, w_not, w_if, s_next, s_seq, s_if, s_ret, s_drop, s_set, s_par, s_put, s_asg, w_var', runS_next, runS_ret, runS_stuck, runS_ite, List.length_cons, List.length_nil, List.length_singleton, List.map_cons, List.map_nil, List.cons_append, List.nil_append, List.replicate_succ, List.replicate_zero, List.getElem?_cons_zero, List.getElem?_cons_succ, List.set_cons_zero, List.set_cons_succ, Nat.reduceAdd, Nat.reduceSub, Nat.reduceEqDiff, ite_true, ite_false, if_true, if_false, reduceIte, Bool.false_eq_true, decide_true, decide_false, String.reduceEq, Int.reduceEq, Nat.reduceLeDiff, true_and, and_true, Bool.not_true, Bool.not_false, decide_eq_true_eq, List.append_nil, bType, bIsi, bLen, bInt, ty_int, ty_bl, ty_str, ty_non, ty_tup, isT, oIs, oIsNot, oSub, oAdd, oIx, run_eqI, run_neI, Bool.or_false, Bool.or_true, Bool.false_or, Bool.true_or, Bool.and_true, Bool.and_false, Bool.true_and, Bool.false_and, reduceCtorEq, decide_not, Bool.not_eq_true', decide_eq_false_iff_not, askInt, askBool, askTuple, askList, askStr, oLe, oLt, oGe, oGt, oInt2, atI0, atI1, atI2]
    refine Run.mono (p_lifted (by omega)) fun r S1 ⟨e, e2⟩ => ?_
    subst e e2
    refine Run.mono (p_lifted (by omega)) fun r S2 ⟨e, e2⟩ => ?_
    subst e e2
    simp only [run_ok, run_okI, run_okB, run_alloc, run_stuck, run_bind, run_ite, run_noX, run_fnOf, w_c, w_op, w_un, w_call, w_callK, w_nil, w_cons, w_tup, w_lst, isB_bl, w_tval, w_tand, w_tor, w_tnot, w_and, w_or, w_not, w_if, s_next, s_seq, s_if, s_ret, s_drop, s_set, s_par, s_put, s_asg, w_var', runS_next, runS_ret, runS_stuck, runS_ite, List.length_cons, List.length_nil, List.length_singleton, List.map_cons, List.map_nil, List.cons_append, List.nil_append, List.replicate_succ, List.replicate_zero, List.getElem?_cons_zero, List.getElem?_cons_succ, List.set_cons_zero, List.set_cons_succ, Nat.reduceAdd, Nat.reduceSub, Nat.reduceEqDiff, ite_true, ite_false, if_true, if_false, reduceIte, Bool.false_eq_true, decide_true, decide_false, String.reduceEq, Int.reduceEq, Nat.reduceLeDiff, true_and, and_true, Bool.not_true, Bool.not_false, decide_eq_true_eq, List.append_nil, bType, bIsi, bLen, bInt, ty_int, ty_bl, ty_str, ty_non, ty_tup, isT, oIs, oIsNot, oSub, oAdd, oIx, run_eqI, run_neI, Bool.or_false, Bool.or_true, Bool.false_or, Bool.true_or, Bool.and_true, Bool.and_false, Bool.true_and, Bool.false_and, reduceCtorEq, decide_not, Bool.not_eq_true', decide_eq_false_iff_not, askInt, askBool, askTuple, askList, askStr, oLe, oLt, oGe, oGt, oInt2, atI0, atI1, atI2]
    exact rfl
theorem p_greatestT : ∀ (t : T) (n : Nat) (S : Store), t.dep < n → Run ((fns n).greatest [toV t] S) (fun r S' => (∃ i, r = .int i) ∧ S' = S)
  | t, 0, S, h => absurd h (Nat.not_lt_zero _)
  | t, n + 1, S, h => by
    show Run (fnOf 1 1 (b_greatest (fns n)) [toV t] S) _
    unfold b_greatest
    cases t with
    | leaf i => simp only [toV, run_ok, run_okI, run_okB, run_alloc, run_stuck, run_bind, run_ite, run_noX, run_fnOf, w_c, w_op, w_un, w_call, w_callK, w_nil, w_cons, w_tup, w_lst, isB_bl, w_tval, w_tand, w_tor, w_tnot, w_and, w_or, w_not, w_if, s_next, s_seq, s_if, s_ret, s_drop, s_set, s_par, s_put, s_asg, w_var', runS_next, runS_ret, runS_stuck, runS_ite, List.length_cons, List.length_nil, List.length_singleton, List.map_cons, List.map_nil, List.cons_append, List.nil_append, List.replicate_succ, List.replicate_zero, List.getElem?_cons_zero, List.getElem?_cons_succ, List.set_cons_zero, List.set_cons_succ, Nat.reduceAdd, Nat.reduceSub, Nat.reduceEqDiff, ite_true, ite_false, if_true, if_false, reduceIte, Bool.false_eq_true, decide_true, decide_false, String.reduceEq, Int.reduceEq, Nat.reduceLeDiff, true_and, and_true, Bool.not_true, Bool.not_false, decide_eq_true_eq, List.append_nil, bType, bIsi, bLen, bInt, ty_int, ty_bl, ty_str, ty_non, ty_tup, isT, oIs, oIsNot, oSub, oAdd, oIx, run_eqI, run_neI, Bool.or_false, Bool.or_true, Bool.false_or, Bool.true_or, Bool.and_true, Bool.and_false, Bool.true_and, Bool.false_and, reduceCtorEq, decide_not, Bool.not_eq_true', decide_eq_false_iff_not, askInt, askBool, askTuple, askList, askStr, oLe, oLt, oGe, oGt, oInt2, atI0, atI1, atI2]; exact ⟨_, rfl⟩
    | node m l r =>
      have h : 1 + max l.dep r.dep < n + 1 := h
      simp only [toV, run_ok, run_okI, run_okB, run_alloc, run_stuck, run_bind, run_ite, run_noX, run_fnOf, w_c, w_op, w_un, w_call, w_callK, w_nil, w_cons, w_tup, w_lst, isB_bl, w_tval, w_tand, w_tor, w_tnot, w_and, w_or, w_not, w_if, s_next, s_seq, s_if, s_ret, s_drop, s_set, s_par, s_put, s_asg, w_var', runS_next, runS_ret, runS_stuck, runS_ite, List.length_cons, List.length_nil, List.length_singleton, List.map_cons, List.map_nil, List.cons_append, List.nil_append, List.replicate_succ, List.replicate_zero, List.getElem?_cons_zero, List.getElem?_cons_succ, List.set_cons_zero, List.set_cons_succ, Nat.reduceAdd, Nat.reduceSub, Nat.reduceEqDiff, ite_true, ite_false, if_true, if_false, reduceIte, Bool.false_eq_true, decide_true, decide_false, String.reduceEq, Int.reduceEq, Nat.reduceLeDiff, true_and, and_true, Bool.not_true, Bool.not_false, decide_eq_true_eq, List.append_nil, bType, bIsi, bLen, bInt, ty_int, ty_bl, ty_str, ty_non, ty_tup, isT, oIs, oIsNot, oSub, oAdd, oIx, run_eqI, run_neI, Bool.or_false, Bool.or_true, Bool.false_or, Bool.true_or, Bool.and_true, Bool.and_false, Bool.true_and, Bool.false_and, reduceCtorEq, decide_not, Bool.not_eq_true', decide_eq_false_iff_not, askInt, askBool, askTuple, askList, askStr, oLe, oLt, oGe, oGt, oInt2, atI0, atI1, atI2]
      refine Run.mono (p_greatestT l n S (by omega)) fun x S1 ⟨⟨i, er⟩, eS⟩ => ?_
      subst er eS
      refine Run.mono (p_greatestT r n S1 (by omega)) fun x S2 ⟨⟨j, er⟩, eS⟩ => ?_
      subst er eS
      simp only [bMax2, run_ok, run_okI, run_okB, run_alloc, run_stuck, run_bind, run_ite, run_noX, run_fnOf, w_c, w_op, w_un, w_call, w_callK, w_nil, w_cons, w_tup, w_lst, isB_bl, w_tval, w_tand, w_tor, w_tnot, w_and, w_or, w_not, w_if, s_next, s_seq, s_if, s_ret, s_drop, s_set, s_par, s_put, s_asg, w_var', runS_next, runS_ret, runS_stuck, runS_ite, List.length_cons, List.length_nil, List.length_singleton, List.map_cons, List.map_nil, List.cons_append, List.nil_append, List.replicate_succ, List.replicate_zero, List.getElem?_cons_zero, List.getElem?_cons_succ, List.set_cons_zero, List.set_cons_succ, Nat.reduceAdd, Nat.reduceSub, Nat.reduceEqDiff, ite_true, ite_false, if_true, if_false, reduceIte, Bool.false_eq_true, decide_true, decide_false, String.reduceEq, Int.reduceEq, Nat.reduceLeDiff, true_and, and_true, Bool.not_true, Bool.not_false, decide_eq_true_eq, List.append_nil, bType, bIsi, bLen, bInt, ty_int, ty_bl, ty_str, ty_non, ty_tup, isT, oIs, oIsNot, oSub, oAdd, oIx, run_eqI, run_neI, Bool.or_false, Bool.or_true, Bool.false_or, Bool.true_or, Bool.and_true, Bool.and_false, Bool.true_and, Bool.false_and, reduceCtorEq, decide_not, Bool.not_eq_true', decide_eq_false_iff_not, askInt, askBool, askTuple, askList, askStr, oLe, oLt, oGe, oGt, oInt2, atI0, atI1, atI2]
      exact ⟨_, rfl⟩
theorem check_path_ok {e n : Nat} {v : Val} {S : Store} (hv : Da S e v) (he : e < 60) (hn : 1 < n) (h : isPa v = true) : ∃ S', Kp S S' ∧ (fns n).check_path [v] S = .ok .non S' := by
  obtain ⟨n, rfl⟩ : ∃ m, n = m + 1 := ⟨n - 1, by omega⟩
  obtain ⟨r, S', e1, e2, g⟩ := (p_is_path (n := n) hv he (by omega)).to
  subst e2
  rw [h] at e1
  refine ⟨S', g, ?_⟩
  show fnOf 1 1 (b_check_path (fns n)) [v] S = _
  simp only [fnOf, b_check_path, sIf, tNot', tVal, dCall, aCons, aNil, dVar, Res.bind, Res.toS, List.length_cons, List.length_nil, List.map_cons, List.map_nil, Nat.reduceAdd, Nat.reduceSub, List.replicate_zero, List.append_nil, List.getElem?_cons_zero, e1, if_true]
  rfl
theorem check_dot_ok {e n : Nat} {v : Val} {S : Store} (hv : Da S e v) (he : e < 60) (hn : 2 < n) : ∃ S', Kp S S' ∧ (fns n)._check_dot [v] S = if isDot v = true then .ok .non S' else .exc ⟨3, []⟩ S' := by
  obtain ⟨n, rfl⟩ : ∃ m, n = m + 1 := ⟨n - 1, by omega⟩
  obtain ⟨r, S', e1, e2, g⟩ := (p_is_dot (n := n) hv he (by omega)).to
  subst e2
  refine ⟨S', g, ?_⟩
  show fnOf 1 1 (b__check_dot (fns n)) [v] S = _
  simp only [fnOf, b__check_dot, sIf, tNot', tVal, dCall, aCons, aNil, dVar, Res.bind, Res.toS, List.length_cons, List.length_nil, List.map_cons, List.map_nil, Nat.reduceAdd, Nat.reduceSub, List.replicate_zero, List.append_nil, List.getElem?_cons_zero, e1, if_true]
  cases isDot v <;> rfl
theorem ix_half {t : T} {h : Int} {S : Store} {Q : Val → Store → Prop} (hh : h = 0 ∨ h = 1) : Run (oIx (.tup [toV (t.half 0), toV (t.half 1)]) (.int h) S) Q = Q (toV (t.half h)) S := by
  rcases hh with rfl | rfl
  · exact ix0
  · exact ix1
def waBody (p : Fns) : SD := sSet 2 (dOp oIx (dCall p.halves (aCons (dVar 2) aNil)) (dVar 3))
theorem wa_loop {n : Nat} {a b : Option Val} {R : Val → Store → Prop} (hn : 1 < n) : ∀ (p : List Int) (t : T) (x : Option Val) (S : Store), (∀ i ∈ p, i = 0 ∨ i = 1) → RunS (loopV (gN 3) (waBody (fns n)) (p.map Val.int) [a, b, some (toV t), x] S) (fun ρ S' => (∃ x, ρ = [a, b, some (toV (T.part p t)), x]) ∧ S' = S) R
  | [], t, x, S, _ => by
    rw [List.map_nil, loopV_nil]
    exact ⟨⟨x, rfl⟩, rfl⟩
  | h :: p, t, x, S, hp => by
    rw [List.map_cons, loopV_cons]
    have hb : RunS (waBody (fns n) [a, b, some (toV t), some (.int h)] S) (fun ρ S' => ρ = [a, b, some (toV (t.half h)), some (.int h)] ∧ S' = S) R := by
      unfold waBody
      rw [s_set, w_op, w_call, w_cons, w_var rfl, w_nil]
      refine Run.mono (p_halves hn) fun r S1 ⟨e, e2⟩ => ?_
      subst e e2
      rw [w_var rfl, ix_half (hp h List.mem_cons_self)]
      exact ⟨rfl, rfl⟩
    show RunS ((waBody (fns n) [a, b, some (toV t), some (.int h)] S).turn (loopV (gN 3) (waBody (fns n)) (p.map Val.int))) _ R
    cases hr : waBody (fns n) [a, b, some (toV t), some (.int h)] S with
    | next ρ2 S2 =>
      rw [hr] at hb
      obtain ⟨e, e2⟩ := hb
      subst e e2
      exact wa_loop hn p (t.half h) _ _ fun i hi => hp i (List.mem_cons_of_mem _ hi)
    | ret v S2 => rw [hr] at hb; exact hb
    | brk ρ2 S2 => rw [hr] at hb; exact hb.elim
    | cont ρ2 S2 => rw [hr] at hb; exact hb.elim
    | exc e ρ2 S2 => rw [hr] at hb; exact hb.elim
    | stuck => rw [hr] at hb; exact hb.elim
theorem s_forTup {f : D} {t : TgD} {b : SD} {ρ : PD.Env} {S : Store} {xs : List Val} {N : PD.Env → Store → Prop} {R : Val → Store → Prop} (h : Run (f ρ S) fun x S1 => x = .tup xs ∧ S1 = S) (q : RunS (loopV t b xs ρ S) N R) : RunS (sForT f t b ρ S) N R := by
  unfold sForT
  rw [runS_toS]
  refine Run.mono h fun x S1 ⟨e, e2⟩ => ?_
  subst e e2
  exact q
theorem toV_daN {t : T} {S : Store} (h : t.dep ≤ 12) : Da S 12 (toV t) := toV_da h
theorem worth_ok {n : Nat} {t : T} {p : List Int} {w : Int} {S : Store} (ht : Cts t) (hp : Dot p w) (hn : 64 < n) : Run ((fns n).worth_at [toV t, pathV p] S) (fun r S' => (∃ g, r = .tup [.int (T.part p t).top, g]) ∧ Kp S S') := by
  obtain ⟨n, rfl⟩ : ∃ m, n = m + 1 := ⟨n - 1, by omega⟩
  show Run (fnOf 2 4 (b_worth_at (fns n)) [toV t, pathV p] S) _
  unfold b_worth_at
  refine run_fn rfl rfl ?_
  refine s_step (N' := fun ρ S' => ρ = [some (toV t), some (pathV p), none, none] ∧ Kp S S') ?_ ?_
  · rw [s_drop, w_call, w_cons, w_var rfl, w_nil]
    obtain ⟨S1, k1, e1⟩ := check_counts_ok (n := n) (toV_daN (S := S) ht.dep) (by omega) (by omega)
    rw [coOk_toV ht, if_pos rfl] at e1
    exact Run.of e1 ⟨rfl, k1⟩
  rintro ρ S1 ⟨rfl, k1⟩
  refine s_step (N' := fun ρ S' => ρ = [some (toV t), some (pathV p), none, none] ∧ Kp S S') ?_ ?_
  · rw [s_drop, w_call, w_cons, w_var rfl, w_nil]
    have hpa : isPa (pathV p) = true := by
      show (decide ((p.map Val.int).length ≤ 12) && (p.map Val.int).all isHalf) = true
      rw [half_all hp.half, List.length_map, decide_eq_true hp.len]; rfl
    obtain ⟨S2, k2, e2⟩ := check_path_ok (n := n) (path_da (S := S1) (p := p)) (by omega) (by omega) hpa
    exact Run.of e2 ⟨rfl, k1.trans k2⟩
  rintro ρ S2 ⟨rfl, k2⟩
  refine s_step (N' := fun ρ S' => ρ = [some (toV t), some (pathV p), some (toV t), none] ∧ S' = S2) ?_ ?_
  · rw [s_set, w_var rfl]
    exact ⟨rfl, rfl⟩
  rintro ρ S3 ⟨rfl, rfl⟩
  refine s_step (N' := fun ρ S' => (∃ x, ρ = [some (toV t), some (pathV p), some (toV (T.part p t)), x]) ∧ S' = S3) ?_ ?_
  · exact s_forTup (xs := p.map Val.int) (by rw [w_var rfl]; exact ⟨rfl, rfl⟩) (wa_loop (by omega) p t none S3 hp.half)
  rintro ρ S4 ⟨⟨x, rfl⟩, rfl⟩
  rw [s_ret, w_tup, w_cons, w_call, w_cons, w_var rfl, w_nil]
  refine Run.mono (p_leastT (by omega)) fun r S5 ⟨e, e2⟩ => ?_
  subst e e2
  rw [w_cons, w_call, w_cons, w_var rfl, w_nil]
  have hd := T.dep_part (p := p) (t := t)
  refine Run.mono (p_greatestT (T.part p t) n S5 (by have := ht.dep; omega)) fun r S6 ⟨⟨g, e⟩, e2⟩ => ?_
  subst e e2
  rw [w_nil]
  exact ⟨Nat.le_of_ble_eq_true rfl, ⟨_, rfl⟩, k2⟩
theorem dot_da {p : List Int} {w : Int} {S : Store} : Da S 2 (dotV p w) := .tup (by
  intro x hx
  rcases List.mem_cons.mp hx with rfl | hx
  · exact path_da
  · rw [List.mem_singleton.mp hx]; exact .int _ _)
theorem run_geI {a b : Int} {S : Store} {Q : Val → Store → Prop} : Run (oGe (.int a) (.int b) S) Q = Q (.bl (decide (b ≤ a))) S := rfl
theorem has_ok {n : Nat} {t : T} {p : List Int} {w : Int} {S : Store} (ht : Cts t) (hp : Dot p w) (hn : 66 < n) : Run ((fns n).has_dot [toV t, dotV p w] S) (PureK S (.bl (decide (w ≤ (T.part p t).top)))) := by
  obtain ⟨n, rfl⟩ : ∃ m, n = m + 2 := ⟨n - 2, by omega⟩
  show Run (fnOf 2 2 (b_has_dot (fns (n + 1))) [toV t, dotV p w] S) _
  unfold b_has_dot
  refine run_fn rfl rfl ?_
  refine s_step (N' := fun ρ S' => ρ = [some (toV t), some (dotV p w)] ∧ Kp S S') ?_ ?_
  · rw [s_drop, w_call, w_cons, w_var rfl, w_nil]
    obtain ⟨S1, k1, e1⟩ := check_counts_ok (n := n + 1) (toV_daN (S := S) ht.dep) (by omega) (by omega)
    rw [coOk_toV ht, if_pos rfl] at e1
    exact Run.of e1 ⟨rfl, k1⟩
  rintro ρ S1 ⟨rfl, k1⟩
  refine s_step (N' := fun ρ S' => ρ = [some (toV t), some (dotV p w)] ∧ Kp S S') ?_ ?_
  · rw [s_drop, w_call, w_cons, w_var rfl, w_nil]
    obtain ⟨S2, k2, e2⟩ := check_dot_ok (n := n + 1) (dot_da (S := S1) (p := p) (w := w)) (by omega) (by omega)
    rw [isDot_of hp, if_pos rfl] at e2
    exact Run.of e2 ⟨rfl, k1.trans k2⟩
  rintro ρ S2 ⟨rfl, k2⟩
  rw [s_ret, w_call, w_cons, w_var rfl, w_cons, w_var rfl, w_nil]
  show Run (fnOf 2 2 (b__has (fns n)) [toV t, dotV p w] S2) _
  unfold b__has
  refine run_fn rfl rfl ?_
  rw [s_ret, w_op, w_op, w_call, w_cons, w_var rfl, w_cons, w_op, w_var rfl, w_c]
  unfold dotV
  rw [ix0, w_nil]
  refine Run.mono (worth_ok ht hp (by omega)) fun r S3 ⟨⟨g, e⟩, k3⟩ => ?_
  subst e
  rw [w_c, ix0, w_op, w_var rfl, w_c, ix1, run_geI]
  exact ⟨rfl, k2.trans k3⟩
/-- has_dot of what is no counts, of what is no dot -/
theorem has_no1 {e n : Nat} {v d : Val} {S : Store} (hv : Da S e v) (he : e < 60) (hn : 66 < n) (h : coOk v = false) : ∃ S', Kp S S' ∧ (fns n).has_dot [v, d] S = .exc ⟨1, []⟩ S' := by
  obtain ⟨n, rfl⟩ : ∃ m, n = m + 1 := ⟨n - 1, by omega⟩
  obtain ⟨S1, k1, e1⟩ := check_counts_ok (n := n) hv he (by omega)
  rw [h, if_neg (by decide)] at e1
  refine ⟨S1, k1, ?_⟩
  show fnOf 2 2 (b_has_dot (fns n)) [v, d] S = _
  simp only [fnOf, b_has_dot, sSeq, sDrop, dCall, aCons, aNil, dVar, Res.bind, Res.toS, SRes.seq, List.length_cons, List.length_nil, List.map_cons, List.map_nil, Nat.reduceAdd, Nat.reduceSub, List.replicate_zero, List.append_nil, List.getElem?_cons_zero, e1, if_true]
theorem has_no2 {e n : Nat} {t : T} {d : Val} {S : Store} (ht : Cts t) (hd : ∀ S', Kp S S' → Da S' e d) (he : e < 60) (hn : 66 < n) (h : isDot d = false) : ∃ S', Kp S S' ∧ (fns n).has_dot [toV t, d] S = .exc ⟨3, []⟩ S' := by
  obtain ⟨n, rfl⟩ : ∃ m, n = m + 1 := ⟨n - 1, by omega⟩
  obtain ⟨S1, k1, e1⟩ := check_counts_ok (n := n) (toV_daN (S := S) ht.dep) (by omega) (by omega)
  rw [coOk_toV ht, if_pos rfl] at e1
  obtain ⟨S2, k2, e2⟩ := check_dot_ok (n := n) (hd S1 k1) he (by omega)
  rw [h, if_neg (by decide)] at e2
  refine ⟨S2, k1.trans k2, ?_⟩
  show fnOf 2 2 (b_has_dot (fns n)) [toV t, d] S = _
  simp only [fnOf, b_has_dot, sSeq, sDrop, dCall, aCons, aNil, dVar, Res.bind, Res.toS, SRes.seq, List.length_cons, List.length_nil, List.map_cons, List.map_nil, Nat.reduceAdd, Nat.reduceSub, List.replicate_zero, List.append_nil, List.getElem?_cons_zero, List.getElem?_cons_succ, e1, e2, if_true]
theorem told_1 {n : Nat} {v d : Val} {S S' : Store} (h : (fns n).has_dot [v, d] S = .exc ⟨1, []⟩ S') : (fns (n + 1))._law_told [v, d] S = .ok (.str "counts") S' := by
  show fnOf 2 4 (b__law_told (fns n)) [v, d] S = _
  simp only [fnOf, b__law_told, sSeq, sSet, sRet, dC, sTryE, dCall, aCons, aNil, dVar, Res.bind, Res.toS, SRes.seq, List.length_cons, List.length_nil, List.map_cons, List.map_nil, Nat.reduceAdd, Nat.reduceSub, List.replicate_zero, List.replicate_succ, List.append_nil, List.cons_append, List.nil_append, List.getElem?_cons_zero, List.getElem?_cons_succ, List.set_cons_succ, List.set_cons_zero, h, if_true]
  rfl
theorem told_2 {n : Nat} {v d : Val} {S S' : Store} (h : (fns n).has_dot [v, d] S = .exc ⟨3, []⟩ S') : (fns (n + 1))._law_told [v, d] S = .ok (.str "dot") S' := by
  show fnOf 2 4 (b__law_told (fns n)) [v, d] S = _
  simp only [fnOf, b__law_told, sSeq, sSet, sRet, dC, sTryE, dCall, aCons, aNil, dVar, Res.bind, Res.toS, SRes.seq, List.length_cons, List.length_nil, List.map_cons, List.map_nil, Nat.reduceAdd, Nat.reduceSub, List.replicate_zero, List.replicate_succ, List.append_nil, List.cons_append, List.nil_append, List.getElem?_cons_zero, List.getElem?_cons_succ, List.set_cons_succ, List.set_cons_zero, h, if_true]
  rfl
end PD.K34

/-! ## K34M7 -/
set_option Elab.async false
set_option linter.all false
set_option maxRecDepth 100000
set_option maxHeartbeats 1000000
namespace PD.K34
open PySem PySem.Spec L2 PD LT
/-! ### the law's least worth, part -/
theorem l_low : ∀ (t : T) (n : Nat) (S : Store), t.dep < n → Run ((fns n)._law_low [toV t] S) (fun r S' => r = .int t.low ∧ S' = S)
  | t, 0, S, h => absurd h (Nat.not_lt_zero _)
  | t, n + 1, S, h => by
    show Run (fnOf 1 1 (b__law_low (fns n)) [toV t] S) _
    unfold b__law_low
    cases t with
    | leaf i => simp only [toV, run_ok, run_okI, run_okB, run_alloc, run_stuck, run_bind, run_ite, run_noX, run_fnOf, w_c, w_op, w_un, w_call, w_callK, w_nil, w_cons, w_tup, w_lst, isB_bl, w_tval, w_tand, w_tor, w_tnot, w_and, w_or, w_not, w_if, s_next, s_seq, s_if, s_ret, s_drop, s_set, s_par, s_put, s_asg, w_var', runS_next, runS_ret, runS_stuck, runS_ite, List.length_cons, List.length_nil, List.length_singleton, List.map_cons, List.map_nil, List.cons_append, List.nil_append, List.replicate_succ, List.replicate_zero, List.getElem?_cons_zero, List.getElem?_cons_succ, List.set_cons_zero, List.set_cons_succ, Nat.reduceAdd, Nat.reduceSub, Nat.reduceEqDiff, ite_true, ite_false, if_true, if_false, reduceIte, Bool.false_eq_true, decide_true, decide_false, String.reduceEq, Int.reduceEq, Nat.reduceLeDiff, true_and, and_true, Bool.not_true, Bool.not_false, decide_eq_true_eq, List.append_nil, bType, bIsi, bLen, bInt, ty_int, ty_bl, ty_str, ty_non, ty_tup, isT, oIs, oIsNot, oSub, oAdd, oIx, run_eqI, run_neI, Bool.or_false, Bool.or_true, Bool.false_or, Bool.true_or, Bool.and_true, Bool.and_false, Bool.true_and, Bool.false_and, reduceCtorEq, decide_not, Bool.not_eq_true', decide_eq_false_iff_not, askInt, askBool, askTuple, askList, askStr, oLe, oLt, oGe, oGt, oInt2, atI0, atI1, atI2]; exact rfl
    | node m l r =>
      have h : 1 + max l.dep r.dep < n + 1 := h
      simp only [toV, run_ok, run_okI, run_okB, run_alloc, run_stuck, run_bind, run_ite, run_noX, run_fnOf, w_c, w_op, w_un, w_call, w_callK, w_nil, w_cons, w_tup, w_lst, isB_bl, w_tval, w_tand, w_tor, w_tnot, w_and, w_or, w_not, w_if, s_next, s_seq, s_if, s_ret, s_drop, s_set, s_par, s_put, s_asg, w_var', runS_next, runS_ret, runS_stuck, runS_ite, List.length_cons, List.length_nil, List.length_singleton, List.map_cons, List.map_nil, List.cons_append, List.nil_append, List.replicate_succ, List.replicate_zero, List.getElem?_cons_zero, List.getElem?_cons_succ, List.set_cons_zero, List.set_cons_succ, Nat.reduceAdd, Nat.reduceSub, Nat.reduceEqDiff, ite_true, ite_false, if_true, if_false, reduceIte, Bool.false_eq_true, decide_true, decide_false, String.reduceEq, Int.reduceEq, Nat.reduceLeDiff, true_and, and_true, Bool.not_true, Bool.not_false, decide_eq_true_eq, List.append_nil, bType, bIsi, bLen, bInt, ty_int, ty_bl, ty_str, ty_non, ty_tup, isT, oIs, oIsNot, oSub, oAdd, oIx, run_eqI, run_neI, Bool.or_false, Bool.or_true, Bool.false_or, Bool.true_or, Bool.and_true, Bool.and_false, Bool.true_and, Bool.false_and, reduceCtorEq, decide_not, Bool.not_eq_true', decide_eq_false_iff_not, askInt, askBool, askTuple, askList, askStr, oLe, oLt, oGe, oGt, oInt2, atI0, atI1, atI2]
      refine Run.mono (l_low l n S (by omega)) fun x S1 ⟨er, eS⟩ => ?_
      subst er eS
      refine Run.mono (l_low r n S1 (by omega)) fun x S2 ⟨er, eS⟩ => ?_
      subst er eS
      simp only [bMin2, run_ok, run_okI, run_okB, run_alloc, run_stuck, run_bind, run_ite, run_noX, run_fnOf, w_c, w_op, w_un, w_call, w_callK, w_nil, w_cons, w_tup, w_lst, isB_bl, w_tval, w_tand, w_tor, w_tnot, w_and, w_or, w_not, w_if, s_next, s_seq, s_if, s_ret, s_drop, s_set, s_par, s_put, s_asg, w_var', runS_next, runS_ret, runS_stuck, runS_ite, List.length_cons, List.length_nil, List.length_singleton, List.map_cons, List.map_nil, List.cons_append, List.nil_append, List.replicate_succ, List.replicate_zero, List.getElem?_cons_zero, List.getElem?_cons_succ, List.set_cons_zero, List.set_cons_succ, Nat.reduceAdd, Nat.reduceSub, Nat.reduceEqDiff, ite_true, ite_false, if_true, if_false, reduceIte, Bool.false_eq_true, decide_true, decide_false, String.reduceEq, Int.reduceEq, Nat.reduceLeDiff, true_and, and_true, Bool.not_true, Bool.not_false, decide_eq_true_eq, List.append_nil, bType, bIsi, bLen, bInt, ty_int, ty_bl, ty_str, ty_non, ty_tup, isT, oIs, oIsNot, oSub, oAdd, oIx, run_eqI, run_neI, Bool.or_false, Bool.or_true, Bool.false_or, Bool.true_or, Bool.and_true, Bool.and_false, Bool.true_and, Bool.false_and, reduceCtorEq, decide_not, Bool.not_eq_true', decide_eq_false_iff_not, askInt, askBool, askTuple, askList, askStr, oLe, oLt, oGe, oGt, oInt2, atI0, atI1, atI2]
      show Val.int (m + if r.low < l.low then r.low else l.low) = Val.int (m + min l.low r.low)
      congr 2
      omega
def ptBody : SD := sIf (tVal (dCall bIsi (aCons (dVar 0) (aCons (dC (.ty "tuple")) aNil)))) (sSeq (sPar 3 4 (aCons (dOp oIx (dVar 0) (dC (.int 0))) (aCons (dOp oIx (dVar 0) (dOp oAdd (dC (.int 1)) (dVar 2))) aNil)))
    (sSet 0 (dIf (tVal (dCall bIsi (aCons (dVar 4) (aCons (dC (.ty "tuple")) aNil)))) (dTup (aCons (dOp oAdd (dOp oIx (dVar 4) (dC (.int 0))) (dVar 3)) (aCons (dOp oIx (dVar 4) (dC (.int 1))) (aCons (dOp oIx (dVar 4) (dC (.int 2))) aNil)))) (dOp oAdd (dVar 4) (dVar 3))))) sNext
theorem pt_turn {a x3 x4 : Option Val} {t : T} {h : Int} {S : Store} {R : Val → Store → Prop} (hh : h = 0 ∨ h = 1) : RunS (ptBody [some (toV t), a, some (.int h), x3, x4] S) (fun ρ S' => (∃ x3 x4, ρ = [some (toV (t.half h)), a, some (.int h), x3, x4]) ∧ S' = S) R := by
  unfold ptBody
  cases t with
  | leaf i => simp only [toV, run_ok, run_okI, run_okB, run_alloc, run_stuck, run_bind, run_ite, run_noX, run_fnOf, w_c, w_op, w_un, w_call, w_callK, w_nil, w_cons, w_tup, w_lst, isB_bl, w_tval, w_tand, w_tor, w_tnot, w_and, w_or, w_not, w_if, s_next, s_seq, s_if, s_ret, s_drop, s_set, s_par, s_put, s_asg, w_var', runS_next, runS_ret, runS_stuck, runS_ite, List.length_cons, List.length_nil, List.length_singleton, List.map_cons, List.map_nil, List.cons_append, List.nil_append, List.replicate_succ, List.replicate_zero, List.getElem?_cons_zero, List.getElem?_cons_succ, List.set_cons_zero, List.set_cons_succ, Nat.reduceAdd, Nat.reduceSub, Nat.reduceEqDiff, ite_true, ite_false, if_true, if_false, reduceIte, Bool.false_eq_true, decide_true, decide_false, String.reduceEq, Int.reduceEq, Nat.reduceLeDiff, true_and, and_true, Bool.not_true, Bool.not_false, decide_eq_true_eq, List.append_nil, bType, bIsi, bLen, bInt, ty_int, ty_bl, ty_str, ty_non, ty_tup, isT, oIs, oIsNot, oSub, oAdd, oIx, run_eqI, run_neI, Bool.or_false, Bool.or_true, Bool.false_or, Bool.true_or, Bool.and_true, Bool.and_false, Bool.true_and, Bool.false_and, reduceCtorEq, decide_not, Bool.not_eq_true', decide_eq_false_iff_not, askInt, askBool, askTuple, askList, askStr, oLe, oLt, oGe, oGt, oInt2, atI0, atI1, atI2]; exact ⟨x3, x4, rfl⟩
  | node m l r =>
    have fin : ∀ u : T, RunS ((sSet 0 (dIf (tVal (dCall bIsi (aCons (dVar 4) (aCons (dC (.ty "tuple")) aNil)))) (dTup (aCons (dOp oAdd (dOp oIx (dVar 4) (dC (.int 0))) (dVar 3)) (aCons (dOp oIx (dVar 4) (dC (.int 1))) (aCons (dOp oIx (dVar 4) (dC (.int 2))) aNil)))) (dOp oAdd (dVar 4) (dVar 3)))) [some (.tup [.int m, toV l, toV r]), a, some (.int h), some (.int m), some (toV u)] S)
        (fun ρ S' => (∃ x3 x4, ρ = [some (toV (u.lift m)), a, some (.int h), x3, x4]) ∧ S' = S) R := fun u => by
      cases u <;> simp only [toV, run_ok, run_okI, run_okB, run_alloc, run_stuck, run_bind, run_ite, run_noX, run_fnOf, w_c, w_op, w_un, w_call, w_callK, w_nil, w_cons, w_tup, w_lst, isB_bl, w_tval, w_tand, w_tor, w_tnot, w_and, w_or, w_not, w_if, s_next, s_seq, s_if, s_ret, s_drop, s_set, s_par, s_put, s_asg, w_var', runS_next, runS_ret, runS_stuck, runS_ite, List.length_cons, List.length_nil, List.length_singleton, List.map_cons, List.map_nil, List.cons_append, List.nil_append, List.replicate_succ, List.replicate_zero, List.getElem?_cons_zero, List.getElem?_cons_succ, List.set_cons_zero, List.set_cons_succ, Nat.reduceAdd, Nat.reduceSub, Nat.reduceEqDiff, ite_true, ite_false, if_true, if_false, reduceIte, Bool.false_eq_true, decide_true, decide_false, String.reduceEq, Int.reduceEq, Nat.reduceLeDiff, true_and, and_true, Bool.not_true, Bool.not_false, decide_eq_true_eq, List.append_nil, bType, bIsi, bLen, bInt, ty_int, ty_bl, ty_str, ty_non, ty_tup, isT, oIs, oIsNot, oSub, oAdd, oIx, run_eqI, run_neI, Bool.or_false, Bool.or_true, Bool.false_or, Bool.true_or, Bool.and_true, Bool.and_false, Bool.true_and, Bool.false_and, reduceCtorEq, decide_not, Bool.not_eq_true', decide_eq_false_iff_not, askInt, askBool, askTuple, askList, askStr, oLe, oLt, oGe, oGt, oInt2, atI0, atI1, atI2] <;> exact ⟨_, _, rfl⟩
    rw [s_if]
    simp only [toV, run_ok, run_okI, run_okB, run_alloc, run_stuck, run_bind, run_ite, run_noX, run_fnOf, w_c, w_op, w_un, w_call, w_callK, w_nil, w_cons, w_tup, w_lst, isB_bl, w_tval, w_tand, w_tor, w_tnot, w_and, w_or, w_not, w_if, s_next, s_seq, s_if, s_ret, s_drop, s_set, s_par, s_put, s_asg, w_var', runS_next, runS_ret, runS_stuck, runS_ite, List.length_cons, List.length_nil, List.length_singleton, List.map_cons, List.map_nil, List.cons_append, List.nil_append, List.replicate_succ, List.replicate_zero, List.getElem?_cons_zero, List.getElem?_cons_succ, List.set_cons_zero, List.set_cons_succ, Nat.reduceAdd, Nat.reduceSub, Nat.reduceEqDiff, ite_true, ite_false, if_true, if_false, reduceIte, Bool.false_eq_true, decide_true, decide_false, String.reduceEq, Int.reduceEq, Nat.reduceLeDiff, true_and, and_true, Bool.not_true, Bool.not_false, decide_eq_true_eq, List.append_nil, bType, bIsi, bLen, bInt, ty_int, ty_bl, ty_str, ty_non, ty_tup, isT, oIs, oIsNot, oSub, oAdd, oIx, run_eqI, run_neI, Bool.or_false, Bool.or_true, Bool.false_or, Bool.true_or, Bool.and_true, Bool.and_false, Bool.true_and, Bool.false_and, reduceCtorEq, decide_not, Bool.not_eq_true', decide_eq_false_iff_not, askInt, askBool, askTuple, askList, askStr, oLe, oLt, oGe, oGt, oInt2, atI0, atI1, atI2]
    rcases hh with rfl | rfl
    · have := fin l
      simp only [run_ok, run_okI, run_okB, run_alloc, run_stuck, run_bind, run_ite, run_noX, run_fnOf, w_c, w_op, w_un, w_call, w_callK, w_nil, w_cons, w_tup, w_lst, isB_bl, w_tval, w_tand, w_tor, w_tnot, w_and, w_or, w_not, w_if, s_next, s_seq, s_if, s_ret, s_drop, s_set, s_par, s_put, s_asg, w_var', runS_next, runS_ret, runS_stuck, runS_ite, List.length_cons, List.length_nil, List.length_singleton, List.map_cons, List.map_nil, List.cons_append, List.nil_append, List.replicate_succ, List.replicate_zero, List.getElem?_cons_zero, List.getElem?_cons_succ, List.set_cons_zero, List.set_cons_succ, Nat.reduceAdd, Nat.reduceSub, Nat.reduceEqDiff, ite_true, ite_false, if_true, if_false, reduceIte, Bool.false_eq_true, decide_true, decide_false, String.reduceEq, Int.reduceEq, Nat.reduceLeDiff, true_and, and_true, Bool.not_true, Bool.not_false, decide_eq_true_eq, List.append_nil, bType, bIsi, bLen, bInt, ty_int, ty_bl, ty_str, ty_non, ty_tup, isT, oIs, oIsNot, oSub, oAdd, oIx, run_eqI, run_neI, Bool.or_false, Bool.or_true, Bool.false_or, Bool.true_or, Bool.and_true, Bool.and_false, Bool.true_and, Bool.false_and, reduceCtorEq, decide_not, Bool.not_eq_true', decide_eq_false_iff_not, askInt, askBool, askTuple, askList, askStr, oLe, oLt, oGe, oGt, oInt2, atI0, atI1, atI2] at this
      simp only [show (1 : Int) + 0 = 1 from rfl, run_ok, run_okI, run_okB, run_alloc, run_stuck, run_bind, run_ite, run_noX, run_fnOf, w_c, w_op, w_un, w_call, w_callK, w_nil, w_cons, w_tup, w_lst, isB_bl, w_tval, w_tand, w_tor, w_tnot, w_and, w_or, w_not, w_if, s_next, s_seq, s_if, s_ret, s_drop, s_set, s_par, s_put, s_asg, w_var', runS_next, runS_ret, runS_stuck, runS_ite, List.length_cons, List.length_nil, List.length_singleton, List.map_cons, List.map_nil, List.cons_append, List.nil_append, List.replicate_succ, List.replicate_zero, List.getElem?_cons_zero, List.getElem?_cons_succ, List.set_cons_zero, List.set_cons_succ, Nat.reduceAdd, Nat.reduceSub, Nat.reduceEqDiff, ite_true, ite_false, if_true, if_false, reduceIte, Bool.false_eq_true, decide_true, decide_false, String.reduceEq, Int.reduceEq, Nat.reduceLeDiff, true_and, and_true, Bool.not_true, Bool.not_false, decide_eq_true_eq, List.append_nil, bType, bIsi, bLen, bInt, ty_int, ty_bl, ty_str, ty_non, ty_tup, isT, oIs, oIsNot, oSub, oAdd, oIx, run_eqI, run_neI, Bool.or_false, Bool.or_true, Bool.false_or, Bool.true_or, Bool.and_true, Bool.and_false, Bool.true_and, Bool.false_and, reduceCtorEq, decide_not, Bool.not_eq_true', decide_eq_false_iff_not, askInt, askBool, askTuple, askList, askStr, oLe, oLt, oGe, oGt, oInt2, atI0, atI1, atI2]
      exact this
    · have := fin r
      simp only [run_ok, run_okI, run_okB, run_alloc, run_stuck, run_bind, run_ite, run_noX, run_fnOf, w_c, w_op, w_un, w_call, w_callK, w_nil, w_cons, w_tup, w_lst, isB_bl, w_tval, w_tand, w_tor, w_tnot, w_and, w_or, w_not, w_if, s_next, s_seq, s_if, s_ret, s_drop, s_set, s_par, s_put, s_asg, w_var', runS_next, runS_ret, runS_stuck, runS_ite, List.length_cons, List.length_nil, List.length_singleton, List.map_cons, List.map_nil, List.cons_append, List.nil_append, List.replicate_succ, List.replicate_zero, List.getElem?_cons_zero, List.getElem?_cons_succ, List.set_cons_zero, List.set_cons_succ, Nat.reduceAdd, Nat.reduceSub, Nat.reduceEqDiff, ite_true, ite_false, if_true, if_false, reduceIte, Bool.false_eq_true, decide_true, decide_false, String.reduceEq, Int.reduceEq, Nat.reduceLeDiff, true_and, and_true, Bool.not_true, Bool.not_false, decide_eq_true_eq, List.append_nil, bType, bIsi, bLen, bInt, ty_int, ty_bl, ty_str, ty_non, ty_tup, isT, oIs, oIsNot, oSub, oAdd, oIx, run_eqI, run_neI, Bool.or_false, Bool.or_true, Bool.false_or, Bool.true_or, Bool.and_true, Bool.and_false, Bool.true_and, Bool.false_and, reduceCtorEq, decide_not, Bool.not_eq_true', decide_eq_false_iff_not, askInt, askBool, askTuple, askList, askStr, oLe, oLt, oGe, oGt, oInt2, atI0, atI1, atI2] at this
      simp only [show (1 : Int) + 1 = 2 from rfl, run_ok, run_okI, run_okB, run_alloc, run_stuck, run_bind, run_ite, run_noX, run_fnOf, w_c, w_op, w_un, w_call, w_callK, w_nil, w_cons, w_tup, w_lst, isB_bl, w_tval, w_tand, w_tor, w_tnot, w_and, w_or, w_not, w_if, s_next, s_seq, s_if, s_ret, s_drop, s_set, s_par, s_put, s_asg, w_var', runS_next, runS_ret, runS_stuck, runS_ite, List.length_cons, List.length_nil, List.length_singleton, List.map_cons, List.map_nil, List.cons_append, List.nil_append, List.replicate_succ, List.replicate_zero, List.getElem?_cons_zero, List.getElem?_cons_succ, List.set_cons_zero, List.set_cons_succ, Nat.reduceAdd, Nat.reduceSub, Nat.reduceEqDiff, ite_true, ite_false, if_true, if_false, reduceIte, Bool.false_eq_true, decide_true, decide_false, String.reduceEq, Int.reduceEq, Nat.reduceLeDiff, true_and, and_true, Bool.not_true, Bool.not_false, decide_eq_true_eq, List.append_nil, bType, bIsi, bLen, bInt, ty_int, ty_bl, ty_str, ty_non, ty_tup, isT, oIs, oIsNot, oSub, oAdd, oIx, run_eqI, run_neI, Bool.or_false, Bool.or_true, Bool.false_or, Bool.true_or, Bool.and_true, Bool.and_false, Bool.true_and, Bool.false_and, reduceCtorEq, decide_not, Bool.not_eq_true', decide_eq_false_iff_not, askInt, askBool, askTuple, askList, askStr, oLe, oLt, oGe, oGt, oInt2, atI0, atI1, atI2]
      exact this
theorem pt_loop {a : Option Val} {R : Val → Store → Prop} : ∀ (p : List Int) (t : T) (x x3 x4 : Option Val) (S : Store), (∀ i ∈ p, i = 0 ∨ i = 1) → RunS (loopV (gN 2) ptBody (p.map Val.int) [some (toV t), a, x, x3, x4] S) (fun ρ S' => (∃ x x3 x4, ρ = [some (toV (T.part p t)), a, x, x3, x4]) ∧ S' = S) R
  | [], t, x, x3, x4, S, _ => by
    rw [List.map_nil, loopV_nil]
    exact ⟨⟨x, x3, x4, rfl⟩, rfl⟩
  | h :: p, t, x, x3, x4, S, hp => by
    rw [List.map_cons, loopV_cons]
    have hb := pt_turn (a := a) (x3 := x3) (x4 := x4) (t := t) (S := S) (R := R) (hp h List.mem_cons_self)
    show RunS ((ptBody [some (toV t), a, some (.int h), x3, x4] S).turn (loopV (gN 2) ptBody (p.map Val.int))) _ R
    cases hr : ptBody [some (toV t), a, some (.int h), x3, x4] S with
    | next ρ2 S2 =>
      rw [hr] at hb
      obtain ⟨⟨y3, y4, e⟩, e2⟩ := hb
      subst e e2
      exact pt_loop p (t.half h) _ _ _ _ fun i hi => hp i (List.mem_cons_of_mem _ hi)
    | ret v S2 => rw [hr] at hb; exact hb
    | brk ρ2 S2 => rw [hr] at hb; exact hb.elim
    | cont ρ2 S2 => rw [hr] at hb; exact hb.elim
    | exc e ρ2 S2 => rw [hr] at hb; exact hb.elim
    | stuck => rw [hr] at hb; exact hb.elim
theorem l_has {n : Nat} {t : T} {p : List Int} {w : Int} {S : Store} (ht : Cts t) (hp : Dot p w) (hn : 20 < n) : Run ((fns n)._law_has [toV t, dotV p w] S) (fun r S' => r = .bl (decide (w ≤ (T.part p t).top)) ∧ S' = S) := by
  obtain ⟨n, rfl⟩ : ∃ m, n = m + 2 := ⟨n - 2, by omega⟩
  show Run (fnOf 2 2 (b__law_has (fns (n + 1))) [toV t, dotV p w] S) _
  unfold b__law_has
  refine run_fn rfl rfl ?_
  unfold dotV
  rw [s_ret, w_op, w_call, w_cons, w_call, w_cons, w_var rfl, w_cons, w_op, w_var rfl, w_c, ix0, w_nil]
  have hpart : Run ((fns (n + 1))._law_part [toV t, pathV p] S) (fun r S' => r = toV (T.part p t) ∧ S' = S) := by
    show Run (fnOf 2 5 (b__law_part (fns n)) [toV t, pathV p] S) _
    unfold b__law_part
    refine run_fn rfl rfl ?_
    refine s_step (N' := fun ρ S' => (∃ x x3 x4, ρ = [some (toV (T.part p t)), some (pathV p), x, x3, x4]) ∧ S' = S) ?_ ?_
    · exact s_forTup (xs := p.map Val.int) (by rw [w_var rfl]; exact ⟨rfl, rfl⟩) (pt_loop p t none none none S hp.half)
    rintro ρ S4 ⟨⟨x, x3, x4, rfl⟩, rfl⟩
    rw [s_ret, w_var rfl]
    exact ⟨rfl, rfl⟩
  refine Run.mono hpart fun r S1 ⟨e, e2⟩ => ?_
  subst e e2
  rw [w_nil]
  have hd := T.dep_part (p := p) (t := t)
  refine Run.mono (l_low (T.part p t) (n + 1) S1 (by have := ht.dep; omega)) fun r S2 ⟨e, e2⟩ => ?_
  subst e e2
  rw [T.low_co (T.co_part ht.co), w_op, w_var rfl, w_c, ix1, run_geI]
  exact ⟨rfl, rfl⟩
/-! ### counts put together -/
theorem w_app {fo f : D} {ρ : PD.Env} {S : Store} {Q : Val → Store → Prop} : Run (dApp fo f ρ S) Q = Run (fo ρ S) fun o S1 => match o with
  | .ref n => Run (f ρ S1) fun x S2 => match S2[n]? with
    | some (.lst xs) => if xs.length < 16777216 then Q .non (S2.set n (.lst (xs ++ [x]))) else False
    | _ => False
  | _ => False := by
  unfold dApp
  rw [run_bind]
  congr; funext o S1
  cases o with
  | ref n =>
    show Run ((f ρ S1).bind _) Q = Run (f ρ S1) _
    rw [run_bind]
    congr; funext x S2
    cases hn : S2[n]? with
    | none => rfl
    | some c =>
      cases c with
      | lst xs =>
        show Run (if xs.length < 16777216 then _ else _) Q = if xs.length < 16777216 then _ else _
        rw [run_ite]; rfl
  | _ => rfl
theorem kp_set {S0 S : Store} {c : Nat} {d : Cell} (h : Kp S0 S) (hc : S0.length ≤ c) : Kp S0 (S.set c d) := fun n e q => by
  have hn : n < S0.length := (List.getElem?_eq_some_iff.mp q).1
  rw [List.getElem?_set_ne (by omega)]
  exact h n e q
def puBody : SD := sDrop (dApp (dVar 4) (dIf (tVal (dCall bIsi (aCons (dVar 5) (aCons (dC (.ty "tuple")) aNil)))) (dTup (aCons (dOp oSub (dOp oIx (dVar 5) (dC (.int 0))) (dVar 3)) (aCons (dOp oIx (dVar 5) (dC (.int 1))) (aCons (dOp oIx (dVar 5) (dC (.int 2))) aNil)))) (dOp oSub (dVar 5) (dVar 3))))
theorem pu_turn {x0 x1 x2 : Option Val} {m : Int} {a : Nat} {t : T} {ys : List Val} {S : Store} {R : Val → Store → Prop} (h : S[a]? = some (.lst ys)) (hl : ys.length < 100) :
    RunS (puBody [x0, x1, x2, some (.int m), some (.ref a), some (toV t)] S) (fun ρ S' => ρ = [x0, x1, x2, some (.int m), some (.ref a), some (toV t)] ∧ S' = S.set a (.lst (ys ++ [toV (t.lift (-m))]))) R := by
  unfold puBody
  rw [s_drop, w_app, w_var rfl]
  show Run _ _
  have hlt : ys.length < 16777216 := by omega
  cases t with
  | leaf i =>
    simp only [toV, h, hlt, run_ok, run_okI, run_okB, run_alloc, run_stuck, run_bind, run_ite, run_noX, run_fnOf, w_c, w_op, w_un, w_call, w_callK, w_nil, w_cons, w_tup, w_lst, isB_bl, w_tval, w_tand, w_tor, w_tnot, w_and, w_or, w_not, w_if, s_next, s_seq, s_if, s_ret, s_drop, s_set, s_par, s_put, s_asg, w_var', runS_next, runS_ret, runS_stuck, runS_ite, List.length_cons, List.length_nil, List.length_singleton, List.map_cons, List.map_nil, List.cons_append, List.nil_append, List.replicate_succ, List.replicate_zero, List.getElem?_cons_zero, List.getElem?_cons_succ, List.set_cons_zero, List.set_cons_succ, Nat.reduceAdd, Nat.reduceSub, Nat.reduceEqDiff, ite_true, ite_false, if_true, if_false, reduceIte, Bool.false_eq_true, decide_true, decide_false, String.reduceEq, Int.reduceEq, Nat.reduceLeDiff, true_and, and_true, Bool.not_true, Bool.not_false, decide_eq_true_eq, List.append_nil, bType, bIsi, bLen, bInt, ty_int, ty_bl, ty_str, ty_non, ty_tup, isT, oIs, oIsNot, oSub, oAdd, oIx, run_eqI, run_neI, Bool.or_false, Bool.or_true, Bool.false_or, Bool.true_or, Bool.and_true, Bool.and_false, Bool.true_and, Bool.false_and, reduceCtorEq, decide_not, Bool.not_eq_true', decide_eq_false_iff_not, askInt, askBool, askTuple, askList, askStr, oLe, oLt, oGe, oGt, oInt2, atI0, atI1, atI2]
    rfl
  | node k l r =>
    simp only [toV, h, hlt, run_ok, run_okI, run_okB, run_alloc, run_stuck, run_bind, run_ite, run_noX, run_fnOf, w_c, w_op, w_un, w_call, w_callK, w_nil, w_cons, w_tup, w_lst, isB_bl, w_tval, w_tand, w_tor, w_tnot, w_and, w_or, w_not, w_if, s_next, s_seq, s_if, s_ret, s_drop, s_set, s_par, s_put, s_asg, w_var', runS_next, runS_ret, runS_stuck, runS_ite, List.length_cons, List.length_nil, List.length_singleton, List.map_cons, List.map_nil, List.cons_append, List.nil_append, List.replicate_succ, List.replicate_zero, List.getElem?_cons_zero, List.getElem?_cons_succ, List.set_cons_zero, List.set_cons_succ, Nat.reduceAdd, Nat.reduceSub, Nat.reduceEqDiff, ite_true, ite_false, if_true, if_false, reduceIte, Bool.false_eq_true, decide_true, decide_false, String.reduceEq, Int.reduceEq, Nat.reduceLeDiff, true_and, and_true, Bool.not_true, Bool.not_false, decide_eq_true_eq, List.append_nil, bType, bIsi, bLen, bInt, ty_int, ty_bl, ty_str, ty_non, ty_tup, isT, oIs, oIsNot, oSub, oAdd, oIx, run_eqI, run_neI, Bool.or_false, Bool.or_true, Bool.false_or, Bool.true_or, Bool.and_true, Bool.and_false, Bool.true_and, Bool.false_and, reduceCtorEq, decide_not, Bool.not_eq_true', decide_eq_false_iff_not, askInt, askBool, askTuple, askList, askStr, oLe, oLt, oGe, oGt, oInt2, atI0, atI1, atI2]
    rfl
theorem l_put {n : Nat} {k : Int} {l r : T} {S : Store} (hl : l.co = true) (hr : r.co = true) (hn : 20 < n) (hd : l.dep ≤ 12 ∧ r.dep ≤ 12) : Run ((fns n)._law_put [.int k, toV l, toV r] S) (fun x S' => x = toV ((T.whole l r).lift k) ∧ Kp S S') := by
  obtain ⟨n, rfl⟩ : ∃ m, n = m + 1 := ⟨n - 1, by omega⟩
  show Run (fnOf 3 6 (b__law_put (fns n)) [.int k, toV l, toV r] S) _
  unfold b__law_put
  refine run_fn rfl rfl ?_
  refine s_step (N' := fun ρ S' => (ρ = [some (.int k), some (toV l), some (toV r), none, none, none] ∧ S' = S) ∧ T.sameL l r = false) ?_ ?_
  · rw [s_if]
    cases l with
    | leaf i =>
      cases r with
      | leaf j =>
        simp only [toV, run_ok, run_okI, run_okB, run_alloc, run_stuck, run_bind, run_ite, run_noX, run_fnOf, w_c, w_op, w_un, w_call, w_callK, w_nil, w_cons, w_tup, w_lst, isB_bl, w_tval, w_tand, w_tor, w_tnot, w_and, w_or, w_not, w_if, s_next, s_seq, s_if, s_ret, s_drop, s_set, s_par, s_put, s_asg, w_var', runS_next, runS_ret, runS_stuck, runS_ite, List.length_cons, List.length_nil, List.length_singleton, List.map_cons, List.map_nil, List.cons_append, List.nil_append, List.replicate_succ, List.replicate_zero, List.getElem?_cons_zero, List.getElem?_cons_succ, List.set_cons_zero, List.set_cons_succ, Nat.reduceAdd, Nat.reduceSub, Nat.reduceEqDiff, ite_true, ite_false, if_true, if_false, reduceIte, Bool.false_eq_true, decide_true, decide_false, String.reduceEq, Int.reduceEq, Nat.reduceLeDiff, true_and, and_true, Bool.not_true, Bool.not_false, decide_eq_true_eq, List.append_nil, bType, bIsi, bLen, bInt, ty_int, ty_bl, ty_str, ty_non, ty_tup, isT, oIs, oIsNot, oSub, oAdd, oIx, run_eqI, run_neI, Bool.or_false, Bool.or_true, Bool.false_or, Bool.true_or, Bool.and_true, Bool.and_false, Bool.true_and, Bool.false_and, reduceCtorEq, decide_not, Bool.not_eq_true', decide_eq_false_iff_not, askInt, askBool, askTuple, askList, askStr, oLe, oLt, oGe, oGt, oInt2, atI0, atI1, atI2]
        split
        · rename_i e
          subst e
          refine ⟨?_, .refl _⟩
          have : T.whole (.leaf i) (.leaf i) = .leaf i := by
            unfold T.whole T.sameL
            simp
          rw [this]
          show Val.int (k + i) = Val.int (i + k)
          congr 1; omega
        · rename_i e
          show T.sameL (.leaf i) (.leaf j) = false
          unfold T.sameL
          simp [e]
      | node m a b => simp only [toV, run_ok, run_okI, run_okB, run_alloc, run_stuck, run_bind, run_ite, run_noX, run_fnOf, w_c, w_op, w_un, w_call, w_callK, w_nil, w_cons, w_tup, w_lst, isB_bl, w_tval, w_tand, w_tor, w_tnot, w_and, w_or, w_not, w_if, s_next, s_seq, s_if, s_ret, s_drop, s_set, s_par, s_put, s_asg, w_var', runS_next, runS_ret, runS_stuck, runS_ite, List.length_cons, List.length_nil, List.length_singleton, List.map_cons, List.map_nil, List.cons_append, List.nil_append, List.replicate_succ, List.replicate_zero, List.getElem?_cons_zero, List.getElem?_cons_succ, List.set_cons_zero, List.set_cons_succ, Nat.reduceAdd, Nat.reduceSub, Nat.reduceEqDiff, ite_true, ite_false, if_true, if_false, reduceIte, Bool.false_eq_true, decide_true, decide_false, String.reduceEq, Int.reduceEq, Nat.reduceLeDiff, true_and, and_true, Bool.not_true, Bool.not_false, decide_eq_true_eq, List.append_nil, bType, bIsi, bLen, bInt, ty_int, ty_bl, ty_str, ty_non, ty_tup, isT, oIs, oIsNot, oSub, oAdd, oIx, run_eqI, run_neI, Bool.or_false, Bool.or_true, Bool.false_or, Bool.true_or, Bool.and_true, Bool.and_false, Bool.true_and, Bool.false_and, reduceCtorEq, decide_not, Bool.not_eq_true', decide_eq_false_iff_not, askInt, askBool, askTuple, askList, askStr, oLe, oLt, oGe, oGt, oInt2, atI0, atI1, atI2]; exact rfl
    | node m a b => simp only [toV, run_ok, run_okI, run_okB, run_alloc, run_stuck, run_bind, run_ite, run_noX, run_fnOf, w_c, w_op, w_un, w_call, w_callK, w_nil, w_cons, w_tup, w_lst, isB_bl, w_tval, w_tand, w_tor, w_tnot, w_and, w_or, w_not, w_if, s_next, s_seq, s_if, s_ret, s_drop, s_set, s_par, s_put, s_asg, w_var', runS_next, runS_ret, runS_stuck, runS_ite, List.length_cons, List.length_nil, List.length_singleton, List.map_cons, List.map_nil, List.cons_append, List.nil_append, List.replicate_succ, List.replicate_zero, List.getElem?_cons_zero, List.getElem?_cons_succ, List.set_cons_zero, List.set_cons_succ, Nat.reduceAdd, Nat.reduceSub, Nat.reduceEqDiff, ite_true, ite_false, if_true, if_false, reduceIte, Bool.false_eq_true, decide_true, decide_false, String.reduceEq, Int.reduceEq, Nat.reduceLeDiff, true_and, and_true, Bool.not_true, Bool.not_false, decide_eq_true_eq, List.append_nil, bType, bIsi, bLen, bInt, ty_int, ty_bl, ty_str, ty_non, ty_tup, isT, oIs, oIsNot, oSub, oAdd, oIx, run_eqI, run_neI, Bool.or_false, Bool.or_true, Bool.false_or, Bool.true_or, Bool.and_true, Bool.and_false, Bool.true_and, Bool.false_and, reduceCtorEq, decide_not, Bool.not_eq_true', decide_eq_false_iff_not, askInt, askBool, askTuple, askList, askStr, oLe, oLt, oGe, oGt, oInt2, atI0, atI1, atI2]; exact rfl
  rintro ρ S1 ⟨⟨rfl, rfl⟩, hs⟩
  have ew : T.whole l r = .node (min l.top r.top) (l.lift (-(min l.top r.top))) (r.lift (-(min l.top r.top))) := by
    unfold T.whole
    rw [hs]; rfl
  refine s_step (N' := fun ρ S' => ρ = [some (.int k), some (toV l), some (toV r), some (.int (min l.top r.top)), none, none] ∧ S' = S1) ?_ ?_
  · rw [s_set, w_call, w_cons, w_call, w_cons, w_var rfl, w_nil]
    refine Run.mono (l_low l n S1 (by omega)) fun x S2 ⟨e, e2⟩ => ?_
    subst e e2
    rw [w_cons, w_call, w_cons, w_var rfl, w_nil]
    refine Run.mono (l_low r n S2 (by omega)) fun x S3 ⟨e, e2⟩ => ?_
    subst e e2
    rw [w_nil, T.low_co hl, T.low_co hr]
    have em : (if r.top < l.top then r.top else l.top) = min l.top r.top := by split <;> omega
    show ([some (.int k), some (toV l), some (toV r), some (.int (if r.top < l.top then r.top else l.top)), none, none] : PD.Env) = _ ∧ _
    rw [em]
    exact ⟨rfl, rfl⟩
  rintro ρ S2 ⟨rfl, rfl⟩
  generalize min l.top r.top = m at *
  refine s_step (N' := fun ρ S' => ρ = [some (.int k), some (toV l), some (toV r), some (.int m), some (.ref S2.length), none] ∧ S' = S2 ++ [.lst [.int (k + m)]]) ?_ ?_
  · simp only [run_ok, run_okI, run_okB, run_alloc, run_stuck, run_bind, run_ite, run_noX, run_fnOf, w_c, w_op, w_un, w_call, w_callK, w_nil, w_cons, w_tup, w_lst, isB_bl, w_tval, w_tand, w_tor, w_tnot, w_and, w_or, w_not, w_if, s_next, s_seq, s_if, s_ret, s_drop, s_set, s_par, s_put, s_asg, w_var', runS_next, runS_ret, runS_stuck, runS_ite, List.length_cons, List.length_nil, List.length_singleton, List.map_cons, List.map_nil, List.cons_append, List.nil_append, List.replicate_succ, List.replicate_zero, List.getElem?_cons_zero, List.getElem?_cons_succ, List.set_cons_zero, List.set_cons_succ, Nat.reduceAdd, Nat.reduceSub, Nat.reduceEqDiff, ite_true, ite_false, if_true, if_false, reduceIte, Bool.false_eq_true, decide_true, decide_false, String.reduceEq, Int.reduceEq, Nat.reduceLeDiff, true_and, and_true, Bool.not_true, Bool.not_false, decide_eq_true_eq, List.append_nil, bType, bIsi, bLen, bInt, ty_int, ty_bl, ty_str, ty_non, ty_tup, isT, oIs, oIsNot, oSub, oAdd, oIx, run_eqI, run_neI, Bool.or_false, Bool.or_true, Bool.false_or, Bool.true_or, Bool.and_true, Bool.and_false, Bool.true_and, Bool.false_and, reduceCtorEq, decide_not, Bool.not_eq_true', decide_eq_false_iff_not, askInt, askBool, askTuple, askList, askStr, oLe, oLt, oGe, oGt, oInt2, atI0, atI1, atI2]
  rintro ρ S3 ⟨rfl, rfl⟩
  have kA := (Gr.add S2 [.lst [.int (k + m)]]).kp
  have hA := get_new S2 (.lst [.int (k + m)])
  have lA : S2.length < (S2 ++ [Cell.lst [.int (k + m)]]).length := by rw [List.length_append, List.length_singleton]; omega
  generalize hAA : S2 ++ [Cell.lst [.int (k + m)]] = A at *
  refine s_step (N' := fun ρ S' => (∃ x, ρ = [some (.int k), some (toV l), some (toV r), some (.int m), some (.ref S2.length), x]) ∧ S'[S2.length]? = some (.lst [.int (k + m), toV (l.lift (-m)), toV (r.lift (-m))]) ∧ Kp S2 S') ?_ ?_
  · refine s_forC ?_
    rw [w_lst, w_cons, w_var rfl, w_cons, w_var rfl, w_nil]
    refine ⟨Nat.le_of_ble_eq_true rfl, A.length, [toV l, toV r], rfl, get_new _ _, ?_⟩
    have kB := (Gr.add A [.lst [toV l, toV r]]).kp
    have hB := get_new A (.lst [toV l, toV r])
    have hAB := kB _ _ hA
    have hk2 := kA.trans kB
    generalize A ++ [Cell.lst [toV l, toV r]] = B at *
    show RunS (loopC A.length (gN 5) puBody 2 0 _ B) _ _
    have ne : A.length ≠ S2.length := by omega
    refine RunS.mono (runS_loopC (n := A.length) (xs := [toV l, toV r]) (fun j ρ S' => (∃ x, ρ = [some (.int k), some (toV l), some (toV r), some (.int m), some (.ref S2.length), x]) ∧ S'[A.length]? = some (.lst [toV l, toV r]) ∧ S'[S2.length]? = some (.lst (.int (k + m) :: [toV (l.lift (-m)), toV (r.lift (-m))].take j)) ∧ Kp S2 S') (fun _ _ _ h => h.2.1) ?_ 2 0 _ _ rfl ⟨⟨none, rfl⟩, hB, hAB, hk2⟩) (fun ρ S' h => ⟨h.1, h.2.2.1, h.2.2.2⟩) fun _ _ h => h
    rintro j x ρ S' hx ⟨⟨y, rfl⟩, h1, h2, h3⟩
    have go : ∀ t : T, x = toV t → ([toV (l.lift (-m)), toV (r.lift (-m))].take j) ++ [toV (t.lift (-m))] = [toV (l.lift (-m)), toV (r.lift (-m))].take (j + 1) → ∃ ρ1, gN 5 x [some (.int k), some (toV l), some (toV r), some (.int m), some (.ref S2.length), y] = some ρ1 ∧ RunS (puBody ρ1 S') (fun ρ S' => (∃ x, ρ = [some (.int k), some (toV l), some (toV r), some (.int m), some (.ref S2.length), x]) ∧ S'[A.length]? = some (.lst [toV l, toV r]) ∧ S'[S2.length]? = some (.lst (.int (k + m) :: [toV (l.lift (-m)), toV (r.lift (-m))].take (j + 1))) ∧ Kp S2 S') (fun x S' => x = toV ((T.whole l r).lift k) ∧ Kp S2 S') := fun t e e2 => by
      subst e
      refine ⟨_, rfl, RunS.mono (pu_turn h2 (by rw [List.length_cons]; have := List.length_take_le j [toV (l.lift (-m)), toV (r.lift (-m))]; simp at this ⊢; omega)) (fun ρ S'' h => ?_) fun _ _ h => h⟩
      obtain ⟨e3, e4⟩ := h
      subst e3 e4
      refine ⟨⟨_, rfl⟩, ?_, ?_, kp_set h3 (Nat.le_refl _)⟩
      · rw [List.getElem?_set_ne (fun q => ne q.symm)]; exact h1
      · rw [set_get h2, List.cons_append, e2]
    match j, hx with
    | 0, hx => exact go l (Option.some.inj hx).symm rfl
    | 1, hx => exact go r (Option.some.inj hx).symm rfl
    | j + 2, hx => cases hx
  rintro ρ S4 ⟨⟨x, rfl⟩, h1, h2⟩
  rw [s_ret, w_call, w_cons, w_var rfl, w_nil, run_tuple h1, ew]
  refine ⟨?_, h2⟩
  show Val.tup [.int (k + m), toV (l.lift (-m)), toV (r.lift (-m))] = Val.tup [.int (m + k), toV (l.lift (-m)), toV (r.lift (-m))]
  congr 3; omega
/-! ### drawn counts -/
theorem l_counts : ∀ (d n c k : Nat) (S : Store), SrcAt c k S → d + 22 < n → d ≤ 5 → k + 3 * 2 ^ d < 20000 → Run ((fns n)._law_counts [.ref c, .int d] S) (fun r S' => (∃ t : T, r = toV t ∧ t.co = true ∧ t.nn = true ∧ t.dep ≤ d ∧ t.tc + 1 ≤ 2 ^ d) ∧ Cp c (k + 3 * 2 ^ d - 2) S S')
  | d, 0, c, k, S, _, h, _, _ => absurd h (Nat.not_lt_zero _)
  | d, n + 1, c, k, S, hc, h, hd, hk => by
    show Run (fnOf 2 2 (b__law_counts (fns n)) [.ref c, .int d] S) _
    unfold b__law_counts
    have h2d : 1 ≤ 2 ^ d := Nat.pow_pos (by decide)
    have h32 : 2 ^ d ≤ 2 ^ 5 := Nat.pow_le_pow_right (by decide) hd
    have leafy : ∀ k' S0, k' + 1 ≤ k + 3 * 2 ^ d - 2 → k' < 50000 → Cp c k' S S0 → Run ((fns n)._law_draw [.ref c, .int 4] S0) (fun r S' => (∃ t : T, r = toV t ∧ t.co = true ∧ t.nn = true ∧ t.dep ≤ d ∧ t.tc + 1 ≤ 2 ^ d) ∧ Cp c (k + 3 * 2 ^ d - 2) S S') := fun k' S0 hle hk' h0 =>
      Run.mono (l_draw h0.1 (by decide) (by decide) (by omega) (by omega)) fun r S2 ⟨⟨i, e, i0, i1⟩, cs⟩ => ⟨⟨.leaf i, e, rfl, decide_eq_true i0, Nat.zero_le _, by show 0 + 1 ≤ _; omega⟩, (h0.trans cs).up hle⟩
    refine run_fn rfl rfl ?_
    refine s_step (N' := fun ρ S' => (ρ = [some (.ref c), some (.int d)] ∧ Cp c (k + 1) S S') ∧ 0 < d) ?_ ?_
    · by_cases h0 : (d : Int) = 0
      · simp only [h0, run_ok, run_okI, run_okB, run_alloc, run_stuck, run_bind, run_ite, run_noX, run_fnOf, w_c, w_op, w_un, w_call, w_callK, w_nil, w_cons, w_tup, w_lst, isB_bl, w_tval, w_tand, w_tor, w_tnot, w_and, w_or, w_not, w_if, s_next, s_seq, s_if, s_ret, s_drop, s_set, s_par, s_put, s_asg, w_var', runS_next, runS_ret, runS_stuck, runS_ite, List.length_cons, List.length_nil, List.length_singleton, List.map_cons, List.map_nil, List.cons_append, List.nil_append, List.replicate_succ, List.replicate_zero, List.getElem?_cons_zero, List.getElem?_cons_succ, List.set_cons_zero, List.set_cons_succ, Nat.reduceAdd, Nat.reduceSub, Nat.reduceEqDiff, ite_true, ite_false, if_true, if_false, reduceIte, Bool.false_eq_true, decide_true, decide_false, String.reduceEq, Int.reduceEq, Nat.reduceLeDiff, true_and, and_true, Bool.not_true, Bool.not_false, decide_eq_true_eq, List.append_nil, bType, bIsi, bLen, bInt, ty_int, ty_bl, ty_str, ty_non, ty_tup, isT, oIs, oIsNot, run_eqI, run_neI, Bool.or_false, Bool.or_true, Bool.false_or, Bool.true_or, Bool.and_true, Bool.and_false, Bool.true_and, Bool.false_and, reduceCtorEq, decide_not, Bool.not_eq_true', decide_eq_false_iff_not, askInt, askBool, askTuple, askList, askStr, oLe, oLt, oGe, oGt, oInt2, atI0, atI1, atI2, run_addI, run_subI]
        exact leafy k S (by omega) (by omega) (.refl hc)
      · simp only [h0, run_ok, run_okI, run_okB, run_alloc, run_stuck, run_bind, run_ite, run_noX, run_fnOf, w_c, w_op, w_un, w_call, w_callK, w_nil, w_cons, w_tup, w_lst, isB_bl, w_tval, w_tand, w_tor, w_tnot, w_and, w_or, w_not, w_if, s_next, s_seq, s_if, s_ret, s_drop, s_set, s_par, s_put, s_asg, w_var', runS_next, runS_ret, runS_stuck, runS_ite, List.length_cons, List.length_nil, List.length_singleton, List.map_cons, List.map_nil, List.cons_append, List.nil_append, List.replicate_succ, List.replicate_zero, List.getElem?_cons_zero, List.getElem?_cons_succ, List.set_cons_zero, List.set_cons_succ, Nat.reduceAdd, Nat.reduceSub, Nat.reduceEqDiff, ite_true, ite_false, if_true, if_false, reduceIte, Bool.false_eq_true, decide_true, decide_false, String.reduceEq, Int.reduceEq, Nat.reduceLeDiff, true_and, and_true, Bool.not_true, Bool.not_false, decide_eq_true_eq, List.append_nil, bType, bIsi, bLen, bInt, ty_int, ty_bl, ty_str, ty_non, ty_tup, isT, oIs, oIsNot, run_eqI, run_neI, Bool.or_false, Bool.or_true, Bool.false_or, Bool.true_or, Bool.and_true, Bool.and_false, Bool.true_and, Bool.false_and, reduceCtorEq, decide_not, Bool.not_eq_true', decide_eq_false_iff_not, askInt, askBool, askTuple, askList, askStr, oLe, oLt, oGe, oGt, oInt2, atI0, atI1, atI2, run_addI, run_subI]
        refine Run.mono (l_draw hc (by decide) (by decide) (by omega) (by omega)) fun r S1 ⟨⟨i, e, i0, i1⟩, c1⟩ => ?_
        subst e
        simp only [run_ok, run_okI, run_okB, run_alloc, run_stuck, run_bind, run_ite, run_noX, run_fnOf, w_c, w_op, w_un, w_call, w_callK, w_nil, w_cons, w_tup, w_lst, isB_bl, w_tval, w_tand, w_tor, w_tnot, w_and, w_or, w_not, w_if, s_next, s_seq, s_if, s_ret, s_drop, s_set, s_par, s_put, s_asg, w_var', runS_next, runS_ret, runS_stuck, runS_ite, List.length_cons, List.length_nil, List.length_singleton, List.map_cons, List.map_nil, List.cons_append, List.nil_append, List.replicate_succ, List.replicate_zero, List.getElem?_cons_zero, List.getElem?_cons_succ, List.set_cons_zero, List.set_cons_succ, Nat.reduceAdd, Nat.reduceSub, Nat.reduceEqDiff, ite_true, ite_false, if_true, if_false, reduceIte, Bool.false_eq_true, decide_true, decide_false, String.reduceEq, Int.reduceEq, Nat.reduceLeDiff, true_and, and_true, Bool.not_true, Bool.not_false, decide_eq_true_eq, List.append_nil, bType, bIsi, bLen, bInt, ty_int, ty_bl, ty_str, ty_non, ty_tup, isT, oIs, oIsNot, run_eqI, run_neI, Bool.or_false, Bool.or_true, Bool.false_or, Bool.true_or, Bool.and_true, Bool.and_false, Bool.true_and, Bool.false_and, reduceCtorEq, decide_not, Bool.not_eq_true', decide_eq_false_iff_not, askInt, askBool, askTuple, askList, askStr, oLe, oLt, oGe, oGt, oInt2, atI0, atI1, atI2, run_addI, run_subI]
        split
        · refine leafy (k + 1) S1 ?_ (by omega) c1
          have : 2 ≤ 2 ^ d := by
            obtain ⟨e, rfl⟩ : ∃ e, d = e + 1 := ⟨d - 1, by omega⟩
            rw [Nat.pow_succ]
            have : 1 ≤ 2 ^ e := Nat.pow_pos (by decide)
            omega
          omega
        · exact ⟨c1, by omega⟩
    rintro ρ S1 ⟨⟨rfl, c1⟩, hd0⟩
    obtain ⟨d, rfl⟩ : ∃ e, d = e + 1 := ⟨d - 1, by omega⟩
    have hs : 2 ^ (d + 1) = 2 * 2 ^ d := by rw [Nat.pow_succ]; omega
    have hz : 1 ≤ 2 ^ d := Nat.pow_pos (by decide)
    simp only [sub1, run_ok, run_okI, run_okB, run_alloc, run_stuck, run_bind, run_ite, run_noX, run_fnOf, w_c, w_op, w_un, w_call, w_callK, w_nil, w_cons, w_tup, w_lst, isB_bl, w_tval, w_tand, w_tor, w_tnot, w_and, w_or, w_not, w_if, s_next, s_seq, s_if, s_ret, s_drop, s_set, s_par, s_put, s_asg, w_var', runS_next, runS_ret, runS_stuck, runS_ite, List.length_cons, List.length_nil, List.length_singleton, List.map_cons, List.map_nil, List.cons_append, List.nil_append, List.replicate_succ, List.replicate_zero, List.getElem?_cons_zero, List.getElem?_cons_succ, List.set_cons_zero, List.set_cons_succ, Nat.reduceAdd, Nat.reduceSub, Nat.reduceEqDiff, ite_true, ite_false, if_true, if_false, reduceIte, Bool.false_eq_true, decide_true, decide_false, String.reduceEq, Int.reduceEq, Nat.reduceLeDiff, true_and, and_true, Bool.not_true, Bool.not_false, decide_eq_true_eq, List.append_nil, bType, bIsi, bLen, bInt, ty_int, ty_bl, ty_str, ty_non, ty_tup, isT, oIs, oIsNot, run_eqI, run_neI, Bool.or_false, Bool.or_true, Bool.false_or, Bool.true_or, Bool.and_true, Bool.and_false, Bool.true_and, Bool.false_and, reduceCtorEq, decide_not, Bool.not_eq_true', decide_eq_false_iff_not, askInt, askBool, askTuple, askList, askStr, oLe, oLt, oGe, oGt, oInt2, atI0, atI1, atI2, run_addI, run_subI]
    refine Run.mono (l_draw c1.1 (by decide) (by decide) (by omega) (by omega)) fun r S2 ⟨⟨i, e, i0, i1⟩, c2⟩ => ?_
    subst e
    refine Run.mono (l_counts d n c (k + 1 + 1) S2 c2.1 (by omega) (by omega) (by omega)) fun r S3 ⟨⟨l, e, l1, l2, l3, l4⟩, c3⟩ => ?_
    subst e
    refine Run.mono (l_counts d n c (k + 1 + 1 + 3 * 2 ^ d - 2) S3 c3.1 (by omega) (by omega) (by omega)) fun r S4 ⟨⟨r, e, r1, r2, r3, r4⟩, c4⟩ => ?_
    subst e
    refine Run.mono (l_put l1 r1 (by omega) ⟨by omega, by omega⟩) fun x S5 ⟨e, k5⟩ => ?_
    subst e
    have htop := T.top_whole l r
    have lt := T.top_nn l2
    have rt := T.top_nn r2
    have hco := T.co_whole l1 r1
    have hnn := T.nn_of_co hco (by omega)
    have hdep := T.dep_whole l r
    have htc := T.tc_whole l r
    refine ⟨⟨_, rfl, by rw [T.co_lift]; exact hco, T.nn_lift hnn i0, by rw [T.dep_lift]; omega, by rw [T.tc_lift]; omega⟩, ?_⟩
    exact ((((c1.trans c2).trans c3).trans c4).kp k5).up (by omega)
end PD.K34

/-! ## K34M8 -/
set_option Elab.async false
set_option linter.all false
set_option maxRecDepth 100000
set_option maxHeartbeats 1000000
namespace PD.K34
open PySem PySem.Spec L2 PD LT
/-! ### values that are no counts -/
structure Bad (c : Nat) (S : Store) (v : Val) : Prop where
  da : Dc c S 20 v
  no : coOk v = false
theorem Bad.kx {c : Nat} {S S' : Store} {v : Val} (h : Bad c S v) (k : Kx c S S') : Bad c S' v := ⟨h.da.kx k, h.no⟩
theorem no_of {v : Val} (h : isCo 12 v = false) : coOk v = false := by
  unfold coOk
  rw [h]; rfl
structure Odd (c : Nat) (S : Store) (v : Val) : Prop where
  da : Dc c S 3 v
  no : ∀ k, isCo k v = false
  first : ∀ k l r, isCo k (.tup [v, l, r]) = false
theorem Odd.kx {c : Nat} {S S' : Store} {v : Val} (h : Odd c S v) (k : Kx c S S') : Odd c S' v := ⟨h.da.kx k, h.no, h.first⟩
theorem odd_int {c : Nat} {S : Store} {i : Int} (h : i < 0) : Odd c S (.int i) := ⟨.int _ _, fun k => by
  have : decide (0 ≤ i) = false := decide_eq_false (by omega)
  cases k <;> exact this, fun k l r => by
  cases k with
  | zero => simp [isCo]
  | succ k => rw [isCo_three, decide_eq_false (by omega)]; rfl⟩
theorem odd_of {c : Nat} {S : Store} {v : Val} (hd : Dc c S 3 v) (h : intV v = false) (hn : ∀ k, isCo k v = false) : Odd c S v := ⟨hd, hn, fun _ _ _ => isCo_first h⟩
theorem dc3 {c d : Nat} {S : Store} {a b e : Val} (h1 : Dc c S d a) (h2 : Dc c S d b) (h3 : Dc c S d e) : Dc c S (d + 1) (.tup [a, b, e]) := .tup (mem3 h1 h2 h3)
theorem gTnone : True := trivial
abbrev CE (c : Nat) (x1 x2 : Option Val) : PD.Env := [some (.ref c), x1, x2]
/-- a list of values that are no counts -/
def Bs (c n m : Nat) (S : Store) : Prop := m ≠ c ∧ ∃ xs, S[m]? = some (.lst xs) ∧ xs.length = n ∧ ∀ x ∈ xs, Bad c S x
theorem Bs.kx {c n m : Nat} {S S' : Store} (h : Bs c n m S) (q : Kx c S S') : Bs c n m S' := by
  obtain ⟨a, xs, e, hl, hx⟩ := h
  exact ⟨a, xs, q _ _ a e, hl, fun x hm => (hx x hm).kx q⟩
theorem Bs.more {c n m : Nat} {S : Store} {ys : List Val} (h : Bs c n m S) (hc : c < S.length) (hy : ∀ y ∈ ys, Bad c S y) (hl : n + ys.length ≤ 1000) :
    Run (oAdd (.ref m) (.ref S.length) (S ++ [.lst ys])) (fun r S' => ∃ m', r = .ref m' ∧ Bs c (n + ys.length) m' S' ∧ Kp S S') := by
  obtain ⟨a, xs, e, hk, hx⟩ := h
  rw [run_addL ((Gr.add _ _).get e) (get_new _ _) (by omega)]
  have k := ((Gr.add S [.lst ys]).trans (Gr.add _ [.lst (xs ++ ys)])).kp
  refine ⟨_, rfl, ⟨by rw [List.length_append]; omega, xs ++ ys, get_new _ _, by rw [List.length_append, hk], fun x h => ?_⟩, k⟩
  rcases List.mem_append.mp h with h | h
  · exact (hx x h).kx k.kx
  · exact (hy x h).kx k.kx
theorem Bs.moreK {c n m w : Nat} {S : Store} {ys : List Val} (h : Bs c n m S) (hc : c < S.length) (hy : ∀ y ∈ ys, Bad c S y) (hl : n + w * ys.length ≤ 1000) (hw : w ≤ 1000) :
    Run (oRepL (.ref S.length) (.int w) (S ++ [.lst ys])) (fun y S1 => Run (oAdd (.ref m) y S1) (fun r S' => ∃ m', r = .ref m' ∧ Bs c (n + w * ys.length) m' S' ∧ Kp S S')) := by
  have hz : ys.length * w ≤ 1000000 := by rw [Nat.mul_comm]; omega
  rw [run_repLL hz (by omega)]
  have k1 := (Gr.add S [.lst ys]).kp
  have h2 := h.kx k1.kx
  have := Bs.more (ys := repV w ys) h2 (by rw [List.length_append]; omega) (fun y hm => (hy y (mem_repV hm)).kx k1.kx) (by rw [len_repV]; omega)
  refine Run.mono this fun r S' ⟨m', e, hv, k2⟩ => ?_
  rw [len_repV] at hv
  exact ⟨m', e, hv, k1.trans k2⟩
section
variable {c n k m : Nat} {S : Store} {R : Val → Store → Prop} {x1 x2 : Option Val} {o : Val}
theorem bc_0 (hc : SrcAt c k S) (hk : k < 40000) (hn : 0 < n) : RunS (st__law_bad_counts_0 (fns n) (CE c x1 x2) S) (fun ρ S' => ∃ o, ρ = CE c (some o) x2 ∧ Odd c S' o ∧ Cp c (k + 1) S S') R := by
  unfold st__law_bad_counts_0
  simp only [w_un, run_neg, hp30, run_ok, run_okI, run_okB, run_alloc, run_stuck, run_bind, run_ite, run_noX, run_fnOf, w_c, w_op, w_un, w_call, w_callK, w_nil, w_cons, w_tup, w_lst, isB_bl, w_tval, w_tand, w_tor, w_tnot, w_and, w_or, w_not, w_if, s_next, s_seq, s_if, s_ret, s_drop, s_set, s_par, s_put, s_asg, w_var', runS_next, runS_ret, runS_stuck, runS_ite, List.length_cons, List.length_nil, List.length_singleton, List.map_cons, List.map_nil, List.cons_append, List.nil_append, List.replicate_succ, List.replicate_zero, List.getElem?_cons_zero, List.getElem?_cons_succ, List.set_cons_zero, List.set_cons_succ, Nat.reduceAdd, Nat.reduceSub, Nat.reduceEqDiff, ite_true, ite_false, if_true, if_false, reduceIte, Bool.false_eq_true, decide_true, decide_false, String.reduceEq, Int.reduceEq, Nat.reduceLeDiff, true_and, and_true, Bool.not_true, Bool.not_false, decide_eq_true_eq, List.append_nil, bType, bIsi, bLen, bInt, ty_int, ty_bl, ty_str, ty_non, ty_tup, isT, oIs, oIsNot, run_eqI, run_neI, Bool.or_false, Bool.or_true, Bool.false_or, Bool.true_or, Bool.and_true, Bool.and_false, Bool.true_and, Bool.false_and, reduceCtorEq, decide_not, Bool.not_eq_true', decide_eq_false_iff_not, askInt, askBool, askTuple, askList, askStr, oLe, oLt, oGe, oGt, oInt2, atI0, atI1, atI2, run_addI, run_subI]
  have kA := (Gr.add S [.lst [.int 0]]).kp
  have hA := get_new S (.lst [.int 0])
  have cA := hc.kp kA
  have hlA : S.length ≠ c := Nat.ne_of_gt hc.lt
  generalize S ++ [.lst [.int 0]] = A at *
  have hlB : A.length ≠ c := Nat.ne_of_gt cA.lt
  have kB := fun x : Cell => (Gr.add A [x]).kp
  have dI : ∀ (d : Nat) (S : Store) (i : Int), Dc c S d (.int i) := fun d S i => .int _ _
  have g1 : ∀ x : Cell, Odd c (A ++ [x]) (.ref S.length) := fun x => odd_of (Dc.up (.ref (d := 0) hlA (kB x _ _ hA) fun y hy => by rw [List.mem_singleton.mp hy]; exact dI _ _ _) (by omega)) rfl fun k => by cases k <;> rfl
  have all : ∀ x : Cell, ∀ v ∈ [Val.int (-1), .bl true, .non, .str (Str.ofString "0"), .tup [.int 0], .ref S.length, .tup [.int 0, .int 1], .int (-10 ^ 30), .bl false, .tup []], Odd c (A ++ [x]) v := fun x => by
    simp only [List.mem_cons, List.not_mem_nil, or_false, forall_eq_or_imp, forall_eq]
    refine ⟨odd_int (by decide), odd_of (.bl _ _) rfl fun k => by cases k <;> rfl, odd_of (.non _) rfl fun k => by cases k <;> rfl, odd_of (.str _ _ (by decide +kernel)) rfl fun k => by cases k <;> rfl, odd_of (Dc.up (.tup (d := 0) fun y hy => by rw [List.mem_singleton.mp hy]; exact dI _ _ _) (by omega)) rfl fun k => isCo_len (by decide), g1 _,
      odd_of (Dc.up (.tup (d := 0) (mem2 (dI _ _ _) (dI _ _ _))) (by omega)) rfl fun k => isCo_len (by decide), odd_int (by decide +kernel), odd_of (.bl _ _) rfl fun k => by cases k <;> rfl, odd_of (Dc.up (.tup (d := 0) fun y hy => absurd hy List.not_mem_nil) (by omega)) rfl fun k => isCo_len (by decide)⟩
  refine Run.mono (l_draw (cA.kp (kB _)) (by decide) (by decide) (by omega) hn) fun r S1 ⟨⟨i, er, i0, i1⟩, cs⟩ => ?_
  subst er
  refine Run.mono (run_pick (fun x => Odd c S1 x) (cs.2 _ _ hlB (get_new _ _)) i0 i1 fun x hx => (all _ x hx).kx cs.2) fun x S2 ⟨g, e⟩ => ?_
  subst e
  exact ⟨x, rfl, g, (Cp.of hc (kA.trans (kB _))).trans cs⟩
theorem bc_1 (hc : SrcAt c k S) (ho : Odd c S o) : RunS (st__law_bad_counts_1 (fns n) (CE c (some o) x2) S) (fun ρ S' => ∃ m, ρ = CE c (some o) (some (.ref m)) ∧ Bs c 9 m S' ∧ Cp c k S S') R := by
  unfold st__law_bad_counts_1
  simp only [run_ok, run_okI, run_okB, run_alloc, run_stuck, run_bind, run_ite, run_noX, run_fnOf, w_c, w_op, w_un, w_call, w_callK, w_nil, w_cons, w_tup, w_lst, isB_bl, w_tval, w_tand, w_tor, w_tnot, w_and, w_or, w_not, w_if, s_next, s_seq, s_if, s_ret, s_drop, s_set, s_par, s_put, s_asg, w_var', runS_next, runS_ret, runS_stuck, runS_ite, List.length_cons, List.length_nil, List.length_singleton, List.map_cons, List.map_nil, List.cons_append, List.nil_append, List.replicate_succ, List.replicate_zero, List.getElem?_cons_zero, List.getElem?_cons_succ, List.set_cons_zero, List.set_cons_succ, Nat.reduceAdd, Nat.reduceSub, Nat.reduceEqDiff, ite_true, ite_false, if_true, if_false, reduceIte, Bool.false_eq_true, decide_true, decide_false, String.reduceEq, Int.reduceEq, Nat.reduceLeDiff, true_and, and_true, Bool.not_true, Bool.not_false, decide_eq_true_eq, List.append_nil, bType, bIsi, bLen, bInt, ty_int, ty_bl, ty_str, ty_non, ty_tup, isT, oIs, oIsNot, run_eqI, run_neI, Bool.or_false, Bool.or_true, Bool.false_or, Bool.true_or, Bool.and_true, Bool.and_false, Bool.true_and, Bool.false_and, reduceCtorEq, decide_not, Bool.not_eq_true', decide_eq_false_iff_not, askInt, askBool, askTuple, askList, askStr, oLe, oLt, oGe, oGt, oInt2, atI0, atI1, atI2, run_addI, run_subI]
  have kA := fun x : Cell => (Gr.add S [x]).kp
  refine ⟨_, rfl, ⟨Nat.ne_of_gt hc.lt, _, get_new _ _, rfl, ?_⟩, Cp.of hc (kA _)⟩
  have dI : ∀ (d : Nat) (S : Store) (i : Int), Dc c S d (.int i) := fun d S i => .int _ _
  have dO : ∀ x : Cell, Dc c (S ++ [x]) 3 o := fun x => ho.da.kx (kA x).kx
  simp only [List.mem_cons, List.not_mem_nil, or_false, forall_eq_or_imp, forall_eq]
  refine ⟨⟨(dO _).up (by omega), no_of (ho.no _)⟩, ⟨(dc3 (dO _) (dI _ _ _) (dI _ _ _)).up (by omega), no_of (ho.first _ _ _)⟩, ⟨(dc3 (dI _ _ _) (dO _) (dI _ _ _)).up (by omega), no_of ?_⟩, ⟨(dc3 (dI _ _ _) (dI _ _ _) (dO _)).up (by omega), no_of ?_⟩,
    ⟨(dc3 (d := 0) (dI _ _ _) (dI _ _ _) (dI _ _ _)).up (by omega), by decide +kernel⟩, ⟨(dc3 (d := 0) (dI _ _ _) (dI _ _ _) (dI _ _ _)).up (by omega), by decide +kernel⟩, ⟨(dc3 (d := 0) (dI _ _ _) (dI _ _ _) (dI _ _ _)).up (by omega), by decide +kernel⟩,
    ⟨(dc3 (d := 1) (dI _ _ _) (dc3 (dI _ _ _) (dI _ _ _) (dI _ _ _)) (dI _ _ _)).up (by omega), by decide +kernel⟩, ⟨(dc3 (d := 0) (dI _ _ _) (dI _ _ _) (dI _ _ _)).up (by omega), by decide +kernel⟩⟩
  · rw [isCo_three, ho.no]; simp
  · rw [isCo_three, ho.no]; simp
theorem bc_2 (hc : SrcAt c k S) (ho : Odd c S o) (hv : Bs c 9 m S) : RunS (st__law_bad_counts_2 (fns n) (CE c (some o) (some (.ref m))) S) (fun ρ S' => ∃ m, ρ = CE c (some o) (some (.ref m)) ∧ Bs c 13 m S' ∧ Cp c k S S') R := by
  unfold st__law_bad_counts_2
  simp only [run_listT, run_ok, run_okI, run_okB, run_alloc, run_stuck, run_bind, run_ite, run_noX, run_fnOf, w_c, w_op, w_un, w_call, w_callK, w_nil, w_cons, w_tup, w_lst, isB_bl, w_tval, w_tand, w_tor, w_tnot, w_and, w_or, w_not, w_if, s_next, s_seq, s_if, s_ret, s_drop, s_set, s_par, s_put, s_asg, w_var', runS_next, runS_ret, runS_stuck, runS_ite, List.length_cons, List.length_nil, List.length_singleton, List.map_cons, List.map_nil, List.cons_append, List.nil_append, List.replicate_succ, List.replicate_zero, List.getElem?_cons_zero, List.getElem?_cons_succ, List.set_cons_zero, List.set_cons_succ, Nat.reduceAdd, Nat.reduceSub, Nat.reduceEqDiff, ite_true, ite_false, if_true, if_false, reduceIte, Bool.false_eq_true, decide_true, decide_false, String.reduceEq, Int.reduceEq, Nat.reduceLeDiff, true_and, and_true, Bool.not_true, Bool.not_false, decide_eq_true_eq, List.append_nil, bType, bIsi, bLen, bInt, ty_int, ty_bl, ty_str, ty_non, ty_tup, isT, oIs, oIsNot, run_eqI, run_neI, Bool.or_false, Bool.or_true, Bool.false_or, Bool.true_or, Bool.and_true, Bool.and_false, Bool.true_and, Bool.false_and, reduceCtorEq, decide_not, Bool.not_eq_true', decide_eq_false_iff_not, askInt, askBool, askTuple, askList, askStr, oLe, oLt, oGe, oGt, oInt2, atI0, atI1, atI2, run_addI, run_subI]
  have kA := (Gr.add S [.lst [.int 0, .int 0, .int 1]]).kp
  have hA := get_new S (.lst [.int 0, .int 0, .int 1])
  have cA := hc.kp kA
  have hlA : S.length ≠ c := Nat.ne_of_gt hc.lt
  have vA := hv.kx kA.kx
  have dI : ∀ (d : Nat) (S : Store) (i : Int), Dc c S d (.int i) := fun d S i => .int _ _
  have dO : Dc c (S ++ [.lst [.int 0, .int 0, .int 1]]) 3 o := ho.da.kx kA.kx
  have dA : Dc c (S ++ [.lst [.int 0, .int 0, .int 1]]) 1 (.ref S.length) := .ref (d := 0) hlA hA (mem3 (dI _ _ _) (dI _ _ _) (dI _ _ _))
  generalize S ++ [.lst [.int 0, .int 0, .int 1]] = A at *
  refine Run.mono (Bs.more (ys := [_, _, _, _]) vA cA.lt ?_ (Nat.le_of_ble_eq_true rfl)) fun r S2 ⟨m', e, hv', k2⟩ => ?_
  · simp only [List.mem_cons, List.not_mem_nil, or_false, forall_eq_or_imp, forall_eq]
    refine ⟨⟨dA.up (by omega), rfl⟩, ⟨Dc.up (.tup (d := 0) fun y hy => ?_) (by omega), by decide +kernel⟩, ⟨(dc3 (dI _ _ _) (dc3 (dI _ _ _) (dI _ _ _) (dc3 (dI _ _ _) (dI _ _ _) dO)) (dI _ _ _)).up (by omega), no_of ?_⟩, ⟨(dc3 (d := 1) (dI _ _ _) (dc3 (dI _ _ _) (dI _ _ _) (dI _ _ _)) (dI _ _ _)).up (by omega), by decide +kernel⟩⟩
    · simp only [List.mem_cons, List.not_mem_nil, or_false] at hy
      rcases hy with rfl | rfl | rfl | rfl <;> exact dI _ _ _
    · rw [isCo_three, isCo_three, isCo_three, ho.no]; simp
  · subst e
    exact ⟨m', rfl, hv', (Cp.of hc kA).kp k2⟩
end
/-! ### great counts -/
theorem l_great {n c k : Nat} {S : Store} (hc : SrcAt c k S) (hk : k < 40000) (hn : 1 < n) : Run ((fns n)._law_great_counts [.ref c] S) (fun r S' => (∃ t : T, r = toV t ∧ coOk (toV t) = false ∧ t.dep ≤ 13) ∧ Cp c (k + 15) S S') := by
  obtain ⟨n, rfl⟩ : ∃ m, n = m + 1 := ⟨n - 1, by omega⟩
  show Run (fnOf 1 4 (b__law_great_counts (fns n)) [.ref c] S) _
  unfold b__law_great_counts
  refine run_fn rfl rfl ?_
  refine s_step (N' := fun ρ S' => ∃ i : Int, ρ = [some (.ref c), some (toV (.leaf i)), some (toV (.node 0 (.leaf 0) (.leaf 1))), none] ∧ Cp c (k + 1) S S') ?_ ?_
  · simp only [run_ok, run_okI, run_okB, run_alloc, run_stuck, run_bind, run_ite, run_noX, run_fnOf, w_c, w_op, w_un, w_call, w_callK, w_nil, w_cons, w_tup, w_lst, isB_bl, w_tval, w_tand, w_tor, w_tnot, w_and, w_or, w_not, w_if, s_next, s_seq, s_if, s_ret, s_drop, s_set, s_par, s_put, s_asg, w_var', runS_next, runS_ret, runS_stuck, runS_ite, List.length_cons, List.length_nil, List.length_singleton, List.map_cons, List.map_nil, List.cons_append, List.nil_append, List.replicate_succ, List.replicate_zero, List.getElem?_cons_zero, List.getElem?_cons_succ, List.set_cons_zero, List.set_cons_succ, Nat.reduceAdd, Nat.reduceSub, Nat.reduceEqDiff, ite_true, ite_false, if_true, if_false, reduceIte, Bool.false_eq_true, decide_true, decide_false, String.reduceEq, Int.reduceEq, Nat.reduceLeDiff, true_and, and_true, Bool.not_true, Bool.not_false, decide_eq_true_eq, List.append_nil, bType, bIsi, bLen, bInt, ty_int, ty_bl, ty_str, ty_non, ty_tup, isT, oIs, oIsNot, run_eqI, run_neI, Bool.or_false, Bool.or_true, Bool.false_or, Bool.true_or, Bool.and_true, Bool.and_false, Bool.true_and, Bool.false_and, reduceCtorEq, decide_not, Bool.not_eq_true', decide_eq_false_iff_not, askInt, askBool, askTuple, askList, askStr, oLe, oLt, oGe, oGt, oInt2, atI0, atI1, atI2, run_addI, run_subI]
    refine Run.mono (l_draw hc (by decide) (by decide) (by omega) (by omega)) fun r S1 ⟨⟨i, e, i0, i1⟩, c1⟩ => ?_
    subst e
    simp only [run_ok, run_okI, run_okB, run_alloc, run_stuck, run_bind, run_ite, run_noX, run_fnOf, w_c, w_op, w_un, w_call, w_callK, w_nil, w_cons, w_tup, w_lst, isB_bl, w_tval, w_tand, w_tor, w_tnot, w_and, w_or, w_not, w_if, s_next, s_seq, s_if, s_ret, s_drop, s_set, s_par, s_put, s_asg, w_var', runS_next, runS_ret, runS_stuck, runS_ite, List.length_cons, List.length_nil, List.length_singleton, List.map_cons, List.map_nil, List.cons_append, List.nil_append, List.replicate_succ, List.replicate_zero, List.getElem?_cons_zero, List.getElem?_cons_succ, List.set_cons_zero, List.set_cons_succ, Nat.reduceAdd, Nat.reduceSub, Nat.reduceEqDiff, ite_true, ite_false, if_true, if_false, reduceIte, Bool.false_eq_true, decide_true, decide_false, String.reduceEq, Int.reduceEq, Nat.reduceLeDiff, true_and, and_true, Bool.not_true, Bool.not_false, decide_eq_true_eq, List.append_nil, bType, bIsi, bLen, bInt, ty_int, ty_bl, ty_str, ty_non, ty_tup, isT, oIs, oIsNot, run_eqI, run_neI, Bool.or_false, Bool.or_true, Bool.false_or, Bool.true_or, Bool.and_true, Bool.and_false, Bool.true_and, Bool.false_and, reduceCtorEq, decide_not, Bool.not_eq_true', decide_eq_false_iff_not, askInt, askBool, askTuple, askList, askStr, oLe, oLt, oGe, oGt, oInt2, atI0, atI1, atI2, run_addI, run_subI]
    exact ⟨_, rfl, c1⟩
  rintro ρ S1 ⟨i, rfl, c1⟩
  refine s_step (N' := fun ρ S' => ∃ t : T, ∃ x, ρ = [some (.ref c), some (toV t), some (toV (.node 0 (.leaf 0) (.leaf 1))), x] ∧ t.dep = 13 ∧ Cp c (k + 1 + 13) S S') ?_ ?_
  · rw [s_forR, w_cons, w_c, w_nil]
    show if -(2 ^ 62) ≤ (13 : Int) ∧ (13 : Int) < 2 ^ 62 then _ else False
    rw [if_pos (by decide)]
    refine RunS.mono (runS_loopV 13 (fun j ρ S' => ∃ t : T, ∃ x, ρ = [some (.ref c), some (toV t), some (toV (.node 0 (.leaf 0) (.leaf 1))), x] ∧ t.dep = j ∧ Cp c (k + 1 + j) S S') ?_ _ 0 _ _ (by rw [rangeV_len]; decide) ⟨_, _, rfl, rfl, c1⟩) (fun ρ S' h => by rw [rangeV_len] at h; exact h) fun _ _ h => h
    rintro j x ρ S' hj ⟨t, y, rfl, hd, cs⟩
    refine ⟨_, rfl, ?_⟩
    simp only [run_ok, run_okI, run_okB, run_alloc, run_stuck, run_bind, run_ite, run_noX, run_fnOf, w_c, w_op, w_un, w_call, w_callK, w_nil, w_cons, w_tup, w_lst, isB_bl, w_tval, w_tand, w_tor, w_tnot, w_and, w_or, w_not, w_if, s_next, s_seq, s_if, s_ret, s_drop, s_set, s_par, s_put, s_asg, w_var', runS_next, runS_ret, runS_stuck, runS_ite, List.length_cons, List.length_nil, List.length_singleton, List.map_cons, List.map_nil, List.cons_append, List.nil_append, List.replicate_succ, List.replicate_zero, List.getElem?_cons_zero, List.getElem?_cons_succ, List.set_cons_zero, List.set_cons_succ, Nat.reduceAdd, Nat.reduceSub, Nat.reduceEqDiff, ite_true, ite_false, if_true, if_false, reduceIte, Bool.false_eq_true, decide_true, decide_false, String.reduceEq, Int.reduceEq, Nat.reduceLeDiff, true_and, and_true, Bool.not_true, Bool.not_false, decide_eq_true_eq, List.append_nil, bType, bIsi, bLen, bInt, ty_int, ty_bl, ty_str, ty_non, ty_tup, isT, oIs, oIsNot, run_eqI, run_neI, Bool.or_false, Bool.or_true, Bool.false_or, Bool.true_or, Bool.and_true, Bool.and_false, Bool.true_and, Bool.false_and, reduceCtorEq, decide_not, Bool.not_eq_true', decide_eq_false_iff_not, askInt, askBool, askTuple, askList, askStr, oLe, oLt, oGe, oGt, oInt2, atI0, atI1, atI2, run_addI, run_subI]
    refine Run.mono (l_draw cs.1 (by decide) (by decide) (by omega) (by omega)) fun r S2 ⟨⟨i, e, i0, i1⟩, c2⟩ => ?_
    subst e
    simp only [run_ok, run_okI, run_okB, run_alloc, run_stuck, run_bind, run_ite, run_noX, run_fnOf, w_c, w_op, w_un, w_call, w_callK, w_nil, w_cons, w_tup, w_lst, isB_bl, w_tval, w_tand, w_tor, w_tnot, w_and, w_or, w_not, w_if, s_next, s_seq, s_if, s_ret, s_drop, s_set, s_par, s_put, s_asg, w_var', runS_next, runS_ret, runS_stuck, runS_ite, List.length_cons, List.length_nil, List.length_singleton, List.map_cons, List.map_nil, List.cons_append, List.nil_append, List.replicate_succ, List.replicate_zero, List.getElem?_cons_zero, List.getElem?_cons_succ, List.set_cons_zero, List.set_cons_succ, Nat.reduceAdd, Nat.reduceSub, Nat.reduceEqDiff, ite_true, ite_false, if_true, if_false, reduceIte, Bool.false_eq_true, decide_true, decide_false, String.reduceEq, Int.reduceEq, Nat.reduceLeDiff, true_and, and_true, Bool.not_true, Bool.not_false, decide_eq_true_eq, List.append_nil, bType, bIsi, bLen, bInt, ty_int, ty_bl, ty_str, ty_non, ty_tup, isT, oIs, oIsNot, run_eqI, run_neI, Bool.or_false, Bool.or_true, Bool.false_or, Bool.true_or, Bool.and_true, Bool.and_false, Bool.true_and, Bool.false_and, reduceCtorEq, decide_not, Bool.not_eq_true', decide_eq_false_iff_not, askInt, askBool, askTuple, askList, askStr, oLe, oLt, oGe, oGt, oInt2, atI0, atI1, atI2, run_addI, run_subI]
    split
    · exact ⟨.node 0 t (.leaf 0), _, rfl, by show 1 + max t.dep 0 = _; omega, cs.trans c2⟩
    · exact ⟨.node 0 (.leaf 0) t, _, rfl, by show 1 + max 0 t.dep = _; omega, cs.trans c2⟩
  rintro ρ S2 ⟨t, x, rfl, hd, c2⟩
  refine s_step (N' := fun ρ S' => ∃ u : T, ∃ x, ρ = [some (.ref c), some (toV t), some (toV u), x] ∧ (u.dep = 6 ∧ u.tc + 1 = 64) ∧ S' = S2) ?_ ?_
  · rw [s_forR, w_cons, w_c, w_nil]
    show if -(2 ^ 62) ≤ (5 : Int) ∧ (5 : Int) < 2 ^ 62 then _ else False
    rw [if_pos (by decide)]
    refine RunS.mono (runS_loopV 5 (fun j ρ S' => ∃ u : T, ∃ x, ρ = [some (.ref c), some (toV t), some (toV u), x] ∧ (u.dep = j + 1 ∧ u.tc + 1 = 2 ^ (j + 1)) ∧ S' = S2) ?_ _ 0 _ _ (by rw [rangeV_len]; decide) ⟨.node 0 (.leaf 0) (.leaf 1), _, rfl, ⟨rfl, rfl⟩, rfl⟩) (fun ρ S' h => by rw [rangeV_len] at h; exact h) fun _ _ h => h
    rintro j x ρ S' hj ⟨u, y, rfl, ⟨hd, ht⟩, rfl⟩
    refine ⟨_, rfl, ?_⟩
    simp only [run_ok, run_okI, run_okB, run_alloc, run_stuck, run_bind, run_ite, run_noX, run_fnOf, w_c, w_op, w_un, w_call, w_callK, w_nil, w_cons, w_tup, w_lst, isB_bl, w_tval, w_tand, w_tor, w_tnot, w_and, w_or, w_not, w_if, s_next, s_seq, s_if, s_ret, s_drop, s_set, s_par, s_put, s_asg, w_var', runS_next, runS_ret, runS_stuck, runS_ite, List.length_cons, List.length_nil, List.length_singleton, List.map_cons, List.map_nil, List.cons_append, List.nil_append, List.replicate_succ, List.replicate_zero, List.getElem?_cons_zero, List.getElem?_cons_succ, List.set_cons_zero, List.set_cons_succ, Nat.reduceAdd, Nat.reduceSub, Nat.reduceEqDiff, ite_true, ite_false, if_true, if_false, reduceIte, Bool.false_eq_true, decide_true, decide_false, String.reduceEq, Int.reduceEq, Nat.reduceLeDiff, true_and, and_true, Bool.not_true, Bool.not_false, decide_eq_true_eq, List.append_nil, bType, bIsi, bLen, bInt, ty_int, ty_bl, ty_str, ty_non, ty_tup, isT, oIs, oIsNot, run_eqI, run_neI, Bool.or_false, Bool.or_true, Bool.false_or, Bool.true_or, Bool.and_true, Bool.and_false, Bool.true_and, Bool.false_and, reduceCtorEq, decide_not, Bool.not_eq_true', decide_eq_false_iff_not, askInt, askBool, askTuple, askList, askStr, oLe, oLt, oGe, oGt, oInt2, atI0, atI1, atI2, run_addI, run_subI]
    refine ⟨.node 0 u u, _, rfl, by show 1 + max u.dep u.dep = _; omega, ?_⟩
    show 1 + (u.tc + u.tc) + 1 = 2 ^ (j + 1 + 1)
    rw [Nat.pow_succ 2 (j + 1)]; omega
  rintro ρ S3 ⟨u, x, rfl, ⟨ud, ut⟩, rfl⟩
  have many : ∀ v : T, 63 < v.tc → coOk (toV v) = false := fun v h => by
    unfold coOk
    rw [tcount_toV, decide_eq_false (by omega), Bool.and_false]
  have h3 : ∀ v ∈ [toV t, toV (.node 0 u (.leaf 0)), toV (.node 0 u u)], ∃ t : T, v = toV t ∧ coOk (toV t) = false ∧ t.dep ≤ 13 := by
    simp only [List.mem_cons, List.not_mem_nil, or_false, forall_eq_or_imp, forall_eq]
    refine ⟨⟨t, rfl, no_of ?_, by omega⟩, ⟨_, rfl, many _ (by show 63 < 1 + (u.tc + 0); omega), by show 1 + max u.dep 0 ≤ 13; omega⟩, ⟨_, rfl, many _ (by show 63 < 1 + (u.tc + u.tc); omega), by show 1 + max u.dep u.dep ≤ 13; omega⟩⟩
    cases h : isCo 12 (toV t) with
    | false => rfl
    | true => have := isCo_dep h; omega
  simp only [run_ok, run_okI, run_okB, run_alloc, run_stuck, run_bind, run_ite, run_noX, run_fnOf, w_c, w_op, w_un, w_call, w_callK, w_nil, w_cons, w_tup, w_lst, isB_bl, w_tval, w_tand, w_tor, w_tnot, w_and, w_or, w_not, w_if, s_next, s_seq, s_if, s_ret, s_drop, s_set, s_par, s_put, s_asg, w_var', runS_next, runS_ret, runS_stuck, runS_ite, List.length_cons, List.length_nil, List.length_singleton, List.map_cons, List.map_nil, List.cons_append, List.nil_append, List.replicate_succ, List.replicate_zero, List.getElem?_cons_zero, List.getElem?_cons_succ, List.set_cons_zero, List.set_cons_succ, Nat.reduceAdd, Nat.reduceSub, Nat.reduceEqDiff, ite_true, ite_false, if_true, if_false, reduceIte, Bool.false_eq_true, decide_true, decide_false, String.reduceEq, Int.reduceEq, Nat.reduceLeDiff, true_and, and_true, Bool.not_true, Bool.not_false, decide_eq_true_eq, List.append_nil, bType, bIsi, bLen, bInt, ty_int, ty_bl, ty_str, ty_non, ty_tup, isT, oIs, oIsNot, run_eqI, run_neI, Bool.or_false, Bool.or_true, Bool.false_or, Bool.true_or, Bool.and_true, Bool.and_false, Bool.true_and, Bool.false_and, reduceCtorEq, decide_not, Bool.not_eq_true', decide_eq_false_iff_not, askInt, askBool, askTuple, askList, askStr, oLe, oLt, oGe, oGt, oInt2, atI0, atI1, atI2, run_addI, run_subI]
  have kA := (Gr.add S3 [.lst [toV t, toV (.node 0 u (.leaf 0)), toV (.node 0 u u)]]).kp
  have hA := get_new S3 (.lst [toV t, toV (.node 0 u (.leaf 0)), toV (.node 0 u u)])
  have c3 := c2.kp kA
  have hlA : S3.length ≠ c := Nat.ne_of_gt c2.1.lt
  refine Run.mono (l_draw c3.1 (by decide) (by decide) (by omega) (by omega)) fun r S4 ⟨⟨i, e, i0, i1⟩, c4⟩ => ?_
  subst e
  refine Run.mono (run_pick (fun v => ∃ t : T, v = toV t ∧ coOk (toV t) = false ∧ t.dep ≤ 13) (c4.2 _ _ hlA hA) i0 i1 h3) fun y S5 ⟨g, e⟩ => ?_
  subst e
  exact ⟨g, (c3.trans c4).up (by omega)⟩
theorem dc_toV {c : Nat} {S : Store} : ∀ {t : T} {d : Nat}, t.dep ≤ d → Dc c S d (toV t)
  | .leaf i, d, _ => .int _ _
  | .node n l r, d, h => by
    have h : 1 + max l.dep r.dep ≤ d := h
    obtain ⟨d, rfl⟩ : ∃ e, d = e + 1 := ⟨d - 1, by omega⟩
    exact dc3 (.int _ _) (dc_toV (by omega)) (dc_toV (by omega))
theorem l_bad_counts {n c k : Nat} {S : Store} (hc : SrcAt c k S) (hk : k < 30000) (hn : 2 < n) : Run ((fns n)._law_bad_counts [.ref c] S) (fun r S' => Bad c S' r ∧ Cp c (k + 20) S S') := by
  obtain ⟨n, rfl⟩ : ∃ m, n = m + 1 := ⟨n - 1, by omega⟩
  show Run (fnOf 1 3 (b__law_bad_counts (fns n)) [.ref c] S) _
  unfold b__law_bad_counts
  refine run_fn rfl rfl ?_
  refine s_step (bc_0 hc (by omega) (by omega)) ?_
  rintro ρ S1 ⟨o, rfl, ho, c1⟩
  refine s_step (bc_1 c1.1 ho) ?_
  rintro ρ S2 ⟨m, rfl, hv, c2⟩
  refine s_step (bc_2 c2.1 (ho.kx c2.2) hv) ?_
  rintro ρ S3 ⟨m, rfl, hv, c3⟩
  refine s_step (N' := fun ρ S' => ∃ m, ρ = CE c (some o) (some (.ref m)) ∧ Bs c 17 m S' ∧ Cp c (k + 1 + 15) S3 S') ?_ ?_
  · unfold st__law_bad_counts_3
    rw [s_set, w_op, w_var rfl, w_op, w_lst, w_cons, w_call, w_cons, w_var rfl, w_nil]
    refine Run.mono (l_great c3.1 (by omega) (by omega)) fun r S4 ⟨⟨t, e, h1, h2⟩, c4⟩ => ?_
    subst e
    rw [w_nil]
    refine ⟨Nat.le_of_ble_eq_true rfl, ?_⟩
    rw [w_c]
    refine Run.mono (Bs.moreK (w := 4) (ys := [toV t]) (hv.kx c4.2) c4.1.lt (fun y hy => by rw [List.mem_singleton.mp hy]; exact ⟨dc_toV (by omega), h1⟩) (Nat.le_of_ble_eq_true rfl) (by decide)) fun y S5 h => Run.mono h fun r S6 ⟨m', e, hv', k6⟩ => ?_
    subst e
    exact ⟨m', rfl, hv', c4.kp k6⟩
  rintro ρ S4 ⟨m, rfl, hv, c4⟩
  obtain ⟨hm, xs, e, hl, hx⟩ := hv
  unfold st__law_bad_counts_4
  rw [s_ret, w_op, w_var rfl, w_call, w_cons, w_var rfl, w_cons, w_call, w_cons, w_var rfl, w_nil, run_len e, w_nil]
  refine Run.mono (l_draw c4.1 (by omega) (by omega) (by omega) (by omega)) fun r S5 ⟨⟨i, er, i0, i1⟩, c5⟩ => ?_
  subst er
  refine Run.mono (run_pick (fun x => Bad c S5 x) (c5.2 _ _ hm e) i0 i1 fun x hx' => (hx x hx').kx c5.2) fun x S6 ⟨g, e2⟩ => ?_
  subst e2
  exact ⟨g, ((((c1.trans c2).trans c3).trans c4).trans c5).up (by omega)⟩
end PD.K34

/-! ## K34P1 -/
set_option Elab.async false
set_option linter.all false
set_option maxRecDepth 100000
set_option maxHeartbeats 1000000
namespace PD.K34
open PySem PySem.Spec L2 PD LT
/-! ### a turn of the law -/
abbrev LE (v0 : Option Val) (z : Int) (x2 x3 x4 x5 x6 x7 x8 x9 : Option Val) : PD.Env := [v0, some (.int z), x2, x3, x4, x5, x6, x7, x8, x9]
structure Dr (c k n0 : Nat) (xs0 : List Val) (S : Store) : Prop where
  src : SrcAt c k S
  out : S[n0]? = some (.lst xs0)
  ne : n0 ≠ c
theorem Dr.cp {c k m n0 : Nat} {xs0 : List Val} {S S' : Store} (h : Dr c k n0 xs0 S) (q : Cp c m S S') : Dr c m n0 xs0 S' := ⟨q.1, q.2 _ _ h.ne h.out, h.ne⟩
theorem Dr.kp {c k n0 : Nat} {xs0 : List Val} {S S' : Store} (h : Dr c k n0 xs0 S) (q : Kp S S') : Dr c k n0 xs0 S' := h.cp (Cp.of h.src q)
theorem Dr.up {c k m n0 : Nat} {xs0 : List Val} {S : Store} (h : Dr c k n0 xs0 S) (q : k ≤ m) : Dr c m n0 xs0 S := ⟨h.src.up q, h.out, h.ne⟩
section
variable {n c k n0 : Nat} {xs0 : List Val} {S : Store} {R : Val → Store → Prop} {v0 x2 x3 x4 x5 x6 x7 x8 x9 : Option Val} {z : Int} {t : T}
theorem law_0 (hn : 0 < n) (h0 : S[n0]? = some (.lst xs0)) : RunS (st_law_0 (fns n) (LE v0 z x2 x3 x4 x5 x6 x7 x8 x9) S) (fun ρ S' => ∃ c, ρ = LE v0 z (some (.ref c)) x3 x4 x5 x6 x7 x8 x9 ∧ Dr c 0 n0 xs0 S') R := by
  unfold st_law_0
  rw [s_set, w_call, w_cons, w_var rfl, w_nil]
  refine Run.mono (l_source hn) fun r S1 ⟨c, e, ec, hs, k1⟩ => ?_
  subst e
  have := (List.getElem?_eq_some_iff.mp h0).1
  exact ⟨c, rfl, hs, k1 _ _ h0, by omega⟩
def rtBody (p : Fns) : SD := sIf (tNot' (tVal (dCall p._law_value_right (aCons (dVar 3) aNil)))) (sRet (dC (.bl false))) sNext
theorem law_1 (dr : Dr c k n0 xs0 S) (hk : k < 20000) (hn : 20 < n) : RunS (st_law_1 (fns n) (LE v0 z (some (.ref c)) x3 x4 x5 x6 x7 x8 x9) S) (fun ρ S' => (∃ x3, ρ = LE v0 z (some (.ref c)) x3 x4 x5 x6 x7 x8 x9) ∧ Dr c (k + 105) n0 xs0 S') R := by
  show RunS (sForC (dLst (aCons (dCall (fns n)._law_dot (aCons (dVar 2) aNil)) (aCons (dCall (fns n)._law_bad_dot (aCons (dVar 2) aNil)) (aCons (dCall (fns n)._law_bad_dot (aCons (dVar 2) aNil)) (aCons (dCall (fns n)._law_great_values (aCons (dVar 2) aNil)) aNil))))) (gN 3) (rtBody (fns n)) (LE v0 z (some (.ref c)) x3 x4 x5 x6 x7 x8 x9) S) _ R
  refine s_forC ?_
  rw [w_lst, w_cons, w_call, w_cons, w_var rfl, w_nil]
  refine Run.mono (l_dot dr.src (by omega) (by omega)) fun r S1 ⟨⟨p, w, e, hp⟩, c1⟩ => ?_
  subst e
  rw [w_cons, w_call, w_cons, w_var rfl, w_nil]
  refine Run.mono (l_bad_dot c1.1 (by omega) (by omega)) fun b1 S2 ⟨g1, _, c2⟩ => ?_
  rw [w_cons, w_call, w_cons, w_var rfl, w_nil]
  refine Run.mono (l_bad_dot c2.1 (by omega) (by omega)) fun b2 S3 ⟨g2, _, c3⟩ => ?_
  rw [w_cons, w_call, w_cons, w_var rfl, w_nil]
  refine Run.mono (l_great_values c3.1 (by omega) (by omega)) fun b3 S4 ⟨g3, c4⟩ => ?_
  rw [w_nil]
  have dr4 := (dr.cp (((c1.trans c2).trans c3).trans c4)).up (show k + 15 + 20 + 20 + 50 ≤ k + 105 by omega)
  have kA := (Gr.add S4 [.lst [dotV p w, b1, b2, b3]]).kp
  have hA := get_new S4 (.lst [dotV p w, b1, b2, b3])
  have drA := dr4.kp kA
  have gA : ∀ y ∈ [dotV p w, b1, b2, b3], Good c (S4 ++ [.lst [dotV p w, b1, b2, b3]]) 40 400000 y := by
    simp only [List.mem_cons, List.not_mem_nil, or_false, forall_eq_or_imp, forall_eq]
    exact ⟨(good_dot hp).up (by omega) (by omega), ((Good.cp (Good.cp g1 c3 (by omega)) c4 (by omega)).gr kA (by omega)).up (by omega) (by omega), ((Good.cp g2 c4 (by omega)).gr kA (by omega)).up (by omega) (by omega), g3.gr kA (by omega)⟩
  refine ⟨Nat.le_of_ble_eq_true rfl, S4.length, [dotV p w, b1, b2, b3], rfl, hA, ?_⟩
  generalize [dotV p w, b1, b2, b3] = ws at *
  generalize S4 ++ [Cell.lst ws] = A at *
  generalize S4.length = m at *
  refine RunS.mono (runS_loopC (n := m) (xs := ws) (fun j ρ S' => (∃ x3, ρ = LE v0 z (some (.ref c)) x3 x4 x5 x6 x7 x8 x9) ∧ Dr c (k + 105) n0 xs0 S' ∧ S'[m]? = some (.lst ws) ∧ ∀ y ∈ ws, Good c S' 40 400000 y) (fun _ _ _ h => h.2.2.1) ?_ _ 0 _ _ (Nat.zero_add _) ⟨⟨_, rfl⟩, drA, hA, gA⟩) (fun ρ S2 h => ⟨h.1, h.2.1⟩) fun _ _ h => h
  rintro j x ρ S' hx ⟨⟨y3, rfl⟩, dr', hws, hgd⟩
  refine ⟨_, rfl, ?_⟩
  unfold rtBody
  rw [s_if, w_tnot, w_tval, w_call, w_cons, w_var rfl, w_nil]
  refine Run.mono (l_right (hgd x (List.mem_of_getElem? hx)) (by omega) (by omega) (by omega)) fun r S5 ⟨e, k5⟩ => ?_
  subst e
  rw [isB_bl]
  exact ⟨⟨_, rfl⟩, dr'.kp k5, k5 _ _ hws, fun y hy => (hgd y hy).gr k5 (by omega)⟩
theorem law_2 (dr : Dr c k n0 xs0 S) (hk : k < 10000) (hn : 40 < n) : RunS (st_law_2 (fns n) (LE v0 z (some (.ref c)) x3 x4 x5 x6 x7 x8 x9) S) (fun ρ S' => ∃ t : T, ρ = LE v0 z (some (.ref c)) x3 (some (toV t)) x5 x6 x7 x8 x9 ∧ Cts t ∧ Dr c (k + 96) n0 xs0 S') R := by
  unfold st_law_2
  rw [s_set, w_call, w_cons, w_var rfl, w_cons, w_c, w_nil]
  refine Run.mono (l_counts 5 n c k S dr.src (by omega) (by omega) (by omega)) fun r S1 ⟨⟨t, e, h1, h2, h3, h4⟩, c1⟩ => ?_
  subst e
  exact ⟨t, rfl, ⟨h1, h2, by omega, by omega⟩, (dr.cp c1).up (by omega)⟩
def dtBody (p : Fns) : SD := sSeq (st_law_3 p) (sSeq (st_law_4 p) (st_law_5 p))
theorem law_t (dr : Dr c k n0 xs0 S) (hk : k < 20000) (hn : 100 < n) (ht : Cts t) : RunS (dtBody (fns n) (LE v0 z (some (.ref c)) x3 (some (toV t)) x5 x6 x7 x8 x9) S) (fun ρ S' => (∃ d x7, ρ = LE v0 z (some (.ref c)) x3 (some (toV t)) x5 (some d) x7 x8 x9) ∧ Dr c (k + 15) n0 xs0 S') R := by
  unfold dtBody
  refine s_step (N' := fun ρ S' => ∃ p w, ρ = LE v0 z (some (.ref c)) x3 (some (toV t)) x5 (some (dotV p w)) x7 x8 x9 ∧ Dot p w ∧ Dr c (k + 15) n0 xs0 S') ?_ ?_
  · unfold st_law_3
    rw [s_set, w_call, w_cons, w_var rfl, w_nil]
    refine Run.mono (l_dot dr.src (by omega) (by omega)) fun r S1 ⟨⟨p, w, e, hp⟩, c1⟩ => ?_
    subst e
    exact ⟨p, w, rfl, hp, dr.cp c1⟩
  rintro ρ S1 ⟨p, w, rfl, hp, dr1⟩
  refine s_step (N' := fun ρ S' => ρ = LE v0 z (some (.ref c)) x3 (some (toV t)) x5 (some (dotV p w)) (some (.bl (decide (w ≤ (T.part p t).top)))) x8 x9 ∧ S' = S1) ?_ ?_
  · unfold st_law_4
    rw [s_set, w_call, w_cons, w_var rfl, w_cons, w_var rfl, w_nil]
    refine Run.mono (l_has ht hp (by omega)) fun r S2 ⟨e, e2⟩ => ?_
    subst e e2
    exact ⟨rfl, rfl⟩
  rintro ρ S2 ⟨rfl, rfl⟩
  unfold st_law_5
  rw [s_if, w_tval, w_op, w_call, w_cons, w_lst, w_cons, w_call, w_cons, w_var rfl, w_cons, w_var rfl, w_nil]
  refine Run.mono (has_ok ht hp (by omega)) fun r S3 ⟨e, k3⟩ => ?_
  subst e
  rw [w_cons, w_callK, w_cons, w_var rfl, w_cons, w_var rfl, w_nil, if_pos (show [dotV p w, toV t].length = 2 from rfl), show pick [1, 0] [dotV p w, toV t] = [toV t, dotV p w] from rfl]
  refine Run.mono (has_ok ht hp (by omega)) fun r S4 ⟨e, k4⟩ => ?_
  subst e
  rw [w_nil]
  refine ⟨Nat.le_of_ble_eq_true rfl, ?_⟩
  rw [w_nil, repr_two, w_call, w_cons, w_lst, w_cons, w_var rfl, w_cons, w_var rfl, w_nil]
  refine ⟨Nat.le_of_ble_eq_true rfl, ?_⟩
  rw [w_nil, repr_two, ne_str (two_ok _), isB_bl]
  exact ⟨⟨_, _, rfl⟩, dr1.kp ((k3.trans k4).trans ((Gr.add S4 _).trans (Gr.add _ _)).kp)⟩
theorem law_6 (dr : Dr c k n0 xs0 S) (hk : k < 10000) (hn : 100 < n) (ht : Cts t) : RunS (st_law_6 (fns n) (LE v0 z (some (.ref c)) x3 (some (toV t)) x5 x6 x7 x8 x9) S) (fun ρ S' => (∃ x5 d x7, ρ = LE v0 z (some (.ref c)) x3 (some (toV t)) x5 (some d) x7 x8 x9) ∧ Dr c (k + 60) n0 xs0 S') R := by
  show RunS (sForR (aCons (dC (.int 4)) aNil) (gN 5) (dtBody (fns n)) (LE v0 z (some (.ref c)) x3 (some (toV t)) x5 x6 x7 x8 x9) S) _ R
  rw [s_forR, w_cons, w_c, w_nil]
  show if -(2 ^ 62) ≤ (4 : Int) ∧ (4 : Int) < 2 ^ 62 then _ else False
  rw [if_pos (by decide)]
  refine RunS.mono (runS_loopV 4 (fun j ρ S' => (∃ x5 x6 x7, ρ = LE v0 z (some (.ref c)) x3 (some (toV t)) x5 x6 x7 x8 x9 ∧ (0 < j → ∃ d, x6 = some d)) ∧ Dr c (k + 15 * j) n0 xs0 S') (fun j x ρ S' hj h => ?_) _ 0 _ _ (by rw [rangeV_len]; decide) ⟨⟨_, _, _, rfl, fun h => absurd h (Nat.lt_irrefl _)⟩, dr⟩) (fun ρ S' h => ?_) fun _ _ h => h
  · obtain ⟨⟨y5, y6, y7, rfl, _⟩, dr'⟩ := h
    refine ⟨_, rfl, RunS.mono (law_t dr' (by omega) hn ht) (fun ρ S2 h => ?_) fun _ _ h => h⟩
    obtain ⟨⟨d, x7, e⟩, dr2⟩ := h
    exact ⟨⟨_, _, _, e, fun _ => ⟨d, rfl⟩⟩, dr2.up (by omega)⟩
  · rw [rangeV_len] at h
    obtain ⟨⟨y5, y6, y7, e, hd⟩, dr'⟩ := h
    obtain ⟨d, rfl⟩ := hd (by decide)
    exact ⟨⟨_, d, _, e⟩, dr'.up (show k + 15 * (0 + 4) ≤ k + 60 by omega)⟩
theorem law_7 (dr : Dr c k n0 xs0 S) (hk : k < 10000) (hn : 100 < n) : RunS (st_law_7 (fns n) (LE v0 z (some (.ref c)) x3 x4 x5 x6 x7 x8 x9) S) (fun ρ S' => ∃ b w, ρ = LE v0 z (some (.ref c)) x3 x4 x5 x6 x7 (some b) (some w) ∧ Bad c S' b ∧ Good c S' 10 40000 w ∧ isDot w = false ∧ Dr c (k + 40) n0 xs0 S') R := by
  unfold st_law_7
  rw [s_par, w_cons, w_call, w_cons, w_var rfl, w_nil]
  refine Run.mono (l_bad_counts dr.src (by omega) (by omega)) fun b S1 ⟨hb, c1⟩ => ?_
  rw [w_cons, w_call, w_cons, w_var rfl, w_nil]
  refine Run.mono (l_bad_dot c1.1 (by omega) (by omega)) fun w S2 ⟨g, hw, c2⟩ => ?_
  rw [w_nil]
  exact ⟨b, w, rfl, hb.kx c2.2, g, hw, (dr.cp (c1.trans c2)).up (by omega)⟩
theorem three_ok : (PyData.str (Str.ofString "counts")).canLay0 = true ∧ (PyData.str (Str.ofString "dot")).canLay0 = true := ⟨by decide +kernel, by decide +kernel⟩
theorem ne_three {S : Store} {a b : Nat} {Q : Val → Store → Prop} (ha : S[a]? = some (.lst [.str "counts", .str "counts", .str "dot"])) (hb : S[b]? = some (.lst [.str "counts", .str "counts", .str "dot"])) : Run (oNe (.ref a) (.ref b) S) Q = Q (.bl false) S := by
  have hx : ∀ x ∈ [Val.str "counts", .str "counts", .str "dot"], Da S 0 x := mem3 (.str _ _ three_ok.1) (.str _ _ three_ok.1) (.str _ _ three_ok.2)
  rw [run_ne (d := 1) (e := 1) (.ref ha hx) (.ref hb hx) (by omega) (by omega), dat_ref (d := 0) ha hx (by omega), dat_ref (d := 0) hb hx (by omega)]
  have : PyData.eqv (.list ([Val.str "counts", .str "counts", .str "dot"].map (dat S))) (.list ([Val.str "counts", .str "counts", .str "dot"].map (dat S))) = true := by
    show PyData.eqv (.list [.str "counts", .str "counts", .str "dot"]) (.list [.str "counts", .str "counts", .str "dot"]) = true
    decide +kernel
  rw [this]; rfl
theorem law_8 {b w d : Val} (dr : Dr c k n0 xs0 S) (hn : 100 < n) (ht : Cts t) (hb : Bad c S b) (hw : Good c S 10 40000 w) (hd : isDot w = false) : RunS (st_law_8 (fns n) (LE v0 z x2 x3 (some (toV t)) x5 (some d) x7 (some b) (some w)) S) (fun ρ S' => ρ = LE v0 z x2 x3 (some (toV t)) x5 (some d) x7 (some b) (some w) ∧ Dr c k n0 xs0 S') R := by
  obtain ⟨n, rfl⟩ : ∃ m, n = m + 1 := ⟨n - 1, by omega⟩
  unfold st_law_8
  rw [s_if, w_tval, w_op, w_lst, w_cons, w_call, w_cons, w_var rfl, w_cons, w_var rfl, w_nil]
  have t1 : ∀ (S' : Store) (y : Val), Kp S S' → Run ((fns (n + 1))._law_told [b, y] S') (PureK S' (.str "counts")) := fun S' y k' => by
    obtain ⟨S2, k2, e⟩ := has_no1 (n := n) (d := y) (hb.da.da.kp k') (by omega) (by omega) hb.no
    exact Run.of (told_1 e) ⟨rfl, k2⟩
  have t2 : ∀ S' : Store, Kp S S' → Run ((fns (n + 1))._law_told [toV t, w] S') (PureK S' (.str "dot")) := fun S' k' => by
    obtain ⟨S2, k2, e⟩ := has_no2 (n := n) (S := S') ht (fun S3 k3 => hw.da.da.kp (k'.trans k3)) (by omega) (by omega) hd
    exact Run.of (told_2 e) ⟨rfl, k2⟩
  refine Run.mono (t1 S d (.refl _)) fun r S1 ⟨e, k1⟩ => ?_
  subst e
  rw [w_cons, w_call, w_cons, w_var rfl, w_cons, w_var rfl, w_nil]
  refine Run.mono (t1 S1 w k1) fun r S2 ⟨e, k2⟩ => ?_
  subst e
  rw [w_cons, w_call, w_cons, w_var rfl, w_cons, w_var rfl, w_nil]
  refine Run.mono (t2 S2 (k1.trans k2)) fun r S3 ⟨e, k3⟩ => ?_
  subst e
  rw [w_nil]
  refine ⟨Nat.le_of_ble_eq_true rfl, ?_⟩
  rw [w_lst, w_cons, w_c, w_cons, w_c, w_cons, w_c, w_nil]
  refine ⟨Nat.le_of_ble_eq_true rfl, ?_⟩
  rw [ne_three ((Gr.add _ _).get (get_new _ _)) (get_new _ _), isB_bl]
  exact ⟨rfl, dr.kp (((k1.trans k2).trans k3).trans ((Gr.add S3 _).trans (Gr.add _ _)).kp)⟩
end
def turnB (p : Fns) : SD := sSeq (st_law_0 p) (sSeq (st_law_1 p) (sSeq (st_law_2 p) (sSeq (st_law_6 p) (sSeq (st_law_7 p) (st_law_8 p)))))
theorem l_turn {n n0 : Nat} {xs0 : List Val} {v0 x2 x3 x4 x5 x6 x7 x8 x9 : Option Val} {z : Int} {S : Store} {R : Val → Store → Prop} (hn : 110 < n) (h0 : S[n0]? = some (.lst xs0)) :
    RunS (turnB (fns n) (LE v0 z x2 x3 x4 x5 x6 x7 x8 x9) S) (fun ρ S' => (∃ x1 x2 x3 x4 x5 x6 x7 x8 x9, ρ = [v0, x1, x2, x3, x4, x5, x6, x7, x8, x9]) ∧ S'[n0]? = some (.lst xs0)) R := by
  unfold turnB
  refine s_step (law_0 (by omega) h0) ?_
  rintro ρ S1 ⟨c, rfl, dr⟩
  refine s_step (law_1 dr (by omega) (by omega)) ?_
  rintro ρ S2 ⟨⟨y3, rfl⟩, dr⟩
  refine s_step (law_2 dr (by omega) (by omega)) ?_
  rintro ρ S3 ⟨t, rfl, ht, dr⟩
  refine s_step (law_6 dr (by omega) (by omega) ht) ?_
  rintro ρ S4 ⟨⟨y5, d, y7, rfl⟩, dr⟩
  refine s_step (law_7 dr (by omega) (by omega)) ?_
  rintro ρ S5 ⟨b, w, rfl, hb, hw, hd, dr⟩
  refine RunS.mono (law_8 dr (by omega) ht hb hw hd) (fun ρ S6 h => ?_) fun _ _ h => h
  obtain ⟨e, dr⟩ := h
  exact ⟨⟨_, _, _, _, _, _, _, _, _, e⟩, dr.out⟩
theorem run_slK {xs : List Val} {lo hi : Option Int} {S : Store} {Q : Val → Store → Prop} : Run (vSl (.kl xs) lo hi S) Q = Q (.ref S.length) (S ++ [.lst (cutL xs lo hi)]) := rfl
theorem run_lenK {xs : List Val} {S : Store} {Q : Val → Store → Prop} : Run (bLen [.kl xs] S) Q = Q (.int xs.length) S := rfl
theorem l_law (ns : List Int) (hns : ns.length ≤ 63) : ∃ S, (fns 120).law [.kl (ns.map Val.int)] [] = .ok (.bl true) S := by
  have : Run ((fns 120).law [.kl (ns.map Val.int)] []) (fun r _ => r = .bl true) := by
    show Run (fnOf 1 10 (b_law (fns 119)) [.kl (ns.map Val.int)] []) _
    generalize hn : (119 : Nat) = n
    have hn : 110 < n := by omega
    unfold b_law
    refine run_fn rfl rfl ?_
    refine s_step (N' := fun _ _ => True) ?_ ?_
    · refine s_forC ?_
      rw [w_op, w_lst, w_cons, w_call, w_cons, w_var rfl, w_nil, run_lenK, w_nil]
      refine ⟨Nat.le_of_ble_eq_true rfl, ?_⟩
      rw [w_sl, w_var rfl, w_oNone, w_oSome, w_c]
      show Run (vSl (.kl (ns.map Val.int)) none (some 5) _) _
      rw [run_slK]
      have hcut : ∀ x ∈ cutL (ns.map Val.int) none (some 5), ∃ z : Int, x = .int z := fun x hx => by
        obtain ⟨z, _, e⟩ := List.mem_map.mp (mem_cut hx)
        exact ⟨z, e.symm⟩
      have lcut := len_cut (xs := ns.map Val.int) (lo := none) (hi := some 5)
      rw [List.length_map] at lcut
      rw [run_addL (xs := [.int (ns.map Val.int).length]) (ys := cutL (ns.map Val.int) none (some 5)) rfl (get_new _ _) (by rw [List.length_singleton]; omega)]
      refine ⟨_, _, rfl, get_new _ _, ?_⟩
      have hall : ∀ x ∈ [Val.int (ns.map Val.int).length] ++ cutL (ns.map Val.int) none (some 5), ∃ z : Int, x = .int z := fun x hx => by
        rcases List.mem_append.mp hx with hx | hx
        · exact ⟨_, List.mem_singleton.mp hx⟩
        · exact hcut x hx
      generalize [Val.int (ns.map Val.int).length] ++ cutL (ns.map Val.int) none (some 5) = ys at *
      generalize cutL (ns.map Val.int) none (some 5) = us at *
      have hfin := get_new ([Cell.lst [.int (ns.map Val.int).length]] ++ [Cell.lst us]) (.lst ys)
      have eS : ([] : Store) ++ [Cell.lst [.int (ns.map Val.int).length]] ++ [Cell.lst us] = [Cell.lst [.int (ns.map Val.int).length]] ++ [Cell.lst us] := rfl
      rw [eS]
      generalize [Cell.lst [.int (ns.map Val.int).length]] ++ [Cell.lst us] = S0 at *
      generalize S0 ++ [Cell.lst ys] = S1 at *
      generalize S0.length = n0 at *
      refine RunS.mono (runS_loopC (n := n0) (xs := ys) (fun j ρ S' => (∃ x1 x2 x3 x4 x5 x6 x7 x8 x9, ρ = [some (.kl (ns.map Val.int)), x1, x2, x3, x4, x5, x6, x7, x8, x9]) ∧ S'[n0]? = some (.lst ys)) (fun _ _ _ h => h.2) ?_ _ 0 _ _ (Nat.zero_add _) ⟨⟨_, _, _, _, _, _, _, _, _, rfl⟩, hfin⟩) (fun _ _ _ => trivial) fun _ _ h => h
      rintro j x ρ S' hx ⟨⟨x1, x2, x3, x4, x5, x6, x7, x8, x9, rfl⟩, h0⟩
      obtain ⟨z, rfl⟩ := hall x (List.mem_of_getElem? hx)
      exact ⟨_, rfl, l_turn hn h0⟩
    · rintro ρ S1 _
      rw [s_ret, w_c]
  obtain ⟨a, S, e, q⟩ := this.to
  exact ⟨S, by rw [e, q]⟩
end PD.K34

/-! ## K34End -/
set_option Elab.async false
set_option linter.all false
set_option maxRecDepth 100000
set_option maxHeartbeats 4000000
namespace PD.K34
open PySem PySem.Spec L2 PD
structure DefAt (K : PySem.W.Frag) (mg : Str → Option Value) (x : Str) (st : Stmt) (ps : List Str) where
  a : Addr
  d : FuncData
  F : Fun K x x st a d
  m : mg x = some (.ref a)
  b : Binds K d ps []
def mkDef {K : PySem.W.Frag} {h : Heap} {mg : Str → Option Value} (X : K.In h) (G : h.Ns mainGlobals mg) {x : Str} {st : Stmt} {ps : List Str} {f : Addr} {od an : Option Addr} {sl : Array (Option Value)} {oc kV dc pm cd ct : Value}
    (h1 : PySem.W.nsIn K mainGlobals x = some (some (.ref f))) (h2 : K.lookup f = some ⟨oc, od, .func (PySem.W.fnOf x x (defArgs st) (defBody st) (defScope st) .none kV dc pm an cd ct), sl⟩) (h3 : PySem.W.codeIn K cd x = true) (h4 : PySem.W.keepIn K (.ref f) = true)
    (hb : ∀ (kV doc pm : Value) (an : Option Addr) (cdv ct : Value) (us : List Value), us.length = ps.length → bindArgs (PySem.W.fnOf x x (defArgs st) (defBody st) (defScope st) .none kV doc pm an cdv ct) ⟨us, []⟩ = pure (ps.zip us)) : DefAt K mg x st ps :=
  ⟨f, _, fun_mk h2 h3 h4, PySem.W.mg_of X G h1, (fun_mk h2 h3 h4).binds hb⟩
theorem kbOf {K : PySem.W.Frag} {x : Str} {st : Stmt} {f : Addr} {fd : FuncData} {ps ks : List Str} {is : List Nat} (F : Fun K x x st f fd)
    (h : ∀ (kV doc pm : Value) (an : Option Addr) (cdv ct : Value) (ws : List Value), ws.length = ks.length → bindArgs (PySem.W.fnOf x x (defArgs st) (defBody st) (defScope st) .none kV doc pm an cdv ct) ⟨[], ks.zip ws⟩ = pure (ps.zip (pick is ws))) : KB0 K fd ps ks is := by
  obtain ⟨oc, od, kV, doc, pm, an, cdv, ct, osl, rfl, _, _⟩ := F.ex
  exact fun s ws _ hl _ => .of_eq (h kV doc pm an cdv ct ws hl)
theorem exm_b {K : PySem.W.Frag} {C D : Addr} {b : Bool} (h1 : PySem.W.subIn K (.ref D) (.type "BaseException") = some true) (h2 : PySem.W.isClsIn K D = true) (h3 : PySem.W.typeIn K (.ref D) = some (.type "type")) (h4 : PySem.W.subIn K (.ref C) (.ref D) = some b) :
    PySem.W.exmOne K (.ref C) (.ref D) = some b := by
  have e1 : (PySem.W.subIn K (.ref D) (.type "BaseException") == some true) = true := by rw [h1]; rfl
  have e2 : ((PySem.W.clsIn K D).isSome && PySem.W.typeIn K (.ref D) == some (.type "type")) = true := by
    rw [show (PySem.W.clsIn K D).isSome = true from h2, h3]; rfl
  show (if (PySem.W.subIn K (.ref D) (.type "BaseException") == some true) = true then (if ((PySem.W.clsIn K D).isSome && PySem.W.typeIn K (.ref D) == some (.type "type")) = true then PySem.W.subIn K (.ref C) (.ref D) else none) else none) = some b
  rw [if_pos e1, if_pos e2]
  exact h4
theorem mk_all {l : PySem.W.OpenLaw} {w : World} {K : PySem.W.Frag} {h : Heap} {mg : Str → Option Value} {fa : Addr} (X : K.In h) (G : h.Ns mainGlobals mg) (hfa : mg "law" = some (.ref fa))
    (D_tuple_count : DefAt K mg "tuple_count" s_tuple_count ["tree"])
    (D_is_path : DefAt K mg "is_path" s_is_path ["value"])
    (D_check_path : DefAt K mg "check_path" s_check_path ["value"])
    (D_least : DefAt K mg "least" s_least ["counts"])
    (D_greatest : DefAt K mg "greatest" s_greatest ["counts"])
    (D_lifted : DefAt K mg "lifted" s_lifted ["counts", "number"])
    (D_halves : DefAt K mg "halves" s_halves ["counts"])
    (D_is_counts : DefAt K mg "is_counts" s_is_counts ["value"])
    (D__is_counts_tree : DefAt K mg "_is_counts_tree" s__is_counts_tree ["value", "deepest"])
    (D_check_counts : DefAt K mg "check_counts" s_check_counts ["value"])
    (D_worth_at : DefAt K mg "worth_at" s_worth_at ["counts", "path"])
    (D_is_dot : DefAt K mg "is_dot" s_is_dot ["value"])
    (D__check_dot : DefAt K mg "_check_dot" s__check_dot ["value"])
    (D__has : DefAt K mg "_has" s__has ["counts", "dot"])
    (D_has_dot : DefAt K mg "has_dot" s_has_dot ["counts", "dot"])
    (D__law_source : DefAt K mg "_law_source" s__law_source ["cell"])
    (D__law_draw : DefAt K mg "_law_draw" s__law_draw ["source", "many"])
    (D__law_number : DefAt K mg "_law_number" s__law_number ["value"])
    (D__law_numbers : DefAt K mg "_law_numbers" s__law_numbers ["value"])
    (D__law_low : DefAt K mg "_law_low" s__law_low ["counts"])
    (D__law_put : DefAt K mg "_law_put" s__law_put ["number", "left", "right"])
    (D__law_counts : DefAt K mg "_law_counts" s__law_counts ["source", "deep"])
    (D__law_part : DefAt K mg "_law_part" s__law_part ["counts", "path"])
    (D__law_is_dot : DefAt K mg "_law_is_dot" s__law_is_dot ["value"])
    (D__law_dot : DefAt K mg "_law_dot" s__law_dot ["source"])
    (D__law_bad_dot : DefAt K mg "_law_bad_dot" s__law_bad_dot ["source"])
    (D__law_has : DefAt K mg "_law_has" s__law_has ["counts", "dot"])
    (D__law_great_counts : DefAt K mg "_law_great_counts" s__law_great_counts ["source"])
    (D__law_bad_counts : DefAt K mg "_law_bad_counts" s__law_bad_counts ["source"])
    (D__law_value_right : DefAt K mg "_law_value_right" s__law_value_right ["value"])
    (D__law_told : DefAt K mg "_law_told" s__law_told ["counts", "dot"])
    (D__law_great_values : DefAt K mg "_law_great_values" s__law_great_values ["source"])
    (D_law : DefAt K mg "law" s_law ["script"])
    {c_StampError : Addr} (a_StampError : PySem.W.nsIn K mainGlobals "StampError" = some (some (.ref c_StampError))) (x_StampError : PySem.W.excIn K c_StampError [.type "ValueError", .type "Exception", .type "BaseException", .type "object"] "ValueError.__new__" = true)
    (kp_StampError : PySem.W.keepIn K (.ref c_StampError) = true) (sb_StampError : PySem.W.subIn K (.ref c_StampError) (.type "BaseException") = some true) (ty_StampError : PySem.W.typeIn K (.ref c_StampError) = some (.type "type")) (ic_StampError : PySem.W.isClsIn K c_StampError = true)
    {c_InvalidCounts : Addr} (a_InvalidCounts : PySem.W.nsIn K mainGlobals "InvalidCounts" = some (some (.ref c_InvalidCounts))) (x_InvalidCounts : PySem.W.excIn K c_InvalidCounts [.type "ValueError", .type "Exception", .type "BaseException", .type "object"] "ValueError.__new__" = true)
    (kp_InvalidCounts : PySem.W.keepIn K (.ref c_InvalidCounts) = true) (sb_InvalidCounts : PySem.W.subIn K (.ref c_InvalidCounts) (.type "BaseException") = some true) (ty_InvalidCounts : PySem.W.typeIn K (.ref c_InvalidCounts) = some (.type "type")) (ic_InvalidCounts : PySem.W.isClsIn K c_InvalidCounts = true)
    {c_InvalidPath : Addr} (a_InvalidPath : PySem.W.nsIn K mainGlobals "InvalidPath" = some (some (.ref c_InvalidPath))) (x_InvalidPath : PySem.W.excIn K c_InvalidPath [.type "ValueError", .type "Exception", .type "BaseException", .type "object"] "ValueError.__new__" = true)
    (kp_InvalidPath : PySem.W.keepIn K (.ref c_InvalidPath) = true) (sb_InvalidPath : PySem.W.subIn K (.ref c_InvalidPath) (.type "BaseException") = some true) (ty_InvalidPath : PySem.W.typeIn K (.ref c_InvalidPath) = some (.type "type")) (ic_InvalidPath : PySem.W.isClsIn K c_InvalidPath = true)
    {c_InvalidDot : Addr} (a_InvalidDot : PySem.W.nsIn K mainGlobals "InvalidDot" = some (some (.ref c_InvalidDot))) (x_InvalidDot : PySem.W.excIn K c_InvalidDot [.type "ValueError", .type "Exception", .type "BaseException", .type "object"] "ValueError.__new__" = true)
    (kp_InvalidDot : PySem.W.keepIn K (.ref c_InvalidDot) = true) (sb_InvalidDot : PySem.W.subIn K (.ref c_InvalidDot) (.type "BaseException") = some true) (ty_InvalidDot : PySem.W.typeIn K (.ref c_InvalidDot) = some (.type "type")) (ic_InvalidDot : PySem.W.isClsIn K c_InvalidDot = true)
    (ehg_InvalidCounts : PySem.W.findIn K (.ref c_InvalidCounts) "__getattribute__" = some (some (.builtin "BaseException.__getattribute__"))) (ehk_InvalidCounts : PySem.W.findIn K (.ref c_InvalidCounts) "__getattr__" = some none) (ehs_InvalidCounts : PySem.W.subIn K (.ref c_InvalidCounts) (.type "BaseException") = some true) (ehd_InvalidCounts : PySem.W.hasDictIn K c_InvalidCounts = true) (eha_InvalidCounts : PySem.W.findIn K (.ref c_InvalidCounts) "__class__" = some (some (.builtin "object.__class__"))) (ehn_InvalidCounts : PySem.W.specialIn K (.builtin "object.__class__") "__get__" = some (some (.builtin "getset_descriptor.__get__"))) (eht_InvalidCounts : PySem.W.takesIn K (.builtin "object.__class__") = some true) (ehm_InvalidCounts : PySem.W.mroIn K c_InvalidCounts (.type "object") = some true)
    (ehg_InvalidDot : PySem.W.findIn K (.ref c_InvalidDot) "__getattribute__" = some (some (.builtin "BaseException.__getattribute__"))) (ehk_InvalidDot : PySem.W.findIn K (.ref c_InvalidDot) "__getattr__" = some none) (ehs_InvalidDot : PySem.W.subIn K (.ref c_InvalidDot) (.type "BaseException") = some true) (ehd_InvalidDot : PySem.W.hasDictIn K c_InvalidDot = true) (eha_InvalidDot : PySem.W.findIn K (.ref c_InvalidDot) "__class__" = some (some (.builtin "object.__class__"))) (ehn_InvalidDot : PySem.W.specialIn K (.builtin "object.__class__") "__get__" = some (some (.builtin "getset_descriptor.__get__"))) (eht_InvalidDot : PySem.W.takesIn K (.builtin "object.__class__") = some true) (ehm_InvalidDot : PySem.W.mroIn K c_InvalidDot (.type "object") = some true)
    (n_all : PySem.W.nsIn K mainGlobals "all" = some none)
    (n_bool : PySem.W.nsIn K mainGlobals "bool" = some none)
    (n_int : PySem.W.nsIn K mainGlobals "int" = some none)
    (n_isinstance : PySem.W.nsIn K mainGlobals "isinstance" = some none)
    (n_len : PySem.W.nsIn K mainGlobals "len" = some none)
    (n_list : PySem.W.nsIn K mainGlobals "list" = some none)
    (n_max : PySem.W.nsIn K mainGlobals "max" = some none)
    (n_min : PySem.W.nsIn K mainGlobals "min" = some none)
    (n_range : PySem.W.nsIn K mainGlobals "range" = some none)
    (n_repr : PySem.W.nsIn K mainGlobals "repr" = some none)
    (n_sum : PySem.W.nsIn K mainGlobals "sum" = some none)
    (n_tuple : PySem.W.nsIn K mainGlobals "tuple" = some none)
    (n_type : PySem.W.nsIn K mainGlobals "type" = some none)
    {u_DEEPEST : Value} (h_DEEPEST : PySem.W.nsIn K mainGlobals "DEEPEST" = some (some u_DEEPEST)) (g_DEEPEST : ∃ t, u_DEEPEST = .int 12 t)
    {u_MOST_TUPLES : Value} (h_MOST_TUPLES : PySem.W.nsIn K mainGlobals "MOST_TUPLES" = some (some u_MOST_TUPLES)) (g_MOST_TUPLES : ∃ t, u_MOST_TUPLES = .int 63 t)
    (e_0_0 : PySem.W.subIn K (.ref c_StampError) (.ref c_StampError) = some true)
    (e_0_1 : PySem.W.subIn K (.ref c_StampError) (.ref c_InvalidCounts) = some false)
    (e_0_2 : PySem.W.subIn K (.ref c_StampError) (.ref c_InvalidPath) = some false)
    (e_0_3 : PySem.W.subIn K (.ref c_StampError) (.ref c_InvalidDot) = some false)
    (e_1_0 : PySem.W.subIn K (.ref c_InvalidCounts) (.ref c_StampError) = some true)
    (e_1_1 : PySem.W.subIn K (.ref c_InvalidCounts) (.ref c_InvalidCounts) = some true)
    (e_1_2 : PySem.W.subIn K (.ref c_InvalidCounts) (.ref c_InvalidPath) = some false)
    (e_1_3 : PySem.W.subIn K (.ref c_InvalidCounts) (.ref c_InvalidDot) = some false)
    (e_2_0 : PySem.W.subIn K (.ref c_InvalidPath) (.ref c_StampError) = some true)
    (e_2_1 : PySem.W.subIn K (.ref c_InvalidPath) (.ref c_InvalidCounts) = some false)
    (e_2_2 : PySem.W.subIn K (.ref c_InvalidPath) (.ref c_InvalidPath) = some true)
    (e_2_3 : PySem.W.subIn K (.ref c_InvalidPath) (.ref c_InvalidDot) = some false)
    (e_3_0 : PySem.W.subIn K (.ref c_InvalidDot) (.ref c_StampError) = some true)
    (e_3_1 : PySem.W.subIn K (.ref c_InvalidDot) (.ref c_InvalidCounts) = some false)
    (e_3_2 : PySem.W.subIn K (.ref c_InvalidDot) (.ref c_InvalidPath) = some false)
    (e_3_3 : PySem.W.subIn K (.ref c_InvalidDot) (.ref c_InvalidDot) = some true)
    : ∃ (fd : FuncData) (cv : Nat → Value), (∀ (s : Shared) (u : Value), BindsTo s fd ⟨[u], []⟩ [("script", u)]) ∧ ∀ base : Heap, K.In base → base.Ns mainGlobals mg → FnG l.prog w K mg base 120 fa fd ["script"] (SpecOf ⟨K, cv⟩ (fns 120).law) := by
  have e := hfa.symm.trans D_law.m
  cases e
  let T0 : Txt K mg := {
    a_tuple_count := D_tuple_count.a, d_tuple_count := D_tuple_count.d, F_tuple_count := D_tuple_count.F, m_tuple_count := D_tuple_count.m, b_tuple_count := D_tuple_count.b,
    a_is_path := D_is_path.a, d_is_path := D_is_path.d, F_is_path := D_is_path.F, m_is_path := D_is_path.m, b_is_path := D_is_path.b,
    a_check_path := D_check_path.a, d_check_path := D_check_path.d, F_check_path := D_check_path.F, m_check_path := D_check_path.m, b_check_path := D_check_path.b,
    a_least := D_least.a, d_least := D_least.d, F_least := D_least.F, m_least := D_least.m, b_least := D_least.b,
    a_greatest := D_greatest.a, d_greatest := D_greatest.d, F_greatest := D_greatest.F, m_greatest := D_greatest.m, b_greatest := D_greatest.b,
    a_lifted := D_lifted.a, d_lifted := D_lifted.d, F_lifted := D_lifted.F, m_lifted := D_lifted.m, b_lifted := D_lifted.b,
    a_halves := D_halves.a, d_halves := D_halves.d, F_halves := D_halves.F, m_halves := D_halves.m, b_halves := D_halves.b,
    a_is_counts := D_is_counts.a, d_is_counts := D_is_counts.d, F_is_counts := D_is_counts.F, m_is_counts := D_is_counts.m, b_is_counts := D_is_counts.b,
    a__is_counts_tree := D__is_counts_tree.a, d__is_counts_tree := D__is_counts_tree.d, F__is_counts_tree := D__is_counts_tree.F, m__is_counts_tree := D__is_counts_tree.m, b__is_counts_tree := D__is_counts_tree.b,
    a_check_counts := D_check_counts.a, d_check_counts := D_check_counts.d, F_check_counts := D_check_counts.F, m_check_counts := D_check_counts.m, b_check_counts := D_check_counts.b,
    a_worth_at := D_worth_at.a, d_worth_at := D_worth_at.d, F_worth_at := D_worth_at.F, m_worth_at := D_worth_at.m, b_worth_at := D_worth_at.b,
    a_is_dot := D_is_dot.a, d_is_dot := D_is_dot.d, F_is_dot := D_is_dot.F, m_is_dot := D_is_dot.m, b_is_dot := D_is_dot.b,
    a__check_dot := D__check_dot.a, d__check_dot := D__check_dot.d, F__check_dot := D__check_dot.F, m__check_dot := D__check_dot.m, b__check_dot := D__check_dot.b,
    a__has := D__has.a, d__has := D__has.d, F__has := D__has.F, m__has := D__has.m, b__has := D__has.b,
    a_has_dot := D_has_dot.a, d_has_dot := D_has_dot.d, F_has_dot := D_has_dot.F, m_has_dot := D_has_dot.m, b_has_dot := D_has_dot.b,
    a__law_source := D__law_source.a, d__law_source := D__law_source.d, F__law_source := D__law_source.F, m__law_source := D__law_source.m, b__law_source := D__law_source.b,
    a__law_draw := D__law_draw.a, d__law_draw := D__law_draw.d, F__law_draw := D__law_draw.F, m__law_draw := D__law_draw.m, b__law_draw := D__law_draw.b,
    a__law_number := D__law_number.a, d__law_number := D__law_number.d, F__law_number := D__law_number.F, m__law_number := D__law_number.m, b__law_number := D__law_number.b,
    a__law_numbers := D__law_numbers.a, d__law_numbers := D__law_numbers.d, F__law_numbers := D__law_numbers.F, m__law_numbers := D__law_numbers.m, b__law_numbers := D__law_numbers.b,
    a__law_low := D__law_low.a, d__law_low := D__law_low.d, F__law_low := D__law_low.F, m__law_low := D__law_low.m, b__law_low := D__law_low.b,
    a__law_put := D__law_put.a, d__law_put := D__law_put.d, F__law_put := D__law_put.F, m__law_put := D__law_put.m, b__law_put := D__law_put.b,
    a__law_counts := D__law_counts.a, d__law_counts := D__law_counts.d, F__law_counts := D__law_counts.F, m__law_counts := D__law_counts.m, b__law_counts := D__law_counts.b,
    a__law_part := D__law_part.a, d__law_part := D__law_part.d, F__law_part := D__law_part.F, m__law_part := D__law_part.m, b__law_part := D__law_part.b,
    a__law_is_dot := D__law_is_dot.a, d__law_is_dot := D__law_is_dot.d, F__law_is_dot := D__law_is_dot.F, m__law_is_dot := D__law_is_dot.m, b__law_is_dot := D__law_is_dot.b,
    a__law_dot := D__law_dot.a, d__law_dot := D__law_dot.d, F__law_dot := D__law_dot.F, m__law_dot := D__law_dot.m, b__law_dot := D__law_dot.b,
    a__law_bad_dot := D__law_bad_dot.a, d__law_bad_dot := D__law_bad_dot.d, F__law_bad_dot := D__law_bad_dot.F, m__law_bad_dot := D__law_bad_dot.m, b__law_bad_dot := D__law_bad_dot.b,
    a__law_has := D__law_has.a, d__law_has := D__law_has.d, F__law_has := D__law_has.F, m__law_has := D__law_has.m, b__law_has := D__law_has.b,
    a__law_great_counts := D__law_great_counts.a, d__law_great_counts := D__law_great_counts.d, F__law_great_counts := D__law_great_counts.F, m__law_great_counts := D__law_great_counts.m, b__law_great_counts := D__law_great_counts.b,
    a__law_bad_counts := D__law_bad_counts.a, d__law_bad_counts := D__law_bad_counts.d, F__law_bad_counts := D__law_bad_counts.F, m__law_bad_counts := D__law_bad_counts.m, b__law_bad_counts := D__law_bad_counts.b,
    a__law_value_right := D__law_value_right.a, d__law_value_right := D__law_value_right.d, F__law_value_right := D__law_value_right.F, m__law_value_right := D__law_value_right.m, b__law_value_right := D__law_value_right.b,
    a__law_told := D__law_told.a, d__law_told := D__law_told.d, F__law_told := D__law_told.F, m__law_told := D__law_told.m, b__law_told := D__law_told.b,
    a__law_great_values := D__law_great_values.a, d__law_great_values := D__law_great_values.d, F__law_great_values := D__law_great_values.F, m__law_great_values := D__law_great_values.m, b__law_great_values := D__law_great_values.b,
    a_law := D_law.a, d_law := D_law.d, F_law := D_law.F, m_law := D_law.m, b_law := D_law.b,
    kb_has_dot_dot_counts := kbOf D_has_dot.F (fun _ _ _ _ _ _ ws hl => match ws, hl with | [_, _], _ => rfl),
    kb_is_dot_value := kbOf D_is_dot.F (fun _ _ _ _ _ _ ws hl => match ws, hl with | [_], _ => rfl),
    g_DEEPEST := g_DEEPEST.elim fun t z => ⟨t, z ▸ PySem.W.mg_of X G h_DEEPEST⟩,
    g_MOST_TUPLES := g_MOST_TUPLES.elim fun t z => ⟨t, z ▸ PySem.W.mg_of X G h_MOST_TUPLES⟩,
    n_all := PySem.W.mg_none_of X G n_all,
    n_bool := PySem.W.mg_none_of X G n_bool,
    n_int := PySem.W.mg_none_of X G n_int,
    n_isinstance := PySem.W.mg_none_of X G n_isinstance,
    n_len := PySem.W.mg_none_of X G n_len,
    n_list := PySem.W.mg_none_of X G n_list,
    n_max := PySem.W.mg_none_of X G n_max,
    n_min := PySem.W.mg_none_of X G n_min,
    n_range := PySem.W.mg_none_of X G n_range,
    n_repr := PySem.W.mg_none_of X G n_repr,
    n_sum := PySem.W.mg_none_of X G n_sum,
    n_tuple := PySem.W.mg_none_of X G n_tuple,
    n_type := PySem.W.mg_none_of X G n_type,
    c_StampError := c_StampError, m_StampError := PySem.W.mg_of X G a_StampError, x_StampError := x_StampError, kp_StampError := kp_StampError, sb_StampError := sb_StampError, ty_StampError := ty_StampError,
    c_InvalidCounts := c_InvalidCounts, m_InvalidCounts := PySem.W.mg_of X G a_InvalidCounts, x_InvalidCounts := x_InvalidCounts, kp_InvalidCounts := kp_InvalidCounts, sb_InvalidCounts := sb_InvalidCounts, ty_InvalidCounts := ty_InvalidCounts,
    c_InvalidPath := c_InvalidPath, m_InvalidPath := PySem.W.mg_of X G a_InvalidPath, x_InvalidPath := x_InvalidPath, kp_InvalidPath := kp_InvalidPath, sb_InvalidPath := sb_InvalidPath, ty_InvalidPath := ty_InvalidPath,
    c_InvalidDot := c_InvalidDot, m_InvalidDot := PySem.W.mg_of X G a_InvalidDot, x_InvalidDot := x_InvalidDot, kp_InvalidDot := kp_InvalidDot, sb_InvalidDot := sb_InvalidDot, ty_InvalidDot := ty_InvalidDot,
    ec_InvalidCounts := ⟨ehg_InvalidCounts, ehk_InvalidCounts, ehs_InvalidCounts, ehd_InvalidCounts, eha_InvalidCounts, ehn_InvalidCounts, eht_InvalidCounts, ehm_InvalidCounts⟩,
    ec_InvalidDot := ⟨ehg_InvalidDot, ehk_InvalidDot, ehs_InvalidDot, ehd_InvalidDot, eha_InvalidDot, ehn_InvalidDot, eht_InvalidDot, ehm_InvalidDot⟩,
    ki_InvalidCounts_StampError := kit_t ic_StampError ty_StampError e_1_0,
    ki_InvalidDot_StampError := kit_t ic_StampError ty_StampError e_3_0 }
  have cl : Clss K T0.cv 4 mt := ⟨fun c k hc hk => by
    have z_0_0 := exm_b sb_StampError ic_StampError ty_StampError e_0_0
    have z_0_1 := exm_b sb_InvalidCounts ic_InvalidCounts ty_InvalidCounts e_0_1
    have z_0_2 := exm_b sb_InvalidPath ic_InvalidPath ty_InvalidPath e_0_2
    have z_0_3 := exm_b sb_InvalidDot ic_InvalidDot ty_InvalidDot e_0_3
    have z_1_0 := exm_b sb_StampError ic_StampError ty_StampError e_1_0
    have z_1_1 := exm_b sb_InvalidCounts ic_InvalidCounts ty_InvalidCounts e_1_1
    have z_1_2 := exm_b sb_InvalidPath ic_InvalidPath ty_InvalidPath e_1_2
    have z_1_3 := exm_b sb_InvalidDot ic_InvalidDot ty_InvalidDot e_1_3
    have z_2_0 := exm_b sb_StampError ic_StampError ty_StampError e_2_0
    have z_2_1 := exm_b sb_InvalidCounts ic_InvalidCounts ty_InvalidCounts e_2_1
    have z_2_2 := exm_b sb_InvalidPath ic_InvalidPath ty_InvalidPath e_2_2
    have z_2_3 := exm_b sb_InvalidDot ic_InvalidDot ty_InvalidDot e_2_3
    have z_3_0 := exm_b sb_StampError ic_StampError ty_StampError e_3_0
    have z_3_1 := exm_b sb_InvalidCounts ic_InvalidCounts ty_InvalidCounts e_3_1
    have z_3_2 := exm_b sb_InvalidPath ic_InvalidPath ty_InvalidPath e_3_2
    have z_3_3 := exm_b sb_InvalidDot ic_InvalidDot ty_InvalidDot e_3_3
    match c, k, hc, hk with
    | 0, 0, _, _ => exact z_0_0
    | 0, 1, _, _ => exact z_0_1
    | 0, 2, _, _ => exact z_0_2
    | 0, 3, _, _ => exact z_0_3
    | 1, 0, _, _ => exact z_1_0
    | 1, 1, _, _ => exact z_1_1
    | 1, 2, _, _ => exact z_1_2
    | 1, 3, _, _ => exact z_1_3
    | 2, 0, _, _ => exact z_2_0
    | 2, 1, _, _ => exact z_2_1
    | 2, 2, _, _ => exact z_2_2
    | 2, 3, _, _ => exact z_2_3
    | 3, 0, _, _ => exact z_3_0
    | 3, 1, _, _ => exact z_3_1
    | 3, 2, _, _ => exact z_3_2
    | 3, 3, _, _ => exact z_3_3
    | c + 4, _, hc, _ => exact absurd hc (by omega)
    | _, k + 4, _, hk => exact absurd hk (by omega)⟩
  let T : TxtC K mg := { T0 with cls := cl }
  refine ⟨D_law.d, T.cv, fun s u => ?_, fun base _ _ => (all_g T 120).g_law⟩
  obtain ⟨oc, od, kV, doc, pm, an, cdv, ct, osl, hfd, _, _⟩ := D_law.F.ex
  rw [hfd]
  exact .of_eq rfl
theorem law_true (ns : List Int) (h : ns.length ≤ 63) (hb : ∀ z ∈ ns, Builtin.Int.intBits z ≤ 1048576) : ∃ S, (fns 120).law [.kl (ns.map Val.int)] [] = .ok (.bl true) S := l_law ns h
theorem walk {l : PySem.W.OpenLaw} {q : Program} {loose : List Str} {XP : (Str → Option Value) → Heap → Prop} {YP : World → Heap → Prop} {d : DefRec} {K : Params → PySem.W.Frag} (hn : l.most = some 63) (hdf : d.params.defaults = [])
    (hY : ∀ (w : World) (h : Heap), YP w h → (K w.params).In h)
    (F : ∀ (w : World) (mg : Str → Option Value) (fa : Addr) (h : Heap), (K w.params).In h → h.Ns mainGlobals mg → mg d.name = some (.ref fa) →
      ∃ (fd : FuncData) (cv : Nat → Value), (∀ (s : Shared) (u : Value), BindsTo s fd ⟨[u], []⟩ [("script", u)]) ∧ ∀ base : Heap, (K w.params).In base → base.Ns mainGlobals mg → FnG l.prog w (K w.params) mg base 120 fa fd ["script"] (SpecOf ⟨K w.params, cv⟩ (fns 120).law)) :
    PySem.W.WalkO q loose XP YP l.row.toRowW d [] (fun f vs => PySem.call f vs) :=
  walk_g (n := 63) (k := 120) hn (by rw [sizeLine_eq]; decide) hdf ⟨rfl, by decide, by decide⟩ hY F law_true
end PD.K34
open PySem PySem.W PyProof.Rows
set_option maxRecDepth 100000 in
set_option maxHeartbeats 0 in
theorem PySem.Challenge.cw_heirstamps_k34_dots_judged_and_had_holds : PySem.Challenge.rw_heirstamps_k34_dots_judged_and_had.Holds := by
  w_on; o_law; k_head; (case hw => w_witness2)
  k_fill
  refine PD.K34.walk (l := PySem.Challenge.rw_heirstamps_k34_dots_judged_and_had) rfl rfl (fun w h Y => PySem.W.kIn_of Y) ?F
  case F =>
    intro w mg fa h KX G hmg
    have D_tuple_count : PD.K34.DefAt (L2.KOf KX) mg "tuple_count" PD.K34.s_tuple_count ["tree"] := by
      refine' PD.K34.mkDef KX G ?h1 ?h2 ?h3 ?h4 (fun _ _ _ _ _ _ us hl => match us, hl with | [_], _ => rfl); (case h1 => k_is); (case h2 => k_is); (case h3 => k_is); (case h4 => k_is)
    have D_is_path : PD.K34.DefAt (L2.KOf KX) mg "is_path" PD.K34.s_is_path ["value"] := by
      refine' PD.K34.mkDef KX G ?h1 ?h2 ?h3 ?h4 (fun _ _ _ _ _ _ us hl => match us, hl with | [_], _ => rfl); (case h1 => k_is); (case h2 => k_is); (case h3 => k_is); (case h4 => k_is)
    have D_check_path : PD.K34.DefAt (L2.KOf KX) mg "check_path" PD.K34.s_check_path ["value"] := by
      refine' PD.K34.mkDef KX G ?h1 ?h2 ?h3 ?h4 (fun _ _ _ _ _ _ us hl => match us, hl with | [_], _ => rfl); (case h1 => k_is); (case h2 => k_is); (case h3 => k_is); (case h4 => k_is)
    have D_least : PD.K34.DefAt (L2.KOf KX) mg "least" PD.K34.s_least ["counts"] := by
      refine' PD.K34.mkDef KX G ?h1 ?h2 ?h3 ?h4 (fun _ _ _ _ _ _ us hl => match us, hl with | [_], _ => rfl); (case h1 => k_is); (case h2 => k_is); (case h3 => k_is); (case h4 => k_is)
    have D_greatest : PD.K34.DefAt (L2.KOf KX) mg "greatest" PD.K34.s_greatest ["counts"] := by
      refine' PD.K34.mkDef KX G ?h1 ?h2 ?h3 ?h4 (fun _ _ _ _ _ _ us hl => match us, hl with | [_], _ => rfl); (case h1 => k_is); (case h2 => k_is); (case h3 => k_is); (case h4 => k_is)
    have D_lifted : PD.K34.DefAt (L2.KOf KX) mg "lifted" PD.K34.s_lifted ["counts", "number"] := by
      refine' PD.K34.mkDef KX G ?h1 ?h2 ?h3 ?h4 (fun _ _ _ _ _ _ us hl => match us, hl with | [_, _], _ => rfl); (case h1 => k_is); (case h2 => k_is); (case h3 => k_is); (case h4 => k_is)
    have D_halves : PD.K34.DefAt (L2.KOf KX) mg "halves" PD.K34.s_halves ["counts"] := by
      refine' PD.K34.mkDef KX G ?h1 ?h2 ?h3 ?h4 (fun _ _ _ _ _ _ us hl => match us, hl with | [_], _ => rfl); (case h1 => k_is); (case h2 => k_is); (case h3 => k_is); (case h4 => k_is)
    have D_is_counts : PD.K34.DefAt (L2.KOf KX) mg "is_counts" PD.K34.s_is_counts ["value"] := by
      refine' PD.K34.mkDef KX G ?h1 ?h2 ?h3 ?h4 (fun _ _ _ _ _ _ us hl => match us, hl with | [_], _ => rfl); (case h1 => k_is); (case h2 => k_is); (case h3 => k_is); (case h4 => k_is)
    have D__is_counts_tree : PD.K34.DefAt (L2.KOf KX) mg "_is_counts_tree" PD.K34.s__is_counts_tree ["value", "deepest"] := by
      refine' PD.K34.mkDef KX G ?h1 ?h2 ?h3 ?h4 (fun _ _ _ _ _ _ us hl => match us, hl with | [_, _], _ => rfl); (case h1 => k_is); (case h2 => k_is); (case h3 => k_is); (case h4 => k_is)
    have D_check_counts : PD.K34.DefAt (L2.KOf KX) mg "check_counts" PD.K34.s_check_counts ["value"] := by
      refine' PD.K34.mkDef KX G ?h1 ?h2 ?h3 ?h4 (fun _ _ _ _ _ _ us hl => match us, hl with | [_], _ => rfl); (case h1 => k_is); (case h2 => k_is); (case h3 => k_is); (case h4 => k_is)
    have D_worth_at : PD.K34.DefAt (L2.KOf KX) mg "worth_at" PD.K34.s_worth_at ["counts", "path"] := by
      refine' PD.K34.mkDef KX G ?h1 ?h2 ?h3 ?h4 (fun _ _ _ _ _ _ us hl => match us, hl with | [_, _], _ => rfl); (case h1 => k_is); (case h2 => k_is); (case h3 => k_is); (case h4 => k_is)
    have D_is_dot : PD.K34.DefAt (L2.KOf KX) mg "is_dot" PD.K34.s_is_dot ["value"] := by
      refine' PD.K34.mkDef KX G ?h1 ?h2 ?h3 ?h4 (fun _ _ _ _ _ _ us hl => match us, hl with | [_], _ => rfl); (case h1 => k_is); (case h2 => k_is); (case h3 => k_is); (case h4 => k_is)
    have D__check_dot : PD.K34.DefAt (L2.KOf KX) mg "_check_dot" PD.K34.s__check_dot ["value"] := by
      refine' PD.K34.mkDef KX G ?h1 ?h2 ?h3 ?h4 (fun _ _ _ _ _ _ us hl => match us, hl with | [_], _ => rfl); (case h1 => k_is); (case h2 => k_is); (case h3 => k_is); (case h4 => k_is)
    have D__has : PD.K34.DefAt (L2.KOf KX) mg "_has" PD.K34.s__has ["counts", "dot"] := by
      refine' PD.K34.mkDef KX G ?h1 ?h2 ?h3 ?h4 (fun _ _ _ _ _ _ us hl => match us, hl with | [_, _], _ => rfl); (case h1 => k_is); (case h2 => k_is); (case h3 => k_is); (case h4 => k_is)
    have D_has_dot : PD.K34.DefAt (L2.KOf KX) mg "has_dot" PD.K34.s_has_dot ["counts", "dot"] := by
      refine' PD.K34.mkDef KX G ?h1 ?h2 ?h3 ?h4 (fun _ _ _ _ _ _ us hl => match us, hl with | [_, _], _ => rfl); (case h1 => k_is); (case h2 => k_is); (case h3 => k_is); (case h4 => k_is)
    have D__law_source : PD.K34.DefAt (L2.KOf KX) mg "_law_source" PD.K34.s__law_source ["cell"] := by
      refine' PD.K34.mkDef KX G ?h1 ?h2 ?h3 ?h4 (fun _ _ _ _ _ _ us hl => match us, hl with | [_], _ => rfl); (case h1 => k_is); (case h2 => k_is); (case h3 => k_is); (case h4 => k_is)
    have D__law_draw : PD.K34.DefAt (L2.KOf KX) mg "_law_draw" PD.K34.s__law_draw ["source", "many"] := by
      refine' PD.K34.mkDef KX G ?h1 ?h2 ?h3 ?h4 (fun _ _ _ _ _ _ us hl => match us, hl with | [_, _], _ => rfl); (case h1 => k_is); (case h2 => k_is); (case h3 => k_is); (case h4 => k_is)
    have D__law_number : PD.K34.DefAt (L2.KOf KX) mg "_law_number" PD.K34.s__law_number ["value"] := by
      refine' PD.K34.mkDef KX G ?h1 ?h2 ?h3 ?h4 (fun _ _ _ _ _ _ us hl => match us, hl with | [_], _ => rfl); (case h1 => k_is); (case h2 => k_is); (case h3 => k_is); (case h4 => k_is)
    have D__law_numbers : PD.K34.DefAt (L2.KOf KX) mg "_law_numbers" PD.K34.s__law_numbers ["value"] := by
      refine' PD.K34.mkDef KX G ?h1 ?h2 ?h3 ?h4 (fun _ _ _ _ _ _ us hl => match us, hl with | [_], _ => rfl); (case h1 => k_is); (case h2 => k_is); (case h3 => k_is); (case h4 => k_is)
    have D__law_low : PD.K34.DefAt (L2.KOf KX) mg "_law_low" PD.K34.s__law_low ["counts"] := by
      refine' PD.K34.mkDef KX G ?h1 ?h2 ?h3 ?h4 (fun _ _ _ _ _ _ us hl => match us, hl with | [_], _ => rfl); (case h1 => k_is); (case h2 => k_is); (case h3 => k_is); (case h4 => k_is)
    have D__law_put : PD.K34.DefAt (L2.KOf KX) mg "_law_put" PD.K34.s__law_put ["number", "left", "right"] := by
      refine' PD.K34.mkDef KX G ?h1 ?h2 ?h3 ?h4 (fun _ _ _ _ _ _ us hl => match us, hl with | [_, _, _], _ => rfl); (case h1 => k_is); (case h2 => k_is); (case h3 => k_is); (case h4 => k_is)
    have D__law_counts : PD.K34.DefAt (L2.KOf KX) mg "_law_counts" PD.K34.s__law_counts ["source", "deep"] := by
      refine' PD.K34.mkDef KX G ?h1 ?h2 ?h3 ?h4 (fun _ _ _ _ _ _ us hl => match us, hl with | [_, _], _ => rfl); (case h1 => k_is); (case h2 => k_is); (case h3 => k_is); (case h4 => k_is)
    have D__law_part : PD.K34.DefAt (L2.KOf KX) mg "_law_part" PD.K34.s__law_part ["counts", "path"] := by
      refine' PD.K34.mkDef KX G ?h1 ?h2 ?h3 ?h4 (fun _ _ _ _ _ _ us hl => match us, hl with | [_, _], _ => rfl); (case h1 => k_is); (case h2 => k_is); (case h3 => k_is); (case h4 => k_is)
    have D__law_is_dot : PD.K34.DefAt (L2.KOf KX) mg "_law_is_dot" PD.K34.s__law_is_dot ["value"] := by
      refine' PD.K34.mkDef KX G ?h1 ?h2 ?h3 ?h4 (fun _ _ _ _ _ _ us hl => match us, hl with | [_], _ => rfl); (case h1 => k_is); (case h2 => k_is); (case h3 => k_is); (case h4 => k_is)
    have D__law_dot : PD.K34.DefAt (L2.KOf KX) mg "_law_dot" PD.K34.s__law_dot ["source"] := by
      refine' PD.K34.mkDef KX G ?h1 ?h2 ?h3 ?h4 (fun _ _ _ _ _ _ us hl => match us, hl with | [_], _ => rfl); (case h1 => k_is); (case h2 => k_is); (case h3 => k_is); (case h4 => k_is)
    have D__law_bad_dot : PD.K34.DefAt (L2.KOf KX) mg "_law_bad_dot" PD.K34.s__law_bad_dot ["source"] := by
      refine' PD.K34.mkDef KX G ?h1 ?h2 ?h3 ?h4 (fun _ _ _ _ _ _ us hl => match us, hl with | [_], _ => rfl); (case h1 => k_is); (case h2 => k_is); (case h3 => k_is); (case h4 => k_is)
    have D__law_has : PD.K34.DefAt (L2.KOf KX) mg "_law_has" PD.K34.s__law_has ["counts", "dot"] := by
      refine' PD.K34.mkDef KX G ?h1 ?h2 ?h3 ?h4 (fun _ _ _ _ _ _ us hl => match us, hl with | [_, _], _ => rfl); (case h1 => k_is); (case h2 => k_is); (case h3 => k_is); (case h4 => k_is)
    have D__law_great_counts : PD.K34.DefAt (L2.KOf KX) mg "_law_great_counts" PD.K34.s__law_great_counts ["source"] := by
      refine' PD.K34.mkDef KX G ?h1 ?h2 ?h3 ?h4 (fun _ _ _ _ _ _ us hl => match us, hl with | [_], _ => rfl); (case h1 => k_is); (case h2 => k_is); (case h3 => k_is); (case h4 => k_is)
    have D__law_bad_counts : PD.K34.DefAt (L2.KOf KX) mg "_law_bad_counts" PD.K34.s__law_bad_counts ["source"] := by
      refine' PD.K34.mkDef KX G ?h1 ?h2 ?h3 ?h4 (fun _ _ _ _ _ _ us hl => match us, hl with | [_], _ => rfl); (case h1 => k_is); (case h2 => k_is); (case h3 => k_is); (case h4 => k_is)
    have D__law_value_right : PD.K34.DefAt (L2.KOf KX) mg "_law_value_right" PD.K34.s__law_value_right ["value"] := by
      refine' PD.K34.mkDef KX G ?h1 ?h2 ?h3 ?h4 (fun _ _ _ _ _ _ us hl => match us, hl with | [_], _ => rfl); (case h1 => k_is); (case h2 => k_is); (case h3 => k_is); (case h4 => k_is)
    have D__law_told : PD.K34.DefAt (L2.KOf KX) mg "_law_told" PD.K34.s__law_told ["counts", "dot"] := by
      refine' PD.K34.mkDef KX G ?h1 ?h2 ?h3 ?h4 (fun _ _ _ _ _ _ us hl => match us, hl with | [_, _], _ => rfl); (case h1 => k_is); (case h2 => k_is); (case h3 => k_is); (case h4 => k_is)
    have D__law_great_values : PD.K34.DefAt (L2.KOf KX) mg "_law_great_values" PD.K34.s__law_great_values ["source"] := by
      refine' PD.K34.mkDef KX G ?h1 ?h2 ?h3 ?h4 (fun _ _ _ _ _ _ us hl => match us, hl with | [_], _ => rfl); (case h1 => k_is); (case h2 => k_is); (case h3 => k_is); (case h4 => k_is)
    have D_law : PD.K34.DefAt (L2.KOf KX) mg "law" PD.K34.s_law ["script"] := by
      refine' PD.K34.mkDef KX G ?h1 ?h2 ?h3 ?h4 (fun _ _ _ _ _ _ us hl => match us, hl with | [_], _ => rfl); (case h1 => k_is); (case h2 => k_is); (case h3 => k_is); (case h4 => k_is)
    refine' PD.K34.mk_all (l := PySem.Challenge.rw_heirstamps_k34_dots_judged_and_had) (w := w) KX G hmg D_tuple_count D_is_path D_check_path D_least D_greatest D_lifted D_halves D_is_counts D__is_counts_tree D_check_counts D_worth_at D_is_dot D__check_dot D__has D_has_dot D__law_source D__law_draw D__law_number D__law_numbers D__law_low D__law_put D__law_counts D__law_part D__law_is_dot D__law_dot D__law_bad_dot D__law_has D__law_great_counts D__law_bad_counts D__law_value_right D__law_told D__law_great_values D_law ?a_StampError ?x_StampError ?kp_StampError ?sb_StampError ?ty_StampError ?ic_StampError ?a_InvalidCounts ?x_InvalidCounts ?kp_InvalidCounts ?sb_InvalidCounts ?ty_InvalidCounts ?ic_InvalidCounts ?a_InvalidPath ?x_InvalidPath ?kp_InvalidPath ?sb_InvalidPath ?ty_InvalidPath ?ic_InvalidPath ?a_InvalidDot ?x_InvalidDot ?kp_InvalidDot ?sb_InvalidDot ?ty_InvalidDot ?ic_InvalidDot ?ehg_InvalidCounts ?ehk_InvalidCounts ?ehs_InvalidCounts ?ehd_InvalidCounts ?eha_InvalidCounts ?ehn_InvalidCounts ?eht_InvalidCounts ?ehm_InvalidCounts ?ehg_InvalidDot ?ehk_InvalidDot ?ehs_InvalidDot ?ehd_InvalidDot ?eha_InvalidDot ?ehn_InvalidDot ?eht_InvalidDot ?ehm_InvalidDot ?n_all ?n_bool ?n_int ?n_isinstance ?n_len ?n_list ?n_max ?n_min ?n_range ?n_repr ?n_sum ?n_tuple ?n_type ?hh_DEEPEST ?gg_DEEPEST ?hh_MOST_TUPLES ?gg_MOST_TUPLES ?e_0_0 ?e_0_1 ?e_0_2 ?e_0_3 ?e_1_0 ?e_1_1 ?e_1_2 ?e_1_3 ?e_2_0 ?e_2_1 ?e_2_2 ?e_2_3 ?e_3_0 ?e_3_1 ?e_3_2 ?e_3_3
    (case a_StampError => k_is)
    (case a_InvalidCounts => k_is)
    (case a_InvalidPath => k_is)
    (case a_InvalidDot => k_is)
    (case x_StampError => k_exc)
    (case kp_StampError => k_is)
    (case sb_StampError => k_is)
    (case ty_StampError => k_is)
    (case ic_StampError => k_is)
    (case x_InvalidCounts => k_exc)
    (case kp_InvalidCounts => k_is)
    (case sb_InvalidCounts => k_is)
    (case ty_InvalidCounts => k_is)
    (case ic_InvalidCounts => k_is)
    (case x_InvalidPath => k_exc)
    (case kp_InvalidPath => k_is)
    (case sb_InvalidPath => k_is)
    (case ty_InvalidPath => k_is)
    (case ic_InvalidPath => k_is)
    (case x_InvalidDot => k_exc)
    (case kp_InvalidDot => k_is)
    (case sb_InvalidDot => k_is)
    (case ty_InvalidDot => k_is)
    (case ic_InvalidDot => k_is)
    (case ehg_InvalidCounts => k_is)
    (case ehk_InvalidCounts => k_is)
    (case ehs_InvalidCounts => k_is)
    (case ehd_InvalidCounts => k_is)
    (case eha_InvalidCounts => k_is)
    (case ehn_InvalidCounts => k_is)
    (case eht_InvalidCounts => k_is)
    (case ehm_InvalidCounts => k_is)
    (case ehg_InvalidDot => k_is)
    (case ehk_InvalidDot => k_is)
    (case ehs_InvalidDot => k_is)
    (case ehd_InvalidDot => k_is)
    (case eha_InvalidDot => k_is)
    (case ehn_InvalidDot => k_is)
    (case eht_InvalidDot => k_is)
    (case ehm_InvalidDot => k_is)
    (case n_all => k_is)
    (case n_bool => k_is)
    (case n_int => k_is)
    (case n_isinstance => k_is)
    (case n_len => k_is)
    (case n_list => k_is)
    (case n_max => k_is)
    (case n_min => k_is)
    (case n_range => k_is)
    (case n_repr => k_is)
    (case n_sum => k_is)
    (case n_tuple => k_is)
    (case n_type => k_is)
    (case e_0_0 => first | rfl | k_is)
    (case e_0_1 => first | rfl | k_is)
    (case e_0_2 => first | rfl | k_is)
    (case e_0_3 => first | rfl | k_is)
    (case e_1_0 => first | rfl | k_is)
    (case e_1_1 => first | rfl | k_is)
    (case e_1_2 => first | rfl | k_is)
    (case e_1_3 => first | rfl | k_is)
    (case e_2_0 => first | rfl | k_is)
    (case e_2_1 => first | rfl | k_is)
    (case e_2_2 => first | rfl | k_is)
    (case e_2_3 => first | rfl | k_is)
    (case e_3_0 => first | rfl | k_is)
    (case e_3_1 => first | rfl | k_is)
    (case e_3_2 => first | rfl | k_is)
    (case e_3_3 => first | rfl | k_is)
    (case hh_DEEPEST => k_is)
    (case hh_MOST_TUPLES => k_is)
    (case gg_DEEPEST => exact ⟨_, rfl⟩)
    (case gg_MOST_TUPLES => exact ⟨_, rfl⟩)