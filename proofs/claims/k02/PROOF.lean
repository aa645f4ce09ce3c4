import PyProof.Rows.All
import Wide.All
import OpenK.AllK
import Wide.FinOn
import HandS.ForMost
import HandS.ForExc
import HandS.CallSlots
import HandS.TryMany
import HandS.ExcField
import HandS.ExcInit
import HandS.IsInst
import HandS.Conv
import HandS.Wide
import HandS.TupAny
import HandS.More
import HandS.Style
import HandS.MakeKw
import HandS.MakeKwOnly
import HandS.Deep
import HandS.EndBits
import HandS.TupMul
import HandS.ExcIs
import PyProof.WalkInts
import KE.DataMinMax
import KE.GoesMore
import HandS.FStr
import PySem.Challenge.RW_heirstamps_k02_texts_of_shares
/-! ## PDCore -/
set_option Elab.async false
set_option linter.all false
set_option maxRecDepth 100000
set_option maxHeartbeats 2000000
namespace PD
open PySem PySem.Spec L2

/-! ### values and the store -/
inductive Val where
  | non | bl (b : Bool) | int (i : Int) | str (x : Str) | tup (xs : List Val) | ref (n : Nat) | ty (n : String)
  /-- a list that is only read (the script), by what it holds -/
  | kl (xs : List Val)
  /-- a cell that is no list: an instance, a dict -/
  | ob (n : Nat)
inductive Cell where
  | lst (xs : List Val)
  /-- an instance of the class of this name: its fields -/
  | obj (cn : Str) (fs : List (Str × Val))
  | dct (kvs : List (Key × Val))
abbrev Store := List Cell
structure Exn where
  cls : Nat
  fs : List (Str × Val)
inductive Res (α : Type) where
  | ok (a : α) (S : Store) | exc (e : Exn) (S : Store) | stuck
def Res.bind {α β : Type} (r : Res α) (k : α → Store → Res β) : Res β := match r with
  | .ok a S => k a S
  | .exc e S => .exc e S
  | .stuck => .stuck
abbrev Env := List (Option Val)
abbrev D := Env → Store → Res Val
abbrev DT := Env → Store → Res Bool
abbrev DA := Env → Store → Res (List Val)

/-! ### the relation to the abstract heap -/
/-- a list that is only read -/
def RoL (K : PySem.W.Frag) (H : Hp) (a : Addr) (vs : List V) : Prop :=
  (∃ o, H a = some (.frz o (.lst vs))) ∨ ∃ (o : Obj) (its : Array Value) (n : Nat), K.lookup a = some o ∧ o.cls = .type "list" ∧ o.dict = none ∧ o.data = .seq its n ∧ its.size ≤ sizeLine ∧ Vals vs its.toList
theorem RoL.sq {K : PySem.W.Frag} {H : Hp} {a : Addr} {vs : List V} (h : RoL K H a vs) : SqL K H a vs := by
  rcases h with h | h
  · exact .inl (.inr h)
  · exact .inr h
mutual
inductive RV (K : PySem.W.Frag) (ι : List Addr) (H : Hp) : Val → V → Prop
  | non : RV K ι H .non .non
  | bl (b : Bool) : RV K ι H (.bl b) (.bl b)
  | int (i : Int) : RV K ι H (.int i) (.int i)
  | str (x : Str) : RV K ι H (.str x) (.str x)
  | tup {a : Addr} {xs : List Val} {vs : List V} : SqT K H a vs → RVs K ι H xs vs → RV K ι H (.tup xs) (.ref a)
  | ref {n : Nat} {a : Addr} : ι[n]? = some a → (∃ vs, H a = some (.lst vs)) → RV K ι H (.ref n) (.ref a)
  | ty (n : String) : RV K ι H (.ty n) (.ty n)
  | kl {a : Addr} {xs : List Val} {vs : List V} : RoL K H a vs → RVs K ι H xs vs → RV K ι H (.kl xs) (.ref a)
  | ob {n : Nat} {a : Addr} : ι[n]? = some a → RV K ι H (.ob n) (.ref a)
inductive RVs (K : PySem.W.Frag) (ι : List Addr) (H : Hp) : List Val → List V → Prop
  | nil : RVs K ι H [] []
  | cons {x : Val} {v : V} {xs : List Val} {vs : List V} : RV K ι H x v → RVs K ι H xs vs → RVs K ι H (x :: xs) (v :: vs)
end
def CellOk (K : PySem.W.Frag) (ι : List Addr) (H : Hp) (a : Addr) : Cell → Prop
  | .lst xs => ∃ vs, RVs K ι H xs vs ∧ H a = some (.lst vs)
  | .obj cn fs => ∃ (C dx : Addr) (ns : List Str) (vs : List V), PySem.W.nsIn K mainGlobals cn = some (some (.ref C)) ∧ H a = some (.ins C dx (ns.zip vs)) ∧ fs.map (·.1) = ns ∧ RVs K ι H (fs.map (·.2)) vs
  | .dct kvs => ∃ (ks : List Key) (vs : List V), H a = some (.dK (ks.zip vs)) ∧ kvs.map (·.1) = ks ∧ RVs K ι H (kvs.map (·.2)) vs
structure RH (K : PySem.W.Frag) (ι : List Addr) (H : Hp) (S : Store) : Prop where
  len : ι.length = S.length
  ok : ∀ (n : Nat) (a : Addr) (c : Cell), ι[n]? = some a → S[n]? = some c → CellOk K ι H a c
  nd : ∀ (n m : Nat) (a : Addr), ι[n]? = some a → ι[m]? = some a → n = m
structure Ext (ι : List Addr) (H : Hp) (ι' : List Addr) (H' : Hp) : Prop where
  pre : ι <+: ι'
  fr : ∀ a o, H a = some o → a ∉ ι → H' a = some o
  new : ∀ a, a ∈ ι' → a ∉ ι → H a = none
  tp : ∀ a vs, Rd H a (.tup vs) → Rd H' a (.tup vs)
  fz : ∀ a o u, H a = some (.frz o u) → H' a = some (.frz o u)
  ls : ∀ a vs, H a = some (.lst vs) → ∃ vs', H' a = some (.lst vs')
def RS (K : PySem.W.Frag) (ι : List Addr) (H : Hp) (ρ : Env) (σ : St) : Prop :=
  ρ.length = σ.length ∧ ∀ (i : Nat) (x : Val), ρ[i]? = some (some x) → ∃ v, σ[i]? = some (some v) ∧ RV K ι H x v

section
variable {K : PySem.W.Frag} {ι ι' ι2 : List Addr} {H H' H2 : Hp} {S S' : Store} {ρ : Env} {σ : St}
theorem Ext.refl : Ext ι H ι H := ⟨List.prefix_refl _, fun _ _ h _ => h, fun _ h n => absurd h n, fun _ _ h => h, fun _ _ _ h => h, fun _ vs h => ⟨vs, h⟩⟩
theorem Ext.trans (a : Ext ι H ι' H') (b : Ext ι' H' ι2 H2) : Ext ι H ι2 H2 := by
  refine ⟨a.pre.trans b.pre, fun c o h n => ?_, fun c h n => ?_, fun c vs h => b.tp c vs (a.tp c vs h), fun c o u h => b.fz c o u (a.fz c o u h), fun c vs h => by obtain ⟨vs', h'⟩ := a.ls c vs h; exact b.ls c vs' h'⟩
  · refine b.fr c o (a.fr c o h n) fun z => ?_
    have := a.new c z n
    rw [h] at this; cases this
  · by_cases z : c ∈ ι'
    · exact a.new c z n
    · have q := b.new c h z
      cases e : H c with
      | none => rfl
      | some o =>
        have := a.fr c o e n
        rw [q] at this; cases this
theorem Ext.get (e : Ext ι H ι' H') {n : Nat} {a : Addr} (h : ι[n]? = some a) : ι'[n]? = some a := by
  obtain ⟨t, rfl⟩ := e.pre
  have hl : n < ι.length := (List.getElem?_eq_some_iff.mp h).1
  rw [List.getElem?_append_left hl]; exact h
theorem Ext.sqT (e : Ext ι H ι' H') {a : Addr} {vs : List V} (h : SqT K H a vs) : SqT K H' a vs := by
  rcases h with h | h
  · exact .inl (e.tp _ _ h)
  · exact .inr h
theorem Ext.roL (e : Ext ι H ι' H') {a : Addr} {vs : List V} (h : RoL K H a vs) : RoL K H' a vs := by
  rcases h with ⟨o, h⟩ | h
  · exact .inl ⟨o, e.fz _ _ _ h⟩
  · exact .inr h
mutual
theorem RV.ext (e : Ext ι H ι' H') : ∀ {x : Val} {v : V}, RV K ι H x v → RV K ι' H' x v
  | _, _, .non => .non
  | _, _, .bl b => .bl b
  | _, _, .int i => .int i
  | _, _, .str x => .str x
  | _, _, .tup h r => .tup (e.sqT h) (RVs.ext e r)
  | _, _, .ref h ⟨vs, q⟩ => .ref (e.get h) (e.ls _ vs q)
  | _, _, .ty n => .ty n
  | _, _, .kl h r => .kl (e.roL h) (RVs.ext e r)
  | _, _, .ob h => .ob (e.get h)
theorem RVs.ext (e : Ext ι H ι' H') : ∀ {xs : List Val} {vs : List V}, RVs K ι H xs vs → RVs K ι' H' xs vs
  | _, _, .nil => .nil
  | _, _, .cons h r => .cons (RV.ext e h) (RVs.ext e r)
end
theorem RS.ext (e : Ext ι H ι' H') (h : RS K ι H ρ σ) : RS K ι' H' ρ σ := ⟨h.1, fun i x q => by
  obtain ⟨v, a, b⟩ := h.2 i x q
  exact ⟨v, a, b.ext e⟩⟩
theorem RVs.length : ∀ {xs : List Val} {vs : List V}, RVs K ι H xs vs → xs.length = vs.length
  | _, _, .nil => rfl
  | _, _, .cons _ r => by rw [List.length_cons, List.length_cons, RVs.length r]
theorem RVs.append : ∀ {xs ys : List Val} {vs ws : List V}, RVs K ι H xs vs → RVs K ι H ys ws → RVs K ι H (xs ++ ys) (vs ++ ws)
  | _, _, _, _, .nil, s => s
  | _, _, _, _, .cons h r, s => .cons h (RVs.append r s)
theorem RVs.get : ∀ {xs : List Val} {vs : List V} {i : Nat} {x : Val}, RVs K ι H xs vs → xs[i]? = some x → ∃ v, vs[i]? = some v ∧ RV K ι H x v
  | _, _, _, _, .nil, h => by simp at h
  | _, _, 0, _, .cons h _, e => by simp at e; subst e; exact ⟨_, rfl, h⟩
  | _, _, i + 1, _, .cons _ r, e => by
    obtain ⟨v, a, b⟩ := RVs.get (i := i) r (by simpa using e)
    exact ⟨v, by simpa using a, b⟩
theorem RVs.set {x : Val} {v : V} (h : RV K ι H x v) : ∀ {xs : List Val} {vs : List V} (i : Nat), RVs K ι H xs vs → RVs K ι H (xs.set i x) (vs.set i v)
  | _, _, _, .nil => .nil
  | _, _, 0, .cons _ r => .cons h r
  | _, _, i + 1, .cons q r => .cons q (RVs.set h i r)
theorem RVs.take : ∀ {xs : List Val} {vs : List V} (n : Nat), RVs K ι H xs vs → RVs K ι H (xs.take n) (vs.take n)
  | _, _, 0, _ => by simp; exact .nil
  | _, _, n + 1, .nil => .nil
  | _, _, n + 1, .cons h r => .cons h (RVs.take n r)
theorem RVs.drop : ∀ {xs : List Val} {vs : List V} (n : Nat), RVs K ι H xs vs → RVs K ι H (xs.drop n) (vs.drop n)
  | _, _, 0, r => r
  | _, _, n + 1, .nil => .nil
  | _, _, n + 1, .cons _ r => RVs.drop n r
/-- a thing that a cell may be -/
def Celly : HO → Prop
  | .lst _ => True
  | .ins _ _ _ => True
  | .dK _ => True
  | _ => False
theorem CellOk.ext (e : Ext ι H ι' H') {a : Addr} {c : Cell} (hm : ∀ o, Celly o → H a = some o → H' a = some o) (h : CellOk K ι H a c) : CellOk K ι' H' a c := by
  cases c with
  | lst xs => obtain ⟨vs, r, q⟩ := h; exact ⟨vs, r.ext e, hm _ trivial q⟩
  | obj cn fs => obtain ⟨C, dx, ns, vs, k, q, en, r⟩ := h; exact ⟨C, dx, ns, vs, k, hm _ trivial q, en, r.ext e⟩
  | dct kvs => obtain ⟨ks, vs, q, en, r⟩ := h; exact ⟨ks, vs, hm _ trivial q, en, r.ext e⟩
/-- a fresh thing that is no cell (a tuple) -/
theorem Ext.fresh {p : Addr} {o : HO} (hp : H p = none) : Ext ι H ι (upd H p o) := by
  have ne : ∀ a u, H a = some u → a ≠ p := fun a u h => ne_of_none h hp
  refine ⟨List.prefix_refl _, fun a u h _ => ?_, fun _ h n => absurd h n, fun a vs h => ?_, fun a u v h => ?_, fun a vs h => ⟨vs, ?_⟩⟩
  · rw [upd_ne (ne a u h)]; exact h
  · rcases h with h | ⟨u, h⟩
    · exact .inl (by rw [upd_ne (ne a _ h)]; exact h)
    · exact .inr ⟨u, by rw [upd_ne (ne a _ h)]; exact h⟩
  · rw [upd_ne (ne a _ h)]; exact h
  · rw [upd_ne (ne a _ h)]; exact h
theorem RH.fresh {p : Addr} {o : HO} (h : RH K ι H S) (hp : H p = none) : RH K ι (upd H p o) S := by
  refine ⟨h.len, fun n a c e1 e2 => (h.ok n a c e1 e2).ext (Ext.fresh hp) fun o _ q => ?_, h.nd⟩
  rw [upd_ne (ne_of_none q hp)]; exact q
/-- a new cell -/
theorem Ext.alloc {p : Addr} {o : HO} (hp : H p = none) : Ext ι H (ι ++ [p]) (upd H p o) := by
  have e := Ext.fresh (ι := ι) (o := o) hp
  refine ⟨List.prefix_append _ _, e.fr, fun a h n => ?_, e.tp, e.fz, e.ls⟩
  rcases List.mem_append.mp h with z | z
  · exact absurd z n
  · rw [List.mem_singleton.mp z]; exact hp
theorem RH.trk (h : RH K ι H S) {a : Addr} (ha : a ∈ ι) : H a ≠ none := fun z => by
  obtain ⟨n, hn, e⟩ := List.mem_iff_getElem.mp ha
  have e1 : ι[n]? = some a := by rw [List.getElem?_eq_getElem hn, e]
  have hs : n < S.length := by rw [← h.len]; exact hn
  have q := h.ok n a _ e1 (List.getElem?_eq_getElem hs)
  cases hc : S[n] with
  | lst xs =>
    rw [hc] at q
    obtain ⟨_, _, q⟩ := q
    rw [z] at q; cases q
  | obj cn fs =>
    rw [hc] at q
    obtain ⟨_, _, _, _, _, q, _⟩ := q
    rw [z] at q; cases q
  | dct kvs =>
    rw [hc] at q
    obtain ⟨_, _, q, _⟩ := q
    rw [z] at q; cases q
theorem get_append_some {α : Type} {l : List α} {y x : α} {n : Nat} (h : (l ++ [y])[n]? = some x) : l[n]? = some x ∨ (n = l.length ∧ y = x) := by
  rcases Nat.lt_trichotomy n l.length with q | q | q
  · rw [List.getElem?_append_left q] at h; exact .inl h
  · subst q
    rw [List.getElem?_append_right (Nat.le_refl _)] at h
    simp at h; exact .inr ⟨rfl, h⟩
  · rw [List.getElem?_eq_none (by simp; omega)] at h; cases h
theorem RH.allocC {p : Addr} {o : HO} {c0 : Cell} (h : RH K ι H S) (hp : H p = none) (hc : CellOk K (ι ++ [p]) (upd H p o) p c0) : RH K (ι ++ [p]) (upd H p o) (S ++ [c0]) := by
  have e := Ext.alloc (ι := ι) (o := o) hp
  refine ⟨by simp [h.len], fun n a c e1 e2 => ?_, fun n m a e1 e2 => ?_⟩
  · rcases get_append_some e1 with e1 | ⟨rfl, rfl⟩
    · rcases get_append_some e2 with e2 | ⟨rfl, rfl⟩
      · refine (h.ok n a c e1 e2).ext e fun o _ q => ?_
        rw [upd_ne (ne_of_none q hp)]; exact q
      · exact absurd (List.getElem?_eq_some_iff.mp e1).1 (by rw [h.len]; exact Nat.lt_irrefl _)
    · rcases get_append_some e2 with e2 | ⟨_, rfl⟩
      · exact absurd (List.getElem?_eq_some_iff.mp e2).1 (by rw [h.len]; exact Nat.lt_irrefl _)
      · exact hc
  · rcases get_append_some e1 with e1 | ⟨a1, rfl⟩ <;> rcases get_append_some e2 with e2 | ⟨a2, b2⟩
    · exact h.nd n m a e1 e2
    · exact absurd hp (h.trk (b2 ▸ List.mem_of_getElem? e1))
    · exact absurd hp (h.trk (List.mem_of_getElem? e2))
    · rw [a1, a2]
theorem RH.alloc {p : Addr} {xs : List Val} {vs : List V} (h : RH K ι H S) (hp : H p = none) (r : RVs K ι H xs vs) : RH K (ι ++ [p]) (upd H p (.lst vs)) (S ++ [.lst xs]) :=
  h.allocC hp ⟨vs, r.ext (Ext.alloc hp), upd_same⟩
/-- a cell is written -/
theorem Ext.writeC {p : Addr} {n : Nat} {u o : HO} (hp : ι[n]? = some p) (hl : H p = some u) (hc : Celly u) (hs : ∀ vs, u = .lst vs → ∃ vs', o = .lst vs') : Ext ι H ι (upd H p o) := by
  have hm : p ∈ ι := List.mem_of_getElem? hp
  refine ⟨List.prefix_refl _, fun a u h k => ?_, fun _ h n => absurd h n, fun a us h => ?_, fun a u v h => ?_, fun a vs h => ?_⟩
  · rw [upd_ne (fun z => k (by rw [z]; exact hm))]; exact h
  · rcases h with h | ⟨u, h⟩
    · exact .inl (by rw [upd_ne (ne_of h hl (by intro z; rw [← z] at hc; exact hc.elim))]; exact h)
    · exact .inr ⟨u, by rw [upd_ne (ne_of h hl (by intro z; rw [← z] at hc; exact hc.elim))]; exact h⟩
  · rw [upd_ne (ne_of h hl (by intro z; rw [← z] at hc; exact hc.elim))]; exact h
  · by_cases z : a = p
    · subst z
      rw [hl] at h
      obtain ⟨vs', e⟩ := hs vs (Option.some.inj h)
      exact ⟨vs', by rw [e]; exact upd_same⟩
    · exact ⟨vs, by rw [upd_ne z]; exact h⟩
theorem Ext.write {p : Addr} {n : Nat} {vs ws : List V} (hp : ι[n]? = some p) (hl : H p = some (.lst vs)) : Ext ι H ι (upd H p (.lst ws)) :=
  Ext.writeC hp hl trivial fun _ _ => ⟨ws, rfl⟩
theorem RH.writeC {p : Addr} {n : Nat} {c0 c1 : Cell} {o : HO} (h : RH K ι H S) (hp : ι[n]? = some p) (hs : S[n]? = some c0) (hc : CellOk K ι (upd H p o) p c1) (e : Ext ι H ι (upd H p o)) :
    RH K ι (upd H p o) (S.set n c1) := by
  have hn : n < S.length := (List.getElem?_eq_some_iff.mp hs).1
  refine ⟨by simp [h.len], fun m a c e1 e2 => ?_, h.nd⟩
  by_cases z : n = m
  · subst z
    rw [List.getElem?_set_self hn] at e2; cases e2
    rw [hp] at e1; cases e1
    exact hc
  · rw [List.getElem?_set_ne z] at e2
    have ha : a ≠ p := fun q => z (h.nd n m p hp (by rw [← q]; exact e1))
    refine (h.ok m a c e1 e2).ext e fun o _ q => ?_
    rw [upd_ne ha]; exact q
theorem RH.write {p : Addr} {n : Nat} {xs ys : List Val} {vs ws : List V} (h : RH K ι H S) (hp : ι[n]? = some p) (hs : S[n]? = some (.lst xs)) (hl : H p = some (.lst vs)) (r : RVs K ι H ys ws) :
    RH K ι (upd H p (.lst ws)) (S.set n (.lst ys)) :=
  h.writeC hp hs ⟨ws, r.ext (Ext.write hp hl), upd_same⟩ (Ext.write hp hl)
end

/-! ### what is wanted behind a denotation -/
/-- the dict of an error: its fields -/
def XF (K : PySem.W.Frag) (ι : List Addr) (H : Hp) (fs : List (Str × Val)) : Option Addr → Prop
  | none => fs = []
  | some d => fs ≠ [] ∧ ∃ vs : List (Str × V), H d = some (.xd vs) ∧ ∀ f x, fs.lookup f = some x → ∃ v, vs.lookup f = some v ∧ RV K ι H x v
structure Cfg where
  K : PySem.W.Frag
  cv : Nat → Value
section
variable (Γ : Cfg)
def FinX (W : Value → Option Addr → Hp → Prop) (ι : List Addr) (H : Hp) (e : Exn) (S : Store) : Prop :=
  ∀ ι' H' d, Ext ι H ι' H' → RH Γ.K ι' H' S → XF Γ.K ι' H' e.fs d → W (Γ.cv e.cls) d H'
def FinG {α β : Type} (R : List Addr → Hp → α → β → Prop) (W : Value → Option Addr → Hp → Prop) (ι : List Addr) (H : Hp) (Q : β → Hp → Prop) : Res α → Prop
  | .ok x S => ∀ ι' H' v, Ext ι H ι' H' → RH Γ.K ι' H' S → R ι' H' x v → Q v H'
  | .exc e S => FinX Γ W ι H e S
  | .stuck => False
abbrev Fin (W : Value → Option Addr → Hp → Prop) (ι : List Addr) (H : Hp) (Q : VK) (r : Res Val) : Prop := FinG Γ (RV Γ.K) W ι H Q r
abbrev FinT (W : Value → Option Addr → Hp → Prop) (ι : List Addr) (H : Hp) (Q : Bool → Hp → Prop) (r : Res Bool) : Prop := FinG Γ (fun _ _ => Eq) W ι H Q r
abbrev FinA (W : Value → Option Addr → Hp → Prop) (ι : List Addr) (H : Hp) (Q : List V → Hp → Prop) (r : Res (List Val)) : Prop := FinG Γ (RVs Γ.K) W ι H Q r
/-- what a denotation promises, as a reading -/
def TG' {α β : Type} (R : List Addr → Hp → α → β → Prop) (W : WX) (f : Env → Store → Res α) : St → Hp → (β → Hp → Prop) → Prop := fun σ H Q =>
  ∃ ι ρ S, RS Γ.K ι H ρ σ ∧ RH Γ.K ι H S ∧ FinG Γ R (fun c d H' => W c d σ H') ι H Q (f ρ S)
abbrev TD (W : WX) (f : D) : TE := TG' Γ (RV Γ.K) W f
abbrev TDT (W : WX) (f : DT) : TT := TG' Γ (fun _ _ => Eq) W f
abbrev TDA (W : WX) (f : DA) : TA := TG' Γ (RVs Γ.K) W f
end
section
variable {Γ : Cfg} {α β γ δ : Type} {R : List Addr → Hp → α → β → Prop} {R2 : List Addr → Hp → γ → δ → Prop} {W : Value → Option Addr → Hp → Prop} {ι ι' : List Addr} {H H' : Hp}
theorem FinG.weak {Q : β → Hp → Prop} {r : Res α} (e : Ext ι H ι' H') (h : FinG Γ R W ι H Q r) : FinG Γ R W ι' H' Q r := by
  cases r with
  | ok x S => exact fun ι2 H2 v e2 a b => h ι2 H2 v (e.trans e2) a b
  | exc x S => exact fun ι2 H2 d e2 a b => h ι2 H2 d (e.trans e2) a b
  | stuck => exact h
theorem FinG.bind {Q : δ → Hp → Prop} {Q' : β → Hp → Prop} {r : Res α} {k : α → Store → Res γ} (h : FinG Γ R2 W ι H Q (r.bind k))
    (hk : ∀ x S1 ι1 H1 v, Ext ι H ι1 H1 → RH Γ.K ι1 H1 S1 → R ι1 H1 x v → FinG Γ R2 W ι1 H1 Q (k x S1) → Q' v H1) : FinG Γ R W ι H Q' r := by
  cases r with
  | ok x S => exact fun ι1 H1 v e a b => hk x S ι1 H1 v e a b (FinG.weak e h)
  | exc x S => exact h
  | stuck => exact h
/-- a value at once -/
theorem FinG.here {Q : β → Hp → Prop} {x : α} {v : β} {S : Store} (h : FinG Γ R W ι H Q (.ok x S)) (a : RH Γ.K ι H S) (b : R ι H x v) : Q v H := h ι H v .refl a b
end
theorem _root_.L2.PE.imp {X : Cx} {e : Expr} {t t' : TE} (h : PE X e t) (q : ∀ σ H Q, t' σ H Q → t σ H Q) : PE X e t' := ⟨fun pins s σ H Q I hw => h.run pins s σ H Q I (q _ _ _ hw)⟩
theorem _root_.L2.PT.imp {X : Cx} {e : Expr} {t t' : TT} (h : PT X e t) (q : ∀ σ H Q, t' σ H Q → t σ H Q) : PT X e t' := ⟨fun pins s σ H Q I hw => h.run pins s σ H Q I (q _ _ _ hw)⟩
theorem _root_.L2.PW.imp {X : Cx} {e : Expr} {t t' : TT} (h : PW X e t) (q : ∀ σ H Q, t' σ H Q → t σ H Q) : PW X e t' := ⟨fun wh pins s σ H Q I hw => h.run wh pins s σ H Q I (q _ _ _ hw)⟩
theorem _root_.L2.PA.imp {X : Cx} {es : List Expr} {t t' : TA} (h : PA X es t) (q : ∀ σ H Q, t' σ H Q → t σ H Q) : PA X es t' := ⟨fun pos pins s σ H Q I hw => h.run pos pins s σ H Q I (q _ _ _ hw)⟩
theorem _root_.L2.PS.imp {X : Cx} {e : Stmt} {t t' : TS} (h : PS X e t) (q : ∀ D σ H, t' D σ H → t D σ H) : PS X e t' := ⟨fun pins s σ H D I hw => h.run pins s σ H D I (q _ _ _ hw)⟩
theorem _root_.L2.PSs.imp {X : Cx} {e : List Stmt} {t t' : TS} (h : PSs X e t) (q : ∀ D σ H, t' D σ H → t D σ H) : PSs X e t' := ⟨fun pins s σ H D I hw => h.run pins s σ H D I (q _ _ _ hw)⟩
end PD

/-! ## PDRules -/
set_option Elab.async false
set_option linter.all false
set_option maxRecDepth 100000
set_option maxHeartbeats 2000000
namespace PD
open PySem PySem.Spec L2

/-! ### expressions -/
def dVar (i : Nat) : D := fun ρ S => match ρ[i]? with
  | some (some v) => .ok v S
  | _ => .stuck
def dC (v : Val) : D := fun _ S => .ok v S
abbrev Op2 := Val → Val → Store → Res Val
def dOp (o : Op2) (f g : D) : D := fun ρ S => (f ρ S).bind fun x S1 => (g ρ S1).bind fun y S2 => o x y S2
def dUn (o : Val → Store → Res Val) (f : D) : D := fun ρ S => (f ρ S).bind fun x S1 => o x S1
def aNil : DA := fun _ S => .ok [] S
def aCons (f : D) (g : DA) : DA := fun ρ S => (f ρ S).bind fun x S1 => (g ρ S1).bind fun xs S2 => .ok (x :: xs) S2
def dTup (g : DA) : D := fun ρ S => (g ρ S).bind fun xs S1 => if xs.length ≤ 16777216 then .ok (.tup xs) S1 else .stuck
def dLst (g : DA) : D := fun ρ S => (g ρ S).bind fun xs S1 => if xs.length ≤ 16777216 then .ok (.ref S1.length) (S1 ++ [.lst xs]) else .stuck
/-- a def, a built-in: of the values of its arguments -/
abbrev Fn := List Val → Store → Res Val
def dCall (F : Fn) (g : DA) : D := fun ρ S => (g ρ S).bind fun xs S1 => F xs S1
/-- tests -/
def tVal (f : D) : DT := fun ρ S => (f ρ S).bind fun x S1 => match x with
  | .bl b => .ok b S1
  | _ => .stuck
def tAnd' (f g : DT) : DT := fun ρ S => (f ρ S).bind fun b S1 => if b = true then g ρ S1 else .ok false S1
def tOr' (f g : DT) : DT := fun ρ S => (f ρ S).bind fun b S1 => if b = true then .ok true S1 else g ρ S1
def tNot' (f : DT) : DT := fun ρ S => (f ρ S).bind fun b S1 => .ok (!b) S1
def dAnd (f g : D) : D := fun ρ S => (f ρ S).bind fun x S1 => match x with
  | .bl true => g ρ S1
  | .bl false => .ok (.bl false) S1
  | _ => .stuck
def dOr (f g : D) : D := fun ρ S => (f ρ S).bind fun x S1 => match x with
  | .bl true => .ok (.bl true) S1
  | .bl false => g ρ S1
  | _ => .stuck
def dNot (f : D) : D := fun ρ S => (f ρ S).bind fun x S1 => match x with
  | .bl b => .ok (.bl (!b)) S1
  | _ => .stuck
def dIf (t : DT) (f g : D) : D := fun ρ S => (t ρ S).bind fun b S1 => if b = true then f ρ S1 else g ρ S1

section
variable {X : Cx} {cv : Nat → Value} {W : WX} {e a b : Expr} {es rest : List Expr} {pos : Pos}
abbrev Gm (X : Cx) (cv : Nat → Value) : Cfg := ⟨X.K, cv⟩
theorem pd_var {i : Nat} (h : PE X e (L2.tVar i)) : PE X e (TD (Gm X cv) W (dVar i)) := h.imp fun σ H Q ⟨ι, ρ, S, hs, hh, q⟩ => by
  unfold dVar at q
  split at q
  · rename_i v e1
    obtain ⟨u, e2, r⟩ := hs.2 i v e1
    exact ⟨u, e2, q.here hh r⟩
  · exact q.elim
theorem pd_c {v : Val} {u : V} (h : PE X e (L2.tC u)) (r : ∀ ι H, RV X.K ι H v u) : PE X e (TD (Gm X cv) W (dC v)) := h.imp fun σ H Q ⟨ι, ρ, S, hs, hh, q⟩ => q.here hh (r ι H)
theorem pd_int {i j pos} : PE X (.Constant (.int i) j pos) (TD (Gm X cv) W (dC (.int i))) := pd_c pe_int fun _ _ => .int i
theorem pd_bl {i j pos} : PE X (.Constant (.bool i) j pos) (TD (Gm X cv) W (dC (.bl i))) := pd_c pe_bl fun _ _ => .bl i
theorem pd_str {i j pos} : PE X (.Constant (.str i) j pos) (TD (Gm X cv) W (dC (.str i))) := pd_c pe_str fun _ _ => .str i
theorem pd_non {j pos} : PE X (.Constant .none j pos) (TD (Gm X cv) W (dC .non)) := pd_c pe_non fun _ _ => .non

/-- what a value-level operation must be for a rule -/
def OK2 (K : PySem.W.Frag) (r : L2.R2) (o : Op2) : Prop := ∀ (cv : Nat → Value) (ι : List Addr) (H : Hp) (S : Store) (x y : Val) (u v : V) (W : Value → Option Addr → Hp → Prop) (Q : VK),
  RH K ι H S → RV K ι H x u → RV K ι H y v → Fin ⟨K, cv⟩ W ι H Q (o x y S) → r u v H Q
def OK1 (K : PySem.W.Frag) (r : V → Hp → VK → Prop) (o : Val → Store → Res Val) : Prop := ∀ (cv : Nat → Value) (ι : List Addr) (H : Hp) (S : Store) (x : Val) (u : V) (W : Value → Option Addr → Hp → Prop) (Q : VK),
  RH K ι H S → RV K ι H x u → Fin ⟨K, cv⟩ W ι H Q (o x S) → r u H Q
def OKA (K : PySem.W.Frag) (r : List V → Hp → VK → Prop) (o : Fn) : Prop := ∀ (cv : Nat → Value) (ι : List Addr) (H : Hp) (S : Store) (xs : List Val) (us : List V) (W : Value → Option Addr → Hp → Prop) (Q : VK),
  RH K ι H S → RVs K ι H xs us → Fin ⟨K, cv⟩ W ι H Q (o xs S) → r us H Q
theorem pd_two {f g : D} {r : L2.R2} {o : Op2} (ho : OK2 X.K r o) {σ : L2.St} {H : Hp} {Q : VK} (h : TD (Gm X cv) W (dOp o f g) σ H Q) : tOp r (TD (Gm X cv) W f) (TD (Gm X cv) W g) σ H Q := by
  obtain ⟨ι, ρ, S, hs, hh, q⟩ := h
  refine ⟨ι, ρ, S, hs, hh, FinG.bind q fun x S1 ι1 H1 u e1 h1 r1 q1 => ?_⟩
  refine ⟨ι1, ρ, S1, hs.ext e1, h1, FinG.bind q1 fun y S2 ι2 H2 v e2 h2 r2 q2 => ?_⟩
  exact ho cv ι2 H2 S2 x y u v _ Q h2 (r1.ext e2) r2 q2
theorem pd_op {op : Operator} {f g : D} {r : L2.R2} {o : Op2} (hr : OpR X (binaryOp op) r) (ho : OK2 X.K r o) (ha : PE X a (TD (Gm X cv) W f)) (hb : PE X b (TD (Gm X cv) W g)) : PE X (.BinOp a op b pos) (TD (Gm X cv) W (dOp o f g)) :=
  (pe_op hr ha hb).imp fun _ _ _ h => pd_two ho h
theorem pd_un {op : UnaryOp} {f : D} {r : V → Hp → VK → Prop} {o : Val → Store → Res Val} (hr : UnR X (unaryOp op) r) (ho : OK1 X.K r o) (ha : PE X a (TD (Gm X cv) W f)) : PE X (.UnaryOp op a pos) (TD (Gm X cv) W (dUn o f)) :=
  (pe_un hr ha).imp fun σ H Q h => by
    obtain ⟨ι, ρ, S, hs, hh, q⟩ := h
    refine ⟨ι, ρ, S, hs, hh, FinG.bind q fun x S1 ι1 H1 u e1 h1 r1 q1 => ?_⟩
    exact ho cv ι1 H1 S1 x u _ Q h1 r1 q1
theorem pd_cmp {op : CmpOp} {f g : D} {r : L2.R2} {o : Op2} (hr : OpR X (compareOp op) r) (ho : OK2 X.K r o) (ha : PE X a (TD (Gm X cv) W f)) (hb : PE X b (TD (Gm X cv) W g)) (hm : behindInMarks op b = false) : PE X (.Compare a [op] [b] pos) (TD (Gm X cv) W (dOp o f g)) :=
  (pe_cmpR hr ha hb hm).imp fun _ _ _ h => pd_two ho h
theorem pdt_cmp {op : CmpOp} {f g : D} {r : L2.R2} {o : Op2} (hr : OpR X (compareOp op) r) (ho : OK2 X.K r o) (ha : PE X a (TD (Gm X cv) W f)) (hb : PE X b (TD (Gm X cv) W g)) (hm : behindInMarks op b = false) : PT X (.Compare a [op] [b] pos) (TDT (Gm X cv) W (tVal (dOp o f g))) :=
  (pt_cmpR hr ha hb hm).imp fun σ H Q h => by
    obtain ⟨ι, ρ, S, hs, hh, q⟩ := h
    refine pd_two (cv := cv) (W := W) ho ⟨ι, ρ, S, hs, hh, ?_⟩
    refine FinG.bind q fun x S1 ι1 H1 u e1 h1 r1 q1 => ?_
    cases x with
    | bl c => cases r1; exact ⟨c, rfl, q1.here h1 rfl⟩
    | _ => exact q1.elim
/-- a test by the value of an expression -/
theorem pdt_val {f : D} (h : PE X e (TD (Gm X cv) W f)) (he : ∀ whole, isTrue e X.env whole = (do let v ← whole; standAt e.pos; holding [v] (truthy v)) := by intro _; rfl) : PT X e (TDT (Gm X cv) W (tVal f)) :=
  (pt_val h he).imp fun σ H Q h => by
    obtain ⟨ι, ρ, S, hs, hh, q⟩ := h
    refine ⟨ι, ρ, S, hs, hh, ?_⟩
    refine FinG.bind q fun x S1 ι1 H1 u e1 h1 r1 q1 => ?_
    cases x with
    | bl c => cases r1; exact ⟨c, rfl, q1.here h1 rfl⟩
    | _ => exact q1.elim
theorem pdw_one {f : DT} {op} (h : PT X a (TDT (Gm X cv) W f)) (ho : op = BoolOp.And ∨ op = .Or) : PW X (.BoolOp op [a] pos) (TDT (Gm X cv) W f) := by
  rcases ho with rfl | rfl
  · exact pw_and1 h
  · exact pw_or1 h
theorem pdw_and {f g : DT} (ha : PT X a (TDT (Gm X cv) W f)) (hb : PW X (.BoolOp .And (b :: rest) pos) (TDT (Gm X cv) W g)) : PW X (.BoolOp .And (a :: b :: rest) pos) (TDT (Gm X cv) W (tAnd' f g)) :=
  (pw_and ha hb).imp fun σ H Q h => by
    obtain ⟨ι, ρ, S, hs, hh, q⟩ := h
    refine ⟨ι, ρ, S, hs, hh, FinG.bind q fun x S1 ι1 H1 u e1 h1 r1 q1 => ?_⟩
    cases r1
    cases x with
    | true => exact ⟨ι1, ρ, S1, hs.ext e1, h1, q1⟩
    | false => exact q1.here h1 rfl
theorem pdw_or {f g : DT} (ha : PT X a (TDT (Gm X cv) W f)) (hb : PW X (.BoolOp .Or (b :: rest) pos) (TDT (Gm X cv) W g)) : PW X (.BoolOp .Or (a :: b :: rest) pos) (TDT (Gm X cv) W (tOr' f g)) :=
  (pw_or ha hb).imp fun σ H Q h => by
    obtain ⟨ι, ρ, S, hs, hh, q⟩ := h
    refine ⟨ι, ρ, S, hs, hh, FinG.bind q fun x S1 ι1 H1 u e1 h1 r1 q1 => ?_⟩
    cases r1
    cases x with
    | false => exact ⟨ι1, ρ, S1, hs.ext e1, h1, q1⟩
    | true => exact q1.here h1 rfl
theorem pdt_not {f : DT} (h : PT X a (TDT (Gm X cv) W f)) : PT X (.UnaryOp .Not a pos) (TDT (Gm X cv) W (tNot' f)) :=
  (pt_not h).imp fun σ H Q h => by
    obtain ⟨ι, ρ, S, hs, hh, q⟩ := h
    refine ⟨ι, ρ, S, hs, hh, FinG.bind q fun x S1 ι1 H1 u e1 h1 r1 q1 => ?_⟩
    cases r1
    exact q1.here h1 rfl
theorem pd_one {op} {f : D} (h : PE X a (TD (Gm X cv) W f)) : PE X (.BoolOp op [a] pos) (TD (Gm X cv) W f) := pe_one h
theorem pd_and {f g : D} (ha : PE X a (TD (Gm X cv) W f)) (hb : PE X (.BoolOp .And (b :: rest) pos) (TD (Gm X cv) W g)) : PE X (.BoolOp .And (a :: b :: rest) pos) (TD (Gm X cv) W (dAnd f g)) :=
  (pe_and ha hb).imp fun σ H Q h => by
    obtain ⟨ι, ρ, S, hs, hh, q⟩ := h
    refine ⟨ι, ρ, S, hs, hh, FinG.bind q fun x S1 ι1 H1 u e1 h1 r1 q1 => ?_⟩
    cases x with
    | bl c =>
      cases r1
      refine ⟨c, rfl, ?_⟩
      cases c with
      | true => exact ⟨ι1, ρ, S1, hs.ext e1, h1, q1⟩
      | false => exact q1.here h1 (.bl false)
    | _ => exact q1.elim
theorem pd_or {f g : D} (ha : PE X a (TD (Gm X cv) W f)) (hb : PE X (.BoolOp .Or (b :: rest) pos) (TD (Gm X cv) W g)) : PE X (.BoolOp .Or (a :: b :: rest) pos) (TD (Gm X cv) W (dOr f g)) :=
  (pe_or ha hb).imp fun σ H Q h => by
    obtain ⟨ι, ρ, S, hs, hh, q⟩ := h
    refine ⟨ι, ρ, S, hs, hh, FinG.bind q fun x S1 ι1 H1 u e1 h1 r1 q1 => ?_⟩
    cases x with
    | bl c =>
      cases r1
      refine ⟨c, rfl, ?_⟩
      cases c with
      | false => exact ⟨ι1, ρ, S1, hs.ext e1, h1, q1⟩
      | true => exact q1.here h1 (.bl true)
    | _ => exact q1.elim
theorem pd_not {f : D} (ha : PE X a (TD (Gm X cv) W f)) : PE X (.UnaryOp .Not a pos) (TD (Gm X cv) W (dNot f)) :=
  (pe_not ha).imp fun σ H Q h => by
    obtain ⟨ι, ρ, S, hs, hh, q⟩ := h
    refine ⟨ι, ρ, S, hs, hh, FinG.bind q fun x S1 ι1 H1 u e1 h1 r1 q1 => ?_⟩
    cases x with
    | bl c => cases r1; exact ⟨c, rfl, q1.here h1 (.bl _)⟩
    | _ => exact q1.elim
theorem pd_if {t : DT} {f g : D} {c : Expr} (hc : PT X c (TDT (Gm X cv) W t)) (ha : PE X a (TD (Gm X cv) W f)) (hb : PE X b (TD (Gm X cv) W g)) : PE X (.IfExp c a b pos) (TD (Gm X cv) W (dIf t f g)) :=
  (pe_ifExp hc ha hb).imp fun σ H Q h => by
    obtain ⟨ι, ρ, S, hs, hh, q⟩ := h
    refine ⟨ι, ρ, S, hs, hh, FinG.bind q fun x S1 ι1 H1 u e1 h1 r1 q1 => ?_⟩
    cases r1
    cases x with
    | true => exact ⟨ι1, ρ, S1, hs.ext e1, h1, q1⟩
    | false => exact ⟨ι1, ρ, S1, hs.ext e1, h1, q1⟩
/-! ### lists of arguments, displays -/
theorem pda_nil : PA X [] (TDA (Gm X cv) W aNil) := pa_nil.imp fun σ H Q ⟨ι, ρ, S, hs, hh, q⟩ => q.here hh .nil
theorem pda_cons {f : D} {g : DA} (ha : PE X e (TD (Gm X cv) W f)) (hr : PA X es (TDA (Gm X cv) W g)) (hs : starEach (e :: es) X.env = (false, eval e X.env) :: starEach es X.env := by rfl) : PA X (e :: es) (TDA (Gm X cv) W (aCons f g)) :=
  (pa_cons ha hr hs).imp fun σ H Q h => by
    obtain ⟨ι, ρ, S, hs, hh, q⟩ := h
    refine ⟨ι, ρ, S, hs, hh, FinG.bind q fun x S1 ι1 H1 u e1 h1 r1 q1 => ?_⟩
    refine ⟨ι1, ρ, S1, hs.ext e1, h1, FinG.bind q1 fun y S2 ι2 H2 v e2 h2 r2 q2 => ?_⟩
    exact q2.here h2 (.cons (r1.ext e2) r2)
theorem pd_tup {g : DA} {k} (h : PA X es (TDA (Gm X cv) W g)) : PE X (.Tuple es k pos) (TD (Gm X cv) W (dTup g)) :=
  (pe_tup h).imp fun σ H Q h => by
    obtain ⟨ι, ρ, S, hs, hh, q⟩ := h
    refine ⟨ι, ρ, S, hs, hh, FinG.bind q fun xs S1 ι1 H1 us e1 h1 r1 q1 => ?_⟩
    split at q1
    · rename_i hl
      refine ⟨by rw [← r1.length, sizeLine_eq]; exact hl, fun p hp => ?_⟩
      exact q1 _ _ _ (Ext.fresh hp) (h1.fresh hp) (.tup (SqT.of upd_same) (r1.ext (Ext.fresh hp)))
    · exact q1.elim
theorem pd_lst {g : DA} (h : PA X es (TDA (Gm X cv) W g)) : PE X (.List es pos) (TD (Gm X cv) W (dLst g)) :=
  (pe_lst h).imp fun σ H Q h => by
    obtain ⟨ι, ρ, S, hs, hh, q⟩ := h
    refine ⟨ι, ρ, S, hs, hh, FinG.bind q fun xs S1 ι1 H1 us e1 h1 r1 q1 => ?_⟩
    split at q1
    · rename_i hl
      refine ⟨by rw [← r1.length, sizeLine_eq]; exact hl, fun p hp => ?_⟩
      refine q1 _ _ _ (Ext.alloc hp) (h1.alloc hp r1) (.ref ?_ ⟨_, upd_same⟩)
      rw [← h1.len]; simp
    · exact q1.elim
end
end PD

/-! ## PDStm -/
set_option Elab.async false
set_option linter.all false
set_option maxRecDepth 100000
set_option maxHeartbeats 2000000
namespace PD
open PySem PySem.Spec L2

/-! ### statements -/
inductive SRes where
  | next (ρ : Env) (S : Store) | ret (v : Val) (S : Store) | brk (ρ : Env) (S : Store) | cont (ρ : Env) (S : Store) | exc (e : Exn) (ρ : Env) (S : Store) | stuck
abbrev SD := Env → Store → SRes
def Res.toS {α : Type} (r : Res α) (ρ : Env) (k : α → Store → SRes) : SRes := match r with
  | .ok a S => k a S
  | .exc e S => .exc e ρ S
  | .stuck => .stuck
def SRes.seq (r : SRes) (k : Env → Store → SRes) : SRes := match r with
  | .next ρ S => k ρ S
  | r => r
def FinS (Γ : Cfg) (W : WX) (ι : List Addr) (H : Hp) (D : Ends) : SRes → Prop
  | .next ρ S => ∀ ι' H' σ', Ext ι H ι' H' → RH Γ.K ι' H' S → RS Γ.K ι' H' ρ σ' → D.nx σ' H'
  | .brk ρ S => ∀ ι' H' σ', Ext ι H ι' H' → RH Γ.K ι' H' S → RS Γ.K ι' H' ρ σ' → D.bk σ' H'
  | .cont ρ S => ∀ ι' H' σ', Ext ι H ι' H' → RH Γ.K ι' H' S → RS Γ.K ι' H' ρ σ' → D.ct σ' H'
  | .ret x S => ∀ ι' H' v, Ext ι H ι' H' → RH Γ.K ι' H' S → RV Γ.K ι' H' x v → D.rt v H'
  | .exc e ρ S => ∀ ι' H' σ' d, Ext ι H ι' H' → RH Γ.K ι' H' S → RS Γ.K ι' H' ρ σ' → XF Γ.K ι' H' e.fs d → W (Γ.cv e.cls) d σ' H'
  | .stuck => False
def TSD (Γ : Cfg) (W : WX) (f : SD) : TS := fun D σ H => ∃ ι ρ S, RS Γ.K ι H ρ σ ∧ RH Γ.K ι H S ∧ FinS Γ W ι H D (f ρ S)
section
variable {Γ : Cfg} {W : WX} {ι ι' : List Addr} {H H' : Hp} {D : Ends}
theorem FinS.weak {r : SRes} (e : Ext ι H ι' H') (h : FinS Γ W ι H D r) : FinS Γ W ι' H' D r := by
  cases r with
  | next ρ S => exact fun ι2 H2 v e2 a b => h ι2 H2 v (e.trans e2) a b
  | brk ρ S => exact fun ι2 H2 v e2 a b => h ι2 H2 v (e.trans e2) a b
  | cont ρ S => exact fun ι2 H2 v e2 a b => h ι2 H2 v (e.trans e2) a b
  | ret x S => exact fun ι2 H2 v e2 a b => h ι2 H2 v (e.trans e2) a b
  | exc x ρ S => exact fun ι2 H2 v d e2 a b c => h ι2 H2 v d (e.trans e2) a b c
  | stuck => exact h
theorem FinS.bind {α β : Type} {R : List Addr → Hp → α → β → Prop} {Q' : β → Hp → Prop} {r : Res α} {ρ : Env} {σ : L2.St} {k : α → Store → SRes} (h : FinS Γ W ι H D (r.toS ρ k)) (hs : RS Γ.K ι H ρ σ)
    (hk : ∀ x S1 ι1 H1 v, Ext ι H ι1 H1 → RH Γ.K ι1 H1 S1 → R ι1 H1 x v → FinS Γ W ι1 H1 D (k x S1) → Q' v H1) : FinG Γ R (fun c d H' => W c d σ H') ι H Q' r := by
  cases r with
  | ok x S => exact fun ι1 H1 v e a b => hk x S ι1 H1 v e a b (FinS.weak e h)
  | exc x S => exact fun ι1 H1 d e a b => h ι1 H1 σ d e a (hs.ext e) b
  | stuck => exact h
theorem FinS.next {ρ : Env} {σ : L2.St} {S : Store} (h : FinS Γ W ι H D (.next ρ S)) (a : RH Γ.K ι H S) (b : RS Γ.K ι H ρ σ) : D.nx σ H := h ι H σ .refl a b
theorem FinS.seq {r : SRes} {k : Env → Store → SRes} (h : FinS Γ W ι H D (r.seq k)) : FinS Γ W ι H { D with nx := TSD Γ W k D } r := by
  cases r with
  | next ρ S => exact fun ι1 H1 σ1 e a b => ⟨ι1, ρ, S, b, a, FinS.weak e h⟩
  | _ => exact h
theorem RS.set {K : PySem.W.Frag} {ρ : Env} {σ : L2.St} {x : Val} {v : V} (h : RS K ι H ρ σ) (r : RV K ι H x v) (i : Nat) : RS K ι H (ρ.set i (some x)) (σ.set i (some v)) := by
  refine ⟨by simp [h.1], fun j y e => ?_⟩
  by_cases q : i = j
  · subst q
    by_cases hl : i < ρ.length
    · rw [List.getElem?_set_self hl] at e
      cases e
      exact ⟨v, by rw [List.getElem?_set_self (by rw [← h.1]; exact hl)], r⟩
    · rw [List.getElem?_eq_none (by simp; omega)] at e; cases e
  · rw [List.getElem?_set_ne q] at e
    obtain ⟨u, a, b⟩ := h.2 j y e
    exact ⟨u, by rw [List.getElem?_set_ne q]; exact a, b⟩
end

def sNext : SD := fun ρ S => .next ρ S
def sSeq (f g : SD) : SD := fun ρ S => (f ρ S).seq g
def sIf (t : DT) (f g : SD) : SD := fun ρ S => (t ρ S).toS ρ fun b S1 => if b = true then f ρ S1 else g ρ S1
def sRet (f : D) : SD := fun ρ S => (f ρ S).toS ρ fun x S1 => .ret x S1
def sRetN : SD := fun _ S => .ret .non S
def sDrop (f : D) : SD := fun ρ S => (f ρ S).toS ρ fun _ S1 => .next ρ S1
def sSet (i : Nat) (f : D) : SD := fun ρ S => (f ρ S).toS ρ fun x S1 => .next (ρ.set i (some x)) S1
/-- targets -/
abbrev TgD := Val → Env → Option Env
def gN (i : Nat) : TgD := fun x ρ => some (ρ.set i (some x))
def gTs : List TgD → List Val → Env → Option Env
  | [], [], ρ => some ρ
  | t :: ts, x :: xs, ρ => (t x ρ).bind fun ρ' => gTs ts xs ρ'
  | _, _, _ => none
def gT (ts : List TgD) : TgD := fun x ρ => match x with
  | .tup xs => gTs ts xs ρ
  | _ => none
def sAsg (t : TgD) (f : D) : SD := fun ρ S => (f ρ S).toS ρ fun x S1 => match t x ρ with
  | some ρ' => .next ρ' S1
  | none => .stuck
/-- a, b = x, y -/
def sPar (i j : Nat) (g : DA) : SD := fun ρ S => (g ρ S).toS ρ fun xs S1 => match xs with
  | [x, y] => .next ((ρ.set i (some x)).set j (some y)) S1
  | _ => .stuck
/-- o[i] = e, o a list -/
def ixS (n : Nat) (k : Int) : Option Nat := if 0 ≤ k then (if k < n then some k.toNat else none) else if 0 ≤ k + n then some (k + n).toNat else none
def setAt (o i x : Val) (S : Store) : Option Store := match o, i with
  | .ref n, .int k => match S[n]? with
    | some (.lst xs) => match ixN xs.length k with
      | some j => some (S.set n (.lst (xs.set j x)))
      | none => none
    | _ => none
  | _, _ => none
def sPut (fo fi f : D) : SD := fun ρ S => (f ρ S).toS ρ fun x S1 => (fo ρ S1).toS ρ fun o S2 => (fi ρ S2).toS ρ fun i S3 => match setAt o i x S3 with
  | some S4 => .next ρ S4
  | none => .stuck
/-- a for's body, its outcome -/
def SRes.turn (r : SRes) (k : Env → Store → SRes) : SRes := match r with
  | .next ρ S => k ρ S
  | .cont ρ S => k ρ S
  | .brk ρ S => .next ρ S
  | r => r
/-- over values that stand still (a range, a tuple) -/
def loopV0 (t : TgD) (b : SD) : List Val → SD
  | [], ρ, S => .next ρ S
  | x :: xs, ρ, S => match t x ρ with
    | none => .stuck
    | some ρ1 => (b ρ1 S).turn (loopV0 t b xs)
@[irreducible] def loopV (t : TgD) (b : SD) : List Val → SD := loopV0 t b
theorem loopV_nil {t : TgD} {b : SD} {ρ : Env} {S : Store} : loopV t b [] ρ S = .next ρ S := by unfold loopV; rfl
theorem loopV_cons {t : TgD} {b : SD} {x : Val} {xs : List Val} {ρ : Env} {S : Store} : loopV t b (x :: xs) ρ S = match t x ρ with
    | none => .stuck
    | some ρ1 => (b ρ1 S).turn (loopV t b xs) := by unfold loopV; rfl
def Cell.items : Cell → List Val
  | .lst xs => xs
  | _ => []
/-- over a list at n: i turns have been, at most m are left -/
def loopC (n : Nat) (t : TgD) (b : SD) : Nat → Nat → SD
  | 0, i, ρ, S => match S[n]? with
    | some c => if c.items.length ≤ i then .next ρ S else .stuck
    | none => .stuck
  | m + 1, i, ρ, S => match S[n]? with
    | some c => match c.items[i]? with
      | none => .next ρ S
      | some x => match t x ρ with
        | none => .stuck
        | some ρ1 => (b ρ1 S).turn (loopC n t b m (i + 1))
    | none => .stuck
def sForC (f : D) (t : TgD) (b : SD) : SD := fun ρ S => (f ρ S).toS ρ fun x S1 => match x with
  | .ref n => match S1[n]? with
    | some c => loopC n t b c.items.length 0 ρ S1
    | none => .stuck
  | _ => .stuck
def sForT (f : D) (t : TgD) (b : SD) : SD := fun ρ S => (f ρ S).toS ρ fun x S1 => match x with
  | .tup xs => loopV t b xs ρ S1
  | _ => .stuck
def rangeV (lo : Int) (n : Nat) : List Val := (List.range n).map fun (i : Nat) => Val.int (lo + (i : Int))
def sForR (g : DA) (t : TgD) (b : SD) : SD := fun ρ S => (g ρ S).toS ρ fun xs S1 => match xs with
  | [.int j] => if -(2 ^ 62) ≤ j ∧ j < 2 ^ 62 then loopV t b (rangeV 0 j.toNat) ρ S1 else .stuck
  | _ => .stuck

section
variable {X : Cx} {cv : Nat → Value} {W : WX} {e a b c o : Expr} {st : Stmt} {es rest : List Expr} {sts as bs : List Stmt} {pos pos' : Pos}
theorem ps_nil' : PSs X [] (TSD (Gm X cv) W sNext) := pss_nil.imp fun D σ H ⟨ι, ρ, S, hs, hh, q⟩ => q.next hh hs
theorem ps_cons' {f g : SD} (h1 : PS X st (TSD (Gm X cv) W f)) (h2 : PSs X sts (TSD (Gm X cv) W g)) : PSs X (st :: sts) (TSD (Gm X cv) W (sSeq f g)) :=
  (pss_cons h1 h2).imp fun D σ H ⟨ι, ρ, S, hs, hh, q⟩ => ⟨ι, ρ, S, hs, hh, FinS.seq q⟩
theorem ps_one' {f : SD} (h1 : PS X st (TSD (Gm X cv) W f)) : PSs X [st] (TSD (Gm X cv) W f) := pss_one h1
theorem ps_pass' : PS X (.Pass pos) (TSD (Gm X cv) W sNext) := ps_pass.imp fun D σ H ⟨ι, ρ, S, hs, hh, q⟩ => q.next hh hs
theorem ps_if' {t : DT} {f g : SD} (hc : PT X c (TDT (Gm X cv) W t)) (ha : PSs X as (TSD (Gm X cv) W f)) (hb : PSs X bs (TSD (Gm X cv) W g)) : PS X (.If c as bs pos) (TSD (Gm X cv) W (sIf t f g)) :=
  (ps_if hc ha hb).imp fun D σ H ⟨ι, ρ, S, hs, hh, q⟩ => by
    refine ⟨ι, ρ, S, hs, hh, FinS.bind (R := fun _ _ => Eq) q hs fun x S1 ι1 H1 u e1 h1 r1 q1 => ?_⟩
    cases r1
    cases x with
    | true => exact ⟨ι1, ρ, S1, hs.ext e1, h1, q1⟩
    | false => exact ⟨ι1, ρ, S1, hs.ext e1, h1, q1⟩
theorem ps_ret' {f : D} (h : PE X e (TD (Gm X cv) W f)) : PS X (.Return (some e) pos) (TSD (Gm X cv) W (sRet f)) :=
  (ps_ret h).imp fun D σ H ⟨ι, ρ, S, hs, hh, q⟩ => ⟨ι, ρ, S, hs, hh, FinS.bind q hs fun x S1 ι1 H1 u e1 h1 r1 q1 => q1 ι1 H1 u .refl h1 r1⟩
theorem ps_retN' : PS X (.Return none pos) (TSD (Gm X cv) W sRetN) := ps_retN.imp fun D σ H ⟨ι, ρ, S, hs, hh, q⟩ => q ι H .non .refl hh .non
theorem ps_expr' {f : D} (h : PE X e (TD (Gm X cv) W f)) (hs : swapsWith e none pos.line X.env = pure false := by rfl) : PS X (.Expr e pos) (TSD (Gm X cv) W (sDrop f)) :=
  (ps_expr h hs).imp fun D σ H ⟨ι, ρ, S, hs, hh, q⟩ => ⟨ι, ρ, S, hs, hh, FinS.bind q hs fun x S1 ι1 H1 u e1 h1 r1 q1 => q1.next h1 (hs.ext e1)⟩
theorem ps_set' {i : Nat} {x : Str} {f : D} (hN : X.N.Nodup) (hi : X.N[i]? = some x) (hx : Loc X.env.scope x) (he : PE X e (TD (Gm X cv) W f)) (hs : swapsWith e (some (.Name x pos')) pos.line X.env = pure false := by rfl)
    (hf : X.fn x = true ∨ X.env.scope.names.lookup x = some .local := by first | exact .inl rfl | exact .inr rfl | assumption) : PS X (.Assign [.Name x pos'] e pos) (TSD (Gm X cv) W (sSet i f)) :=
  (ps_set hN hi hx he hs hf).imp fun D σ H ⟨ι, ρ, S, hs, hh, q⟩ => ⟨ι, ρ, S, hs, hh, FinS.bind q hs fun x S1 ι1 H1 u e1 h1 r1 q1 => q1.next h1 ((hs.ext e1).set r1 i)⟩
/-- a target does as it says -/
def TgOk (K : PySem.W.Frag) (g : TG) (t : TgD) : Prop := ∀ (ι : List Addr) (H : Hp) (ρ ρ' : Env) (σ : L2.St) (x : Val) (v : V) (Q : L2.St → Hp → Prop),
  RS K ι H ρ σ → RV K ι H x v → t x ρ = some ρ' → (∀ σ', RS K ι H ρ' σ' → Q σ' H) → g v σ H Q
def TgsOk (K : PySem.W.Frag) (g : TGs) (ts : List TgD) : Prop := ∀ (ι : List Addr) (H : Hp) (ρ ρ' : Env) (σ : L2.St) (xs : List Val) (vs : List V) (Q : L2.St → Hp → Prop),
  RS K ι H ρ σ → RVs K ι H xs vs → gTs ts xs ρ = some ρ' → (∀ σ', RS K ι H ρ' σ' → Q σ' H) → g vs σ H Q
theorem tg_name (K : PySem.W.Frag) (i : Nat) : TgOk K (gName i) (gN i) := fun ι H ρ ρ' σ x v Q hs r e h => by
  cases e
  exact h _ (hs.set r i)
theorem tgs_nil (K : PySem.W.Frag) : TgsOk K gNil [] := fun ι H ρ ρ' σ xs vs Q hs r e h => by
  cases r with
  | nil => cases e; exact ⟨rfl, h _ hs⟩
  | cons _ _ => cases e
theorem tgs_cons {K : PySem.W.Frag} {g : TG} {gs : TGs} {t : TgD} {ts : List TgD} (h1 : TgOk K g t) (h2 : TgsOk K gs ts) : TgsOk K (gCons g gs) (t :: ts) := fun ι H ρ ρ' σ xs vs Q hs r e h => by
  cases r with
  | nil => cases e
  | cons r rr =>
    rename_i x v xs vs
    have e' : (t x ρ).bind (fun ρ' => gTs ts xs ρ') = some ρ' := e
    cases q : t x ρ with
    | none => rw [q] at e'; cases e'
    | some ρ1 =>
      rw [q] at e'
      exact ⟨v, vs, rfl, h1 ι H ρ ρ1 σ x v _ hs r q fun σ1 hs1 => h2 ι H ρ1 ρ' σ1 xs vs Q hs1 rr e' h⟩
theorem gTs_length : ∀ {ts : List TgD} {xs : List Val} {ρ ρ' : Env}, gTs ts xs ρ = some ρ' → xs.length = ts.length
  | [], [], _, _, _ => rfl
  | [], _ :: _, _, _, h => nomatch h
  | _ :: _, [], _, _, h => nomatch h
  | t :: ts, x :: xs, ρ, ρ', h => by
    have e' : (t x ρ).bind (fun ρ' => gTs ts xs ρ') = some ρ' := h
    cases q : t x ρ with
    | none => rw [q] at e'; cases e'
    | some ρ1 =>
      rw [q] at e'
      rw [List.length_cons, List.length_cons, gTs_length (show gTs ts xs ρ1 = some ρ' from e')]
theorem tg_tup {K : PySem.W.Frag} {gs : TGs} {ts : List TgD} {n : Nat} (h : TgsOk K gs ts) (hn : ts.length = n) : TgOk K (gTup K n gs) (gT ts) := fun ι H ρ ρ' σ x v Q hs r e hq => by
  cases r with
  | tup ha rr => exact ⟨_, _, rfl, ha, by rw [← rr.length, ← hn]; exact gTs_length e, h ι H ρ ρ' σ _ _ Q hs rr e hq⟩
  | _ => cases e
theorem ps_asg' {tg : Expr} {f : D} {g : TG} {t : TgD} (he : PE X e (TD (Gm X cv) W f)) (hg : PG X tg g) (ht : TgOk X.K g t) (hs : swapsWithSole [tg] e pos.line X.env = pure false := by rfl) (hw : swappedStores [tg] e X.env = pure none := by rfl)
    (h1 : (assignEach [tg] X.env).map (·.2) = [assign tg X.env] := by rfl) : PS X (.Assign [tg] e pos) (TSD (Gm X cv) W (sAsg t f)) :=
  (ps_asg he hg hs hw h1).imp fun D σ H ⟨ι, ρ, S, hs, hh, q⟩ => ⟨ι, ρ, S, hs, hh, FinS.bind q hs fun x S1 ι1 H1 u e1 h1 r1 q1 => by
    split at q1
    · rename_i ρ' e2
      exact ht ι1 H1 ρ ρ' σ x u _ (hs.ext e1) r1 e2 fun σ' hs' => q1.next h1 hs'
    · exact q1.elim⟩
theorem ps_par' {i j : Nat} {x y : Str} {g : DA} {px py pt : Pos} {kt k2 pt2} (hc : X.calm = true) (hN : X.N.Nodup) (hi : X.N[i]? = some x) (hj : X.N[j]? = some y) (hij : i ≠ j)
    (hx : X.env.scope.names.lookup x = some .local) (hy : X.env.scope.names.lookup y = some .local) (ha : PA X [a, b] (TDA (Gm X cv) W g))
    (hw : swappedStores [.Tuple [.Name x px, .Name y py] kt pt] (.Tuple [a, b] k2 pt2) X.env = pure (some [x, y]))
    (hs : swapsWithSole [.Tuple [.Name x px, .Name y py] kt pt] (.Tuple [a, b] k2 pt2) pos.line X.env = pure false := by rfl) :
    PS X (.Assign [.Tuple [.Name x px, .Name y py] kt pt] (.Tuple [a, b] k2 pt2) pos) (TSD (Gm X cv) W (sPar i j g)) :=
  (ps_par hc hN hi hj hij hx hy ha hw hs).imp fun D σ H ⟨ι, ρ, S, hs, hh, q⟩ => ⟨ι, ρ, S, hs, hh, FinS.bind q hs fun xs S1 ι1 H1 us e1 h1 r1 q1 => by
    cases r1 with
    | nil => exact q1.elim
    | cons ra r1 =>
      cases r1 with
      | nil => exact q1.elim
      | cons rb r1 =>
        cases r1 with
        | nil => exact ⟨_, _, rfl, q1.next h1 (((hs.ext e1).set ra i).set rb j)⟩
        | cons _ _ => exact q1.elim⟩
theorem ps_put' {o i : Expr} {fo fi f : D} (he : PE X e (TD (Gm X cv) W f)) (ho : PE X o (TD (Gm X cv) W fo)) (hi : PE X i (TD (Gm X cv) W fi))
    (hs : swapsWithSole [.Subscript o i pos'] e pos.line X.env = pure false := by rfl) (hw : swappedStores [.Subscript o i pos'] e X.env = pure none := by rfl) (h1 : (assignEach [.Subscript o i pos'] X.env).map (·.2) = [assign (.Subscript o i pos') X.env] := by rfl)
    (ha : ∀ v, assign (.Subscript o i pos') X.env v = (do
      let ov ← holding [v] (eval o X.env)
      let iv ← holding [v, ov] (eval i X.env)
      standAt pos'
      holding [v, ov, iv] (setItem ov iv v)
      release [v, ov, iv] []) := by intro _; rfl) : PS X (.Assign [.Subscript o i pos'] e pos) (TSD (Gm X cv) W (sPut fo fi f)) :=
  (ps_asg he (pg_sub ho hi set_list ha) hs hw h1).imp fun D σ H ⟨ι, ρ, S, hs, hh, q⟩ => by
    refine ⟨ι, ρ, S, hs, hh, FinS.bind q hs fun x S1 ι1 H1 u e1 h1 r1 q1 => ?_⟩
    refine ⟨ι1, ρ, S1, hs.ext e1, h1, FinS.bind q1 (hs.ext e1) fun y S2 ι2 H2 v e2 h2 r2 q2 => ?_⟩
    refine ⟨ι2, ρ, S2, (hs.ext e1).ext e2, h2, FinS.bind q2 ((hs.ext e1).ext e2) fun z S3 ι3 H3 w e3 h3 r3 q3 => ?_⟩
    have r1' := (r1.ext e2).ext e3
    have r2' := r2.ext e3
    unfold setAt at q3
    split at q3
    · rename_i S4 e4
      split at e4
      · rename_i n k
        split at e4
        · rename_i xs e5
          split at e4
          · rename_i j e6
            cases e4
            cases r2' with
            | ref hn hlz =>
              cases r3
              obtain ⟨vs, rv, hv⟩ := h3.ok _ _ _ hn e5
              refine ⟨_, vs, k, j, rfl, rfl, hv, by rw [← rv.length]; exact e6, ?_⟩
              have ew := Ext.write (ws := vs.set j u) hn hv
              exact q3 _ _ _ ew (h3.write hn e5 hv (RVs.set r1' j rv)) ((((hs.ext e1).ext e2).ext e3).ext ew)
          · cases e4
        · cases e4
      · cases e4
    · exact q3.elim
/-! ### for -/
theorem CellOk.sq {K : PySem.W.Frag} {ι : List Addr} {H : Hp} {a : Addr} {c : Cell} (h : CellOk K ι H a c) (hl : ∃ vs, H a = some (.lst vs)) : ∃ vs, RVs K ι H c.items vs ∧ SqL K H a vs := by
  obtain ⟨us, hu⟩ := hl
  cases c with
  | lst xs => obtain ⟨vs, r, q⟩ := h; exact ⟨vs, r, SqL.of q⟩
  | obj cn fs => obtain ⟨C, dx, ns, vs, k, q, _⟩ := h; rw [hu] at q; cases q
  | dct kvs => obtain ⟨ks, vs, q, _⟩ := h; rw [hu] at q; cases q
theorem sqL_item {K : PySem.W.Frag} {H : Hp} {a : Addr} {vs : List V} {i : Nat} {x : V} (h : SqL K H a vs) (q : ∀ xs, SqL K H a xs → xs[i]? = some x) : vs[i]? = some x := q vs h
/-- what is wanted behind a turn -/
theorem turn_end {Γ : Cfg} {W : WX} {ι : List Addr} {H : Hp} {D : Ends} {N : L2.St → Hp → Prop} {r : SRes} {k : Env → Store → SRes} (h : FinS Γ W ι H D (r.turn k))
    (hk : ∀ ι1 H1 ρ σ S, Ext ι H ι1 H1 → RH Γ.K ι1 H1 S → RS Γ.K ι1 H1 ρ σ → FinS Γ W ι1 H1 D (k ρ S) → N σ H1) : FinS Γ W ι H { D with nx := N, ct := N, bk := D.nx } r := by
  cases r with
  | next ρ S => exact fun ι1 H1 σ1 e a b => hk ι1 H1 ρ σ1 S e a b (FinS.weak e h)
  | cont ρ S => exact fun ι1 H1 σ1 e a b => hk ι1 H1 ρ σ1 S e a b (FinS.weak e h)
  | brk ρ S => exact h
  | ret x S => exact h
  | exc x ρ S => exact h
  | stuck => exact h
theorem ps_forC' {tg iter : Expr} {f : D} {g : TG} {t : TgD} {bd : SD} (hp : PassesOwn (model X.prog X.w) X.A X.env X.xe) (hc : X.calm = true) (he : PE X iter (TD (Gm X cv) W f)) (hg : PG X tg g) (ht : TgOk X.K g t) (hb : PSs X bs (TSD (Gm X cv) W bd)) (hfs : ∀ v, foldedSetIterable iter X.env v = pure v := by intro _; rfl) :
    PS X (.For tg iter bs [] pos) (TSD (Gm X cv) W (sForC f t bd)) :=
  (ps_for hp hc (pi_list he) hg hb hfs).imp fun D σ H ⟨ι, ρ, S, hs, hh, q⟩ => by
    refine ⟨ι, ρ, S, hs, hh, FinS.bind q hs fun x S1 ι1 H1 u e1 h1 r1 q1 => ?_⟩
    cases r1 with
    | ref hn hlz =>
      rename_i n a
      have q1 : FinS (Gm X cv) W ι1 H1 D (match S1[n]? with | some c => loopC n t bd c.items.length 0 ρ S1 | none => .stuck) := q1
      split at q1
      · · rename_i c ec
          obtain ⟨vs, rv, hq⟩ := (h1.ok _ _ _ hn ec).sq hlz
          refine ⟨a, rfl, ⟨vs, hq⟩, fun i m σ H => ∃ ι ρ S, RS X.K ι H ρ σ ∧ RH X.K ι H S ∧ ι[n]? = some a ∧ (∃ vs, H a = some (.lst vs)) ∧ FinS (Gm X cv) W ι H D (loopC n t bd m i ρ S), ⟨_, ι1, ρ, S1, hs.ext e1, h1, hn, hlz, q1⟩, fun i m σ' H' ⟨ι', ρ', S', hs', hh', hn', hl', q'⟩ => ?_⟩
          have stop : ∀ c, S'[n]? = some c → c.items.length ≤ i → FinS (Gm X cv) W ι' H' D (.next ρ' S') → (Itl X.K a).stop i H' ∧ D.nx σ' H' := fun c ec' hl q => by
            obtain ⟨vs', rv', hq'⟩ := (hh'.ok _ _ _ hn' ec').sq hl'
            exact ⟨⟨vs', hq', by rw [← rv'.length]; exact hl⟩, q.next hh' hs'⟩
          cases m with
          | zero =>
            unfold loopC at q'
            split at q'
            · rename_i c' ec'
              split at q'
              · rename_i hl
                exact .inl (stop c' ec' hl q')
              · exact q'.elim
            · exact q'.elim
          | succ m =>
            unfold loopC at q'
            split at q'
            · rename_i c' ec'
              split at q'
              · rename_i en
                exact .inl (stop c' ec' (List.getElem?_eq_none_iff.mp en) q')
              · rename_i x' ex
                obtain ⟨vs', rv', hq'⟩ := (hh'.ok _ _ _ hn' ec').sq hl'
                obtain ⟨v', ev', rx'⟩ := rv'.get ex
                split at q'
                · exact q'.elim
                · rename_i ρ1 eρ
                  refine .inr ⟨⟨vs', v', hq', ev'⟩, fun σ H => ∃ ι ρ S, RS X.K ι H ρ σ ∧ RH X.K ι H S ∧ ι[n]? = some a ∧ (∃ vs, H a = some (.lst vs)) ∧ FinS (Gm X cv) W ι H D (loopC n t bd m (i + 1) ρ S), fun σ2 H2 h2 => ⟨m, Nat.lt_succ_self m, h2⟩, fun y H2 hy => ?_⟩
                  obtain ⟨rfl, hy⟩ := hy
                  have ey := hy vs' hq'
                  rw [ev'] at ey; cases ey
                  refine ht ι' H2 ρ' ρ1 σ' x' v' _ hs' rx' eρ fun σ2 hs2 => ?_
                  refine ⟨ι', ρ1, S', hs2, hh', turn_end q' fun ι3 H3 ρ3 σ3 S3 e3 a3 b3 c3 => ?_⟩
                  obtain ⟨zs, hz⟩ := hl'
                  exact ⟨ι3, ρ3, S3, b3, a3, e3.get hn', e3.ls _ zs hz, c3⟩
            · exact q'.elim
      · exact q1.elim
    | _ => exact q1.elim
/-- over values that stand still, given what the turns hand out -/
theorem for_vals {D : Ends} {g : TG} {t : TgD} {bd : SD} {J : It} (ht : TgOk X.K g t) (hb : True) {ι : List Addr} {H : Hp} {ρ : Env} {σ : L2.St} {S : Store} (xs : List Val) (Ok : List Addr → Hp → Prop) (hok : ∀ ι H ι' H', Ok ι H → Ext ι H ι' H' → Ok ι' H')
    (hstop : ∀ ι H, Ok ι H → J.stop xs.length H) (hgo : ∀ ι H i, Ok ι H → i < xs.length → J.go i H) (hy : ∀ ι H i y H', Ok ι H → i < xs.length → J.yld i H y H' → H' = H ∧ ∃ x, xs[i]? = some x ∧ RV X.K ι H x y)
    (hs : RS X.K ι H ρ σ) (hh : RH X.K ι H S) (h0 : Ok ι H) (q : FinS (Gm X cv) W ι H D (loopV t bd xs ρ S)) :
    ∃ W' : Nat → Nat → L2.St → Hp → Prop, (∃ m, W' 0 m σ H) ∧ ∀ i m σ H, W' i m σ H →
      (J.stop i H ∧ D.nx σ H) ∨ (J.go i H ∧ ∃ N : L2.St → Hp → Prop, (∀ σ' H', N σ' H' → ∃ m', m' < m ∧ W' (i + 1) m' σ' H') ∧ ∀ x H', J.yld i H x H' → g x σ H' fun σ2 H2 => TSD (Gm X cv) W bd { D with nx := N, ct := N, bk := D.nx } σ2 H2) := by
  refine ⟨fun i m σ H => i + m = xs.length ∧ ∃ ι ρ S, RS X.K ι H ρ σ ∧ RH X.K ι H S ∧ Ok ι H ∧ FinS (Gm X cv) W ι H D (loopV t bd (xs.drop i) ρ S), ⟨xs.length, Nat.zero_add _, ι, ρ, S, hs, hh, h0, q⟩, fun i m σ' H' ⟨hm, ι', ρ', S', hs', hh', h0', q'⟩ => ?_⟩
  cases m with
  | zero =>
    have : i = xs.length := by omega
    subst this
    rw [List.drop_length, loopV_nil] at q'
    exact .inl ⟨hstop ι' H' h0', q'.next hh' hs'⟩
  | succ m =>
    have hi : i < xs.length := by omega
    rw [List.drop_eq_getElem_cons hi, loopV_cons] at q'
    split at q'
    · exact q'.elim
    · rename_i ρ1 eρ
      refine .inr ⟨hgo ι' H' i h0' hi, fun σ H => ∃ ι ρ S, RS X.K ι H ρ σ ∧ RH X.K ι H S ∧ Ok ι H ∧ FinS (Gm X cv) W ι H D (loopV t bd (xs.drop (i + 1)) ρ S), fun σ2 H2 h2 => ⟨m, Nat.lt_succ_self m, by omega, h2⟩, fun y H2 hyd => ?_⟩
      obtain ⟨rfl, x, ex, rx⟩ := hy ι' H' i y H2 h0' hi hyd
      rw [List.getElem?_eq_getElem hi] at ex
      cases ex
      refine ht ι' H2 ρ' ρ1 σ' _ y _ hs' rx eρ fun σ2 hs2 => ?_
      refine ⟨ι', ρ1, S', hs2, hh', turn_end q' fun ι3 H3 ρ3 σ3 S3 e3 a3 b3 c3 => ?_⟩
      exact ⟨ι3, ρ3, S3, b3, a3, hok _ _ _ _ h0' e3, c3⟩
theorem rangeV_get {lo : Int} {n i : Nat} (h : i < n) : (rangeV lo n)[i]? = some (.int (lo + i)) := by
  unfold rangeV
  rw [List.getElem?_map, List.getElem?_range h]; rfl
theorem rangeV_length (lo : Int) (n : Nat) : (rangeV lo n).length = n := by simp [rangeV]
theorem ps_forR' {tg : Expr} {f : DA} {g : TG} {t : TgD} {bd : SD} {a : Expr} {p pos2 : Pos} (hp : PassesOwn (model X.prog X.w) X.A X.env X.xe) (hc : X.calm = true) (hgl : Gl X "range") (hm : X.mg "range" = none) (he : PA X [a] (TDA (Gm X cv) W f)) (hg : PG X tg g) (ht : TgOk X.K g t) (hb : PSs X bs (TSD (Gm X cv) W bd))
    (hs : starEach [a] X.env = [(false, eval a X.env)] := by rfl) :
    PS X (.For tg (.Call (.Name "range" p) [a] [] pos2) bs [] pos) (TSD (Gm X cv) W (sForR f t bd)) :=
  (ps_for hp hc (pi_range1 hgl hm he hs) hg hb).imp fun D σ H ⟨ι, ρ, S, hs, hh, q⟩ => by
    refine ⟨ι, ρ, S, hs, hh, FinS.bind q hs fun xs S1 ι1 H1 us e1 h1 r1 q1 => ?_⟩
    split at q1
    · rename_i j
      split at q1
      · rename_i hj
        cases r1 with
        | cons r1 r2 =>
          cases r1; cases r2
          refine ⟨j, rfl, hj.1, hj.2, ?_⟩
          refine for_vals ht trivial (rangeV 0 j.toNat) (fun _ _ => True) (fun _ _ _ _ _ _ => trivial) (fun _ _ _ => ?_) (fun _ _ i _ hi => ?_) (fun ι H i y H' _ hi hy => ?_) (hs.ext e1) h1 trivial q1
          · show j.toNat ≤ _; rw [rangeV_length]; exact Nat.le_refl _
          · rw [rangeV_length] at hi; exact hi
          · obtain ⟨rfl, rfl⟩ := hy
            rw [rangeV_length] at hi
            exact ⟨rfl, _, rangeV_get hi, .int _⟩
      · exact q1.elim
    · exact q1.elim
end
end PD

/-! ## PDCall -/
set_option Elab.async false
set_option linter.all false
set_option maxRecDepth 100000
set_option maxHeartbeats 2000000
namespace PD
open PySem PySem.Spec L2

/-! ### defs -/
def fnOf (n m : Nat) (b : SD) : Fn := fun xs S => if xs.length = n then (match b (xs.map some ++ List.replicate (m - n) none) S with
  | .ret v S' => .ok v S'
  | .next _ S' => .ok .non S'
  | .exc e _ S' => .exc e S'
  | _ => .stuck) else .stuck
def stuckF : Fn := fun _ _ => .stuck
def SpecOf (Γ : Cfg) (F : Fn) : Sp := fun vs H Q E => ∃ ι ds S, RVs Γ.K ι H ds vs ∧ RH Γ.K ι H S ∧ FinG Γ (RV Γ.K) E ι H Q (F ds S)
section
variable {P : Program} {w : World} {K : PySem.W.Frag} {mg : Str → Option Value} {base : Heap} {cv : Nat → Value} {f : Addr} {fd : FuncData} {ps : List Str}
/-- a def that keeps its promise wherever no repr of a container is under way -/
structure FnG (P : Program) (w : World) (K : PySem.W.Frag) (mg : Str → Option Value) (base : Heap) (k : Nat) (f : Addr) (fd : FuncData) (ps : List Str) (sp : Sp) : Prop where
  len : ∀ vs H Q E, sp vs H Q E → vs.length = ps.length
  go : ∀ (A : Around) (outer : List PySem.Env) (s : Shared) (H : Hp) (args : Args) (us : List Value) (vs : List V) (Q : VK) (E : XK), A.guards = some [] → Room k A → Env0 P w K mg base A outer s H →
    BindsTo s fd args (ps.zip us) → Vals vs us → sp vs H Q E → codeAny (model P w) A (.call (.ref f) args) (CR (L2.CX P w) outer P w H s Q E) s
theorem FnG.mono {j k : Nat} {sp : Sp} (F : FnG P w K mg base j f fd ps sp) (h : j ≤ k) : FnG P w K mg base k f fd ps sp :=
  ⟨F.len, fun A outer s H args us vs Q E hg hr => F.go A outer s H args us vs Q E hg (hr.mono h)⟩
theorem fn_zero (k : Nat) : FnG P w K mg base k f fd ps (SpecOf ⟨K, cv⟩ stuckF) :=
  ⟨fun _ _ _ _ ⟨_, _, _, _, _, z⟩ => z.elim, fun _ _ _ _ _ _ _ _ _ _ _ _ _ _ ⟨_, _, _, _, _, z⟩ => z.elim⟩
theorem start_rs {ι : List Addr} {H : Hp} {ds : List Val} {vs : List V} {N : List Str} (r : RVs K ι H ds vs) : RS K ι H (ds.map some ++ List.replicate (N.length - ds.length) none) (L2.start N vs) := by
  unfold L2.start
  rw [r.length]
  refine ⟨by simp [r.length], fun i x e => ?_⟩
  by_cases h : i < ds.length
  · rw [List.getElem?_append_left (by simpa using h), List.getElem?_map] at e
    rw [List.getElem?_append_left (by rw [List.length_map, ← r.length]; exact h), List.getElem?_map]
    cases q : ds[i]? with
    | none => rw [q] at e; cases e
    | some y =>
      rw [q] at e; cases e
      obtain ⟨v, a, b⟩ := r.get q
      exact ⟨v, by rw [a]; rfl, b⟩
  · rw [List.getElem?_append_right (by simp; omega), List.getElem?_replicate] at e
    split at e <;> cases e
/-- THE RULE of a def: its body's denotation -/
theorem fn_den {x qual : Str} {st : Stmt} {N : List Str} {k : Nat} {body : SD} (F : Fun K x qual st f fd) (S : FnScope N ps (defScope st))
    (hder : ∀ (cdv : Value) (A : Around) (outer : List PySem.Env) (s : Shared) (H : Hp) (E : XK), A.guards = some [] → Room k (A.deeper (PyProof.Rows.envOfC qual (defScope st) s.heap.objs.size f cdv)) →
      Takes (cxOf (L2.CX P w) P w K mg base N qual (defScope st) f cdv A outer s H E) (fun c d _ H => E c d H) →
      PassesOwn (model P w) (cxOf (L2.CX P w) P w K mg base N qual (defScope st) f cdv A outer s H E).A (cxOf (L2.CX P w) P w K mg base N qual (defScope st) f cdv A outer s H E).env (cxOf (L2.CX P w) P w K mg base N qual (defScope st) f cdv A outer s H E).xe →
      PSs (cxOf (L2.CX P w) P w K mg base N qual (defScope st) f cdv A outer s H E) (defBody st) (TSD ⟨K, cv⟩ (fun c d _ H => E c d H) body)) :
    FnG P w K mg base (k + 1) f fd ps (SpecOf ⟨K, cv⟩ (fnOf ps.length N.length body)) := by
  obtain ⟨oc, od, kV, doc, pm, an, cdv, ct, osl, hfd, lk, hcd⟩ := F.ex
  have leng : ∀ vs H Q E, SpecOf ⟨K, cv⟩ (fnOf ps.length N.length body) vs H Q E → vs.length = ps.length := fun vs H Q E h => by
    obtain ⟨ι, ds, S, r, _, q⟩ := h
    unfold fnOf at q
    split at q
    · rename_i e; rw [← r.length]; exact e
    · exact q.elim
  refine ⟨leng, fun A outer s H args us vs Q E hg hr e0 hb rv hsp => ?_⟩
  subst hfd
  have kk : ∀ b o, base.get? b = some o → s.heap.get? b = some o := fun b o e => (e0.bs b o e).1
  have KX : K.In s.heap := e0.mod.kin.keeps kk
  have kinds : ∀ y ∈ ps.zip us, (defScope st).names.lookup y.1 = some .local ∨ ((defScope st).names.lookup y.1 = some .cell ∧ ((cellsFrom (s.heap.objs.size + 1) (defScope st).names []).lookup y.1).isSome = true) := by
    rintro ⟨n, v⟩ hy
    exact (S.par n (List.of_mem_zip hy).1).elim .inl fun q => .inr ⟨q, PySem.W.cellsFrom_some _ _ _ (.inl q)⟩
  refine codeAny_call_function hr.depth (KX _ _ lk) rfl S.co S.gen rfl (PySem.W.codeRec_of KX hcd) (hb _ _ _ _ ?_)
  refine wpAny_newFunctionEnv_cells S.kind kinds fun env henv s1 hin => ?_
  subst henv
  refine ⟨(e0.mod.nolimit.keeps kk).keeps hin.toInCall.keep, codeAny_func ?_⟩
  have I0 := inv_start (CX := L2.CX P w) (mg := mg) (E := E) S hr.hd e0 (leng _ _ _ _ hsp) rv hin
  refine wpAny_mono ((hder cdv A outer s H E hg (hr.deeper _) (takes_of rfl rfl rfl rfl) (passes_of (X := cxOf (L2.CX P w) P w K mg base N qual (defScope st) f cdv A outer s H E) rfl)).run [] s1 (L2.start N vs) H { nx := fun _ H' => Q .non H', rt := Q } I0 ?_) (fun fl s2 hs => ?_) fun e s2 hx => hx
  · obtain ⟨ι, ds, S, r, hh, q⟩ := hsp
    unfold fnOf at q
    split at q
    · rename_i el
      refine ⟨ι, ds.map some ++ List.replicate (N.length - ds.length) none, S, start_rs r, hh, ?_⟩
      rw [el]
      revert q
      cases body (ds.map some ++ List.replicate (N.length - ps.length) none) S with
      | ret v S' => exact fun q ι' H' u a b c => q ι' H' u a b c
      | next ρ S' => exact fun q ι' H' u a b c => q ι' H' .non a b .non
      | exc e ρ S' => exact fun q ι' H' u d a b c e' => q ι' H' d a b e'
      | brk ρ S' => exact fun q => q.elim
      | cont ρ S' => exact fun q => q.elim
      | stuck => exact fun q => q.elim
    · exact q.elim
  · cases fl with
    | ret u =>
      obtain ⟨v, σ2, H2, J, ru, q⟩ := hs
      exact ⟨v, H2, J.os, J.bare, J.base, J.hok, ru, q⟩
    | next =>
      obtain ⟨σ2, H2, J, q⟩ := hs
      exact ⟨.non, H2, J.os, J.bare, J.base, J.hok, rfl, q⟩
    | brk => exact hs.elim fun _ h => h.elim fun _ h => h.2.elim
    | cont => exact hs.elim fun _ h => h.elim fun _ h => h.2.elim
end
section
variable {X : Cx} {cv : Nat → Value} {W : WX} {e a b c o : Expr} {st : Stmt} {es rest : List Expr} {sts as bs : List Stmt} {pos pos' p : Pos}
variable {k : Nat} {f : Addr} {fd : FuncData} {ps : List Str} {x : Str}
/-- the callee runs -/
theorem run_g {F : Fn} {pins : List (Addr × Obj)} {σ : L2.St} {H : Hp} {s : Shared} {Q : VK} {args : Args} {us : List Value} {vs : List V} (G : FnG X.prog X.w X.K X.mg X.base k f fd ps (SpecOf ⟨X.K, cv⟩ F)) (hgd : X.A.guards = some []) (hr : Room k X.A) (tk : Takes X W)
    (I : Inv X pins σ H s) (hb : BindsTo s fd args (ps.zip us)) (r : Vals vs us) (h : SpecOf ⟨X.K, cv⟩ F vs H Q (WE W σ)) : codeAny (model X.prog X.w) X.A (.call (.ref f) args) (fun res s' => match res with
      | .ok (.ret u) => EP X pins σ Q u s'
      | .ok _ => False
      | .error e => X.xe e s') s := by
  refine codeAny_mono (G.go X.A X.stack s H args us vs Q (WE W σ) hgd hr I.env0 hb r h) fun res s' hq => ?_
  rcases res with e | fl
  · exact passAt tk σ pins H s e s' I hq
  · cases fl with
    | ret u => exact I.after hq
    | _ => exact hq.elim
theorem ep_call {pins : List (Addr × Obj)} {σ : L2.St} {s : Shared} {Q : VK} {us : List Value} {kws : List (Str × Value)} (h : codeAny (model X.prog X.w) X.A (.call (.ref f) ⟨us, kws⟩) (fun res s' => match res with
      | .ok (.ret u) => EP X pins σ Q u s'
      | .ok _ => False
      | .error e => X.xe e s') s) : wpAny (model X.prog X.w) X.A (call (.ref f) us kws) (EP X pins σ Q) X.xe s := by
  refine wpAny_call (codeAny_mono h fun res s' hq => ?_)
  rcases res with e | fl
  · exact hq
  · cases fl with
    | ret u => exact hq
    | _ => exact hq.elim
/-- f(e, ..) -/
theorem pd_call {F : Fn} {g : DA} (G : FnG X.prog X.w X.K X.mg X.base k f fd ps (SpecOf ⟨X.K, cv⟩ F)) (hgd : X.A.guards = some []) (hr : Room k X.A) (hg : Gl X x) (hm : X.mg x = some (.ref f)) (hk : PySem.W.keepIn X.K (.ref f) = true) (hb : Binds X.K fd ps []) (tk : Takes X W)
    (ha : PA X (e :: es) (TDA (Gm X cv) W g)) (hdb : (x == ("__debug__" : Str)) = false := by decide) (he : starEach (e :: es) X.env = (false, eval e X.env) :: starEach es X.env := by rfl) (hpl : (backTo pos (starEach es X.env)).any (·.1) = false := by rfl) :
    PE X (.Call (.Name x p) (e :: es) [] pos) (TD (Gm X cv) W (dCall F g)) := by
  refine ⟨fun pins s σ H Q I h => ?_⟩
  obtain ⟨ι, ρ, S, hs, hh, q⟩ := h
  refine wpAny_Call_Name_kw (ld_glob I hg hm ?_ hdb)
  refine PySem.W.callWith_K (h₀ := X.base) I.ok.mod.kin hk (thn (ha.run pos pins s σ H (fun us H1 => SpecOf ⟨X.K, cv⟩ F us H1 Q (WE W σ)) I ⟨ι, ρ, S, hs, hh, FinG.bind q fun xs S1 ι1 H1 us e1 h1 r1 q1 => ⟨ι1, xs, S1, r1, h1, q1⟩⟩) fun us s1 ⟨vs, H1, I1, r, q1⟩ => ⟨I1.kIn, ?_⟩) he hpl
  have hl : us.length = ps.length := by rw [← r.length]; exact G.len _ _ _ _ q1
  have hb1 : BindsTo s1 fd ⟨us, []⟩ (ps.zip us) := by
    have := hb s1 us I1.kIn (by rw [List.append_nil]; exact hl)
    rwa [List.append_nil] at this
  exact ep_call (run_g G hgd hr tk I1 hb1 r q1)
/-- a built-in, a built-in class -/
theorem pd_callB {F : Fn} {g : DA} {r : List V → Hp → VK → Prop} {id : String} (hc : CallR X (.builtin id) r) (ho : OKA X.K r F) (hg : Gl X x) (hm : X.mg x = none) (hv : bootBuiltins x = some (.builtin id)) (ha : PA X (e :: es) (TDA (Gm X cv) W g)) (hn : x ≠ "__name__" := by decide) (hdb : (x == ("__debug__" : Str)) = false := by decide)
    (he : starEach (e :: es) X.env = (false, eval e X.env) :: starEach es X.env := by rfl) (hpl : (backTo pos (starEach es X.env)).any (·.1) = false := by rfl) : PE X (.Call (.Name x p) (e :: es) [] pos) (TD (Gm X cv) W (dCall F g)) :=
  (pe_callB hc hg hm hv ha hn hdb he hpl).imp fun σ H Q ⟨ι, ρ, S, hs, hh, q⟩ => by
    refine ⟨ι, ρ, S, hs, hh, FinG.bind q fun xs S1 ι1 H1 us e1 h1 r1 q1 => ?_⟩
    exact ho cv ι1 H1 S1 xs us _ Q h1 r1 q1
theorem pd_callTy {F : Fn} {g : DA} {r : List V → Hp → VK → Prop} {T : String} (hc : CallR X (.type T) r) (ho : OKA X.K r F) (hg : Gl X x) (hm : X.mg x = none) (hv : bootBuiltins x = some (.type T)) (ha : PA X (e :: es) (TDA (Gm X cv) W g)) (hn : x ≠ "__name__" := by decide) (hdb : (x == ("__debug__" : Str)) = false := by decide)
    (he : starEach (e :: es) X.env = (false, eval e X.env) :: starEach es X.env := by rfl) (hpl : (backTo pos (starEach es X.env)).any (·.1) = false := by rfl) : PE X (.Call (.Name x p) (e :: es) [] pos) (TD (Gm X cv) W (dCall F g)) :=
  (pe_callTy hc hg hm hv ha hn hdb he hpl).imp fun σ H Q ⟨ι, ρ, S, hs, hh, q⟩ => by
    refine ⟨ι, ρ, S, hs, hh, FinG.bind q fun xs S1 ι1 H1 us e1 h1 r1 q1 => ?_⟩
    exact ho cv ι1 H1 S1 xs us _ Q h1 r1 q1
/-! ### raise, try -/
/-- raise C('..'), C without __init__ -/
def sRaise (c : Nat) : SD := fun ρ S => .exc ⟨c, []⟩ ρ S
theorem pd_ty {n : String} {x : Str} (hg : Gl X x) (hm : X.mg x = none) (hv : bootBuiltins x = some (.type n)) (hn : x ≠ "__name__" := by decide) (hd : (x == ("__debug__" : Str)) = false := by decide) : PE X (.Name x pos) (TD (Gm X cv) W (dC (.ty n))) :=
  pd_c (pe_bltn (v := .ty n) hg hm hv rfl hn hd) fun _ _ => .ty _
theorem pd_gi {i : Int} {x : Str} (hg : Gl X x) (hm : ∃ t, X.mg x = some (.int i t)) (hd : (x == ("__debug__" : Str)) = false := by decide) : PE X (.Name x pos) (TD (Gm X cv) W (dC (.int i))) :=
  hm.elim fun t h => pd_c (pe_glob (v := .int i) hg h ⟨_, rfl⟩ hd) fun _ _ => .int _
theorem pd_gs {i : Str} {x : Str} (hg : Gl X x) (hm : ∃ t, X.mg x = some (.str i t)) (hd : (x == ("__debug__" : Str)) = false := by decide) : PE X (.Name x pos) (TD (Gm X cv) W (dC (.str i))) :=
  hm.elim fun t h => pd_c (pe_glob (v := .str i) hg h ⟨_, rfl⟩ hd) fun _ _ => .str _
theorem ps_raise' {c : Nat} {C : Value} (hcm : X.calm = true) (tk : Takes X W) (hC : cv c = C) (he : PMk X e (fun _ H Q => Q C none H)) : PS X (.Raise (some e) none pos) (TSD (Gm X cv) W (sRaise c)) :=
  (ps_raise hcm tk he).imp fun D σ H ⟨ι, ρ, S, hs, hh, q⟩ => by
    subst hC
    exact q ι H σ none .refl hh hs rfl
structure Clss (K : PySem.W.Frag) (cv : Nat → Value) (n : Nat) (mt : Nat → Nat → Bool) : Prop where
  ok : ∀ c k, c < n → k < n → PySem.W.exmOne K (cv c) (cv k) = some (mt c k)
/-- the clauses, one after the other -/
def sHds (n : Nat) (mt : Nat → Nat → Bool) : List (Nat × SD) → Exn → SD
  | [], e, ρ, S => .exc e ρ S
  | (k, b) :: r, e, ρ, S => if e.cls < n ∧ k < n then (if mt e.cls k = true then b ρ S else sHds n mt r e ρ S) else .stuck
def noExc (r : SRes) : SRes := match r with
  | .exc _ _ _ => .stuck
  | r => r
def sTry (n : Nat) (mt : Nat → Nat → Bool) (b : SD) (hds : List (Nat × SD)) : SD := fun ρ S => match b ρ S with
  | .exc e ρ1 S1 => sHds n mt (hds.map fun p => (p.1, fun ρ S => noExc (p.2 ρ S))) e ρ1 S1
  | r => r
inductive HdsD (X : Cx) (cv : Nat → Value) : List ExceptHandler → List (Nat × SD) → Prop
  | nil : HdsD X cv [] []
  | cons {x : Str} {c : Nat} {sd : SD} {b₀ : Stmt} {suite : List Stmt} {np pos' : Pos} {hds : List ExceptHandler} {l : List (Nat × SD)} (hc : Names X x (cv c))
      (hsu : ∀ (a : Addr) (pn : List (Addr × Obj)), PSs (X.suite a pn) (b₀ :: suite) (TSD (Gm (X.suite a pn) cv) (fun _ _ _ _ => False) sd)) (r : HdsD X cv hds l) :
      HdsD X cv (.ExceptHandler (some (.Name x np)) none (b₀ :: suite) pos' :: hds) ((c, sd) :: l)
theorem HdsD.ok : ∀ {hds : List ExceptHandler} {l : List (Nat × SD)}, HdsD X cv hds l → HdsOk X hds (l.map fun p => (cv p.1, fun _ _ _ => TSD ⟨X.K, cv⟩ (fun _ _ _ _ => False) p.2))
  | _, _, .nil => .nil
  | _, _, .cons hc hsu r => .cons hc (fun a oe cls d pn _ _ => hsu a ((a, oe) :: pn)) (HdsD.ok r)
theorem FinS.noexc {Γ : Cfg} {W W' : WX} {ι : List Addr} {H : Hp} {D : Ends} {r : SRes} (h : FinS Γ W ι H D (noExc r)) : FinS Γ W' ι H D r := by
  cases r with
  | exc e ρ S => exact h.elim
  | _ => exact h
theorem many_of {n : Nat} {mt : Nat → Nat → Bool} (C : Clss X.K cv n mt) {D : Ends} {ι : List Addr} {H : Hp} {ρ : Env} {σ : L2.St} {S : Store} {e : Exn} {d : Option Addr} (hs : RS X.K ι H ρ σ) (hh : RH X.K ι H S) (hx : XF X.K ι H e.fs d) :
    ∀ {l : List (Nat × SD)}, FinS (Gm X cv) W ι H D (sHds n mt (l.map fun p => (p.1, fun ρ S => noExc (p.2 ρ S))) e ρ S) → wMany X.K W D (l.map fun p => (cv p.1, fun _ _ _ => TSD ⟨X.K, cv⟩ (fun _ _ _ _ => False) p.2)) (cv e.cls) d σ H
  | [], q => q ι H σ d .refl hh hs hx
  | (k, b) :: r, q => by
    have q : FinS (Gm X cv) W ι H D (if e.cls < n ∧ k < n then (if mt e.cls k = true then noExc (b ρ S) else sHds n mt (r.map fun p => (p.1, fun ρ S => noExc (p.2 ρ S))) e ρ S) else .stuck) := q
    split at q
    · rename_i hk
      refine ⟨_, C.ok _ _ hk.1 hk.2, fun hb a ha => ?_, fun hb => ?_⟩
      · rw [if_pos hb] at q
        exact ⟨ι, ρ, S, hs, hh, FinS.noexc q⟩
      · rw [if_neg (by rw [hb]; decide)] at q
        exact many_of C hs hh hx q
    · exact q.elim
theorem ps_try' {n : Nat} {mt : Nat → Nat → Bool} {h₀ : ExceptHandler} {hds : List ExceptHandler} {l : List (Nat × SD)} {bd : SD} (C : Clss X.K cv n mt) (hs : X.stack = X.env :: X.outer) (hf : X.env.frame = some X.env.locals) (tk : Takes X W)
    (hb : ∀ (W : WX) (pn : List (Addr × Obj)) (xe : Value → Shared → Prop), Takes (X.tr pn xe) W → PassesOwn (model X.prog X.w) X.A X.env xe → PSs (X.tr pn xe) as (TSD (Gm (X.tr pn xe) cv) W bd))
    (hh : HdsD X cv (h₀ :: hds) l) : PS X (.Try as (h₀ :: hds) [] [] pos) (TSD (Gm X cv) W (sTry n mt bd l)) :=
  (ps_try_many (tb := fun W => TSD ⟨X.K, cv⟩ W bd) hs hf tk hb hh.ok).imp fun D σ H ⟨ι, ρ, S, hs, hh, q⟩ => by
    refine ⟨ι, ρ, S, hs, hh, ?_⟩
    unfold sTry at q
    revert q
    show FinS _ _ _ _ _ (match bd ρ S with | .exc e ρ1 S1 => _ | r => r) → FinS _ _ _ _ _ (bd ρ S)
    cases bd ρ S with
    | exc e ρ1 S1 => exact fun q ι' H' σ' d a b c x => many_of C c b x (FinS.weak a q)
    | _ => exact fun q => q
end
end PD

/-! ## PDOps -/
set_option Elab.async false
set_option linter.all false
set_option maxRecDepth 100000
set_option maxHeartbeats 2000000
namespace PD
open PySem PySem.Spec L2

/-! ### the operations by values -/
def okI (i : Int) (S : Store) : Res Val := .ok (.int i) S
def okB (b : Bool) (S : Store) : Res Val := .ok (.bl b) S
def alloc (xs : List Val) (S : Store) : Res Val := .ok (.ref S.length) (S ++ [.lst xs])
def oAdd : Op2 := fun x y S => match x, y with
  | .int a, .int b => okI (a + b) S
  | .str a, .str b => if a.length + b.length ≤ 16777216 then .ok (.str (a ++ b)) S else .stuck
  | .tup xs, .tup ys => if xs.length + ys.length ≤ 16777216 then .ok (.tup (xs ++ ys)) S else .stuck
  | .ref n, .ref m => match S[n]?, S[m]? with
    | some (.lst xs), some (.lst ys) => if xs.length + ys.length ≤ 16777216 then alloc (xs ++ ys) S else .stuck
    | _, _ => .stuck
  | _, _ => .stuck
def oSub : Op2 := fun x y S => match x, y with
  | .int a, .int b => okI (a - b) S
  | _, _ => .stuck
def oMul : Op2 := fun x y S => match x, y with
  | .int a, .int b => if a.natAbs.log2 + b.natAbs.log2 < 1000000 then okI (a * b) S else .stuck
  | _, _ => .stuck
def oMod : Op2 := fun x y S => match x, y with
  | .int a, .int b => if 0 < b then okI (a % b) S else .stuck
  | _, _ => .stuck
def oDiv : Op2 := fun x y S => match x, y with
  | .int a, .int b => if 0 < b ∧ b.natAbs.log2 < 9000 then okI (a / b) S else .stuck
  | _, _ => .stuck
def oPow : Op2 := fun x y S => match x, y with
  | .int a, .int b => if 0 ≤ b ∧ b ≤ 1000000 ∧ a.natAbs < 2 ^ 64 then okI (a ^ b.toNat) S else .stuck
  | _, _ => .stuck
def oNeg : Val → Store → Res Val := fun x S => match x with
  | .int a => okI (-a) S
  | _ => .stuck
def oInt2 (p : Int → Int → Bool) : Op2 := fun x y S => match x, y with
  | .int a, .int b => okB (p a b) S
  | _, _ => .stuck
def oLt := oInt2 fun i j => decide (i < j)
def oLe := oInt2 fun i j => decide (i ≤ j)
def oGt := oInt2 fun i j => decide (j < i)
def oGe := oInt2 fun i j => decide (j ≤ i)
/-! ### equality -/
def allSome {α : Type} : List (Option α) → Option (List α)
  | [] => some []
  | x :: xs => match x, allSome xs with
    | some a, some as => some (a :: as)
    | _, _ => none
def toD : Nat → Store → Val → Option PyData
  | 0, _, _ => none
  | f + 1, S, v => match v with
    | .non => some .none
    | .bl b => some (.bool b)
    | .int i => some (.int i)
    | .str x => some (.str x)
    | .tup xs => (allSome (xs.map (toD f S))).map .tuple
    | .ref n => match S[n]? with
      | some c => (allSome (c.items.map (toD f S))).map .list
      | none => none
    | .ty _ => none
    | .kl xs => (allSome (xs.map (toD f S))).map .list
    | .ob _ => none
def deq (x y : Val) (S : Store) : Option Bool := match x, y with
  | .int a, .int b => some (decide (a = b))
  | x, y => match toD 66 S x, toD 66 S y with
    | some d, some e => if SeqAt.shaped d = true ∧ SeqAt.shaped e = true then some (PyData.eqv d e) else none
    | _, _ => none
def oEq : Op2 := fun x y S => match deq x y S with
  | some b => okB b S
  | none => .stuck
def oNe : Op2 := fun x y S => match deq x y S with
  | some b => okB (!b) S
  | none => .stuck
/-- is None, is True, is False, is of two built-in classes -/
def oIs : Op2 := fun x y S => match y with
  | .non => okB (match x with | .non => true | _ => false) S
  | .bl b => okB (match x with | .bl a => a == b | _ => false) S
  | .ty b => match x with
    | .ty a => okB (decide (a = b)) S
    | _ => .stuck
  | _ => .stuck
def oIsNot : Op2 := fun x y S => match y with
  | .non => okB (match x with | .non => false | _ => true) S
  | .bl b => okB (match x with | .bl a => !(a == b) | _ => true) S
  | .ty b => match x with
    | .ty a => okB (!decide (a = b)) S
    | _ => .stuck
  | _ => .stuck

section
variable {K : PySem.W.Frag} {ι : List Addr} {H : Hp} {S : Store}
theorem allSome_get {α β : Type} {R : α → β → Prop} : ∀ {l : List (Option α)} {as : List α}, allSome l = some as → l = as.map some
  | [], _, h => by cases h; rfl
  | x :: xs, as, h => by
    unfold allSome at h
    split at h
    · rename_i a as' e1 e2
      cases h
      rw [allSome_get (R := R) e2]; rfl
    · cases h
theorem toDs_dp {f : Nat} (ih : ∀ (x : Val) (v : V) (d : PyData), RV K ι H x v → toD f S x = some d → Dp K H v d) : ∀ {xs : List Val} {vs : List V} {ds : List PyData}, RVs K ι H xs vs → allSome (xs.map (toD f S)) = some ds → DpAll K H vs ds
  | _, _, _, .nil, h => by cases h; exact .nil
  | x :: xs, _, _, .cons r rr, h => by
    rw [List.map_cons] at h
    unfold allSome at h
    split at h
    · rename_i a as' e1 e2
      cases h
      exact .cons (ih _ _ _ r e1) (toDs_dp ih rr e2)
    · cases h
theorem toD_dp (hh : RH K ι H S) : ∀ (f : Nat) (x : Val) (v : V) (d : PyData), RV K ι H x v → toD f S x = some d → Dp K H v d
  | 0, _, _, _, _, h => nomatch h
  | f + 1, x, v, d, r, h => by
    cases r with
    | non => cases h; exact .non
    | bl b => cases h; exact .bl b
    | int i => cases h; exact .int i
    | str i => cases h; exact .str i
    | ty n => cases h
    | ob _ => cases h
    | tup ha rr =>
      rename_i a xs vs
      have h : (allSome (xs.map (toD f S))).map PyData.tuple = some d := h
      cases q : allSome (xs.map (toD f S)) with
      | none => rw [q] at h; cases h
      | some ds => rw [q] at h; cases h; exact .tup ha (toDs_dp (toD_dp hh f) rr q)
    | kl ha rr =>
      rename_i a xs vs
      have h : (allSome (xs.map (toD f S))).map PyData.list = some d := h
      cases q : allSome (xs.map (toD f S)) with
      | none => rw [q] at h; cases h
      | some ds => rw [q] at h; cases h; exact .lst ha.sq (toDs_dp (toD_dp hh f) rr q)
    | ref hn hlz =>
      rename_i n a
      have h : (match S[n]? with
        | some c => (allSome (c.items.map (toD f S))).map PyData.list
        | none => none) = some d := h
      split at h
      · rename_i c ec
        obtain ⟨vs, rr, hq⟩ := (hh.ok _ _ _ hn ec).sq hlz
        cases q : allSome (c.items.map (toD f S)) with
        | none => rw [q] at h; cases h
        | some ds => rw [q] at h; cases h; exact .lst hq (toDs_dp (toD_dp hh f) rr q)
      · cases h
end
abbrev rOr (r r' : L2.R2) : L2.R2 := fun x y H Q => r x y H Q ∨ r' x y H Q
/-- is, by one rule -/
def rIsA (neg : Bool) : L2.R2 := fun x y H Q => (y = .non ∧ Q (.bl (neg != decide (x = .non))) H) ∨ (∃ b, y = .bl b ∧ Q (.bl (neg != decide (x = .bl b))) H) ∨ (∃ m n, x = .ty m ∧ y = .ty n ∧ Q (.bl (neg != decide (m = n))) H)
section
variable {X : Cx}
theorem plain_bl {x : V} {v : Value} {b : Bool} (r : RelV x v) : PySem.plainIs v (.bool b) = true := by
  cases x with
  | non => cases r; rfl
  | bl _ => cases r; rfl
  | int _ => obtain ⟨t, rfl⟩ := r; rfl
  | str _ => obtain ⟨t, rfl⟩ := r; rfl
  | byt _ => obtain ⟨t, rfl⟩ := r; rfl
  | flt _ => obtain ⟨t, rfl⟩ := r; rfl
  | ref _ => cases r; rfl
  | ty _ => cases r; rfl
theorem rel_bl_iff {x : V} {v : Value} {b : Bool} (r : RelV x v) : v = .bool b ↔ x = .bl b := by
  constructor
  · intro e
    subst e
    exact r.inj (show RelV (.bl b) (.bool b) from rfl)
  · intro e; subst e; exact r
theorem op_isA : OpR X (compareOp .Is) (rIsA false) := by
  intro pins s σ H x y v u Q I rx ry h
  rcases h with ⟨rfl, q⟩ | ⟨b, rfl, q⟩ | ⟨m, n, rfl, rfl, q⟩
  · refine op_isN pins s σ H x .non v u Q I rx ry ⟨rfl, ?_⟩
    simpa using q
  · cases (show u = Value.bool b from ry)
    by_cases e : v = .bool b
    · have e' := (rel_bl_iff rx).mp e
      subst e
      exact wpAny_is_self rfl ⟨.bl true, H, I, rfl, by simpa [e'] using q⟩
    · have e' : ¬ x = .bl b := fun z => e ((rel_bl_iff rx).mpr z)
      exact wpAny_is_other (plain_bl rx) e ⟨.bl false, H, I, rfl, by simpa [e'] using q⟩
  · exact op_isTy pins s σ H _ _ v u Q I rx ry ⟨m, n, rfl, rfl, by simpa using q⟩
theorem op_isNotA : OpR X (compareOp .IsNot) (rIsA true) := by
  intro pins s σ H x y v u Q I rx ry h
  rcases h with ⟨rfl, q⟩ | ⟨b, rfl, q⟩ | ⟨m, n, rfl, rfl, q⟩
  · refine op_notN pins s σ H x .non v u Q I rx ry ⟨rfl, ?_⟩
    simpa using q
  · cases (show u = Value.bool b from ry)
    by_cases e : v = .bool b
    · have e' := (rel_bl_iff rx).mp e
      subst e
      exact wpAny_isNot_self rfl ⟨.bl false, H, I, rfl, by simpa [e'] using q⟩
    · have e' : ¬ x = .bl b := fun z => e ((rel_bl_iff rx).mpr z)
      exact wpAny_isNot_other (plain_bl rx) e ⟨.bl true, H, I, rfl, by simpa [e'] using q⟩
  · exact op_isNotTy pins s σ H _ _ v u Q I rx ry ⟨m, n, rfl, rfl, by simpa using q⟩
end
section
variable {K : PySem.W.Frag}
theorem ok_isA : OK2 K (rIsA false) oIs := by
  intro cv ι H S x y u v W Q hh rx ry q
  cases ry with
  | non =>
    refine .inl ⟨rfl, ?_⟩
    cases rx <;> exact q ι H _ .refl hh (.bl _)
  | bl b =>
    refine .inr (.inl ⟨b, rfl, ?_⟩)
    cases rx with
    | bl a =>
      have e : (false != decide (V.bl a = V.bl b)) = (a == b) := by cases a <;> cases b <;> rfl
      rw [e]; exact q ι H _ .refl hh (.bl _)
    | _ => exact q ι H _ .refl hh (.bl _)
  | ty b =>
    cases rx with
    | ty a =>
      refine .inr (.inr ⟨a, b, rfl, rfl, ?_⟩)
      have e : (false != decide (a = b)) = decide (a = b) := by simp
      rw [e]; exact q ι H _ .refl hh (.bl _)
    | _ => exact q.elim
  | _ => exact q.elim
theorem ok_isNotA : OK2 K (rIsA true) oIsNot := by
  intro cv ι H S x y u v W Q hh rx ry q
  cases ry with
  | non =>
    refine .inl ⟨rfl, ?_⟩
    cases rx <;> exact q ι H _ .refl hh (.bl _)
  | bl b =>
    refine .inr (.inl ⟨b, rfl, ?_⟩)
    cases rx with
    | bl a =>
      have e : (true != decide (V.bl a = V.bl b)) = !(a == b) := by cases a <;> cases b <;> rfl
      rw [e]; exact q ι H _ .refl hh (.bl _)
    | _ => exact q ι H _ .refl hh (.bl _)
  | ty b =>
    cases rx with
    | ty a =>
      refine .inr (.inr ⟨a, b, rfl, rfl, ?_⟩)
      have e : (true != decide (a = b)) = !decide (a = b) := by simp
      rw [e]; exact q ι H _ .refl hh (.bl _)
    | _ => exact q.elim
  | _ => exact q.elim
theorem ok_int2 {p : Int → Int → Bool} : OK2 K (rI0 fun i j => .bl (p i j)) (oInt2 p) := by
  intro cv ι H S x y u v W Q hh rx ry q
  cases rx with
  | int a =>
    cases ry with
    | int b => exact ⟨a, b, rfl, rfl, q ι H _ .refl hh (.bl _)⟩
    | _ => exact q.elim
  | _ => exact q.elim
theorem ok_sub : OK2 K (rI0 fun i j => .int (i - j)) oSub := by
  intro cv ι H S x y u v W Q hh rx ry q
  cases rx with
  | int a =>
    cases ry with
    | int b => exact ⟨a, b, rfl, rfl, q ι H _ .refl hh (.int _)⟩
    | _ => exact q.elim
  | _ => exact q.elim
theorem ok_cond {C : Int → Int → Prop} {g : Int → Int → Int} {o : Op2} (h : ∀ cv ι H S x y W Q, Fin ⟨K, cv⟩ W ι H Q (o x y S) → ∃ a b, x = .int a ∧ y = .int b ∧ C a b ∧ Fin ⟨K, cv⟩ W ι H Q (okI (g a b) S)) : OK2 K (rI C fun i j => .int (g i j)) o := by
  intro cv ι H S x y u v W Q hh rx ry q
  obtain ⟨a, b, rfl, rfl, c, q⟩ := h cv ι H S x y W Q q
  cases rx
  cases ry
  exact ⟨a, b, rfl, rfl, c, q ι H _ .refl hh (.int _)⟩
theorem ok_mul : OK2 K (rI CMulW fun i j => .int (i * j)) oMul := ok_cond (g := fun i j => i * j) fun cv ι H S x y W Q q => by
  unfold oMul at q
  split at q
  · split at q
    · rename_i hc; exact ⟨_, _, rfl, rfl, hc, q⟩
    · exact q.elim
  · exact q.elim
theorem ok_mod : OK2 K (rI (fun _ j => 0 < j) fun i j => .int (i % j)) oMod := ok_cond (g := fun i j => i % j) fun cv ι H S x y W Q q => by
  unfold oMod at q
  split at q
  · split at q
    · rename_i hc; exact ⟨_, _, rfl, rfl, hc, q⟩
    · exact q.elim
  · exact q.elim
theorem ok_div : OK2 K (rI CDivW fun i j => .int (i / j)) oDiv := ok_cond (g := fun i j => i / j) fun cv ι H S x y W Q q => by
  unfold oDiv at q
  split at q
  · split at q
    · rename_i hc; exact ⟨_, _, rfl, rfl, hc, q⟩
    · exact q.elim
  · exact q.elim
theorem ok_pow : OK2 K (rI CPow fun i j => .int (i ^ j.toNat)) oPow := ok_cond (g := fun i j => i ^ j.toNat) fun cv ι H S x y W Q q => by
  unfold oPow at q
  split at q
  · split at q
    · rename_i hc; exact ⟨_, _, rfl, rfl, hc, q⟩
    · exact q.elim
  · exact q.elim
theorem ok_neg : OK1 K (rU fun i => .int (-i)) oNeg := by
  intro cv ι H S x u W Q hh rx q
  cases rx with
  | int a => exact ⟨a, rfl, q ι H _ .refl hh (.int _)⟩
  | _ => exact q.elim
abbrev rStrA : L2.R2 := fun x y H Q => ∃ i j, x = .str i ∧ y = .str j ∧ i.length + j.length ≤ sizeLine ∧ Q (.str (i ++ j)) H
abbrev rAddA (K : PySem.W.Frag) : L2.R2 := rOr (rI0 fun i j => .int (i + j)) (rOr rStrA (rOr (rCatA K) rCat))
theorem op_addA {X : Cx} : OpR X (binaryOp .Add) (rAddA X.K) := op_add.or (op_add_str.or (op_catA.or op_cat))
theorem ok_add : OK2 K (rAddA K) oAdd := by
  intro cv ι H S x y u v W Q hh rx ry q
  cases rx with
  | int a =>
    cases ry with
    | int b => exact .inl ⟨a, b, rfl, rfl, q ι H _ .refl hh (.int _)⟩
    | _ => exact q.elim
  | str a =>
    cases ry with
    | str b =>
      have q : Fin ⟨K, cv⟩ W ι H Q (if a.length + b.length ≤ 16777216 then .ok (.str (a ++ b)) S else .stuck) := q
      split at q
      · rename_i hl
        exact .inr (.inl ⟨a, b, rfl, rfl, by rw [sizeLine_eq]; exact hl, q ι H _ .refl hh (.str _)⟩)
      · exact q.elim
    | _ => exact q.elim
  | tup ha ra =>
    cases ry with
    | tup hb rb =>
      rename_i a xs vs b ys ws
      have q : Fin ⟨K, cv⟩ W ι H Q (if xs.length + ys.length ≤ 16777216 then .ok (.tup (xs ++ ys)) S else .stuck) := q
      split at q
      · rename_i hl
        refine .inr (.inr (.inl ⟨a, b, vs, ws, rfl, rfl, ha, hb, by rw [← ra.length, ← rb.length, sizeLine_eq]; exact hl, fun e => ?_, fun e1 e2 => ?_, fun e1 e2 p hp => ?_⟩))
        · subst e; cases ra
          exact q ι H _ .refl hh (.tup hb rb)
        · subst e2; cases rb
          rw [List.append_nil] at q
          exact q ι H _ .refl hh (.tup ha ra)
        · exact q _ _ _ (Ext.fresh hp) (hh.fresh hp) (.tup (SqT.of upd_same) ((ra.append rb).ext (Ext.fresh hp)))
      · exact q.elim
    | _ => exact q.elim
  | ref hn hlz =>
    cases ry with
    | ref hm hlm =>
      rename_i n a m b
      have q : Fin ⟨K, cv⟩ W ι H Q (match S[n]?, S[m]? with
        | some (.lst xs), some (.lst ys) => if xs.length + ys.length ≤ 16777216 then alloc (xs ++ ys) S else .stuck
        | _, _ => .stuck) := q
      split at q
      · rename_i xs ys e1 e2
        split at q
        · rename_i hl
          obtain ⟨vs, ra, hv⟩ := hh.ok _ _ _ hn e1
          obtain ⟨ws, rb, hw⟩ := hh.ok _ _ _ hm e2
          refine .inr (.inr (.inr ⟨a, b, vs, ws, rfl, rfl, hv, hw, by rw [← ra.length, ← rb.length, sizeLine_eq]; exact hl, fun p hp => ?_⟩))
          refine q _ _ _ (Ext.alloc hp) (hh.alloc hp (ra.append rb)) (.ref ?_ ⟨_, upd_same⟩)
          rw [← hh.len]; simp
        · exact q.elim
      · exact q.elim
    | _ => exact q.elim
  | _ => exact q.elim
theorem deq_ok {ι : List Addr} {H : Hp} {S : Store} {x y : Val} {u v : V} {b : Bool} (hh : RH K ι H S) (rx : RV K ι H x u) (ry : RV K ι H y v) (h : deq x y S = some b) :
    ∃ d e, Dp K H u d ∧ Dp K H v e ∧ SeqAt.shaped d = true ∧ SeqAt.shaped e = true ∧ PyData.eqv d e = b := by
  unfold deq at h
  split at h
  · rename_i a c
    cases rx
    cases ry
    cases h
    exact ⟨_, _, .int a, .int c, rfl, rfl, by show (a == c) = _; rw [Bool.beq_eq_decide_eq]⟩
  · split at h
    · rename_i d e e1 e2
      split at h
      · rename_i hs
        cases h
        exact ⟨d, e, toD_dp hh _ _ _ _ rx e1, toD_dp hh _ _ _ _ ry e2, hs.1, hs.2, rfl⟩
      · cases h
    · cases h
theorem ok_eq : OK2 K (rEqD K) oEq := by
  intro cv ι H S x y u v W Q hh rx ry q
  unfold oEq at q
  split at q
  · rename_i b hb
    obtain ⟨d, e, h1, h2, h3, h4, h5⟩ := deq_ok hh rx ry hb
    exact ⟨d, e, h1, h2, h3, h4, by rw [h5]; exact q ι H _ .refl hh (.bl _)⟩
  · exact q.elim
theorem ok_ne : OK2 K (rNeD K) oNe := by
  intro cv ι H S x y u v W Q hh rx ry q
  unfold oNe at q
  split at q
  · rename_i b hb
    obtain ⟨d, e, h1, h2, h3, h4, h5⟩ := deq_ok hh rx ry hb
    exact ⟨d, e, h1, h2, h3, h4, by rw [h5]; exact q ι H _ .refl hh (.bl _)⟩
  · exact q.elim
end
end PD

/-! ## PDMore -/
set_option Elab.async false
set_option linter.all false
set_option maxRecDepth 100000
set_option maxHeartbeats 2000000
namespace PD
open PySem PySem.Spec L2

/-! ### f(k = v, ..) -/
def pick {α : Type} (is : List Nat) (xs : List α) : List α := is.filterMap fun i => xs[i]?
theorem pick_vals {zs : List V} {ws : List Value} (r : Vals zs ws) : ∀ is : List Nat, Vals (pick is zs) (pick is ws)
  | [] => .nil
  | i :: is => by
    unfold pick
    rw [List.filterMap_cons, List.filterMap_cons]
    cases h : zs[i]? with
    | none => rw [r.none_of h]; exact pick_vals r is
    | some z =>
      obtain ⟨u, e, q⟩ := r.get h
      rw [e]
      exact .cons q (pick_vals r is)
theorem pick_rvs {K : PySem.W.Frag} {ι : List Addr} {H : Hp} {xs : List Val} {vs : List V} (r : RVs K ι H xs vs) : ∀ is : List Nat, RVs K ι H (pick is xs) (pick is vs)
  | [] => .nil
  | i :: is => by
    unfold pick
    rw [List.filterMap_cons, List.filterMap_cons]
    cases h : xs[i]? with
    | none =>
      have : vs[i]? = none := by
        rw [List.getElem?_eq_none_iff] at h ⊢
        rw [← r.length]; exact h
      rw [this]; exact pick_rvs r is
    | some z =>
      obtain ⟨u, e, q⟩ := r.get h
      rw [e]
      exact .cons q (pick_rvs r is)
def KB0 (K : PySem.W.Frag) (fd : FuncData) (ps ks : List Str) (is : List Nat) : Prop :=
  ∀ (s : Shared) (ws : List Value), K.In s.heap → ws.length = ks.length → (pick is ws).length = ps.length → BindsTo s fd ⟨[], ks.zip ws⟩ (ps.zip (pick is ws))
theorem _root_.L2.PK.imp {X : Cx} {kws : List Keyword} {t t' : TA} (h : PK X kws t) (q : ∀ σ H Q, t' σ H Q → t σ H Q) : PK X kws t' := ⟨fun pos pins s σ H Q I hw => h.run pos pins s σ H Q I (q _ _ _ hw)⟩
def dCallK (is : List Nat) (n : Nat) (F : Fn) (g : DA) : D := fun ρ S => (g ρ S).bind fun xs S1 => if xs.length = n then F (pick is xs) S1 else .stuck
section
variable {X : Cx} {cv : Nat → Value} {W : WX} {e a b c o : Expr} {es : List Expr} {pos p : Pos} {kws : List Keyword}
variable {k : Nat} {f : Addr} {fd : FuncData} {ps ks : List Str} {x : Str}
theorem pdk_nil : PK X [] (TDA (Gm X cv) W aNil) := pk_nil.imp fun σ H Q ⟨ι, ρ, S, hs, hh, q⟩ => q.here hh .nil
theorem pdk_cons {nm : Option Str} {kpos : Pos} {f : D} {g : DA} (ha : PE X e (TD (Gm X cv) W f)) (hr : PK X kws (TDA (Gm X cv) W g)) : PK X (⟨nm, e, kpos⟩ :: kws) (TDA (Gm X cv) W (aCons f g)) :=
  (pk_cons ha hr).imp fun σ H Q h => by
    obtain ⟨ι, ρ, S, hs, hh, q⟩ := h
    refine ⟨ι, ρ, S, hs, hh, FinG.bind q fun x S1 ι1 H1 u e1 h1 r1 q1 => ?_⟩
    refine ⟨ι1, ρ, S1, hs.ext e1, h1, FinG.bind q1 fun y S2 ι2 H2 v e2 h2 r2 q2 => ?_⟩
    exact q2.here h2 (.cons (r1.ext e2) r2)
theorem pd_callK0 {F : Fn} {g : DA} {is : List Nat} {m : Nat} (G : FnG X.prog X.w X.K X.mg X.base k f fd ps (SpecOf ⟨X.K, cv⟩ F)) (hgd : X.A.guards = some []) (hr : Room k X.A) (hg : Gl X x) (hm : X.mg x = some (.ref f)) (hk : PySem.W.keepIn X.K (.ref f) = true) (hb : KB0 X.K fd ps ks is) (tk : Takes X W)
    (hkw : PK X kws (TDA (Gm X cv) W g)) (hall : (backToKw pos (keywordEach kws X.env)).all (·.1.isSome) = true := by rfl) (hks : (backToKw pos (keywordEach kws X.env)).filterMap (·.1) = ks := by rfl) (hdb : (x == ("__debug__" : Str)) = false := by decide)
    (hpl : ((backTo pos (starEach [] X.env)).any (·.1) || (backToKw pos (keywordEach kws X.env)).any (·.1.isNone)) = false := by rfl) (hm2 : ks.length = m := by rfl) :
    PE X (.Call (.Name x p) [] kws pos) (TD (Gm X cv) W (dCallK is m F g)) := by
  subst hm2
  refine ⟨fun pins s σ H Q I h => ?_⟩
  obtain ⟨ι, ρ, S, hs, hh, q⟩ := h
  refine wpAny_Call_Name_kw (ld_glob I hg hm ?_ hdb)
  refine PySem.W.callWith_KW0 (h₀ := X.base) I.ok.mod.kin hk hall ?_ hpl
  refine thn (hkw.run pos pins s σ H (fun us H1 => us.length = ks.length ∧ SpecOf ⟨X.K, cv⟩ F (pick is us) H1 Q (WE W σ)) I ⟨ι, ρ, S, hs, hh, FinG.bind q fun xs S1 ι1 H1 us e1 h1 r1 q1 => ?_⟩) fun ws s2 ⟨zs, H2, I2, rz, hl, q2⟩ => ⟨I2.kIn, ?_⟩
  · split at q1
    · rename_i hl
      exact ⟨by rw [← r1.length]; exact hl, ι1, pick is xs, S1, pick_rvs r1 is, h1, q1⟩
    · exact q1.elim
  · rw [hks]
    have r2 := pick_vals rz is
    have hl2 : (pick is ws).length = ps.length := by rw [← r2.length]; exact G.len _ _ _ _ q2
    exact ep_call (run_g G hgd hr tk I2 (hb s2 ws I2.kIn (by rw [← rz.length]; exact hl) hl2) r2 q2)
end

/-! ### items, slices, len -/
def oIx : Op2 := fun x y S => match y with
  | .int i => match x with
    | .tup xs => match atI xs i with
      | some z => .ok z S
      | none => .stuck
    | .ref n => match S[n]? with
      | some c => match atI c.items i with
        | some z => .ok z S
        | none => .stuck
      | none => .stuck
    | .kl xs => match atI xs i with
      | some z => .ok z S
      | none => .stuck
    | .str z => match atI z.cps.toList i with
      | some c => if z.length ≤ 16777216 then .ok (.str ⟨#[c]⟩) S else .stuck
      | none => .stuck
    | _ => .stuck
  | _ => .stuck
theorem RVs.atI {K : PySem.W.Frag} {ι : List Addr} {H : Hp} {xs : List Val} {vs : List V} {i : Int} {z : Val} (r : RVs K ι H xs vs) (h : atI xs i = some z) : ∃ v, L2.atI vs i = some v ∧ RV K ι H z v := by
  unfold L2.atI at h ⊢
  rw [← r.length]
  cases e : ixN xs.length i with
  | none => rw [e] at h; cases h
  | some j =>
    rw [e] at h
    exact r.get h
theorem ok_ix {K : PySem.W.Frag} : OK2 K (rIx K) oIx := by
  intro cv ι H S x y u v W Q hh rx ry q
  cases ry with
  | int i =>
    cases rx with
    | tup ha ra =>
      rename_i a xs vs
      have q : Fin ⟨K, cv⟩ W ι H Q (match atI xs i with | some z => .ok z S | none => .stuck) := q
      split at q
      · rename_i z e
        obtain ⟨v, e', r⟩ := ra.atI e
        exact .inr (.inl ⟨a, vs, i, v, rfl, rfl, ha, e', q ι H _ .refl hh r⟩)
      · exact q.elim
    | kl ha ra =>
      rename_i a xs vs
      have q : Fin ⟨K, cv⟩ W ι H Q (match atI xs i with | some z => .ok z S | none => .stuck) := q
      split at q
      · rename_i z e
        obtain ⟨v, e', r⟩ := ra.atI e
        exact .inl ⟨a, vs, i, v, rfl, rfl, ha.sq, e', q ι H _ .refl hh r⟩
      · exact q.elim
    | ref hn hlz =>
      rename_i n a
      have q : Fin ⟨K, cv⟩ W ι H Q (match S[n]? with | some c => (match atI c.items i with | some z => .ok z S | none => .stuck) | none => .stuck) := q
      split at q
      · rename_i c ec
        obtain ⟨vs, rr, hq⟩ := (hh.ok _ _ _ hn ec).sq hlz
        split at q
        · rename_i z e
          obtain ⟨v, e', r⟩ := rr.atI e
          exact .inl ⟨a, vs, i, v, rfl, rfl, hq, e', q ι H _ .refl hh r⟩
        · exact q.elim
      · exact q.elim
    | str z =>
      have q : Fin ⟨K, cv⟩ W ι H Q (match atI z.cps.toList i with | some c => (if z.length ≤ 16777216 then .ok (.str ⟨#[c]⟩) S else .stuck) | none => .stuck) := q
      split at q
      · rename_i c ec
        split at q
        · rename_i hl
          exact .inr (.inr ⟨z, i, c, rfl, rfl, by rw [sizeLine_eq]; exact hl, ec, q ι H _ .refl hh (.str _)⟩)
        · exact q.elim
      · exact q.elim
    | _ => exact q.elim
  | _ => exact q.elim
/-- a part of a slice -/
abbrev DO := PD.Env → Store → Res (Option Int)
def oNone : DO := fun _ S => .ok none S
def oSome (f : D) : DO := fun ρ S => (f ρ S).bind fun x S1 => match x with
  | .int i => .ok (some i) S1
  | _ => .stuck
def cutL {α : Type} (xs : List α) (lo hi : Option Int) : List α := (xs.drop (HT.sIx xs.length 0 lo)).take (HT.sIx xs.length xs.length hi - HT.sIx xs.length 0 lo)
def vSl (x : Val) (lo hi : Option Int) (S : Store) : Res Val := match x with
  | .tup xs => .ok (.tup (cutL xs lo hi)) S
  | .ref n => match S[n]? with
    | some c => alloc (cutL c.items lo hi) S
    | none => .stuck
  | .kl xs => alloc (cutL xs lo hi) S
  | .str z => if z.length ≤ 16777216 then .ok (.str (cutS z lo hi)) S else .stuck
  | _ => .stuck
def dSl (f : D) (l h : DO) : D := fun ρ S => (f ρ S).bind fun x S1 => (l ρ S1).bind fun lo S2 => (h ρ S2).bind fun hi S3 => vSl x lo hi S3
abbrev TDO (Γ : Cfg) (W : WX) (f : DO) : TO := TG' Γ (fun _ _ => Eq) W f
abbrev rSlAll (K : PySem.W.Frag) : V → Option Int → Option Int → Hp → VK → Prop := fun x lo hi H Q => rSlA K x lo hi H Q ∨ (rSlL K x lo hi H Q ∨ ∃ z, x = .str z ∧ z.length ≤ sizeLine ∧ Q (.str (cutS z lo hi)) H)
theorem sl_all {X : Cx} : SlR X (rSlAll X.K) := sl_tupA.or (sl_list.or sl_str)
section
variable {X : Cx} {cv : Nat → Value} {W : WX} {e a b c o : Expr} {es : List Expr} {pos p p2 : Pos} {lo hi : Option Expr}
theorem pd_ix {f g : D} (ha : PE X a (TD (Gm X cv) W f)) (hb : PE X b (TD (Gm X cv) W g)) (hs : PlainIx b) : PE X (.Subscript a b pos) (TD (Gm X cv) W (dOp oIx f g)) :=
  (pe_ix ix_seq ha hb hs).imp fun _ _ _ h => pd_two ok_ix h
theorem pdo_none : PO X none (TDO (Gm X cv) W oNone) := ⟨fun pins s σ H Q I h => po_none.run pins s σ H Q I (by
  obtain ⟨ι, ρ, S, hs, hh, q⟩ := h
  exact q.here hh rfl)⟩
theorem pdo_some {f : D} (h : PE X e (TD (Gm X cv) W f)) : PO X (some e) (TDO (Gm X cv) W (oSome f)) := ⟨fun pins s σ H Q I hw => (po_some h).run pins s σ H Q I (by
  obtain ⟨ι, ρ, S, hs, hh, q⟩ := hw
  refine ⟨ι, ρ, S, hs, hh, FinG.bind q fun x S1 ι1 H1 u e1 h1 r1 q1 => ?_⟩
  cases r1 with
  | int i => exact ⟨i, rfl, q1.here h1 rfl⟩
  | _ => exact q1.elim)⟩
theorem RVs.cut {K : PySem.W.Frag} {ι : List Addr} {H : Hp} {xs : List Val} {vs : List V} (lo hi : Option Int) (r : RVs K ι H xs vs) : RVs K ι H (cutL xs lo hi) (cutV vs lo hi) := by
  unfold cutL cutV
  rw [r.length]
  exact RVs.take _ (RVs.drop _ r)
theorem cutV_whole {vs : List V} {lo hi : Option Int} (h : HT.sIx vs.length 0 lo = 0 ∧ HT.sIx vs.length vs.length hi = vs.length) : cutV vs lo hi = vs := by
  unfold cutV
  rw [h.1, h.2]; simp
theorem ok_sl {K : PySem.W.Frag} {ι : List Addr} {H : Hp} {S : Store} {x : Val} {u : V} {lo hi : Option Int} {W : Value → Option Addr → Hp → Prop} {Q : VK} (hh : RH K ι H S) (rx : RV K ι H x u) (q : Fin ⟨K, cv⟩ W ι H Q (vSl x lo hi S)) : rSlAll K u lo hi H Q := by
  cases rx with
  | tup ha ra =>
    rename_i a xs vs
    refine .inl ⟨a, vs, rfl, ha, fun e => ?_, fun e p hp => ?_⟩
    · have rc := ra.cut lo hi
      rw [cutV_whole e] at rc
      exact q ι H _ .refl hh (.tup ha rc)
    · exact q _ _ _ (Ext.fresh hp) (hh.fresh hp) (.tup (SqT.of upd_same) ((ra.cut lo hi).ext (Ext.fresh hp)))
  | kl ha ra =>
    rename_i a xs vs
    refine .inr (.inl ⟨a, vs, rfl, ha.sq, fun p hp => ?_⟩)
    refine q _ _ _ (Ext.alloc hp) (hh.alloc hp (ra.cut lo hi)) (.ref ?_ ⟨_, upd_same⟩)
    rw [← hh.len]; simp
  | ref hn hlz =>
    rename_i n a
    have q : Fin ⟨K, cv⟩ W ι H Q (match S[n]? with | some c => alloc (cutL c.items lo hi) S | none => .stuck) := q
    split at q
    · rename_i c ec
      obtain ⟨vs, rr, hq⟩ := (hh.ok _ _ _ hn ec).sq hlz
      refine .inr (.inl ⟨a, vs, rfl, hq, fun p hp => ?_⟩)
      refine q _ _ _ (Ext.alloc hp) (hh.alloc hp (rr.cut lo hi)) (.ref ?_ ⟨_, upd_same⟩)
      rw [← hh.len]; simp
    · exact q.elim
  | str z =>
    have q : Fin ⟨K, cv⟩ W ι H Q (if z.length ≤ 16777216 then .ok (.str (cutS z lo hi)) S else .stuck) := q
    split at q
    · rename_i hl
      exact .inr (.inr ⟨z, rfl, by rw [sizeLine_eq]; exact hl, q ι H _ .refl hh (.str _)⟩)
    · exact q.elim
  | _ => exact q.elim
theorem pd_sl {f : D} {l h : DO} (he : PE X e (TD (Gm X cv) W f)) (hl : PO X lo (TDO (Gm X cv) W l)) (hu : PO X hi (TDO (Gm X cv) W h)) : PE X (.Subscript e (.Slice lo hi none p2) pos) (TD (Gm X cv) W (dSl f l h)) :=
  (pe_slice sl_all he hl hu).imp fun σ H Q hw => by
    obtain ⟨ι, ρ, S, hs, hh, q⟩ := hw
    refine ⟨ι, ρ, S, hs, hh, FinG.bind q fun x S1 ι1 H1 u e1 h1 r1 q1 => ?_⟩
    refine ⟨ι1, ρ, S1, hs.ext e1, h1, FinG.bind (R := fun _ _ => Eq) q1 fun lo S2 ι2 H2 lo' e2 h2 r2 q2 => ?_⟩
    cases r2
    refine ⟨ι2, ρ, S2, (hs.ext e1).ext e2, h2, FinG.bind (R := fun _ _ => Eq) q2 fun hi S3 ι3 H3 hi' e3 h3 r3 q3 => ?_⟩
    cases r3
    exact ok_sl h3 ((r1.ext e2).ext e3) q3
end
end PD

/-! ## PDBi -/
set_option Elab.async false
set_option linter.all false
set_option maxRecDepth 100000
set_option maxHeartbeats 2000000
namespace PD
open PySem PySem.Spec L2

/-! ### built-ins -/
def tyN (x : Val) (S : Store) : Option String := match x with
  | .non => some "NoneType"
  | .bl _ => some "bool"
  | .int _ => some "int"
  | .str _ => some "str"
  | .tup _ => some "tuple"
  | .ref n => match S[n]? with
    | some _ => some "list"
    | none => none
  | .ty _ => none
  | .kl _ => some "list"
  | .ob _ => none
def isT (T U : String) : Bool := decide (T = U) || (decide (T = "bool") && decide (U = "int"))
def knownT : List String := ["NoneType", "bool", "int", "str", "tuple", "list"]
def askedT : List String := ["bool", "int", "str", "tuple", "list"]
theorem kit_known : ∀ T ∈ knownT, ∀ U ∈ askedT, kitB T U = some (isT T U) := by decide +kernel
def bIsi : Fn := fun xs S => match xs with
  | [x, .ty U] => match tyN x S with
    | some T => if U ∈ askedT then okB (isT T U) S else .stuck
    | none => .stuck
  | _ => .stuck
def bType : Fn := fun xs S => match xs with
  | [x] => match tyN x S with
    | some T => .ok (.ty T) S
    | none => .stuck
  | _ => .stuck
def bLen : Fn := fun xs S => match xs with
  | [.tup ys] => okI ys.length S
  | [.ref n] => match S[n]? with
    | some c => okI c.items.length S
    | none => .stuck
  | [.str z] => if z.length ≤ 16777216 then okI z.length S else .stuck
  | [.kl ys] => okI ys.length S
  | _ => .stuck
def bInt : Fn := fun xs S => match xs with
  | [.int i] => okI i S
  | [.bl b] => okI (if b then 1 else 0) S
  | _ => .stuck
def bTuple : Fn := fun xs S => match xs with
  | [.ref n] => match S[n]? with
    | some c => .ok (.tup c.items) S
    | none => .stuck
  | [.tup ys] => .ok (.tup ys) S
  | _ => .stuck
def asB : Val → Option Bool
  | .bl b => some b
  | _ => none
def asI : Val → Option Int
  | .int i => some i
  | _ => none
def bAll : Fn := fun xs S => match xs with
  | [.ref n] => match S[n]? with
    | some c => match allSome (c.items.map asB) with
      | some bs => okB (bs.all id) S
      | none => .stuck
    | none => .stuck
  | _ => .stuck
def bSum : Fn := fun xs S => match xs with
  | [.ref n] => match S[n]? with
    | some c => match allSome (c.items.map asI) with
      | some ns => okI ns.sum S
      | none => .stuck
    | none => .stuck
  | _ => .stuck
def bMax2 : Fn := fun xs S => match xs with
  | [.int i, .int j] => okI (if j > i then j else i) S
  | _ => .stuck
def bMin2 : Fn := fun xs S => match xs with
  | [.int i, .int j] => okI (if j < i then j else i) S
  | _ => .stuck
section
variable {K : PySem.W.Frag}
theorem tyN_known {x : Val} {S : Store} {T : String} (h : tyN x S = some T) : T ∈ knownT := by
  cases x with
  | ref n =>
    have h : (match S[n]? with | some _ => some "list" | none => none) = some T := h
    split at h
    · cases h; decide
    · cases h
  | ty n => cases h
  | ob n => cases h
  | _ => cases h; decide
theorem tyX_of {ι : List Addr} {H : Hp} {S : Store} {x : Val} {u : V} {T : String} (hh : RH K ι H S) (r : RV K ι H x u) (h : tyN x S = some T) : TyX K H u (.type T) := by
  cases r with
  | non => cases h; exact .base .non
  | bl b => cases h; exact .base (.bl b)
  | int i => cases h; exact .base (.int i)
  | str z => cases h; exact .base (.str z)
  | ty n => cases h
  | ob _ => cases h
  | tup ha ra =>
    cases h
    rcases ha with (ha | ⟨o, ha⟩) | ⟨o, its, n, hk, hc, _⟩
    · exact .base (.tup ha)
    · exact .fTuple ha
    · exact .kTuple hk hc
  | kl ha ra =>
    cases h
    rcases ha with ⟨o, ha⟩ | ⟨o, its, n, hk, hc, _⟩
    · exact .base (.frz ha)
    · exact .kList hk hc
  | ref hn hlz =>
    rename_i n a
    have h : (match S[n]? with | some _ => some "list" | none => none) = some T := h
    split at h
    · rename_i c ec
      cases h
      obtain ⟨us, hu⟩ := hlz
      exact .base (.lst hu)
    · cases h
theorem tyB_of {ι : List Addr} {H : Hp} {S : Store} {x : Val} {u : V} {T : String} (hh : RH K ι H S) (r : RV K ι H x u) (h : tyN x S = some T) : TyB K H u T := by
  cases r with
  | non => cases h; exact .non
  | bl b => cases h; exact .bl b
  | int i => cases h; exact .int i
  | str z => cases h; exact .str z
  | ty n => cases h
  | ob _ => cases h
  | tup ha ra => cases h; exact .tup ha
  | kl ha ra => cases h; exact .lst ha.sq
  | ref hn hlz =>
    rename_i n a
    have h : (match S[n]? with | some _ => some "list" | none => none) = some T := h
    split at h
    · rename_i c ec
      cases h
      obtain ⟨vs, _, q⟩ := (hh.ok _ _ _ hn ec).sq hlz
      exact .lst q
    · cases h
theorem ok_isi : OKA K (rIsi K) bIsi := by
  intro cv ι H S xs us W Q hh rx q
  unfold bIsi at q
  split at q
  · rename_i x U
    split at q
    · rename_i T eT
      split at q
      · rename_i hU
        cases rx with
        | cons r1 rr =>
          cases rr with
          | cons r2 rr =>
            cases rr
            cases r2
            exact ⟨_, _, _, _, isT T U, rfl, .ty U, tyX_of hh r1 eT, kit_ty (kit_known T (tyN_known eT) U hU), q ι H _ .refl hh (.bl _)⟩
      · exact q.elim
    · exact q.elim
  · exact q.elim
theorem ok_type : OKA K (rTyp K) bType := by
  intro cv ι H S xs us W Q hh rx q
  unfold bType at q
  split at q
  · rename_i x
    split at q
    · rename_i T eT
      cases rx with
      | cons r1 rr =>
        cases rr
        exact ⟨_, T, rfl, tyB_of hh r1 eT, q ι H _ .refl hh (.ty _)⟩
    · exact q.elim
  · exact q.elim
theorem ok_len : OKA K (fun xs H Q => ∃ x n, xs = [x] ∧ LenV K x H n ∧ Q (.int n) H) bLen := by
  intro cv ι H S xs us W Q hh rx q
  unfold bLen at q
  split at q
  · rename_i ys
    cases rx with
    | cons r1 rr =>
      cases rr
      cases r1 with
      | tup ha ra => exact ⟨_, _, rfl, .inr ⟨_, ha, rfl⟩, q ι H _ .refl hh (by rw [← ra.length]; exact .int _)⟩
  · rename_i n
    split at q
    · rename_i c ec
      cases rx with
      | cons r1 rr =>
        cases rr
        cases r1 with
        | ref hn hlz =>
          obtain ⟨vs, rr, hq⟩ := (hh.ok _ _ _ hn ec).sq hlz
          exact ⟨_, _, rfl, .inl ⟨_, hq, rfl⟩, q ι H _ .refl hh (by rw [← rr.length]; exact .int _)⟩
    · exact q.elim
  · rename_i z
    split at q
    · rename_i hl
      cases rx with
      | cons r1 rr =>
        cases rr
        cases r1
        exact ⟨_, _, rfl, ⟨by rw [sizeLine_eq]; exact hl, rfl⟩, q ι H _ .refl hh (.int _)⟩
    · exact q.elim
  · rename_i ys
    cases rx with
    | cons r1 rr =>
      cases rr
      cases r1 with
      | kl ha ra => exact ⟨_, _, rfl, .inl ⟨_, ha.sq, rfl⟩, q ι H _ .refl hh (by rw [← ra.length]; exact .int _)⟩
  · exact q.elim
theorem ok_int : OKA K (fun xs H Q => (∃ i, xs = [.int i] ∧ Q (.int i) H) ∨ ∃ k, xs = [.bl k] ∧ Q (.int (if k then 1 else 0)) H) bInt := by
  intro cv ι H S xs us W Q hh rx q
  unfold bInt at q
  split at q
  · cases rx with
    | cons r1 rr =>
      cases rr
      cases r1
      exact .inl ⟨_, rfl, q ι H _ .refl hh (.int _)⟩
  · cases rx with
    | cons r1 rr =>
      cases rr
      cases r1
      exact .inr ⟨_, rfl, q ι H _ .refl hh (.int _)⟩
  · exact q.elim
theorem ok_tuple : OKA K (fun xs H Q => ∃ p ys, xs = [.ref p] ∧ ((SqL K H p ys ∧ ∀ l, H l = none → Q (.ref l) (upd H l (.tup ys))) ∨ (SqT K H p ys ∧ Q (.ref p) H))) bTuple := by
  intro cv ι H S xs us W Q hh rx q
  unfold bTuple at q
  split at q
  · split at q
    · rename_i c ec
      cases rx with
      | cons r1 rr =>
        cases rr
        cases r1 with
        | ref hn hlz =>
          obtain ⟨vs, rr, hq⟩ := (hh.ok _ _ _ hn ec).sq hlz
          exact ⟨_, vs, rfl, .inl ⟨hq, fun l hl => q _ _ _ (Ext.fresh hl) (hh.fresh hl) (.tup (SqT.of upd_same) (rr.ext (Ext.fresh hl)))⟩⟩
    · exact q.elim
  · cases rx with
    | cons r1 rr =>
      cases rr
      cases r1 with
      | tup ha ra => exact ⟨_, _, rfl, .inr ⟨ha, q ι H _ .refl hh (.tup ha ra)⟩⟩
  · exact q.elim
theorem rvs_bools {ι : List Addr} {H : Hp} : ∀ {xs : List Val} {vs : List V} {bs : List Bool}, RVs K ι H xs vs → allSome (xs.map asB) = some bs → vs = bs.map V.bl
  | _, _, _, .nil, h => by cases h; rfl
  | x :: xs, _, _, .cons r rr, h => by
    rw [List.map_cons] at h
    unfold allSome at h
    split at h
    · rename_i a as e1 e2
      cases h
      have := rvs_bools rr e2
      cases r <;> first | (cases e1; rw [this]; rfl) | cases e1
    · cases h
theorem rvs_ints {ι : List Addr} {H : Hp} : ∀ {xs : List Val} {vs : List V} {bs : List Int}, RVs K ι H xs vs → allSome (xs.map asI) = some bs → vs = bs.map V.int
  | _, _, _, .nil, h => by cases h; rfl
  | x :: xs, _, _, .cons r rr, h => by
    rw [List.map_cons] at h
    unfold allSome at h
    split at h
    · rename_i a as e1 e2
      cases h
      have := rvs_ints rr e2
      cases r <;> first | (cases e1; rw [this]; rfl) | cases e1
    · cases h
theorem ok_all : OKA K (rAll K) bAll := by
  intro cv ι H S xs us W Q hh rx q
  unfold bAll at q
  split at q
  · split at q
    · rename_i c ec
      split at q
      · rename_i bs eb
        cases rx with
        | cons r1 rr =>
          cases rr
          cases r1 with
          | ref hn hlz =>
            obtain ⟨vs, rr, hq⟩ := (hh.ok _ _ _ hn ec).sq hlz
            have e := rvs_bools rr eb
            subst e
            exact ⟨_, bs, rfl, hq, q ι H _ .refl hh (.bl _)⟩
      · exact q.elim
    · exact q.elim
  · exact q.elim
theorem ok_sum : OKA K (rSum K) bSum := by
  intro cv ι H S xs us W Q hh rx q
  unfold bSum at q
  split at q
  · split at q
    · rename_i c ec
      split at q
      · rename_i bs eb
        cases rx with
        | cons r1 rr =>
          cases rr
          cases r1 with
          | ref hn hlz =>
            obtain ⟨vs, rr, hq⟩ := (hh.ok _ _ _ hn ec).sq hlz
            have e := rvs_ints rr eb
            subst e
            exact ⟨_, bs, rfl, hq, q ι H _ .refl hh (.int _)⟩
      · exact q.elim
    · exact q.elim
  · exact q.elim
theorem ok_max2 : OKA K (fun xs H Q => ∃ i j, xs = [.int i, .int j] ∧ Q (.int (if j > i then j else i)) H) bMax2 := by
  intro cv ι H S xs us W Q hh rx q
  unfold bMax2 at q
  split at q
  · cases rx with
    | cons r1 rr =>
      cases rr with
      | cons r2 rr =>
        cases rr
        cases r1
        cases r2
        exact ⟨_, _, rfl, q ι H _ .refl hh (.int _)⟩
  · exact q.elim
theorem ok_min2 : OKA K (fun xs H Q => ∃ i j, xs = [.int i, .int j] ∧ Q (.int (if j < i then j else i)) H) bMin2 := by
  intro cv ι H S xs us W Q hh rx q
  unfold bMin2 at q
  split at q
  · cases rx with
    | cons r1 rr =>
      cases rr with
      | cons r2 rr =>
        cases rr
        cases r1
        cases r2
        exact ⟨_, _, rfl, q ι H _ .refl hh (.int _)⟩
  · exact q.elim
end
/-! ### in, not in -/
def oInB (x y : Val) (S : Store) : Option Bool := match toD 66 S x, toD 66 S y with
  | some d, some (.list ds) => if SeqAt.shaped d = true ∧ SeqAt.shaped (.list ds) = true then some (ds.any fun z => PyData.eqv z d) else none
  | some d, some (.tuple ds) => if SeqAt.shaped d = true ∧ SeqAt.shaped (.tuple ds) = true then some (ds.any fun z => PyData.eqv z d) else none
  | _, _ => none
def oIn : Op2 := fun x y S => match oInB x y S with
  | some b => okB b S
  | none => .stuck
def oNotIn : Op2 := fun x y S => match oInB x y S with
  | some b => okB (!b) S
  | none => .stuck
def rInDT (K : PySem.W.Frag) (neg : Bool) : L2.R2 := fun x y H Q => ∃ d ds, Dp K H x d ∧ Dp K H y (.tuple ds) ∧ SeqAt.shaped d = true ∧ SeqAt.shaped (.tuple ds) = true ∧ Q (.bl (neg != (ds.any fun z => PyData.eqv z d))) H
section
variable {X : Cx}
theorem room_tup {A : Around} {xs : List PyData} {d : PyData} (hd : SeqAt.shaped d = true) (hu : A.units + 65 < cLine) : A.units + 1 + min (PyData.depthAll xs) d.depth < cLine := by
  have h1 : d.depth ≤ 64 := by
    have := hd
    unfold SeqAt.shaped at this
    rw [Bool.and_eq_true] at this
    exact of_decide_eq_true this.2
  omega
theorem op_inDT (hu : X.A.units + 65 < cLine) : OpR X (compareOp .In) (rInDT X.K false) := by
  intro pins s σ H x y v u Q I rx ry h
  obtain ⟨d, ds, hd, he, sd, se, q⟩ := h
  obtain ⟨as, r1⟩ := Dp.reads I d x v hd rx
  obtain ⟨bs, r2⟩ := Dp.reads I (.tuple ds) y u he ry
  exact SeqAt.in_tuple_reads r2 r1 (SeqAt.canLay_of_shaped se) (SeqAt.canLay_of_shaped sd) (room_tup sd hu) ⟨.bl _, H, I, rfl, by simpa using q⟩
theorem op_notInDT (hu : X.A.units + 65 < cLine) : OpR X (compareOp .NotIn) (rInDT X.K true) := by
  intro pins s σ H x y v u Q I rx ry h
  obtain ⟨d, ds, hd, he, sd, se, q⟩ := h
  obtain ⟨as, r1⟩ := Dp.reads I d x v hd rx
  obtain ⟨bs, r2⟩ := Dp.reads I (.tuple ds) y u he ry
  exact SeqAt.notIn_tuple_reads r2 r1 (SeqAt.canLay_of_shaped se) (SeqAt.canLay_of_shaped sd) (room_tup sd hu) ⟨.bl _, H, I, rfl, by simpa using q⟩
theorem op_inA (hu : X.A.units + 65 < cLine) : OpR X (compareOp .In) (rOr (rInD X.K) (rInDT X.K false)) := (op_inD hu).or (op_inDT hu)
theorem op_notInA (hu : X.A.units + 65 < cLine) : OpR X (compareOp .NotIn) (rOr (rNotInD X.K) (rInDT X.K true)) := (op_notInD hu).or (op_notInDT hu)
end
section
variable {K : PySem.W.Frag}
theorem inB_ok {ι : List Addr} {H : Hp} {S : Store} {x y : Val} {u v : V} {b : Bool} (hh : RH K ι H S) (rx : RV K ι H x u) (ry : RV K ι H y v) (h : oInB x y S = some b) :
    ∃ d ds, Dp K H u d ∧ SeqAt.shaped d = true ∧ (ds.any fun z => PyData.eqv z d) = b ∧ ((Dp K H v (.list ds) ∧ SeqAt.shaped (.list ds) = true) ∨ (Dp K H v (.tuple ds) ∧ SeqAt.shaped (.tuple ds) = true)) := by
  unfold oInB at h
  split at h
  · rename_i d ds e1 e2
    split at h
    · rename_i hs
      cases h
      exact ⟨d, ds, toD_dp hh _ _ _ _ rx e1, hs.1, rfl, .inl ⟨toD_dp hh _ _ _ _ ry e2, hs.2⟩⟩
    · cases h
  · rename_i d ds e1 e2
    split at h
    · rename_i hs
      cases h
      exact ⟨d, ds, toD_dp hh _ _ _ _ rx e1, hs.1, rfl, .inr ⟨toD_dp hh _ _ _ _ ry e2, hs.2⟩⟩
    · cases h
  · cases h
theorem ok_in : OK2 K (rOr (rInD K) (rInDT K false)) oIn := by
  intro cv ι H S x y u v W Q hh rx ry q
  unfold oIn at q
  split at q
  · rename_i b hb
    obtain ⟨d, ds, h1, h2, h3, h4 | h4⟩ := inB_ok hh rx ry hb
    · exact .inl ⟨d, ds, h1, h4.1, h2, h4.2, by rw [h3]; exact q ι H _ .refl hh (.bl _)⟩
    · exact .inr ⟨d, ds, h1, h4.1, h2, h4.2, by rw [h3]; simpa using q ι H _ .refl hh (.bl _)⟩
  · exact q.elim
theorem ok_notIn : OK2 K (rOr (rNotInD K) (rInDT K true)) oNotIn := by
  intro cv ι H S x y u v W Q hh rx ry q
  unfold oNotIn at q
  split at q
  · rename_i b hb
    obtain ⟨d, ds, h1, h2, h3, h4 | h4⟩ := inB_ok hh rx ry hb
    · exact .inl ⟨d, ds, h1, h4.1, h2, h4.2, by rw [h3]; exact q ι H _ .refl hh (.bl _)⟩
    · exact .inr ⟨d, ds, h1, h4.1, h2, h4.2, by rw [h3]; simpa using q ι H _ .refl hh (.bl _)⟩
  · exact q.elim
end
end PD

/-! ## PDComp -/
set_option Elab.async false
set_option linter.all false
set_option maxRecDepth 100000
set_option maxHeartbeats 2000000
namespace PD
open PySem PySem.Spec L2

/-! ### comprehensions -/
def noX {α : Type} (r : Res α) : Res α := match r with
  | .exc _ _ => .stuck
  | r => r
abbrev Src := Nat → Store → Option (Option Val)
def srcL (xs : List Val) : Src := fun i _ => some xs[i]?
def srcC (n : Nat) : Src := fun i S => match S[n]? with
  | some c => some c.items[i]?
  | none => none
def wipeE (ρ : PD.Env) : List Nat → PD.Env
  | [] => ρ
  | v :: vs => (wipeE ρ vs).set v none
def compG (src : Src) (t : TgD) (c : DT) (f : D) : Nat → Nat → List Val → PD.Env → Store → Res (List Val)
  | 0, i, acc, ρ, S => match src i S with
    | some none => .ok acc S
    | _ => .stuck
  | m + 1, i, acc, ρ, S => match src i S with
    | none => .stuck
    | some none => .ok acc S
    | some (some x) => match t x ρ with
      | none => .stuck
      | some ρ1 => (noX (c ρ1 S)).bind fun b S1 => if b = true then (noX (f ρ1 S1)).bind fun y S2 => if acc.length < 16777216 then compG src t c f m (i + 1) (acc ++ [y]) ρ S2 else .stuck
          else compG src t c f m (i + 1) acc ρ S1
def tYes' : DT := fun _ S => .ok true S
def dLCC (f : D) (t : TgD) (c : DT) (e : D) (vs : List Nat) : D := fun ρ S => (f ρ S).bind fun x S1 => match x with
  | .ref n => match S1[n]? with
    | some cc => (compG (srcC n) t c e cc.items.length 0 [] (wipeE ρ vs) S1).bind alloc
    | none => .stuck
  | _ => .stuck
def dLCT (f : D) (t : TgD) (c : DT) (e : D) (vs : List Nat) : D := fun ρ S => (f ρ S).bind fun x S1 => match x with
  | .tup xs => (compG (srcL xs) t c e xs.length 0 [] (wipeE ρ vs) S1).bind alloc
  | _ => .stuck
def dLCR (g : DA) (t : TgD) (c : DT) (e : D) (vs : List Nat) : D := fun ρ S => (g ρ S).bind fun xs S1 => match xs with
  | [.int j] => if -(2 ^ 62) ≤ j ∧ j < 2 ^ 62 then (compG (srcL (rangeV 0 j.toNat)) t c e j.toNat 0 [] (wipeE ρ vs) S1).bind alloc else .stuck
  | _ => .stuck
section
variable {K : PySem.W.Frag} {ι ι' : List Addr} {H H' : Hp} {S : Store} {ρ : PD.Env} {σ : L2.St}
theorem wipe_rs (h : RS K ι H ρ σ) : ∀ vs : List Nat, RS K ι H (wipeE ρ vs) (wipe σ vs)
  | [] => h
  | v :: vs => by
    have q := wipe_rs h vs
    refine ⟨by show ((wipeE ρ vs).set v none).length = ((wipe σ vs).set v none).length; simp [q.1], fun i x e => ?_⟩
    have e : ((wipeE ρ vs).set v none)[i]? = some (some x) := e
    by_cases hi : v = i
    · subst hi
      by_cases hl : v < (wipeE ρ vs).length
      · rw [List.getElem?_set_self hl] at e; cases e
      · rw [List.getElem?_eq_none (by simp; omega)] at e; cases e
    · rw [List.getElem?_set_ne hi] at e
      obtain ⟨u, a, b⟩ := q.2 i x e
      refine ⟨u, ?_, b⟩
      show ((wipe σ vs).set v none)[i]? = _
      rw [List.getElem?_set_ne hi]; exact a
/-- a list that is no cell yet is written -/
theorem Ext.side {D : Addr} {vs ws : List V} {ι1 : List Addr} {H1 : Hp} (e : Ext ι1 H1 ι H) (h1 : H1 D = none) (hd : H D = some (.lst vs)) : Ext ι1 H1 ι (upd H D (.lst ws)) := by
  refine ⟨e.pre, fun a o q n => ?_, e.new, fun a us q => ?_, fun a o u q => ?_, fun a us q => by
    obtain ⟨vs', q'⟩ := e.ls a us q
    exact ⟨vs', by rw [upd_ne (ne_of_none q h1)]; exact q'⟩⟩
  · rw [upd_ne (ne_of_none q h1)]; exact e.fr a o q n
  · rcases e.tp a us q with q | ⟨u, q⟩
    · exact .inl (by rw [upd_ne (ne_of q hd (by intro z; cases z))]; exact q)
    · exact .inr ⟨u, by rw [upd_ne (ne_of q hd (by intro z; cases z))]; exact q⟩
  · have q := e.fz a o u q
    rw [upd_ne (ne_of q hd (by intro z; cases z))]; exact q
mutual
theorem RV.carry (hg : ∀ (n : Nat) (a : Addr), ι[n]? = some a → ι'[n]? = some a) (ht : ∀ a vs, SqT K H a vs → SqT K H' a vs) (hl : ∀ a vs, RoL K H a vs → RoL K H' a vs) (hq : ∀ a, (∃ vs, H a = some (.lst vs)) → ∃ vs, H' a = some (.lst vs)) : ∀ {x : Val} {v : V}, RV K ι H x v → RV K ι' H' x v
  | _, _, .non => .non
  | _, _, .bl b => .bl b
  | _, _, .int i => .int i
  | _, _, .str x => .str x
  | _, _, .tup h r => .tup (ht _ _ h) (RVs.carry hg ht hl hq r)
  | _, _, .ref h z => .ref (hg _ _ h) (hq _ z)
  | _, _, .ob h => .ob (hg _ _ h)
  | _, _, .ty n => .ty n
  | _, _, .kl h r => .kl (hl _ _ h) (RVs.carry hg ht hl hq r)
theorem RVs.carry (hg : ∀ (n : Nat) (a : Addr), ι[n]? = some a → ι'[n]? = some a) (ht : ∀ a vs, SqT K H a vs → SqT K H' a vs) (hl : ∀ a vs, RoL K H a vs → RoL K H' a vs) (hq : ∀ a, (∃ vs, H a = some (.lst vs)) → ∃ vs, H' a = some (.lst vs)) : ∀ {xs : List Val} {vs : List V}, RVs K ι H xs vs → RVs K ι' H' xs vs
  | _, _, .nil => .nil
  | _, _, .cons h r => .cons (RV.carry hg ht hl hq h) (RVs.carry hg ht hl hq r)
end
theorem sqT_side {D : Addr} {vs ws : List V} (hd : H D = some (.lst vs)) (a : Addr) (us : List V) (h : SqT K H a us) : SqT K (upd H D (.lst ws)) a us := by
  rcases h with (h | ⟨o, h⟩) | h
  · exact .inl (.inl (by rw [upd_ne (ne_of h hd (by intro z; cases z))]; exact h))
  · exact .inl (.inr ⟨o, by rw [upd_ne (ne_of h hd (by intro z; cases z))]; exact h⟩)
  · exact .inr h
theorem roL_side {D : Addr} {vs ws : List V} (hd : H D = some (.lst vs)) (a : Addr) (us : List V) (h : RoL K H a us) : RoL K (upd H D (.lst ws)) a us := by
  rcases h with ⟨o, h⟩ | h
  · exact .inl ⟨o, by rw [upd_ne (ne_of h hd (by intro z; cases z))]; exact h⟩
  · exact .inr h
theorem lst_side {D : Addr} {vs ws : List V} (hd : H D = some (.lst vs)) (a : Addr) (h : ∃ us, H a = some (.lst us)) : ∃ us, upd H D (.lst ws) a = some (.lst us) := by
  by_cases z : a = D
  · subst z; exact ⟨ws, upd_same⟩
  · obtain ⟨us, h⟩ := h
    exact ⟨us, by rw [upd_ne z]; exact h⟩
theorem RV.side {D : Addr} {vs ws : List V} (hd : H D = some (.lst vs)) {x : Val} {v : V} (r : RV K ι H x v) : RV K ι (upd H D (.lst ws)) x v := r.carry (fun _ _ h => h) (sqT_side hd) (roL_side hd) (lst_side hd)
theorem RVs.side {D : Addr} {vs ws : List V} (hd : H D = some (.lst vs)) {x : List Val} {v : List V} (r : RVs K ι H x v) : RVs K ι (upd H D (.lst ws)) x v := r.carry (fun _ _ h => h) (sqT_side hd) (roL_side hd) (lst_side hd)
theorem RS.side {D : Addr} {vs ws : List V} (hd : H D = some (.lst vs)) (h : RS K ι H ρ σ) : RS K ι (upd H D (.lst ws)) ρ σ := ⟨h.1, fun i x e => by
  obtain ⟨u, a, b⟩ := h.2 i x e
  exact ⟨u, a, b.side hd⟩⟩
theorem RH.side {D : Addr} {vs ws : List V} (hh : RH K ι H S) (hn : D ∉ ι) (hd : H D = some (.lst vs)) : RH K ι (upd H D (.lst ws)) S := by
  refine ⟨hh.len, fun n a c e1 e2 => ?_, hh.nd⟩
  have na : a ≠ D := fun z => hn (z ▸ List.mem_of_getElem? e1)
  have q := hh.ok n a c e1 e2
  cases c with
  | lst xs =>
    obtain ⟨us, r, q⟩ := q
    exact ⟨us, r.side hd, by rw [upd_ne na]; exact q⟩
  | obj cn fs =>
    obtain ⟨C, dx, ns, us, k, q, en, r⟩ := q
    exact ⟨C, dx, ns, us, k, by rw [upd_ne na]; exact q, en, r.side hd⟩
  | dct kvs =>
    obtain ⟨ks, us, q, en, r⟩ := q
    exact ⟨ks, us, by rw [upd_ne na]; exact q, en, r.side hd⟩
theorem RH.adopt {D : Addr} {xs : List Val} {vs : List V} (hh : RH K ι H S) (hn : D ∉ ι) (hd : H D = some (.lst vs)) (r : RVs K ι H xs vs) : RH K (ι ++ [D]) H (S ++ [.lst xs]) := by
  have hg : ∀ (n : Nat) (a : Addr), ι[n]? = some a → (ι ++ [D])[n]? = some a := fun n a h => by
    rw [List.getElem?_append_left (List.getElem?_eq_some_iff.mp h).1]; exact h
  have cas : ∀ (n : Nat) (a : Addr) (c : Cell), (ι ++ [D])[n]? = some a → (S ++ [.lst xs])[n]? = some c → (ι[n]? = some a ∧ S[n]? = some c) ∨ (n = ι.length ∧ D = a ∧ c = .lst xs) := fun n a c e1 e2 => by
    rcases get_append_some e1 with e1 | ⟨rfl, rfl⟩
    · rcases get_append_some e2 with e2 | ⟨rfl, rfl⟩
      · exact .inl ⟨e1, e2⟩
      · exact absurd (List.getElem?_eq_some_iff.mp e1).1 (by rw [hh.len]; exact Nat.lt_irrefl _)
    · rcases get_append_some e2 with e2 | ⟨_, rfl⟩
      · exact absurd (List.getElem?_eq_some_iff.mp e2).1 (by rw [hh.len]; exact Nat.lt_irrefl _)
      · exact .inr ⟨rfl, rfl, rfl⟩
  refine ⟨by simp [hh.len], fun n a c e1 e2 => ?_, fun n m a e1 e2 => ?_⟩
  · rcases cas n a c e1 e2 with ⟨e1, e2⟩ | ⟨_, rfl, rfl⟩
    · have q := hh.ok n a c e1 e2
      cases c with
      | lst ys => obtain ⟨us, r, q⟩ := q; exact ⟨us, r.carry hg (fun _ _ h => h) (fun _ _ h => h) fun _ h => h, q⟩
      | obj cn fs => obtain ⟨C, dx, ns, us, k, q, en, r⟩ := q; exact ⟨C, dx, ns, us, k, q, en, r.carry hg (fun _ _ h => h) (fun _ _ h => h) fun _ h => h⟩
      | dct kvs => obtain ⟨ks, us, q, en, r⟩ := q; exact ⟨ks, us, q, en, r.carry hg (fun _ _ h => h) (fun _ _ h => h) fun _ h => h⟩
    · exact ⟨vs, r.carry hg (fun _ _ h => h) (fun _ _ h => h) fun _ h => h, hd⟩
  · rcases get_append_some e1 with e1 | ⟨a1, b1⟩ <;> rcases get_append_some e2 with e2 | ⟨a2, b2⟩
    · exact hh.nd n m a e1 e2
    · exact absurd (List.mem_of_getElem? e1) (by rw [← b2]; exact hn)
    · exact absurd (List.mem_of_getElem? e2) (by rw [← b1]; exact hn)
    · rw [a1, a2]
theorem Ext.adopt {D : Addr} {ι1 : List Addr} {H1 : Hp} (e : Ext ι1 H1 ι H) (h1 : H1 D = none) : Ext ι1 H1 (ι ++ [D]) H := by
  refine ⟨e.pre.trans (List.prefix_append _ _), e.fr, fun a h n => ?_, e.tp, e.fz, e.ls⟩
  rcases List.mem_append.mp h with z | z
  · exact e.new a z n
  · rw [List.mem_singleton.mp z]; exact h1
/-- where an own list stands behind a step -/
theorem Ext.own {D : Addr} {vs : List V} (e : Ext ι H ι' H') (hn : D ∉ ι) (hd : H D = some (.lst vs)) : D ∉ ι' ∧ H' D = some (.lst vs) := by
  refine ⟨fun z => ?_, e.fr D _ hd hn⟩
  have := e.new D z hn
  rw [hd] at this; cases this
theorem FinG.noX {Γ : Cfg} {α β : Type} {R : List Addr → Hp → α → β → Prop} {W W' : Value → Option Addr → Hp → Prop} {Q : β → Hp → Prop} {r : Res α} (h : FinG Γ R W ι H Q (PD.noX r)) : FinG Γ R W' ι H Q r := by
  cases r with
  | exc e S => exact h.elim
  | _ => exact h
theorem noX_bind {Γ : Cfg} {α β γ δ : Type} {R : List Addr → Hp → α → β → Prop} {R2 : List Addr → Hp → γ → δ → Prop} {W W' : Value → Option Addr → Hp → Prop} {Q : δ → Hp → Prop} {Q' : β → Hp → Prop} {r : Res α} {k : α → Store → Res γ} (h : FinG Γ R2 W ι H Q ((PD.noX r).bind k))
    (hk : ∀ x S1 ι1 H1 v, Ext ι H ι1 H1 → RH Γ.K ι1 H1 S1 → R ι1 H1 x v → FinG Γ R2 W ι1 H1 Q (k x S1) → Q' v H1) : FinG Γ R W' ι H Q' r := by
  cases r with
  | ok x S => exact fun ι1 H1 v e a b => hk x S ι1 H1 v e a b (FinG.weak e h)
  | exc x S => exact h.elim
  | stuck => exact h
theorem noX_bind0 {Γ : Cfg} {α β γ δ : Type} {R : List Addr → Hp → α → β → Prop} {R2 : List Addr → Hp → γ → δ → Prop} {W W' : Value → Option Addr → Hp → Prop} {Q : δ → Hp → Prop} {Q' : β → Hp → Prop} {r : Res α} {k : α → Store → Res γ} (h : FinG Γ R2 W ι H Q ((PD.noX r).bind k))
    (hk : ∀ x S1 ι1 H1 v, Ext ι' H' ι1 H1 → RH Γ.K ι1 H1 S1 → R ι1 H1 x v → FinG Γ R2 W ι H Q (k x S1) → Q' v H1) : FinG Γ R W' ι' H' Q' r := by
  cases r with
  | ok x S => exact fun ι1 H1 v e a b => hk x S ι1 H1 v e a b h
  | exc x S => exact h.elim
  | stuck => exact h.elim
end
section
variable {X : Cx} {cv : Nat → Value} {W : WX}
abbrev W0 : WX := fun _ _ _ _ => False
/-- what the source hands out -/
structure SrcOk (X : Cx) (src : Src) (J : It) (Ok : List Addr → Hp → Prop) : Prop where
  ext : ∀ ι H ι' H', Ok ι H → Ext ι H ι' H' → Ok ι' H'
  side : ∀ ι H (D : Addr) (vs ws : List V), Ok ι H → H D = some (.lst vs) → Ok ι (upd H D (.lst ws))
  stop : ∀ i ι H S, Ok ι H → RH X.K ι H S → src i S = some none → J.stop i H
  go : ∀ i ι H S x, Ok ι H → RH X.K ι H S → src i S = some (some x) → J.go i H
  yld : ∀ i ι H S x y H', Ok ι H → RH X.K ι H S → src i S = some (some x) → J.yld i H y H' → H' = H ∧ RV X.K ι H x y
theorem bind_assoc {α β γ : Type} (r : Res α) (k : α → Store → Res β) (l : β → Store → Res γ) : (r.bind k).bind l = r.bind fun x S => (k x S).bind l := by
  cases r <;> rfl
theorem comp_core {src : Src} {J : It} {Ok : List Addr → Hp → Prop} {g : TG} {t : TgD} {tt : TT} {te : TE} {c : DT} {f : D} {vs : List Nat} (so : SrcOk X src J Ok) (ht : TgOk X.K g t) (htt : ∀ σ H Q, TDT (Gm X cv) W0 c σ H Q → tt σ H Q) (hte : ∀ σ H Q, TD (Gm X cv) W0 f σ H Q → te σ H Q)
    {ι : List Addr} {H : Hp} {ρ : PD.Env} {σ : L2.St} {S : Store} {WW : Value → Option Addr → Hp → Prop} {Q : VK} (hgw : ∀ v σ H (Q : L2.St → Hp → Prop), g v (wipe σ vs) H Q → g v (wipe σ vs) H fun σ2 H2 => wipe σ2 vs = wipe σ vs ∧ Q σ2 H2)
    (hs : RS X.K ι H ρ σ) (hh : RH X.K ι H S) (h0 : Ok ι H) {m : Nat} (q : Fin (Gm X cv) WW ι H Q ((compG src t c f m 0 [] (wipeE ρ vs) S).bind alloc)) :
    ∀ D, H D = none → ∃ W' : Nat → Nat → Hp → Prop, (∃ m, W' 0 m (upd H D (.lst []))) ∧ ∀ i m H, W' i m H →
      (J.stop i H ∧ Q (.ref D) H) ∨ (J.go i H ∧ ∃ Nx : Hp → Prop, (∀ H', Nx H' → ∃ m', m' < m ∧ W' (i + 1) m' H') ∧ ∀ x H', J.yld i H x H' → g x (wipe σ vs) H' fun σ2 H2 => wipe σ2 vs = wipe σ vs ∧ tt σ2 H2 fun b H3 =>
        if b = true then te σ2 H3 fun y H4 => ∃ acc, H4 D = some (.lst acc) ∧ acc.length < sizeLine ∧ Nx (upd H4 D (.lst (acc ++ [y]))) else Nx H3) := by
  intro D hD
  have hw0 := wipe_rs hs vs
  refine ⟨fun i m H' => ∃ ι' S' acc us, Ext ι H ι' H' ∧ RH X.K ι' H' S' ∧ Ok ι' H' ∧ D ∉ ι' ∧ H' D = some (.lst us) ∧ RVs X.K ι' H' acc us ∧ Fin (Gm X cv) WW ι H Q ((compG src t c f m i acc (wipeE ρ vs) S').bind alloc), ⟨m, ι, S, [], [], Ext.fresh hD, hh.fresh hD, so.ext _ _ _ _ h0 (Ext.fresh hD), fun z => ?_, upd_same, .nil, q⟩, fun i m' H' ⟨ι', S', acc, us, e, hh', h0', nD, hd, ra, q'⟩ => ?_⟩
  · exact hh.trk z hD
  · have rs' := hw0.ext e
    have stop : src i S' = some none → Fin (Gm X cv) WW ι H Q (alloc acc S') → J.stop i H' ∧ Q (.ref D) H' := fun es qa => by
      refine ⟨so.stop i ι' H' S' h0' hh' es, qa _ _ _ (e.adopt hD) (hh'.adopt nD hd ra) (.ref ?_ ⟨_, hd⟩)⟩
      rw [← hh'.len]; simp
    cases m' with
    | zero =>
      unfold compG at q'
      split at q'
      · rename_i es
        exact .inl (stop es q')
      · exact q'.elim
    | succ m' =>
      unfold compG at q'
      split at q'
      · exact q'.elim
      · rename_i es
        exact .inl (stop es q')
      · rename_i x ex
        split at q'
        · exact q'.elim
        · rename_i ρ1 eρ
          refine .inr ⟨so.go i ι' H' S' x h0' hh' ex, fun H2 => ∃ ι' S' acc us, Ext ι H ι' H2 ∧ RH X.K ι' H2 S' ∧ Ok ι' H2 ∧ D ∉ ι' ∧ H2 D = some (.lst us) ∧ RVs X.K ι' H2 acc us ∧ Fin (Gm X cv) WW ι H Q ((compG src t c f m' (i + 1) acc (wipeE ρ vs) S').bind alloc), fun H2 h2 => ⟨m', Nat.lt_succ_self m', h2⟩, fun y H2 hy => ?_⟩
          obtain ⟨rfl, rx⟩ := so.yld i ι' H' S' x y H2 h0' hh' ex hy
          refine hgw _ _ _ _ (ht ι' H2 _ ρ1 (wipe σ vs) x y _ rs' rx eρ fun σ2 hs2 => ?_)
          rw [bind_assoc] at q'
          refine htt σ2 H2 _ ⟨ι', ρ1, S', hs2, hh', noX_bind0 (R := fun _ _ => Eq) q' fun b S1 ι1 H1 b' e1 h1 r1 q1 => ?_⟩
          cases r1
          obtain ⟨nD1, hd1⟩ := e1.own nD hd
          have o1 := so.ext _ _ _ _ h0' e1
          cases b with
          | false => exact ⟨ι1, S1, acc, us, e.trans e1, h1, o1, nD1, hd1, ra.ext e1, q1⟩
          | true =>
            have q1 : Fin (Gm X cv) WW ι H Q (((PD.noX (f ρ1 S1)).bind fun y S2 => if acc.length < 16777216 then compG src t c f m' (i + 1) (acc ++ [y]) (wipeE ρ vs) S2 else .stuck).bind alloc) := q1
            rw [bind_assoc] at q1
            refine hte σ2 H1 _ ⟨ι1, ρ1, S1, hs2.ext e1, h1, noX_bind0 q1 fun y S2 ι2 H2 v e2 h2 r2 q2 => ?_⟩
            obtain ⟨nD2, hd2⟩ := e2.own nD1 hd1
            split at q2
            · rename_i hl
              have ra2 := (ra.ext e1).ext e2
              refine ⟨us, hd2, by rw [← ra.length, sizeLine_eq]; exact hl, ι2, S2, acc ++ [y], us ++ [v], ((e.trans e1).trans e2).side hD hd2, h2.side nD2 hd2, so.side _ _ _ _ _ (so.ext _ _ _ _ o1 e2) hd2, nD2, upd_same, (ra2.append (.cons r2 .nil)).side hd2, q2⟩
            · exact q2.elim
theorem wipe_name {i : Nat} : ∀ (v : V) (σ : L2.St) (H : Hp) (Q : L2.St → Hp → Prop), gName i v (wipe σ [i]) H Q → gName i v (wipe σ [i]) H fun σ2 H2 => wipe σ2 [i] = wipe σ [i] ∧ Q σ2 H2 := fun v σ H Q q => by
  refine ⟨?_, q⟩
  show ((σ.set i none).set i (some v)).set i none = σ.set i none
  rw [List.set_set, List.set_set]
theorem src_list {n : Nat} {a : Addr} : SrcOk X (srcC n) (Itl X.K a) (fun ι H => ι[n]? = some a ∧ ∃ vs, H a = some (.lst vs)) where
  ext := fun ι H ι' H' h e => ⟨e.get h.1, by obtain ⟨vs, z⟩ := h.2; exact e.ls a vs z⟩
  side := fun _ _ _ _ _ h hd => ⟨h.1, lst_side hd a h.2⟩
  stop := fun i ι H S h hh q => by
    unfold srcC at q
    split at q
    · rename_i c ec
      obtain ⟨vs, rv, hq⟩ := (hh.ok _ _ _ h.1 ec).sq h.2
      have := Option.some.inj q
      exact ⟨vs, hq, by rw [← rv.length]; exact List.getElem?_eq_none_iff.mp this⟩
    · cases q
  go := fun i ι H S x h hh q => by
    unfold srcC at q
    split at q
    · rename_i c ec
      obtain ⟨vs, rv, hq⟩ := (hh.ok _ _ _ h.1 ec).sq h.2
      obtain ⟨v, ev, _⟩ := rv.get (Option.some.inj q)
      exact ⟨vs, v, hq, ev⟩
    · cases q
  yld := fun i ι H S x y H' h hh q hy => by
    unfold srcC at q
    split at q
    · rename_i c ec
      obtain ⟨vs, rv, hq⟩ := (hh.ok _ _ _ h.1 ec).sq h.2
      obtain ⟨v, ev, r⟩ := rv.get (Option.some.inj q)
      obtain ⟨rfl, hy⟩ := hy
      have := hy vs hq
      rw [ev] at this; cases this
      exact ⟨rfl, r⟩
    · cases q
theorem src_tup {a : Addr} {xs : List Val} {vs : List V} : SrcOk X (srcL xs) (Itt X.K a) (fun ι H => SqT X.K H a vs ∧ RVs X.K ι H xs vs) where
  ext := fun ι H ι' H' h e => ⟨e.sqT h.1, h.2.ext e⟩
  side := fun ι H D us ws h hd => ⟨sqT_side hd _ _ h.1, h.2.side hd⟩
  stop := fun i ι H S h hh q => ⟨vs, h.1, by rw [← h.2.length]; exact List.getElem?_eq_none_iff.mp (Option.some.inj q)⟩
  go := fun i ι H S x h hh q => by
    obtain ⟨v, ev, _⟩ := h.2.get (Option.some.inj q)
    exact ⟨vs, v, h.1, ev⟩
  yld := fun i ι H S x y H' h hh q hy => by
    obtain ⟨v, ev, r⟩ := h.2.get (Option.some.inj q)
    obtain ⟨rfl, hy⟩ := hy
    have := hy vs h.1
    rw [ev] at this; cases this
    exact ⟨rfl, r⟩
theorem src_rng {n : Nat} : SrcOk X (srcL (rangeV 0 n)) (Itr 0 n) (fun _ _ => True) where
  ext := fun _ _ _ _ _ _ => trivial
  side := fun _ _ _ _ _ _ _ => trivial
  stop := fun i ι H S h hh q => by
    have := List.getElem?_eq_none_iff.mp (Option.some.inj q)
    rw [rangeV_length] at this
    exact this
  go := fun i ι H S x h hh q => by
    have := (List.getElem?_eq_some_iff.mp (Option.some.inj q)).1
    rw [rangeV_length] at this
    exact this
  yld := fun i ι H S x y H' h hh q hy => by
    obtain ⟨rfl, rfl⟩ := hy
    have hi := (List.getElem?_eq_some_iff.mp (Option.some.inj q)).1
    rw [rangeV_length] at hi
    have e := Option.some.inj q
    rw [rangeV_get hi] at e
    cases e
    exact ⟨rfl, .int _⟩
variable {elt tg iter : Expr} {ifs : List Expr} {scope : Scope} {own : List (Str × Nat)} {pos spos : Pos} {g : TG} {t : TgD} {c : DT} {e f : D}
theorem pdts_nil : PTs X [] (TDT (Gm X cv) W tYes') := ⟨fun pins s σ H Q I ⟨ι, ρ, S, hs, hh, q⟩ => pts_nil.run pins s σ H Q I (q.here hh rfl)⟩
theorem pdts_one {e : Expr} {t : DT} (h : PT X e (TDT (Gm X cv) W t)) : PTs X [e] (TDT (Gm X cv) W t) := pts_one h
abbrev Wp (g : TG) (vs : List Nat) : Prop := ∀ (v : V) (σ : L2.St) (H : Hp) (Q : L2.St → Hp → Prop), g v (wipe σ vs) H Q → g v (wipe σ vs) H fun σ2 H2 => wipe σ2 vs = wipe σ vs ∧ Q σ2 H2
abbrev tLcD (X : Cx) (cv : Nat → Value) (wi : TI) (g : TG) (c : DT) (e : D) (vs : List Nat) : TE := tLc wi g (TDT (Gm X cv) W0 c) (TD (Gm X cv) W0 e) vs
theorem lcC {vs : List Nat} (ht : TgOk X.K g t) (hw : Wp g vs) (σ : L2.St) (H : Hp) (Q : VK) (h : TD (Gm X cv) W (dLCC f t c e vs) σ H Q) : tLcD X cv (iList X.K (TD (Gm X cv) W f)) g c e vs σ H Q := by
  obtain ⟨ι, ρ, S, hs, hh, q⟩ := h
  refine ⟨ι, ρ, S, hs, hh, FinG.bind q fun x S1 ι1 H1 u e1 h1 r1 q1 => ?_⟩
  cases r1 with
  | ref hn hlz =>
    rename_i n a
    have q1 : Fin (Gm X cv) (fun c d H' => W c d σ H') ι1 H1 Q (match S1[n]? with | some cc => (compG (srcC n) t c e cc.items.length 0 [] (wipeE ρ vs) S1).bind alloc | none => .stuck) := q1
    split at q1
    · rename_i cc ec
      obtain ⟨us, rv, hq⟩ := (h1.ok _ _ _ hn ec).sq hlz
      exact ⟨a, rfl, ⟨us, hq⟩, comp_core src_list ht (fun _ _ _ h => h) (fun _ _ _ h => h) hw (hs.ext e1) h1 ⟨hn, hlz⟩ q1⟩
    · exact q1.elim
  | _ => exact q1.elim
theorem lcT {vs : List Nat} (ht : TgOk X.K g t) (hw : Wp g vs) (σ : L2.St) (H : Hp) (Q : VK) (h : TD (Gm X cv) W (dLCT f t c e vs) σ H Q) : tLcD X cv (iTup X.K (TD (Gm X cv) W f)) g c e vs σ H Q := by
  obtain ⟨ι, ρ, S, hs, hh, q⟩ := h
  refine ⟨ι, ρ, S, hs, hh, FinG.bind q fun x S1 ι1 H1 u e1 h1 r1 q1 => ?_⟩
  cases r1 with
  | tup ha ra => exact ⟨_, rfl, ⟨_, ha⟩, comp_core src_tup ht (fun _ _ _ h => h) (fun _ _ _ h => h) hw (hs.ext e1) h1 ⟨ha, ra⟩ q1⟩
  | _ => exact q1.elim
theorem lcR {vs : List Nat} {fa : DA} (ht : TgOk X.K g t) (hw : Wp g vs) (σ : L2.St) (H : Hp) (Q : VK) (h : TD (Gm X cv) W (dLCR fa t c e vs) σ H Q) : tLcD X cv (iRng1 (TDA (Gm X cv) W fa)) g c e vs σ H Q := by
  obtain ⟨ι, ρ, S, hs, hh, q⟩ := h
  refine ⟨ι, ρ, S, hs, hh, FinG.bind q fun xs S1 ι1 H1 us e1 h1 r1 q1 => ?_⟩
  split at q1
  · rename_i j
    split at q1
    · rename_i hj
      cases r1 with
      | cons r1 r2 =>
        cases r1; cases r2
        exact ⟨j, rfl, hj.1, hj.2, comp_core src_rng ht (fun _ _ _ h => h) (fun _ _ _ h => h) hw (hs.ext e1) h1 trivial q1⟩
    · exact q1.elim
  · exact q1.elim
/-- the block's parts -/
structure LcOk (X : Cx) (cv : Nat → Value) (elt tg : Expr) (ifs : List Expr) (scope : Scope) (own : List (Str × Nat)) (g : TG) (t : TgD) (c : DT) (e : D) : Prop where
  ok : BlkOk X.N X.env.scope scope own
  tg : ∀ (s : Shared) (H : Hp) (C : Addr) (cl : List (Str × Addr)) (fp : List Addr), PG (X.blk s H scope (PySem.compEnvC scope cl C X.env) fp) tg g
  tok : TgOk X.K g t
  wp : Wp g (own.map (·.2))
  ifs : ∀ (s : Shared) (H : Hp) (C : Addr) (cl : List (Str × Addr)) (fp : List Addr), PTs (X.blk s H scope (PySem.compEnvC scope cl C X.env) fp) ifs (TDT (Gm X cv) W0 c)
  elt : ∀ (s : Shared) (H : Hp) (C : Addr) (cl : List (Str × Addr)) (fp : List Addr), PE (X.blk s H scope (PySem.compEnvC scope cl C X.env) fp) elt (TD (Gm X cv) W0 e)
theorem pd_lcC (hc : X.calm = true) (hN : X.N.Nodup) (hi : PE X iter (TD (Gm X cv) W f)) (L : LcOk X cv elt tg ifs scope own g t c e) (hs : ∀ x, foldedSetIterable iter X.env x = pure x := by intro _; rfl) :
    PE X (.ListComp elt [⟨tg, iter, ifs, 0⟩] scope pos) (TD (Gm X cv) W (dLCC f t c e (own.map (·.2)))) :=
  (pe_lc hc hN (pi_list hi) L.ok L.tg L.ifs L.elt hs).imp fun σ H Q h => lcC L.tok L.wp σ H Q h
theorem pd_lcT (hc : X.calm = true) (hN : X.N.Nodup) (hi : PE X iter (TD (Gm X cv) W f)) (L : LcOk X cv elt tg ifs scope own g t c e) (hs : ∀ x, foldedSetIterable iter X.env x = pure x := by intro _; rfl) :
    PE X (.ListComp elt [⟨tg, iter, ifs, 0⟩] scope pos) (TD (Gm X cv) W (dLCT f t c e (own.map (·.2)))) :=
  (pe_lc hc hN (pi_tup hi) L.ok L.tg L.ifs L.elt hs).imp fun σ H Q h => lcT L.tok L.wp σ H Q h
theorem pd_lcR {a : Expr} {fa : DA} {p pos2 : Pos} (hc : X.calm = true) (hN : X.N.Nodup) (hgl : Gl X "range") (hm : X.mg "range" = none) (hi : PA X [a] (TDA (Gm X cv) W fa)) (L : LcOk X cv elt tg ifs scope own g t c e)
    (hst : starEach [a] X.env = [(false, eval a X.env)] := by rfl) (hs : ∀ x, foldedSetIterable (.Call (.Name "range" p) [a] [] pos2) X.env x = pure x := by intro _; rfl) :
    PE X (.ListComp elt [⟨tg, .Call (.Name "range" p) [a] [] pos2, ifs, 0⟩] scope pos) (TD (Gm X cv) W (dLCR fa t c e (own.map (·.2)))) :=
  (pe_lc hc hN (pi_range1 hgl hm hi hst) L.ok L.tg L.ifs L.elt hs).imp fun σ H Q h => lcR L.tok L.wp σ H Q h
end
end PD

/-! ## PDEnd -/
set_option Elab.async false
set_option linter.all false
set_option maxRecDepth 100000
set_option maxHeartbeats 2000000
namespace PD
open PySem PySem.Spec L2

/-! ### repr -/
def bRepr : Fn := fun xs S => match xs with
  | [x] => match toD 66 S x with
    | some d => if d.showable = true ∧ SeqAt.shaped d = true ∧ d.shown.length ≤ 16777216 then .ok (.str d.shown) S else .stuck
    | none => .stuck
  | _ => .stuck
def rRepr (K : PySem.W.Frag) : List V → Hp → VK → Prop := fun xs H Q => ∃ x d, xs = [x] ∧ Dp K H x d ∧ d.showable = true ∧ SeqAt.shaped d = true ∧ d.shown.length ≤ sizeLine ∧ Q (.str d.shown) H
theorem ok_repr {K : PySem.W.Frag} : OKA K (rRepr K) bRepr := by
  intro cv ι H S xs us W Q hh rx q
  unfold bRepr at q
  split at q
  · split at q
    · rename_i d ed
      split at q
      · rename_i hc
        cases rx with
        | cons r1 rr =>
          cases rr
          exact ⟨_, d, rfl, toD_dp hh _ _ _ _ r1 ed, hc.1, hc.2.1, by rw [sizeLine_eq]; exact hc.2.2, q ι H _ .refl hh (.str _)⟩
      · exact q.elim
    · exact q.elim
  · exact q.elim
theorem call_reprD {X : Cx} (hgd : X.A.guards = some []) (hu : X.A.units + 65 < cLine) : CallR X (.builtin "repr") (rRepr X.K) := by
  intro pins s σ H xs us Q I r h
  obtain ⟨x, d, rfl, hd, hs, hsh, hz, q⟩ := h
  obtain ⟨u, rfl, rx⟩ := vals1 r
  have fin : ∀ t, EP X pins σ Q (.str d.shown t) { s with toks := s.toks + 1 } := fun t => ⟨.str d.shown, H, I.tok _, ⟨t, rfl⟩, q⟩
  have big : ∀ a, x = .ref a → wpAny (model X.prog X.w) X.A (call (.builtin "repr") [u]) (EP X pins σ Q) X.xe s := fun a e => by
    subst e
    cases rx
    obtain ⟨as, rd⟩ := Dp.reads I d _ _ hd rfl
    have dep : d.depth ≤ 64 := by
      have q := hsh
      unfold SeqAt.shaped at q
      rw [Bool.and_eq_true] at q
      exact of_decide_eq_true q.2
    refine repr_of_reads' rd hs (PyData.noDict_hsm (PyData.hasDict_of_canLay d (SeqAt.canLay_of_shaped hsh))) hgd (by omega) (fun _ _ e => e) (fun h' t tk hk => ?_) hz
    exact ⟨.str d.shown, H, I.kept hk, ⟨t, rfl⟩, q⟩
  cases hd with
  | non => cases rx; exact P.repr_of_none ⟨.str PyData.none.shown, H, I.tok _, ⟨_, rfl⟩, q⟩
  | bl b => cases rx; exact P.repr_of_bool ⟨.str (PyData.bool b).shown, H, I.tok _, ⟨_, by cases b <;> rfl⟩, q⟩
  | int i =>
    obtain ⟨t, rfl⟩ := rx
    exact P.repr_of_int (of_decide_eq_true hs) ⟨.str (PyData.int i).shown, H, I.tok _, ⟨_, rfl⟩, q⟩
  | str z =>
    obtain ⟨t, rfl⟩ := rx
    exact P.repr_of_str ⟨.str (PyData.str z).shown, H, I.tok _, ⟨_, rfl⟩, q⟩ hz
  | lst ha _ => exact big _ rfl
  | tup ha _ => exact big _ rfl

/-! ### the end -/
section
variable {P : Program} {w : World} {K : PySem.W.Frag} {mg mb : Str → Option Value} {k : Nat} {fa a : Addr} {fd : FuncData} {x : Str} {cv : Nat → Value} {F : Fn} {s₁ : Shared} {vs : List Value} {ns : List Int}
abbrev Told (s₁ : Shared) (r : Result) (s' : Shared) : Prop := r = .ok (.ret (.bool true)) ∧ OldK s₁.heap s'.heap ∧ s'.os = s₁.os ∧ PyProof.Rows.AllBare s'.gens
theorem rvs_of_ints {ι : List Addr} {H : Hp} : ∀ ns : List Int, RVs K ι H (ns.map Val.int) (ns.map V.int)
  | [] => .nil
  | n :: r => .cons (.int n) (rvs_of_ints r)
/-- from a heap of which at most the script is tracked -/
theorem law_at (KX : K.In s₁.heap) (hns : s₁.heap.Ns mainGlobals mg) (hb : s₁.heap.Ns builtinsNs mb) (hbb : ∀ x : Str, x ≠ "__name__" → mb x = bootBuiltins x) (hlim : s₁.heap.NoLimit) (hg : s₁.gens = #[])
    (ha : s₁.heap.get? a = some { cls := .type "list", data := .seq vs.toArray }) (hr : Room k callerA)
    (G : ∀ base : Heap, K.In base → base.Ns mainGlobals mg → FnG P w K mg base k fa fd [x] (SpecOf ⟨K, cv⟩ F)) (hbind : ∀ (s : Shared) (u : Value), BindsTo s fd ⟨[u], []⟩ [(x, u)])
    {S : Store} (hT : F [.kl (ns.map Val.int)] [] = .ok (.bl true) S)
    (H : Hp) (hro : RoL K H a (ns.map V.int)) (hok : HOk P w H s₁.heap) (hA : ∀ b, H b ≠ none → b = a) (hfr : ∀ b u, H b = some u → ∃ o xs, u = .frz o (.lst xs)) (hK : H a ≠ none → K.lookup a = none) :
    codeAny (model P w) callerA (.call (.ref fa) ⟨[.ref a], []⟩) (Told s₁) s₁ := by
  have free : ∀ {b : Addr} {o : Obj} {es : Array DictEntry} {ep : Nat}, s₁.heap.get? b = some o → o.data = .dict es ep → H b = none := by
    intro b o es ep e d
    by_cases q : H b = none
    · exact q
    · have := hA b q
      subst this
      rw [ha] at e
      cases e
      cases d
  have keepNs : ∀ {b : Addr} {m : Str → Option Value}, s₁.heap.Ns b m → (hidT s₁.heap H).Ns b m := by
    rintro b m ⟨o, es, ep, e, d, r⟩
    exact ⟨o, es, ep, hidT_get e (free e d), d, r⟩
  have inB : K.In (hidT s₁.heap H) := fun b o e => by
    refine hidT_get (KX b o e) ?_
    by_cases q : H b = none
    · exact q
    · have := hA b q
      subst this
      rw [hK q] at e; cases e
  have md : Mod K mg (hidT s₁.heap H) := ⟨inB, keepNs hns, ⟨mb, keepNs hb, hbb⟩, by
    obtain ⟨mc, h1, h2⟩ := hlim
    exact ⟨mc, keepNs h1, h2⟩⟩
  have env : Env0 P w K mg (hidT s₁.heap H) callerA [] s₁ H :=
    ⟨rfl, md, fun _ _ e => of_hidT e, Nat.le_of_eq (hidT_size _ _), trivial, fun _ z => (nomatch z), hok, .of_eq hg⟩
  have spec : SpecOf ⟨K, cv⟩ F [.ref a] H (fun v _ => v = .bl true) (fun _ _ _ => False) := by
    refine ⟨[], [.kl (ns.map Val.int)], [], .cons (.kl hro (rvs_of_ints ns)) .nil, ⟨rfl, fun n a c e => by simp at e, fun n m a e => by simp at e⟩, ?_⟩
    rw [hT]
    intro ι' H' v e hh r
    cases r; rfl
  refine codeAny_mono ((G _ inB (keepNs hns)).go callerA [] s₁ H ⟨[.ref a], []⟩ [.ref a] [.ref a] _ _ rfl hr env (hbind s₁ (.ref a)) (.cons rfl .nil) spec) fun r s' h => ?_
  rcases r with e | fl
  · obtain ⟨_, _, _, _, _, _, _, _, _, _, _, _, z⟩ := h
    exact z.elim
  · cases fl with
    | ret u =>
      obtain ⟨v, H', os, bare, un, hok', r', q⟩ := h
      have q : v = .bl true := q
      subst q
      cases r'
      refine ⟨rfl, OldK.of_keep fun b o e => ?_, os, bare⟩
      by_cases q : H b = none
      · exact un.keep b o e q (fun z => by cases z) (by simp)
      · obtain ⟨u, hu⟩ := Option.ne_none_iff_exists'.mp q
        obtain ⟨ob, xs, rfl⟩ := hfr b u hu
        have e1 := (hok b _ hu).1
        have e2 := (hok' b _ (un.frzs b ob _ hu)).1
        rw [e] at e1
        cases e1
        exact e2
    | _ => exact h.elim
theorem law_g (KX : K.In s₁.heap) (hns : s₁.heap.Ns mainGlobals mg) (hb : s₁.heap.Ns builtinsNs mb) (hbb : ∀ x : Str, x ≠ "__name__" → mb x = bootBuiltins x) (hlim : s₁.heap.NoLimit) (hg : s₁.gens = #[])
    (ha : s₁.heap.get? a = some { cls := .type "list", data := .seq vs.toArray }) (hi : PyProof.Rows.IntsAre vs ns) (hl : ns.length ≤ sizeLine) (hr : Room k callerA)
    (G : ∀ base : Heap, K.In base → base.Ns mainGlobals mg → FnG P w K mg base k fa fd [x] (SpecOf ⟨K, cv⟩ F)) (hbind : ∀ (s : Shared) (u : Value), BindsTo s fd ⟨[u], []⟩ [(x, u)])
    {S : Store} (hT : F [.kl (ns.map Val.int)] [] = .ok (.bl true) S) : codeAny (model P w) callerA (.call (.ref fa) ⟨[.ref a], []⟩) (Told s₁) s₁ := by
  have rv := vals_ints hi
  cases hk : K.lookup a with
  | some o =>
    have e := KX a o hk
    rw [ha] at e
    cases e
    exact law_at KX hns hb hbb hlim hg ha hr G hbind hT (fun _ => none) (.inr ⟨_, _, _, hk, rfl, rfl, rfl, by rw [List.size_toArray, hi.length]; exact hl, by simpa using rv⟩) (fun _ _ z => by cases z) (fun _ z => absurd rfl z) (fun _ _ z => by cases z) fun z => absurd rfl z
  | none =>
    have only : ∀ b u, (if b = a then some (HO.frz { cls := .type "list", data := .seq vs.toArray } (.lst (ns.map V.int))) else none) = some u → b = a ∧ u = HO.frz { cls := .type "list", data := .seq vs.toArray } (.lst (ns.map V.int)) := fun b u z => by
      split at z
      · rename_i q; cases z; exact ⟨q, rfl⟩
      · cases z
    refine law_at KX hns hb hbb hlim hg ha hr G hbind hT (fun b => if b = a then some (.frz { cls := .type "list", data := .seq vs.toArray } (.lst (ns.map V.int))) else none) (.inl ⟨_, if_pos rfl⟩) (fun b u z => ?_) (fun b z => ?_) (fun b u z => ?_) fun _ => hk
    · obtain ⟨rfl, rfl⟩ := only b u z
      exact ⟨ha, by rw [List.length_map]; exact hl, vs, _, rv, ha⟩
    · obtain ⟨u, hu⟩ := Option.ne_none_iff_exists'.mp z
      exact (only b u hu).1
    · exact ⟨_, _, (only b u z).2⟩
end
theorem walk_g {l : PySem.W.OpenLaw} {n k : Nat} {q : Program} {loose : List Str} {XP : (Str → Option Value) → Heap → Prop} {YP : World → Heap → Prop} {d : DefRec} {K : Params → PySem.W.Frag} {x : Str} {F : Fn}
    (hn : l.most = some n) (hn2 : n ≤ sizeLine) (hdf : d.params.defaults = []) (hr : Room k callerA) (hY : ∀ (w : World) (h : Heap), YP w h → (K w.params).In h)
    (G : ∀ (w : World) (mg : Str → Option Value) (fa : Addr) (h : Heap), (K w.params).In h → h.Ns mainGlobals mg → mg d.name = some (.ref fa) →
      ∃ (fd : FuncData) (cv : Nat → Value), (∀ (s : Shared) (u : Value), BindsTo s fd ⟨[u], []⟩ [(x, u)]) ∧ ∀ base : Heap, (K w.params).In base → base.Ns mainGlobals mg → FnG l.prog w (K w.params) mg base k fa fd [x] (SpecOf ⟨K w.params, cv⟩ F))
    (hT : ∀ ns : List Int, ns.length ≤ n → (∀ z ∈ ns, Builtin.Int.intBits z ≤ 1048576) → ∃ S, F [.kl (ns.map Val.int)] [] = .ok (.bl true) S) : PySem.W.WalkO q loose XP YP l.row.toRowW d [] (fun f vs => PySem.call f vs) := by
  refine Att.attach_callB hn hdf fun w s₀ s₁ mg mb fa o pm cd doc a vs ns Gr Y ho hd hcd hmg hobj hints hlen hbits hg => ?_
  obtain ⟨fd, cv, hb, hF⟩ := G w mg fa _ (hY w _ Y) Gr.T.g hmg
  obtain ⟨S, e⟩ := hT ns hlen hbits
  exact law_g (hY w _ Y) Gr.T.g Gr.T.b Gr.T.builtins Gr.T.nolimit hg hobj hints (Nat.le_trans hlen hn2) hr hF hb e
end PD

/-! ## PDMisc -/
set_option Elab.async false
set_option linter.all false
set_option maxRecDepth 100000
set_option maxHeartbeats 2000000
namespace PD
open PySem PySem.Spec L2

/-! ### xs * n -/
def repV {α : Type} (k : Nat) (xs : List α) : List α := (List.replicate k xs).flatten
def oRepL : Op2 := fun x y S => match x, y with
  | .ref n, .int k => match S[n]? with
    | some (.lst xs) => if -(2 ^ 63) ≤ k ∧ k < 2 ^ 63 ∧ xs.length * k.toNat ≤ 16777216 then alloc (repV k.toNat xs) S else .stuck
    | _ => .stuck
  | _, _ => .stuck
def oRepT : Op2 := fun x y S => match x, y with
  | .tup xs, .int k => if xs ≠ [] ∧ 2 ≤ k ∧ k ≤ 1000000 ∧ xs.length * k.toNat ≤ 1000000 then .ok (.tup (repV k.toNat xs)) S else .stuck
  | _, _ => .stuck
def rRepTB (K : PySem.W.Frag) : L2.R2 := fun x y H Q => ∃ l k xs, x = .ref l ∧ y = .int k ∧ SqT K H l xs ∧ xs ≠ [] ∧ 2 ≤ k ∧ k ≤ 1000000 ∧ xs.length * k.toNat ≤ 1000000 ∧ ∀ p, H p = none → Q (.ref p) (upd H p (.tup (repV k.toNat xs)))
theorem op_repTB {X : Cx} : OpR X (binaryOp .Mult) (rRepTB X.K) := by
  intro pins s σ H x y v u Q I rx ry h
  obtain ⟨l, k, xs, rfl, rfl, hT, hne, h1, h2, hz, q⟩ := h
  cases rx
  obtain ⟨t, rfl⟩ := ry
  obtain ⟨its, r, ⟨⟨cls, dd, data, sl⟩, ho, hc, n, hd⟩, hs⟩ := I.tuple hT
  simp only at hc hd
  subst hc hd
  have len : its.length = xs.length := r.length.symm
  have ne : its ≠ [] := by
    intro e
    rw [e] at len
    exact hne (List.eq_nil_of_length_eq_zero len.symm)
  have em : its.toArray.isEmpty = false := by
    cases its with
    | nil => exact absurd rfl ne
    | cons _ _ => rfl
  have prod : ((its.toArray.size : Nat) : Int) * k = ((xs.length * k.toNat : Nat) : Int) := by
    rw [List.size_toArray, len, Int.natCast_mul]
    congr 1
    omega
  have small : (List.replicate k.toNat its).flatten.length ≤ 1000000 := by
    rw [PyProof.Rows.lm_len_rep_flat, len, Nat.mul_comm]
    exact hz
  have fits : (List.replicate k.toNat its).flatten.length ≤ sizeLine := by
    rw [sizeLine_eq]; omega
  have d0 : (decide (k < -(2 ^ 63)) || decide (k ≥ 2 ^ 63)) = false := by
    simp only [Bool.or_eq_false_iff, decide_eq_false_iff_not]; omega
  have d1 : (its.toArray.isEmpty || k == 1) = false := by
    rw [em]
    simp only [Bool.false_or, beq_eq_false_iff_ne]; omega
  have d2 : (decide (k ≤ 0) || its.toArray.isEmpty) = false := by
    rw [em]
    simp only [Bool.or_false, decide_eq_false_iff_not]; omega
  have d4 : Builtin.Tuple.tupleTooMany (((its.toArray.size : Nat) : Int) * k) = false := by
    rw [prod]
    unfold Builtin.Tuple.tupleTooMany
    rw [sizeLine_eq]
    simp only [decide_eq_false_iff_not]; omega
  have d3 : ¬ ((its.toArray.size : Nat) : Int) * k > (2 ^ 63 - 1) / 8 := by
    rw [prod]; omega
  have step := tuple_mulW l its.toArray n dd sl k t d0 d1 d2 d3 d4 (by rw [size_rep, List.size_toArray]; exact fits)
  have back := int_rmul_tuple k t l its.toArray n dd sl
  refine wpAny_binaryOp_repeat_ref (T := "tuple") (U := "int") (by decide) ⟨_, ho, rfl⟩ (fun s' => typeIs_int s' k t) noFill_tuple_mul F.fills_int_mul F.slot_int_rmul repeat_tuple F.slot_int_index.lookup ?_
  refine call_meets F.slot_int_rmul (typeIs_int s k t) F.entry_int_rmul (F.args_int_rmul_2 _ _) back ⟨ho, rfl, ⟨_, ho, rfl⟩, ?_⟩
  refine call_meets F.slot_tuple_mul ⟨_, ho, rfl⟩ F.entry_tuple_mul (F.args_tuple_mul_2 _ _) step ⟨ho, ?_⟩
  rw [size_rep]
  have vr : Vals (repV k.toNat xs) (List.replicate k.toNat its).flatten := r.rep k.toNat
  refine ⟨.ref s.heap.objs.size, _, I.laid (t' := s.toks) (o := .tup (repV k.toNat xs)) (fun b ob q => Heap.get?_push_of_some _ q) (Nat.le_refl _) ?_, rfl, q _ (I.hok.fresh (Nat.le_refl _))⟩
  exact ⟨by rw [vr.length]; exact fits, _, vr, PyProof.Rows.IsTup.new _ _⟩
section
variable {K : PySem.W.Frag}
theorem RVs.rep {ι : List Addr} {H : Hp} {xs : List Val} {vs : List V} (r : RVs K ι H xs vs) : ∀ n : Nat, RVs K ι H (repV n xs) (repV n vs)
  | 0 => .nil
  | n + 1 => by
    unfold repV
    rw [List.replicate_succ, List.replicate_succ, List.flatten_cons, List.flatten_cons]
    exact r.append (RVs.rep r n)
theorem ok_repL : OK2 K rRep oRepL := by
  intro cv ι H S x y u v W Q hh rx ry q
  cases rx with
  | ref hn hlz =>
    cases ry with
    | int k =>
      rename_i n a
      have q : Fin ⟨K, cv⟩ W ι H Q (match S[n]? with
        | some (.lst xs) => if -(2 ^ 63) ≤ k ∧ k < 2 ^ 63 ∧ xs.length * k.toNat ≤ 16777216 then alloc (repV k.toNat xs) S else .stuck
        | _ => .stuck) := q
      split at q
      · rename_i xs e1
        split at q
        · rename_i hl
          obtain ⟨vs, ra, hv⟩ := hh.ok _ _ _ hn e1
          refine ⟨a, k, vs, rfl, rfl, hv, hl.1, hl.2.1, by rw [← ra.length, sizeLine_eq]; exact hl.2.2, fun p hp => ?_⟩
          refine q _ _ _ (Ext.alloc hp) (hh.alloc hp (ra.rep _)) (.ref ?_ ⟨_, upd_same⟩)
          rw [← hh.len]; simp
        · exact q.elim
      · exact q.elim
    | _ => exact q.elim
  | _ => exact q.elim
theorem ok_repT : OK2 K (rRepTB K) oRepT := by
  intro cv ι H S x y u v W Q hh rx ry q
  cases rx with
  | tup ha ra =>
    cases ry with
    | int k =>
      rename_i a xs vs
      have q : Fin ⟨K, cv⟩ W ι H Q (if xs ≠ [] ∧ 2 ≤ k ∧ k ≤ 1000000 ∧ xs.length * k.toNat ≤ 1000000 then .ok (.tup (repV k.toNat xs)) S else .stuck) := q
      split at q
      · rename_i hl
        refine ⟨a, k, vs, rfl, rfl, ha, fun e => hl.1 ?_, hl.2.1, hl.2.2.1, by rw [← ra.length]; exact hl.2.2.2, fun p hp => ?_⟩
        · subst e; cases ra; rfl
        · exact q _ _ _ (Ext.fresh hp) (hh.fresh hp) (.tup (SqT.of upd_same) ((ra.rep _).ext (Ext.fresh hp)))
      · exact q.elim
    | _ => exact q.elim
  | _ => exact q.elim
end
/-! ### xs.append(e) -/
def dApp (fo f : D) : D := fun ρ S => (fo ρ S).bind fun o S1 => match o with
  | .ref n => (f ρ S1).bind fun x S2 => match S2[n]? with
    | some (.lst xs) => if xs.length < 16777216 then .ok .non (S2.set n (.lst (xs ++ [x]))) else .stuck
    | _ => .stuck
  | _ => .stuck
section
variable {X : Cx} {cv : Nat → Value} {W : WX} {o e iter tg : Expr} {bs : List Stmt} {pos apos cpos : Pos}
theorem pd_append {fo f : D} (ho : PE X o (TD (Gm X cv) W fo)) (he : PE X e (TD (Gm X cv) W f)) (hm : MtR X "list.append" rAppend)
    (hbase : attributeBase o "append" X.env (eval o X.env) = eval o X.env := by rfl)
    (hfew : ((backTo cpos (starEach [e] X.env)).all (fun x => !x.1) && (backToKw cpos (keywordEach [] X.env)).all (fun x => x.1.isSome)
      && decide ([e].length + ([] : List Keyword).length + (if ([] : List Keyword).isEmpty then 0 else 1) < 30)) = true := by rfl)
    (hline : (apos.endLine == cpos.line) = true := by rfl) (hs : starEach [e] X.env = (false, eval e X.env) :: starEach [] X.env := by rfl) (hplain : (backTo cpos (starEach [] X.env)).any (·.1) = false := by rfl) :
    PE X (.Call (.Attribute o "append" apos) [e] [] cpos) (TD (Gm X cv) W (dApp fo f)) := by
  have pa : PA X [e] (tCons (TD (Gm X cv) W f) tNil) := pa_cons he pa_nil hs
  refine (pe_bm PySem.F.plainAttrs_list PySem.F.slot_list_append PySem.F.type_list_append hm ho pa hbase hfew hline hs hplain).imp fun σ H Q h => ?_
  obtain ⟨ι, ρ, S, hs, hh, q⟩ := h
  refine ⟨ι, ρ, S, hs, hh, FinG.bind q fun ov S1 ι1 H1 u e1 h1 r1 q1 => ?_⟩
  have cell : ∀ n, ov = .ref n → ∃ a, u = .ref a ∧ ι1[n]? = some a ∧ ∃ vs, H1 a = some (.lst vs) := fun n e => by
    subst e; cases r1 with
    | ref hn hlz => exact ⟨_, rfl, hn, hlz⟩
  cases ov with
  | ref n =>
    obtain ⟨a, rfl, hn, hlz⟩ := cell n rfl
    refine ⟨?_, ι1, ρ, S1, hs.ext e1, h1, FinG.bind q1 fun x S2 ι2 H2 v e2 h2 r2 q2 => ?_⟩
    · have hl : n < S1.length := by rw [← h1.len]; exact (List.getElem?_eq_some_iff.mp hn).1
      obtain ⟨vs, _, hq⟩ := (h1.ok n a _ hn (List.getElem?_eq_getElem hl)).sq hlz
      exact .inl ⟨rfl, _, hq⟩
    · show rAppend (.ref a) [v] H2 Q
      have q2 : Fin (Gm X cv) (fun c d H' => W c d σ H') ι2 H2 Q (match S2[n]? with
        | some (.lst xs) => if xs.length < 16777216 then .ok .non (S2.set n (.lst (xs ++ [x]))) else .stuck
        | _ => .stuck) := q2
      split at q2
      · rename_i xs ex
        split at q2
        · rename_i hl
          have hn2 := e2.get hn
          obtain ⟨vs, rv, hv⟩ := h2.ok _ _ _ hn2 ex
          refine ⟨a, vs, v, rfl, rfl, hv, by rw [← rv.length, sizeLine_eq]; exact hl, ?_⟩
          exact q2 _ _ _ (Ext.write hn2 hv) (h2.write hn2 ex hv (rv.append (.cons r2 .nil))) .non
        · exact q2.elim
      · exact q2.elim
  | _ => exact q1.elim
/-! ### for over a tuple -/
theorem ps_forT' {f : D} {g : TG} {t : TgD} {bd : SD} (hp : PassesOwn (model X.prog X.w) X.A X.env X.xe) (hc : X.calm = true) (he : PE X iter (TD (Gm X cv) W f)) (hg : PG X tg g) (ht : TgOk X.K g t) (hb : PSs X bs (TSD (Gm X cv) W bd)) (hfs : ∀ v, foldedSetIterable iter X.env v = pure v := by intro _; rfl) :
    PS X (.For tg iter bs [] pos) (TSD (Gm X cv) W (sForT f t bd)) :=
  (ps_for hp hc (pi_tup he) hg hb hfs).imp fun D σ H ⟨ι, ρ, S, hs, hh, q⟩ => by
    refine ⟨ι, ρ, S, hs, hh, FinS.bind q hs fun x S1 ι1 H1 u e1 h1 r1 q1 => ?_⟩
    cases r1 with
    | tup ha ra =>
      rename_i a xs vs
      refine ⟨a, rfl, ⟨_, ha⟩, for_vals ht trivial xs (fun ι H => SqT X.K H a vs ∧ RVs X.K ι H xs vs) (fun ι H ι' H' h e => ⟨e.sqT h.1, h.2.ext e⟩) (fun ι H h => ⟨vs, h.1, by rw [h.2.length]; exact Nat.le_refl _⟩) (fun ι H i h hi => ?_) (fun ι H i y H' h hi hy => ?_) (hs.ext e1) h1 ⟨ha, ra⟩ q1⟩
      · obtain ⟨v, ev, _⟩ := h.2.get (List.getElem?_eq_getElem hi)
        exact ⟨vs, v, h.1, ev⟩
      · obtain ⟨v, ev, r⟩ := h.2.get (List.getElem?_eq_getElem hi)
        obtain ⟨rfl, hy⟩ := hy
        have := hy vs h.1
        rw [ev] at this; cases this
        exact ⟨rfl, _, List.getElem?_eq_getElem hi, r⟩
    | _ => exact q1.elim
end
end PD

/-! ## PDWp -/
set_option Elab.async false
set_option linter.all false
set_option maxRecDepth 100000
set_option maxHeartbeats 2000000
namespace PD
open PySem PySem.Spec L2

/-! ### what holds behind a run -/
def Run {α : Type} (r : Res α) (Q : α → Store → Prop) : Prop := match r with
  | .ok a S => Q a S
  | _ => False
def RunS (r : SRes) (N : PD.Env → Store → Prop) (R : Val → Store → Prop) : Prop := match r with
  | .next ρ S => N ρ S
  | .ret v S => R v S
  | _ => False
theorem Run.mono {α : Type} {r : Res α} {Q Q' : α → Store → Prop} (h : Run r Q) (q : ∀ a S, Q a S → Q' a S) : Run r Q' := by
  cases r with
  | ok a S => exact q a S h
  | _ => exact h
theorem Run.to {α : Type} {r : Res α} {Q : α → Store → Prop} (h : Run r Q) : ∃ a S, r = .ok a S ∧ Q a S := by
  cases r with
  | ok a S => exact ⟨a, S, rfl, h⟩
  | _ => exact h.elim
theorem Run.of {α : Type} {r : Res α} {a : α} {S : Store} {Q : α → Store → Prop} (e : r = .ok a S) (h : Q a S) : Run r Q := by rw [e]; exact h
theorem run_ok {α : Type} {a : α} {S : Store} {Q : α → Store → Prop} : Run (.ok a S) Q = Q a S := rfl
theorem run_stuck {α : Type} {Q : α → Store → Prop} : Run (.stuck : Res α) Q = False := rfl
theorem run_bind {α β : Type} {r : Res α} {k : α → Store → Res β} {Q : β → Store → Prop} : Run (r.bind k) Q = Run r fun a S => Run (k a S) Q := by cases r <;> rfl
theorem run_noX {α : Type} {r : Res α} {Q : α → Store → Prop} : Run (noX r) Q = Run r Q := by cases r <;> rfl
theorem run_ite {α : Type} {c : Prop} [Decidable c] {r r' : Res α} {Q : α → Store → Prop} : Run (if c then r else r') Q = if c then Run r Q else Run r' Q := by split <;> rfl
theorem runS_ite {c : Prop} [Decidable c] {r r' : SRes} {N R} : RunS (if c then r else r') N R = if c then RunS r N R else RunS r' N R := by split <;> rfl
theorem runS_toS {α : Type} {r : Res α} {ρ : PD.Env} {k : α → Store → SRes} {N R} : RunS (r.toS ρ k) N R = Run r fun a S => RunS (k a S) N R := by cases r <;> rfl
theorem runS_seq {r : SRes} {k : PD.Env → Store → SRes} {N R} : RunS (r.seq k) N R = RunS r (fun ρ S => RunS (k ρ S) N R) R := by cases r <;> rfl
theorem runS_next {ρ : PD.Env} {S : Store} {N R} : RunS (.next ρ S) N R = N ρ S := rfl
theorem runS_ret {v : Val} {S : Store} {N R} : RunS (.ret v S) N R = R v S := rfl
theorem runS_stuck {N R} : RunS .stuck N R = False := rfl
theorem run_fnOf {n m : Nat} {b : SD} {xs : List Val} {S : Store} {Q : Val → Store → Prop} : Run (fnOf n m b xs S) Q = if xs.length = n then RunS (b (xs.map some ++ List.replicate (m - n) none) S) (fun _ S' => Q .non S') Q else False := by
  unfold fnOf
  split
  · cases b (xs.map some ++ List.replicate (m - n) none) S <;> rfl
  · rfl
section
variable {Q : Val → Store → Prop} {QB : Bool → Store → Prop} {QA : List Val → Store → Prop} {ρ : PD.Env} {S : Store} {f g : D} {t u : DT} {as : DA} {N : PD.Env → Store → Prop} {R : Val → Store → Prop} {b c : SD}
theorem w_c {v : Val} : Run (dC v ρ S) Q = Q v S := rfl
theorem w_op {o : Op2} : Run (dOp o f g ρ S) Q = Run (f ρ S) fun x S1 => Run (g ρ S1) fun y S2 => Run (o x y S2) Q := by
  unfold dOp
  rw [run_bind]
  congr; funext x S1
  rw [run_bind]
theorem w_un {o : Val → Store → Res Val} : Run (dUn o f ρ S) Q = Run (f ρ S) fun x S1 => Run (o x S1) Q := by unfold dUn; rw [run_bind]
theorem w_call {F : Fn} : Run (dCall F as ρ S) Q = Run (as ρ S) fun xs S1 => Run (F xs S1) Q := by unfold dCall; rw [run_bind]
theorem w_callK {F : Fn} {is : List Nat} {n : Nat} : Run (dCallK is n F as ρ S) Q = Run (as ρ S) fun xs S1 => if xs.length = n then Run (F (pick is xs) S1) Q else False := by
  unfold dCallK
  rw [run_bind]
  congr; funext xs S1
  rw [run_ite]; rfl
theorem w_nil : Run (aNil ρ S) QA = QA [] S := rfl
theorem w_cons : Run (aCons f as ρ S) QA = Run (f ρ S) fun x S1 => Run (as ρ S1) fun xs S2 => QA (x :: xs) S2 := by
  unfold aCons
  rw [run_bind]
  congr; funext x S1
  rw [run_bind]; rfl
theorem w_tup : Run (dTup as ρ S) Q = Run (as ρ S) fun xs S1 => xs.length ≤ 16777216 ∧ Q (.tup xs) S1 := by
  unfold dTup
  rw [run_bind]
  congr; funext xs S1
  rw [run_ite]
  by_cases h : xs.length ≤ 16777216
  · rw [if_pos h]; exact propext ⟨fun q => ⟨h, q⟩, fun q => q.2⟩
  · rw [if_neg h]; exact propext ⟨fun q => q.elim, fun q => h q.1⟩
theorem w_lst : Run (dLst as ρ S) Q = Run (as ρ S) fun xs S1 => xs.length ≤ 16777216 ∧ Q (.ref S1.length) (S1 ++ [.lst xs]) := by
  unfold dLst
  rw [run_bind]
  congr; funext xs S1
  rw [run_ite]
  by_cases h : xs.length ≤ 16777216
  · rw [if_pos h]; exact propext ⟨fun q => ⟨h, q⟩, fun q => q.2⟩
  · rw [if_neg h]; exact propext ⟨fun q => q.elim, fun q => h q.1⟩
/-- a value that is a bool, and holds so -/
def IsB (Q : Bool → Store → Prop) (v : Val) (S : Store) : Prop := match v with
  | .bl b => Q b S
  | _ => False
theorem isB_bl {b : Bool} : IsB QB (.bl b) S = QB b S := rfl
theorem w_tval : Run (tVal f ρ S) QB = Run (f ρ S) (IsB QB) := by
  unfold tVal
  rw [run_bind]
  congr; funext x S1
  cases x <;> rfl
theorem w_tand : Run (tAnd' t u ρ S) QB = Run (t ρ S) fun b S1 => if b = true then Run (u ρ S1) QB else QB false S1 := by
  unfold tAnd'
  rw [run_bind]
  congr; funext b S1
  rw [run_ite]; rfl
theorem w_tor : Run (tOr' t u ρ S) QB = Run (t ρ S) fun b S1 => if b = true then QB true S1 else Run (u ρ S1) QB := by
  unfold tOr'
  rw [run_bind]
  congr; funext b S1
  rw [run_ite]; rfl
theorem w_tnot : Run (tNot' t ρ S) QB = Run (t ρ S) fun b S1 => QB (!b) S1 := by unfold tNot'; rw [run_bind]; rfl
theorem w_and : Run (dAnd f g ρ S) Q = Run (f ρ S) (IsB fun b S1 => if b = true then Run (g ρ S1) Q else Q (.bl false) S1) := by
  unfold dAnd
  rw [run_bind]
  congr; funext x S1
  cases x with
  | bl b => cases b <;> rfl
  | _ => rfl
theorem w_or : Run (dOr f g ρ S) Q = Run (f ρ S) (IsB fun b S1 => if b = true then Q (.bl true) S1 else Run (g ρ S1) Q) := by
  unfold dOr
  rw [run_bind]
  congr; funext x S1
  cases x with
  | bl b => cases b <;> rfl
  | _ => rfl
theorem w_not : Run (dNot f ρ S) Q = Run (f ρ S) (IsB fun b S1 => Q (.bl (!b)) S1) := by
  unfold dNot
  rw [run_bind]
  congr; funext x S1
  cases x <;> rfl
theorem w_if : Run (dIf t f g ρ S) Q = Run (t ρ S) fun b S1 => if b = true then Run (f ρ S1) Q else Run (g ρ S1) Q := by
  unfold dIf
  rw [run_bind]
  congr; funext b S1
  rw [run_ite]
theorem s_next : RunS (sNext ρ S) N R = N ρ S := rfl
theorem s_seq : RunS (sSeq b c ρ S) N R = RunS (b ρ S) (fun ρ S => RunS (c ρ S) N R) R := by unfold sSeq; rw [runS_seq]
theorem s_if : RunS (sIf t b c ρ S) N R = Run (t ρ S) fun d S1 => if d = true then RunS (b ρ S1) N R else RunS (c ρ S1) N R := by
  unfold sIf
  rw [runS_toS]
  congr; funext d S1
  rw [runS_ite]
theorem s_ret : RunS (sRet f ρ S) N R = Run (f ρ S) R := by unfold sRet; rw [runS_toS]; rfl
theorem s_drop : RunS (sDrop f ρ S) N R = Run (f ρ S) fun _ S1 => N ρ S1 := by unfold sDrop; rw [runS_toS]; rfl
theorem s_set {i : Nat} : RunS (sSet i f ρ S) N R = Run (f ρ S) fun x S1 => N (ρ.set i (some x)) S1 := by unfold sSet; rw [runS_toS]; rfl
theorem s_par {i j : Nat} : RunS (sPar i j as ρ S) N R = Run (as ρ S) fun xs S1 => match xs with | [x, y] => N ((ρ.set i (some x)).set j (some y)) S1 | _ => False := by
  unfold sPar
  rw [runS_toS]
  congr; funext xs S1
  match xs with
  | [] => rfl
  | [_] => rfl
  | [_, _] => rfl
  | _ :: _ :: _ :: _ => rfl
theorem s_put {fo fi : D} : RunS (sPut fo fi f ρ S) N R = Run (f ρ S) fun x S1 => Run (fo ρ S1) fun o S2 => Run (fi ρ S2) fun i S3 => match setAt o i x S3 with | some S4 => N ρ S4 | none => False := by
  unfold sPut
  rw [runS_toS]
  congr; funext x S1
  rw [runS_toS]
  congr; funext o S2
  rw [runS_toS]
  congr; funext i S3
  cases setAt o i x S3 <;> rfl
theorem s_asg {tg : TgD} : RunS (sAsg tg f ρ S) N R = Run (f ρ S) fun x S1 => match tg x ρ with | some ρ' => N ρ' S1 | none => False := by
  unfold sAsg
  rw [runS_toS]
  congr; funext x S1
  cases tg x ρ <;> rfl
theorem w_var {i : Nat} {v : Val} (h : ρ[i]? = some (some v)) : Run (dVar i ρ S) Q = Q v S := by
  unfold dVar
  rw [h]; rfl
end
end PD

/-! ## PDNew -/
set_option Elab.async false
set_option linter.all false
set_option maxRecDepth 100000
set_option maxHeartbeats 2000000
namespace PD
open PySem PySem.Spec L2

/-! ### a list that is only read + a list -/
theorem list_add_g (l : Addr) (items : Array Value) (n : Nat) (dd : Option Addr) (sl : Array (Option Value)) (b : Addr) (items2 : Array Value) (n2 : Nat) (hc0 : items.size + items2.size ≤ sizeLine) :
    Meets (Builtin.«list.__add__» ⟨[.ref l, .ref b], []⟩) (fun _ R s => s.heap.get? l = some { cls := .type "list", dict := dd, data := .seq items n, slots := sl } ∧ s.heap.get? b = some { cls := .type "list", dict := none, data := .seq items2 n2, slots := #[] } ∧ R (.ok (.ret (Value.ref s.heap.objs.size))) { s with heap := s.heap.push { cls := Value.type "list", data := Data.seq (items ++ items2) }, toks := s.toks }) :=
  .of_wp fun prog w A R s h => by obtain ⟨hp, g, d, tk, os⟩ := s; obtain ⟨hl, hb, h⟩ := h; have f1 := AutoSeq1.idx_int; have f2 := AutoSeq1.sub_tuple_tuple; have f3 := AutoSeq1.sub_list_list; have f4 := AutoSeq1.sub_tuple_list; have f5 := AutoSeq1.sub_list_tuple; wp_walk using AutoSeq1.wpAny_loadPart' hl, AutoSeq1.wpAny_loadPart' hb; exact ⟨_, rfl, h⟩
def rCatK (K : PySem.W.Frag) : L2.R2 := fun x y H Q => ∃ l b xs zs, x = .ref l ∧ y = .ref b ∧ SqL K H l xs ∧ H b = some (.lst zs) ∧ xs.length + zs.length ≤ sizeLine ∧ ∀ p, H p = none → Q (.ref p) (upd H p (.lst (xs ++ zs)))
theorem op_catK {X : Cx} : OpR X (binaryOp .Add) (rCatK X.K) := by
  intro pins s σ H x y v u Q I rx ry h
  obtain ⟨l, b, xs, zs, rfl, rfl, hL, hB, hz, q⟩ := h
  cases rx
  cases ry
  obtain ⟨its, r, ⟨⟨cls, dd, data, sl⟩, n, e, hc, hd, hdt⟩, hz1⟩ := I.list hL
  simp only at hc hd hdt
  subst hc hd hdt
  obtain ⟨z2, its2, n2, r2, hl2, e2⟩ := I.lstM hB
  have hl := r.length
  refine concat_meets ⟨_, e, rfl⟩ ⟨_, e2, rfl⟩ noFill_list_add seq_list_add F.slot_list_add F.entry_list_add (F.args_list_add_2 _ _) (list_add_g l its.toArray n none sl b its2.toArray n2 (by rw [List.size_toArray, List.size_toArray]; omega)) ⟨e, e2, ?_⟩
  have ea : its.toArray ++ its2.toArray = (its ++ its2).toArray := by simp
  rw [ea]
  exact ⟨.ref _, _, I.lnew (t' := s.toks) (r.append r2) (by rw [List.length_append]; omega), rfl, q _ I.fresh⟩
def oAddE : Op2 := fun x y S => match x, y with
  | .kl xs, .ref m => match S[m]? with
    | some (.lst ys) => if xs.length + ys.length ≤ 16777216 then alloc (xs ++ ys) S else .stuck
    | _ => .stuck
  | x, y => oAdd x y S
abbrev rAddE (K : PySem.W.Frag) : L2.R2 := rOr (rAddA K) (rCatK K)
theorem op_addE {X : Cx} : OpR X (binaryOp .Add) (rAddE X.K) := op_addA.or op_catK
section
variable {K : PySem.W.Frag}
theorem ok_addE : OK2 K (rAddE K) oAddE := by
  intro cv ι H S x y u v W Q hh rx ry q
  unfold oAddE at q
  split at q
  · rename_i xs m
    cases rx with
    | kl ha ra =>
      cases ry with
      | ref hm hlm =>
        split at q
        · rename_i ys e2
          split at q
          · rename_i hl
            obtain ⟨ws, rb, hw⟩ := hh.ok _ _ _ hm e2
            refine .inr ⟨_, _, _, ws, rfl, rfl, ha.sq, hw, by rw [← ra.length, ← rb.length, sizeLine_eq]; exact hl, fun p hp => ?_⟩
            refine q _ _ _ (Ext.alloc hp) (hh.alloc hp (ra.append rb)) (.ref ?_ ⟨_, upd_same⟩)
            rw [← hh.len]; simp
          · exact q.elim
        · exact q.elim
  · exact .inl (ok_add cv ι H S x y u v W Q hh rx ry q)
end
/-! ### a product one side of which is small -/
def oMulE : Op2 := fun x y S => match x, y with
  | .int a, .int b => if a.natAbs < 2 ^ 63 ∨ b.natAbs < 2 ^ 63 ∨ a.natAbs.log2 + b.natAbs.log2 < 1000000 then okI (a * b) S else .stuck
  | _, _ => .stuck
theorem ok_mulE {K : PySem.W.Frag} : OK2 K (rOr (rI CMul fun i j => .int (i * j)) (rI CMulW fun i j => .int (i * j))) oMulE := by
  intro cv ι H S x y u v W Q hh rx ry q
  cases rx with
  | int a =>
    cases ry with
    | int b =>
      have q : Fin ⟨K, cv⟩ W ι H Q (if a.natAbs < 2 ^ 63 ∨ b.natAbs < 2 ^ 63 ∨ a.natAbs.log2 + b.natAbs.log2 < 1000000 then okI (a * b) S else .stuck) := q
      split at q
      · rename_i hc
        have q' := q ι H _ .refl hh (.int _)
        rcases hc with hc | hc | hc
        · exact .inl ⟨a, b, rfl, rfl, .inl (by omega), q'⟩
        · exact .inl ⟨a, b, rfl, rfl, .inr (by omega), q'⟩
        · exact .inr ⟨a, b, rfl, rfl, hc, q'⟩
      · exact q.elim
    | _ => exact q.elim
  | _ => exact q.elim
theorem op_mulE {X : Cx} : OpR X (binaryOp .Mult) (rOr (rI CMul fun i j => .int (i * j)) (rI CMulW fun i j => .int (i * j))) := op_mul.or op_mulW
/-! ### a text times an int -/
def oRepS : Op2 := fun x y S => match x, y with
  | .str z, .int k => if 1 ≤ k ∧ k ≤ 1000000 ∧ z.length = 1 then .ok (.str (Txt.mul z k)) S else .stuck
  | _, _ => .stuck
def rRepS : L2.R2 := fun x y H Q => ∃ z k, x = .str z ∧ y = .int k ∧ 1 ≤ k ∧ k ≤ 1000000 ∧ z.length = 1 ∧ Q (.str (Txt.mul z k)) H
theorem op_repS {X : Cx} : OpR X (binaryOp .Mult) rRepS := by
  intro pins s σ H x y v u Q I rx ry h
  obtain ⟨z, k, rfl, rfl, h1, h2, h3, q⟩ := h
  obtain ⟨t, rfl⟩ := rx
  obtain ⟨t', rfl⟩ := ry
  refine SB.mul ⟨by simp only [Bool.or_eq_false_iff, decide_eq_false_iff_not]; omega, fun _ _ => ?_, fun _ _ => ?_⟩ fun t' k' => ?_
  · rw [h3]
    have : (1 : Int) ≤ (2 ^ 63 - 1) / k := Int.le_ediv_of_mul_le (by omega) (by omega)
    omega
  · rw [h3]
    unfold Builtin.Str.tooLong
    rw [sizeLine_eq]
    exact decide_eq_false (by omega)
  · exact ⟨.str _, H, I.tok _, ⟨_, rfl⟩, q⟩
theorem ok_repS {K : PySem.W.Frag} : OK2 K rRepS oRepS := by
  intro cv ι H S x y u v W Q hh rx ry q
  cases rx with
  | str z =>
    cases ry with
    | int k =>
      have q : Fin ⟨K, cv⟩ W ι H Q (if 1 ≤ k ∧ k ≤ 1000000 ∧ z.length = 1 then .ok (.str (Txt.mul z k)) S else .stuck) := q
      split at q
      · rename_i hc
        exact ⟨z, k, rfl, rfl, hc.1, hc.2.1, hc.2.2, q ι H _ .refl hh (.str _)⟩
      · exact q.elim
    | _ => exact q.elim
  | _ => exact q.elim
/-! ### abs, min of a list, list(..) -/
def bAbs : Fn := fun xs S => match xs with
  | [.int i] => okI (if i < 0 then -i else i) S
  | _ => .stuck
theorem ok_abs {K : PySem.W.Frag} : OKA K (fun xs H Q => ∃ i, xs = [.int i] ∧ Q (.int (if i < 0 then -i else i)) H) bAbs := by
  intro cv ι H S xs us W Q hh rx q
  unfold bAbs at q
  split at q
  · cases rx with
    | cons r1 rr =>
      cases rr
      cases r1
      exact ⟨_, rfl, q ι H _ .refl hh (.int _)⟩
  · exact q.elim
def minI : List Int → Int
  | [] => 0
  | [x] => x
  | x :: y :: r => min x (minI (y :: r))
theorem minI_mem : ∀ {xs : List Int}, xs ≠ [] → minI xs ∈ xs
  | [x], _ => List.mem_cons_self
  | x :: y :: r, _ => by
    have h := minI_mem (xs := y :: r) (by simp)
    show min x (minI (y :: r)) ∈ _
    rcases Int.le_total x (minI (y :: r)) with q | q
    · rw [Int.min_eq_left q]; exact List.mem_cons_self
    · rw [Int.min_eq_right q]; exact List.mem_cons_of_mem _ h
theorem minI_le : ∀ {xs : List Int} {y : Int}, y ∈ xs → minI xs ≤ y
  | [x], y, h => by rw [List.mem_singleton.mp h]; exact Int.le_refl _
  | x :: z :: r, y, h => by
    show min x (minI (z :: r)) ≤ y
    rcases List.mem_cons.mp h with rfl | h
    · exact Int.min_le_left _ _
    · exact Int.le_trans (Int.min_le_right _ _) (minI_le h)
def bMinL : Fn := fun xs S => match xs with
  | [.ref n] => match S[n]? with
    | some c => match allSome (c.items.map asI) with
      | some ns => if ns ≠ [] then okI (minI ns) S else .stuck
      | none => .stuck
    | none => .stuck
  | _ => .stuck
theorem ok_minL {K : PySem.W.Frag} : OKA K (rMin K) bMinL := by
  intro cv ι H S xs us W Q hh rx q
  unfold bMinL at q
  split at q
  · split at q
    · rename_i c ec
      split at q
      · rename_i bs eb
        split at q
        · rename_i hne
          cases rx with
          | cons r1 rr =>
            cases rr
            cases r1 with
            | ref hn hlz =>
              obtain ⟨vs, rr, hq⟩ := (hh.ok _ _ _ hn ec).sq hlz
              have e := rvs_ints rr eb
              subst e
              refine ⟨_, bs, rfl, hq, List.length_pos_iff.mpr hne, fun m hm hle => ?_⟩
              have : m = minI bs := Int.le_antisymm (hle _ (minI_mem hne)) (minI_le hm)
              rw [this]
              exact q ι H _ .refl hh (.int _)
        · exact q.elim
      · exact q.elim
    · exact q.elim
  · exact q.elim
def bListOf : Fn := fun xs S => match xs with
  | [.ref n] => match S[n]? with
    | some c => alloc c.items S
    | none => .stuck
  | [.tup ys] => alloc ys S
  | _ => .stuck
theorem ok_listOf {K : PySem.W.Frag} : OKA K (fun xs H Q => ∃ p ys, xs = [.ref p] ∧ (SqL K H p ys ∨ SqT K H p ys) ∧ ∀ l, H l = none → Q (.ref l) (upd H l (.lst ys))) bListOf := by
  intro cv ι H S xs us W Q hh rx q
  unfold bListOf at q
  split at q
  · split at q
    · rename_i c ec
      cases rx with
      | cons r1 rr =>
        cases rr
        cases r1 with
        | ref hn hlz =>
          obtain ⟨vs, rr, hq⟩ := (hh.ok _ _ _ hn ec).sq hlz
          exact ⟨_, vs, rfl, .inl hq, fun l hl => q _ _ _ (Ext.alloc hl) (hh.alloc hl rr) (.ref (by rw [← hh.len]; simp) ⟨_, upd_same⟩)⟩
    · exact q.elim
  · cases rx with
    | cons r1 rr =>
      cases rr
      cases r1 with
      | tup ha ra => exact ⟨_, _, rfl, .inr ha, fun l hl => q _ _ _ (Ext.alloc hl) (hh.alloc hl ra) (.ref (by rw [← hh.len]; simp) ⟨_, upd_same⟩)⟩
  · exact q.elim
/-! ### a comprehension's target of several names -/
theorem wipe_set {σ : L2.St} {i : Nat} {o : Option V} : ∀ {vs : List Nat}, i ∈ vs → wipe (σ.set i o) vs = wipe σ vs
  | v :: vs, h => by
    show (wipe (σ.set i o) vs).set v none = (wipe σ vs).set v none
    by_cases hv : i ∈ vs
    · rw [wipe_set hv]
    · rcases List.mem_cons.mp h with rfl | h
      · have push : ∀ (vs : List Nat), i ∉ vs → wipe (σ.set i o) vs = (wipe σ vs).set i o := fun vs => by
          induction vs with
          | nil => intro _; rfl
          | cons w ws ih =>
            intro hn
            show (wipe (σ.set i o) ws).set w none = ((wipe σ ws).set w none).set i o
            rw [ih (fun z => hn (List.mem_cons_of_mem _ z)), List.set_comm _ _ (fun z => hn (by rw [z]; exact List.mem_cons_self))]
        rw [push vs hv, List.set_set]
      · exact absurd h hv
theorem wipe_wipe (σ : L2.St) : ∀ vs : List Nat, wipe (wipe σ vs) vs = wipe σ vs := fun vs => by
  have gen : ∀ (us : List Nat), (∀ u ∈ us, u ∈ vs) → wipe (wipe σ us) vs = wipe σ vs := fun us => by
    induction us with
    | nil => intro _; rfl
    | cons u us ih =>
      intro h
      show wipe ((wipe σ us).set u none) vs = _
      rw [wipe_set (h u List.mem_cons_self), ih fun w hw => h w (List.mem_cons_of_mem _ hw)]
  exact gen vs fun _ h => h
/-- a target that stores into own names alone -/
def Own (vs : List Nat) (g : TG) : Prop := ∀ (v : V) (σ : L2.St) (H : Hp) (Q : L2.St → Hp → Prop), g v σ H Q → g v σ H fun σ2 H2 => wipe σ2 vs = wipe σ vs ∧ Q σ2 H2
def Owns (vs : List Nat) (g : TGs) : Prop := ∀ (v : List V) (σ : L2.St) (H : Hp) (Q : L2.St → Hp → Prop), g v σ H Q → g v σ H fun σ2 H2 => wipe σ2 vs = wipe σ vs ∧ Q σ2 H2
theorem own_name {i : Nat} {vs : List Nat} (h : i ∈ vs) : Own vs (gName i) := fun v σ H Q q => ⟨wipe_set h, q⟩
theorem owns_nil {vs : List Nat} : Owns vs gNil := fun v σ H Q q => ⟨q.1, rfl, q.2⟩
theorem owns_cons {vs : List Nat} {g : TG} {gs : TGs} (h1 : Own vs g) (h2 : Owns vs gs) (hm : ∀ v σ H (Q Q' : L2.St → Hp → Prop), (∀ a b, Q a b → Q' a b) → g v σ H Q → g v σ H Q') (hm2 : ∀ v σ H (Q Q' : L2.St → Hp → Prop), (∀ a b, Q a b → Q' a b) → gs v σ H Q → gs v σ H Q') : Owns vs (gCons g gs) := fun v σ H Q ⟨x, r, e, q⟩ => by
  refine ⟨x, r, e, hm _ _ _ _ _ (fun σ2 H2 h => ?_) (h1 x σ H _ q)⟩
  exact hm2 _ _ _ _ _ (fun σ3 H3 h3 => ⟨h3.1.trans h.1, h3.2⟩) (h2 r σ2 H2 Q h.2)
theorem own_tup {K : PySem.W.Frag} {vs : List Nat} {n : Nat} {gs : TGs} (h : Owns vs gs) : Own vs (gTup K n gs) := fun v σ H Q ⟨a, xs, e, h1, h2, q⟩ => ⟨a, xs, e, h1, h2, h xs σ H Q q⟩
theorem own_wp {vs : List Nat} {g : TG} (h : Own vs g) : Wp g vs := fun v σ H Q q => by
  have := h v (wipe σ vs) H Q q
  rwa [wipe_wipe] at this
theorem mono_name {i : Nat} : ∀ (v : V) (σ : L2.St) (H : Hp) (Q Q' : L2.St → Hp → Prop), (∀ a b, Q a b → Q' a b) → gName i v σ H Q → gName i v σ H Q' := fun _ _ _ _ _ h q => h _ _ q
theorem mono_nil : ∀ (v : List V) (σ : L2.St) (H : Hp) (Q Q' : L2.St → Hp → Prop), (∀ a b, Q a b → Q' a b) → gNil v σ H Q → gNil v σ H Q' := fun _ _ _ _ _ h q => ⟨q.1, h _ _ q.2⟩
theorem mono_cons {g : TG} {gs : TGs} (hm : ∀ v σ H (Q Q' : L2.St → Hp → Prop), (∀ a b, Q a b → Q' a b) → g v σ H Q → g v σ H Q') (hm2 : ∀ v σ H (Q Q' : L2.St → Hp → Prop), (∀ a b, Q a b → Q' a b) → gs v σ H Q → gs v σ H Q') :
    ∀ (v : List V) (σ : L2.St) (H : Hp) (Q Q' : L2.St → Hp → Prop), (∀ a b, Q a b → Q' a b) → gCons g gs v σ H Q → gCons g gs v σ H Q' := fun v σ H Q Q' h ⟨x, r, e, q⟩ => ⟨x, r, e, hm _ _ _ _ _ (fun a b q => hm2 _ _ _ _ _ h q) q⟩
theorem wp_two {K : PySem.W.Frag} {n i j : Nat} : Wp (gTup K n (gCons (gName i) (gCons (gName j) gNil))) [i, j] :=
  own_wp (own_tup (owns_cons (own_name List.mem_cons_self) (owns_cons (own_name (by simp)) owns_nil mono_name mono_nil) mono_name (mono_cons mono_name mono_nil)))
/-! ### name = [..] -/
section
variable {X : Cx} {cv : Nat → Value} {W : WX} {elt tg iter : Expr} {ifs : List Expr} {scope : Scope} {own : List (Str × Nat)} {pos spos py : Pos} {g : TG} {t : TgD} {c : DT} {e f : D} {i : Nat} {y : Str}
theorem set_td {f : D} {D : Ends} {σ : L2.St} {H : Hp} (h : TSD (Gm X cv) W (sSet i f) D σ H) : TD (Gm X cv) W f σ H fun x H1 => gName i x σ H1 D.nx := by
  obtain ⟨ι, ρ, S, hs, hh, q⟩ := h
  exact ⟨ι, ρ, S, hs, hh, FinS.bind q hs fun x S1 ι1 H1 u e1 h1 r1 q1 => q1.next h1 ((hs.ext e1).set r1 i)⟩
theorem ps_setLcC (hc : X.calm = true) (hN : X.N.Nodup) (hy : X.N[i]? = some y) (hyl : X.env.scope.names.lookup y = some .local) (hsw : swapsWith (.ListComp elt [⟨tg, iter, ifs, 0⟩] scope pos) (some (.Name y py)) spos.line X.env = pure true)
    (hi : PE X iter (TD (Gm X cv) W f)) (L : LcOk X cv elt tg ifs scope own g t c e) (hs : ∀ x, foldedSetIterable iter X.env x = pure x := by intro _; rfl) :
    PS X (.Assign [.Name y py] (.ListComp elt [⟨tg, iter, ifs, 0⟩] scope pos) spos) (TSD (Gm X cv) W (sSet i (dLCC f t c e (own.map (·.2))))) :=
  (ps_setLc hc hN hy hyl hsw (pi_list hi) L.ok L.tg L.ifs L.elt hs).imp fun D σ H h => lcC L.tok L.wp σ H _ (set_td h)
theorem ps_setLcT (hc : X.calm = true) (hN : X.N.Nodup) (hy : X.N[i]? = some y) (hyl : X.env.scope.names.lookup y = some .local) (hsw : swapsWith (.ListComp elt [⟨tg, iter, ifs, 0⟩] scope pos) (some (.Name y py)) spos.line X.env = pure true)
    (hi : PE X iter (TD (Gm X cv) W f)) (L : LcOk X cv elt tg ifs scope own g t c e) (hs : ∀ x, foldedSetIterable iter X.env x = pure x := by intro _; rfl) :
    PS X (.Assign [.Name y py] (.ListComp elt [⟨tg, iter, ifs, 0⟩] scope pos) spos) (TSD (Gm X cv) W (sSet i (dLCT f t c e (own.map (·.2))))) :=
  (ps_setLc hc hN hy hyl hsw (pi_tup hi) L.ok L.tg L.ifs L.elt hs).imp fun D σ H h => lcT L.tok L.wp σ H _ (set_td h)
theorem ps_setLcR {a : Expr} {fa : DA} {p pos2 : Pos} (hc : X.calm = true) (hN : X.N.Nodup) (hy : X.N[i]? = some y) (hyl : X.env.scope.names.lookup y = some .local) (hsw : swapsWith (.ListComp elt [⟨tg, .Call (.Name "range" p) [a] [] pos2, ifs, 0⟩] scope pos) (some (.Name y py)) spos.line X.env = pure true)
    (hgl : Gl X "range") (hm : X.mg "range" = none) (hi : PA X [a] (TDA (Gm X cv) W fa)) (L : LcOk X cv elt tg ifs scope own g t c e)
    (hst : starEach [a] X.env = [(false, eval a X.env)] := by rfl) (hs : ∀ x, foldedSetIterable (.Call (.Name "range" p) [a] [] pos2) X.env x = pure x := by intro _; rfl) :
    PS X (.Assign [.Name y py] (.ListComp elt [⟨tg, .Call (.Name "range" p) [a] [] pos2, ifs, 0⟩] scope pos) spos) (TSD (Gm X cv) W (sSet i (dLCR fa t c e (own.map (·.2))))) :=
  (ps_setLc hc hN hy hyl hsw (pi_range1 hgl hm hi hst) L.ok L.tg L.ifs L.elt hs).imp fun D σ H h => lcR L.tok L.wp σ H _ (set_td h)
end
end PD

/-! ## PDTry -/
set_option Elab.async false
set_option linter.all false
set_option maxRecDepth 100000
set_option maxHeartbeats 1000000
/-! several clauses, some of which name the error -/
namespace PD
open PySem PySem.Spec PyProof.Rows L2
/-- an error that has come to this frame's clauses -/
structure Down (X : Cx) (pins : List (Addr × Obj)) (σ : L2.St) (H : Hp) (a : Addr) (cls : Value) (d : Option Addr) (s : Shared) : Prop where
  na : H a = none
  ex : ∃ (B : Heap) (t : Shared), Inv X pins σ H t ∧ (∀ b o, t.heap.get? b = some o → b ∉ frs X.stack → B.get? b = some o) ∧ t.heap.UpToSlots s.heap ∧ HandSPX.FlyingZ B (X.env :: X.outer) a (Zc cls d) s.heap ∧ s.os = t.os ∧ AllBare s.gens
section
variable {X : Cx} {pins : List (Addr × Obj)} {σ : L2.St} {H : Hp} {a : Addr} {cls c : Value} {d : Option Addr} {s : Shared} {W : WX} {D : Ends} {x : Str} {np pos : Pos}
theorem Down.inv (w : Down X pins σ H a cls d s) : Inv X pins σ H s := by
  obtain ⟨_, _, j, j1, j2, j3, j4, j5⟩ := w.ex
  exact j.landed j1 j3.1 j2 j4 j5
theorem Down.pinned (w : Down X pins σ H a cls d s) (hf : X.env.frame = some X.env.locals) : ∃ o : Obj, Zc cls d o ∧ (∃ fv, o.data = .fields fv) ∧ s.heap.get? a = some o ∧ Inv (X.suite a ((a, o) :: (X.pn ++ pins))) [] σ H s := by
  obtain ⟨_, _, j, j1, j2, j3, j4, j5⟩ := w.ex
  obtain ⟨o, fv, g1, g2, g3⟩ := j3.there
  have out : a ∉ frs (X.env :: X.outer) := fun m => by
    obtain ⟨_, _, g4, no⟩ := j3.2.2.1.mem m
    cases g1.symm.trans g4
    exact no _ g3
  refine ⟨o, g2, ⟨fv, g3⟩, g1, w.inv.suite g1 g3 w.na (fun z => ?_) fun m => ?_⟩
  · refine out (List.mem_filterMap.mpr ⟨_, List.mem_cons_self, ?_⟩)
    rw [z]; exact hf
  · obtain ⟨v, v1, v2⟩ := List.mem_filterMap.mp m
    refine out (List.mem_filterMap.mpr ⟨v, ?_, v2⟩)
    exact List.mem_cons_of_mem _ v1
theorem Down.again {M : Model} {A : Around} {E : Value → Shared → Prop} {Q : Unit → Shared → Prop} (w : Down X pins σ H a cls d s) (q : ∀ s2, Down X pins σ H a cls d s2 → Q () s2) : wpAny M A (setFlight (.ref a) none) Q E s := by
  obtain ⟨B, t, j, j1, j2, j3, j4, j5⟩ := w.ex
  exact HandSPX.lands_againZ j3 fun h2 f2 u2 => q _ ⟨w.na, B, t, j, j1, j2.trans u2, f2, j4, j5⟩
theorem Down.test {R : Result → Shared → Prop} {b : Bool} (w : Down X pins σ H a cls d s) (hf : X.env.frame = some X.env.locals) (hc : Names X x c) (hb : PySem.W.exmOne X.K cls c = some b) (q : R (.ok (if b then .brk else .next)) s) :
    codeAny (model X.prog X.w) (X.A.mark (some (.ref a))) (.handlers (.ref a) [.ExceptHandler (some (.Name x np)) none [] pos] X.env) R s := by
  obtain ⟨o, z, _, g1, S⟩ := w.pinned hf
  have look : PySem.W.Looks (model X.prog X.w) s.heap (typeOf (.ref a)) cls := fun _ _ _ _ k h => wpAny_typeOf_ref (k _ _ g1) (by rw [z.1]; exact h)
  have m := PySem.W.exm_one (M := model X.prog X.w) w.inv.kIn look hb
  refine codeAny_handlers_test ?_
  obtain ⟨n1, n2, n3 | ⟨n3, n4, n5⟩⟩ := hc
  · exact ld_glob (X := X.suite a ((a, o) :: (X.pn ++ pins))) S n1 n3 (m.here q) n2
  · exact ld_blt (X := X.suite a ((a, o) :: (X.pn ++ pins))) S n1 n3 n4 (m.here q) n5 n2
/-- no clause is left: it flies on -/
theorem Down.on {Q : Flow → Shared → Prop} (w : Down X pins σ H a cls d s) (hs : X.stack = X.env :: X.outer) (hf : X.env.frame = some X.env.locals) (tk : Takes X W) (q : W cls d σ H) : wpAny (model X.prog X.w) X.A (handleBy (.ref a) X.env []) Q X.xe s := by
  obtain ⟨B, t, j, j1, j2, j3, j4, j5⟩ := w.ex
  obtain ⟨_, _, _, o, fv, T, _, _, g1, _, g2, g3, _⟩ := id j3
  refine wpAny_handleBy_nil ?_
  unfold PySem.passOn
  refine wpAny_bind (wpAny_field g1 g2 g3 ?_)
  rw [if_neg (by simp)]
  have up : wpAny (model X.prog X.w) X.A (setFlight (.ref a) X.env.frame) (fun _ s2 => wpAny (model X.prog X.w) X.A (throw (.ref a) : Sem Flow) Q X.xe s2) X.xe s := by
    rw [hf]
    exact HandSPX.setFlight_upZ j3 fun h2 f2 u2 => wpAny_throw (tk _ _ ⟨a, B, t, pins, σ, H, cls, d, rfl, j, j1, j2.trans u2, .inr (.inr (hs ▸ f2)), w.na, j4, j5, q⟩)
  first
    | exact wpAny_bind up
    | exact wpAny_bind (wpAny_pure (wpAny_bind up))
end
/-- behind a clause that names the error the name is gone -/
def gone (i : Nat) (D : Ends) : Ends := { D with nx := fun σ H => D.nx (σ.set i none) H, bk := fun σ H => D.bk (σ.set i none) H, ct := fun σ H => D.ct (σ.set i none) H }
abbrev Cl := Value × Option Nat × (Addr → Value → Option Addr → TS)
def ofCl (D : Ends) (σ : L2.St) (H : Hp) (cls : Value) (d : Option Addr) : Cl → Addr → Prop
  | (_, none, ts), a => ts a cls d D σ H
  | (_, some i, ts), a => ts a cls d (gone i D) (σ.set i (some (.ref a))) H
def wCls (K : PySem.W.Frag) (W : WX) (D : Ends) : List Cl → WX
  | [] => W
  | k :: r => fun cls d σ H => ∃ b, PySem.W.exmOne K cls k.1 = some b ∧ (b = true → ∀ a, H a = none → ofCl D σ H cls d k a) ∧ (b = false → wCls K W D r cls d σ H)
def NmOk (X : Cx) : Option Str → Option Nat → Prop
  | none, none => True
  | some n, some i => X.N[i]? = some n ∧ X.env.kindOf n = some .local
  | _, _ => False
inductive Hds (X : Cx) : List ExceptHandler → List Cl → Prop
  | nil : Hds X [] []
  | cons {x : Str} {c : Value} {n : Option Str} {i : Option Nat} {ts : Addr → Value → Option Addr → TS} {b : Stmt} {bs : List Stmt} {np pos : Pos} {r : List ExceptHandler} {l : List Cl} (hc : Names X x c) (hn : NmOk X n i)
      (hb : ∀ (a : Addr) (o : Obj) (cls : Value) (d : Option Addr) (pn : List (Addr × Obj)), Zc cls d o → (∃ fv, o.data = .fields fv) → PSs (X.suite a ((a, o) :: pn)) (b :: bs) (ts a cls d)) (hr : Hds X r l) :
      Hds X (.ExceptHandler (some (.Name x np)) n (b :: bs) pos :: r) ((c, i, ts) :: l)
section
variable {X : Cx} {pins : List (Addr × Obj)} {W : WX} {D : Ends} {hds : List ExceptHandler} {l : List Cl}
theorem go_clauses (hs : X.stack = X.env :: X.outer) (hf : X.env.frame = some X.env.locals) (hN : X.N.Nodup) (tk : Takes X W) (ok : X.Ok) {σ : L2.St} {H : Hp} {a : Addr} {cls : Value} {d : Option Addr} {s : Shared} (w : Down X pins σ H a cls d s) (h : Hds X hds l)
    (q : wCls X.K W D l cls d σ H) : wpAny (model X.prog X.w) X.A (handleBy (.ref a) X.env hds) (SP X pins D) X.xe s := by
  induction h with
  | nil => exact w.on hs hf tk q
  | @cons x c n i ts b bs np pos r l hc hn hb hr ih =>
    obtain ⟨y, y1, y2, y3⟩ := q
    refine wpAny_handleBy_cons (w.test hf hc y1 ?_) (by intro z; cases z)
    cases y with
    | false => exact ih (y3 rfl)
    | true =>
      have y2 := y2 rfl a w.na
      cases n with
      | none =>
        cases i with
        | some i => exact hn.elim
        | none =>
          refine codeAny_handlers_suite (w.again fun s2 w2 => ?_)
          obtain ⟨o, z, fv, _, S⟩ := w2.pinned hf
          refine wpAny_mono ((hb a o cls d _ z fv).run [] s2 σ H D S y2) (fun f s3 e => ?_) fun _ _ z => False.elim z
          cases f with
          | ret u => exact e.elim fun v e => e.elim fun σ3 e => e.elim fun H3 e => ⟨v, σ3, H3, e.1.unsuite ok, e.2⟩
          | next => exact e.elim fun σ3 e => e.elim fun H3 e => ⟨σ3, H3, e.1.unsuite ok, e.2⟩
          | brk => exact e.elim fun σ3 e => e.elim fun H3 e => ⟨σ3, H3, e.1.unsuite ok, e.2⟩
          | cont => exact e.elim fun σ3 e => e.elim fun H3 e => ⟨σ3, H3, e.1.unsuite ok, e.2⟩
      | some n =>
        cases i with
        | none => exact hn.elim
        | some i =>
          obtain ⟨n1, n2⟩ := hn
          refine codeAny_handlers_suite_as (w.again fun s2 w2 => ?_)
          obtain ⟨o, z, fv, _, S⟩ := w2.pinned hf
          refine store_ok (X := X.suite a ((a, o) :: (X.pn ++ pins))) (v := .ref a) S hN n1 (.inl n2) rfl (fun s3 S3 => ?_) (.inr n2)
          refine wpAny_mono ((hb a o cls d _ z fv).run [] s3 _ H _ S3 y2) (fun f s4 e => ?_) fun _ _ z => False.elim z
          cases f with
          | ret u => exact e.elim fun v e => e.elim fun σ3 e => e.elim fun H3 e => gone_ok (e.1.unsuite ok) hN n1 n2 fun _ J => ⟨v, _, H3, J, e.2⟩
          | next => exact e.elim fun σ3 e => e.elim fun H3 e => gone_ok (e.1.unsuite ok) hN n1 n2 fun _ J => ⟨_, H3, J, e.2⟩
          | brk => exact e.elim fun σ3 e => e.elim fun H3 e => gone_ok (e.1.unsuite ok) hN n1 n2 fun _ J => ⟨_, H3, J, e.2⟩
          | cont => exact e.elim fun σ3 e => e.elim fun H3 e => gone_ok (e.1.unsuite ok) hN n1 n2 fun _ J => ⟨_, H3, J, e.2⟩
/-- what an error of the body meets -/
def met (X : Cx) (pins : List (Addr × Obj)) (D : Ends) (hds : List ExceptHandler) : Value → Shared → Prop := fun u s1 => wpAny (model X.prog X.w) X.A (noteFrame u X.env) (fun _ s2 => wpAny (model X.prog X.w) X.A (setFlight u none)
  (fun _ s3 => wpAny (model X.prog X.w) X.A (handleBy u X.env hds) (SP X pins D) X.xe s3) X.xe s2) X.xe s1
theorem ps_try_cl {body : List Stmt} {h0 : ExceptHandler} {pos : Pos} {tb : WX → TS} (hs : X.stack = X.env :: X.outer) (hf : X.env.frame = some X.env.locals) (hN : X.N.Nodup) (tk : Takes X W)
    (hb : ∀ (W : WX) (pn : List (Addr × Obj)) (xe : Value → Shared → Prop), Takes (X.tr pn xe) W → PassesOwn (model X.prog X.w) X.A X.env xe → PSs (X.tr pn xe) body (tb W)) (hh : Hds X (h0 :: hds) l) :
    PS X (.Try body (h0 :: hds) [] [] pos) (fun D σ H => tb (wCls X.K W D l) D σ H) := by
  refine ⟨fun pins s σ H D I h => wpAny_Try_except ?_⟩
  have ok := I.ok
  have stk : X.A.frames = some (X.env :: X.outer) := ok.frames.trans (congrArg some hs)
  have meets : Takes (X.tr (X.pn ++ pins) (met X pins D (h0 :: hds))) (wCls X.K W D l) := by
    rintro u s1 ⟨a, B, t, p2, σ2, H2, cls, d, rfl, j, j1, j2, sky, na, j4, j5, q⟩
    refine Sky.land (B := B) Zc.steady stk hf (hs ▸ sky) fun h2 f2 u2 => ?_
    exact go_clauses hs hf hN tk ok ⟨na, B, t, j.ofTry ok, j1, j2.trans u2, f2, j4, j5⟩ hh q
  refine wpAny_mono ((hb _ _ _ meets PassesOwn.looking).run [] s σ H D (I.toTry _) h) (fun f s1 e => ?_) fun _ _ z => z
  cases f with
  | next => exact e.elim fun σ3 e => e.elim fun H3 e => wpAny_execs_nil ⟨σ3, H3, e.1.ofTry ok, e.2⟩
  | ret u => exact e.elim fun v e => e.elim fun σ3 e => e.elim fun H3 e => ⟨v, σ3, H3, e.1.ofTry ok, e.2⟩
  | brk => exact e.elim fun σ3 e => e.elim fun H3 e => ⟨σ3, H3, e.1.ofTry ok, e.2⟩
  | cont => exact e.elim fun σ3 e => e.elim fun H3 e => ⟨σ3, H3, e.1.ofTry ok, e.2⟩
end
end PD

/-! ## PDErr -/
set_option Elab.async false
set_option linter.all false
set_option maxRecDepth 100000
set_option maxHeartbeats 1000000
/-! errors with fields: a clause that names the error and keeps fields of it -/
namespace PD
open PySem PySem.Spec L2
theorem RS.hide {K : PySem.W.Frag} {ι : List Addr} {H : Hp} {ρ : Env} {σ : L2.St} (h : RS K ι H ρ σ) (i : Nat) (o : Option V) : RS K ι H (ρ.set i none) (σ.set i o) := by
  refine ⟨by simp [h.1], fun j y e => ?_⟩
  by_cases q : i = j
  · subst q
    by_cases hl : i < ρ.length
    · rw [List.getElem?_set_self hl] at e; cases e
    · rw [List.getElem?_eq_none (by simp; omega)] at e; cases e
  · rw [List.getElem?_set_ne q] at e
    obtain ⟨u, a, b⟩ := h.2 j y e
    exact ⟨u, by rw [List.getElem?_set_ne q]; exact a, b⟩
/-- a member of what the clause keeps: a constant, or a field of the error -/
abbrev Mb := Val ⊕ Str
def mbVal (e : Exn) : Mb → Option Val
  | .inl v => some v
  | .inr f => e.fs.lookup f
def sErTup (j : Nat) (ms : List Mb) (e : Exn) : SD := fun ρ S => match allSome (ms.map (mbVal e)) with
  | some xs => if xs.length ≤ 16777216 then .next (ρ.set j (some (.tup xs))) S else .stuck
  | none => .stuck
def sErLst (j : Nat) (ms : List Mb) (e : Exn) : SD := fun ρ S => match allSome (ms.map (mbVal e)) with
  | some xs => if xs.length ≤ 16777216 then .next (ρ.set j (some (.ref S.length))) (S ++ [.lst xs]) else .stuck
  | none => .stuck
/-- the members read: nothing changes -/
def MbOk (K : PySem.W.Frag) (a : Addr) (cls : Value) (d : Option Addr) (C : Addr) (i : Nat) (ms : List Mb) (t : TA) : Prop := ∀ (ι : List Addr) (H : Hp) (σ : L2.St) (e : Exn) (xs : List Val) (Q : List V → Hp → Prop),
  σ[i]? = some (some (.ref a)) → cls = .ref C → XF K ι H e.fs d → allSome (ms.map (mbVal e)) = some xs → (∀ vs, RVs K ι H xs vs → Q vs H) → t σ H Q
/-- a suite does as it says of the error -/
def SuOk (Γ : Cfg) (a : Addr) (cls : Value) (d : Option Addr) (C : Addr) (i : Nat) (b : Exn → SD) (t : TS) : Prop := ∀ (ι : List Addr) (H : Hp) (ρ : Env) (S : Store) (σ : L2.St) (e : Exn) (D : Ends),
  σ[i]? = some (some (.ref a)) → cls = .ref C → RS Γ.K ι H ρ σ → RH Γ.K ι H S → XF Γ.K ι H e.fs d → FinS Γ (fun _ _ _ _ => False) ι H D (b e ρ S) → t D σ H
section
variable {K : PySem.W.Frag} {Γ : Cfg} {a C : Addr} {cls : Value} {d : Option Addr} {i j : Nat} {ms : List Mb} {t : TA}
theorem allSome_cons {α : Type} {x : Option α} {r : List (Option α)} {zs : List α} (h : allSome (x :: r) = some zs) : ∃ y ys, x = some y ∧ allSome r = some ys ∧ zs = y :: ys := by
  unfold allSome at h
  split at h
  · rename_i y ys h2
    cases h
    exact ⟨y, ys, rfl, h2, rfl⟩
  · cases h
theorem mb_nil : MbOk K a cls d C i [] tNil := fun ι H σ e xs Q _ _ _ h q => by
  cases h
  exact q [] .nil
theorem mb_c {v : Val} {u : V} (r : ∀ ι H, RV K ι H v u) (h : MbOk K a cls d C i ms t) : MbOk K a cls d C i (.inl v :: ms) (tCons (L2.tC u) t) := fun ι H σ e xs Q h1 h2 h3 h4 q => by
  obtain ⟨y, ys, e1, e2, rfl⟩ := allSome_cons h4
  cases e1
  exact h ι H σ e ys _ h1 h2 h3 e2 fun vs rr => q _ (.cons (r ι H) rr)
theorem mb_f {f : Str} (h : MbOk K a cls d C i ms t) : MbOk K a cls d C i (.inr f :: ms) (tCons (tXf a cls d C f (tVar i)) t) := fun ι H σ e xs Q h1 h2 h3 h4 q => by
  obtain ⟨y, ys, e1, e2, rfl⟩ := allSome_cons h4
  have e1 : e.fs.lookup f = some y := e1
  cases d with
  | none =>
    have h3 : e.fs = [] := h3
    rw [h3] at e1; cases e1
  | some dd =>
    obtain ⟨_, fv, g1, g2⟩ := id h3
    obtain ⟨v, g3, g4⟩ := g2 f y e1
    exact ⟨_, h1, rfl, h2, dd, fv, v, rfl, g1, g3, h ι H σ e ys _ h1 h2 h3 e2 fun vs rr => q _ (.cons g4 rr)⟩
theorem su_tup (h : MbOk Γ.K a cls d C i ms t) : SuOk Γ a cls d C i (sErTup j ms) (tAsg (tTup t) (gName j)) := fun ι H ρ S σ e D h1 h2 hs hh hx q => by
  unfold sErTup at q
  split at q
  · rename_i xs ex
    split at q
    · rename_i hl
      refine h ι H σ e xs _ h1 h2 hx ex fun vs rr => ⟨by rw [← rr.length, sizeLine_eq]; exact hl, fun p hp => ?_⟩
      exact FinS.next (FinS.weak (Ext.fresh hp) q) (hh.fresh hp) ((hs.ext (Ext.fresh hp)).set (.tup (SqT.of upd_same) (rr.ext (Ext.fresh hp))) j)
    · exact q.elim
  · exact q.elim
theorem su_lst (h : MbOk Γ.K a cls d C i ms t) : SuOk Γ a cls d C i (sErLst j ms) (tAsg (tLst t) (gName j)) := fun ι H ρ S σ e D h1 h2 hs hh hx q => by
  unfold sErLst at q
  split at q
  · rename_i xs ex
    split at q
    · rename_i hl
      refine h ι H σ e xs _ h1 h2 hx ex fun vs rr => ⟨by rw [← rr.length, sizeLine_eq]; exact hl, fun p hp => ?_⟩
      exact FinS.next (FinS.weak (Ext.alloc hp) q) (hh.alloc hp rr) ((hs.ext (Ext.alloc hp)).set (.ref (by rw [← hh.len]; simp) ⟨_, upd_same⟩) j)
    · exact q.elim
  · exact q.elim
end
/-! ### the clauses by value -/
def outE (i : Nat) (r : SRes) : SRes := match r with
  | .next ρ S => .next (ρ.set i none) S
  | .brk ρ S => .brk (ρ.set i none) S
  | .cont ρ S => .cont (ρ.set i none) S
  | .ret v S => .ret v S
  | .exc _ _ _ => .stuck
  | .stuck => .stuck
abbrev ClD := Nat × Option Nat × (Exn → SD)
def sHdsE (n : Nat) (mt : Nat → Nat → Bool) : List ClD → Exn → SD
  | [], e, ρ, S => .exc e ρ S
  | (k, i, b) :: r, e, ρ, S => if e.cls < n ∧ k < n then (if mt e.cls k = true then (match i with
    | none => noExc (b e ρ S)
    | some i => if e.cls = k ∧ i < ρ.length then outE i (b e (ρ.set i none) S) else .stuck) else sHdsE n mt r e ρ S) else .stuck
def sTryE (n : Nat) (mt : Nat → Nat → Bool) (b : SD) (hds : List ClD) : SD := fun ρ S => match b ρ S with
  | .exc e ρ1 S1 => sHdsE n mt hds e ρ1 S1
  | r => r
theorem FinS.outE {Γ : Cfg} {W W' : WX} {ι : List Addr} {H : Hp} {D : Ends} {i : Nat} {r : SRes} (h : FinS Γ W ι H D (outE i r)) : FinS Γ W' ι H (gone i D) r := by
  cases r with
  | next ρ S => exact fun ι2 H2 σ2 e a b => h ι2 H2 _ e a (b.hide i none)
  | brk ρ S => exact fun ι2 H2 σ2 e a b => h ι2 H2 _ e a (b.hide i none)
  | cont ρ S => exact fun ι2 H2 σ2 e a b => h ι2 H2 _ e a (b.hide i none)
  | ret v S => exact h
  | exc e ρ S => exact h.elim
  | stuck => exact h.elim
inductive HdsV (X : Cx) (cv : Nat → Value) : List ExceptHandler → List ClD → List Cl → Prop
  | nil : HdsV X cv [] [] []
  | plain {x : Str} {c : Nat} {sd : SD} {b₀ : Stmt} {bs : List Stmt} {np pos : Pos} {r : List ExceptHandler} {l : List ClD} {m : List Cl} (hc : Names X x (cv c))
      (hb : ∀ (a : Addr) (pn : List (Addr × Obj)), PSs (X.suite a pn) (b₀ :: bs) (TSD (Gm (X.suite a pn) cv) (fun _ _ _ _ => False) sd)) (hr : HdsV X cv r l m) :
      HdsV X cv (.ExceptHandler (some (.Name x np)) none (b₀ :: bs) pos :: r) ((c, none, fun _ => sd) :: l) ((cv c, none, fun _ _ _ => TSD ⟨X.K, cv⟩ (fun _ _ _ _ => False) sd) :: m)
  | named {x n : Str} {c i : Nat} {C : Addr} {b : Exn → SD} {b₀ : Stmt} {bs : List Stmt} {np pos : Pos} {ts : Addr → Value → Option Addr → TS} {r : List ExceptHandler} {l : List ClD} {m : List Cl} (hc : Names X x (cv c)) (hC : cv c = .ref C) (hi : X.N[i]? = some n)
      (hl : X.env.kindOf n = some .local) (hb : ∀ (a : Addr) (o : Obj) (cls : Value) (d : Option Addr) (pn : List (Addr × Obj)), Zc cls d o → (∃ fv, o.data = .fields fv) → PSs (X.suite a ((a, o) :: pn)) (b₀ :: bs) (ts a cls d))
      (hs : ∀ (a : Addr) (cls : Value) (d : Option Addr), SuOk ⟨X.K, cv⟩ a cls d C i b (ts a cls d)) (hr : HdsV X cv r l m) :
      HdsV X cv (.ExceptHandler (some (.Name x np)) (some n) (b₀ :: bs) pos :: r) ((c, some i, b) :: l) ((cv c, some i, ts) :: m)
section
variable {X : Cx} {cv : Nat → Value} {W : WX} {hds : List ExceptHandler} {l : List ClD} {m : List Cl}
theorem HdsV.ok (h : HdsV X cv hds l m) : Hds X hds m := by
  induction h with
  | nil => exact .nil
  | plain hc hb _ ih => exact .cons hc trivial (fun a o cls d pn _ _ => hb a ((a, o) :: pn)) ih
  | named hc _ hi hl hb _ _ ih => exact .cons hc ⟨hi, hl⟩ hb ih
theorem HdsV.go {n : Nat} {mt : Nat → Nat → Bool} (C : Clss X.K cv n mt) {D : Ends} {ι : List Addr} {H : Hp} {ρ : Env} {σ : L2.St} {S : Store} {e : Exn} {d : Option Addr} (hs : RS X.K ι H ρ σ) (hh : RH X.K ι H S) (hx : XF X.K ι H e.fs d) (h : HdsV X cv hds l m)
    (q : FinS (Gm X cv) W ι H D (sHdsE n mt l e ρ S)) : wCls X.K W D m (cv e.cls) d σ H := by
  induction h with
  | nil => exact q ι H σ d .refl hh hs hx
  | @plain x c sd b₀ bs np pos r l m hc hb hr ih =>
    have q : FinS (Gm X cv) W ι H D (if e.cls < n ∧ c < n then (if mt e.cls c = true then noExc (sd ρ S) else sHdsE n mt l e ρ S) else .stuck) := q
    split at q
    · rename_i hk
      refine ⟨_, C.ok _ _ hk.1 hk.2, fun hb a ha => ?_, fun hb => ih ?_⟩
      · rw [if_pos hb] at q
        exact ⟨ι, ρ, S, hs, hh, FinS.noexc q⟩
      · rwa [if_neg (by rw [hb]; decide)] at q
    · exact q.elim
  | @named x nm c i Ca b b₀ bs np pos ts r l m hc hC hi hl hb hsu hr ih =>
    have q : FinS (Gm X cv) W ι H D (if e.cls < n ∧ c < n then (if mt e.cls c = true then (if e.cls = c ∧ i < ρ.length then outE i (b e (ρ.set i none) S) else .stuck) else sHdsE n mt l e ρ S) else .stuck) := q
    split at q
    · rename_i hk
      refine ⟨_, C.ok _ _ hk.1 hk.2, fun hb a ha => ?_, fun hb => ih ?_⟩
      · rw [if_pos hb] at q
        split at q
        · rename_i h2
          refine hsu a (cv e.cls) d ι H (ρ.set i none) S (σ.set i (some (.ref a))) e (gone i D) ?_ (by rw [h2.1]; exact hC) (hs.hide i _) hh hx (FinS.outE q)
          rw [List.getElem?_set_self (by rw [← hs.1]; exact h2.2)]
        · exact q.elim
      · rwa [if_neg (by rw [hb]; decide)] at q
    · exact q.elim
theorem ps_tryE {n : Nat} {mt : Nat → Nat → Bool} {as : List Stmt} {h₀ : ExceptHandler} {bd : SD} {pos : Pos} (C : Clss X.K cv n mt) (hs : X.stack = X.env :: X.outer) (hf : X.env.frame = some X.env.locals) (hN : X.N.Nodup) (tk : Takes X W)
    (hb : ∀ (W : WX) (pn : List (Addr × Obj)) (xe : Value → Shared → Prop), Takes (X.tr pn xe) W → PassesOwn (model X.prog X.w) X.A X.env xe → PSs (X.tr pn xe) as (TSD (Gm (X.tr pn xe) cv) W bd)) (hh : HdsV X cv (h₀ :: hds) l m) :
    PS X (.Try as (h₀ :: hds) [] [] pos) (TSD (Gm X cv) W (sTryE n mt bd l)) :=
  (ps_try_cl (tb := fun W => TSD ⟨X.K, cv⟩ W bd) hs hf hN tk hb hh.ok).imp fun D σ H ⟨ι, ρ, S, rs, rh, q⟩ => by
    refine ⟨ι, ρ, S, rs, rh, ?_⟩
    revert q
    show FinS _ _ _ _ _ (match bd ρ S with | .exc e ρ1 S1 => sHdsE n mt l e ρ1 S1 | r => r) → FinS _ _ _ _ _ (bd ρ S)
    cases bd ρ S with
    | exc e ρ1 S1 => exact fun q ι' H' σ' d x1 x2 x3 x4 => hh.go C x3 x2 x4 (FinS.weak x1 q)
    | _ => exact fun q => q
end
end PD

/-! ## PDRaise -/
set_option Elab.async false
set_option linter.all false
set_option maxRecDepth 100000
set_option maxHeartbeats 1000000
/-! an error with one field is raised: its class has an __init__ of the one row self.f = f -/
namespace PD
open PySem PySem.Spec L2
/-- what such an __init__ does -/
def iniS (C : Addr) (f : Str) : Sp := fun vs H Q _ => ∃ (a : Addr) (v : V), vs = [.ref a, v] ∧ H a = some (exo a C none) ∧ ∀ dx, H dx = none → dx ≠ a → Q .non (upd (upd H dx (exd dx [(f, v)])) a (exo a C (some dx)))
theorem ini_ok {P : Program} {w : World} {K : PySem.W.Frag} {mg : Str → Option Value} {base : Heap} {qual f : Str} {st : Stmt} {fI C : Addr} {fd : FuncData} {N ps : List Str} (F : Fun K "__init__" qual st fI fd) (S : FnScope N ps (defScope st)) (h2 : ps.length = 2) (hN : N.length = 2) (T : OexC K C)
    (hn : PySem.W.findIn K (.ref C) f = some none)
    (hder : ∀ (cdv : Value) (A : Around) (outer : List PySem.Env) (s : Shared) (H : Hp) (E : XK), PSs (cxOf CX0 P w K mg base N qual (defScope st) fI cdv A outer s H E).nox (defBody st) (tOst K f (tVar 0) (tVar 1))) : FnOk P w K mg base CX0 1 fI fd ps (iniS C f) := by
  refine Fun.ok F S (fun vs H Q E h => ?_) fun cdv A outer s H vs Q E hr h => ⟨_, hder cdv A outer s H E, ?_⟩
  · obtain ⟨a, v, rfl, _⟩ := h
    exact h2.symm
  · obtain ⟨a, v, rfl, e, q⟩ := h
    have es : L2.start N [.ref a, v] = [some (.ref a), some v] := by
      unfold L2.start
      rw [hN]; rfl
    rw [es]
    exact ⟨v, rfl, .ref a, rfl, a, C, rfl, T, hn, .inl ⟨e, fun dx n ne => q dx n ne⟩⟩
/-- the denotation: lv calls may be nested yet -/
def sRaiseF (c : Nat) (f : Str) (d : D) (lv : Nat) : SD := fun ρ S => if 2 ≤ lv then (d ρ S).toS ρ fun x S1 => .exc ⟨c, [(f, x)]⟩ ρ S1 else .stuck
theorem xd_of {H : Hp} {a dx C : Addr} {f : Str} {v : V} (hd : H dx = none) (ha : H a = none) (ne : dx ≠ a) : upd (del (upd (upd (upd H a (exo a C none)) dx (exd dx [(f, v)])) a (exo a C (some dx))) a) dx (.xd [(f, v)]) = upd H dx (.xd [(f, v)]) := by
  funext b
  by_cases h1 : b = dx
  · rw [h1, upd_same, upd_same]
  · rw [upd_ne h1, upd_ne h1]
    by_cases h2 : b = a
    · rw [h2, del_same, ha]
    · rw [del_ne h2, upd_ne h2, upd_ne h1, upd_ne h2]
section
variable {X : Cx} {cv : Nat → Value} {W : WX}
theorem ps_raiseF {c k lv : Nat} {C fI : Addr} {x f : Str} {fd : FuncData} {ps : List Str} {e : Expr} {d : D} {p pos pos' : Pos} (hcm : X.calm = true) (tk : Takes X W) (hC : cv c = .ref C) (T : OexC X.K C) (iC : PySem.W.findIn X.K (.ref C) "__init__" = some (some (.ref fI)))
    (tI : PySem.W.typeIn X.K (.ref fI) = some (.type "function")) (F1 : FnOk X.prog X.w X.K X.mg X.base CX0 1 fI fd ps (iniS C f)) (hlv : lv = k) (hr : Room k X.A) (hb : Binds X.K fd ps []) (hg : Gl X x) (hm : X.mg x = some (.ref C)) (he : PE X e (TD (Gm X cv) W d))
    (hdb : (x == ("__debug__" : Str)) = false := by decide) (hst : starEach [e] X.env = (false, eval e X.env) :: starEach [] X.env := by rfl) :
    PS X (.Raise (some (.Call (.Name x p) [e] [] pos)) none pos') (TSD (Gm X cv) W (sRaiseF c f d lv)) := by
  by_cases h2 : 2 ≤ lv
  · refine (ps_raise hcm tk (pmk_oex T iC tI F1 (hr.mono (by omega)) hb .nil pass0 hg hm (pa_cons he pa_nil hst) hdb hst)).imp fun D σ H ⟨ι, ρ, S, hs, hh, q⟩ => ?_
    have q : FinS (Gm X cv) W ι H D ((d ρ S).toS ρ fun x S1 => .exc ⟨c, [(f, x)]⟩ ρ S1) := by
      have q := q
      unfold sRaiseF at q
      rwa [if_pos h2] at q
    refine ⟨ι, ρ, S, hs, hh, FinS.bind q hs fun xv S1 ι1 H1 v e1 h1 r1 q1 => ⟨Nat.le_of_ble_eq_true rfl, fun a na => ⟨a, v, rfl, upd_same, fun dx hn ne => ⟨rfl, dx, [(f, v)], upd_same, ?_, ?_, ?_⟩⟩⟩⟩
    · rw [upd_ne ne, upd_same]
    · rwa [upd_ne ne] at hn
    · rw [upd_ne ne] at hn
      rw [xd_of hn na ne, ← hC]
      refine q1 ι1 _ σ (some dx) (Ext.fresh hn) (h1.fresh hn) ((hs.ext e1).ext (Ext.fresh hn)) ⟨List.cons_ne_nil _ _, _, upd_same, fun g y hy => ?_⟩
      have hy : (match g == f with | true => some xv | false => none) = some y := hy
      have go : ∀ o, o = (g == f) → ∃ u, (match o with | true => some v | false => none : Option V) = some u ∧ RV X.K ι1 (upd H1 dx (.xd [(f, v)])) y u := fun o ho => by
        rw [← ho] at hy
        cases o with
        | true =>
          cases hy
          exact ⟨v, rfl, r1.ext (Ext.fresh hn)⟩
        | false => cases hy
      obtain ⟨u, u1, u2⟩ := go _ rfl
      refine ⟨u, ?_, u2⟩
      show (match g == f with | true => some v | false => List.lookup g []) = some u
      revert u1
      cases g == f <;> exact fun z => z
  · exact ⟨fun pins s σ H D I ⟨ι, ρ, S, hs, hh, q⟩ => by
      unfold sRaiseF at q
      rw [if_neg h2] at q
      exact q.elim⟩
end
/-! ### max of a list, any -/
def maxI : List Int → Int
  | [] => 0
  | [x] => x
  | x :: y :: r => max x (maxI (y :: r))
theorem maxI_mem : ∀ {xs : List Int}, xs ≠ [] → maxI xs ∈ xs
  | [x], _ => List.mem_cons_self
  | x :: y :: r, _ => by
    have h := maxI_mem (xs := y :: r) (by simp)
    show max x (maxI (y :: r)) ∈ _
    rcases Int.le_total x (maxI (y :: r)) with q | q
    · rw [Int.max_eq_right q]; exact List.mem_cons_of_mem _ h
    · rw [Int.max_eq_left q]; exact List.mem_cons_self
theorem le_maxI : ∀ {xs : List Int} {y : Int}, y ∈ xs → y ≤ maxI xs
  | [x], y, h => by rw [List.mem_singleton.mp h]; exact Int.le_refl _
  | x :: z :: r, y, h => by
    show y ≤ max x (maxI (z :: r))
    rcases List.mem_cons.mp h with rfl | h
    · exact Int.le_max_left _ _
    · exact Int.le_trans (le_maxI h) (Int.le_max_right _ _)
def bMaxL : Fn := fun xs S => match xs with
  | [.ref n] => match S[n]? with
    | some c => match allSome (c.items.map asI) with
      | some ns => if ns ≠ [] then okI (maxI ns) S else .stuck
      | none => .stuck
    | none => .stuck
  | _ => .stuck
theorem ok_maxL {K : PySem.W.Frag} : OKA K (rMax K) bMaxL := by
  intro cv ι H S xs us W Q hh rx q
  unfold bMaxL at q
  split at q
  · split at q
    · rename_i c ec
      split at q
      · rename_i bs eb
        split at q
        · rename_i hne
          cases rx with
          | cons r1 rr =>
            cases rr
            cases r1 with
            | ref hn hlz =>
              obtain ⟨vs, rr, hq⟩ := (hh.ok _ _ _ hn ec).sq hlz
              cases rvs_ints rr eb
              refine ⟨_, bs, rfl, hq, List.length_pos_iff.mpr hne, fun m hm hle => ?_⟩
              rw [show m = maxI bs from Int.le_antisymm (le_maxI hm) (hle _ (maxI_mem hne))]
              exact q ι H _ .refl hh (.int _)
        · exact q.elim
      · exact q.elim
    · exact q.elim
  · exact q.elim
def bAny : Fn := fun xs S => match xs with
  | [.ref n] => match S[n]? with
    | some c => match allSome (c.items.map asB) with
      | some bs => okB (bs.any id) S
      | none => .stuck
    | none => .stuck
  | _ => .stuck
theorem ok_any {K : PySem.W.Frag} : OKA K (rAny K) bAny := by
  intro cv ι H S xs us W Q hh rx q
  unfold bAny at q
  split at q
  · split at q
    · rename_i c ec
      split at q
      · rename_i bs eb
        cases rx with
        | cons r1 rr =>
          cases rr
          cases r1 with
          | ref hn hlz =>
            obtain ⟨vs, rr, hq⟩ := (hh.ok _ _ _ hn ec).sq hlz
            cases rvs_bools rr eb
            exact ⟨_, bs, rfl, hq, q ι H _ .refl hh (.bl _)⟩
      · exact q.elim
    · exact q.elim
  · exact q.elim
end PD

/-! ## PDIsE -/
set_option Elab.async false
set_option linter.all false
set_option maxRecDepth 100000
set_option maxHeartbeats 1000000
/-! a clause that asks isinstance of the error that it names; a longer text times an int -/
namespace PD
open PySem PySem.Spec L2
def oRepS2 : Op2 := fun x y S => match x, y with
  | .str z, .int k => if 1 ≤ k ∧ k ≤ 1000000 ∧ 1 ≤ z.length ∧ z.length ≤ 16 then .ok (.str (Txt.mul z k)) S else .stuck
  | _, _ => .stuck
def rRepS2 : L2.R2 := fun x y H Q => ∃ z k, x = .str z ∧ y = .int k ∧ 1 ≤ k ∧ k ≤ 1000000 ∧ 1 ≤ z.length ∧ z.length ≤ 16 ∧ Q (.str (Txt.mul z k)) H
theorem op_repS2 {X : Cx} : OpR X (binaryOp .Mult) rRepS2 := by
  intro pins s σ H x y v u Q I rx ry h
  obtain ⟨z, k, rfl, rfl, h1, h2, h3, h4, q⟩ := h
  obtain ⟨t, rfl⟩ := rx
  obtain ⟨t', rfl⟩ := ry
  have hm : (z.length : Int) * k ≤ 16000000 := by
    have a : (z.length : Int) * k ≤ 16 * k := Int.mul_le_mul_of_nonneg_right (by omega) (by omega)
    omega
  refine SB.mul ⟨by simp only [Bool.or_eq_false_iff, decide_eq_false_iff_not]; omega, fun _ _ => ?_, fun _ _ => ?_⟩ fun t' k' => ?_
  · have : (z.length : Int) ≤ (2 ^ 63 - 1) / k := Int.le_ediv_of_mul_le (by omega) (by omega)
    omega
  · unfold Builtin.Str.tooLong
    rw [sizeLine_eq]
    refine decide_eq_false ?_
    have e : (z.length * k.toNat : Nat) ≤ 16000000 := by
      have : ((z.length * k.toNat : Nat) : Int) ≤ 16000000 := by
        rw [Int.natCast_mul, Int.toNat_of_nonneg (by omega)]; exact hm
      omega
    omega
  · exact ⟨.str _, H, I.tok _, ⟨_, rfl⟩, q⟩
theorem ok_repS2 {K : PySem.W.Frag} : OK2 K rRepS2 oRepS2 := by
  intro cv ι H S x y u v W Q hh rx ry q
  cases rx with
  | str z =>
    cases ry with
    | int k =>
      have q : Fin ⟨K, cv⟩ W ι H Q (if 1 ≤ k ∧ k ≤ 1000000 ∧ 1 ≤ z.length ∧ z.length ≤ 16 then .ok (.str (Txt.mul z k)) S else .stuck) := q
      split at q
      · rename_i hc
        exact ⟨z, k, rfl, rfl, hc.1, hc.2.1, hc.2.2.1, hc.2.2.2, q ι H _ .refl hh (.str _)⟩
      · exact q.elim
    | _ => exact q.elim
  | _ => exact q.elim
/-! ### isinstance(error, D) in a clause that names the error -/
def rIsEx (K : PySem.W.Frag) (C a : Addr) (cls : Value) (d : Option Addr) : List V → Hp → VK → Prop := fun xs H Q => cls = .ref C ∧ d = none ∧ rIsE K C a xs H Q
theorem call_isEx {X : Cx} {a C : Addr} {cls : Value} {d : Option Addr} {oe : Obj} {pn : List (Addr × Obj)} (T : ExcC X.K C) (hz : Zc cls d oe) (hf : ∃ vs, oe.data = .fields vs) : CallR (X.suite a ((a, oe) :: pn)) (.builtin "isinstance") (rIsEx X.K C a cls d) := by
  intro pins s σ H xs us Q I r h
  obtain ⟨rfl, rfl, h⟩ := h
  exact call_isE T hz hf pins s σ H xs us Q I r h
theorem kit_t {K : PySem.W.Frag} {C D : Addr} (h2 : PySem.W.isClsIn K D = true) (h3 : PySem.W.typeIn K (.ref D) = some (.type "type")) (h4 : PySem.W.subIn K (.ref C) (.ref D) = some true) : PySem.W.kitOne K (.ref C) (.ref D) = some true := by
  have e2 : ((PySem.W.clsIn K D).isSome && PySem.W.typeIn K (.ref D) == some (.type "type")) = true := by
    rw [show (PySem.W.clsIn K D).isSome = true from h2, h3]; rfl
  have e3 : PySem.W.kitCls K (.ref C) (.ref D) = some true := by
    show (if ((PySem.W.clsIn K D).isSome && PySem.W.typeIn K (.ref D) == some (.type "type")) = true then PySem.W.subIn K (.ref C) (.ref D) else none) = some true
    rw [if_pos e2]; exact h4
  unfold PySem.W.kitOne
  rw [e3]
  exact ite_self _
/-- what the clause keeps -/
def sErIs (j : Nat) (b : Bool) (x y : Str) (e : Exn) : SD := fun ρ S => match e.fs with
  | [] => .next (ρ.set j (some (.str (if b = true then x else y)))) S
  | _ => .stuck
section
variable {Γ : Cfg} {a C D : Addr} {cls : Value} {d : Option Addr} {i j : Nat} {b : Bool} {x y : Str}
theorem su_is (hk : PySem.W.kitOne Γ.K (.ref C) (.ref D) = some b) : SuOk Γ a cls d C i (sErIs j b x y) (tAsg (tIf (tB (tCB (rIsEx Γ.K C a cls d) (tCons (tVar i) (tCons (L2.tC (.ref D)) tNil)))) (L2.tC (.str x)) (L2.tC (.str y))) (gName j)) := fun ι H ρ S σ e E h1 h2 hs hh hx q => by
  unfold sErIs at q
  split at q
  · rename_i ef
    have hd : d = none := by
      cases d with
      | none => rfl
      | some dd => exact absurd ef hx.1
    refine ⟨_, h1, h2, hd, .ref D, .ref D, b, rfl, fun u r => r, hk, b, rfl, ?_⟩
    cases b with
    | true => exact FinS.next q hh (hs.set (.str _) j)
    | false => exact FinS.next q hh (hs.set (.str _) j)
  · exact q.elim
end
end PD

/-! ## PDLoop -/
set_option Elab.async false
set_option linter.all false
set_option maxRecDepth 100000
set_option maxHeartbeats 1000000
/-! while, <<, a comprehension over range(a, b, c), over enumerate, with two for -/
namespace PD
open PySem PySem.Spec L2
/-! ### while: at most so many turns -/
def sWhileN : Nat → DT → SD → SD
  | 0, _, _, _, _ => .stuck
  | k + 1, t, b, ρ, S => (t ρ S).toS ρ fun c S1 => if c = true then (b ρ S1).turn (sWhileN k t b) else .next ρ S1
section
variable {X : Cx} {cv : Nat → Value} {W : WX} {pos : Pos}
theorem ps_while' {c : Expr} {bs : List Stmt} {t : DT} {bd : SD} (k : Nat) (hp : PassesOwn (model X.prog X.w) X.A X.env X.xe) (hc : PT X c (TDT (Gm X cv) W t)) (hb : PSs X bs (TSD (Gm X cv) W bd)) : PS X (.While c bs [] pos) (TSD (Gm X cv) W (sWhileN k t bd)) :=
  (ps_while hp hc hb).imp fun D σ H ⟨ι, ρ, S, hs, hh, q⟩ => by
    refine ⟨fun m σ H => ∃ ι ρ S, RS X.K ι H ρ σ ∧ RH X.K ι H S ∧ FinS (Gm X cv) W ι H D (sWhileN m t bd ρ S), ⟨k, ι, ρ, S, hs, hh, q⟩, fun m σ' H' ⟨ι', ρ', S', hs', hh', q'⟩ => ?_⟩
    cases m with
    | zero => exact q'.elim
    | succ m =>
      refine ⟨ι', ρ', S', hs', hh', FinS.bind (R := fun _ _ => Eq) q' hs' fun x S1 ι1 H1 u e1 h1 r1 q1 => ?_⟩
      cases r1
      cases x with
      | false =>
        rw [if_neg (by decide)]
        exact FinS.next q1 h1 (hs'.ext e1)
      | true =>
        rw [if_pos rfl]
        refine ⟨fun σ H => ∃ ι ρ S, RS X.K ι H ρ σ ∧ RH X.K ι H S ∧ FinS (Gm X cv) W ι H D (sWhileN m t bd ρ S), fun σ2 H2 h2 => ⟨m, Nat.lt_succ_self m, h2⟩, ι1, ρ', S1, hs'.ext e1, h1, ?_⟩
        exact turn_end q1 fun ι3 H3 ρ3 σ3 S3 e3 a3 b3 c3 => ⟨ι3, ρ3, S3, b3, a3, c3⟩
end
/-! ### << -/
def oShl : Op2 := fun x y S => match x, y with
  | .int a, .int b => if 0 ≤ b ∧ b ≤ 1000000 ∧ a.natAbs < 2 ^ 64 then okI (a * 2 ^ b.toNat) S else .stuck
  | _, _ => .stuck
theorem ok_shl {K : PySem.W.Frag} : OK2 K (rI CPow fun i j => .int (i * 2 ^ j.toNat)) oShl := ok_cond (g := fun i j => i * 2 ^ j.toNat) fun cv ι H S x y W Q q => by
  unfold oShl at q
  split at q
  · split at q
    · rename_i hc; exact ⟨_, _, rfl, rfl, hc, q⟩
    · exact q.elim
  · exact q.elim
/-! ### sources that lay something for each item -/
structure SrcOkE (X : Cx) (src : Src) (J : It) (Ok : List Addr → Hp → Prop) : Prop where
  ext : ∀ ι H ι' H', Ok ι H → Ext ι H ι' H' → Ok ι' H'
  side : ∀ ι H (D : Addr) (vs ws : List V), Ok ι H → H D = some (.lst vs) → Ok ι (upd H D (.lst ws))
  stop : ∀ i ι H S, Ok ι H → RH X.K ι H S → src i S = some none → J.stop i H
  go : ∀ i ι H S x, Ok ι H → RH X.K ι H S → src i S = some (some x) → J.go i H
  yld : ∀ i ι H S x y H', Ok ι H → RH X.K ι H S → src i S = some (some x) → J.yld i H y H' → Ext ι H ι H' ∧ RH X.K ι H' S ∧ RV X.K ι H' x y
section
variable {X : Cx} {cv : Nat → Value} {W : WX}
theorem comp_coreE {src : Src} {J : It} {Ok : List Addr → Hp → Prop} {g : TG} {t : TgD} {tt : TT} {te : TE} {c : DT} {f : D} {vs : List Nat} (so : SrcOkE X src J Ok) (ht : TgOk X.K g t) (htt : ∀ σ H Q, TDT (Gm X cv) W0 c σ H Q → tt σ H Q) (hte : ∀ σ H Q, TD (Gm X cv) W0 f σ H Q → te σ H Q)
    {ι : List Addr} {H : Hp} {ρ : PD.Env} {σ : L2.St} {S : Store} {WW : Value → Option Addr → Hp → Prop} {Q : VK} (hgw : ∀ v σ H (Q : L2.St → Hp → Prop), g v (wipe σ vs) H Q → g v (wipe σ vs) H fun σ2 H2 => wipe σ2 vs = wipe σ vs ∧ Q σ2 H2)
    (hs : RS X.K ι H ρ σ) (hh : RH X.K ι H S) (h0 : Ok ι H) {m : Nat} (q : Fin (Gm X cv) WW ι H Q ((compG src t c f m 0 [] (wipeE ρ vs) S).bind alloc)) :
    ∀ D, H D = none → ∃ W' : Nat → Nat → Hp → Prop, (∃ m, W' 0 m (upd H D (.lst []))) ∧ ∀ i m H, W' i m H →
      (J.stop i H ∧ Q (.ref D) H) ∨ (J.go i H ∧ ∃ Nx : Hp → Prop, (∀ H', Nx H' → ∃ m', m' < m ∧ W' (i + 1) m' H') ∧ ∀ x H', J.yld i H x H' → g x (wipe σ vs) H' fun σ2 H2 => wipe σ2 vs = wipe σ vs ∧ tt σ2 H2 fun b H3 =>
        if b = true then te σ2 H3 fun y H4 => ∃ acc, H4 D = some (.lst acc) ∧ acc.length < sizeLine ∧ Nx (upd H4 D (.lst (acc ++ [y]))) else Nx H3) := by
  intro D hD
  have hw0 := wipe_rs hs vs
  refine ⟨fun i m H' => ∃ ι' S' acc us, Ext ι H ι' H' ∧ RH X.K ι' H' S' ∧ Ok ι' H' ∧ D ∉ ι' ∧ H' D = some (.lst us) ∧ RVs X.K ι' H' acc us ∧ Fin (Gm X cv) WW ι H Q ((compG src t c f m i acc (wipeE ρ vs) S').bind alloc), ⟨m, ι, S, [], [], Ext.fresh hD, hh.fresh hD, so.ext _ _ _ _ h0 (Ext.fresh hD), fun z => ?_, upd_same, .nil, q⟩, fun i m' H' ⟨ι', S', acc, us, e, hh', h0', nD, hd, ra, q'⟩ => ?_⟩
  · exact hh.trk z hD
  · have rs' := hw0.ext e
    have stop : src i S' = some none → Fin (Gm X cv) WW ι H Q (alloc acc S') → J.stop i H' ∧ Q (.ref D) H' := fun es qa => by
      refine ⟨so.stop i ι' H' S' h0' hh' es, qa _ _ _ (e.adopt hD) (hh'.adopt nD hd ra) (.ref ?_ ⟨_, hd⟩)⟩
      rw [← hh'.len]; simp
    cases m' with
    | zero =>
      unfold compG at q'
      split at q'
      · rename_i es
        exact .inl (stop es q')
      · exact q'.elim
    | succ m' =>
      unfold compG at q'
      split at q'
      · exact q'.elim
      · rename_i es
        exact .inl (stop es q')
      · rename_i x ex
        split at q'
        · exact q'.elim
        · rename_i ρ1 eρ
          refine .inr ⟨so.go i ι' H' S' x h0' hh' ex, fun H2 => ∃ ι' S' acc us, Ext ι H ι' H2 ∧ RH X.K ι' H2 S' ∧ Ok ι' H2 ∧ D ∉ ι' ∧ H2 D = some (.lst us) ∧ RVs X.K ι' H2 acc us ∧ Fin (Gm X cv) WW ι H Q ((compG src t c f m' (i + 1) acc (wipeE ρ vs) S').bind alloc), fun H2 h2 => ⟨m', Nat.lt_succ_self m', h2⟩, fun y H2 hy => ?_⟩
          obtain ⟨e0, hh2, rx⟩ := so.yld i ι' H' S' x y H2 h0' hh' ex hy
          obtain ⟨nD, hd⟩ := e0.own nD hd
          have h0' := so.ext _ _ _ _ h0' e0
          have rs' := rs'.ext e0
          have ra := ra.ext e0
          have e := e.trans e0
          refine hgw _ _ _ _ (ht ι' H2 _ ρ1 (wipe σ vs) x y _ rs' rx eρ fun σ2 hs2 => ?_)
          rw [bind_assoc] at q'
          refine htt σ2 H2 _ ⟨ι', ρ1, S', hs2, hh2, noX_bind0 (R := fun _ _ => Eq) q' fun b S1 ι1 H1 b' e1 h1 r1 q1 => ?_⟩
          cases r1
          obtain ⟨nD1, hd1⟩ := e1.own nD hd
          have o1 := so.ext _ _ _ _ h0' e1
          cases b with
          | false => exact ⟨ι1, S1, acc, us, e.trans e1, h1, o1, nD1, hd1, ra.ext e1, q1⟩
          | true =>
            have q1 : Fin (Gm X cv) WW ι H Q (((PD.noX (f ρ1 S1)).bind fun y S2 => if acc.length < 16777216 then compG src t c f m' (i + 1) (acc ++ [y]) (wipeE ρ vs) S2 else .stuck).bind alloc) := q1
            rw [bind_assoc] at q1
            refine hte σ2 H1 _ ⟨ι1, ρ1, S1, hs2.ext e1, h1, noX_bind0 q1 fun y S2 ι2 H2 v e2 h2 r2 q2 => ?_⟩
            obtain ⟨nD2, hd2⟩ := e2.own nD1 hd1
            split at q2
            · rename_i hl
              have ra2 := (ra.ext e1).ext e2
              refine ⟨us, hd2, by rw [← ra.length, sizeLine_eq]; exact hl, ι2, S2, acc ++ [y], us ++ [v], ((e.trans e1).trans e2).side hD hd2, h2.side nD2 hd2, so.side _ _ _ _ _ (so.ext _ _ _ _ o1 e2) hd2, nD2, upd_same, (ra2.append (.cons r2 .nil)).side hd2, q2⟩
            · exact q2.elim
/-! ### enumerate over a list -/
def srcE (n : Nat) : Src := fun i S => match S[n]? with
  | some c => some (c.items[i]?.map fun x => .tup [.int (i : Nat), x])
  | none => none
theorem src_enum {n : Nat} {a : Addr} : SrcOkE X (srcE n) (Ite X.K a) (fun ι H => ι[n]? = some a ∧ ∃ vs, H a = some (.lst vs)) where
  ext := fun ι H ι' H' h e => ⟨e.get h.1, by obtain ⟨vs, z⟩ := h.2; exact e.ls a vs z⟩
  side := fun _ _ _ _ _ h hd => ⟨h.1, lst_side hd a h.2⟩
  stop := fun i ι H S h hh q => by
    unfold srcE at q
    split at q
    · rename_i c ec
      obtain ⟨vs, rv, hq⟩ := (hh.ok _ _ _ h.1 ec).sq h.2
      have q := Option.some.inj q
      have : c.items[i]? = none := by
        cases e : c.items[i]? with
        | none => rfl
        | some x => rw [e] at q; cases q
      exact ⟨vs, hq, by rw [← rv.length]; exact List.getElem?_eq_none_iff.mp this⟩
    · cases q
  go := fun i ι H S x h hh q => by
    unfold srcE at q
    split at q
    · rename_i c ec
      obtain ⟨vs, rv, hq⟩ := (hh.ok _ _ _ h.1 ec).sq h.2
      have q := Option.some.inj q
      cases e : c.items[i]? with
      | none => rw [e] at q; cases q
      | some y =>
        obtain ⟨v, ev, _⟩ := rv.get e
        exact ⟨vs, v, hq, ev⟩
    · cases q
  yld := fun i ι H S x y H' h hh q hy => by
    unfold srcE at q
    split at q
    · rename_i c ec
      obtain ⟨vs, rv, hq⟩ := (hh.ok _ _ _ h.1 ec).sq h.2
      have q := Option.some.inj q
      cases e : c.items[i]? with
      | none => rw [e] at q; cases q
      | some z =>
        rw [e] at q
        cases q
        obtain ⟨v, ev, r⟩ := rv.get e
        obtain ⟨p, u, rfl, hp, rfl, hu⟩ := hy
        have := hu vs hq
        rw [ev] at this; cases this
        exact ⟨Ext.fresh hp, hh.fresh hp, .tup (SqT.of upd_same) (.cons (.int _) (.cons (r.ext (Ext.fresh hp)) .nil))⟩
    · cases q
def dLCE (f : D) (t : TgD) (c : DT) (e : D) (vs : List Nat) : D := fun ρ S => (f ρ S).bind fun x S1 => match x with
  | .ref n => match S1[n]? with
    | some cc => (compG (srcE n) t c e cc.items.length 0 [] (wipeE ρ vs) S1).bind alloc
    | none => .stuck
  | _ => .stuck
theorem lcE {f e : D} {c : DT} {g : TG} {t : TgD} {vs : List Nat} {fa : DA} (ht : TgOk X.K g t) (hw : Wp g vs) (hfa : fa = fun ρ S => (f ρ S).bind fun x S1 => .ok [x] S1) (σ : L2.St) (H : Hp) (Q : VK) (h : TD (Gm X cv) W (dLCE f t c e vs) σ H Q) : tLcD X cv (iEnum X.K (TDA (Gm X cv) W fa)) g c e vs σ H Q := by
  subst hfa
  obtain ⟨ι, ρ, S, hs, hh, q⟩ := h
  refine ⟨ι, ρ, S, hs, hh, ?_⟩
  have q : Fin (Gm X cv) (fun c d H' => W c d σ H') ι H Q ((f ρ S).bind fun x S1 => match x with
    | .ref n => match S1[n]? with
      | some cc => (compG (srcE n) t c e cc.items.length 0 [] (wipeE ρ vs) S1).bind alloc
      | none => .stuck
    | _ => .stuck) := q
  show FinA (Gm X cv) _ ι H _ ((f ρ S).bind fun x S1 => .ok [x] S1)
  revert q
  cases f ρ S with
  | stuck => exact fun q => q
  | exc x S1 => exact fun q => q
  | ok x S1 =>
    intro q ι1 H1 us e1 h1 r1
    cases r1 with
    | cons r1 r2 =>
      cases r2
      have q1 := FinG.weak e1 q
      cases r1 with
      | ref hn hlz =>
        rename_i n a
        have q1 : Fin (Gm X cv) (fun c d H' => W c d σ H') ι1 H1 Q (match S1[n]? with | some cc => (compG (srcE n) t c e cc.items.length 0 [] (wipeE ρ vs) S1).bind alloc | none => .stuck) := q1
        split at q1
        · rename_i cc ec
          obtain ⟨us, rv, hq⟩ := (h1.ok _ _ _ hn ec).sq hlz
          exact ⟨a, us, rfl, hq, comp_coreE src_enum ht (fun _ _ _ h => h) (fun _ _ _ h => h) hw (hs.ext e1) h1 ⟨hn, hlz⟩ q1⟩
        · exact q1.elim
      | _ => exact q1.elim
variable {elt tg iter : Expr} {ifs : List Expr} {scope : Scope} {own : List (Str × Nat)} {pos spos : Pos} {g : TG} {t : TgD} {c : DT} {e f : D}
theorem pd_lcE {a : Expr} {p pos2 tpos : Pos} {elts : List Expr} {kk : Nat} (hc : X.calm = true) (hN : X.N.Nodup) (hgl : Gl X "enumerate") (hm : X.mg "enumerate" = none) (hi : PE X a (TD (Gm X cv) W f)) (L : LcOk X cv elt (.Tuple elts kk tpos) ifs scope own g t c e)
    (hst : starEach [a] X.env = [(false, eval a X.env)] := by rfl) (hs : ∀ x, foldedSetIterable (.Call (.Name "enumerate" p) [a] [] pos2) X.env x = pure x := by intro _; rfl) :
    PE X (.ListComp elt [⟨.Tuple elts kk tpos, .Call (.Name "enumerate" p) [a] [] pos2, ifs, 0⟩] scope pos) (TD (Gm X cv) W (dLCE f t c e (own.map (·.2)))) :=
  (pe_lc hc hN (pi_enum hgl hm (pda_cons hi pda_nil hst) hst) L.ok L.tg L.ifs L.elt hs).imp fun σ H Q h => lcE L.tok L.wp rfl σ H Q h
/-! ### range(a, b, c) -/
def rangeC (lo c : Int) (n : Nat) : List Val := (List.range n).map fun (i : Nat) => Val.int (lo + (i : Int) * c)
theorem rangeC_length (lo c : Int) (n : Nat) : (rangeC lo c n).length = n := by simp [rangeC]
theorem rangeC_get {lo c : Int} {n i : Nat} (h : i < n) : (rangeC lo c n)[i]? = some (.int (lo + i * c)) := by
  unfold rangeC
  rw [List.getElem?_map, List.getElem?_range h]; rfl
theorem src_rngC {lo c : Int} {n : Nat} : SrcOk X (srcL (rangeC lo c n)) (Itc lo c n) (fun _ _ => True) where
  ext := fun _ _ _ _ _ _ => trivial
  side := fun _ _ _ _ _ _ _ => trivial
  stop := fun i ι H S h hh q => by
    have := List.getElem?_eq_none_iff.mp (Option.some.inj q)
    rw [rangeC_length] at this
    exact this
  go := fun i ι H S x h hh q => by
    have := (List.getElem?_eq_some_iff.mp (Option.some.inj q)).1
    rw [rangeC_length] at this
    exact this
  yld := fun i ι H S x y H' h hh q hy => by
    obtain ⟨rfl, rfl⟩ := hy
    have hi := (List.getElem?_eq_some_iff.mp (Option.some.inj q)).1
    rw [rangeC_length] at hi
    have e := Option.some.inj q
    rw [rangeC_get hi] at e
    cases e
    exact ⟨rfl, .int _⟩
def dLCR3 (g : DA) (t : TgD) (c : DT) (e : D) (vs : List Nat) : D := fun ρ S => (g ρ S).bind fun xs S1 => match xs with
  | [.int i, .int j, .int k] => if k ≠ 0 ∧ k.natAbs < 1073741824 ∧ Builtin.Range.small i j k = true ∧ 0 ≤ Builtin.Range.rangeSize i j k then (compG (srcL (rangeC i k (Builtin.Range.rangeSize i j k).toNat)) t c e (Builtin.Range.rangeSize i j k).toNat 0 [] (wipeE ρ vs) S1).bind alloc else .stuck
  | _ => .stuck
theorem lcR3 {vs : List Nat} {fa : DA} (ht : TgOk X.K g t) (hw : Wp g vs) (σ : L2.St) (H : Hp) (Q : VK) (h : TD (Gm X cv) W (dLCR3 fa t c e vs) σ H Q) : tLcD X cv (iRng3 (TDA (Gm X cv) W fa)) g c e vs σ H Q := by
  obtain ⟨ι, ρ, S, hs, hh, q⟩ := h
  refine ⟨ι, ρ, S, hs, hh, FinG.bind q fun xs S1 ι1 H1 us e1 h1 r1 q1 => ?_⟩
  split at q1
  · rename_i i j k
    split at q1
    · rename_i hj
      cases r1 with
      | cons r1 r2 =>
        cases r1
        cases r2 with
        | cons r1 r2 =>
          cases r1
          cases r2 with
          | cons r1 r2 =>
            cases r1; cases r2
            exact ⟨i, j, k, _, rfl, ⟨hj.1, hj.2.1, hj.2.2.1, (Int.toNat_of_nonneg hj.2.2.2).symm⟩, comp_core src_rngC ht (fun _ _ _ h => h) (fun _ _ _ h => h) hw (hs.ext e1) h1 trivial q1⟩
    · exact q1.elim
  · exact q1.elim
theorem pd_lcR3 {a b d : Expr} {fa : DA} {p pos2 : Pos} (hc : X.calm = true) (hN : X.N.Nodup) (hgl : Gl X "range") (hm : X.mg "range" = none) (hi : PA X [a, b, d] (TDA (Gm X cv) W fa)) (L : LcOk X cv elt tg ifs scope own g t c e)
    (hst : starEach [a, b, d] X.env = (false, eval a X.env) :: starEach [b, d] X.env := by rfl) (hpl : (backTo pos2 (starEach [b, d] X.env)).any (·.1) = false := by rfl) (hs : ∀ x, foldedSetIterable (.Call (.Name "range" p) [a, b, d] [] pos2) X.env x = pure x := by intro _; rfl) :
    PE X (.ListComp elt [⟨tg, .Call (.Name "range" p) [a, b, d] [] pos2, ifs, 0⟩] scope pos) (TD (Gm X cv) W (dLCR3 fa t c e (own.map (·.2)))) :=
  (pe_lc hc hN (pi_range3 hgl hm hi hst hpl) L.ok L.tg L.ifs L.elt hs).imp fun σ H Q h => lcR3 L.tok L.wp σ H Q h
theorem ps_setLcR3 {i : Nat} {y : Str} {py : Pos} {a b d : Expr} {fa : DA} {p pos2 : Pos} (hc : X.calm = true) (hN : X.N.Nodup) (hy : X.N[i]? = some y) (hyl : X.env.scope.names.lookup y = some .local) (hsw : swapsWith (.ListComp elt [⟨tg, .Call (.Name "range" p) [a, b, d] [] pos2, ifs, 0⟩] scope pos) (some (.Name y py)) spos.line X.env = pure true)
    (hgl : Gl X "range") (hm : X.mg "range" = none) (hi : PA X [a, b, d] (TDA (Gm X cv) W fa)) (L : LcOk X cv elt tg ifs scope own g t c e)
    (hst : starEach [a, b, d] X.env = (false, eval a X.env) :: starEach [b, d] X.env := by rfl) (hpl : (backTo pos2 (starEach [b, d] X.env)).any (·.1) = false := by rfl) (hs : ∀ x, foldedSetIterable (.Call (.Name "range" p) [a, b, d] [] pos2) X.env x = pure x := by intro _; rfl) :
    PS X (.Assign [.Name y py] (.ListComp elt [⟨tg, .Call (.Name "range" p) [a, b, d] [] pos2, ifs, 0⟩] scope pos) spos) (TSD (Gm X cv) W (sSet i (dLCR3 fa t c e (own.map (·.2))))) :=
  (ps_setLc hc hN hy hyl hsw (pi_range3 hgl hm hi hst hpl) L.ok L.tg L.ifs L.elt hs).imp fun D σ H h => lcR3 L.tok L.wp σ H _ (set_td h)
end
end PD

/-! ## PDLoop2 -/
set_option Elab.async false
set_option linter.all false
set_option maxRecDepth 100000
set_option maxHeartbeats 1000000
/-! a comprehension with two for: over a list, then over a tuple -/
namespace PD
open PySem PySem.Spec L2
def innerG (t : TgD) (e : D) : List Val → List Val → PD.Env → Store → Res (List Val)
  | [], acc, _, S => .ok acc S
  | y :: ys, acc, ρ, S => match t y ρ with
    | none => .stuck
    | some ρ2 => (noX (e ρ2 S)).bind fun z S1 => if acc.length < 16777216 then innerG t e ys (acc ++ [z]) ρ S1 else .stuck
def compO (src : Src) (t : TgD) (f2 : D) (t2 : TgD) (e : D) (vs1 : List Nat) : Nat → Nat → List Val → PD.Env → Store → Res (List Val)
  | 0, i, acc, _, S => match src i S with
    | some none => .ok acc S
    | _ => .stuck
  | m + 1, i, acc, ρ, S => match src i S with
    | none => .stuck
    | some none => .ok acc S
    | some (some x) => match t x ρ with
      | none => .stuck
      | some ρ1 => (noX (f2 ρ1 S)).bind fun y S1 => match y with
        | .tup ys => (innerG t2 e ys acc (wipeE ρ1 vs1) S1).bind fun acc S2 => compO src t f2 t2 e vs1 m (i + 1) acc ρ S2
        | _ => .stuck
def dLC2 (f : D) (t : TgD) (f2 : D) (t2 : TgD) (e : D) (vs vs1 : List Nat) : D := fun ρ S => (f ρ S).bind fun x S1 => match x with
  | .ref n => match S1[n]? with
    | some cc => (compO (srcC n) t f2 t2 e vs1 cc.items.length 0 [] (wipeE ρ vs) S1).bind alloc
    | none => .stuck
  | _ => .stuck
section
variable {X : Cx} {cv : Nat → Value} {W : WX}
theorem comp_core2 {src : Src} {J : It} {Ok : List Addr → Hp → Prop} {g g1 : TG} {t t2 : TgD} {f2 f : D} {vs vs1 : List Nat} (so : SrcOk X src J Ok) (ht : TgOk X.K g t) (ht2 : TgOk X.K g1 t2)
    {ι : List Addr} {H : Hp} {ρ : PD.Env} {σ : L2.St} {S : Store} {WW : Value → Option Addr → Hp → Prop} {Q : VK} (hgw : Wp g vs) (hgw1 : Wp g1 vs1)
    (hs : RS X.K ι H ρ σ) (hh : RH X.K ι H S) (h0 : Ok ι H) {m : Nat} (q : Fin (Gm X cv) WW ι H Q ((compO src t f2 t2 f vs1 m 0 [] (wipeE ρ vs) S).bind alloc)) :
    ∀ D, H D = none → ∃ W' : Nat → Nat → Hp → Prop, (∃ m, W' 0 m (upd H D (.lst []))) ∧ ∀ i m H, W' i m H →
      (J.stop i H ∧ Q (.ref D) H) ∨ (J.go i H ∧ ∃ Nx : Hp → Prop, (∀ H', Nx H' → ∃ m', m' < m ∧ W' (i + 1) m' H') ∧ ∀ x H', J.yld i H x H' → g x (wipe σ vs) H' fun σ2 H2 => wipe σ2 vs = wipe σ vs ∧ (TDT (Gm X cv) W0 tYes') σ2 H2 fun b H3 =>
        if b = true then (iTup X.K (TD (Gm X cv) W0 f2)) σ2 H3 fun J1 H4 => ∃ W1 : Nat → Nat → Hp → Prop, (∃ m, W1 0 m H4) ∧ ∀ j k H, W1 j k H →
          (J1.stop j H ∧ Nx H) ∨ (J1.go j H ∧ ∃ Nx1 : Hp → Prop, (∀ H', Nx1 H' → ∃ k', k' < k ∧ W1 (j + 1) k' H') ∧ ∀ x H', J1.yld j H x H' → g1 x (wipe σ2 vs1) H' fun σ3 H5 => wipe σ3 vs1 = wipe σ2 vs1 ∧ (TDT (Gm X cv) W0 tYes') σ3 H5 fun b H6 =>
            if b = true then (TD (Gm X cv) W0 f) σ3 H6 fun y H7 => ∃ acc, H7 D = some (.lst acc) ∧ acc.length < sizeLine ∧ Nx1 (upd H7 D (.lst (acc ++ [y]))) else Nx1 H6)
        else Nx H3) := by
  intro D hD
  have hw0 := wipe_rs hs vs
  refine ⟨fun i m H' => ∃ ι' S' acc us, Ext ι H ι' H' ∧ RH X.K ι' H' S' ∧ Ok ι' H' ∧ D ∉ ι' ∧ H' D = some (.lst us) ∧ RVs X.K ι' H' acc us ∧ Fin (Gm X cv) WW ι H Q ((compO src t f2 t2 f vs1 m i acc (wipeE ρ vs) S').bind alloc), ⟨m, ι, S, [], [], Ext.fresh hD, hh.fresh hD, so.ext _ _ _ _ h0 (Ext.fresh hD), fun z => ?_, upd_same, .nil, q⟩, fun i m' H' ⟨ι', S', acc, us, e, hh', h0', nD, hd, ra, q'⟩ => ?_⟩
  · exact hh.trk z hD
  · have rs' := hw0.ext e
    have stop : src i S' = some none → Fin (Gm X cv) WW ι H Q (alloc acc S') → J.stop i H' ∧ Q (.ref D) H' := fun es qa => by
      refine ⟨so.stop i ι' H' S' h0' hh' es, qa _ _ _ (e.adopt hD) (hh'.adopt nD hd ra) (.ref ?_ ⟨_, hd⟩)⟩
      rw [← hh'.len]; simp
    cases m' with
    | zero =>
      unfold compO at q'
      split at q'
      · rename_i es
        exact .inl (stop es q')
      · exact q'.elim
    | succ m' =>
      unfold compO at q'
      split at q'
      · exact q'.elim
      · rename_i es
        exact .inl (stop es q')
      · rename_i x ex
        split at q'
        · exact q'.elim
        · rename_i ρ1 eρ
          refine .inr ⟨so.go i ι' H' S' x h0' hh' ex, fun H2 => ∃ ι' S' acc us, Ext ι H ι' H2 ∧ RH X.K ι' H2 S' ∧ Ok ι' H2 ∧ D ∉ ι' ∧ H2 D = some (.lst us) ∧ RVs X.K ι' H2 acc us ∧ Fin (Gm X cv) WW ι H Q ((compO src t f2 t2 f vs1 m' (i + 1) acc (wipeE ρ vs) S').bind alloc), fun H2 h2 => ⟨m', Nat.lt_succ_self m', h2⟩, fun y H2 hy => ?_⟩
          obtain ⟨rfl, rx⟩ := so.yld i ι' H' S' x y H2 h0' hh' ex hy
          refine hgw _ _ _ _ (ht ι' H2 _ ρ1 (wipe σ vs) x y _ rs' rx eρ fun σ2 hs2 => ?_)
          refine ⟨ι', ρ1, S', hs2, hh', fun ι1 H1 b e1 h1 r1 => ?_⟩
          cases r1
          rw [if_pos rfl]
          obtain ⟨nD1, hd1⟩ := e1.own nD hd
          have o1 := so.ext _ _ _ _ h0' e1
          have ra1 := ra.ext e1
          have hs1 := hs2.ext e1
          rw [bind_assoc] at q'
          refine ⟨ι1, ρ1, S', hs1, h1, noX_bind0 q' fun w S1 ι2 H2' v e2 h2 r2 q2 => ?_⟩
          obtain ⟨nD2, hd2⟩ := e2.own nD1 hd1
          cases r2 with
          | tup ha rys =>
            rename_i a ys vs2
            have q2 : Fin (Gm X cv) WW ι H Q (((innerG t2 f ys acc (wipeE ρ1 vs1) S1).bind fun acc S2 => compO src t f2 t2 f vs1 m' (i + 1) acc (wipeE ρ vs) S2).bind alloc) := q2
            refine ⟨a, rfl, ⟨_, ha⟩, fun j k H3 => j + k = ys.length ∧ ∃ ι3 S3 acc us, Ext ι H ι3 H3 ∧ RH X.K ι3 H3 S3 ∧ Ok ι3 H3 ∧ D ∉ ι3 ∧ H3 D = some (.lst us) ∧ RVs X.K ι3 H3 acc us ∧ SqT X.K H3 a vs2 ∧ RVs X.K ι3 H3 ys vs2 ∧ RS X.K ι3 H3 (wipeE ρ1 vs1) (wipe σ2 vs1) ∧ Fin (Gm X cv) WW ι H Q (((innerG t2 f (ys.drop j) acc (wipeE ρ1 vs1) S3).bind fun acc S2 => compO src t f2 t2 f vs1 m' (i + 1) acc (wipeE ρ vs) S2).bind alloc),
              ⟨ys.length, Nat.zero_add _, ι2, S1, acc, us, (e.trans e1).trans e2, h2, so.ext _ _ _ _ o1 e2, nD2, hd2, ra1.ext e2, ha, rys, (wipe_rs (hs1.ext e2) vs1), q2⟩, fun j k H3 ⟨hjk, ι3, S3, acc3, us3, e3, h3, o3, nD3, hd3, ra3, ha3, ry3, hs3, q3⟩ => ?_⟩
            cases k with
            | zero =>
              have : j = ys.length := by omega
              subst this
              rw [List.drop_length] at q3
              exact .inl ⟨⟨vs2, ha3, by rw [← ry3.length]; exact Nat.le_refl _⟩, ι3, S3, acc3, us3, e3, h3, o3, nD3, hd3, ra3, q3⟩
            | succ k =>
              have hj : j < ys.length := by omega
              have ej : ys[j]? = some ys[j] := List.getElem?_eq_getElem hj
              obtain ⟨v3, ev3, rv3⟩ := ry3.get ej
              rw [List.drop_eq_getElem_cons hj] at q3
              unfold innerG at q3
              split at q3
              · exact q3.elim
              · rename_i ρ2 eρ2
                refine .inr ⟨⟨vs2, v3, ha3, ev3⟩, fun H4 => ∃ ι3 S3 acc us, Ext ι H ι3 H4 ∧ RH X.K ι3 H4 S3 ∧ Ok ι3 H4 ∧ D ∉ ι3 ∧ H4 D = some (.lst us) ∧ RVs X.K ι3 H4 acc us ∧ SqT X.K H4 a vs2 ∧ RVs X.K ι3 H4 ys vs2 ∧ RS X.K ι3 H4 (wipeE ρ1 vs1) (wipe σ2 vs1) ∧ Fin (Gm X cv) WW ι H Q (((innerG t2 f (ys.drop (j + 1)) acc (wipeE ρ1 vs1) S3).bind fun acc S2 => compO src t f2 t2 f vs1 m' (i + 1) acc (wipeE ρ vs) S2).bind alloc), fun H4 h4 => ⟨k, Nat.lt_succ_self k, by omega, h4⟩, fun y4 H4 hy4 => ?_⟩
                obtain ⟨rfl, hy4⟩ := hy4
                have ey := hy4 vs2 ha3
                rw [ev3] at ey; cases ey
                refine hgw1 _ _ _ _ (ht2 ι3 H4 _ ρ2 (wipe σ2 vs1) _ _ _ hs3 rv3 eρ2 fun σ3 hs4 => ?_)
                refine ⟨ι3, ρ2, S3, hs4, h3, fun ι5 H5 b5 e5 h5 r5 => ?_⟩
                cases r5
                rw [if_pos rfl]
                obtain ⟨nD5, hd5⟩ := e5.own nD3 hd3
                rw [bind_assoc, bind_assoc] at q3
                refine ⟨ι5, ρ2, S3, hs4.ext e5, h5, noX_bind0 q3 fun z S6 ι6 H6 v6 e6 h6 r6 q6 => ?_⟩
                obtain ⟨nD6, hd6⟩ := e6.own nD5 hd5
                split at q6
                · rename_i hl
                  have e36 := e5.trans e6
                  refine ⟨us3, hd6, by rw [← ra3.length, sizeLine_eq]; exact hl, ι6, S6, acc3 ++ [z], us3 ++ [v6], (e3.trans e36).side hD hd6, h6.side nD6 hd6, so.side _ _ _ _ _ (so.ext _ _ _ _ o3 e36) hd6, nD6, upd_same, ((ra3.ext e36).append (.cons r6 .nil)).side hd6, sqT_side hd6 _ _ (e36.sqT ha3), (ry3.ext e36).side hd6, (hs3.ext e36).side hd6, by rw [bind_assoc]; exact q6⟩
                · exact q6.elim
          | _ => exact q2.elim
/-- the block's parts -/
structure LcOk2 (X : Cx) (cv : Nat → Value) (elt tg tg1 iter1 : Expr) (scope : Scope) (own : List (Str × Nat)) (vs1 : List Nat) (g g1 : TG) (t t1 : TgD) (f2 e : D) : Prop where
  ok : BlkOk X.N X.env.scope scope own
  hv : ∀ i ∈ vs1, i ∈ own.map (·.2)
  tg : ∀ (s : Shared) (H : Hp) (C : Addr) (cl : List (Str × Addr)) (fp : List Addr), PG (X.blk s H scope (PySem.compEnvC scope cl C X.env) fp) tg g
  tok : TgOk X.K g t
  wp : Wp g (own.map (·.2))
  tg1 : ∀ (s : Shared) (H : Hp) (C : Addr) (cl : List (Str × Addr)) (fp : List Addr), PG (X.blk s H scope (PySem.compEnvC scope cl C X.env) fp) tg1 g1
  tok1 : TgOk X.K g1 t1
  wp1 : Wp g1 vs1
  it : ∀ (s : Shared) (H : Hp) (C : Addr) (cl : List (Str × Addr)) (fp : List Addr), PE (X.blk s H scope (PySem.compEnvC scope cl C X.env) fp) iter1 (TD (Gm X cv) W0 f2)
  elt : ∀ (s : Shared) (H : Hp) (C : Addr) (cl : List (Str × Addr)) (fp : List Addr), PE (X.blk s H scope (PySem.compEnvC scope cl C X.env) fp) elt (TD (Gm X cv) W0 e)
variable {elt tg tg1 iter iter1 : Expr} {scope : Scope} {own : List (Str × Nat)} {vs1 : List Nat} {pos spos : Pos} {g g1 : TG} {t t1 : TgD} {f f2 e : D}
theorem lc2 {vs : List Nat} (ht : TgOk X.K g t) (ht1 : TgOk X.K g1 t1) (hw : Wp g vs) (hw1 : Wp g1 vs1) (σ : L2.St) (H : Hp) (Q : VK) (h : TD (Gm X cv) W (dLC2 f t f2 t1 e vs vs1) σ H Q) : tLc2 (iList X.K (TD (Gm X cv) W f)) g (TDT (Gm X cv) W0 tYes') (iTup X.K (TD (Gm X cv) W0 f2)) g1 (TDT (Gm X cv) W0 tYes') (TD (Gm X cv) W0 e) vs vs1 σ H Q := by
  obtain ⟨ι, ρ, S, hs, hh, q⟩ := h
  refine ⟨ι, ρ, S, hs, hh, FinG.bind q fun x S1 ι1 H1 u e1 h1 r1 q1 => ?_⟩
  cases r1 with
  | ref hn hlz =>
    rename_i n a
    have q1 : Fin (Gm X cv) (fun c d H' => W c d σ H') ι1 H1 Q (match S1[n]? with | some cc => (compO (srcC n) t f2 t1 e vs1 cc.items.length 0 [] (wipeE ρ vs) S1).bind alloc | none => .stuck) := q1
    split at q1
    · rename_i cc ec
      obtain ⟨us, rv, hq⟩ := (h1.ok _ _ _ hn ec).sq hlz
      exact ⟨a, rfl, ⟨us, hq⟩, comp_core2 src_list ht ht1 hw hw1 (hs.ext e1) h1 ⟨hn, hlz⟩ q1⟩
    · exact q1.elim
  | _ => exact q1.elim
theorem pd_lc2 (hc : X.calm = true) (hN : X.N.Nodup) (hi : PE X iter (TD (Gm X cv) W f)) (L : LcOk2 X cv elt tg tg1 iter1 scope own vs1 g g1 t t1 f2 e) (hs : ∀ x, foldedSetIterable iter X.env x = pure x := by intro _; rfl) (hs1 : ∀ env x, foldedSetIterable iter1 env x = pure x := by intro _ _; rfl) :
    PE X (.ListComp elt [⟨tg, iter, [], 0⟩, ⟨tg1, iter1, [], 0⟩] scope pos) (TD (Gm X cv) W (dLC2 f t f2 t1 e (own.map (·.2)) vs1)) :=
  (pe_lc2 hc hN (pi_list hi) L.ok L.hv L.tg (fun _ _ _ _ _ => pdts_nil) (fun s H C cl fp => pi_tup (L.it s H C cl fp)) L.tg1 (fun _ _ _ _ _ => pdts_nil) L.elt hs hs1).imp fun σ H Q h => lc2 L.tok L.tok1 L.wp L.wp1 σ H Q h
theorem ps_setLc2' {i : Nat} {y : Str} {py : Pos} (hc : X.calm = true) (hN : X.N.Nodup) (hy : X.N[i]? = some y) (hyl : X.env.scope.names.lookup y = some .local) (hsw : swapsWith (.ListComp elt [⟨tg, iter, [], 0⟩, ⟨tg1, iter1, [], 0⟩] scope pos) (some (.Name y py)) spos.line X.env = pure true)
    (hi : PE X iter (TD (Gm X cv) W f)) (L : LcOk2 X cv elt tg tg1 iter1 scope own vs1 g g1 t t1 f2 e) (hs : ∀ x, foldedSetIterable iter X.env x = pure x := by intro _; rfl) (hs1 : ∀ env x, foldedSetIterable iter1 env x = pure x := by intro _ _; rfl) :
    PS X (.Assign [.Name y py] (.ListComp elt [⟨tg, iter, [], 0⟩, ⟨tg1, iter1, [], 0⟩] scope pos) spos) (TSD (Gm X cv) W (sSet i (dLC2 f t f2 t1 e (own.map (·.2)) vs1))) :=
  (ps_setLc2 hc hN hy hyl hsw (pi_list hi) L.ok L.hv L.tg (fun _ _ _ _ _ => pdts_nil) (fun s H C cl fp => pi_tup (L.it s H C cl fp)) L.tg1 (fun _ _ _ _ _ => pdts_nil) L.elt hs hs1).imp fun D σ H h => lc2 L.tok L.tok1 L.wp L.wp1 σ H _ (set_td h)
end
end PD

/-! ## PDTup -/
set_option Elab.async false
set_option linter.all false
set_option maxRecDepth 100000
set_option maxHeartbeats 1000000
namespace PD
open PySem PySem.Spec PyProof.Rows L2
theorem tuple_mul1 (l : Addr) (items : Array Value) (n : Nat) (dd : Option Addr) (sl : Array (Option Value)) (x : Int) (u : Tok) (c0 : (decide (x < -(2 ^ 63)) || decide (x ≥ 2 ^ 63)) = false) (c1 : (items.isEmpty || x == 1) = true) :
    Meets (Builtin.«tuple.__mul__» ⟨[.ref l, .int x u], []⟩) (fun _ R s => s.heap.get? l = some { cls := .type "tuple", dict := dd, data := .seq items n, slots := sl } ∧
      R (.ok (.ret (Value.ref l))) s) :=
  .of_wp fun prog w A R s h => by
    obtain ⟨hp, g, d, tk, os⟩ := s
    obtain ⟨hl, h⟩ := h
    have f1 := AutoSeq1.idx_int
    wp_walk using wpAny_loadPart' hl
    repeat (first
      | (refine wpAny_ite_false (decide_eq_false (by rw [c0]; exact Bool.false_ne_true)) ?_; wp_walk using wpAny_loadPart' hl)
      | (refine wpAny_ite_true (decide_eq_true c1) ?_; wp_walk using wpAny_loadPart' hl))
    exact ⟨_, rfl, h⟩
theorem tuple_mul0 (l : Addr) (items : Array Value) (n : Nat) (dd : Option Addr) (sl : Array (Option Value)) (x : Int) (u : Tok) (c0 : (decide (x < -(2 ^ 63)) || decide (x ≥ 2 ^ 63)) = false) (c1 : (items.isEmpty || x == 1) = false) (c2 : (decide (x ≤ 0) || items.isEmpty) = true) :
    Meets (Builtin.«tuple.__mul__» ⟨[.ref l, .int x u], []⟩) (fun _ R s => s.heap.get? l = some { cls := .type "tuple", dict := dd, data := .seq items n, slots := sl } ∧
      R (.ok (.ret (Value.ref s.heap.objs.size))) { s with heap := s.heap.push { cls := Value.type "tuple", data := Data.seq #[] }, toks := s.toks }) :=
  .of_wp fun prog w A R s h => by
    obtain ⟨hp, g, d, tk, os⟩ := s
    obtain ⟨hl, h⟩ := h
    have f1 := AutoSeq1.idx_int
    wp_walk using wpAny_loadPart' hl
    repeat (first
      | (refine wpAny_ite_false (decide_eq_false (by rw [c0]; exact Bool.false_ne_true)) ?_; wp_walk using wpAny_loadPart' hl)
      | (refine wpAny_ite_false (decide_eq_false (by rw [c1]; exact Bool.false_ne_true)) ?_; wp_walk using wpAny_loadPart' hl)
      | (refine wpAny_ite_true (decide_eq_true c2) ?_; wp_walk using wpAny_loadPart' hl))
    exact ⟨_, rfl, h⟩
theorem op_rep1 {X : Cx} : OpR X (binaryOp .Mult) (fun x y H Q => ∃ l xs, x = .ref l ∧ y = .int 1 ∧ SqT X.K H l xs ∧ xs ≠ [] ∧ Q (.ref l) H) := by
  intro pins s σ H x y v u Q I rx ry h
  obtain ⟨l, xs, rfl, rfl, hT, hne, q⟩ := h
  cases rx
  obtain ⟨t, rfl⟩ := ry
  obtain ⟨its, r, ⟨⟨cls, dd, data, sl⟩, ho, hc, n, hd⟩, hs⟩ := I.tuple hT
  simp only at hc hd
  subst hc hd
  refine wpAny_binaryOp_repeat_ref (T := "tuple") (U := "int") (by decide) ⟨_, ho, rfl⟩ (fun s' => typeIs_int s' 1 t) noFill_tuple_mul F.fills_int_mul F.slot_int_rmul repeat_tuple F.slot_int_index.lookup ?_
  refine call_meets F.slot_int_rmul (typeIs_int s 1 t) F.entry_int_rmul (F.args_int_rmul_2 _ _) (int_rmul_tuple 1 t l its.toArray n dd sl) ⟨ho, rfl, ⟨_, ho, rfl⟩, ?_⟩
  refine call_meets F.slot_tuple_mul ⟨_, ho, rfl⟩ F.entry_tuple_mul (F.args_tuple_mul_2 _ _) (tuple_mul1 l its.toArray n dd sl 1 t (by decide) (by simp)) ⟨ho, ?_⟩
  exact ⟨.ref l, H, I, rfl, q⟩
theorem op_rep0 {X : Cx} : OpR X (binaryOp .Mult) (fun x y H Q => ∃ l xs, x = .ref l ∧ y = .int 0 ∧ SqT X.K H l xs ∧ xs ≠ [] ∧ ∀ p, H p = none → Q (.ref p) (upd H p (.tup []))) := by
  intro pins s σ H x y v u Q I rx ry h
  obtain ⟨l, xs, rfl, rfl, hT, hne, q⟩ := h
  cases rx
  obtain ⟨t, rfl⟩ := ry
  obtain ⟨its, r, ⟨⟨cls, dd, data, sl⟩, ho, hc, n, hd⟩, hs⟩ := I.tuple hT
  simp only at hc hd
  subst hc hd
  have ne : its.toArray.isEmpty = false := by
    cases its with
    | nil => exact absurd (List.eq_nil_of_length_eq_zero r.length) hne
    | cons _ _ => rfl
  refine wpAny_binaryOp_repeat_ref (T := "tuple") (U := "int") (by decide) ⟨_, ho, rfl⟩ (fun s' => typeIs_int s' 0 t) noFill_tuple_mul F.fills_int_mul F.slot_int_rmul repeat_tuple F.slot_int_index.lookup ?_
  refine call_meets F.slot_int_rmul (typeIs_int s 0 t) F.entry_int_rmul (F.args_int_rmul_2 _ _) (int_rmul_tuple 0 t l its.toArray n dd sl) ⟨ho, rfl, ⟨_, ho, rfl⟩, ?_⟩
  refine call_meets F.slot_tuple_mul ⟨_, ho, rfl⟩ F.entry_tuple_mul (F.args_tuple_mul_2 _ _) (tuple_mul0 l its.toArray n dd sl 0 t (by decide) (by rw [ne]; rfl) (by rw [ne]; rfl)) ⟨ho, ?_⟩
  refine ⟨.ref s.heap.objs.size, _, I.laid (t' := s.toks) (o := .tup []) (fun b ob q => Heap.get?_push_of_some _ q) (Nat.le_refl _) ?_, rfl, q _ (I.hok.fresh (Nat.le_refl _))⟩
  exact ⟨Nat.zero_le _, [], .nil, PyProof.Rows.IsTup.new _ _⟩
def oRepTA : Op2 := fun x y S => match x, y with
  | .tup xs, .int k => if xs ≠ [] ∧ 0 ≤ k ∧ k ≤ 1000000 ∧ xs.length * k.toNat ≤ 1000000 then .ok (.tup (repV k.toNat xs)) S else .stuck
  | _, _ => .stuck
def rRepTA (K : PySem.W.Frag) : L2.R2 := rOr (rRepTB K) (rOr (fun x y H Q => ∃ l xs, x = .ref l ∧ y = .int 1 ∧ SqT K H l xs ∧ xs ≠ [] ∧ Q (.ref l) H) (fun x y H Q => ∃ l xs, x = .ref l ∧ y = .int 0 ∧ SqT K H l xs ∧ xs ≠ [] ∧ ∀ p, H p = none → Q (.ref p) (upd H p (.tup []))))
theorem op_repTA {X : Cx} : OpR X (binaryOp .Mult) (rRepTA X.K) := op_repTB.or (op_rep1.or op_rep0)
theorem ok_repTA {K : PySem.W.Frag} : OK2 K (rRepTA K) oRepTA := by
  intro cv ι H S x y u v W Q hh rx ry q
  cases rx with
  | @tup a xs vs ha r =>
    cases ry with
    | int k =>
      have q : Fin ⟨K, cv⟩ W ι H Q (if xs ≠ [] ∧ 0 ≤ k ∧ k ≤ 1000000 ∧ xs.length * k.toNat ≤ 1000000 then .ok (.tup (repV k.toNat xs)) S else .stuck) := q
      split at q
      · rename_i hc
        have hv : vs ≠ [] := fun z => hc.1 (List.eq_nil_of_length_eq_zero (by rw [r.length, z]; rfl))
        by_cases h2 : 2 ≤ k
        · exact .inl ⟨a, k, vs, rfl, rfl, ha, hv, h2, hc.2.2.1, by rw [← r.length]; exact hc.2.2.2, fun p hp => FinG.weak (Ext.fresh hp) q ι _ _ .refl (hh.fresh hp) (.tup (SqT.of upd_same) ((r.ext (Ext.fresh hp)).rep _))⟩
        · by_cases h1 : k = 1
          · subst h1
            have e : repV (1 : Int).toNat xs = xs := by
              show (List.replicate 1 xs).flatten = xs
              simp
            rw [e] at q
            exact .inr (.inl ⟨a, vs, rfl, rfl, ha, hv, q ι H _ .refl hh (.tup ha r)⟩)
          · have h0 : k = 0 := by have := hc.2.1; omega
            subst h0
            exact .inr (.inr ⟨a, vs, rfl, rfl, ha, hv, fun p hp => FinG.weak (Ext.fresh hp) q ι _ _ .refl (hh.fresh hp) (.tup (SqT.of upd_same) .nil)⟩)
      · exact q.elim
    | _ => exact q.elim
  | _ => exact q.elim
/-! ### a module's tuple of ints -/
section
variable {X : Cx} {cv : Nat → Value} {W : WX} {pos : Pos}
theorem rvsI_ {K : PySem.W.Frag} {ι : List Addr} {H : Hp} : ∀ is : List Int, RVs K ι H (is.map Val.int) (is.map V.int)
  | [] => .nil
  | i :: is => .cons (.int i) (rvsI_ is)
theorem pd_gt {is : List Int} {x : Str} (hg : Gl X x) (hm : ∃ a, X.mg x = some (.ref a) ∧ ∀ H, SqT X.K H a (is.map V.int)) (hd : (x == ("__debug__" : Str)) = false := by decide) : PE X (.Name x pos) (TD (Gm X cv) W (dC (.tup (is.map Val.int)))) :=
  hm.elim fun a h => ⟨fun pins s σ H Q I ⟨ι, ρ, S, hs, hh, q⟩ => (pe_glob (v := .ref a) hg h.1 rfl hd).run pins s σ H Q I (q ι H _ .refl hh (.tup (h.2 H) (rvsI_ is)))⟩
end
end PD
namespace PD
open PySem PySem.Spec L2
theorem wp_fst {i j : Nat} (h : i ≠ j) : Wp (gName i) [i, j] := fun v σ H Q q => by
  refine ⟨?_, q⟩
  show ((((σ.set j none).set i none).set i (some v)).set j none).set i none = (σ.set j none).set i none
  rw [List.set_set, List.set_comm (some v) none h, List.set_set, List.set_set]
end PD
namespace PD
open PySem PySem.Spec L2
def sPar3 (i j k : Nat) (g : DA) : SD := fun ρ S => (g ρ S).toS ρ fun xs S1 => match xs with
  | [x, y, z] => .next (((ρ.set i (some x)).set j (some y)).set k (some z)) S1
  | _ => .stuck
theorem ps_par3' {X : Cx} {cv : Nat → Value} {W : WX} {a b c : Expr} {i j l : Nat} {x y z : Str} {g : DA} {px py pz pt pos : Pos} {kt k2 pt2} (hc : X.calm = true) (hN : X.N.Nodup) (hi : X.N[i]? = some x) (hj : X.N[j]? = some y) (hl : X.N[l]? = some z) (hij : i ≠ j) (hil : i ≠ l) (hjl : j ≠ l)
    (hx : X.env.scope.names.lookup x = some .local) (hy : X.env.scope.names.lookup y = some .local) (hz : X.env.scope.names.lookup z = some .local) (ha : PA X [a, b, c] (TDA (Gm X cv) W g))
    (hw : swappedStores [.Tuple [.Name x px, .Name y py, .Name z pz] kt pt] (.Tuple [a, b, c] k2 pt2) X.env = pure (some [x, y, z]))
    (hs : swapsWithSole [.Tuple [.Name x px, .Name y py, .Name z pz] kt pt] (.Tuple [a, b, c] k2 pt2) pos.line X.env = pure false := by rfl) :
    PS X (.Assign [.Tuple [.Name x px, .Name y py, .Name z pz] kt pt] (.Tuple [a, b, c] k2 pt2) pos) (TSD (Gm X cv) W (sPar3 i j l g)) :=
  (ps_par3 hc hN hi hj hl hij hil hjl hx hy hz ha hw hs).imp fun D σ H ⟨ι, ρ, S, hs, hh, q⟩ => ⟨ι, ρ, S, hs, hh, FinS.bind q hs fun xs S1 ι1 H1 us e1 h1 r1 q1 => by
    cases r1 with
    | nil => exact q1.elim
    | cons ra r1 =>
      cases r1 with
      | nil => exact q1.elim
      | cons rb r1 =>
        cases r1 with
        | nil => exact q1.elim
        | cons rc r1 =>
          cases r1 with
          | nil => exact ⟨_, _, _, rfl, FinS.next q1 h1 ((((hs.ext e1).set ra i).set rb j).set rc l)⟩
          | cons _ _ => exact q1.elim⟩
end PD

/-! ## PDMinT -/
set_option Elab.async false
set_option linter.all false
set_option maxRecDepth 100000
set_option maxHeartbeats 2000000
/-! min, max of a tuple of integers -/
namespace PySem
section
variable {prog : Program} {w : World} {A : Around} {E : Value → Shared → Prop} {s : Shared} {l : Addr} {xs : Array (Int × Tok)}
theorem iter_intTup {Q : Value → Shared → Prop} (hl : s.heap.IsTuple l (intItems xs))
    (h : ∀ s₂ : Shared, s₂ = { s with heap := s.heap.push { cls := .type "tuple_iterator", data := .fields #[.ref l, .int 0 0] } } →
      (s₂.heap.IsTupleIter s.heap.objs.size l 0 ∧ s₂.heap.IsTuple l (intItems xs)) → (∀ b ∈ [s.heap.objs.size, l], b < s₂.heap.objs.size) → l ≠ s.heap.objs.size → Q (.ref s.heap.objs.size) s₂) :
    wpAny (model prog w) A (pyIter (.ref l)) Q E s := by
  have hlt : l < s.heap.objs.size := by obtain ⟨_, e, _⟩ := hl; exact Heap.lt_size e
  refine wpAny_pyIter_tuple hl (h _ rfl ⟨⟨_, Heap.get?_push_size _ rfl, rfl, rfl⟩, hl.push _⟩ (fun b hb => ?_) (Nat.ne_of_lt hlt))
  show b < (s.heap.push _).objs.size
  rw [Heap.size_push]
  rcases List.mem_cons.mp hb with rfl | hb
  · exact Nat.lt_succ_self _
  · rcases List.mem_cons.mp hb with rfl | hb
    · exact Nat.lt_succ_of_lt hlt
    · cases hb
theorem old_keptT {h' : Heap} (hk : ∀ b o, b ∉ [s.heap.objs.size] → (s.heap.push { cls := .type "tuple_iterator", data := .fields #[.ref l, .int 0 0] }).get? b = some o → h'.get? b = some o) :
    ∀ b o, s.heap.get? b = some o → h'.get? b = some o := fun b o e => by
  refine hk b o (fun hm => ?_) (Heap.get?_push_of_some _ e)
  rcases List.mem_cons.mp hm with e1 | hm
  · exact absurd (e1 ▸ Heap.lt_size e) (Nat.lt_irrefl _)
  · cases hm
theorem max_intTup {Q : Value → Shared → Prop} (hh : A.handled = none) (hl : s.heap.IsTuple l (intItems xs)) (hne : 0 < xs.size)
    (h : ∀ v h' tk, (intItems xs)[argBest (fun i j => decide (numAt xs i > numAt xs j)) (xs.size - 1)]? = some v → (∀ b o, s.heap.get? b = some o → h'.get? b = some o) → Q v { s with heap := h', toks := tk }) :
    wpAny (model prog w) A (call (.builtin "max") [.ref l]) Q E s := by
  refine call_max_walk (iter_intTup hl fun s₂ e st hfp hlI => ?_)
  subst e
  refine ⟨_, _, _, _, _, _, _, rfl, Walks.tuple (A := A.in1) hh _ l hlI (intItems xs), st, hfp, by simpa [intItems] using hne, CmpOf.ints_gt (numAt xs) (fun _ _ => intItems_at), fun v h' tk hP hk => ?_⟩
  exact h v h' tk (by simpa [intItems] using hP) (old_keptT hk)
theorem min_intTup {Q : Value → Shared → Prop} (hh : A.handled = none) (hl : s.heap.IsTuple l (intItems xs)) (hne : 0 < xs.size)
    (h : ∀ v h' tk, (intItems xs)[argBest (fun i j => decide (numAt xs i < numAt xs j)) (xs.size - 1)]? = some v → (∀ b o, s.heap.get? b = some o → h'.get? b = some o) → Q v { s with heap := h', toks := tk }) :
    wpAny (model prog w) A (call (.builtin "min") [.ref l]) Q E s := by
  refine call_min_walk (iter_intTup hl fun s₂ e st hfp hlI => ?_)
  subst e
  refine ⟨_, _, _, _, _, _, _, rfl, Walks.tuple (A := A.in1) hh _ l hlI (intItems xs), st, hfp, by simpa [intItems] using hne, CmpOf.ints_lt (numAt xs) (fun _ _ => intItems_at), fun v h' tk hP hk => ?_⟩
  exact h v h' tk (by simpa [intItems] using hP) (old_keptT hk)
end
end PySem
namespace PD
open PySem PySem.Spec L2 PyProof.Rows
section
variable {prog : Program} {w : World} {A : Around} {E : Value → Shared → Prop} {s : Shared} {l : Addr} {its : List Value} {ns : List Int} {Q : Value → Shared → Prop}
theorem maxT_raw (hh : A.handled = none) (hl : s.heap.IsTuple l its.toArray) (hi : IntsAre its ns) (hne : 0 < ns.length)
    (h : ∀ h' tk M t', (∀ b o, s.heap.get? b = some o → h'.get? b = some o) → M ∈ ns → (∀ a, a ∈ ns → a ≤ M) → Q (.int M t') { s with heap := h', toks := tk }) : wpAny (model prog w) A (call (.builtin "max") [.ref l]) Q E s := by
  obtain ⟨xs, e⟩ := hi.allInts.items
  have hn : numsOf (intItems xs).toList = ns := by rw [← e]; exact hi.numsOf
  rw [nums_intItems] at hn
  subst hn
  rw [e] at hl
  have hsz : 0 < xs.size := by simpa using hne
  refine PySem.max_intTup hh hl hsz fun v h' tk hv hk => ?_
  obtain ⟨t, rfl⟩ := intItems_at hv
  obtain ⟨h1, h2⟩ := argBest_gt (numAt xs) (xs.size - 1)
  refine h h' tk _ t hk ?_ fun a ha => ?_
  · rw [numAt_eq]; exact PySem.getD_mem (by rw [List.length_map, Array.length_toList]; omega)
  · obtain ⟨j, hj, rfl⟩ := mem_getD ha
    rw [List.length_map, Array.length_toList] at hj
    rw [← numAt_eq]; exact h2 j (by omega)
theorem minT_raw (hh : A.handled = none) (hl : s.heap.IsTuple l its.toArray) (hi : IntsAre its ns) (hne : 0 < ns.length)
    (h : ∀ h' tk M t', (∀ b o, s.heap.get? b = some o → h'.get? b = some o) → M ∈ ns → (∀ a, a ∈ ns → M ≤ a) → Q (.int M t') { s with heap := h', toks := tk }) : wpAny (model prog w) A (call (.builtin "min") [.ref l]) Q E s := by
  obtain ⟨xs, e⟩ := hi.allInts.items
  have hn : numsOf (intItems xs).toList = ns := by rw [← e]; exact hi.numsOf
  rw [nums_intItems] at hn
  subst hn
  rw [e] at hl
  have hsz : 0 < xs.size := by simpa using hne
  refine PySem.min_intTup hh hl hsz fun v h' tk hv hk => ?_
  obtain ⟨t, rfl⟩ := intItems_at hv
  obtain ⟨h1, h2⟩ := argBest_lt (numAt xs) (xs.size - 1)
  refine h h' tk _ t hk ?_ fun a ha => ?_
  · rw [numAt_eq]; exact PySem.getD_mem (by rw [List.length_map, Array.length_toList]; omega)
  · obtain ⟨j, hj, rfl⟩ := mem_getD ha
    rw [List.length_map, Array.length_toList] at hj
    rw [← numAt_eq]; exact h2 j (by omega)
end
def rMaxT (K : PySem.W.Frag) : List V → Hp → VK → Prop := fun vs H Q => ∃ (a : Addr) (ns : List Int), vs = [V.ref a] ∧ SqT K H a (ns.map V.int) ∧ 0 < ns.length ∧ ∀ m, m ∈ ns → (∀ y, y ∈ ns → y ≤ m) → Q (.int m) H
def rMinT (K : PySem.W.Frag) : List V → Hp → VK → Prop := fun vs H Q => ∃ (a : Addr) (ns : List Int), vs = [V.ref a] ∧ SqT K H a (ns.map V.int) ∧ 0 < ns.length ∧ ∀ m, m ∈ ns → (∀ y, y ∈ ns → m ≤ y) → Q (.int m) H
theorem cr_maxT {X : Cx} (hc : X.calm = true) : CallR X (.builtin "max") (rMaxT X.K) := by
  intro pins s σ H vs us Q I r h
  obtain ⟨a, ns, rfl, hs, hne, q⟩ := h
  obtain ⟨its, rv, hl, _⟩ := I.tuple hs
  rw [Vals.ref1 r]
  exact maxT_raw (I.ok.hd hc) hl rv.ints hne fun h' tk m t' hk h1 h2 => ⟨.int _, H, I.kept hk, ⟨_, rfl⟩, q m h1 h2⟩
theorem cr_minT {X : Cx} (hc : X.calm = true) : CallR X (.builtin "min") (rMinT X.K) := by
  intro pins s σ H vs us Q I r h
  obtain ⟨a, ns, rfl, hs, hne, q⟩ := h
  obtain ⟨its, rv, hl, _⟩ := I.tuple hs
  rw [Vals.ref1 r]
  exact minT_raw (I.ok.hd hc) hl rv.ints hne fun h' tk m t' hk h1 h2 => ⟨.int _, H, I.kept hk, ⟨_, rfl⟩, q m h1 h2⟩
def bMinT : Fn := fun xs S => match xs with
  | [.tup ys] => match allSome (ys.map asI) with
    | some ns => if ns ≠ [] then okI (minI ns) S else .stuck
    | none => .stuck
  | _ => .stuck
def bMaxT : Fn := fun xs S => match xs with
  | [.tup ys] => match allSome (ys.map asI) with
    | some ns => if ns ≠ [] then okI (maxI ns) S else .stuck
    | none => .stuck
  | _ => .stuck
theorem ok_minT {K : PySem.W.Frag} : OKA K (rMinT K) bMinT := by
  intro cv ι H S xs us W Q hh rx q
  unfold bMinT at q
  split at q
  · split at q
    · rename_i bs eb
      split at q
      · rename_i hne
        cases rx with
        | cons r1 rr =>
          cases rr
          cases r1 with
          | tup hq rr =>
            have e := rvs_ints rr eb
            subst e
            refine ⟨_, bs, rfl, hq, List.length_pos_iff.mpr hne, fun m hm hle => ?_⟩
            have : m = minI bs := Int.le_antisymm (hle _ (minI_mem hne)) (minI_le hm)
            rw [this]
            exact q ι H _ .refl hh (.int _)
      · exact q.elim
    · exact q.elim
  · exact q.elim
theorem ok_maxT {K : PySem.W.Frag} : OKA K (rMaxT K) bMaxT := by
  intro cv ι H S xs us W Q hh rx q
  unfold bMaxT at q
  split at q
  · split at q
    · rename_i bs eb
      split at q
      · rename_i hne
        cases rx with
        | cons r1 rr =>
          cases rr
          cases r1 with
          | tup hq rr =>
            have e := rvs_ints rr eb
            subst e
            refine ⟨_, bs, rfl, hq, List.length_pos_iff.mpr hne, fun m hm hle => ?_⟩
            have : m = maxI bs := Int.le_antisymm (le_maxI hm) (hle _ (maxI_mem hne))
            rw [this]
            exact q ι H _ .refl hh (.int _)
      · exact q.elim
    · exact q.elim
  · exact q.elim
end PD

/-! ## PDMinD -/
set_option Elab.async false
set_option linter.all false
set_option maxRecDepth 100000
set_option maxHeartbeats 2000000
/-! min of a list of data that are alike: the item itself -/
namespace PySem
open W
section
variable {prog : Program} {w : World} {A : Around} {E : Value → Shared → Prop} {s : Shared}
theorem min_list_dataI {l : Addr} {vs : Array Value} {x : PyData} {xs : List PyData} {as : List Addr} {Q : Value → Shared → Prop} (hh : A.handled = none) (hl : s.heap.IsList l vs) (hr : ReadsAll s.heap vs.toList (x :: xs) as) (ha : AlikeAll (x :: xs)) (hu : A.units + 1 + PyData.depthAll (x :: xs) < cLine)
    (h : ∀ (i : Nat) v h' tk, vs[i]? = some v → (x :: xs).getD i .none = minD x xs → (∀ b o, s.heap.get? b = some o → h'.get? b = some o) → Q v { s with heap := h', toks := tk }) :
    wpAny (model prog w) A (call (.builtin "min") [.ref l]) Q E s := by
  have hn : vs.size = xs.length + 1 := readsAll_len hr
  refine call_min_walkH (iter_listW (A := A.in1) hh hl fun s₂ e W st hfp hw hk => ?_)
  refine ⟨_, _, _, _, _, _, _, s.heap, _, rfl, W, st, hfp, by omega, hw, hk, cmpIn_lt (A := A.in1) hr ha (by show A.units + 1 + _ < _; exact hu), fun v s' hP m => ?_⟩
  obtain ⟨h', tk, rfl, hk'⟩ := moved_old e rfl m
  have e1 : vs.size - 1 = xs.length := by omega
  have e2 := (argBest_fold dataLt PyData.none x xs xs.length (Nat.le_refl _)).2
  rw [List.take_length] at e2
  exact h _ v h' tk hP (by rw [e1]; exact e2) hk'
end
end PySem
namespace PD
open PySem PySem.Spec L2 PyProof.Rows PySem.W
mutual
def pureV : Val → Bool
  | .non => true
  | .bl _ => true
  | .int _ => true
  | .str _ => true
  | .tup xs => pureVs xs
  | _ => false
def pureVs : List Val → Bool
  | [] => true
  | x :: xs => pureV x && pureVs xs
end
mutual
def unD : PyData → Val
  | .bool b => .bl b
  | .int i => .int i
  | .str s => .str s
  | .tuple ds => .tup (unDs ds)
  | _ => .non
def unDs : List PyData → List Val
  | [] => []
  | d :: ds => unD d :: unDs ds
end
theorem unDs_map : ∀ ds : List PyData, unDs ds = ds.map unD
  | [] => rfl
  | d :: ds => by rw [List.map_cons, ← unDs_map ds]; rfl
theorem unD_toDs {f : Nat} {S : Store} (ih : ∀ (y : Val) (d : PyData), pureV y = true → toD f S y = some d → unD d = y) : ∀ (ys : List Val) (ds : List PyData), pureVs ys = true → allSome (ys.map (toD f S)) = some ds → unDs ds = ys
  | [], ds, _, h => by cases h; rfl
  | y :: ys, ds, hp, h => by
    have hp : (pureV y && pureVs ys) = true := hp
    rw [Bool.and_eq_true] at hp
    rw [List.map_cons] at h
    unfold allSome at h
    split at h
    · rename_i a as' e1 e2
      cases h
      show unD a :: unDs as' = y :: ys
      rw [ih y a hp.1 e1, unD_toDs ih ys as' hp.2 e2]
    · cases h
theorem unD_toD : ∀ (f : Nat) (S : Store) (y : Val) (d : PyData), pureV y = true → toD f S y = some d → unD d = y
  | 0, S, y, d, _, h => nomatch h
  | f + 1, S, y, d, hp, h => by
    cases y with
    | non => cases h; rfl
    | bl b => cases h; rfl
    | int i => cases h; rfl
    | str s => cases h; rfl
    | tup xs =>
      have h : (allSome (xs.map (toD f S))).map PyData.tuple = some d := h
      cases q : allSome (xs.map (toD f S)) with
      | none => rw [q] at h; cases h
      | some ds =>
        rw [q] at h
        cases h
        show Val.tup (unDs ds) = .tup xs
        rw [unD_toDs (fun y d => unD_toD f S y d) xs ds hp q]
    | _ => cases hp
def rMinD (K : PySem.W.Frag) : List V → Hp → VK → Prop := fun vs H Q => ∃ (a : Addr) (xs : List V) (d : PyData) (ds : List PyData), vs = [V.ref a] ∧ SqL K H a xs ∧ DpAll K H xs (d :: ds) ∧ AlikeAll (d :: ds) ∧ PyData.depthAll (d :: ds) ≤ 60 ∧ ∀ (i : Nat) (x : V), xs[i]? = some x → (d :: ds).getD i .none = minD d ds → Q x H
theorem vals_get {xs : List V} {us : List Value} (h : Vals xs us) : ∀ {i : Nat} {u : Value}, us[i]? = some u → ∃ x, xs[i]? = some x ∧ RelV x u := by
  induction h with
  | nil => intro i u e; simp at e
  | cons r t ih =>
    intro i u e
    cases i with
    | zero => cases e; exact ⟨_, rfl, r⟩
    | succ i => exact ih (by simpa using e)
theorem cr_minD {X : Cx} (hc : X.calm = true) (hu : X.A.units + 65 < cLine) : CallR X (.builtin "min") (rMinD X.K) := by
  intro pins s σ H vs us Q I r h
  obtain ⟨a, xs, d, ds, rfl, hs, hd, ha, hdep, q⟩ := h
  obtain ⟨its, rv, hl, _⟩ := I.list hs
  rw [Vals.ref1 r]
  obtain ⟨as, rs⟩ := Dp.readsAll I (d :: ds) xs its hd rv
  refine min_list_dataI (I.ok.hd hc) hl.isList (by simpa using rs) ha (by omega) fun i v h' tk hv hm hk => ?_
  obtain ⟨x, hx, rx⟩ := vals_get rv (i := i) (u := v) (by simpa using hv)
  exact ⟨x, H, I.kept hk, rx, q i x hx hm⟩
def alikeB (ds : List PyData) : Bool := ds.all (fun x => ds.all fun y => alike x y) && ds.all (fun x => match x with | .none => false | _ => true)
theorem alikeB_all {ds : List PyData} (h : alikeB ds = true) : AlikeAll ds := by
  unfold alikeB at h
  rw [Bool.and_eq_true, List.all_eq_true, List.all_eq_true] at h
  refine ⟨fun x hx y hy => List.all_eq_true.mp (h.1 x hx) y hy, fun x hx e => ?_⟩
  have := h.2 x hx
  rw [e] at this
  cases this
/-- min of a list of tuples, integers, texts: the least, by value -/
def bMinD : Fn := fun xs S => match xs with
  | [.ref n] => match S[n]? with
    | some c => if pureVs c.items = true then match allSome (c.items.map (toD 66 S)) with
      | some (d :: ds) => if alikeB (d :: ds) = true ∧ PyData.depthAll (d :: ds) ≤ 60 then .ok (unD (minD d ds)) S else .stuck
      | _ => .stuck
      else .stuck
    | none => .stuck
  | _ => .stuck
theorem ok_minD {K : PySem.W.Frag} : OKA K (rMinD K) bMinD := by
  intro cv ι H S xs us W Q hh rx q
  unfold bMinD at q
  split at q
  · split at q
    · rename_i n c ec
      split at q
      · rename_i hp
        split at q
        · rename_i d ds eb
          split at q
          · rename_i hcond
            cases rx with
            | cons r1 rr =>
              cases rr
              cases r1 with
              | ref hn hlz =>
                obtain ⟨vs, rr, hq⟩ := (hh.ok _ _ _ hn ec).sq hlz
                have hdp := toDs_dp (fun x v d => toD_dp hh 66 x v d) rr eb
                refine ⟨_, vs, d, ds, rfl, hq, hdp, alikeB_all hcond.1, hcond.2, fun i x hx hm => ?_⟩
                have hlen : c.items.length = (d :: ds).length := by
                  have := congrArg List.length (unD_toDs (fun y d => unD_toD 66 S y d) c.items (d :: ds) hp eb)
                  rw [unDs_map, List.length_map] at this
                  exact this.symm
                have hi : i < vs.length := (List.getElem?_eq_some_iff.mp hx).1
                have hi2 : i < c.items.length := by rw [RVs.length rr]; exact hi
                have hy : c.items[i]? = some c.items[i] := List.getElem?_eq_getElem hi2
                obtain ⟨v', hv', rv'⟩ := RVs.get rr hy
                rw [hx] at hv'
                cases hv'
                have hun : unD (minD d ds) = c.items[i] := by
                  have e := unD_toDs (fun y d => unD_toD 66 S y d) c.items (d :: ds) hp eb
                  rw [unDs_map] at e
                  have hi3 : i < (d :: ds).length := by omega
                  have e2 : ((d :: ds).map unD)[i]? = some c.items[i] := by rw [e]; exact hy
                  rw [List.getElem?_map, List.getElem?_eq_getElem hi3] at e2
                  rw [List.getD_eq_getElem?_getD, List.getElem?_eq_getElem hi3] at hm
                  have hm : (d :: ds)[i] = minD d ds := hm
                  rw [hm] at e2
                  exact Option.some.inj e2
                rw [hun] at q
                exact q ι H _ .refl hh rv'
          · exact q.elim
        · exact q.elim
      · exact q.elim
    · exact q.elim
  · exact q.elim
end PD

/-! ## PDEnumT -/
set_option Elab.async false
set_option linter.all false
set_option maxRecDepth 100000
set_option maxHeartbeats 2000000
/-! enumerate over a tuple -/
namespace PySem
open Sem (wp)
open AutoSeq1 (wpAny_loadPart')
theorem meets_enumerate_newT (l : Addr) (items : Array Value) (n : Nat) (dct : Option Addr) (sl : Array (Option Value)) :
    Meets (Builtin.«enumerate.__new__» ⟨[.type "enumerate", .ref l], []⟩) (fun _ R s => s.heap.get? l = some { cls := .type "tuple", dict := dct, data := .seq items n, slots := sl } ∧
      R (.ok (.ret (.ref (s.heap.push { cls := .type "tuple_iterator", data := .fields #[.ref l, .int 0 0] }).objs.size)))
        { s with heap := (s.heap.push { cls := .type "tuple_iterator", data := .fields #[.ref l, .int 0 0] }).push { cls := .type "enumerate", data := .fields #[.none, .bool false, .ref s.heap.objs.size, rawInt 0, .none, .none] } }) :=
  .of_wp fun prog w A R s h => by
    obtain ⟨hp, g, d, tk, os⟩ := s; obtain ⟨hl, h⟩ := h
    have hsub := sub_enumerate
    have hL : Heap.IsTuple (Shared.heap ⟨hp, g, d, tk, os⟩) l items := ⟨_, hl, rfl, n, rfl⟩
    wp_walk using wpAny_loadPart' hl
    refine wpAny_stack_any fun st => wpAny_pure ?_
    split
    · rename_i c _ _ _ _ _
      cases (c == Value.type "enumerate")
      · wp_walk using wpAny_loadPart' hl, wpAny_pyIter_tuple hL
        exact ⟨_, rfl, h⟩
      · wp_walk using wpAny_loadPart' hl, wpAny_pyIter_tuple hL
        exact ⟨_, rfl, h⟩
    · wp_walk using wpAny_loadPart' hl, wpAny_pyIter_tuple hL
      exact ⟨_, rfl, h⟩
section
variable {prog : Program} {w : World} {A : Around} {E : Value → Shared → Prop} {s : Shared}
theorem call_enumerate_tuple {l : Addr} {items : Array Value} {Q : Value → Shared → Prop} (hL : s.heap.IsTuple l items)
    (h : ∀ h', IsEnum h' (s.heap.objs.size + 1) s.heap.objs.size 0 .none → h'.IsTupleIter s.heap.objs.size l 0 → h'.objs.size = s.heap.objs.size + 2 →
      (∀ b o, s.heap.get? b = some o → h'.get? b = some o) → Q (.ref (s.heap.objs.size + 1)) { s with heap := h' }) :
    wpAny (model prog w) A (call (.type "enumerate") [.ref l]) Q E s := by
  obtain ⟨⟨c, dct, dt, sl⟩, hl, hc, n, hd⟩ := hL
  replace hc : c = .type "tuple" := hc
  replace hd : dt = .seq items n := hd
  subst hc hd
  refine callType_new F.called_enumerate (by decide) (F.typeCall_enumerate_1 _) (F.newCall_enumerate_1 _) (fun obj => F.args_object_init_2 obj _) F.entry_enumerate_new
    (meets_enumerate_newT l items n dct sl) ⟨hl, ?_⟩
  have hz : (s.heap.push { cls := .type "tuple_iterator", data := .fields #[.ref l, .int 0 0] }).objs.size = s.heap.objs.size + 1 := Heap.size_push ..
  show _ ∧ _
  rw [hz]
  have he : IsEnum ((s.heap.push { cls := .type "tuple_iterator", data := .fields #[.ref l, .int 0 0] }).push
      { cls := .type "enumerate", data := .fields #[.none, .bool false, .ref s.heap.objs.size, rawInt 0, .none, .none] }) (s.heap.objs.size + 1) s.heap.objs.size 0 .none := by
    have := Heap.get?_push_size (s.heap.push { cls := .type "tuple_iterator", data := .fields #[.ref l, .int 0 0] })
      (o := { cls := .type "enumerate", data := .fields #[.none, .bool false, .ref s.heap.objs.size, rawInt 0, .none, .none] }) rfl
    rw [hz] at this; exact this
  refine ⟨⟨_, he, rfl⟩, h _ he ⟨_, Heap.get?_push_of_some _ (Heap.get?_push_size _ rfl), rfl, rfl⟩ (by rw [Heap.size_push, hz]) fun b o x => Heap.get?_push_of_some _ (Heap.get?_push_of_some _ x)⟩
end
end PySem
namespace PD
open PySem PySem.Spec PyProof.Rows L2
def IteT (K : PySem.W.Frag) (a : Addr) : It :=
  ⟨fun i H => ∃ (xs : List V) (x : V), SqT K H a xs ∧ xs[i]? = some x, fun i H v H' => ∃ T x, v = .ref T ∧ H T = none ∧ H' = upd H T (.tup [.int (i : Nat), x]) ∧ ∀ xs, SqT K H a xs → xs[i]? = some x, fun i H => ∃ xs : List V, SqT K H a xs ∧ xs.length = i⟩
theorem turn_enumT {P : Program} {w : World} {K : PySem.W.Frag} {elts : List Expr} {kk : Nat} {tpos : Pos} (a e it : Addr) :
    Turn P w K (.Tuple elts kk tpos) (IteT K a) [e, it] e (fun i h => (∃ old, IsEnum h e it ((i : Nat) : Int) old) ∧ h.IsTupleIter it a i ∧ e ≠ it ∧ a ≠ it ∧ e ≠ a) where
  mem := by simp
  obj := fun i h st b hb => by
    obtain ⟨⟨old, he⟩, ⟨o, ho, hc, hd⟩, _⟩ := st
    have e' : b = e ∨ b = it := by simpa using hb
    rcases e' with z | z
    · rw [z]; exact ⟨_, he, fun v q => nomatch q⟩
    · rw [z]; exact ⟨o, ho, fun v q => by rw [hd] at q; cases q⟩
  keep := fun i h h' st k => let ⟨⟨old, he⟩, hi, hne⟩ := st; ⟨⟨old, k e (by simp) _ he⟩, hi.at fun o q => k it (by simp) o q, hne⟩
  item := by
    intro X hP hw hK hc i pins s σ H E I hf st hg
    subst hP hw hK
    obtain ⟨⟨old, he⟩, hit, hne, hai, hea⟩ := st
    obtain ⟨xs, x, hq, hx⟩ := hg
    obtain ⟨its, rv, p, hz⟩ := I.tuple hq
    obtain ⟨u, hu, ru⟩ := rv.get hx
    have hel : e < s.heap.objs.size := Heap.lt_size he
    have hil : it < s.heap.objs.size := by obtain ⟨_, q, _⟩ := hit; exact Heap.lt_size q
    have hui : its.toArray[i]? = some u := by simpa using hu
    refine wpAny_pyNext_enum_itemD (Draws.tuple (A := X.A.in1) (I.ok.hd hc) it a hai its.toArray) he ⟨hit, p⟩ (Array.getElem?_eq_some_iff.mp hui).1 hne (by simp [hne, hea]) fun x' h' tk hx' ho hst' hT hsz hk => ?_
    rw [hui] at hx'
    obtain rfl := Option.some.inj hx'
    refine ⟨_, rfl, wpAny_letOwnedTupleGo_enum (s := { s with heap := h', toks := tk + 1 }) ho fun h'' he' sb => ?_⟩
    have hT2 : h''.get? s.heap.objs.size = some { cls := .type "tuple", data := .seq #[.int i tk, u] } := (sb.2 _ (Nat.ne_of_gt hel)).trans hT
    have new : ObjOk X.prog X.w (upd H s.heap.objs.size (.tup [.int (i : Nat), x])) h'' s.heap.objs.size (.tup [.int (i : Nat), x]) :=
      ⟨by show 2 ≤ sizeLine; decide, [.int i tk, u], .cons ⟨_, rfl⟩ (.cons ru .nil), ⟨_, hT2, rfl, _, rfl⟩⟩
    have I1 : Inv X pins σ (upd H s.heap.objs.size (.tup [.int (i : Nat), x])) { s with heap := h'', toks := tk + 1 } :=
      I.turnedNew (ch := [e, it]) (fun b ob hb q => (sb.2 b (fun z => hb (by simp [z]))).trans (hk b ob (fun z => hb (by simp [z])) (fun z => hb (by simp [z])) q)) hf (Nat.le_refl _) new
    refine ⟨.ref s.heap.objs.size, _, I1, rfl, ⟨_, x, rfl, I.hok.fresh (Nat.le_refl _), rfl, fun ys hy => by rw [I.tuple_inj hy hq]; exact hx⟩, ⟨⟨u, ?_⟩, hst'.1.at fun o q => (sb.2 it (Ne.symm hne)).trans q, hne, hai, hea⟩, fun b hb => ?_⟩
    · have e1 : ((i + 1 : Nat) : Int) = (i : Int) + 1 := by omega
      rw [e1]; exact he'
    · have hb' : b < s.heap.objs.size := by
        have e' : b = e ∨ b = it := by simpa using hb
        rcases e' with z | z
        · rw [z]; exact hel
        · rw [z]; exact hil
      rw [upd_ne (Nat.ne_of_lt hb')]
      exact (hf b hb).1
  done := by
    intro X hP hw hK hc i pins s σ H E I hf st hg
    subst hP hw hK
    obtain ⟨⟨old, he⟩, hit, hne, hai, hea⟩ := st
    obtain ⟨xs, hq, hx⟩ := hg
    obtain ⟨its, rv, p, hz⟩ := I.tuple hq
    obtain ⟨f0, f1, f2, f3, f4, f5⟩ := hf it (by simp)
    have hl := rv.length
    have hn : i = its.toArray.size := by simp; omega
    subst hn
    exact wpAny_pyNext_enum_endD (Draws.tuple (A := X.A.in1) (I.ok.hd hc) it a hai its.toArray) he ⟨hit, p⟩ fun h' eb => ⟨rfl, I.turned (t' := s.toks) (fun b o hb q => eb b o hb q) f0 f1 f3 f4 f5⟩
  self := fun A i s Q E st h => let ⟨⟨_, he⟩, _⟩ := st; wpAny_pyIter_enum he h
def iEnumT (K : PySem.W.Frag) (ta : TA) : TI := fun σ H R => ta σ H fun vs H1 => ∃ a xs, vs = [.ref a] ∧ SqT K H1 a xs ∧ R (IteT K a) H1
theorem pi_enumT {X : Cx} {e : Expr} {ta : TA} {p pos tpos : Pos} {elts : List Expr} {kk : Nat} (hg : Gl X "enumerate") (hm : X.mg "enumerate" = none) (ha : PA X [e] ta) (hs : starEach [e] X.env = [(false, eval e X.env)] := by rfl) :
    PI X (.Tuple elts kk tpos) (.Call (.Name "enumerate" p) [e] [] pos) (iEnumT X.K ta) := by
  refine ⟨fun pins s σ H R I h => ?_⟩
  refine Call_ (ld_blt I hg hm boot_enumerate (PyProof.Rows.callWith_type1 (thn (ha.run pos pins s σ H _ I h) fun us s1 ⟨vs, H1, I1, r1, q1⟩ => ?_) hs rfl))
  obtain ⟨a, xs, ex, hq, q⟩ := q1
  subst ex
  cases r1 with
  | cons r rr =>
    cases rr
    cases r
    obtain ⟨its, rv, p', hz⟩ := I1.tuple hq
    have hal : a < s1.heap.objs.size := by obtain ⟨_, q, _⟩ := p'; exact Heap.lt_size q
    refine call_enumerate_tuple p' fun h' he hit hsz hk => wpAny_pyIter_enum he ?_
    have I2 : Inv X pins σ H1 { s1 with heap := h' } := I1.kept (t' := s1.toks) hk
    refine ⟨s1.heap.objs.size + 1, [s1.heap.objs.size + 1, s1.heap.objs.size], _, _, H1, rfl, I2, turn_enumT a (s1.heap.objs.size + 1) s1.heap.objs.size, ⟨⟨.none, he⟩, hit, Nat.succ_ne_self _, Nat.ne_of_lt hal, Nat.ne_of_gt (Nat.lt_succ_of_lt hal)⟩, fun b hb => ?_, q⟩
    have e' : b = s1.heap.objs.size + 1 ∨ b = s1.heap.objs.size := by simpa using hb
    have hle : s1.heap.objs.size ≤ b := by
      rcases e' with z | z
      · rw [z]; exact Nat.le_add_right _ _
      · rw [z]; exact Nat.le_refl _
    exact I1.fpOk hle (I1.hok.fresh hle)
section
variable {X : Cx} {cv : Nat → Value} {W : WX} {pos : Pos}
/-- a loop whose turns lay something new -/
theorem for_valsE {D : Ends} {g : TG} {t : TgD} {bd : SD} {J : It} (ht : TgOk X.K g t) {ι : List Addr} {H : Hp} {ρ : Env} {σ : L2.St} {S : Store} (xs : List Val) (Ok : List Addr → Hp → Prop) (hok : ∀ ι H ι' H', Ok ι H → Ext ι H ι' H' → Ok ι' H')
    (hstop : ∀ ι H, Ok ι H → J.stop xs.length H) (hgo : ∀ ι H i, Ok ι H → i < xs.length → J.go i H) (hy : ∀ ι H S i y H', RH X.K ι H S → Ok ι H → i < xs.length → J.yld i H y H' → Ext ι H ι H' ∧ RH X.K ι H' S ∧ ∃ x, xs[i]? = some x ∧ RV X.K ι H' x y)
    (hs : RS X.K ι H ρ σ) (hh : RH X.K ι H S) (h0 : Ok ι H) (q : FinS (Gm X cv) W ι H D (loopV t bd xs ρ S)) :
    ∃ W' : Nat → Nat → L2.St → Hp → Prop, (∃ m, W' 0 m σ H) ∧ ∀ i m σ H, W' i m σ H →
      (J.stop i H ∧ D.nx σ H) ∨ (J.go i H ∧ ∃ N : L2.St → Hp → Prop, (∀ σ' H', N σ' H' → ∃ m', m' < m ∧ W' (i + 1) m' σ' H') ∧ ∀ x H', J.yld i H x H' → g x σ H' fun σ2 H2 => TSD (Gm X cv) W bd { D with nx := N, ct := N, bk := D.nx } σ2 H2) := by
  refine ⟨fun i m σ H => i + m = xs.length ∧ ∃ ι ρ S, RS X.K ι H ρ σ ∧ RH X.K ι H S ∧ Ok ι H ∧ FinS (Gm X cv) W ι H D (loopV t bd (xs.drop i) ρ S), ⟨xs.length, Nat.zero_add _, ι, ρ, S, hs, hh, h0, q⟩, fun i m σ' H' ⟨hm, ι', ρ', S', hs', hh', h0', q'⟩ => ?_⟩
  cases m with
  | zero =>
    have : i = xs.length := by omega
    subst this
    rw [List.drop_length, loopV_nil] at q'
    exact .inl ⟨hstop ι' H' h0', q'.next hh' hs'⟩
  | succ m =>
    have hi : i < xs.length := by omega
    rw [List.drop_eq_getElem_cons hi, loopV_cons] at q'
    split at q'
    · exact q'.elim
    · rename_i ρ1 eρ
      refine .inr ⟨hgo ι' H' i h0' hi, fun σ H => ∃ ι ρ S, RS X.K ι H ρ σ ∧ RH X.K ι H S ∧ Ok ι H ∧ FinS (Gm X cv) W ι H D (loopV t bd (xs.drop (i + 1)) ρ S), fun σ2 H2 h2 => ⟨m, Nat.lt_succ_self m, by omega, h2⟩, fun y H2 hyd => ?_⟩
      obtain ⟨e0, r0, x, ex, rx⟩ := hy ι' H' S' i y H2 hh' h0' hi hyd
      rw [List.getElem?_eq_getElem hi] at ex
      cases ex
      refine ht ι' H2 ρ' ρ1 σ' _ y _ (hs'.ext e0) rx eρ fun σ2 hs2 => ?_
      refine ⟨ι', ρ1, S', hs2, r0, turn_end (FinS.weak e0 q') fun ι3 H3 ρ3 σ3 S3 e3 a3 b3 c3 => ?_⟩
      exact ⟨ι3, ρ3, S3, b3, a3, hok _ _ _ _ (hok _ _ _ _ h0' e0) e3, c3⟩
/-- for over the items of a tuple with their places -/
def sForE (g : DA) (t : TgD) (b : SD) : SD := fun ρ S => (g ρ S).toS ρ fun xs S1 => match xs with
  | [.tup ys] => loopV t b (ys.zipIdx.map fun p => .tup [.int (p.2 : Nat), p.1]) ρ S1
  | _ => .stuck
theorem ps_forET {f : DA} {g : TG} {t : TgD} {bd : SD} {a : Expr} {p pos2 tpos : Pos} {elts : List Expr} {kk : Nat} {bs : List Stmt} (hp : PassesOwn (model X.prog X.w) X.A X.env X.xe) (hc : X.calm = true) (hgl : Gl X "enumerate") (hm : X.mg "enumerate" = none) (he : PA X [a] (TDA (Gm X cv) W f)) (hg : PG X (.Tuple elts kk tpos) g) (ht : TgOk X.K g t) (hb : PSs X bs (TSD (Gm X cv) W bd))
    (hs : starEach [a] X.env = [(false, eval a X.env)] := by rfl) :
    PS X (.For (.Tuple elts kk tpos) (.Call (.Name "enumerate" p) [a] [] pos2) bs [] pos) (TSD (Gm X cv) W (sForE f t bd)) :=
  (ps_for hp hc (pi_enumT hgl hm he hs) hg hb).imp fun D σ H ⟨ι, ρ, S, hs, hh, q⟩ => by
    refine ⟨ι, ρ, S, hs, hh, FinS.bind q hs fun xs S1 ι1 H1 us e1 h1 r1 q1 => ?_⟩
    split at q1
    · rename_i ys
      cases r1 with
      | cons r1 r2 =>
        cases r2
        cases r1 with
        | tup ha ra =>
          rename_i a0 vs
          have hlen : (ys.zipIdx.map fun p => Val.tup [.int (p.2 : Nat), p.1]).length = vs.length := by
            rw [List.length_map, List.length_zipIdx, ra.length]
          refine ⟨a0, vs, rfl, ha, for_valsE ht _ (fun ι H => SqT X.K H a0 vs ∧ RVs X.K ι H ys vs) (fun ι H ι' H' h e => ⟨e.sqT h.1, h.2.ext e⟩) (fun ι H h => ⟨vs, h.1, hlen.symm⟩) (fun ι H i h hi => ?_) (fun ι H S i y H' hh h hi hy => ?_) (hs.ext e1) h1 ⟨ha, ra⟩ q1⟩
          · rw [hlen] at hi
            exact ⟨vs, vs[i], h.1, List.getElem?_eq_getElem hi⟩
          · obtain ⟨T, x, rfl, hT, rfl, hx⟩ := hy
            have hx := hx vs h.1
            rw [hlen] at hi
            have hi2 : i < ys.length := by rw [ra.length]; exact hi
            have hyi : ys[i]? = some ys[i] := List.getElem?_eq_getElem hi2
            obtain ⟨v, ev, rv⟩ := h.2.get hyi
            rw [hx] at ev
            cases ev
            have e0 : Ext ι H ι (upd H T (.tup [.int (i : Nat), x])) := Ext.fresh hT
            refine ⟨e0, RH.fresh hh hT, .tup [.int (i : Nat), ys[i]], ?_, .tup (.of (by unfold upd; simp)) (.cons (.int _) (.cons (rv.ext e0) .nil))⟩
            rw [List.getElem?_map, List.getElem?_zipIdx, hyi]
            show some (Val.tup [.int ((0 + i : Nat) : Int), ys[i]]) = _
            rw [Nat.zero_add]
    · exact q1.elim
end
end PD

/-! ## PDIsT -/
set_option Elab.async false
set_option linter.all false
set_option maxRecDepth 100000
set_option maxHeartbeats 2000000
namespace PD
open PySem PySem.Spec L2
/-! isinstance with a tuple of built-in types, by value -/
def rIsiS (K : PySem.W.Frag) : List V → Hp → VK → Prop := fun xs H Q => ∃ (x : V) (tp : Addr) (cs : List V) (t : Value) (us : List Value) (b : Bool), xs = [x, .ref tp] ∧ SqT K H tp cs ∧ Paired ClsV cs us ∧ TyX K H x t ∧ PySem.W.kitAny K t us = some b ∧ Q (.bl b) H
theorem call_isiS {X : Cx} : CallR X (.builtin "isinstance") (rIsiS X.K) := by
  intro pins s σ H xs us Q I r h
  obtain ⟨x, tp, cs, t, ws, b, rfl, hT, k, ty, e, q⟩ := h
  obtain ⟨u1, u2, rfl, r1, r2⟩ := vals2 r
  cases (show u2 = Value.ref tp from r2)
  obtain ⟨P, Z, p, hx⟩ := kit_of I r1 ty
  obtain ⟨its, rv, ⟨o, h1, h2, n, h3⟩, _⟩ := I.tuple hT
  have e3 := ClsV.all k rv
  subst e3
  obtain ⟨oc, od, dt, sl⟩ := o
  simp only at h2 h3
  subst h2 h3
  exact PySem.W.kia_tup Z I.kIn p h1 e hx fun tk => ⟨.bl b, H, I.tok tk, rfl, q⟩
def asTy : Val → Option String
  | .ty n => some n
  | _ => none
def bIsiT : Fn := fun xs S => match xs with
  | [x, .tup ts] => match tyN x S with
    | some T => match allSome (ts.map asTy) with
      | some us => if us.all (fun U => decide (U ∈ askedT)) = true then okB (us.any (isT T)) S else .stuck
      | none => .stuck
    | none => .stuck
  | _ => .stuck
theorem kitAny_known {K : PySem.W.Frag} {T : String} (hT : T ∈ knownT) : ∀ us : List String, us.all (fun U => decide (U ∈ askedT)) = true → PySem.W.kitAny K (.type T) (us.map Value.type) = some (us.any (isT T))
  | [], _ => kitAny_nil
  | U :: us, h => by
    rw [List.all_cons, Bool.and_eq_true] at h
    have ih := kitAny_known (K := K) hT us h.2
    refine kitAny_cons (kit_ty (kit_known T hT U (of_decide_eq_true h.1))) (fun e => ?_) fun e => ?_
    · rw [List.any_cons, e]; exact ih
    · rw [List.any_cons, e]; rfl
theorem tys_paired {K : PySem.W.Frag} {ι : List Addr} {H : Hp} : ∀ (ts : List Val) (vs : List V) (us : List String), RVs K ι H ts vs → allSome (ts.map asTy) = some us → Paired ClsV vs (us.map Value.type)
  | [], vs, us, r, h => by cases r; cases h; exact .nil
  | x :: ts, vs, us, r, h => by
    rw [List.map_cons] at h
    unfold allSome at h
    split at h
    · rename_i a as e1 e2
      cases h
      cases r with
      | cons rx rr =>
        cases x with
        | ty n => cases e1; cases rx; exact .cons (.ty _) (tys_paired ts _ as rr e2)
        | _ => cases e1
    · cases h
theorem ok_isiT {K : PySem.W.Frag} : OKA K (rIsiS K) bIsiT := by
  intro cv ι H S xs us W Q hh rx q
  unfold bIsiT at q
  split at q
  · rename_i x ts
    split at q
    · rename_i T eT
      split at q
      · rename_i ns en
        split at q
        · rename_i hU
          cases rx with
          | cons r1 rr =>
            cases rr with
            | cons r2 rr =>
              cases rr
              cases r2 with
              | tup ha ra => exact ⟨_, _, _, _, _, ns.any (isT T), rfl, ha, tys_paired ts _ ns ra en, tyX_of hh r1 eT, kitAny_known (tyN_known eT) ns hU, q ι H _ .refl hh (.bl _)⟩
        · exact q.elim
      · exact q.elim
    · exact q.elim
  · exact q.elim
theorem run_isiT {x : Val} {T : String} {us : List String} {S : Store} {Q : Val → Store → Prop} (h : tyN x S = some T) (hu : us.all (fun U => decide (U ∈ askedT)) = true) : Run (bIsiT [x, .tup (us.map Val.ty)] S) Q = Q (.bl (us.any (isT T))) S := by
  have ea : allSome ((us.map Val.ty).map asTy) = some us := by
    clear hu
    induction us with
    | nil => rfl
    | cons u us ih =>
      rw [List.map_cons, List.map_cons]
      unfold allSome
      rw [ih]; rfl
  show Run (match tyN x S with
    | some T => match allSome ((us.map Val.ty).map asTy) with
      | some us => if us.all (fun U => decide (U ∈ askedT)) = true then okB (us.any (isT T)) S else .stuck
      | none => .stuck
    | none => .stuck) Q = _
  rw [h, ea]
  show Run (if us.all (fun U => decide (U ∈ askedT)) = true then okB (us.any (isT T)) S else .stuck) Q = _
  rw [if_pos hu]; rfl
end PD

/-! ## PDObj -/
set_option Elab.async false
set_option linter.all false
set_option maxRecDepth 100000
set_option maxHeartbeats 2000000
/-! instances: fields read and stored, making, methods -/
namespace PD
open PySem PySem.Spec L2
/-! ### the fields -/
def putV (f : Str) (v : Val) : List (Str × Val) → List (Str × Val)
  | [] => [(f, v)]
  | (g, x) :: r => if g = f then (g, v) :: r else (g, x) :: putV f v r
section
variable {K : PySem.W.Frag} {ι : List Addr} {H : Hp}
theorem fs_lookup {nm : Str} {y : Val} : ∀ {fs : List (Str × Val)} {vs : List V}, RVs K ι H (fs.map (·.2)) vs → fs.lookup nm = some y → ∃ v, ((fs.map (·.1)).zip vs).lookup nm = some v ∧ RV K ι H y v
  | [], vs, _, h => by cases h
  | (g, x) :: r, vs, rr, h => by
    cases rr with
    | @cons _ v _ ws rx rr =>
      show ∃ v', List.lookup nm ((g, v) :: (r.map (·.1)).zip ws) = some v' ∧ _
      rw [List.lookup_cons] at h ⊢
      cases hb : nm == g with
      | true => rw [hb] at h; cases h; exact ⟨v, rfl, rx⟩
      | false => rw [hb] at h; exact fs_lookup rr h
theorem fs_none {nm : Str} : ∀ {fs : List (Str × Val)} {vs : List V}, fs.lookup nm = none → ((fs.map (·.1)).zip vs).lookup nm = none
  | [], vs, _ => rfl
  | (g, x) :: r, [], _ => rfl
  | (g, x) :: r, v :: vs, h => by
    show List.lookup nm ((g, v) :: (r.map (·.1)).zip vs) = none
    rw [List.lookup_cons] at h ⊢
    cases hb : nm == g with
    | true => rw [hb] at h; cases h
    | false => rw [hb] at h; exact fs_none h
theorem fs_put {nm : Str} {y : Val} {v : V} (ry : RV K ι H y v) : ∀ {fs : List (Str × Val)} {vs : List V}, RVs K ι H (fs.map (·.2)) vs → ∃ ws, putF nm v ((fs.map (·.1)).zip vs) = ((putV nm y fs).map (·.1)).zip ws ∧ RVs K ι H ((putV nm y fs).map (·.2)) ws
  | [], vs, rr => by
    cases rr
    exact ⟨[v], rfl, .cons ry .nil⟩
  | (g, x) :: r, vs, rr => by
    cases rr with
    | @cons _ u _ ws rx rr =>
      show ∃ ws', putF nm v ((g, u) :: (r.map (·.1)).zip ws) = _ ∧ _
      unfold putF putV
      by_cases hg : g = nm
      · rw [if_pos hg, if_pos hg]
        exact ⟨v :: ws, rfl, .cons ry rr⟩
      · rw [if_neg hg, if_neg hg]
        obtain ⟨ws', e, r'⟩ := fs_put ry rr
        exact ⟨u :: ws', by rw [e]; rfl, .cons rx r'⟩
theorem fs_len {fs : List (Str × Val)} {vs : List V} (r : RVs K ι H (fs.map (·.2)) vs) : ((fs.map (·.1)).zip vs).length = fs.length := by
  rw [List.length_zip, List.length_map, ← r.length, List.length_map, Nat.min_self]
end
/-- the classes of instances: by their names -/
structure ClsTab (K : PySem.W.Frag) (cls nms : List Str) : Prop where
  go : ∀ cn ∈ cls, ∀ C : Addr, PySem.W.nsIn K mainGlobals cn = some (some (.ref C)) → Cls K C ∧ ∀ f ∈ nms, NoAttr K C f
/-- what an object's cell says of the heap -/
theorem obj_at {K : PySem.W.Frag} {ι : List Addr} {H : Hp} {S : Store} {n : Nat} {a : Addr} {cn : Str} {fs : List (Str × Val)} (hh : RH K ι H S) (hn : ι[n]? = some a) (e : S[n]? = some (.obj cn fs)) :
    ∃ (C dx : Addr) (vs : List V), PySem.W.nsIn K mainGlobals cn = some (some (.ref C)) ∧ H a = some (.ins C dx ((fs.map (·.1)).zip vs)) ∧ RVs K ι H (fs.map (·.2)) vs := by
  obtain ⟨C, dx, ns, vs, k, q, rfl, r⟩ := hh.ok n a _ hn e
  exact ⟨C, dx, vs, k, q, r⟩
def dFld (cls nms : List Str) (f : D) (nm : Str) : D := fun ρ S => (f ρ S).bind fun x S1 => match x with
  | .ob n => match S1[n]? with
    | some (.obj cn fs) => if cn ∈ cls ∧ nm ∈ nms then (match fs.lookup nm with
      | some v => .ok v S1
      | none => .stuck) else .stuck
    | _ => .stuck
  | _ => .stuck
/-- a field is stored: the value ahead of the object -/
def putO (cls nms : List Str) (n : Nat) (nm : Str) (v : Val) (S : Store) : Option Store := match S[n]? with
  | some (.obj cn fs) => if cn ∈ cls ∧ nm ∈ nms ∧ fs.length < 1000 then some (S.set n (.obj cn (putV nm v fs))) else none
  | _ => none
def sFldS (cls nms : List Str) (o : D) (nm : Str) (f : D) : SD := fun ρ S => (f ρ S).toS ρ fun v S1 => (o ρ S1).toS ρ fun x S2 => match x with
  | .ob n => match putO cls nms n nm v S2 with
    | some S3 => .next ρ S3
    | none => .stuck
  | _ => .stuck
def cnOf : Cell → Option Str
  | .obj cn _ => some cn
  | _ => none
/-- o.f += int -/
def sFldA (cls nms : List Str) (o : D) (nm : Str) (f : D) (g : Int → Int → Int) : SD := fun ρ S => (o ρ S).toS ρ fun x S1 => match x with
  | .ob n => match S1[n]? with
    | some (.obj cn fs) => if cn ∈ cls ∧ nm ∈ nms then (match fs.lookup nm with
      | some (.int i) => (f ρ S1).toS ρ fun y S2 => match y with
        | .int j => if S2[n]?.bind cnOf = some cn then (match putO cls nms n nm (.int (g i j)) S2 with
          | some S3 => .next ρ S3
          | none => .stuck) else .stuck
        | _ => .stuck
      | _ => .stuck) else .stuck
    | _ => .stuck
  | _ => .stuck
section
variable {X : Cx} {cv : Nat → Value} {W : WX} {o e value : Expr} {f : Str} {pos pos' tpos : Pos} {cls nms : List Str}
theorem pd_fld {g : D} (T : ClsTab X.K cls nms) (he : PE X e (TD (Gm X cv) W g)) (hb : attributeBase e f X.env (eval e X.env) = eval e X.env := by rfl) : PE X (.Attribute e f pos) (TD (Gm X cv) W (dFld cls nms g f)) :=
  (pe_fld he hb).imp fun σ H Q ⟨ι, ρ, S, hs, hh, q⟩ => by
    refine ⟨ι, ρ, S, hs, hh, FinG.bind q fun x S1 ι1 H1 u e1 h1 r1 q1 => ?_⟩
    cases x with
    | ob n =>
      cases r1 with
      | ob hn =>
        rename_i a
        have q1 : Fin (Gm X cv) (fun c d H' => W c d σ H') ι1 H1 Q (match S1[n]? with
          | some (.obj cn fs) => if cn ∈ cls ∧ f ∈ nms then (match fs.lookup f with
            | some v => .ok v S1
            | none => .stuck) else .stuck
          | _ => .stuck) := q1
        split at q1
        · rename_i cn fs ec
          split at q1
          · rename_i hc
            split at q1
            · rename_i v hv
              obtain ⟨C, dx, vs, kc, hi, rr⟩ := obj_at h1 hn ec
              obtain ⟨u, hu, ru⟩ := fs_lookup rr hv
              obtain ⟨c1, c2⟩ := T.go cn hc.1 C kc
              exact ⟨a, C, dx, _, u, rfl, hi, c1, c2 f hc.2, hu, q1.here h1 ru⟩
            · exact q1.elim
          · exact q1.elim
        · exact q1.elim
    | _ => exact q1.elim
/-- the heap behind a store into a field -/
theorem putO_ok {ι : List Addr} {H : Hp} {S S' : Store} {n : Nat} {a : Addr} {nm : Str} {y : Val} {v : V} (T : ClsTab X.K cls nms) (hh : RH X.K ι H S) (hn : ι[n]? = some a) (e : putO cls nms n nm y S = some S') (ry : RV X.K ι H y v) :
    ∃ C dx fs, H a = some (.ins C dx fs) ∧ Cls X.K C ∧ NoAttr X.K C nm ∧ fs.length < 1000 ∧ Ext ι H ι (upd H a (.ins C dx (putF nm v fs))) ∧ RH X.K ι (upd H a (.ins C dx (putF nm v fs))) S' := by
  unfold putO at e
  split at e
  · rename_i cn fs ec
    split at e
    · rename_i hc
      cases e
      obtain ⟨C, dx, vs, kc, hi, rr⟩ := obj_at hh hn ec
      obtain ⟨c1, c2⟩ := T.go cn hc.1 C kc
      obtain ⟨ws, ew, rw'⟩ := fs_put (nm := nm) ry rr
      have ex : Ext ι H ι (upd H a (.ins C dx (putF nm v ((fs.map (·.1)).zip vs)))) := Ext.writeC hn hi trivial fun _ z => by cases z
      refine ⟨C, dx, _, hi, c1, c2 nm hc.2.1, by rw [fs_len rr]; exact hc.2.2, ex, hh.writeC hn ec ⟨C, dx, _, ws, kc, ?_, rfl, rw'.ext ex⟩ ex⟩
      rw [upd_same, ew]
    · cases e
  · cases e
theorem ps_fldS {g h : D} (T : ClsTab X.K cls nms) (ha : PE X o (TD (Gm X cv) W g)) (hv : PE X value (TD (Gm X cv) W h)) (hs : swapsWith value (some (.Attribute o f pos')) pos.line X.env = pure false := by rfl) :
    PS X (.Assign [.Attribute o f pos'] value pos) (TSD (Gm X cv) W (sFldS cls nms g f h)) :=
  (ps_fld ha hv hs).imp fun D σ H ⟨ι, ρ, S, hs, hh, q⟩ => by
    refine ⟨ι, ρ, S, hs, hh, FinS.bind q hs fun y S1 ι1 H1 v e1 h1 r1 q1 => ?_⟩
    refine ⟨ι1, ρ, S1, hs.ext e1, h1, FinS.bind q1 (hs.ext e1) fun x S2 ι2 H2 u e2 h2 r2 q2 => ?_⟩
    cases x with
    | ob n =>
      cases r2 with
      | ob hn =>
        rename_i a
        have q2 : FinS (Gm X cv) W ι2 H2 D (match putO cls nms n f y S2 with
          | some S3 => .next ρ S3
          | none => .stuck) := q2
        split at q2
        · rename_i S3 e3
          obtain ⟨C, dx, fs, hi, c1, c2, hl, ex, hh3⟩ := putO_ok T h2 hn e3 (r1.ext e2)
          exact ⟨a, C, dx, fs, rfl, hi, c1, c2, hl, FinS.next (FinS.weak ex q2) hh3 (((hs.ext e1).ext e2).ext ex)⟩
        · exact q2.elim
    | _ => exact q2.elim
theorem ps_fldA {g h : D} {op : Operator} {rd : V → V → Hp → VK → Prop} {k : Int → Int → Int} (T : ClsTab X.K cls nms) (ha : PE X o (TD (Gm X cv) W g)) (hv : PE X value (TD (Gm X cv) W h)) (hop : InOp X op rd) (hk : ∀ i j H Q, Q (.int (k i j)) H → rd (.int i) (.int j) H Q) :
    PS X (.AugAssign (.Attribute o f tpos) op value pos) (TSD (Gm X cv) W (sFldA cls nms g f h k)) :=
  (ps_fldaug ha hv hop).imp fun D σ H ⟨ι, ρ, S, hs, hh, q⟩ => by
    refine ⟨ι, ρ, S, hs, hh, FinS.bind q hs fun x S1 ι1 H1 u e1 h1 r1 q1 => ?_⟩
    cases x with
    | ob n =>
      cases r1 with
      | ob hn =>
        rename_i a
        have q1 : FinS (Gm X cv) W ι1 H1 D (match S1[n]? with
          | some (.obj cn fs) => if cn ∈ cls ∧ f ∈ nms then (match fs.lookup f with
            | some (.int i) => (h ρ S1).toS ρ fun y S2 => match y with
              | .int j => if S2[n]?.bind cnOf = some cn then (match putO cls nms n f (.int (k i j)) S2 with
                | some S3 => .next ρ S3
                | none => .stuck) else .stuck
              | _ => .stuck
            | _ => .stuck) else .stuck
          | _ => .stuck) := q1
        split at q1
        · rename_i cn fs ec
          split at q1
          · rename_i hc
            split at q1
            · rename_i i hv
              obtain ⟨C, dx, vs, kc, hi, rr⟩ := obj_at h1 hn ec
              obtain ⟨u, hu, ru⟩ := fs_lookup rr hv
              obtain ⟨c1, c2⟩ := T.go cn hc.1 C kc
              cases ru
              refine ⟨a, C, dx, _, _, rfl, hi, c1, c2 f hc.2, hu, ι1, ρ, S1, hs.ext e1, h1, FinS.bind q1 (hs.ext e1) fun y S2 ι2 H2 w e2 h2 r2 q2 => ?_⟩
              cases y with
              | int j =>
                cases r2
                have q2 : FinS (Gm X cv) W ι2 H2 D (if S2[n]?.bind cnOf = some cn then (match putO cls nms n f (.int (k i j)) S2 with
                  | some S3 => .next ρ S3
                  | none => .stuck) else .stuck) := q2
                split at q2
                · rename_i hcn
                  split at q2
                  · rename_i S3 e3
                    refine hk i j H2 _ ?_
                    obtain ⟨C', dx', fs', hi', d1, d2, hl, ex, hh3⟩ := putO_ok T h2 (e2.get hn) e3 (.int (k i j))
                    have cc : C' = C := by
                      unfold putO at e3
                      split at e3
                      · rename_i cn' fs'' ec'
                        obtain ⟨C2, dx2, vs2, kc2, hi2, _⟩ := obj_at h2 (e2.get hn) ec'
                        rw [hi'] at hi2
                        cases hi2
                        rw [ec'] at hcn
                        cases hcn
                        rw [kc] at kc2
                        cases kc2; rfl
                      · cases e3
                    subst cc
                    exact ⟨dx', fs', hi', hl, FinS.next (FinS.weak ex q2) hh3 (((hs.ext e1).ext e2).ext ex)⟩
                  · exact q2.elim
                · exact q2.elim
              | _ => exact q2.elim
            · exact q1.elim
          · exact q1.elim
        · exact q1.elim
    | _ => exact q1.elim
end
end PD

/-! ## PDMeth -/
set_option Elab.async false
set_option linter.all false
set_option maxRecDepth 100000
set_option maxHeartbeats 2000000
/-! instances made, methods called -/
namespace PD
open PySem PySem.Spec L2
section
variable {X : Cx} {cv : Nat → Value} {W : WX} {o e : Expr} {es : List Expr} {pos p apos : Pos} {x m : Str} {k : Nat} {f C : Addr} {fd : FuncData} {ps : List Str}
theorem run_makeG {F : Fn} {pins : List (Addr × Obj)} {σ : L2.St} {H : Hp} {s : Shared} {Q : VK} {us : List Value} {vs : List V} (M : Mk X.K C f) (G : FnG X.prog X.w X.K X.mg X.base k f fd ps (SpecOf ⟨X.K, cv⟩ F)) (hgd : X.A.guards = some []) (hr : ∀ xs H Q E, SpecOf ⟨X.K, cv⟩ F xs H Q E → Room (k + 1) X.A) (tk : Takes X W)
    (hb : Binds X.K fd ps []) (I : Inv X pins σ H s) (r : Vals vs us)
    (h : ∀ x dx, H x = none → H dx = none → dx ≠ x → SpecOf ⟨X.K, cv⟩ F (.ref x :: vs) (upd (upd H dx (.own x)) x (.ins C dx [])) (fun v H2 => v = .non ∧ Q (.ref x) H2) (WE W σ)) :
    wpAny (model X.prog X.w) X.A (call (.ref C) us) (EP X pins σ Q) X.xe s := by
  have hq := h (s.heap.objs.size + 1) s.heap.objs.size (I.hok.fresh (Nat.le_succ _)) (I.hok.fresh (Nat.le_refl _)) (Nat.ne_of_lt (Nat.lt_succ_self _))
  have hr := hr _ _ _ _ hq
  have I2 := Inv.made (C := C) I
  have r2 : Vals (V.ref (s.heap.objs.size + 1) :: vs) (Value.ref (s.heap.objs.size + 1) :: us) := .cons rfl r
  have hl : (Value.ref (s.heap.objs.size + 1) :: us).length = ps.length := by
    have e := r2.length
    rw [G.len _ _ _ _ hq] at e
    exact e.symm
  have hb1 := hb { s with heap := (s.heap.push PySem.W.emptyDict).push (PySem.W.instObj C s.heap.objs.size) } (Value.ref (s.heap.objs.size + 1) :: us) I2.kIn (by rw [List.append_nil]; exact hl)
  rw [List.append_nil] at hb1
  refine wpAny_call (make_map (f := f) I.kIn M.makes M.init (beq_iff_eq.mp M.fn) (codeAny_mono (G.go _ X.stack _ _ ⟨Value.ref (s.heap.objs.size + 1) :: us, []⟩ (Value.ref (s.heap.objs.size + 1) :: us) _ _ (WE W σ) hgd (hr.make C us [])
    (I2.env0.make C us []) hb1 r2 hq) fun r s' hq' => ?_))
  cases r with
  | error e => exact passAt tk σ pins _ _ e s' I2 hq'
  | ok fl =>
    cases fl with
    | ret u =>
      obtain ⟨v, H', I3, rv, ev, q3⟩ := I2.after hq'
      subst ev
      exact ⟨rv, ⟨V.ref (s.heap.objs.size + 1), H', I3, rfl, q3⟩⟩
    | next => exact False.elim hq'
    | brk => exact False.elim hq'
    | cont => exact False.elim hq'
def dMake (cn : Str) (F : Fn) (as : DA) : D := fun ρ S => (as ρ S).bind fun xs S1 => match F (.ob S1.length :: xs) (S1 ++ [.obj cn []]) with
  | .ok r S2 => (match r with
    | .non => .ok (.ob S1.length) S2
    | _ => .stuck)
  | .exc e S2 => .exc e S2
  | .stuck => .stuck
/-- what is wanted of the making's __init__ -/
theorem make_spec {F : Fn} {xs : List Val} {vs : List V} {ι : List Addr} {H : Hp} {S : Store} {cn : Str} {E : Value → Option Addr → Hp → Prop} {Q : VK} (kc : PySem.W.nsIn X.K mainGlobals cn = some (some (.ref C))) (hh : RH X.K ι H S) (r : RVs X.K ι H xs vs)
    (q : FinG (Gm X cv) (RV X.K) E ι H Q (match F (.ob S.length :: xs) (S ++ [.obj cn []]) with
      | .ok r S2 => (match r with
        | .non => .ok (.ob S.length) S2
        | _ => .stuck)
      | .exc e S2 => .exc e S2
      | .stuck => .stuck)) (a dx : Addr) (ha : H a = none) (hd : H dx = none) (ne : dx ≠ a) :
    SpecOf ⟨X.K, cv⟩ F (.ref a :: vs) (upd (upd H dx (.own a)) a (.ins C dx [])) (fun v H2 => v = .non ∧ Q (.ref a) H2) E := by
  have ha2 : upd H dx (.own a) a = none := by rw [upd_ne ne.symm]; exact ha
  have e1 : Ext ι H ι (upd H dx (.own a)) := Ext.fresh hd
  have e2 : Ext ι (upd H dx (.own a)) (ι ++ [a]) (upd (upd H dx (.own a)) a (.ins C dx [])) := Ext.alloc ha2
  have ee := e1.trans e2
  have hn : (ι ++ [a])[S.length]? = some a := by rw [← hh.len]; simp
  refine ⟨ι ++ [a], .ob S.length :: xs, S ++ [.obj cn []], .cons (.ob hn) (r.ext ee), (hh.fresh hd).allocC (c0 := .obj cn []) (o := .ins C dx []) ha2 (show CellOk X.K _ _ a (.obj cn []) from ⟨C, dx, [], [], kc, upd_same, rfl, .nil⟩), ?_⟩
  revert q
  cases F (.ob S.length :: xs) (S ++ [.obj cn []]) with
  | ok r S2 =>
    cases r with
    | non =>
      intro q ι' H' v e3 h3 r3
      cases r3
      exact ⟨rfl, q ι' H' (.ref a) (ee.trans e3) h3 (.ob (e3.get hn))⟩
    | _ => exact fun q => q.elim
  | exc e S2 => exact fun q => FinG.weak (r := Res.exc e S2) (R := RV X.K) (Q := fun v H2 => v = .non ∧ Q (.ref a) H2) ee q
  | stuck => exact fun q => q.elim
/-- C(e, ..) -/
theorem pd_make {F : Fn} {g : DA} {cn : Str} (kc : PySem.W.nsIn X.K mainGlobals cn = some (some (.ref C))) (M : Mk X.K C f) (G : FnG X.prog X.w X.K X.mg X.base k f fd ps (SpecOf ⟨X.K, cv⟩ F)) (hgd : X.A.guards = some []) (hr : ∀ xs H Q E, SpecOf ⟨X.K, cv⟩ F xs H Q E → Room (k + 1) X.A) (hg : Gl X x) (hm : X.mg x = some (.ref C)) (hb : Binds X.K fd ps []) (tk : Takes X W)
    (ha : PA X (e :: es) (TDA (Gm X cv) W g)) (hdb : (x == ("__debug__" : Str)) = false := by decide) (he : starEach (e :: es) X.env = (false, eval e X.env) :: starEach es X.env := by rfl) (hpl : (backTo pos (starEach es X.env)).any (·.1) = false := by rfl) :
    PE X (.Call (.Name x p) (e :: es) [] pos) (TD (Gm X cv) W (dMake cn F g)) := by
  refine ⟨fun pins s σ H Q I h => ?_⟩
  obtain ⟨ι, ρ, S, hs, hh, q⟩ := h
  refine wpAny_Call_Name_kw (ld_glob I hg hm ?_ hdb)
  refine PySem.W.callWith_K (h₀ := X.base) I.ok.mod.kin M.kp (thn (ha.run pos pins s σ H (fun us H1 => ∀ x dx, H1 x = none → H1 dx = none → dx ≠ x → SpecOf ⟨X.K, cv⟩ F (.ref x :: us) (upd (upd H1 dx (.own x)) x (.ins C dx [])) (fun v H2 => v = .non ∧ Q (.ref x) H2) (WE W σ)) I
    ⟨ι, ρ, S, hs, hh, FinG.bind q fun xs S1 ι1 H1 us e1 h1 r1 q1 => make_spec kc h1 r1 q1⟩) fun us s1 ⟨vs, H1, I1, r, q1⟩ => ⟨I1.kIn, ?_⟩) he hpl
  exact run_makeG M G hgd hr tk hb I1 r q1
/-- C() -/
theorem pd_make0 {F : Fn} {cn : Str} (kc : PySem.W.nsIn X.K mainGlobals cn = some (some (.ref C))) (M : Mk X.K C f) (G : FnG X.prog X.w X.K X.mg X.base k f fd ps (SpecOf ⟨X.K, cv⟩ F)) (hgd : X.A.guards = some []) (hr : ∀ xs H Q E, SpecOf ⟨X.K, cv⟩ F xs H Q E → Room (k + 1) X.A) (hg : Gl X x) (hm : X.mg x = some (.ref C)) (hb : Binds X.K fd ps []) (tk : Takes X W)
    (hdb : (x == ("__debug__" : Str)) = false := by decide) :
    PE X (.Call (.Name x p) [] [] pos) (TD (Gm X cv) W (dMake cn F aNil)) := by
  refine ⟨fun pins s σ H Q I h => ?_⟩
  obtain ⟨ι, ρ, S, hs, hh, q⟩ := h
  refine wpAny_Call_Name_kw (ld_glob I hg hm ?_ hdb)
  exact PySem.W.callWith_K0 I.kIn M.kp (run_makeG (us := []) M G hgd hr tk hb I .nil (make_spec kc hh .nil q))
/-- the methods of this name, by the classes -/
def MTab := List (Str × Fn)
structure MethOk (X : Cx) (cv : Nat → Value) (k : Nat) (tab : List (Str × Fn)) (m : Str) : Prop where
  go : ∀ cn F, tab.lookup cn = some F → ∃ (C g : Addr) (fd : FuncData) (ps : List Str), PySem.W.nsIn X.K mainGlobals cn = some (some (.ref C)) ∧ Cls X.K C ∧ Meth X.K C m g ∧ FnG X.prog X.w X.K X.mg X.base k g fd ps (SpecOf ⟨X.K, cv⟩ F) ∧ Binds X.K fd ps []
theorem mt_nil : MethOk X cv k [] m := ⟨fun _ _ h => nomatch h⟩
theorem mt_cons {F : Fn} {cn : Str} {tab : List (Str × Fn)} {g : Addr} (kc : PySem.W.nsIn X.K mainGlobals cn = some (some (.ref C))) (c : Cls X.K C) (hm : Meth X.K C m g) (G : FnG X.prog X.w X.K X.mg X.base k g fd ps (SpecOf ⟨X.K, cv⟩ F)) (hb : Binds X.K fd ps []) (h : MethOk X cv k tab m) : MethOk X cv k ((cn, F) :: tab) m := by
  refine ⟨fun cn' F' e => ?_⟩
  rw [List.lookup_cons] at e
  cases hc : cn' == cn with
  | true =>
    rw [hc] at e
    cases e
    have : cn' = cn := beq_iff_eq.mp hc
    subst this
    exact ⟨C, g, fd, ps, kc, c, hm, G, hb⟩
  | false => rw [hc] at e; exact h.go cn' F' e
def dMeth (tab : List (Str × Fn)) (o : D) (m : Str) (as : DA) : D := fun ρ S => (o ρ S).bind fun x S1 => match x with
  | .ob n => match S1[n]? with
    | some (.obj cn fs) => match tab.lookup cn with
      | some F => (match fs.lookup m with
        | none => (as ρ S1).bind fun xs S2 => F (.ob n :: xs) S2
        | some _ => .stuck)
      | none => .stuck
    | _ => .stuck
  | _ => .stuck
/-- o.m(e, ..) -/
theorem pd_meth {tab : List (Str × Fn)} {g : D} {as : DA} {pl : Sem Bool} (T : MethOk X cv k tab m) (hgd : X.A.guards = some []) (hr : Room k X.A) (tk : Takes X W) (he : PE X o (TD (Gm X cv) W g)) (ha : PA X (e :: es) (TDA (Gm X cv) W as))
    (hst : starEach (e :: es) X.env = (false, eval e X.env) :: starEach es X.env := by rfl) (hpl : (backTo pos (starEach es X.env)).any (·.1) = false := by rfl)
    (ht : eval (.Call (.Attribute o m apos) (e :: es) [] pos) X.env = (do
      let ov ← eval o X.env
      standAt apos.atName
      let (f, first) ← holding [ov] (getMethod ov m pl)
      callWith pos f first (backTo pos (starEach (e :: es) X.env)) (backToKw pos (keywordEach [] X.env))) := by rfl) :
    PE X (.Call (.Attribute o m apos) (e :: es) [] pos) (TD (Gm X cv) W (dMeth tab g m as)) := by
  refine ⟨fun pins s σ H Q I h => ?_⟩
  obtain ⟨ι, ρ, S, hs, hh, q⟩ := h
  refine PySem.W.methodCall_KW (pl := pl) (thn (he.run pins s σ H (fun x H1 => ∃ (a C g : Addr) (dx : Addr) (fs : List (Str × V)) (F : Fn) (fd : FuncData) (ps : List Str) (n : Nat) (ι1 : List Addr) (S1 : Store), x = .ref a ∧ H1 a = some (.ins C dx fs) ∧ Cls X.K C ∧ Meth X.K C m g ∧ fs.lookup m = none ∧
    FnG X.prog X.w X.K X.mg X.base k g fd ps (SpecOf ⟨X.K, cv⟩ F) ∧ Binds X.K fd ps [] ∧ ι1[n]? = some a ∧ RS X.K ι1 H1 ρ σ ∧ RH X.K ι1 H1 S1 ∧ Fin (Gm X cv) (fun c d H' => W c d σ H') ι1 H1 Q ((as ρ S1).bind fun xs S2 => F (.ob n :: xs) S2)) I
    ⟨ι, ρ, S, hs, hh, FinG.bind q fun x S1 ι1 H1 u e1 h1 r1 q1 => ?_⟩) fun u s1 ⟨x, H1, I1, rx, a, C, g, dx, fs, F, fd, ps, n, ι1, S1, ex, ea, c, hm, l, G, hb, hn, hs1, hh1, q1⟩ => ?_) ht
  · cases x with
    | ob n =>
      cases r1 with
      | ob hn =>
        rename_i a
        have q1 : Fin (Gm X cv) (fun c d H' => W c d σ H') ι1 H1 Q (match S1[n]? with
          | some (.obj cn fs) => match tab.lookup cn with
            | some F => (match fs.lookup m with
              | none => (as ρ S1).bind fun xs S2 => F (.ob n :: xs) S2
              | some _ => .stuck)
            | none => .stuck
          | _ => .stuck) := q1
        split at q1
        · rename_i cn fs ec
          split at q1
          · rename_i F hF
            split at q1
            · rename_i hl
              obtain ⟨C, dx, vs, kc, hi, rr⟩ := obj_at h1 hn ec
              obtain ⟨C', g, fd, ps, kc', c, hm, G, hb⟩ := T.go cn F hF
              rw [kc] at kc'
              cases kc'
              exact ⟨a, C, g, dx, _, F, fd, ps, n, ι1, S1, rfl, hi, c, hm, fs_none hl, G, hb, hn, hs.ext e1, h1, q1⟩
            · exact q1.elim
          · exact q1.elim
        · exact q1.elim
    | _ => exact q1.elim
  · subst ex
    obtain rfl : u = Value.ref a := rx
    refine getmeth_ok I1 ea c hm l ?_
    refine PySem.W.callWith_K (first := [.ref a]) (h₀ := X.base) I1.ok.mod.kin hm.kp (thn (ha.run pos pins s1 σ H1 (fun us H2 => SpecOf ⟨X.K, cv⟩ F (.ref a :: us) H2 Q (WE W σ)) I1 ⟨ι1, ρ, S1, hs1, hh1, FinG.bind q1 fun xs S2 ι2 H2 us e2 h2 r2 q2 => ⟨ι2, .ob n :: xs, S2, .cons (.ob (e2.get hn)) r2, h2, q2⟩⟩) fun us s2 ⟨vs, H2, I2, r, q2⟩ => ⟨I2.kIn, ?_⟩) hst hpl
    have hl : (Value.ref a :: us).length = ps.length := by
      have := G.len _ _ _ _ q2
      rw [← this]
      exact congrArg (· + 1) r.length.symm
    have hb1 : BindsTo s2 fd ⟨Value.ref a :: us, []⟩ (ps.zip (Value.ref a :: us)) := by
      have := hb s2 (Value.ref a :: us) I2.kIn (by rw [List.append_nil]; exact hl)
      rwa [List.append_nil] at this
    exact ep_call (run_g G hgd hr tk I2 hb1 (.cons (show RelV (V.ref a) (Value.ref a) from rfl) r) q2)
/-- o.m() -/
theorem pd_meth0 {tab : List (Str × Fn)} {g : D} {pl : Sem Bool} (T : MethOk X cv k tab m) (hgd : X.A.guards = some []) (hr : Room k X.A) (tk : Takes X W) (he : PE X o (TD (Gm X cv) W g))
    (ht : eval (.Call (.Attribute o m apos) [] [] pos) X.env = (do
      let ov ← eval o X.env
      standAt apos.atName
      let (f, first) ← holding [ov] (getMethod ov m pl)
      callWith pos f first (backTo pos (starEach [] X.env)) (backToKw pos (keywordEach [] X.env))) := by rfl) :
    PE X (.Call (.Attribute o m apos) [] [] pos) (TD (Gm X cv) W (dMeth tab g m aNil)) := by
  refine ⟨fun pins s σ H Q I h => ?_⟩
  obtain ⟨ι, ρ, S, hs, hh, q⟩ := h
  refine PySem.W.methodCall_KW (pl := pl) (thn (he.run pins s σ H (fun x H1 => ∃ (a C g : Addr) (dx : Addr) (fs : List (Str × V)) (F : Fn) (fd : FuncData) (ps : List Str), x = .ref a ∧ H1 a = some (.ins C dx fs) ∧ Cls X.K C ∧ Meth X.K C m g ∧ fs.lookup m = none ∧
    FnG X.prog X.w X.K X.mg X.base k g fd ps (SpecOf ⟨X.K, cv⟩ F) ∧ Binds X.K fd ps [] ∧ SpecOf ⟨X.K, cv⟩ F [.ref a] H1 Q (WE W σ)) I
    ⟨ι, ρ, S, hs, hh, FinG.bind q fun x S1 ι1 H1 u e1 h1 r1 q1 => ?_⟩) fun u s1 ⟨x, H1, I1, rx, a, C, g, dx, fs, F, fd, ps, ex, ea, c, hm, l, G, hb, q1⟩ => ?_) ht
  · cases x with
    | ob n =>
      cases r1 with
      | ob hn =>
        rename_i a
        have q1 : Fin (Gm X cv) (fun c d H' => W c d σ H') ι1 H1 Q (match S1[n]? with
          | some (.obj cn fs) => match tab.lookup cn with
            | some F => (match fs.lookup m with
              | none => (aNil ρ S1).bind fun xs S2 => F (.ob n :: xs) S2
              | some _ => .stuck)
            | none => .stuck
          | _ => .stuck) := q1
        split at q1
        · rename_i cn fs ec
          split at q1
          · rename_i F hF
            split at q1
            · rename_i hl
              obtain ⟨C, dx, vs, kc, hi, rr⟩ := obj_at h1 hn ec
              obtain ⟨C', g, fd, ps, kc', c, hm, G, hb⟩ := T.go cn F hF
              rw [kc] at kc'
              cases kc'
              exact ⟨a, C, g, dx, _, F, fd, ps, rfl, hi, c, hm, fs_none hl, G, hb, ι1, [.ob n], S1, .cons (.ob hn) .nil, h1, q1⟩
            · exact q1.elim
          · exact q1.elim
        · exact q1.elim
    | _ => exact q1.elim
  · subst ex
    obtain rfl : u = Value.ref a := rx
    refine getmeth_ok I1 ea c hm l ?_
    have hl : ([Value.ref a] : List Value).length = ps.length := by
      have := G.len _ _ _ _ q1
      rw [← this]; rfl
    have hb1 : BindsTo s1 fd ⟨[Value.ref a], []⟩ (ps.zip [Value.ref a]) := by
      have := hb s1 [Value.ref a] I1.kIn (by rw [List.append_nil]; exact hl)
      rwa [List.append_nil] at this
    exact PySem.W.callWith_K0 (first := [.ref a]) I1.kIn hm.kp (ep_call (run_g G hgd hr tk I1 hb1 (.cons (show RelV (V.ref a) (Value.ref a) from rfl) .nil) q1))
end
end PD

/-! ## PDTxt -/
set_option Elab.async false
set_option linter.all false
set_option maxRecDepth 100000
set_option maxHeartbeats 2000000
/-! texts: a sign in a text, int and str, f-strings; list.pop -/
namespace PD
open PySem PySem.Spec L2
theorem cr_or {X : Cx} {f : Value} {r t : List V → Hp → VK → Prop} (h1 : CallR X f r) (h2 : CallR X f t) : CallR X f (fun xs H Q => r xs H Q ∨ t xs H Q) := fun pins s σ H xs us Q I rs h => h.elim (h1 pins s σ H xs us Q I rs) (h2 pins s σ H xs us Q I rs)
/-- c in text, one sign -/
def oInS : Op2 := fun x y S => match x, y with
  | .str a, .str z => match a.cps.toList with
    | [c] => okB (decide (c ∈ z.cps.toList)) S
    | _ => .stuck
  | _, _ => .stuck
def bIntS : Fn := fun xs S => match xs with
  | [.str z] => match PySem.intText? z with
    | some n => if z.length ≤ 640 then okI n S else .stuck
    | none => .stuck
  | _ => .stuck
def bStr : Fn := fun xs S => match xs with
  | [.int i] => if i.natAbs.log2 < 1920 then .ok (.str (toString i)) S else .stuck
  | _ => .stuck
def dFmt (f : D) : D := fun ρ S => (f ρ S).bind fun x S1 => match x with
  | .str y => if y.length ≤ 16777216 then .ok (.str y) S1 else .stuck
  | .int i => if i.natAbs.log2 < 1920 then .ok (.str (toString i)) S1 else .stuck
  | _ => .stuck
def dJs : List D → Str → D
  | [], acc => fun ρ S => .ok (.str acc) S
  | f :: fs, acc => fun ρ S => (f ρ S).bind fun x S1 => match x with
    | .str y => if (acc ++ y).length ≤ 16777216 then dJs fs (acc ++ y) ρ S1 else .stuck
    | _ => .stuck
def dPop (fo : D) : D := fun ρ S => (fo ρ S).bind fun o S1 => match o with
  | .ref n => match S1[n]? with
    | some (.lst xs) => match xs[xs.length - 1]? with
      | some y => .ok y (S1.set n (.lst xs.dropLast))
      | none => .stuck
    | _ => .stuck
  | _ => .stuck
section
variable {K : PySem.W.Frag}
theorem RVs.dropLast {ι : List Addr} {H : Hp} {xs : List Val} {vs : List V} (r : RVs K ι H xs vs) : RVs K ι H xs.dropLast vs.dropLast := by
  rw [List.dropLast_eq_take, List.dropLast_eq_take, r.length]
  exact RVs.take _ r
theorem ok_inS : OK2 K (fun x y H Q => ∃ (c : Nat) (z : Str), x = .str ⟨#[c]⟩ ∧ y = .str z ∧ Q (.bl (decide (c ∈ z.cps.toList))) H) oInS := by
  intro cv ι H S x y u v W Q hh rx ry q
  cases rx with
  | str a =>
    cases ry with
    | str z =>
      have q : Fin ⟨K, cv⟩ W ι H Q (match a.cps.toList with
        | [c] => okB (decide (c ∈ z.cps.toList)) S
        | _ => .stuck) := q
      split at q
      · rename_i c hc
        refine ⟨c, z, ?_, rfl, q ι H _ .refl hh (.bl _)⟩
        have : a.cps = #[c] := by
          have := congrArg List.toArray hc
          simpa using this
        cases a
        cases this
        rfl
      · exact q.elim
    | _ => exact q.elim
  | _ => exact q.elim
theorem ok_intS : OKA K (fun xs H Q => ∃ a n, xs = [.str a] ∧ PySem.intText? a = some n ∧ a.length ≤ 640 ∧ Q (.int n) H) bIntS := by
  intro cv ι H S xs us W Q hh rx q
  unfold bIntS at q
  split at q
  · rename_i z
    cases rx with
    | cons r1 rr =>
      cases rr; cases r1
      split at q
      · rename_i n hn
        split at q
        · rename_i hl
          exact ⟨z, n, rfl, hn, hl, q ι H _ .refl hh (.int _)⟩
        · exact q.elim
      · exact q.elim
  · exact q.elim
theorem ok_str : OKA K (fun xs H Q => ∃ i : Int, xs = [.int i] ∧ i.natAbs.log2 < 1920 ∧ Q (.str (toString i)) H) bStr := by
  intro cv ι H S xs us W Q hh rx q
  unfold bStr at q
  split at q
  · rename_i i
    cases rx with
    | cons r1 rr =>
      cases rr; cases r1
      split at q
      · rename_i hl
        exact ⟨i, rfl, hl, q ι H _ .refl hh (.str _)⟩
      · exact q.elim
  · exact q.elim
end
section
variable {X : Cx} {cv : Nat → Value} {W : WX} {o e : Expr} {pos apos cpos : Pos}
theorem pd_fmt {f : D} (he : PE X e (TD (Gm X cv) W f)) : PE X (.FormattedValue e (-1) none pos) (TD (Gm X cv) W (dFmt f)) :=
  (pe_fmt he).imp fun σ H Q ⟨ι, ρ, S, hs, hh, q⟩ => by
    refine ⟨ι, ρ, S, hs, hh, FinG.bind q fun x S1 ι1 H1 u e1 h1 r1 q1 => ?_⟩
    cases r1 with
    | str y =>
      have q1 : Fin (Gm X cv) (fun c d H' => W c d σ H') ι1 H1 Q (if y.length ≤ 16777216 then .ok (.str y) S1 else .stuck) := q1
      split at q1
      · rename_i hl
        exact .inl ⟨y, rfl, by rw [sizeLine_eq]; exact hl, q1.here h1 (.str y)⟩
      · exact q1.elim
    | int i =>
      have q1 : Fin (Gm X cv) (fun c d H' => W c d σ H') ι1 H1 Q (if i.natAbs.log2 < 1920 then .ok (.str (toString i)) S1 else .stuck) := q1
      split at q1
      · rename_i hl
        exact .inr ⟨i, rfl, hl, q1.here h1 (.str _)⟩
      · exact q1.elim
    | _ => exact q1.elim
inductive PJd (X : Cx) (cv : Nat → Value) (W : WX) : List Expr → List D → Prop where
  | nil : PJd X cv W [] []
  | cons {e : Expr} {f : D} {es : List Expr} {fs : List D} (h : PE X e (TD (Gm X cv) W f)) (r : PJd X cv W es fs) : PJd X cv W (e :: es) (f :: fs)
theorem PJd.pj {es : List Expr} {fs : List D} (h : PJd X cv W es fs) : PJ X es (fs.map (TD (Gm X cv) W)) := by
  induction h with
  | nil => exact .nil
  | cons h r ih => exact .cons h ih
theorem js_ok {σ : L2.St} {Q : VK} : ∀ (fs : List D) (acc : Str) (ι : List Addr) (H : Hp) (ρ : Env) (S : Store), RS X.K ι H ρ σ → RH X.K ι H S → Fin (Gm X cv) (fun c d H' => W c d σ H') ι H Q (dJs fs acc ρ S) → tJs (fs.map (TD (Gm X cv) W)) acc σ H fun out H1 => Q (.str out) H1
  | [], acc, ι, H, ρ, S, hs, hh, q => q.here hh (.str acc)
  | f :: fs, acc, ι, H, ρ, S, hs, hh, q => by
    refine ⟨ι, ρ, S, hs, hh, FinG.bind q fun x S1 ι1 H1 u e1 h1 r1 q1 => ?_⟩
    cases r1 with
    | str y =>
      have q1 : Fin (Gm X cv) (fun c d H' => W c d σ H') ι1 H1 Q (if (acc ++ y).length ≤ 16777216 then dJs fs (acc ++ y) ρ S1 else .stuck) := q1
      split at q1
      · rename_i hl
        exact ⟨y, rfl, by rw [sizeLine_eq]; exact hl, js_ok fs (acc ++ y) ι1 H1 ρ S1 (hs.ext e1) h1 q1⟩
      · exact q1.elim
    | _ => exact q1.elim
theorem pd_joined {v1 v2 : Expr} {rest : List Expr} {fs : List D} (h : PJd X cv W (v1 :: v2 :: rest) fs) : PE X (.JoinedStr (v1 :: v2 :: rest) pos) (TD (Gm X cv) W (dJs fs Str.empty)) :=
  (pe_joined h.pj).imp fun σ H Q ⟨ι, ρ, S, hs, hh, q⟩ => js_ok fs Str.empty ι H ρ S hs hh q
/-- xs.pop() -/
theorem pd_pop {fo : D} (ho : PE X o (TD (Gm X cv) W fo)) (hbase : attributeBase o "pop" X.env (eval o X.env) = eval o X.env := by rfl) (hline : (apos.endLine == cpos.line) = true := by rfl) :
    PE X (.Call (.Attribute o "pop" apos) [] [] cpos) (TD (Gm X cv) W (dPop fo)) :=
  (pe_bm0 PySem.F.plainAttrs_list PySem.F.slot_list_pop PySem.F.type_list_pop mt_pop ho hbase hline).imp fun σ H Q ⟨ι, ρ, S, hs, hh, q⟩ => by
    refine ⟨ι, ρ, S, hs, hh, FinG.bind q fun x S1 ι1 H1 u e1 h1 r1 q1 => ?_⟩
    cases x with
    | ref n =>
      cases r1 with
      | ref hn hlz =>
        rename_i a
        have q1 : Fin (Gm X cv) (fun c d H' => W c d σ H') ι1 H1 Q (match S1[n]? with
          | some (.lst xs) => match xs[xs.length - 1]? with
            | some y => .ok y (S1.set n (.lst xs.dropLast))
            | none => .stuck
          | _ => .stuck) := q1
        split at q1
        · rename_i xs ex
          split at q1
          · rename_i y ey
            obtain ⟨vs, rv, hv⟩ := h1.ok _ _ _ hn ex
            obtain ⟨v, ev, ry⟩ := rv.get ey
            rw [rv.length] at ev
            refine ⟨.inl ⟨rfl, vs, .of hv⟩, a, vs, v, rfl, rfl, hv, ev, ?_⟩
            exact q1 _ _ _ (Ext.write hn hv) (h1.write hn ex hv rv.dropLast) (ry.ext (Ext.write hn hv))
          · exact q1.elim
        · exact q1.elim
    | _ => exact q1.elim
end
theorem na_c {K : PySem.W.Frag} {C : Addr} {f : Str} {nms : List Str} (h : PySem.W.findIn K (.ref C) f = some none) (r : ∀ g ∈ nms, NoAttr K C g) : ∀ g ∈ f :: nms, NoAttr K C g := fun g hg => by
  rcases List.mem_cons.mp hg with rfl | hg
  · exact h
  · exact r g hg
end PD

/-! ## PDRun -/
set_option Elab.async false
set_option linter.all false
set_option maxRecDepth 100000
set_option maxHeartbeats 4000000
namespace PD
open PySem PySem.Spec L2
theorem w_var' {i : Nat} {ρ : PD.Env} {S : Store} {Q : Val → Store → Prop} : Run (dVar i ρ S) Q = match ρ[i]? with | some (some v) => Q v S | _ => False := by
  unfold dVar
  cases ρ[i]? with
  | none => rfl
  | some o => cases o <;> rfl
theorem run_alloc {xs : List Val} {S : Store} {Q : Val → Store → Prop} : Run (alloc xs S) Q = Q (.ref S.length) (S ++ [.lst xs]) := rfl
theorem run_okI {i : Int} {S : Store} {Q : Val → Store → Prop} : Run (okI i S) Q = Q (.int i) S := rfl
theorem run_okB {i : Bool} {S : Store} {Q : Val → Store → Prop} : Run (okB i S) Q = Q (.bl i) S := rfl
def Gr (S S' : Store) : Prop := ∃ G, S' = S ++ G
theorem Gr.refl (S : Store) : Gr S S := ⟨[], (List.append_nil S).symm⟩
theorem Gr.trans {S S' S2 : Store} (a : Gr S S') (b : Gr S' S2) : Gr S S2 := by
  obtain ⟨G, rfl⟩ := a
  obtain ⟨G', rfl⟩ := b
  exact ⟨G ++ G', List.append_assoc _ _ _⟩
theorem Gr.add (S : Store) (G : Store) : Gr S (S ++ G) := ⟨G, rfl⟩
theorem Gr.get {S S' : Store} (h : Gr S S') {n : Nat} {c : Cell} (e : S[n]? = some c) : S'[n]? = some c := by
  obtain ⟨G, rfl⟩ := h
  rw [List.getElem?_append_left (List.getElem?_eq_some_iff.mp e).1]; exact e
theorem get_new (S : Store) (c : Cell) : (S ++ [c])[S.length]? = some c := by simp
/-- the answer is a, and the store only grew -/
abbrev PureQ {α : Type} (S : Store) (a : α) : α → Store → Prop := fun b S' => b = a ∧ Gr S S'
/-- a comprehension over values, whose element is pure -/
theorem comp_pure {f : D} {v : Nat} {ρ : PD.Env} {g : Val → Val} : ∀ (xs : List Val) (i : Nat) (acc : List Val) (S0 S : Store), Gr S0 S → acc.length + xs.length < 16777216 →
    (∀ x ∈ xs, ∀ S', Gr S0 S' → Run (f (ρ.set v (some x)) S') (PureQ S' (g x))) → ∀ ys, ys.drop i = xs → i ≤ ys.length →
    Run (compG (srcL ys) (gN v) tYes' f xs.length i acc ρ S) (PureQ S (acc ++ xs.map g))
  | [], i, acc, S0, S, _, _, _, ys, hd, hi => by
    have : ys[i]? = none := by
      rw [List.getElem?_eq_none_iff]
      have := congrArg List.length hd
      simp at this; omega
    show Run (match srcL ys i S with | some none => Res.ok acc S | _ => .stuck) _
    unfold srcL
    rw [this]
    exact ⟨by simp, .refl S⟩
  | x :: xs, i, acc, S0, S, hg, hl, he, ys, hd, hi => by
    have hlt : i < ys.length := by
      have := congrArg List.length hd
      simp at this; omega
    have e0 := List.drop_eq_getElem_cons hlt
    rw [hd] at e0
    have hx : ys[i]? = some x := by rw [List.getElem?_eq_getElem hlt, (List.cons.inj e0).1]
    have hl' : acc.length + (xs.length + 1) < 16777216 := hl
    show Run (match srcL ys i S with
      | none => Res.stuck
      | some none => .ok acc S
      | some (some x) => match gN v x ρ with
        | none => .stuck
        | some ρ1 => (noX (tYes' ρ1 S)).bind fun b S1 => if b = true then (noX (f ρ1 S1)).bind fun y S2 => if acc.length < 16777216 then compG (srcL ys) (gN v) tYes' f xs.length (i + 1) (acc ++ [y]) ρ S2 else .stuck
            else compG (srcL ys) (gN v) tYes' f xs.length (i + 1) acc ρ S1) _
    have es : srcL ys i S = some (some x) := by unfold srcL; rw [hx]
    rw [es]
    show Run ((noX (f (ρ.set v (some x)) S)).bind fun y S2 => if acc.length < 16777216 then compG (srcL ys) (gN v) tYes' f xs.length (i + 1) (acc ++ [y]) ρ S2 else .stuck) _
    rw [run_bind, run_noX]
    refine Run.mono (he x List.mem_cons_self S hg) fun y S1 ⟨ey, g1⟩ => ?_
    rw [if_pos (by omega)]
    refine Run.mono (comp_pure (g := g) xs (i + 1) (acc ++ [y]) S0 S1 (hg.trans g1) (by simp; omega) (fun y hy => he y (List.mem_cons_of_mem _ hy)) ys (List.cons.inj e0).2.symm hlt) fun zs S2 ⟨ez, g2⟩ => ?_
    exact ⟨by rw [ez, ey]; simp, g1.trans g2⟩
theorem comp_pure0 {f : D} {g : Val → Val} {v : Nat} {ρ : PD.Env} (xs : List Val) (S : Store) (hl : xs.length < 16777216) (he : ∀ x ∈ xs, ∀ S', Gr S S' → Run (f (ρ.set v (some x)) S') (PureQ S' (g x))) :
    Run (compG (srcL xs) (gN v) tYes' f xs.length 0 [] ρ S) (PureQ S (xs.map g)) := by
  have := comp_pure (f := f) (g := g) (v := v) (ρ := ρ) xs 0 [] S S (.refl S) (by simpa using hl) he xs rfl (Nat.zero_le _)
  simpa using this
/-! ### data: what a value holds, to some depth -/
inductive Da (S : Store) : Nat → Val → Prop
  | non (d : Nat) : Da S d .non
  | bl (d : Nat) (b : Bool) : Da S d (.bl b)
  | int (d : Nat) (i : Int) : Da S d (.int i)
  | str (d : Nat) (z : Str) : (PyData.str z).canLay0 = true → Da S d (.str z)
  | tup {d : Nat} {xs : List Val} : (∀ x ∈ xs, Da S d x) → Da S (d + 1) (.tup xs)
  | ref {d n : Nat} {xs : List Val} : S[n]? = some (.lst xs) → (∀ x ∈ xs, Da S d x) → Da S (d + 1) (.ref n)
theorem Da.up {S : Store} {d : Nat} {v : Val} (h : Da S d v) : ∀ {e : Nat}, d ≤ e → Da S e v := by
  induction h with
  | non d => exact fun _ => .non _
  | bl d b => exact fun _ => .bl _ b
  | int d i => exact fun _ => .int _ i
  | str d z h => exact fun _ => .str _ z h
  | @tup d xs _ ih =>
    intro e he
    obtain ⟨e', rfl⟩ : ∃ e', e = e' + 1 := ⟨e - 1, by omega⟩
    exact .tup fun x hx => ih x hx (by omega)
  | @ref d n xs hn _ ih =>
    intro e he
    obtain ⟨e', rfl⟩ : ∃ e', e = e' + 1 := ⟨e - 1, by omega⟩
    exact .ref hn fun x hx => ih x hx (by omega)
/-- where another store has the same cells -/
theorem Da.same {S S' : Store} {d : Nat} {v : Val} (h : Da S d v) (k : ∀ (n : Nat) (c : Cell), S[n]? = some c → S'[n]? = some c) : Da S' d v := by
  induction h with
  | non d => exact .non _
  | bl d b => exact .bl _ b
  | int d i => exact .int _ i
  | str d z h => exact .str _ z h
  | tup _ ih => exact .tup ih
  | ref hn _ ih => exact .ref (k _ _ hn) ih
theorem Da.gr {S S' : Store} {d : Nat} {v : Val} (h : Da S d v) (g : Gr S S') : Da S' d v := h.same fun _ _ e => g.get e
theorem allSome_all {α β : Type} {f : α → Option β} {g : α → β} : ∀ {xs : List α}, (∀ x ∈ xs, f x = some (g x)) → allSome (xs.map f) = some (xs.map g)
  | [], _ => rfl
  | x :: xs, h => by
    rw [List.map_cons, List.map_cons]
    unfold allSome
    rw [h x List.mem_cons_self, allSome_all fun y hy => h y (List.mem_cons_of_mem _ hy)]
/-- what it is as data -/
def dat (S : Store) (v : Val) : PyData := (toD 66 S v).getD .none
theorem Da.toD {S : Store} {d : Nat} {v : Val} (h : Da S d v) : ∀ f f' : Nat, d < f → d < f' → toD f S v = toD f' S v ∧ ∃ p, toD f S v = some p := by
  induction h with
  | non d => intro f f' h1 h2; obtain ⟨f, rfl⟩ : ∃ g, f = g + 1 := ⟨f - 1, by omega⟩; obtain ⟨f', rfl⟩ : ∃ g, f' = g + 1 := ⟨f' - 1, by omega⟩; exact ⟨rfl, _, rfl⟩
  | bl d b => intro f f' h1 h2; obtain ⟨f, rfl⟩ : ∃ g, f = g + 1 := ⟨f - 1, by omega⟩; obtain ⟨f', rfl⟩ : ∃ g, f' = g + 1 := ⟨f' - 1, by omega⟩; exact ⟨rfl, _, rfl⟩
  | int d b => intro f f' h1 h2; obtain ⟨f, rfl⟩ : ∃ g, f = g + 1 := ⟨f - 1, by omega⟩; obtain ⟨f', rfl⟩ : ∃ g, f' = g + 1 := ⟨f' - 1, by omega⟩; exact ⟨rfl, _, rfl⟩
  | str d b => intro f f' h1 h2; obtain ⟨f, rfl⟩ : ∃ g, f = g + 1 := ⟨f - 1, by omega⟩; obtain ⟨f', rfl⟩ : ∃ g, f' = g + 1 := ⟨f' - 1, by omega⟩; exact ⟨rfl, _, rfl⟩
  | @tup d xs _ ih =>
    intro f f' h1 h2
    obtain ⟨f, rfl⟩ : ∃ g, f = g + 1 := ⟨f - 1, by omega⟩
    obtain ⟨f', rfl⟩ : ∃ g, f' = g + 1 := ⟨f' - 1, by omega⟩
    have e : xs.map (PD.toD f S) = xs.map (PD.toD f' S) := List.map_congr_left fun x hx => (ih x hx f f' (by omega) (by omega)).1
    have a : allSome (xs.map (PD.toD f S)) = some (xs.map fun x => (PD.toD f S x).getD .none) := allSome_all fun x hx => by
      obtain ⟨p, hp⟩ := (ih x hx f f' (by omega) (by omega)).2
      rw [hp]; rfl
    refine ⟨?_, ?_⟩
    · show (allSome (xs.map (PD.toD f S))).map PyData.tuple = (allSome (xs.map (PD.toD f' S))).map PyData.tuple
      rw [e]
    · exact ⟨_, show (allSome (xs.map (PD.toD f S))).map PyData.tuple = _ by rw [a]; rfl⟩
  | @ref d n xs hn _ ih =>
    intro f f' h1 h2
    obtain ⟨f, rfl⟩ : ∃ g, f = g + 1 := ⟨f - 1, by omega⟩
    obtain ⟨f', rfl⟩ : ∃ g, f' = g + 1 := ⟨f' - 1, by omega⟩
    have e : xs.map (PD.toD f S) = xs.map (PD.toD f' S) := List.map_congr_left fun x hx => (ih x hx f f' (by omega) (by omega)).1
    have a : allSome (xs.map (PD.toD f S)) = some (xs.map fun x => (PD.toD f S x).getD .none) := allSome_all fun x hx => by
      obtain ⟨p, hp⟩ := (ih x hx f f' (by omega) (by omega)).2
      rw [hp]; rfl
    have u : ∀ g, PD.toD (g + 1) S (.ref n) = (allSome (xs.map (PD.toD g S))).map PyData.list := fun g => by
      show (match S[n]? with | some c => (allSome (c.items.map (PD.toD g S))).map PyData.list | none => none) = _
      rw [hn]; rfl
    exact ⟨by rw [u, u, e], _, by rw [u, a]; rfl⟩
theorem Da.dat {S : Store} {d : Nat} {v : Val} (h : Da S d v) {f : Nat} (h1 : d < f) (h2 : d < 66) : PD.toD f S v = some (dat S v) := by
  obtain ⟨e, p, hp⟩ := h.toD 66 f h2 h1
  unfold PD.dat
  rw [← e, hp]; rfl
theorem dat_tup {S : Store} {d : Nat} {xs : List Val} (h : ∀ x ∈ xs, Da S d x) (hd : d < 65) : dat S (.tup xs) = .tuple (xs.map (dat S)) := by
  unfold dat
  have : allSome (xs.map (PD.toD 65 S)) = some (xs.map fun x => (toD 66 S x).getD .none) := allSome_all fun x hx => (h x hx).dat (by omega) (by omega)
  show ((allSome (xs.map (PD.toD 65 S))).map PyData.tuple).getD .none = _
  rw [this]; rfl
theorem dat_ref {S : Store} {d n : Nat} {xs : List Val} (hn : S[n]? = some (.lst xs)) (h : ∀ x ∈ xs, Da S d x) (hd : d < 65) : dat S (.ref n) = .list (xs.map (dat S)) := by
  unfold dat
  have : allSome (xs.map (PD.toD 65 S)) = some (xs.map fun x => (toD 66 S x).getD .none) := allSome_all fun x hx => (h x hx).dat (by omega) (by omega)
  show ((match S[n]? with | some c => (allSome (c.items.map (PD.toD 65 S))).map PyData.list | none => none)).getD .none = _
  rw [hn]
  show ((allSome (xs.map (PD.toD 65 S))).map PyData.list).getD .none = _
  rw [this]; rfl
theorem canLay_all : ∀ {ps : List PyData}, (∀ p ∈ ps, p.canLay0 = true) → PyData.canLayAll0 ps = true
  | [], _ => rfl
  | p :: ps, h => by
    show (p.canLay0 && PyData.canLayAll0 ps) = true
    rw [h p List.mem_cons_self, canLay_all fun q hq => h q (List.mem_cons_of_mem _ hq)]; rfl
theorem depth_all {d : Nat} : ∀ {ps : List PyData}, (∀ p ∈ ps, p.depth ≤ d) → PyData.depthAll ps ≤ d
  | [], _ => Nat.zero_le _
  | p :: ps, h => by
    have h1 := h p List.mem_cons_self
    have h2 := depth_all fun q hq => h q (List.mem_cons_of_mem _ hq)
    show max p.depth (PyData.depthAll ps) ≤ d
    omega
theorem Da.lay {S : Store} {d : Nat} {v : Val} (h : Da S d v) : d < 65 → (PD.dat S v).canLay0 = true ∧ (PD.dat S v).depth ≤ d := by
  induction h with
  | non d => exact fun _ => ⟨rfl, Nat.zero_le _⟩
  | bl d b => exact fun _ => ⟨rfl, Nat.zero_le _⟩
  | int d i => exact fun _ => ⟨rfl, Nat.zero_le _⟩
  | str d z hz => exact fun _ => ⟨hz, Nat.zero_le _⟩
  | @tup d xs hx ih =>
    intro hd
    rw [dat_tup hx (by omega)]
    refine ⟨canLay_all fun p hp => ?_, ?_⟩
    · obtain ⟨x, hx', rfl⟩ := List.mem_map.mp hp
      exact (ih x hx' (by omega)).1
    · have : PyData.depthAll (xs.map (PD.dat S)) ≤ d := depth_all fun p hp => by
        obtain ⟨x, hx', rfl⟩ := List.mem_map.mp hp
        exact (ih x hx' (by omega)).2
      show PyData.depthAll (xs.map (PD.dat S)) + 1 ≤ d + 1
      omega
  | @ref d n xs hn hx ih =>
    intro hd
    rw [dat_ref hn hx (by omega)]
    refine ⟨canLay_all fun p hp => ?_, ?_⟩
    · obtain ⟨x, hx', rfl⟩ := List.mem_map.mp hp
      exact (ih x hx' (by omega)).1
    · have : PyData.depthAll (xs.map (PD.dat S)) ≤ d := depth_all fun p hp => by
        obtain ⟨x, hx', rfl⟩ := List.mem_map.mp hp
        exact (ih x hx' (by omega)).2
      show PyData.depthAll (xs.map (PD.dat S)) + 1 ≤ d + 1
      omega
theorem Da.shaped {S : Store} {d : Nat} {v : Val} (h : Da S d v) (hd : d < 65) : SeqAt.shaped (PD.dat S v) = true := by
  obtain ⟨h1, h2⟩ := h.lay hd
  unfold SeqAt.shaped
  rw [h1, decide_eq_true (by omega)]; rfl
theorem deq_dat {S : Store} {d e : Nat} {x y : Val} (hx : Da S d x) (hy : Da S e y) (hd : d < 65) (he : e < 65) : deq x y S = some (PyData.eqv (dat S x) (dat S y)) := by
  have gen : (match toD 66 S x, toD 66 S y with
    | some d, some e => if SeqAt.shaped d = true ∧ SeqAt.shaped e = true then some (PyData.eqv d e) else none
    | _, _ => none) = some (PyData.eqv (dat S x) (dat S y)) := by
    rw [hx.dat (f := 66) (by omega) (by omega), hy.dat (f := 66) (by omega) (by omega)]
    show (if SeqAt.shaped (dat S x) = true ∧ SeqAt.shaped (dat S y) = true then some _ else none) = _
    rw [if_pos ⟨hx.shaped hd, hy.shaped he⟩]
  cases hx with
  | int _ a =>
    cases hy with
    | int _ b =>
      show some (decide (a = b)) = some (a == b)
      rw [Bool.beq_eq_decide_eq]
    | _ => exact gen
  | _ => exact gen
theorem run_eq {S : Store} {d e : Nat} {x y : Val} {Q : Val → Store → Prop} (hx : Da S d x) (hy : Da S e y) (hd : d < 65) (he : e < 65) : Run (oEq x y S) Q = Q (.bl (PyData.eqv (dat S x) (dat S y))) S := by
  unfold oEq
  rw [deq_dat hx hy hd he]; rfl
theorem run_ne {S : Store} {d e : Nat} {x y : Val} {Q : Val → Store → Prop} (hx : Da S d x) (hy : Da S e y) (hd : d < 65) (he : e < 65) : Run (oNe x y S) Q = Q (.bl (!PyData.eqv (dat S x) (dat S y))) S := by
  unfold oNe
  rw [deq_dat hx hy hd he]; rfl
theorem run_eqI {S : Store} {a b : Int} {Q : Val → Store → Prop} : Run (oEq (.int a) (.int b) S) Q = Q (.bl (decide (a = b))) S := rfl
theorem run_neI {S : Store} {a b : Int} {Q : Val → Store → Prop} : Run (oNe (.int a) (.int b) S) Q = Q (.bl (!decide (a = b))) S := rfl
/-- what stood stands -/
def Kp (S S' : Store) : Prop := ∀ (n : Nat) (c : Cell), S[n]? = some c → S'[n]? = some c
theorem Kp.refl (S : Store) : Kp S S := fun _ _ h => h
theorem Kp.trans {S S' S2 : Store} (a : Kp S S') (b : Kp S' S2) : Kp S S2 := fun n c h => b n c (a n c h)
theorem Gr.kp {S S' : Store} (g : Gr S S') : Kp S S' := fun _ _ e => g.get e
theorem Da.kp {S S' : Store} {d : Nat} {v : Val} (h : Da S d v) (k : Kp S S') : Da S' d v := h.same k
abbrev PureK {α : Type} (S : Store) (a : α) : α → Store → Prop := fun b S' => b = a ∧ Kp S S'
theorem set_get {S : Store} {m : Nat} {c d : Cell} (h : S[m]? = some c) : (S.set m d)[m]? = some d := by
  rw [List.getElem?_set_self (List.getElem?_eq_some_iff.mp h).1]
theorem set_self {S : Store} {m : Nat} {c : Cell} (h : S[m]? = some c) : S.set m c = S := by
  apply List.ext_getElem?
  intro i
  by_cases e : m = i
  · subst e; rw [set_get h, h]
  · rw [List.getElem?_set_ne e]
theorem ty_int {i : Int} {S : Store} : tyN (.int i) S = some "int" := rfl
theorem ty_bl {i : Bool} {S : Store} : tyN (.bl i) S = some "bool" := rfl
theorem ty_str {i : Str} {S : Store} : tyN (.str i) S = some "str" := rfl
theorem ty_non {S : Store} : tyN .non S = some "NoneType" := rfl
theorem ty_tup {i : List Val} {S : Store} : tyN (.tup i) S = some "tuple" := rfl
theorem ty_ref {m : Nat} {c : Cell} {S : Store} (h : S[m]? = some c) : tyN (.ref m) S = some "list" := by
  show (match S[m]? with | some _ => some "list" | none => none) = _
  rw [h]
theorem askInt : "int" ∈ askedT := by decide
theorem askBool : "bool" ∈ askedT := by decide
theorem askTuple : "tuple" ∈ askedT := by decide
theorem askList : "list" ∈ askedT := by decide
theorem askStr : "str" ∈ askedT := by decide
theorem atI0 {α : Type} {a : α} {as : List α} : L2.atI (a :: as) 0 = some a := atI_nat (j := 0) rfl
theorem atI1 {α : Type} {a b : α} {as : List α} : L2.atI (a :: b :: as) 1 = some b := atI_nat (j := 1) rfl
theorem atI2 {α : Type} {a b c : α} {as : List α} : L2.atI (a :: b :: c :: as) 2 = some c := atI_nat (j := 2) rfl
theorem dat_int (S : Store) (i : Int) : dat S (.int i) = .int i := rfl
theorem dat_bl (S : Store) (i : Bool) : dat S (.bl i) = .bool i := rfl
def isI (v : Val) (i : Int) : Bool := match v with
  | .int j => decide (j = i)
  | _ => false
theorem two_of {α : Type} {xs : List α} (h : xs.length = 2) : ∃ a b, xs = [a, b] := by
  match xs, h with
  | [a, b], _ => exact ⟨a, b, rfl⟩
theorem three_of {α : Type} {xs : List α} (h : xs.length = 3) : ∃ a b c, xs = [a, b, c] := by
  match xs, h with
  | [a, b, c], _ => exact ⟨a, b, c, rfl⟩
theorem atIm1 {α : Type} {a b : α} : L2.atI [a, b] (-1) = some b := rfl
theorem atIm2 {α : Type} {a b : α} : L2.atI [a, b] (-2) = some a := rfl
theorem atIm1' {α : Type} {a b c : α} : L2.atI [a, b, c] (-1) = some c := rfl
theorem atIm2' {α : Type} {a b c : α} : L2.atI [a, b, c] (-2) = some b := rfl
theorem log_small {b : Int} (h0 : 0 ≤ b) (h : b < 2147483648) : b.natAbs.log2 < 1000 := by
  have : b.natAbs < 2 ^ 1000 := Nat.lt_of_lt_of_le (show b.natAbs < 2 ^ 31 by omega) (Nat.pow_le_pow_right (by decide) (by decide))
  exact PySem.Flt.log2_lt_of (by decide) this
theorem log_many {b : Int} (h0 : 0 < b) (h : b ≤ 1000000) : b.natAbs.log2 < 9000 := Nat.lt_of_lt_of_le (log_small (by omega) (by omega)) (by decide)
theorem set_other {S : Store} {c n : Nat} {d e : Cell} (h : n ≠ c) (q : S[n]? = some d) : (S.set c e)[n]? = some d := by
  rw [List.getElem?_set_ne (Ne.symm h)]; exact q
theorem run_ixR {c : Nat} {xs : List Val} {S : Store} {i : Int} {Q : Val → Store → Prop} (h : S[c]? = some (.lst xs)) : Run (oIx (.ref c) (.int i) S) Q = Run (match L2.atI xs i with | some z => Res.ok z S | none => .stuck) Q := by
  show Run (match S[c]? with | some d => (match L2.atI d.items i with | some z => Res.ok z S | none => .stuck) | none => .stuck) Q = _
  rw [h]; rfl
theorem run_modP {a m : Int} {S : Store} {Q : Val → Store → Prop} (h : 0 < m) : Run (oMod (.int a) (.int m) S) Q = Q (.int (a % m)) S := by
  show Run (if 0 < m then okI (a % m) S else .stuck) Q = _
  rw [if_pos h]; rfl
theorem run_divP {a m : Int} {S : Store} {Q : Val → Store → Prop} (h : 0 < m) (h1 : m ≤ 1000000) : Run (oDiv (.int a) (.int m) S) Q = Q (.int (a / m)) S := by
  show Run (if 0 < m ∧ m.natAbs.log2 < 9000 then okI (a / m) S else .stuck) Q = _
  rw [if_pos ⟨h, log_many h h1⟩]; rfl
theorem run_mulP {a b : Int} {S : Store} {Q : Val → Store → Prop} (h0 : 0 ≤ a) (h1 : a < 2147483648) (g0 : 0 ≤ b) (g1 : b < 2147483648) : Run (oMul (.int a) (.int b) S) Q = Q (.int (a * b)) S := by
  show Run (if a.natAbs.log2 + b.natAbs.log2 < 1000000 then okI (a * b) S else .stuck) Q = _
  have := log_small h0 h1
  have := log_small g0 g1
  rw [if_pos (by omega)]; rfl
theorem run_gtI {a b : Int} {S : Store} {Q : Val → Store → Prop} : Run (oGt (.int a) (.int b) S) Q = Q (.bl (decide (b < a))) S := rfl
theorem run_bIntI {a : Int} {S : Store} {Q : Val → Store → Prop} : Run (bInt [.int a] S) Q = Q (.int a) S := rfl
/-! ### data that does not hold the cup -/
def Kx (c : Nat) (S S' : Store) : Prop := ∀ (n : Nat) (d : Cell), n ≠ c → S[n]? = some d → S'[n]? = some d
theorem Kx.refl (c : Nat) (S : Store) : Kx c S S := fun _ _ _ e => e
theorem Kx.trans {c : Nat} {S S' S2 : Store} (a : Kx c S S') (b : Kx c S' S2) : Kx c S S2 := fun n d h e => b n d h (a n d h e)
theorem Kp.kx {c : Nat} {S S' : Store} (a : Kp S S') : Kx c S S' := fun n d _ e => a n d e
inductive Dc (c : Nat) (S : Store) : Nat → Val → Prop
  | non (d : Nat) : Dc c S d .non
  | bl (d : Nat) (b : Bool) : Dc c S d (.bl b)
  | int (d : Nat) (i : Int) : Dc c S d (.int i)
  | str (d : Nat) (z : Str) : (PyData.str z).canLay0 = true → Dc c S d (.str z)
  | tup {d : Nat} {xs : List Val} : (∀ x ∈ xs, Dc c S d x) → Dc c S (d + 1) (.tup xs)
  | ref {d n : Nat} {xs : List Val} : n ≠ c → S[n]? = some (.lst xs) → (∀ x ∈ xs, Dc c S d x) → Dc c S (d + 1) (.ref n)
theorem Dc.da {c : Nat} {S : Store} {d : Nat} {v : Val} (h : Dc c S d v) : Da S d v := by
  induction h with
  | non d => exact .non _
  | bl d b => exact .bl _ _
  | int d i => exact .int _ _
  | str d z h => exact .str _ z h
  | tup _ ih => exact .tup ih
  | ref _ hn _ ih => exact .ref hn ih
theorem Dc.kx {c : Nat} {S S' : Store} {d : Nat} {v : Val} (h : Dc c S d v) (k : Kx c S S') : Dc c S' d v := by
  induction h with
  | non d => exact .non _
  | bl d b => exact .bl _ _
  | int d i => exact .int _ _
  | str d z h => exact .str _ z h
  | tup _ ih => exact .tup ih
  | ref hc hn _ ih => exact .ref hc (k _ _ hc hn) ih
theorem Dc.up {c : Nat} {S : Store} {d : Nat} {v : Val} (h : Dc c S d v) : ∀ {e : Nat}, d ≤ e → Dc c S e v := by
  induction h with
  | non d => exact fun _ => .non _
  | bl d b => exact fun _ => .bl _ b
  | int d i => exact fun _ => .int _ i
  | str d z h => exact fun _ => .str _ z h
  | @tup d xs _ ih =>
    intro e he
    obtain ⟨e', rfl⟩ : ∃ e', e = e' + 1 := ⟨e - 1, by omega⟩
    exact .tup fun x hx => ih x hx (by omega)
  | @ref d n xs hc hn _ ih =>
    intro e he
    obtain ⟨e', rfl⟩ : ∃ e', e = e' + 1 := ⟨e - 1, by omega⟩
    exact .ref hc hn fun x hx => ih x hx (by omega)
theorem Dc.dat_kx {c : Nat} {S S' : Store} (k : Kx c S S') {d : Nat} {v : Val} (h : Dc c S d v) : d < 66 → PD.dat S v = PD.dat S' v := by
  induction h with
  | non d => exact fun _ => rfl
  | bl d b => exact fun _ => rfl
  | int d i => exact fun _ => rfl
  | str d z h => exact fun _ => rfl
  | @tup d xs hx ih =>
    intro hd
    rw [dat_tup (fun x h => (hx x h).da) (by omega), dat_tup (fun x h => ((hx x h).kx k).da) (by omega), List.map_congr_left fun x h => ih x h (by omega)]
  | @ref d n xs hc hn hx ih =>
    intro hd
    rw [dat_ref hn (fun x h => (hx x h).da) (by omega), dat_ref (k _ _ hc hn) (fun x h => ((hx x h).kx k).da) (by omega), List.map_congr_left fun x h => ih x h (by omega)]
/-! ### the lengths of what repr shows -/
theorem tuple_len (ts : List Str) : (tupleText ts).length ≤ piled ts + 3 := by
  unfold tupleText
  rw [strLen_append, strLen_append]
  have e1 : ((("(" : String) : Str)).length = 1 := rfl
  have e3 : (((if ts.length == 1 then ",)" else ")" : String) : Str)).length ≤ 2 := by split <;> decide
  rw [e1]
  by_cases h : ts = []
  · subst h
    show 1 + (Str.join ", " []).length + 1 ≤ 0 + 3
    decide
  · have := join_length_add ts h
    omega
theorem list_len : ∀ ts : List Str, (listText ts).length ≤ piled ts + 3
  | [] => by decide
  | t :: r => by
    have h := textFrom_length_pos r 1 (("[" : Str) ++ (if (0 : Nat) > 0 then ", " else "" : String) ++ t) (Nat.succ_pos 0)
    have e : ((("[" : Str) ++ (if (0 : Nat) > 0 then ", " else "" : String) ++ t)).length = 1 + t.length := by
      rw [strLen_append, strLen_append]; rfl
    have hX : (listText (t :: r)).length = (textFrom 0 "[" (t :: r)).length + 1 := by
      show (textFrom 0 "[" (t :: r) ++ "]").length = _
      rw [strLen_append]; rfl
    have hY : (textFrom 0 "[" (t :: r)).length = (textFrom 1 (("[" : Str) ++ (if (0 : Nat) > 0 then ", " else "" : String) ++ t) r).length := rfl
    rw [hX, hY, h, e, piled_cons]; omega
/-! ### what repr shows is text -/
theorem ok_app {a b : Str} (ha : PyData.strOk a = true) (hb : PyData.strOk b = true) : PyData.strOk (a ++ b) = true := by
  unfold PyData.strOk at *
  show (a.cps ++ b.cps).all _ = true
  rw [Array.all_append, ha, hb]; rfl
theorem ok_of (s : String) : PyData.strOk (Str.ofString s) = true := by
  unfold PyData.strOk Str.ofString
  simp only [cpsOfBytes_string, List.all_toArray, List.all_map, List.all_eq_true, Function.comp, decide_eq_true_eq]
  intro c _
  have := c.valid
  rcases this with h | ⟨_, h⟩
  · exact Nat.lt_trans h (by decide)
  · exact h
theorem ok_from : ∀ (ts : List Str) (k : Nat) (acc : Str), PyData.strOk acc = true → (∀ t ∈ ts, PyData.strOk t = true) → PyData.strOk (textFrom k acc ts) = true
  | [], _, acc, h, _ => h
  | t :: r, k, acc, h, q => ok_from r (k + 1) _ (ok_app (ok_app h (ok_of _)) (q t List.mem_cons_self)) fun u hu => q u (List.mem_cons_of_mem _ hu)
theorem ok_list {ts : List Str} (q : ∀ t ∈ ts, PyData.strOk t = true) : PyData.strOk (listText ts) = true := ok_app (ok_from ts 0 _ (ok_of _) q) (ok_of _)
theorem ok_join : ∀ ts : List Str, (∀ t ∈ ts, PyData.strOk t = true) → PyData.strOk (Str.join ", " ts) = true
  | [], _ => by decide +kernel
  | [x], q => q x List.mem_cons_self
  | x :: y :: r, q => ok_app (ok_app (q x List.mem_cons_self) (ok_of _)) (ok_join (y :: r) fun u hu => q u (List.mem_cons_of_mem _ hu))
theorem okt_tuple {ts : List Str} (q : ∀ t ∈ ts, PyData.strOk t = true) : PyData.strOk (tupleText ts) = true := ok_app (ok_app (ok_of _) (ok_join ts q)) (ok_of _)
/-- data off the cup, of a depth, and of a length when shown -/
structure Good (c : Nat) (S : Store) (d L : Nat) (v : Val) : Prop where
  da : Dc c S d v
  sh : (dat S v).showable = true
  ln : (dat S v).shown.length ≤ L
  ok : PyData.strOk (dat S v).shown = true
theorem Good.kx {c : Nat} {S S' : Store} {d L : Nat} {v : Val} (h : Good c S d L v) (k : Kx c S S') (hd : d < 66) : Good c S' d L v :=
  ⟨h.da.kx k, by rw [← h.da.dat_kx k hd]; exact h.sh, by rw [← h.da.dat_kx k hd]; exact h.ln, by rw [← h.da.dat_kx k hd]; exact h.ok⟩
theorem Good.up {c : Nat} {S : Store} {d L d' L' : Nat} {v : Val} (h : Good c S d L v) (h1 : d ≤ d') (h2 : L ≤ L') : Good c S d' L' v := ⟨h.da.up h1, h.sh, Nat.le_trans h.ln h2, h.ok⟩
section
variable {c : Nat} {S : Store} {d : Nat}
theorem Good.int {L : Nat} {i : Int} (h : i.natAbs < 10 ^ 100) (hL : 101 ≤ L) : Good c S d L (.int i) :=
  ⟨.int _ _, by
    show decide (i.natAbs.log2 < 1920) = true
    exact decide_eq_true (PySem.Flt.log2_lt_of (by decide) (Nat.lt_of_lt_of_le h (by decide +kernel))), by
    show (Str.ofString (toString i)).length ≤ L
    have := int_text_length_le10 (k := 100) (by decide) h
    clear h
    rw [ofString_length]
    omega, ok_of _⟩
theorem Good.non {L : Nat} (h : 4 ≤ L) : Good c S d L .non := ⟨.non _, rfl, h, ok_of _⟩
theorem Good.bl {L : Nat} {b : Bool} (h : 5 ≤ L) : Good c S d L (.bl b) := ⟨.bl _ _, rfl, by cases b; exact h; exact Nat.le_trans (show (4 : Nat) ≤ 5 by omega) h, by cases b <;> exact ok_of _⟩
theorem Good.str {L : Nat} {z : Str} (h : (PyData.str z).canLay0 = true) (hl : (reprText z).length ≤ L) (ho : PyData.strOk (reprText z) = true) : Good c S d L (.str z) := ⟨.str _ _ h, rfl, hl, ho⟩
/-- the items of a sequence, with the length that they pile up to -/
inductive Goods (c : Nat) (S : Store) (d : Nat) : Nat → List Val → Prop
  | nil (L : Nat) : Goods c S d L []
  | cons {L M N : Nat} {x : Val} {xs : List Val} : Good c S d L x → Goods c S d M xs → L + 2 + M ≤ N → Goods c S d N (x :: xs)
theorem Goods.all {L : Nat} {xs : List Val} (h : Goods c S d L xs) : (∀ x ∈ xs, Dc c S d x) ∧ PyData.showableAll (xs.map (dat S)) = true ∧ piled (PyData.shownAll (xs.map (dat S))) ≤ L ∧ ∀ t ∈ PyData.shownAll (xs.map (dat S)), PyData.strOk t = true := by
  induction h with
  | nil L => exact ⟨(fun _ h => nomatch h), rfl, Nat.zero_le _, fun _ h => nomatch h⟩
  | @cons L M N x xs hx _ hN ih =>
    obtain ⟨i1, i2, i3, i4⟩ := ih
    refine ⟨fun y hy => ?_, ?_, ?_, fun t ht => ?_⟩
    · rcases List.mem_cons.mp hy with rfl | hy
      · exact hx.da
      · exact i1 y hy
    · show (PyData.showable (dat S x) && PyData.showableAll (xs.map (dat S))) = true
      rw [hx.sh, i2]; rfl
    · show piled (PyData.shown (dat S x) :: PyData.shownAll (xs.map (dat S))) ≤ N
      rw [piled_cons]
      have := hx.ln
      omega
    · rcases List.mem_cons.mp ht with rfl | ht
      · exact hx.ok
      · exact i4 t ht
theorem Good.tup {L N : Nat} {xs : List Val} (h : Goods c S d L xs) (hd : d < 65) (hN : L + 3 ≤ N) : Good c S (d + 1) N (.tup xs) := by
  obtain ⟨i1, i2, i3, i4⟩ := h.all
  have e := dat_tup (fun x hx => (i1 x hx).da) hd
  refine ⟨.tup i1, by rw [e]; exact i2, ?_, by rw [e]; exact okt_tuple i4⟩
  rw [e]
  show (tupleText (PyData.shownAll (xs.map (dat S)))).length ≤ N
  have := tuple_len (PyData.shownAll (xs.map (dat S)))
  omega
theorem Good.ref {L N n : Nat} {xs : List Val} (hc : n ≠ c) (hn : S[n]? = some (.lst xs)) (h : Goods c S d L xs) (hd : d < 65) (hN : L + 3 ≤ N) : Good c S (d + 1) N (.ref n) := by
  obtain ⟨i1, i2, i3, i4⟩ := h.all
  have e := dat_ref hn (fun x hx => (i1 x hx).da) hd
  refine ⟨.ref hc hn i1, by rw [e]; exact i2, ?_, by rw [e]; exact ok_list i4⟩
  rw [e]
  show (listText (PyData.shownAll (xs.map (dat S)))).length ≤ N
  have := list_len (PyData.shownAll (xs.map (dat S)))
  omega
theorem Good.one {L N : Nat} {a : Val} (ha : Good c S d L a) (hd : d < 65) (hN : L + 5 ≤ N) : Good c S (d + 1) N (.tup [a]) :=
  .tup (L := L + 2) (.cons ha (.nil 0) (by omega)) hd (by omega)
theorem Good.two {L M N : Nat} {a b : Val} (ha : Good c S d L a) (hb : Good c S d M b) (hd : d < 65) (hN : L + M + 7 ≤ N) : Good c S (d + 1) N (.tup [a, b]) :=
  .tup (L := L + M + 4) (.cons ha (.cons hb (.nil 0) (Nat.le_refl _)) (by omega)) hd (by omega)
theorem Good.three {L M K N : Nat} {a b e : Val} (ha : Good c S d L a) (hb : Good c S d M b) (he : Good c S d K e) (hd : d < 65) (hN : L + M + K + 9 ≤ N) : Good c S (d + 1) N (.tup [a, b, e]) :=
  .tup (L := L + M + K + 6) (.cons ha (.cons hb (.cons he (.nil 0) (Nat.le_refl _)) (Nat.le_refl _)) (by omega)) hd (by omega)
theorem Goods.same {L : Nat} {a : Val} (ha : Good c S d L a) : ∀ k : Nat, Goods c S d (k * (L + 2)) (List.replicate k a)
  | 0 => .nil _
  | k + 1 => .cons ha (Goods.same ha k) (by rw [Nat.succ_mul]; omega)
end
/-- repr on data -/
theorem run_repr {c : Nat} {S : Store} {d L : Nat} {v : Val} {Q : Val → Store → Prop} (h : Good c S d L v) (hd : d < 65) (hL : L ≤ 16777216) : Run (bRepr [v] S) Q = Q (.str (dat S v).shown) S := by
  unfold bRepr
  show Run (match PD.toD 66 S v with
    | some d => if d.showable = true ∧ SeqAt.shaped d = true ∧ d.shown.length ≤ 16777216 then .ok (.str d.shown) S else .stuck
    | none => .stuck) Q = _
  rw [h.da.da.dat (f := 66) (by omega) (by omega)]
  show Run (if _ then Res.ok (Val.str (dat S v).shown) S else Res.stuck) Q = _
  rw [if_pos ⟨h.sh, h.da.da.shaped hd, Nat.le_trans h.ln hL⟩]; rfl
theorem run_addI {a b : Int} {S : Store} {Q : Val → Store → Prop} : Run (oAdd (.int a) (.int b) S) Q = Q (.int (a + b)) S := rfl
theorem run_subI {a b : Int} {S : Store} {Q : Val → Store → Prop} : Run (oSub (.int a) (.int b) S) Q = Q (.int (a - b)) S := rfl
theorem run_pick {m : Nat} {xs : List Val} {S : Store} {i : Int} (P : Val → Prop) (h : S[m]? = some (.lst xs)) (h0 : 0 ≤ i) (h1 : i < xs.length) (hP : ∀ x ∈ xs, P x) : Run (oIx (.ref m) (.int i) S) (fun r S' => P r ∧ S' = S) := by
  rw [run_ixR h]
  obtain ⟨j, rfl⟩ : ∃ j : Nat, i = (j : Int) := ⟨i.toNat, by omega⟩
  have hj : j < xs.length := by omega
  have e : xs[j]? = some xs[j] := List.getElem?_eq_getElem hj
  rw [atI_nat e]
  exact ⟨hP _ (List.getElem_mem hj), rfl⟩
theorem RunS.mono {r : SRes} {N N' : PD.Env → Store → Prop} {R R' : Val → Store → Prop} (h : RunS r N R) (q : ∀ ρ S, N ρ S → N' ρ S) (p : ∀ v S, R v S → R' v S) : RunS r N' R' := by
  cases r with
  | next ρ S => exact q ρ S h
  | ret v S => exact p v S h
  | _ => exact h
theorem s_step {b d : SD} {ρ : PD.Env} {S : Store} {N N' : PD.Env → Store → Prop} {R : Val → Store → Prop} (h : RunS (b ρ S) N' R) (q : ∀ ρ' S', N' ρ' S' → RunS (d ρ' S') N R) : RunS (sSeq b d ρ S) N R := by
  rw [s_seq]; exact RunS.mono h q fun _ _ h => h
theorem run_fn {n m : Nat} {b : SD} {xs : List Val} {ρ : PD.Env} {S : Store} {Q : Val → Store → Prop} (h : xs.length = n) (e : xs.map some ++ List.replicate (m - n) none = ρ) (q : RunS (b ρ S) (fun _ S' => Q .non S') Q) : Run (fnOf n m b xs S) Q := by
  subst e
  rw [run_fnOf, if_pos h]; exact q
theorem ix1 {a b : Val} {xs : List Val} {S : Store} {Q : Val → Store → Prop} : Run (oIx (.tup (a :: b :: xs)) (.int 1) S) Q = Q b S := by
  unfold oIx
  simp only [atI1]; rfl
theorem ix2 {a b e : Val} {xs : List Val} {S : Store} {Q : Val → Store → Prop} : Run (oIx (.tup (a :: b :: e :: xs)) (.int 2) S) Q = Q e S := by
  unfold oIx
  simp only [atI2]; rfl
theorem runS_loopV {t : TgD} {b : SD} {R : Val → Store → Prop} (m : Nat) (I : Nat → PD.Env → Store → Prop) (step : ∀ j x ρ S, j < m → I j ρ S → ∃ ρ1, t x ρ = some ρ1 ∧ RunS (b ρ1 S) (I (j + 1)) R) : ∀ (xs : List Val) (j : Nat) (ρ : PD.Env) (S : Store), j + xs.length ≤ m → I j ρ S → RunS (loopV t b xs ρ S) (I (j + xs.length)) R
  | [], j, ρ, S, _, h => by rw [loopV_nil]; exact h
  | x :: xs, j, ρ, S, hm, h => by
    rw [List.length_cons] at hm
    obtain ⟨ρ1, e, q⟩ := step j x ρ S (by omega) h
    rw [loopV_cons, e]
    show RunS ((b ρ1 S).turn (loopV t b xs)) _ _
    cases hr : b ρ1 S with
    | next ρ2 S2 =>
      rw [hr] at q
      have := runS_loopV m I step xs (j + 1) ρ2 S2 (by omega) q
      rw [show j + (x :: xs).length = j + 1 + xs.length by rw [List.length_cons]; omega]
      exact this
    | ret v S2 => rw [hr] at q; exact q
    | brk ρ2 S2 => rw [hr] at q; exact q.elim
    | cont ρ2 S2 => rw [hr] at q; exact q.elim
    | exc e ρ2 S2 => rw [hr] at q; exact q.elim
    | stuck => rw [hr] at q; exact q.elim
theorem rangeV_len (lo : Int) (n : Nat) : (rangeV lo n).length = n := by simp [rangeV]
theorem s_forR {as : DA} {t : TgD} {b : SD} {ρ : PD.Env} {S : Store} {N : PD.Env → Store → Prop} {R : Val → Store → Prop} : RunS (sForR as t b ρ S) N R = Run (as ρ S) fun xs S1 => match xs with | [.int j] => if -(2 ^ 62) ≤ j ∧ j < 2 ^ 62 then RunS (loopV t b (rangeV 0 j.toNat) ρ S1) N R else False | _ => False := by
  unfold sForR
  rw [runS_toS]
  congr; funext xs S1
  match xs with
  | [] => rfl
  | [.int j] =>
    show RunS (if -(2 ^ 62) ≤ j ∧ j < 2 ^ 62 then loopV t b (rangeV 0 j.toNat) ρ S1 else .stuck) N R = if -(2 ^ 62) ≤ j ∧ j < 2 ^ 62 then RunS (loopV t b (rangeV 0 j.toNat) ρ S1) N R else False
    split <;> rfl
  | [.non] => rfl
  | [.bl _] => rfl
  | [.str _] => rfl
  | [.tup _] => rfl
  | [.ref _] => rfl
  | [.ty _] => rfl
  | [.kl _] => rfl
  | [.ob _] => rfl
  | .int _ :: _ :: _ => rfl
  | .non :: _ :: _ => rfl
  | .bl _ :: _ :: _ => rfl
  | .str _ :: _ :: _ => rfl
  | .tup _ :: _ :: _ => rfl
  | .ref _ :: _ :: _ => rfl
  | .ty _ :: _ :: _ => rfl
  | .kl _ :: _ :: _ => rfl
  | .ob _ :: _ :: _ => rfl
theorem Good.gr {c : Nat} {S S' : Store} {d L : Nat} {v : Val} (h : Good c S d L v) (k : Kp S S') (hd : d < 66) : Good c S' d L v := h.kx k.kx hd
theorem Good.num {c : Nat} {S : Store} {d : Nat} {i : Int} (h : -1000000 ≤ i) (h' : i ≤ 1000000) : Good c S d 101 (.int i) :=
  .int (Nat.lt_of_lt_of_le (show i.natAbs < 10 ^ 7 by omega) (Nat.pow_le_pow_right (by decide) (by decide))) (Nat.le_refl _)
theorem w_sl {f : D} {l h : DO} {ρ : PD.Env} {S : Store} {Q : Val → Store → Prop} : Run (dSl f l h ρ S) Q = Run (f ρ S) fun x S1 => Run (l ρ S1) fun lo S2 => Run (h ρ S2) fun hi S3 => Run (vSl x lo hi S3) Q := by
  unfold dSl
  rw [run_bind]
  congr; funext x S1
  rw [run_bind]
  congr; funext lo S2
  rw [run_bind]
theorem w_oNone {ρ : PD.Env} {S : Store} {Q : Option Int → Store → Prop} : Run (oNone ρ S) Q = Q none S := rfl
theorem w_oSome {f : D} {ρ : PD.Env} {S : Store} {Q : Option Int → Store → Prop} : Run (oSome f ρ S) Q = Run (f ρ S) fun x S1 => match x with | .int i => Q (some i) S1 | _ => False := by
  unfold oSome
  rw [run_bind]
  congr; funext x S1
  cases x <;> rfl
theorem run_slT {xs : List Val} {lo hi : Option Int} {S : Store} {Q : Val → Store → Prop} : Run (vSl (.tup xs) lo hi S) Q = Q (.tup (cutL xs lo hi)) S := rfl
theorem run_addT {xs ys : List Val} {S : Store} {Q : Val → Store → Prop} (h : xs.length + ys.length ≤ 16777216) : Run (oAdd (.tup xs) (.tup ys) S) Q = Q (.tup (xs ++ ys)) S := by
  show Run (if xs.length + ys.length ≤ 16777216 then .ok (.tup (xs ++ ys)) S else .stuck) Q = _
  rw [if_pos h]; rfl
theorem run_addL {xs ys : List Val} {n m : Nat} {S : Store} {Q : Val → Store → Prop} (h1 : S[n]? = some (.lst xs)) (h2 : S[m]? = some (.lst ys)) (h : xs.length + ys.length ≤ 16777216) : Run (oAdd (.ref n) (.ref m) S) Q = Q (.ref S.length) (S ++ [.lst (xs ++ ys)]) := by
  show Run (match S[n]?, S[m]? with
    | some (.lst xs), some (.lst ys) => if xs.length + ys.length ≤ 16777216 then alloc (xs ++ ys) S else .stuck
    | _, _ => .stuck) Q = _
  rw [h1, h2]
  show Run (if xs.length + ys.length ≤ 16777216 then alloc (xs ++ ys) S else .stuck) Q = _
  rw [if_pos h]; rfl
theorem run_neg {i : Int} {S : Store} {Q : Val → Store → Prop} : Run (oNeg (.int i) S) Q = Q (.int (-i)) S := rfl
theorem ix0 {a : Val} {xs : List Val} {S : Store} {Q : Val → Store → Prop} : Run (oIx (.tup (a :: xs)) (.int 0) S) Q = Q a S := by
  unfold oIx
  simp only [atI0]; rfl
section
variable {x y w : Val}
theorem cut20 : cutL [x, y] none (some 0) = [] := rfl
theorem cut21 : cutL [x, y] none (some 1) = [x] := rfl
theorem cut2a : cutL [x, y] (some (0 + 1)) none = [y] := rfl
theorem cut2b : cutL [x, y] (some (1 + 1)) none = [] := rfl
theorem cut30 : cutL [x, y, w] none (some 0) = [] := rfl
theorem cut31 : cutL [x, y, w] none (some 1) = [x] := rfl
theorem cut32 : cutL [x, y, w] none (some 2) = [x, y] := rfl
theorem cut3a : cutL [x, y, w] (some (0 + 1)) none = [y, w] := rfl
theorem cut3b : cutL [x, y, w] (some (1 + 1)) none = [w] := rfl
theorem cut3c : cutL [x, y, w] (some (2 + 1)) none = [] := rfl
end
theorem oIs_ref {m : Nat} {S : Store} {Q : Val → Store → Prop} : Run (oIs (.ref m) .non S) Q = Q (.bl false) S := rfl
theorem oIs_refB {m : Nat} {b : Bool} {S : Store} {Q : Val → Store → Prop} : Run (oIs (.ref m) (.bl b) S) Q = Q (.bl false) S := rfl
theorem run_len {m : Nat} {xs : List Val} {S : Store} {Q : Val → Store → Prop} (h : S[m]? = some (.lst xs)) : Run (bLen [.ref m] S) Q = Q (.int xs.length) S := by
  show Run (match S[m]? with | some c => okI c.items.length S | none => .stuck) Q = _
  rw [h]; rfl
theorem isi_list {m : Nat} {xs : List Val} {S : Store} {T : String} {Q : Val → Store → Prop} (h : S[m]? = some (.lst xs)) (hT : T ∈ askedT) : Run (bIsi [.ref m, .ty T] S) Q = Q (.bl (isT "list" T)) S := by
  have := ty_ref (S := S) h
  simp only [this, hT, run_ok, run_okI, run_okB, run_alloc, run_stuck, run_bind, run_ite, run_noX, run_fnOf, w_c, w_op, w_un, w_call, w_callK, w_nil, w_cons, w_tup, w_lst, isB_bl, w_tval, w_tand, w_tor, w_tnot, w_and, w_or, w_not, w_if, s_next, s_seq, s_if, s_ret, s_drop, s_set, s_par, s_put, s_asg, w_var', runS_next, runS_ret, runS_stuck, runS_ite, List.length_cons, List.length_nil, List.length_singleton, List.map_cons, List.map_nil, List.cons_append, List.nil_append, List.replicate_succ, List.replicate_zero, List.getElem?_cons_zero, List.getElem?_cons_succ, List.set_cons_zero, List.set_cons_succ, Nat.reduceAdd, Nat.reduceSub, Nat.reduceEqDiff, ite_true, ite_false, if_true, if_false, reduceIte, Bool.false_eq_true, decide_true, decide_false, String.reduceEq, Int.reduceEq, Nat.reduceLeDiff, true_and, and_true, Bool.not_true, Bool.not_false, decide_eq_true_eq, List.append_nil, bType, bIsi, bLen, bInt, ty_int, ty_bl, ty_str, ty_non, ty_tup, isT, oIs, oIsNot, run_eqI, run_neI, Bool.or_false, Bool.or_true, Bool.false_or, Bool.true_or, Bool.and_true, Bool.and_false, Bool.true_and, Bool.false_and, reduceCtorEq, decide_not, Bool.not_eq_true', decide_eq_false_iff_not, askInt, askBool, askTuple, askList, askStr, oLe, oLt, oGe, oGt, oInt2, atI0, atI1, atI2, run_addI, run_subI]
theorem run_neB {a b : Bool} {S : Store} {Q : Val → Store → Prop} : Run (oNe (.bl a) (.bl b) S) Q = Q (.bl (!(a == b))) S := by
  cases a <;> cases b <;> rfl
theorem run_lcr {as : DA} {v : Nat} {f : D} {vs : List Nat} {ρ : PD.Env} {S : Store} {j : Nat} {g : Val → Val} (e : as ρ S = .ok [.int j] S) (hj : j ≤ 1000000) (he : ∀ x ∈ rangeV 0 j, ∀ S', Gr S S' → Run (f ((wipeE ρ vs).set v (some x)) S') (PureQ S' (g x))) :
    Run (dLCR as (gN v) tYes' f vs ρ S) (fun r S' => ∃ S1, r = .ref S1.length ∧ S' = S1 ++ [.lst ((rangeV 0 j).map g)] ∧ Gr S S1) := by
  unfold dLCR
  rw [run_bind, e, run_ok]
  show Run (if -(2 ^ 62) ≤ (j : Int) ∧ (j : Int) < 2 ^ 62 then (compG (srcL (rangeV 0 j)) (gN v) tYes' f j 0 [] (wipeE ρ vs) S).bind alloc else .stuck) _
  rw [if_pos (by constructor <;> omega), run_bind]
  have := comp_pure0 (f := f) (v := v) (ρ := wipeE ρ vs) (g := g) (rangeV 0 j) S (by rw [rangeV_len]; omega) he
  rw [rangeV_len] at this
  refine Run.mono this fun ys S1 ⟨e1, g1⟩ => ?_
  subst e1
  exact ⟨_, rfl, rfl, g1⟩
section
variable {m : Nat} {a b : Val} {xs : List Val} {S : Store} {Q : Val → Store → Prop}
theorem ixr0 (h : S[m]? = some (.lst (a :: xs))) : Run (oIx (.ref m) (.int 0) S) Q = Q a S := by rw [run_ixR h, atI0]; rfl
theorem ixr1 (h : S[m]? = some (.lst (a :: b :: xs))) : Run (oIx (.ref m) (.int 1) S) Q = Q b S := by rw [run_ixR h, atI1]; rfl
theorem ixn0 : Run (oIx (.ref (List.length S)) (.int 0) (S ++ [.lst (a :: xs)])) Q = Q a (S ++ [.lst (a :: xs)]) := ixr0 (get_new _ _)
theorem ixn1 : Run (oIx (.ref (List.length S)) (.int 1) (S ++ [.lst (a :: b :: xs)])) Q = Q b (S ++ [.lst (a :: b :: xs)]) := ixr1 (get_new _ _)
end
theorem pick0 {v : Val} : pick [0] [v] = [v] := rfl
theorem runS_loopC {n : Nat} {xs : List Val} {t : TgD} {b : SD} {R : Val → Store → Prop} (I : Nat → PD.Env → Store → Prop) (hI : ∀ j ρ S, I j ρ S → S[n]? = some (.lst xs)) (step : ∀ j x ρ S, xs[j]? = some x → I j ρ S → ∃ ρ1, t x ρ = some ρ1 ∧ RunS (b ρ1 S) (I (j + 1)) R) :
    ∀ (m j : Nat) (ρ : PD.Env) (S : Store), j + m = xs.length → I j ρ S → RunS (loopC n t b m j ρ S) (I xs.length) R
  | 0, j, ρ, S, hm, h => by
    show RunS (match S[n]? with | some c => if c.items.length ≤ j then .next ρ S else .stuck | none => .stuck) _ _
    rw [hI j ρ S h]
    show RunS (if xs.length ≤ j then .next ρ S else .stuck) _ _
    rw [if_pos (by omega)]
    have : j = xs.length := by omega
    subst this
    exact h
  | m + 1, j, ρ, S, hm, h => by
    have hx : xs[j]? = some xs[j] := List.getElem?_eq_getElem (by omega)
    obtain ⟨ρ1, e, q⟩ := step j xs[j] ρ S hx h
    show RunS (match S[n]? with
      | some c => match c.items[j]? with
        | none => .next ρ S
        | some x => match t x ρ with
          | none => .stuck
          | some ρ1 => (b ρ1 S).turn (loopC n t b m (j + 1))
      | none => .stuck) _ _
    rw [hI j ρ S h]
    show RunS (match xs[j]? with
        | none => .next ρ S
        | some x => match t x ρ with
          | none => .stuck
          | some ρ1 => (b ρ1 S).turn (loopC n t b m (j + 1))) _ _
    rw [hx]
    show RunS (match t xs[j] ρ with
          | none => .stuck
          | some ρ1 => (b ρ1 S).turn (loopC n t b m (j + 1))) _ _
    rw [e]
    show RunS ((b ρ1 S).turn (loopC n t b m (j + 1))) _ _
    cases hr : b ρ1 S with
    | next ρ2 S2 =>
      rw [hr] at q
      exact runS_loopC I hI step m (j + 1) ρ2 S2 (by omega) q
    | ret v S2 => rw [hr] at q; exact q
    | brk ρ2 S2 => rw [hr] at q; exact q.elim
    | cont ρ2 S2 => rw [hr] at q; exact q.elim
    | exc e ρ2 S2 => rw [hr] at q; exact q.elim
    | stuck => rw [hr] at q; exact q.elim
theorem s_forC {f : D} {t : TgD} {b : SD} {ρ : PD.Env} {S : Store} {N : PD.Env → Store → Prop} {R : Val → Store → Prop} (h : Run (f ρ S) fun x S1 => ∃ n xs, x = .ref n ∧ S1[n]? = some (.lst xs) ∧ RunS (loopC n t b xs.length 0 ρ S1) N R) : RunS (sForC f t b ρ S) N R := by
  unfold sForC
  rw [runS_toS]
  refine Run.mono h fun x S1 ⟨n, xs, e, e1, q⟩ => ?_
  subst e
  show RunS (match S1[n]? with | some c => loopC n t b c.items.length 0 ρ S1 | none => .stuck) N R
  rw [e1]
  exact q
theorem comp_pureC {f : D} {n v : Nat} {ρ : PD.Env} {g : Val → Val} {ys : List Val} : ∀ (xs : List Val) (i : Nat) (acc : List Val) (S : Store), S[n]? = some (.lst ys) → acc.length + xs.length < 16777216 →
    (∀ x ∈ xs, ∀ S', Run (f (ρ.set v (some x)) S') (PureK S' (g x))) → ys.drop i = xs → i ≤ ys.length →
    Run (compG (srcC n) (gN v) tYes' f xs.length i acc ρ S) (PureK S (acc ++ xs.map g))
  | [], i, acc, S, hn, _, _, hd, hi => by
    have : ys[i]? = none := by
      rw [List.getElem?_eq_none_iff]
      have := congrArg List.length hd
      simp at this; omega
    show Run (match srcC n i S with | some none => Res.ok acc S | _ => .stuck) _
    have es : srcC n i S = some none := by
      unfold srcC; rw [hn]; show some ys[i]? = _; rw [this]
    rw [es]
    exact ⟨by simp, .refl S⟩
  | x :: xs, i, acc, S, hn, hl, he, hd, hi => by
    have hlt : i < ys.length := by
      have := congrArg List.length hd
      simp at this; omega
    have e0 := List.drop_eq_getElem_cons hlt
    rw [hd] at e0
    have hx : ys[i]? = some x := by rw [List.getElem?_eq_getElem hlt, (List.cons.inj e0).1]
    have hl' : acc.length + (xs.length + 1) < 16777216 := hl
    show Run (match srcC n i S with
      | none => Res.stuck
      | some none => .ok acc S
      | some (some x) => match gN v x ρ with
        | none => .stuck
        | some ρ1 => (noX (tYes' ρ1 S)).bind fun b S1 => if b = true then (noX (f ρ1 S1)).bind fun y S2 => if acc.length < 16777216 then compG (srcC n) (gN v) tYes' f xs.length (i + 1) (acc ++ [y]) ρ S2 else .stuck
            else compG (srcC n) (gN v) tYes' f xs.length (i + 1) acc ρ S1) _
    have es : srcC n i S = some (some x) := by unfold srcC; rw [hn]; show some ys[i]? = _; rw [hx]
    rw [es]
    show Run ((noX (f (ρ.set v (some x)) S)).bind fun y S2 => if acc.length < 16777216 then compG (srcC n) (gN v) tYes' f xs.length (i + 1) (acc ++ [y]) ρ S2 else .stuck) _
    rw [run_bind, run_noX]
    refine Run.mono (he x List.mem_cons_self S) fun y S1 ⟨ey, g1⟩ => ?_
    rw [if_pos (by omega)]
    refine Run.mono (comp_pureC (g := g) xs (i + 1) (acc ++ [y]) S1 (g1 _ _ hn) (by simp; omega) (fun y hy => he y (List.mem_cons_of_mem _ hy)) (List.cons.inj e0).2.symm hlt) fun zs S2 ⟨ez, g2⟩ => ?_
    exact ⟨by rw [ez, ey]; simp, g1.trans g2⟩
theorem run_lcc {h : D} {v : Nat} {f : D} {vs : List Nat} {ρ : PD.Env} {S : Store} {xs : List Val} {g : Val → Val} (hl : xs.length ≤ 1000000) (e : Run (h ρ S) fun x S1 => x = .ref S.length ∧ S1 = S ++ [.lst xs]) (he : ∀ x ∈ xs, ∀ S', Run (f ((wipeE ρ vs).set v (some x)) S') (PureK S' (g x))) :
    Run (dLCC h (gN v) tYes' f vs ρ S) (fun r S' => ∃ S1, r = .ref S1.length ∧ S' = S1 ++ [.lst (xs.map g)] ∧ Kp S S1) := by
  unfold dLCC
  rw [run_bind]
  refine Run.mono e fun x S1 ⟨e1, e2⟩ => ?_
  subst e1 e2
  show Run (match (S ++ [Cell.lst xs])[S.length]? with
    | some cc => (compG (srcC S.length) (gN v) tYes' f cc.items.length 0 [] (wipeE ρ vs) (S ++ [.lst xs])).bind alloc
    | none => .stuck) _
  rw [get_new]
  show Run ((compG (srcC S.length) (gN v) tYes' f xs.length 0 [] (wipeE ρ vs) (S ++ [.lst xs])).bind alloc) _
  rw [run_bind]
  refine Run.mono (comp_pureC (g := g) (ys := xs) xs 0 [] (S ++ [.lst xs]) (get_new _ _) (by simp; omega) he rfl (Nat.zero_le _)) fun ys S2 ⟨e1, k⟩ => ?_
  subst e1
  exact ⟨_, rfl, rfl, (Gr.add _ _).kp.trans k⟩
theorem repV_one {k : Nat} {x : Val} : repV k [x] = List.replicate k x := by
  unfold repV
  induction k with
  | zero => rfl
  | succ k ih => rw [List.replicate_succ, List.flatten_cons, ih]; rfl
theorem run_repT {k : Nat} {x : Val} {S : Store} {Q : Val → Store → Prop} (h0 : 2 ≤ k) (h1 : k ≤ 1000000) : Run (oRepT (.tup [x]) (.int k) S) Q = Q (.tup (List.replicate k x)) S := by
  show Run (if [x] ≠ [] ∧ (2 : Int) ≤ k ∧ (k : Int) ≤ 1000000 ∧ [x].length * (k : Int).toNat ≤ 1000000 then .ok (.tup (repV (k : Int).toNat [x])) S else .stuck) Q = _
  rw [if_pos ⟨by simp, by omega, by omega, by rw [List.length_singleton]; omega⟩, Int.toNat_natCast, repV_one]; rfl
theorem run_repL1 {k : Nat} {x : Val} {S : Store} {Q : Val → Store → Prop} (h1 : k ≤ 1000000) : Run (oRepL (.ref S.length) (.int k) (S ++ [.lst [x]])) Q = Q (.ref (S ++ [Cell.lst [x]]).length) (S ++ [.lst [x]] ++ [.lst (List.replicate k x)]) := by
  show Run (match (S ++ [Cell.lst [x]])[S.length]? with
    | some (.lst xs) => if -(2 ^ 63) ≤ (k : Int) ∧ (k : Int) < 2 ^ 63 ∧ xs.length * (k : Int).toNat ≤ 16777216 then alloc (repV (k : Int).toNat xs) (S ++ [Cell.lst [x]]) else .stuck
    | _ => .stuck) Q = _
  rw [get_new]
  show Run (if -(2 ^ 63) ≤ (k : Int) ∧ (k : Int) < 2 ^ 63 ∧ [x].length * (k : Int).toNat ≤ 16777216 then alloc (repV (k : Int).toNat [x]) (S ++ [Cell.lst [x]]) else .stuck) Q = _
  rw [if_pos ⟨by omega, by omega, by rw [List.length_singleton]; omega⟩, Int.toNat_natCast, repV_one]; rfl
end PD

/-! ## LTree -/
set_option linter.all false
namespace PD.LT
/-! ### loose trees of ints: their least forms -/
inductive T where
  | leaf (i : Int) | node (n : Int) (l r : T)
deriving DecidableEq
namespace T
def isLeaf : T → Bool
  | leaf _ => true
  | _ => false
def lift : T → Int → T
  | leaf i, k => leaf (i + k)
  | node n l r, k => node (n + k) l r
/-- the first number -/
def top : T → Int
  | leaf i => i
  | node n _ _ => n
def sameL : T → T → Bool
  | leaf i, leaf j => decide (i = j)
  | _, _ => false
def whole (l r : T) : T := if sameL l r = true then l else node (min l.top r.top) (l.lift (-(min l.top r.top))) (r.lift (-(min l.top r.top)))
def lf : T → T
  | leaf i => leaf i
  | node n l r => (whole l.lf r.lf).lift n
/-- no number below 0 -/
def nn : T → Bool
  | leaf i => decide (0 ≤ i)
  | node n l r => decide (0 ≤ n) && (l.nn && r.nn)
/-- the least form of some tree, but for numbers below 0 at the top -/
def co : T → Bool
  | leaf _ => true
  | node _ l r => l.co && (r.co && (!sameL l r && (decide (0 ≤ l.top) && (decide (0 ≤ r.top) && (decide (l.top = 0) || decide (r.top = 0))))))
def dep : T → Nat
  | leaf _ => 0
  | node _ l r => 1 + max l.dep r.dep
def tc : T → Nat
  | leaf _ => 0
  | node _ l r => 1 + (l.tc + r.tc)
def sum : T → Int
  | leaf i => i
  | node n l r => n + l.sum + r.sum
theorem top_lift (t : T) (k : Int) : (t.lift k).top = t.top + k := by cases t <;> rfl
theorem lift_lift (t : T) (a b : Int) : (t.lift a).lift b = t.lift (a + b) := by cases t <;> simp [lift, Int.add_assoc]
theorem lift_zero (t : T) : t.lift 0 = t := by cases t <;> simp [lift]
theorem co_lift (t : T) (k : Int) : (t.lift k).co = t.co := by cases t <;> rfl
theorem dep_lift (t : T) (k : Int) : (t.lift k).dep = t.dep := by cases t <;> rfl
theorem tc_lift (t : T) (k : Int) : (t.lift k).tc = t.tc := by cases t <;> rfl
theorem sum_lift (t : T) (k : Int) : (t.lift k).sum = t.sum + k := by cases t <;> simp [lift, sum]; omega
theorem isLeaf_lift (t : T) (k : Int) : (t.lift k).isLeaf = t.isLeaf := by cases t <;> rfl
theorem sameL_lift (l r : T) (k : Int) : sameL (l.lift k) (r.lift k) = sameL l r := by
  cases l <;> cases r <;> first | rfl | skip
  rename_i i j
  show decide (i + k = j + k) = decide (i = j)
  exact decide_eq_decide.mpr ⟨fun h => by omega, fun h => by omega⟩
theorem sameL_eq {l r : T} (h : sameL l r = true) : ∃ i, l = leaf i ∧ r = leaf i := by
  cases l <;> cases r <;> first | cases h | skip
  rename_i i j
  exact ⟨i, rfl, by rw [of_decide_eq_true h]⟩
theorem whole_lift (l r : T) (k : Int) : whole (l.lift k) (r.lift k) = (whole l r).lift k := by
  unfold whole
  rw [sameL_lift]
  split
  · rfl
  · rw [top_lift, top_lift, lift_lift, lift_lift]
    show node _ _ _ = node _ _ _
    have e : min (l.top + k) (r.top + k) = min l.top r.top + k := by omega
    rw [e]
    congr 2 <;> congr 1 <;> omega
theorem top_whole (l r : T) : (whole l r).top = min l.top r.top := by
  unfold whole
  split
  · rename_i h
    obtain ⟨i, rfl, rfl⟩ := sameL_eq h
    show i = min i i
    omega
  · rfl
theorem co_whole {l r : T} (hl : l.co = true) (hr : r.co = true) : (whole l r).co = true := by
  unfold whole
  split
  · exact hl
  · rename_i h
    show (co (lift _ _) && (co (lift _ _) && (!sameL (lift _ _) (lift _ _) && _))) = true
    rw [co_lift, co_lift, hl, hr, sameL_lift, top_lift, top_lift]
    rw [Bool.not_eq_true] at h
    rw [h]
    simp only [Bool.true_and, Bool.not_false, Bool.and_eq_true, Bool.or_eq_true, decide_eq_true_eq]
    omega
theorem co_lf : ∀ t : T, t.lf.co = true
  | leaf _ => rfl
  | node n l r => by
    show ((whole l.lf r.lf).lift n).co = true
    rw [co_lift]
    exact co_whole (co_lf l) (co_lf r)
theorem top_nn {t : T} (h : t.nn = true) : 0 ≤ t.top := by
  cases t with
  | leaf i => exact of_decide_eq_true h
  | node n l r =>
    have h : (decide (0 ≤ n) && (l.nn && r.nn)) = true := h
    rw [Bool.and_eq_true] at h
    exact of_decide_eq_true h.1
/-- a canonical tree is not below 0 exactly if its top is not -/
theorem nn_of_co : ∀ {t : T}, t.co = true → 0 ≤ t.top → t.nn = true
  | leaf i, _, h => decide_eq_true h
  | node n l r, h, h0 => by
    have h : (l.co && (r.co && (!sameL l r && (decide (0 ≤ l.top) && (decide (0 ≤ r.top) && (decide (l.top = 0) || decide (r.top = 0))))))) = true := h
    simp only [Bool.and_eq_true, decide_eq_true_eq] at h
    show (decide (0 ≤ n) && (l.nn && r.nn)) = true
    rw [nn_of_co h.1 h.2.2.2.1, nn_of_co h.2.1 h.2.2.2.2.1, decide_eq_true (show 0 ≤ n from h0)]
    rfl
theorem top_lf : ∀ {t : T}, t.nn = true → 0 ≤ t.lf.top
  | leaf i, h => of_decide_eq_true h
  | node n l r, h => by
    have h : (decide (0 ≤ n) && (l.nn && r.nn)) = true := h
    simp only [Bool.and_eq_true, decide_eq_true_eq] at h
    show 0 ≤ ((whole l.lf r.lf).lift n).top
    rw [top_lift, top_whole]
    have := top_lf h.2.1
    have := top_lf h.2.2
    omega
theorem nn_lf {t : T} (h : t.nn = true) : t.lf.nn = true := nn_of_co (co_lf t) (top_lf h)
/-- a canonical tree is its own least form -/
theorem whole_of_co {n : Int} {l r : T} (h : (node n l r).co = true) : (whole l r).lift n = node n l r := by
  have h : (l.co && (r.co && (!sameL l r && (decide (0 ≤ l.top) && (decide (0 ≤ r.top) && (decide (l.top = 0) || decide (r.top = 0))))))) = true := h
  simp only [Bool.and_eq_true, Bool.or_eq_true, decide_eq_true_eq, Bool.not_eq_true'] at h
  unfold whole
  rw [if_neg (by rw [h.2.2.1]; decide)]
  have e : min l.top r.top = 0 := by omega
  rw [e]
  show node (0 + n) _ _ = _
  rw [show (-(0 : Int)) = 0 from rfl, lift_zero, lift_zero, Int.zero_add]
theorem lf_of_co : ∀ {t : T}, t.co = true → t.lf = t
  | leaf _, _ => rfl
  | node n l r, h => by
    have h' : (l.co && (r.co && (!sameL l r && (decide (0 ≤ l.top) && (decide (0 ≤ r.top) && (decide (l.top = 0) || decide (r.top = 0))))))) = true := h
    simp only [Bool.and_eq_true] at h'
    show (whole l.lf r.lf).lift n = _
    rw [lf_of_co h'.1, lf_of_co h'.2.1]
    exact whole_of_co h
theorem lf_lift (t : T) (k : Int) : (t.lift k).lf = t.lf.lift k := by
  cases t with
  | leaf i => rfl
  | node n l r =>
    show (whole l.lf r.lf).lift (n + k) = ((whole l.lf r.lf).lift n).lift k
    rw [lift_lift]
theorem tc_whole (l r : T) : (whole l r).tc ≤ 1 + (l.tc + r.tc) := by
  unfold whole
  split
  · omega
  · show 1 + ((lift _ _).tc + (lift _ _).tc) ≤ _
    rw [tc_lift, tc_lift]
    exact Nat.le_refl _
theorem tc_lf : ∀ t : T, t.lf.tc ≤ t.tc
  | leaf _ => Nat.le_refl _
  | node n l r => by
    show ((whole l.lf r.lf).lift n).tc ≤ 1 + (l.tc + r.tc)
    rw [tc_lift]
    have := tc_whole l.lf r.lf
    have := tc_lf l
    have := tc_lf r
    omega
theorem dep_whole (l r : T) : (whole l r).dep ≤ 1 + max l.dep r.dep := by
  unfold whole
  split
  · omega
  · show 1 + max (lift _ _).dep (lift _ _).dep ≤ _
    rw [dep_lift, dep_lift]
    exact Nat.le_refl _
theorem dep_lf : ∀ t : T, t.lf.dep ≤ t.dep
  | leaf _ => Nat.le_refl _
  | node n l r => by
    show ((whole l.lf r.lf).lift n).dep ≤ 1 + max l.dep r.dep
    rw [dep_lift]
    have := dep_whole l.lf r.lf
    have := dep_lf l
    have := dep_lf r
    omega
theorem sum_nn : ∀ {t : T}, t.nn = true → t.top ≤ t.sum
  | leaf i, _ => Int.le_refl _
  | node n l r, h => by
    have h : (decide (0 ≤ n) && (l.nn && r.nn)) = true := h
    simp only [Bool.and_eq_true, decide_eq_true_eq] at h
    have := sum_nn h.2.1
    have := sum_nn h.2.2
    have := top_nn h.2.1
    have := top_nn h.2.2
    show n ≤ n + l.sum + r.sum
    omega
theorem sum_whole {l r : T} (hl : l.nn = true) (hr : r.nn = true) : (whole l r).sum ≤ l.sum + r.sum := by
  have a := sum_nn hl
  have b := sum_nn hr
  have c := top_nn hl
  have d := top_nn hr
  unfold whole
  split
  · omega
  · show min l.top r.top + (lift _ _).sum + (lift _ _).sum ≤ _
    rw [sum_lift, sum_lift]
    omega
theorem sum_lf : ∀ {t : T}, t.nn = true → t.lf.sum ≤ t.sum
  | leaf _, _ => Int.le_refl _
  | node n l r, h => by
    have h : (decide (0 ≤ n) && (l.nn && r.nn)) = true := h
    simp only [Bool.and_eq_true, decide_eq_true_eq] at h
    show ((whole l.lf r.lf).lift n).sum ≤ n + l.sum + r.sum
    rw [sum_lift]
    have := sum_whole (nn_lf h.2.1) (nn_lf h.2.2)
    have := sum_lf h.2.1
    have := sum_lf h.2.2
    omega
/-! ### its leaves -/
def leaves : T → List Int → Int → List (List Int × Int)
  | leaf i, p, m => [(p, m + i)]
  | node n l r, p, m => leaves l (p ++ [0]) (m + n) ++ leaves r (p ++ [1]) (m + n)
def worths : T → Int → List Int
  | leaf i, m => [m + i]
  | node n l r, m => worths l (m + n) ++ worths r (m + n)
theorem leaves_worths : ∀ (t : T) (p : List Int) (m : Int), (leaves t p m).map (·.2) = worths t m
  | leaf i, p, m => rfl
  | node n l r, p, m => by
    show (leaves l _ _ ++ leaves r _ _).map (·.2) = worths l _ ++ worths r _
    rw [List.map_append, leaves_worths l, leaves_worths r]
theorem leaves_pre : ∀ (t : T) (p : List Int) (m : Int), ∀ x ∈ leaves t p m, p <+: x.1
  | leaf i, p, m, x, h => by
    rw [List.mem_singleton.mp h]; exact List.prefix_refl _
  | node n l r, p, m, x, h => by
    rcases List.mem_append.mp h with h | h
    · exact (List.prefix_append p [0]).trans (leaves_pre l _ _ x h)
    · exact (List.prefix_append p [1]).trans (leaves_pre r _ _ x h)
theorem leaves_ne : ∀ (t : T) (p : List Int) (m : Int), leaves t p m ≠ []
  | leaf i, p, m => by simp [leaves]
  | node n l r, p, m => by
    show leaves l _ _ ++ leaves r _ _ ≠ []
    have := leaves_ne l (p ++ [0]) (m + n)
    simp [this]
theorem leaves_len : ∀ (t : T) (p : List Int) (m : Int), (leaves t p m).length = t.tc + 1
  | leaf i, p, m => rfl
  | node n l r, p, m => by
    show (leaves l _ _ ++ leaves r _ _).length = 1 + (l.tc + r.tc) + 1
    rw [List.length_append, leaves_len l, leaves_len r]; omega
theorem leaves_path : ∀ (t : T) (p : List Int) (m : Int), ∀ x ∈ leaves t p m, x.1.length ≤ p.length + t.dep
  | leaf i, p, m, x, h => by
    rw [List.mem_singleton.mp h]; exact Nat.le_refl _
  | node n l r, p, m, x, h => by
    have e : (node n l r).dep = 1 + max l.dep r.dep := rfl
    rcases List.mem_append.mp h with h | h
    · have := leaves_path l _ _ x h
      rw [List.length_append, List.length_singleton] at this
      omega
    · have := leaves_path r _ _ x h
      rw [List.length_append, List.length_singleton] at this
      omega
theorem pre_take {p q : List Int} (h : p <+: q) : q.take p.length = p := by
  obtain ⟨t, rfl⟩ := h
  exact List.take_left
/-- the rows of the half -/
theorem filter_half {p : List Int} {b c : Int} (hbc : b ≠ c) {A B : List (List Int × Int)} (hA : ∀ x ∈ A, p ++ [b] <+: x.1) (hB : ∀ x ∈ B, p ++ [c] <+: x.1) :
    (A ++ B).filter (fun x => decide (x.1.take (p.length + 1) = p ++ [b])) = A := by
  have hp : ∀ d : Int, (p ++ [d]).length = p.length + 1 := fun d => by simp
  rw [List.filter_append, List.filter_eq_self.mpr (fun x hx => ?_), List.filter_eq_nil_iff.mpr (fun x hx => ?_), List.append_nil]
  · have := pre_take (hB x hx)
    rw [hp] at this
    rw [this]
    simp
    exact fun h => hbc h.symm
  · have := pre_take (hA x hx)
    rw [hp] at this
    rw [this]
    simp
theorem filter_half' {p : List Int} {b c : Int} (hbc : b ≠ c) {A B : List (List Int × Int)} (hA : ∀ x ∈ A, p ++ [b] <+: x.1) (hB : ∀ x ∈ B, p ++ [c] <+: x.1) :
    (A ++ B).filter (fun x => decide (x.1.take (p.length + 1) = p ++ [c])) = B := by
  have hp : ∀ d : Int, (p ++ [d]).length = p.length + 1 := fun d => by simp
  rw [List.filter_append, List.filter_eq_nil_iff.mpr (fun x hx => ?_), List.filter_eq_self.mpr (fun x hx => ?_), List.nil_append]
  · have := pre_take (hB x hx)
    rw [hp] at this
    rw [this]
    simp
  · have := pre_take (hA x hx)
    rw [hp] at this
    rw [this]
    simp
    exact hbc
theorem filter_here {p : List Int} {b c : Int} {A B : List (List Int × Int)} (hA : ∀ x ∈ A, p ++ [b] <+: x.1) (hB : ∀ x ∈ B, p ++ [c] <+: x.1) : (A ++ B).filter (fun x => decide (x.1 = p)) = [] := by
  refine List.filter_eq_nil_iff.mpr fun x hx => ?_
  simp only [decide_eq_true_eq]
  intro e
  rcases List.mem_append.mp hx with h | h
  · have := (hA x h).length_le
    rw [e] at this; simp at this; omega
  · have := (hB x h).length_le
    rw [e] at this; simp at this; omega
/-- the least worth of a canonical tree stands at its top -/
theorem worths_co : ∀ {t : T}, t.co = true → ∀ m : Int, (∀ w ∈ worths t m, m + t.top ≤ w) ∧ m + t.top ∈ worths t m
  | leaf i, _, m => by
    show (∀ w ∈ [m + i], m + i ≤ w) ∧ m + i ∈ [m + i]
    exact ⟨fun w h => by rw [List.mem_singleton.mp h]; exact Int.le_refl _, List.mem_singleton_self _⟩
  | node n l r, h, m => by
    have h : (l.co && (r.co && (!sameL l r && (decide (0 ≤ l.top) && (decide (0 ≤ r.top) && (decide (l.top = 0) || decide (r.top = 0))))))) = true := h
    simp only [Bool.and_eq_true, Bool.or_eq_true, decide_eq_true_eq] at h
    obtain ⟨a1, a2⟩ := worths_co h.1 (m + n)
    obtain ⟨b1, b2⟩ := worths_co h.2.1 (m + n)
    show (∀ w ∈ worths l (m + n) ++ worths r (m + n), m + n ≤ w) ∧ m + n ∈ worths l (m + n) ++ worths r (m + n)
    refine ⟨fun w hw => ?_, ?_⟩
    · rcases List.mem_append.mp hw with hw | hw
      · have := a1 w hw; omega
      · have := b1 w hw; omega
    · rcases h.2.2.2.2.2 with h0 | h0
      · rw [h0, Int.add_zero] at a2
        exact List.mem_append_left _ a2
      · rw [h0, Int.add_zero] at b2
        exact List.mem_append_right _ b2
/-- the greatest worth -/
def mx : T → Int
  | leaf i => i
  | node n l r => n + max l.mx r.mx
theorem mx_lift (t : T) (k : Int) : (t.lift k).mx = t.mx + k := by cases t <;> simp [lift, mx]; omega
theorem mx_whole (l r : T) : (whole l r).mx = max l.mx r.mx := by
  unfold whole
  split
  · rename_i h
    obtain ⟨i, rfl, rfl⟩ := sameL_eq h
    show i = max i i
    omega
  · show min l.top r.top + max (lift _ _).mx (lift _ _).mx = _
    rw [mx_lift, mx_lift]
    omega
theorem mx_lf : ∀ t : T, t.lf.mx = t.mx
  | leaf _ => rfl
  | node n l r => by
    show ((whole l.lf r.lf).lift n).mx = n + max l.mx r.mx
    rw [mx_lift, mx_whole, mx_lf l, mx_lf r]
    omega
theorem nn_node {n : Int} {l r : T} : (node n l r).nn = true ↔ 0 ≤ n ∧ l.nn = true ∧ r.nn = true := by
  show (decide (0 ≤ n) && (l.nn && r.nn)) = true ↔ _
  simp only [Bool.and_eq_true, decide_eq_true_eq]
theorem co_node {n : Int} {l r : T} : (node n l r).co = true ↔ l.co = true ∧ r.co = true ∧ sameL l r = false ∧ 0 ≤ l.top ∧ 0 ≤ r.top ∧ (l.top = 0 ∨ r.top = 0) := by
  show (l.co && (r.co && (!sameL l r && (decide (0 ≤ l.top) && (decide (0 ≤ r.top) && (decide (l.top = 0) || decide (r.top = 0))))))) = true ↔ _
  simp only [Bool.and_eq_true, Bool.or_eq_true, decide_eq_true_eq, Bool.not_eq_true']
theorem nn_mx : ∀ {t : T}, t.nn = true → 0 ≤ t.mx
  | leaf i, h => of_decide_eq_true h
  | node n l r, h => by
    rw [nn_node] at h
    have := nn_mx h.2.1
    show 0 ≤ n + max l.mx r.mx
    omega
theorem top_mx : ∀ {t : T}, t.nn = true → t.top ≤ t.mx
  | leaf i, h => Int.le_refl _
  | node n l r, h => by
    rw [nn_node] at h
    have := nn_mx h.2.1
    show n ≤ n + max l.mx r.mx
    omega
theorem nn_lift {t : T} {k : Int} (h : t.nn = true) (hk : 0 ≤ k) : (t.lift k).nn = true := by
  cases t with
  | leaf i => exact decide_eq_true (by have := of_decide_eq_true (show decide (0 ≤ i) = true from h); omega)
  | node n l r =>
    rw [nn_node] at h
    exact nn_node.mpr ⟨by omega, h.2⟩
/-- the numbers of a tree are below a bound -/
def under (B : Int) : T → Prop
  | leaf i => i < B
  | node n l r => n < B ∧ l.under B ∧ r.under B
theorem mx_below {B : Int} (hB : 0 ≤ B) : ∀ {t : T}, t.under B → t.nn = true → t.mx ≤ (t.dep + 1) * B
  | leaf i, h, _ => by
    have h : i < B := h
    show i ≤ ((0 : Nat) + 1) * B
    omega
  | node n l r, h, hn => by
    have h : n < B ∧ l.under B ∧ r.under B := h
    rw [nn_node] at hn
    have a := mx_below hB h.2.1 hn.2.1
    have b := mx_below hB h.2.2 hn.2.2
    show n + max l.mx r.mx ≤ (((1 + max l.dep r.dep : Nat) : Int) + 1) * B
    have e : (((1 + max l.dep r.dep : Nat) : Int) + 1) * B = B + ((max l.dep r.dep : Nat) + 1 : Int) * B := by
      rw [Int.natCast_add, Int.add_assoc, Int.add_mul]; simp
    have c1 : ((l.dep : Int) + 1) * B ≤ ((max l.dep r.dep : Nat) + 1 : Int) * B := Int.mul_le_mul_of_nonneg_right (by omega) hB
    have c2 : ((r.dep : Int) + 1) * B ≤ ((max l.dep r.dep : Nat) + 1 : Int) * B := Int.mul_le_mul_of_nonneg_right (by omega) hB
    rw [e]
    omega
/-- a tree that is loosened has the least form that it had -/
theorem lf_open {i k : Int} {a b : T} (ha : a.lf = leaf (i - k)) (hb : b.lf = leaf (i - k)) : (node k a b).lf = leaf i := by
  show (whole a.lf b.lf).lift k = _
  rw [ha, hb]
  unfold whole
  rw [if_pos (show sameL (leaf (i - k)) (leaf (i - k)) = true from decide_eq_true rfl)]
  show leaf (i - k + k) = leaf i
  congr 1
  omega
theorem lf_down {n k : Int} {l r a b : T} (h : (node n l r).co = true) (ha : a.lf = l.lift (n - k)) (hb : b.lf = r.lift (n - k)) : (node k a b).lf = node n l r := by
  show (whole a.lf b.lf).lift k = _
  rw [ha, hb, whole_lift, lift_lift, show n - k + k = n by omega]
  exact whole_of_co h
end T
end PD.LT

/-! ## LTV -/
set_option Elab.async false
set_option linter.all false
set_option maxRecDepth 100000
set_option maxHeartbeats 4000000
namespace PD
open PySem PySem.Spec L2 LT
theorem mem2 {α : Type} {P : α → Prop} {a b : α} (ha : P a) (hb : P b) : ∀ x ∈ [a, b], P x := by
  simp only [List.mem_cons, List.not_mem_nil, or_false, forall_eq_or_imp, forall_eq]; exact ⟨ha, hb⟩
theorem mem3 {α : Type} {P : α → Prop} {a b c : α} (ha : P a) (hb : P b) (hc : P c) : ∀ x ∈ [a, b, c], P x := by
  simp only [List.mem_cons, List.not_mem_nil, or_false, forall_eq_or_imp, forall_eq]; exact ⟨ha, hb, hc⟩
/-! ### trees as values -/
def toV : T → Val
  | .leaf i => .int i
  | .node n l r => .tup [.int n, toV l, toV r]
def pathV (p : List Int) : Val := .tup (p.map Val.int)
def rowV (x : List Int × Int) : Val := .tup [pathV x.1, .int x.2]
theorem toV_da {S : Store} : ∀ {t : T} {d : Nat}, t.dep ≤ d → Da S d (toV t)
  | .leaf i, d, _ => .int _ _
  | .node n l r, d, h => by
    have h : 1 + max l.dep r.dep ≤ d := h
    obtain ⟨d, rfl⟩ : ∃ e, d = e + 1 := ⟨d - 1, by omega⟩
    exact .tup (mem3 (.int _ _) (toV_da (by omega)) (toV_da (by omega)))
def tD : T → PyData
  | .leaf i => .int i
  | .node n l r => .tuple [.int n, tD l, tD r]
theorem toV_dat {S : Store} : ∀ {t : T}, t.dep < 65 → dat S (toV t) = tD t
  | .leaf i, _ => rfl
  | .node n l r, h => by
    have h : 1 + max l.dep r.dep < 65 := h
    show dat S (.tup [.int n, toV l, toV r]) = _
    rw [dat_tup (d := max l.dep r.dep) (mem3 (.int _ _) (toV_da (by omega)) (toV_da (by omega))) (by omega)]
    show PyData.tuple [.int n, dat S (toV l), dat S (toV r)] = _
    rw [toV_dat (by omega), toV_dat (by omega)]; rfl
theorem eq_leaf (i : Int) : ∀ t : T, PyData.eqv (.int i) (tD t) = T.sameL (.leaf i) t
  | .leaf j => by show (i == j) = decide (i = j); rw [Bool.beq_eq_decide_eq]
  | .node _ _ _ => rfl
theorem run_eq_leaf {i : Int} {t : T} {S : Store} {Q : Val → Store → Prop} (h : t.dep < 65) : Run (oEq (.int i) (toV t) S) Q = Q (.bl (T.sameL (.leaf i) t)) S := by
  rw [run_eq (Da.int 0 i) (toV_da (Nat.le_refl _)) (by omega) h, toV_dat h, dat_int, eq_leaf]
/-! ### paths -/
theorem path_da {S : Store} {p : List Int} : Da S 1 (pathV p) := .tup fun x hx => by
  obtain ⟨i, _, rfl⟩ := List.mem_map.mp hx
  exact .int _ _
theorem path_dat {S : Store} {p : List Int} : dat S (pathV p) = .tuple (p.map PyData.int) := by
  unfold pathV
  rw [dat_tup (d := 0) (fun x hx => by obtain ⟨i, _, rfl⟩ := List.mem_map.mp hx; exact .int _ _) (by omega), List.map_map]
  rfl
theorem eqv_ints : ∀ p q : List Int, PyData.eqv (.tuple (p.map PyData.int)) (.tuple (q.map PyData.int)) = decide (p = q)
  | [], [] => rfl
  | [], _ :: _ => rfl
  | _ :: _, [] => rfl
  | a :: p, b :: q => by
    have := eqv_ints p q
    show ((a == b) && PyData.eqv (.tuple (p.map PyData.int)) (.tuple (q.map PyData.int))) = _
    rw [this, Bool.beq_eq_decide_eq, ← Bool.decide_and]
    exact decide_eq_decide.mpr ⟨fun h => by rw [h.1, h.2], fun h => by cases h; exact ⟨rfl, rfl⟩⟩
theorem run_eqP {p q : List Int} {S : Store} {Q : Val → Store → Prop} : Run (oEq (pathV p) (pathV q) S) Q = Q (.bl (decide (p = q))) S := by
  rw [run_eq path_da path_da (by omega) (by omega), path_dat, path_dat, eqv_ints]
theorem run_addP {p : List Int} {i : Int} {S : Store} {Q : Val → Store → Prop} (h : p.length ≤ 1000) : Run (oAdd (pathV p) (.tup [.int i]) S) Q = Q (pathV (p ++ [i])) S := by
  unfold pathV
  rw [run_addT (by rw [List.length_map]; show p.length + 1 ≤ _; omega), List.map_append]
  rfl
/-! ### numbers that are small enough to be shown -/
@[irreducible] def BIG : Int := 10 ^ 99
theorem BIG_nat {i : Int} (h0 : 0 ≤ i) (h : i < BIG) : i.natAbs < 10 ^ 100 := by
  have : (i.natAbs : Int) < ((10 ^ 100 : Nat) : Int) := by
    rw [Int.natAbs_of_nonneg h0]
    exact Int.lt_of_lt_of_le h (by unfold BIG; decide)
  exact Int.ofNat_lt.mp this
theorem good_toV {c : Nat} {S : Store} : ∀ {t : T} {d : Nat}, t.nn = true → t.mx < BIG → t.dep ≤ d → d < 66 → Good c S d (211 * t.tc + 101) (toV t)
  | .leaf i, d, h, hm, _, _ => .int (BIG_nat (of_decide_eq_true h) hm) (by omega)
  | .node n l r, d, h, hm, hd, h66 => by
    rw [T.nn_node] at h
    have hd : 1 + max l.dep r.dep ≤ d := hd
    have hm : n + max l.mx r.mx < BIG := hm
    have hl := T.nn_mx h.2.1
    have hr := T.nn_mx h.2.2
    obtain ⟨d, rfl⟩ : ∃ e, d = e + 1 := ⟨d - 1, by omega⟩
    refine .three (L := 101) (.int (BIG_nat h.1 (by omega)) (Nat.le_refl _)) (good_toV h.2.1 (by omega) (by omega) (by omega)) (good_toV h.2.2 (by omega) (by omega) (by omega)) (by omega) ?_
    show _ ≤ 211 * (1 + (l.tc + r.tc)) + 101
    omega
/-! ### a comprehension over a list: with a condition, of pure parts -/
theorem comp_flt {f : D} {tg : TgD} {cd : DT} {n : Nat} {ρ : PD.Env} {ys : List Val} {P : Val → Bool} {g : Val → Val} : ∀ (xs : List Val) (i : Nat) (acc : List Val) (S : Store), S[n]? = some (.lst ys) → acc.length + xs.length < 16777216 →
    (∀ x ∈ xs, ∀ S', Kp S S' → ∃ ρ1, tg x ρ = some ρ1 ∧ Run (cd ρ1 S') (fun b S2 => b = P x ∧ Kp S' S2) ∧ (P x = true → ∀ S2, Kp S S2 → Run (f ρ1 S2) (PureK S2 (g x)))) → ys.drop i = xs → i ≤ ys.length →
    Run (compG (srcC n) tg cd f xs.length i acc ρ S) (PureK S (acc ++ (xs.filter P).map g))
  | [], i, acc, S, hn, _, _, hd, hi => by
    have : ys[i]? = none := by
      rw [List.getElem?_eq_none_iff]
      have := congrArg List.length hd
      simp at this; omega
    show Run (match srcC n i S with | some none => Res.ok acc S | _ => .stuck) _
    have es : srcC n i S = some none := by
      unfold srcC; rw [hn]; show some ys[i]? = _; rw [this]
    rw [es]
    exact ⟨by simp, .refl S⟩
  | x :: xs, i, acc, S, hn, hl, he, hd, hi => by
    have hlt : i < ys.length := by
      have := congrArg List.length hd
      simp at this; omega
    have e0 := List.drop_eq_getElem_cons hlt
    rw [hd] at e0
    have hx : ys[i]? = some x := by rw [List.getElem?_eq_getElem hlt, (List.cons.inj e0).1]
    have hl' : acc.length + (xs.length + 1) < 16777216 := hl
    obtain ⟨ρ1, et, hc, hf⟩ := he x List.mem_cons_self S (.refl S)
    show Run (match srcC n i S with
      | none => Res.stuck
      | some none => .ok acc S
      | some (some x) => match tg x ρ with
        | none => .stuck
        | some ρ1 => (noX (cd ρ1 S)).bind fun b S1 => if b = true then (noX (f ρ1 S1)).bind fun y S2 => if acc.length < 16777216 then compG (srcC n) tg cd f xs.length (i + 1) (acc ++ [y]) ρ S2 else .stuck
            else compG (srcC n) tg cd f xs.length (i + 1) acc ρ S1) _
    have es : srcC n i S = some (some x) := by unfold srcC; rw [hn]; show some ys[i]? = _; rw [hx]
    rw [es]
    show Run (match tg x ρ with
        | none => .stuck
        | some ρ1 => (noX (cd ρ1 S)).bind fun b S1 => if b = true then (noX (f ρ1 S1)).bind fun y S2 => if acc.length < 16777216 then compG (srcC n) tg cd f xs.length (i + 1) (acc ++ [y]) ρ S2 else .stuck
            else compG (srcC n) tg cd f xs.length (i + 1) acc ρ S1) _
    rw [et]
    show Run ((noX (cd ρ1 S)).bind fun b S1 => if b = true then (noX (f ρ1 S1)).bind fun y S2 => if acc.length < 16777216 then compG (srcC n) tg cd f xs.length (i + 1) (acc ++ [y]) ρ S2 else .stuck
            else compG (srcC n) tg cd f xs.length (i + 1) acc ρ S1) _
    rw [run_bind, run_noX]
    refine Run.mono hc fun b S1 ⟨eb, k1⟩ => ?_
    subst eb
    cases hP : P x with
    | false =>
      rw [if_neg (by decide), List.filter_cons_of_neg (by rw [hP]; decide)]
      refine Run.mono (comp_flt (P := P) (g := g) xs (i + 1) acc S1 (k1 _ _ hn) (by omega) (fun y hy S' k' => ?_) (List.cons.inj e0).2.symm hlt) fun zs S2 ⟨ez, g2⟩ => ⟨ez, k1.trans g2⟩
      obtain ⟨ρ2, a1, a2, a3⟩ := he y (List.mem_cons_of_mem _ hy) S' (k1.trans k')
      exact ⟨ρ2, a1, a2, fun hq S2 k2 => a3 hq S2 (k1.trans k2)⟩
    | true =>
      rw [if_pos rfl, run_bind, run_noX, List.filter_cons_of_pos hP]
      refine Run.mono (hf hP S1 k1) fun y S2 ⟨ey, k2⟩ => ?_
      subst ey
      rw [if_pos (by omega)]
      refine Run.mono (comp_flt (P := P) (g := g) xs (i + 1) (acc ++ [g x]) S2 (k2 _ _ (k1 _ _ hn)) (by simp; omega) (fun y hy S' k' => ?_) (List.cons.inj e0).2.symm hlt) fun zs S3 ⟨ez, g3⟩ => ⟨by rw [ez]; simp, (k1.trans k2).trans g3⟩
      obtain ⟨ρ2, a1, a2, a3⟩ := he y (List.mem_cons_of_mem _ hy) S' ((k1.trans k2).trans k')
      exact ⟨ρ2, a1, a2, fun hq S2' k2' => a3 hq S2' ((k1.trans k2).trans k2')⟩
theorem run_lccf {h : D} {tg : TgD} {cd : DT} {f : D} {vs : List Nat} {ρ : PD.Env} {S : Store} {xs : List Val} {P : Val → Bool} {g : Val → Val} (hl : xs.length ≤ 1000000) (e : Run (h ρ S) fun x S1 => ∃ n, x = .ref n ∧ S1[n]? = some (.lst xs) ∧ Kp S S1)
    (he : ∀ x ∈ xs, ∀ S', Kp S S' → ∃ ρ1, tg x (wipeE ρ vs) = some ρ1 ∧ Run (cd ρ1 S') (fun b S2 => b = P x ∧ Kp S' S2) ∧ (P x = true → ∀ S2, Kp S S2 → Run (f ρ1 S2) (PureK S2 (g x)))) :
    Run (dLCC h tg cd f vs ρ S) (fun r S' => ∃ S1, r = .ref S1.length ∧ S' = S1 ++ [.lst ((xs.filter P).map g)] ∧ Kp S S1) := by
  unfold dLCC
  rw [run_bind]
  refine Run.mono e fun x S1 ⟨n, e1, e2, k⟩ => ?_
  subst e1
  show Run (match S1[n]? with
    | some cc => (compG (srcC n) tg cd f cc.items.length 0 [] (wipeE ρ vs) S1).bind alloc
    | none => .stuck) _
  rw [e2]
  show Run ((compG (srcC n) tg cd f xs.length 0 [] (wipeE ρ vs) S1).bind alloc) _
  rw [run_bind]
  refine Run.mono (comp_flt (P := P) (g := g) (ys := xs) xs 0 [] S1 e2 (by simp; omega) (fun x hx S' k' => ?_) rfl (Nat.zero_le _)) fun ys S2 ⟨e1, k2⟩ => ?_
  · obtain ⟨ρ1, a1, a2, a3⟩ := he x hx S' (k.trans k')
    exact ⟨ρ1, a1, a2, fun hq S2 k2 => a3 hq S2 (k.trans k2)⟩
  · subst e1
    exact ⟨_, rfl, rfl, k.trans k2⟩
theorem run_tYes {ρ : PD.Env} {S : Store} {Q : Bool → Store → Prop} : Run (tYes' ρ S) Q = Q true S := rfl
/-! ### products, sums -/
theorem run_mulE {a b : Int} {S : Store} {Q : Val → Store → Prop} (h : a.natAbs < 2 ^ 63 ∨ b.natAbs < 2 ^ 63) : Run (oMulE (.int a) (.int b) S) Q = Q (.int (a * b)) S := by
  show Run (if a.natAbs < 2 ^ 63 ∨ b.natAbs < 2 ^ 63 ∨ a.natAbs.log2 + b.natAbs.log2 < 1000000 then okI (a * b) S else .stuck) Q = _
  rw [if_pos (by rcases h with h | h; exact .inl h; exact .inr (.inl h))]; rfl
theorem run_powE {a : Nat} {b : Nat} {S : Store} {Q : Val → Store → Prop} (h : b ≤ 1000000) (h' : a < 1000) : Run (oPow (.int a) (.int b) S) Q = Q (.int ((a : Int) ^ b)) S := by
  show Run (if (0 : Int) ≤ b ∧ (b : Int) ≤ 1000000 ∧ (a : Int).natAbs < 2 ^ 64 then okI ((a : Int) ^ (b : Int).toNat) S else .stuck) Q = _
  rw [if_pos ⟨by omega, by omega, by rw [Int.natAbs_natCast]; exact Nat.lt_of_lt_of_le h' (by decide)⟩, Int.toNat_natCast]; rfl
end PD

/-! ## PDGd -/
set_option Elab.async false
set_option linter.all false
set_option maxRecDepth 100000
set_option maxHeartbeats 4000000
namespace PD
open PySem PySem.Spec L2 LT
/-! ### written values that hold no list: depth and length, reckoned -/
mutual
def gd : Val → Option (Nat × Nat)
  | .non => some (0, 4)
  | .bl _ => some (0, 5)
  | .int i => if i.natAbs < 10 ^ 100 then some (0, 101) else none
  | .str z => if (PyData.str z).canLay0 = true ∧ PyData.strOk (reprText z) = true then some (0, (reprText z).length) else none
  | .tup xs => match gds xs with
    | some (d, L) => some (d + 1, L + 3)
    | none => none
  | _ => none
def gds : List Val → Option (Nat × Nat)
  | [] => some (0, 0)
  | x :: xs => match gd x, gds xs with
    | some (d, L), some (e, M) => some (max d e, L + 2 + M)
    | _, _ => none
end
section
variable {c : Nat} {S : Store}
mutual
theorem gd_good : ∀ (v : Val) (d L : Nat), gd v = some (d, L) → d < 66 → Good c S d L v
  | .non, d, L, h, _ => by cases h; exact .non (Nat.le_refl _)
  | .bl b, d, L, h, _ => by cases h; exact .bl (Nat.le_refl _)
  | .int i, d, L, h, _ => by
    unfold gd at h
    split at h
    · rename_i hi; cases h; exact .int hi (Nat.le_refl _)
    · cases h
  | .str z, d, L, h, _ => by
    unfold gd at h
    split at h
    · rename_i hi; cases h; exact .str hi.1 (Nat.le_refl _) hi.2
    · cases h
  | .tup xs, d, L, h, hd => by
    unfold gd at h
    split at h
    · rename_i e M he
      cases h
      exact .tup (gds_good xs e M he (by omega)) (by omega) (Nat.le_refl _)
    · cases h
  | .ref n, d, L, h, _ => by cases h
  | .ty n, d, L, h, _ => by cases h
  | .kl n, d, L, h, _ => by cases h
  | .ob n, d, L, h, _ => by cases h
theorem gds_good : ∀ (xs : List Val) (d L : Nat), gds xs = some (d, L) → d < 66 → Goods c S d L xs
  | [], d, L, h, _ => .nil _
  | x :: xs, d, L, h, hd => by
    unfold gds at h
    split at h
    · rename_i d1 L1 d2 L2 h1 h2
      cases h
      exact .cons ((gd_good x d1 L1 h1 (by omega)).up (by omega) (Nat.le_refl _)) (Goods.up (gds_good xs d2 L2 h2 (by omega)) (by omega)) (Nat.le_refl _)
    · cases h
theorem Goods.up {d e L : Nat} {xs : List Val} (h : Goods c S d L xs) (he : d ≤ e) : Goods c S e L xs := by
  induction h with
  | nil L => exact .nil L
  | cons hx _ hN ih => exact .cons (hx.up he (Nat.le_refl _)) ih hN
end
theorem gd_up {v : Val} {d L d' L' : Nat} (h : gd v = some (d, L)) (hd : d ≤ d') (hL : L ≤ L') (h66 : d < 66) : Good c S d' L' v := (gd_good v d L h h66).up hd hL
theorem gd_all {v : Val} {d' L' : Nat} (h : (match gd v with | some (d, L) => decide (d ≤ d') && decide (L ≤ L') && decide (d < 66) | none => false) = true) : Good c S d' L' v := by
  split at h
  · rename_i d L e
    simp only [Bool.and_eq_true, decide_eq_true_eq] at h
    exact gd_up e h.1.1 h.1.2 h.2
  · cases h
/-- all of a written list -/
theorem gd_list {xs : List Val} {d' L' : Nat} (h : xs.all (fun v => match gd v with | some (d, L) => decide (d ≤ d') && decide (L ≤ L') && decide (d < 66) | none => false) = true) : ∀ x ∈ xs, Good c S d' L' x := fun x hx => gd_all (List.all_eq_true.mp h x hx)
end
/-! ### a list of values that are good -/
def Vs (c D L k m : Nat) (S : Store) : Prop := m ≠ c ∧ ∃ xs, S[m]? = some (.lst xs) ∧ xs.length = k ∧ ∀ x ∈ xs, Good c S D L x
theorem Vs.kx {c D L k m : Nat} {S S' : Store} (h : Vs c D L k m S) (q : Kx c S S') (hD : D < 66) : Vs c D L k m S' := by
  obtain ⟨a, xs, e, hl, hx⟩ := h
  exact ⟨a, xs, q _ _ a e, hl, fun x hm => (hx x hm).kx q hD⟩
theorem Vs.more {c D L k m : Nat} {S : Store} {ys : List Val} (h : Vs c D L k m S) (hc : c < S.length) (hD : D < 66) (hy : ∀ y ∈ ys, Good c S D L y) (hl : k + ys.length ≤ 1000) :
    Run (oAdd (.ref m) (.ref S.length) (S ++ [.lst ys])) (fun r S' => ∃ m', r = .ref m' ∧ Vs c D L (k + ys.length) m' S' ∧ Kp S S') := by
  obtain ⟨a, xs, e, hk, hx⟩ := h
  rw [run_addL ((Gr.add _ _).get e) (get_new _ _) (by omega)]
  have k := ((Gr.add S [.lst ys]).trans (Gr.add _ [.lst (xs ++ ys)])).kp
  refine ⟨_, rfl, ⟨by rw [List.length_append]; omega, xs ++ ys, get_new _ _, by rw [List.length_append, hk], fun x h => ?_⟩, k⟩
  rcases List.mem_append.mp h with h | h
  · exact (hx x h).gr k hD
  · exact (hy x h).gr k hD
theorem mem_repV {α : Type} {k : Nat} {xs : List α} {x : α} (h : x ∈ repV k xs) : x ∈ xs := by
  unfold repV at h
  obtain ⟨ys, hy, hx⟩ := List.mem_flatten.mp h
  rw [(List.mem_replicate.mp hy).2] at hx
  exact hx
theorem len_repV {α : Type} (k : Nat) (xs : List α) : (repV k xs).length = k * xs.length := by
  unfold repV
  induction k with
  | zero => simp
  | succ k ih => rw [List.replicate_succ, List.flatten_cons, List.length_append, ih, Nat.succ_mul]; omega
theorem run_repLL {k : Nat} {xs : List Val} {S : Store} {Q : Val → Store → Prop} (h : xs.length * k ≤ 1000000) (hk : k ≤ 1000000) : Run (oRepL (.ref S.length) (.int k) (S ++ [.lst xs])) Q = Q (.ref (S ++ [Cell.lst xs]).length) (S ++ [.lst xs] ++ [.lst (repV k xs)]) := by
  have hc : -(2 ^ 63) ≤ (k : Int) ∧ (k : Int) < 2 ^ 63 ∧ xs.length * (k : Int).toNat ≤ 16777216 := ⟨by omega, by omega, by rw [Int.toNat_natCast]; omega⟩
  unfold oRepL
  simp only [get_new]
  rw [if_pos hc, Int.toNat_natCast]
  rfl
/-- to the list, a written list k times -/
theorem Vs.moreK {c D L k m w : Nat} {S : Store} {ys : List Val} (h : Vs c D L k m S) (hc : c < S.length) (hD : D < 66) (hy : ∀ y ∈ ys, Good c S D L y) (hl : k + w * ys.length ≤ 1000) (hw : w ≤ 1000) :
    Run (oRepL (.ref S.length) (.int w) (S ++ [.lst ys])) (fun y S1 => Run (oAdd (.ref m) y S1) (fun r S' => ∃ m', r = .ref m' ∧ Vs c D L (k + w * ys.length) m' S' ∧ Kp S S')) := by
  have hz : ys.length * w ≤ 1000000 := by rw [Nat.mul_comm]; omega
  rw [run_repLL hz (by omega)]
  have k1 := (Gr.add S [.lst ys]).kp
  have h2 := h.kx k1.kx hD
  have := Vs.more (ys := repV w ys) h2 (by rw [List.length_append]; omega) hD (fun y hm => (hy y (mem_repV hm)).gr k1 hD) (by rw [len_repV]; omega)
  refine Run.mono this fun r S' ⟨m', e, hv, k2⟩ => ?_
  rw [len_repV] at hv
  exact ⟨m', e, hv, k1.trans k2⟩
end PD

/-! ## LTSpread -/
set_option Elab.async false
set_option linter.all false
set_option maxHeartbeats 1000000
/-! all parts behind so many halves, and what is gathered of them (T.half is over this text's tree of the law: here by h) -/
namespace PD.LT.T
def hf (t : T) (h : Int) : T := match t with
  | leaf i => leaf i
  | node n l r => if h = 0 then l.lift n else r.lift n
theorem co_hf {t : T} {h : Int} (hc : t.co = true) : (t.hf h).co = true := by
  cases t with
  | leaf i => exact hc
  | node n l r =>
    obtain ⟨h1, h2, _⟩ := co_node.mp hc
    show (if h = 0 then l.lift n else r.lift n).co = true
    split
    · rw [co_lift]; exact h1
    · rw [co_lift]; exact h2
theorem nn_hf {t : T} {h : Int} (hn : t.nn = true) : (t.hf h).nn = true := by
  cases t with
  | leaf i => exact hn
  | node n l r =>
    obtain ⟨h0, h1, h2⟩ := nn_node.mp hn
    show (if h = 0 then l.lift n else r.lift n).nn = true
    split
    · exact nn_lift h1 h0
    · exact nn_lift h2 h0
theorem dep_hf {t : T} {h : Int} : (t.hf h).dep ≤ t.dep - 1 := by
  cases t with
  | leaf i => exact Nat.le_refl _
  | node n l r =>
    show (if h = 0 then l.lift n else r.lift n).dep ≤ 1 + max l.dep r.dep - 1
    split
    · rw [dep_lift]; omega
    · rw [dep_lift]; omega
theorem mx_hf {t : T} {h : Int} : (t.hf h).mx ≤ t.mx := by
  cases t with
  | leaf i => exact Int.le_refl _
  | node n l r =>
    show (if h = 0 then l.lift n else r.lift n).mx ≤ n + max l.mx r.mx
    split
    · rw [mx_lift]; omega
    · rw [mx_lift]; omega
/-- halves of what was put together -/
theorem hf_whole0 (l r : T) : (whole l r).hf 0 = l := by
  unfold whole
  split
  · rename_i h
    obtain ⟨i, rfl, rfl⟩ := sameL_eq h
    rfl
  · show (if (0 : Int) = 0 then (l.lift (-(min l.top r.top))).lift (min l.top r.top) else (r.lift (-(min l.top r.top))).lift (min l.top r.top)) = l
    rw [if_pos rfl, lift_lift, show -(min l.top r.top) + min l.top r.top = 0 by omega, lift_zero]
theorem hf_whole1 (l r : T) : (whole l r).hf 1 = r := by
  unfold whole
  split
  · rename_i h
    obtain ⟨i, rfl, rfl⟩ := sameL_eq h
    rfl
  · show (if (1 : Int) = 0 then (l.lift (-(min l.top r.top))).lift (min l.top r.top) else (r.lift (-(min l.top r.top))).lift (min l.top r.top)) = r
    rw [if_neg (by decide), lift_lift, show -(min l.top r.top) + min l.top r.top = 0 by omega, lift_zero]
theorem whole_hf {t : T} (hc : t.co = true) : whole (t.hf 0) (t.hf 1) = t := by
  cases t with
  | leaf i =>
    show whole (leaf i) (leaf i) = leaf i
    unfold whole sameL
    simp
  | node n l r =>
    show whole (l.lift n) (r.lift n) = node n l r
    rw [whole_lift, whole_of_co hc]
/-! ### all parts, all paths -/
def parts : Nat → T → List T
  | 0, t => [t]
  | n + 1, t => parts n (t.hf 0) ++ parts n (t.hf 1)
def paths : Nat → List (List Int)
  | 0 => [[]]
  | n + 1 => (paths n).map (0 :: ·) ++ (paths n).map (1 :: ·)
theorem parts_step : ∀ (n : Nat) (t : T), (parts n t).flatMap (fun u => [u.hf 0, u.hf 1]) = parts (n + 1) t
  | 0, t => rfl
  | n + 1, t => by
    show (parts n (t.hf 0) ++ parts n (t.hf 1)).flatMap _ = parts (n + 1) (t.hf 0) ++ parts (n + 1) (t.hf 1)
    rw [List.flatMap_append, parts_step n, parts_step n]
theorem paths_step : ∀ n : Nat, (paths n).flatMap (fun p => [p ++ [0], p ++ [1]]) = paths (n + 1)
  | 0 => rfl
  | n + 1 => by
    show ((paths n).map (0 :: ·) ++ (paths n).map (1 :: ·)).flatMap _ = (paths (n + 1)).map (0 :: ·) ++ (paths (n + 1)).map (1 :: ·)
    rw [← paths_step n, List.flatMap_append, List.flatMap_map, List.flatMap_map, List.map_flatMap, List.map_flatMap]
    rfl
theorem parts_len : ∀ (n : Nat) (t : T), (parts n t).length = 2 ^ n
  | 0, t => rfl
  | n + 1, t => by
    show (parts n (t.hf 0) ++ parts n (t.hf 1)).length = _
    rw [List.length_append, parts_len n, parts_len n, Nat.pow_succ]; omega
theorem paths_len : ∀ n : Nat, (paths n).length = 2 ^ n
  | 0 => rfl
  | n + 1 => by
    show ((paths n).map (0 :: ·) ++ (paths n).map (1 :: ·)).length = _
    rw [List.length_append, List.length_map, List.length_map, paths_len n, Nat.pow_succ]; omega
theorem paths_half : ∀ (n : Nat) (p : List Int), p ∈ paths n → p.length = n ∧ ∀ i ∈ p, i = 0 ∨ i = 1
  | 0, p, h => by
    rw [List.mem_singleton.mp h]
    exact ⟨rfl, fun _ h => nomatch h⟩
  | n + 1, p, h => by
    rcases List.mem_append.mp h with h | h
    · obtain ⟨q, hq, rfl⟩ := List.mem_map.mp h
      obtain ⟨h1, h2⟩ := paths_half n q hq
      exact ⟨by rw [List.length_cons, h1], fun i hi => by rcases List.mem_cons.mp hi with rfl | hi; exact .inl rfl; exact h2 i hi⟩
    · obtain ⟨q, hq, rfl⟩ := List.mem_map.mp h
      obtain ⟨h1, h2⟩ := paths_half n q hq
      exact ⟨by rw [List.length_cons, h1], fun i hi => by rcases List.mem_cons.mp hi with rfl | hi; exact .inr rfl; exact h2 i hi⟩
def at' : List Int → T → T
  | [], t => t
  | h :: p, t => at' p (t.hf h)
theorem parts_at : ∀ (n : Nat) (t : T), parts n t = (paths n).map fun p => at' p t
  | 0, t => rfl
  | n + 1, t => by
    show parts n (t.hf 0) ++ parts n (t.hf 1) = ((paths n).map (0 :: ·) ++ (paths n).map (1 :: ·)).map _
    rw [List.map_append, List.map_map, List.map_map, parts_at n, parts_at n]
    rfl
theorem parts_all {P : T → Prop} (hP : ∀ (t : T) (h : Int), P t → P (t.hf h)) : ∀ (n : Nat) (t : T), P t → ∀ u ∈ parts n t, P u
  | 0, t, h, u, hu => by rw [List.mem_singleton.mp hu]; exact h
  | n + 1, t, h, u, hu => by
    rcases List.mem_append.mp hu with hu | hu
    · exact parts_all hP n _ (hP t 0 h) u hu
    · exact parts_all hP n _ (hP t 1 h) u hu
theorem parts_dep : ∀ (n : Nat) (t : T), ∀ u ∈ parts n t, u.dep ≤ t.dep - n
  | 0, t, u, hu => by rw [List.mem_singleton.mp hu]; omega
  | n + 1, t, u, hu => by
    rcases List.mem_append.mp hu with hu | hu
    · have := parts_dep n _ u hu
      have := dep_hf (t := t) (h := 0)
      omega
    · have := parts_dep n _ u hu
      have := dep_hf (t := t) (h := 1)
      omega
theorem leaf_of_dep {t : T} (h : t.dep = 0) : t = leaf t.top := by
  cases t with
  | leaf i => rfl
  | node n l r =>
    have h : 1 + max l.dep r.dep = 0 := h
    omega
theorem parts_leaf {n : Nat} {t : T} (h : t.dep ≤ n) : parts n t = ((parts n t).map top).map leaf := by
  rw [List.map_map]
  conv => lhs; rw [← List.map_id (parts n t)]
  refine List.map_congr_left fun u hu => ?_
  show u = leaf u.top
  exact leaf_of_dep (by have := parts_dep n t u hu; omega)
theorem parts_deep : ∀ (n : Nat) (t : T), n < t.dep → ∃ u ∈ parts n t, u.isLeaf = false
  | 0, t, h => by
    cases t with
    | leaf i => exact absurd h (Nat.not_lt_zero _)
    | node k l r => exact ⟨_, List.mem_singleton_self _, rfl⟩
  | n + 1, t, h => by
    cases t with
    | leaf i => exact absurd h (Nat.not_lt_zero _)
    | node k l r =>
      have h : n + 1 < 1 + max l.dep r.dep := h
      by_cases hl : n < l.dep
      · obtain ⟨u, hu, h2⟩ := parts_deep n (l.lift k) (by rw [dep_lift]; exact hl)
        exact ⟨u, List.mem_append_left _ hu, h2⟩
      · obtain ⟨u, hu, h2⟩ := parts_deep n (r.lift k) (by rw [dep_lift]; omega)
        exact ⟨u, List.mem_append_right _ hu, h2⟩
/-- leaves of the rows: one as deep as the tree -/
theorem leaves_deep : ∀ (t : T) (p : List Int) (m : Int), ∃ x ∈ leaves t p m, x.1.length = p.length + t.dep
  | leaf i, p, m => ⟨_, List.mem_singleton_self _, rfl⟩
  | node k l r, p, m => by
    obtain ⟨x, hx, e⟩ := leaves_deep l (p ++ [0]) (m + k)
    obtain ⟨y, hy, e2⟩ := leaves_deep r (p ++ [1]) (m + k)
    rw [List.length_append, List.length_singleton] at e e2
    show ∃ x ∈ leaves l (p ++ [0]) (m + k) ++ leaves r (p ++ [1]) (m + k), x.1.length = p.length + (1 + max l.dep r.dep)
    by_cases h : r.dep ≤ l.dep
    · exact ⟨x, List.mem_append_left _ hx, by omega⟩
    · exact ⟨y, List.mem_append_right _ hy, by omega⟩
/-! ### gathered -/
def perf : Nat → List Int → T
  | 0, ws => leaf (ws.headD 0)
  | n + 1, ws => node 0 (perf n (ws.take (2 ^ n))) (perf n (ws.drop (2 ^ n)))
theorem perf_facts : ∀ (n : Nat) (ws : List Int), (perf n ws).dep = n ∧ (perf n ws).tc + 1 = 2 ^ n
  | 0, ws => ⟨rfl, rfl⟩
  | n + 1, ws => by
    obtain ⟨a, b⟩ := perf_facts n (ws.take (2 ^ n))
    obtain ⟨c, d⟩ := perf_facts n (ws.drop (2 ^ n))
    refine ⟨?_, ?_⟩
    · show 1 + max (perf n _).dep (perf n _).dep = n + 1
      rw [a, c]; omega
    · show 1 + ((perf n _).tc + (perf n _).tc) + 1 = 2 ^ (n + 1)
      rw [Nat.pow_succ]; omega
theorem perf_nn : ∀ (n : Nat) (ws : List Int), (∀ w ∈ ws, 0 ≤ w) → (perf n ws).nn = true
  | 0, ws, h => by
    show decide (0 ≤ ws.headD 0) = true
    cases ws with
    | nil => rfl
    | cons w ws => exact decide_eq_true (h w List.mem_cons_self)
  | n + 1, ws, h => nn_node.mpr ⟨by decide, perf_nn n _ fun w hw => h w (List.mem_of_mem_take hw), perf_nn n _ fun w hw => h w (List.mem_of_mem_drop hw)⟩
theorem take_drop_len {n : Nat} {ws : List Int} (h : ws.length = 2 ^ (n + 1)) : (ws.take (2 ^ n)).length = 2 ^ n ∧ (ws.drop (2 ^ n)).length = 2 ^ n := by
  rw [List.length_take, List.length_drop, h, Nat.pow_succ]; omega
theorem perf_leaves : ∀ (n : Nat) (ws : List Int) (p : List Int), ws.length = 2 ^ n → leaves (perf n ws) p 0 = ((paths n).map (p ++ ·)).zip ws
  | 0, ws, p, h => by
    match ws, h with
    | [w], _ =>
      show [(p, 0 + w)] = [(p ++ [], w)]
      rw [List.append_nil, Int.zero_add]
  | n + 1, ws, p, h => by
    obtain ⟨h1, h2⟩ := take_drop_len h
    show leaves (perf n (ws.take (2 ^ n))) (p ++ [0]) (0 + 0) ++ leaves (perf n (ws.drop (2 ^ n))) (p ++ [1]) (0 + 0) = (((paths n).map (0 :: ·) ++ (paths n).map (1 :: ·)).map (p ++ ·)).zip ws
    rw [Int.zero_add, perf_leaves n _ _ h1, perf_leaves n _ _ h2, List.map_append, List.map_map, List.map_map]
    conv => rhs; rw [← List.take_append_drop (2 ^ n) ws]
    rw [List.zip_append (by rw [List.length_map, paths_len, h1])]
    congr 2
    · congr 1; funext q; simp
    · congr 1; funext q; simp
/-- pairs put together -/
def pairUp : List T → List T
  | a :: b :: r => whole a b :: pairUp r
  | r => r
def up : Nat → List T → List T
  | 0, ts => ts
  | k + 1, ts => up k (pairUp ts)
theorem pairUp_append : ∀ (as bs : List T), as.length % 2 = 0 → pairUp (as ++ bs) = pairUp as ++ pairUp bs
  | [], bs, _ => rfl
  | [_], _, h => by cases h
  | a :: b :: r, bs, h => by
    show whole a b :: pairUp (r ++ bs) = whole a b :: (pairUp r ++ pairUp bs)
    rw [pairUp_append r bs (by rw [List.length_cons, List.length_cons] at h; omega)]
theorem pairUp_len : ∀ (as : List T), as.length % 2 = 0 → (pairUp as).length = as.length / 2
  | [], _ => rfl
  | [_], h => by cases h
  | a :: b :: r, h => by
    show (whole a b :: pairUp r).length = (a :: b :: r).length / 2
    rw [List.length_cons, pairUp_len r (by rw [List.length_cons, List.length_cons] at h; omega), List.length_cons, List.length_cons]; omega
theorem up_append : ∀ (k : Nat) (as bs : List T), as.length = 2 ^ k → bs.length = 2 ^ k → ∀ a b, up k as = [a] → up k bs = [b] → up (k + 1) (as ++ bs) = [whole a b]
  | 0, as, bs, _, _, a, b, ha, hb => by
    have ha : as = [a] := ha
    have hb : bs = [b] := hb
    subst ha hb
    rfl
  | k + 1, as, bs, h1, h2, a, b, ha, hb => by
    have e1 : as.length % 2 = 0 := by rw [h1, Nat.pow_succ]; omega
    have e2 : bs.length % 2 = 0 := by rw [h2, Nat.pow_succ]; omega
    show up (k + 1) (pairUp (as ++ bs)) = _
    rw [pairUp_append as bs e1]
    exact up_append k _ _ (by rw [pairUp_len as e1, h1, Nat.pow_succ]; omega) (by rw [pairUp_len bs e2, h2, Nat.pow_succ]; omega) a b ha hb
theorem up_perf : ∀ (n : Nat) (ws : List Int), ws.length = 2 ^ n → up n (ws.map leaf) = [(perf n ws).lf]
  | 0, ws, h => by
    match ws, h with
    | [w], _ => rfl
  | n + 1, ws, h => by
    obtain ⟨h1, h2⟩ := take_drop_len h
    have e : ws.map leaf = (ws.take (2 ^ n)).map leaf ++ (ws.drop (2 ^ n)).map leaf := by rw [← List.map_append, List.take_append_drop]
    rw [e, up_append n _ _ (by rw [List.length_map, h1]) (by rw [List.length_map, h2]) _ _ (up_perf n _ h1) (up_perf n _ h2)]
    show _ = [(whole (perf n _).lf (perf n _).lf).lift 0]
    rw [lift_zero]
/-- what is gathered of all parts -/
theorem perf_parts : ∀ (n : Nat) (t : T), t.co = true → t.dep ≤ n → (perf n ((parts n t).map top)).lf = t
  | 0, t, _, h => by
    show (leaf t.top).lf = t
    rw [← leaf_of_dep (show t.dep = 0 by omega)]
    rw [leaf_of_dep (show t.dep = 0 by omega)]; rfl
  | n + 1, t, hc, h => by
    have hl : ((parts n (t.hf 0)).map top).length = 2 ^ n := by rw [List.length_map, parts_len]
    have e1 : (((parts n (t.hf 0) ++ parts n (t.hf 1)).map top)).take (2 ^ n) = (parts n (t.hf 0)).map top := by rw [List.map_append, ← hl, List.take_left]
    have e2 : (((parts n (t.hf 0) ++ parts n (t.hf 1)).map top)).drop (2 ^ n) = (parts n (t.hf 1)).map top := by rw [List.map_append, ← hl, List.drop_left]
    have d0 := dep_hf (t := t) (h := 0)
    have d1 := dep_hf (t := t) (h := 1)
    show (whole (perf n (((parts n (t.hf 0) ++ parts n (t.hf 1)).map top).take (2 ^ n))).lf (perf n (((parts n (t.hf 0) ++ parts n (t.hf 1)).map top).drop (2 ^ n))).lf).lift 0 = t
    rw [e1, e2, lift_zero, perf_parts n _ (co_hf hc) (by omega), perf_parts n _ (co_hf hc) (by omega), whole_hf hc]
/-- all parts of what is gathered -/
theorem parts_perf : ∀ (n : Nat) (ws : List Int), ws.length = 2 ^ n → parts n (perf n ws).lf = ws.map leaf
  | 0, ws, h => by
    match ws, h with
    | [w], _ => rfl
  | n + 1, ws, h => by
    obtain ⟨h1, h2⟩ := take_drop_len h
    show parts n (((whole (perf n (ws.take (2 ^ n))).lf (perf n (ws.drop (2 ^ n))).lf).lift 0).hf 0) ++ parts n (((whole (perf n (ws.take (2 ^ n))).lf (perf n (ws.drop (2 ^ n))).lf).lift 0).hf 1) = _
    rw [lift_zero, hf_whole0, hf_whole1, parts_perf n _ h1, parts_perf n _ h2, ← List.map_append, List.take_append_drop]
end PD.LT.T

/-! ## LTJoin -/
set_option Elab.async false
set_option linter.all false
set_option maxHeartbeats 1000000
/-! the greater of two counts, part by part -/
namespace PD.LT.T
def J : Nat → T → T → T
  | 0, a, b => leaf (max a.top b.top)
  | k + 1, a, b => whole (J k (a.hf 0) (b.hf 0)) (J k (a.hf 1) (b.hf 1))
def W : Nat → T → T → Bool
  | 0, a, b => decide (a.top ≤ b.top)
  | k + 1, a, b => W k (a.hf 0) (b.hf 0) && W k (a.hf 1) (b.hf 1)
theorem J_leaf : ∀ (k : Nat) (i j : Int), J k (leaf i) (leaf j) = leaf (max i j)
  | 0, i, j => rfl
  | k + 1, i, j => by
    show whole (J k (leaf i) (leaf j)) (J k (leaf i) (leaf j)) = _
    rw [J_leaf k]
    unfold whole sameL
    simp
theorem W_leaf : ∀ (k : Nat) (i j : Int), W k (leaf i) (leaf j) = decide (i ≤ j)
  | 0, i, j => rfl
  | k + 1, i, j => by
    show (W k (leaf i) (leaf j) && W k (leaf i) (leaf j)) = _
    rw [W_leaf k, Bool.and_self]
theorem J_comm : ∀ (k : Nat) (a b : T), J k a b = J k b a
  | 0, a, b => by show leaf (max a.top b.top) = leaf (max b.top a.top); rw [Int.max_comm]
  | k + 1, a, b => by
    show whole (J k _ _) (J k _ _) = whole (J k _ _) (J k _ _)
    rw [J_comm k (a.hf 0), J_comm k (a.hf 1)]
theorem J_hf {k : Nat} {a b : T} {h : Int} (hh : h = 0 ∨ h = 1) : (J (k + 1) a b).hf h = J k (a.hf h) (b.hf h) := by
  rcases hh with rfl | rfl
  · exact hf_whole0 _ _
  · exact hf_whole1 _ _
theorem J_at : ∀ (p : List Int) (k : Nat) (a b : T), (∀ i ∈ p, i = 0 ∨ i = 1) → at' p (J (k + p.length) a b) = J k (at' p a) (at' p b)
  | [], k, a, b, _ => rfl
  | h :: p, k, a, b, hp => by
    show at' p ((J (k + (p.length + 1)) a b).hf h) = J k (at' p (a.hf h)) (at' p (b.hf h))
    rw [← Nat.add_assoc, J_hf (hp h List.mem_cons_self), J_at p k _ _ fun i hi => hp i (List.mem_cons_of_mem _ hi)]
theorem co_J : ∀ (k : Nat) (a b : T), (J k a b).co = true
  | 0, a, b => rfl
  | k + 1, a, b => co_whole (co_J k _ _) (co_J k _ _)
theorem top_hf {a : T} (h : a.co = true) : a.top = min (a.hf 0).top (a.hf 1).top := by
  cases a with
  | leaf i => show i = min i i; omega
  | node n l r =>
    obtain ⟨_, _, _, h0, h1, h2⟩ := co_node.mp h
    show n = min (if (0 : Int) = 0 then l.lift n else r.lift n).top (if (1 : Int) = 0 then l.lift n else r.lift n).top
    rw [if_pos rfl, if_neg (by decide), top_lift, top_lift]
    omega
theorem mx_hf2 {a : T} : a.mx = max (a.hf 0).mx (a.hf 1).mx := by
  cases a with
  | leaf i => show i = max i i; omega
  | node n l r =>
    show n + max l.mx r.mx = max (if (0 : Int) = 0 then l.lift n else r.lift n).mx (if (1 : Int) = 0 then l.lift n else r.lift n).mx
    rw [if_pos rfl, if_neg (by decide), mx_lift, mx_lift]
    omega
theorem top_J : ∀ (k : Nat) (a b : T), a.co = true → b.co = true → a.top ≤ (J k a b).top ∧ b.top ≤ (J k a b).top
  | 0, a, b, _, _ => by
    show a.top ≤ max a.top b.top ∧ b.top ≤ max a.top b.top
    omega
  | k + 1, a, b, ha, hb => by
    have h0 := top_J k (a.hf 0) (b.hf 0) (co_hf ha) (co_hf hb)
    have h1 := top_J k (a.hf 1) (b.hf 1) (co_hf ha) (co_hf hb)
    have ea := top_hf ha
    have eb := top_hf hb
    show a.top ≤ (whole (J k _ _) (J k _ _)).top ∧ b.top ≤ (whole (J k _ _) (J k _ _)).top
    rw [top_whole]
    omega
theorem top_dep {a : T} (h : a.dep = 0) : a.mx = a.top := by
  cases a with
  | leaf i => rfl
  | node n l r => have h : 1 + max l.dep r.dep = 0 := h; omega
theorem mx_J : ∀ (k : Nat) (a b : T), a.dep ≤ k → b.dep ≤ k → (J k a b).mx = max a.mx b.mx
  | 0, a, b, ha, hb => by
    show max a.top b.top = _
    rw [top_dep (a := a) (by omega), top_dep (a := b) (by omega)]
  | k + 1, a, b, ha, hb => by
    have da0 := dep_hf (t := a) (h := 0)
    have da1 := dep_hf (t := a) (h := 1)
    have db0 := dep_hf (t := b) (h := 0)
    have db1 := dep_hf (t := b) (h := 1)
    show (whole (J k _ _) (J k _ _)).mx = _
    rw [mx_whole, mx_J k _ _ (by omega) (by omega), mx_J k _ _ (by omega) (by omega), mx_hf2 (a := a), mx_hf2 (a := b)]
    omega
theorem nn_J {k : Nat} {a b : T} (ha : a.co = true) (hb : b.co = true) (h : 0 ≤ a.top) : (J k a b).nn = true := nn_of_co (co_J k a b) (by have := (top_J k a b ha hb).1; omega)
theorem dep_J : ∀ (k : Nat) (a b : T), (J k a b).dep ≤ max a.dep b.dep
  | 0, a, b => Nat.zero_le _
  | k + 1, a, b => by
    have da0 := dep_hf (t := a) (h := 0)
    have da1 := dep_hf (t := a) (h := 1)
    have db0 := dep_hf (t := b) (h := 0)
    have db1 := dep_hf (t := b) (h := 1)
    by_cases h : max a.dep b.dep = 0
    · have ea := leaf_of_dep (t := a) (by omega)
      have eb := leaf_of_dep (t := b) (by omega)
      rw [ea, eb, J_leaf]
      exact Nat.zero_le _
    · have h0 := dep_J k (a.hf 0) (b.hf 0)
      have h1 := dep_J k (a.hf 1) (b.hf 1)
      have := dep_whole (J k (a.hf 0) (b.hf 0)) (J k (a.hf 1) (b.hf 1))
      show (whole (J k _ _) (J k _ _)).dep ≤ _
      omega
theorem W_iff : ∀ (k : Nat) (a b : T), a.dep ≤ k → b.dep ≤ k → b.co = true → (J k a b = b ↔ W k a b = true)
  | 0, a, b, ha, hb, hc => by
    rw [leaf_of_dep (t := a) (by omega), leaf_of_dep (t := b) (by omega)]
    show leaf (max a.top b.top) = leaf b.top ↔ decide (a.top ≤ b.top) = true
    rw [decide_eq_true_eq]
    constructor
    · intro h; injection h with h; omega
    · intro h; congr 1; omega
  | k + 1, a, b, ha, hb, hc => by
    have da0 := dep_hf (t := a) (h := 0)
    have da1 := dep_hf (t := a) (h := 1)
    have db0 := dep_hf (t := b) (h := 0)
    have db1 := dep_hf (t := b) (h := 1)
    have i0 := W_iff k (a.hf 0) (b.hf 0) (by omega) (by omega) (co_hf hc)
    have i1 := W_iff k (a.hf 1) (b.hf 1) (by omega) (by omega) (co_hf hc)
    show whole (J k (a.hf 0) (b.hf 0)) (J k (a.hf 1) (b.hf 1)) = b ↔ (W k (a.hf 0) (b.hf 0) && W k (a.hf 1) (b.hf 1)) = true
    rw [Bool.and_eq_true, ← i0, ← i1]
    constructor
    · intro h
      constructor
      · rw [← hf_whole0 (J k (a.hf 0) (b.hf 0)) (J k (a.hf 1) (b.hf 1)), h]
      · rw [← hf_whole1 (J k (a.hf 0) (b.hf 0)) (J k (a.hf 1) (b.hf 1)), h]
    · rintro ⟨h0, h1⟩
      rw [h0, h1, whole_hf hc]
theorem W_J : ∀ (k : Nat) (a b : T), W k a (J k a b) = true
  | 0, a, b => by
    show decide (a.top ≤ max a.top b.top) = true
    exact decide_eq_true (by omega)
  | k + 1, a, b => by
    show (W k (a.hf 0) ((J (k + 1) a b).hf 0) && W k (a.hf 1) ((J (k + 1) a b).hf 1)) = true
    rw [J_hf (.inl rfl), J_hf (.inr rfl), W_J k, W_J k]; rfl
theorem dep_at : ∀ (p : List Int) (t : T), (at' p t).dep ≤ t.dep - p.length
  | [], t => Nat.le_refl _
  | h :: p, t => by
    have := dep_at p (t.hf h)
    have h2 := dep_hf (t := t) (h := h)
    show (at' p (t.hf h)).dep ≤ t.dep - (p.length + 1)
    omega
theorem co_at : ∀ (p : List Int) {t : T}, t.co = true → (at' p t).co = true
  | [], _, h => h
  | _ :: p, _, h => co_at p (co_hf h)
theorem nn_at : ∀ (p : List Int) {t : T}, t.nn = true → (at' p t).nn = true
  | [], _, h => h
  | _ :: p, _, h => nn_at p (nn_hf h)
theorem at_lift : ∀ (p : List Int) (t : T) (n : Int), at' p (t.lift n) = (at' p t).lift n
  | [], t, n => rfl
  | h :: p, t, n => by
    show at' p ((t.lift n).hf h) = (at' p (t.hf h)).lift n
    have e : (t.lift n).hf h = (t.hf h).lift n := by
      cases t with
      | leaf i => rfl
      | node m l r =>
        show (if h = 0 then l.lift (m + n) else r.lift (m + n)) = (if h = 0 then l.lift m else r.lift m).lift n
        split <;> rw [lift_lift]
    rw [e, at_lift p]
end PD.LT.T

/-! ## LTFill -/
set_option Elab.async false
set_option linter.all false
set_option maxHeartbeats 1000000
/-! shares, counts filled within them, and grown at a path -/
namespace PD.LT
inductive Sh where
  | zero | one | node (l r : Sh)
deriving DecidableEq
namespace Sh
def ok : Sh → Bool
  | node l r => l.ok && (r.ok && (!(decide (l = zero) && decide (r = zero)) && !(decide (l = one) && decide (r = one))))
  | _ => true
def dep : Sh → Nat
  | node l r => 1 + max l.dep r.dep
  | _ => 0
def tc : Sh → Nat
  | node l r => 1 + (l.tc + r.tc)
  | _ => 0
def paths : Sh → List (List Int)
  | zero => []
  | one => [[]]
  | node l r => l.paths.map (0 :: ·) ++ r.paths.map (1 :: ·)
theorem ok_node {l r : Sh} : (node l r).ok = true ↔ l.ok = true ∧ r.ok = true ∧ ¬ (l = zero ∧ r = zero) ∧ ¬ (l = one ∧ r = one) := by
  show (l.ok && (r.ok && (!(decide (l = zero) && decide (r = zero)) && !(decide (l = one) && decide (r = one))))) = true ↔ _
  simp only [Bool.and_eq_true, Bool.not_eq_true', Bool.and_eq_false_iff, decide_eq_false_iff_not]
  constructor
  · rintro ⟨a, b, c, d⟩
    exact ⟨a, b, fun h => by rcases c with c | c; exact c h.1; exact c h.2, fun h => by rcases d with d | d; exact d h.1; exact d h.2⟩
  · rintro ⟨a, b, c, d⟩
    refine ⟨a, b, ?_, ?_⟩
    · by_cases h : l = zero
      · exact .inr fun h' => c ⟨h, h'⟩
      · exact .inl h
    · by_cases h : l = one
      · exact .inr fun h' => d ⟨h, h'⟩
      · exact .inl h
theorem paths_ne : ∀ {s : Sh}, s.ok = true → s ≠ zero → s.paths ≠ []
  | zero, _, h => absurd rfl h
  | one, _, _ => by simp [paths]
  | node l r, h, _ => by
    obtain ⟨h1, h2, h3, _⟩ := ok_node.mp h
    show l.paths.map (0 :: ·) ++ r.paths.map (1 :: ·) ≠ []
    by_cases hl : l = zero
    · have := paths_ne h2 (fun q => h3 ⟨hl, q⟩)
      simp [this]
    · have := paths_ne h1 hl
      simp [this]
theorem paths_01 : ∀ {s : Sh} {p : List Int}, p ∈ s.paths → p.length ≤ s.dep ∧ ∀ i ∈ p, i = 0 ∨ i = 1
  | zero, p, h => nomatch h
  | one, p, h => by rw [List.mem_singleton.mp h]; exact ⟨Nat.le_refl _, fun _ h => nomatch h⟩
  | node l r, p, h => by
    have h : p ∈ l.paths.map (0 :: ·) ++ r.paths.map (1 :: ·) := h
    have ed : (node l r).dep = 1 + max l.dep r.dep := rfl
    rcases List.mem_append.mp h with h | h
    · obtain ⟨q, hq, rfl⟩ := List.mem_map.mp h
      obtain ⟨a, b⟩ := paths_01 hq
      refine ⟨by show q.length + 1 ≤ _; omega, fun i hi => ?_⟩
      rcases List.mem_cons.mp hi with rfl | hi
      · exact .inl rfl
      · exact b i hi
    · obtain ⟨q, hq, rfl⟩ := List.mem_map.mp h
      obtain ⟨a, b⟩ := paths_01 hq
      refine ⟨by show q.length + 1 ≤ _; omega, fun i hi => ?_⟩
      rcases List.mem_cons.mp hi with rfl | hi
      · exact .inr rfl
      · exact b i hi
theorem paths_len : ∀ s : Sh, s.paths.length ≤ s.tc + 1
  | zero => Nat.zero_le _
  | one => Nat.le_refl _
  | node l r => by
    have := paths_len l
    have := paths_len r
    show (l.paths.map (0 :: ·) ++ r.paths.map (1 :: ·)).length ≤ 1 + (l.tc + r.tc) + 1
    rw [List.length_append, List.length_map, List.length_map]; omega
/-- a path that has no part in common -/
def Dis (p : List Int) (ps : List (List Int)) : Prop := ∀ q ∈ ps, ¬ q <+: p ∧ ¬ p <+: q
theorem dis0 {p : List Int} {l r : Sh} : Dis (0 :: p) (node l r).paths ↔ Dis p l.paths := by
  constructor
  · intro h q hq
    have := h (0 :: q) (List.mem_append_left _ (List.mem_map.mpr ⟨q, hq, rfl⟩))
    exact ⟨fun k => this.1 (List.cons_prefix_cons.mpr ⟨rfl, k⟩), fun k => this.2 (List.cons_prefix_cons.mpr ⟨rfl, k⟩)⟩
  · intro h q hq
    rcases List.mem_append.mp hq with hq | hq
    · obtain ⟨q', hq', rfl⟩ := List.mem_map.mp hq
      exact ⟨fun k => (h q' hq').1 (List.cons_prefix_cons.mp k).2, fun k => (h q' hq').2 (List.cons_prefix_cons.mp k).2⟩
    · obtain ⟨q, hq, rfl⟩ := List.mem_map.mp hq
      exact ⟨fun k => absurd (List.cons_prefix_cons.mp k).1 (by decide), fun k => absurd (List.cons_prefix_cons.mp k).1 (by decide)⟩
theorem dis1 {p : List Int} {l r : Sh} : Dis (1 :: p) (node l r).paths ↔ Dis p r.paths := by
  constructor
  · intro h q hq
    have := h (1 :: q) (List.mem_append_right _ (List.mem_map.mpr ⟨q, hq, rfl⟩))
    exact ⟨fun k => this.1 (List.cons_prefix_cons.mpr ⟨rfl, k⟩), fun k => this.2 (List.cons_prefix_cons.mpr ⟨rfl, k⟩)⟩
  · intro h q hq
    rcases List.mem_append.mp hq with hq | hq
    · obtain ⟨q, hq, rfl⟩ := List.mem_map.mp hq
      exact ⟨fun k => absurd (List.cons_prefix_cons.mp k).1 (by decide), fun k => absurd (List.cons_prefix_cons.mp k).1 (by decide)⟩
    · obtain ⟨q', hq', rfl⟩ := List.mem_map.mp hq
      exact ⟨fun k => (h q' hq').1 (List.cons_prefix_cons.mp k).2, fun k => (h q' hq').2 (List.cons_prefix_cons.mp k).2⟩
theorem dis_one {p : List Int} : ¬ Dis p one.paths := fun h => (h [] (List.mem_singleton_self _)).1 List.nil_prefix
theorem dis_nil {s : Sh} (hs : s.ok = true) (h : Dis [] s.paths) : s = zero := by
  by_cases hz : s = zero
  · exact hz
  · obtain ⟨q, hq⟩ := List.exists_mem_of_ne_nil _ (paths_ne hs hz)
    exact absurd List.nil_prefix (h q hq).2
/-- two least paths of a share are one or have nothing in common -/
theorem paths_dis : ∀ {s : Sh} {p q : List Int}, p ∈ s.paths → q ∈ s.paths → p <+: q → p = q
  | zero, p, q, h, _, _ => nomatch h
  | one, p, q, h, h', _ => by rw [List.mem_singleton.mp h, List.mem_singleton.mp h']
  | node l r, p, q, h, h', k => by
    rcases List.mem_append.mp h with h | h <;> rcases List.mem_append.mp h' with h' | h' <;> obtain ⟨p, hp, rfl⟩ := List.mem_map.mp h <;> obtain ⟨q, hq, rfl⟩ := List.mem_map.mp h'
    · rw [paths_dis hp hq (List.cons_prefix_cons.mp k).2]
    · exact absurd (List.cons_prefix_cons.mp k).1 (by decide)
    · exact absurd (List.cons_prefix_cons.mp k).1 (by decide)
    · rw [paths_dis hp hq (List.cons_prefix_cons.mp k).2]
end Sh
namespace T
open Sh
theorem hf_lift (t : T) (k h : Int) : (t.lift k).hf h = (t.hf h).lift k := by
  cases t with
  | leaf i => rfl
  | node m l r =>
    show (if h = 0 then l.lift (m + k) else r.lift (m + k)) = (if h = 0 then l.lift m else r.lift m).lift k
    split <;> rw [lift_lift]
theorem hf_leaf (i h : Int) : (leaf i).hf h = leaf i := rfl
theorem whole_leaf (i : Int) : whole (leaf i) (leaf i) = leaf i := by
  unfold whole sameL
  simp
theorem top_le_mx : ∀ {t : T}, t.co = true → t.top ≤ t.mx
  | leaf i, _ => Int.le_refl _
  | node n l r, h => by
    obtain ⟨h1, h2, h3, h4, h5, h6⟩ := co_node.mp h
    have := top_le_mx h1
    show n ≤ n + max l.mx r.mx
    omega
theorem leaf_of_eq : ∀ {t : T}, t.co = true → t.top = t.mx → t = leaf t.top
  | leaf i, _, _ => rfl
  | node n l r, h, e => by
    obtain ⟨h1, h2, h3, h4, h5, h6⟩ := co_node.mp h
    have e : n = n + max l.mx r.mx := e
    have a := top_le_mx h1
    have b := top_le_mx h2
    have el := leaf_of_eq h1 (by omega)
    have er := leaf_of_eq h2 (by omega)
    rw [el, er] at h3
    have h3 : decide (l.top = r.top) = false := h3
    exact absurd (show l.top = r.top by omega) (of_decide_eq_false h3)
def F : Sh → T → T
  | .zero, t => t
  | .one, t => leaf t.mx
  | .node a b, t =>
    if a = .one then whole (leaf (max (t.hf 0).mx (F b (t.hf 1)).top)) (F b (t.hf 1))
    else if b = .one then whole (F a (t.hf 0)) (leaf (max (t.hf 1).mx (F a (t.hf 0)).top))
    else whole (F a (t.hf 0)) (F b (t.hf 1))
theorem F_node (a b : Sh) (t : T) : F (.node a b) t = if a = .one then whole (leaf (max (t.hf 0).mx (F b (t.hf 1)).top)) (F b (t.hf 1))
    else if b = .one then whole (F a (t.hf 0)) (leaf (max (t.hf 1).mx (F a (t.hf 0)).top))
    else whole (F a (t.hf 0)) (F b (t.hf 1)) := rfl
theorem F_leaf : ∀ (s : Sh) (i : Int), F s (leaf i) = leaf i
  | .zero, i => rfl
  | .one, i => rfl
  | .node a b, i => by
    rw [F_node, hf_leaf, hf_leaf, F_leaf a, F_leaf b]
    have e : max (leaf i).mx (leaf i).top = i := Int.max_self i
    rw [e, whole_leaf]
    split
    · rfl
    · split <;> rfl
theorem F_lift : ∀ (s : Sh) (t : T) (k : Int), F s (t.lift k) = (F s t).lift k
  | .zero, t, k => rfl
  | .one, t, k => by
    show leaf (t.lift k).mx = leaf (t.mx + k)
    rw [mx_lift]
  | .node a b, t, k => by
    rw [F_node, F_node, hf_lift, hf_lift, F_lift a, F_lift b, mx_lift, mx_lift, top_lift, top_lift]
    have e : ∀ x y : Int, leaf (max (x + k) (y + k)) = (leaf (max x y)).lift k := fun x y => by
      show leaf _ = leaf _
      congr 1; omega
    rw [e, e, whole_lift, whole_lift, whole_lift]
    split
    · rfl
    · split <;> rfl
theorem F_hf0 (a b : Sh) (t : T) : (F (.node a b) t).hf 0 = if a = .one then leaf (max (t.hf 0).mx (F b (t.hf 1)).top) else F a (t.hf 0) := by
  rw [F_node]
  split
  · rw [hf_whole0]
  · split <;> rw [hf_whole0]
theorem F_hf1 (a b : Sh) (t : T) : (F (.node a b) t).hf 1 = if a = .one then F b (t.hf 1) else if b = .one then leaf (max (t.hf 1).mx (F a (t.hf 0)).top) else F b (t.hf 1) := by
  rw [F_node]
  split
  · rw [hf_whole1]
  · split <;> rw [hf_whole1]
theorem F_co : ∀ (s : Sh) {t : T}, t.co = true → (F s t).co = true
  | .zero, t, h => h
  | .one, t, h => rfl
  | .node a b, t, h => by
    have h0 := F_co a (co_hf (h := 0) h)
    have h1 := F_co b (co_hf (h := 1) h)
    rw [F_node]
    split
    · exact co_whole rfl h1
    · split
      · exact co_whole h0 rfl
      · exact co_whole h0 h1
theorem F_dep : ∀ (s : Sh) (t : T), (F s t).dep ≤ t.dep
  | .zero, t => Nat.le_refl _
  | .one, t => Nat.zero_le _
  | .node a b, t => by
    have h0 := F_dep a (t.hf 0)
    have h1 := F_dep b (t.hf 1)
    have d0 := dep_hf (t := t) (h := 0)
    have d1 := dep_hf (t := t) (h := 1)
    by_cases hd : t.dep = 0
    · rw [leaf_of_dep hd, F_leaf]; exact Nat.le_refl _
    · have z : ∀ i : Int, (leaf i).dep = 0 := fun _ => rfl
      rw [F_node]
      split
      · have := dep_whole (leaf (max (t.hf 0).mx (F b (t.hf 1)).top)) (F b (t.hf 1))
        rw [z] at this
        omega
      · split
        · have := dep_whole (F a (t.hf 0)) (leaf (max (t.hf 1).mx (F a (t.hf 0)).top))
          rw [z] at this
          omega
        · have := dep_whole (F a (t.hf 0)) (F b (t.hf 1))
          omega
theorem F_tc : ∀ (s : Sh) (t : T), (F s t).tc ≤ t.tc
  | .zero, t => Nat.le_refl _
  | .one, t => Nat.zero_le _
  | .node a b, .leaf i => by rw [F_leaf]; exact Nat.le_refl _
  | .node a b, .node n l r => by
    have h0 := F_tc a ((T.node n l r).hf 0)
    have h1 := F_tc b ((T.node n l r).hf 1)
    have d0 : ((T.node n l r).hf 0).tc = l.tc := tc_lift l n
    have d1 : ((T.node n l r).hf 1).tc = r.tc := tc_lift r n
    have z : ∀ i : Int, (leaf i).tc = 0 := fun _ => rfl
    rw [F_node]
    show _ ≤ 1 + (l.tc + r.tc)
    generalize (T.node n l r).hf 0 = t0 at *
    generalize (T.node n l r).hf 1 = t1 at *
    split
    · have := tc_whole (leaf (max t0.mx (F b t1).top)) (F b t1)
      rw [z] at this
      omega
    · split
      · have := tc_whole (F a t0) (leaf (max t1.mx (F a t0).top))
        rw [z] at this
        omega
      · have := tc_whole (F a t0) (F b t1)
        omega
theorem F_top : ∀ (s : Sh) {t : T}, t.co = true → t.top ≤ (F s t).top
  | .zero, t, h => Int.le_refl _
  | .one, t, h => top_le_mx h
  | .node a b, t, h => by
    have h0 := F_top a (co_hf (h := 0) h)
    have h1 := F_top b (co_hf (h := 1) h)
    have e := top_hf h
    have m0 := top_le_mx (co_hf (h := 0) h)
    have m1 := top_le_mx (co_hf (h := 1) h)
    have z : ∀ i : Int, (leaf i).top = i := fun _ => rfl
    rw [F_node]
    split
    · rw [top_whole, z]; omega
    · split
      · rw [top_whole, z]; omega
      · rw [top_whole]; omega
theorem W_refl : ∀ (k : Nat) (t : T), W k t t = true
  | 0, t => decide_eq_true (Int.le_refl _)
  | k + 1, t => by
    show (W k _ _ && W k _ _) = true
    rw [W_refl k, W_refl k]; rfl
theorem W_lf : ∀ (k : Nat) (t : T) (m : Int), t.dep ≤ k → t.mx ≤ m → W k t (leaf m) = true
  | 0, t, m, hd, h => by
    rw [leaf_of_dep (t := t) (by omega)]
    rw [top_dep (a := t) (by omega)] at h
    exact decide_eq_true h
  | k + 1, t, m, hd, h => by
    have d0 := dep_hf (t := t) (h := 0)
    have d1 := dep_hf (t := t) (h := 1)
    have m0 := mx_hf (t := t) (h := 0)
    have m1 := mx_hf (t := t) (h := 1)
    show (W k _ (leaf m) && W k _ (leaf m)) = true
    rw [W_lf k _ m (by omega) (by omega), W_lf k _ m (by omega) (by omega)]; rfl
theorem F_W : ∀ (s : Sh) (k : Nat) (t : T), t.dep ≤ k → W k t (F s t) = true
  | .zero, k, t, _ => W_refl k t
  | .one, k, t, h => W_lf k t _ h (Int.le_refl _)
  | .node a b, 0, t, h => by
    rw [leaf_of_dep (t := t) (by omega), F_leaf]; exact W_refl _ _
  | .node a b, k + 1, t, h => by
    have d0 := dep_hf (t := t) (h := 0)
    have d1 := dep_hf (t := t) (h := 1)
    have h0 := F_W a k (t.hf 0) (by omega)
    have h1 := F_W b k (t.hf 1) (by omega)
    show (W k _ ((F (.node a b) t).hf 0) && W k _ ((F (.node a b) t).hf 1)) = true
    rw [F_hf0, F_hf1, Bool.and_eq_true]
    constructor
    · split
      · exact W_lf k _ _ (by omega) (by omega)
      · exact h0
    · split
      · exact h1
      · split
        · exact W_lf k _ _ (by omega) (by omega)
        · exact h1
theorem W_anti {k : Nat} {a b : T} (ha : a.co = true) (hb : b.co = true) (da : a.dep ≤ k) (db : b.dep ≤ k) (h1 : W k a b = true) (h2 : W k b a = true) : a = b := by
  have e1 := (W_iff k a b da db hb).mpr h1
  have e2 := (W_iff k b a db da ha).mpr h2
  rw [J_comm, e1] at e2
  exact e2.symm
abbrev P01 (p : List Int) : Prop := ∀ i ∈ p, i = 0 ∨ i = 1
/-- what the share has not is as it was -/
theorem F_out : ∀ (s : Sh) (p : List Int) (t : T), s.ok = true → P01 p → Dis p s.paths → at' p (F s t) = at' p t
  | .zero, p, t, _, _, _ => rfl
  | .one, p, t, _, _, h => absurd h dis_one
  | .node a b, [], t, hs, _, h => by cases dis_nil hs h
  | .node a b, h :: p, t, hs, hp, hd => by
    obtain ⟨o1, o2, _, _⟩ := ok_node.mp hs
    have hp' : P01 p := fun i hi => hp i (List.mem_cons_of_mem _ hi)
    show at' p ((F (.node a b) t).hf h) = at' p (t.hf h)
    rcases hp h List.mem_cons_self with rfl | rfl
    · have hd := dis0.mp hd
      rw [F_hf0, if_neg (fun q => by rw [q] at hd; exact dis_one hd)]
      exact F_out a p _ o1 hp' hd
    · have hd := dis1.mp hd
      have hb : b ≠ .one := fun q => by rw [q] at hd; exact dis_one hd
      rw [F_hf1, if_neg hb]
      have := F_out b p (t.hf 1) o2 hp' hd
      split <;> exact this
/-- what the share has is of one worth -/
theorem F_in : ∀ (s : Sh) (p : List Int) (t : T), p ∈ s.paths → ∃ v, at' p (F s t) = leaf v ∧ (at' p t).mx ≤ v
  | .zero, p, t, h => nomatch h
  | .one, p, t, h => by
    rw [List.mem_singleton.mp h]
    exact ⟨t.mx, rfl, Int.le_refl _⟩
  | .node a b, p, t, h => by
    rcases List.mem_append.mp h with h | h <;> obtain ⟨q, hq, rfl⟩ := List.mem_map.mp h
    · show ∃ v, at' q ((F (.node a b) t).hf 0) = leaf v ∧ (at' q (t.hf 0)).mx ≤ v
      rw [F_hf0]
      split
      · rename_i ha
        rw [ha] at hq
        rw [List.mem_singleton.mp hq]
        exact ⟨_, rfl, by show (t.hf 0).mx ≤ _; omega⟩
      · exact F_in a q _ hq
    · show ∃ v, at' q ((F (.node a b) t).hf 1) = leaf v ∧ (at' q (t.hf 1)).mx ≤ v
      rw [F_hf1]
      split
      · exact F_in b q _ hq
      · split
        · rename_i ha hb
          rw [hb] at hq
          rw [List.mem_singleton.mp hq]
          exact ⟨_, rfl, by show (t.hf 1).mx ≤ _; omega⟩
        · exact F_in b q _ hq
/-- counts are alike that are alike within and without -/
theorem ext_at : ∀ (s : Sh) (t u : T), t.co = true → u.co = true → (∀ p ∈ s.paths, at' p t = at' p u) → (∀ p, P01 p → Dis p s.paths → at' p t = at' p u) → t = u
  | .zero, t, u, _, _, _, h => h [] (fun _ h => nomatch h) (fun _ h => nomatch h)
  | .one, t, u, _, _, h, _ => h [] (List.mem_singleton_self _)
  | .node a b, t, u, ht, hu, h1, h2 => by
    have e0 := ext_at a (t.hf 0) (u.hf 0) (co_hf ht) (co_hf hu) (fun p hp => h1 (0 :: p) (List.mem_append_left _ (List.mem_map.mpr ⟨p, hp, rfl⟩)))
      (fun p h01 hd => h2 (0 :: p) (fun i hi => by rcases List.mem_cons.mp hi with rfl | hi; exact .inl rfl; exact h01 i hi) (dis0.mpr hd))
    have e1 := ext_at b (t.hf 1) (u.hf 1) (co_hf ht) (co_hf hu) (fun p hp => h1 (1 :: p) (List.mem_append_right _ (List.mem_map.mpr ⟨p, hp, rfl⟩)))
      (fun p h01 hd => h2 (1 :: p) (fun i hi => by rcases List.mem_cons.mp hi with rfl | hi; exact .inr rfl; exact h01 i hi) (dis1.mpr hd))
    rw [← whole_hf ht, ← whole_hf hu, e0, e1]
/-- where the filled counts are others, a part of the share has other worths -/
theorem F_more {s : Sh} {t : T} (hs : s.ok = true) (ht : t.co = true) (h : F s t ≠ t) : ∃ p ∈ s.paths, ¬ ((at' p (F s t)).top = (at' p t).top ∧ (at' p (F s t)).mx = (at' p t).mx) := by
  refine Classical.byContradiction fun hn => h ?_
  refine ext_at s _ _ (F_co s ht) ht (fun p hp => ?_) fun p h01 hd => F_out s p t hs h01 hd
  refine Classical.byContradiction fun hne => hn ⟨p, hp, fun hq => hne ?_⟩
  obtain ⟨v, ev, hv⟩ := F_in s p t hp
  rw [ev] at hq ⊢
  have q1 : v = (at' p t).top := hq.1
  have q2 : v = (at' p t).mx := hq.2
  rw [leaf_of_eq (co_at p ht) (by omega), ← q1]
/-- where nothing is filled, what the share has is of one worth -/
theorem F_same_leaf {s : Sh} {t : T} {p : List Int} (h : F s t = t) (hp : p ∈ s.paths) : (at' p t).isLeaf = true := by
  obtain ⟨v, ev, _⟩ := F_in s p t hp
  rw [h] at ev
  rw [ev]; rfl
/-! ### grown at a path -/
def G : List Int → T → T
  | [], t => t.lift 1
  | h :: p, t => if h = 0 then whole (G p (t.hf 0)) (t.hf 1) else whole (t.hf 0) (G p (t.hf 1))
theorem G_co : ∀ (p : List Int) {t : T}, t.co = true → (G p t).co = true
  | [], t, h => by show (t.lift 1).co = true; rw [co_lift]; exact h
  | h :: p, t, hc => by
    show (if h = 0 then whole (G p (t.hf 0)) (t.hf 1) else whole (t.hf 0) (G p (t.hf 1))).co = true
    split
    · exact co_whole (G_co p (co_hf hc)) (co_hf hc)
    · exact co_whole (co_hf hc) (G_co p (co_hf hc))
theorem G_top : ∀ (p : List Int) {t : T}, t.co = true → t.top ≤ (G p t).top
  | [], t, h => by show t.top ≤ (t.lift 1).top; rw [top_lift]; omega
  | h :: p, t, hc => by
    have h0 := G_top p (co_hf (h := 0) hc)
    have h1 := G_top p (co_hf (h := 1) hc)
    have e := top_hf hc
    show t.top ≤ (if h = 0 then whole (G p (t.hf 0)) (t.hf 1) else whole (t.hf 0) (G p (t.hf 1))).top
    split <;> rw [top_whole] <;> omega
theorem G_dep : ∀ (p : List Int) (t : T), (G p t).dep ≤ max t.dep p.length
  | [], t => by show (t.lift 1).dep ≤ _; rw [dep_lift]; omega
  | h :: p, t => by
    have h0 := G_dep p (t.hf 0)
    have h1 := G_dep p (t.hf 1)
    have d0 := dep_hf (t := t) (h := 0)
    have d1 := dep_hf (t := t) (h := 1)
    have := dep_whole (G p (t.hf 0)) (t.hf 1)
    have := dep_whole (t.hf 0) (G p (t.hf 1))
    show (if h = 0 then whole (G p (t.hf 0)) (t.hf 1) else whole (t.hf 0) (G p (t.hf 1))).dep ≤ max t.dep (p.length + 1)
    split <;> omega
theorem W_lift : ∀ (k : Nat) (t : T) (m : Int), 0 ≤ m → W k t (t.lift m) = true
  | 0, t, m, h => decide_eq_true (by rw [top_lift]; omega)
  | k + 1, t, m, h => by
    show (W k _ ((t.lift m).hf 0) && W k _ ((t.lift m).hf 1)) = true
    rw [hf_lift, hf_lift, W_lift k _ m h, W_lift k _ m h]; rfl
theorem G_W : ∀ (p : List Int) (k : Nat) (t : T), p.length ≤ k → W k t (G p t) = true
  | [], k, t, _ => W_lift k t 1 (by decide)
  | h :: p, 0, t, hl => absurd hl (Nat.not_succ_le_zero _)
  | h :: p, k + 1, t, hl => by
    have hl : p.length + 1 ≤ k + 1 := hl
    have h0 := G_W p k (t.hf 0) (by omega)
    have h1 := G_W p k (t.hf 1) (by omega)
    show (W k _ ((if h = 0 then whole (G p (t.hf 0)) (t.hf 1) else whole (t.hf 0) (G p (t.hf 1))).hf 0) && W k _ ((if h = 0 then whole (G p (t.hf 0)) (t.hf 1) else whole (t.hf 0) (G p (t.hf 1))).hf 1)) = true
    split
    · rw [hf_whole0, hf_whole1, h0, W_refl]; rfl
    · rw [hf_whole0, hf_whole1, h1, W_refl]; rfl
theorem G_at : ∀ (p : List Int) (t : T), P01 p → at' p (G p t) = (at' p t).lift 1
  | [], t, _ => rfl
  | h :: p, t, hp => by
    have hp' : P01 p := fun i hi => hp i (List.mem_cons_of_mem _ hi)
    show at' p ((if h = 0 then whole (G p (t.hf 0)) (t.hf 1) else whole (t.hf 0) (G p (t.hf 1))).hf h) = (at' p (t.hf h)).lift 1
    rcases hp h List.mem_cons_self with rfl | rfl
    · rw [if_pos rfl, hf_whole0]; exact G_at p _ hp'
    · rw [if_neg (by decide), hf_whole1]; exact G_at p _ hp'
theorem G_out : ∀ (p q : List Int) (t : T), P01 p → P01 q → ¬ p <+: q → ¬ q <+: p → at' q (G p t) = at' q t
  | [], q, t, _, _, h, _ => absurd List.nil_prefix h
  | h :: p, [], t, _, _, _, k => absurd List.nil_prefix k
  | h :: p, j :: q, t, hp, hq, k1, k2 => by
    have hp' : P01 p := fun i hi => hp i (List.mem_cons_of_mem _ hi)
    have hq' : P01 q := fun i hi => hq i (List.mem_cons_of_mem _ hi)
    show at' q ((if h = 0 then whole (G p (t.hf 0)) (t.hf 1) else whole (t.hf 0) (G p (t.hf 1))).hf j) = at' q (t.hf j)
    rcases hp h List.mem_cons_self with rfl | rfl <;> rcases hq j List.mem_cons_self with rfl | rfl
    · rw [if_pos rfl, hf_whole0]
      exact G_out p q _ hp' hq' (fun z => k1 (List.cons_prefix_cons.mpr ⟨rfl, z⟩)) (fun z => k2 (List.cons_prefix_cons.mpr ⟨rfl, z⟩))
    · rw [if_pos rfl, hf_whole1]
    · rw [if_neg (by decide), hf_whole0]
    · rw [if_neg (by decide), hf_whole1]
      exact G_out p q _ hp' hq' (fun z => k1 (List.cons_prefix_cons.mpr ⟨rfl, z⟩)) (fun z => k2 (List.cons_prefix_cons.mpr ⟨rfl, z⟩))
theorem G_ne {p : List Int} {t : T} (hp : P01 p) : (at' p (G p t)).top ≠ (at' p t).top := by
  rw [G_at p t hp, top_lift]; omega
/-- tuples more that it takes -/
def nw : List Int → T → Nat
  | [], _ => 0
  | _ :: p, leaf _ => p.length + 1
  | h :: p, node _ l r => nw p (if h = 0 then l else r)
theorem nw_lift : ∀ (p : List Int) (t : T) (k : Int), nw p (t.lift k) = nw p t
  | [], t, k => rfl
  | h :: p, leaf i, k => rfl
  | h :: p, node n l r, k => rfl
theorem nw_leaf (p : List Int) (i : Int) : nw p (leaf i) = p.length := by cases p <;> rfl
theorem nw_cons (h : Int) (p : List Int) (t : T) : nw (h :: p) t = (if t.isLeaf = true then 1 else 0) + nw p (t.hf h) := by
  cases t with
  | leaf i =>
    show p.length + 1 = 1 + nw p (leaf i)
    rw [nw_leaf]; omega
  | node n l r =>
    show nw p (if h = 0 then l else r) = 0 + nw p (if h = 0 then l.lift n else r.lift n)
    rw [Nat.zero_add]
    split <;> rw [nw_lift]
end T
end PD.LT

/-! ## K02Den -/
set_option Elab.async false
set_option linter.all false
set_option maxRecDepth 100000
set_option maxHeartbeats 4000000
namespace PD.K02
open PySem PySem.Spec L2 PD
def topS (i : Nat) : Stmt := PySem.Challenge.pw_heirstamps_k02_texts_of_shares.main.body.getD i (.Pass ⟨0, 0, 0, 0⟩)
abbrev s_tuple_count : Stmt := topS 8
abbrev s_is_share : Stmt := topS 12
abbrev s__is_share_tree : Stmt := topS 13
abbrev s_check_share : Stmt := topS 14
abbrev s_share_text : Stmt := topS 15
abbrev s__text_of : Stmt := topS 16
abbrev s_share_told : Stmt := topS 17
abbrev s__take_share : Stmt := topS 18
abbrev s__law_cup : Stmt := topS 20
abbrev s__law_sip : Stmt := topS 21
abbrev s__law_same : Stmt := topS 22
abbrev s__law_share : Stmt := topS 23
abbrev s__law_long : Stmt := topS 24
abbrev s__law_is_share : Stmt := topS 25
abbrev s__law_size : Stmt := topS 26
abbrev s__law_bent : Stmt := topS 27
abbrev s__law_read : Stmt := topS 28
abbrev s__law_written : Stmt := topS 29
abbrev s__law_spoilt : Stmt := topS 30
abbrev s__law_told : Stmt := topS 31
abbrev s__law_refused : Stmt := topS 32
abbrev s_law : Stmt := topS 33
abbrev s_Reader___init__ : Stmt := inClass (topS 10) 0
abbrev s_Reader_sees : Stmt := inClass (topS 10) 1
abbrev s_Reader_take : Stmt := inClass (topS 10) 2
abbrev s_Reader_begin_tuple : Stmt := inClass (topS 10) 5
abbrev s_Reader_end_tuple : Stmt := inClass (topS 10) 6
abbrev s_Reader_finish : Stmt := inClass (topS 10) 7
def cls_ : List Str := ["Reader"]
def nms_ : List Str := ["text", "at", "depth", "tuples"]
abbrev s_InvalidText_init : Stmt := inClass (topS 4) 0
/-! ### the classes of errors by number -/
def mtL : List (Nat × Nat) := [(0, 0), (1, 0), (1, 1), (2, 0), (2, 2)]
def mt (c k : Nat) : Bool := mtL.contains (c, k)
/-! ### the denotations: all defs at once, by the number of calls that may be nested -/
structure Fns where
  Reader___init__ : Fn
  Reader_sees : Fn
  Reader_take : Fn
  Reader_begin_tuple : Fn
  Reader_end_tuple : Fn
  Reader_finish : Fn
  tuple_count : Fn
  is_share : Fn
  _is_share_tree : Fn
  check_share : Fn
  share_text : Fn
  _text_of : Fn
  share_told : Fn
  _take_share : Fn
  _law_cup : Fn
  _law_sip : Fn
  _law_same : Fn
  _law_share : Fn
  _law_long : Fn
  _law_is_share : Fn
  _law_size : Fn
  _law_bent : Fn
  _law_read : Fn
  _law_written : Fn
  _law_spoilt : Fn
  _law_told : Fn
  _law_refused : Fn
  law : Fn
  mk_Reader : Fn
  lv : Nat
def b_Reader___init__ (p : Fns) : SD := (sSeq (sIf (tVal (dOp oIsNot (dCall bType (aCons (dVar 1) aNil)) (dC (.ty "str")))) (sRaiseF 2 "index" (dC (.int 0)) p.lv) sNext)
    (sSeq (sFldS cls_ nms_ (dVar 0) "text" (dVar 1))
    (sSeq (sFldS cls_ nms_ (dVar 0) "at" (dC (.int 0)))
    (sSeq (sFldS cls_ nms_ (dVar 0) "depth" (dC (.int 0)))
    (sFldS cls_ nms_ (dVar 0) "tuples" (dC (.int 0)))))))
def b_Reader_sees (p : Fns) : SD := (sSeq (sSet 2 (dSl (dFld cls_ nms_ (dVar 0) "text") (oSome (dFld cls_ nms_ (dVar 0) "at")) (oSome (dOp oAdd (dFld cls_ nms_ (dVar 0) "at") (dC (.int 1))))))
    (sRet (dAnd (dOp oNe (dVar 2) (dC (.str ""))) (dOp oInS (dVar 2) (dVar 1)))))
def b_Reader_take (p : Fns) : SD := (sSeq (sIf (tNot' (tVal (dMeth [("Reader", p.Reader_sees)] (dVar 0) "sees" (aCons (dVar 1) aNil)))) (sRaiseF 2 "index" (dFld cls_ nms_ (dVar 0) "at") p.lv) sNext)
    (sSeq (sFldA cls_ nms_ (dVar 0) "at" (dC (.int 1)) (fun i j => i + j))
    (sRet (dOp oIx (dFld cls_ nms_ (dVar 0) "text") (dOp oSub (dFld cls_ nms_ (dVar 0) "at") (dC (.int 1)))))))
def b_Reader_begin_tuple (p : Fns) : SD := (sSeq (sIf (tOr' (tVal (dOp oEq (dFld cls_ nms_ (dVar 0) "depth") (dC (.int 12)))) (tVal (dOp oEq (dFld cls_ nms_ (dVar 0) "tuples") (dC (.int 63))))) (sRaiseF 2 "index" (dFld cls_ nms_ (dVar 0) "at") p.lv) sNext)
    (sSeq (sDrop (dMeth [("Reader", p.Reader_take)] (dVar 0) "take" (aCons (dC (.str "(")) aNil)))
    (sSeq (sFldA cls_ nms_ (dVar 0) "depth" (dC (.int 1)) (fun i j => i + j))
    (sFldA cls_ nms_ (dVar 0) "tuples" (dC (.int 1)) (fun i j => i + j)))))
def b_Reader_end_tuple (p : Fns) : SD := (sSeq (sDrop (dMeth [("Reader", p.Reader_take)] (dVar 0) "take" (aCons (dC (.str ")")) aNil)))
    (sFldA cls_ nms_ (dVar 0) "depth" (dC (.int 1)) (fun i j => i - j)))
def b_Reader_finish (p : Fns) : SD := (sIf (tVal (dOp oLt (dFld cls_ nms_ (dVar 0) "at") (dCall bLen (aCons (dFld cls_ nms_ (dVar 0) "text") aNil)))) (sRaiseF 2 "index" (dFld cls_ nms_ (dVar 0) "at") p.lv) sNext)
def b_tuple_count (p : Fns) : SD := (sSeq (sIf (tVal (dOp oIs (dCall bType (aCons (dVar 0) aNil)) (dC (.ty "int")))) (sRet (dC (.int 0))) sNext)
    (sRet (dOp oAdd (dC (.int 1)) (dCall bSum (aCons (dLCT (dVar 0) (gN 1) tYes' (dCall p.tuple_count (aCons (dVar 1) aNil)) [1]) aNil)))))
def b_is_share (p : Fns) : SD := (sRet (dAnd (dCall p._is_share_tree (aCons (dVar 0) (aCons (dC (.int 12)) aNil))) (dOp oLe (dCall p.tuple_count (aCons (dVar 0) aNil)) (dC (.int 63)))))
def b__is_share_tree (p : Fns) : SD := (sSeq (sIf (tVal (dOp oIs (dCall bType (aCons (dVar 0) aNil)) (dC (.ty "int")))) (sRet (dOr (dOp oEq (dVar 0) (dC (.int 0))) (dOp oEq (dVar 0) (dC (.int 1))))) sNext)
    (sSeq (sIf (tOr' (tVal (dOp oIsNot (dCall bType (aCons (dVar 0) aNil)) (dC (.ty "tuple")))) (tOr' (tVal (dOp oNe (dCall bLen (aCons (dVar 0) aNil)) (dC (.int 2)))) (tVal (dOp oEq (dVar 1) (dC (.int 0)))))) (sRet (dC (.bl false))) sNext)
    (sSeq (sIf (tOr' (tVal (dOp oEq (dVar 0) (dTup (aCons (dC (.int 0)) (aCons (dC (.int 0)) aNil))))) (tVal (dOp oEq (dVar 0) (dTup (aCons (dC (.int 1)) (aCons (dC (.int 1)) aNil)))))) (sRet (dC (.bl false))) sNext)
    (sRet (dAnd (dCall p._is_share_tree (aCons (dOp oIx (dVar 0) (dC (.int 0))) (aCons (dOp oSub (dVar 1) (dC (.int 1))) aNil))) (dCall p._is_share_tree (aCons (dOp oIx (dVar 0) (dC (.int 1))) (aCons (dOp oSub (dVar 1) (dC (.int 1))) aNil))))))))
def b_check_share (p : Fns) : SD := (sIf (tNot' (tVal (dCall p.is_share (aCons (dVar 0) aNil)))) (sRaise 1) sNext)
def b_share_text (p : Fns) : SD := (sSeq (sDrop (dCall p.check_share (aCons (dVar 0) aNil)))
    (sRet (dCall p._text_of (aCons (dVar 0) aNil))))
def b__text_of (p : Fns) : SD := (sSeq (sIf (tVal (dOp oIs (dCall bType (aCons (dVar 0) aNil)) (dC (.ty "int")))) (sRet (dCall bStr (aCons (dVar 0) aNil))) sNext)
    (sRet (dJs [(dC (.str "(")), (dFmt (dCall p._text_of (aCons (dOp oIx (dVar 0) (dC (.int 0))) aNil))), (dC (.str ",")), (dFmt (dCall p._text_of (aCons (dOp oIx (dVar 0) (dC (.int 1))) aNil))), (dC (.str ")"))] Str.empty)))
def b_share_told (p : Fns) : SD := (sSeq (sSet 1 (dMake "Reader" p.mk_Reader (aCons (dVar 0) aNil)))
    (sSeq (sSet 2 (dCall p._take_share (aCons (dVar 1) (aCons (dC (.str "01")) aNil))))
    (sSeq (sDrop (dMeth [("Reader", p.Reader_finish)] (dVar 1) "finish" aNil))
    (sRet (dVar 2)))))
def b__take_share (p : Fns) : SD := (sSeq (sIf (tNot' (tVal (dMeth [("Reader", p.Reader_sees)] (dVar 0) "sees" (aCons (dC (.str "(")) aNil)))) (sRet (dCall bIntS (aCons (dMeth [("Reader", p.Reader_take)] (dVar 0) "take" (aCons (dVar 1) aNil)) aNil))) sNext)
    (sSeq (sDrop (dMeth [("Reader", p.Reader_begin_tuple)] (dVar 0) "begin_tuple" aNil))
    (sSeq (sSet 2 (dCall p._take_share (aCons (dVar 0) (aCons (dC (.str "01")) aNil))))
    (sSeq (sDrop (dMeth [("Reader", p.Reader_take)] (dVar 0) "take" (aCons (dC (.str ",")) aNil)))
    (sSeq (sSet 3 (dCall p._take_share (aCons (dVar 0) (aCons (dIf (tVal (dOp oIs (dCall bType (aCons (dVar 2) aNil)) (dC (.ty "tuple")))) (dC (.str "01")) (dCall bStr (aCons (dOp oSub (dC (.int 1)) (dVar 2)) aNil))) aNil))))
    (sSeq (sDrop (dMeth [("Reader", p.Reader_end_tuple)] (dVar 0) "end_tuple" aNil))
    (sRet (dTup (aCons (dVar 2) (aCons (dVar 3) aNil))))))))))
def b__law_cup (p : Fns) : SD := (sRet (dLst (aCons (dIf (tVal (dOp oGe (dVar 0) (dOp oPow (dC (.int 10)) (dC (.int 18))))) (dOp oSub (dCall bInt (aCons (dVar 0) aNil)) (dOp oPow (dC (.int 10)) (dC (.int 18)))) (dC (.int 0))) (aCons (dOp oAdd (dOp oMod (dCall bInt (aCons (dVar 0) aNil)) (dC (.int 2147483629))) (dC (.int 3))) aNil))))
def b__law_sip (p : Fns) : SD := (sSeq (sIf (tVal (dOp oGt (dOp oIx (dVar 0) (dC (.int 0))) (dC (.int 0)))) (sSeq (sSet 2 (dOp oMod (dCall bInt (aCons (dOp oIx (dVar 0) (dC (.int 0))) aNil)) (dVar 1)))
    (sSeq (sPut (dVar 0) (dC (.int 0)) (dOp oDiv (dOp oIx (dVar 0) (dC (.int 0))) (dVar 1)))
    (sRet (dVar 2)))) sNext)
    (sSeq (sPut (dVar 0) (dC (.int 1)) (dOp oMod (dCall bInt (aCons (dOp oMulE (dOp oIx (dVar 0) (dC (.int 1))) (dC (.int 69621))) aNil)) (dC (.int 2147483647))))
    (sRet (dOp oMod (dOp oDiv (dOp oMod (dCall bInt (aCons (dOp oMulE (dOp oIx (dVar 0) (dC (.int 1))) (dOp oIx (dVar 0) (dC (.int 1)))) aNil)) (dC (.int 2147483629))) (dC (.int 32))) (dVar 1)))))
def b__law_same (p : Fns) : SD := (sSeq (sIf (tVal (dOp oIs (dVar 1) (dC .non))) (sRet (dOp oIs (dVar 0) (dC .non))) sNext)
    (sSeq (sIf (tVal (dOp oIs (dVar 1) (dC (.bl true)))) (sRet (dOp oIs (dVar 0) (dC (.bl true)))) sNext)
    (sSeq (sIf (tVal (dOp oIs (dVar 1) (dC (.bl false)))) (sRet (dOp oIs (dVar 0) (dC (.bl false)))) sNext)
    (sSeq (sIf (tVal (dCall bIsi (aCons (dVar 1) (aCons (dC (.ty "int")) aNil)))) (sRet (dAnd (dCall bIsi (aCons (dVar 0) (aCons (dC (.ty "int")) aNil))) (dAnd (dNot (dCall bIsi (aCons (dVar 0) (aCons (dC (.ty "bool")) aNil)))) (dOp oEq (dVar 0) (dVar 1))))) sNext)
    (sSeq (sIf (tVal (dCall bIsi (aCons (dVar 1) (aCons (dC (.ty "str")) aNil)))) (sRet (dAnd (dCall bIsi (aCons (dVar 0) (aCons (dC (.ty "str")) aNil))) (dOp oEq (dVar 0) (dVar 1)))) sNext)
    (sSeq (sIf (tOr' (tVal (dOp oNe (dCall bIsi (aCons (dVar 1) (aCons (dC (.ty "tuple")) aNil))) (dCall bIsi (aCons (dVar 0) (aCons (dC (.ty "tuple")) aNil))))) (tVal (dOp oNe (dCall bIsi (aCons (dVar 1) (aCons (dC (.ty "list")) aNil))) (dCall bIsi (aCons (dVar 0) (aCons (dC (.ty "list")) aNil)))))) (sRet (dC (.bl false))) sNext)
    (sSeq (sIf (tVal (dOp oNe (dCall bLen (aCons (dVar 0) aNil)) (dCall bLen (aCons (dVar 1) aNil)))) (sRet (dC (.bl false))) sNext)
    (sRet (dCall bAll (aCons (dLCR (aCons (dCall bLen (aCons (dVar 1) aNil)) aNil) (gN 2) tYes' (dCall p._law_same (aCons (dOp oIx (dVar 0) (dVar 2)) (aCons (dOp oIx (dVar 1) (dVar 2)) aNil))) [2]) aNil))))))))))
def b__law_share (p : Fns) : SD := (sSeq (sIf (tOr' (tVal (dOp oEq (dVar 1) (dC (.int 0)))) (tVal (dOp oEq (dCall p._law_sip (aCons (dVar 0) (aCons (dC (.int 3)) aNil))) (dC (.int 0))))) (sRet (dCall p._law_sip (aCons (dVar 0) (aCons (dC (.int 2)) aNil)))) sNext)
    (sSeq (sPar 2 3 (aCons (dCall p._law_share (aCons (dVar 0) (aCons (dOp oSub (dVar 1) (dC (.int 1))) aNil))) (aCons (dCall p._law_share (aCons (dVar 0) (aCons (dOp oSub (dVar 1) (dC (.int 1))) aNil))) aNil)))
    (sSeq (sIf (tAnd' (tVal (dOp oEq (dVar 2) (dVar 3))) (tVal (dOp oIn (dVar 2) (dTup (aCons (dC (.int 0)) (aCons (dC (.int 1)) aNil)))))) (sSet 3 (dOp oSub (dC (.int 1)) (dVar 2))) sNext)
    (sRet (dTup (aCons (dVar 2) (aCons (dVar 3) aNil)))))))
def b__law_long (p : Fns) : SD := (sSeq (sSet 2 (dIf (tNot' (tVal (dVar 1))) (dCall p._law_sip (aCons (dVar 0) (aCons (dC (.int 2)) aNil))) (dCall p._law_sip (aCons (dVar 0) (aCons (dC (.int 5)) aNil)))))
    (sSeq (sIf (tVal (dOp oGt (dCall p._law_sip (aCons (dVar 0) (aCons (dC (.int 3)) aNil))) (dC (.int 0)))) (sSeq (sForR (aCons (dOp oAdd (dC (.int 6)) (dCall p._law_sip (aCons (dVar 0) (aCons (dC (.int 7)) aNil)))) aNil) (gN 3)
    (sSeq (sSet 4 (dCall p._law_sip (aCons (dVar 0) (aCons (dC (.int 2)) aNil))))
    (sSeq (sIf (tAnd' (tNot' (tVal (dCall bIsi (aCons (dVar 2) (aCons (dC (.ty "tuple")) aNil))))) (tNot' (tVal (dVar 1)))) (sSet 4 (dOp oSub (dC (.int 1)) (dVar 2))) sNext)
    (sSeq (sIf (tVal (dVar 1)) (sAsg (gT [(gN 2), (gN 4)]) (dIf (tVal (dOp oNe (dVar 2) (dC (.int 0)))) (dTup (aCons (dVar 2) (aCons (dC (.int 0)) aNil))) (dTup (aCons (dC (.int 1)) (aCons (dC (.int 0)) aNil))))) sNext)
    (sSeq (sIf (tVal (dOp oEq (dCall p._law_sip (aCons (dVar 0) (aCons (dC (.int 2)) aNil))) (dC (.int 0)))) (sPar 2 4 (aCons (dVar 4) (aCons (dVar 2) aNil))) sNext)
    (sSet 2 (dIf (tVal (dVar 1)) (dTup (aCons (dCall p._law_sip (aCons (dVar 0) (aCons (dC (.int 3)) aNil))) (aCons (dVar 2) (aCons (dVar 4) aNil)))) (dTup (aCons (dVar 2) (aCons (dVar 4) aNil))))))))))
    (sRet (dVar 2))) sNext)
    (sSeq (sSet 5 (dIf (tNot' (tVal (dVar 1))) (dOp oIx (dLst (aCons (dC (.int 1)) (aCons (dTup (aCons (dC (.int 0)) (aCons (dC (.int 1)) aNil))) aNil))) (dCall bInt (aCons (dNot (dVar 1)) aNil))) (dTup (aCons (dC (.int 0)) (aCons (dC (.int 0)) (aCons (dC (.int 1)) aNil))))))
    (sSeq (sForR (aCons (dC (.int 5)) aNil) (gN 3)
    (sSet 5 (dIf (tVal (dVar 1)) (dTup (aCons (dC (.int 0)) (aCons (dVar 5) (aCons (dVar 5) aNil)))) (dTup (aCons (dVar 5) (aCons (dVar 5) aNil))))))
    (sRet (dVar 5))))))
def b__law_is_share (p : Fns) : SD := (sSeq (sIf (tNot' (tVal (dCall bIsi (aCons (dVar 0) (aCons (dC (.ty "tuple")) aNil))))) (sRet (dAnd (dCall bIsi (aCons (dVar 0) (aCons (dC (.ty "int")) aNil))) (dAnd (dNot (dCall bIsi (aCons (dVar 0) (aCons (dC (.ty "bool")) aNil)))) (dOp oIn (dVar 0) (dTup (aCons (dC (.int 0)) (aCons (dC (.int 1)) aNil))))))) sNext)
    (sSeq (sIf (tOr' (tVal (dOp oEq (dVar 1) (dC (.int 0)))) (tOr' (tVal (dOp oNe (dCall bLen (aCons (dVar 0) aNil)) (dC (.int 2)))) (tOr' (tNot' (tVal (dCall p._law_is_share (aCons (dOp oIx (dVar 0) (dC (.int 0))) (aCons (dOp oSub (dVar 1) (dC (.int 1))) aNil))))) (tNot' (tVal (dCall p._law_is_share (aCons (dOp oIx (dVar 0) (dC (.int 1))) (aCons (dOp oSub (dVar 1) (dC (.int 1))) aNil)))))))) (sRet (dC (.bl false))) sNext)
    (sRet (dOr (dOp oNe (dOp oIx (dVar 0) (dC (.int 0))) (dOp oIx (dVar 0) (dC (.int 1)))) (dCall bIsi (aCons (dOp oIx (dVar 0) (dC (.int 0))) (aCons (dC (.ty "tuple")) aNil)))))))
def b__law_size (p : Fns) : SD := (sSeq (sIf (tNot' (tVal (dCall bIsi (aCons (dVar 0) (aCons (dC (.ty "tuple")) aNil))))) (sRet (dC (.int 0))) sNext)
    (sRet (dOp oAdd (dOp oAdd (dC (.int 1)) (dCall p._law_size (aCons (dOp oIx (dVar 0) (dUn oNeg (dC (.int 2)))) aNil))) (dCall p._law_size (aCons (dOp oIx (dVar 0) (dUn oNeg (dC (.int 1)))) aNil)))))
def b__law_bent (p : Fns) : SD := (sSeq (sIf (tAnd' (tVal (dCall bIsi (aCons (dVar 1) (aCons (dC (.ty "tuple")) aNil)))) (tVal (dOp oGt (dCall p._law_sip (aCons (dVar 0) (aCons (dC (.int 4)) aNil))) (dC (.int 0))))) (sSeq (sSet 3 (dCall p._law_sip (aCons (dVar 0) (aCons (dCall bLen (aCons (dVar 1) aNil)) aNil))))
    (sRet (dOp oAdd (dOp oAdd (dSl (dVar 1) oNone (oSome (dVar 3))) (dTup (aCons (dCall p._law_bent (aCons (dVar 0) (aCons (dOp oIx (dVar 1) (dVar 3)) (aCons (dAnd (dVar 2) (dOp oGt (dVar 3) (dC (.int 0)))) aNil)))) aNil))) (dSl (dVar 1) (oSome (dOp oAdd (dVar 3) (dC (.int 1)))) oNone)))) sNext)
    (sSeq (sSet 4 (dLst (aCons (dC (.int 0)) (aCons (dC (.int 1)) (aCons (dC (.int 2)) (aCons (dUn oNeg (dC (.int 1))) (aCons (dC (.bl true)) (aCons (dC (.bl false)) (aCons (dC .non) (aCons (dC (.str "0")) (aCons (dTup aNil) (aCons (dTup (aCons (dC (.int 0)) (aCons (dC (.int 0)) aNil))) (aCons (dTup (aCons (dC (.int 1)) (aCons (dC (.int 1)) aNil))) (aCons (dTup (aCons (dC (.int 0)) (aCons (dC (.int 1)) aNil))) (aCons (dTup (aCons (dC (.int 1)) (aCons (dC (.int 0)) aNil))) (aCons (dTup (aCons (dC (.int 0)) (aCons (dC (.int 0)) (aCons (dC (.int 1)) aNil)))) (aCons (dTup (aCons (dC (.int 0)) (aCons (dC (.int 1)) (aCons (dC (.int 1)) aNil)))) (aCons (dTup (aCons (dC (.int 0)) (aCons (dC (.int 2)) (aCons (dC (.int 2)) aNil)))) aNil))))))))))))))))))
    (sSeq (sSet 4 (dOp oAdd (dVar 4) (dLst (aCons (dLst (aCons (dC (.int 0)) (aCons (dC (.int 1)) aNil))) (aCons (dLst (aCons (dC (.int 0)) (aCons (dC (.int 0)) (aCons (dC (.int 1)) aNil)))) (aCons (dTup (aCons (dVar 1) (aCons (dVar 1) aNil))) (aCons (dTup (aCons (dC (.int 0)) (aCons (dVar 1) (aCons (dVar 1) aNil)))) (aCons (dTup (aCons (dVar 1) aNil)) (aCons (dLst (aCons (dVar 1) aNil)) (aCons (dOp oPow (dC (.int 10)) (dC (.int 30))) (aCons (dTup (aCons (dC (.int 0)) (aCons (dC (.int 1)) (aCons (dC (.int 0)) (aCons (dC (.int 1)) aNil))))) aNil)))))))))))
    (sSeq (sSet 4 (dOp oAdd (dVar 4) (dLst (aCons (dTup (aCons (dC (.int 1)) (aCons (dC (.int 0)) (aCons (dTup (aCons (dC (.int 0)) (aCons (dC (.int 1)) aNil))) aNil)))) (aCons (dTup (aCons (dC (.bl true)) (aCons (dC (.int 0)) (aCons (dC (.int 1)) aNil)))) (aCons (dTup (aCons (dC (.int 0)) (aCons (dC (.bl true)) aNil))) (aCons (dTup (aCons (dC (.int 0)) (aCons (dTup (aCons (dC (.int 0)) (aCons (dC (.int 0)) aNil))) aNil))) (aCons (dC (.str "1")) aNil))))))))
    (sRet (dOp oIx (dVar 4) (dCall p._law_sip (aCons (dVar 0) (aCons (dC (.int 29)) aNil)))))))))
def b__law_read (p : Fns) : SD := (sSeq (sPar3 1 2 3 (aCons (dLst aNil) (aCons (dC .non) (aCons (dC (.int 63)) aNil))))
    (sSeq (sForR (aCons (dCall bLen (aCons (dVar 0) aNil)) aNil) (gN 4)
    (sSeq (sSet 5 (dOp oIx (dVar 0) (dVar 4)))
    (sSeq (sSet 6 (dOp oIs (dVar 2) (dC .non)))
    (sIf (tAnd' (tVal (dVar 6)) (tAnd' (tVal (dOp oInS (dVar 5) (dC (.str "01")))) (tNot' (tAnd' (tVal (dOp oNe (dVar 1) (dLst aNil))) (tAnd' (tVal (dOp oEq (dCall bLen (aCons (dOp oIx (dVar 1) (dUn oNeg (dC (.int 1)))) aNil)) (dC (.int 1)))) (tVal (dOp oEq (dOp oIx (dOp oIx (dVar 1) (dUn oNeg (dC (.int 1)))) (dC (.int 0))) (dCall bIntS (aCons (dVar 5) aNil))))))))) (sSet 2 (dCall bIntS (aCons (dVar 5) aNil))) (sIf (tAnd' (tVal (dVar 6)) (tAnd' (tVal (dOp oEq (dVar 5) (dC (.str "(")))) (tAnd' (tVal (dOp oLt (dCall bLen (aCons (dVar 1) aNil)) (dC (.int 12)))) (tVal (dOp oGt (dVar 3) (dC (.int 0))))))) (sSeq (sDrop (dApp (dVar 1) (dLst aNil)))
    (sSet 3 (dOp oSub (dVar 3) (dC (.int 1))))) (sIf (tAnd' (tNot' (tVal (dVar 6))) (tAnd' (tVal (dOp oNe (dVar 1) (dLst aNil))) (tVal (dOp oEq (dVar 5) (dOp oIx (dLst (aCons (dC (.str ",")) (aCons (dC (.str ")")) aNil))) (dCall bLen (aCons (dOp oIx (dVar 1) (dUn oNeg (dC (.int 1)))) aNil))))))) (sSeq (sDrop (dApp (dOp oIx (dVar 1) (dUn oNeg (dC (.int 1)))) (dVar 2)))
    (sSeq (sSet 2 (dC .non))
    (sIf (tVal (dOp oEq (dVar 5) (dC (.str ")")))) (sSet 2 (dCall bTuple (aCons (dPop (dVar 1)) aNil))) sNext))) (sRet (dTup (aCons (dVar 4) (aCons (dC .non) aNil))))))))))
    (sSeq (sIf (tOr' (tVal (dOp oNe (dVar 1) (dLst aNil))) (tVal (dOp oIs (dVar 2) (dC .non)))) (sRet (dTup (aCons (dCall bLen (aCons (dVar 0) aNil)) (aCons (dC .non) aNil)))) sNext)
    (sRet (dTup (aCons (dC .non) (aCons (dVar 2) aNil)))))))
def b__law_written (p : Fns) : SD := (sSeq (sIf (tNot' (tVal (dCall bIsi (aCons (dVar 0) (aCons (dC (.ty "tuple")) aNil))))) (sRet (dOp oIx (dLst (aCons (dC (.str "0")) (aCons (dC (.str "1")) aNil))) (dVar 0))) sNext)
    (sRet (dOp oAdd (dOp oAdd (dOp oAdd (dOp oAdd (dC (.str "(")) (dCall p._law_written (aCons (dOp oIx (dVar 0) (dC (.int 0))) aNil))) (dC (.str ","))) (dCall p._law_written (aCons (dOp oIx (dVar 0) (dC (.int 1))) aNil))) (dC (.str ")")))))
def b__law_spoilt (p : Fns) : SD := (sSeq (sForR (aCons (dOp oAdd (dC (.int 1)) (dCall p._law_sip (aCons (dVar 0) (aCons (dC (.int 2)) aNil)))) aNil) (gN 2)
    (sSeq (sPar 3 4 (aCons (dCall p._law_sip (aCons (dVar 0) (aCons (dOp oAdd (dCall bLen (aCons (dVar 1) aNil)) (dC (.int 1))) aNil))) (aCons (dOp oIx (dC (.str "01(),2 9-+;[]\n\t_x")) (dCall p._law_sip (aCons (dVar 0) (aCons (dC (.int 17)) aNil)))) aNil)))
    (sSeq (sSet 5 (dCall p._law_sip (aCons (dVar 0) (aCons (dC (.int 6)) aNil))))
    (sIf (tVal (dOp oEq (dVar 5) (dC (.int 0)))) (sSet 1 (dSl (dVar 1) oNone (oSome (dVar 3)))) (sIf (tVal (dOp oEq (dVar 5) (dC (.int 1)))) (sSet 1 (dOp oAdd (dOp oAdd (dSl (dVar 1) oNone (oSome (dVar 3))) (dVar 4)) (dSl (dVar 1) (oSome (dVar 3)) oNone))) (sIf (tVal (dOp oEq (dVar 5) (dC (.int 2)))) (sSet 1 (dOp oAdd (dSl (dVar 1) oNone (oSome (dVar 3))) (dSl (dVar 1) (oSome (dOp oAdd (dVar 3) (dC (.int 1)))) oNone))) (sIf (tVal (dOp oEq (dVar 5) (dC (.int 3)))) (sSet 1 (dOp oAdd (dOp oAdd (dSl (dVar 1) oNone (oSome (dVar 3))) (dC (.str "("))) (dSl (dVar 1) (oSome (dVar 3)) oNone))) (sSet 1 (dOp oAdd (dOp oAdd (dSl (dVar 1) oNone (oSome (dVar 3))) (dVar 4)) (dSl (dVar 1) (oSome (dOp oAdd (dVar 3) (dC (.int 1)))) oNone))))))))))
    (sRet (dVar 1)))
def b__law_told (p : Fns) : SD := (sSeq (sSet 1 (dC (.str "other")))
    (sSeq (sTryE 3 mt (sSet 1 (dTup (aCons (dC .non) (aCons (dCallK [0] 1 p.share_told (aCons (dVar 0) aNil)) aNil))))
    [(2, some 2, sErTup 1 [.inr "index", .inl .non]), (0, none, fun _ => (sSet 1 (dC (.str "other"))))])
    (sRet (dVar 1))))
def b__law_refused (p : Fns) : SD := (sSeq (sSet 1 (dC (.str "none")))
    (sSeq (sTry 3 mt (sDrop (dCall p.share_text (aCons (dVar 0) aNil)))
    [(1, (sSet 1 (dC (.str "share")))), (0, (sSet 1 (dC (.str "other"))))])
    (sRet (dVar 1))))
def st_law_0 (p : Fns) : SD := (sSet 2 (dCall p._law_cup (aCons (dVar 1) aNil)))
def st_law_1 (p : Fns) : SD := (sSet 3 (dOp oIx (dLst (aCons (dCall p._law_share (aCons (dVar 2) (aCons (dC (.int 4)) aNil))) (aCons (dCall p._law_long (aCons (dVar 2) (aCons (dC (.bl false)) aNil))) aNil))) (dCall p._law_sip (aCons (dVar 2) (aCons (dC (.int 2)) aNil)))))
def st_law_2 (p : Fns) : SD := (sSet 4 (dCall p._law_written (aCons (dVar 3) aNil)))
def st_law_3 (p : Fns) : SD := (sIf (tNot' (tVal (dCall p._law_same (aCons (dLst (aCons (dCall p.share_text (aCons (dVar 3) aNil)) (aCons (dCallK [0] 1 p.share_text (aCons (dVar 3) aNil)) aNil))) (aCons (dLst (aCons (dVar 4) (aCons (dVar 4) aNil))) aNil))))) (sRet (dC (.bl false))) sNext)
def st_law_4 (p : Fns) : SD := (sIf (tNot' (tVal (dCall p._law_same (aCons (dLst (aCons (dCall p.share_told (aCons (dVar 4) aNil)) (aCons (dCall p.share_told (aCons (dCall p.share_text (aCons (dVar 3) aNil)) aNil)) aNil))) (aCons (dLst (aCons (dVar 3) (aCons (dVar 3) aNil))) aNil))))) (sRet (dC (.bl false))) sNext)
def st_law_5 (p : Fns) : SD := (sSet 5 (dLst (aCons (dC (.str "")) (aCons (dC (.str "(")) (aCons (dC (.str "(0")) (aCons (dC (.str "(0,")) (aCons (dC (.str "(0,0")) (aCons (dC (.str "(1,1")) (aCons (dC (.str "(0,1")) (aCons (dC (.str "2")) (aCons (dC (.str "00")) (aCons (dC (.str "01")) (aCons (dC (.str "()")) (aCons (dC (.str "(0,1))")) (aCons (dC (.str "(0;1)")) aNil)))))))))))))))
def st_law_6 (p : Fns) : SD := (sSet 5 (dOp oAdd (dOp oAdd (dVar 5) (dLst (aCons (dC (.str "((0,1),(0,1))")) (aCons (dOp oRepS (dC (.str "(")) (dC (.int 12))) aNil)))) (dLst (aCons (dOp oRepS (dC (.str "(")) (dC (.int 13))) (aCons (dOp oAdd (dOp oAdd (dOp oRepS2 (dC (.str "(0,")) (dC (.int 12))) (dC (.str "1"))) (dOp oRepS (dC (.str ")")) (dC (.int 12)))) (aCons (dOp oAdd (dOp oAdd (dOp oRepS2 (dC (.str "(0,")) (dC (.int 12))) (dC (.str "(0,1"))) (dOp oRepS (dC (.str ")")) (dC (.int 13)))) (aCons (dC (.str "((0,1),(0,1)")) (aCons (dOp oRepS (dC (.str "0")) (dC (.int 20000))) aNil))))))))
def st_law_7 (p : Fns) : SD := (sSet 5 (dOp oAdd (dVar 5) (dLst (aCons (dOp oRepS (dC (.str "(")) (dC (.int 20000))) (aCons (dC (.str " 0")) (aCons (dC (.str "0\n")) (aCons (dOp oAdd (dVar 4) (dC (.str ")"))) (aCons (dOp oAdd (dVar 4) (dC (.str ","))) (aCons (dOp oAdd (dOp oAdd (dC (.str "(")) (dVar 4)) (dC (.str ","))) (aCons (dOp oAdd (dOp oAdd (dOp oAdd (dOp oAdd (dC (.str "(")) (dVar 4)) (dC (.str ","))) (dVar 4)) (dC (.str ")"))) aNil))))))))))
def st_law_8 (p : Fns) : SD := (sSet 6 (dLst (aCons (dVar 4) (aCons (dCall p._law_spoilt (aCons (dVar 2) (aCons (dVar 4) aNil))) (aCons (dCall p._law_spoilt (aCons (dVar 2) (aCons (dVar 4) aNil))) aNil)))))
def st_law_9 (p : Fns) : SD := (sForC (dOp oAdd (dVar 6) (dLst (aCons (dOp oIx (dVar 5) (dCall p._law_sip (aCons (dVar 2) (aCons (dC (.int 27)) aNil)))) (aCons (dOp oIx (dVar 5) (dCall p._law_sip (aCons (dVar 2) (aCons (dC (.int 27)) aNil)))) aNil)))) (gN 7)
    (sIf (tNot' (tVal (dCall p._law_same (aCons (dCall p._law_told (aCons (dVar 7) aNil)) (aCons (dCall p._law_read (aCons (dVar 7) aNil)) aNil))))) (sRet (dC (.bl false))) sNext))
def st_law_10 (p : Fns) : SD := (sForC (dLst (aCons (dC .non) (aCons (dC (.int 7)) (aCons (dTup (aCons (dC (.str "0")) aNil)) (aCons (dLst (aCons (dC (.str "0")) aNil)) (aCons (dC (.bl true)) aNil)))))) (gN 7)
    (sIf (tNot' (tVal (dCall p._law_same (aCons (dCall p._law_told (aCons (dVar 7) aNil)) (aCons (dTup (aCons (dC (.int 0)) (aCons (dC .non) aNil))) aNil))))) (sRet (dC (.bl false))) sNext))
def st_law_11 (p : Fns) : SD := (sSet 8 (dCall p._law_bent (aCons (dVar 2) (aCons (dVar 3) (aCons (dC (.bl false)) aNil)))))
def st_law_12 (p : Fns) : SD := (sIf (tVal (dOp oNe (dCall p._law_refused (aCons (dVar 8) aNil)) (dOp oIx (dLst (aCons (dC (.str "share")) (aCons (dC (.str "none")) aNil))) (dCall bInt (aCons (dAnd (dCall p._law_is_share (aCons (dVar 8) (aCons (dC (.int 12)) aNil))) (dOp oLt (dCall p._law_size (aCons (dVar 8) aNil)) (dC (.int 64)))) aNil))))) (sRet (dC (.bl false))) sNext)
def b_law (p : Fns) : SD := (sSeq (sForC (dOp oAdd (dLst (aCons (dC (.int 84083042568805443670000000000000000000000495802469637802469142)) aNil)) (dSl (dVar 0) oNone (oSome (dC (.int 5))))) (gN 1)
    (sSeq (st_law_0 p)
    (sSeq (st_law_1 p)
    (sSeq (st_law_2 p)
    (sSeq (st_law_3 p)
    (sSeq (st_law_4 p)
    (sSeq (st_law_5 p)
    (sSeq (st_law_6 p)
    (sSeq (st_law_7 p)
    (sSeq (st_law_8 p)
    (sSeq (st_law_9 p)
    (sSeq (st_law_10 p)
    (sSeq (st_law_11 p)
    (st_law_12 p))))))))))))))
    (sRet (dC (.bl true))))
def fns : Nat → Fns
  | 0 => ⟨stuckF, stuckF, stuckF, stuckF, stuckF, stuckF, stuckF, stuckF, stuckF, stuckF, stuckF, stuckF, stuckF, stuckF, stuckF, stuckF, stuckF, stuckF, stuckF, stuckF, stuckF, stuckF, stuckF, stuckF, stuckF, stuckF, stuckF, stuckF, stuckF, 0⟩
  | n + 1 => ⟨fnOf 2 2 (b_Reader___init__ (fns n)), fnOf 2 3 (b_Reader_sees (fns n)), fnOf 2 2 (b_Reader_take (fns n)), fnOf 1 1 (b_Reader_begin_tuple (fns n)), fnOf 1 1 (b_Reader_end_tuple (fns n)), fnOf 1 1 (b_Reader_finish (fns n)), fnOf 1 2 (b_tuple_count (fns n)), fnOf 1 1 (b_is_share (fns n)), fnOf 2 2 (b__is_share_tree (fns n)), fnOf 1 1 (b_check_share (fns n)), fnOf 1 1 (b_share_text (fns n)), fnOf 1 1 (b__text_of (fns n)), fnOf 1 3 (b_share_told (fns n)), fnOf 2 4 (b__take_share (fns n)), fnOf 1 1 (b__law_cup (fns n)), fnOf 2 3 (b__law_sip (fns n)), fnOf 2 3 (b__law_same (fns n)), fnOf 2 4 (b__law_share (fns n)), fnOf 2 6 (b__law_long (fns n)), fnOf 2 2 (b__law_is_share (fns n)), fnOf 1 1 (b__law_size (fns n)), fnOf 3 5 (b__law_bent (fns n)), fnOf 1 7 (b__law_read (fns n)), fnOf 1 1 (b__law_written (fns n)), fnOf 2 6 (b__law_spoilt (fns n)), fnOf 1 3 (b__law_told (fns n)), fnOf 1 2 (b__law_refused (fns n)), fnOf 1 9 (b_law (fns n)), (fns n).Reader___init__, n + 1⟩
theorem fns_lv : ∀ n, (fns n).lv = n
  | 0 => rfl
  | n + 1 => rfl
theorem sc_Reader___init__ : FnScope ["self", "text"] ["self", "text"] (defScope s_Reader___init__) := ⟨rfl, rfl, rfl, by decide +kernel, rfl, by decide +kernel, by decide +kernel⟩
theorem sc_Reader_sees : FnScope ["self", "signs", "ahead"] ["self", "signs"] (defScope s_Reader_sees) := ⟨rfl, rfl, rfl, by decide +kernel, rfl, by decide +kernel, by decide +kernel⟩
theorem sc_Reader_take : FnScope ["self", "signs"] ["self", "signs"] (defScope s_Reader_take) := ⟨rfl, rfl, rfl, by decide +kernel, rfl, by decide +kernel, by decide +kernel⟩
theorem sc_Reader_begin_tuple : FnScope ["self"] ["self"] (defScope s_Reader_begin_tuple) := ⟨rfl, rfl, rfl, by decide +kernel, rfl, by decide +kernel, by decide +kernel⟩
theorem sc_Reader_end_tuple : FnScope ["self"] ["self"] (defScope s_Reader_end_tuple) := ⟨rfl, rfl, rfl, by decide +kernel, rfl, by decide +kernel, by decide +kernel⟩
theorem sc_Reader_finish : FnScope ["self"] ["self"] (defScope s_Reader_finish) := ⟨rfl, rfl, rfl, by decide +kernel, rfl, by decide +kernel, by decide +kernel⟩
theorem sc_tuple_count : FnScope ["tree", "part"] ["tree"] (defScope s_tuple_count) := ⟨rfl, rfl, rfl, by decide +kernel, rfl, by decide +kernel, by decide +kernel⟩
theorem sc_is_share : FnScope ["value"] ["value"] (defScope s_is_share) := ⟨rfl, rfl, rfl, by decide +kernel, rfl, by decide +kernel, by decide +kernel⟩
theorem sc__is_share_tree : FnScope ["value", "deepest"] ["value", "deepest"] (defScope s__is_share_tree) := ⟨rfl, rfl, rfl, by decide +kernel, rfl, by decide +kernel, by decide +kernel⟩
theorem sc_check_share : FnScope ["value"] ["value"] (defScope s_check_share) := ⟨rfl, rfl, rfl, by decide +kernel, rfl, by decide +kernel, by decide +kernel⟩
theorem sc_share_text : FnScope ["share"] ["share"] (defScope s_share_text) := ⟨rfl, rfl, rfl, by decide +kernel, rfl, by decide +kernel, by decide +kernel⟩
theorem sc__text_of : FnScope ["share"] ["share"] (defScope s__text_of) := ⟨rfl, rfl, rfl, by decide +kernel, rfl, by decide +kernel, by decide +kernel⟩
theorem sc_share_told : FnScope ["text", "reader", "share"] ["text"] (defScope s_share_told) := ⟨rfl, rfl, rfl, by decide +kernel, rfl, by decide +kernel, by decide +kernel⟩
theorem sc__take_share : FnScope ["reader", "numbers", "left", "right"] ["reader", "numbers"] (defScope s__take_share) := ⟨rfl, rfl, rfl, by decide +kernel, rfl, by decide +kernel, by decide +kernel⟩
theorem sc__law_cup : FnScope ["cell"] ["cell"] (defScope s__law_cup) := ⟨rfl, rfl, rfl, by decide +kernel, rfl, by decide +kernel, by decide +kernel⟩
theorem sc__law_sip : FnScope ["cup", "many", "drop"] ["cup", "many"] (defScope s__law_sip) := ⟨rfl, rfl, rfl, by decide +kernel, rfl, by decide +kernel, by decide +kernel⟩
theorem sc__law_same : FnScope ["found", "due", "k"] ["found", "due"] (defScope s__law_same) := ⟨rfl, rfl, rfl, by decide +kernel, rfl, by decide +kernel, by decide +kernel⟩
theorem sc__law_share : FnScope ["cup", "deep", "left", "right"] ["cup", "deep"] (defScope s__law_share) := ⟨rfl, rfl, rfl, by decide +kernel, rfl, by decide +kernel, by decide +kernel⟩
theorem sc__law_long : FnScope ["cup", "counts", "found", "turn", "other", "level"] ["cup", "counts"] (defScope s__law_long) := ⟨rfl, rfl, rfl, by decide +kernel, rfl, by decide +kernel, by decide +kernel⟩
theorem sc__law_is_share : FnScope ["value", "deep"] ["value", "deep"] (defScope s__law_is_share) := ⟨rfl, rfl, rfl, by decide +kernel, rfl, by decide +kernel, by decide +kernel⟩
theorem sc__law_size : FnScope ["tree"] ["tree"] (defScope s__law_size) := ⟨rfl, rfl, rfl, by decide +kernel, rfl, by decide +kernel, by decide +kernel⟩
theorem sc__law_bent : FnScope ["cup", "tree", "counts", "at", "odd"] ["cup", "tree", "counts"] (defScope s__law_bent) := ⟨rfl, rfl, rfl, by decide +kernel, rfl, by decide +kernel, by decide +kernel⟩
theorem sc__law_read : FnScope ["text", "stack", "done", "room", "at", "sign", "wants"] ["text"] (defScope s__law_read) := ⟨rfl, rfl, rfl, by decide +kernel, rfl, by decide +kernel, by decide +kernel⟩
theorem sc__law_written : FnScope ["share"] ["share"] (defScope s__law_written) := ⟨rfl, rfl, rfl, by decide +kernel, rfl, by decide +kernel, by decide +kernel⟩
theorem sc__law_spoilt : FnScope ["cup", "text", "turn", "at", "sign", "kind"] ["cup", "text"] (defScope s__law_spoilt) := ⟨rfl, rfl, rfl, by decide +kernel, rfl, by decide +kernel, by decide +kernel⟩
theorem sc__law_told : FnScope ["value", "found", "e"] ["value"] (defScope s__law_told) := ⟨rfl, rfl, rfl, by decide +kernel, rfl, by decide +kernel, by decide +kernel⟩
theorem sc__law_refused : FnScope ["value", "found"] ["value"] (defScope s__law_refused) := ⟨rfl, rfl, rfl, by decide +kernel, rfl, by decide +kernel, by decide +kernel⟩
theorem sc_law : FnScope ["script", "cell", "cup", "share", "text", "odd", "some", "value", "bent"] ["script"] (defScope s_law) := ⟨rfl, rfl, rfl, by decide +kernel, rfl, by decide +kernel, by decide +kernel⟩
theorem sc_InvalidText_init : FnScope ["self", "index"] ["self", "index"] (defScope s_InvalidText_init) := ⟨rfl, rfl, rfl, by decide +kernel, rfl, by decide +kernel, by decide +kernel⟩
structure At_Reader (K : PySem.W.Frag) (mg : Str → Option Value) where
  c : Addr
  ns : PySem.W.nsIn K mainGlobals "Reader" = some (some (.ref c))
  m : mg "Reader" = some (.ref c)
  cls : Cls K c
  na : ∀ f ∈ nms_, NoAttr K c f
  a___init__ : Addr
  d___init__ : FuncData
  F___init__ : Fun K "__init__" "Reader.__init__" s_Reader___init__ a___init__ d___init__
  me___init__ : Meth K c "__init__" a___init__
  b___init__ : Binds K d___init__ ["self", "text"] []
  a_sees : Addr
  d_sees : FuncData
  F_sees : Fun K "sees" "Reader.sees" s_Reader_sees a_sees d_sees
  me_sees : Meth K c "sees" a_sees
  b_sees : Binds K d_sees ["self", "signs"] []
  a_take : Addr
  d_take : FuncData
  F_take : Fun K "take" "Reader.take" s_Reader_take a_take d_take
  me_take : Meth K c "take" a_take
  b_take : Binds K d_take ["self", "signs"] []
  a_begin_tuple : Addr
  d_begin_tuple : FuncData
  F_begin_tuple : Fun K "begin_tuple" "Reader.begin_tuple" s_Reader_begin_tuple a_begin_tuple d_begin_tuple
  me_begin_tuple : Meth K c "begin_tuple" a_begin_tuple
  b_begin_tuple : Binds K d_begin_tuple ["self"] []
  a_end_tuple : Addr
  d_end_tuple : FuncData
  F_end_tuple : Fun K "end_tuple" "Reader.end_tuple" s_Reader_end_tuple a_end_tuple d_end_tuple
  me_end_tuple : Meth K c "end_tuple" a_end_tuple
  b_end_tuple : Binds K d_end_tuple ["self"] []
  a_finish : Addr
  d_finish : FuncData
  F_finish : Fun K "finish" "Reader.finish" s_Reader_finish a_finish d_finish
  me_finish : Meth K c "finish" a_finish
  b_finish : Binds K d_finish ["self"] []
  mkr : Mk K c a___init__
def mk_At_Reader {K : PySem.W.Frag} {h : Heap} {mg : Str → Option Value} (X : K.In h) (G : h.Ns mainGlobals mg) {C : Addr} (ns : PySem.W.nsIn K mainGlobals "Reader" = some (some (.ref C)))
    (pg : PySem.W.plainGet K C Str.empty = true) (hd : PySem.W.hasDictIn K C = true) (po : PySem.W.plainOver K C = true) (sa : PySem.W.findIn K (.ref C) "__setattr__" = some (some (.builtin "object.__setattr__"))) (mk : PySem.W.makesIn K C = true) (kp : PySem.W.keepIn K (.ref C) = true)
    (na_text : PySem.W.findIn K (.ref C) "text" = some none)
    (na_at : PySem.W.findIn K (.ref C) "at" = some none)
    (na_depth : PySem.W.findIn K (.ref C) "depth" = some none)
    (na_tuples : PySem.W.findIn K (.ref C) "tuples" = some none)
    {f___init__ : Addr} {od___init__ an___init__ : Option Addr} {sl___init__ : Array (Option Value)} {oc___init__ kV___init__ dc___init__ pm___init__ cd___init__ ct___init__ : Value} (at___init__ : PySem.W.findIn K (.ref C) "__init__" = some (some (.ref f___init__))) (fn___init__ : PySem.W.isFn K (.ref f___init__) = true)
    (lk___init__ : K.lookup f___init__ = some ⟨oc___init__, od___init__, .func (PySem.W.fnOf "__init__" "Reader.__init__" (defArgs s_Reader___init__) (defBody s_Reader___init__) (defScope s_Reader___init__) .none kV___init__ dc___init__ pm___init__ an___init__ cd___init__ ct___init__), sl___init__⟩) (co___init__ : PySem.W.codeIn K cd___init__ "Reader.__init__" = true) (kf___init__ : PySem.W.keepIn K (.ref f___init__) = true)
    {f_sees : Addr} {od_sees an_sees : Option Addr} {sl_sees : Array (Option Value)} {oc_sees kV_sees dc_sees pm_sees cd_sees ct_sees : Value} (at_sees : PySem.W.findIn K (.ref C) "sees" = some (some (.ref f_sees))) (fn_sees : PySem.W.isFn K (.ref f_sees) = true)
    (lk_sees : K.lookup f_sees = some ⟨oc_sees, od_sees, .func (PySem.W.fnOf "sees" "Reader.sees" (defArgs s_Reader_sees) (defBody s_Reader_sees) (defScope s_Reader_sees) .none kV_sees dc_sees pm_sees an_sees cd_sees ct_sees), sl_sees⟩) (co_sees : PySem.W.codeIn K cd_sees "Reader.sees" = true) (kf_sees : PySem.W.keepIn K (.ref f_sees) = true)
    {f_take : Addr} {od_take an_take : Option Addr} {sl_take : Array (Option Value)} {oc_take kV_take dc_take pm_take cd_take ct_take : Value} (at_take : PySem.W.findIn K (.ref C) "take" = some (some (.ref f_take))) (fn_take : PySem.W.isFn K (.ref f_take) = true)
    (lk_take : K.lookup f_take = some ⟨oc_take, od_take, .func (PySem.W.fnOf "take" "Reader.take" (defArgs s_Reader_take) (defBody s_Reader_take) (defScope s_Reader_take) .none kV_take dc_take pm_take an_take cd_take ct_take), sl_take⟩) (co_take : PySem.W.codeIn K cd_take "Reader.take" = true) (kf_take : PySem.W.keepIn K (.ref f_take) = true)
    {f_begin_tuple : Addr} {od_begin_tuple an_begin_tuple : Option Addr} {sl_begin_tuple : Array (Option Value)} {oc_begin_tuple kV_begin_tuple dc_begin_tuple pm_begin_tuple cd_begin_tuple ct_begin_tuple : Value} (at_begin_tuple : PySem.W.findIn K (.ref C) "begin_tuple" = some (some (.ref f_begin_tuple))) (fn_begin_tuple : PySem.W.isFn K (.ref f_begin_tuple) = true)
    (lk_begin_tuple : K.lookup f_begin_tuple = some ⟨oc_begin_tuple, od_begin_tuple, .func (PySem.W.fnOf "begin_tuple" "Reader.begin_tuple" (defArgs s_Reader_begin_tuple) (defBody s_Reader_begin_tuple) (defScope s_Reader_begin_tuple) .none kV_begin_tuple dc_begin_tuple pm_begin_tuple an_begin_tuple cd_begin_tuple ct_begin_tuple), sl_begin_tuple⟩) (co_begin_tuple : PySem.W.codeIn K cd_begin_tuple "Reader.begin_tuple" = true) (kf_begin_tuple : PySem.W.keepIn K (.ref f_begin_tuple) = true)
    {f_end_tuple : Addr} {od_end_tuple an_end_tuple : Option Addr} {sl_end_tuple : Array (Option Value)} {oc_end_tuple kV_end_tuple dc_end_tuple pm_end_tuple cd_end_tuple ct_end_tuple : Value} (at_end_tuple : PySem.W.findIn K (.ref C) "end_tuple" = some (some (.ref f_end_tuple))) (fn_end_tuple : PySem.W.isFn K (.ref f_end_tuple) = true)
    (lk_end_tuple : K.lookup f_end_tuple = some ⟨oc_end_tuple, od_end_tuple, .func (PySem.W.fnOf "end_tuple" "Reader.end_tuple" (defArgs s_Reader_end_tuple) (defBody s_Reader_end_tuple) (defScope s_Reader_end_tuple) .none kV_end_tuple dc_end_tuple pm_end_tuple an_end_tuple cd_end_tuple ct_end_tuple), sl_end_tuple⟩) (co_end_tuple : PySem.W.codeIn K cd_end_tuple "Reader.end_tuple" = true) (kf_end_tuple : PySem.W.keepIn K (.ref f_end_tuple) = true)
    {f_finish : Addr} {od_finish an_finish : Option Addr} {sl_finish : Array (Option Value)} {oc_finish kV_finish dc_finish pm_finish cd_finish ct_finish : Value} (at_finish : PySem.W.findIn K (.ref C) "finish" = some (some (.ref f_finish))) (fn_finish : PySem.W.isFn K (.ref f_finish) = true)
    (lk_finish : K.lookup f_finish = some ⟨oc_finish, od_finish, .func (PySem.W.fnOf "finish" "Reader.finish" (defArgs s_Reader_finish) (defBody s_Reader_finish) (defScope s_Reader_finish) .none kV_finish dc_finish pm_finish an_finish cd_finish ct_finish), sl_finish⟩) (co_finish : PySem.W.codeIn K cd_finish "Reader.finish" = true) (kf_finish : PySem.W.keepIn K (.ref f_finish) = true)
    : At_Reader K mg :=
  { c := C,
    ns := ns,
    m := PySem.W.mg_of X G ns,
    cls := ⟨pg, hd, po, sa⟩,
    na := (na_c na_text (na_c na_at (na_c na_depth (na_c na_tuples (fun f hf => absurd hf (List.not_mem_nil)))))),
    a___init__ := f___init__, d___init__ := _, F___init__ := fun_mk lk___init__ co___init__ kf___init__, me___init__ := ⟨at___init__, fn___init__, kf___init__⟩, b___init__ := (fun_mk lk___init__ co___init__ kf___init__).binds (fun _ _ _ _ _ _ us hl => match us, hl with | [_, _], _ => rfl),
    a_sees := f_sees, d_sees := _, F_sees := fun_mk lk_sees co_sees kf_sees, me_sees := ⟨at_sees, fn_sees, kf_sees⟩, b_sees := (fun_mk lk_sees co_sees kf_sees).binds (fun _ _ _ _ _ _ us hl => match us, hl with | [_, _], _ => rfl),
    a_take := f_take, d_take := _, F_take := fun_mk lk_take co_take kf_take, me_take := ⟨at_take, fn_take, kf_take⟩, b_take := (fun_mk lk_take co_take kf_take).binds (fun _ _ _ _ _ _ us hl => match us, hl with | [_, _], _ => rfl),
    a_begin_tuple := f_begin_tuple, d_begin_tuple := _, F_begin_tuple := fun_mk lk_begin_tuple co_begin_tuple kf_begin_tuple, me_begin_tuple := ⟨at_begin_tuple, fn_begin_tuple, kf_begin_tuple⟩, b_begin_tuple := (fun_mk lk_begin_tuple co_begin_tuple kf_begin_tuple).binds (fun _ _ _ _ _ _ us hl => match us, hl with | [_], _ => rfl),
    a_end_tuple := f_end_tuple, d_end_tuple := _, F_end_tuple := fun_mk lk_end_tuple co_end_tuple kf_end_tuple, me_end_tuple := ⟨at_end_tuple, fn_end_tuple, kf_end_tuple⟩, b_end_tuple := (fun_mk lk_end_tuple co_end_tuple kf_end_tuple).binds (fun _ _ _ _ _ _ us hl => match us, hl with | [_], _ => rfl),
    a_finish := f_finish, d_finish := _, F_finish := fun_mk lk_finish co_finish kf_finish, me_finish := ⟨at_finish, fn_finish, kf_finish⟩, b_finish := (fun_mk lk_finish co_finish kf_finish).binds (fun _ _ _ _ _ _ us hl => match us, hl with | [_], _ => rfl),
    mkr := ⟨mk, at___init__, fn___init__, kp⟩ }
/-- what the top has left -/
structure Txt (K : PySem.W.Frag) (mg : Str → Option Value) where
  R_Reader : At_Reader K mg
  a_tuple_count : Addr
  d_tuple_count : FuncData
  F_tuple_count : Fun K "tuple_count" "tuple_count" s_tuple_count a_tuple_count d_tuple_count
  m_tuple_count : mg "tuple_count" = some (.ref a_tuple_count)
  b_tuple_count : Binds K d_tuple_count ["tree"] []
  a_is_share : Addr
  d_is_share : FuncData
  F_is_share : Fun K "is_share" "is_share" s_is_share a_is_share d_is_share
  m_is_share : mg "is_share" = some (.ref a_is_share)
  b_is_share : Binds K d_is_share ["value"] []
  a__is_share_tree : Addr
  d__is_share_tree : FuncData
  F__is_share_tree : Fun K "_is_share_tree" "_is_share_tree" s__is_share_tree a__is_share_tree d__is_share_tree
  m__is_share_tree : mg "_is_share_tree" = some (.ref a__is_share_tree)
  b__is_share_tree : Binds K d__is_share_tree ["value", "deepest"] []
  a_check_share : Addr
  d_check_share : FuncData
  F_check_share : Fun K "check_share" "check_share" s_check_share a_check_share d_check_share
  m_check_share : mg "check_share" = some (.ref a_check_share)
  b_check_share : Binds K d_check_share ["value"] []
  a_share_text : Addr
  d_share_text : FuncData
  F_share_text : Fun K "share_text" "share_text" s_share_text a_share_text d_share_text
  m_share_text : mg "share_text" = some (.ref a_share_text)
  b_share_text : Binds K d_share_text ["share"] []
  a__text_of : Addr
  d__text_of : FuncData
  F__text_of : Fun K "_text_of" "_text_of" s__text_of a__text_of d__text_of
  m__text_of : mg "_text_of" = some (.ref a__text_of)
  b__text_of : Binds K d__text_of ["share"] []
  a_share_told : Addr
  d_share_told : FuncData
  F_share_told : Fun K "share_told" "share_told" s_share_told a_share_told d_share_told
  m_share_told : mg "share_told" = some (.ref a_share_told)
  b_share_told : Binds K d_share_told ["text"] []
  a__take_share : Addr
  d__take_share : FuncData
  F__take_share : Fun K "_take_share" "_take_share" s__take_share a__take_share d__take_share
  m__take_share : mg "_take_share" = some (.ref a__take_share)
  b__take_share : Binds K d__take_share ["reader", "numbers"] []
  a__law_cup : Addr
  d__law_cup : FuncData
  F__law_cup : Fun K "_law_cup" "_law_cup" s__law_cup a__law_cup d__law_cup
  m__law_cup : mg "_law_cup" = some (.ref a__law_cup)
  b__law_cup : Binds K d__law_cup ["cell"] []
  a__law_sip : Addr
  d__law_sip : FuncData
  F__law_sip : Fun K "_law_sip" "_law_sip" s__law_sip a__law_sip d__law_sip
  m__law_sip : mg "_law_sip" = some (.ref a__law_sip)
  b__law_sip : Binds K d__law_sip ["cup", "many"] []
  a__law_same : Addr
  d__law_same : FuncData
  F__law_same : Fun K "_law_same" "_law_same" s__law_same a__law_same d__law_same
  m__law_same : mg "_law_same" = some (.ref a__law_same)
  b__law_same : Binds K d__law_same ["found", "due"] []
  a__law_share : Addr
  d__law_share : FuncData
  F__law_share : Fun K "_law_share" "_law_share" s__law_share a__law_share d__law_share
  m__law_share : mg "_law_share" = some (.ref a__law_share)
  b__law_share : Binds K d__law_share ["cup", "deep"] []
  a__law_long : Addr
  d__law_long : FuncData
  F__law_long : Fun K "_law_long" "_law_long" s__law_long a__law_long d__law_long
  m__law_long : mg "_law_long" = some (.ref a__law_long)
  b__law_long : Binds K d__law_long ["cup", "counts"] []
  a__law_is_share : Addr
  d__law_is_share : FuncData
  F__law_is_share : Fun K "_law_is_share" "_law_is_share" s__law_is_share a__law_is_share d__law_is_share
  m__law_is_share : mg "_law_is_share" = some (.ref a__law_is_share)
  b__law_is_share : Binds K d__law_is_share ["value", "deep"] []
  a__law_size : Addr
  d__law_size : FuncData
  F__law_size : Fun K "_law_size" "_law_size" s__law_size a__law_size d__law_size
  m__law_size : mg "_law_size" = some (.ref a__law_size)
  b__law_size : Binds K d__law_size ["tree"] []
  a__law_bent : Addr
  d__law_bent : FuncData
  F__law_bent : Fun K "_law_bent" "_law_bent" s__law_bent a__law_bent d__law_bent
  m__law_bent : mg "_law_bent" = some (.ref a__law_bent)
  b__law_bent : Binds K d__law_bent ["cup", "tree", "counts"] []
  a__law_read : Addr
  d__law_read : FuncData
  F__law_read : Fun K "_law_read" "_law_read" s__law_read a__law_read d__law_read
  m__law_read : mg "_law_read" = some (.ref a__law_read)
  b__law_read : Binds K d__law_read ["text"] []
  a__law_written : Addr
  d__law_written : FuncData
  F__law_written : Fun K "_law_written" "_law_written" s__law_written a__law_written d__law_written
  m__law_written : mg "_law_written" = some (.ref a__law_written)
  b__law_written : Binds K d__law_written ["share"] []
  a__law_spoilt : Addr
  d__law_spoilt : FuncData
  F__law_spoilt : Fun K "_law_spoilt" "_law_spoilt" s__law_spoilt a__law_spoilt d__law_spoilt
  m__law_spoilt : mg "_law_spoilt" = some (.ref a__law_spoilt)
  b__law_spoilt : Binds K d__law_spoilt ["cup", "text"] []
  a__law_told : Addr
  d__law_told : FuncData
  F__law_told : Fun K "_law_told" "_law_told" s__law_told a__law_told d__law_told
  m__law_told : mg "_law_told" = some (.ref a__law_told)
  b__law_told : Binds K d__law_told ["value"] []
  a__law_refused : Addr
  d__law_refused : FuncData
  F__law_refused : Fun K "_law_refused" "_law_refused" s__law_refused a__law_refused d__law_refused
  m__law_refused : mg "_law_refused" = some (.ref a__law_refused)
  b__law_refused : Binds K d__law_refused ["value"] []
  a_law : Addr
  d_law : FuncData
  F_law : Fun K "law" "law" s_law a_law d_law
  m_law : mg "law" = some (.ref a_law)
  b_law : Binds K d_law ["script"] []
  kb_share_text_share : KB0 K d_share_text ["share"] ["share"] [0]
  kb_share_told_text : KB0 K d_share_told ["text"] ["text"] [0]
  g_DEEPEST : ∃ t, mg "DEEPEST" = some (.int 12 t)
  g_MOST_TUPLES : ∃ t, mg "MOST_TUPLES" = some (.int 63 t)
  n_all : mg "all" = none
  n_bool : mg "bool" = none
  n_int : mg "int" = none
  n_isinstance : mg "isinstance" = none
  n_len : mg "len" = none
  n_list : mg "list" = none
  n_range : mg "range" = none
  n_str : mg "str" = none
  n_sum : mg "sum" = none
  n_tuple : mg "tuple" = none
  n_type : mg "type" = none
  c_StampError : Addr
  m_StampError : mg "StampError" = some (.ref c_StampError)
  c_InvalidShare : Addr
  m_InvalidShare : mg "InvalidShare" = some (.ref c_InvalidShare)
  c_InvalidText : Addr
  m_InvalidText : mg "InvalidText" = some (.ref c_InvalidText)
  x_StampError : PySem.W.excIn K c_StampError [.type "ValueError", .type "Exception", .type "BaseException", .type "object"] "ValueError.__new__" = true
  kp_StampError : PySem.W.keepIn K (.ref c_StampError) = true
  sb_StampError : PySem.W.subIn K (.ref c_StampError) (.type "BaseException") = some true
  ty_StampError : PySem.W.typeIn K (.ref c_StampError) = some (.type "type")
  x_InvalidShare : PySem.W.excIn K c_InvalidShare [.type "ValueError", .type "Exception", .type "BaseException", .type "object"] "ValueError.__new__" = true
  kp_InvalidShare : PySem.W.keepIn K (.ref c_InvalidShare) = true
  sb_InvalidShare : PySem.W.subIn K (.ref c_InvalidShare) (.type "BaseException") = some true
  ty_InvalidShare : PySem.W.typeIn K (.ref c_InvalidShare) = some (.type "type")
  kp_InvalidText : PySem.W.keepIn K (.ref c_InvalidText) = true
  sb_InvalidText : PySem.W.subIn K (.ref c_InvalidText) (.type "BaseException") = some true
  ty_InvalidText : PySem.W.typeIn K (.ref c_InvalidText) = some (.type "type")
  o_InvalidText : OexC K c_InvalidText
  xf_InvalidText : XfC K c_InvalidText
  i_InvalidText : Addr
  di_InvalidText : FuncData
  Fi_InvalidText : Fun K "__init__" "InvalidText.__init__" s_InvalidText_init i_InvalidText di_InvalidText
  bi_InvalidText : Binds K di_InvalidText ["self", "index"] []
  ii_InvalidText : PySem.W.findIn K (.ref c_InvalidText) "__init__" = some (some (.ref i_InvalidText))
  it_InvalidText : PySem.W.typeIn K (.ref i_InvalidText) = some (.type "function")
  nf_InvalidText : PySem.W.findIn K (.ref c_InvalidText) "index" = some none
section
variable {K : PySem.W.Frag} {mg : Str → Option Value}
def Txt.cv (T : Txt K mg) : Nat → Value
  | 0 => .ref T.c_StampError
  | 1 => .ref T.c_InvalidShare
  | 2 => .ref T.c_InvalidText
  | _ => .none
end
structure TxtC (K : PySem.W.Frag) (mg : Str → Option Value) extends Txt K mg where
  cls : Clss K toTxt.cv 3 mt
def TxtC.cv {K : PySem.W.Frag} {mg : Str → Option Value} (T : TxtC K mg) : Nat → Value := T.toTxt.cv
end PD.K02

/-! ## K02Der -/
set_option Elab.async false
set_option linter.all false
set_option maxRecDepth 100000
set_option maxHeartbeats 4000000
namespace PD.K02
open PySem PySem.Spec L2 PD
/-- all defs keep their promises with n calls -/
structure AllG (P : Program) (w : World) {K : PySem.W.Frag} {mg : Str → Option Value} (base : Heap) (T : TxtC K mg) (n : Nat) : Prop where
  g_Reader___init__ : FnG P w K mg base n T.R_Reader.a___init__ T.R_Reader.d___init__ ["self", "text"] (SpecOf ⟨K, T.cv⟩ (fns n).Reader___init__)
  g_Reader_sees : FnG P w K mg base n T.R_Reader.a_sees T.R_Reader.d_sees ["self", "signs"] (SpecOf ⟨K, T.cv⟩ (fns n).Reader_sees)
  g_Reader_take : FnG P w K mg base n T.R_Reader.a_take T.R_Reader.d_take ["self", "signs"] (SpecOf ⟨K, T.cv⟩ (fns n).Reader_take)
  g_Reader_begin_tuple : FnG P w K mg base n T.R_Reader.a_begin_tuple T.R_Reader.d_begin_tuple ["self"] (SpecOf ⟨K, T.cv⟩ (fns n).Reader_begin_tuple)
  g_Reader_end_tuple : FnG P w K mg base n T.R_Reader.a_end_tuple T.R_Reader.d_end_tuple ["self"] (SpecOf ⟨K, T.cv⟩ (fns n).Reader_end_tuple)
  g_Reader_finish : FnG P w K mg base n T.R_Reader.a_finish T.R_Reader.d_finish ["self"] (SpecOf ⟨K, T.cv⟩ (fns n).Reader_finish)
  gm_Reader : FnG P w K mg base (n - 1) T.R_Reader.a___init__ T.R_Reader.d___init__ ["self", "text"] (SpecOf ⟨K, T.cv⟩ (fns n).mk_Reader)
  g_tuple_count : FnG P w K mg base n T.a_tuple_count T.d_tuple_count ["tree"] (SpecOf ⟨K, T.cv⟩ (fns n).tuple_count)
  g_is_share : FnG P w K mg base n T.a_is_share T.d_is_share ["value"] (SpecOf ⟨K, T.cv⟩ (fns n).is_share)
  g__is_share_tree : FnG P w K mg base n T.a__is_share_tree T.d__is_share_tree ["value", "deepest"] (SpecOf ⟨K, T.cv⟩ (fns n)._is_share_tree)
  g_check_share : FnG P w K mg base n T.a_check_share T.d_check_share ["value"] (SpecOf ⟨K, T.cv⟩ (fns n).check_share)
  g_share_text : FnG P w K mg base n T.a_share_text T.d_share_text ["share"] (SpecOf ⟨K, T.cv⟩ (fns n).share_text)
  g__text_of : FnG P w K mg base n T.a__text_of T.d__text_of ["share"] (SpecOf ⟨K, T.cv⟩ (fns n)._text_of)
  g_share_told : FnG P w K mg base n T.a_share_told T.d_share_told ["text"] (SpecOf ⟨K, T.cv⟩ (fns n).share_told)
  g__take_share : FnG P w K mg base n T.a__take_share T.d__take_share ["reader", "numbers"] (SpecOf ⟨K, T.cv⟩ (fns n)._take_share)
  g__law_cup : FnG P w K mg base n T.a__law_cup T.d__law_cup ["cell"] (SpecOf ⟨K, T.cv⟩ (fns n)._law_cup)
  g__law_sip : FnG P w K mg base n T.a__law_sip T.d__law_sip ["cup", "many"] (SpecOf ⟨K, T.cv⟩ (fns n)._law_sip)
  g__law_same : FnG P w K mg base n T.a__law_same T.d__law_same ["found", "due"] (SpecOf ⟨K, T.cv⟩ (fns n)._law_same)
  g__law_share : FnG P w K mg base n T.a__law_share T.d__law_share ["cup", "deep"] (SpecOf ⟨K, T.cv⟩ (fns n)._law_share)
  g__law_long : FnG P w K mg base n T.a__law_long T.d__law_long ["cup", "counts"] (SpecOf ⟨K, T.cv⟩ (fns n)._law_long)
  g__law_is_share : FnG P w K mg base n T.a__law_is_share T.d__law_is_share ["value", "deep"] (SpecOf ⟨K, T.cv⟩ (fns n)._law_is_share)
  g__law_size : FnG P w K mg base n T.a__law_size T.d__law_size ["tree"] (SpecOf ⟨K, T.cv⟩ (fns n)._law_size)
  g__law_bent : FnG P w K mg base n T.a__law_bent T.d__law_bent ["cup", "tree", "counts"] (SpecOf ⟨K, T.cv⟩ (fns n)._law_bent)
  g__law_read : FnG P w K mg base n T.a__law_read T.d__law_read ["text"] (SpecOf ⟨K, T.cv⟩ (fns n)._law_read)
  g__law_written : FnG P w K mg base n T.a__law_written T.d__law_written ["share"] (SpecOf ⟨K, T.cv⟩ (fns n)._law_written)
  g__law_spoilt : FnG P w K mg base n T.a__law_spoilt T.d__law_spoilt ["cup", "text"] (SpecOf ⟨K, T.cv⟩ (fns n)._law_spoilt)
  g__law_told : FnG P w K mg base n T.a__law_told T.d__law_told ["value"] (SpecOf ⟨K, T.cv⟩ (fns n)._law_told)
  g__law_refused : FnG P w K mg base n T.a__law_refused T.d__law_refused ["value"] (SpecOf ⟨K, T.cv⟩ (fns n)._law_refused)
  g_law : FnG P w K mg base n T.a_law T.d_law ["script"] (SpecOf ⟨K, T.cv⟩ (fns n).law)
theorem u65 {A : Around} {k : Nat} (hr : Room k A) : A.units + 65 < cLine := by have := hr.un; omega
theorem ct {K : PySem.W.Frag} {mg : Str → Option Value} (T : TxtC K mg) : ClsTab K cls_ nms_ := ⟨fun cn hc C h => by
  unfold cls_ at hc
  simp only [List.mem_cons, List.not_mem_nil, or_false] at hc
  rcases hc with rfl
  · have e := T.R_Reader.ns.symm.trans h
    cases e
    exact ⟨T.R_Reader.cls, T.R_Reader.na⟩⟩
theorem room_Reader {Γ : Cfg} {n : Nat} {A : Around} (hr : Room n A) : ∀ xs H Q E, SpecOf Γ (fns n).mk_Reader xs H Q E → Room (n - 1 + 1) A := by
  intro xs H Q E h
  cases n with
  | zero => obtain ⟨_, _, _, _, _, z⟩ := h; exact z.elim
  | succ n => exact hr
section
variable {P : Program} {w : World} {K : PySem.W.Frag} {mg : Str → Option Value} {base : Heap} {n : Nat}
theorem ini_InvalidText (T : TxtC K mg) : FnOk P w K mg base CX0 1 T.i_InvalidText T.di_InvalidText ["self", "index"] (iniS T.c_InvalidText "index") :=
  ini_ok T.Fi_InvalidText sc_InvalidText_init rfl rfl T.o_InvalidText T.nf_InvalidText fun cdv A outer s H E => pss_one (ps_ost (pv 0) (pv 1))
theorem g_Reader___init__ (T : TxtC K mg) (G : AllG P w base T n) : FnG P w K mg base (n + 1) T.R_Reader.a___init__ T.R_Reader.d___init__ ["self", "text"] (SpecOf ⟨K, T.cv⟩ (fnOf 2 2 (b_Reader___init__ (fns n)))) :=
  fn_den T.R_Reader.F___init__ sc_Reader___init__ fun cdv A outer s H E hG hr tk po =>
    (ps_cons' (ps_if' (pdt_cmp op_isNotA ok_isNotA (pd_callTy call_type1 ok_type (by rfl) T.n_type (by decide +kernel) (pda_cons (pd_var (pv 1)) pda_nil)) (pd_ty (n := "str") rfl T.n_str (by decide +kernel)) (nomark _)) (ps_one' (ps_raiseF (c := 2) rfl tk rfl T.o_InvalidText T.ii_InvalidText T.it_InvalidText (ini_InvalidText T) (fns_lv n) hr T.bi_InvalidText rfl T.m_InvalidText pd_int)) ps_nil')
    (ps_cons' (ps_fldS (ct T) (pd_var (pv 0)) (pd_var (pv 1)))
    (ps_cons' (ps_fldS (ct T) (pd_var (pv 0)) pd_int)
    (ps_cons' (ps_fldS (ct T) (pd_var (pv 0)) pd_int)
    (ps_one' (ps_fldS (ct T) (pd_var (pv 0)) pd_int))))))
theorem g_Reader_sees (T : TxtC K mg) (G : AllG P w base T n) : FnG P w K mg base (n + 1) T.R_Reader.a_sees T.R_Reader.d_sees ["self", "signs"] (SpecOf ⟨K, T.cv⟩ (fnOf 2 3 (b_Reader_sees (fns n)))) :=
  fn_den T.R_Reader.F_sees sc_Reader_sees fun cdv A outer s H E hG hr tk po =>
    (ps_cons' (ps_set' (i := 2) sc_Reader_sees.nd rfl (by first | exact Or.inl rfl | exact Or.inr rfl) (pd_sl (pd_fld (ct T) (pd_var (pv 0))) (pdo_some (pd_fld (ct T) (pd_var (pv 0)))) (pdo_some (pd_op op_addA ok_add (pd_fld (ct T) (pd_var (pv 0))) pd_int))))
    (ps_one' (ps_ret' (pd_and (pd_cmp (op_neD hr.units) ok_ne (pd_var (pv 2)) pd_str (nomark _)) (pd_one (pd_cmp op_in_sign ok_inS (pd_var (pv 2)) (pd_var (pv 1)) rfl))))))
theorem g_Reader_take (T : TxtC K mg) (G : AllG P w base T n) : FnG P w K mg base (n + 1) T.R_Reader.a_take T.R_Reader.d_take ["self", "signs"] (SpecOf ⟨K, T.cv⟩ (fnOf 2 2 (b_Reader_take (fns n)))) :=
  fn_den T.R_Reader.F_take sc_Reader_take fun cdv A outer s H E hG hr tk po =>
    (ps_cons' (ps_if' (pdt_not (pdt_val (pd_meth (tab := [("Reader", (fns n).Reader_sees)]) (mt_cons T.R_Reader.ns T.R_Reader.cls T.R_Reader.me_sees G.g_Reader_sees T.R_Reader.b_sees mt_nil) hG hr tk (pd_var (pv 0)) (pda_cons (pd_var (pv 1)) pda_nil)))) (ps_one' (ps_raiseF (c := 2) rfl tk rfl T.o_InvalidText T.ii_InvalidText T.it_InvalidText (ini_InvalidText T) (fns_lv n) hr T.bi_InvalidText rfl T.m_InvalidText (pd_fld (ct T) (pd_var (pv 0))))) ps_nil')
    (ps_cons' (ps_fldA (ct T) (pd_var (pv 0)) pd_int in_add (k := fun i j => i + j) (fun i j H Q q => ⟨i, j, rfl, rfl, q⟩))
    (ps_one' (ps_ret' (pd_ix (pd_fld (ct T) (pd_var (pv 0))) (pd_op op_sub ok_sub (pd_fld (ct T) (pd_var (pv 0))) pd_int) (fun _ _ => rfl))))))
theorem g_Reader_begin_tuple (T : TxtC K mg) (G : AllG P w base T n) : FnG P w K mg base (n + 1) T.R_Reader.a_begin_tuple T.R_Reader.d_begin_tuple ["self"] (SpecOf ⟨K, T.cv⟩ (fnOf 1 1 (b_Reader_begin_tuple (fns n)))) :=
  fn_den T.R_Reader.F_begin_tuple sc_Reader_begin_tuple fun cdv A outer s H E hG hr tk po =>
    (ps_cons' (ps_if' (PW.pt (pdw_or (pdt_cmp (op_eqD hr.units) ok_eq (pd_fld (ct T) (pd_var (pv 0))) (pd_gi rfl T.g_DEEPEST) (nomark _)) (pdw_one (pdt_cmp (op_eqD hr.units) ok_eq (pd_fld (ct T) (pd_var (pv 0))) (pd_gi rfl T.g_MOST_TUPLES) (nomark _)) (by decide)))) (ps_one' (ps_raiseF (c := 2) rfl tk rfl T.o_InvalidText T.ii_InvalidText T.it_InvalidText (ini_InvalidText T) (fns_lv n) hr T.bi_InvalidText rfl T.m_InvalidText (pd_fld (ct T) (pd_var (pv 0))))) ps_nil')
    (ps_cons' (ps_expr' (pd_meth (tab := [("Reader", (fns n).Reader_take)]) (mt_cons T.R_Reader.ns T.R_Reader.cls T.R_Reader.me_take G.g_Reader_take T.R_Reader.b_take mt_nil) hG hr tk (pd_var (pv 0)) (pda_cons pd_str pda_nil)))
    (ps_cons' (ps_fldA (ct T) (pd_var (pv 0)) pd_int in_add (k := fun i j => i + j) (fun i j H Q q => ⟨i, j, rfl, rfl, q⟩))
    (ps_one' (ps_fldA (ct T) (pd_var (pv 0)) pd_int in_add (k := fun i j => i + j) (fun i j H Q q => ⟨i, j, rfl, rfl, q⟩))))))
theorem g_Reader_end_tuple (T : TxtC K mg) (G : AllG P w base T n) : FnG P w K mg base (n + 1) T.R_Reader.a_end_tuple T.R_Reader.d_end_tuple ["self"] (SpecOf ⟨K, T.cv⟩ (fnOf 1 1 (b_Reader_end_tuple (fns n)))) :=
  fn_den T.R_Reader.F_end_tuple sc_Reader_end_tuple fun cdv A outer s H E hG hr tk po =>
    (ps_cons' (ps_expr' (pd_meth (tab := [("Reader", (fns n).Reader_take)]) (mt_cons T.R_Reader.ns T.R_Reader.cls T.R_Reader.me_take G.g_Reader_take T.R_Reader.b_take mt_nil) hG hr tk (pd_var (pv 0)) (pda_cons pd_str pda_nil)))
    (ps_one' (ps_fldA (ct T) (pd_var (pv 0)) pd_int in_sub (k := fun i j => i - j) (fun i j H Q q => ⟨i, j, rfl, rfl, q⟩))))
theorem g_Reader_finish (T : TxtC K mg) (G : AllG P w base T n) : FnG P w K mg base (n + 1) T.R_Reader.a_finish T.R_Reader.d_finish ["self"] (SpecOf ⟨K, T.cv⟩ (fnOf 1 1 (b_Reader_finish (fns n)))) :=
  fn_den T.R_Reader.F_finish sc_Reader_finish fun cdv A outer s H E hG hr tk po =>
    (ps_one' (ps_if' (pdt_cmp op_lt ok_int2 (pd_fld (ct T) (pd_var (pv 0))) (pd_callB call_len ok_len (by rfl) T.n_len (by decide +kernel) (pda_cons (pd_fld (ct T) (pd_var (pv 0))) pda_nil)) (nomark _)) (ps_one' (ps_raiseF (c := 2) rfl tk rfl T.o_InvalidText T.ii_InvalidText T.it_InvalidText (ini_InvalidText T) (fns_lv n) hr T.bi_InvalidText rfl T.m_InvalidText (pd_fld (ct T) (pd_var (pv 0))))) ps_nil'))
theorem g_tuple_count (T : TxtC K mg) (G : AllG P w base T n) : FnG P w K mg base (n + 1) T.a_tuple_count T.d_tuple_count ["tree"] (SpecOf ⟨K, T.cv⟩ (fnOf 1 2 (b_tuple_count (fns n)))) :=
  fn_den T.F_tuple_count sc_tuple_count fun cdv A outer s H E hG hr tk po =>
    (ps_cons' (ps_if' (pdt_cmp op_isA ok_isA (pd_callTy call_type1 ok_type (by rfl) T.n_type (by decide +kernel) (pda_cons (pd_var (pv 0)) pda_nil)) (pd_ty (n := "int") rfl T.n_int (by decide +kernel)) (nomark _)) (ps_one' (ps_ret' pd_int)) ps_nil')
    (ps_one' (ps_ret' (pd_op op_addA ok_add pd_int (pd_callB (cr_sum rfl) ok_sum (by rfl) T.n_sum (by decide +kernel) (pda_cons (pd_lcT (own := [("part", 1)]) rfl sc_tuple_count.nd (pd_var (pv 0)) ⟨(blkOk_by (own := [("part", 1)]) (N := ["tree", "part"]) (sc := defScope s_tuple_count) (by decide +kernel)), (fun _ _ _ _ _ => pg_name (i := 1) sc_tuple_count.nd rfl (by first | exact Or.inl rfl | exact Or.inr rfl)), (tg_name _ 1), wipe_name, (fun _ _ _ _ _ => pdts_nil), (fun _ _ _ _ _ => have tk := takes0; (pd_call G.g_tuple_count hG hr rfl T.m_tuple_count T.F_tuple_count.kp T.b_tuple_count tk (pda_cons (pd_var (pv 1)) pda_nil)))⟩) pda_nil))))))
theorem g_is_share (T : TxtC K mg) (G : AllG P w base T n) : FnG P w K mg base (n + 1) T.a_is_share T.d_is_share ["value"] (SpecOf ⟨K, T.cv⟩ (fnOf 1 1 (b_is_share (fns n)))) :=
  fn_den T.F_is_share sc_is_share fun cdv A outer s H E hG hr tk po =>
    (ps_one' (ps_ret' (pd_and (pd_call G.g__is_share_tree hG hr rfl T.m__is_share_tree T.F__is_share_tree.kp T.b__is_share_tree tk (pda_cons (pd_var (pv 0)) (pda_cons (pd_gi rfl T.g_DEEPEST) pda_nil))) (pd_one (pd_cmp op_le ok_int2 (pd_call G.g_tuple_count hG hr rfl T.m_tuple_count T.F_tuple_count.kp T.b_tuple_count tk (pda_cons (pd_var (pv 0)) pda_nil)) (pd_gi rfl T.g_MOST_TUPLES) (nomark _))))))
theorem g__is_share_tree (T : TxtC K mg) (G : AllG P w base T n) : FnG P w K mg base (n + 1) T.a__is_share_tree T.d__is_share_tree ["value", "deepest"] (SpecOf ⟨K, T.cv⟩ (fnOf 2 2 (b__is_share_tree (fns n)))) :=
  fn_den T.F__is_share_tree sc__is_share_tree fun cdv A outer s H E hG hr tk po =>
    (ps_cons' (ps_if' (pdt_cmp op_isA ok_isA (pd_callTy call_type1 ok_type (by rfl) T.n_type (by decide +kernel) (pda_cons (pd_var (pv 0)) pda_nil)) (pd_ty (n := "int") rfl T.n_int (by decide +kernel)) (nomark _)) (ps_one' (ps_ret' (pd_or (pd_cmp (op_eqD hr.units) ok_eq (pd_var (pv 0)) pd_int (nomark _)) (pd_one (pd_cmp (op_eqD hr.units) ok_eq (pd_var (pv 0)) pd_int (nomark _)))))) ps_nil')
    (ps_cons' (ps_if' (PW.pt (pdw_or (pdt_cmp op_isNotA ok_isNotA (pd_callTy call_type1 ok_type (by rfl) T.n_type (by decide +kernel) (pda_cons (pd_var (pv 0)) pda_nil)) (pd_ty (n := "tuple") rfl T.n_tuple (by decide +kernel)) (nomark _)) (pdw_or (pdt_cmp (op_neD hr.units) ok_ne (pd_callB call_len ok_len (by rfl) T.n_len (by decide +kernel) (pda_cons (pd_var (pv 0)) pda_nil)) pd_int (nomark _)) (pdw_one (pdt_cmp (op_eqD hr.units) ok_eq (pd_var (pv 1)) pd_int (nomark _)) (by decide))))) (ps_one' (ps_ret' pd_bl)) ps_nil')
    (ps_cons' (ps_if' (PW.pt (pdw_or (pdt_cmp (op_eqD hr.units) ok_eq (pd_var (pv 0)) (pd_tup (pda_cons pd_int (pda_cons pd_int pda_nil))) (nomark _)) (pdw_one (pdt_cmp (op_eqD hr.units) ok_eq (pd_var (pv 0)) (pd_tup (pda_cons pd_int (pda_cons pd_int pda_nil))) (nomark _)) (by decide)))) (ps_one' (ps_ret' pd_bl)) ps_nil')
    (ps_one' (ps_ret' (pd_and (pd_call G.g__is_share_tree hG hr rfl T.m__is_share_tree T.F__is_share_tree.kp T.b__is_share_tree tk (pda_cons (pd_ix (pd_var (pv 0)) pd_int (fun _ _ => rfl)) (pda_cons (pd_op op_sub ok_sub (pd_var (pv 1)) pd_int) pda_nil))) (pd_one (pd_call G.g__is_share_tree hG hr rfl T.m__is_share_tree T.F__is_share_tree.kp T.b__is_share_tree tk (pda_cons (pd_ix (pd_var (pv 0)) pd_int (fun _ _ => rfl)) (pda_cons (pd_op op_sub ok_sub (pd_var (pv 1)) pd_int) pda_nil))))))))))
theorem g_check_share (T : TxtC K mg) (G : AllG P w base T n) : FnG P w K mg base (n + 1) T.a_check_share T.d_check_share ["value"] (SpecOf ⟨K, T.cv⟩ (fnOf 1 1 (b_check_share (fns n)))) :=
  fn_den T.F_check_share sc_check_share fun cdv A outer s H E hG hr tk po =>
    (ps_one' (ps_if' (pdt_not (pdt_val (pd_call G.g_is_share hG hr rfl T.m_is_share T.F_is_share.kp T.b_is_share tk (pda_cons (pd_var (pv 0)) pda_nil)))) (ps_one' (ps_raise' (c := 1) rfl tk rfl (pmk_own PySem.F.excBase_ValueError T.x_InvalidShare T.m_InvalidShare T.kp_InvalidShare (raises_own T.sb_InvalidShare T.ty_InvalidShare) (by exact rfl)))) ps_nil'))
theorem g_share_text (T : TxtC K mg) (G : AllG P w base T n) : FnG P w K mg base (n + 1) T.a_share_text T.d_share_text ["share"] (SpecOf ⟨K, T.cv⟩ (fnOf 1 1 (b_share_text (fns n)))) :=
  fn_den T.F_share_text sc_share_text fun cdv A outer s H E hG hr tk po =>
    (ps_cons' (ps_expr' (pd_call G.g_check_share hG hr rfl T.m_check_share T.F_check_share.kp T.b_check_share tk (pda_cons (pd_var (pv 0)) pda_nil)))
    (ps_one' (ps_ret' (pd_call G.g__text_of hG hr rfl T.m__text_of T.F__text_of.kp T.b__text_of tk (pda_cons (pd_var (pv 0)) pda_nil)))))
theorem g__text_of (T : TxtC K mg) (G : AllG P w base T n) : FnG P w K mg base (n + 1) T.a__text_of T.d__text_of ["share"] (SpecOf ⟨K, T.cv⟩ (fnOf 1 1 (b__text_of (fns n)))) :=
  fn_den T.F__text_of sc__text_of fun cdv A outer s H E hG hr tk po =>
    (ps_cons' (ps_if' (pdt_cmp op_isA ok_isA (pd_callTy call_type1 ok_type (by rfl) T.n_type (by decide +kernel) (pda_cons (pd_var (pv 0)) pda_nil)) (pd_ty (n := "int") rfl T.n_int (by decide +kernel)) (nomark _)) (ps_one' (ps_ret' (pd_callTy call_str_int ok_str (by rfl) T.n_str (by decide +kernel) (pda_cons (pd_var (pv 0)) pda_nil)))) ps_nil')
    (ps_one' (ps_ret' (pd_joined (.cons pd_str (.cons (pd_fmt (pd_call G.g__text_of hG hr rfl T.m__text_of T.F__text_of.kp T.b__text_of tk (pda_cons (pd_ix (pd_var (pv 0)) pd_int (fun _ _ => rfl)) pda_nil))) (.cons pd_str (.cons (pd_fmt (pd_call G.g__text_of hG hr rfl T.m__text_of T.F__text_of.kp T.b__text_of tk (pda_cons (pd_ix (pd_var (pv 0)) pd_int (fun _ _ => rfl)) pda_nil))) (.cons pd_str .nil)))))))))
theorem g_share_told (T : TxtC K mg) (G : AllG P w base T n) : FnG P w K mg base (n + 1) T.a_share_told T.d_share_told ["text"] (SpecOf ⟨K, T.cv⟩ (fnOf 1 3 (b_share_told (fns n)))) :=
  fn_den T.F_share_told sc_share_told fun cdv A outer s H E hG hr tk po =>
    (ps_cons' (ps_set' (i := 1) sc_share_told.nd rfl (by first | exact Or.inl rfl | exact Or.inr rfl) (pd_make T.R_Reader.ns T.R_Reader.mkr G.gm_Reader hG (room_Reader hr) rfl T.R_Reader.m T.R_Reader.b___init__ tk (pda_cons (pd_var (pv 0)) pda_nil)))
    (ps_cons' (ps_set' (i := 2) sc_share_told.nd rfl (by first | exact Or.inl rfl | exact Or.inr rfl) (pd_call G.g__take_share hG hr rfl T.m__take_share T.F__take_share.kp T.b__take_share tk (pda_cons (pd_var (pv 1)) (pda_cons pd_str pda_nil))))
    (ps_cons' (ps_expr' (pd_meth0 (tab := [("Reader", (fns n).Reader_finish)]) (mt_cons T.R_Reader.ns T.R_Reader.cls T.R_Reader.me_finish G.g_Reader_finish T.R_Reader.b_finish mt_nil) hG hr tk (pd_var (pv 1))))
    (ps_one' (ps_ret' (pd_var (pv 2)))))))
theorem g__take_share (T : TxtC K mg) (G : AllG P w base T n) : FnG P w K mg base (n + 1) T.a__take_share T.d__take_share ["reader", "numbers"] (SpecOf ⟨K, T.cv⟩ (fnOf 2 4 (b__take_share (fns n)))) :=
  fn_den T.F__take_share sc__take_share fun cdv A outer s H E hG hr tk po =>
    (ps_cons' (ps_if' (pdt_not (pdt_val (pd_meth (tab := [("Reader", (fns n).Reader_sees)]) (mt_cons T.R_Reader.ns T.R_Reader.cls T.R_Reader.me_sees G.g_Reader_sees T.R_Reader.b_sees mt_nil) hG hr tk (pd_var (pv 0)) (pda_cons pd_str pda_nil)))) (ps_one' (ps_ret' (pd_callTy call_int_str ok_intS (by rfl) T.n_int (by decide +kernel) (pda_cons (pd_meth (tab := [("Reader", (fns n).Reader_take)]) (mt_cons T.R_Reader.ns T.R_Reader.cls T.R_Reader.me_take G.g_Reader_take T.R_Reader.b_take mt_nil) hG hr tk (pd_var (pv 0)) (pda_cons (pd_var (pv 1)) pda_nil)) pda_nil)))) ps_nil')
    (ps_cons' (ps_expr' (pd_meth0 (tab := [("Reader", (fns n).Reader_begin_tuple)]) (mt_cons T.R_Reader.ns T.R_Reader.cls T.R_Reader.me_begin_tuple G.g_Reader_begin_tuple T.R_Reader.b_begin_tuple mt_nil) hG hr tk (pd_var (pv 0))))
    (ps_cons' (ps_set' (i := 2) sc__take_share.nd rfl (by first | exact Or.inl rfl | exact Or.inr rfl) (pd_call G.g__take_share hG hr rfl T.m__take_share T.F__take_share.kp T.b__take_share tk (pda_cons (pd_var (pv 0)) (pda_cons pd_str pda_nil))))
    (ps_cons' (ps_expr' (pd_meth (tab := [("Reader", (fns n).Reader_take)]) (mt_cons T.R_Reader.ns T.R_Reader.cls T.R_Reader.me_take G.g_Reader_take T.R_Reader.b_take mt_nil) hG hr tk (pd_var (pv 0)) (pda_cons pd_str pda_nil)))
    (ps_cons' (ps_set' (i := 3) sc__take_share.nd rfl (by first | exact Or.inl rfl | exact Or.inr rfl) (pd_call G.g__take_share hG hr rfl T.m__take_share T.F__take_share.kp T.b__take_share tk (pda_cons (pd_var (pv 0)) (pda_cons (pd_if (pdt_cmp op_isA ok_isA (pd_callTy call_type1 ok_type (by rfl) T.n_type (by decide +kernel) (pda_cons (pd_var (pv 2)) pda_nil)) (pd_ty (n := "tuple") rfl T.n_tuple (by decide +kernel)) (nomark _)) pd_str (pd_callTy call_str_int ok_str (by rfl) T.n_str (by decide +kernel) (pda_cons (pd_op op_sub ok_sub pd_int (pd_var (pv 2))) pda_nil))) pda_nil))))
    (ps_cons' (ps_expr' (pd_meth0 (tab := [("Reader", (fns n).Reader_end_tuple)]) (mt_cons T.R_Reader.ns T.R_Reader.cls T.R_Reader.me_end_tuple G.g_Reader_end_tuple T.R_Reader.b_end_tuple mt_nil) hG hr tk (pd_var (pv 0))))
    (ps_one' (ps_ret' (pd_tup (pda_cons (pd_var (pv 2)) (pda_cons (pd_var (pv 3)) pda_nil)))))))))))
theorem g__law_cup (T : TxtC K mg) (G : AllG P w base T n) : FnG P w K mg base (n + 1) T.a__law_cup T.d__law_cup ["cell"] (SpecOf ⟨K, T.cv⟩ (fnOf 1 1 (b__law_cup (fns n)))) :=
  fn_den T.F__law_cup sc__law_cup fun cdv A outer s H E hG hr tk po =>
    (ps_one' (ps_ret' (pd_lst (pda_cons (pd_if (pdt_cmp op_ge ok_int2 (pd_var (pv 0)) (pd_op op_pow ok_pow pd_int pd_int) (nomark _)) (pd_op op_sub ok_sub (pd_callTy call_int1 ok_int (by rfl) T.n_int (by decide +kernel) (pda_cons (pd_var (pv 0)) pda_nil)) (pd_op op_pow ok_pow pd_int pd_int)) pd_int) (pda_cons (pd_op op_addA ok_add (pd_op op_mod ok_mod (pd_callTy call_int1 ok_int (by rfl) T.n_int (by decide +kernel) (pda_cons (pd_var (pv 0)) pda_nil)) pd_int) pd_int) pda_nil)))))
theorem g__law_sip (T : TxtC K mg) (G : AllG P w base T n) : FnG P w K mg base (n + 1) T.a__law_sip T.d__law_sip ["cup", "many"] (SpecOf ⟨K, T.cv⟩ (fnOf 2 3 (b__law_sip (fns n)))) :=
  fn_den T.F__law_sip sc__law_sip fun cdv A outer s H E hG hr tk po =>
    (ps_cons' (ps_if' (pdt_cmp op_gt ok_int2 (pd_ix (pd_var (pv 0)) pd_int (fun _ _ => rfl)) pd_int (nomark _)) (ps_cons' (ps_set' (i := 2) sc__law_sip.nd rfl (by first | exact Or.inl rfl | exact Or.inr rfl) (pd_op op_mod ok_mod (pd_callTy call_int1 ok_int (by rfl) T.n_int (by decide +kernel) (pda_cons (pd_ix (pd_var (pv 0)) pd_int (fun _ _ => rfl)) pda_nil)) (pd_var (pv 1))))
    (ps_cons' (ps_put' (pd_op op_fdivW ok_div (pd_ix (pd_var (pv 0)) pd_int (fun _ _ => rfl)) (pd_var (pv 1))) (pd_var (pv 0)) pd_int)
    (ps_one' (ps_ret' (pd_var (pv 2)))))) ps_nil')
    (ps_cons' (ps_put' (pd_op op_mod ok_mod (pd_callTy call_int1 ok_int (by rfl) T.n_int (by decide +kernel) (pda_cons (pd_op op_mulE ok_mulE (pd_ix (pd_var (pv 0)) pd_int (fun _ _ => rfl)) pd_int) pda_nil)) pd_int) (pd_var (pv 0)) pd_int)
    (ps_one' (ps_ret' (pd_op op_mod ok_mod (pd_op op_fdivW ok_div (pd_op op_mod ok_mod (pd_callTy call_int1 ok_int (by rfl) T.n_int (by decide +kernel) (pda_cons (pd_op op_mulE ok_mulE (pd_ix (pd_var (pv 0)) pd_int (fun _ _ => rfl)) (pd_ix (pd_var (pv 0)) pd_int (fun _ _ => rfl))) pda_nil)) pd_int) pd_int) (pd_var (pv 1)))))))
theorem g__law_same (T : TxtC K mg) (G : AllG P w base T n) : FnG P w K mg base (n + 1) T.a__law_same T.d__law_same ["found", "due"] (SpecOf ⟨K, T.cv⟩ (fnOf 2 3 (b__law_same (fns n)))) :=
  fn_den T.F__law_same sc__law_same fun cdv A outer s H E hG hr tk po =>
    (ps_cons' (ps_if' (pdt_cmp op_isA ok_isA (pd_var (pv 1)) pd_non (nomark _)) (ps_one' (ps_ret' (pd_cmp op_isA ok_isA (pd_var (pv 0)) pd_non (nomark _)))) ps_nil')
    (ps_cons' (ps_if' (pdt_cmp op_isA ok_isA (pd_var (pv 1)) pd_bl (nomark _)) (ps_one' (ps_ret' (pd_cmp op_isA ok_isA (pd_var (pv 0)) pd_bl (nomark _)))) ps_nil')
    (ps_cons' (ps_if' (pdt_cmp op_isA ok_isA (pd_var (pv 1)) pd_bl (nomark _)) (ps_one' (ps_ret' (pd_cmp op_isA ok_isA (pd_var (pv 0)) pd_bl (nomark _)))) ps_nil')
    (ps_cons' (ps_if' (pdt_val (pd_callB call_isi ok_isi (by rfl) T.n_isinstance (by decide +kernel) (pda_cons (pd_var (pv 1)) (pda_cons (pd_ty (n := "int") rfl T.n_int (by decide +kernel)) pda_nil)))) (ps_one' (ps_ret' (pd_and (pd_callB call_isi ok_isi (by rfl) T.n_isinstance (by decide +kernel) (pda_cons (pd_var (pv 0)) (pda_cons (pd_ty (n := "int") rfl T.n_int (by decide +kernel)) pda_nil))) (pd_and (pd_not (pd_callB call_isi ok_isi (by rfl) T.n_isinstance (by decide +kernel) (pda_cons (pd_var (pv 0)) (pda_cons (pd_ty (n := "bool") rfl T.n_bool (by decide +kernel)) pda_nil)))) (pd_one (pd_cmp (op_eqD hr.units) ok_eq (pd_var (pv 0)) (pd_var (pv 1)) (nomark _))))))) ps_nil')
    (ps_cons' (ps_if' (pdt_val (pd_callB call_isi ok_isi (by rfl) T.n_isinstance (by decide +kernel) (pda_cons (pd_var (pv 1)) (pda_cons (pd_ty (n := "str") rfl T.n_str (by decide +kernel)) pda_nil)))) (ps_one' (ps_ret' (pd_and (pd_callB call_isi ok_isi (by rfl) T.n_isinstance (by decide +kernel) (pda_cons (pd_var (pv 0)) (pda_cons (pd_ty (n := "str") rfl T.n_str (by decide +kernel)) pda_nil))) (pd_one (pd_cmp (op_eqD hr.units) ok_eq (pd_var (pv 0)) (pd_var (pv 1)) (nomark _)))))) ps_nil')
    (ps_cons' (ps_if' (PW.pt (pdw_or (pdt_cmp (op_neD hr.units) ok_ne (pd_callB call_isi ok_isi (by rfl) T.n_isinstance (by decide +kernel) (pda_cons (pd_var (pv 1)) (pda_cons (pd_ty (n := "tuple") rfl T.n_tuple (by decide +kernel)) pda_nil))) (pd_callB call_isi ok_isi (by rfl) T.n_isinstance (by decide +kernel) (pda_cons (pd_var (pv 0)) (pda_cons (pd_ty (n := "tuple") rfl T.n_tuple (by decide +kernel)) pda_nil))) (nomark _)) (pdw_one (pdt_cmp (op_neD hr.units) ok_ne (pd_callB call_isi ok_isi (by rfl) T.n_isinstance (by decide +kernel) (pda_cons (pd_var (pv 1)) (pda_cons (pd_ty (n := "list") rfl T.n_list (by decide +kernel)) pda_nil))) (pd_callB call_isi ok_isi (by rfl) T.n_isinstance (by decide +kernel) (pda_cons (pd_var (pv 0)) (pda_cons (pd_ty (n := "list") rfl T.n_list (by decide +kernel)) pda_nil))) (nomark _)) (by decide)))) (ps_one' (ps_ret' pd_bl)) ps_nil')
    (ps_cons' (ps_if' (pdt_cmp (op_neD hr.units) ok_ne (pd_callB call_len ok_len (by rfl) T.n_len (by decide +kernel) (pda_cons (pd_var (pv 0)) pda_nil)) (pd_callB call_len ok_len (by rfl) T.n_len (by decide +kernel) (pda_cons (pd_var (pv 1)) pda_nil)) (nomark _)) (ps_one' (ps_ret' pd_bl)) ps_nil')
    (ps_one' (ps_ret' (pd_callB (cr_all rfl) ok_all (by rfl) T.n_all (by decide +kernel) (pda_cons (pd_lcR (own := [("k", 2)]) rfl sc__law_same.nd (by rfl) T.n_range (pda_cons (pd_callB call_len ok_len (by rfl) T.n_len (by decide +kernel) (pda_cons (pd_var (pv 1)) pda_nil)) pda_nil) ⟨(blkOk_by (own := [("k", 2)]) (N := ["found", "due", "k"]) (sc := defScope s__law_same) (by decide +kernel)), (fun _ _ _ _ _ => pg_name (i := 2) sc__law_same.nd rfl (by first | exact Or.inl rfl | exact Or.inr rfl)), (tg_name _ 2), wipe_name, (fun _ _ _ _ _ => pdts_nil), (fun _ _ _ _ _ => have tk := takes0; (pd_call G.g__law_same hG hr rfl T.m__law_same T.F__law_same.kp T.b__law_same tk (pda_cons (pd_ix (pd_var (pv 0)) (pd_var (pv 2)) (fun _ _ => rfl)) (pda_cons (pd_ix (pd_var (pv 1)) (pd_var (pv 2)) (fun _ _ => rfl)) pda_nil))))⟩) pda_nil)))))))))))
theorem g__law_share (T : TxtC K mg) (G : AllG P w base T n) : FnG P w K mg base (n + 1) T.a__law_share T.d__law_share ["cup", "deep"] (SpecOf ⟨K, T.cv⟩ (fnOf 2 4 (b__law_share (fns n)))) :=
  fn_den T.F__law_share sc__law_share fun cdv A outer s H E hG hr tk po =>
    (ps_cons' (ps_if' (PW.pt (pdw_or (pdt_cmp (op_eqD hr.units) ok_eq (pd_var (pv 1)) pd_int (nomark _)) (pdw_one (pdt_cmp (op_eqD hr.units) ok_eq (pd_call G.g__law_sip hG hr rfl T.m__law_sip T.F__law_sip.kp T.b__law_sip tk (pda_cons (pd_var (pv 0)) (pda_cons pd_int pda_nil))) pd_int (nomark _)) (by decide)))) (ps_one' (ps_ret' (pd_call G.g__law_sip hG hr rfl T.m__law_sip T.F__law_sip.kp T.b__law_sip tk (pda_cons (pd_var (pv 0)) (pda_cons pd_int pda_nil))))) ps_nil')
    (ps_cons' (ps_par' (i := 2) (j := 3) rfl sc__law_share.nd rfl rfl (by decide) rfl rfl (pda_cons (pd_call G.g__law_share hG hr rfl T.m__law_share T.F__law_share.kp T.b__law_share tk (pda_cons (pd_var (pv 0)) (pda_cons (pd_op op_sub ok_sub (pd_var (pv 1)) pd_int) pda_nil))) (pda_cons (pd_call G.g__law_share hG hr rfl T.m__law_share T.F__law_share.kp T.b__law_share tk (pda_cons (pd_var (pv 0)) (pda_cons (pd_op op_sub ok_sub (pd_var (pv 1)) pd_int) pda_nil))) pda_nil)) (by rfl))
    (ps_cons' (ps_if' (PW.pt (pdw_and (pdt_cmp (op_eqD hr.units) ok_eq (pd_var (pv 2)) (pd_var (pv 3)) (nomark _)) (pdw_one (pdt_cmp (op_inA (u65 hr)) ok_in (pd_var (pv 2)) (pd_tup (pda_cons pd_int (pda_cons pd_int pda_nil))) rfl) (by decide)))) (ps_one' (ps_set' (i := 3) sc__law_share.nd rfl (by first | exact Or.inl rfl | exact Or.inr rfl) (pd_op op_sub ok_sub pd_int (pd_var (pv 2))))) ps_nil')
    (ps_one' (ps_ret' (pd_tup (pda_cons (pd_var (pv 2)) (pda_cons (pd_var (pv 3)) pda_nil))))))))
theorem g__law_long (T : TxtC K mg) (G : AllG P w base T n) : FnG P w K mg base (n + 1) T.a__law_long T.d__law_long ["cup", "counts"] (SpecOf ⟨K, T.cv⟩ (fnOf 2 6 (b__law_long (fns n)))) :=
  fn_den T.F__law_long sc__law_long fun cdv A outer s H E hG hr tk po =>
    (ps_cons' (ps_set' (i := 2) sc__law_long.nd rfl (by first | exact Or.inl rfl | exact Or.inr rfl) (pd_if (pdt_not (pdt_val (pd_var (pv 1)))) (pd_call G.g__law_sip hG hr rfl T.m__law_sip T.F__law_sip.kp T.b__law_sip tk (pda_cons (pd_var (pv 0)) (pda_cons pd_int pda_nil))) (pd_call G.g__law_sip hG hr rfl T.m__law_sip T.F__law_sip.kp T.b__law_sip tk (pda_cons (pd_var (pv 0)) (pda_cons pd_int pda_nil)))))
    (ps_cons' (ps_if' (pdt_cmp op_gt ok_int2 (pd_call G.g__law_sip hG hr rfl T.m__law_sip T.F__law_sip.kp T.b__law_sip tk (pda_cons (pd_var (pv 0)) (pda_cons pd_int pda_nil))) pd_int (nomark _)) (ps_cons' (ps_forR' po rfl (by rfl) T.n_range (pda_cons (pd_op op_addA ok_add pd_int (pd_call G.g__law_sip hG hr rfl T.m__law_sip T.F__law_sip.kp T.b__law_sip tk (pda_cons (pd_var (pv 0)) (pda_cons pd_int pda_nil)))) pda_nil) (pg_name (i := 3) sc__law_long.nd rfl (by first | exact Or.inl rfl | exact Or.inr rfl)) (tg_name _ 3)
    (ps_cons' (ps_set' (i := 4) sc__law_long.nd rfl (by first | exact Or.inl rfl | exact Or.inr rfl) (pd_call G.g__law_sip hG hr rfl T.m__law_sip T.F__law_sip.kp T.b__law_sip tk (pda_cons (pd_var (pv 0)) (pda_cons pd_int pda_nil))))
    (ps_cons' (ps_if' (PW.pt (pdw_and (pdt_not (pdt_val (pd_callB call_isi ok_isi (by rfl) T.n_isinstance (by decide +kernel) (pda_cons (pd_var (pv 2)) (pda_cons (pd_ty (n := "tuple") rfl T.n_tuple (by decide +kernel)) pda_nil))))) (pdw_one (pdt_not (pdt_val (pd_var (pv 1)))) (by decide)))) (ps_one' (ps_set' (i := 4) sc__law_long.nd rfl (by first | exact Or.inl rfl | exact Or.inr rfl) (pd_op op_sub ok_sub pd_int (pd_var (pv 2))))) ps_nil')
    (ps_cons' (ps_if' (pdt_val (pd_var (pv 1))) (ps_one' (ps_asg' (pd_if (pdt_cmp (op_neD hr.units) ok_ne (pd_var (pv 2)) pd_int (nomark _)) (pd_tup (pda_cons (pd_var (pv 2)) (pda_cons pd_int pda_nil))) (pd_tup (pda_cons pd_int (pda_cons pd_int pda_nil)))) (pg_tup rfl (pgs_cons (pg_name (i := 2) sc__law_long.nd rfl (by first | exact Or.inl rfl | exact Or.inr rfl)) (pgs_cons (pg_name (i := 4) sc__law_long.nd rfl (by first | exact Or.inl rfl | exact Or.inr rfl)) pgs_nil))) (tg_tup (tgs_cons (tg_name _ 2) (tgs_cons (tg_name _ 4) (tgs_nil _))) rfl))) ps_nil')
    (ps_cons' (ps_if' (pdt_cmp (op_eqD hr.units) ok_eq (pd_call G.g__law_sip hG hr rfl T.m__law_sip T.F__law_sip.kp T.b__law_sip tk (pda_cons (pd_var (pv 0)) (pda_cons pd_int pda_nil))) pd_int (nomark _)) (ps_one' (ps_par' (i := 2) (j := 4) rfl sc__law_long.nd rfl rfl (by decide) rfl rfl (pda_cons (pd_var (pv 4)) (pda_cons (pd_var (pv 2)) pda_nil)) (by rfl))) ps_nil')
    (ps_one' (ps_set' (i := 2) sc__law_long.nd rfl (by first | exact Or.inl rfl | exact Or.inr rfl) (pd_if (pdt_val (pd_var (pv 1))) (pd_tup (pda_cons (pd_call G.g__law_sip hG hr rfl T.m__law_sip T.F__law_sip.kp T.b__law_sip tk (pda_cons (pd_var (pv 0)) (pda_cons pd_int pda_nil))) (pda_cons (pd_var (pv 2)) (pda_cons (pd_var (pv 4)) pda_nil)))) (pd_tup (pda_cons (pd_var (pv 2)) (pda_cons (pd_var (pv 4)) pda_nil)))))))))))
    (ps_one' (ps_ret' (pd_var (pv 2))))) ps_nil')
    (ps_cons' (ps_set' (i := 5) sc__law_long.nd rfl (by first | exact Or.inl rfl | exact Or.inr rfl) (pd_if (pdt_not (pdt_val (pd_var (pv 1)))) (pd_ix (pd_lst (pda_cons pd_int (pda_cons (pd_tup (pda_cons pd_int (pda_cons pd_int pda_nil))) pda_nil))) (pd_callTy call_int1 ok_int (by rfl) T.n_int (by decide +kernel) (pda_cons (pd_not (pd_var (pv 1))) pda_nil)) (fun _ _ => rfl)) (pd_tup (pda_cons pd_int (pda_cons pd_int (pda_cons pd_int pda_nil))))))
    (ps_cons' (ps_forR' po rfl (by rfl) T.n_range (pda_cons pd_int pda_nil) (pg_name (i := 3) sc__law_long.nd rfl (by first | exact Or.inl rfl | exact Or.inr rfl)) (tg_name _ 3)
    (ps_one' (ps_set' (i := 5) sc__law_long.nd rfl (by first | exact Or.inl rfl | exact Or.inr rfl) (pd_if (pdt_val (pd_var (pv 1))) (pd_tup (pda_cons pd_int (pda_cons (pd_var (pv 5)) (pda_cons (pd_var (pv 5)) pda_nil)))) (pd_tup (pda_cons (pd_var (pv 5)) (pda_cons (pd_var (pv 5)) pda_nil)))))))
    (ps_one' (ps_ret' (pd_var (pv 5))))))))
theorem g__law_is_share (T : TxtC K mg) (G : AllG P w base T n) : FnG P w K mg base (n + 1) T.a__law_is_share T.d__law_is_share ["value", "deep"] (SpecOf ⟨K, T.cv⟩ (fnOf 2 2 (b__law_is_share (fns n)))) :=
  fn_den T.F__law_is_share sc__law_is_share fun cdv A outer s H E hG hr tk po =>
    (ps_cons' (ps_if' (pdt_not (pdt_val (pd_callB call_isi ok_isi (by rfl) T.n_isinstance (by decide +kernel) (pda_cons (pd_var (pv 0)) (pda_cons (pd_ty (n := "tuple") rfl T.n_tuple (by decide +kernel)) pda_nil))))) (ps_one' (ps_ret' (pd_and (pd_callB call_isi ok_isi (by rfl) T.n_isinstance (by decide +kernel) (pda_cons (pd_var (pv 0)) (pda_cons (pd_ty (n := "int") rfl T.n_int (by decide +kernel)) pda_nil))) (pd_and (pd_not (pd_callB call_isi ok_isi (by rfl) T.n_isinstance (by decide +kernel) (pda_cons (pd_var (pv 0)) (pda_cons (pd_ty (n := "bool") rfl T.n_bool (by decide +kernel)) pda_nil)))) (pd_one (pd_cmp (op_inA (u65 hr)) ok_in (pd_var (pv 0)) (pd_tup (pda_cons pd_int (pda_cons pd_int pda_nil))) rfl)))))) ps_nil')
    (ps_cons' (ps_if' (PW.pt (pdw_or (pdt_cmp (op_eqD hr.units) ok_eq (pd_var (pv 1)) pd_int (nomark _)) (pdw_or (pdt_cmp (op_neD hr.units) ok_ne (pd_callB call_len ok_len (by rfl) T.n_len (by decide +kernel) (pda_cons (pd_var (pv 0)) pda_nil)) pd_int (nomark _)) (pdw_or (pdt_not (pdt_val (pd_call G.g__law_is_share hG hr rfl T.m__law_is_share T.F__law_is_share.kp T.b__law_is_share tk (pda_cons (pd_ix (pd_var (pv 0)) pd_int (fun _ _ => rfl)) (pda_cons (pd_op op_sub ok_sub (pd_var (pv 1)) pd_int) pda_nil))))) (pdw_one (pdt_not (pdt_val (pd_call G.g__law_is_share hG hr rfl T.m__law_is_share T.F__law_is_share.kp T.b__law_is_share tk (pda_cons (pd_ix (pd_var (pv 0)) pd_int (fun _ _ => rfl)) (pda_cons (pd_op op_sub ok_sub (pd_var (pv 1)) pd_int) pda_nil))))) (by decide)))))) (ps_one' (ps_ret' pd_bl)) ps_nil')
    (ps_one' (ps_ret' (pd_or (pd_cmp (op_neD hr.units) ok_ne (pd_ix (pd_var (pv 0)) pd_int (fun _ _ => rfl)) (pd_ix (pd_var (pv 0)) pd_int (fun _ _ => rfl)) (nomark _)) (pd_one (pd_callB call_isi ok_isi (by rfl) T.n_isinstance (by decide +kernel) (pda_cons (pd_ix (pd_var (pv 0)) pd_int (fun _ _ => rfl)) (pda_cons (pd_ty (n := "tuple") rfl T.n_tuple (by decide +kernel)) pda_nil)))))))))
theorem g__law_size (T : TxtC K mg) (G : AllG P w base T n) : FnG P w K mg base (n + 1) T.a__law_size T.d__law_size ["tree"] (SpecOf ⟨K, T.cv⟩ (fnOf 1 1 (b__law_size (fns n)))) :=
  fn_den T.F__law_size sc__law_size fun cdv A outer s H E hG hr tk po =>
    (ps_cons' (ps_if' (pdt_not (pdt_val (pd_callB call_isi ok_isi (by rfl) T.n_isinstance (by decide +kernel) (pda_cons (pd_var (pv 0)) (pda_cons (pd_ty (n := "tuple") rfl T.n_tuple (by decide +kernel)) pda_nil))))) (ps_one' (ps_ret' pd_int)) ps_nil')
    (ps_one' (ps_ret' (pd_op op_addA ok_add (pd_op op_addA ok_add pd_int (pd_call G.g__law_size hG hr rfl T.m__law_size T.F__law_size.kp T.b__law_size tk (pda_cons (pd_ix (pd_var (pv 0)) (pd_un un_neg ok_neg pd_int) (fun _ _ => rfl)) pda_nil))) (pd_call G.g__law_size hG hr rfl T.m__law_size T.F__law_size.kp T.b__law_size tk (pda_cons (pd_ix (pd_var (pv 0)) (pd_un un_neg ok_neg pd_int) (fun _ _ => rfl)) pda_nil))))))
theorem g__law_bent (T : TxtC K mg) (G : AllG P w base T n) : FnG P w K mg base (n + 1) T.a__law_bent T.d__law_bent ["cup", "tree", "counts"] (SpecOf ⟨K, T.cv⟩ (fnOf 3 5 (b__law_bent (fns n)))) :=
  fn_den T.F__law_bent sc__law_bent fun cdv A outer s H E hG hr tk po =>
    (ps_cons' (ps_if' (PW.pt (pdw_and (pdt_val (pd_callB call_isi ok_isi (by rfl) T.n_isinstance (by decide +kernel) (pda_cons (pd_var (pv 1)) (pda_cons (pd_ty (n := "tuple") rfl T.n_tuple (by decide +kernel)) pda_nil)))) (pdw_one (pdt_cmp op_gt ok_int2 (pd_call G.g__law_sip hG hr rfl T.m__law_sip T.F__law_sip.kp T.b__law_sip tk (pda_cons (pd_var (pv 0)) (pda_cons pd_int pda_nil))) pd_int (nomark _)) (by decide)))) (ps_cons' (ps_set' (i := 3) sc__law_bent.nd rfl (by first | exact Or.inl rfl | exact Or.inr rfl) (pd_call G.g__law_sip hG hr rfl T.m__law_sip T.F__law_sip.kp T.b__law_sip tk (pda_cons (pd_var (pv 0)) (pda_cons (pd_callB call_len ok_len (by rfl) T.n_len (by decide +kernel) (pda_cons (pd_var (pv 1)) pda_nil)) pda_nil))))
    (ps_one' (ps_ret' (pd_op op_addA ok_add (pd_op op_addA ok_add (pd_sl (pd_var (pv 1)) pdo_none (pdo_some (pd_var (pv 3)))) (pd_tup (pda_cons (pd_call G.g__law_bent hG hr rfl T.m__law_bent T.F__law_bent.kp T.b__law_bent tk (pda_cons (pd_var (pv 0)) (pda_cons (pd_ix (pd_var (pv 1)) (pd_var (pv 3)) (fun _ _ => rfl)) (pda_cons (pd_and (pd_var (pv 2)) (pd_one (pd_cmp op_gt ok_int2 (pd_var (pv 3)) pd_int (nomark _)))) pda_nil)))) pda_nil))) (pd_sl (pd_var (pv 1)) (pdo_some (pd_op op_addA ok_add (pd_var (pv 3)) pd_int)) pdo_none))))) ps_nil')
    (ps_cons' (ps_set' (i := 4) sc__law_bent.nd rfl (by first | exact Or.inl rfl | exact Or.inr rfl) (pd_lst (pda_cons pd_int (pda_cons pd_int (pda_cons pd_int (pda_cons (pd_un un_neg ok_neg pd_int) (pda_cons pd_bl (pda_cons pd_bl (pda_cons pd_non (pda_cons pd_str (pda_cons (pd_tup pda_nil) (pda_cons (pd_tup (pda_cons pd_int (pda_cons pd_int pda_nil))) (pda_cons (pd_tup (pda_cons pd_int (pda_cons pd_int pda_nil))) (pda_cons (pd_tup (pda_cons pd_int (pda_cons pd_int pda_nil))) (pda_cons (pd_tup (pda_cons pd_int (pda_cons pd_int pda_nil))) (pda_cons (pd_tup (pda_cons pd_int (pda_cons pd_int (pda_cons pd_int pda_nil)))) (pda_cons (pd_tup (pda_cons pd_int (pda_cons pd_int (pda_cons pd_int pda_nil)))) (pda_cons (pd_tup (pda_cons pd_int (pda_cons pd_int (pda_cons pd_int pda_nil)))) pda_nil))))))))))))))))))
    (ps_cons' (ps_set' (i := 4) sc__law_bent.nd rfl (by first | exact Or.inl rfl | exact Or.inr rfl) (pd_op op_addA ok_add (pd_var (pv 4)) (pd_lst (pda_cons (pd_lst (pda_cons pd_int (pda_cons pd_int pda_nil))) (pda_cons (pd_lst (pda_cons pd_int (pda_cons pd_int (pda_cons pd_int pda_nil)))) (pda_cons (pd_tup (pda_cons (pd_var (pv 1)) (pda_cons (pd_var (pv 1)) pda_nil))) (pda_cons (pd_tup (pda_cons pd_int (pda_cons (pd_var (pv 1)) (pda_cons (pd_var (pv 1)) pda_nil)))) (pda_cons (pd_tup (pda_cons (pd_var (pv 1)) pda_nil)) (pda_cons (pd_lst (pda_cons (pd_var (pv 1)) pda_nil)) (pda_cons (pd_op op_pow ok_pow pd_int pd_int) (pda_cons (pd_tup (pda_cons pd_int (pda_cons pd_int (pda_cons pd_int (pda_cons pd_int pda_nil))))) pda_nil)))))))))))
    (ps_cons' (ps_set' (i := 4) sc__law_bent.nd rfl (by first | exact Or.inl rfl | exact Or.inr rfl) (pd_op op_addA ok_add (pd_var (pv 4)) (pd_lst (pda_cons (pd_tup (pda_cons pd_int (pda_cons pd_int (pda_cons (pd_tup (pda_cons pd_int (pda_cons pd_int pda_nil))) pda_nil)))) (pda_cons (pd_tup (pda_cons pd_bl (pda_cons pd_int (pda_cons pd_int pda_nil)))) (pda_cons (pd_tup (pda_cons pd_int (pda_cons pd_bl pda_nil))) (pda_cons (pd_tup (pda_cons pd_int (pda_cons (pd_tup (pda_cons pd_int (pda_cons pd_int pda_nil))) pda_nil))) (pda_cons pd_str pda_nil))))))))
    (ps_one' (ps_ret' (pd_ix (pd_var (pv 4)) (pd_call G.g__law_sip hG hr rfl T.m__law_sip T.F__law_sip.kp T.b__law_sip tk (pda_cons (pd_var (pv 0)) (pda_cons pd_int pda_nil))) (fun _ _ => rfl))))))))
theorem g__law_read (T : TxtC K mg) (G : AllG P w base T n) : FnG P w K mg base (n + 1) T.a__law_read T.d__law_read ["text"] (SpecOf ⟨K, T.cv⟩ (fnOf 1 7 (b__law_read (fns n)))) :=
  fn_den T.F__law_read sc__law_read fun cdv A outer s H E hG hr tk po =>
    (ps_cons' (ps_par3' (i := 1) (j := 2) (l := 3) rfl sc__law_read.nd rfl rfl rfl (by decide) (by decide) (by decide) rfl rfl rfl (pda_cons (pd_lst pda_nil) (pda_cons pd_non (pda_cons pd_int pda_nil))) (by rfl))
    (ps_cons' (ps_forR' po rfl (by rfl) T.n_range (pda_cons (pd_callB call_len ok_len (by rfl) T.n_len (by decide +kernel) (pda_cons (pd_var (pv 0)) pda_nil)) pda_nil) (pg_name (i := 4) sc__law_read.nd rfl (by first | exact Or.inl rfl | exact Or.inr rfl)) (tg_name _ 4)
    (ps_cons' (ps_set' (i := 5) sc__law_read.nd rfl (by first | exact Or.inl rfl | exact Or.inr rfl) (pd_ix (pd_var (pv 0)) (pd_var (pv 4)) (fun _ _ => rfl)))
    (ps_cons' (ps_set' (i := 6) sc__law_read.nd rfl (by first | exact Or.inl rfl | exact Or.inr rfl) (pd_cmp op_isA ok_isA (pd_var (pv 2)) pd_non (nomark _)))
    (ps_one' (ps_if' (PW.pt (pdw_and (pdt_val (pd_var (pv 6))) (pdw_and (pdt_cmp op_in_sign ok_inS (pd_var (pv 5)) pd_str rfl) (pdw_one (pdt_not (PW.pt (pdw_and (pdt_cmp (op_neD hr.units) ok_ne (pd_var (pv 1)) (pd_lst pda_nil) (nomark _)) (pdw_and (pdt_cmp (op_eqD hr.units) ok_eq (pd_callB call_len ok_len (by rfl) T.n_len (by decide +kernel) (pda_cons (pd_ix (pd_var (pv 1)) (pd_un un_neg ok_neg pd_int) (fun _ _ => rfl)) pda_nil)) pd_int (nomark _)) (pdw_one (pdt_cmp (op_eqD hr.units) ok_eq (pd_ix (pd_ix (pd_var (pv 1)) (pd_un un_neg ok_neg pd_int) (fun _ _ => rfl)) pd_int (fun _ _ => rfl)) (pd_callTy call_int_str ok_intS (by rfl) T.n_int (by decide +kernel) (pda_cons (pd_var (pv 5)) pda_nil)) (nomark _)) (by decide)))))) (by decide))))) (ps_one' (ps_set' (i := 2) sc__law_read.nd rfl (by first | exact Or.inl rfl | exact Or.inr rfl) (pd_callTy call_int_str ok_intS (by rfl) T.n_int (by decide +kernel) (pda_cons (pd_var (pv 5)) pda_nil)))) (ps_one' (ps_if' (PW.pt (pdw_and (pdt_val (pd_var (pv 6))) (pdw_and (pdt_cmp (op_eqD hr.units) ok_eq (pd_var (pv 5)) pd_str (nomark _)) (pdw_and (pdt_cmp op_lt ok_int2 (pd_callB call_len ok_len (by rfl) T.n_len (by decide +kernel) (pda_cons (pd_var (pv 1)) pda_nil)) pd_int (nomark _)) (pdw_one (pdt_cmp op_gt ok_int2 (pd_var (pv 3)) pd_int (nomark _)) (by decide)))))) (ps_cons' (ps_expr' (pd_append (pd_var (pv 1)) (pd_lst pda_nil) mt_append))
    (ps_one' (ps_set' (i := 3) sc__law_read.nd rfl (by first | exact Or.inl rfl | exact Or.inr rfl) (pd_op op_sub ok_sub (pd_var (pv 3)) pd_int)))) (ps_one' (ps_if' (PW.pt (pdw_and (pdt_not (pdt_val (pd_var (pv 6)))) (pdw_and (pdt_cmp (op_neD hr.units) ok_ne (pd_var (pv 1)) (pd_lst pda_nil) (nomark _)) (pdw_one (pdt_cmp (op_eqD hr.units) ok_eq (pd_var (pv 5)) (pd_ix (pd_lst (pda_cons pd_str (pda_cons pd_str pda_nil))) (pd_callB call_len ok_len (by rfl) T.n_len (by decide +kernel) (pda_cons (pd_ix (pd_var (pv 1)) (pd_un un_neg ok_neg pd_int) (fun _ _ => rfl)) pda_nil)) (fun _ _ => rfl)) (nomark _)) (by decide))))) (ps_cons' (ps_expr' (pd_append (pd_ix (pd_var (pv 1)) (pd_un un_neg ok_neg pd_int) (fun _ _ => rfl)) (pd_var (pv 2)) mt_append))
    (ps_cons' (ps_set' (i := 2) sc__law_read.nd rfl (by first | exact Or.inl rfl | exact Or.inr rfl) pd_non)
    (ps_one' (ps_if' (pdt_cmp (op_eqD hr.units) ok_eq (pd_var (pv 5)) pd_str (nomark _)) (ps_one' (ps_set' (i := 2) sc__law_read.nd rfl (by first | exact Or.inl rfl | exact Or.inr rfl) (pd_callTy call_tuple_of ok_tuple (by rfl) T.n_tuple (by decide +kernel) (pda_cons (pd_pop (pd_var (pv 1))) pda_nil)))) ps_nil')))) (ps_one' (ps_ret' (pd_tup (pda_cons (pd_var (pv 4)) (pda_cons pd_non pda_nil))))))))))))))
    (ps_cons' (ps_if' (PW.pt (pdw_or (pdt_cmp (op_neD hr.units) ok_ne (pd_var (pv 1)) (pd_lst pda_nil) (nomark _)) (pdw_one (pdt_cmp op_isA ok_isA (pd_var (pv 2)) pd_non (nomark _)) (by decide)))) (ps_one' (ps_ret' (pd_tup (pda_cons (pd_callB call_len ok_len (by rfl) T.n_len (by decide +kernel) (pda_cons (pd_var (pv 0)) pda_nil)) (pda_cons pd_non pda_nil))))) ps_nil')
    (ps_one' (ps_ret' (pd_tup (pda_cons pd_non (pda_cons (pd_var (pv 2)) pda_nil))))))))
theorem g__law_written (T : TxtC K mg) (G : AllG P w base T n) : FnG P w K mg base (n + 1) T.a__law_written T.d__law_written ["share"] (SpecOf ⟨K, T.cv⟩ (fnOf 1 1 (b__law_written (fns n)))) :=
  fn_den T.F__law_written sc__law_written fun cdv A outer s H E hG hr tk po =>
    (ps_cons' (ps_if' (pdt_not (pdt_val (pd_callB call_isi ok_isi (by rfl) T.n_isinstance (by decide +kernel) (pda_cons (pd_var (pv 0)) (pda_cons (pd_ty (n := "tuple") rfl T.n_tuple (by decide +kernel)) pda_nil))))) (ps_one' (ps_ret' (pd_ix (pd_lst (pda_cons pd_str (pda_cons pd_str pda_nil))) (pd_var (pv 0)) (fun _ _ => rfl)))) ps_nil')
    (ps_one' (ps_ret' (pd_op op_addA ok_add (pd_op op_addA ok_add (pd_op op_addA ok_add (pd_op op_addA ok_add pd_str (pd_call G.g__law_written hG hr rfl T.m__law_written T.F__law_written.kp T.b__law_written tk (pda_cons (pd_ix (pd_var (pv 0)) pd_int (fun _ _ => rfl)) pda_nil))) pd_str) (pd_call G.g__law_written hG hr rfl T.m__law_written T.F__law_written.kp T.b__law_written tk (pda_cons (pd_ix (pd_var (pv 0)) pd_int (fun _ _ => rfl)) pda_nil))) pd_str))))
theorem g__law_spoilt (T : TxtC K mg) (G : AllG P w base T n) : FnG P w K mg base (n + 1) T.a__law_spoilt T.d__law_spoilt ["cup", "text"] (SpecOf ⟨K, T.cv⟩ (fnOf 2 6 (b__law_spoilt (fns n)))) :=
  fn_den T.F__law_spoilt sc__law_spoilt fun cdv A outer s H E hG hr tk po =>
    (ps_cons' (ps_forR' po rfl (by rfl) T.n_range (pda_cons (pd_op op_addA ok_add pd_int (pd_call G.g__law_sip hG hr rfl T.m__law_sip T.F__law_sip.kp T.b__law_sip tk (pda_cons (pd_var (pv 0)) (pda_cons pd_int pda_nil)))) pda_nil) (pg_name (i := 2) sc__law_spoilt.nd rfl (by first | exact Or.inl rfl | exact Or.inr rfl)) (tg_name _ 2)
    (ps_cons' (ps_par' (i := 3) (j := 4) rfl sc__law_spoilt.nd rfl rfl (by decide) rfl rfl (pda_cons (pd_call G.g__law_sip hG hr rfl T.m__law_sip T.F__law_sip.kp T.b__law_sip tk (pda_cons (pd_var (pv 0)) (pda_cons (pd_op op_addA ok_add (pd_callB call_len ok_len (by rfl) T.n_len (by decide +kernel) (pda_cons (pd_var (pv 1)) pda_nil)) pd_int) pda_nil))) (pda_cons (pd_ix pd_str (pd_call G.g__law_sip hG hr rfl T.m__law_sip T.F__law_sip.kp T.b__law_sip tk (pda_cons (pd_var (pv 0)) (pda_cons pd_int pda_nil))) (fun _ _ => rfl)) pda_nil)) (by rfl))
    (ps_cons' (ps_set' (i := 5) sc__law_spoilt.nd rfl (by first | exact Or.inl rfl | exact Or.inr rfl) (pd_call G.g__law_sip hG hr rfl T.m__law_sip T.F__law_sip.kp T.b__law_sip tk (pda_cons (pd_var (pv 0)) (pda_cons pd_int pda_nil))))
    (ps_one' (ps_if' (pdt_cmp (op_eqD hr.units) ok_eq (pd_var (pv 5)) pd_int (nomark _)) (ps_one' (ps_set' (i := 1) sc__law_spoilt.nd rfl (by first | exact Or.inl rfl | exact Or.inr rfl) (pd_sl (pd_var (pv 1)) pdo_none (pdo_some (pd_var (pv 3)))))) (ps_one' (ps_if' (pdt_cmp (op_eqD hr.units) ok_eq (pd_var (pv 5)) pd_int (nomark _)) (ps_one' (ps_set' (i := 1) sc__law_spoilt.nd rfl (by first | exact Or.inl rfl | exact Or.inr rfl) (pd_op op_addA ok_add (pd_op op_addA ok_add (pd_sl (pd_var (pv 1)) pdo_none (pdo_some (pd_var (pv 3)))) (pd_var (pv 4))) (pd_sl (pd_var (pv 1)) (pdo_some (pd_var (pv 3))) pdo_none)))) (ps_one' (ps_if' (pdt_cmp (op_eqD hr.units) ok_eq (pd_var (pv 5)) pd_int (nomark _)) (ps_one' (ps_set' (i := 1) sc__law_spoilt.nd rfl (by first | exact Or.inl rfl | exact Or.inr rfl) (pd_op op_addA ok_add (pd_sl (pd_var (pv 1)) pdo_none (pdo_some (pd_var (pv 3)))) (pd_sl (pd_var (pv 1)) (pdo_some (pd_op op_addA ok_add (pd_var (pv 3)) pd_int)) pdo_none)))) (ps_one' (ps_if' (pdt_cmp (op_eqD hr.units) ok_eq (pd_var (pv 5)) pd_int (nomark _)) (ps_one' (ps_set' (i := 1) sc__law_spoilt.nd rfl (by first | exact Or.inl rfl | exact Or.inr rfl) (pd_op op_addA ok_add (pd_op op_addA ok_add (pd_sl (pd_var (pv 1)) pdo_none (pdo_some (pd_var (pv 3)))) pd_str) (pd_sl (pd_var (pv 1)) (pdo_some (pd_var (pv 3))) pdo_none)))) (ps_one' (ps_set' (i := 1) sc__law_spoilt.nd rfl (by first | exact Or.inl rfl | exact Or.inr rfl) (pd_op op_addA ok_add (pd_op op_addA ok_add (pd_sl (pd_var (pv 1)) pdo_none (pdo_some (pd_var (pv 3)))) (pd_var (pv 4))) (pd_sl (pd_var (pv 1)) (pdo_some (pd_op op_addA ok_add (pd_var (pv 3)) pd_int)) pdo_none)))))))))))))))
    (ps_one' (ps_ret' (pd_var (pv 1)))))
theorem g__law_told (T : TxtC K mg) (G : AllG P w base T n) : FnG P w K mg base (n + 1) T.a__law_told T.d__law_told ["value"] (SpecOf ⟨K, T.cv⟩ (fnOf 1 3 (b__law_told (fns n)))) :=
  fn_den T.F__law_told sc__law_told fun cdv A outer s H E hG hr tk po =>
    (ps_cons' (ps_set' (i := 1) sc__law_told.nd rfl (by first | exact Or.inl rfl | exact Or.inr rfl) pd_str)
    (ps_cons' (ps_tryE T.cls rfl rfl sc__law_told.nd tk (fun W pn xe tk po => (ps_one' (ps_set' (i := 1) sc__law_told.nd rfl (by first | exact Or.inl rfl | exact Or.inr rfl) (pd_tup (pda_cons pd_non (pda_cons (pd_callK0 (is := [0]) G.g_share_told hG hr rfl T.m_share_told T.F_share_told.kp T.kb_share_told_text tk (pdk_cons (pd_var (pv 0)) pdk_nil)) pda_nil))))))
    (.named (c := 2) (i := 2) ⟨rfl, by decide, Or.inl T.m_InvalidText⟩ rfl rfl rfl (fun _ _ _ _ _ hz hv => pss_one (ps_set (i := 1) sc__law_told.nd rfl (by first | exact Or.inl rfl | exact Or.inr rfl) (pe_tup (pa_cons (pe_xf T.xf_InvalidText T.nf_InvalidText hz hv (pv 2)) (pa_cons pe_non pa_nil))))) (fun _ _ _ => su_tup (mb_f (mb_c (fun _ _ => .non) mb_nil))) (.plain (c := 0) ⟨rfl, by decide, Or.inl T.m_StampError⟩ (fun _ _ => (ps_one' (ps_set' (i := 1) sc__law_told.nd rfl (by first | exact Or.inl rfl | exact Or.inr rfl) pd_str))) .nil)))
    (ps_one' (ps_ret' (pd_var (pv 1))))))
theorem g__law_refused (T : TxtC K mg) (G : AllG P w base T n) : FnG P w K mg base (n + 1) T.a__law_refused T.d__law_refused ["value"] (SpecOf ⟨K, T.cv⟩ (fnOf 1 2 (b__law_refused (fns n)))) :=
  fn_den T.F__law_refused sc__law_refused fun cdv A outer s H E hG hr tk po =>
    (ps_cons' (ps_set' (i := 1) sc__law_refused.nd rfl (by first | exact Or.inl rfl | exact Or.inr rfl) pd_str)
    (ps_cons' (ps_try' T.cls rfl rfl tk (fun W pn xe tk po => (ps_one' (ps_expr' (pd_call G.g_share_text hG hr rfl T.m_share_text T.F_share_text.kp T.b_share_text tk (pda_cons (pd_var (pv 0)) pda_nil)))))
    (.cons (c := 1) ⟨rfl, by decide, Or.inl T.m_InvalidShare⟩ (fun _ _ => (ps_one' (ps_set' (i := 1) sc__law_refused.nd rfl (by first | exact Or.inl rfl | exact Or.inr rfl) pd_str))) (.cons (c := 0) ⟨rfl, by decide, Or.inl T.m_StampError⟩ (fun _ _ => (ps_one' (ps_set' (i := 1) sc__law_refused.nd rfl (by first | exact Or.inl rfl | exact Or.inr rfl) pd_str))) .nil)))
    (ps_one' (ps_ret' (pd_var (pv 1))))))
theorem g_law (T : TxtC K mg) (G : AllG P w base T n) : FnG P w K mg base (n + 1) T.a_law T.d_law ["script"] (SpecOf ⟨K, T.cv⟩ (fnOf 1 9 (b_law (fns n)))) :=
  fn_den T.F_law sc_law fun cdv A outer s H E hG hr tk po =>
    (ps_cons' (ps_forC' po rfl (pd_op op_addA ok_add (pd_lst (pda_cons pd_int pda_nil)) (pd_sl (pd_var (pv 0)) pdo_none (pdo_some pd_int))) (pg_name (i := 1) sc_law.nd rfl (by first | exact Or.inl rfl | exact Or.inr rfl)) (tg_name _ 1)
    (ps_cons' (ps_set' (i := 2) sc_law.nd rfl (by first | exact Or.inl rfl | exact Or.inr rfl) (pd_call G.g__law_cup hG hr rfl T.m__law_cup T.F__law_cup.kp T.b__law_cup tk (pda_cons (pd_var (pv 1)) pda_nil)))
    (ps_cons' (ps_set' (i := 3) sc_law.nd rfl (by first | exact Or.inl rfl | exact Or.inr rfl) (pd_ix (pd_lst (pda_cons (pd_call G.g__law_share hG hr rfl T.m__law_share T.F__law_share.kp T.b__law_share tk (pda_cons (pd_var (pv 2)) (pda_cons pd_int pda_nil))) (pda_cons (pd_call G.g__law_long hG hr rfl T.m__law_long T.F__law_long.kp T.b__law_long tk (pda_cons (pd_var (pv 2)) (pda_cons pd_bl pda_nil))) pda_nil))) (pd_call G.g__law_sip hG hr rfl T.m__law_sip T.F__law_sip.kp T.b__law_sip tk (pda_cons (pd_var (pv 2)) (pda_cons pd_int pda_nil))) (fun _ _ => rfl)))
    (ps_cons' (ps_set' (i := 4) sc_law.nd rfl (by first | exact Or.inl rfl | exact Or.inr rfl) (pd_call G.g__law_written hG hr rfl T.m__law_written T.F__law_written.kp T.b__law_written tk (pda_cons (pd_var (pv 3)) pda_nil)))
    (ps_cons' (ps_if' (pdt_not (pdt_val (pd_call G.g__law_same hG hr rfl T.m__law_same T.F__law_same.kp T.b__law_same tk (pda_cons (pd_lst (pda_cons (pd_call G.g_share_text hG hr rfl T.m_share_text T.F_share_text.kp T.b_share_text tk (pda_cons (pd_var (pv 3)) pda_nil)) (pda_cons (pd_callK0 (is := [0]) G.g_share_text hG hr rfl T.m_share_text T.F_share_text.kp T.kb_share_text_share tk (pdk_cons (pd_var (pv 3)) pdk_nil)) pda_nil))) (pda_cons (pd_lst (pda_cons (pd_var (pv 4)) (pda_cons (pd_var (pv 4)) pda_nil))) pda_nil))))) (ps_one' (ps_ret' pd_bl)) ps_nil')
    (ps_cons' (ps_if' (pdt_not (pdt_val (pd_call G.g__law_same hG hr rfl T.m__law_same T.F__law_same.kp T.b__law_same tk (pda_cons (pd_lst (pda_cons (pd_call G.g_share_told hG hr rfl T.m_share_told T.F_share_told.kp T.b_share_told tk (pda_cons (pd_var (pv 4)) pda_nil)) (pda_cons (pd_call G.g_share_told hG hr rfl T.m_share_told T.F_share_told.kp T.b_share_told tk (pda_cons (pd_call G.g_share_text hG hr rfl T.m_share_text T.F_share_text.kp T.b_share_text tk (pda_cons (pd_var (pv 3)) pda_nil)) pda_nil)) pda_nil))) (pda_cons (pd_lst (pda_cons (pd_var (pv 3)) (pda_cons (pd_var (pv 3)) pda_nil))) pda_nil))))) (ps_one' (ps_ret' pd_bl)) ps_nil')
    (ps_cons' (ps_set' (i := 5) sc_law.nd rfl (by first | exact Or.inl rfl | exact Or.inr rfl) (pd_lst (pda_cons pd_str (pda_cons pd_str (pda_cons pd_str (pda_cons pd_str (pda_cons pd_str (pda_cons pd_str (pda_cons pd_str (pda_cons pd_str (pda_cons pd_str (pda_cons pd_str (pda_cons pd_str (pda_cons pd_str (pda_cons pd_str pda_nil)))))))))))))))
    (ps_cons' (ps_set' (i := 5) sc_law.nd rfl (by first | exact Or.inl rfl | exact Or.inr rfl) (pd_op op_addA ok_add (pd_op op_addA ok_add (pd_var (pv 5)) (pd_lst (pda_cons pd_str (pda_cons (pd_op op_repS ok_repS pd_str pd_int) pda_nil)))) (pd_lst (pda_cons (pd_op op_repS ok_repS pd_str pd_int) (pda_cons (pd_op op_addA ok_add (pd_op op_addA ok_add (pd_op op_repS2 ok_repS2 pd_str pd_int) pd_str) (pd_op op_repS ok_repS pd_str pd_int)) (pda_cons (pd_op op_addA ok_add (pd_op op_addA ok_add (pd_op op_repS2 ok_repS2 pd_str pd_int) pd_str) (pd_op op_repS ok_repS pd_str pd_int)) (pda_cons pd_str (pda_cons (pd_op op_repS ok_repS pd_str pd_int) pda_nil))))))))
    (ps_cons' (ps_set' (i := 5) sc_law.nd rfl (by first | exact Or.inl rfl | exact Or.inr rfl) (pd_op op_addA ok_add (pd_var (pv 5)) (pd_lst (pda_cons (pd_op op_repS ok_repS pd_str pd_int) (pda_cons pd_str (pda_cons pd_str (pda_cons (pd_op op_addA ok_add (pd_var (pv 4)) pd_str) (pda_cons (pd_op op_addA ok_add (pd_var (pv 4)) pd_str) (pda_cons (pd_op op_addA ok_add (pd_op op_addA ok_add pd_str (pd_var (pv 4))) pd_str) (pda_cons (pd_op op_addA ok_add (pd_op op_addA ok_add (pd_op op_addA ok_add (pd_op op_addA ok_add pd_str (pd_var (pv 4))) pd_str) (pd_var (pv 4))) pd_str) pda_nil))))))))))
    (ps_cons' (ps_set' (i := 6) sc_law.nd rfl (by first | exact Or.inl rfl | exact Or.inr rfl) (pd_lst (pda_cons (pd_var (pv 4)) (pda_cons (pd_call G.g__law_spoilt hG hr rfl T.m__law_spoilt T.F__law_spoilt.kp T.b__law_spoilt tk (pda_cons (pd_var (pv 2)) (pda_cons (pd_var (pv 4)) pda_nil))) (pda_cons (pd_call G.g__law_spoilt hG hr rfl T.m__law_spoilt T.F__law_spoilt.kp T.b__law_spoilt tk (pda_cons (pd_var (pv 2)) (pda_cons (pd_var (pv 4)) pda_nil))) pda_nil)))))
    (ps_cons' (ps_forC' po rfl (pd_op op_addA ok_add (pd_var (pv 6)) (pd_lst (pda_cons (pd_ix (pd_var (pv 5)) (pd_call G.g__law_sip hG hr rfl T.m__law_sip T.F__law_sip.kp T.b__law_sip tk (pda_cons (pd_var (pv 2)) (pda_cons pd_int pda_nil))) (fun _ _ => rfl)) (pda_cons (pd_ix (pd_var (pv 5)) (pd_call G.g__law_sip hG hr rfl T.m__law_sip T.F__law_sip.kp T.b__law_sip tk (pda_cons (pd_var (pv 2)) (pda_cons pd_int pda_nil))) (fun _ _ => rfl)) pda_nil)))) (pg_name (i := 7) sc_law.nd rfl (by first | exact Or.inl rfl | exact Or.inr rfl)) (tg_name _ 7)
    (ps_one' (ps_if' (pdt_not (pdt_val (pd_call G.g__law_same hG hr rfl T.m__law_same T.F__law_same.kp T.b__law_same tk (pda_cons (pd_call G.g__law_told hG hr rfl T.m__law_told T.F__law_told.kp T.b__law_told tk (pda_cons (pd_var (pv 7)) pda_nil)) (pda_cons (pd_call G.g__law_read hG hr rfl T.m__law_read T.F__law_read.kp T.b__law_read tk (pda_cons (pd_var (pv 7)) pda_nil)) pda_nil))))) (ps_one' (ps_ret' pd_bl)) ps_nil')))
    (ps_cons' (ps_forC' po rfl (pd_lst (pda_cons pd_non (pda_cons pd_int (pda_cons (pd_tup (pda_cons pd_str pda_nil)) (pda_cons (pd_lst (pda_cons pd_str pda_nil)) (pda_cons pd_bl pda_nil)))))) (pg_name (i := 7) sc_law.nd rfl (by first | exact Or.inl rfl | exact Or.inr rfl)) (tg_name _ 7)
    (ps_one' (ps_if' (pdt_not (pdt_val (pd_call G.g__law_same hG hr rfl T.m__law_same T.F__law_same.kp T.b__law_same tk (pda_cons (pd_call G.g__law_told hG hr rfl T.m__law_told T.F__law_told.kp T.b__law_told tk (pda_cons (pd_var (pv 7)) pda_nil)) (pda_cons (pd_tup (pda_cons pd_int (pda_cons pd_non pda_nil))) pda_nil))))) (ps_one' (ps_ret' pd_bl)) ps_nil')))
    (ps_cons' (ps_set' (i := 8) sc_law.nd rfl (by first | exact Or.inl rfl | exact Or.inr rfl) (pd_call G.g__law_bent hG hr rfl T.m__law_bent T.F__law_bent.kp T.b__law_bent tk (pda_cons (pd_var (pv 2)) (pda_cons (pd_var (pv 3)) (pda_cons pd_bl pda_nil)))))
    (ps_one' (ps_if' (pdt_cmp (op_neD hr.units) ok_ne (pd_call G.g__law_refused hG hr rfl T.m__law_refused T.F__law_refused.kp T.b__law_refused tk (pda_cons (pd_var (pv 8)) pda_nil)) (pd_ix (pd_lst (pda_cons pd_str (pda_cons pd_str pda_nil))) (pd_callTy call_int1 ok_int (by rfl) T.n_int (by decide +kernel) (pda_cons (pd_and (pd_call G.g__law_is_share hG hr rfl T.m__law_is_share T.F__law_is_share.kp T.b__law_is_share tk (pda_cons (pd_var (pv 8)) (pda_cons pd_int pda_nil))) (pd_one (pd_cmp op_lt ok_int2 (pd_call G.g__law_size hG hr rfl T.m__law_size T.F__law_size.kp T.b__law_size tk (pda_cons (pd_var (pv 8)) pda_nil)) pd_int (nomark _)))) pda_nil)) (fun _ _ => rfl)) (nomark _)) (ps_one' (ps_ret' pd_bl)) ps_nil')))))))))))))))
    (ps_one' (ps_ret' pd_bl)))
theorem all_g (T : TxtC K mg) : ∀ n, AllG P w base T n
  | 0 => ⟨fn_zero 0, fn_zero 0, fn_zero 0, fn_zero 0, fn_zero 0, fn_zero 0, fn_zero 0, fn_zero 0, fn_zero 0, fn_zero 0, fn_zero 0, fn_zero 0, fn_zero 0, fn_zero 0, fn_zero 0, fn_zero 0, fn_zero 0, fn_zero 0, fn_zero 0, fn_zero 0, fn_zero 0, fn_zero 0, fn_zero 0, fn_zero 0, fn_zero 0, fn_zero 0, fn_zero 0, fn_zero 0, fn_zero 0⟩
  | n + 1 => have G := all_g T n; ⟨g_Reader___init__ T G, g_Reader_sees T G, g_Reader_take T G, g_Reader_begin_tuple T G, g_Reader_end_tuple T G, g_Reader_finish T G, G.g_Reader___init__, g_tuple_count T G, g_is_share T G, g__is_share_tree T G, g_check_share T G, g_share_text T G, g__text_of T G, g_share_told T G, g__take_share T G, g__law_cup T G, g__law_sip T G, g__law_same T G, g__law_share T G, g__law_long T G, g__law_is_share T G, g__law_size T G, g__law_bent T G, g__law_read T G, g__law_written T G, g__law_spoilt T G, g__law_told T G, g__law_refused T G, g_law T G⟩
end
end PD.K02

/-! ## K02M1 -/
set_option Elab.async false
set_option linter.all false
set_option maxRecDepth 100000
set_option maxHeartbeats 4000000
namespace PD.K02
open PySem PySem.Spec L2 PD LT
theorem sub1 {k : Nat} : ((k + 1 : Nat) : Int) - 1 = (k : Int) := by omega
inductive Tr : Nat → Nat → Val → Prop
  | int (d w : Nat) (i : Int) : Tr d w (.int i)
  | tup {d w : Nat} {xs : List Val} : xs.length ≤ w → (∀ x ∈ xs, Tr d w x) → Tr (d + 1) w (.tup xs)
mutual
def tcount : Val → Int
  | .tup xs => 1 + tcounts xs
  | _ => 0
def tcounts : List Val → Int
  | [] => 0
  | x :: xs => tcount x + tcounts xs
end
theorem tcounts_sum : ∀ xs : List Val, tcounts xs = (xs.map tcount).sum
  | [] => rfl
  | x :: xs => by rw [tcounts, tcounts_sum xs]; rfl
theorem allSome_ints (xs : List Val) : allSome ((xs.map fun x => Val.int (tcount x)).map asI) = some (xs.map tcount) := by
  induction xs with
  | nil => rfl
  | cons x xs ih =>
    rw [List.map_cons, List.map_cons, List.map_cons]
    unfold allSome
    rw [ih]; rfl
theorem p_tuple_count : ∀ (d n : Nat) (v : Val) (S : Store), Tr d 1000 v → d < n → Run ((fns n).tuple_count [v] S) (PureQ S (.int (tcount v)))
  | d, 0, v, S, _, h => absurd h (Nat.not_lt_zero _)
  | d, n + 1, v, S, ht, h => by
    show Run (fnOf 1 2 (b_tuple_count (fns n)) [v] S) _
    unfold b_tuple_count
    cases ht with
    | int _ _ i =>
      simp only [run_ok, run_okI, run_okB, run_alloc, run_stuck, run_bind, run_ite, run_noX, run_fnOf, w_c, w_op, w_un, w_call, w_callK, w_nil, w_cons, w_tup, w_lst, isB_bl, w_tval, w_tand, w_tor, w_tnot, w_and, w_or, w_not, w_if, s_next, s_seq, s_if, s_ret, s_drop, s_set, s_par, s_put, s_asg, w_var', runS_next, runS_ret, runS_stuck, runS_ite, List.length_cons, List.length_nil, List.length_singleton, List.map_cons, List.map_nil, List.cons_append, List.nil_append, List.replicate_succ, List.replicate_zero, List.getElem?_cons_zero, List.getElem?_cons_succ, List.set_cons_zero, List.set_cons_succ, Nat.reduceAdd, Nat.reduceSub, Nat.reduceEqDiff, ite_true, ite_false, if_true, if_false, reduceIte, Bool.false_eq_true, decide_true, decide_false, String.reduceEq, Int.reduceEq, Nat.reduceLeDiff, true_and, and_true, Bool.not_true, Bool.not_false, decide_eq_true_eq, List.append_nil, bType, bIsi, bLen, bInt, ty_int, ty_bl, ty_str, ty_non, ty_tup, isT, oIs, oIsNot, oSub, oAdd, oIx, run_eqI, run_neI, Bool.or_false, Bool.or_true, Bool.false_or, Bool.true_or, Bool.and_true, Bool.and_false, Bool.true_and, Bool.false_and, reduceCtorEq, decide_not, Bool.not_eq_true', decide_eq_false_iff_not, askInt, askBool, askTuple, askList, askStr, oLe, oLt, oGe, oGt, oInt2, atI0, atI1, atI2]
      exact ⟨rfl, .refl S⟩
    | @tup d _ xs hl hx =>
      simp only [dLCT, run_ok, run_okI, run_okB, run_alloc, run_stuck, run_bind, run_ite, run_noX, run_fnOf, w_c, w_op, w_un, w_call, w_callK, w_nil, w_cons, w_tup, w_lst, isB_bl, w_tval, w_tand, w_tor, w_tnot, w_and, w_or, w_not, w_if, s_next, s_seq, s_if, s_ret, s_drop, s_set, s_par, s_put, s_asg, w_var', runS_next, runS_ret, runS_stuck, runS_ite, List.length_cons, List.length_nil, List.length_singleton, List.map_cons, List.map_nil, List.cons_append, List.nil_append, List.replicate_succ, List.replicate_zero, List.getElem?_cons_zero, List.getElem?_cons_succ, List.set_cons_zero, List.set_cons_succ, Nat.reduceAdd, Nat.reduceSub, Nat.reduceEqDiff, ite_true, ite_false, if_true, if_false, reduceIte, Bool.false_eq_true, decide_true, decide_false, String.reduceEq, Int.reduceEq, Nat.reduceLeDiff, true_and, and_true, Bool.not_true, Bool.not_false, decide_eq_true_eq, List.append_nil, bType, bIsi, bLen, bInt, ty_int, ty_bl, ty_str, ty_non, ty_tup, isT, oIs, oIsNot, oSub, oAdd, oIx, run_eqI, run_neI, Bool.or_false, Bool.or_true, Bool.false_or, Bool.true_or, Bool.and_true, Bool.and_false, Bool.true_and, Bool.false_and, reduceCtorEq, decide_not, Bool.not_eq_true', decide_eq_false_iff_not, askInt, askBool, askTuple, askList, askStr, oLe, oLt, oGe, oGt, oInt2, atI0, atI1, atI2]
      refine Run.mono (comp_pure0 (g := fun x => .int (tcount x)) xs S (by omega) fun x hxm S' _ => ?_) fun ys S1 ⟨e1, g1⟩ => ?_
      · simp only [wipeE, run_ok, run_okI, run_okB, run_alloc, run_stuck, run_bind, run_ite, run_noX, run_fnOf, w_c, w_op, w_un, w_call, w_callK, w_nil, w_cons, w_tup, w_lst, isB_bl, w_tval, w_tand, w_tor, w_tnot, w_and, w_or, w_not, w_if, s_next, s_seq, s_if, s_ret, s_drop, s_set, s_par, s_put, s_asg, w_var', runS_next, runS_ret, runS_stuck, runS_ite, List.length_cons, List.length_nil, List.length_singleton, List.map_cons, List.map_nil, List.cons_append, List.nil_append, List.replicate_succ, List.replicate_zero, List.getElem?_cons_zero, List.getElem?_cons_succ, List.set_cons_zero, List.set_cons_succ, Nat.reduceAdd, Nat.reduceSub, Nat.reduceEqDiff, ite_true, ite_false, if_true, if_false, reduceIte, Bool.false_eq_true, decide_true, decide_false, String.reduceEq, Int.reduceEq, Nat.reduceLeDiff, true_and, and_true, Bool.not_true, Bool.not_false, decide_eq_true_eq, List.append_nil, bType, bIsi, bLen, bInt, ty_int, ty_bl, ty_str, ty_non, ty_tup, isT, oIs, oIsNot, oSub, oAdd, oIx, run_eqI, run_neI, Bool.or_false, Bool.or_true, Bool.false_or, Bool.true_or, Bool.and_true, Bool.and_false, Bool.true_and, Bool.false_and, reduceCtorEq, decide_not, Bool.not_eq_true', decide_eq_false_iff_not, askInt, askBool, askTuple, askList, askStr, oLe, oLt, oGe, oGt, oInt2, atI0, atI1, atI2]
        exact p_tuple_count d n x S' (hx x hxm) (by omega)
      · subst e1
        simp only [run_alloc, bSum, get_new, Cell.items, allSome_ints, run_okI, oAdd]
        refine ⟨?_, g1.trans (Gr.add _ _)⟩
        rw [tcount, tcounts_sum]
/-- two numbers that are the same -/
def sameI (a b : Val) : Bool := match a, b with
  | .int i, .int j => decide (i = j)
  | _, _ => false
theorem run_tuple {m : Nat} {xs : List Val} {S : Store} {Q : Val → Store → Prop} (h : S[m]? = some (.lst xs)) : Run (bTuple [.ref m] S) Q = Q (.tup xs) S := by
  show Run (match S[m]? with | some c => Res.ok (.tup c.items) S | none => .stuck) Q = _
  rw [h]; rfl
def Exc (r : SRes) (e : Exn) (K : Store → Prop) : Prop := ∃ ρ S, r = .exc e ρ S ∧ K S
theorem exc_step {b d : SD} {ρ : PD.Env} {S : Store} {N' : PD.Env → Store → Prop} {e : Exn} {K : Store → Prop} (h : RunS (b ρ S) N' (fun _ _ => False)) (q : ∀ ρ' S', N' ρ' S' → Exc (d ρ' S') e K) : Exc (sSeq b d ρ S) e K := by
  unfold sSeq
  cases hr : b ρ S with
  | next ρ2 S2 => rw [hr] at h; exact q ρ2 S2 h
  | ret v S2 => rw [hr] at h; exact h.elim
  | brk ρ2 S2 => rw [hr] at h; exact h.elim
  | cont ρ2 S2 => rw [hr] at h; exact h.elim
  | exc e ρ2 S2 => rw [hr] at h; exact h.elim
  | stuck => rw [hr] at h; exact h.elim
theorem exc_head {b d : SD} {ρ : PD.Env} {S : Store} {e : Exn} {K : Store → Prop} (h : Exc (b ρ S) e K) : Exc (sSeq b d ρ S) e K := by
  obtain ⟨ρ1, S1, e1, k⟩ := h
  refine ⟨ρ1, S1, ?_, k⟩
  unfold sSeq
  rw [e1]; rfl
theorem exc_if {t : DT} {b c : SD} {ρ : PD.Env} {S : Store} {e : Exn} {K : Store → Prop} {N : Store → Prop} (h : Run (t ρ S) (fun v S' => v = true ∧ N S')) (q : ∀ S', N S' → Exc (b ρ S') e K) : Exc (sIf t b c ρ S) e K := by
  obtain ⟨v, S1, e1, rfl, n1⟩ := h.to
  unfold sIf
  rw [e1]
  exact q S1 n1
theorem exc_raise {k : Nat} {ρ : PD.Env} {S : Store} {K : Store → Prop} (h : K S) : Exc (sRaise k ρ S) ⟨k, []⟩ K := ⟨ρ, S, rfl, h⟩
theorem exc_drop {f : D} {ρ : PD.Env} {S S1 : Store} {e : Exn} {K : Store → Prop} (h : f ρ S = .exc e S1) (k : K S1) : Exc (sDrop f ρ S) e K := ⟨ρ, S1, by unfold sDrop; rw [h]; rfl, k⟩
theorem exc_ret {f : D} {ρ : PD.Env} {S S1 : Store} {e : Exn} {K : Store → Prop} (h : f ρ S = .exc e S1) (k : K S1) : Exc (sRet f ρ S) e K := ⟨ρ, S1, by unfold sRet; rw [h]; rfl, k⟩
theorem exc_fn {n m : Nat} {b : SD} {xs : List Val} {ρ : PD.Env} {S : Store} {e : Exn} {K : Store → Prop} (h : xs.length = n) (eρ : xs.map some ++ List.replicate (m - n) none = ρ) (q : Exc (b ρ S) e K) : ∃ S', K S' ∧ fnOf n m b xs S = .exc e S' := by
  obtain ⟨ρ1, S1, e1, k⟩ := q
  refine ⟨S1, k, ?_⟩
  unfold fnOf
  rw [if_pos h, eρ, e1]
theorem call_exc {F : Fn} {g : DA} {ρ : PD.Env} {S S1 S2 : Store} {xs : List Val} {e : Exn} (h : g ρ S = .ok xs S1) (k : F xs S1 = .exc e S2) : dCall F g ρ S = .exc e S2 := by
  unfold dCall
  rw [h]; exact k
theorem run_all {S : Store} {xs : List Val} {p : Val → Bool} : Run (bAll [.ref S.length] (S ++ [.lst (xs.map fun x => Val.bl (p x))])) (fun r S' => r = .bl (xs.all p) ∧ S' = S ++ [.lst (xs.map fun x => Val.bl (p x))]) := by
  have e : allSome ((xs.map fun x => Val.bl (p x)).map asB) = some (xs.map p) := by
    induction xs with
    | nil => rfl
    | cons x xs ih =>
      rw [List.map_cons, List.map_cons, List.map_cons]
      unfold allSome
      rw [ih]; rfl
  show Run (match (S ++ [Cell.lst (xs.map fun x => Val.bl (p x))])[S.length]? with
          | some c => match allSome (c.items.map asB) with
            | some bs => okB (bs.all id) (S ++ [Cell.lst (xs.map fun x => Val.bl (p x))])
            | none => .stuck
          | none => Res.stuck) _
  rw [get_new]
  show Run (match allSome ((xs.map fun x => Val.bl (p x)).map asB) with
            | some bs => okB (bs.all id) (S ++ [Cell.lst (xs.map fun x => Val.bl (p x))])
            | none => .stuck) _
  rw [e]
  refine ⟨?_, rfl⟩
  congr 1
  rw [List.all_map]; rfl
theorem run_ixT {xs : List Val} {i : Int} {S : Store} {Q : Val → Store → Prop} : Run (oIx (.tup xs) (.int i) S) Q = Run (match L2.atI xs i with | some z => Res.ok z S | none => .stuck) Q := rfl
theorem all_true {j : Nat} {S : Store} : Run (bAll [.ref S.length] (S ++ [Cell.lst ((rangeV 0 j).map fun _ => Val.bl true)])) (PureK S (.bl true)) := by
  show Run (match (S ++ [Cell.lst ((rangeV 0 j).map fun _ => Val.bl true)])[S.length]? with
        | some c => match allSome (c.items.map asB) with
          | some bs => okB (bs.all id) _
          | none => .stuck
        | none => .stuck) _
  rw [get_new]
  have ha : allSome (List.map asB (List.map (fun _ => Val.bl true) (rangeV 0 j))) = some (List.map (fun _ => true) (rangeV 0 j)) := by
    rw [List.map_map]
    exact allSome_all fun x _ => rfl
  simp only [Cell.items, ha, run_okB]
  refine ⟨?_, (Gr.add _ _).kp⟩
  congr 1
  rw [List.all_eq_true]
  intro b hb
  obtain ⟨_, _, rfl⟩ := List.mem_map.mp hb
  rfl
/-- a comprehension over a range, whose element keeps what stood -/
theorem comp_pureR {f : D} {v : Nat} {ρ : PD.Env} {g : Val → Val} {ys : List Val} : ∀ (xs : List Val) (i : Nat) (acc : List Val) (S : Store), acc.length + xs.length < 16777216 →
    (∀ x ∈ xs, ∀ S', Kp S S' → Run (f (ρ.set v (some x)) S') (PureK S' (g x))) → ys.drop i = xs → i ≤ ys.length →
    Run (compG (srcL ys) (gN v) tYes' f xs.length i acc ρ S) (PureK S (acc ++ xs.map g))
  | [], i, acc, S, _, _, hd, hi => by
    have : ys[i]? = none := by
      rw [List.getElem?_eq_none_iff]
      have := congrArg List.length hd
      simp at this; omega
    show Run (match srcL ys i S with | some none => Res.ok acc S | _ => .stuck) _
    have es : srcL ys i S = some none := by unfold srcL; rw [this]
    rw [es]
    exact ⟨by simp, .refl S⟩
  | x :: xs, i, acc, S, hl, he, hd, hi => by
    have hlt : i < ys.length := by
      have := congrArg List.length hd
      simp at this; omega
    have e0 := List.drop_eq_getElem_cons hlt
    rw [hd] at e0
    have hx : ys[i]? = some x := by rw [List.getElem?_eq_getElem hlt, (List.cons.inj e0).1]
    have hl' : acc.length + (xs.length + 1) < 16777216 := hl
    show Run (match srcL ys i S with
      | none => Res.stuck
      | some none => .ok acc S
      | some (some x) => match gN v x ρ with
        | none => .stuck
        | some ρ1 => (noX (tYes' ρ1 S)).bind fun b S1 => if b = true then (noX (f ρ1 S1)).bind fun y S2 => if acc.length < 16777216 then compG (srcL ys) (gN v) tYes' f xs.length (i + 1) (acc ++ [y]) ρ S2 else .stuck
            else compG (srcL ys) (gN v) tYes' f xs.length (i + 1) acc ρ S1) _
    have es : srcL ys i S = some (some x) := by unfold srcL; rw [hx]
    rw [es]
    show Run ((noX (f (ρ.set v (some x)) S)).bind fun y S2 => if acc.length < 16777216 then compG (srcL ys) (gN v) tYes' f xs.length (i + 1) (acc ++ [y]) ρ S2 else .stuck) _
    rw [run_bind, run_noX]
    refine Run.mono (he x List.mem_cons_self S (.refl S)) fun y S1 ⟨ey, g1⟩ => ?_
    rw [if_pos (by omega)]
    refine Run.mono (comp_pureR (g := g) xs (i + 1) (acc ++ [y]) S1 (by simp; omega) (fun y hy S' k => he y (List.mem_cons_of_mem _ hy) S' (g1.trans k)) (List.cons.inj e0).2.symm hlt) fun zs S2 ⟨ez, g2⟩ => ?_
    exact ⟨by rw [ez, ey]; simp, g1.trans g2⟩
theorem run_lcrK {as : DA} {v : Nat} {f : D} {vs : List Nat} {ρ : PD.Env} {S : Store} {j : Nat} {g : Val → Val} (e : Run (as ρ S) fun xs S1 => xs = [.int j] ∧ S1 = S) (hj : j ≤ 1000000) (he : ∀ x ∈ rangeV 0 j, ∀ S', Kp S S' → Run (f ((wipeE ρ vs).set v (some x)) S') (PureK S' (g x))) :
    Run (dLCR as (gN v) tYes' f vs ρ S) (fun r S' => ∃ S1, r = .ref S1.length ∧ S' = S1 ++ [.lst ((rangeV 0 j).map g)] ∧ Kp S S1) := by
  unfold dLCR
  rw [run_bind]
  refine Run.mono e fun xs S1 ⟨e1, e2⟩ => ?_
  subst e1 e2
  show Run (if -(2 ^ 62) ≤ (j : Int) ∧ (j : Int) < 2 ^ 62 then (compG (srcL (rangeV 0 j)) (gN v) tYes' f j 0 [] (wipeE ρ vs) S1).bind alloc else .stuck) _
  rw [if_pos (by constructor <;> omega), run_bind]
  have := comp_pureR (f := f) (v := v) (ρ := wipeE ρ vs) (g := g) (ys := rangeV 0 j) (rangeV 0 j) 0 [] S1 (by rw [rangeV_len, List.length_nil]; omega) he rfl (Nat.zero_le _)
  rw [rangeV_len] at this
  refine Run.mono this fun ys S2 ⟨e1, g1⟩ => ?_
  subst e1
  exact ⟨_, rfl, rfl, g1⟩
/-- a fact that is not looked into -/
structure Hid (p : Prop) : Prop where
  get : p
theorem natAbs63 {a : Int} (h : 0 ≤ a) (h' : a < 2147483648) : a.natAbs < 2 ^ 63 := Nat.lt_of_lt_of_le (show a.natAbs < 2147483648 by omega) (by decide)
theorem set2_0 {a b x : Val} {c : Nat} {S : Store} (h : S[c]? = some (.lst [a, b])) : setAt (.ref c) (.int 0) x S = some (S.set c (.lst [x, b])) := by
  show (match S[c]? with
    | some (.lst xs) => match ixN xs.length 0 with
      | some j => some (S.set c (.lst (xs.set j x)))
      | none => none
    | _ => none) = _
  rw [h]; rfl
theorem set2_1 {a b x : Val} {c : Nat} {S : Store} (h : S[c]? = some (.lst [a, b])) : setAt (.ref c) (.int 1) x S = some (S.set c (.lst [a, x])) := by
  show (match S[c]? with
    | some (.lst xs) => match ixN xs.length 1 with
      | some j => some (S.set c (.lst (xs.set j x)))
      | none => none
    | _ => none) = _
  rw [h]; rfl
def PoolAt (c : Nat) (S : Store) : Prop := ∃ a b : Int, S[c]? = some (.lst [.int a, .int b]) ∧ 0 ≤ a ∧ 0 ≤ b ∧ b < 2147483648
def Cp (c : Nat) (S S' : Store) : Prop := PoolAt c S' ∧ Kx c S S'
theorem Cp.refl {c : Nat} {S : Store} (h : PoolAt c S) : Cp c S S := ⟨h, Kx.refl _ _⟩
theorem Cp.trans {c : Nat} {S S' S2 : Store} (a : Cp c S S') (b : Cp c S' S2) : Cp c S S2 := ⟨b.1, a.2.trans b.2⟩
theorem PoolAt.kp {c : Nat} {S S2 : Store} (a : PoolAt c S) (b : Kp S S2) : PoolAt c S2 := by
  obtain ⟨x, y, e, h⟩ := a
  exact ⟨x, y, b _ _ e, h⟩
theorem Cp.kp {c : Nat} {S S' S2 : Store} (a : Cp c S S') (b : Kp S' S2) : Cp c S S2 := ⟨a.1.kp b, a.2.trans b.kx⟩
theorem Cp.of {c : Nat} {S S' : Store} (h : PoolAt c S) (b : Kp S S') : Cp c S S' := ⟨h.kp b, b.kx⟩
theorem PoolAt.lt {c : Nat} {S : Store} (h : PoolAt c S) : c < S.length := by
  obtain ⟨x, y, e, _⟩ := h
  exact (List.getElem?_eq_some_iff.mp e).1
theorem l_pick {c n : Nat} {many : Int} {S : Store} (hc : PoolAt c S) (h0 : 0 < many) (h1 : many ≤ 1000000) (hn : 0 < n) : Run ((fns n)._law_sip [.ref c, .int many] S) (fun r S' => (∃ i, r = .int i ∧ 0 ≤ i ∧ i < many) ∧ Cp c S S') := by
  obtain ⟨n, rfl⟩ : ∃ m, n = m + 1 := ⟨n - 1, by omega⟩
  have hc0 := hc
  obtain ⟨a, b, e, ha, hb, hb2⟩ := hc
  show Run (fnOf 2 3 (b__law_sip (fns n)) [.ref c, .int many] S) _
  unfold b__law_sip
  have w0 : ∀ {T : Store} {x y : Val} {Q : Val → Store → Prop}, Run (match L2.atI [x, y] 0 with | some z => Res.ok z T | none => .stuck) Q = Q x T := rfl
  have w1 : ∀ {T : Store} {x y : Val} {Q : Val → Store → Prop}, Run (match L2.atI [x, y] 1 with | some z => Res.ok z T | none => .stuck) Q = Q y T := rfl
  have hlt : c < S.length := (List.getElem?_eq_some_iff.mp e).1
  have e1 : ∀ x y : Val, (S.set c (.lst [x, y]))[c]? = some (.lst [x, y]) := fun x y => set_get e
  have hm0 := Int.emod_nonneg (b * 69621) (by decide : (2147483647 : Int) ≠ 0)
  have hm1 := Int.emod_lt_of_pos (b * 69621) (by decide : (0 : Int) < 2147483647)
  simp only [run_fnOf, s_seq, s_if, w_tval, w_op, w_var', w_c, s_set, s_put, s_ret, w_call, w_cons, w_nil, List.length_cons, List.length_nil, List.map_cons, List.map_nil, Nat.reduceAdd, Nat.reduceSub, List.replicate_succ, List.replicate_zero, List.cons_append, List.nil_append, List.getElem?_cons_zero, List.getElem?_cons_succ, List.set_cons_zero, List.set_cons_succ, if_true, run_ixR e, atI0, atI1, run_ok, s_next, run_gtI, isB_bl, run_bIntI, run_modP h0, run_divP h0 h1, set2_0 e, set2_1 e, run_mulE (.inr (by decide) : b.natAbs < 2 ^ 63 ∨ (69621 : Int).natAbs < 2 ^ 63), run_modP (by decide : (0:Int) < 2147483647), run_ixR (e1 _ _)]
  simp only [run_mulE (.inl (natAbs63 hm0 (by omega)) : (b * 69621 % 2147483647).natAbs < 2 ^ 63 ∨ (b * 69621 % 2147483647).natAbs < 2 ^ 63), run_bIntI, run_modP (by decide : (0:Int) < 2147483629), run_divP (by decide : (0:Int) < 32) (by decide), run_modP h0]
  by_cases h : 0 < a
  · rw [if_pos (by simpa using h)]
    refine ⟨⟨_, rfl, Int.emod_nonneg _ (by omega), Int.emod_lt_of_pos _ h0⟩, ⟨_, _, e1 _ _, Int.ediv_nonneg ha (by omega), hb, hb2⟩, fun m d hm q => set_other hm q⟩
  · rw [if_neg (by simpa using h)]
    refine ⟨⟨_, rfl, Int.emod_nonneg _ (by omega), Int.emod_lt_of_pos _ h0⟩, ⟨_, _, e1 _ _, ha, hm0, by omega⟩, fun m d hm q => set_other hm q⟩
theorem l_cup {n : Nat} {z : Int} {S : Store} (hn : 0 < n) : Run ((fns n)._law_cup [.int z] S) (fun r S' => r = .ref S.length ∧ Kp S S' ∧ PoolAt S.length S') := by
  obtain ⟨n, rfl⟩ : ∃ m, n = m + 1 := ⟨n - 1, by omega⟩
  show Run (fnOf 1 1 (b__law_cup (fns n)) [.int z] S) _
  unfold b__law_cup
  have p18 : ∀ {S : Store} {Q : Val → Store → Prop}, Run (oPow (.int 10) (.int 18) S) Q = Q (.int 1000000000000000000) S := fun {S Q} => by
    show Run (if (0 : Int) ≤ 18 ∧ (18 : Int) ≤ 1000000 ∧ (10 : Int).natAbs < 2 ^ 64 then okI ((10 : Int) ^ (18 : Int).toNat) S else .stuck) Q = _
    rw [if_pos (by decide)]; rfl
  simp only [p18, run_modP (by decide : (0 : Int) < 2147483629), run_ok, run_okI, run_okB, run_alloc, run_stuck, run_bind, run_ite, run_noX, run_fnOf, w_c, w_op, w_un, w_call, w_callK, w_nil, w_cons, w_tup, w_lst, isB_bl, w_tval, w_tand, w_tor, w_tnot, w_and, w_or, w_not, w_if, s_next, s_seq, s_if, s_ret, s_drop, s_set, s_par, s_put, s_asg, w_var', runS_next, runS_ret, runS_stuck, runS_ite, List.length_cons, List.length_nil, List.length_singleton, List.map_cons, List.map_nil, List.cons_append, List.nil_append, List.replicate_succ, List.replicate_zero, List.getElem?_cons_zero, List.getElem?_cons_succ, List.set_cons_zero, List.set_cons_succ, Nat.reduceAdd, Nat.reduceSub, Nat.reduceEqDiff, ite_true, ite_false, if_true, if_false, reduceIte, Bool.false_eq_true, decide_true, decide_false, String.reduceEq, Int.reduceEq, Nat.reduceLeDiff, true_and, and_true, Bool.not_true, Bool.not_false, decide_eq_true_eq, List.append_nil, bType, bIsi, bLen, bInt, ty_int, ty_bl, ty_str, ty_non, ty_tup, isT, oIs, oIsNot, oSub, oAdd, oIx, run_eqI, run_neI, Bool.or_false, Bool.or_true, Bool.false_or, Bool.true_or, Bool.and_true, Bool.and_false, Bool.true_and, Bool.false_and, reduceCtorEq, decide_not, Bool.not_eq_true', decide_eq_false_iff_not, askInt, askBool, askTuple, askList, askStr, oLe, oLt, oGe, oGt, oInt2, atI0, atI1, atI2]
  have m0 := Int.emod_nonneg z (by decide : (2147483629 : Int) ≠ 0)
  have m1 := Int.emod_lt_of_pos z (by decide : (0 : Int) < 2147483629)
  split
  · exact ⟨(Gr.add _ _).kp, _, _, get_new _ _, by omega, by omega, by omega⟩
  · exact ⟨(Gr.add _ _).kp, _, _, get_new _ _, by omega, by omega, by omega⟩
end PD.K02

/-! ## K02M2 -/
set_option Elab.async false
set_option linter.all false
set_option maxRecDepth 100000
set_option maxHeartbeats 4000000
namespace PD.K02
open PySem PySem.Spec L2 PD LT
/-- a share, nested at most so deep -/
def isSh : Nat → Val → Bool
  | _, .int i => decide (i = 0) || decide (i = 1)
  | d + 1, .tup [a, b] => isSh d a && isSh d b && !(match a, b with | .int i, .int j => decide (i = j) | _, _ => false)
  | _, _ => false
theorem eqv_pair {S : Store} {d : Nat} {a b : Val} {i j : Int} (ha : Da S d a) (hb : Da S d b) (hd : d < 64) : PyData.eqv (dat S (.tup [a, b])) (dat S (.tup [.int i, .int j])) = (PyData.eqv (dat S a) (.int i) && PyData.eqv (dat S b) (.int j)) := by
  rw [dat_tup (d := d) (by intro x hx; rcases List.mem_cons.mp hx with rfl | hx; exact ha; rw [List.mem_singleton.mp hx]; exact hb) (by omega),
    dat_tup (d := 0) (by intro x hx; rcases List.mem_cons.mp hx with rfl | hx; exact .int _ _; rw [List.mem_singleton.mp hx]; exact .int _ _) (by omega)]
  show (PyData.eqv (dat S a) (.int i) && (PyData.eqv (dat S b) (.int j) && true)) = _
  rw [Bool.and_true]
theorem da_pair {S : Store} {d : Nat} {a b : Val} (ha : Da S d a) (hb : Da S d b) : Da S (d + 1) (.tup [a, b]) := .tup (by intro x hx; rcases List.mem_cons.mp hx with rfl | hx; exact ha; rw [List.mem_singleton.mp hx]; exact hb)
/-- a share that equals a number is it -/
theorem sh_eq {S : Store} {d e : Nat} {v : Val} {i : Int} (h : isSh d v = true) (hv : Da S e v) (he : e < 65) : PyData.eqv (dat S v) (.int i) = isI v i := by
  cases hv with
  | int _ j => show (j == i) = decide (j = i); rw [Bool.beq_eq_decide_eq]
  | @tup e' xs hx => rw [dat_tup hx (by omega)]; rfl
  | non => cases d <;> cases h
  | bl => cases d <;> cases h
  | str => cases d <;> cases h
  | ref => cases d <;> cases h
theorem isSh_len {k : Nat} {xs : List Val} (h : xs.length ≠ 2) : isSh k (.tup xs) = false := by
  cases k with
  | zero => simp [isSh]
  | succ k =>
    match xs, h with
    | [], _ => simp [isSh]
    | [_], _ => simp [isSh]
    | [_, _], h => exact absurd rfl h
    | _ :: _ :: _ :: _, _ => simp [isSh]
theorem isSh_pair {k : Nat} {a b : Val} : isSh (k + 1) (.tup [a, b]) = (isSh k a && isSh k b && !sameI a b) := rfl
theorem sh_int {k : Nat} {i : Int} (h : isSh k (.int i) = true) : i = 0 ∨ i = 1 := by
  cases k <;> (rcases Bool.or_eq_true _ _ ▸ (show (decide (i = 0) || decide (i = 1)) = true from h) with h | h) <;> simp_all
theorem same_of {a b : Val} {i : Int} (h1 : isI a i = true) (h2 : isI b i = true) : sameI a b = true := by
  cases a <;> first | cases h1 | skip
  cases b <;> first | cases h2 | skip
  have e1 := of_decide_eq_true h1
  have e2 := of_decide_eq_true h2
  exact decide_eq_true (e1.trans e2.symm)
local macro_rules | `(tactic| walk_at "wp") => `(tactic| simp only [run_ok, run_okI, run_okB, run_alloc, run_stuck, run_bind, run_ite, run_noX, run_fnOf, w_c, w_op, w_un, w_call, w_callK, w_nil, w_cons, w_tup, w_lst, isB_bl, w_tval, w_tand, w_tor, w_tnot, w_and, w_or, w_not, w_if,
  s_next, s_seq, s_if, s_ret, s_drop, s_set, s_par, s_put, s_asg, w_var', runS_next, runS_ret, runS_stuck, List.length_cons, List.length_nil, List.length_singleton, List.map_cons, List.map_nil, List.cons_append, List.nil_append, List.replicate_succ, List.replicate_zero, List.getElem?_cons_zero, List.getElem?_cons_succ,
  List.set_cons_zero, List.set_cons_succ, Nat.reduceAdd, Nat.reduceSub, Nat.reduceEqDiff, ite_true, ite_false, if_true, if_false, reduceIte, Bool.false_eq_true, decide_true, decide_false, String.reduceEq, Int.reduceEq, Nat.reduceLeDiff, true_and, and_true, Bool.not_true, Bool.not_false, decide_eq_true_eq, List.append_nil,
  bType, bIsi, bLen, bInt, ty_int, ty_bl, ty_str, ty_non, ty_tup, isT, oIs, oIsNot, oSub, oAdd, oIx, run_eqI, run_neI, Bool.or_false, Bool.or_true, Bool.false_or, Bool.true_or, Bool.and_true, Bool.and_false, Bool.true_and, Bool.false_and, reduceCtorEq, List.mem_cons, true_or, or_true, decide_not, Bool.not_eq_true', decide_eq_false_iff_not])
theorem p_is_share_tree : ∀ (e n k : Nat) (v : Val) (S : Store), Da S e v → e < 60 → e < n → Run ((fns n)._is_share_tree [v, .int k] S) (fun r S' => r = .bl (isSh k v) ∧ S' = S)
  | e, 0, k, v, S, _, _, h => absurd h (Nat.not_lt_zero _)
  | e, n + 1, k, v, S, hv, h60, h => by
    show Run (fnOf 2 2 (b__is_share_tree (fns n)) [v, .int k] S) _
    unfold b__is_share_tree
    have hv0 := hv
    cases hv with
    | int _ i =>
      walk_at "wp"
      have e : isSh k (.int i) = (decide (i = 0) || decide (i = 1)) := by cases k <;> rfl
      rw [e]
      split <;> simp_all
    | non => walk_at "wp"; cases k <;> rfl
    | bl => walk_at "wp"; cases k <;> rfl
    | str => walk_at "wp"; cases k <;> rfl
    | @ref _ m ys hn _ =>
      walk_at "wp"
      simp only [ty_ref hn, run_ok, run_okB, isB_bl, String.reduceEq, decide_false, Bool.not_false, if_true]
      cases k <;> simp [isSh]
    | @tup e' xs hx =>
      walk_at "wp"
      by_cases hl : xs.length = 2
      · obtain ⟨a, b, rfl⟩ := two_of hl
        have ha := hx a (by simp)
        have hb := hx b (by simp)
        rw [if_neg (by simp)]
        cases k with
        | zero => rw [if_pos (by rfl)]; simp [isSh]
        | succ k =>
          rw [if_neg (by omega), run_eq hv0 (da_pair (.int 0 0) (.int 0 0)) (by omega) (by omega), eqv_pair ha hb (by omega), isB_bl]
          have ek : ((k + 1 : Nat) : Int) - 1 = (k : Int) := by omega
          split
          · rename_i h0
            refine ⟨?_, rfl⟩
            cases hs : isSh (k + 1) (.tup [a, b]) with
            | false => rfl
            | true =>
              rw [isSh_pair] at hs
              simp only [Bool.and_eq_true] at hs h0
              rw [sh_eq hs.1.1 ha (by omega), sh_eq hs.1.2 hb (by omega)] at h0
              rw [same_of h0.1 h0.2] at hs
              exact absurd hs.2 (by decide)
          · rename_i h0
            rw [run_eq hv0 (da_pair (.int 0 1) (.int 0 1)) (by omega) (by omega), eqv_pair ha hb (by omega), isB_bl]
            split
            · rename_i h1
              refine ⟨?_, rfl⟩
              cases hs : isSh (k + 1) (.tup [a, b]) with
              | false => rfl
              | true =>
                rw [isSh_pair] at hs
                simp only [Bool.and_eq_true] at hs h1
                rw [sh_eq hs.1.1 ha (by omega), sh_eq hs.1.2 hb (by omega)] at h1
                rw [same_of h1.1 h1.2] at hs
                exact absurd hs.2 (by decide)
            · rename_i h1
              simp only [atI0, atI1, run_ok, ek]
              refine Run.mono (p_is_share_tree e' n k a S ha (by omega) (by omega)) fun r S1 ⟨er, eS⟩ => ?_
              subst er eS
              rw [isB_bl, isSh_pair]
              split
              · rename_i hsa
                refine Run.mono (p_is_share_tree e' n k b S1 hb (by omega) (by omega)) fun r S2 ⟨er, eS⟩ => ⟨?_, eS⟩
                rw [er, hsa]
                congr 1
                cases hsb : isSh k b with
                | false => rfl
                | true =>
                  rw [sh_eq hsa ha (by omega), sh_eq hsb hb (by omega)] at h0 h1
                  have : sameI a b = false := by
                    cases a <;> cases b <;> first | rfl | skip
                    rename_i i j
                    have h2 := sh_int hsa
                    have h3 := sh_int hsb
                    rcases h2 with rfl | rfl <;> rcases h3 with rfl | rfl <;> simp_all [sameI, isI]
                  rw [this]; rfl
              · rename_i hsa
                rw [Bool.not_eq_true] at hsa
                rw [hsa]
                exact ⟨rfl, rfl⟩
      · rw [if_pos (by omega), isSh_len hl]
theorem isSh_tr : ∀ (e k : Nat) (v : Val) (S : Store), isSh k v = true → Da S e v → Tr e 1000 v := fun e k v S h hv => by
  induction hv generalizing k with
  | int d i => exact .int _ _ i
  | non => cases k <;> cases h
  | bl => cases k <;> cases h
  | str => cases k <;> cases h
  | ref => cases k <;> cases h
  | @tup d xs hx ih =>
    by_cases hl : xs.length = 2
    · obtain ⟨a, b, rfl⟩ := two_of hl
      cases k with
      | zero => simp [isSh] at h
      | succ k =>
        rw [isSh_pair] at h
        simp only [Bool.and_eq_true] at h
        refine .tup (by simp) fun x hm => ?_
        rcases List.mem_cons.mp hm with rfl | hm
        · exact ih _ (by simp) k h.1.1
        · rw [List.mem_singleton.mp hm]
          exact ih _ (by simp) k h.1.2
    · rw [isSh_len hl] at h; cases h
/-- a share: its form, its size -/
def shOk (v : Val) : Bool := isSh 12 v && decide (tcount v ≤ 63)
theorem p_is_share {e n : Nat} {v : Val} {S : Store} (hv : Da S e v) (he : e < 60) (hn : 61 < n) : Run ((fns n).is_share [v] S) (PureQ S (.bl (shOk v))) := by
  obtain ⟨n, rfl⟩ : ∃ m, n = m + 1 := ⟨n - 1, by omega⟩
  show Run (fnOf 1 1 (b_is_share (fns n)) [v] S) _
  unfold b_is_share
  simp only [run_ok, run_okI, run_okB, run_alloc, run_stuck, run_bind, run_ite, run_noX, run_fnOf, w_c, w_op, w_un, w_call, w_callK, w_nil, w_cons, w_tup, w_lst, isB_bl, w_tval, w_tand, w_tor, w_tnot, w_and, w_or, w_not, w_if, s_next, s_seq, s_if, s_ret, s_drop, s_set, s_par, s_put, s_asg, w_var', runS_next, runS_ret, runS_stuck, runS_ite, List.length_cons, List.length_nil, List.length_singleton, List.map_cons, List.map_nil, List.cons_append, List.nil_append, List.replicate_succ, List.replicate_zero, List.getElem?_cons_zero, List.getElem?_cons_succ, List.set_cons_zero, List.set_cons_succ, Nat.reduceAdd, Nat.reduceSub, Nat.reduceEqDiff, ite_true, ite_false, if_true, if_false, reduceIte, Bool.false_eq_true, decide_true, decide_false, String.reduceEq, Int.reduceEq, Nat.reduceLeDiff, true_and, and_true, Bool.not_true, Bool.not_false, decide_eq_true_eq, List.append_nil, bType, bIsi, bLen, bInt, ty_int, ty_bl, ty_str, ty_non, ty_tup, isT, oIs, oIsNot, oSub, oAdd, oIx, run_eqI, run_neI, Bool.or_false, Bool.or_true, Bool.false_or, Bool.true_or, Bool.and_true, Bool.and_false, Bool.true_and, Bool.false_and, reduceCtorEq, decide_not, Bool.not_eq_true', decide_eq_false_iff_not, askInt, askBool, askTuple, askList, askStr, oLe, oLt, oGe, oGt, oInt2, atI0, atI1, atI2]
  refine Run.mono (p_is_share_tree e n 12 v S hv he (by omega)) fun r S1 ⟨er, eS⟩ => ?_
  subst er eS
  simp only [run_ok, run_okI, run_okB, run_alloc, run_stuck, run_bind, run_ite, run_noX, run_fnOf, w_c, w_op, w_un, w_call, w_callK, w_nil, w_cons, w_tup, w_lst, isB_bl, w_tval, w_tand, w_tor, w_tnot, w_and, w_or, w_not, w_if, s_next, s_seq, s_if, s_ret, s_drop, s_set, s_par, s_put, s_asg, w_var', runS_next, runS_ret, runS_stuck, runS_ite, List.length_cons, List.length_nil, List.length_singleton, List.map_cons, List.map_nil, List.cons_append, List.nil_append, List.replicate_succ, List.replicate_zero, List.getElem?_cons_zero, List.getElem?_cons_succ, List.set_cons_zero, List.set_cons_succ, Nat.reduceAdd, Nat.reduceSub, Nat.reduceEqDiff, ite_true, ite_false, if_true, if_false, reduceIte, Bool.false_eq_true, decide_true, decide_false, String.reduceEq, Int.reduceEq, Nat.reduceLeDiff, true_and, and_true, Bool.not_true, Bool.not_false, decide_eq_true_eq, List.append_nil, bType, bIsi, bLen, bInt, ty_int, ty_bl, ty_str, ty_non, ty_tup, isT, oIs, oIsNot, oSub, oAdd, oIx, run_eqI, run_neI, Bool.or_false, Bool.or_true, Bool.false_or, Bool.true_or, Bool.and_true, Bool.and_false, Bool.true_and, Bool.false_and, reduceCtorEq, decide_not, Bool.not_eq_true', decide_eq_false_iff_not, askInt, askBool, askTuple, askList, askStr, oLe, oLt, oGe, oGt, oInt2, atI0, atI1, atI2]
  unfold shOk
  split
  · rename_i hs
    refine Run.mono (p_tuple_count e n v S1 (isSh_tr _ _ _ _ hs hv) (by omega)) fun r S2 ⟨er, g⟩ => ?_
    subst er
    simp only [run_ok, run_okI, run_okB, run_alloc, run_stuck, run_bind, run_ite, run_noX, run_fnOf, w_c, w_op, w_un, w_call, w_callK, w_nil, w_cons, w_tup, w_lst, isB_bl, w_tval, w_tand, w_tor, w_tnot, w_and, w_or, w_not, w_if, s_next, s_seq, s_if, s_ret, s_drop, s_set, s_par, s_put, s_asg, w_var', runS_next, runS_ret, runS_stuck, runS_ite, List.length_cons, List.length_nil, List.length_singleton, List.map_cons, List.map_nil, List.cons_append, List.nil_append, List.replicate_succ, List.replicate_zero, List.getElem?_cons_zero, List.getElem?_cons_succ, List.set_cons_zero, List.set_cons_succ, Nat.reduceAdd, Nat.reduceSub, Nat.reduceEqDiff, ite_true, ite_false, if_true, if_false, reduceIte, Bool.false_eq_true, decide_true, decide_false, String.reduceEq, Int.reduceEq, Nat.reduceLeDiff, true_and, and_true, Bool.not_true, Bool.not_false, decide_eq_true_eq, List.append_nil, bType, bIsi, bLen, bInt, ty_int, ty_bl, ty_str, ty_non, ty_tup, isT, oIs, oIsNot, oSub, oAdd, oIx, run_eqI, run_neI, Bool.or_false, Bool.or_true, Bool.false_or, Bool.true_or, Bool.and_true, Bool.and_false, Bool.true_and, Bool.false_and, reduceCtorEq, decide_not, Bool.not_eq_true', decide_eq_false_iff_not, askInt, askBool, askTuple, askList, askStr, oLe, oLt, oGe, oGt, oInt2, atI0, atI1, atI2]
    exact ⟨by rw [hs, Bool.true_and], g⟩
  · rename_i hs
    rw [Bool.not_eq_true] at hs
    exact ⟨by rw [hs, Bool.false_and], .refl _⟩
theorem check_share_ok {e n : Nat} {v : Val} {S : Store} (hv : Da S e v) (he : e < 60) (hn : 62 < n) : ∃ S', Kp S S' ∧ (fns n).check_share [v] S = if shOk v = true then .ok .non S' else .exc ⟨1, []⟩ S' := by
  obtain ⟨n, rfl⟩ : ∃ m, n = m + 1 := ⟨n - 1, by omega⟩
  obtain ⟨r, S', e1, e2, g⟩ := (p_is_share (n := n) hv he (by omega)).to
  subst e2
  refine ⟨S', g.kp, ?_⟩
  show fnOf 1 1 (b_check_share (fns n)) [v] S = _
  simp only [fnOf, b_check_share, sIf, tNot', tVal, dCall, aCons, aNil, dVar, Res.bind, Res.toS, List.length_cons, List.length_nil, List.map_cons, List.map_nil, Nat.reduceAdd, Nat.reduceSub, List.replicate_zero, List.append_nil, List.getElem?_cons_zero, e1, if_true]
  cases shOk v <;> rfl
/-! ### shares as values -/
def shV : Sh → Val
  | .zero => .int 0
  | .one => .int 1
  | .node l r => .tup [shV l, shV r]
theorem sh_da : ∀ {s : Sh} {d : Nat} {S : Store}, s.dep ≤ d → Da S d (shV s)
  | .zero, d, S, _ => .int _ _
  | .one, d, S, _ => .int _ _
  | .node l r, d, S, h => by
    have h : 1 + max l.dep r.dep ≤ d := h
    obtain ⟨d, rfl⟩ : ∃ e, d = e + 1 := ⟨d - 1, by omega⟩
    exact .tup (mem2 (sh_da (by omega)) (sh_da (by omega)))
def shD : Sh → PyData
  | .zero => .int 0
  | .one => .int 1
  | .node l r => .tuple [shD l, shD r]
theorem sh_dat : ∀ {s : Sh} {S : Store}, s.dep < 65 → dat S (shV s) = shD s
  | .zero, S, _ => rfl
  | .one, S, _ => rfl
  | .node l r, S, h => by
    have h : 1 + max l.dep r.dep < 65 := h
    show dat S (.tup [shV l, shV r]) = _
    rw [dat_tup (d := max l.dep r.dep) (mem2 (sh_da (by omega)) (sh_da (by omega))) (by omega)]
    show PyData.tuple [dat S (shV l), dat S (shV r)] = _
    rw [sh_dat (by omega), sh_dat (by omega)]; rfl
theorem eqv_shD : ∀ a b : Sh, PyData.eqv (shD a) (shD b) = decide (a = b)
  | .zero, .zero => rfl
  | .zero, .one => rfl
  | .one, .zero => rfl
  | .one, .one => rfl
  | .zero, .node _ _ => (decide_eq_false (fun h => by cases h)).symm
  | .one, .node _ _ => (decide_eq_false (fun h => by cases h)).symm
  | .node _ _, .zero => (decide_eq_false (fun h => by cases h)).symm
  | .node _ _, .one => (decide_eq_false (fun h => by cases h)).symm
  | .node l r, .node l' r' => by
    have e : PyData.eqv (shD (.node l r)) (shD (.node l' r')) = (PyData.eqv (shD l) (shD l') && (PyData.eqv (shD r) (shD r') && true)) := rfl
    rw [e, eqv_shD l l', eqv_shD r r', Bool.and_true]
    by_cases h : l = l' ∧ r = r'
    · obtain ⟨rfl, rfl⟩ := h
      simp
    · rw [decide_eq_false (p := Sh.node l r = Sh.node l' r') (fun q => h (by injection q with q1 q2; exact ⟨q1, q2⟩)), Bool.eq_false_iff]
      intro q
      simp only [Bool.and_eq_true, decide_eq_true_eq] at q
      exact h q
theorem run_eqS {a b : Sh} {S : Store} {Q : Val → Store → Prop} (ha : a.dep < 60) (hb : b.dep < 60) : Run (oEq (shV a) (shV b) S) Q = Q (.bl (decide (a = b))) S := by
  rw [run_eq (sh_da (Nat.le_refl _)) (sh_da (Nat.le_refl _)) (by omega) (by omega), sh_dat (by omega), sh_dat (by omega), eqv_shD]
theorem run_eq0 {a : Sh} {S : Store} {Q : Val → Store → Prop} (ha : a.dep < 60) : Run (oEq (shV a) (.int 0) S) Q = Q (.bl (decide (a = .zero))) S := run_eqS (b := .zero) ha (by decide)
theorem run_eq1 {a : Sh} {S : Store} {Q : Val → Store → Prop} (ha : a.dep < 60) : Run (oEq (shV a) (.int 1) S) Q = Q (.bl (decide (a = .one))) S := run_eqS (b := .one) ha (by decide)
theorem run_inS {a : Sh} {S : Store} {Q : Val → Store → Prop} (ha : a.dep < 60) : Run (oIn (shV a) (.tup [.int 0, .int 1]) S) Q = Q (.bl (decide (a = .zero) || decide (a = .one))) S := by
  have hda : Da S a.dep (shV a) := sh_da (Nat.le_refl _)
  have hp : PD.toD 66 S (.tup [.int 0, .int 1]) = some (.tuple [.int 0, .int 1]) := rfl
  have e0 : PyData.eqv (.int 0) (shD a) = decide (a = .zero) := by
    have := eqv_shD .zero a
    rw [show PyData.eqv (.int 0) (shD a) = PyData.eqv (shD .zero) (shD a) from rfl, this]
    exact decide_eq_decide.mpr ⟨Eq.symm, Eq.symm⟩
  have e1 : PyData.eqv (.int 1) (shD a) = decide (a = .one) := by
    have := eqv_shD .one a
    rw [show PyData.eqv (.int 1) (shD a) = PyData.eqv (shD .one) (shD a) from rfl, this]
    exact decide_eq_decide.mpr ⟨Eq.symm, Eq.symm⟩
  show Run (match oInB (shV a) (.tup [.int 0, .int 1]) S with | some b => okB b S | none => .stuck) Q = _
  have : oInB (shV a) (.tup [.int 0, .int 1]) S = some (decide (a = .zero) || decide (a = .one)) := by
    unfold oInB
    rw [hda.dat (f := 66) (by omega) (by omega), hp]
    show (if SeqAt.shaped (dat S (shV a)) = true ∧ SeqAt.shaped (.tuple [.int 0, .int 1]) = true then some (PyData.eqv (.int 0) (dat S (shV a)) || (PyData.eqv (.int 1) (dat S (shV a)) || false)) else none) = _
    rw [if_pos ⟨hda.shaped (by omega), by decide⟩, sh_dat (by omega), e0, e1, Bool.or_false]
  rw [this]; rfl
theorem sameI_shV (a b : Sh) : sameI (shV a) (shV b) = ((decide (a = .zero) && decide (b = .zero)) || (decide (a = .one) && decide (b = .one))) := by
  cases a <;> cases b <;> first | rfl | simp [shV, sameI]
theorem isSh_shV : ∀ {s : Sh} {k : Nat}, s.ok = true → s.dep ≤ k → isSh k (shV s) = true
  | .zero, k, _, _ => by cases k <;> rfl
  | .one, k, _, _ => by cases k <;> rfl
  | .node l r, k, h, hd => by
    have hd : 1 + max l.dep r.dep ≤ k := hd
    obtain ⟨k, rfl⟩ : ∃ j, k = j + 1 := ⟨k - 1, by omega⟩
    obtain ⟨h1, h2, h3, h4⟩ := Sh.ok_node.mp h
    show isSh (k + 1) (.tup [shV l, shV r]) = true
    rw [isSh_pair, isSh_shV h1 (by omega), isSh_shV h2 (by omega), sameI_shV]
    cases hq : ((decide (l = .zero) && decide (r = .zero)) || (decide (l = .one) && decide (r = .one))) with
    | false => rfl
    | true =>
      simp only [Bool.or_eq_true, Bool.and_eq_true, decide_eq_true_eq] at hq
      rcases hq with hq | hq
      · exact absurd hq h3
      · exact absurd hq h4
theorem isSh_dep : ∀ {s : Sh} {k : Nat}, isSh k (shV s) = true → s.dep ≤ k
  | .zero, k, _ => Nat.zero_le _
  | .one, k, _ => Nat.zero_le _
  | .node l r, 0, h => by cases h
  | .node l r, k + 1, h => by
    have h : isSh (k + 1) (.tup [shV l, shV r]) = true := h
    rw [isSh_pair] at h
    simp only [Bool.and_eq_true] at h
    have a := isSh_dep h.1.1
    have b := isSh_dep h.1.2
    show 1 + max l.dep r.dep ≤ k + 1
    omega
theorem tcount_shV : ∀ s : Sh, tcount (shV s) = s.tc
  | .zero => rfl
  | .one => rfl
  | .node l r => by
    show tcount (.tup [shV l, shV r]) = ((1 + (l.tc + r.tc) : Nat) : Int)
    simp only [tcount, tcounts, tcount_shV l, tcount_shV r]
    omega
structure Shr (s : Sh) : Prop where
  ok : s.ok = true
  dep : s.dep ≤ 12
  tc : s.tc ≤ 63
theorem shOk_shV {s : Sh} (h : Shr s) : shOk (shV s) = true := by
  unfold shOk
  rw [isSh_shV h.ok h.dep, tcount_shV, decide_eq_true (by have := h.tc; omega)]; rfl
theorem Shr.da {s : Sh} {S : Store} (h : Shr s) : Da S 45 (shV s) := (sh_da h.dep).up (by omega)
theorem sh_isi {s : Sh} {S : Store} {Q : Val → Store → Prop} : Run (bIsi [shV s, .ty "tuple"] S) Q = Q (.bl (match s with | .node _ _ => true | _ => false)) S := by
  cases s <;> simp only [shV, askTuple, run_ok, run_okI, run_okB, run_alloc, run_stuck, run_bind, run_ite, run_noX, run_fnOf, w_c, w_op, w_un, w_call, w_callK, w_nil, w_cons, w_tup, w_lst, isB_bl, w_tval, w_tand, w_tor, w_tnot, w_and, w_or, w_not, w_if, s_next, s_seq, s_if, s_ret, s_drop, s_set, s_par, s_put, s_asg, w_var', runS_next, runS_ret, runS_stuck, runS_ite, List.length_cons, List.length_nil, List.length_singleton, List.map_cons, List.map_nil, List.cons_append, List.nil_append, List.replicate_succ, List.replicate_zero, List.getElem?_cons_zero, List.getElem?_cons_succ, List.set_cons_zero, List.set_cons_succ, Nat.reduceAdd, Nat.reduceSub, Nat.reduceEqDiff, ite_true, ite_false, if_true, if_false, reduceIte, Bool.false_eq_true, decide_true, decide_false, String.reduceEq, Int.reduceEq, Nat.reduceLeDiff, true_and, and_true, Bool.not_true, Bool.not_false, decide_eq_true_eq, List.append_nil, bType, bIsi, bLen, bInt, ty_int, ty_bl, ty_str, ty_non, ty_tup, isT, oIs, oIsNot, oSub, oAdd, oIx, run_eqI, run_neI, Bool.or_false, Bool.or_true, Bool.false_or, Bool.true_or, Bool.and_true, Bool.and_false, Bool.true_and, Bool.false_and, reduceCtorEq, decide_not, Bool.not_eq_true', decide_eq_false_iff_not, askInt, askBool, askTuple, askList, askStr, oLe, oLt, oGe, oGt, oInt2, atI0, atI1, atI2] <;> rfl
/-! ### the paths of a share -/
theorem in01 {S : Store} {i : Int} {Q : Val → Store → Prop} : Run (oIn (.int i) (.tup [.int 0, .int 1]) S) Q = Q (.bl (decide (i = 0) || decide (i = 1))) S := by
  show Q (.bl ((0 == i) || ((1 == i) || false))) S = _
  congr 2
  rw [Bool.or_false, Bool.beq_eq_decide_eq, Bool.beq_eq_decide_eq]
  congr 1 <;> exact decide_eq_decide.mpr ⟨Eq.symm, Eq.symm⟩
theorem l_is_share : ∀ (e n k : Nat) (v : Val) (S : Store), Da S e v → e < 60 → e < n → Run ((fns n)._law_is_share [v, .int k] S) (fun r S' => r = .bl (isSh k v) ∧ S' = S)
  | e, 0, k, v, S, _, _, h => absurd h (Nat.not_lt_zero _)
  | e, n + 1, k, v, S, hv, h60, h => by
    show Run (fnOf 2 2 (b__law_is_share (fns n)) [v, .int k] S) _
    unfold b__law_is_share
    cases hv with
    | int _ i =>
      simp only [run_ok, run_okI, run_okB, run_alloc, run_stuck, run_bind, run_ite, run_noX, run_fnOf, w_c, w_op, w_un, w_call, w_callK, w_nil, w_cons, w_tup, w_lst, isB_bl, w_tval, w_tand, w_tor, w_tnot, w_and, w_or, w_not, w_if, s_next, s_seq, s_if, s_ret, s_drop, s_set, s_par, s_put, s_asg, w_var', runS_next, runS_ret, runS_stuck, runS_ite, List.length_cons, List.length_nil, List.length_singleton, List.map_cons, List.map_nil, List.cons_append, List.nil_append, List.replicate_succ, List.replicate_zero, List.getElem?_cons_zero, List.getElem?_cons_succ, List.set_cons_zero, List.set_cons_succ, Nat.reduceAdd, Nat.reduceSub, Nat.reduceEqDiff, ite_true, ite_false, if_true, if_false, reduceIte, Bool.false_eq_true, decide_true, decide_false, String.reduceEq, Int.reduceEq, Nat.reduceLeDiff, true_and, and_true, Bool.not_true, Bool.not_false, decide_eq_true_eq, List.append_nil, bType, bIsi, bLen, bInt, ty_int, ty_bl, ty_str, ty_non, ty_tup, isT, oIs, oIsNot, oSub, oAdd, oIx, run_eqI, run_neI, Bool.or_false, Bool.or_true, Bool.false_or, Bool.true_or, Bool.and_true, Bool.and_false, Bool.true_and, Bool.false_and, reduceCtorEq, decide_not, Bool.not_eq_true', decide_eq_false_iff_not, askInt, askBool, askTuple, askList, askStr, oLe, oLt, oGe, oGt, oInt2, atI0, atI1, atI2]
      rw [in01]
      refine ⟨?_, rfl⟩
      cases k <;> rfl
    | non => simp only [run_ok, run_okI, run_okB, run_alloc, run_stuck, run_bind, run_ite, run_noX, run_fnOf, w_c, w_op, w_un, w_call, w_callK, w_nil, w_cons, w_tup, w_lst, isB_bl, w_tval, w_tand, w_tor, w_tnot, w_and, w_or, w_not, w_if, s_next, s_seq, s_if, s_ret, s_drop, s_set, s_par, s_put, s_asg, w_var', runS_next, runS_ret, runS_stuck, runS_ite, List.length_cons, List.length_nil, List.length_singleton, List.map_cons, List.map_nil, List.cons_append, List.nil_append, List.replicate_succ, List.replicate_zero, List.getElem?_cons_zero, List.getElem?_cons_succ, List.set_cons_zero, List.set_cons_succ, Nat.reduceAdd, Nat.reduceSub, Nat.reduceEqDiff, ite_true, ite_false, if_true, if_false, reduceIte, Bool.false_eq_true, decide_true, decide_false, String.reduceEq, Int.reduceEq, Nat.reduceLeDiff, true_and, and_true, Bool.not_true, Bool.not_false, decide_eq_true_eq, List.append_nil, bType, bIsi, bLen, bInt, ty_int, ty_bl, ty_str, ty_non, ty_tup, isT, oIs, oIsNot, oSub, oAdd, oIx, run_eqI, run_neI, Bool.or_false, Bool.or_true, Bool.false_or, Bool.true_or, Bool.and_true, Bool.and_false, Bool.true_and, Bool.false_and, reduceCtorEq, decide_not, Bool.not_eq_true', decide_eq_false_iff_not, askInt, askBool, askTuple, askList, askStr, oLe, oLt, oGe, oGt, oInt2, atI0, atI1, atI2]; cases k <;> simp [isSh]
    | bl => simp only [run_ok, run_okI, run_okB, run_alloc, run_stuck, run_bind, run_ite, run_noX, run_fnOf, w_c, w_op, w_un, w_call, w_callK, w_nil, w_cons, w_tup, w_lst, isB_bl, w_tval, w_tand, w_tor, w_tnot, w_and, w_or, w_not, w_if, s_next, s_seq, s_if, s_ret, s_drop, s_set, s_par, s_put, s_asg, w_var', runS_next, runS_ret, runS_stuck, runS_ite, List.length_cons, List.length_nil, List.length_singleton, List.map_cons, List.map_nil, List.cons_append, List.nil_append, List.replicate_succ, List.replicate_zero, List.getElem?_cons_zero, List.getElem?_cons_succ, List.set_cons_zero, List.set_cons_succ, Nat.reduceAdd, Nat.reduceSub, Nat.reduceEqDiff, ite_true, ite_false, if_true, if_false, reduceIte, Bool.false_eq_true, decide_true, decide_false, String.reduceEq, Int.reduceEq, Nat.reduceLeDiff, true_and, and_true, Bool.not_true, Bool.not_false, decide_eq_true_eq, List.append_nil, bType, bIsi, bLen, bInt, ty_int, ty_bl, ty_str, ty_non, ty_tup, isT, oIs, oIsNot, oSub, oAdd, oIx, run_eqI, run_neI, Bool.or_false, Bool.or_true, Bool.false_or, Bool.true_or, Bool.and_true, Bool.and_false, Bool.true_and, Bool.false_and, reduceCtorEq, decide_not, Bool.not_eq_true', decide_eq_false_iff_not, askInt, askBool, askTuple, askList, askStr, oLe, oLt, oGe, oGt, oInt2, atI0, atI1, atI2]; cases k <;> simp [isSh]
    | str => simp only [run_ok, run_okI, run_okB, run_alloc, run_stuck, run_bind, run_ite, run_noX, run_fnOf, w_c, w_op, w_un, w_call, w_callK, w_nil, w_cons, w_tup, w_lst, isB_bl, w_tval, w_tand, w_tor, w_tnot, w_and, w_or, w_not, w_if, s_next, s_seq, s_if, s_ret, s_drop, s_set, s_par, s_put, s_asg, w_var', runS_next, runS_ret, runS_stuck, runS_ite, List.length_cons, List.length_nil, List.length_singleton, List.map_cons, List.map_nil, List.cons_append, List.nil_append, List.replicate_succ, List.replicate_zero, List.getElem?_cons_zero, List.getElem?_cons_succ, List.set_cons_zero, List.set_cons_succ, Nat.reduceAdd, Nat.reduceSub, Nat.reduceEqDiff, ite_true, ite_false, if_true, if_false, reduceIte, Bool.false_eq_true, decide_true, decide_false, String.reduceEq, Int.reduceEq, Nat.reduceLeDiff, true_and, and_true, Bool.not_true, Bool.not_false, decide_eq_true_eq, List.append_nil, bType, bIsi, bLen, bInt, ty_int, ty_bl, ty_str, ty_non, ty_tup, isT, oIs, oIsNot, oSub, oAdd, oIx, run_eqI, run_neI, Bool.or_false, Bool.or_true, Bool.false_or, Bool.true_or, Bool.and_true, Bool.and_false, Bool.true_and, Bool.false_and, reduceCtorEq, decide_not, Bool.not_eq_true', decide_eq_false_iff_not, askInt, askBool, askTuple, askList, askStr, oLe, oLt, oGe, oGt, oInt2, atI0, atI1, atI2]; cases k <;> simp [isSh]
    | @ref _ m ys hn _ =>
      simp only [ty_ref hn, run_ok, run_okI, run_okB, run_alloc, run_stuck, run_bind, run_ite, run_noX, run_fnOf, w_c, w_op, w_un, w_call, w_callK, w_nil, w_cons, w_tup, w_lst, isB_bl, w_tval, w_tand, w_tor, w_tnot, w_and, w_or, w_not, w_if, s_next, s_seq, s_if, s_ret, s_drop, s_set, s_par, s_put, s_asg, w_var', runS_next, runS_ret, runS_stuck, runS_ite, List.length_cons, List.length_nil, List.length_singleton, List.map_cons, List.map_nil, List.cons_append, List.nil_append, List.replicate_succ, List.replicate_zero, List.getElem?_cons_zero, List.getElem?_cons_succ, List.set_cons_zero, List.set_cons_succ, Nat.reduceAdd, Nat.reduceSub, Nat.reduceEqDiff, ite_true, ite_false, if_true, if_false, reduceIte, Bool.false_eq_true, decide_true, decide_false, String.reduceEq, Int.reduceEq, Nat.reduceLeDiff, true_and, and_true, Bool.not_true, Bool.not_false, decide_eq_true_eq, List.append_nil, bType, bIsi, bLen, bInt, ty_int, ty_bl, ty_str, ty_non, ty_tup, isT, oIs, oIsNot, oSub, oAdd, oIx, run_eqI, run_neI, Bool.or_false, Bool.or_true, Bool.false_or, Bool.true_or, Bool.and_true, Bool.and_false, Bool.true_and, Bool.false_and, reduceCtorEq, decide_not, Bool.not_eq_true', decide_eq_false_iff_not, askInt, askBool, askTuple, askList, askStr, oLe, oLt, oGe, oGt, oInt2, atI0, atI1, atI2]
      cases k <;> simp [isSh]
    | @tup e' xs hx =>
      simp only [run_ok, run_okI, run_okB, run_alloc, run_stuck, run_bind, run_ite, run_noX, run_fnOf, w_c, w_op, w_un, w_call, w_callK, w_nil, w_cons, w_tup, w_lst, isB_bl, w_tval, w_tand, w_tor, w_tnot, w_and, w_or, w_not, w_if, s_next, s_seq, s_if, s_ret, s_drop, s_set, s_par, s_put, s_asg, w_var', runS_next, runS_ret, runS_stuck, runS_ite, List.length_cons, List.length_nil, List.length_singleton, List.map_cons, List.map_nil, List.cons_append, List.nil_append, List.replicate_succ, List.replicate_zero, List.getElem?_cons_zero, List.getElem?_cons_succ, List.set_cons_zero, List.set_cons_succ, Nat.reduceAdd, Nat.reduceSub, Nat.reduceEqDiff, ite_true, ite_false, if_true, if_false, reduceIte, Bool.false_eq_true, decide_true, decide_false, String.reduceEq, Int.reduceEq, Nat.reduceLeDiff, true_and, and_true, Bool.not_true, Bool.not_false, decide_eq_true_eq, List.append_nil, bType, bIsi, bLen, bInt, ty_int, ty_bl, ty_str, ty_non, ty_tup, isT, oIs, oIsNot, oSub, oAdd, oIx, run_eqI, run_neI, Bool.or_false, Bool.or_true, Bool.false_or, Bool.true_or, Bool.and_true, Bool.and_false, Bool.true_and, Bool.false_and, reduceCtorEq, decide_not, Bool.not_eq_true', decide_eq_false_iff_not, askInt, askBool, askTuple, askList, askStr, oLe, oLt, oGe, oGt, oInt2, atI0, atI1, atI2]
      by_cases hk : k = 0
      · subst hk
        rw [if_pos (by rfl)]
        simp [isSh]
      · rw [if_neg (by omega)]
        by_cases hl : xs.length = 2
        · obtain ⟨a, b, rfl⟩ := two_of hl
          have ha := hx a (by simp)
          have hb := hx b (by simp)
          obtain ⟨k, rfl⟩ : ∃ j, k = j + 1 := ⟨k - 1, by omega⟩
          have ek : ((k + 1 : Nat) : Int) - 1 = (k : Int) := by omega
          rw [if_neg (by simp)]
          simp only [ek, run_ok, run_okI, run_okB, run_alloc, run_stuck, run_bind, run_ite, run_noX, run_fnOf, w_c, w_op, w_un, w_call, w_callK, w_nil, w_cons, w_tup, w_lst, isB_bl, w_tval, w_tand, w_tor, w_tnot, w_and, w_or, w_not, w_if, s_next, s_seq, s_if, s_ret, s_drop, s_set, s_par, s_put, s_asg, w_var', runS_next, runS_ret, runS_stuck, runS_ite, List.length_cons, List.length_nil, List.length_singleton, List.map_cons, List.map_nil, List.cons_append, List.nil_append, List.replicate_succ, List.replicate_zero, List.getElem?_cons_zero, List.getElem?_cons_succ, List.set_cons_zero, List.set_cons_succ, Nat.reduceAdd, Nat.reduceSub, Nat.reduceEqDiff, ite_true, ite_false, if_true, if_false, reduceIte, Bool.false_eq_true, decide_true, decide_false, String.reduceEq, Int.reduceEq, Nat.reduceLeDiff, true_and, and_true, Bool.not_true, Bool.not_false, decide_eq_true_eq, List.append_nil, bType, bIsi, bLen, bInt, ty_int, ty_bl, ty_str, ty_non, ty_tup, isT, oIs, oIsNot, oSub, oAdd, oIx, run_eqI, run_neI, Bool.or_false, Bool.or_true, Bool.false_or, Bool.true_or, Bool.and_true, Bool.and_false, Bool.true_and, Bool.false_and, reduceCtorEq, decide_not, Bool.not_eq_true', decide_eq_false_iff_not, askInt, askBool, askTuple, askList, askStr, oLe, oLt, oGe, oGt, oInt2, atI0, atI1, atI2]
          refine Run.mono (l_is_share e' n k a S ha (by omega) (by omega)) fun r S1 ⟨er, eS⟩ => ?_
          subst er eS
          rw [isB_bl, isSh_pair]
          cases hsa : isSh k a with
          | false => simp
          | true =>
            simp only [run_ok, run_okI, run_okB, run_alloc, run_stuck, run_bind, run_ite, run_noX, run_fnOf, w_c, w_op, w_un, w_call, w_callK, w_nil, w_cons, w_tup, w_lst, isB_bl, w_tval, w_tand, w_tor, w_tnot, w_and, w_or, w_not, w_if, s_next, s_seq, s_if, s_ret, s_drop, s_set, s_par, s_put, s_asg, w_var', runS_next, runS_ret, runS_stuck, runS_ite, List.length_cons, List.length_nil, List.length_singleton, List.map_cons, List.map_nil, List.cons_append, List.nil_append, List.replicate_succ, List.replicate_zero, List.getElem?_cons_zero, List.getElem?_cons_succ, List.set_cons_zero, List.set_cons_succ, Nat.reduceAdd, Nat.reduceSub, Nat.reduceEqDiff, ite_true, ite_false, if_true, if_false, reduceIte, Bool.false_eq_true, decide_true, decide_false, String.reduceEq, Int.reduceEq, Nat.reduceLeDiff, true_and, and_true, Bool.not_true, Bool.not_false, decide_eq_true_eq, List.append_nil, bType, bIsi, bLen, bInt, ty_int, ty_bl, ty_str, ty_non, ty_tup, isT, oIs, oIsNot, oSub, oAdd, oIx, run_eqI, run_neI, Bool.or_false, Bool.or_true, Bool.false_or, Bool.true_or, Bool.and_true, Bool.and_false, Bool.true_and, Bool.false_and, reduceCtorEq, decide_not, Bool.not_eq_true', decide_eq_false_iff_not, askInt, askBool, askTuple, askList, askStr, oLe, oLt, oGe, oGt, oInt2, atI0, atI1, atI2]
            refine Run.mono (l_is_share e' n k b S1 hb (by omega) (by omega)) fun r S2 ⟨er, eS⟩ => ?_
            subst er eS
            rw [isB_bl]
            cases hsb : isSh k b with
            | false => simp
            | true =>
              simp only [run_ok, run_okI, run_okB, run_alloc, run_stuck, run_bind, run_ite, run_noX, run_fnOf, w_c, w_op, w_un, w_call, w_callK, w_nil, w_cons, w_tup, w_lst, isB_bl, w_tval, w_tand, w_tor, w_tnot, w_and, w_or, w_not, w_if, s_next, s_seq, s_if, s_ret, s_drop, s_set, s_par, s_put, s_asg, w_var', runS_next, runS_ret, runS_stuck, runS_ite, List.length_cons, List.length_nil, List.length_singleton, List.map_cons, List.map_nil, List.cons_append, List.nil_append, List.replicate_succ, List.replicate_zero, List.getElem?_cons_zero, List.getElem?_cons_succ, List.set_cons_zero, List.set_cons_succ, Nat.reduceAdd, Nat.reduceSub, Nat.reduceEqDiff, ite_true, ite_false, if_true, if_false, reduceIte, Bool.false_eq_true, decide_true, decide_false, String.reduceEq, Int.reduceEq, Nat.reduceLeDiff, true_and, and_true, Bool.not_true, Bool.not_false, decide_eq_true_eq, List.append_nil, bType, bIsi, bLen, bInt, ty_int, ty_bl, ty_str, ty_non, ty_tup, isT, oIs, oIsNot, oSub, oAdd, oIx, run_eqI, run_neI, Bool.or_false, Bool.or_true, Bool.false_or, Bool.true_or, Bool.and_true, Bool.and_false, Bool.true_and, Bool.false_and, reduceCtorEq, decide_not, Bool.not_eq_true', decide_eq_false_iff_not, askInt, askBool, askTuple, askList, askStr, oLe, oLt, oGe, oGt, oInt2, atI0, atI1, atI2]
              rw [run_ne ha hb (by omega) (by omega)]
              simp only [run_ok, run_okI, run_okB, run_alloc, run_stuck, run_bind, run_ite, run_noX, run_fnOf, w_c, w_op, w_un, w_call, w_callK, w_nil, w_cons, w_tup, w_lst, isB_bl, w_tval, w_tand, w_tor, w_tnot, w_and, w_or, w_not, w_if, s_next, s_seq, s_if, s_ret, s_drop, s_set, s_par, s_put, s_asg, w_var', runS_next, runS_ret, runS_stuck, runS_ite, List.length_cons, List.length_nil, List.length_singleton, List.map_cons, List.map_nil, List.cons_append, List.nil_append, List.replicate_succ, List.replicate_zero, List.getElem?_cons_zero, List.getElem?_cons_succ, List.set_cons_zero, List.set_cons_succ, Nat.reduceAdd, Nat.reduceSub, Nat.reduceEqDiff, ite_true, ite_false, if_true, if_false, reduceIte, Bool.false_eq_true, decide_true, decide_false, String.reduceEq, Int.reduceEq, Nat.reduceLeDiff, true_and, and_true, Bool.not_true, Bool.not_false, decide_eq_true_eq, List.append_nil, bType, bIsi, bLen, bInt, ty_int, ty_bl, ty_str, ty_non, ty_tup, isT, oIs, oIsNot, oSub, oAdd, oIx, run_eqI, run_neI, Bool.or_false, Bool.or_true, Bool.false_or, Bool.true_or, Bool.and_true, Bool.and_false, Bool.true_and, Bool.false_and, reduceCtorEq, decide_not, Bool.not_eq_true', decide_eq_false_iff_not, askInt, askBool, askTuple, askList, askStr, oLe, oLt, oGe, oGt, oInt2, atI0, atI1, atI2]
              have fin : ∀ i : Int, a = .int i → (PyData.eqv (dat S2 a) (dat S2 b)) = sameI a b := fun i e => by
                subst e
                rw [dat_int]
                cases hb with
                | int _ j => show (i == j) = decide (i = j); rw [Bool.beq_eq_decide_eq]
                | tup hy => rw [dat_tup hy (by omega)]; rfl
                | _ => cases k <;> cases hsb
              cases ha with
              | int _ i =>
                rw [fin i rfl]
                cases sameI (.int i) b with
                | false => simp
                | true => simp only [run_ok, run_okI, run_okB, run_alloc, run_stuck, run_bind, run_ite, run_noX, run_fnOf, w_c, w_op, w_un, w_call, w_callK, w_nil, w_cons, w_tup, w_lst, isB_bl, w_tval, w_tand, w_tor, w_tnot, w_and, w_or, w_not, w_if, s_next, s_seq, s_if, s_ret, s_drop, s_set, s_par, s_put, s_asg, w_var', runS_next, runS_ret, runS_stuck, runS_ite, List.length_cons, List.length_nil, List.length_singleton, List.map_cons, List.map_nil, List.cons_append, List.nil_append, List.replicate_succ, List.replicate_zero, List.getElem?_cons_zero, List.getElem?_cons_succ, List.set_cons_zero, List.set_cons_succ, Nat.reduceAdd, Nat.reduceSub, Nat.reduceEqDiff, ite_true, ite_false, if_true, if_false, reduceIte, Bool.false_eq_true, decide_true, decide_false, String.reduceEq, Int.reduceEq, Nat.reduceLeDiff, true_and, and_true, Bool.not_true, Bool.not_false, decide_eq_true_eq, List.append_nil, bType, bIsi, bLen, bInt, ty_int, ty_bl, ty_str, ty_non, ty_tup, isT, oIs, oIsNot, oSub, oAdd, oIx, run_eqI, run_neI, Bool.or_false, Bool.or_true, Bool.false_or, Bool.true_or, Bool.and_true, Bool.and_false, Bool.true_and, Bool.false_and, reduceCtorEq, decide_not, Bool.not_eq_true', decide_eq_false_iff_not, askInt, askBool, askTuple, askList, askStr, oLe, oLt, oGe, oGt, oInt2, atI0, atI1, atI2]
              | tup hy => 
                have : ∀ xs, sameI (.tup xs) b = false := fun _ => rfl
                rw [this]
                split
                · rfl
                · simp only [run_ok, run_okI, run_okB, run_alloc, run_stuck, run_bind, run_ite, run_noX, run_fnOf, w_c, w_op, w_un, w_call, w_callK, w_nil, w_cons, w_tup, w_lst, isB_bl, w_tval, w_tand, w_tor, w_tnot, w_and, w_or, w_not, w_if, s_next, s_seq, s_if, s_ret, s_drop, s_set, s_par, s_put, s_asg, w_var', runS_next, runS_ret, runS_stuck, runS_ite, List.length_cons, List.length_nil, List.length_singleton, List.map_cons, List.map_nil, List.cons_append, List.nil_append, List.replicate_succ, List.replicate_zero, List.getElem?_cons_zero, List.getElem?_cons_succ, List.set_cons_zero, List.set_cons_succ, Nat.reduceAdd, Nat.reduceSub, Nat.reduceEqDiff, ite_true, ite_false, if_true, if_false, reduceIte, Bool.false_eq_true, decide_true, decide_false, String.reduceEq, Int.reduceEq, Nat.reduceLeDiff, true_and, and_true, Bool.not_true, Bool.not_false, decide_eq_true_eq, List.append_nil, bType, bIsi, bLen, bInt, ty_int, ty_bl, ty_str, ty_non, ty_tup, isT, oIs, oIsNot, oSub, oAdd, oIx, run_eqI, run_neI, Bool.or_false, Bool.or_true, Bool.false_or, Bool.true_or, Bool.and_true, Bool.and_false, Bool.true_and, Bool.false_and, reduceCtorEq, decide_not, Bool.not_eq_true', decide_eq_false_iff_not, askInt, askBool, askTuple, askList, askStr, oLe, oLt, oGe, oGt, oInt2, atI0, atI1, atI2]
              | _ => cases k <;> cases hsa
        · rw [if_pos (by omega)]
          rw [isSh_len hl]
theorem atIm1 {α : Type} {a b : α} : L2.atI [a, b] (-1) = some b := rfl
theorem atIm2 {α : Type} {a b : α} : L2.atI [a, b] (-2) = some a := rfl
theorem atIm1' {α : Type} {a b c : α} : L2.atI [a, b, c] (-1) = some c := rfl
theorem atIm2' {α : Type} {a b c : α} : L2.atI [a, b, c] (-2) = some b := rfl
/-- a tree whose size the law tells so -/
inductive Sz : Nat → Val → Prop
  | int (d : Nat) (i : Int) : Sz d (.int i)
  | two {d : Nat} {a b : Val} : Sz d a → Sz d b → Sz (d + 1) (.tup [a, b])
  | three {d : Nat} {n : Int} {a b : Val} : Sz d a → Sz d b → Sz (d + 1) (.tup [.int n, a, b])
theorem isSh_sz : ∀ (k : Nat) (v : Val), isSh k v = true → Sz k v
  | k, v, h => by
    cases v with
    | int i => exact .int _ i
    | tup xs =>
      by_cases hl : xs.length = 2
      · obtain ⟨a, b, rfl⟩ := two_of hl
        cases k with
        | zero => simp [isSh] at h
        | succ k =>
          rw [isSh_pair] at h
          simp only [Bool.and_eq_true] at h
          exact .two (isSh_sz k a h.1.1) (isSh_sz k b h.1.2)
      · rw [isSh_len hl] at h; cases h
    | _ => cases k <;> cases h
theorem l_size : ∀ (k n : Nat) (v : Val) (S : Store), Sz k v → k < n → Run ((fns n)._law_size [v] S) (fun r S' => r = .int (tcount v) ∧ S' = S)
  | k, 0, v, S, _, h => absurd h (Nat.not_lt_zero _)
  | k, n + 1, v, S, hv, h => by
    show Run (fnOf 1 1 (b__law_size (fns n)) [v] S) _
    unfold b__law_size
    cases hv with
    | int _ i => simp only [run_ok, run_okI, run_okB, run_alloc, run_stuck, run_bind, run_ite, run_noX, run_fnOf, w_c, w_op, w_un, w_call, w_callK, w_nil, w_cons, w_tup, w_lst, isB_bl, w_tval, w_tand, w_tor, w_tnot, w_and, w_or, w_not, w_if, s_next, s_seq, s_if, s_ret, s_drop, s_set, s_par, s_put, s_asg, w_var', runS_next, runS_ret, runS_stuck, runS_ite, List.length_cons, List.length_nil, List.length_singleton, List.map_cons, List.map_nil, List.cons_append, List.nil_append, List.replicate_succ, List.replicate_zero, List.getElem?_cons_zero, List.getElem?_cons_succ, List.set_cons_zero, List.set_cons_succ, Nat.reduceAdd, Nat.reduceSub, Nat.reduceEqDiff, ite_true, ite_false, if_true, if_false, reduceIte, Bool.false_eq_true, decide_true, decide_false, String.reduceEq, Int.reduceEq, Nat.reduceLeDiff, true_and, and_true, Bool.not_true, Bool.not_false, decide_eq_true_eq, List.append_nil, bType, bIsi, bLen, bInt, ty_int, ty_bl, ty_str, ty_non, ty_tup, isT, oIs, oIsNot, oSub, oAdd, oIx, run_eqI, run_neI, Bool.or_false, Bool.or_true, Bool.false_or, Bool.true_or, Bool.and_true, Bool.and_false, Bool.true_and, Bool.false_and, reduceCtorEq, decide_not, Bool.not_eq_true', decide_eq_false_iff_not, askInt, askBool, askTuple, askList, askStr, oLe, oLt, oGe, oGt, oInt2, atI0, atI1, atI2]; rfl
    | @two k a b ha hb =>
      simp only [w_un, oNeg, atIm1, atIm2, run_ok, run_okI, run_okB, run_alloc, run_stuck, run_bind, run_ite, run_noX, run_fnOf, w_c, w_op, w_un, w_call, w_callK, w_nil, w_cons, w_tup, w_lst, isB_bl, w_tval, w_tand, w_tor, w_tnot, w_and, w_or, w_not, w_if, s_next, s_seq, s_if, s_ret, s_drop, s_set, s_par, s_put, s_asg, w_var', runS_next, runS_ret, runS_stuck, runS_ite, List.length_cons, List.length_nil, List.length_singleton, List.map_cons, List.map_nil, List.cons_append, List.nil_append, List.replicate_succ, List.replicate_zero, List.getElem?_cons_zero, List.getElem?_cons_succ, List.set_cons_zero, List.set_cons_succ, Nat.reduceAdd, Nat.reduceSub, Nat.reduceEqDiff, ite_true, ite_false, if_true, if_false, reduceIte, Bool.false_eq_true, decide_true, decide_false, String.reduceEq, Int.reduceEq, Nat.reduceLeDiff, true_and, and_true, Bool.not_true, Bool.not_false, decide_eq_true_eq, List.append_nil, bType, bIsi, bLen, bInt, ty_int, ty_bl, ty_str, ty_non, ty_tup, isT, oIs, oIsNot, oSub, oAdd, oIx, run_eqI, run_neI, Bool.or_false, Bool.or_true, Bool.false_or, Bool.true_or, Bool.and_true, Bool.and_false, Bool.true_and, Bool.false_and, reduceCtorEq, decide_not, Bool.not_eq_true', decide_eq_false_iff_not, askInt, askBool, askTuple, askList, askStr, oLe, oLt, oGe, oGt, oInt2, atI0, atI1, atI2]
      refine Run.mono (l_size k n a S ha (by omega)) fun r S1 ⟨er, eS⟩ => ?_
      subst er eS
      simp only [w_un, oNeg, atIm1, atIm2, run_ok, run_okI, run_okB, run_alloc, run_stuck, run_bind, run_ite, run_noX, run_fnOf, w_c, w_op, w_un, w_call, w_callK, w_nil, w_cons, w_tup, w_lst, isB_bl, w_tval, w_tand, w_tor, w_tnot, w_and, w_or, w_not, w_if, s_next, s_seq, s_if, s_ret, s_drop, s_set, s_par, s_put, s_asg, w_var', runS_next, runS_ret, runS_stuck, runS_ite, List.length_cons, List.length_nil, List.length_singleton, List.map_cons, List.map_nil, List.cons_append, List.nil_append, List.replicate_succ, List.replicate_zero, List.getElem?_cons_zero, List.getElem?_cons_succ, List.set_cons_zero, List.set_cons_succ, Nat.reduceAdd, Nat.reduceSub, Nat.reduceEqDiff, ite_true, ite_false, if_true, if_false, reduceIte, Bool.false_eq_true, decide_true, decide_false, String.reduceEq, Int.reduceEq, Nat.reduceLeDiff, true_and, and_true, Bool.not_true, Bool.not_false, decide_eq_true_eq, List.append_nil, bType, bIsi, bLen, bInt, ty_int, ty_bl, ty_str, ty_non, ty_tup, isT, oIs, oIsNot, oSub, oAdd, oIx, run_eqI, run_neI, Bool.or_false, Bool.or_true, Bool.false_or, Bool.true_or, Bool.and_true, Bool.and_false, Bool.true_and, Bool.false_and, reduceCtorEq, decide_not, Bool.not_eq_true', decide_eq_false_iff_not, askInt, askBool, askTuple, askList, askStr, oLe, oLt, oGe, oGt, oInt2, atI0, atI1, atI2]
      refine Run.mono (l_size k n b S1 hb (by omega)) fun r S2 ⟨er, eS⟩ => ?_
      subst er eS
      simp only [run_ok, run_okI, run_okB, run_alloc, run_stuck, run_bind, run_ite, run_noX, run_fnOf, w_c, w_op, w_un, w_call, w_callK, w_nil, w_cons, w_tup, w_lst, isB_bl, w_tval, w_tand, w_tor, w_tnot, w_and, w_or, w_not, w_if, s_next, s_seq, s_if, s_ret, s_drop, s_set, s_par, s_put, s_asg, w_var', runS_next, runS_ret, runS_stuck, runS_ite, List.length_cons, List.length_nil, List.length_singleton, List.map_cons, List.map_nil, List.cons_append, List.nil_append, List.replicate_succ, List.replicate_zero, List.getElem?_cons_zero, List.getElem?_cons_succ, List.set_cons_zero, List.set_cons_succ, Nat.reduceAdd, Nat.reduceSub, Nat.reduceEqDiff, ite_true, ite_false, if_true, if_false, reduceIte, Bool.false_eq_true, decide_true, decide_false, String.reduceEq, Int.reduceEq, Nat.reduceLeDiff, true_and, and_true, Bool.not_true, Bool.not_false, decide_eq_true_eq, List.append_nil, bType, bIsi, bLen, bInt, ty_int, ty_bl, ty_str, ty_non, ty_tup, isT, oIs, oIsNot, oSub, oAdd, oIx, run_eqI, run_neI, Bool.or_false, Bool.or_true, Bool.false_or, Bool.true_or, Bool.and_true, Bool.and_false, Bool.true_and, Bool.false_and, reduceCtorEq, decide_not, Bool.not_eq_true', decide_eq_false_iff_not, askInt, askBool, askTuple, askList, askStr, oLe, oLt, oGe, oGt, oInt2, atI0, atI1, atI2]
      simp only [tcount, tcounts]
      congr 1; omega
    | @three k i a b ha hb =>
      simp only [w_un, oNeg, atIm1', atIm2', run_ok, run_okI, run_okB, run_alloc, run_stuck, run_bind, run_ite, run_noX, run_fnOf, w_c, w_op, w_un, w_call, w_callK, w_nil, w_cons, w_tup, w_lst, isB_bl, w_tval, w_tand, w_tor, w_tnot, w_and, w_or, w_not, w_if, s_next, s_seq, s_if, s_ret, s_drop, s_set, s_par, s_put, s_asg, w_var', runS_next, runS_ret, runS_stuck, runS_ite, List.length_cons, List.length_nil, List.length_singleton, List.map_cons, List.map_nil, List.cons_append, List.nil_append, List.replicate_succ, List.replicate_zero, List.getElem?_cons_zero, List.getElem?_cons_succ, List.set_cons_zero, List.set_cons_succ, Nat.reduceAdd, Nat.reduceSub, Nat.reduceEqDiff, ite_true, ite_false, if_true, if_false, reduceIte, Bool.false_eq_true, decide_true, decide_false, String.reduceEq, Int.reduceEq, Nat.reduceLeDiff, true_and, and_true, Bool.not_true, Bool.not_false, decide_eq_true_eq, List.append_nil, bType, bIsi, bLen, bInt, ty_int, ty_bl, ty_str, ty_non, ty_tup, isT, oIs, oIsNot, oSub, oAdd, oIx, run_eqI, run_neI, Bool.or_false, Bool.or_true, Bool.false_or, Bool.true_or, Bool.and_true, Bool.and_false, Bool.true_and, Bool.false_and, reduceCtorEq, decide_not, Bool.not_eq_true', decide_eq_false_iff_not, askInt, askBool, askTuple, askList, askStr, oLe, oLt, oGe, oGt, oInt2, atI0, atI1, atI2]
      refine Run.mono (l_size k n a S ha (by omega)) fun r S1 ⟨er, eS⟩ => ?_
      subst er eS
      simp only [w_un, oNeg, atIm1', atIm2', run_ok, run_okI, run_okB, run_alloc, run_stuck, run_bind, run_ite, run_noX, run_fnOf, w_c, w_op, w_un, w_call, w_callK, w_nil, w_cons, w_tup, w_lst, isB_bl, w_tval, w_tand, w_tor, w_tnot, w_and, w_or, w_not, w_if, s_next, s_seq, s_if, s_ret, s_drop, s_set, s_par, s_put, s_asg, w_var', runS_next, runS_ret, runS_stuck, runS_ite, List.length_cons, List.length_nil, List.length_singleton, List.map_cons, List.map_nil, List.cons_append, List.nil_append, List.replicate_succ, List.replicate_zero, List.getElem?_cons_zero, List.getElem?_cons_succ, List.set_cons_zero, List.set_cons_succ, Nat.reduceAdd, Nat.reduceSub, Nat.reduceEqDiff, ite_true, ite_false, if_true, if_false, reduceIte, Bool.false_eq_true, decide_true, decide_false, String.reduceEq, Int.reduceEq, Nat.reduceLeDiff, true_and, and_true, Bool.not_true, Bool.not_false, decide_eq_true_eq, List.append_nil, bType, bIsi, bLen, bInt, ty_int, ty_bl, ty_str, ty_non, ty_tup, isT, oIs, oIsNot, oSub, oAdd, oIx, run_eqI, run_neI, Bool.or_false, Bool.or_true, Bool.false_or, Bool.true_or, Bool.and_true, Bool.and_false, Bool.true_and, Bool.false_and, reduceCtorEq, decide_not, Bool.not_eq_true', decide_eq_false_iff_not, askInt, askBool, askTuple, askList, askStr, oLe, oLt, oGe, oGt, oInt2, atI0, atI1, atI2]
      refine Run.mono (l_size k n b S1 hb (by omega)) fun r S2 ⟨er, eS⟩ => ?_
      subst er eS
      simp only [run_ok, run_okI, run_okB, run_alloc, run_stuck, run_bind, run_ite, run_noX, run_fnOf, w_c, w_op, w_un, w_call, w_callK, w_nil, w_cons, w_tup, w_lst, isB_bl, w_tval, w_tand, w_tor, w_tnot, w_and, w_or, w_not, w_if, s_next, s_seq, s_if, s_ret, s_drop, s_set, s_par, s_put, s_asg, w_var', runS_next, runS_ret, runS_stuck, runS_ite, List.length_cons, List.length_nil, List.length_singleton, List.map_cons, List.map_nil, List.cons_append, List.nil_append, List.replicate_succ, List.replicate_zero, List.getElem?_cons_zero, List.getElem?_cons_succ, List.set_cons_zero, List.set_cons_succ, Nat.reduceAdd, Nat.reduceSub, Nat.reduceEqDiff, ite_true, ite_false, if_true, if_false, reduceIte, Bool.false_eq_true, decide_true, decide_false, String.reduceEq, Int.reduceEq, Nat.reduceLeDiff, true_and, and_true, Bool.not_true, Bool.not_false, decide_eq_true_eq, List.append_nil, bType, bIsi, bLen, bInt, ty_int, ty_bl, ty_str, ty_non, ty_tup, isT, oIs, oIsNot, oSub, oAdd, oIx, run_eqI, run_neI, Bool.or_false, Bool.or_true, Bool.false_or, Bool.true_or, Bool.and_true, Bool.and_false, Bool.true_and, Bool.false_and, reduceCtorEq, decide_not, Bool.not_eq_true', decide_eq_false_iff_not, askInt, askBool, askTuple, askList, askStr, oLe, oLt, oGe, oGt, oInt2, atI0, atI1, atI2]
      simp only [tcount, tcounts]
      congr 1; omega
end PD.K02

/-! ## K02M3 -/
set_option Elab.async false
set_option linter.all false
set_option maxRecDepth 100000
set_option maxHeartbeats 4000000
namespace PD.K02
open PySem PySem.Spec L2 PD LT
inductive Sm : Nat → Val → Prop
  | non (d : Nat) : Sm d .non
  | bl (d : Nat) (b : Bool) : Sm d (.bl b)
  | int (d : Nat) (i : Int) : Sm d (.int i)
  | str (d : Nat) (z : Str) : (PyData.str z).canLay0 = true → Sm d (.str z)
  | tup {d : Nat} {xs : List Val} : xs.length ≤ 1000 → (∀ x ∈ xs, Sm d x) → Sm (d + 1) (.tup xs)
/-- where all that is asked of both is the same: their items -/
theorem same_tail {n : Nat} {f g : Val} {xs : List Val} {S : Store} (hf : ∀ (i : Nat) (x : Val) (S' : Store) (Q : Val → Store → Prop), xs[i]? = some x → Kp S S' → Run (oIx f (.int i) S') Q = Q x S') (hg : ∀ (i : Nat) (x : Val) (S' : Store) (Q : Val → Store → Prop), xs[i]? = some x → Kp S S' → Run (oIx g (.int i) S') Q = Q x S')
    (hl : Run (bLen [g] S) fun r S' => r = .int xs.length ∧ S' = S) (h1000 : xs.length ≤ 1000) (ih : ∀ x ∈ xs, ∀ S', Kp S S' → Run ((fns n)._law_same [x, x] S') (PureK S' (.bl true))) :
    Hid (Run (dCall bAll (aCons (dLCR (aCons (dCall bLen (aCons (dVar 1) aNil)) aNil) (gN 2) tYes' (dCall (fns n)._law_same (aCons (dOp oIx (dVar 0) (dVar 2)) (aCons (dOp oIx (dVar 1) (dVar 2)) aNil))) [2]) aNil) [some f, some g, none] S) (PureK S (.bl true))) := by
  refine ⟨?_⟩
  rw [w_call, w_cons]
  refine Run.mono (run_lcrK (j := xs.length) (g := fun _ => .bl true) ?_ (by omega) fun x hx S' k => ?_) fun r S1 ⟨S2, e1, e2, k⟩ => ?_
  · rw [w_cons, w_call, w_cons, w_var (v := g) rfl, w_nil]
    refine Run.mono hl fun r S' ⟨e1, e2⟩ => ?_
    subst e1 e2
    exact ⟨rfl, rfl⟩
  · obtain ⟨i, hi, rfl⟩ := List.mem_map.mp hx
    rw [List.mem_range] at hi
    have ei : xs[i]? = some xs[i] := List.getElem?_eq_getElem hi
    have ez : (0 : Int) + (i : Int) = (i : Int) := by omega
    rw [ez, w_call, w_cons, w_op, w_var (v := f) rfl, w_var (v := .int i) rfl, hf i _ S' _ ei k, w_cons, w_op, w_var (v := g) rfl, w_var (v := .int i) rfl, hg i _ S' _ ei k, w_nil]
    exact ih _ (List.getElem_mem hi) S' k
  · subst e1 e2
    rw [w_nil]
    refine Run.mono all_true fun r S3 ⟨e, k3⟩ => ⟨e, k.trans k3⟩
theorem l_same_sm : ∀ (d n : Nat) (v : Val) (S : Store), Sm d v → d < n → d < 60 → Run ((fns n)._law_same [v, v] S) (PureK S (.bl true))
  | d, 0, v, S, _, h, _ => absurd h (Nat.not_lt_zero _)
  | d, n + 1, v, S, hv, h, h60 => by
    show Run (fnOf 2 3 (b__law_same (fns n)) [v, v] S) _
    unfold b__law_same
    cases hv with
    | non =>
      simp only [run_ok, run_okI, run_okB, run_alloc, run_stuck, run_bind, run_ite, run_noX, run_fnOf, w_c, w_op, w_un, w_call, w_callK, w_nil, w_cons, w_tup, w_lst, isB_bl, w_tval, w_tand, w_tor, w_tnot, w_and, w_or, w_not, w_if, s_next, s_seq, s_if, s_ret, s_drop, s_set, s_par, s_put, s_asg, w_var', runS_next, runS_ret, runS_stuck, runS_ite, List.length_cons, List.length_nil, List.length_singleton, List.map_cons, List.map_nil, List.cons_append, List.nil_append, List.replicate_succ, List.replicate_zero, List.getElem?_cons_zero, List.getElem?_cons_succ, List.set_cons_zero, List.set_cons_succ, Nat.reduceAdd, Nat.reduceSub, Nat.reduceEqDiff, ite_true, ite_false, if_true, if_false, reduceIte, Bool.false_eq_true, decide_true, decide_false, String.reduceEq, Int.reduceEq, Nat.reduceLeDiff, true_and, and_true, Bool.not_true, Bool.not_false, decide_eq_true_eq, List.append_nil, bType, bIsi, bLen, bInt, ty_int, ty_bl, ty_str, ty_non, ty_tup, isT, oIs, oIsNot, run_eqI, run_neI, Bool.or_false, Bool.or_true, Bool.false_or, Bool.true_or, Bool.and_true, Bool.and_false, Bool.true_and, Bool.false_and, reduceCtorEq, decide_not, Bool.not_eq_true', decide_eq_false_iff_not, askInt, askBool, askTuple, askList, askStr, oLe, oLt, oGe, oGt, oInt2, atI0, atI1, atI2, run_addI, run_subI]
      exact ⟨rfl, .refl _⟩
    | bl _ b => cases b <;> simp only [askInt, run_ok, run_okI, run_okB, run_alloc, run_stuck, run_bind, run_ite, run_noX, run_fnOf, w_c, w_op, w_un, w_call, w_callK, w_nil, w_cons, w_tup, w_lst, isB_bl, w_tval, w_tand, w_tor, w_tnot, w_and, w_or, w_not, w_if, s_next, s_seq, s_if, s_ret, s_drop, s_set, s_par, s_put, s_asg, w_var', runS_next, runS_ret, runS_stuck, runS_ite, List.length_cons, List.length_nil, List.length_singleton, List.map_cons, List.map_nil, List.cons_append, List.nil_append, List.replicate_succ, List.replicate_zero, List.getElem?_cons_zero, List.getElem?_cons_succ, List.set_cons_zero, List.set_cons_succ, Nat.reduceAdd, Nat.reduceSub, Nat.reduceEqDiff, ite_true, ite_false, if_true, if_false, reduceIte, Bool.false_eq_true, decide_true, decide_false, String.reduceEq, Int.reduceEq, Nat.reduceLeDiff, true_and, and_true, Bool.not_true, Bool.not_false, decide_eq_true_eq, List.append_nil, bType, bIsi, bLen, bInt, ty_int, ty_bl, ty_str, ty_non, ty_tup, isT, oIs, oIsNot, run_eqI, run_neI, Bool.or_false, Bool.or_true, Bool.false_or, Bool.true_or, Bool.and_true, Bool.and_false, Bool.true_and, Bool.false_and, reduceCtorEq, decide_not, Bool.not_eq_true', decide_eq_false_iff_not, askInt, askBool, askTuple, askList, askStr, oLe, oLt, oGe, oGt, oInt2, atI0, atI1, atI2, run_addI, run_subI] <;> exact ⟨rfl, .refl _⟩
    | int _ i =>
      simp only [askInt, askBool, run_ok, run_okI, run_okB, run_alloc, run_stuck, run_bind, run_ite, run_noX, run_fnOf, w_c, w_op, w_un, w_call, w_callK, w_nil, w_cons, w_tup, w_lst, isB_bl, w_tval, w_tand, w_tor, w_tnot, w_and, w_or, w_not, w_if, s_next, s_seq, s_if, s_ret, s_drop, s_set, s_par, s_put, s_asg, w_var', runS_next, runS_ret, runS_stuck, runS_ite, List.length_cons, List.length_nil, List.length_singleton, List.map_cons, List.map_nil, List.cons_append, List.nil_append, List.replicate_succ, List.replicate_zero, List.getElem?_cons_zero, List.getElem?_cons_succ, List.set_cons_zero, List.set_cons_succ, Nat.reduceAdd, Nat.reduceSub, Nat.reduceEqDiff, ite_true, ite_false, if_true, if_false, reduceIte, Bool.false_eq_true, decide_true, decide_false, String.reduceEq, Int.reduceEq, Nat.reduceLeDiff, true_and, and_true, Bool.not_true, Bool.not_false, decide_eq_true_eq, List.append_nil, bType, bIsi, bLen, bInt, ty_int, ty_bl, ty_str, ty_non, ty_tup, isT, oIs, oIsNot, run_eqI, run_neI, Bool.or_false, Bool.or_true, Bool.false_or, Bool.true_or, Bool.and_true, Bool.and_false, Bool.true_and, Bool.false_and, reduceCtorEq, decide_not, Bool.not_eq_true', decide_eq_false_iff_not, askInt, askBool, askTuple, askList, askStr, oLe, oLt, oGe, oGt, oInt2, atI0, atI1, atI2, run_addI, run_subI]
      exact ⟨rfl, .refl _⟩
    | str _ z hz =>
      simp only [askInt, askBool, askStr, run_ok, run_okI, run_okB, run_alloc, run_stuck, run_bind, run_ite, run_noX, run_fnOf, w_c, w_op, w_un, w_call, w_callK, w_nil, w_cons, w_tup, w_lst, isB_bl, w_tval, w_tand, w_tor, w_tnot, w_and, w_or, w_not, w_if, s_next, s_seq, s_if, s_ret, s_drop, s_set, s_par, s_put, s_asg, w_var', runS_next, runS_ret, runS_stuck, runS_ite, List.length_cons, List.length_nil, List.length_singleton, List.map_cons, List.map_nil, List.cons_append, List.nil_append, List.replicate_succ, List.replicate_zero, List.getElem?_cons_zero, List.getElem?_cons_succ, List.set_cons_zero, List.set_cons_succ, Nat.reduceAdd, Nat.reduceSub, Nat.reduceEqDiff, ite_true, ite_false, if_true, if_false, reduceIte, Bool.false_eq_true, decide_true, decide_false, String.reduceEq, Int.reduceEq, Nat.reduceLeDiff, true_and, and_true, Bool.not_true, Bool.not_false, decide_eq_true_eq, List.append_nil, bType, bIsi, bLen, bInt, ty_int, ty_bl, ty_str, ty_non, ty_tup, isT, oIs, oIsNot, run_eqI, run_neI, Bool.or_false, Bool.or_true, Bool.false_or, Bool.true_or, Bool.and_true, Bool.and_false, Bool.true_and, Bool.false_and, reduceCtorEq, decide_not, Bool.not_eq_true', decide_eq_false_iff_not, askInt, askBool, askTuple, askList, askStr, oLe, oLt, oGe, oGt, oInt2, atI0, atI1, atI2, run_addI, run_subI]
      rw [run_eq (Da.str 0 z hz) (Da.str 0 z hz) (by omega) (by omega)]
      show _ ∧ _
      refine ⟨?_, .refl _⟩
      congr 1
      exact SeqAt.eqv_refl _ hz
    | @tup d' xs hl hx =>
      refine run_fn rfl rfl ?_
      have N : ∀ {b e : SD} {R : Val → Store → Prop} {M : PD.Env → Store → Prop}, RunS (b [some (.tup xs), some (.tup xs), none] S) (fun ρ S' => ρ = [some (.tup xs), some (.tup xs), none] ∧ S' = S) R → RunS (e [some (.tup xs), some (.tup xs), none] S) M R → RunS (sSeq b e [some (.tup xs), some (.tup xs), none] S) M R := fun {b e R M} h1 h2 => s_step h1 fun ρ S' ⟨e1, e2⟩ => by subst e1 e2; exact h2
      refine N ?_ (N ?_ (N ?_ (N ?_ (N ?_ (N ?_ (N ?_ ?_))))))
      · simp only [run_ok, run_okI, run_okB, run_alloc, run_stuck, run_bind, run_ite, run_noX, run_fnOf, w_c, w_op, w_un, w_call, w_callK, w_nil, w_cons, w_tup, w_lst, isB_bl, w_tval, w_tand, w_tor, w_tnot, w_and, w_or, w_not, w_if, s_next, s_seq, s_if, s_ret, s_drop, s_set, s_par, s_put, s_asg, w_var', runS_next, runS_ret, runS_stuck, runS_ite, List.length_cons, List.length_nil, List.length_singleton, List.map_cons, List.map_nil, List.cons_append, List.nil_append, List.replicate_succ, List.replicate_zero, List.getElem?_cons_zero, List.getElem?_cons_succ, List.set_cons_zero, List.set_cons_succ, Nat.reduceAdd, Nat.reduceSub, Nat.reduceEqDiff, ite_true, ite_false, if_true, if_false, reduceIte, Bool.false_eq_true, decide_true, decide_false, String.reduceEq, Int.reduceEq, Nat.reduceLeDiff, true_and, and_true, Bool.not_true, Bool.not_false, decide_eq_true_eq, List.append_nil, bType, bIsi, bLen, bInt, ty_int, ty_bl, ty_str, ty_non, ty_tup, isT, oIs, oIsNot, run_eqI, run_neI, Bool.or_false, Bool.or_true, Bool.false_or, Bool.true_or, Bool.and_true, Bool.and_false, Bool.true_and, Bool.false_and, reduceCtorEq, decide_not, Bool.not_eq_true', decide_eq_false_iff_not, askInt, askBool, askTuple, askList, askStr, oLe, oLt, oGe, oGt, oInt2, atI0, atI1, atI2, run_addI, run_subI]
      · simp only [run_ok, run_okI, run_okB, run_alloc, run_stuck, run_bind, run_ite, run_noX, run_fnOf, w_c, w_op, w_un, w_call, w_callK, w_nil, w_cons, w_tup, w_lst, isB_bl, w_tval, w_tand, w_tor, w_tnot, w_and, w_or, w_not, w_if, s_next, s_seq, s_if, s_ret, s_drop, s_set, s_par, s_put, s_asg, w_var', runS_next, runS_ret, runS_stuck, runS_ite, List.length_cons, List.length_nil, List.length_singleton, List.map_cons, List.map_nil, List.cons_append, List.nil_append, List.replicate_succ, List.replicate_zero, List.getElem?_cons_zero, List.getElem?_cons_succ, List.set_cons_zero, List.set_cons_succ, Nat.reduceAdd, Nat.reduceSub, Nat.reduceEqDiff, ite_true, ite_false, if_true, if_false, reduceIte, Bool.false_eq_true, decide_true, decide_false, String.reduceEq, Int.reduceEq, Nat.reduceLeDiff, true_and, and_true, Bool.not_true, Bool.not_false, decide_eq_true_eq, List.append_nil, bType, bIsi, bLen, bInt, ty_int, ty_bl, ty_str, ty_non, ty_tup, isT, oIs, oIsNot, run_eqI, run_neI, Bool.or_false, Bool.or_true, Bool.false_or, Bool.true_or, Bool.and_true, Bool.and_false, Bool.true_and, Bool.false_and, reduceCtorEq, decide_not, Bool.not_eq_true', decide_eq_false_iff_not, askInt, askBool, askTuple, askList, askStr, oLe, oLt, oGe, oGt, oInt2, atI0, atI1, atI2, run_addI, run_subI]
      · simp only [run_ok, run_okI, run_okB, run_alloc, run_stuck, run_bind, run_ite, run_noX, run_fnOf, w_c, w_op, w_un, w_call, w_callK, w_nil, w_cons, w_tup, w_lst, isB_bl, w_tval, w_tand, w_tor, w_tnot, w_and, w_or, w_not, w_if, s_next, s_seq, s_if, s_ret, s_drop, s_set, s_par, s_put, s_asg, w_var', runS_next, runS_ret, runS_stuck, runS_ite, List.length_cons, List.length_nil, List.length_singleton, List.map_cons, List.map_nil, List.cons_append, List.nil_append, List.replicate_succ, List.replicate_zero, List.getElem?_cons_zero, List.getElem?_cons_succ, List.set_cons_zero, List.set_cons_succ, Nat.reduceAdd, Nat.reduceSub, Nat.reduceEqDiff, ite_true, ite_false, if_true, if_false, reduceIte, Bool.false_eq_true, decide_true, decide_false, String.reduceEq, Int.reduceEq, Nat.reduceLeDiff, true_and, and_true, Bool.not_true, Bool.not_false, decide_eq_true_eq, List.append_nil, bType, bIsi, bLen, bInt, ty_int, ty_bl, ty_str, ty_non, ty_tup, isT, oIs, oIsNot, run_eqI, run_neI, Bool.or_false, Bool.or_true, Bool.false_or, Bool.true_or, Bool.and_true, Bool.and_false, Bool.true_and, Bool.false_and, reduceCtorEq, decide_not, Bool.not_eq_true', decide_eq_false_iff_not, askInt, askBool, askTuple, askList, askStr, oLe, oLt, oGe, oGt, oInt2, atI0, atI1, atI2, run_addI, run_subI]
      · simp only [askInt, run_ok, run_okI, run_okB, run_alloc, run_stuck, run_bind, run_ite, run_noX, run_fnOf, w_c, w_op, w_un, w_call, w_callK, w_nil, w_cons, w_tup, w_lst, isB_bl, w_tval, w_tand, w_tor, w_tnot, w_and, w_or, w_not, w_if, s_next, s_seq, s_if, s_ret, s_drop, s_set, s_par, s_put, s_asg, w_var', runS_next, runS_ret, runS_stuck, runS_ite, List.length_cons, List.length_nil, List.length_singleton, List.map_cons, List.map_nil, List.cons_append, List.nil_append, List.replicate_succ, List.replicate_zero, List.getElem?_cons_zero, List.getElem?_cons_succ, List.set_cons_zero, List.set_cons_succ, Nat.reduceAdd, Nat.reduceSub, Nat.reduceEqDiff, ite_true, ite_false, if_true, if_false, reduceIte, Bool.false_eq_true, decide_true, decide_false, String.reduceEq, Int.reduceEq, Nat.reduceLeDiff, true_and, and_true, Bool.not_true, Bool.not_false, decide_eq_true_eq, List.append_nil, bType, bIsi, bLen, bInt, ty_int, ty_bl, ty_str, ty_non, ty_tup, isT, oIs, oIsNot, run_eqI, run_neI, Bool.or_false, Bool.or_true, Bool.false_or, Bool.true_or, Bool.and_true, Bool.and_false, Bool.true_and, Bool.false_and, reduceCtorEq, decide_not, Bool.not_eq_true', decide_eq_false_iff_not, askInt, askBool, askTuple, askList, askStr, oLe, oLt, oGe, oGt, oInt2, atI0, atI1, atI2, run_addI, run_subI]
      · simp only [askStr, run_ok, run_okI, run_okB, run_alloc, run_stuck, run_bind, run_ite, run_noX, run_fnOf, w_c, w_op, w_un, w_call, w_callK, w_nil, w_cons, w_tup, w_lst, isB_bl, w_tval, w_tand, w_tor, w_tnot, w_and, w_or, w_not, w_if, s_next, s_seq, s_if, s_ret, s_drop, s_set, s_par, s_put, s_asg, w_var', runS_next, runS_ret, runS_stuck, runS_ite, List.length_cons, List.length_nil, List.length_singleton, List.map_cons, List.map_nil, List.cons_append, List.nil_append, List.replicate_succ, List.replicate_zero, List.getElem?_cons_zero, List.getElem?_cons_succ, List.set_cons_zero, List.set_cons_succ, Nat.reduceAdd, Nat.reduceSub, Nat.reduceEqDiff, ite_true, ite_false, if_true, if_false, reduceIte, Bool.false_eq_true, decide_true, decide_false, String.reduceEq, Int.reduceEq, Nat.reduceLeDiff, true_and, and_true, Bool.not_true, Bool.not_false, decide_eq_true_eq, List.append_nil, bType, bIsi, bLen, bInt, ty_int, ty_bl, ty_str, ty_non, ty_tup, isT, oIs, oIsNot, run_eqI, run_neI, Bool.or_false, Bool.or_true, Bool.false_or, Bool.true_or, Bool.and_true, Bool.and_false, Bool.true_and, Bool.false_and, reduceCtorEq, decide_not, Bool.not_eq_true', decide_eq_false_iff_not, askInt, askBool, askTuple, askList, askStr, oLe, oLt, oGe, oGt, oInt2, atI0, atI1, atI2, run_addI, run_subI]
      · simp only [askTuple, askList, run_neB, run_ok, run_okI, run_okB, run_alloc, run_stuck, run_bind, run_ite, run_noX, run_fnOf, w_c, w_op, w_un, w_call, w_callK, w_nil, w_cons, w_tup, w_lst, isB_bl, w_tval, w_tand, w_tor, w_tnot, w_and, w_or, w_not, w_if, s_next, s_seq, s_if, s_ret, s_drop, s_set, s_par, s_put, s_asg, w_var', runS_next, runS_ret, runS_stuck, runS_ite, List.length_cons, List.length_nil, List.length_singleton, List.map_cons, List.map_nil, List.cons_append, List.nil_append, List.replicate_succ, List.replicate_zero, List.getElem?_cons_zero, List.getElem?_cons_succ, List.set_cons_zero, List.set_cons_succ, Nat.reduceAdd, Nat.reduceSub, Nat.reduceEqDiff, ite_true, ite_false, if_true, if_false, reduceIte, Bool.false_eq_true, decide_true, decide_false, String.reduceEq, Int.reduceEq, Nat.reduceLeDiff, true_and, and_true, Bool.not_true, Bool.not_false, decide_eq_true_eq, List.append_nil, bType, bIsi, bLen, bInt, ty_int, ty_bl, ty_str, ty_non, ty_tup, isT, oIs, oIsNot, run_eqI, run_neI, Bool.or_false, Bool.or_true, Bool.false_or, Bool.true_or, Bool.and_true, Bool.and_false, Bool.true_and, Bool.false_and, reduceCtorEq, decide_not, Bool.not_eq_true', decide_eq_false_iff_not, askInt, askBool, askTuple, askList, askStr, oLe, oLt, oGe, oGt, oInt2, atI0, atI1, atI2, run_addI, run_subI]
        simp
      · simp only [run_ok, run_okI, run_okB, run_alloc, run_stuck, run_bind, run_ite, run_noX, run_fnOf, w_c, w_op, w_un, w_call, w_callK, w_nil, w_cons, w_tup, w_lst, isB_bl, w_tval, w_tand, w_tor, w_tnot, w_and, w_or, w_not, w_if, s_next, s_seq, s_if, s_ret, s_drop, s_set, s_par, s_put, s_asg, w_var', runS_next, runS_ret, runS_stuck, runS_ite, List.length_cons, List.length_nil, List.length_singleton, List.map_cons, List.map_nil, List.cons_append, List.nil_append, List.replicate_succ, List.replicate_zero, List.getElem?_cons_zero, List.getElem?_cons_succ, List.set_cons_zero, List.set_cons_succ, Nat.reduceAdd, Nat.reduceSub, Nat.reduceEqDiff, ite_true, ite_false, if_true, if_false, reduceIte, Bool.false_eq_true, decide_true, decide_false, String.reduceEq, Int.reduceEq, Nat.reduceLeDiff, true_and, and_true, Bool.not_true, Bool.not_false, decide_eq_true_eq, List.append_nil, bType, bIsi, bLen, bInt, ty_int, ty_bl, ty_str, ty_non, ty_tup, isT, oIs, oIsNot, run_eqI, run_neI, Bool.or_false, Bool.or_true, Bool.false_or, Bool.true_or, Bool.and_true, Bool.and_false, Bool.true_and, Bool.false_and, reduceCtorEq, decide_not, Bool.not_eq_true', decide_eq_false_iff_not, askInt, askBool, askTuple, askList, askStr, oLe, oLt, oGe, oGt, oInt2, atI0, atI1, atI2, run_addI, run_subI]
      · rw [s_ret]
        have ht : ∀ (i : Nat) (x : Val) (S' : Store) (Q : Val → Store → Prop), xs[i]? = some x → Kp S S' → Run (oIx (.tup xs) (.int i) S') Q = Q x S' := fun i x S' Q e _ => by rw [run_ixT, atI_nat e]; rfl
        have hlen : Run (bLen [.tup xs] S) (fun r S' => r = .int xs.length ∧ S' = S) := ⟨rfl, rfl⟩
        have hih : ∀ x ∈ xs, ∀ S', Kp S S' → Run ((fns n)._law_same [x, x] S') (PureK S' (.bl true)) := fun x hxm S' _ => l_same_sm d' n x S' (hx x hxm) (by omega) (by omega)
        have q := same_tail (n := n) (f := .tup xs) (g := .tup xs) (xs := xs) (S := S) ht ht hlen hl hih
        cases q
        assumption
/-- two lists of the same items -/
theorem l_same_ls {d n f g : Nat} {xs : List Val} {S : Store} (hf : S[f]? = some (.lst xs)) (hg : S[g]? = some (.lst xs)) (hl : xs.length ≤ 1000) (hx : ∀ x ∈ xs, Sm d x) (hn : d + 1 < n) (h60 : d < 59) : Run ((fns n)._law_same [.ref f, .ref g] S) (PureK S (.bl true)) := by
  obtain ⟨n, rfl⟩ : ∃ m, n = m + 1 := ⟨n - 1, by omega⟩
  show Run (fnOf 2 3 (b__law_same (fns n)) [.ref f, .ref g] S) _
  unfold b__law_same
  have tf := ty_ref (S := S) hf
  have tg := ty_ref (S := S) hg
  refine run_fn rfl rfl ?_
  have N : ∀ {b d : SD} {R : Val → Store → Prop} {M : PD.Env → Store → Prop}, RunS (b [some (.ref f), some (.ref g), none] S) (fun ρ S' => ρ = [some (.ref f), some (.ref g), none] ∧ S' = S) R → RunS (d [some (.ref f), some (.ref g), none] S) M R → RunS (sSeq b d [some (.ref f), some (.ref g), none] S) M R := fun {b d R M} h1 h2 => s_step h1 fun ρ S' ⟨e1, e2⟩ => by subst e1 e2; exact h2
  refine N ?_ (N ?_ (N ?_ (N ?_ (N ?_ (N ?_ (N ?_ ?_))))))
  · simp only [oIs_ref, run_ok, run_okI, run_okB, run_alloc, run_stuck, run_bind, run_ite, run_noX, run_fnOf, w_c, w_op, w_un, w_call, w_callK, w_nil, w_cons, w_tup, w_lst, isB_bl, w_tval, w_tand, w_tor, w_tnot, w_and, w_or, w_not, w_if, s_next, s_seq, s_if, s_ret, s_drop, s_set, s_par, s_put, s_asg, w_var', runS_next, runS_ret, runS_stuck, runS_ite, List.length_cons, List.length_nil, List.length_singleton, List.map_cons, List.map_nil, List.cons_append, List.nil_append, List.replicate_succ, List.replicate_zero, List.getElem?_cons_zero, List.getElem?_cons_succ, List.set_cons_zero, List.set_cons_succ, Nat.reduceAdd, Nat.reduceSub, Nat.reduceEqDiff, ite_true, ite_false, if_true, if_false, reduceIte, Bool.false_eq_true, decide_true, decide_false, String.reduceEq, Int.reduceEq, Nat.reduceLeDiff, true_and, and_true, Bool.not_true, Bool.not_false, decide_eq_true_eq, List.append_nil, bType, bIsi, bLen, bInt, ty_int, ty_bl, ty_str, ty_non, ty_tup, isT, oIs, oIsNot, run_eqI, run_neI, Bool.or_false, Bool.or_true, Bool.false_or, Bool.true_or, Bool.and_true, Bool.and_false, Bool.true_and, Bool.false_and, reduceCtorEq, decide_not, Bool.not_eq_true', decide_eq_false_iff_not, askInt, askBool, askTuple, askList, askStr, oLe, oLt, oGe, oGt, oInt2, atI0, atI1, atI2, run_addI, run_subI]
  · simp only [oIs_refB, run_ok, run_okI, run_okB, run_alloc, run_stuck, run_bind, run_ite, run_noX, run_fnOf, w_c, w_op, w_un, w_call, w_callK, w_nil, w_cons, w_tup, w_lst, isB_bl, w_tval, w_tand, w_tor, w_tnot, w_and, w_or, w_not, w_if, s_next, s_seq, s_if, s_ret, s_drop, s_set, s_par, s_put, s_asg, w_var', runS_next, runS_ret, runS_stuck, runS_ite, List.length_cons, List.length_nil, List.length_singleton, List.map_cons, List.map_nil, List.cons_append, List.nil_append, List.replicate_succ, List.replicate_zero, List.getElem?_cons_zero, List.getElem?_cons_succ, List.set_cons_zero, List.set_cons_succ, Nat.reduceAdd, Nat.reduceSub, Nat.reduceEqDiff, ite_true, ite_false, if_true, if_false, reduceIte, Bool.false_eq_true, decide_true, decide_false, String.reduceEq, Int.reduceEq, Nat.reduceLeDiff, true_and, and_true, Bool.not_true, Bool.not_false, decide_eq_true_eq, List.append_nil, bType, bIsi, bLen, bInt, ty_int, ty_bl, ty_str, ty_non, ty_tup, isT, oIs, oIsNot, run_eqI, run_neI, Bool.or_false, Bool.or_true, Bool.false_or, Bool.true_or, Bool.and_true, Bool.and_false, Bool.true_and, Bool.false_and, reduceCtorEq, decide_not, Bool.not_eq_true', decide_eq_false_iff_not, askInt, askBool, askTuple, askList, askStr, oLe, oLt, oGe, oGt, oInt2, atI0, atI1, atI2, run_addI, run_subI]
  · simp only [oIs_refB, run_ok, run_okI, run_okB, run_alloc, run_stuck, run_bind, run_ite, run_noX, run_fnOf, w_c, w_op, w_un, w_call, w_callK, w_nil, w_cons, w_tup, w_lst, isB_bl, w_tval, w_tand, w_tor, w_tnot, w_and, w_or, w_not, w_if, s_next, s_seq, s_if, s_ret, s_drop, s_set, s_par, s_put, s_asg, w_var', runS_next, runS_ret, runS_stuck, runS_ite, List.length_cons, List.length_nil, List.length_singleton, List.map_cons, List.map_nil, List.cons_append, List.nil_append, List.replicate_succ, List.replicate_zero, List.getElem?_cons_zero, List.getElem?_cons_succ, List.set_cons_zero, List.set_cons_succ, Nat.reduceAdd, Nat.reduceSub, Nat.reduceEqDiff, ite_true, ite_false, if_true, if_false, reduceIte, Bool.false_eq_true, decide_true, decide_false, String.reduceEq, Int.reduceEq, Nat.reduceLeDiff, true_and, and_true, Bool.not_true, Bool.not_false, decide_eq_true_eq, List.append_nil, bType, bIsi, bLen, bInt, ty_int, ty_bl, ty_str, ty_non, ty_tup, isT, oIs, oIsNot, run_eqI, run_neI, Bool.or_false, Bool.or_true, Bool.false_or, Bool.true_or, Bool.and_true, Bool.and_false, Bool.true_and, Bool.false_and, reduceCtorEq, decide_not, Bool.not_eq_true', decide_eq_false_iff_not, askInt, askBool, askTuple, askList, askStr, oLe, oLt, oGe, oGt, oInt2, atI0, atI1, atI2, run_addI, run_subI]
  · simp only [isi_list hg, tg, askInt, run_ok, run_okI, run_okB, run_alloc, run_stuck, run_bind, run_ite, run_noX, run_fnOf, w_c, w_op, w_un, w_call, w_callK, w_nil, w_cons, w_tup, w_lst, isB_bl, w_tval, w_tand, w_tor, w_tnot, w_and, w_or, w_not, w_if, s_next, s_seq, s_if, s_ret, s_drop, s_set, s_par, s_put, s_asg, w_var', runS_next, runS_ret, runS_stuck, runS_ite, List.length_cons, List.length_nil, List.length_singleton, List.map_cons, List.map_nil, List.cons_append, List.nil_append, List.replicate_succ, List.replicate_zero, List.getElem?_cons_zero, List.getElem?_cons_succ, List.set_cons_zero, List.set_cons_succ, Nat.reduceAdd, Nat.reduceSub, Nat.reduceEqDiff, ite_true, ite_false, if_true, if_false, reduceIte, Bool.false_eq_true, decide_true, decide_false, String.reduceEq, Int.reduceEq, Nat.reduceLeDiff, true_and, and_true, Bool.not_true, Bool.not_false, decide_eq_true_eq, List.append_nil, bType, bIsi, bLen, bInt, ty_int, ty_bl, ty_str, ty_non, ty_tup, isT, oIs, oIsNot, run_eqI, run_neI, Bool.or_false, Bool.or_true, Bool.false_or, Bool.true_or, Bool.and_true, Bool.and_false, Bool.true_and, Bool.false_and, reduceCtorEq, decide_not, Bool.not_eq_true', decide_eq_false_iff_not, askInt, askBool, askTuple, askList, askStr, oLe, oLt, oGe, oGt, oInt2, atI0, atI1, atI2, run_addI, run_subI]
  · simp only [tg, askStr, run_ok, run_okI, run_okB, run_alloc, run_stuck, run_bind, run_ite, run_noX, run_fnOf, w_c, w_op, w_un, w_call, w_callK, w_nil, w_cons, w_tup, w_lst, isB_bl, w_tval, w_tand, w_tor, w_tnot, w_and, w_or, w_not, w_if, s_next, s_seq, s_if, s_ret, s_drop, s_set, s_par, s_put, s_asg, w_var', runS_next, runS_ret, runS_stuck, runS_ite, List.length_cons, List.length_nil, List.length_singleton, List.map_cons, List.map_nil, List.cons_append, List.nil_append, List.replicate_succ, List.replicate_zero, List.getElem?_cons_zero, List.getElem?_cons_succ, List.set_cons_zero, List.set_cons_succ, Nat.reduceAdd, Nat.reduceSub, Nat.reduceEqDiff, ite_true, ite_false, if_true, if_false, reduceIte, Bool.false_eq_true, decide_true, decide_false, String.reduceEq, Int.reduceEq, Nat.reduceLeDiff, true_and, and_true, Bool.not_true, Bool.not_false, decide_eq_true_eq, List.append_nil, bType, bIsi, bLen, bInt, ty_int, ty_bl, ty_str, ty_non, ty_tup, isT, oIs, oIsNot, run_eqI, run_neI, Bool.or_false, Bool.or_true, Bool.false_or, Bool.true_or, Bool.and_true, Bool.and_false, Bool.true_and, Bool.false_and, reduceCtorEq, decide_not, Bool.not_eq_true', decide_eq_false_iff_not, askInt, askBool, askTuple, askList, askStr, oLe, oLt, oGe, oGt, oInt2, atI0, atI1, atI2, run_addI, run_subI]
  · simp only [tf, tg, run_neB, askTuple, askList, run_ok, run_okI, run_okB, run_alloc, run_stuck, run_bind, run_ite, run_noX, run_fnOf, w_c, w_op, w_un, w_call, w_callK, w_nil, w_cons, w_tup, w_lst, isB_bl, w_tval, w_tand, w_tor, w_tnot, w_and, w_or, w_not, w_if, s_next, s_seq, s_if, s_ret, s_drop, s_set, s_par, s_put, s_asg, w_var', runS_next, runS_ret, runS_stuck, runS_ite, List.length_cons, List.length_nil, List.length_singleton, List.map_cons, List.map_nil, List.cons_append, List.nil_append, List.replicate_succ, List.replicate_zero, List.getElem?_cons_zero, List.getElem?_cons_succ, List.set_cons_zero, List.set_cons_succ, Nat.reduceAdd, Nat.reduceSub, Nat.reduceEqDiff, ite_true, ite_false, if_true, if_false, reduceIte, Bool.false_eq_true, decide_true, decide_false, String.reduceEq, Int.reduceEq, Nat.reduceLeDiff, true_and, and_true, Bool.not_true, Bool.not_false, decide_eq_true_eq, List.append_nil, bType, bIsi, bLen, bInt, ty_int, ty_bl, ty_str, ty_non, ty_tup, isT, oIs, oIsNot, run_eqI, run_neI, Bool.or_false, Bool.or_true, Bool.false_or, Bool.true_or, Bool.and_true, Bool.and_false, Bool.true_and, Bool.false_and, reduceCtorEq, decide_not, Bool.not_eq_true', decide_eq_false_iff_not, askInt, askBool, askTuple, askList, askStr, oLe, oLt, oGe, oGt, oInt2, atI0, atI1, atI2, run_addI, run_subI]
    simp
  · simp only [hf, hg, Cell.items, run_ok, run_okI, run_okB, run_alloc, run_stuck, run_bind, run_ite, run_noX, run_fnOf, w_c, w_op, w_un, w_call, w_callK, w_nil, w_cons, w_tup, w_lst, isB_bl, w_tval, w_tand, w_tor, w_tnot, w_and, w_or, w_not, w_if, s_next, s_seq, s_if, s_ret, s_drop, s_set, s_par, s_put, s_asg, w_var', runS_next, runS_ret, runS_stuck, runS_ite, List.length_cons, List.length_nil, List.length_singleton, List.map_cons, List.map_nil, List.cons_append, List.nil_append, List.replicate_succ, List.replicate_zero, List.getElem?_cons_zero, List.getElem?_cons_succ, List.set_cons_zero, List.set_cons_succ, Nat.reduceAdd, Nat.reduceSub, Nat.reduceEqDiff, ite_true, ite_false, if_true, if_false, reduceIte, Bool.false_eq_true, decide_true, decide_false, String.reduceEq, Int.reduceEq, Nat.reduceLeDiff, true_and, and_true, Bool.not_true, Bool.not_false, decide_eq_true_eq, List.append_nil, bType, bIsi, bLen, bInt, ty_int, ty_bl, ty_str, ty_non, ty_tup, isT, oIs, oIsNot, run_eqI, run_neI, Bool.or_false, Bool.or_true, Bool.false_or, Bool.true_or, Bool.and_true, Bool.and_false, Bool.true_and, Bool.false_and, reduceCtorEq, decide_not, Bool.not_eq_true', decide_eq_false_iff_not, askInt, askBool, askTuple, askList, askStr, oLe, oLt, oGe, oGt, oInt2, atI0, atI1, atI2, run_addI, run_subI]
  · rw [s_ret]
    have hr : ∀ m, S[m]? = some (.lst xs) → ∀ (i : Nat) (x : Val) (S' : Store) (Q : Val → Store → Prop), xs[i]? = some x → Kp S S' → Run (oIx (.ref m) (.int i) S') Q = Q x S' := fun m hm i x S' Q e k => by rw [run_ixR (k _ _ hm), atI_nat e]; rfl
    refine (same_tail (hr f hf) (hr g hg) ?_ hl fun x hxm S' _ => l_same_sm d n x S' (hx x hxm) (by omega) (by omega)).get
    rw [run_len hg]
    exact ⟨rfl, rfl⟩
theorem Sm.up {d e : Nat} {v : Val} (h : Sm d v) : d ≤ e → Sm e v := by
  induction h generalizing e with
  | non d => exact fun _ => .non e
  | bl d b => exact fun _ => .bl e b
  | int d i => exact fun _ => .int e i
  | str d z hz => exact fun _ => .str e z hz
  | @tup d xs hl hx ih =>
    intro h
    obtain ⟨e, rfl⟩ : ∃ e', e = e' + 1 := ⟨e - 1, by omega⟩
    exact .tup hl fun x hx' => ih x hx' (by omega)
theorem ne_empty' {S : Store} {a b d : Nat} {xs : List Val} {Q : Val → Store → Prop} (ha : S[a]? = some (.lst xs)) (hx : ∀ x ∈ xs, Da S d x) (hd : d < 60) (hb : S[b]? = some (.lst [])) : Run (oNe (.ref a) (.ref b) S) Q = Q (.bl (!xs.isEmpty)) S := by
  rw [run_ne (d := d + 1) (e := 1) (.ref ha hx) (.ref (d := 0) hb fun _ h => nomatch h) (by omega) (by omega), dat_ref (d := d) ha hx (by omega), dat_ref (d := 0) hb (fun _ h => nomatch h) (by omega)]
  cases xs <;> rfl
theorem same_tail2 {n : Nat} {f g : Val} {xs ys : List Val} {S : Store} (hf : ∀ (i : Nat) (x : Val) (S' : Store) (Q : Val → Store → Prop), xs[i]? = some x → Kp S S' → Run (oIx f (.int i) S') Q = Q x S') (hg : ∀ (i : Nat) (x : Val) (S' : Store) (Q : Val → Store → Prop), ys[i]? = some x → Kp S S' → Run (oIx g (.int i) S') Q = Q x S')
    (hl : Run (bLen [g] S) fun r S' => r = .int ys.length ∧ S' = S) (hxy : xs.length = ys.length) (h1000 : ys.length ≤ 1000) (ih : ∀ (i : Nat) (x y : Val), xs[i]? = some x → ys[i]? = some y → ∀ S', Kp S S' → Run ((fns n)._law_same [x, y] S') (PureK S' (.bl true))) :
    Hid (Run (dCall bAll (aCons (dLCR (aCons (dCall bLen (aCons (dVar 1) aNil)) aNil) (gN 2) tYes' (dCall (fns n)._law_same (aCons (dOp oIx (dVar 0) (dVar 2)) (aCons (dOp oIx (dVar 1) (dVar 2)) aNil))) [2]) aNil) [some f, some g, none] S) (PureK S (.bl true))) := by
  refine ⟨?_⟩
  rw [w_call, w_cons]
  refine Run.mono (run_lcrK (j := ys.length) (g := fun _ => .bl true) ?_ (by omega) fun x hx S' k => ?_) fun r S1 ⟨S2, e1, e2, k⟩ => ?_
  · rw [w_cons, w_call, w_cons, w_var (v := g) rfl, w_nil]
    refine Run.mono hl fun r S' ⟨e1, e2⟩ => ?_
    subst e1 e2
    exact ⟨rfl, rfl⟩
  · obtain ⟨i, hi, rfl⟩ := List.mem_map.mp hx
    rw [List.mem_range] at hi
    have hi2 : i < xs.length := by omega
    have ei : ys[i]? = some ys[i] := List.getElem?_eq_getElem hi
    have ex : xs[i]? = some xs[i] := List.getElem?_eq_getElem hi2
    have ez : (0 : Int) + (i : Int) = (i : Int) := by omega
    rw [ez, w_call, w_cons, w_op, w_var (v := f) rfl, w_var (v := .int i) rfl, hf i _ S' _ ex k, w_cons, w_op, w_var (v := g) rfl, w_var (v := .int i) rfl, hg i _ S' _ ei k, w_nil]
    exact ih i _ _ ex ei S' k
  · subst e1 e2
    rw [w_nil]
    refine Run.mono all_true fun r S3 ⟨e, k3⟩ => ⟨e, k.trans k3⟩
/-- found and due alike, from here on, with so many calls -/
def Ak (m : Nat) (S : Store) (x y : Val) : Prop := ∀ (n : Nat) (S' : Store), m < n → Kp S S' → Run ((fns n)._law_same [x, y] S') (PureK S' (.bl true))
theorem Ak.kp {m : Nat} {S S1 : Store} {x y : Val} (h : Ak m S x y) (k : Kp S S1) : Ak m S1 x y := fun n S' hn k' => h n S' hn (k.trans k')
theorem Ak.up {m m' : Nat} {S : Store} {x y : Val} (h : Ak m S x y) (q : m ≤ m') : Ak m' S x y := fun n S' hn k' => h n S' (by omega) k'
theorem ak_sm {d : Nat} {S : Store} {v : Val} (h : Sm d v) (hd : d < 60) : Ak d S v v := fun n S' hn _ => l_same_sm d n v S' h hn hd
theorem ak_ls {m f g : Nat} {xs ys : List Val} {S : Store} (hf0 : S[f]? = some (.lst xs)) (hg0 : S[g]? = some (.lst ys)) (hxy : xs.length = ys.length) (hl : ys.length ≤ 1000) (hx : ∀ (i : Nat) (x y : Val), xs[i]? = some x → ys[i]? = some y → Ak m S x y) : Ak (m + 1) S (.ref f) (.ref g) := fun n S' hn kk => by
  have hf := kk _ _ hf0
  have hg := kk _ _ hg0
  have hx := fun i x y h1 h2 => (hx i x y h1 h2).kp kk
  clear kk hf0 hg0
  revert hf hg hx
  generalize S' = S
  intro hf hg hx
  obtain ⟨n, rfl⟩ : ∃ m, n = m + 1 := ⟨n - 1, by omega⟩
  show Run (fnOf 2 3 (b__law_same (fns n)) [.ref f, .ref g] S) _
  unfold b__law_same
  have tf := ty_ref (S := S) hf
  have tg := ty_ref (S := S) hg
  refine run_fn rfl rfl ?_
  have N : ∀ {b d : SD} {R : Val → Store → Prop} {M : PD.Env → Store → Prop}, RunS (b [some (.ref f), some (.ref g), none] S) (fun ρ S' => ρ = [some (.ref f), some (.ref g), none] ∧ S' = S) R → RunS (d [some (.ref f), some (.ref g), none] S) M R → RunS (sSeq b d [some (.ref f), some (.ref g), none] S) M R := fun {b d R M} h1 h2 => s_step h1 fun ρ S' ⟨e1, e2⟩ => by subst e1 e2; exact h2
  refine N ?_ (N ?_ (N ?_ (N ?_ (N ?_ (N ?_ (N ?_ ?_))))))
  · simp only [oIs_ref, run_ok, run_okI, run_okB, run_alloc, run_stuck, run_bind, run_ite, run_noX, run_fnOf, w_c, w_op, w_un, w_call, w_callK, w_nil, w_cons, w_tup, w_lst, isB_bl, w_tval, w_tand, w_tor, w_tnot, w_and, w_or, w_not, w_if, s_next, s_seq, s_if, s_ret, s_drop, s_set, s_par, s_put, s_asg, w_var', runS_next, runS_ret, runS_stuck, runS_ite, List.length_cons, List.length_nil, List.length_singleton, List.map_cons, List.map_nil, List.cons_append, List.nil_append, List.replicate_succ, List.replicate_zero, List.getElem?_cons_zero, List.getElem?_cons_succ, List.set_cons_zero, List.set_cons_succ, Nat.reduceAdd, Nat.reduceSub, Nat.reduceEqDiff, ite_true, ite_false, if_true, if_false, reduceIte, Bool.false_eq_true, decide_true, decide_false, String.reduceEq, Int.reduceEq, Nat.reduceLeDiff, true_and, and_true, Bool.not_true, Bool.not_false, decide_eq_true_eq, List.append_nil, bType, bIsi, bLen, bInt, ty_int, ty_bl, ty_str, ty_non, ty_tup, isT, oIs, oIsNot, run_eqI, run_neI, Bool.or_false, Bool.or_true, Bool.false_or, Bool.true_or, Bool.and_true, Bool.and_false, Bool.true_and, Bool.false_and, reduceCtorEq, decide_not, Bool.not_eq_true', decide_eq_false_iff_not, askInt, askBool, askTuple, askList, askStr, oLe, oLt, oGe, oGt, oInt2, atI0, atI1, atI2, run_addI, run_subI]
  · simp only [oIs_refB, run_ok, run_okI, run_okB, run_alloc, run_stuck, run_bind, run_ite, run_noX, run_fnOf, w_c, w_op, w_un, w_call, w_callK, w_nil, w_cons, w_tup, w_lst, isB_bl, w_tval, w_tand, w_tor, w_tnot, w_and, w_or, w_not, w_if, s_next, s_seq, s_if, s_ret, s_drop, s_set, s_par, s_put, s_asg, w_var', runS_next, runS_ret, runS_stuck, runS_ite, List.length_cons, List.length_nil, List.length_singleton, List.map_cons, List.map_nil, List.cons_append, List.nil_append, List.replicate_succ, List.replicate_zero, List.getElem?_cons_zero, List.getElem?_cons_succ, List.set_cons_zero, List.set_cons_succ, Nat.reduceAdd, Nat.reduceSub, Nat.reduceEqDiff, ite_true, ite_false, if_true, if_false, reduceIte, Bool.false_eq_true, decide_true, decide_false, String.reduceEq, Int.reduceEq, Nat.reduceLeDiff, true_and, and_true, Bool.not_true, Bool.not_false, decide_eq_true_eq, List.append_nil, bType, bIsi, bLen, bInt, ty_int, ty_bl, ty_str, ty_non, ty_tup, isT, oIs, oIsNot, run_eqI, run_neI, Bool.or_false, Bool.or_true, Bool.false_or, Bool.true_or, Bool.and_true, Bool.and_false, Bool.true_and, Bool.false_and, reduceCtorEq, decide_not, Bool.not_eq_true', decide_eq_false_iff_not, askInt, askBool, askTuple, askList, askStr, oLe, oLt, oGe, oGt, oInt2, atI0, atI1, atI2, run_addI, run_subI]
  · simp only [oIs_refB, run_ok, run_okI, run_okB, run_alloc, run_stuck, run_bind, run_ite, run_noX, run_fnOf, w_c, w_op, w_un, w_call, w_callK, w_nil, w_cons, w_tup, w_lst, isB_bl, w_tval, w_tand, w_tor, w_tnot, w_and, w_or, w_not, w_if, s_next, s_seq, s_if, s_ret, s_drop, s_set, s_par, s_put, s_asg, w_var', runS_next, runS_ret, runS_stuck, runS_ite, List.length_cons, List.length_nil, List.length_singleton, List.map_cons, List.map_nil, List.cons_append, List.nil_append, List.replicate_succ, List.replicate_zero, List.getElem?_cons_zero, List.getElem?_cons_succ, List.set_cons_zero, List.set_cons_succ, Nat.reduceAdd, Nat.reduceSub, Nat.reduceEqDiff, ite_true, ite_false, if_true, if_false, reduceIte, Bool.false_eq_true, decide_true, decide_false, String.reduceEq, Int.reduceEq, Nat.reduceLeDiff, true_and, and_true, Bool.not_true, Bool.not_false, decide_eq_true_eq, List.append_nil, bType, bIsi, bLen, bInt, ty_int, ty_bl, ty_str, ty_non, ty_tup, isT, oIs, oIsNot, run_eqI, run_neI, Bool.or_false, Bool.or_true, Bool.false_or, Bool.true_or, Bool.and_true, Bool.and_false, Bool.true_and, Bool.false_and, reduceCtorEq, decide_not, Bool.not_eq_true', decide_eq_false_iff_not, askInt, askBool, askTuple, askList, askStr, oLe, oLt, oGe, oGt, oInt2, atI0, atI1, atI2, run_addI, run_subI]
  · simp only [isi_list hg, tg, askInt, run_ok, run_okI, run_okB, run_alloc, run_stuck, run_bind, run_ite, run_noX, run_fnOf, w_c, w_op, w_un, w_call, w_callK, w_nil, w_cons, w_tup, w_lst, isB_bl, w_tval, w_tand, w_tor, w_tnot, w_and, w_or, w_not, w_if, s_next, s_seq, s_if, s_ret, s_drop, s_set, s_par, s_put, s_asg, w_var', runS_next, runS_ret, runS_stuck, runS_ite, List.length_cons, List.length_nil, List.length_singleton, List.map_cons, List.map_nil, List.cons_append, List.nil_append, List.replicate_succ, List.replicate_zero, List.getElem?_cons_zero, List.getElem?_cons_succ, List.set_cons_zero, List.set_cons_succ, Nat.reduceAdd, Nat.reduceSub, Nat.reduceEqDiff, ite_true, ite_false, if_true, if_false, reduceIte, Bool.false_eq_true, decide_true, decide_false, String.reduceEq, Int.reduceEq, Nat.reduceLeDiff, true_and, and_true, Bool.not_true, Bool.not_false, decide_eq_true_eq, List.append_nil, bType, bIsi, bLen, bInt, ty_int, ty_bl, ty_str, ty_non, ty_tup, isT, oIs, oIsNot, run_eqI, run_neI, Bool.or_false, Bool.or_true, Bool.false_or, Bool.true_or, Bool.and_true, Bool.and_false, Bool.true_and, Bool.false_and, reduceCtorEq, decide_not, Bool.not_eq_true', decide_eq_false_iff_not, askInt, askBool, askTuple, askList, askStr, oLe, oLt, oGe, oGt, oInt2, atI0, atI1, atI2, run_addI, run_subI]
  · simp only [tg, askStr, run_ok, run_okI, run_okB, run_alloc, run_stuck, run_bind, run_ite, run_noX, run_fnOf, w_c, w_op, w_un, w_call, w_callK, w_nil, w_cons, w_tup, w_lst, isB_bl, w_tval, w_tand, w_tor, w_tnot, w_and, w_or, w_not, w_if, s_next, s_seq, s_if, s_ret, s_drop, s_set, s_par, s_put, s_asg, w_var', runS_next, runS_ret, runS_stuck, runS_ite, List.length_cons, List.length_nil, List.length_singleton, List.map_cons, List.map_nil, List.cons_append, List.nil_append, List.replicate_succ, List.replicate_zero, List.getElem?_cons_zero, List.getElem?_cons_succ, List.set_cons_zero, List.set_cons_succ, Nat.reduceAdd, Nat.reduceSub, Nat.reduceEqDiff, ite_true, ite_false, if_true, if_false, reduceIte, Bool.false_eq_true, decide_true, decide_false, String.reduceEq, Int.reduceEq, Nat.reduceLeDiff, true_and, and_true, Bool.not_true, Bool.not_false, decide_eq_true_eq, List.append_nil, bType, bIsi, bLen, bInt, ty_int, ty_bl, ty_str, ty_non, ty_tup, isT, oIs, oIsNot, run_eqI, run_neI, Bool.or_false, Bool.or_true, Bool.false_or, Bool.true_or, Bool.and_true, Bool.and_false, Bool.true_and, Bool.false_and, reduceCtorEq, decide_not, Bool.not_eq_true', decide_eq_false_iff_not, askInt, askBool, askTuple, askList, askStr, oLe, oLt, oGe, oGt, oInt2, atI0, atI1, atI2, run_addI, run_subI]
  · simp only [tf, tg, run_neB, askTuple, askList, run_ok, run_okI, run_okB, run_alloc, run_stuck, run_bind, run_ite, run_noX, run_fnOf, w_c, w_op, w_un, w_call, w_callK, w_nil, w_cons, w_tup, w_lst, isB_bl, w_tval, w_tand, w_tor, w_tnot, w_and, w_or, w_not, w_if, s_next, s_seq, s_if, s_ret, s_drop, s_set, s_par, s_put, s_asg, w_var', runS_next, runS_ret, runS_stuck, runS_ite, List.length_cons, List.length_nil, List.length_singleton, List.map_cons, List.map_nil, List.cons_append, List.nil_append, List.replicate_succ, List.replicate_zero, List.getElem?_cons_zero, List.getElem?_cons_succ, List.set_cons_zero, List.set_cons_succ, Nat.reduceAdd, Nat.reduceSub, Nat.reduceEqDiff, ite_true, ite_false, if_true, if_false, reduceIte, Bool.false_eq_true, decide_true, decide_false, String.reduceEq, Int.reduceEq, Nat.reduceLeDiff, true_and, and_true, Bool.not_true, Bool.not_false, decide_eq_true_eq, List.append_nil, bType, bIsi, bLen, bInt, ty_int, ty_bl, ty_str, ty_non, ty_tup, isT, oIs, oIsNot, run_eqI, run_neI, Bool.or_false, Bool.or_true, Bool.false_or, Bool.true_or, Bool.and_true, Bool.and_false, Bool.true_and, Bool.false_and, reduceCtorEq, decide_not, Bool.not_eq_true', decide_eq_false_iff_not, askInt, askBool, askTuple, askList, askStr, oLe, oLt, oGe, oGt, oInt2, atI0, atI1, atI2, run_addI, run_subI]
    simp
  · simp only [hf, hg, Cell.items, hxy, run_ok, run_okI, run_okB, run_alloc, run_stuck, run_bind, run_ite, run_noX, run_fnOf, w_c, w_op, w_un, w_call, w_callK, w_nil, w_cons, w_tup, w_lst, isB_bl, w_tval, w_tand, w_tor, w_tnot, w_and, w_or, w_not, w_if, s_next, s_seq, s_if, s_ret, s_drop, s_set, s_par, s_put, s_asg, w_var', runS_next, runS_ret, runS_stuck, runS_ite, List.length_cons, List.length_nil, List.length_singleton, List.map_cons, List.map_nil, List.cons_append, List.nil_append, List.replicate_succ, List.replicate_zero, List.getElem?_cons_zero, List.getElem?_cons_succ, List.set_cons_zero, List.set_cons_succ, Nat.reduceAdd, Nat.reduceSub, Nat.reduceEqDiff, ite_true, ite_false, if_true, if_false, reduceIte, Bool.false_eq_true, decide_true, decide_false, String.reduceEq, Int.reduceEq, Nat.reduceLeDiff, true_and, and_true, Bool.not_true, Bool.not_false, decide_eq_true_eq, List.append_nil, bType, bIsi, bLen, bInt, ty_int, ty_bl, ty_str, ty_non, ty_tup, isT, oIs, oIsNot, run_eqI, run_neI, Bool.or_false, Bool.or_true, Bool.false_or, Bool.true_or, Bool.and_true, Bool.and_false, Bool.true_and, Bool.false_and, reduceCtorEq, decide_not, Bool.not_eq_true', decide_eq_false_iff_not, askInt, askBool, askTuple, askList, askStr, oLe, oLt, oGe, oGt, oInt2, atI0, atI1, atI2, run_addI, run_subI]
  · rw [s_ret]
    have hr : ∀ m (xs : List Val), S[m]? = some (.lst xs) → ∀ (i : Nat) (x : Val) (S' : Store) (Q : Val → Store → Prop), xs[i]? = some x → Kp S S' → Run (oIx (.ref m) (.int i) S') Q = Q x S' := fun m xs hm i x S' Q e k => by rw [run_ixR (k _ _ hm), atI_nat e]; rfl
    refine (same_tail2 (hr f xs hf) (hr g ys hg) ?_ hxy hl fun i x y h1 h2 S' k => hx i x y h1 h2 n S' (by omega) k).get
    rw [run_len hg]
    exact ⟨rfl, rfl⟩
theorem ak_two {m f g : Nat} {a b x y : Val} {S : Store} (hf : S[f]? = some (.lst [a, b])) (hg : S[g]? = some (.lst [x, y])) (h1 : Ak m S a x) (h2 : Ak m S b y) : Ak (m + 1) S (.ref f) (.ref g) :=
  ak_ls hf hg rfl (by show 2 ≤ 1000; omega) fun i u v e1 e2 => by
    match i, e1, e2 with
    | 0, e1, e2 => cases e1; cases e2; exact h1
    | 1, e1, e2 => cases e1; cases e2; exact h2
    | i + 2, e1, e2 => cases e1
theorem w_app {fo f : D} {ρ : PD.Env} {S : Store} {Q : Val → Store → Prop} : Run (dApp fo f ρ S) Q = Run (fo ρ S) fun o S1 => match o with
  | .ref n => Run (f ρ S1) fun x S2 => match S2[n]? with
    | some (.lst xs) => if xs.length < 16777216 then Q .non (S2.set n (.lst (xs ++ [x]))) else False
    | _ => False
  | _ => False := by
  unfold dApp
  rw [run_bind]
  congr; funext o S1
  cases o with
  | ref n =>
    show Run ((f ρ S1).bind _) Q = Run (f ρ S1) _
    rw [run_bind]
    congr; funext x S2
    cases hn : S2[n]? with
    | none => rfl
    | some c =>
      cases c with
      | lst xs =>
        show Run (if xs.length < 16777216 then _ else _) Q = if xs.length < 16777216 then _ else _
        rw [run_ite]; rfl
      | _ => rfl
  | _ => rfl
theorem kp_set {S0 S : Store} {c : Nat} {d : Cell} (h : Kp S0 S) (hc : S0.length ≤ c) : Kp S0 (S.set c d) := fun n e q => by
  have hn : n < S0.length := (List.getElem?_eq_some_iff.mp q).1
  rw [List.getElem?_set_ne (by omega)]
  exact h n e q
end PD.K02

/-! ## K02M4 -/
set_option Elab.async false
set_option linter.all false
set_option maxRecDepth 100000
set_option maxHeartbeats 4000000
namespace PD.K02
open PySem PySem.Spec L2 PD LT
structure Ds (d : Nat) (s : Sh) : Prop where
  ok : s.ok = true
  dep : s.dep ≤ d
  tc : s.tc + 1 ≤ 2 ^ d
theorem Ds.z (d : Nat) : Ds d .zero := ⟨rfl, Nat.zero_le _, by have : 1 ≤ 2 ^ d := Nat.pow_pos (by decide); show 0 + 1 ≤ _; omega⟩
theorem Ds.o (d : Nat) : Ds d .one := ⟨rfl, Nat.zero_le _, by have : 1 ≤ 2 ^ d := Nat.pow_pos (by decide); show 0 + 1 ≤ _; omega⟩
theorem Ds.bit {d : Nat} {i : Int} (h0 : 0 ≤ i) (h1 : i < 2) : ∃ s, Val.int i = shV s ∧ Ds d s := by
  have : 1 ≤ 2 ^ d := Nat.pow_pos (by decide)
  rcases (by omega : i = 0 ∨ i = 1) with rfl | rfl
  · exact ⟨.zero, rfl, rfl, Nat.zero_le _, by show 0 + 1 ≤ _; omega⟩
  · exact ⟨.one, rfl, rfl, Nat.zero_le _, by show 0 + 1 ≤ _; omega⟩
theorem Ds.two {d : Nat} {a b : Sh} (ha : Ds d a) (hb : Ds d b) (h : ¬ (a = .zero ∧ b = .zero) ∧ ¬ (a = .one ∧ b = .one)) : Ds (d + 1) (.node a b) := by
  have h1 := ha.dep
  have h2 := hb.dep
  have h3 := ha.tc
  have h4 := hb.tc
  refine ⟨Sh.ok_node.mpr ⟨ha.ok, hb.ok, h⟩, ?_, ?_⟩
  · show 1 + max a.dep b.dep ≤ d + 1
    omega
  · show 1 + (a.tc + b.tc) + 1 ≤ 2 ^ (d + 1)
    rw [Nat.pow_succ]; omega
theorem l_share : ∀ (k n c : Nat) (z : Int) (S : Store), z = (k : Int) → PoolAt c S → k + 1 < n → k < 50 → Run ((fns n)._law_share [.ref c, .int z] S) (fun r S' => (∃ s, r = shV s ∧ Ds k s) ∧ Cp c S S')
  | k, 0, c, z, S, _, _, h, _ => absurd h (Nat.not_lt_zero _)
  | k, n + 1, c, z, S, hz, hc, h, hk => by
    show Run (fnOf 2 4 (b__law_share (fns n)) [.ref c, .int z] S) _
    unfold b__law_share
    refine run_fn (ρ := [some (.ref c), some (.int z), none, none]) rfl rfl ?_
    have bit : ∀ S1, Cp c S S1 → RunS (sRet (dCall (fns n)._law_sip (aCons (dVar 0) (aCons (dC (.int 2)) aNil))) [some (.ref c), some (.int z), none, none] S1) (fun ρ S' => ((∃ j, k = j + 1) ∧ ρ = [some (.ref c), some (.int z), none, none]) ∧ Cp c S S') (fun r S' => (∃ s, r = shV s ∧ Ds k s) ∧ Cp c S S') := fun S1 c1 => by
      rw [s_ret, w_call, w_cons, w_var rfl, w_cons, w_c, w_nil]
      refine Run.mono (l_pick c1.1 (by decide) (by decide) (by omega)) fun x S2 ⟨⟨i, e, h0, h1⟩, c2⟩ => ?_
      subst e
      exact ⟨Ds.bit h0 h1, c1.trans c2⟩
    refine s_step (N' := fun ρ S' => ((∃ j, k = j + 1) ∧ ρ = [some (.ref c), some (.int z), none, none]) ∧ Cp c S S') ?_ ?_
    · rw [s_if, w_tor, w_tval, w_op, w_var rfl, w_c, run_eqI, isB_bl]
      by_cases h0 : z = 0
      · rw [decide_eq_true h0, if_pos rfl, if_pos rfl]
        exact bit S (.refl hc)
      · rw [decide_eq_false h0, if_neg (by decide), w_tval, w_op, w_call, w_cons, w_var rfl, w_cons, w_c, w_nil]
        refine Run.mono (l_pick hc (by decide) (by decide) (by omega)) fun x1 S3 ⟨⟨i1, e, h10, h11⟩, cs3⟩ => ?_
        subst e
        rw [w_c, run_eqI, isB_bl]
        by_cases h1 : i1 = 0
        · rw [decide_eq_true h1, if_pos rfl]
          exact bit S3 cs3
        · rw [decide_eq_false h1, if_neg (by decide)]
          exact ⟨⟨⟨k - 1, by omega⟩, rfl⟩, cs3⟩
    rintro ρ S1 ⟨⟨⟨k, rfl⟩, rfl⟩, cs1⟩
    clear bit
    refine s_step (N' := fun ρ S' => (∃ a b, ρ = [some (.ref c), some (.int z), some (shV a), some (shV b)] ∧ Ds k a ∧ Ds k b) ∧ Cp c S S') ?_ ?_
    · rw [s_par, w_cons, w_call, w_cons, w_var rfl, w_cons, w_op, w_var rfl, w_c, run_subI, w_nil]
      refine Run.mono (l_share k n c (z - 1) S1 (by omega) cs1.1 (by omega) (by omega)) fun x S4 ⟨⟨a, e, ha⟩, cs4⟩ => ?_
      subst e
      rw [w_cons, w_call, w_cons, w_var rfl, w_cons, w_op, w_var rfl, w_c, run_subI, w_nil]
      refine Run.mono (l_share k n c (z - 1) S4 (by omega) cs4.1 (by omega) (by omega)) fun x S5 ⟨⟨b, e, hb⟩, cs5⟩ => ?_
      subst e
      rw [w_nil]
      exact ⟨⟨a, b, rfl, ha, hb⟩, (cs1.trans cs4).trans cs5⟩
    rintro ρ S2 ⟨⟨a, b, rfl, ha, hb⟩, cs2⟩
    have da := ha.dep
    have db := hb.dep
    refine s_step (N' := fun ρ S' => (∃ b, ρ = [some (.ref c), some (.int z), some (shV a), some (shV b)] ∧ Ds k b ∧ ¬ (a = .zero ∧ b = .zero) ∧ ¬ (a = .one ∧ b = .one)) ∧ Cp c S S') ?_ ?_
    · rw [s_if, w_tand, w_tval, w_op, w_var rfl, w_var rfl, run_eqS (by omega) (by omega), isB_bl]
      by_cases hab : a = b
      · subst hab
        rw [decide_eq_true rfl, if_pos rfl, w_tval, w_op, w_var rfl, w_tup, w_cons, w_c, w_cons, w_c, w_nil]
        refine ⟨Nat.le_of_ble_eq_true rfl, ?_⟩
        rw [run_inS (by omega), isB_bl]
        cases a with
        | zero =>
          rw [if_pos (show (decide (Sh.zero = .zero) || decide (Sh.zero = .one)) = true from rfl), s_set, w_op, w_c, w_var rfl]
          exact ⟨⟨.one, rfl, Ds.o k, (fun h => nomatch h.2), (fun h => nomatch h.1)⟩, cs2⟩
        | one =>
          rw [if_pos (show (decide (Sh.one = .zero) || decide (Sh.one = .one)) = true from rfl), s_set, w_op, w_c, w_var rfl]
          exact ⟨⟨.zero, rfl, Ds.z k, (fun h => nomatch h.1), (fun h => nomatch h.2)⟩, cs2⟩
        | node l r =>
          rw [if_neg (show ¬ (decide (Sh.node l r = .zero) || decide (Sh.node l r = .one)) = true by simp)]
          exact ⟨⟨_, rfl, hb, (fun h => nomatch h.1), (fun h => nomatch h.1)⟩, cs2⟩
      · rw [decide_eq_false hab, if_neg (by decide), if_neg (by decide)]
        exact ⟨⟨b, rfl, hb, fun h => hab (h.1.trans h.2.symm), fun h => hab (h.1.trans h.2.symm)⟩, cs2⟩
    rintro ρ S3 ⟨⟨b, rfl, hb, h1, h2⟩, cs3⟩
    rw [s_ret, w_tup, w_cons, w_var rfl, w_cons, w_var rfl, w_nil]
    exact ⟨Nat.le_of_ble_eq_true rfl, ⟨.node a b, rfl, ha.two hb ⟨h1, h2⟩⟩, cs3⟩
structure Lsx (j : Nat) (s : Sh) : Prop where
  ok : s.ok = true
  dep : s.dep ≤ j
  tc : s.tc ≤ j
  leaf : j = 0 → s = .zero ∨ s = .one
def bitS (b : Bool) : Sh := if b then .one else .zero
theorem bit_V {i : Int} (h0 : 0 ≤ i) (h1 : i < 2) : Val.int i = shV (bitS (decide (i = 1))) := by
  rcases (by omega : i = 0 ∨ i = 1) with rfl | rfl <;> rfl
def SoI (c : Nat) (S0 : Store) (j : Nat) (ρ : PD.Env) (S : Store) : Prop := ∃ (v : Sh) (x3 x4 : Option Val), ρ = [some (.ref c), some (.bl false), some (shV v), x3, x4, none] ∧ Lsx j v ∧ Cp c S0 S
def SoJ (c : Nat) (S0 : Store) (j : Nat) (ρ : PD.Env) (S : Store) : Prop := ∃ (x y : Sh) (x3 : Option Val), ρ = [some (.ref c), some (.bl false), some (shV x), x3, some (shV y), none] ∧ x.ok = true ∧ y.ok = true ∧ x.dep ≤ j ∧ y.dep ≤ j ∧ x.tc + y.tc ≤ j ∧ ¬ (x = .zero ∧ y = .zero) ∧ ¬ (x = .one ∧ y = .one) ∧ Cp c S0 S
theorem shV_leaf {s : Sh} (h : s = .zero ∨ s = .one) : ∃ b, s = bitS b := by
  rcases h with rfl | rfl
  · exact ⟨false, rfl⟩
  · exact ⟨true, rfl⟩
theorem l_longS {c n : Nat} {S : Store} (hc : PoolAt c S) (hn : 1 < n) : Run ((fns n)._law_long [.ref c, .bl false] S) (fun r S' => (∃ s, r = shV s ∧ Shr s) ∧ Cp c S S') := by
  obtain ⟨n, rfl⟩ : ∃ m, n = m + 1 := ⟨n - 1, by omega⟩
  show Run (fnOf 2 6 (b__law_long (fns n)) [.ref c, .bl false] S) _
  unfold b__law_long
  refine run_fn (ρ := [some (.ref c), some (.bl false), none, none, none, none]) rfl rfl ?_
  refine s_step (N' := SoI c S 0) ?_ ?_
  · rw [s_set, w_if, w_tnot, w_tval, w_var rfl, isB_bl, if_pos (show (!false) = true from rfl), w_call, w_cons, w_var rfl, w_cons, w_c, w_nil]
    refine Run.mono (l_pick hc (by decide) (by decide) (by omega)) fun x S1 ⟨⟨i, e, h0, h1⟩, cs⟩ => ?_
    subst e
    rw [bit_V h0 h1]
    cases decide (i = 1)
    · exact ⟨.zero, none, none, rfl, ⟨rfl, Nat.zero_le _, Nat.zero_le _, fun _ => .inl rfl⟩, cs⟩
    · exact ⟨.one, none, none, rfl, ⟨rfl, Nat.zero_le _, Nat.zero_le _, fun _ => .inr rfl⟩, cs⟩
  intro ρ S1 h1
  have turn : ∀ (j : Nat) (x : Val) (ρ : PD.Env) (S1 : Store), j < 12 → SoI c S j ρ S1 → ∃ ρ1, gN 3 x ρ = some ρ1 ∧ RunS ((sSeq (sSet 4 (dCall (fns n)._law_sip (aCons (dVar 0) (aCons (dC (.int 2)) aNil))))
    (sSeq (sIf (tAnd' (tNot' (tVal (dCall bIsi (aCons (dVar 2) (aCons (dC (.ty "tuple")) aNil))))) (tNot' (tVal (dVar 1)))) (sSet 4 (dOp oSub (dC (.int 1)) (dVar 2))) sNext)
    (sSeq (sIf (tVal (dVar 1)) (sAsg (gT [(gN 2), (gN 4)]) (dIf (tVal (dOp oNe (dVar 2) (dC (.int 0)))) (dTup (aCons (dVar 2) (aCons (dC (.int 0)) aNil))) (dTup (aCons (dC (.int 1)) (aCons (dC (.int 0)) aNil))))) sNext)
    (sSeq (sIf (tVal (dOp oEq (dCall (fns n)._law_sip (aCons (dVar 0) (aCons (dC (.int 2)) aNil))) (dC (.int 0)))) (sPar 2 4 (aCons (dVar 4) (aCons (dVar 2) aNil))) sNext)
    (sSet 2 (dIf (tVal (dVar 1)) (dTup (aCons (dCall (fns n)._law_sip (aCons (dVar 0) (aCons (dC (.int 3)) aNil))) (aCons (dVar 2) (aCons (dVar 4) aNil)))) (dTup (aCons (dVar 2) (aCons (dVar 4) aNil))))))))) ρ1 S1) (SoI c S (j + 1)) (fun r S' => (∃ s, r = shV s ∧ Shr s) ∧ Cp c S S') := by
    rintro j x ρ S1 hj ⟨v, x3, x4, rfl, hv, cs⟩
    refine ⟨[some (.ref c), some (.bl false), some (shV v), some x, x4, none], rfl, ?_⟩
    refine s_step (N' := fun ρ S' => (∃ i : Int, (0 ≤ i ∧ i < 2) ∧ ρ = [some (.ref c), some (.bl false), some (shV v), some x, some (.int i), none]) ∧ Cp c S S') ?_ ?_
    · rw [s_set, w_call, w_cons, w_var rfl, w_cons, w_c, w_nil]
      refine Run.mono (l_pick cs.1 (by decide) (by decide) (by omega)) fun x S2 ⟨⟨i, e, h0, h1⟩, cs2⟩ => ?_
      subst e
      exact ⟨⟨_, ⟨h0, h1⟩, rfl⟩, cs.trans cs2⟩
    clear cs
    rintro ρ S1 ⟨⟨i, ⟨h0, h1⟩, rfl⟩, cs⟩
    have vd := hv.dep
    have vt := hv.tc
    refine s_step (N' := SoJ c S j) ?_ ?_
    · rw [s_if, w_tand, w_tnot, w_tval, w_call, w_cons, w_var rfl, w_cons, w_c, w_nil, sh_isi, isB_bl]
      have sec : ∀ Q : Bool → Store → Prop, Run (tNot' (tVal (dVar 1)) [some (.ref c), some (.bl false), some (shV v), some x, some (.int i), none] S1) Q = Q true S1 := fun Q => by
        rw [w_tnot, w_tval, w_var rfl, isB_bl]; rfl
      cases v with
      | zero =>
        rw [if_pos (show (!false) = true from rfl), sec, if_pos rfl, s_set, w_op, w_c, w_var rfl]
        exact ⟨.zero, .one, some x, rfl, rfl, rfl, Nat.zero_le _, Nat.zero_le _, Nat.zero_le _, (fun h => nomatch h.2), (fun h => nomatch h.1), cs⟩
      | one =>
        rw [if_pos (show (!false) = true from rfl), sec, if_pos rfl, s_set, w_op, w_c, w_var rfl]
        exact ⟨.one, .zero, some x, rfl, rfl, rfl, Nat.zero_le _, Nat.zero_le _, Nat.zero_le _, (fun h => nomatch h.1), (fun h => nomatch h.2), cs⟩
      | node l r =>
        rw [if_neg (show ¬ (!true) = true by decide), if_neg (by decide), s_next, bit_V h0 h1]
        have hb : ∀ b, (bitS b).ok = true ∧ (bitS b).dep = 0 ∧ (bitS b).tc = 0 := fun b => by cases b <;> exact ⟨rfl, rfl, rfl⟩
        obtain ⟨b1, b2, b3⟩ := hb (decide (i = 1))
        exact ⟨.node l r, _, some x, rfl, hv.ok, b1, vd, by omega, by omega, (fun h => nomatch h.1), (fun h => nomatch h.1), cs⟩
    clear cs hv vd vt h0 h1
    rintro ρ S1 ⟨v, y, x3, rfl, o1, o2, d1, d2, t1, z1, z2, cs⟩
    refine s_step (N' := fun ρ S' => ρ = [some (.ref c), some (.bl false), some (shV v), x3, some (shV y), none] ∧ S' = S1) ?_ ?_
    · rw [s_if, w_tval, w_var rfl, isB_bl, if_neg (by decide), s_next]
      exact ⟨rfl, rfl⟩
    rintro ρ S2 ⟨rfl, rfl⟩
    refine s_step (N' := SoJ c S j) ?_ ?_
    · rw [s_if, w_tval, w_op, w_call, w_cons, w_var rfl, w_cons, w_c, w_nil]
      refine Run.mono (l_pick cs.1 (by decide) (by decide) (by omega)) fun x S3 ⟨⟨i, e, h0, h1⟩, cs2⟩ => ?_
      subst e
      rw [w_c, run_eqI, isB_bl]
      split
      · rw [s_par, w_cons, w_var rfl, w_cons, w_var rfl, w_nil]
        exact ⟨y, v, x3, rfl, o2, o1, d2, d1, by omega, fun h => z1 ⟨h.2, h.1⟩, fun h => z2 ⟨h.2, h.1⟩, cs.trans cs2⟩
      · exact ⟨v, y, x3, rfl, o1, o2, d1, d2, t1, z1, z2, cs.trans cs2⟩
    clear cs o1 o2 d1 d2 t1 z1 z2
    rintro ρ S3 ⟨v, y, x3, rfl, o1, o2, d1, d2, t1, z1, z2, cs⟩
    rw [s_set, w_if, w_tval, w_var rfl, isB_bl, if_neg (by decide), w_tup, w_cons, w_var rfl, w_cons, w_var rfl, w_nil]
    refine ⟨Nat.le_of_ble_eq_true rfl, .node v y, x3, _, rfl, ⟨Sh.ok_node.mpr ⟨o1, o2, z1, z2⟩, ?_, ?_, fun h => by omega⟩, cs⟩
    · show 1 + max v.dep y.dep ≤ j + 1
      omega
    · show 1 + (v.tc + y.tc) ≤ j + 1
      omega
  obtain ⟨v, x3, x4, rfl, hv, cs⟩ := h1
  refine s_step (N' := fun ρ S' => (∃ x2 x3 x4, ρ = [some (.ref c), some (.bl false), x2, x3, x4, none]) ∧ Cp c S S') ?_ ?_
  · rw [s_if, w_tval, w_op, w_call, w_cons, w_var rfl, w_cons, w_c, w_nil]
    refine Run.mono (l_pick cs.1 (by decide) (by decide) (by omega)) fun x S2 ⟨⟨i, e, h0, h1⟩, cs2⟩ => ?_
    subst e
    rw [w_c, run_gtI, isB_bl]
    by_cases hi : 0 < i
    · rw [decide_eq_true hi, if_pos rfl]
      refine s_step (N' := fun ρ S' => ∃ j, j ≤ 12 ∧ SoI c S j ρ S') ?_ ?_
      · rw [s_forR, w_cons, w_op, w_c, w_call, w_cons, w_var rfl, w_cons, w_c, w_nil]
        refine Run.mono (l_pick cs2.1 (by decide) (by decide) (by omega)) fun x S3 ⟨⟨i3, e, h30, h31⟩, cs3⟩ => ?_
        subst e
        rw [run_addI, w_nil]
        obtain ⟨q, hq⟩ : ∃ q : Nat, (6 : Int) + i3 = (q : Int) := ⟨(6 + i3).toNat, by omega⟩
        rw [hq]
        show if -(2 ^ 62) ≤ (q : Int) ∧ (q : Int) < 2 ^ 62 then _ else False
        rw [if_pos (by constructor <;> omega), Int.toNat_natCast]
        refine RunS.mono (runS_loopV q (SoI c S) (fun j x ρ S hj h => turn j x ρ S (by omega) h) (rangeV 0 q) 0 _ _ (by rw [rangeV_len]; omega) ⟨v, x3, x4, rfl, hv, (cs.trans cs2).trans cs3⟩) (fun ρ S' h => ⟨q, by omega, by rw [rangeV_len, Nat.zero_add] at h; exact h⟩) fun _ _ h => h
      rintro ρ S4 ⟨j, hj, v, x3, x4, rfl, hv, cs4⟩
      rw [s_ret, w_var rfl]
      have h1 := hv.dep
      have h2 := hv.tc
      exact ⟨⟨v, rfl, ⟨hv.ok, by omega, by omega⟩⟩, cs4⟩
    · rw [decide_eq_false hi, if_neg (by decide)]
      exact ⟨⟨_, _, _, rfl⟩, cs.trans cs2⟩
  rintro ρ S2 ⟨⟨x2, x3, x4, rfl⟩, cs2⟩
  refine s_step (N' := fun ρ S' => ρ = [some (.ref c), some (.bl false), x2, x3, x4, some (shV (.node .zero .one))] ∧ Kp S2 S') ?_ ?_
  · rw [s_set, w_if, w_tnot, w_tval, w_var rfl, isB_bl, if_pos (show (!false) = true from rfl), w_op, w_lst, w_cons, w_c, w_cons, w_tup, w_cons, w_c, w_cons, w_c, w_nil]
    refine ⟨Nat.le_of_ble_eq_true rfl, ?_⟩
    rw [w_nil]
    refine ⟨Nat.le_of_ble_eq_true rfl, ?_⟩
    rw [w_call, w_cons, w_not, w_var rfl, isB_bl, w_nil]
    show Run (oIx (.ref S2.length) (.int 1) (S2 ++ [Cell.lst [.int 1, .tup [.int 0, .int 1]]])) _
    rw [ixn1]
    exact ⟨rfl, (Gr.add _ _).kp⟩
  rintro ρ S3 ⟨rfl, k3⟩
  refine s_step (N' := fun ρ S' => (∃ v x3, ρ = [some (.ref c), some (.bl false), x2, x3, x4, some (shV v)] ∧ v.ok = true ∧ v.dep = 6 ∧ v.tc = 63) ∧ S' = S3) ?_ ?_
  · rw [s_forR, w_cons, w_c, w_nil]
    show if -(2 ^ 62) ≤ (5 : Int) ∧ (5 : Int) < 2 ^ 62 then _ else False
    rw [if_pos (by decide)]
    refine RunS.mono (runS_loopV 5 (fun j ρ S' => (∃ v x3, ρ = [some (.ref c), some (.bl false), x2, x3, x4, some (shV v)] ∧ v.ok = true ∧ v.dep = j + 1 ∧ v.tc = 2 ^ (j + 1) - 1) ∧ S' = S3) ?_ _ 0 _ _ (by rw [rangeV_len]; decide) ⟨⟨_, _, rfl, by decide, by decide, by decide⟩, rfl⟩) ?_ fun _ _ h => h
    · rintro j x ρ S4 hj ⟨⟨v, x3, rfl, v1, v2, v3⟩, rfl⟩
      refine ⟨[some (.ref c), some (.bl false), x2, some x, x4, some (shV v)], rfl, ?_⟩
      rw [s_set, w_if, w_tval, w_var rfl, isB_bl, if_neg (by decide), w_tup, w_cons, w_var rfl, w_cons, w_var rfl, w_nil]
      have hp : 1 ≤ 2 ^ (j + 1) := Nat.pow_pos (by decide)
      have nz : ∀ u : Sh, u.dep = 0 → v ≠ u := fun u hu e => by rw [e] at v2; omega
      refine ⟨Nat.le_of_ble_eq_true rfl, ⟨.node v v, some x, rfl, Sh.ok_node.mpr ⟨v1, v1, fun h => nz _ rfl h.1, fun h => nz _ rfl h.1⟩, ?_, ?_⟩, rfl⟩
      · show 1 + max v.dep v.dep = j + 1 + 1
        omega
      · show 1 + (v.tc + v.tc) = 2 ^ (j + 1 + 1) - 1
        rw [Nat.pow_succ 2 (j + 1)]; omega
    · rw [rangeV_len]
      exact fun _ _ h => h
  rintro ρ S4 ⟨⟨v, x3, rfl, v1, v2, v3⟩, rfl⟩
  rw [s_ret, w_var rfl]
  exact ⟨⟨v, rfl, ⟨v1, by omega, by omega⟩⟩, cs2.kp k3⟩
end PD.K02

/-! ## K02R1 -/
set_option Elab.async false
set_option linter.all false
set_option maxRecDepth 100000
set_option maxHeartbeats 1000000
namespace PD.K02
open PySem PySem.Spec L2 PD LT
/-! ### the reader's cell -/
def rdr (z : Str) (a d t : Nat) : Cell := .obj "Reader" [("text", .str z), ("at", .int a), ("depth", .int d), ("tuples", .int t)]
theorem c_text : ("Reader" : Str) ∈ cls_ ∧ ("text" : Str) ∈ nms_ := by decide +kernel
theorem c_at : ("Reader" : Str) ∈ cls_ ∧ ("at" : Str) ∈ nms_ := by decide +kernel
theorem c_depth : ("Reader" : Str) ∈ cls_ ∧ ("depth" : Str) ∈ nms_ := by decide +kernel
theorem c_tuples : ("Reader" : Str) ∈ cls_ ∧ ("tuples" : Str) ∈ nms_ := by decide +kernel
theorem e_at : (("at" : Str) == ("text" : Str)) = false ∧ (("depth" : Str) == ("text" : Str)) = false ∧ (("depth" : Str) == ("at" : Str)) = false ∧ (("tuples" : Str) == ("text" : Str)) = false ∧ (("tuples" : Str) == ("at" : Str)) = false ∧ (("tuples" : Str) == ("depth" : Str)) = false := by decide +kernel
theorem lk_text {x y u v : Val} : List.lookup ("text" : Str) [("text", x), ("at", y), ("depth", u), ("tuples", v)] = some x := by rw [List.lookup_cons_self]
theorem lk_at {x y u v : Val} : List.lookup ("at" : Str) [("text", x), ("at", y), ("depth", u), ("tuples", v)] = some y := by rw [List.lookup_cons, e_at.1]; exact List.lookup_cons_self
theorem lk_depth {x y u v : Val} : List.lookup ("depth" : Str) [("text", x), ("at", y), ("depth", u), ("tuples", v)] = some u := by
  rw [List.lookup_cons, e_at.2.1]
  show List.lookup _ _ = _
  rw [List.lookup_cons, e_at.2.2.1]
  exact List.lookup_cons_self
theorem lk_tuples {x y u v : Val} : List.lookup ("tuples" : Str) [("text", x), ("at", y), ("depth", u), ("tuples", v)] = some v := by
  rw [List.lookup_cons, e_at.2.2.2.1]
  show List.lookup _ _ = _
  rw [List.lookup_cons, e_at.2.2.2.2.1]
  show List.lookup _ _ = _
  rw [List.lookup_cons, e_at.2.2.2.2.2]
  exact List.lookup_cons_self
theorem n_at : ¬ (("text" : Str) = ("at" : Str)) ∧ ¬ (("text" : Str) = ("depth" : Str)) ∧ ¬ (("at" : Str) = ("depth" : Str)) ∧ ¬ (("text" : Str) = ("tuples" : Str)) ∧ ¬ (("at" : Str) = ("tuples" : Str)) ∧ ¬ (("depth" : Str) = ("tuples" : Str)) := by decide +kernel
theorem pt_at {x y u v w : Val} : putV "at" w [("text", x), ("at", y), ("depth", u), ("tuples", v)] = ([("text", x), ("at", w), ("depth", u), ("tuples", v)] : List (Str × Val)) := by
  simp only [putV, if_neg n_at.1, if_true]
theorem pt_depth {x y u v w : Val} : putV "depth" w [("text", x), ("at", y), ("depth", u), ("tuples", v)] = ([("text", x), ("at", y), ("depth", w), ("tuples", v)] : List (Str × Val)) := by
  simp only [putV, if_neg n_at.2.1, if_neg n_at.2.2.1, if_true]
theorem pt_tuples {x y u v w : Val} : putV "tuples" w [("text", x), ("at", y), ("depth", u), ("tuples", v)] = ([("text", x), ("at", y), ("depth", u), ("tuples", w)] : List (Str × Val)) := by
  simp only [putV, if_neg n_at.2.2.2.1, if_neg n_at.2.2.2.2.1, if_neg n_at.2.2.2.2.2, if_true]
section
variable {z : Str} {a d t n : Nat} {ρ : PD.Env} {S : Store}
theorem fld_of {nm : Str} {v : Val} (hS : S[n]? = some (rdr z a d t)) (hc : ("Reader" : Str) ∈ cls_ ∧ nm ∈ nms_) (hl : List.lookup nm [(("text" : Str), Val.str z), ("at", .int a), ("depth", .int d), ("tuples", .int t)] = some v) : dFld cls_ nms_ (dVar 0) nm (some (.ob n) :: ρ) S = .ok v S := by
  show (match S[n]? with
    | some (.obj cn fs) => if cn ∈ cls_ ∧ nm ∈ nms_ then (match fs.lookup nm with
      | some v => Res.ok v S
      | none => .stuck) else .stuck
    | _ => .stuck) = _
  rw [hS]
  show (if ("Reader" : Str) ∈ cls_ ∧ nm ∈ nms_ then (match List.lookup nm [(("text" : Str), Val.str z), ("at", .int a), ("depth", .int d), ("tuples", .int t)] with
      | some v => Res.ok v S
      | none => .stuck) else .stuck) = _
  rw [if_pos hc, hl]
theorem f_text (hS : S[n]? = some (rdr z a d t)) : dFld cls_ nms_ (dVar 0) "text" (some (.ob n) :: ρ) S = .ok (.str z) S := fld_of hS c_text lk_text
theorem f_at (hS : S[n]? = some (rdr z a d t)) : dFld cls_ nms_ (dVar 0) "at" (some (.ob n) :: ρ) S = .ok (.int a) S := fld_of hS c_at lk_at
theorem f_depth (hS : S[n]? = some (rdr z a d t)) : dFld cls_ nms_ (dVar 0) "depth" (some (.ob n) :: ρ) S = .ok (.int d) S := fld_of hS c_depth lk_depth
theorem f_tuples (hS : S[n]? = some (rdr z a d t)) : dFld cls_ nms_ (dVar 0) "tuples" (some (.ob n) :: ρ) S = .ok (.int t) S := fld_of hS c_tuples lk_tuples
theorem put_of {nm : Str} {v : Val} {c : Cell} (hS : S[n]? = some (rdr z a d t)) (hc : ("Reader" : Str) ∈ cls_ ∧ nm ∈ nms_) (hp : Cell.obj "Reader" (putV nm v [(("text" : Str), Val.str z), ("at", .int a), ("depth", .int d), ("tuples", .int t)]) = c) : putO cls_ nms_ n nm v S = some (S.set n c) := by
  unfold putO
  rw [hS]
  show (if ("Reader" : Str) ∈ cls_ ∧ nm ∈ nms_ ∧ 4 < 1000 then some (S.set n (.obj "Reader" (putV nm v [(("text" : Str), Val.str z), ("at", .int a), ("depth", .int d), ("tuples", .int t)]))) else none) = _
  rw [if_pos ⟨hc.1, hc.2, by decide⟩, hp]
theorem add_of {nm : Str} {i : Int} {c : Cell} {g : Int → Int → Int} (hS : S[n]? = some (rdr z a d t)) (hc : ("Reader" : Str) ∈ cls_ ∧ nm ∈ nms_) (hl : List.lookup nm [(("text" : Str), Val.str z), ("at", .int a), ("depth", .int d), ("tuples", .int t)] = some (.int i))
    (hp : Cell.obj "Reader" (putV nm (.int (g i 1)) [(("text" : Str), Val.str z), ("at", .int a), ("depth", .int d), ("tuples", .int t)]) = c) : sFldA cls_ nms_ (dVar 0) nm (dC (.int 1)) g (some (.ob n) :: ρ) S = .next (some (.ob n) :: ρ) (S.set n c) := by
  show (match S[n]? with
    | some (.obj cn fs) => if cn ∈ cls_ ∧ nm ∈ nms_ then (match fs.lookup nm with
      | some (.int i) => if S[n]?.bind cnOf = some cn then (match putO cls_ nms_ n nm (.int (g i 1)) S with
          | some S3 => SRes.next (some (.ob n) :: ρ) S3
          | none => .stuck) else .stuck
      | _ => .stuck) else .stuck
    | _ => .stuck) = _
  rw [hS]
  show (if ("Reader" : Str) ∈ cls_ ∧ nm ∈ nms_ then (match List.lookup nm [(("text" : Str), Val.str z), ("at", .int a), ("depth", .int d), ("tuples", .int t)] with
      | some (.int i) => if (some (rdr z a d t)).bind cnOf = some ("Reader" : Str) then (match putO cls_ nms_ n nm (.int (g i 1)) S with
          | some S3 => SRes.next (some (.ob n) :: ρ) S3
          | none => .stuck) else .stuck
      | _ => .stuck) else .stuck) = _
  rw [if_pos hc, hl]
  show (if (some (rdr z a d t)).bind cnOf = some ("Reader" : Str) then (match putO cls_ nms_ n nm (.int (g i 1)) S with
          | some S3 => SRes.next (some (.ob n) :: ρ) S3
          | none => .stuck) else .stuck) = _
  rw [if_pos (show (some (rdr z a d t)).bind cnOf = some ("Reader" : Str) from rfl), put_of hS hc hp]
theorem a_at (hS : S[n]? = some (rdr z a d t)) : sFldA cls_ nms_ (dVar 0) "at" (dC (.int 1)) (fun i j => i + j) (some (.ob n) :: ρ) S = .next (some (.ob n) :: ρ) (S.set n (rdr z (a + 1) d t)) := add_of hS c_at lk_at (by rw [pt_at]; rfl)
theorem a_depth (hS : S[n]? = some (rdr z a d t)) : sFldA cls_ nms_ (dVar 0) "depth" (dC (.int 1)) (fun i j => i + j) (some (.ob n) :: ρ) S = .next (some (.ob n) :: ρ) (S.set n (rdr z a (d + 1) t)) := add_of hS c_depth lk_depth (by rw [pt_depth]; rfl)
theorem a_tuples (hS : S[n]? = some (rdr z a d t)) : sFldA cls_ nms_ (dVar 0) "tuples" (dC (.int 1)) (fun i j => i + j) (some (.ob n) :: ρ) S = .next (some (.ob n) :: ρ) (S.set n (rdr z a d (t + 1))) := add_of hS c_tuples lk_tuples (by rw [pt_tuples]; rfl)
theorem m_depth (hS : S[n]? = some (rdr z a (d + 1) t)) : sFldA cls_ nms_ (dVar 0) "depth" (dC (.int 1)) (fun i j => i - j) (some (.ob n) :: ρ) S = .next (some (.ob n) :: ρ) (S.set n (rdr z a d t)) := add_of hS c_depth lk_depth (by rw [pt_depth]; show Cell.obj _ _ = Cell.obj _ _; rw [show ((d + 1 : Nat) : Int) - 1 = (d : Int) from by omega])
end
/-! ### a step's equality -/
section
variable {f g : D} {b c : SD} {ρ ρ1 : PD.Env} {S S1 S2 : Store} {x y : Val} {e : Exn} {as : DA}
theorem q_op {o : Op2} (h1 : f ρ S = .ok x S1) (h2 : g ρ S1 = .ok y S2) : dOp o f g ρ S = o x y S2 := by unfold dOp; rw [h1]; show (g ρ S1).bind _ = _; rw [h2]; rfl
theorem q_some {i : Int} (h : f ρ S = .ok (.int i) S1) : oSome f ρ S = .ok (some i) S1 := by unfold oSome; rw [h]; rfl
theorem q_sl {lo hi : Option Int} {l h : DO} {S3 : Store} (h1 : f ρ S = .ok x S1) (h2 : l ρ S1 = .ok lo S2) (h3 : h ρ S2 = .ok hi S3) : dSl f l h ρ S = vSl x lo hi S3 := by
  unfold dSl; rw [h1]; show (l ρ S1).bind _ = _; rw [h2]; show (h ρ S2).bind _ = _; rw [h3]; rfl
theorem q_ret (h : f ρ S = .ok x S1) : sRet f ρ S = .ret x S1 := by unfold sRet; rw [h]; rfl
theorem q_drop (h : f ρ S = .ok x S1) : sDrop f ρ S = .next ρ S1 := by unfold sDrop; rw [h]; rfl
theorem q_dropX (h : f ρ S = .exc e S1) : sDrop f ρ S = .exc e ρ S1 := by unfold sDrop; rw [h]; rfl
theorem q_retX (h : f ρ S = .exc e S1) : sRet f ρ S = .exc e ρ S1 := by unfold sRet; rw [h]; rfl
theorem q_set {i : Nat} (h : f ρ S = .ok x S1) : sSet i f ρ S = .next (ρ.set i (some x)) S1 := by unfold sSet; rw [h]; rfl
theorem q_setX {i : Nat} (h : f ρ S = .exc e S1) : sSet i f ρ S = .exc e ρ S1 := by unfold sSet; rw [h]; rfl
theorem q_seq (h : b ρ S = .next ρ1 S1) : sSeq b c ρ S = c ρ1 S1 := by unfold sSeq; rw [h]; rfl
theorem q_seqR (h : b ρ S = .ret x S1) : sSeq b c ρ S = .ret x S1 := by unfold sSeq; rw [h]; rfl
theorem q_seqX (h : b ρ S = .exc e ρ1 S1) : sSeq b c ρ S = .exc e ρ1 S1 := by unfold sSeq; rw [h]; rfl
theorem q_if {t : DT} {v : Bool} (h : t ρ S = .ok v S1) : sIf t b c ρ S = if v = true then b ρ S1 else c ρ S1 := by unfold sIf; rw [h]; rfl
theorem q_tval {v : Bool} (h : f ρ S = .ok (.bl v) S1) : tVal f ρ S = .ok v S1 := by unfold tVal; rw [h]; rfl
theorem q_tnot {t : DT} {v : Bool} (h : t ρ S = .ok v S1) : tNot' t ρ S = .ok (!v) S1 := by unfold tNot'; rw [h]; rfl
theorem q_one (h : f ρ S = .ok x S1) : aCons f aNil ρ S = .ok [x] S1 := by unfold aCons; rw [h]; rfl
theorem q_cons {xs : List Val} (h : f ρ S = .ok x S1) (h2 : as ρ S1 = .ok xs S2) : aCons f as ρ S = .ok (x :: xs) S2 := by unfold aCons; rw [h]; show (as ρ S1).bind _ = _; rw [h2]; rfl
theorem q_call {F : Fn} {xs : List Val} (h : as ρ S = .ok xs S1) : dCall F as ρ S = F xs S1 := by unfold dCall; rw [h]; rfl
theorem q_callX {F : Fn} (h : as ρ S = .exc e S1) : dCall F as ρ S = .exc e S1 := by unfold dCall; rw [h]; rfl
theorem q_raise {k lv : Nat} {nm : Str} (hl : 2 ≤ lv) (h : f ρ S = .ok x S1) : sRaiseF k nm f lv ρ S = .exc ⟨k, [(nm, x)]⟩ ρ S1 := by unfold sRaiseF; rw [if_pos hl, h]; rfl
theorem q_fn {n m : Nat} {xs : List Val} {r : Res Val} (h : xs.length = n) (e : xs.map some ++ List.replicate (m - n) none = ρ) (q : (match b ρ S with
  | .ret v S' => .ok v S'
  | .next _ S' => .ok .non S'
  | .exc e _ S' => .exc e S'
  | _ => .stuck) = r) : fnOf n m b xs S = r := by
  unfold fnOf
  rw [if_pos h, e]; exact q
theorem q_meth {tab : List (Str × Fn)} {F : Fn} {m cn : Str} {o : D} {n : Nat} {fs : List (Str × Val)} {xs : List Val} (ho : o ρ S = .ok (.ob n) S) (hS : S[n]? = some (.obj cn fs)) (ht : tab.lookup cn = some F) (hf : fs.lookup m = none) (ha : as ρ S = .ok xs S1) : dMeth tab o m as ρ S = F (.ob n :: xs) S1 := by
  unfold dMeth
  rw [ho]
  show (match S[n]? with
    | some (.obj cn fs) => match tab.lookup cn with
      | some F => (match fs.lookup m with
        | none => (as ρ S).bind fun xs S2 => F (.ob n :: xs) S2
        | some _ => .stuck)
      | none => .stuck
    | _ => .stuck) = _
  rw [hS]
  show (match tab.lookup cn with
      | some F => (match fs.lookup m with
        | none => (as ρ S).bind fun xs S2 => F (.ob n :: xs) S2
        | some _ => .stuck)
      | none => .stuck) = _
  rw [ht]
  show (match fs.lookup m with
        | none => (as ρ S).bind fun xs S2 => F (.ob n :: xs) S2
        | some _ => .stuck) = _
  rw [hf, ha]; rfl
end
/-! ### texts -/
def Tx (z : Str) : Prop := z.length ≤ 1000000 ∧ ∀ c ∈ z.cps.toList, c < 1114112
def sg (c : Nat) : Str := ⟨#[c]⟩
theorem cut_at {z : Str} {a : Nat} : cutS z (some (a : Int)) (some ((a + 1 : Nat) : Int)) = match z.cps.toList[a]? with | some c => sg c | none => ⟨#[]⟩ := by
  unfold cutS
  rw [HT.sIx_nat, HT.sIx_nat]
  have hz : z.length = z.cps.toList.length := by show z.cps.size = _; rw [Array.length_toList]
  rw [hz]
  by_cases h : a < z.cps.toList.length
  · rw [Nat.min_eq_left (Nat.le_of_lt h), Nat.min_eq_left h, List.getElem?_eq_getElem h, List.drop_eq_getElem_cons h, show a + 1 - a = 1 from by omega]
    rfl
  · rw [List.getElem?_eq_none (by omega), Nat.min_eq_right (by omega), Nat.min_eq_right (by omega), Nat.sub_self]
    rfl
theorem str_lay {z : Str} (h : ∀ c ∈ z.cps.toList, c < 1114112) : (PyData.str z).canLay0 = true := by
  simp only [PyData.canLay0]
  unfold PyData.strOk
  rw [← Array.all_toList, List.all_eq_true]
  exact fun c hc => decide_eq_true (h c hc)
theorem da_str {z : Str} {S : Store} {d : Nat} (h : ∀ c ∈ z.cps.toList, c < 1114112) : Da S d (.str z) := .str _ _ (str_lay h)
theorem eqv_str {a b : Str} : PyData.eqv (.str a) (.str b) = decide (a = b) := by
  show (a == b) = _
  rw [Bool.eq_iff_iff]; simp
theorem run_eqZ {a b : Str} {S : Store} {Q : Val → Store → Prop} (ha : ∀ c ∈ a.cps.toList, c < 1114112) (hb : ∀ c ∈ b.cps.toList, c < 1114112) : Run (oEq (.str a) (.str b) S) Q = Q (.bl (decide (a = b))) S := by
  rw [run_eq (d := 0) (e := 0) (da_str ha) (da_str hb) (by decide) (by decide)]
  show Q (.bl (PyData.eqv (.str a) (.str b))) S = _
  rw [eqv_str]
theorem run_neZ {a b : Str} {S : Store} {Q : Val → Store → Prop} (ha : ∀ c ∈ a.cps.toList, c < 1114112) (hb : ∀ c ∈ b.cps.toList, c < 1114112) : Run (oNe (.str a) (.str b) S) Q = Q (.bl (!decide (a = b))) S := by
  rw [run_ne (d := 0) (e := 0) (da_str ha) (da_str hb) (by decide) (by decide)]
  show Q (.bl (!PyData.eqv (.str a) (.str b))) S = _
  rw [eqv_str]
theorem run_ok_of {r : Res Val} {v : Val} {S : Store} (h : Run r (fun w S' => w = v ∧ S' = S)) : r = .ok v S := by
  obtain ⟨_, _, e, rfl, rfl⟩ := h.to
  exact e
theorem ok_run {r : Res Val} {v : Val} {S : Store} {Q : Val → Store → Prop} (h : r = .ok v S) : Run r Q = Q v S := by rw [h]; rfl
theorem empty_is : (("" : Str)) = ⟨#[]⟩ := by decide +kernel
/-! ### sees, take -/
def seesB (z : Str) (a : Nat) (g : Str) : Bool := match z.cps.toList[a]? with
  | some c => decide (c ∈ g.cps.toList)
  | none => false
section
variable {z g : Str} {a d t n k : Nat} {S : Store}
theorem sees_ok (hS : S[n]? = some (rdr z a d t)) (hz : Tx z) : (fns (k + 1)).Reader_sees [.ob n, .str g] S = .ok (.bl (seesB z a g)) S := by
  show fnOf 2 3 (b_Reader_sees (fns k)) [.ob n, .str g] S = _
  refine q_fn (ρ := [some (.ob n), some (.str g), none]) rfl rfl ?_
  have h1 : (dSl (dFld cls_ nms_ (dVar 0) "text") (oSome (dFld cls_ nms_ (dVar 0) "at")) (oSome (dOp oAdd (dFld cls_ nms_ (dVar 0) "at") (dC (.int 1))))) [some (.ob n), some (.str g), none] S = .ok (.str (cutS z (some (a : Int)) (some ((a + 1 : Nat) : Int)))) S := by
    rw [q_sl (f_text hS) (q_some (f_at hS)) (q_some (i := (a : Int) + 1) (S1 := S) (by rw [q_op (f_at hS) (y := Val.int 1) (S2 := S) rfl]; rfl))]
    unfold vSl
    show (if z.length ≤ 16777216 then Res.ok (Val.str (cutS z (some (a : Int)) (some ((a : Int) + 1)))) S else .stuck) = _
    rw [if_pos (by have := hz.1; omega)]; rfl
  unfold b_Reader_sees
  rw [q_seq (q_set h1), cut_at]
  show (match sRet _ [some (.ob n), some (.str g), some (.str (match z.cps.toList[a]? with | some c => sg c | none => ⟨#[]⟩))] S with
  | .ret v S' => Res.ok v S'
  | .next _ S' => .ok .non S'
  | .exc e _ S' => .exc e S'
  | _ => .stuck) = _
  unfold seesB
  cases hc : z.cps.toList[a]? with
  | none =>
    have : (dAnd (dOp oNe (dVar 2) (dC (.str ""))) (dOp oInS (dVar 2) (dVar 1))) [some (.ob n), some (.str g), some (.str ⟨#[]⟩)] S = .ok (.bl false) S := run_ok_of (by
      rw [w_and, w_op, w_var rfl, w_c, empty_is, run_neZ (fun _ h => absurd h List.not_mem_nil) (fun _ h => absurd h List.not_mem_nil), isB_bl]
      simp)
    rw [q_ret this]
  | some c =>
    have hlt : c < 1114112 := hz.2 c (List.mem_of_getElem? hc)
    have : (dAnd (dOp oNe (dVar 2) (dC (.str ""))) (dOp oInS (dVar 2) (dVar 1))) [some (.ob n), some (.str g), some (.str (sg c))] S = .ok (.bl (decide (c ∈ g.cps.toList))) S := run_ok_of (by
      have ne : ¬ (sg c = ⟨#[]⟩) := fun e => by cases e
      rw [w_and, w_op, w_var rfl, w_c, empty_is, run_neZ (fun x h => by rw [List.mem_singleton.mp h]; exact hlt) (fun _ h => absurd h List.not_mem_nil), isB_bl, decide_eq_false ne]
      rw [Bool.not_false, if_pos rfl, w_op, w_var rfl, w_var rfl]
      exact ⟨rfl, rfl⟩)
    rw [q_ret this]
theorem set_at (hS : S[n]? = some (rdr z a d t)) {c : Cell} : (S.set n c)[n]? = some c := List.getElem?_set_self (List.getElem?_eq_some_iff.mp hS).1
theorem lk_none {m : Str} {x y u v : Val} (h : (m == ("text" : Str)) = false ∧ (m == ("at" : Str)) = false ∧ (m == ("depth" : Str)) = false ∧ (m == ("tuples" : Str)) = false) : List.lookup m [("text", x), ("at", y), ("depth", u), ("tuples", v)] = none := by
  simp only [List.lookup, h.1, h.2.1, h.2.2.1, h.2.2.2]
theorem m_sees : (("sees" : Str) == ("text" : Str)) = false ∧ (("sees" : Str) == ("at" : Str)) = false ∧ (("sees" : Str) == ("depth" : Str)) = false ∧ (("sees" : Str) == ("tuples" : Str)) = false := by decide +kernel
theorem m_take : (("take" : Str) == ("text" : Str)) = false ∧ (("take" : Str) == ("at" : Str)) = false ∧ (("take" : Str) == ("depth" : Str)) = false ∧ (("take" : Str) == ("tuples" : Str)) = false := by decide +kernel
theorem m_begin : (("begin_tuple" : Str) == ("text" : Str)) = false ∧ (("begin_tuple" : Str) == ("at" : Str)) = false ∧ (("begin_tuple" : Str) == ("depth" : Str)) = false ∧ (("begin_tuple" : Str) == ("tuples" : Str)) = false := by decide +kernel
theorem m_end : (("end_tuple" : Str) == ("text" : Str)) = false ∧ (("end_tuple" : Str) == ("at" : Str)) = false ∧ (("end_tuple" : Str) == ("depth" : Str)) = false ∧ (("end_tuple" : Str) == ("tuples" : Str)) = false := by decide +kernel
theorem m_finish : (("finish" : Str) == ("text" : Str)) = false ∧ (("finish" : Str) == ("at" : Str)) = false ∧ (("finish" : Str) == ("depth" : Str)) = false ∧ (("finish" : Str) == ("tuples" : Str)) = false := by decide +kernel
def bad (a : Nat) : Exn := ⟨2, [("index", .int a)]⟩
theorem take_ok (hS : S[n]? = some (rdr z a d t)) (hz : Tx z) (hk : 2 ≤ k) : (fns (k + 1)).Reader_take [.ob n, .str g] S = match z.cps.toList[a]? with
    | some c => if c ∈ g.cps.toList then .ok (.str (sg c)) (S.set n (rdr z (a + 1) d t)) else .exc (bad a) S
    | none => .exc (bad a) S := by
  obtain ⟨k, rfl⟩ : ∃ m, k = m + 1 := ⟨k - 1, by omega⟩
  have hlv : 2 ≤ (fns (k + 1)).lv := by rw [fns_lv]; exact hk
  have h1 : (tNot' (tVal (dMeth [("Reader", (fns (k + 1)).Reader_sees)] (dVar 0) "sees" (aCons (dVar 1) aNil)))) [some (.ob n), some (.str g)] S = .ok (!seesB z a g) S := by
    refine q_tnot (q_tval ?_)
    rw [q_meth (cn := "Reader") (F := (fns (k + 1)).Reader_sees) (xs := [.str g]) (S1 := S) rfl hS (List.lookup_cons_self) (lk_none m_sees) rfl]
    exact sees_ok hS hz
  show fnOf 2 2 (b_Reader_take (fns (k + 1))) [.ob n, .str g] S = _
  refine q_fn (ρ := [some (.ob n), some (.str g)]) rfl rfl ?_
  unfold b_Reader_take
  cases hb : seesB z a g with
  | false =>
    rw [hb] at h1
    rw [q_seqX (e := bad a) (S1 := S) (ρ1 := [some (.ob n), some (.str g)]) (by rw [q_if h1, Bool.not_false, if_pos rfl]; exact q_raise hlv (f_at hS))]
    unfold seesB at hb
    cases hc : z.cps.toList[a]? with
    | none => rfl
    | some c =>
      rw [hc] at hb
      show _ = if _ then _ else _
      rw [if_neg (of_decide_eq_false hb)]
  | true =>
    rw [hb] at h1
    unfold seesB at hb
    cases hc : z.cps.toList[a]? with
    | none => rw [hc] at hb; cases hb
    | some c =>
      rw [hc] at hb
      have hm := of_decide_eq_true hb
      show _ = if _ then _ else _
      rw [if_pos hm, q_seq (S1 := S) (ρ1 := [some (.ob n), some (.str g)]) (by rw [q_if h1, Bool.not_true, if_neg (by decide)]; rfl), q_seq (a_at hS)]
      have hS2 : (S.set n (rdr z (a + 1) d t))[n]? = some (rdr z (a + 1) d t) := set_at hS
      have h2 : (dOp oIx (dFld cls_ nms_ (dVar 0) "text") (dOp oSub (dFld cls_ nms_ (dVar 0) "at") (dC (.int 1)))) [some (.ob n), some (.str g)] (S.set n (rdr z (a + 1) d t)) = .ok (.str (sg c)) (S.set n (rdr z (a + 1) d t)) := by
        rw [q_op (f_text hS2) (q_op (f_at hS2) (y := Val.int 1) (S2 := S.set n (rdr z (a + 1) d t)) rfl |>.trans (show oSub (Val.int ((a + 1 : Nat) : Int)) (Val.int 1) _ = Res.ok (Val.int (a : Int)) (S.set n (rdr z (a + 1) d t)) from by
          show okI (((a + 1 : Nat) : Int) - 1) _ = _
          rw [show ((a + 1 : Nat) : Int) - 1 = (a : Int) from by omega]; rfl))]
        show (match L2.atI z.cps.toList (a : Int) with
          | some c => if z.length ≤ 16777216 then Res.ok (Val.str ⟨#[c]⟩) (S.set n (rdr z (a + 1) d t)) else .stuck
          | none => .stuck) = _
        rw [atI_nat hc]
        show (if z.length ≤ 16777216 then Res.ok (Val.str ⟨#[c]⟩) (S.set n (rdr z (a + 1) d t)) else .stuck) = _
        rw [if_pos (by have := hz.1; omega)]; rfl
      rw [q_ret h2]
end
end PD.K02

/-! ## K02R2 -/
set_option Elab.async false
set_option linter.all false
set_option maxRecDepth 100000
set_option maxHeartbeats 1000000
namespace PD.K02
open PySem PySem.Spec L2 PD LT
section
variable {z g : Str} {a d t n k : Nat} {S : Store}
theorem run_take (hS : S[n]? = some (rdr z a d t)) (hz : Tx z) (hk : 3 ≤ k) {ρ : PD.Env} {c : Nat} {g : Str} (hc : z.cps.toList[a]? = some c) (hg : c ∈ g.cps.toList) : dMeth [("Reader", (fns k).Reader_take)] (dVar 0) "take" (aCons (dC (.str g)) aNil) (some (.ob n) :: ρ) S = .ok (.str (sg c)) (S.set n (rdr z (a + 1) d t)) := by
  obtain ⟨k, rfl⟩ : ∃ m, k = m + 1 := ⟨k - 1, by omega⟩
  rw [q_meth (cn := "Reader") (F := (fns (k + 1)).Reader_take) (xs := [.str g]) (S1 := S) rfl hS List.lookup_cons_self (lk_none m_take) rfl, take_ok hS hz (by omega), hc]
  show (if _ then _ else _) = _
  rw [if_pos hg]
theorem run_takeV (hS : S[n]? = some (rdr z a d t)) (hz : Tx z) (hk : 3 ≤ k) {ρ : PD.Env} {c i : Nat} {g : Str} (hi : (some (.ob n) :: ρ)[i]? = some (some (.str g))) (hc : z.cps.toList[a]? = some c) (hg : c ∈ g.cps.toList) : dMeth [("Reader", (fns k).Reader_take)] (dVar 0) "take" (aCons (dVar i) aNil) (some (.ob n) :: ρ) S = .ok (.str (sg c)) (S.set n (rdr z (a + 1) d t)) := by
  obtain ⟨k, rfl⟩ : ∃ m, k = m + 1 := ⟨k - 1, by omega⟩
  rw [q_meth (cn := "Reader") (F := (fns (k + 1)).Reader_take) (xs := [.str g]) (S1 := S) rfl hS List.lookup_cons_self (lk_none m_take) (q_one (by unfold dVar; rw [hi])), take_ok hS hz (by omega), hc]
  show (if _ then _ else _) = _
  rw [if_pos hg]
theorem no_take (hS : S[n]? = some (rdr z a d t)) (hz : Tx z) (hk : 3 ≤ k) {ρ : PD.Env} {g : Str} (hc : ∀ c, z.cps.toList[a]? = some c → ¬ c ∈ g.cps.toList) : dMeth [("Reader", (fns k).Reader_take)] (dVar 0) "take" (aCons (dC (.str g)) aNil) (some (.ob n) :: ρ) S = .exc (bad a) S := by
  obtain ⟨k, rfl⟩ : ∃ m, k = m + 1 := ⟨k - 1, by omega⟩
  rw [q_meth (cn := "Reader") (F := (fns (k + 1)).Reader_take) (xs := [.str g]) (S1 := S) rfl hS List.lookup_cons_self (lk_none m_take) rfl, take_ok hS hz (by omega)]
  cases h : z.cps.toList[a]? with
  | none => rfl
  | some c => show (if _ then _ else _) = _; rw [if_neg (hc c h)]
theorem no_takeV (hS : S[n]? = some (rdr z a d t)) (hz : Tx z) (hk : 3 ≤ k) {ρ : PD.Env} {i : Nat} {g : Str} (hi : (some (.ob n) :: ρ)[i]? = some (some (.str g))) (hc : ∀ c, z.cps.toList[a]? = some c → ¬ c ∈ g.cps.toList) : dMeth [("Reader", (fns k).Reader_take)] (dVar 0) "take" (aCons (dVar i) aNil) (some (.ob n) :: ρ) S = .exc (bad a) S := by
  obtain ⟨k, rfl⟩ : ∃ m, k = m + 1 := ⟨k - 1, by omega⟩
  rw [q_meth (cn := "Reader") (F := (fns (k + 1)).Reader_take) (xs := [.str g]) (S1 := S) rfl hS List.lookup_cons_self (lk_none m_take) (q_one (by unfold dVar; rw [hi])), take_ok hS hz (by omega)]
  cases h : z.cps.toList[a]? with
  | none => rfl
  | some c => show (if _ then _ else _) = _; rw [if_neg (hc c h)]
theorem run_sees (hS : S[n]? = some (rdr z a d t)) (hz : Tx z) (hk : 1 ≤ k) {ρ : PD.Env} {g : Str} : dMeth [("Reader", (fns k).Reader_sees)] (dVar 0) "sees" (aCons (dC (.str g)) aNil) (some (.ob n) :: ρ) S = .ok (.bl (seesB z a g)) S := by
  obtain ⟨k, rfl⟩ : ∃ m, k = m + 1 := ⟨k - 1, by omega⟩
  rw [q_meth (cn := "Reader") (F := (fns (k + 1)).Reader_sees) (xs := [.str g]) (S1 := S) rfl hS List.lookup_cons_self (lk_none m_sees) rfl]
  exact sees_ok hS hz
theorem q_or {f g : DT} {ρ : PD.Env} {S S1 S2 : Store} {v w : Bool} (h1 : f ρ S = .ok v S1) (h2 : g ρ S1 = .ok w S1) : tOr' f g ρ S = .ok (v || w) S1 := by
  unfold tOr'
  rw [h1]
  cases v with
  | true => rfl
  | false => exact h2
theorem open_is : (("(" : Str)) = ⟨#[40]⟩ ∧ ((")" : Str)) = ⟨#[41]⟩ ∧ (("," : Str)) = ⟨#[44]⟩ ∧ (("01" : Str)) = ⟨#[48, 49]⟩ ∧ (("0" : Str)) = ⟨#[48]⟩ ∧ (("1" : Str)) = ⟨#[49]⟩ := by decide +kernel
theorem in_open {c : Nat} : c ∈ (("(" : Str)).cps.toList ↔ c = 40 := by rw [open_is.1]; exact List.mem_singleton
theorem in_close {c : Nat} : c ∈ ((")" : Str)).cps.toList ↔ c = 41 := by rw [open_is.2.1]; exact List.mem_singleton
theorem in_comma {c : Nat} : c ∈ (("," : Str)).cps.toList ↔ c = 44 := by rw [open_is.2.2.1]; exact List.mem_singleton
theorem begin_test (hS : S[n]? = some (rdr z a d t)) {ρ : PD.Env} : (tOr' (tVal (dOp oEq (dFld cls_ nms_ (dVar 0) "depth") (dC (.int 12)))) (tVal (dOp oEq (dFld cls_ nms_ (dVar 0) "tuples") (dC (.int 63))))) (some (.ob n) :: ρ) S = .ok (decide (d = 12) || decide (t = 63)) S := by
  have e1 : decide (d = 12) = decide ((d : Int) = 12) := decide_eq_decide.mpr (by omega)
  have e2 : decide (t = 63) = decide ((t : Int) = 63) := decide_eq_decide.mpr (by omega)
  rw [e1, e2]
  refine q_or (S2 := S) (q_tval ?_) (q_tval ?_)
  · rw [q_op (f_depth hS) (y := Val.int 12) (S2 := S) rfl]; rfl
  · rw [q_op (f_tuples hS) (y := Val.int 63) (S2 := S) rfl]; rfl
theorem begin_no (hS : S[n]? = some (rdr z a d t)) (hk : 3 ≤ k) (h : d = 12 ∨ t = 63) : (fns (k + 1)).Reader_begin_tuple [.ob n] S = .exc (bad a) S := by
  have hlv : 2 ≤ (fns k).lv := by rw [fns_lv]; omega
  show fnOf 1 1 (b_Reader_begin_tuple (fns k)) [.ob n] S = _
  refine q_fn (ρ := [some (.ob n)]) rfl rfl ?_
  unfold b_Reader_begin_tuple
  rw [q_seqX (e := bad a) (S1 := S) (ρ1 := [some (.ob n)])]
  rw [q_if (begin_test hS), if_pos (by rcases h with h | h <;> simp [h])]
  exact q_raise hlv (f_at hS)
theorem begin_sign (hS : S[n]? = some (rdr z a d t)) (hz : Tx z) (hk : 3 ≤ k) (h : ¬ (d = 12 ∨ t = 63)) (hc : ∀ c, z.cps.toList[a]? = some c → ¬ c = 40) : (fns (k + 1)).Reader_begin_tuple [.ob n] S = .exc (bad a) S := by
  show fnOf 1 1 (b_Reader_begin_tuple (fns k)) [.ob n] S = _
  refine q_fn (ρ := [some (.ob n)]) rfl rfl ?_
  unfold b_Reader_begin_tuple
  have hd : ¬ (d = 12) := fun e => h (.inl e)
  have ht : ¬ (t = 63) := fun e => h (.inr e)
  rw [q_seq (S1 := S) (ρ1 := [some (.ob n)]) (by rw [q_if (begin_test hS), decide_eq_false hd, decide_eq_false ht]; rfl),
    q_seqX (q_dropX (no_take hS hz hk fun c e m => hc c e (in_open.mp m)))]
theorem begin_ok (hS : S[n]? = some (rdr z a d t)) (hz : Tx z) (hk : 3 ≤ k) (h : ¬ (d = 12 ∨ t = 63)) (hc : z.cps.toList[a]? = some 40) : (fns (k + 1)).Reader_begin_tuple [.ob n] S = .ok .non (S.set n (rdr z (a + 1) (d + 1) (t + 1))) := by
  show fnOf 1 1 (b_Reader_begin_tuple (fns k)) [.ob n] S = _
  refine q_fn (ρ := [some (.ob n)]) rfl rfl ?_
  unfold b_Reader_begin_tuple
  have hd : ¬ (d = 12) := fun e => h (.inl e)
  have ht : ¬ (t = 63) := fun e => h (.inr e)
  rw [q_seq (S1 := S) (ρ1 := [some (.ob n)]) (by rw [q_if (begin_test hS), decide_eq_false hd, decide_eq_false ht]; rfl),
    q_seq (q_drop (run_take hS hz hk hc (in_open.mpr rfl))), q_seq (a_depth (set_at hS)), List.set_set, a_tuples (set_at hS), List.set_set]
theorem run_begin (hS : S[n]? = some (rdr z a d t)) {ρ : PD.Env} {r : Res Val} (h : (fns k).Reader_begin_tuple [.ob n] S = r) : dMeth [("Reader", (fns k).Reader_begin_tuple)] (dVar 0) "begin_tuple" aNil (some (.ob n) :: ρ) S = r := by
  rw [q_meth (cn := "Reader") (F := (fns k).Reader_begin_tuple) (xs := []) (S1 := S) rfl hS List.lookup_cons_self (lk_none m_begin) rfl]
  exact h
theorem end_ok (hS : S[n]? = some (rdr z a (d + 1) t)) (hz : Tx z) (hk : 3 ≤ k) (hc : z.cps.toList[a]? = some 41) : (fns (k + 1)).Reader_end_tuple [.ob n] S = .ok .non (S.set n (rdr z (a + 1) d t)) := by
  show fnOf 1 1 (b_Reader_end_tuple (fns k)) [.ob n] S = _
  refine q_fn (ρ := [some (.ob n)]) rfl rfl ?_
  unfold b_Reader_end_tuple
  rw [q_seq (q_drop (run_take hS hz hk hc (in_close.mpr rfl))), m_depth (set_at hS), List.set_set]
theorem end_no (hS : S[n]? = some (rdr z a d t)) (hz : Tx z) (hk : 3 ≤ k) (hc : ∀ c, z.cps.toList[a]? = some c → ¬ c = 41) : (fns (k + 1)).Reader_end_tuple [.ob n] S = .exc (bad a) S := by
  show fnOf 1 1 (b_Reader_end_tuple (fns k)) [.ob n] S = _
  refine q_fn (ρ := [some (.ob n)]) rfl rfl ?_
  unfold b_Reader_end_tuple
  rw [q_seqX (q_dropX (no_take hS hz hk fun c e m => hc c e (in_close.mp m)))]
theorem run_end (hS : S[n]? = some (rdr z a d t)) {ρ : PD.Env} {r : Res Val} (h : (fns k).Reader_end_tuple [.ob n] S = r) : dMeth [("Reader", (fns k).Reader_end_tuple)] (dVar 0) "end_tuple" aNil (some (.ob n) :: ρ) S = r := by
  rw [q_meth (cn := "Reader") (F := (fns k).Reader_end_tuple) (xs := []) (S1 := S) rfl hS List.lookup_cons_self (lk_none m_end) rfl]
  exact h
theorem finish_ok (hS : S[n]? = some (rdr z a d t)) (hz : Tx z) (hk : 3 ≤ k) : (fns (k + 1)).Reader_finish [.ob n] S = if a < z.cps.toList.length then .exc (bad a) S else .ok .non S := by
  have hlv : 2 ≤ (fns k).lv := by rw [fns_lv]; omega
  show fnOf 1 1 (b_Reader_finish (fns k)) [.ob n] S = _
  refine q_fn (ρ := [some (.ob n)]) rfl rfl ?_
  unfold b_Reader_finish
  have hl : z.length = z.cps.toList.length := by show z.cps.size = _; rw [Array.length_toList]
  have h1 : (tVal (dOp oLt (dFld cls_ nms_ (dVar 0) "at") (dCall bLen (aCons (dFld cls_ nms_ (dVar 0) "text") aNil)))) [some (.ob n)] S = .ok (decide (a < z.cps.toList.length)) S := by
    have e1 : decide (a < z.cps.toList.length) = decide ((a : Int) < ((z.cps.toList.length : Nat) : Int)) := decide_eq_decide.mpr (by omega)
    rw [e1]
    refine q_tval (q_op (f_at hS) (y := Val.int z.length) (S2 := S) ?_ |>.trans ?_)
    · rw [q_call (q_one (f_text hS))]
      show (if z.length ≤ 16777216 then okI z.length S else .stuck) = _
      rw [if_pos (by have := hz.1; omega)]; rfl
    · rw [hl]; rfl
  rw [q_if h1]
  by_cases h : a < z.cps.toList.length
  · rw [decide_eq_true h, if_pos rfl, if_pos h, q_raise hlv (f_at hS)]; rfl
  · rw [decide_eq_false h, if_neg (by decide), if_neg h]; rfl
theorem run_finish (hS : S[n]? = some (rdr z a d t)) {ρ : PD.Env} {i : Nat} {r : Res Val} (hi : ρ[i]? = some (some (.ob n))) (h : (fns k).Reader_finish [.ob n] S = r) : dMeth [("Reader", (fns k).Reader_finish)] (dVar i) "finish" aNil ρ S = r := by
  rw [q_meth (cn := "Reader") (F := (fns k).Reader_finish) (xs := []) (S1 := S) (by unfold dVar; rw [hi]) hS List.lookup_cons_self (lk_none m_finish) rfl]
  exact h
end
/-! ### what is read -/
def wantOf : Sh → Option Bool
  | .zero => some true
  | .one => some false
  | .node _ _ => none
def numOk (w : Option Bool) (c : Nat) : Bool := match w with
  | none => decide (c = 48) || decide (c = 49)
  | some true => decide (c = 49)
  | some false => decide (c = 48)
def numS : Option Bool → Str
  | none => "01"
  | some true => "1"
  | some false => "0"
def bit (c : Nat) : Sh := if c = 49 then .one else .zero
theorem in_num {w : Option Bool} {c : Nat} : c ∈ (numS w).cps.toList ↔ numOk w c = true := by
  cases w with
  | none =>
    show c ∈ (("01" : Str)).cps.toList ↔ _
    rw [open_is.2.2.2.1]
    show c ∈ [48, 49] ↔ (decide (c = 48) || decide (c = 49)) = true
    simp
  | some b =>
    cases b
    · show c ∈ (("0" : Str)).cps.toList ↔ decide (c = 48) = true
      rw [open_is.2.2.2.2.1]
      show c ∈ [48] ↔ _
      simp
    · show c ∈ (("1" : Str)).cps.toList ↔ decide (c = 49) = true
      rw [open_is.2.2.2.2.2]
      show c ∈ [49] ↔ _
      simp
theorem numOk_bit {w : Option Bool} {c : Nat} (h : numOk w c = true) : c = 48 ∨ c = 49 := by
  cases w with
  | none => simpa [numOk] using h
  | some b => cases b <;> simp [numOk] at h <;> simp [h]
theorem int_sign : PySem.intText? (sg 48) = some 0 ∧ PySem.intText? (sg 49) = some 1 := by decide +kernel
def rd (l : List Nat) : Nat → Nat → Nat → Nat → Option Bool → Except Nat (Sh × Nat × Nat)
  | 0, a, _, _, _ => .error a
  | f + 1, a, d, t, w => match l[a]? with
    | none => .error a
    | some c => if c = 40 then (if d = 12 ∨ t = 63 then .error a else match rd l f (a + 1) (d + 1) (t + 1) none with
        | .error i => .error i
        | .ok (x, a1, t1) => if l[a1]? = some 44 then (match rd l f (a1 + 1) (d + 1) t1 (wantOf x) with
          | .error i => .error i
          | .ok (y, a2, t2) => if l[a2]? = some 41 then .ok (.node x y, a2 + 1, t2) else .error a2) else .error a1)
      else (if numOk w c = true then .ok (bit c, a + 1, t) else .error a)
/-- what the program's reading does, by what is read -/
def Rds (n d : Nat) (z : Str) (S : Store) (r : Res Val) : Except Nat (Sh × Nat × Nat) → Prop
  | .ok (x, a, t) => r = .ok (shV x) (S.set n (rdr z a d t))
  | .error i => ∃ c, r = .exc (bad i) (S.set n c)
theorem int_bit {c : Nat} {S : Store} (h : c = 48 ∨ c = 49) : bIntS [.str (sg c)] S = .ok (shV (bit c)) S := by
  have h1 : (sg c).length ≤ 640 := by show 1 ≤ 640; decide
  show (match PySem.intText? (sg c) with
    | some n => if (sg c).length ≤ 640 then okI n S else .stuck
    | none => .stuck) = _
  rcases h with rfl | rfl
  · rw [int_sign.1]; show (if (sg 48).length ≤ 640 then okI 0 S else .stuck) = _; rw [if_pos h1]; rfl
  · rw [int_sign.2]; show (if (sg 49).length ≤ 640 then okI 1 S else .stuck) = _; rw [if_pos h1]; rfl
theorem num_str : ("" ++ toString (1 : Int) : String) = "1" := by decide
theorem want_num {x : Sh} {n i : Nat} {ρ : PD.Env} {S : Store} (hi : ρ[i]? = some (some (shV x))) : (dIf (tVal (dOp oIs (dCall bType (aCons (dVar i) aNil)) (dC (.ty "tuple")))) (dC (.str "01")) (dCall bStr (aCons (dOp oSub (dC (.int 1)) (dVar i)) aNil))) ρ S = .ok (.str (numS (wantOf x))) S := by
  refine run_ok_of ?_
  rw [w_if, w_tval, w_op, w_call, w_cons, w_var hi, w_nil]
  cases x with
  | zero =>
    show Run ((dCall bStr (aCons (dOp oSub (dC (.int 1)) (dVar i)) aNil)) ρ S) _
    rw [w_call, w_cons, w_op, w_c, w_var hi]
    exact ⟨rfl, rfl⟩
  | one =>
    show Run ((dCall bStr (aCons (dOp oSub (dC (.int 1)) (dVar i)) aNil)) ρ S) _
    rw [w_call, w_cons, w_op, w_c, w_var hi]
    exact ⟨rfl, rfl⟩
  | node => exact ⟨rfl, rfl⟩
end PD.K02

/-! ## K02R3 -/
set_option Elab.async false
set_option linter.all false
set_option maxRecDepth 100000
set_option maxHeartbeats 1000000
namespace PD.K02
open PySem PySem.Spec L2 PD LT
abbrev tk_1 (p : Fns) : SD := sIf (tNot' (tVal (dMeth [("Reader", p.Reader_sees)] (dVar 0) "sees" (aCons (dC (.str "(")) aNil)))) (sRet (dCall bIntS (aCons (dMeth [("Reader", p.Reader_take)] (dVar 0) "take" (aCons (dVar 1) aNil)) aNil))) sNext
theorem q_oneX {f : D} {ρ : PD.Env} {S S1 : Store} {e : Exn} (h : f ρ S = .exc e S1) : aCons f aNil ρ S = .exc e S1 := by unfold aCons; rw [h]; rfl
theorem sees_open {z : Str} {a : Nat} : seesB z a "(" = decide (z.cps.toList[a]? = some 40) := by
  unfold seesB
  cases h : z.cps.toList[a]? with
  | none => exact (decide_eq_false (by simp)).symm
  | some c => exact decide_eq_decide.mpr (in_open.trans (by simp))
theorem rd_eq {l : List Nat} {f a d t : Nat} {w : Option Bool} : rd l (f + 1) a d t w = match l[a]? with
    | none => .error a
    | some c => if c = 40 then (if d = 12 ∨ t = 63 then .error a else match rd l f (a + 1) (d + 1) (t + 1) none with
        | .error i => .error i
        | .ok (x, a1, t1) => if l[a1]? = some 44 then (match rd l f (a1 + 1) (d + 1) t1 (wantOf x) with
          | .error i => .error i
          | .ok (y, a2, t2) => if l[a2]? = some 41 then .ok (.node x y, a2 + 1, t2) else .error a2) else .error a1)
      else (if numOk w c = true then .ok (bit c, a + 1, t) else .error a) := by rw [rd] <;> rfl
theorem take_share_ok : ∀ (f k a d t n : Nat) (w : Option Bool) (z : Str) (S : Store), f + d = 13 → d ≤ 12 → S[n]? = some (rdr z a d t) → Tx z → f + 5 ≤ k →
    Rds n d z S ((fns k)._take_share [.ob n, .str (numS w)] S) (rd z.cps.toList f a d t w)
  | 0, k, a, d, t, n, w, z, S, hf, hd, _, _, _ => by omega
  | f + 1, k, a, d, t, n, w, z, S, hf, hd, hS, hz, hk => by
    obtain ⟨k, rfl⟩ : ∃ m, k = m + 1 := ⟨k - 1, by omega⟩
    obtain ⟨ρ, eρ⟩ : ∃ ρ : PD.Env, ρ = [some (.ob n), some (.str (numS w)), none, none] := ⟨_, rfl⟩
    have hlen : n < S.length := (List.getElem?_eq_some_iff.mp hS).1
    have T1 : (tNot' (tVal (dMeth [("Reader", (fns k).Reader_sees)] (dVar 0) "sees" (aCons (dC (.str "(")) aNil)))) [some (.ob n), some (.str (numS w)), none, none] S = .ok (!decide (z.cps.toList[a]? = some 40)) S := by
      rw [← sees_open]
      exact q_tnot (q_tval (run_sees hS hz (by omega)))
    have body : ∀ r : Res Val, (match b__take_share (fns k) [some (.ob n), some (.str (numS w)), none, none] S with
      | .ret v S' => .ok v S'
      | .next _ S' => .ok .non S'
      | .exc e _ S' => .exc e S'
      | _ => .stuck) = r → (fns (k + 1))._take_share [.ob n, .str (numS w)] S = r := fun r h => by
      show fnOf 2 4 (b__take_share (fns k)) [.ob n, .str (numS w)] S = r
      exact q_fn (ρ := [some (.ob n), some (.str (numS w)), none, none]) rfl rfl h
    by_cases h40 : z.cps.toList[a]? = some 40
    · -- a tuple
      rw [h40, decide_eq_true rfl] at T1
      have hr1 : rd z.cps.toList (f + 1) a d t w = (if d = 12 ∨ t = 63 then .error a else match rd z.cps.toList f (a + 1) (d + 1) (t + 1) none with
        | .error i => .error i
        | .ok (x, a1, t1) => if z.cps.toList[a1]? = some 44 then (match rd z.cps.toList f (a1 + 1) (d + 1) t1 (wantOf x) with
          | .error i => .error i
          | .ok (y, a2, t2) => if z.cps.toList[a2]? = some 41 then .ok (.node x y, a2 + 1, t2) else .error a2) else .error a1) := by
        rw [rd_eq, h40]
        show (if (40 : Nat) = 40 then _ else _) = _
        rw [if_pos rfl]
      have s1 : tk_1 (fns k) [some (.ob n), some (.str (numS w)), none, none] S = .next [some (.ob n), some (.str (numS w)), none, none] S := by
        show sIf _ _ _ _ _ = _
        rw [q_if T1]; rfl
      rw [hr1]
      by_cases hlim : d = 12 ∨ t = 63
      · rw [if_pos hlim]
        refine ⟨rdr z a d t, ?_⟩
        rw [set_self hS]
        refine body _ ?_
        unfold b__take_share
        have := begin_no (k := k - 1) hS (by omega) hlim
        rw [show k - 1 + 1 = k from by omega] at this
        rw [q_seq s1, q_seqX (q_dropX (run_begin hS this))]
      rw [if_neg hlim]
      have eb := begin_ok (k := k - 1) hS hz (by omega) hlim h40
      rw [show k - 1 + 1 = k from by omega] at eb
      have hS1 : (S.set n (rdr z (a + 1) (d + 1) (t + 1)))[n]? = some (rdr z (a + 1) (d + 1) (t + 1)) := set_at hS
      have i1 := take_share_ok f k (a + 1) (d + 1) (t + 1) n none z _ (by omega) (by omega) hS1 hz (by omega)
      revert i1
      cases e1 : rd z.cps.toList f (a + 1) (d + 1) (t + 1) none with
      | error i =>
        rintro ⟨c, i1⟩
        rw [List.set_set] at i1
        refine ⟨c, body _ ?_⟩
        unfold b__take_share
        rw [q_seq s1, q_seq (q_drop (run_begin hS eb)), q_seqX (q_setX ((q_call (q_cons (x := .ob n) (S1 := S.set n (rdr z (a + 1) (d + 1) (t + 1))) rfl (q_one (x := .str "01") (S1 := S.set n (rdr z (a + 1) (d + 1) (t + 1))) rfl))).trans i1))]
      | ok p1 =>
        obtain ⟨x, a1, t1⟩ := p1
        intro i1
        have i1 : (fns k)._take_share [.ob n, .str (numS none)] (S.set n (rdr z (a + 1) (d + 1) (t + 1))) = .ok (shV x) ((S.set n (rdr z (a + 1) (d + 1) (t + 1))).set n (rdr z a1 (d + 1) t1)) := i1
        rw [List.set_set] at i1
        have hS2 : (S.set n (rdr z a1 (d + 1) t1))[n]? = some (rdr z a1 (d + 1) t1) := set_at hS
        have st1 : (sSet 2 (dCall (fns k)._take_share (aCons (dVar 0) (aCons (dC (.str "01")) aNil)))) [some (.ob n), some (.str (numS w)), none, none] (S.set n (rdr z (a + 1) (d + 1) (t + 1))) = .next [some (.ob n), some (.str (numS w)), some (shV x), none] (S.set n (rdr z a1 (d + 1) t1)) :=
          q_set ((q_call (q_cons (x := .ob n) (S1 := S.set n (rdr z (a + 1) (d + 1) (t + 1))) rfl (q_one (x := .str "01") (S1 := S.set n (rdr z (a + 1) (d + 1) (t + 1))) rfl))).trans i1)
        show Rds n d z S _ (if z.cps.toList[a1]? = some 44 then _ else _)
        by_cases h44 : z.cps.toList[a1]? = some 44
        · rw [if_pos h44]
          have tk1 := run_take (ρ := [some (.str (numS w)), some (shV x), none]) hS2 hz (k := k) (by omega) h44 (in_comma.mpr rfl)
          rw [List.set_set] at tk1
          have hS3 : (S.set n (rdr z (a1 + 1) (d + 1) t1))[n]? = some (rdr z (a1 + 1) (d + 1) t1) := set_at hS
          have i2 := take_share_ok f k (a1 + 1) (d + 1) t1 n (wantOf x) z _ (by omega) (by omega) hS3 hz (by omega)
          have args : (aCons (dVar 0) (aCons (dIf (tVal (dOp oIs (dCall bType (aCons (dVar 2) aNil)) (dC (.ty "tuple")))) (dC (.str "01")) (dCall bStr (aCons (dOp oSub (dC (.int 1)) (dVar 2)) aNil))) aNil)) [some (.ob n), some (.str (numS w)), some (shV x), none] (S.set n (rdr z (a1 + 1) (d + 1) t1)) = .ok [.ob n, .str (numS (wantOf x))] (S.set n (rdr z (a1 + 1) (d + 1) t1)) :=
            q_cons (x := .ob n) (S1 := S.set n (rdr z (a1 + 1) (d + 1) t1)) rfl (q_one (want_num (n := n) rfl))
          revert i2
          cases e2 : rd z.cps.toList f (a1 + 1) (d + 1) t1 (wantOf x) with
          | error i =>
            rintro ⟨c, i2⟩
            rw [List.set_set] at i2
            refine ⟨c, body _ ?_⟩
            unfold b__take_share
            rw [q_seq s1, q_seq (q_drop (run_begin hS eb)), q_seq st1, q_seq (q_drop tk1), q_seqX (q_setX ((q_call args).trans i2))]
          | ok p2 =>
            obtain ⟨y, a2, t2⟩ := p2
            intro i2
            have i2 : (fns k)._take_share [.ob n, .str (numS (wantOf x))] (S.set n (rdr z (a1 + 1) (d + 1) t1)) = .ok (shV y) ((S.set n (rdr z (a1 + 1) (d + 1) t1)).set n (rdr z a2 (d + 1) t2)) := i2
            rw [List.set_set] at i2
            have hS4 : (S.set n (rdr z a2 (d + 1) t2))[n]? = some (rdr z a2 (d + 1) t2) := set_at hS
            have st2 : (sSet 3 (dCall (fns k)._take_share (aCons (dVar 0) (aCons (dIf (tVal (dOp oIs (dCall bType (aCons (dVar 2) aNil)) (dC (.ty "tuple")))) (dC (.str "01")) (dCall bStr (aCons (dOp oSub (dC (.int 1)) (dVar 2)) aNil))) aNil)))) [some (.ob n), some (.str (numS w)), some (shV x), none] (S.set n (rdr z (a1 + 1) (d + 1) t1)) = .next [some (.ob n), some (.str (numS w)), some (shV x), some (shV y)] (S.set n (rdr z a2 (d + 1) t2)) :=
              q_set ((q_call args).trans i2)
            show Rds n d z S _ (if z.cps.toList[a2]? = some 41 then _ else _)
            by_cases h41 : z.cps.toList[a2]? = some 41
            · rw [if_pos h41]
              have ee := end_ok (k := k - 1) hS4 hz (by omega) h41
              rw [show k - 1 + 1 = k from by omega, List.set_set] at ee
              refine body _ ?_
              unfold b__take_share
              rw [q_seq s1, q_seq (q_drop (run_begin hS eb)), q_seq st1, q_seq (q_drop tk1), q_seq st2, q_seq (q_drop (run_end hS4 ee)), q_ret (x := shV (.node x y)) (S1 := S.set n (rdr z (a2 + 1) d t2)) rfl]
            · rw [if_neg h41]
              have ee := end_no (k := k - 1) hS4 hz (by omega) fun c e1 e2 => h41 (by rw [e1, e2])
              rw [show k - 1 + 1 = k from by omega] at ee
              refine ⟨rdr z a2 (d + 1) t2, body _ ?_⟩
              unfold b__take_share
              rw [q_seq s1, q_seq (q_drop (run_begin hS eb)), q_seq st1, q_seq (q_drop tk1), q_seq st2, q_seqX (q_dropX (run_end hS4 ee))]
        · rw [if_neg h44]
          have tk1 := no_take (ρ := [some (.str (numS w)), some (shV x), none]) (g := ",") hS2 hz (k := k) (by omega) fun c e1 m => h44 (by rw [e1, in_comma.mp m])
          refine ⟨rdr z a1 (d + 1) t1, body _ ?_⟩
          unfold b__take_share
          rw [q_seq s1, q_seq (q_drop (run_begin hS eb)), q_seq st1, q_seqX (q_dropX tk1)]
    · -- a number
      rw [decide_eq_false h40] at T1
      have no : (∀ c, z.cps.toList[a]? = some c → ¬ c ∈ (numS w).cps.toList) → ∃ c, (fns (k + 1))._take_share [.ob n, .str (numS w)] S = .exc (bad a) (S.set n c) := fun hno => by
        refine ⟨rdr z a d t, ?_⟩
        rw [set_self hS]
        refine body _ ?_
        unfold b__take_share
        rw [q_seqX (e := bad a) (S1 := S) (ρ1 := [some (.ob n), some (.str (numS w)), none, none])]
        rw [q_if T1, Bool.not_false, if_pos rfl, q_retX (q_callX (q_oneX (no_takeV hS hz (by omega) rfl hno)))]
      cases hc : z.cps.toList[a]? with
      | none =>
        have hr1 : rd z.cps.toList (f + 1) a d t w = .error a := by rw [rd_eq, hc]
        rw [hr1]
        exact no fun c e => by rw [hc] at e; cases e
      | some c =>
        have hne : ¬ c = 40 := fun e => h40 (by rw [hc, e])
        have hr1 : rd z.cps.toList (f + 1) a d t w = if numOk w c = true then .ok (bit c, a + 1, t) else .error a := by
          rw [rd_eq, hc]
          show (if c = 40 then _ else _) = _
          rw [if_neg hne]
        rw [hr1]
        by_cases hnum : numOk w c = true
        · rw [if_pos hnum]
          refine body _ ?_
          unfold b__take_share
          rw [q_seqR (x := shV (bit c)) (S1 := S.set n (rdr z (a + 1) d t))]
          rw [q_if T1, Bool.not_false, if_pos rfl]
          exact q_ret ((q_call (q_one (run_takeV hS hz (by omega) rfl hc (in_num.mpr hnum)))).trans (int_bit (numOk_bit hnum)))
        · rw [if_neg hnum]
          exact no fun c' e m => hnum (by rw [hc] at e; cases e; exact in_num.mp m)
/-! ### share_told -/
def rdAll (l : List Nat) : Except Nat Sh := match rd l 13 0 0 0 none with
  | .error i => .error i
  | .ok (x, a, _) => if a < l.length then .error a else .ok x
theorem make_ok {z : Str} {k : Nat} {S : Store} : (fns (k + 1)).Reader___init__ [.ob S.length, .str z] (S ++ [.obj "Reader" []]) = .ok .non (S ++ [rdr z 0 0 0]) := by
  show fnOf 2 2 (b_Reader___init__ (fns k)) [.ob S.length, .str z] (S ++ [.obj "Reader" []]) = _
  refine q_fn (ρ := [some (.ob S.length), some (.str z)]) rfl rfl ?_
  have st : ∀ (nm : Str) (v : Val) (g : D) (fs fs' : List (Str × Val)), putV nm v fs = fs' → (("Reader" : Str) ∈ cls_ ∧ nm ∈ nms_) → fs.length < 1000 → (∀ S', g [some (.ob S.length), some (.str z)] S' = .ok v S') → sFldS cls_ nms_ (dVar 0) nm g [some (.ob S.length), some (.str z)] (S ++ [.obj "Reader" fs]) = .next [some (.ob S.length), some (.str z)] (S ++ [.obj "Reader" fs']) := fun nm v g fs fs' hp hc hl hg => by
    subst hp
    unfold sFldS
    rw [hg]
    show (match putO cls_ nms_ S.length nm v (S ++ [.obj "Reader" fs]) with
      | some S3 => SRes.next [some (.ob S.length), some (.str z)] S3
      | none => .stuck) = _
    unfold putO
    rw [show (S ++ [Cell.obj "Reader" fs])[S.length]? = some (Cell.obj "Reader" fs) from by simp]
    show (match (if ("Reader" : Str) ∈ cls_ ∧ nm ∈ nms_ ∧ fs.length < 1000 then some ((S ++ [Cell.obj "Reader" fs]).set S.length (.obj "Reader" (putV nm v fs))) else none) with
      | some S3 => SRes.next [some (.ob S.length), some (.str z)] S3
      | none => .stuck) = _
    rw [if_pos ⟨hc.1, hc.2, hl⟩]
    show SRes.next _ _ = _
    rw [List.set_append_right _ _ (Nat.le_refl _), Nat.sub_self]; rfl
  have t1 : (tVal (dOp oIsNot (dCall bType (aCons (dVar 1) aNil)) (dC (.ty "str")))) [some (.ob S.length), some (.str z)] (S ++ [.obj "Reader" []]) = .ok false (S ++ [.obj "Reader" []]) := rfl
  unfold b_Reader___init__
  rw [q_seq (S1 := S ++ [.obj "Reader" []]) (ρ1 := [some (.ob S.length), some (.str z)]) (by rw [q_if t1]; rfl),
    q_seq (st "text" (.str z) _ [] [("text", .str z)] rfl c_text (by simp only [List.length_cons, List.length_nil]; decide) fun _ => rfl),
    q_seq (st "at" (.int 0) _ [("text", .str z)] [("text", .str z), ("at", .int 0)] (by simp only [putV, if_neg n_at.1]) c_at (by simp only [List.length_cons, List.length_nil]; decide) fun _ => rfl),
    q_seq (st "depth" (.int 0) _ [("text", .str z), ("at", .int 0)] [("text", .str z), ("at", .int 0), ("depth", .int 0)] (by simp only [putV, if_neg n_at.2.1, if_neg n_at.2.2.1]) c_depth (by simp only [List.length_cons, List.length_nil]; decide) fun _ => rfl),
    st "tuples" (.int 0) _ [("text", .str z), ("at", .int 0), ("depth", .int 0)] [("text", .str z), ("at", .int 0), ("depth", .int 0), ("tuples", .int 0)] (by simp only [putV, if_neg n_at.2.2.2.1, if_neg n_at.2.2.2.2.1, if_neg n_at.2.2.2.2.2]) c_tuples (by simp only [List.length_cons, List.length_nil]; decide) fun _ => rfl]
  rfl
/-- share_told of a text -/
theorem told_ok {z : Str} {k : Nat} {S : Store} (hz : Tx z) (hk : 25 ≤ k) : ∃ S', Kp S S' ∧ (fns k).share_told [.str z] S = match rdAll z.cps.toList with
    | .ok x => .ok (shV x) S'
    | .error i => .exc (bad i) S' := by
  obtain ⟨k, rfl⟩ : ∃ m, k = m + 2 := ⟨k - 2, by omega⟩
  have s1 : (sSet 1 (dMake "Reader" (fns (k + 1)).mk_Reader (aCons (dVar 0) aNil))) [some (.str z), none, none] S = .next [some (.str z), some (.ob S.length), none] (S ++ [rdr z 0 0 0]) := by
    refine q_set ?_
    show (match (fns k).Reader___init__ [.ob S.length, .str z] (S ++ [.obj "Reader" []]) with
      | .ok r S2 => (match r with
        | .non => Res.ok (Val.ob S.length) S2
        | _ => .stuck)
      | .exc e S2 => .exc e S2
      | .stuck => .stuck) = _
    obtain ⟨k, rfl⟩ : ∃ m, k = m + 1 := ⟨k - 1, by omega⟩
    rw [make_ok]
  have hS : (S ++ [rdr z 0 0 0])[S.length]? = some (rdr z 0 0 0) := by simp
  have kp : ∀ c, Kp S ((S ++ [rdr z 0 0 0]).set S.length c) := fun c => kp_set (Gr.add _ _).kp (Nat.le_refl _)
  have r1 := take_share_ok 13 (k + 1) 0 0 0 S.length none z _ rfl (by decide) hS hz (by omega)
  have args : (aCons (dVar 1) (aCons (dC (.str "01")) aNil)) [some (.str z), some (.ob S.length), none] (S ++ [rdr z 0 0 0]) = .ok [.ob S.length, .str (numS none)] (S ++ [rdr z 0 0 0]) := rfl
  have body : ∀ r : Res Val, (match b_share_told (fns (k + 1)) [some (.str z), none, none] S with
      | .ret v S' => .ok v S'
      | .next _ S' => .ok .non S'
      | .exc e _ S' => .exc e S'
      | _ => .stuck) = r → (fns (k + 2)).share_told [.str z] S = r := fun r h => by
    show fnOf 1 3 (b_share_told (fns (k + 1))) [.str z] S = r
    exact q_fn (ρ := [some (.str z), none, none]) rfl rfl h
  unfold rdAll
  revert r1
  cases e1 : rd z.cps.toList 13 0 0 0 none with
  | error i =>
    rintro ⟨c, r1⟩
    refine ⟨_, kp c, body _ ?_⟩
    unfold b_share_told
    rw [q_seq s1, q_seqX (q_setX ((q_call args).trans r1))]
  | ok p =>
    obtain ⟨x, a, t⟩ := p
    intro r1
    have r1 : (fns (k + 1))._take_share [.ob S.length, .str (numS none)] (S ++ [rdr z 0 0 0]) = .ok (shV x) ((S ++ [rdr z 0 0 0]).set S.length (rdr z a 0 t)) := r1
    have hS2 : ((S ++ [rdr z 0 0 0]).set S.length (rdr z a 0 t))[S.length]? = some (rdr z a 0 t) := set_at hS
    have s2 : (sSet 2 (dCall (fns (k + 1))._take_share (aCons (dVar 1) (aCons (dC (.str "01")) aNil)))) [some (.str z), some (.ob S.length), none] (S ++ [rdr z 0 0 0]) = .next [some (.str z), some (.ob S.length), some (shV x)] ((S ++ [rdr z 0 0 0]).set S.length (rdr z a 0 t)) := q_set ((q_call args).trans r1)
    have fi := finish_ok (k := k) hS2 hz (by omega)
    refine ⟨_, kp (rdr z a 0 t), body _ ?_⟩
    unfold b_share_told
    show _ = (match (if a < z.cps.toList.length then (Except.error a : Except Nat Sh) else .ok x) with
      | .ok x => Res.ok (shV x) _
      | .error i => .exc (bad i) _)
    by_cases hl : a < z.cps.toList.length
    · rw [if_pos hl] at fi ⊢
      rw [q_seq s1, q_seq s2, q_seqX (q_dropX (run_finish hS2 (i := 1) rfl fi))]
    · rw [if_neg hl] at fi ⊢
      rw [q_seq s1, q_seq s2, q_seq (q_drop (run_finish hS2 (i := 1) rfl fi)), q_ret (x := shV x) (S1 := (S ++ [rdr z 0 0 0]).set S.length (rdr z a 0 t)) rfl]
/-- share_told of what is no text -/
theorem told_no {v : Val} {T : String} {k : Nat} {S : Store} (hT : T ≠ "str") (hv : ∀ S', Kp S S' → tyN v S' = some T) (hk : 25 ≤ k) : ∃ S', Kp S S' ∧ (fns k).share_told [v] S = .exc (bad 0) S' := by
  obtain ⟨k, rfl⟩ : ∃ m, k = m + 3 := ⟨k - 3, by omega⟩
  have hlv : 2 ≤ (fns k).lv := by rw [fns_lv]; omega
  have kp : Kp S (S ++ [.obj "Reader" []]) := (Gr.add _ _).kp
  refine ⟨S ++ [.obj "Reader" []], kp, ?_⟩
  have t1 : (tVal (dOp oIsNot (dCall bType (aCons (dVar 1) aNil)) (dC (.ty "str")))) [some (.ob S.length), some v] (S ++ [.obj "Reader" []]) = .ok true (S ++ [.obj "Reader" []]) := by
    have hx : Run ((tVal (dOp oIsNot (dCall bType (aCons (dVar 1) aNil)) (dC (.ty "str")))) [some (.ob S.length), some v] (S ++ [.obj "Reader" []])) (fun b S' => b = true ∧ S' = S ++ [.obj "Reader" []]) := by
      rw [w_tval, w_op, w_call, w_cons, w_var rfl, w_nil]
      simp only [hv _ kp, run_ok, run_okI, run_okB, run_alloc, run_stuck, run_bind, run_ite, run_noX, run_fnOf, w_c, w_op, w_un, w_call, w_callK, w_nil, w_cons, w_tup, w_lst, isB_bl, w_tval, w_tand, w_tor, w_tnot, w_and, w_or, w_not, w_if, s_next, s_seq, s_if, s_ret, s_drop, s_set, s_par, s_put, s_asg, w_var', runS_next, runS_ret, runS_stuck, runS_ite, List.length_cons, List.length_nil, List.length_singleton, List.map_cons, List.map_nil, List.cons_append, List.nil_append, List.replicate_succ, List.replicate_zero, List.getElem?_cons_zero, List.getElem?_cons_succ, List.set_cons_zero, List.set_cons_succ, Nat.reduceAdd, Nat.reduceSub, Nat.reduceEqDiff, ite_true, ite_false, if_true, if_false, reduceIte, Bool.false_eq_true, decide_true, decide_false, String.reduceEq, Int.reduceEq, Nat.reduceLeDiff, true_and, and_true, Bool.not_true, Bool.not_false, decide_eq_true_eq, List.append_nil, bType, bIsi, bLen, bInt, ty_int, ty_bl, ty_str, ty_non, ty_tup, isT, oIs, oIsNot, oSub, oAdd, oIx, run_eqI, run_neI, Bool.or_false, Bool.or_true, Bool.false_or, Bool.true_or, Bool.and_true, Bool.and_false, Bool.true_and, Bool.false_and, reduceCtorEq, decide_not, Bool.not_eq_true', decide_eq_false_iff_not, askInt, askBool, askTuple, askList, askStr, oLe, oLt, oGe, oGt, oInt2, atI0, atI1, atI2]
      simp [hT]
    obtain ⟨b, S1, e, rfl, rfl⟩ := hx.to
    exact e
  have mk : (fns (k + 1)).Reader___init__ [.ob S.length, v] (S ++ [.obj "Reader" []]) = .exc (bad 0) (S ++ [.obj "Reader" []]) := by
    show fnOf 2 2 (b_Reader___init__ (fns k)) [.ob S.length, v] (S ++ [.obj "Reader" []]) = _
    refine q_fn (ρ := [some (.ob S.length), some v]) rfl rfl ?_
    unfold b_Reader___init__
    rw [q_seqX (e := bad 0) (S1 := S ++ [.obj "Reader" []]) (ρ1 := [some (.ob S.length), some v])]
    rw [q_if t1, if_pos rfl]
    exact q_raise (x := .int 0) hlv rfl
  show fnOf 1 3 (b_share_told (fns (k + 2))) [v] S = _
  refine q_fn (ρ := [some v, none, none]) rfl rfl ?_
  unfold b_share_told
  rw [q_seqX (q_setX (S1 := S ++ [.obj "Reader" []]) (e := bad 0) ?_)]
  show (match (fns (k + 1)).Reader___init__ [.ob S.length, v] (S ++ [.obj "Reader" []]) with
      | .ok r S2 => (match r with
        | .non => Res.ok (Val.ob S.length) S2
        | _ => .stuck)
      | .exc e S2 => .exc e S2
      | .stuck => .stuck) = _
  rw [mk]
end PD.K02

/-! ## K02R4 -/
set_option Elab.async false
set_option linter.all false
set_option maxRecDepth 100000
set_option maxHeartbeats 1000000
namespace PD.K02
open PySem PySem.Spec L2 PD LT
/-! ### the law's reading -/
structure St where
  st : List (Option Sh)
  done : Option Sh
  room : Nat
def topOk : List (Option Sh) → Nat → Bool
  | some y :: _, c => !decide (y = bit c)
  | _, _ => true
def stp (c : Nat) (s : St) : Option St := match s.done with
  | none => if (c = 48 ∨ c = 49) ∧ topOk s.st c = true then some ⟨s.st, some (bit c), s.room⟩
      else if c = 40 ∧ s.st.length < 12 ∧ 0 < s.room then some ⟨none :: s.st, none, s.room - 1⟩ else none
  | some x => match s.st with
    | [] => none
    | none :: r => if c = 44 then some ⟨some x :: r, none, s.room⟩ else none
    | some y :: r => if c = 41 then some ⟨r, some (.node y x), s.room⟩ else none
def mac : List Nat → Nat → St → Except Nat Sh
  | [], a, s => match s.st, s.done with
    | [], some x => .ok x
    | _, _ => .error a
  | c :: l, a, s => match stp c s with
    | none => .error a
    | some s' => mac l (a + 1) s'
def resV : Except Nat Sh → Val
  | .ok x => .tup [.non, shV x]
  | .error i => .tup [.int i, .non]
/-! the depths -/
def OkSt : List (Option Sh) → Prop
  | [] => True
  | f :: r => (∀ y, f = some y → y.dep + (r.length + 1) ≤ 12) ∧ OkSt r
structure Oks (s : St) : Prop where
  len : s.st.length ≤ 12
  st : OkSt s.st
  done : ∀ x, s.done = some x → x.dep + s.st.length ≤ 12
theorem bit_dep {c : Nat} : (bit c).dep = 0 := by unfold bit; split <;> rfl
theorem Oks.step {s s' : St} {c : Nat} (h : Oks s) (e : stp c s = some s') : Oks s' := by
  unfold stp at e
  obtain ⟨st, done, room⟩ := s
  have h1 : st.length ≤ 12 := h.len
  have h2 : OkSt st := h.st
  have h3 : ∀ x, done = some x → x.dep + st.length ≤ 12 := h.done
  cases done with
  | none =>
    have e : (if (c = 48 ∨ c = 49) ∧ topOk st c = true then some (St.mk st (some (bit c)) room) else if c = 40 ∧ st.length < 12 ∧ 0 < room then some (St.mk (none :: st) none (room - 1)) else none) = some s' := e
    split at e
    · cases e
      exact ⟨h1, h2, fun x hx => by cases hx; rw [bit_dep]; show 0 + st.length ≤ 12; omega⟩
    · split at e
      · rename_i hc
        cases e
        refine ⟨?_, ⟨fun y hy => (by cases hy), h2⟩, fun x hx => (by cases hx)⟩
        have := hc.2.1
        show st.length + 1 ≤ 12; omega
      · cases e
  | some x =>
    have hx : x.dep + st.length ≤ 12 := h3 x rfl
    cases st with
    | nil => cases e
    | cons f r =>
      have hx : x.dep + (r.length + 1) ≤ 12 := hx
      have h1 : r.length + 1 ≤ 12 := h1
      cases f with
      | none =>
        have e : (if c = 44 then some (St.mk (some x :: r) none room) else none) = some s' := e
        split at e
        · cases e
          exact ⟨h1, ⟨fun y hy => by cases hy; exact hx, h2.2⟩, fun x hx => (by cases hx)⟩
        · cases e
      | some y =>
        have e : (if c = 41 then some (St.mk r (some (.node y x)) room) else none) = some s' := e
        split at e
        · cases e
          refine ⟨by show r.length ≤ 12; omega, h2.2, fun v hv => ?_⟩
          cases hv
          have := h2.1 y rfl
          show 1 + max y.dep x.dep + r.length ≤ 12
          omega
        · cases e
/-! the store -/
def frV : Option Sh → List Val
  | none => []
  | some y => [shV y]
def Fr (S : Store) : List Nat → List (Option Sh) → Prop
  | [], [] => True
  | n :: ns, f :: fs => S[n]? = some (.lst (frV f)) ∧ Fr S ns fs
  | _, _ => False
theorem Fr.len {S : Store} : ∀ {ns : List Nat} {fs : List (Option Sh)}, Fr S ns fs → ns.length = fs.length
  | [], [], _ => rfl
  | n :: ns, f :: fs, h => by rw [List.length_cons, List.length_cons, Fr.len h.2]
  | [], _ :: _, h => h.elim
  | _ :: _, [], h => h.elim
theorem Fr.mono {S S' : Store} : ∀ {ns : List Nat} {fs : List (Option Sh)}, Fr S ns fs → (∀ n ∈ ns, S'[n]? = S[n]?) → Fr S' ns fs
  | [], [], _, _ => trivial
  | n :: ns, f :: fs, h, k => ⟨by rw [k n List.mem_cons_self]; exact h.1, Fr.mono h.2 fun x hx => k x (List.mem_cons_of_mem _ hx)⟩
  | [], _ :: _, h, _ => h.elim
  | _ :: _, [], h, _ => h.elim
theorem Fr.lt {S : Store} : ∀ {ns : List Nat} {fs : List (Option Sh)}, Fr S ns fs → ∀ n ∈ ns, n < S.length
  | n :: ns, f :: fs, h, x, hx => by
    rcases List.mem_cons.mp hx with rfl | hx
    · exact (List.getElem?_eq_some_iff.mp h.1).1
    · exact Fr.lt h.2 x hx
  | [], _ :: _, h, _, _ => h.elim
  | _ :: _, [], h, _, _ => h.elim
  | [], [], _, x, hx => absurd hx List.not_mem_nil
theorem Fr.da {S : Store} : ∀ {ns : List Nat} {fs : List (Option Sh)}, Fr S ns fs → OkSt fs → ∀ n ∈ ns, Da S 14 (.ref n)
  | n :: ns, f :: fs, h, k, x, hx => by
    rcases List.mem_cons.mp hx with rfl | hx
    · refine .ref (d := 13) h.1 fun v hv => ?_
      cases f with
      | none => exact absurd hv List.not_mem_nil
      | some y =>
        have e : v = shV y := List.mem_singleton.mp hv
        have := k.1 y rfl
        rw [e]
        exact sh_da (by omega)
    · exact Fr.da h.2 k.2 x hx
  | [], _ :: _, h, _, _, _ => h.elim
  | _ :: _, [], h, _, _, _ => h.elim
  | [], [], _, _, x, hx => absurd hx List.not_mem_nil
structure Inv (S0 : Store) (m : Nat) (ns : List Nat) (s : St) (S : Store) : Prop where
  ok : Oks s
  kp : Kp S0 S
  cell : S[m]? = some (.lst (ns.reverse.map Val.ref))
  fr : Fr S ns s.st
  nd : ns.Nodup
  nm : m ∉ ns
  lo : ∀ n ∈ m :: ns, S0.length ≤ n
theorem Inv.get {S0 : Store} {m : Nat} {ns : List Nat} {s : St} {S : Store} (h : Inv S0 m ns s S) : m < S.length := (List.getElem?_eq_some_iff.mp h.cell).1
/-- the store grows -/
theorem Inv.gr {S0 : Store} {m : Nat} {ns : List Nat} {s : St} {S S' : Store} (h : Inv S0 m ns s S) (g : Gr S S') : Inv S0 m ns s S' := by
  refine ⟨h.ok, h.kp.trans g.kp, g.get h.cell, h.fr.mono fun n hn => ?_, h.nd, h.nm, h.lo⟩
  have := h.fr.lt n hn
  rw [List.getElem?_eq_getElem this]
  exact g.get (List.getElem?_eq_getElem this)
def doneV : Option Sh → Val
  | none => .non
  | some x => shV x
theorem rangeV_succ (lo : Int) (n : Nat) : rangeV lo (n + 1) = .int lo :: rangeV (lo + 1) n := by
  unfold rangeV
  rw [List.range_succ_eq_map, List.map_cons, List.map_map]
  congr 1
  · congr 1; simp
  · refine List.map_congr_left fun i _ => ?_
    show Val.int _ = Val.int _
    congr 1
    simp only [Nat.succ_eq_add_one]
    omega
theorem loop_cons {t : TgD} {b : SD} {x : Val} {xs : List Val} {ρ ρ1 : PD.Env} {S : Store} {N : PD.Env → Store → Prop} {R : Val → Store → Prop} (et : t x ρ = some ρ1) (h : RunS (b ρ1 S) (fun ρ2 S2 => RunS (loopV t b xs ρ2 S2) N R) R) : RunS (loopV t b (x :: xs) ρ S) N R := by
  rw [loopV_cons, et]
  show RunS ((b ρ1 S).turn (loopV t b xs)) N R
  cases hr : b ρ1 S with
  | next ρ2 S2 => rw [hr] at h; exact h
  | ret v S2 => rw [hr] at h; exact h
  | brk ρ2 S2 => rw [hr] at h; exact h.elim
  | cont ρ2 S2 => rw [hr] at h; exact h.elim
  | exc e ρ2 S2 => rw [hr] at h; exact h.elim
  | stuck => rw [hr] at h; exact h.elim
end PD.K02

/-! ## K02R5 -/
set_option Elab.async false
set_option linter.all false
set_option maxRecDepth 100000
set_option maxHeartbeats 1000000
namespace PD.K02
open PySem PySem.Spec L2 PD LT
abbrev rT1 : DT := tAnd' (tVal (dVar 6)) (tAnd' (tVal (dOp oInS (dVar 5) (dC (.str "01")))) (tNot' (tAnd' (tVal (dOp oNe (dVar 1) (dLst aNil))) (tAnd' (tVal (dOp oEq (dCall bLen (aCons (dOp oIx (dVar 1) (dUn oNeg (dC (.int 1)))) aNil)) (dC (.int 1)))) (tVal (dOp oEq (dOp oIx (dOp oIx (dVar 1) (dUn oNeg (dC (.int 1)))) (dC (.int 0))) (dCall bIntS (aCons (dVar 5) aNil))))))))
abbrev rT2 : DT := tAnd' (tVal (dVar 6)) (tAnd' (tVal (dOp oEq (dVar 5) (dC (.str "(")))) (tAnd' (tVal (dOp oLt (dCall bLen (aCons (dVar 1) aNil)) (dC (.int 12)))) (tVal (dOp oGt (dVar 3) (dC (.int 0))))))
abbrev rT3 : DT := tAnd' (tNot' (tVal (dVar 6))) (tAnd' (tVal (dOp oNe (dVar 1) (dLst aNil))) (tVal (dOp oEq (dVar 5) (dOp oIx (dLst (aCons (dC (.str ",")) (aCons (dC (.str ")")) aNil))) (dCall bLen (aCons (dOp oIx (dVar 1) (dUn oNeg (dC (.int 1)))) aNil))))))
theorem run_inZ {c : Nat} {t : Str} {S : Store} {Q : Val → Store → Prop} : Run (oInS (.str (sg c)) (.str t) S) Q = Q (.bl (decide (c ∈ t.cps.toList))) S := rfl
theorem run_ltJ {a b : Int} {S : Store} {Q : Val → Store → Prop} : Run (oLt (.int a) (.int b) S) Q = Q (.bl (decide (a < b))) S := rfl
theorem ix_top {m k : Nat} {ns : List Nat} {S : Store} {Q : Val → Store → Prop} (h : S[m]? = some (.lst ((k :: ns).reverse.map Val.ref))) : Run (oIx (.ref m) (.int (-1)) S) Q = Q (.ref k) S := by
  rw [run_ixR h, List.reverse_cons, List.map_append, List.map_singleton, atI_last]; rfl
theorem w_m1 {ρ : PD.Env} {S : Store} {Q : Val → Store → Prop} : Run (dUn oNeg (dC (.int 1)) ρ S) Q = Q (.int (-1)) S := rfl
theorem Inv.da {S0 : Store} {m : Nat} {ns : List Nat} {s : St} {S : Store} (h : Inv S0 m ns s S) : ∀ x ∈ ns.reverse.map Val.ref, Da S 14 x := fun x hx => by
  obtain ⟨n, hn, rfl⟩ := List.mem_map.mp hx
  exact h.fr.da h.ok.st n (List.mem_reverse.mp hn)
theorem ne_stack {S0 : Store} {m : Nat} {ns : List Nat} {s : St} {S : Store} {ρ : PD.Env} {Q : Val → Store → Prop} (h : Inv S0 m ns s S) (hr : ρ[1]? = some (some (.ref m))) : Run (dOp oNe (dVar 1) (dLst aNil) ρ S) Q = Q (.bl (!s.st.isEmpty)) (S ++ [.lst []]) := by
  have h2 := h.gr (Gr.add S [.lst []])
  have e : ns.reverse.map Val.ref = [] ↔ s.st = [] := by
    have := h.fr.len
    constructor
    · intro e
      have := congrArg List.length e
      rw [List.length_map, List.length_reverse] at this
      exact List.eq_nil_of_length_eq_zero (by rw [← h.fr.len]; exact this)
    · intro e
      have : ns = [] := List.eq_nil_of_length_eq_zero (by rw [h.fr.len, e]; rfl)
      rw [this]; rfl
  rw [w_op, w_var hr, w_lst, w_nil, List.length_nil, ne_empty' h2.cell h2.da (by decide) (get_new _ _)]
  have : (ns.reverse.map Val.ref).isEmpty = s.st.isEmpty := by
    rw [Bool.eq_iff_iff, List.isEmpty_iff, List.isEmpty_iff]; exact e
  rw [this]
  exact propext ⟨fun q => q.2, fun q => ⟨by decide, q⟩⟩
theorem sg_eq {c d : Nat} {t : Str} (h : t = ⟨#[d]⟩) : decide (sg c = t) = decide (c = d) := by
  rw [h]
  refine decide_eq_decide.mpr ⟨fun e => ?_, fun e => by rw [e]; rfl⟩
  have : #[c] = #[d] := congrArg Str.cps e
  simpa using this
theorem sg_lay {c : Nat} (h : c < 1114112) : ∀ x ∈ (sg c).cps.toList, x < 1114112 := fun x hx => by rw [List.mem_singleton.mp hx]; exact h
theorem one_lay {t : Str} {d : Nat} (h : t = ⟨#[d]⟩) (hd : d < 1114112) : ∀ x ∈ t.cps.toList, x < 1114112 := by rw [h]; exact sg_lay hd
theorem in01S {c : Nat} : (decide (c ∈ (("01" : Str)).cps.toList)) = (decide (c = 48) || decide (c = 49)) := by
  rw [open_is.2.2.2.1]
  show decide (c ∈ [48, 49]) = _
  rw [Bool.eq_iff_iff]; simp
section
variable {S0 S : Store} {m j c n : Nat} {ns : List Nat} {s : St} {z : Str} {x4 : Option Val} {w : Bool}
abbrev R6 (z : Str) (m : Nat) (s : St) (j c : Nat) (w : Bool) : PD.Env := [some (.str z), some (.ref m), some (doneV s.done), some (.int s.room), some (.int j), some (.str (sg c)), some (.bl w)]
theorem r_top {k : Nat} {ns : List Nat} {f : Option Sh} {r : List (Option Sh)} (h : Inv S0 m (k :: ns) ⟨f :: r, s.done, s.room⟩ S) {ρ : PD.Env} {Q : Val → Store → Prop} (hr : ρ[1]? = some (some (.ref m))) : Run (dOp oIx (dVar 1) (dUn oNeg (dC (.int 1))) ρ S) Q = Q (.ref k) S := by
  rw [w_op, w_var hr, w_m1, ix_top h.cell]
theorem run_T1 (h : Inv S0 m ns s S) (hc : c < 1114112) : Run (rT1 (R6 z m s j c w) S) (fun b S' => b = (w && ((decide (c = 48) || decide (c = 49)) && topOk s.st c)) ∧ Gr S S') := by
  rw [w_tand, w_tval, w_var rfl, isB_bl]
  cases w with
  | false => exact ⟨rfl, .refl _⟩
  | true =>
    rw [if_pos rfl, Bool.true_and, w_tand, w_tval, w_op, w_var rfl, w_c, run_inZ, in01S, isB_bl]
    cases hd : (decide (c = 48) || decide (c = 49)) with
    | false => exact ⟨rfl, .refl _⟩
    | true =>
      have hc2 : c = 48 ∨ c = 49 := by simpa using hd
      rw [if_pos rfl, Bool.true_and, w_tnot, w_tand, w_tval, ne_stack h rfl, isB_bl]
      have h2 := h.gr (Gr.add S [.lst []])
      obtain ⟨st, done, room⟩ := s
      cases st with
      | nil => exact ⟨rfl, Gr.add _ _⟩
      | cons f r =>
        cases ns with
        | nil => exact h.fr.elim
        | cons k ns =>
          show if true = true then _ else _
          rw [if_pos rfl, w_tand, w_tval, w_op, w_call, w_cons, r_top (s := ⟨f :: r, done, room⟩) h2 rfl, w_nil, run_len h2.fr.1, w_c, run_eqI, isB_bl]
          cases f with
          | none =>
            rw [show decide ((((frV none).length : Nat) : Int) = 1) = false from rfl, if_neg (by decide)]
            exact ⟨rfl, Gr.add _ _⟩
          | some y =>
            rw [show decide ((((frV (some y)).length : Nat) : Int) = 1) = true from rfl, if_pos rfl, w_tval, w_op, w_op, r_top (s := ⟨some y :: r, done, room⟩) h2 rfl, w_c, run_ixR h2.fr.1]
            have e0 : L2.atI (frV (some y)) 0 = some (shV y) := atI0
            rw [e0]
            show Run (dCall bIntS (aCons (dVar 5) aNil) _ _) _
            rw [w_call, w_cons, w_var rfl, w_nil, ok_run (int_bit hc2), run_eqS (by have := h.ok.st.1 y rfl; omega) (by rw [bit_dep]; decide), isB_bl]
            exact ⟨rfl, Gr.add _ _⟩
theorem run_T2 (h : Inv S0 m ns s S) (hc : c < 1114112) : Run (rT2 (R6 z m s j c w) S) (fun b S' => b = (w && decide (c = 40 ∧ s.st.length < 12 ∧ 0 < s.room)) ∧ S' = S) := by
  rw [w_tand, w_tval, w_var rfl, isB_bl]
  cases w with
  | false => exact ⟨rfl, rfl⟩
  | true =>
    rw [if_pos rfl, Bool.true_and, w_tand, w_tval, w_op, w_var rfl, w_c, run_eqZ (sg_lay hc) (one_lay open_is.1 (by decide)), isB_bl, sg_eq open_is.1]
    by_cases h40 : c = 40
    · rw [decide_eq_true h40, if_pos rfl, w_tand, w_tval, w_op, w_call, w_cons, w_var rfl, w_nil, run_len h.cell, w_c, run_ltJ, isB_bl, List.length_map, List.length_reverse, h.fr.len]
      by_cases hl : s.st.length < 12
      · rw [decide_eq_true (by omega), if_pos rfl, w_tval, w_op, w_var rfl, w_c, run_gtI, isB_bl]
        refine ⟨decide_eq_decide.mpr ?_, rfl⟩
        constructor
        · intro e; exact ⟨h40, hl, by omega⟩
        · intro e; have := e.2.2; omega
      · rw [decide_eq_false (by omega), if_neg (by decide)]
        exact ⟨(decide_eq_false fun e => hl e.2.1).symm, rfl⟩
    · rw [decide_eq_false h40, if_neg (by decide)]
      exact ⟨(decide_eq_false fun e => h40 e.1).symm, rfl⟩
def goes : List (Option Sh) → Nat → Bool
  | [], _ => false
  | none :: _, c => decide (c = 44)
  | some _ :: _, c => decide (c = 41)
theorem run_T3 (h : Inv S0 m ns s S) (hc : c < 1114112) : Run (rT3 (R6 z m s j c w) S) (fun b S' => b = (!w && goes s.st c) ∧ Gr S S') := by
  rw [w_tand, w_tnot, w_tval, w_var rfl, isB_bl]
  cases w with
  | true => exact ⟨rfl, .refl _⟩
  | false =>
    rw [Bool.not_false, if_pos rfl, Bool.true_and, w_tand, w_tval, ne_stack h rfl, isB_bl]
    have h2 := h.gr (Gr.add S [.lst []])
    obtain ⟨st, done, room⟩ := s
    cases st with
    | nil => exact ⟨rfl, Gr.add _ _⟩
    | cons f r =>
      cases ns with
      | nil => exact h.fr.elim
      | cons k ns =>
        show if true = true then _ else _
        rw [if_pos rfl, w_tval, w_op, w_var rfl, w_op, w_lst, w_cons, w_c, w_cons, w_c, w_nil]
        refine ⟨by decide, ?_⟩
        have h3 := h2.gr (Gr.add _ [.lst [.str ",", .str ")"]])
        rw [w_call, w_cons, r_top (s := ⟨f :: r, done, room⟩) h3 rfl, w_nil, run_len h3.fr.1, run_ixR (get_new _ _)]
        cases f with
        | none =>
          rw [show L2.atI [Val.str ",", Val.str ")"] (((frV none).length : Nat) : Int) = some (.str ",") from atI0]
          show Run (oEq _ _ _) _
          rw [run_eqZ (sg_lay hc) (one_lay open_is.2.2.1 (by decide)), isB_bl, sg_eq open_is.2.2.1]
          exact ⟨rfl, (Gr.add _ _).trans (Gr.add _ _)⟩
        | some y =>
          rw [show L2.atI [Val.str ",", Val.str ")"] (((frV (some y)).length : Nat) : Int) = some (.str ")") from atI1]
          show Run (oEq _ _ _) _
          rw [run_eqZ (sg_lay hc) (one_lay open_is.2.1 (by decide)), isB_bl, sg_eq open_is.2.1]
          exact ⟨rfl, (Gr.add _ _).trans (Gr.add _ _)⟩
end
end PD.K02

/-! ## K02R6 -/
set_option Elab.async false
set_option linter.all false
set_option maxRecDepth 100000
set_option maxHeartbeats 1000000
namespace PD.K02
open PySem PySem.Spec L2 PD LT
abbrev rA1 : SD := sSet 2 (dCall bIntS (aCons (dVar 5) aNil))
abbrev rA2 : SD := sSeq (sDrop (dApp (dVar 1) (dLst aNil))) (sSet 3 (dOp oSub (dVar 3) (dC (.int 1))))
abbrev rA3 : SD := sSeq (sDrop (dApp (dOp oIx (dVar 1) (dUn oNeg (dC (.int 1)))) (dVar 2))) (sSeq (sSet 2 (dC .non)) (sIf (tVal (dOp oEq (dVar 5) (dC (.str ")")))) (sSet 2 (dCall bTuple (aCons (dPop (dVar 1)) aNil))) sNext))
abbrev rIf : SD := sIf rT1 rA1 (sIf rT2 rA2 (sIf rT3 rA3 (sRet (dTup (aCons (dVar 4) (aCons (dC .non) aNil))))))
theorem run_appV {fo f : D} {ρ : PD.Env} {S S1 S2 : Store} {k : Nat} {x : Val} {xs : List Val} {Q : Val → Store → Prop} (h1 : fo ρ S = .ok (.ref k) S1) (h2 : f ρ S1 = .ok x S2) (h3 : S2[k]? = some (.lst xs)) (hl : xs.length < 16777216) : Run (dApp fo f ρ S) Q = Q .non (S2.set k (.lst (xs ++ [x]))) := by
  rw [w_app, h1]
  show Run (f ρ S1) _ = _
  rw [h2]
  show (match S2[k]? with
    | some (.lst xs) => if xs.length < 16777216 then Q .non (S2.set k (.lst (xs ++ [x]))) else False
    | _ => False) = _
  rw [h3]
  show (if xs.length < 16777216 then _ else _) = _
  rw [if_pos hl]
theorem run_pop {ρ : PD.Env} {S : Store} {m i : Nat} {y : Val} {xs : List Val} {Q : Val → Store → Prop} (hr : ρ[i]? = some (some (.ref m))) (h : S[m]? = some (.lst (xs ++ [y]))) : Run (dPop (dVar i) ρ S) Q = Q y (S.set m (.lst xs)) := by
  unfold dPop
  rw [run_bind, w_var hr]
  show Run (match S[m]? with
    | some (.lst xs) => match xs[xs.length - 1]? with
      | some y => Res.ok y (S.set m (.lst xs.dropLast))
      | none => .stuck
    | _ => .stuck) Q = _
  rw [h]
  dsimp only
  rw [show (xs ++ [y])[(xs ++ [y]).length - 1]? = some y from by simp, List.dropLast_concat]; rfl
section
variable {S0 S : Store} {m j c : Nat} {ns : List Nat} {s : St} {z : Str}
theorem close_lay : ∀ x ∈ ((")" : Str)).cps.toList, x < 1114112 := one_lay open_is.2.1 (by decide)
abbrev R7 (z : Str) (m : Nat) (s : St) (x4 x5 x6 : Option Val) : PD.Env := [some (.str z), some (.ref m), some (doneV s.done), some (.int s.room), x4, x5, x6]
theorem read_step (h : Inv S0 m ns s S) (hc : c < 1114112) : RunS (rIf (R6 z m s j c s.done.isNone) S)
    (fun ρ' S' => ∃ s' ns' x4 x5 x6, stp c s = some s' ∧ ρ' = R7 z m s' x4 x5 x6 ∧ Inv S0 m ns' s' S') (fun r S' => stp c s = none ∧ r = .tup [.int j, .non] ∧ Kp S0 S') := by
  have okS : ∀ s', stp c s = some s' → Oks s' := fun s' e => h.ok.step e
  rw [s_if]
  refine Run.mono (run_T1 h hc) fun b1 S1 ⟨e1, g1⟩ => ?_
  have h1 := h.gr g1
  rw [s_if]
  obtain ⟨st, done, room⟩ := s
  cases done with
  | none =>
    have e1 : b1 = ((decide (c = 48) || decide (c = 49)) && topOk st c) := e1.trans (Bool.true_and _)
    by_cases hb : b1 = true
    · rw [if_pos hb]
      have hd : (c = 48 ∨ c = 49) ∧ topOk st c = true := by
        rw [hb] at e1
        have := e1.symm
        rw [Bool.and_eq_true] at this
        exact ⟨by simpa using this.1, this.2⟩
      have es : stp c ⟨st, none, room⟩ = some ⟨st, some (bit c), room⟩ := by
        show (if _ then _ else _) = _
        rw [if_pos hd]
      rw [s_set, w_call, w_cons, w_var rfl, w_nil, ok_run (int_bit hd.1)]
      exact ⟨_, ns, _, _, _, es, rfl, ⟨okS _ es, h1.kp, h1.cell, h1.fr, h1.nd, h1.nm, h1.lo⟩⟩
    · rw [if_neg hb]
      have hd : ¬ ((c = 48 ∨ c = 49) ∧ topOk st c = true) := fun e => hb (by
        rw [e1, e.2, Bool.and_true]
        simpa using e.1)
      refine Run.mono (run_T2 h1 hc) fun b2 S2 ⟨e2, e2'⟩ => ?_
      subst e2'
      have e2 : b2 = decide (c = 40 ∧ st.length < 12 ∧ 0 < room) := e2.trans (Bool.true_and _)
      by_cases hb2 : b2 = true
      · rw [if_pos hb2]
        have h40 : c = 40 ∧ st.length < 12 ∧ 0 < room := of_decide_eq_true (by rw [← e2]; exact hb2)
        have es : stp c ⟨st, none, room⟩ = some ⟨none :: st, none, room - 1⟩ := by
          show (if _ then _ else _) = _
          rw [if_neg hd, if_pos h40]
        have hm := h1.get
        have cell' : (S2 ++ [Cell.lst []])[m]? = some (.lst (ns.reverse.map Val.ref)) := (Gr.add S2 _).get h1.cell
        refine s_step (N' := fun ρ' S' => ρ' = R6 z m ⟨st, none, room⟩ j c true ∧ S' = (S2 ++ [Cell.lst []]).set m (.lst (ns.reverse.map Val.ref ++ [.ref S2.length]))) ?_ ?_
        · rw [s_drop, run_appV (k := m) (x := .ref S2.length) (S1 := S2) (S2 := S2 ++ [Cell.lst []]) rfl rfl cell' (by rw [List.length_map, List.length_reverse, h1.fr.len]; have := h40.2.1; show st.length < _; omega)]
          exact ⟨rfl, rfl⟩
        rintro ρ' S' ⟨rfl, rfl⟩
        rw [s_set, w_op, w_var rfl, w_c, run_subI]
        have hne : m ≠ S2.length := by omega
        refine ⟨_, S2.length :: ns, some (.int j), some (.str (sg c)), some (.bl true), es, ?_, ⟨okS _ es, ?_, ?_, ?_, ?_, ?_, ?_⟩⟩
        · show [_, _, _, some (Val.int ((room : Int) - 1)), _, _, _] = [_, _, _, some (Val.int ((room - 1 : Nat) : Int)), _, _, _]
          rw [show (room : Int) - 1 = ((room - 1 : Nat) : Int) from by omega]
        · exact kp_set (h1.kp.trans (Gr.add _ _).kp) (h1.lo m List.mem_cons_self)
        · rw [List.getElem?_set_self (by simp; omega), List.reverse_cons, List.map_append]; rfl
        · refine ⟨?_, h1.fr.mono fun n hn => ?_⟩
          · rw [List.getElem?_set_ne hne]; exact get_new _ _
          · have hl := h1.fr.lt n hn
            rw [List.getElem?_set_ne (fun e : m = n => h1.nm (by rw [e]; exact hn)), List.getElem?_append_left hl]
        · exact List.nodup_cons.mpr ⟨fun e => absurd (h1.fr.lt _ e) (Nat.lt_irrefl _), h1.nd⟩
        · intro e
          rcases List.mem_cons.mp e with e | e
          · exact hne e
          · exact h1.nm e
        · intro n hn
          rcases List.mem_cons.mp hn with rfl | hn
          · exact h1.lo _ List.mem_cons_self
          · rcases List.mem_cons.mp hn with rfl | hn
            · have := h1.lo m List.mem_cons_self; omega
            · exact h1.lo n (List.mem_cons_of_mem _ hn)
      · rw [if_neg hb2]
        have h40 : ¬ (c = 40 ∧ st.length < 12 ∧ 0 < room) := fun e => hb2 (by rw [e2]; exact decide_eq_true e)
        rw [s_if]
        refine Run.mono (run_T3 h1 hc) fun b3 S3 ⟨e3, g3⟩ => ?_
        rw [e3, show (!(none : Option Sh).isNone && goes st c) = false from rfl, if_neg (by decide), s_ret, w_tup, w_cons, w_var rfl, w_cons, w_c, w_nil]
        refine ⟨Nat.le_of_ble_eq_true rfl, ?_, rfl, h1.kp.trans g3.kp⟩
        show (if _ then _ else _) = _
        rw [if_neg hd, if_neg h40]
  | some x =>
    have e1 : b1 = false := e1
    rw [e1, if_neg (by decide)]
    refine Run.mono (run_T2 h1 hc) fun b2 S2 ⟨e2, e2'⟩ => ?_
    subst e2'
    have e2 : b2 = false := e2
    rw [e2, if_neg (by decide), s_if]
    refine Run.mono (run_T3 h1 hc) fun b3 S3 ⟨e3, g3⟩ => ?_
    have h3 := h1.gr g3
    have e3 : b3 = goes st c := e3.trans (Bool.true_and _)
    by_cases hb3 : b3 = true
    · rw [if_pos hb3]
      rw [hb3] at e3
      cases st with
      | nil => cases e3
      | cons f r =>
        cases ns with
        | nil => exact h.fr.elim
        | cons k ns =>
          have hk : k ∉ ns := (List.nodup_cons.mp h3.nd).1
          have hmk : m ≠ k := fun e => h3.nm (by rw [e]; exact List.mem_cons_self)
          have hkl : k < S3.length := h3.fr.lt k List.mem_cons_self
          have topk : (dOp oIx (dVar 1) (dUn oNeg (dC (.int 1)))) (R6 z m ⟨f :: r, some x, room⟩ j c false) S3 = .ok (.ref k) S3 := run_ok_of (by
            rw [r_top (s := ⟨f :: r, some x, room⟩) h3 rfl]; exact ⟨rfl, rfl⟩)
          have fl : (frV f).length < 16777216 := by cases f <;> exact Nat.lt_of_sub_ne_zero (by simp [frV])
          refine s_step (N' := fun ρ' S' => ρ' = R6 z m ⟨f :: r, some x, room⟩ j c false ∧ S' = S3.set k (.lst (frV f ++ [shV x]))) ?_ ?_
          · show RunS (sDrop _ (R6 z m ⟨f :: r, some x, room⟩ j c false) S3) _ _
            rw [s_drop, run_appV topk (x := shV x) (S2 := S3) rfl h3.fr.1 fl]
            exact ⟨rfl, rfl⟩
          rintro ρ' S' ⟨rfl, rfl⟩
          have lok : S0.length ≤ k := h3.lo k (List.mem_cons_of_mem _ List.mem_cons_self)
          have kp4 : Kp S0 (S3.set k (.lst (frV f ++ [shV x]))) := kp_set h3.kp lok
          have cell4 : (S3.set k (.lst (frV f ++ [shV x])))[m]? = some (.lst ((k :: ns).reverse.map Val.ref)) := by rw [List.getElem?_set_ne (Ne.symm hmk)]; exact h3.cell
          have frk : (S3.set k (.lst (frV f ++ [shV x])))[k]? = some (.lst (frV f ++ [shV x])) := List.getElem?_set_self hkl
          have fr4 : Fr (S3.set k (.lst (frV f ++ [shV x]))) ns r := h3.fr.2.mono fun n hn => List.getElem?_set_ne fun e : k = n => hk (by rw [e]; exact hn)
          refine s_step (N' := fun ρ' S' => ρ' = R7 z m ⟨f :: r, none, room⟩ (some (.int j)) (some (.str (sg c))) (some (.bl false)) ∧ S' = S3.set k (.lst (frV f ++ [shV x]))) ?_ ?_
          · rw [s_set, w_c]
            exact ⟨rfl, rfl⟩
          rintro ρ' S' ⟨rfl, rfl⟩
          rw [s_if, w_tval, w_op, w_var rfl, w_c, run_eqZ (sg_lay hc) close_lay, isB_bl, sg_eq open_is.2.1]
          cases f with
          | none =>
            have hcc : c = 44 := of_decide_eq_true e3.symm
            have es : stp c ⟨none :: r, some x, room⟩ = some ⟨some x :: r, none, room⟩ := by
              show (if c = 44 then _ else _) = _
              rw [if_pos hcc]
            rw [decide_eq_false (by omega), if_neg (by decide)]
            exact ⟨_, k :: ns, _, _, _, es, rfl, ⟨okS _ es, kp4, cell4, ⟨frk, fr4⟩, h3.nd, h3.nm, h3.lo⟩⟩
          | some y =>
            have hcc : c = 41 := of_decide_eq_true e3.symm
            have es : stp c ⟨some y :: r, some x, room⟩ = some ⟨r, some (.node y x), room⟩ := by
              show (if c = 41 then _ else _) = _
              rw [if_pos hcc]
            have c5 : (S3.set k (.lst (frV (some y) ++ [shV x])))[m]? = some (.lst (ns.reverse.map Val.ref ++ [.ref k])) := by
              rw [cell4, List.reverse_cons, List.map_append]; rfl
            rw [decide_eq_true hcc, if_pos rfl, s_set, w_call, w_cons, run_pop rfl c5, w_nil]
            have ck : ((S3.set k (.lst (frV (some y) ++ [shV x]))).set m (.lst (ns.reverse.map Val.ref)))[k]? = some (.lst [shV y, shV x]) := by
              rw [List.getElem?_set_ne hmk]; exact frk
            rw [run_tuple ck]
            refine ⟨_, ns, _, _, _, es, rfl, ⟨okS _ es, kp_set kp4 (h3.lo m List.mem_cons_self), List.getElem?_set_self (by rw [List.length_set]; exact h3.get), fr4.mono fun n hn => List.getElem?_set_ne fun e => h3.nm (by rw [e]; exact List.mem_cons_of_mem _ hn), (List.nodup_cons.mp h3.nd).2, fun e => h3.nm (List.mem_cons_of_mem _ e), fun n hn => ?_⟩⟩
            rcases List.mem_cons.mp hn with rfl | hn
            · exact h3.lo _ List.mem_cons_self
            · exact h3.lo n (List.mem_cons_of_mem _ (List.mem_cons_of_mem _ hn))
    · rw [if_neg hb3, s_ret, w_tup, w_cons, w_var rfl, w_cons, w_c, w_nil]
      refine ⟨Nat.le_of_ble_eq_true rfl, ?_, rfl, h3.kp⟩
      have e3 : goes st c = false := by rw [← e3]; exact Bool.eq_false_iff.mpr hb3
      cases st with
      | nil => rfl
      | cons f r =>
        cases f with
        | none => show (if c = 44 then _ else _) = _; rw [if_neg (of_decide_eq_false e3)]
        | some y => show (if c = 41 then _ else _) = _; rw [if_neg (of_decide_eq_false e3)]
abbrev rdB : SD := sSeq (sSet 5 (dOp oIx (dVar 0) (dVar 4))) (sSeq (sSet 6 (dOp oIs (dVar 2) (dC .non))) rIf)
theorem is_none {done : Option Sh} {S : Store} {Q : Val → Store → Prop} : Run (oIs (doneV done) .non S) Q = Q (.bl done.isNone) S := by
  cases done with
  | none => rfl
  | some x => cases x <;> rfl
theorem read_loop (hz : Tx z) : ∀ (l : List Nat) (j : Nat) (s : St) (ns : List Nat) (x4 x5 x6 : Option Val) (S : Store), Inv S0 m ns s S → z.cps.toList.drop j = l →
    RunS (loopV (gN 4) rdB (rangeV (j : Nat) l.length) (R7 z m s x4 x5 x6) S) (fun ρ' S' => ∃ s' ns' x4 x5 x6, ρ' = R7 z m s' x4 x5 x6 ∧ Inv S0 m ns' s' S' ∧ mac l j s = mac [] (j + l.length) s') (fun r S' => r = resV (mac l j s) ∧ Kp S0 S')
  | [], j, s, ns, x4, x5, x6, S, h, hl => by
    show RunS (loopV (gN 4) rdB [] _ S) _ _
    rw [loopV_nil]
    exact ⟨s, ns, _, _, _, rfl, h, rfl⟩
  | c :: l, j, s, ns, x4, x5, x6, S, h, hl => by
    have hlt : j < z.cps.toList.length := by
      have := congrArg List.length hl
      simp at this; simp; omega
    have e0 := List.drop_eq_getElem_cons hlt
    rw [hl] at e0
    have hcj : z.cps.toList[j]? = some c := by rw [List.getElem?_eq_getElem hlt, (List.cons.inj e0).1]
    have hcl : c < 1114112 := hz.2 c (List.mem_of_getElem? hcj)
    rw [List.length_cons, rangeV_succ]
    refine loop_cons rfl ?_
    refine s_step (N' := fun ρ' S' => ρ' = [some (.str z), some (.ref m), some (doneV s.done), some (.int s.room), some (.int (j : Nat)), some (.str (sg c)), x6] ∧ S' = S) ?_ ?_
    · rw [s_set, w_op, w_var rfl, w_var rfl]
      show Run (match L2.atI z.cps.toList ((j : Nat) : Int) with
        | some c => if z.length ≤ 16777216 then Res.ok (Val.str ⟨#[c]⟩) S else .stuck
        | none => .stuck) _
      rw [atI_nat hcj]
      show Run (if z.length ≤ 16777216 then Res.ok (Val.str ⟨#[c]⟩) S else .stuck) _
      rw [if_pos (by have := hz.1; omega)]
      exact ⟨rfl, rfl⟩
    rintro ρ' S' ⟨rfl, rfl⟩
    refine s_step (N' := fun ρ' S'' => ρ' = R6 z m s j c s.done.isNone ∧ S'' = S') ?_ ?_
    · rw [s_set, w_op, w_var rfl, w_c, is_none]
      exact ⟨rfl, rfl⟩
    rintro ρ' S'' ⟨rfl, rfl⟩
    refine RunS.mono (read_step h hcl) (fun ρ' S1 ⟨s', ns', y4, y5, y6, es, er, h'⟩ => ?_) fun r S1 ⟨es, er, k⟩ => ?_
    · subst er
      have e2 : mac (c :: l) j s = mac l (j + 1) s' := by
        show (match stp c s with | none => _ | some s' => mac l (j + 1) s') = _
        rw [es]
      rw [e2, show ((j : Nat) : Int) + 1 = ((j + 1 : Nat) : Int) from by omega]
      refine RunS.mono (read_loop hz l (j + 1) s' ns' y4 y5 y6 S1 h' (List.cons.inj e0).2.symm) (fun ρ2 S2 ⟨s2, ns2, w4, w5, w6, a, b, e⟩ => ⟨s2, ns2, w4, w5, w6, a, b, ?_⟩) fun r S2 q => q
      rw [e]
      show mac [] (j + 1 + l.length) s2 = mac [] (j + (l.length + 1)) s2
      rw [show j + 1 + l.length = j + (l.length + 1) from by omega]
    · subst er
      have e2 : mac (c :: l) j s = .error j := by
        show (match stp c s with | none => Except.error j | some s' => mac l (j + 1) s') = _
        rw [es]
      rw [e2]
      exact ⟨rfl, k⟩
end
theorem run_lenZ {z : Str} {S : Store} {Q : Val → Store → Prop} (hz : Tx z) : Run (bLen [.str z] S) Q = Q (.int z.length) S := by
  show Run (if z.length ≤ 16777216 then okI z.length S else .stuck) Q = _
  rw [if_pos (by have := hz.1; omega)]; rfl
/-- what the law's reading answers -/
theorem read_ok {z : Str} {n : Nat} {S : Store} (hz : Tx z) (hn : 0 < n) : Run ((fns n)._law_read [.str z] S) (PureK S (resV (mac z.cps.toList 0 ⟨[], none, 63⟩))) := by
  obtain ⟨n, rfl⟩ : ∃ m, n = m + 1 := ⟨n - 1, by omega⟩
  have hl : z.length = z.cps.toList.length := by show z.cps.size = _; rw [Array.length_toList]
  show Run (fnOf 1 7 (b__law_read (fns n)) [.str z] S) _
  unfold b__law_read
  refine run_fn (ρ := [some (.str z), none, none, none, none, none, none]) rfl rfl ?_
  refine s_step (N' := fun ρ' S' => ρ' = R7 z S.length ⟨[], none, 63⟩ none none none ∧ S' = S ++ [.lst []]) ?_ ?_
  · have e : (sPar3 1 2 3 (aCons (dLst aNil) (aCons (dC .non) (aCons (dC (.int 63)) aNil)))) [some (.str z), none, none, none, none, none, none] S = .next (R7 z S.length ⟨[], none, 63⟩ none none none) (S ++ [.lst []]) := rfl
    rw [e]
    exact ⟨rfl, rfl⟩
  rintro ρ' S' ⟨rfl, rfl⟩
  have i0 : Inv S S.length [] ⟨[], none, 63⟩ (S ++ [.lst []]) := by
    refine ⟨⟨Nat.zero_le _, trivial, fun x hx => (by cases hx)⟩, (Gr.add _ _).kp, get_new _ _, trivial, List.nodup_nil, List.not_mem_nil, fun n hn => ?_⟩
    rw [List.mem_singleton.mp hn]; exact Nat.le_refl _
  refine s_step (N' := fun ρ' S' => ∃ s' ns' x4 x5 x6, ρ' = R7 z S.length s' x4 x5 x6 ∧ Inv S S.length ns' s' S' ∧ mac z.cps.toList 0 ⟨[], none, 63⟩ = mac [] z.cps.toList.length s') ?_ ?_
  · rw [s_forR, w_cons, w_call, w_cons, w_var rfl, w_nil]
    rw [run_lenZ hz, w_nil]
    show (if -(2 ^ 62) ≤ ((z.length : Nat) : Int) ∧ ((z.length : Nat) : Int) < 2 ^ 62 then RunS (loopV (gN 4) rdB (rangeV 0 (((z.length : Nat) : Int)).toNat) _ _) _ _ else False)
    rw [if_pos ⟨by omega, by have := hz.1; omega⟩, Int.toNat_natCast, hl]
    refine RunS.mono (read_loop hz z.cps.toList 0 ⟨[], none, 63⟩ [] none none none _ i0 rfl) (fun ρ' S' ⟨s', ns', x4, x5, x6, a, b, e⟩ => ⟨s', ns', x4, x5, x6, a, b, by rw [e, Nat.zero_add]⟩) fun r S' q => q
  rintro ρ' S1 ⟨s', ns', x4, x5, x6, rfl, h, e⟩
  rw [e]
  have T : Run ((tOr' (tVal (dOp oNe (dVar 1) (dLst aNil))) (tVal (dOp oIs (dVar 2) (dC .non)))) (R7 z S.length s' x4 x5 x6) S1) (fun b S2 => b = (!s'.st.isEmpty || s'.done.isNone) ∧ Kp S1 S2) := by
    rw [w_tor, w_tval, ne_stack h rfl, isB_bl]
    cases s'.st.isEmpty with
    | false => exact ⟨rfl, (Gr.add _ _).kp⟩
    | true =>
      show if false = true then _ else _
      rw [if_neg (by decide), w_tval, w_op, w_var rfl, w_c, is_none, isB_bl]
      exact ⟨rfl, (Gr.add _ _).kp⟩
  refine s_step (N' := fun ρ' S2 => ρ' = R7 z S.length s' x4 x5 x6 ∧ Kp S1 S2 ∧ ∃ x, s'.st = [] ∧ s'.done = some x) ?_ ?_
  · rw [s_if]
    refine Run.mono T fun b S2 ⟨eb, k2⟩ => ?_
    obtain ⟨st, done, room⟩ := s'
    have er : ∀ (hh : ¬ (st = [] ∧ ∃ x, done = some x)), mac [] z.cps.toList.length ⟨st, done, room⟩ = .error z.cps.toList.length := fun hh => by
      cases st with
      | nil =>
        cases done with
        | none => rfl
        | some x => exact absurd ⟨rfl, x, rfl⟩ hh
      | cons f r => rfl
    have bad : b = true → ¬ (st = [] ∧ ∃ x, done = some x) → RunS (sRet (dTup (aCons (dCall bLen (aCons (dVar 0) aNil)) (aCons (dC .non) aNil))) (R7 z S.length ⟨st, done, room⟩ x4 x5 x6) S2) (fun ρ' S2 => ρ' = R7 z S.length ⟨st, done, room⟩ x4 x5 x6 ∧ Kp S1 S2 ∧ ∃ x, st = [] ∧ done = some x) (PureK S (resV (mac [] z.cps.toList.length ⟨st, done, room⟩))) := fun _ hh => by
      rw [er hh, s_ret, w_tup, w_cons, w_call, w_cons, w_var rfl, w_nil]
      rw [run_lenZ hz, w_cons, w_c, w_nil]
      refine ⟨Nat.le_of_ble_eq_true rfl, ?_, h.kp.trans k2⟩
      rw [hl]; rfl
    cases st with
    | nil =>
      cases done with
      | none =>
        have eb : b = true := eb
        rw [if_pos eb]
        exact bad eb fun hh => by obtain ⟨x, hx⟩ := hh.2; cases hx
      | some x =>
        have eb : b = false := eb
        rw [eb, if_neg (by decide)]
        exact ⟨rfl, k2, x, rfl, rfl⟩
    | cons f r =>
      have eb : b = true := eb
      rw [if_pos eb]
      exact bad eb fun hh => by cases hh.1
  rintro ρ' S2 ⟨rfl, k2, x, hs, hd⟩
  rw [s_ret, w_tup, w_cons, w_c, w_cons, w_var rfl, w_nil]
  refine ⟨Nat.le_of_ble_eq_true rfl, ?_, h.kp.trans k2⟩
  obtain ⟨st, done, room⟩ := s'
  cases hs; cases hd; rfl
end PD.K02

/-! ## K02R7 -/
set_option Elab.async false
set_option linter.all false
set_option maxRecDepth 100000
set_option maxHeartbeats 1000000
namespace PD.K02
open PySem PySem.Spec L2 PD LT
/-! ### descent and stack read alike -/
def wOf : List (Option Sh) → Option Bool
  | some y :: _ => wantOf y
  | _ => none
theorem num_top {st : List (Option Sh)} {c : Nat} : numOk (wOf st) c = true ↔ ((c = 48 ∨ c = 49) ∧ topOk st c = true) := by
  have h0 : numOk none c = true ↔ (c = 48 ∨ c = 49) := by simp [numOk]
  cases st with
  | nil => exact ⟨fun h => ⟨h0.mp h, rfl⟩, fun h => h0.mpr h.1⟩
  | cons f r =>
    cases f with
    | none => exact ⟨fun h => ⟨h0.mp h, rfl⟩, fun h => h0.mpr h.1⟩
    | some y =>
      show numOk (wantOf y) c = true ↔ ((c = 48 ∨ c = 49) ∧ (!decide (y = bit c)) = true)
      cases y with
      | zero =>
        show decide (c = 49) = true ↔ _
        unfold bit
        by_cases h : c = 49
        · subst h; simp
        · rw [if_neg h]; simp [h]
      | one =>
        show decide (c = 48) = true ↔ _
        unfold bit
        by_cases h : c = 49
        · subst h; simp
        · rw [if_neg h]
          constructor
          · intro e; exact ⟨.inl (of_decide_eq_true e), by simp⟩
          · intro e; exact decide_eq_true (e.1.resolve_right h)
      | node a b =>
        show numOk none c = true ↔ _
        rw [h0]
        constructor
        · intro h
          refine ⟨h, ?_⟩
          unfold bit
          split <;> simp
        · exact fun h => h.1
def Agree (l : List Nat) (st : List (Option Sh)) (r : Except Nat Sh) : Except Nat (Sh × Nat × Nat) → Prop
  | .error i => r = .error i
  | .ok (x, a, t) => t ≤ 63 ∧ r = mac (l.drop a) a ⟨st, some x, 63 - t⟩
theorem mac_nil {a : Nat} {s : St} (h : ¬ (s.st = [] ∧ ∃ x, s.done = some x)) : mac [] a s = .error a := by
  obtain ⟨st, done, room⟩ := s
  cases st with
  | nil =>
    cases done with
    | none => rfl
    | some x => exact absurd ⟨rfl, x, rfl⟩ h
  | cons f r => rfl
theorem mac_cons {c a : Nat} {l : List Nat} {s : St} : mac (c :: l) a s = match stp c s with | none => .error a | some s' => mac l (a + 1) s' := rfl
theorem drop_at {l : List Nat} {a c : Nat} (h : l[a]? = some c) : l.drop a = c :: l.drop (a + 1) := by
  obtain ⟨hl, e⟩ := List.getElem?_eq_some_iff.mp h
  rw [List.drop_eq_getElem_cons hl, e]
theorem drop_none {l : List Nat} {a : Nat} (h : l[a]? = none) : l.drop a = [] := List.drop_eq_nil_of_le (List.getElem?_eq_none_iff.mp h)
theorem rd_mac (l : List Nat) : ∀ (f a t : Nat) (st : List (Option Sh)), f + st.length = 13 → st.length ≤ 12 → t ≤ 63 →
    Agree l st (mac (l.drop a) a ⟨st, none, 63 - t⟩) (rd l f a st.length t (wOf st))
  | 0, a, t, st, hf, hd, ht => by omega
  | f + 1, a, t, st, hf, hd, ht => by
    rw [rd_eq]
    cases hc : l[a]? with
    | none =>
      rw [drop_none hc]
      exact mac_nil fun e => by obtain ⟨x, hx⟩ := e.2; cases hx
    | some c =>
      rw [drop_at hc, mac_cons]
      show Agree l st _ (if c = 40 then _ else _)
      by_cases h40 : c = 40
      · rw [if_pos h40]
        have hn : ¬ ((c = 48 ∨ c = 49) ∧ topOk st c = true) := fun e => by rcases e.1 with e | e <;> omega
        by_cases hlim : st.length = 12 ∨ t = 63
        · rw [if_pos hlim]
          have es : stp c ⟨st, none, 63 - t⟩ = none := by
            show (if _ then _ else _) = _
            rw [if_neg hn, if_neg (fun e : c = 40 ∧ st.length < 12 ∧ 0 < 63 - t => by rcases hlim with h | h <;> omega)]
          rw [es]
          exact rfl
        · rw [if_neg hlim]
          have es : stp c ⟨st, none, 63 - t⟩ = some ⟨none :: st, none, 63 - (t + 1)⟩ := by
            show (if _ then _ else _) = _
            rw [if_neg hn, if_pos (show c = 40 ∧ st.length < 12 ∧ 0 < 63 - t from ⟨h40, by omega, by omega⟩)]
            rfl
          rw [es]
          show Agree l st (mac (l.drop (a + 1)) (a + 1) ⟨none :: st, none, 63 - (t + 1)⟩) _
          have i1 := rd_mac l f (a + 1) (t + 1) (none :: st) (by rw [List.length_cons]; omega) (by rw [List.length_cons]; omega) (by omega)
          rw [List.length_cons] at i1
          revert i1
          show Agree l (none :: st) _ (rd l f (a + 1) (st.length + 1) (t + 1) none) → _
          cases e1 : rd l f (a + 1) (st.length + 1) (t + 1) none with
          | error i => exact fun i1 => i1
          | ok p =>
            obtain ⟨x, a1, t1⟩ := p
            rintro ⟨ht1, i1⟩
            rw [i1]
            show Agree l st _ (if l[a1]? = some 44 then _ else _)
            cases hc1 : l[a1]? with
            | none =>
              rw [if_neg (by simp), drop_none hc1]
              exact mac_nil fun e => by cases e.1
            | some c1 =>
              rw [drop_at hc1, mac_cons]
              by_cases h44 : c1 = 44
              · rw [if_pos (by rw [h44])]
                have es1 : stp c1 ⟨none :: st, some x, 63 - t1⟩ = some ⟨some x :: st, none, 63 - t1⟩ := by
                  show (if _ then _ else _) = _
                  rw [if_pos h44]
                rw [es1]
                show Agree l st (mac (l.drop (a1 + 1)) (a1 + 1) ⟨some x :: st, none, 63 - t1⟩) _
                have i2 := rd_mac l f (a1 + 1) t1 (some x :: st) (by rw [List.length_cons]; omega) (by rw [List.length_cons]; omega) ht1
                rw [List.length_cons] at i2
                revert i2
                show Agree l (some x :: st) _ (rd l f (a1 + 1) (st.length + 1) t1 (wantOf x)) → _
                cases e2 : rd l f (a1 + 1) (st.length + 1) t1 (wantOf x) with
                | error i => exact fun i2 => i2
                | ok p2 =>
                  obtain ⟨y, a2, t2⟩ := p2
                  rintro ⟨ht2, i2⟩
                  rw [i2]
                  show Agree l st _ (if l[a2]? = some 41 then _ else _)
                  cases hc2 : l[a2]? with
                  | none =>
                    rw [if_neg (by simp), drop_none hc2]
                    exact mac_nil fun e => by cases e.1
                  | some c2 =>
                    rw [drop_at hc2, mac_cons]
                    by_cases h41 : c2 = 41
                    · rw [if_pos (by rw [h41])]
                      have es2 : stp c2 ⟨some x :: st, some y, 63 - t2⟩ = some ⟨st, some (.node x y), 63 - t2⟩ := by
                        show (if _ then _ else _) = _
                        rw [if_pos h41]
                      rw [es2]
                      exact ⟨ht2, rfl⟩
                    · rw [if_neg (fun e => h41 (Option.some.inj e))]
                      have es2 : stp c2 ⟨some x :: st, some y, 63 - t2⟩ = none := by
                        show (if _ then _ else _) = _
                        rw [if_neg h41]
                      rw [es2]
                      exact rfl
              · rw [if_neg (fun e => h44 (Option.some.inj e))]
                have es1 : stp c1 ⟨none :: st, some x, 63 - t1⟩ = none := by
                  show (if _ then _ else _) = _
                  rw [if_neg h44]
                rw [es1]
                exact rfl
      · rw [if_neg h40]
        by_cases hnum : numOk (wOf st) c = true
        · rw [if_pos hnum]
          have es : stp c ⟨st, none, 63 - t⟩ = some ⟨st, some (bit c), 63 - t⟩ := by
            show (if _ then _ else _) = _
            rw [if_pos (num_top.mp hnum)]
          rw [es]
          exact ⟨ht, rfl⟩
        · rw [if_neg hnum]
          have es : stp c ⟨st, none, 63 - t⟩ = none := by
            show (if _ then _ else _) = _
            rw [if_neg (fun e => hnum (num_top.mpr e)), if_neg (fun e => h40 e.1)]
          rw [es]
          exact rfl
theorem rdAll_mac (l : List Nat) : rdAll l = mac l 0 ⟨[], none, 63⟩ := by
  have h := rd_mac l 13 0 0 [] rfl (by decide) (by decide)
  unfold rdAll
  revert h
  show Agree l [] (mac l 0 ⟨[], none, 63⟩) (rd l 13 0 0 0 none) → _
  cases e : rd l 13 0 0 0 none with
  | error i => exact fun h => h.symm
  | ok p =>
    obtain ⟨x, a, t⟩ := p
    rintro ⟨_, h⟩
    rw [h]
    show (if a < l.length then _ else _) = _
    by_cases hl : a < l.length
    · rw [if_pos hl, List.drop_eq_getElem_cons hl]; rfl
    · rw [if_neg hl, List.drop_eq_nil_of_le (by omega)]; rfl
/-! ### a share written -/
def wr : Sh → List Nat
  | .zero => [48]
  | .one => [49]
  | .node a b => 40 :: (wr a ++ 44 :: (wr b ++ [41]))
theorem wr_len : ∀ s : Sh, (wr s).length = 4 * s.tc + 1
  | .zero => rfl
  | .one => rfl
  | .node a b => by
    show (40 :: (wr a ++ 44 :: (wr b ++ [41]))).length = 4 * (1 + (a.tc + b.tc)) + 1
    simp only [List.length_cons, List.length_append, List.length_nil, wr_len a, wr_len b]
    omega
theorem wr_lt : ∀ (s : Sh) (c : Nat), c ∈ wr s → c < 128
  | .zero, c, h => by rw [List.mem_singleton.mp h]; decide
  | .one, c, h => by rw [List.mem_singleton.mp h]; decide
  | .node a b, c, h => by
    rcases List.mem_cons.mp h with rfl | h
    · decide
    · rcases List.mem_append.mp h with h | h
      · exact wr_lt a c h
      · rcases List.mem_cons.mp h with rfl | h
        · decide
        · rcases List.mem_append.mp h with h | h
          · exact wr_lt b c h
          · rw [List.mem_singleton.mp h]; decide
def wantOk (w : Option Bool) (s : Sh) : Prop := (w = some true → s ≠ .zero) ∧ (w = some false → s ≠ .one)
theorem rd_wr : ∀ (s : Sh) (f a d t : Nat) (w : Option Bool) (l rest : List Nat), l.drop a = wr s ++ rest → s.ok = true → s.dep + d ≤ 12 → t + s.tc ≤ 63 → wantOk w s → s.dep < f →
    rd l f a d t w = .ok (s, a + (wr s).length, t + s.tc)
  | s, 0, a, d, t, w, l, rest, hl, hk, hd, ht, hw, hf => by omega
  | .zero, f + 1, a, d, t, w, l, rest, hl, hk, hd, ht, hw, hf => by
    have hc : l[a]? = some 48 := by
      have := congrArg (·[0]?) hl
      simpa [wr] using this
    rw [rd_eq, hc]
    show (if (48 : Nat) = 40 then _ else _) = _
    rw [if_neg (by decide)]
    have : numOk w 48 = true := by
      cases w with
      | none => rfl
      | some b => cases b with
        | false => rfl
        | true => exact absurd rfl (hw.1 rfl)
    rw [if_pos this]; rfl
  | .one, f + 1, a, d, t, w, l, rest, hl, hk, hd, ht, hw, hf => by
    have hc : l[a]? = some 49 := by
      have := congrArg (·[0]?) hl
      simpa [wr] using this
    rw [rd_eq, hc]
    show (if (49 : Nat) = 40 then _ else _) = _
    rw [if_neg (by decide)]
    have : numOk w 49 = true := by
      cases w with
      | none => rfl
      | some b => cases b with
        | true => rfl
        | false => exact absurd rfl (hw.2 rfl)
    rw [if_pos this]; rfl
  | .node x y, f + 1, a, d, t, w, l, rest, hl, hk, hd, ht, hw, hf => by
    have hl : l.drop a = 40 :: (wr x ++ (44 :: (wr y ++ (41 :: rest)))) := by
      rw [hl]
      show 40 :: (wr x ++ 44 :: (wr y ++ [41])) ++ rest = _
      simp
    have hk : (x.ok && (y.ok && (!(decide (x = .zero) && decide (y = .zero)) && !(decide (x = .one) && decide (y = .one))))) = true := hk
    simp only [Bool.and_eq_true, Bool.not_eq_true', Bool.and_eq_false_iff, decide_eq_false_iff_not] at hk
    have hd : 1 + max x.dep y.dep + d ≤ 12 := hd
    have ht : t + (1 + (x.tc + y.tc)) ≤ 63 := ht
    have hf : 1 + max x.dep y.dep < f + 1 := hf
    have hc : l[a]? = some 40 := by
      have := congrArg (·[0]?) hl
      simpa using this
    have d1 : l.drop (a + 1) = wr x ++ (44 :: (wr y ++ (41 :: rest))) := by
      rw [← List.drop_drop, hl]; rfl
    have i1 := rd_wr x f (a + 1) (d + 1) (t + 1) none l _ d1 hk.1 (by omega) (by omega) ⟨fun e => (by cases e), fun e => (by cases e)⟩ (by omega)
    have d2 : l.drop (a + 1 + (wr x).length) = 44 :: (wr y ++ (41 :: rest)) := by
      rw [← List.drop_drop, d1, List.drop_left']; rfl
    have c2 : l[a + 1 + (wr x).length]? = some 44 := by
      have := congrArg (·[0]?) d2
      simpa using this
    have d3 : l.drop (a + 1 + (wr x).length + 1) = wr y ++ (41 :: rest) := by
      rw [← List.drop_drop, d2]; rfl
    have w2 : wantOk (wantOf x) y := by
      cases x with
      | zero => exact ⟨fun _ e => (by have := hk.2.2.1; simp [e] at this), fun e => (by cases e)⟩
      | one => exact ⟨fun e => (by cases e), fun _ e => (by have := hk.2.2.2; simp [e] at this)⟩
      | node => exact ⟨fun e => (by cases e), fun e => (by cases e)⟩
    have i2 := rd_wr y f (a + 1 + (wr x).length + 1) (d + 1) (t + 1 + x.tc) (wantOf x) l _ d3 hk.2.1 (by omega) (by omega) w2 (by omega)
    have d4 : l.drop (a + 1 + (wr x).length + 1 + (wr y).length) = 41 :: rest := by
      rw [← List.drop_drop, d3, List.drop_left']; rfl
    have c4 : l[a + 1 + (wr x).length + 1 + (wr y).length]? = some 41 := by
      have := congrArg (·[0]?) d4
      simpa using this
    rw [rd_eq, hc]
    show (if (40 : Nat) = 40 then _ else _) = _
    rw [if_pos rfl, if_neg (by omega), i1]
    show (if l[a + 1 + (wr x).length]? = some 44 then _ else _) = _
    rw [if_pos c2, i2]
    show (if l[a + 1 + (wr x).length + 1 + (wr y).length]? = some 41 then _ else _) = _
    rw [if_pos c4]
    show Except.ok (Sh.node x y, a + 1 + (wr x).length + 1 + (wr y).length + 1, t + 1 + x.tc + y.tc) = Except.ok (Sh.node x y, a + (40 :: (wr x ++ 44 :: (wr y ++ [41]))).length, t + (1 + (x.tc + y.tc)))
    congr 2
    simp only [List.length_cons, List.length_append, List.length_nil]
    congr 1 <;> omega
theorem rdAll_wr {s : Sh} (h : Shr s) : rdAll (wr s) = .ok s := by
  have := rd_wr s 13 0 0 0 none (wr s) [] (by simp) h.ok (by have := h.dep; omega) (by have := h.tc; omega) ⟨fun e => (by cases e), fun e => (by cases e)⟩ (by have := h.dep; omega)
  unfold rdAll
  rw [this]
  show (if 0 + (wr s).length < (wr s).length then _ else _) = _
  rw [if_neg (by omega)]
end PD.K02

/-! ## K02R8 -/
set_option Elab.async false
set_option linter.all false
set_option maxRecDepth 100000
set_option maxHeartbeats 1000000
namespace PD.K02
open PySem PySem.Spec L2 PD LT
/-! ### texts of shares -/
def toS (l : List Nat) : Str := ⟨l.toArray⟩
theorem toS_app {a b : List Nat} : toS a ++ toS b = toS (a ++ b) := by
  show Str.mk (a.toArray ++ b.toArray) = Str.mk (a ++ b).toArray
  rw [List.append_toArray]
theorem toS_len {a : List Nat} : (toS a).length = a.length := List.size_toArray ..
theorem toS_list {a : List Nat} : (toS a).cps.toList = a := rfl
theorem toS_tx {l : List Nat} (h : l.length ≤ 1000000) (h2 : ∀ c ∈ l, c < 128) : Tx (toS l) := ⟨by rw [toS_len]; exact h, fun c hc => Nat.lt_trans (h2 c hc) (by decide)⟩
theorem lits : (("(" : Str)) = toS [40] ∧ ((")" : Str)) = toS [41] ∧ (("," : Str)) = toS [44] ∧ (("0" : Str)) = toS [48] ∧ (("1" : Str)) = toS [49] := ⟨open_is.1, open_is.2.1, open_is.2.2.1, open_is.2.2.2.2.1, open_is.2.2.2.2.2⟩
theorem js_cons {f : D} {fs : List D} {ρ : PD.Env} {S : Store} {acc y : List Nat} {Q : Val → Store → Prop} (h : f ρ S = .ok (.str (toS y)) S) (hl : acc.length + y.length ≤ 1000000) : Run (dJs (f :: fs) (toS acc) ρ S) Q = Run (dJs fs (toS (acc ++ y)) ρ S) Q := by
  show Run ((f ρ S).bind _) Q = _
  rw [h]
  show Run (if (toS acc ++ toS y).length ≤ 16777216 then dJs fs (toS acc ++ toS y) ρ S else .stuck) Q = _
  rw [toS_app, if_pos (by rw [toS_len, List.length_append]; omega)]
theorem js_nil {ρ : PD.Env} {S : Store} {acc : List Nat} {Q : Val → Store → Prop} : Run (dJs [] (toS acc) ρ S) Q = Q (.str (toS acc)) S := rfl
theorem q_fmt {f : D} {ρ : PD.Env} {S : Store} {y : List Nat} (h : f ρ S = .ok (.str (toS y)) S) (hl : y.length ≤ 1000000) : dFmt f ρ S = .ok (.str (toS y)) S := by
  unfold dFmt
  rw [h]
  show (if (toS y).length ≤ 16777216 then Res.ok (Val.str (toS y)) S else .stuck) = _
  rw [if_pos (by rw [toS_len]; omega)]
theorem str_bit {S : Store} : bStr [.int 0] S = .ok (.str (toS [48])) S ∧ bStr [.int 1] S = .ok (.str (toS [49])) S := by
  have e0 : ((toString (0 : Int) : String) : Str) = toS [48] := by decide +kernel
  have e1 : ((toString (1 : Int) : String) : Str) = toS [49] := by decide +kernel
  rw [← e0, ← e1]
  exact ⟨rfl, rfl⟩
theorem text_of_ok : ∀ (s : Sh) (n : Nat) (S : Store), s.tc ≤ 63 → s.dep < n → (fns n)._text_of [shV s] S = .ok (.str (toS (wr s))) S
  | s, 0, S, _, h => absurd h (Nat.not_lt_zero _)
  | .zero, n + 1, S, _, _ => by
    show fnOf 1 1 (b__text_of (fns n)) [.int 0] S = _
    refine run_ok_of ?_
    refine run_fn (ρ := [some (.int 0)]) rfl rfl ?_
    unfold b__text_of
    rw [s_seq, q_if (v := true) (S1 := S) rfl, if_pos rfl, s_ret, w_call, w_cons, w_var rfl, w_nil, ok_run str_bit.1]
    exact ⟨rfl, rfl⟩
  | .one, n + 1, S, _, _ => by
    show fnOf 1 1 (b__text_of (fns n)) [.int 1] S = _
    refine run_ok_of ?_
    refine run_fn (ρ := [some (.int 1)]) rfl rfl ?_
    unfold b__text_of
    rw [s_seq, q_if (v := true) (S1 := S) rfl, if_pos rfl, s_ret, w_call, w_cons, w_var rfl, w_nil, ok_run str_bit.2]
    exact ⟨rfl, rfl⟩
  | .node a b, n + 1, S, ht, hd => by
    have ht : 1 + (a.tc + b.tc) ≤ 63 := ht
    have hd : 1 + max a.dep b.dep < n + 1 := hd
    have i1 := text_of_ok a n S (by omega) (by omega)
    have i2 := text_of_ok b n S (by omega) (by omega)
    have la := wr_len a
    have lb := wr_len b
    show fnOf 1 1 (b__text_of (fns n)) [shV (.node a b)] S = _
    refine run_ok_of ?_
    refine run_fn (ρ := [some (shV (.node a b))]) rfl rfl ?_
    unfold b__text_of
    rw [s_seq, q_if (v := false) (S1 := S) rfl, if_neg (by decide), s_next]
    have x0 : (dOp oIx (dVar 0) (dC (.int 0))) [some (shV (.node a b))] S = .ok (shV a) S := rfl
    have x1 : (dOp oIx (dVar 0) (dC (.int 1))) [some (shV (.node a b))] S = .ok (shV b) S := rfl
    rw [s_ret, show Str.empty = toS [] from rfl, js_cons (y := [40]) (by rw [lits.1]; rfl) (by simp),
      js_cons (y := wr a) (q_fmt ((q_call (q_one x0)).trans i1) (by omega)) (by simp; omega),
      js_cons (y := [44]) (by rw [lits.2.2.1]; rfl) (by simp; omega),
      js_cons (y := wr b) (q_fmt ((q_call (q_one x1)).trans i2) (by omega)) (by simp; omega),
      js_cons (y := [41]) (by rw [lits.2.1]; rfl) (by simp; omega), js_nil]
    refine ⟨?_, rfl⟩
    show Val.str (toS _) = Val.str (toS (40 :: (wr a ++ 44 :: (wr b ++ [41]))))
    congr 2
    simp
theorem run_addZ {a b : List Nat} {S : Store} {Q : Val → Store → Prop} (h : a.length + b.length ≤ 1000000) : Run (oAdd (.str (toS a)) (.str (toS b)) S) Q = Q (.str (toS (a ++ b))) S := by
  show Run (if (toS a).length + (toS b).length ≤ 16777216 then Res.ok (Val.str (toS a ++ toS b)) S else .stuck) Q = _
  rw [if_pos (by rw [toS_len, toS_len]; omega), toS_app]; rfl
theorem written_ok : ∀ (s : Sh) (n : Nat) (S : Store), s.tc ≤ 63 → s.dep < n → Run ((fns n)._law_written [shV s] S) (PureQ S (.str (toS (wr s))))
  | s, 0, S, _, h => absurd h (Nat.not_lt_zero _)
  | .zero, n + 1, S, _, _ => by
    show Run (fnOf 1 1 (b__law_written (fns n)) [.int 0] S) _
    refine run_fn (ρ := [some (.int 0)]) rfl rfl ?_
    unfold b__law_written
    rw [s_seq, q_if (v := true) (S1 := S) rfl, if_pos rfl, s_ret, w_op, w_lst, w_cons, w_c, w_cons, w_c, w_nil]
    refine ⟨by simp, ?_⟩
    rw [w_var rfl, run_ixR (get_new _ _), atI0]
    exact ⟨by rw [lits.2.2.2.1]; rfl, Gr.add _ _⟩
  | .one, n + 1, S, _, _ => by
    show Run (fnOf 1 1 (b__law_written (fns n)) [.int 1] S) _
    refine run_fn (ρ := [some (.int 1)]) rfl rfl ?_
    unfold b__law_written
    rw [s_seq, q_if (v := true) (S1 := S) rfl, if_pos rfl, s_ret, w_op, w_lst, w_cons, w_c, w_cons, w_c, w_nil]
    refine ⟨by simp, ?_⟩
    rw [w_var rfl, run_ixR (get_new _ _), atI1]
    exact ⟨by rw [lits.2.2.2.2]; rfl, Gr.add _ _⟩
  | .node a b, n + 1, S, ht, hd => by
    have ht : 1 + (a.tc + b.tc) ≤ 63 := ht
    have hd : 1 + max a.dep b.dep < n + 1 := hd
    have la := wr_len a
    have lb := wr_len b
    show Run (fnOf 1 1 (b__law_written (fns n)) [shV (.node a b)] S) _
    refine run_fn (ρ := [some (shV (.node a b))]) rfl rfl ?_
    unfold b__law_written
    rw [s_seq, q_if (v := false) (S1 := S) rfl, if_neg (by decide), s_next]
    have x0 : ∀ S', (dOp oIx (dVar 0) (dC (.int 0))) [some (shV (.node a b))] S' = .ok (shV a) S' := fun _ => rfl
    have x1 : ∀ S', (dOp oIx (dVar 0) (dC (.int 1))) [some (shV (.node a b))] S' = .ok (shV b) S' := fun _ => rfl
    rw [s_ret, w_op, w_op, w_op, w_op, w_c, w_call, w_cons, ok_run (x0 S), w_nil]
    refine Run.mono (written_ok a n S (by omega) (by omega)) fun r S1 ⟨e, g1⟩ => ?_
    subst e
    rw [lits.1, run_addZ (by simp; omega), w_c, lits.2.2.1, run_addZ (by simp; omega), w_call, w_cons, ok_run (x1 S1), w_nil]
    refine Run.mono (written_ok b n S1 (by omega) (by omega)) fun r S2 ⟨e, g2⟩ => ?_
    subst e
    rw [run_addZ (by simp; omega), w_c, lits.2.1, run_addZ (by simp; omega)]
    refine ⟨?_, g1.trans g2⟩
    show Val.str (toS _) = Val.str (toS (40 :: (wr a ++ 44 :: (wr b ++ [41]))))
    congr 2
    simp
/-! ### share_text -/
theorem sh_of : ∀ (k : Nat) (v : Val), isSh k v = true → ∃ s : Sh, v = shV s ∧ s.ok = true ∧ s.dep ≤ k
  | k, .int i, h => by
    rcases sh_int h with rfl | rfl
    · exact ⟨.zero, rfl, rfl, Nat.zero_le _⟩
    · exact ⟨.one, rfl, rfl, Nat.zero_le _⟩
  | k, .tup xs, h => by
    by_cases hl : xs.length = 2
    · obtain ⟨a, b, rfl⟩ := two_of hl
      cases k with
      | zero => simp [isSh] at h
      | succ k =>
        rw [isSh_pair, Bool.and_eq_true, Bool.and_eq_true] at h
        obtain ⟨x, rfl, hx, dx⟩ := sh_of k a h.1.1
        obtain ⟨y, rfl, hy, dy⟩ := sh_of k b h.1.2
        have hs := h.2
        rw [sameI_shV] at hs
        refine ⟨.node x y, rfl, ?_, ?_⟩
        · show (x.ok && (y.ok && (!(decide (x = .zero) && decide (y = .zero)) && !(decide (x = .one) && decide (y = .one))))) = true
          rw [hx, hy]
          simpa using hs
        · show 1 + max x.dep y.dep ≤ k + 1
          omega
    · rw [isSh_len hl] at h; cases h
  | k, .non, h => by cases k <;> cases h
  | k, .bl _, h => by cases k <;> cases h
  | k, .str _, h => by cases k <;> cases h
  | k, .ref _, h => by cases k <;> cases h
  | k, .ty _, h => by cases k <;> cases h
  | k, .kl _, h => by cases k <;> cases h
  | k, .ob _, h => by cases k <;> cases h
theorem shOk_of {v : Val} (h : shOk v = true) : ∃ s : Sh, v = shV s ∧ Shr s := by
  unfold shOk at h
  rw [Bool.and_eq_true] at h
  obtain ⟨s, rfl, h1, h2⟩ := sh_of 12 v h.1
  refine ⟨s, rfl, h1, h2, ?_⟩
  have := of_decide_eq_true h.2
  rw [tcount_shV] at this
  omega
theorem share_text_ok {s : Sh} {n : Nat} {S : Store} (hs : Shr s) (hn : 64 < n) : ∃ S', Kp S S' ∧ (fns n).share_text [shV s] S = .ok (.str (toS (wr s))) S' := by
  obtain ⟨n, rfl⟩ : ∃ m, n = m + 1 := ⟨n - 1, by omega⟩
  obtain ⟨S1, k1, e1⟩ := check_share_ok (n := n) (S := S) hs.da (by decide) (by omega)
  rw [shOk_shV hs, if_pos rfl] at e1
  refine ⟨S1, k1, ?_⟩
  show fnOf 1 1 (b_share_text (fns n)) [shV s] S = _
  refine q_fn (ρ := [some (shV s)]) rfl rfl ?_
  unfold b_share_text
  have hd := hs.dep
  rw [q_seq (q_drop ((q_call (q_one (x := shV s) (S1 := S) rfl)).trans e1)), q_ret ((q_call (q_one (x := shV s) (S1 := S1) rfl)).trans (text_of_ok s n S1 hs.tc (by omega)))]
theorem share_text_no {v : Val} {n : Nat} {S : Store} (hv : Da S 45 v) (h : shOk v = false) (hn : 64 < n) : ∃ S', Kp S S' ∧ (fns n).share_text [v] S = .exc ⟨1, []⟩ S' := by
  obtain ⟨n, rfl⟩ : ∃ m, n = m + 1 := ⟨n - 1, by omega⟩
  obtain ⟨S1, k1, e1⟩ := check_share_ok (n := n) (S := S) hv (by decide) (by omega)
  rw [h, if_neg (by decide)] at e1
  refine ⟨S1, k1, ?_⟩
  show fnOf 1 1 (b_share_text (fns n)) [v] S = _
  refine q_fn (ρ := [some v]) rfl rfl ?_
  unfold b_share_text
  rw [q_seqX (q_dropX ((q_call (q_one (x := v) (S1 := S) rfl)).trans e1))]
theorem refused_ok {v : Val} {n : Nat} {S : Store} (hv : Da S 45 v) (hn : 65 < n) : Run ((fns n)._law_refused [v] S) (PureK S (.str (if shOk v = true then "none" else "share"))) := by
  obtain ⟨n, rfl⟩ : ∃ m, n = m + 1 := ⟨n - 1, by omega⟩
  show Run (fnOf 1 2 (b__law_refused (fns n)) [v] S) _
  refine run_fn (ρ := [some v, none]) rfl rfl ?_
  unfold b__law_refused
  refine s_step (N' := fun ρ' S' => ρ' = [some v, some (.str "none")] ∧ S' = S) ⟨rfl, rfl⟩ ?_
  rintro ρ' S' ⟨rfl, rfl⟩
  cases h : shOk v with
  | true =>
    obtain ⟨s, rfl, hs⟩ := shOk_of h
    obtain ⟨S1, k1, e1⟩ := share_text_ok (n := n) (S := S') hs (by omega)
    refine s_step (N' := fun ρ' S2 => ρ' = [some (shV s), some (.str "none")] ∧ S2 = S1) ?_ ?_
    · unfold sTry
      rw [q_drop ((q_call (q_one (x := shV s) (S1 := S') rfl)).trans e1)]
      exact ⟨rfl, rfl⟩
    rintro ρ' S2 ⟨rfl, rfl⟩
    exact ⟨rfl, k1⟩
  | false =>
    obtain ⟨S1, k1, e1⟩ := share_text_no (n := n) (S := S') hv h (by omega)
    refine s_step (N' := fun ρ' S2 => ρ' = [some v, some (.str "share")] ∧ S2 = S1) ?_ ?_
    · unfold sTry
      rw [q_dropX ((q_call (q_one (x := v) (S1 := S') rfl)).trans e1)]
      exact ⟨rfl, rfl⟩
    rintro ρ' S2 ⟨rfl, rfl⟩
    exact ⟨rfl, k1⟩
/-! ### told -/
theorem q_tup {as : DA} {ρ : PD.Env} {S S1 : Store} {xs : List Val} (h : as ρ S = .ok xs S1) (hl : xs.length ≤ 16777216) : dTup as ρ S = .ok (.tup xs) S1 := by unfold dTup; rw [h]; show (if _ then _ else _) = _; rw [if_pos hl]
theorem q_tupX {as : DA} {ρ : PD.Env} {S S1 : Store} {e : Exn} (h : as ρ S = .exc e S1) : dTup as ρ S = .exc e S1 := by unfold dTup; rw [h]; rfl
theorem q_consX {f : D} {as : DA} {ρ : PD.Env} {S S1 S2 : Store} {x : Val} {e : Exn} (h : f ρ S = .ok x S1) (h2 : as ρ S1 = .exc e S2) : aCons f as ρ S = .exc e S2 := by unfold aCons; rw [h]; show (as ρ S1).bind _ = _; rw [h2]; rfl
theorem q_callK {F : Fn} {ρ : PD.Env} {S S1 : Store} {v : Val} {as : DA} (h : as ρ S = .ok [v] S1) : dCallK [0] 1 F as ρ S = F [v] S1 := by unfold dCallK; rw [h]; rfl
theorem told_body {v : Val} {n : Nat} {S S1 : Store} {r : Except Nat Sh} {N : PD.Env → Store → Prop} {R : Val → Store → Prop} (h : (fns n).share_told [v] S = match r with
    | .ok x => .ok (shV x) S1
    | .error i => .exc (bad i) S1) (q : ∀ x2, N [some v, some (resV r), x2] S1) : RunS (sTryE 3 mt (sSet 1 (dTup (aCons (dC .non) (aCons (dCallK [0] 1 (fns n).share_told (aCons (dVar 0) aNil)) aNil))))
    [(2, some 2, sErTup 1 [.inr "index", .inl .non]), (0, none, fun _ => (sSet 1 (dC (.str "other"))))] [some v, some (.str "other"), none] S) N R := by
  unfold sTryE
  cases r with
  | ok x =>
    rw [q_set (q_tup (xs := [.non, shV x]) (S1 := S1) (q_cons (x := .non) (S1 := S) rfl (q_one ((q_callK (q_one (x := v) (S1 := S) rfl)).trans h))) (Nat.le_of_ble_eq_true rfl))]
    exact q none
  | error i =>
    rw [q_setX (q_tupX (q_consX (x := .non) (S1 := S) rfl (q_oneX ((q_callK (q_one (x := v) (S1 := S) rfl)).trans h))))]
    have e : sHdsE 3 mt [(2, some 2, sErTup 1 [.inr "index", .inl .non]), (0, none, fun _ => (sSet 1 (dC (.str "other"))))] (bad i) [some v, some (.str "other"), none] S1 = .next [some v, some (.tup [.int i, .non]), none] S1 := rfl
    show RunS (sHdsE 3 mt _ (bad i) _ S1) N R
    rw [e]
    exact q none
theorem told_run {v : Val} {n : Nat} {S S1 : Store} {r : Except Nat Sh} (h : (fns n).share_told [v] S = match r with
    | .ok x => .ok (shV x) S1
    | .error i => .exc (bad i) S1) (k : Kp S S1) : Run ((fns (n + 1))._law_told [v] S) (PureK S (resV r)) := by
  show Run (fnOf 1 3 (b__law_told (fns n)) [v] S) _
  refine run_fn (ρ := [some v, none, none]) rfl rfl ?_
  unfold b__law_told
  refine s_step (N' := fun ρ' S' => ρ' = [some v, some (.str "other"), none] ∧ S' = S) ⟨rfl, rfl⟩ ?_
  rintro ρ' S' ⟨rfl, rfl⟩
  refine s_step (N' := fun ρ' S2 => ∃ x2, ρ' = [some v, some (resV r), x2] ∧ S2 = S1) (told_body h fun x2 => ⟨x2, rfl, rfl⟩) ?_
  rintro ρ' S2 ⟨x2, rfl, rfl⟩
  rw [s_ret, w_var rfl]
  exact ⟨rfl, k⟩
theorem l_told {z : Str} {n : Nat} {S : Store} (hz : Tx z) (hn : 25 < n) : Run ((fns n)._law_told [.str z] S) (PureK S (resV (rdAll z.cps.toList))) := by
  obtain ⟨n, rfl⟩ : ∃ m, n = m + 1 := ⟨n - 1, by omega⟩
  obtain ⟨S1, k1, e1⟩ := told_ok (S := S) (k := n) hz (by omega)
  exact told_run e1 k1
theorem l_told_no {v : Val} {T : String} {n : Nat} {S : Store} (hT : T ≠ "str") (hv : ∀ S', Kp S S' → tyN v S' = some T) (hn : 25 < n) : Run ((fns n)._law_told [v] S) (PureK S (resV (.error 0))) := by
  obtain ⟨n, rfl⟩ : ∃ m, n = m + 1 := ⟨n - 1, by omega⟩
  obtain ⟨S1, k1, e1⟩ := told_no (S := S) (k := n) hT hv (by omega)
  exact told_run (r := .error 0) e1 k1
/-- what is found and what is due -/
theorem sm_sh : ∀ {s : Sh} {d : Nat}, s.dep ≤ d → Sm d (shV s)
  | .zero, d, _ => .int _ _
  | .one, d, _ => .int _ _
  | .node l r, d, h => by
    have h : 1 + max l.dep r.dep ≤ d := h
    obtain ⟨d, rfl⟩ : ∃ e, d = e + 1 := ⟨d - 1, by omega⟩
    refine .tup (by simp) fun x hx => ?_
    rcases List.mem_cons.mp hx with rfl | hx
    · exact sm_sh (by omega)
    · rw [List.mem_singleton.mp hx]; exact sm_sh (by omega)
theorem sm_res {r : Except Nat Sh} (h : ∀ x, r = .ok x → x.dep ≤ 13) : Sm 14 (resV r) := by
  cases r with
  | ok x =>
    refine .tup (by simp) fun y hy => ?_
    rcases List.mem_cons.mp hy with rfl | hy
    · exact .non _
    · rw [List.mem_singleton.mp hy]; exact sm_sh (h x rfl)
  | error i =>
    refine .tup (by simp) fun y hy => ?_
    rcases List.mem_cons.mp hy with rfl | hy
    · exact .int _ _
    · rw [List.mem_singleton.mp hy]; exact .non _
theorem mac_dep : ∀ (l : List Nat) (a : Nat) (s : St) (x : Sh), Oks s → mac l a s = .ok x → x.dep ≤ 12
  | [], a, s, x, h, e => by
    obtain ⟨st, done, room⟩ := s
    cases st with
    | nil =>
      cases done with
      | none => cases e
      | some y =>
        cases e
        have := h.done x rfl
        exact Nat.le_trans (Nat.le_add_right _ _) this
    | cons f r => cases e
  | c :: l, a, s, x, h, e => by
    rw [mac_cons] at e
    cases hs : stp c s with
    | none => rw [hs] at e; cases e
    | some s' => rw [hs] at e; exact mac_dep l (a + 1) s' x (h.step hs) e
theorem rdAll_dep {l : List Nat} {x : Sh} (h : rdAll l = .ok x) : x.dep ≤ 13 := by
  rw [rdAll_mac] at h
  exact Nat.le_succ_of_le (mac_dep l 0 ⟨[], none, 63⟩ x ⟨Nat.zero_le _, trivial, fun x hx => (by cases hx)⟩ h)
end PD.K02

/-! ## K02R9 -/
set_option Elab.async false
set_option linter.all false
set_option maxRecDepth 100000
set_option maxHeartbeats 1000000
namespace PD.K02
open PySem PySem.Spec L2 PD LT
section
variable {c d : Nat} {S : Store}
theorem d_nil : ∀ x ∈ ([] : List Val), Dc c S d x := fun x hx => absurd hx List.not_mem_nil
theorem d_cons {a : Val} {as : List Val} (h : Dc c S d a) (r : ∀ x ∈ as, Dc c S d x) : ∀ x ∈ a :: as, Dc c S d x := fun x hx => by
  rcases List.mem_cons.mp hx with rfl | hx
  · exact h
  · exact r x hx
theorem d_app {as bs : List Val} (h : ∀ x ∈ as, Dc c S d x) (r : ∀ x ∈ bs, Dc c S d x) : ∀ x ∈ as ++ bs, Dc c S d x := fun x hx => by
  rcases List.mem_append.mp hx with hx | hx
  · exact h x hx
  · exact r x hx
theorem lay0 : (PyData.str ("0" : Str)).canLay0 = true := str_lay (one_lay open_is.2.2.2.2.1 (by decide))
theorem lay1 : (PyData.str ("1" : Str)).canLay0 = true := str_lay (one_lay open_is.2.2.2.2.2 (by decide))
theorem sh_dc : ∀ {s : Sh} {d : Nat}, s.dep ≤ d → Dc c S d (shV s)
  | .zero, d, _ => .int _ _
  | .one, d, _ => .int _ _
  | .node l r, d, h => by
    have h : 1 + max l.dep r.dep ≤ d := h
    obtain ⟨d, rfl⟩ : ∃ e, d = e + 1 := ⟨d - 1, by omega⟩
    exact .tup (d_cons (sh_dc (by omega)) (d_cons (sh_dc (by omega)) d_nil))
end
def BoI (c d len : Nat) (t : Val) (S0 : Store) (ρ : PD.Env) (S : Store) : Prop := ∃ m xs, ρ = [some (.ref c), some t, some (.bl false), none, some (.ref m)] ∧ m ≠ c ∧ S[m]? = some (.lst xs) ∧ xs.length = len ∧ (∀ x ∈ xs, Dc c S (d + 2) x) ∧ Cp c S0 S
section
variable {x y : Val}
theorem cut20 : cutL [x, y] none (some 0) = [] := rfl
theorem cut21 : cutL [x, y] none (some 1) = [x] := rfl
theorem cut2a : cutL [x, y] (some (0 + 1)) none = [y] := rfl
theorem cut2b : cutL [x, y] (some (1 + 1)) none = [] := rfl
end
theorem bent_join {c e : Nat} {pre post : List Val} {S S2 : Store} {r : Res Val} {d : Nat} (hr : Run r (fun r S' => Dc c S' (e + 2) r ∧ Cp c S2 S')) (cs : Cp c S S2) (h1 : pre.length ≤ 3) (h2 : post.length ≤ 3) (hp : ∀ S', ∀ x ∈ pre, Dc c S' (d + 2) x) (hq : ∀ S', ∀ x ∈ post, Dc c S' (d + 2) x) (he : e ≤ d) :
    Run r fun x S1 => Run (oAdd (.tup pre) (.tup [x]) S1) fun x2 S1 => Run (oAdd x2 (.tup post) S1) fun r S' => Dc c S' (d + 3) r ∧ Cp c S S' := by
  refine Run.mono hr fun x S3 ⟨hx, cs3⟩ => ?_
  rw [run_addT (by rw [List.length_singleton]; omega), run_addT (by rw [List.length_append, List.length_singleton]; omega)]
  exact ⟨.tup (d_app (d_app (hp S3) (d_cons (hx.up (by omega)) d_nil)) (hq S3)), cs.trans cs3⟩
theorem odd_tail {c n : Nat} {s : Sh} {S S1 : Store} (hn : 0 < n) (hd : s.dep ≤ 13) (cs : Cp c S S1) : RunS ((sSeq (sSet 4 (dLst (aCons (dC (.int 0)) (aCons (dC (.int 1)) (aCons (dC (.int 2)) (aCons (dUn oNeg (dC (.int 1))) (aCons (dC (.bl true)) (aCons (dC (.bl false)) (aCons (dC .non) (aCons (dC (.str "0")) (aCons (dTup aNil) (aCons (dTup (aCons (dC (.int 0)) (aCons (dC (.int 0)) aNil))) (aCons (dTup (aCons (dC (.int 1)) (aCons (dC (.int 1)) aNil))) (aCons (dTup (aCons (dC (.int 0)) (aCons (dC (.int 1)) aNil))) (aCons (dTup (aCons (dC (.int 1)) (aCons (dC (.int 0)) aNil))) (aCons (dTup (aCons (dC (.int 0)) (aCons (dC (.int 0)) (aCons (dC (.int 1)) aNil)))) (aCons (dTup (aCons (dC (.int 0)) (aCons (dC (.int 1)) (aCons (dC (.int 1)) aNil)))) (aCons (dTup (aCons (dC (.int 0)) (aCons (dC (.int 2)) (aCons (dC (.int 2)) aNil)))) aNil))))))))))))))))))
    (sSeq (sSet 4 (dOp oAdd (dVar 4) (dLst (aCons (dLst (aCons (dC (.int 0)) (aCons (dC (.int 1)) aNil))) (aCons (dLst (aCons (dC (.int 0)) (aCons (dC (.int 0)) (aCons (dC (.int 1)) aNil)))) (aCons (dTup (aCons (dVar 1) (aCons (dVar 1) aNil))) (aCons (dTup (aCons (dC (.int 0)) (aCons (dVar 1) (aCons (dVar 1) aNil)))) (aCons (dTup (aCons (dVar 1) aNil)) (aCons (dLst (aCons (dVar 1) aNil)) (aCons (dOp oPow (dC (.int 10)) (dC (.int 30))) (aCons (dTup (aCons (dC (.int 0)) (aCons (dC (.int 1)) (aCons (dC (.int 0)) (aCons (dC (.int 1)) aNil))))) aNil)))))))))))
    (sSeq (sSet 4 (dOp oAdd (dVar 4) (dLst (aCons (dTup (aCons (dC (.int 1)) (aCons (dC (.int 0)) (aCons (dTup (aCons (dC (.int 0)) (aCons (dC (.int 1)) aNil))) aNil)))) (aCons (dTup (aCons (dC (.bl true)) (aCons (dC (.int 0)) (aCons (dC (.int 1)) aNil)))) (aCons (dTup (aCons (dC (.int 0)) (aCons (dC (.bl true)) aNil))) (aCons (dTup (aCons (dC (.int 0)) (aCons (dTup (aCons (dC (.int 0)) (aCons (dC (.int 0)) aNil))) aNil))) (aCons (dC (.str "1")) aNil))))))))
    (sRet (dOp oIx (dVar 4) (dCall (fns n)._law_sip (aCons (dVar 0) (aCons (dC (.int 29)) aNil)))))))) [some (.ref c), some (shV s), some (.bl false), none, none] S1) (fun _ _ => False) (fun r S' => Dc c S' (s.dep + 2) r ∧ Cp c S S') := by
  have hp : ∀ {S : Store} {Q : Val → Store → Prop}, Run (oPow (.int 10) (.int 30) S) Q = Q (.int (10 ^ (30 : Int).toNat)) S := fun {S Q} => by
    show Run (if (0 : Int) ≤ 30 ∧ (30 : Int) ≤ 1000000 ∧ (10 : Int).natAbs < 2 ^ 64 then okI ((10 : Int) ^ (30 : Int).toNat) S else .stuck) Q = _
    rw [if_pos ⟨by decide, by decide, by decide⟩]; rfl
  refine s_step (N' := BoI c s.dep 16 (shV s) S) ?_ ?_
  · simp only [w_un, run_neg, run_ok, run_okI, run_okB, run_alloc, run_stuck, run_bind, run_ite, run_noX, run_fnOf, w_c, w_op, w_un, w_call, w_callK, w_nil, w_cons, w_tup, w_lst, isB_bl, w_tval, w_tand, w_tor, w_tnot, w_and, w_or, w_not, w_if, s_next, s_seq, s_if, s_ret, s_drop, s_set, s_par, s_put, s_asg, w_var', runS_next, runS_ret, runS_stuck, runS_ite, List.length_cons, List.length_nil, List.length_singleton, List.map_cons, List.map_nil, List.cons_append, List.nil_append, List.replicate_succ, List.replicate_zero, List.getElem?_cons_zero, List.getElem?_cons_succ, List.set_cons_zero, List.set_cons_succ, Nat.reduceAdd, Nat.reduceSub, Nat.reduceEqDiff, ite_true, ite_false, if_true, if_false, reduceIte, Bool.false_eq_true, decide_true, decide_false, String.reduceEq, Int.reduceEq, Nat.reduceLeDiff, true_and, and_true, Bool.not_true, Bool.not_false, decide_eq_true_eq, List.append_nil, bType, bIsi, bLen, bInt, ty_int, ty_bl, ty_str, ty_non, ty_tup, isT, oIs, oIsNot, run_eqI, run_neI, Bool.or_false, Bool.or_true, Bool.false_or, Bool.true_or, Bool.and_true, Bool.and_false, Bool.true_and, Bool.false_and, reduceCtorEq, decide_not, Bool.not_eq_true', decide_eq_false_iff_not, askInt, askBool, askTuple, askList, askStr, oLe, oLt, oGe, oGt, oInt2, atI0, atI1, atI2, run_addI, run_subI]
    refine ⟨_, _, rfl, Nat.ne_of_gt cs.1.lt, get_new _ _, rfl, ?_, cs.kp (Gr.add _ _).kp⟩
    generalize S1 ++ _ = T
    (repeat' first | exact Dc.int _ _ | exact Dc.bl _ _ | exact Dc.non _ | exact Dc.str _ _ lay0 | exact Dc.str _ _ lay1 | exact sh_dc (by omega) | exact d_nil | refine d_cons ?_ ?_ | refine Dc.tup ?_)
  rintro ρ S1 ⟨m, xs, rfl, hmc, hm, hlen, hxs, cs⟩
  refine s_step (N' := BoI c s.dep 24 (shV s) S) ?_ ?_
  · simp only [hp, run_ok, run_okI, run_okB, run_alloc, run_stuck, run_bind, run_ite, run_noX, run_fnOf, w_c, w_op, w_un, w_call, w_callK, w_nil, w_cons, w_tup, w_lst, isB_bl, w_tval, w_tand, w_tor, w_tnot, w_and, w_or, w_not, w_if, s_next, s_seq, s_if, s_ret, s_drop, s_set, s_par, s_put, s_asg, w_var', runS_next, runS_ret, runS_stuck, runS_ite, List.length_cons, List.length_nil, List.length_singleton, List.map_cons, List.map_nil, List.cons_append, List.nil_append, List.replicate_succ, List.replicate_zero, List.getElem?_cons_zero, List.getElem?_cons_succ, List.set_cons_zero, List.set_cons_succ, Nat.reduceAdd, Nat.reduceSub, Nat.reduceEqDiff, ite_true, ite_false, if_true, if_false, reduceIte, Bool.false_eq_true, decide_true, decide_false, String.reduceEq, Int.reduceEq, Nat.reduceLeDiff, true_and, and_true, Bool.not_true, Bool.not_false, decide_eq_true_eq, List.append_nil, bType, bIsi, bLen, bInt, ty_int, ty_bl, ty_str, ty_non, ty_tup, isT, oIs, oIsNot, run_eqI, run_neI, Bool.or_false, Bool.or_true, Bool.false_or, Bool.true_or, Bool.and_true, Bool.and_false, Bool.true_and, Bool.false_and, reduceCtorEq, decide_not, Bool.not_eq_true', decide_eq_false_iff_not, askInt, askBool, askTuple, askList, askStr, oLe, oLt, oGe, oGt, oInt2, atI0, atI1, atI2, run_addI, run_subI]
    have hlt := cs.1.lt
    have hA := (get_new S1 (.lst [.int 0, .int 1]))
    have hB := (get_new (S1 ++ [.lst [.int 0, .int 1]]) (.lst [.int 0, .int 0, .int 1]))
    have hC := (get_new (S1 ++ [.lst [.int 0, .int 1]] ++ [.lst [.int 0, .int 0, .int 1]]) (.lst [shV s]))
    have kA := (Gr.add S1 [.lst [.int 0, .int 1]])
    have kB := (Gr.add (S1 ++ [.lst [.int 0, .int 1]]) [.lst [.int 0, .int 0, .int 1]])
    have kC := (Gr.add (S1 ++ [.lst [.int 0, .int 1]] ++ [.lst [.int 0, .int 0, .int 1]]) [.lst [shV s]])
    have cA := cs.1.kp kA.kp
    have cB := cA.kp kB.kp
    have lA := cA.lt
    have lB := cB.lt
    generalize S1 ++ [.lst [.int 0, .int 1]] = A at *
    generalize A ++ [.lst [.int 0, .int 0, .int 1]] = B at *
    generalize B ++ [.lst [shV s]] = C at *
    have kC' := (kA.trans kB).trans kC
    rw [run_addL ((Gr.add _ _).get (kC'.get hm)) (get_new _ _) (by rw [hlen]; show 16 + 8 ≤ 16777216; decide)]
    have cC : PoolAt c C := cs.1.kp kC'.kp
    have k2 := fun (x y : Cell) => (Gr.add C [x]).trans (Gr.add _ [y])
    have cC2 := fun (x : Cell) => (cC.kp (Gr.add C [x]).kp).lt
    refine ⟨_, _, rfl, Nat.ne_of_gt (cC2 _), get_new _ _, by rw [List.length_append, hlen]; rfl, ?_, cs.kp (kC'.trans (k2 _ _)).kp⟩
    have gA := fun a b => ((kB.trans kC).trans (k2 a b)).get hA
    have gB := fun a b => (kC.trans (k2 a b)).get hB
    have gC := fun a b => (k2 a b).get hC
    refine d_app (fun x hx => (hxs x hx).kx (kC'.trans (k2 _ _)).kp.kx) ?_
    refine d_cons (.ref (by omega) (gA _ _) ?_) (d_cons (.ref (by omega) (gB _ _) ?_) (d_cons ?_ (d_cons ?_ (d_cons ?_ (d_cons (.ref (by omega) (gC _ _) ?_) (d_cons ?_ (d_cons ?_ d_nil)))))))
    all_goals (repeat' first | exact Dc.int _ _ | exact Dc.bl _ _ | exact Dc.non _ | exact Dc.str _ _ lay0 | exact Dc.str _ _ lay1 | exact sh_dc (by omega) | exact d_nil | refine d_cons ?_ ?_ | refine Dc.tup ?_)
  clear cs hmc hm hlen hxs
  rintro ρ S1 ⟨m, xs, rfl, hmc, hm, hlen, hxs, cs⟩
  refine s_step (N' := BoI c s.dep 29 (shV s) S) ?_ ?_
  · simp only [run_ok, run_okI, run_okB, run_alloc, run_stuck, run_bind, run_ite, run_noX, run_fnOf, w_c, w_op, w_un, w_call, w_callK, w_nil, w_cons, w_tup, w_lst, isB_bl, w_tval, w_tand, w_tor, w_tnot, w_and, w_or, w_not, w_if, s_next, s_seq, s_if, s_ret, s_drop, s_set, s_par, s_put, s_asg, w_var', runS_next, runS_ret, runS_stuck, runS_ite, List.length_cons, List.length_nil, List.length_singleton, List.map_cons, List.map_nil, List.cons_append, List.nil_append, List.replicate_succ, List.replicate_zero, List.getElem?_cons_zero, List.getElem?_cons_succ, List.set_cons_zero, List.set_cons_succ, Nat.reduceAdd, Nat.reduceSub, Nat.reduceEqDiff, ite_true, ite_false, if_true, if_false, reduceIte, Bool.false_eq_true, decide_true, decide_false, String.reduceEq, Int.reduceEq, Nat.reduceLeDiff, true_and, and_true, Bool.not_true, Bool.not_false, decide_eq_true_eq, List.append_nil, bType, bIsi, bLen, bInt, ty_int, ty_bl, ty_str, ty_non, ty_tup, isT, oIs, oIsNot, run_eqI, run_neI, Bool.or_false, Bool.or_true, Bool.false_or, Bool.true_or, Bool.and_true, Bool.and_false, Bool.true_and, Bool.false_and, reduceCtorEq, decide_not, Bool.not_eq_true', decide_eq_false_iff_not, askInt, askBool, askTuple, askList, askStr, oLe, oLt, oGe, oGt, oInt2, atI0, atI1, atI2, run_addI, run_subI]
    rw [run_addL ((Gr.add _ _).get hm) (get_new _ _) (by rw [hlen]; decide)]
    refine ⟨_, _, rfl, Nat.ne_of_gt (cs.1.kp (Gr.add _ _).kp).lt, get_new _ _, by rw [List.length_append, hlen]; rfl, ?_, (cs.kp (Gr.add _ _).kp).kp (Gr.add _ _).kp⟩
    refine d_app (fun x hx => (hxs x hx).kx (Kp.trans (Gr.add _ _).kp (Gr.add _ _).kp).kx) ?_
    generalize (S1 ++ _) ++ _ = T
    (repeat' first | exact Dc.int _ _ | exact Dc.bl _ _ | exact Dc.non _ | exact Dc.str _ _ lay0 | exact Dc.str _ _ lay1 | exact sh_dc (by omega) | exact d_nil | refine d_cons ?_ ?_ | refine Dc.tup ?_)
  clear cs hmc hm hlen hxs
  rintro ρ S1 ⟨m, xs, rfl, hmc, hm, hlen, hxs, cs⟩
  simp only [run_ok, run_okI, run_okB, run_alloc, run_stuck, run_bind, run_ite, run_noX, run_fnOf, w_c, w_op, w_un, w_call, w_callK, w_nil, w_cons, w_tup, w_lst, isB_bl, w_tval, w_tand, w_tor, w_tnot, w_and, w_or, w_not, w_if, s_next, s_seq, s_if, s_ret, s_drop, s_set, s_par, s_put, s_asg, w_var', runS_next, runS_ret, runS_stuck, runS_ite, List.length_cons, List.length_nil, List.length_singleton, List.map_cons, List.map_nil, List.cons_append, List.nil_append, List.replicate_succ, List.replicate_zero, List.getElem?_cons_zero, List.getElem?_cons_succ, List.set_cons_zero, List.set_cons_succ, Nat.reduceAdd, Nat.reduceSub, Nat.reduceEqDiff, ite_true, ite_false, if_true, if_false, reduceIte, Bool.false_eq_true, decide_true, decide_false, String.reduceEq, Int.reduceEq, Nat.reduceLeDiff, true_and, and_true, Bool.not_true, Bool.not_false, decide_eq_true_eq, List.append_nil, bType, bIsi, bLen, bInt, ty_int, ty_bl, ty_str, ty_non, ty_tup, isT, oIs, oIsNot, run_eqI, run_neI, Bool.or_false, Bool.or_true, Bool.false_or, Bool.true_or, Bool.and_true, Bool.and_false, Bool.true_and, Bool.false_and, reduceCtorEq, decide_not, Bool.not_eq_true', decide_eq_false_iff_not, askInt, askBool, askTuple, askList, askStr, oLe, oLt, oGe, oGt, oInt2, atI0, atI1, atI2, run_addI, run_subI]
  refine Run.mono (l_pick cs.1 (by decide) (by decide) hn) fun x S3 ⟨⟨i, e, g0, g1⟩, cs3⟩ => ?_
  subst e
  refine Run.mono (run_pick (Dc c S3 (s.dep + 2)) (S := S3) (xs := xs) (cs3.2 _ _ hmc hm) g0 (by omega) fun x hx => (hxs x hx).kx cs3.2) fun x S4 ⟨hx, e⟩ => ?_
  subst e
  exact ⟨hx, cs.trans cs3⟩
theorem l_bentS : ∀ (s : Sh) (n c : Nat) (S : Store), PoolAt c S → s.dep ≤ 13 → s.dep + 1 < n → Run ((fns n)._law_bent [.ref c, shV s, .bl false] S) (fun r S' => Dc c S' (s.dep + 2) r ∧ Cp c S S')
  | s, 0, c, S, _, _, h => absurd h (Nat.not_lt_zero _)
  | .zero, n + 1, c, S, hc, hd, h => by
    show Run (fnOf 3 5 (b__law_bent (fns n)) [.ref c, .int 0, .bl false] S) _
    unfold b__law_bent
    refine run_fn rfl rfl ?_
    refine s_step (N' := fun ρ S' => ρ = [some (.ref c), some (shV .zero), some (.bl false), none, none] ∧ S' = S) ?_ ?_
    · simp only [run_ok, run_okI, run_okB, run_alloc, run_stuck, run_bind, run_ite, run_noX, run_fnOf, w_c, w_op, w_un, w_call, w_callK, w_nil, w_cons, w_tup, w_lst, isB_bl, w_tval, w_tand, w_tor, w_tnot, w_and, w_or, w_not, w_if, s_next, s_seq, s_if, s_ret, s_drop, s_set, s_par, s_put, s_asg, w_var', runS_next, runS_ret, runS_stuck, runS_ite, List.length_cons, List.length_nil, List.length_singleton, List.map_cons, List.map_nil, List.cons_append, List.nil_append, List.replicate_succ, List.replicate_zero, List.getElem?_cons_zero, List.getElem?_cons_succ, List.set_cons_zero, List.set_cons_succ, Nat.reduceAdd, Nat.reduceSub, Nat.reduceEqDiff, ite_true, ite_false, if_true, if_false, reduceIte, Bool.false_eq_true, decide_true, decide_false, String.reduceEq, Int.reduceEq, Nat.reduceLeDiff, true_and, and_true, Bool.not_true, Bool.not_false, decide_eq_true_eq, List.append_nil, bType, bIsi, bLen, bInt, ty_int, ty_bl, ty_str, ty_non, ty_tup, isT, oIs, oIsNot, run_eqI, run_neI, Bool.or_false, Bool.or_true, Bool.false_or, Bool.true_or, Bool.and_true, Bool.and_false, Bool.true_and, Bool.false_and, reduceCtorEq, decide_not, Bool.not_eq_true', decide_eq_false_iff_not, askInt, askBool, askTuple, askList, askStr, oLe, oLt, oGe, oGt, oInt2, atI0, atI1, atI2, run_addI, run_subI]; exact rfl
    rintro ρ S1 ⟨rfl, rfl⟩
    exact RunS.mono (odd_tail (by have : 0 + 1 < n + 1 := h; omega) hd (.refl hc)) (fun _ _ z => z.elim) fun _ _ z => z
  | .one, n + 1, c, S, hc, hd, h => by
    show Run (fnOf 3 5 (b__law_bent (fns n)) [.ref c, .int 1, .bl false] S) _
    unfold b__law_bent
    refine run_fn rfl rfl ?_
    refine s_step (N' := fun ρ S' => ρ = [some (.ref c), some (shV .one), some (.bl false), none, none] ∧ S' = S) ?_ ?_
    · simp only [run_ok, run_okI, run_okB, run_alloc, run_stuck, run_bind, run_ite, run_noX, run_fnOf, w_c, w_op, w_un, w_call, w_callK, w_nil, w_cons, w_tup, w_lst, isB_bl, w_tval, w_tand, w_tor, w_tnot, w_and, w_or, w_not, w_if, s_next, s_seq, s_if, s_ret, s_drop, s_set, s_par, s_put, s_asg, w_var', runS_next, runS_ret, runS_stuck, runS_ite, List.length_cons, List.length_nil, List.length_singleton, List.map_cons, List.map_nil, List.cons_append, List.nil_append, List.replicate_succ, List.replicate_zero, List.getElem?_cons_zero, List.getElem?_cons_succ, List.set_cons_zero, List.set_cons_succ, Nat.reduceAdd, Nat.reduceSub, Nat.reduceEqDiff, ite_true, ite_false, if_true, if_false, reduceIte, Bool.false_eq_true, decide_true, decide_false, String.reduceEq, Int.reduceEq, Nat.reduceLeDiff, true_and, and_true, Bool.not_true, Bool.not_false, decide_eq_true_eq, List.append_nil, bType, bIsi, bLen, bInt, ty_int, ty_bl, ty_str, ty_non, ty_tup, isT, oIs, oIsNot, run_eqI, run_neI, Bool.or_false, Bool.or_true, Bool.false_or, Bool.true_or, Bool.and_true, Bool.and_false, Bool.true_and, Bool.false_and, reduceCtorEq, decide_not, Bool.not_eq_true', decide_eq_false_iff_not, askInt, askBool, askTuple, askList, askStr, oLe, oLt, oGe, oGt, oInt2, atI0, atI1, atI2, run_addI, run_subI]; exact rfl
    rintro ρ S1 ⟨rfl, rfl⟩
    exact RunS.mono (odd_tail (by have : 0 + 1 < n + 1 := h; omega) hd (.refl hc)) (fun _ _ z => z.elim) fun _ _ z => z
  | .node x y, n + 1, c, S, hc, hd, h => by
    have hd' : 1 + max x.dep y.dep ≤ 13 := hd
    have h' : 1 + max x.dep y.dep + 1 < n + 1 := h
    show Run (fnOf 3 5 (b__law_bent (fns n)) [.ref c, .tup [shV x, shV y], .bl false] S) _
    unfold b__law_bent
    refine run_fn rfl rfl ?_
    refine s_step (N' := fun ρ S' => ρ = [some (.ref c), some (shV (.node x y)), some (.bl false), none, none] ∧ Cp c S S') ?_ ?_
    · have ed : (Sh.node x y).dep + 2 = max x.dep y.dep + 3 := by show 1 + max x.dep y.dep + 2 = _; omega
      rw [ed]
      simp only [run_ok, run_okI, run_okB, run_alloc, run_stuck, run_bind, run_ite, run_noX, run_fnOf, w_c, w_op, w_un, w_call, w_callK, w_nil, w_cons, w_tup, w_lst, isB_bl, w_tval, w_tand, w_tor, w_tnot, w_and, w_or, w_not, w_if, s_next, s_seq, s_if, s_ret, s_drop, s_set, s_par, s_put, s_asg, w_var', runS_next, runS_ret, runS_stuck, runS_ite, List.length_cons, List.length_nil, List.length_singleton, List.map_cons, List.map_nil, List.cons_append, List.nil_append, List.replicate_succ, List.replicate_zero, List.getElem?_cons_zero, List.getElem?_cons_succ, List.set_cons_zero, List.set_cons_succ, Nat.reduceAdd, Nat.reduceSub, Nat.reduceEqDiff, ite_true, ite_false, if_true, if_false, reduceIte, Bool.false_eq_true, decide_true, decide_false, String.reduceEq, Int.reduceEq, Nat.reduceLeDiff, true_and, and_true, Bool.not_true, Bool.not_false, decide_eq_true_eq, List.append_nil, bType, bIsi, bLen, bInt, ty_int, ty_bl, ty_str, ty_non, ty_tup, isT, oIs, oIsNot, run_eqI, run_neI, Bool.or_false, Bool.or_true, Bool.false_or, Bool.true_or, Bool.and_true, Bool.and_false, Bool.true_and, Bool.false_and, reduceCtorEq, decide_not, Bool.not_eq_true', decide_eq_false_iff_not, askInt, askBool, askTuple, askList, askStr, oLe, oLt, oGe, oGt, oInt2, atI0, atI1, atI2, run_addI, run_subI]
      refine Run.mono (l_pick hc (by decide) (by decide) (by omega)) fun z S1 ⟨⟨i, e, g0, g1⟩, cs1⟩ => ?_
      subst e
      simp only [run_ok, run_okI, run_okB, run_alloc, run_stuck, run_bind, run_ite, run_noX, run_fnOf, w_c, w_op, w_un, w_call, w_callK, w_nil, w_cons, w_tup, w_lst, isB_bl, w_tval, w_tand, w_tor, w_tnot, w_and, w_or, w_not, w_if, s_next, s_seq, s_if, s_ret, s_drop, s_set, s_par, s_put, s_asg, w_var', runS_next, runS_ret, runS_stuck, runS_ite, List.length_cons, List.length_nil, List.length_singleton, List.map_cons, List.map_nil, List.cons_append, List.nil_append, List.replicate_succ, List.replicate_zero, List.getElem?_cons_zero, List.getElem?_cons_succ, List.set_cons_zero, List.set_cons_succ, Nat.reduceAdd, Nat.reduceSub, Nat.reduceEqDiff, ite_true, ite_false, if_true, if_false, reduceIte, Bool.false_eq_true, decide_true, decide_false, String.reduceEq, Int.reduceEq, Nat.reduceLeDiff, true_and, and_true, Bool.not_true, Bool.not_false, decide_eq_true_eq, List.append_nil, bType, bIsi, bLen, bInt, ty_int, ty_bl, ty_str, ty_non, ty_tup, isT, oIs, oIsNot, run_eqI, run_neI, Bool.or_false, Bool.or_true, Bool.false_or, Bool.true_or, Bool.and_true, Bool.and_false, Bool.true_and, Bool.false_and, reduceCtorEq, decide_not, Bool.not_eq_true', decide_eq_false_iff_not, askInt, askBool, askTuple, askList, askStr, oLe, oLt, oGe, oGt, oInt2, atI0, atI1, atI2, run_addI, run_subI]
      split
      · refine Run.mono (l_pick cs1.1 (by decide) (by decide) (by omega)) fun z S2 ⟨⟨i, e, g0, g1⟩, cs2⟩ => ?_
        subst e
        have cs := cs1.trans cs2
        rcases (by omega : i = 0 ∨ i = 1) with rfl | rfl
        · simp only [w_sl, w_oNone, w_oSome, run_slT, ix0, ix1, cut20, cut21, cut2a, cut2b, run_ok, run_okI, run_okB, run_alloc, run_stuck, run_bind, run_ite, run_noX, run_fnOf, w_c, w_op, w_un, w_call, w_callK, w_nil, w_cons, w_tup, w_lst, isB_bl, w_tval, w_tand, w_tor, w_tnot, w_and, w_or, w_not, w_if, s_next, s_seq, s_if, s_ret, s_drop, s_set, s_par, s_put, s_asg, w_var', runS_next, runS_ret, runS_stuck, runS_ite, List.length_cons, List.length_nil, List.length_singleton, List.map_cons, List.map_nil, List.cons_append, List.nil_append, List.replicate_succ, List.replicate_zero, List.getElem?_cons_zero, List.getElem?_cons_succ, List.set_cons_zero, List.set_cons_succ, Nat.reduceAdd, Nat.reduceSub, Nat.reduceEqDiff, ite_true, ite_false, if_true, if_false, reduceIte, Bool.false_eq_true, decide_true, decide_false, String.reduceEq, Int.reduceEq, Nat.reduceLeDiff, true_and, and_true, Bool.not_true, Bool.not_false, decide_eq_true_eq, List.append_nil, bType, bIsi, bLen, bInt, ty_int, ty_bl, ty_str, ty_non, ty_tup, isT, oIs, oIsNot, run_eqI, run_neI, Bool.or_false, Bool.or_true, Bool.false_or, Bool.true_or, Bool.and_true, Bool.and_false, Bool.true_and, Bool.false_and, reduceCtorEq, decide_not, Bool.not_eq_true', decide_eq_false_iff_not, askInt, askBool, askTuple, askList, askStr, oLe, oLt, oGe, oGt, oInt2, atI0, atI1, atI2, run_addI, run_subI]
          exact bent_join (pre := []) (post := [shV y]) (l_bentS x n c S2 cs.1 (by omega) (by omega)) cs (Nat.le_of_ble_eq_true rfl) (Nat.le_of_ble_eq_true rfl) (fun S' => d_nil) (fun S' => d_cons (sh_dc (by omega)) d_nil) (by omega)
        · simp only [w_sl, w_oNone, w_oSome, run_slT, ix0, ix1, cut20, cut21, cut2a, cut2b, run_ok, run_okI, run_okB, run_alloc, run_stuck, run_bind, run_ite, run_noX, run_fnOf, w_c, w_op, w_un, w_call, w_callK, w_nil, w_cons, w_tup, w_lst, isB_bl, w_tval, w_tand, w_tor, w_tnot, w_and, w_or, w_not, w_if, s_next, s_seq, s_if, s_ret, s_drop, s_set, s_par, s_put, s_asg, w_var', runS_next, runS_ret, runS_stuck, runS_ite, List.length_cons, List.length_nil, List.length_singleton, List.map_cons, List.map_nil, List.cons_append, List.nil_append, List.replicate_succ, List.replicate_zero, List.getElem?_cons_zero, List.getElem?_cons_succ, List.set_cons_zero, List.set_cons_succ, Nat.reduceAdd, Nat.reduceSub, Nat.reduceEqDiff, ite_true, ite_false, if_true, if_false, reduceIte, Bool.false_eq_true, decide_true, decide_false, String.reduceEq, Int.reduceEq, Nat.reduceLeDiff, true_and, and_true, Bool.not_true, Bool.not_false, decide_eq_true_eq, List.append_nil, bType, bIsi, bLen, bInt, ty_int, ty_bl, ty_str, ty_non, ty_tup, isT, oIs, oIsNot, run_eqI, run_neI, Bool.or_false, Bool.or_true, Bool.false_or, Bool.true_or, Bool.and_true, Bool.and_false, Bool.true_and, Bool.false_and, reduceCtorEq, decide_not, Bool.not_eq_true', decide_eq_false_iff_not, askInt, askBool, askTuple, askList, askStr, oLe, oLt, oGe, oGt, oInt2, atI0, atI1, atI2, run_addI, run_subI]
          exact bent_join (pre := [shV x]) (post := []) (l_bentS y n c S2 cs.1 (by omega) (by omega)) cs (Nat.le_of_ble_eq_true rfl) (Nat.le_of_ble_eq_true rfl) (fun S' => d_cons (sh_dc (by omega)) d_nil) (fun S' => d_nil) (by omega)
      · exact ⟨rfl, cs1⟩
    rintro ρ S1 ⟨rfl, cs⟩
    exact RunS.mono (odd_tail (by omega) hd cs) (fun _ _ z => z.elim) fun _ _ z => z
end PD.K02

/-! ## K02S1 -/
set_option Elab.async false
set_option linter.all false
set_option maxRecDepth 100000
set_option maxHeartbeats 1000000
namespace PD.K02
open PySem PySem.Spec L2 PD LT
/-! ### texts spoilt -/
def Tl (n : Nat) (l : List Nat) : Prop := l.length ≤ n ∧ ∀ c ∈ l, c < 128
theorem Tl.tx {n : Nat} {l : List Nat} (h : Tl n l) (hn : n ≤ 1000000) : Tx (toS l) := toS_tx (Nat.le_trans h.1 hn) h.2
theorem Tl.up {n m : Nat} {l : List Nat} (h : Tl n l) (k : n ≤ m) : Tl m l := ⟨Nat.le_trans h.1 k, h.2⟩
theorem Tl.app {n m : Nat} {a b : List Nat} (h : Tl n a) (k : Tl m b) : Tl (n + m) (a ++ b) := ⟨by rw [List.length_append]; have := h.1; have := k.1; omega, fun c hc => by
  rcases List.mem_append.mp hc with hc | hc
  · exact h.2 c hc
  · exact k.2 c hc⟩
theorem Tl.take {n i : Nat} {l : List Nat} (h : Tl n l) : Tl n (l.take i) := ⟨by rw [List.length_take]; have := h.1; omega, fun c hc => h.2 c (List.mem_of_mem_take hc)⟩
theorem Tl.drop {n i : Nat} {l : List Nat} (h : Tl n l) : Tl n (l.drop i) := ⟨by rw [List.length_drop]; have := h.1; omega, fun c hc => h.2 c (List.mem_of_mem_drop hc)⟩
theorem cut_to {l : List Nat} {i : Nat} : cutS (toS l) none (some (i : Int)) = toS (l.take i) := by
  unfold cutS
  rw [HT.sIx_none, HT.sIx_nat, toS_len, toS_list, List.drop_zero, Nat.sub_zero]
  show toS (l.take (min i l.length)) = toS (l.take i)
  congr 1
  rcases Nat.le_total i l.length with h | h
  · rw [Nat.min_eq_left h]
  · rw [Nat.min_eq_right h, List.take_of_length_le (Nat.le_refl _), List.take_of_length_le h]
theorem cut_from {l : List Nat} {i : Nat} : cutS (toS l) (some (i : Int)) none = toS (l.drop i) := by
  unfold cutS
  rw [HT.sIx_none, HT.sIx_nat, toS_len, toS_list]
  show toS ((l.drop (min i l.length)).take (l.length - min i l.length)) = toS (l.drop i)
  congr 1
  rcases Nat.le_total i l.length with h | h
  · rw [Nat.min_eq_left h, List.take_of_length_le (by rw [List.length_drop]; exact Nat.le_refl _)]
  · rw [Nat.min_eq_right h, List.drop_eq_nil_of_le h, Nat.sub_self]; rfl
section
variable {l : List Nat} {i : Nat} {ρ : PD.Env} {S : Store} {a b : Nat} {Q : Val → Store → Prop}
theorem run_to (ha : ρ[a]? = some (some (.str (toS l)))) (hb : ρ[b]? = some (some (.int i))) (hl : l.length ≤ 1000000) : dSl (dVar a) oNone (oSome (dVar b)) ρ S = .ok (.str (toS (l.take i))) S := by
  rw [q_sl (x := .str (toS l)) (S1 := S) (lo := none) (S2 := S) (hi := some (i : Int)) (S3 := S) (by unfold dVar; rw [ha]) rfl (q_some (by unfold dVar; rw [hb]))]
  show (if (toS l).length ≤ 16777216 then Res.ok (Val.str (cutS (toS l) none (some (i : Int)))) S else .stuck) = _
  rw [if_pos (by rw [toS_len]; omega), cut_to]
theorem run_from (ha : ρ[a]? = some (some (.str (toS l)))) (hb : ρ[b]? = some (some (.int i))) (hl : l.length ≤ 1000000) : dSl (dVar a) (oSome (dVar b)) oNone ρ S = .ok (.str (toS (l.drop i))) S := by
  rw [q_sl (x := .str (toS l)) (S1 := S) (lo := some (i : Int)) (S2 := S) (hi := none) (S3 := S) (by unfold dVar; rw [ha]) (q_some (by unfold dVar; rw [hb])) rfl]
  show (if (toS l).length ≤ 16777216 then Res.ok (Val.str (cutS (toS l) (some (i : Int)) none)) S else .stuck) = _
  rw [if_pos (by rw [toS_len]; omega), cut_from]
theorem run_from1 (ha : ρ[a]? = some (some (.str (toS l)))) (hb : ρ[b]? = some (some (.int i))) (hl : l.length ≤ 1000000) : dSl (dVar a) (oSome (dOp oAdd (dVar b) (dC (.int 1)))) oNone ρ S = .ok (.str (toS (l.drop (i + 1)))) S := by
  rw [q_sl (x := .str (toS l)) (S1 := S) (lo := some ((i + 1 : Nat) : Int)) (S2 := S) (hi := none) (S3 := S) (by unfold dVar; rw [ha]) (q_some (by rw [q_op (x := .int i) (S1 := S) (y := .int 1) (S2 := S) (by unfold dVar; rw [hb]) rfl]; rfl)) rfl]
  show (if (toS l).length ≤ 16777216 then Res.ok (Val.str (cutS (toS l) (some ((i + 1 : Nat) : Int)) none)) S else .stuck) = _
  rw [if_pos (by rw [toS_len]; omega), cut_from]
theorem q_add {f g : D} {x y : List Nat} (h1 : f ρ S = .ok (.str (toS x)) S) (h2 : g ρ S = .ok (.str (toS y)) S) (h : x.length + y.length ≤ 1000000) : dOp oAdd f g ρ S = .ok (.str (toS (x ++ y))) S := by
  rw [q_op h1 h2]
  exact run_ok_of (by rw [run_addZ h]; exact ⟨rfl, rfl⟩)
theorem q_var {v : Val} (ha : ρ[a]? = some (some v)) : dVar a ρ S = .ok v S := by unfold dVar; rw [ha]
end
def signsL : List Nat := [48, 49, 40, 41, 44, 50, 32, 57, 45, 43, 59, 91, 93, 10, 9, 95, 120]
theorem signs_is : (("01(),2 9-+;[]\n\t_x" : Str)) = toS signsL := by decide +kernel
theorem sign_at {k : Int} (h0 : 0 ≤ k) (h1 : k < 17) {S : Store} : ∃ c, c < 128 ∧ oIx (.str ("01(),2 9-+;[]\n\t_x" : Str)) (.int k) S = .ok (.str (toS [c])) S := by
  obtain ⟨j, rfl⟩ : ∃ j : Nat, k = (j : Int) := ⟨k.toNat, by omega⟩
  have hj : j < signsL.length := by show j < 17; omega
  refine ⟨signsL[j], ?_, ?_⟩
  · have : ∀ c ∈ signsL, c < 128 := by decide
    exact this _ (List.getElem_mem hj)
  · rw [signs_is]
    show (match L2.atI (toS signsL).cps.toList (j : Int) with
      | some c => if (toS signsL).length ≤ 16777216 then Res.ok (Val.str ⟨#[c]⟩) S else .stuck
      | none => .stuck) = _
    rw [toS_list, atI_nat (List.getElem?_eq_getElem hj)]
    show (if (toS signsL).length ≤ 16777216 then Res.ok (Val.str ⟨#[signsL[j]]⟩) S else .stuck) = _
    rw [if_pos (by rw [toS_len]; exact Nat.le_of_ble_eq_true rfl)]
    rfl
def SpI (c m : Nat) (S0 : Store) (j : Nat) (ρ : PD.Env) (S : Store) : Prop := ∃ (l : List Nat) (x2 x3 x4 x5 : Option Val), ρ = [some (.ref c), some (.str (toS l)), x2, x3, x4, x5] ∧ Tl (m + j) l ∧ Cp c S0 S
theorem l_spoilt {c n m : Nat} {l : List Nat} {S : Store} (hc : PoolAt c S) (hl : Tl m l) (hm : m ≤ 1000) (hn : 1 < n) : Run ((fns n)._law_spoilt [.ref c, .str (toS l)] S) (fun r S' => (∃ l', r = .str (toS l') ∧ Tl (m + 2) l') ∧ Cp c S S') := by
  obtain ⟨n, rfl⟩ : ∃ k, n = k + 1 := ⟨n - 1, by omega⟩
  show Run (fnOf 2 6 (b__law_spoilt (fns n)) [.ref c, .str (toS l)] S) _
  unfold b__law_spoilt
  refine run_fn (ρ := [some (.ref c), some (.str (toS l)), none, none, none, none]) rfl rfl ?_
  refine s_step (N' := fun ρ' S' => ∃ (l' : List Nat) (x2 x3 x4 x5 : Option Val), ρ' = [some (.ref c), some (.str (toS l')), x2, x3, x4, x5] ∧ Tl (m + 2) l' ∧ Cp c S S') ?_ ?_
  · rw [s_forR, w_cons, w_op, w_c, w_call, w_cons, w_var rfl, w_cons, w_c, w_nil]
    refine Run.mono (l_pick hc (by decide) (by decide) (by omega)) fun r S1 ⟨⟨i, e, g0, g1⟩, cs⟩ => ?_
    subst e
    rw [run_addI, w_nil]
    show (if -(2 ^ 62) ≤ (1 : Int) + i ∧ (1 : Int) + i < 2 ^ 62 then RunS _ _ _ else False)
    rw [if_pos ⟨by omega, by omega⟩]
    have hcount : ((1 : Int) + i).toNat ≤ 2 := by omega
    refine RunS.mono (runS_loopV 2 (SpI c m S) ?_ (rangeV 0 ((1 : Int) + i).toNat) 0 _ S1 (by rw [rangeV_len]; omega) ⟨l, _, _, _, _, rfl, hl, cs⟩) (fun ρ S2 h => ?_) fun v S2 h => h
    · rintro j x ρ S2 hj ⟨l, x2, x3, x4, x5, rfl, hl, cs⟩
      refine ⟨_, rfl, ?_⟩
      have hlen : l.length ≤ 1002 := by have := hl.1; omega
      -- where, which sign
      refine s_step (N' := fun ρ' S' => ∃ (at' : Nat) (sg' : Nat), at' ≤ l.length ∧ sg' < 128 ∧ ρ' = [some (.ref c), some (.str (toS l)), some x, some (.int at'), some (.str (toS [sg'])), x5] ∧ Cp c S S') ?_ ?_
      · rw [s_par, w_cons, w_call, w_cons, w_var rfl, w_cons, w_op, w_call, w_cons, w_var rfl, w_nil]
        have hz : Tx (toS l) := hl.tx (by omega)
        rw [run_lenZ hz, w_c, run_addI, w_nil, toS_len]
        refine Run.mono (l_pick cs.1 (by omega) (by omega) (by omega)) fun r S3 ⟨⟨i, e, g0, g1⟩, cs3⟩ => ?_
        subst e
        rw [w_cons, w_op, w_c, w_call, w_cons, w_var rfl, w_cons, w_c, w_nil]
        refine Run.mono (l_pick cs3.1 (by decide) (by decide) (by omega)) fun r S4 ⟨⟨k, e, q0, q1⟩, cs4⟩ => ?_
        subst e
        obtain ⟨ch, hch, e⟩ := sign_at q0 (by omega) (S := S4)
        rw [ok_run e, w_nil]
        refine ⟨i.toNat, ch, by omega, hch, ?_, (cs.trans cs3).trans cs4⟩
        show [_, _, _, some (Val.int i), _, _] = [_, _, _, some (Val.int (i.toNat : Int)), _, _]
        rw [Int.toNat_of_nonneg g0]
      rintro ρ' S3 ⟨at', ch, hat, hch, rfl, cs3⟩
      refine s_step (N' := fun ρ' S' => ∃ k : Int, ρ' = [some (.ref c), some (.str (toS l)), some x, some (.int at'), some (.str (toS [ch])), some (.int k)] ∧ Cp c S S') ?_ ?_
      · rw [s_set, w_call, w_cons, w_var rfl, w_cons, w_c, w_nil]
        refine Run.mono (l_pick cs3.1 (by decide) (by decide) (by omega)) fun r S4 ⟨⟨k, e, q0, q1⟩, cs4⟩ => ?_
        subst e
        exact ⟨k, rfl, cs3.trans cs4⟩
      rintro ρ' S4 ⟨k, rfl, cs4⟩
      have t1 : Tl 1 [ch] := ⟨Nat.le_refl _, fun c hc => by rw [List.mem_singleton.mp hc]; exact hch⟩
      have hk : Tl (at') (l.take at') := ⟨by rw [List.length_take]; omega, (hl.take (i := at')).2⟩
      have hd : Tl (l.length - at') (l.drop at') := ⟨by rw [List.length_drop]; omega, (hl.drop (i := at')).2⟩
      have hd1 : Tl (l.length - at') (l.drop (at' + 1)) := ⟨by rw [List.length_drop]; omega, (hl.drop (i := at' + 1)).2⟩
      obtain ⟨ρ, eρ⟩ : ∃ ρ : PD.Env, ρ = [some (.ref c), some (.str (toS l)), some x, some (.int at'), some (.str (toS [ch])), some (.int k)] := ⟨_, rfl⟩
      have r1 : ρ[1]? = some (some (.str (toS l))) := by rw [eρ]; rfl
      have r3 : ρ[3]? = some (some (.int (at' : Int))) := by rw [eρ]; rfl
      have r4 : ρ[4]? = some (some (.str (toS [ch]))) := by rw [eρ]; rfl
      have r5 : ρ[5]? = some (some (.int k)) := by rw [eρ]; rfl
      have fin : ∀ (f : D) (l' : List Nat), f ρ S4 = .ok (.str (toS l')) S4 → Tl (m + (j + 1)) l' → RunS (sSet 1 f ρ S4) (SpI c m S (j + 1)) (fun r S' => (∃ l', r = Val.str (toS l') ∧ Tl (m + 2) l') ∧ Cp c S S') := fun f l' e h => by
        rw [q_set e, eρ]
        exact ⟨l', some x, some (.int at'), some (.str (toS [ch])), some (.int k), rfl, h, cs4⟩
      have hll := hl.1
      have lt1 : (l.take at').length = at' := by rw [List.length_take]; omega
      have ld : (l.drop at').length = l.length - at' := List.length_drop
      have ld1 : (l.drop (at' + 1)).length ≤ l.length - at' := by rw [List.length_drop]; omega
      rw [← eρ]
      have T : ∀ i : Int, (tVal (dOp oEq (dVar 5) (dC (.int i)))) ρ S4 = .ok (decide (k = i)) S4 := fun i => q_tval (by rw [q_op (x := .int k) (S1 := S4) (y := .int i) (S2 := S4) (q_var r5) rfl]; rfl)
      rw [q_if (T 0)]
      split
      · exact fin _ _ (run_to r1 r3 (by omega)) (hk.up (by omega))
      rw [q_if (T 1)]
      split
      · refine fin _ _ (q_add (q_add (run_to r1 r3 (by omega)) (q_var r4) (by rw [lt1]; simp; omega)) (run_from r1 r3 (by omega)) (by rw [List.length_append, lt1, ld]; simp; omega)) (((hk.app t1).app hd).up (by omega))
      rw [q_if (T 2)]
      split
      · exact fin _ _ (q_add (run_to r1 r3 (by omega)) (run_from1 r1 r3 (by omega)) (by rw [lt1]; omega)) ((hk.app hd1).up (by omega))
      rw [q_if (T 3)]
      split
      · have t40 : Tl 1 [40] := ⟨Nat.le_refl _, fun c hc => by rw [List.mem_singleton.mp hc]; decide⟩
        exact fin _ _ (q_add (q_add (run_to r1 r3 (by omega)) (y := [40]) (by rw [lits.1]; rfl) (by rw [lt1]; simp; omega)) (run_from r1 r3 (by omega)) (by rw [List.length_append, lt1, ld]; simp; omega)) (((hk.app t40).app hd).up (by omega))
      · exact fin _ _ (q_add (q_add (run_to r1 r3 (by omega)) (q_var r4) (by rw [lt1]; simp; omega)) (run_from1 r1 r3 (by omega)) (by rw [List.length_append, lt1]; simp; omega)) (((hk.app t1).app hd1).up (by omega))
    · obtain ⟨l', x2, x3, x4, x5, e, h1, h2⟩ := h
      refine ⟨l', x2, x3, x4, x5, e, h1.up ?_, h2⟩
      rw [rangeV_len]
      omega
  rintro ρ' S' ⟨l', x2, x3, x4, x5, rfl, h1, h2⟩
  rw [s_ret, w_var rfl]
  exact ⟨⟨l', rfl, h1⟩, h2⟩
end PD.K02

/-! ## K02P1 -/
set_option Elab.async false
set_option linter.all false
set_option maxRecDepth 100000
set_option maxHeartbeats 1000000
namespace PD.K02
open PySem PySem.Spec L2 PD LT
/-! ### lists of texts -/
def IsT (v : Val) : Prop := ∃ l, v = .str (toS l) ∧ Tl 100000 l
theorem lit_T (s : String) (h : (s.toList.map Char.toNat).length ≤ 100 ∧ ∀ c ∈ s.toList.map Char.toNat, c < 128) : ∃ l, (Str.ofString s) = toS l ∧ Tl 100 l := ⟨_, PySem.Str.ofString_eq_toList s, h⟩
theorem mul_T {l : List Nat} {k : Int} {n : Nat} (h0 : 1 ≤ k) (hl : Tl n l) : ∃ l', Txt.mul (toS l) k = toS l' ∧ Tl (n * k.toNat) l' := by
  refine ⟨(Txt.mul (toS l) k).cps.toList, rfl, ?_, ?_⟩
  · have e := PyProof.Rows.len_mul (toS l) k
    rw [if_neg (by simp; omega), toS_len] at e
    have : ((Txt.mul (toS l) k).cps.toList.length : Int) = (l.length : Int) * k := e
    have h2 : (l.length : Int) * k ≤ (n : Int) * k := Int.mul_le_mul_of_nonneg_right (by have := hl.1; omega) (by omega)
    have h3 : ((n * k.toNat : Nat) : Int) = (n : Int) * k := by rw [Int.natCast_mul, Int.toNat_of_nonneg (by omega)]
    omega
  · have fold : ∀ (m : Nat) (acc : Array Nat), (∀ c ∈ acc.toList, c < 128) → ∀ c ∈ ((List.replicate m l.toArray).foldl (· ++ ·) acc).toList, c < 128 := by
      intro m
      induction m with
      | zero => exact fun acc h => h
      | succ m ih =>
        intro acc h
        rw [List.replicate_succ, List.foldl_cons]
        refine ih _ fun c hc => ?_
        rw [Array.toList_append] at hc
        rcases List.mem_append.mp hc with hc | hc
        · exact h c hc
        · exact hl.2 c hc
    unfold Txt.mul
    rw [if_neg (by omega)]
    split
    · exact hl.2
    · exact fold _ _ fun c hc => absurd hc List.not_mem_nil
def Tex (n : Nat) (f : D) (ρ : PD.Env) : Prop := ∀ S, ∃ l, f ρ S = .ok (.str (toS l)) S ∧ Tl n l
def Tas (as : DA) (ρ : PD.Env) (k : Nat) : Prop := ∀ S, ∃ xs, as ρ S = .ok xs S ∧ xs.length = k ∧ ∀ x ∈ xs, IsT x
section
variable {ρ : PD.Env} {f g : D} {as : DA} {k n m : Nat}
theorem tas_nil : Tas aNil ρ 0 := fun S => ⟨[], rfl, rfl, fun x hx => absurd hx List.not_mem_nil⟩
theorem tas_cons (h : Tex n f ρ) (hn : n ≤ 100000) (r : Tas as ρ k) : Tas (aCons f as) ρ (k + 1) := fun S => by
  obtain ⟨l, e1, h1⟩ := h S
  obtain ⟨xs, e2, h2, h3⟩ := r S
  refine ⟨_, q_cons e1 e2, by rw [List.length_cons, h2], fun x hx => ?_⟩
  rcases List.mem_cons.mp hx with rfl | hx
  · exact ⟨l, rfl, h1.up hn⟩
  · exact h3 x hx
theorem tex_lit {s : String} (h : (s.toList.map Char.toNat).length ≤ 100 ∧ ∀ c ∈ s.toList.map Char.toNat, c < 128) : Tex 100 (dC (.str (Str.ofString s))) ρ := fun S => by
  obtain ⟨l, e, h1⟩ := lit_T s h
  exact ⟨l, by rw [e]; rfl, h1⟩
theorem tex_var {i : Nat} {l : List Nat} (h : ρ[i]? = some (some (.str (toS l)))) (hl : Tl n l) : Tex n (dVar i) ρ := fun S => ⟨l, q_var h, hl⟩
theorem tex_add (h1 : Tex n f ρ) (h2 : Tex m g ρ) (hl : n + m ≤ 1000000) : Tex (n + m) (dOp oAdd f g) ρ := fun S => by
  obtain ⟨a, e1, t1⟩ := h1 S
  obtain ⟨b, e2, t2⟩ := h2 S
  exact ⟨a ++ b, q_add e1 e2 (by have := t1.1; have := t2.1; omega), t1.app t2⟩
theorem tex_rep {s : String} {c : Nat} {i : Int} (e : Str.ofString s = toS [c]) (hc : c < 128) (h1 : 1 ≤ i) (h2 : i ≤ 1000000) : Tex (1 * i.toNat) (dOp oRepS (dC (.str (Str.ofString s))) (dC (.int i))) ρ := fun S => by
  obtain ⟨l, e1, h⟩ := mul_T (k := i) (l := [c]) (n := 1) h1 ⟨Nat.le_refl _, fun x hx => by rw [List.mem_singleton.mp hx]; exact hc⟩
  refine ⟨l, ?_, h⟩
  rw [q_op (x := .str (Str.ofString s)) (S1 := S) (y := .int i) (S2 := S) rfl rfl, e, ← e1]
  show (if 1 ≤ i ∧ i ≤ 1000000 ∧ (toS [c]).length = 1 then Res.ok (Val.str (Txt.mul (toS [c]) i)) S else .stuck) = _
  rw [if_pos ⟨h1, h2, rfl⟩]
theorem tex_rep2 {s : String} {l0 : List Nat} {i : Int} (e : Str.ofString s = toS l0) (h0 : Tl 16 l0) (hp : 1 ≤ l0.length) (h1 : 1 ≤ i) (h2 : i ≤ 1000000) : Tex (16 * i.toNat) (dOp oRepS2 (dC (.str (Str.ofString s))) (dC (.int i))) ρ := fun S => by
  obtain ⟨l, e1, h⟩ := mul_T (k := i) h1 h0
  refine ⟨l, ?_, h⟩
  rw [q_op (x := .str (Str.ofString s)) (S1 := S) (y := .int i) (S2 := S) rfl rfl, e, ← e1]
  show (if 1 ≤ i ∧ i ≤ 1000000 ∧ 1 ≤ (toS l0).length ∧ (toS l0).length ≤ 16 then Res.ok (Val.str (Txt.mul (toS l0) i)) S else .stuck) = _
  rw [if_pos ⟨h1, h2, by rw [toS_len]; exact hp, by rw [toS_len]; exact h0.1⟩]
/-- a list of k texts, off the cup -/
def Lx (c : Nat) (f : D) (ρ : PD.Env) (k : Nat) (S : Store) : Prop := ∃ a S1 xs, f ρ S = .ok (.ref a) S1 ∧ Gr S S1 ∧ a ≠ c ∧ S1[a]? = some (.lst xs) ∧ xs.length = k ∧ ∀ x ∈ xs, IsT x
theorem lx_var {c i a : Nat} {xs : List Val} {S : Store} (h : ρ[i]? = some (some (.ref a))) (hc : a ≠ c) (e : S[a]? = some (.lst xs)) (hl : xs.length = k) (hx : ∀ x ∈ xs, IsT x) : Lx c (dVar i) ρ k S := ⟨a, S, xs, q_var h, .refl S, hc, e, hl, hx⟩
theorem q_lst {xs : List Val} {S : Store} (h : as ρ S = .ok xs S) (hl : xs.length ≤ 1000) : dLst as ρ S = .ok (.ref S.length) (S ++ [.lst xs]) := by
  unfold dLst; rw [h]; show (if _ then _ else _) = _; rw [if_pos (by omega)]
theorem lx_lst {c : Nat} {S : Store} (h : Tas as ρ k) (hk : k ≤ 1000) (hc : c < S.length) : Lx c (dLst as) ρ k S := by
  obtain ⟨xs, e, h1, h2⟩ := h S
  exact ⟨S.length, S ++ [.lst xs], xs, q_lst e (by omega), Gr.add _ _, by omega, get_new _ _, h1, h2⟩
theorem lx_add {c : Nat} {S : Store} (h : Lx c f ρ n S) (r : Tas as ρ k) (hk : k ≤ 1000) (hn : n ≤ 1000) (hc : c < S.length) : Lx c (dOp oAdd f (dLst as)) ρ (n + k) S := by
  obtain ⟨a, S1, xs, e1, g1, ac, ea, h1, h2⟩ := h
  obtain ⟨ys, e2, h3, h4⟩ := r S1
  have hl : c < S1.length := by
    obtain ⟨G, rfl⟩ := g1
    rw [List.length_append]; omega
  refine ⟨(S1 ++ [Cell.lst ys]).length, S1 ++ [.lst ys] ++ [.lst (xs ++ ys)], xs ++ ys, ?_, (g1.trans (Gr.add _ _)).trans (Gr.add _ _), by rw [List.length_append]; omega, get_new _ _, by rw [List.length_append, h1, h3], fun x hx => ?_⟩
  · rw [q_op e1 (q_lst e2 (by omega))]
    exact run_ok_of (by rw [run_addL ((Gr.add _ _).get ea) (get_new _ _) (by omega)]; exact ⟨rfl, rfl⟩)
  · rcases List.mem_append.mp hx with hx | hx
    · exact h2 x hx
    · exact h4 x hx
end
structure Dr (c n0 : Nat) (xs0 : List Val) (S : Store) : Prop where
  pool : PoolAt c S
  ne : n0 ≠ c
  out : S[n0]? = some (.lst xs0)
theorem Dr.cp {c n0 : Nat} {xs0 : List Val} {S S' : Store} (h : Dr c n0 xs0 S) (k : Cp c S S') : Dr c n0 xs0 S' := ⟨k.1, h.ne, k.2 _ _ h.ne h.out⟩
theorem Dr.kp {c n0 : Nat} {xs0 : List Val} {S S' : Store} (h : Dr c n0 xs0 S) (k : Kp S S') : Dr c n0 xs0 S' := h.cp (Cp.of h.pool k)
theorem shr_ds {d : Nat} {s : Sh} (h : Ds d s) (hd : d ≤ 5) : Shr s := by
  have h1 := h.dep
  have h2 := h.tc
  have : 2 ^ d ≤ 2 ^ 5 := Nat.pow_le_pow_right (by decide) hd
  exact ⟨h.ok, by omega, by omega⟩
theorem wr_tl {s : Sh} (h : Shr s) : Tl 300 (wr s) := ⟨by rw [wr_len]; have := h.tc; omega, wr_lt s⟩
/-- a list of texts -/
structure Lt (c m k : Nat) (xs : List Val) (S : Store) : Prop where
  mc : m ≠ c
  at' : S[m]? = some (.lst xs)
  len : xs.length = k
  tx : ∀ x ∈ xs, IsT x
theorem Lt.cp {c m k : Nat} {xs : List Val} {S S' : Store} (h : Lt c m k xs S) (q : Cp c S S') : Lt c m k xs S' := ⟨h.mc, q.2 _ _ h.mc h.at', h.len, h.tx⟩
theorem Lt.kp {c m k : Nat} {xs : List Val} {S S' : Store} (h : Lt c m k xs S) (q : Kp S S') : Lt c m k xs S' := ⟨h.mc, q _ _ h.at', h.len, h.tx⟩
section
variable {n n0 c m5 m6 : Nat} {xs0 xs5 xs6 : List Val} {v0 x2 x3 x4 x5 x6 x7 x8 : Option Val} {z : Int} {S : Store} {R : Val → Store → Prop} {s : Sh}
abbrev LE (v0 : Option Val) (z : Int) (x2 x3 x4 x5 x6 x7 x8 : Option Val) : PD.Env := [v0, some (.int z), x2, x3, x4, x5, x6, x7, x8]
theorem law_0 (hn : 0 < n) (h0 : S[n0]? = some (.lst xs0)) : RunS (st_law_0 (fns n) (LE v0 z x2 x3 x4 x5 x6 x7 x8) S) (fun ρ S' => ∃ c, ρ = LE v0 z (some (.ref c)) x3 x4 x5 x6 x7 x8 ∧ Dr c n0 xs0 S') R := by
  unfold st_law_0
  rw [s_set, w_call, w_cons, w_var rfl, w_nil]
  refine Run.mono (l_cup hn) fun r S1 ⟨e, k, hc⟩ => ?_
  subst e
  exact ⟨_, rfl, hc, Nat.ne_of_lt (List.getElem?_eq_some_iff.mp h0).1, k _ _ h0⟩
theorem law_1 (hn : 20 < n) (dr : Dr c n0 xs0 S) : RunS (st_law_1 (fns n) (LE v0 z (some (.ref c)) x3 x4 x5 x6 x7 x8) S) (fun ρ S' => (∃ s, ρ = LE v0 z (some (.ref c)) (some (shV s)) x4 x5 x6 x7 x8 ∧ Shr s) ∧ Dr c n0 xs0 S') R := by
  unfold st_law_1
  rw [s_set, w_op, w_lst, w_cons, w_call, w_cons, w_var rfl, w_cons, w_c, w_nil]
  refine Run.mono (l_share 4 n c 4 S rfl dr.pool (by omega) (by omega)) fun r S1 ⟨⟨s0, er, h0⟩, k1⟩ => ?_
  subst er
  rw [w_cons, w_call, w_cons, w_var rfl, w_cons, w_c, w_nil]
  refine Run.mono (l_longS k1.1 (by omega)) fun r S2 ⟨⟨s1, er, h1⟩, k2⟩ => ?_
  subst er
  rw [w_nil]
  refine ⟨Nat.le_of_ble_eq_true rfl, ?_⟩
  rw [w_call, w_cons, w_var rfl, w_cons, w_c, w_nil]
  have c2 : PoolAt c (S2 ++ [Cell.lst [shV s0, shV s1]]) := k2.1.kp (Gr.add _ _).kp
  refine Run.mono (l_pick c2 (by decide) (by decide) (by omega)) fun r S3 ⟨⟨i, er, i0, i1⟩, k3⟩ => ?_
  subst er
  have hne : S2.length ≠ c := Nat.ne_of_gt k2.1.lt
  have hat := k3.2 _ _ hne (get_new S2 (.lst [shV s0, shV s1]))
  have cc := ((k1.trans k2).kp (Gr.add _ _).kp).trans k3
  refine Run.mono (run_pick (fun v => ∃ s, v = shV s ∧ Shr s) hat i0 i1 fun x hx => ?_) fun r S4 ⟨⟨s, er, hs⟩, e⟩ => ?_
  · rcases List.mem_cons.mp hx with rfl | hx
    · exact ⟨s0, rfl, shr_ds h0 (by decide)⟩
    · rw [List.mem_singleton.mp hx]; exact ⟨s1, rfl, h1⟩
  · subst er e
    exact ⟨⟨s, rfl, hs⟩, dr.cp cc⟩
abbrev L4 (v0 : Option Val) (z : Int) (c : Nat) (s : Sh) (x5 x6 x7 x8 : Option Val) : PD.Env := LE v0 z (some (.ref c)) (some (shV s)) (some (.str (toS (wr s)))) x5 x6 x7 x8
theorem law_2 (hn : 20 < n) (hs : Shr s) : RunS (st_law_2 (fns n) (LE v0 z (some (.ref c)) (some (shV s)) x4 x5 x6 x7 x8) S) (fun ρ S' => ρ = L4 v0 z c s x5 x6 x7 x8 ∧ Kp S S') R := by
  unfold st_law_2
  rw [s_set, w_call, w_cons, w_var rfl, w_nil]
  have := hs.dep
  refine Run.mono (written_ok s n S hs.tc (by omega)) fun r S1 ⟨e, g⟩ => ?_
  subst e
  exact ⟨rfl, g.kp⟩
theorem sm_str {l : List Nat} {d : Nat} (h : ∀ c ∈ l, c < 128) : Sm d (.str (toS l)) := .str _ _ (str_lay fun c hc => Nat.lt_trans (h c hc) (by decide))
theorem law_3 (hn : 90 < n) (hs : Shr s) : RunS (st_law_3 (fns n) (L4 v0 z c s x5 x6 x7 x8) S) (fun ρ S' => ρ = L4 v0 z c s x5 x6 x7 x8 ∧ Kp S S') R := by
  unfold st_law_3
  obtain ⟨S1, k1, e1⟩ := share_text_ok (n := n) (S := S) hs (by omega)
  obtain ⟨S2, k2, e2⟩ := share_text_ok (n := n) (S := S1) hs (by omega)
  rw [s_if, w_tnot, w_tval, w_call, w_cons, w_lst, w_cons, w_call, w_cons, w_var rfl, w_nil, ok_run e1, w_cons, w_callK, w_cons, w_var rfl, w_nil]
  show Run ((fns n).share_text [shV s] S1) _
  rw [ok_run e2, w_nil]
  refine ⟨Nat.le_of_ble_eq_true rfl, ?_⟩
  rw [w_cons, w_lst, w_cons, w_var rfl, w_cons, w_var rfl, w_nil]
  refine ⟨Nat.le_of_ble_eq_true rfl, ?_⟩
  rw [w_nil]
  refine Run.mono (l_same_ls (d := 0) ((Gr.add _ _).get (get_new _ _)) (get_new _ _) (Nat.le_of_ble_eq_true rfl) (fun x hx => ?_) (by omega) (by decide)) fun r S3 ⟨e, k3⟩ => ?_
  · rcases List.mem_cons.mp hx with rfl | hx
    · exact sm_str (wr_lt s)
    · rw [List.mem_singleton.mp hx]; exact sm_str (wr_lt s)
  · subst e
    rw [isB_bl, Bool.not_true, if_neg (by decide)]
    exact ⟨rfl, (k1.trans k2).trans (((Gr.add _ _).trans (Gr.add _ _)).kp.trans k3)⟩
theorem told_share {S : Store} (hs : Shr s) (hn : 25 ≤ n) : ∃ S', Kp S S' ∧ (fns n).share_told [.str (toS (wr s))] S = .ok (shV s) S' := by
  obtain ⟨S1, k1, e1⟩ := told_ok (S := S) (k := n) ((wr_tl hs).tx (by decide)) hn
  rw [toS_list, rdAll_wr hs] at e1
  exact ⟨S1, k1, e1⟩
theorem law_4 (hn : 90 < n) (hs : Shr s) : RunS (st_law_4 (fns n) (L4 v0 z c s x5 x6 x7 x8) S) (fun ρ S' => ρ = L4 v0 z c s x5 x6 x7 x8 ∧ Kp S S') R := by
  unfold st_law_4
  obtain ⟨S1, k1, e1⟩ := told_share (n := n) (S := S) hs (by omega)
  obtain ⟨S2, k2, e2⟩ := share_text_ok (n := n) (S := S1) hs (by omega)
  obtain ⟨S3, k3, e3⟩ := told_share (n := n) (S := S2) hs (by omega)
  rw [s_if, w_tnot, w_tval, w_call, w_cons, w_lst, w_cons, w_call, w_cons, w_var rfl, w_nil, ok_run e1, w_cons, w_call, w_cons, w_call, w_cons, w_var rfl, w_nil, ok_run e2, w_nil, ok_run e3, w_nil]
  refine ⟨Nat.le_of_ble_eq_true rfl, ?_⟩
  rw [w_cons, w_lst, w_cons, w_var rfl, w_cons, w_var rfl, w_nil]
  refine ⟨Nat.le_of_ble_eq_true rfl, ?_⟩
  rw [w_nil]
  refine Run.mono (l_same_ls (d := 12) ((Gr.add _ _).get (get_new _ _)) (get_new _ _) (Nat.le_of_ble_eq_true rfl) (fun x hx => ?_) (by omega) (by decide)) fun r S4 ⟨e, k4⟩ => ?_
  · rcases List.mem_cons.mp hx with rfl | hx
    · exact sm_sh hs.dep
    · rw [List.mem_singleton.mp hx]; exact sm_sh hs.dep
  · subst e
    rw [isB_bl, Bool.not_true, if_neg (by decide)]
    exact ⟨rfl, ((k1.trans k2).trans k3).trans (((Gr.add _ _).trans (Gr.add _ _)).kp.trans k4)⟩
theorem set_lx {f : D} {k : Nat} (h : Lx c f (L4 v0 z c s x5 x6 x7 x8) k S) : RunS (sSet 5 f (L4 v0 z c s x5 x6 x7 x8) S) (fun ρ S' => ∃ m xs, ρ = L4 v0 z c s (some (.ref m)) x6 x7 x8 ∧ Lt c m k xs S' ∧ Kp S S') R := by
  obtain ⟨a, S1, xs, e, g, ac, ea, hl, hx⟩ := h
  rw [q_set e]
  exact ⟨a, xs, rfl, ⟨ac, ea, hl, hx⟩, g.kp⟩
theorem law_5 (dr : Dr c n0 xs0 S) : RunS (st_law_5 (fns n) (L4 v0 z c s x5 x6 x7 x8) S) (fun ρ S' => ∃ m xs, ρ = L4 v0 z c s (some (.ref m)) x6 x7 x8 ∧ Lt c m 13 xs S' ∧ Kp S S') R := by
  unfold st_law_5
  refine set_lx (lx_lst ?_ (by decide) dr.pool.lt)
  repeat' first | exact tas_nil | refine tas_cons (n := 100) (tex_lit (by decide +kernel)) (by decide) ?_
theorem c_signs : Str.ofString "(" = toS [40] ∧ Str.ofString ")" = toS [41] ∧ Str.ofString "0" = toS [48] ∧ Str.ofString "(0," = toS [40, 48, 44] := by decide +kernel
theorem law_6 (dr : Dr c n0 xs0 S) (h5 : Lt c m5 13 xs5 S) : RunS (st_law_6 (fns n) (L4 v0 z c s (some (.ref m5)) x6 x7 x8) S) (fun ρ S' => ∃ m xs, ρ = L4 v0 z c s (some (.ref m)) x6 x7 x8 ∧ Lt c m 20 xs S' ∧ Kp S S') R := by
  unfold st_law_6
  have hl := dr.pool.lt
  have t3 : Tl 16 [40, 48, 44] := ⟨by decide, by decide⟩
  have r12 : ∀ {ρ : PD.Env}, Tex (16 * (12 : Int).toNat) (dOp oRepS2 (dC (.str (Str.ofString "(0,"))) (dC (.int 12))) ρ := tex_rep2 c_signs.2.2.2 t3 (by decide) (by decide) (by decide)
  have hd : ∀ {ρ : PD.Env} {i : Int}, 1 ≤ i → i ≤ 1000000 → Tex (1 * i.toNat) (dOp oRepS (dC (.str (Str.ofString ")"))) (dC (.int i))) ρ := fun h1 h2 => tex_rep c_signs.2.1 (by decide) h1 h2
  have ho : ∀ {ρ : PD.Env} {i : Int}, 1 ≤ i → i ≤ 1000000 → Tex (1 * i.toNat) (dOp oRepS (dC (.str (Str.ofString "("))) (dC (.int i))) ρ := fun h1 h2 => tex_rep c_signs.1 (by decide) h1 h2
  refine set_lx (k := 13 + 2 + 5) (lx_add (lx_add (lx_var rfl h5.mc h5.at' h5.len h5.tx) ?_ (by decide) (by decide) hl) ?_ (by decide) (by decide) hl)
  · exact tas_cons (n := 100) (tex_lit (by decide +kernel)) (by decide) (tas_cons (ho (by decide) (by decide)) (by decide) tas_nil)
  · refine tas_cons (ho (by decide) (by decide)) (by decide) (tas_cons (tex_add (tex_add r12 (tex_lit (by decide +kernel)) (by decide)) (hd (by decide) (by decide)) (by decide)) (by decide) (tas_cons (tex_add (tex_add r12 (tex_lit (by decide +kernel)) (by decide)) (hd (by decide) (by decide)) (by decide)) (by decide) (tas_cons (n := 100) (tex_lit (by decide +kernel)) (by decide) (tas_cons (tex_rep c_signs.2.2.1 (by decide) (by decide) (by decide)) (by decide) tas_nil))))
theorem law_7 (dr : Dr c n0 xs0 S) (hs : Shr s) (h5 : Lt c m5 20 xs5 S) : RunS (st_law_7 (fns n) (L4 v0 z c s (some (.ref m5)) x6 x7 x8) S) (fun ρ S' => ∃ m xs, ρ = L4 v0 z c s (some (.ref m)) x6 x7 x8 ∧ Lt c m 27 xs S' ∧ Kp S S') R := by
  unfold st_law_7
  have hl := dr.pool.lt
  have tv : Tex 300 (dVar 4) (L4 v0 z c s (some (.ref m5)) x6 x7 x8) := tex_var rfl (wr_tl hs)
  have lt : ∀ {t : String}, ((t.toList.map Char.toNat).length ≤ 100 ∧ ∀ c ∈ t.toList.map Char.toNat, c < 128) → Tex 100 (dC (.str (Str.ofString t))) (L4 v0 z c s (some (.ref m5)) x6 x7 x8) := fun h => tex_lit h
  refine set_lx (k := 20 + 7) (lx_add (lx_var rfl h5.mc h5.at' h5.len h5.tx) ?_ (by decide) (by decide) hl)
  refine tas_cons (tex_rep c_signs.1 (by decide) (by decide) (by decide)) (by decide) (tas_cons (lt (by decide +kernel)) (by decide) (tas_cons (lt (by decide +kernel)) (by decide) (tas_cons (tex_add tv (lt (by decide +kernel)) (by decide)) (by decide) (tas_cons (tex_add tv (lt (by decide +kernel)) (by decide)) (by decide) (tas_cons (tex_add (tex_add (lt (by decide +kernel)) tv (by decide)) (lt (by decide +kernel)) (by decide)) (by decide) (tas_cons (tex_add (tex_add (tex_add (tex_add (lt (by decide +kernel)) tv (by decide)) (lt (by decide +kernel)) (by decide)) tv (by decide)) (lt (by decide +kernel)) (by decide)) (by decide) tas_nil))))))
theorem law_8 (hn : 20 < n) (dr : Dr c n0 xs0 S) (hs : Shr s) (h5 : Lt c m5 27 xs5 S) : RunS (st_law_8 (fns n) (L4 v0 z c s (some (.ref m5)) x6 x7 x8) S) (fun ρ S' => ∃ m xs, ρ = L4 v0 z c s (some (.ref m5)) (some (.ref m)) x7 x8 ∧ Lt c m 3 xs S' ∧ Cp c S S') R := by
  unfold st_law_8
  rw [s_set, w_lst, w_cons, w_var rfl, w_cons, w_call, w_cons, w_var rfl, w_cons, w_var rfl, w_nil]
  refine Run.mono (l_spoilt dr.pool (wr_tl hs) (by decide) (by omega)) fun r S1 ⟨⟨l1, e, t1⟩, k1⟩ => ?_
  subst e
  rw [w_cons, w_call, w_cons, w_var rfl, w_cons, w_var rfl, w_nil]
  refine Run.mono (l_spoilt k1.1 (wr_tl hs) (by decide) (by omega)) fun r S2 ⟨⟨l2, e, t2⟩, k2⟩ => ?_
  subst e
  rw [w_nil]
  have cc := k1.trans k2
  refine ⟨Nat.le_of_ble_eq_true rfl, _, _, rfl, ⟨Nat.ne_of_gt cc.1.lt, get_new _ _, rfl, fun x hx => ?_⟩, cc.kp (Gr.add _ _).kp⟩
  rcases List.mem_cons.mp hx with rfl | hx
  · exact ⟨_, rfl, (wr_tl hs).up (by decide)⟩
  · rcases List.mem_cons.mp hx with rfl | hx
    · exact ⟨_, rfl, t1.up (by decide)⟩
    · rw [List.mem_singleton.mp hx]; exact ⟨_, rfl, t2.up (by decide)⟩
/-- one text: what is told, what is read -/
theorem one_text {l : List Nat} (hn : 90 < n) (hl : Tl 100000 l) : RunS (sIf (tNot' (tVal (dCall (fns n)._law_same (aCons (dCall (fns n)._law_told (aCons (dVar 7) aNil)) (aCons (dCall (fns n)._law_read (aCons (dVar 7) aNil)) aNil))))) (sRet (dC (.bl false))) sNext (LE v0 z x2 x3 x4 x5 x6 (some (.str (toS l))) x8) S) (fun ρ S' => ρ = LE v0 z x2 x3 x4 x5 x6 (some (.str (toS l))) x8 ∧ Kp S S') R := by
  have hz : Tx (toS l) := hl.tx (by decide)
  rw [s_if, w_tnot, w_tval, w_call, w_cons, w_call, w_cons, w_var rfl, w_nil]
  refine Run.mono (l_told hz (by omega)) fun r S1 ⟨e, k1⟩ => ?_
  subst e
  rw [w_cons, w_call, w_cons, w_var rfl, w_nil]
  refine Run.mono (read_ok hz (by omega)) fun r S2 ⟨e, k2⟩ => ?_
  subst e
  rw [w_nil, toS_list, ← rdAll_mac]
  refine Run.mono (l_same_sm 14 n _ S2 (sm_res fun x h => rdAll_dep h) (by omega) (by decide)) fun r S3 ⟨e, k3⟩ => ?_
  subst e
  rw [isB_bl, Bool.not_true, if_neg (by decide)]
  exact ⟨rfl, (k1.trans k2).trans k3⟩
theorem law_9 (hn : 90 < n) (dr : Dr c n0 xs0 S) (h5 : Lt c m5 27 xs5 S) (h6 : Lt c m6 3 xs6 S) : RunS (st_law_9 (fns n) (L4 v0 z c s (some (.ref m5)) (some (.ref m6)) x7 x8) S) (fun ρ S' => (∃ y7, ρ = L4 v0 z c s (some (.ref m5)) (some (.ref m6)) y7 x8) ∧ Cp c S S') R := by
  unfold st_law_9
  refine s_forC ?_
  rw [w_op, w_var rfl, w_lst, w_cons, w_op, w_var rfl, w_call, w_cons, w_var rfl, w_cons, w_c, w_nil]
  refine Run.mono (l_pick dr.pool (by decide) (by decide) (by omega)) fun r S1 ⟨⟨i, e, i0, i1⟩, k1⟩ => ?_
  subst e
  have h51 := h5.cp k1
  refine Run.mono (run_pick IsT h51.at' i0 (by rw [h51.len]; exact i1) h51.tx) fun r S1' ⟨hr, e⟩ => ?_
  subst e
  rw [w_cons, w_op, w_var rfl, w_call, w_cons, w_var rfl, w_cons, w_c, w_nil]
  refine Run.mono (l_pick k1.1 (by decide) (by decide) (by omega)) fun r2 S2 ⟨⟨i', e, i0', i1'⟩, k2⟩ => ?_
  subst e
  have h52 := h51.cp k2
  refine Run.mono (run_pick IsT h52.at' i0' (by rw [h52.len]; exact i1') h52.tx) fun r2 S2' ⟨hr2, e⟩ => ?_
  subst e
  rw [w_nil]
  refine ⟨Nat.le_of_ble_eq_true rfl, ?_⟩
  have h62 := (h6.cp k1).cp k2
  rw [run_addL ((Gr.add _ _).get h62.at') (get_new _ _) (by rw [h62.len]; exact Nat.le_of_ble_eq_true rfl)]
  have all : ∀ x ∈ xs6 ++ [r, r2], IsT x := fun x hx => by
    rcases List.mem_append.mp hx with hx | hx
    · exact h62.tx x hx
    · rcases List.mem_cons.mp hx with rfl | hx
      · exact hr
      · rw [List.mem_singleton.mp hx]; exact hr2
  refine ⟨_, _, rfl, get_new _ _, ?_⟩
  have kk : Kp S2' (S2' ++ [Cell.lst [r, r2]] ++ [Cell.lst (xs6 ++ [r, r2])]) := ((Gr.add _ _).trans (Gr.add _ _)).kp
  have hfin := get_new (S2' ++ [Cell.lst [r, r2]]) (.lst (xs6 ++ [r, r2]))
  generalize xs6 ++ [r, r2] = ys at *
  generalize (S2' ++ [Cell.lst [r, r2]]).length = mm at *
  generalize S2' ++ [Cell.lst [r, r2]] ++ [Cell.lst ys] = S3 at *
  refine RunS.mono (runS_loopC (n := mm) (xs := ys) (fun j ρ S' => (∃ y7, ρ = L4 v0 z c s (some (.ref m5)) (some (.ref m6)) y7 x8) ∧ S'[mm]? = some (.lst ys) ∧ Kp S3 S') (fun _ _ _ h => h.2.1) ?_ _ 0 _ _ (Nat.zero_add _) ⟨⟨_, rfl⟩, hfin, .refl _⟩) (fun ρ S' h => ⟨h.1, (k1.trans k2).kp (kk.trans h.2.2)⟩) fun _ _ h => h
  rintro j x ρ S' hx ⟨⟨y7, rfl⟩, hm, k'⟩
  obtain ⟨l, rfl, hl⟩ := all x (List.mem_of_getElem? hx)
  refine ⟨_, rfl, RunS.mono (one_text hn hl) (fun ρ S2 ⟨e, k2⟩ => ⟨⟨_, e⟩, k2 _ _ hm, k'.trans k2⟩) fun _ _ h => h⟩
theorem one_not {v : Val} {T : String} (hn : 90 < n) (hT : T ≠ "str") (hv : ∀ S', Kp S S' → tyN v S' = some T) : RunS (sIf (tNot' (tVal (dCall (fns n)._law_same (aCons (dCall (fns n)._law_told (aCons (dVar 7) aNil)) (aCons (dTup (aCons (dC (.int 0)) (aCons (dC .non) aNil))) aNil))))) (sRet (dC (.bl false))) sNext (LE v0 z x2 x3 x4 x5 x6 (some v) x8) S) (fun ρ S' => ρ = LE v0 z x2 x3 x4 x5 x6 (some v) x8 ∧ Kp S S') R := by
  rw [s_if, w_tnot, w_tval, w_call, w_cons, w_call, w_cons, w_var rfl, w_nil]
  refine Run.mono (l_told_no hT hv (by omega)) fun r S1 ⟨e, k1⟩ => ?_
  subst e
  rw [w_cons, w_tup, w_cons, w_c, w_cons, w_c, w_nil]
  refine ⟨Nat.le_of_ble_eq_true rfl, ?_⟩
  rw [w_nil]
  refine Run.mono (l_same_sm 14 n (resV (.error 0)) S1 (sm_res fun x h => by cases h) (by omega) (by decide)) fun r S3 ⟨e, k3⟩ => ?_
  subst e
  rw [isB_bl, Bool.not_true, if_neg (by decide)]
  exact ⟨rfl, k1.trans k3⟩
theorem law_10 (hn : 90 < n) : RunS (st_law_10 (fns n) (L4 v0 z c s x5 x6 x7 x8) S) (fun ρ S' => (∃ y7, ρ = L4 v0 z c s x5 x6 y7 x8) ∧ Kp S S') R := by
  unfold st_law_10
  refine s_forC ?_
  rw [w_lst, w_cons, w_c, w_cons, w_c, w_cons, w_tup, w_cons, w_c, w_nil]
  refine ⟨Nat.le_of_ble_eq_true rfl, ?_⟩
  rw [w_cons, w_lst, w_cons, w_c, w_nil]
  refine ⟨Nat.le_of_ble_eq_true rfl, ?_⟩
  rw [w_cons, w_c, w_nil]
  refine ⟨Nat.le_of_ble_eq_true rfl, _, _, rfl, get_new _ _, ?_⟩
  have kk : Kp S (S ++ [Cell.lst [.str "0"]] ++ [Cell.lst [.non, .int 7, .tup [.str "0"], .ref S.length, .bl true]]) := ((Gr.add _ _).trans (Gr.add _ _)).kp
  have hfin := get_new (S ++ [Cell.lst [.str "0"]]) (.lst [.non, .int 7, .tup [.str "0"], .ref S.length, .bl true])
  have hr := (Gr.add (S ++ [Cell.lst [.str "0"]]) [Cell.lst [.non, .int 7, .tup [.str "0"], .ref S.length, .bl true]]).get (get_new S (.lst [.str "0"]))
  have all : ∀ x ∈ [Val.non, .int 7, .tup [.str "0"], .ref S.length, .bl true], ∃ T : String, T ≠ "str" ∧ ∀ S', Kp (S ++ [Cell.lst [.str "0"]] ++ [Cell.lst [.non, .int 7, .tup [.str "0"], .ref S.length, .bl true]]) S' → tyN x S' = some T := by
    simp only [List.mem_cons, List.not_mem_nil, or_false, forall_eq_or_imp, forall_eq]
    exact ⟨⟨_, by decide, fun _ _ => ty_non⟩, ⟨_, by decide, fun _ _ => ty_int⟩, ⟨_, by decide, fun _ _ => ty_tup⟩, ⟨"list", by decide, fun S' k => ty_ref (k _ _ hr)⟩, ⟨_, by decide, fun _ _ => ty_bl⟩⟩
  generalize [Val.non, .int 7, .tup [.str "0"], .ref S.length, .bl true] = ys at *
  generalize (S ++ [Cell.lst [.str "0"]]).length = mm at *
  generalize S ++ [Cell.lst [.str "0"]] ++ [Cell.lst ys] = S3 at *
  refine RunS.mono (runS_loopC (n := mm) (xs := ys) (fun j ρ S' => (∃ y7, ρ = L4 v0 z c s x5 x6 y7 x8) ∧ S'[mm]? = some (.lst ys) ∧ Kp S3 S') (fun _ _ _ h => h.2.1) ?_ _ 0 _ _ (Nat.zero_add _) ⟨⟨_, rfl⟩, hfin, .refl _⟩) (fun ρ S' h => ⟨h.1, kk.trans h.2.2⟩) fun _ _ h => h
  rintro j x ρ S' hx ⟨⟨y7, rfl⟩, hm, k'⟩
  obtain ⟨T, hT, hv⟩ := all x (List.mem_of_getElem? hx)
  refine ⟨_, rfl, RunS.mono (one_not hn hT fun S'' k'' => hv S'' (k'.trans k'')) (fun ρ S2 ⟨e, k2⟩ => ⟨⟨_, e⟩, k2 _ _ hm, k'.trans k2⟩) fun _ _ h => h⟩
theorem law_11 (hn : 90 < n) (dr : Dr c n0 xs0 S) (hs : Shr s) : RunS (st_law_11 (fns n) (L4 v0 z c s x5 x6 x7 x8) S) (fun ρ S' => (∃ v, ρ = L4 v0 z c s x5 x6 x7 (some v) ∧ Da S' 20 v) ∧ Dr c n0 xs0 S') R := by
  unfold st_law_11
  rw [s_set, w_call, w_cons, w_var rfl, w_cons, w_var rfl, w_cons, w_c, w_nil]
  have := hs.dep
  refine Run.mono (l_bentS s n c S dr.pool (by omega) (by omega)) fun r S1 ⟨hd, k⟩ => ?_
  exact ⟨⟨r, rfl, (hd.up (by omega)).da⟩, dr.cp k⟩
theorem lay_ss : (∀ x ∈ (("share" : Str)).cps.toList, x < 1114112) ∧ (∀ x ∈ (("none" : Str)).cps.toList, x < 1114112) := by decide +kernel
theorem law_12 {v : Val} (hn : 90 < n) (hv : Da S 20 v) : RunS (st_law_12 (fns n) (L4 v0 z c s x5 x6 x7 (some v)) S) (fun ρ S' => ρ = L4 v0 z c s x5 x6 x7 (some v) ∧ Kp S S') R := by
  unfold st_law_12
  rw [s_if, w_tval, w_op, w_call, w_cons, w_var rfl, w_nil]
  refine Run.mono (refused_ok (hv.up (by decide)) (by omega)) fun r S1 ⟨e, k1⟩ => ?_
  subst e
  rw [w_op, w_lst, w_cons, w_c, w_cons, w_c, w_nil]
  refine ⟨Nat.le_of_ble_eq_true rfl, ?_⟩
  have hv2 : Da (S1 ++ [Cell.lst [.str "share", .str "none"]]) 20 v := hv.kp (k1.trans (Gr.add _ _).kp)
  have T : Run ((dAnd (dCall (fns n)._law_is_share (aCons (dVar 8) (aCons (dC (.int 12)) aNil))) (dOp oLt (dCall (fns n)._law_size (aCons (dVar 8) aNil)) (dC (.int 64)))) (L4 v0 z c s x5 x6 x7 (some v)) (S1 ++ [Cell.lst [.str "share", .str "none"]])) (fun r S' => r = .bl (shOk v) ∧ S' = S1 ++ [Cell.lst [.str "share", .str "none"]]) := by
    rw [w_and, w_call, w_cons, w_var rfl, w_cons, w_c, w_nil]
    refine Run.mono (l_is_share 20 n 12 v _ hv2 (by decide) (by omega)) fun r S2 ⟨e, e2⟩ => ?_
    subst e e2
    rw [isB_bl]
    unfold shOk
    cases hi : isSh 12 v with
    | false => exact ⟨rfl, rfl⟩
    | true =>
      rw [if_pos rfl, Bool.true_and, w_op, w_call, w_cons, w_var rfl, w_nil]
      refine Run.mono (l_size 12 n v _ (isSh_sz 12 v hi) (by omega)) fun r S3 ⟨e, e2⟩ => ?_
      subst e e2
      rw [w_c, run_ltJ]
      refine ⟨?_, rfl⟩
      congr 1
      exact decide_eq_decide.mpr (by omega)
  rw [w_call, w_cons]
  refine Run.mono T fun r S2 ⟨e, e2⟩ => ?_
  subst e e2
  rw [w_nil]
  have hg := get_new S1 (.lst [.str "share", .str "none"])
  cases shOk v with
  | true =>
    show Run (okI 1 _) _
    rw [run_okI, run_ixR hg, atI1]
    show Run (oNe (.str "none") (.str "none") _) _
    rw [run_neZ lay_ss.2 lay_ss.2, isB_bl, decide_eq_true rfl, Bool.not_true, if_neg (by decide)]
    exact ⟨rfl, k1.trans (Gr.add _ _).kp⟩
  | false =>
    show Run (okI 0 _) _
    rw [run_okI, run_ixR hg, atI0]
    show Run (oNe (.str "share") (.str "share") _) _
    rw [run_neZ lay_ss.1 lay_ss.1, isB_bl, decide_eq_true rfl, Bool.not_true, if_neg (by decide)]
    exact ⟨rfl, k1.trans (Gr.add _ _).kp⟩
end
def turnB (p : Fns) : SD := sSeq (st_law_0 p) (sSeq (st_law_1 p) (sSeq (st_law_2 p) (sSeq (st_law_3 p) (sSeq (st_law_4 p) (sSeq (st_law_5 p) (sSeq (st_law_6 p) (sSeq (st_law_7 p) (sSeq (st_law_8 p) (sSeq (st_law_9 p) (sSeq (st_law_10 p) (sSeq (st_law_11 p) (st_law_12 p))))))))))))
theorem l_turn {n n0 : Nat} {xs0 : List Val} {v0 x2 x3 x4 x5 x6 x7 x8 : Option Val} {z : Int} {S : Store} {R : Val → Store → Prop} (hn : 110 < n) (h0 : S[n0]? = some (.lst xs0)) :
    RunS (turnB (fns n) (LE v0 z x2 x3 x4 x5 x6 x7 x8) S) (fun ρ S' => (∃ x1 x2 x3 x4 x5 x6 x7 x8, ρ = [v0, x1, x2, x3, x4, x5, x6, x7, x8]) ∧ S'[n0]? = some (.lst xs0)) R := by
  unfold turnB
  refine s_step (law_0 (by omega) h0) ?_
  rintro ρ S1 ⟨c, rfl, dr⟩
  refine s_step (law_1 (by omega) dr) ?_
  rintro ρ S2 ⟨⟨s, rfl, hs⟩, dr⟩
  refine s_step (law_2 (by omega) hs) ?_
  rintro ρ S3 ⟨rfl, k⟩
  have dr := dr.kp k
  refine s_step (law_3 (by omega) hs) ?_
  rintro ρ S4 ⟨rfl, k⟩
  have dr := dr.kp k
  refine s_step (law_4 (by omega) hs) ?_
  rintro ρ S5 ⟨rfl, k⟩
  have dr := dr.kp k
  refine s_step (law_5 dr) ?_
  rintro ρ S6 ⟨m5, xs5, rfl, h5, k⟩
  have dr := dr.kp k
  refine s_step (law_6 dr h5) ?_
  rintro ρ S7 ⟨m5, xs5, rfl, h5, k⟩
  have dr := dr.kp k
  refine s_step (law_7 dr hs h5) ?_
  rintro ρ S8 ⟨m5, xs5, rfl, h5, k⟩
  have dr := dr.kp k
  refine s_step (law_8 (by omega) dr hs h5) ?_
  rintro ρ S9 ⟨m6, xs6, rfl, h6, k⟩
  have dr := dr.cp k; have h5 := h5.cp k
  refine s_step (law_9 (by omega) dr h5 h6) ?_
  rintro ρ S10 ⟨⟨y7, rfl⟩, k⟩
  have dr := dr.cp k
  refine s_step (law_10 (by omega)) ?_
  rintro ρ S11 ⟨⟨y7, rfl⟩, k⟩
  have dr := dr.kp k
  refine s_step (law_11 (by omega) dr hs) ?_
  rintro ρ S12 ⟨⟨v, rfl, hv⟩, dr⟩
  refine RunS.mono (law_12 (by omega) hv) (fun ρ S13 h => ?_) fun _ _ h => h
  obtain ⟨rfl, k⟩ := h
  exact ⟨⟨_, _, _, _, _, _, _, _, rfl⟩, (dr.kp k).out⟩
theorem run_slKL {xs : List Val} {lo hi : Option Int} {S : Store} {Q : Val → Store → Prop} : Run (vSl (.kl xs) lo hi S) Q = Q (.ref S.length) (S ++ [.lst (cutL xs lo hi)]) := rfl
theorem cut_mem {xs : List Val} {lo hi : Option Int} {x : Val} (h : x ∈ cutL xs lo hi) : x ∈ xs := List.mem_of_mem_drop (List.mem_of_mem_take h)
theorem cut_len {xs : List Val} {lo hi : Option Int} : (cutL xs lo hi).length ≤ xs.length := by
  unfold cutL
  rw [List.length_take, List.length_drop]; omega
theorem l_law (ns : List Int) (hns : ns.length ≤ 63) : ∃ S, (fns 120).law [.kl (ns.map Val.int)] [] = .ok (.bl true) S := by
  have : Run ((fns 120).law [.kl (ns.map Val.int)] []) (fun r _ => r = .bl true) := by
    show Run (fnOf 1 9 (b_law (fns 119)) [.kl (ns.map Val.int)] []) _
    generalize hn : (119 : Nat) = n
    have hn : 110 < n := by omega
    unfold b_law
    refine run_fn rfl rfl ?_
    refine s_step (N' := fun _ _ => True) ?_ ?_
    · refine s_forC ?_
      rw [w_op, w_lst, w_cons, w_c, w_nil]
      refine ⟨Nat.le_of_ble_eq_true rfl, ?_⟩
      rw [w_sl]
      show Run (dVar 0 [some (.kl (ns.map Val.int)), none, none, none, none, none, none, none, none] _) _
      rw [w_var rfl, w_oNone, w_oSome, w_c]
      show Run (vSl (.kl (ns.map Val.int)) none (some 5) _) _
      rw [run_slKL]
      have hcl := cut_len (xs := ns.map Val.int) (lo := none) (hi := some 5)
      rw [List.length_map] at hcl
      have hcm : ∀ x ∈ cutL (ns.map Val.int) none (some 5), ∃ z : Int, x = .int z := fun x hx => by
        obtain ⟨z, _, e⟩ := List.mem_map.mp (cut_mem hx)
        exact ⟨z, e.symm⟩
      generalize cutL (ns.map Val.int) none (some 5) = cs at *
      rw [run_addL ((Gr.add _ _).get (get_new _ _)) (get_new _ _) (by rw [List.length_singleton]; omega)]
      have hcut : ∀ x ∈ [Val.int 84083042568805443670000000000000000000000495802469637802469142] ++ cs, ∃ z : Int, x = .int z := fun x hx => by
        rcases List.mem_append.mp hx with h | h
        · exact ⟨_, List.mem_singleton.mp h⟩
        · exact hcm x h
      generalize [Val.int 84083042568805443670000000000000000000000495802469637802469142] ++ cs = ys at *
      refine ⟨_, _, rfl, get_new _ _, ?_⟩
      have hfin := get_new ([] ++ [Cell.lst [Val.int 84083042568805443670000000000000000000000495802469637802469142]] ++ [Cell.lst cs]) (.lst ys)
      generalize List.length ([] ++ [Cell.lst [Val.int 84083042568805443670000000000000000000000495802469637802469142]] ++ [Cell.lst cs]) = n0 at *
      generalize [] ++ [Cell.lst [Val.int 84083042568805443670000000000000000000000495802469637802469142]] ++ [Cell.lst cs] ++ [Cell.lst ys] = S0 at *
      refine RunS.mono (runS_loopC (n := n0) (xs := ys) (fun j ρ S' => (∃ x1 x2 x3 x4 x5 x6 x7 x8, ρ = [some (.kl (ns.map Val.int)), x1, x2, x3, x4, x5, x6, x7, x8]) ∧ S'[n0]? = some (.lst ys)) (fun _ _ _ h => h.2) ?_ _ 0 _ _ (Nat.zero_add _) ⟨⟨_, _, _, _, _, _, _, _, rfl⟩, hfin⟩) (fun _ _ _ => trivial) fun _ _ h => h
      rintro j x ρ S1 hx ⟨⟨x1, x2, x3, x4, x5, x6, x7, x8, rfl⟩, h0⟩
      obtain ⟨z, rfl⟩ := hcut x (List.mem_of_getElem? hx)
      exact ⟨_, rfl, l_turn hn h0⟩
    · rintro ρ S1 _
      simp only [run_ok, run_okI, run_okB, run_alloc, run_stuck, run_bind, run_ite, run_noX, run_fnOf, w_c, w_op, w_un, w_call, w_callK, w_nil, w_cons, w_tup, w_lst, isB_bl, w_tval, w_tand, w_tor, w_tnot, w_and, w_or, w_not, w_if, s_next, s_seq, s_if, s_ret, s_drop, s_set, s_par, s_put, s_asg, w_var', runS_next, runS_ret, runS_stuck, runS_ite, List.length_cons, List.length_nil, List.length_singleton, List.map_cons, List.map_nil, List.cons_append, List.nil_append, List.replicate_succ, List.replicate_zero, List.getElem?_cons_zero, List.getElem?_cons_succ, List.set_cons_zero, List.set_cons_succ, Nat.reduceAdd, Nat.reduceSub, Nat.reduceEqDiff, ite_true, ite_false, if_true, if_false, reduceIte, Bool.false_eq_true, decide_true, decide_false, String.reduceEq, Int.reduceEq, Nat.reduceLeDiff, true_and, and_true, Bool.not_true, Bool.not_false, decide_eq_true_eq, List.append_nil, bType, bIsi, bLen, bInt, ty_int, ty_bl, ty_str, ty_non, ty_tup, isT, oIs, oIsNot, run_eqI, run_neI, Bool.or_false, Bool.or_true, Bool.false_or, Bool.true_or, Bool.and_true, Bool.and_false, Bool.true_and, Bool.false_and, reduceCtorEq, decide_not, Bool.not_eq_true', decide_eq_false_iff_not, askInt, askBool, askTuple, askList, askStr, oLe, oLt, oGe, oGt, oInt2, atI0, atI1, atI2, run_addI, run_subI]
  obtain ⟨a, S, e, q⟩ := this.to
  exact ⟨S, by rw [e, q]⟩
end PD.K02

/-! ## K02End -/
set_option Elab.async false
set_option linter.all false
set_option maxRecDepth 100000
set_option maxHeartbeats 4000000
namespace PD.K02
open PySem PySem.Spec L2 PD
structure DefAt (K : PySem.W.Frag) (mg : Str → Option Value) (x : Str) (st : Stmt) (ps : List Str) where
  a : Addr
  d : FuncData
  F : Fun K x x st a d
  m : mg x = some (.ref a)
  b : Binds K d ps []
def mkDef {K : PySem.W.Frag} {h : Heap} {mg : Str → Option Value} (X : K.In h) (G : h.Ns mainGlobals mg) {x : Str} {st : Stmt} {ps : List Str} {f : Addr} {od an : Option Addr} {sl : Array (Option Value)} {oc kV dc pm cd ct : Value}
    (h1 : PySem.W.nsIn K mainGlobals x = some (some (.ref f))) (h2 : K.lookup f = some ⟨oc, od, .func (PySem.W.fnOf x x (defArgs st) (defBody st) (defScope st) .none kV dc pm an cd ct), sl⟩) (h3 : PySem.W.codeIn K cd x = true) (h4 : PySem.W.keepIn K (.ref f) = true)
    (hb : ∀ (kV doc pm : Value) (an : Option Addr) (cdv ct : Value) (us : List Value), us.length = ps.length → bindArgs (PySem.W.fnOf x x (defArgs st) (defBody st) (defScope st) .none kV doc pm an cdv ct) ⟨us, []⟩ = pure (ps.zip us)) : DefAt K mg x st ps :=
  ⟨f, _, fun_mk h2 h3 h4, PySem.W.mg_of X G h1, (fun_mk h2 h3 h4).binds hb⟩
theorem kbOf {K : PySem.W.Frag} {x : Str} {st : Stmt} {f : Addr} {fd : FuncData} {ps ks : List Str} {is : List Nat} (F : Fun K x x st f fd)
    (h : ∀ (kV doc pm : Value) (an : Option Addr) (cdv ct : Value) (ws : List Value), ws.length = ks.length → bindArgs (PySem.W.fnOf x x (defArgs st) (defBody st) (defScope st) .none kV doc pm an cdv ct) ⟨[], ks.zip ws⟩ = pure (ps.zip (pick is ws))) : KB0 K fd ps ks is := by
  obtain ⟨oc, od, kV, doc, pm, an, cdv, ct, osl, rfl, _, _⟩ := F.ex
  exact fun s ws _ hl _ => .of_eq (h kV doc pm an cdv ct ws hl)
theorem exm_b {K : PySem.W.Frag} {C D : Addr} {b : Bool} (h1 : PySem.W.subIn K (.ref D) (.type "BaseException") = some true) (h2 : PySem.W.isClsIn K D = true) (h3 : PySem.W.typeIn K (.ref D) = some (.type "type")) (h4 : PySem.W.subIn K (.ref C) (.ref D) = some b) :
    PySem.W.exmOne K (.ref C) (.ref D) = some b := by
  have e1 : (PySem.W.subIn K (.ref D) (.type "BaseException") == some true) = true := by rw [h1]; rfl
  have e2 : ((PySem.W.clsIn K D).isSome && PySem.W.typeIn K (.ref D) == some (.type "type")) = true := by
    rw [show (PySem.W.clsIn K D).isSome = true from h2, h3]; rfl
  show (if (PySem.W.subIn K (.ref D) (.type "BaseException") == some true) = true then (if ((PySem.W.clsIn K D).isSome && PySem.W.typeIn K (.ref D) == some (.type "type")) = true then PySem.W.subIn K (.ref C) (.ref D) else none) else none) = some b
  rw [if_pos e1, if_pos e2]
  exact h4
theorem mk_all {l : PySem.W.OpenLaw} {w : World} {K : PySem.W.Frag} {h : Heap} {mg : Str → Option Value} {fa : Addr} (X : K.In h) (G : h.Ns mainGlobals mg) (hfa : mg "law" = some (.ref fa))
    (R_Reader : At_Reader K mg)
    (D_tuple_count : DefAt K mg "tuple_count" s_tuple_count ["tree"])
    (D_is_share : DefAt K mg "is_share" s_is_share ["value"])
    (D__is_share_tree : DefAt K mg "_is_share_tree" s__is_share_tree ["value", "deepest"])
    (D_check_share : DefAt K mg "check_share" s_check_share ["value"])
    (D_share_text : DefAt K mg "share_text" s_share_text ["share"])
    (D__text_of : DefAt K mg "_text_of" s__text_of ["share"])
    (D_share_told : DefAt K mg "share_told" s_share_told ["text"])
    (D__take_share : DefAt K mg "_take_share" s__take_share ["reader", "numbers"])
    (D__law_cup : DefAt K mg "_law_cup" s__law_cup ["cell"])
    (D__law_sip : DefAt K mg "_law_sip" s__law_sip ["cup", "many"])
    (D__law_same : DefAt K mg "_law_same" s__law_same ["found", "due"])
    (D__law_share : DefAt K mg "_law_share" s__law_share ["cup", "deep"])
    (D__law_long : DefAt K mg "_law_long" s__law_long ["cup", "counts"])
    (D__law_is_share : DefAt K mg "_law_is_share" s__law_is_share ["value", "deep"])
    (D__law_size : DefAt K mg "_law_size" s__law_size ["tree"])
    (D__law_bent : DefAt K mg "_law_bent" s__law_bent ["cup", "tree", "counts"])
    (D__law_read : DefAt K mg "_law_read" s__law_read ["text"])
    (D__law_written : DefAt K mg "_law_written" s__law_written ["share"])
    (D__law_spoilt : DefAt K mg "_law_spoilt" s__law_spoilt ["cup", "text"])
    (D__law_told : DefAt K mg "_law_told" s__law_told ["value"])
    (D__law_refused : DefAt K mg "_law_refused" s__law_refused ["value"])
    (D_law : DefAt K mg "law" s_law ["script"])
    {c_StampError : Addr} (a_StampError : PySem.W.nsIn K mainGlobals "StampError" = some (some (.ref c_StampError))) (x_StampError : PySem.W.excIn K c_StampError [.type "ValueError", .type "Exception", .type "BaseException", .type "object"] "ValueError.__new__" = true)
    (kp_StampError : PySem.W.keepIn K (.ref c_StampError) = true) (sb_StampError : PySem.W.subIn K (.ref c_StampError) (.type "BaseException") = some true) (ty_StampError : PySem.W.typeIn K (.ref c_StampError) = some (.type "type")) (ic_StampError : PySem.W.isClsIn K c_StampError = true)
    {c_InvalidShare : Addr} (a_InvalidShare : PySem.W.nsIn K mainGlobals "InvalidShare" = some (some (.ref c_InvalidShare))) (x_InvalidShare : PySem.W.excIn K c_InvalidShare [.type "ValueError", .type "Exception", .type "BaseException", .type "object"] "ValueError.__new__" = true)
    (kp_InvalidShare : PySem.W.keepIn K (.ref c_InvalidShare) = true) (sb_InvalidShare : PySem.W.subIn K (.ref c_InvalidShare) (.type "BaseException") = some true) (ty_InvalidShare : PySem.W.typeIn K (.ref c_InvalidShare) = some (.type "type")) (ic_InvalidShare : PySem.W.isClsIn K c_InvalidShare = true)
    {c_InvalidText : Addr} (a_InvalidText : PySem.W.nsIn K mainGlobals "InvalidText" = some (some (.ref c_InvalidText)))
    {nm_InvalidText q_InvalidText N_InvalidText bs_InvalidText bm_InvalidText sn_InvalidText sub_InvalidText ab_InvalidText col_InvalidText dd_InvalidText k0_InvalidText k1_InvalidText k2_InvalidText k3_InvalidText k5_InvalidText : _} (l_InvalidText : K.lookup c_InvalidText = some (excClassObj nm_InvalidText q_InvalidText c_InvalidText N_InvalidText bs_InvalidText bm_InvalidText true sn_InvalidText sub_InvalidText ab_InvalidText col_InvalidText dd_InvalidText k0_InvalidText k1_InvalidText k2_InvalidText k3_InvalidText k5_InvalidText "ValueError.__new__")) (rb_InvalidText : PySem.HandSPX.refsVE bm_InvalidText = true)
    (sa_InvalidText : PySem.W.findIn K (.ref c_InvalidText) "__setattr__" = some (some (.builtin "object.__setattr__"))) (ga_InvalidText : PySem.W.findIn K (.ref c_InvalidText) "__getattribute__" = some (some (.builtin "BaseException.__getattribute__"))) (gg_InvalidText : PySem.W.findIn K (.ref c_InvalidText) "__getattr__" = some none) (hd_InvalidText : PySem.W.hasDictIn K c_InvalidText = true)
    {i_InvalidText : Addr} (ii_InvalidText : PySem.W.findIn K (.ref c_InvalidText) "__init__" = some (some (.ref i_InvalidText))) (it_InvalidText : PySem.W.typeIn K (.ref i_InvalidText) = some (.type "function")) (nf_InvalidText : PySem.W.findIn K (.ref c_InvalidText) "index" = some none)
    {ooc_InvalidText okV_InvalidText odc_InvalidText opm_InvalidText ocd_InvalidText oct_InvalidText : Value} {ood_InvalidText oan_InvalidText : Option Addr} {osl_InvalidText : Array (Option Value)} (fl_InvalidText : K.lookup i_InvalidText = some ⟨ooc_InvalidText, ood_InvalidText, .func (PySem.W.fnOf "__init__" "InvalidText.__init__" (defArgs s_InvalidText_init) (defBody s_InvalidText_init) (defScope s_InvalidText_init) .none okV_InvalidText odc_InvalidText opm_InvalidText oan_InvalidText ocd_InvalidText oct_InvalidText), osl_InvalidText⟩) (fc_InvalidText : PySem.W.codeIn K ocd_InvalidText "InvalidText.__init__" = true) (fk_InvalidText : PySem.W.keepIn K (.ref i_InvalidText) = true)
    (kp_InvalidText : PySem.W.keepIn K (.ref c_InvalidText) = true) (sb_InvalidText : PySem.W.subIn K (.ref c_InvalidText) (.type "BaseException") = some true) (ty_InvalidText : PySem.W.typeIn K (.ref c_InvalidText) = some (.type "type")) (ic_InvalidText : PySem.W.isClsIn K c_InvalidText = true)
    (n_all : PySem.W.nsIn K mainGlobals "all" = some none)
    (n_bool : PySem.W.nsIn K mainGlobals "bool" = some none)
    (n_int : PySem.W.nsIn K mainGlobals "int" = some none)
    (n_isinstance : PySem.W.nsIn K mainGlobals "isinstance" = some none)
    (n_len : PySem.W.nsIn K mainGlobals "len" = some none)
    (n_list : PySem.W.nsIn K mainGlobals "list" = some none)
    (n_range : PySem.W.nsIn K mainGlobals "range" = some none)
    (n_str : PySem.W.nsIn K mainGlobals "str" = some none)
    (n_sum : PySem.W.nsIn K mainGlobals "sum" = some none)
    (n_tuple : PySem.W.nsIn K mainGlobals "tuple" = some none)
    (n_type : PySem.W.nsIn K mainGlobals "type" = some none)
    {u_DEEPEST : Value} (h_DEEPEST : PySem.W.nsIn K mainGlobals "DEEPEST" = some (some u_DEEPEST)) (g_DEEPEST : ∃ t, u_DEEPEST = .int 12 t)
    {u_MOST_TUPLES : Value} (h_MOST_TUPLES : PySem.W.nsIn K mainGlobals "MOST_TUPLES" = some (some u_MOST_TUPLES)) (g_MOST_TUPLES : ∃ t, u_MOST_TUPLES = .int 63 t)
    (e_0_0 : PySem.W.subIn K (.ref c_StampError) (.ref c_StampError) = some true)
    (e_0_1 : PySem.W.subIn K (.ref c_StampError) (.ref c_InvalidShare) = some false)
    (e_0_2 : PySem.W.subIn K (.ref c_StampError) (.ref c_InvalidText) = some false)
    (e_1_0 : PySem.W.subIn K (.ref c_InvalidShare) (.ref c_StampError) = some true)
    (e_1_1 : PySem.W.subIn K (.ref c_InvalidShare) (.ref c_InvalidShare) = some true)
    (e_1_2 : PySem.W.subIn K (.ref c_InvalidShare) (.ref c_InvalidText) = some false)
    (e_2_0 : PySem.W.subIn K (.ref c_InvalidText) (.ref c_StampError) = some true)
    (e_2_1 : PySem.W.subIn K (.ref c_InvalidText) (.ref c_InvalidShare) = some false)
    (e_2_2 : PySem.W.subIn K (.ref c_InvalidText) (.ref c_InvalidText) = some true)
    : ∃ (fd : FuncData) (cv : Nat → Value), (∀ (s : Shared) (u : Value), BindsTo s fd ⟨[u], []⟩ [("script", u)]) ∧ ∀ base : Heap, K.In base → base.Ns mainGlobals mg → FnG l.prog w K mg base 120 fa fd ["script"] (SpecOf ⟨K, cv⟩ (fns 120).law) := by
  have e := hfa.symm.trans D_law.m
  cases e
  let T0 : Txt K mg := {
    R_Reader := R_Reader,
    a_tuple_count := D_tuple_count.a, d_tuple_count := D_tuple_count.d, F_tuple_count := D_tuple_count.F, m_tuple_count := D_tuple_count.m, b_tuple_count := D_tuple_count.b,
    a_is_share := D_is_share.a, d_is_share := D_is_share.d, F_is_share := D_is_share.F, m_is_share := D_is_share.m, b_is_share := D_is_share.b,
    a__is_share_tree := D__is_share_tree.a, d__is_share_tree := D__is_share_tree.d, F__is_share_tree := D__is_share_tree.F, m__is_share_tree := D__is_share_tree.m, b__is_share_tree := D__is_share_tree.b,
    a_check_share := D_check_share.a, d_check_share := D_check_share.d, F_check_share := D_check_share.F, m_check_share := D_check_share.m, b_check_share := D_check_share.b,
    a_share_text := D_share_text.a, d_share_text := D_share_text.d, F_share_text := D_share_text.F, m_share_text := D_share_text.m, b_share_text := D_share_text.b,
    a__text_of := D__text_of.a, d__text_of := D__text_of.d, F__text_of := D__text_of.F, m__text_of := D__text_of.m, b__text_of := D__text_of.b,
    a_share_told := D_share_told.a, d_share_told := D_share_told.d, F_share_told := D_share_told.F, m_share_told := D_share_told.m, b_share_told := D_share_told.b,
    a__take_share := D__take_share.a, d__take_share := D__take_share.d, F__take_share := D__take_share.F, m__take_share := D__take_share.m, b__take_share := D__take_share.b,
    a__law_cup := D__law_cup.a, d__law_cup := D__law_cup.d, F__law_cup := D__law_cup.F, m__law_cup := D__law_cup.m, b__law_cup := D__law_cup.b,
    a__law_sip := D__law_sip.a, d__law_sip := D__law_sip.d, F__law_sip := D__law_sip.F, m__law_sip := D__law_sip.m, b__law_sip := D__law_sip.b,
    a__law_same := D__law_same.a, d__law_same := D__law_same.d, F__law_same := D__law_same.F, m__law_same := D__law_same.m, b__law_same := D__law_same.b,
    a__law_share := D__law_share.a, d__law_share := D__law_share.d, F__law_share := D__law_share.F, m__law_share := D__law_share.m, b__law_share := D__law_share.b,
    a__law_long := D__law_long.a, d__law_long := D__law_long.d, F__law_long := D__law_long.F, m__law_long := D__law_long.m, b__law_long := D__law_long.b,
    a__law_is_share := D__law_is_share.a, d__law_is_share := D__law_is_share.d, F__law_is_share := D__law_is_share.F, m__law_is_share := D__law_is_share.m, b__law_is_share := D__law_is_share.b,
    a__law_size := D__law_size.a, d__law_size := D__law_size.d, F__law_size := D__law_size.F, m__law_size := D__law_size.m, b__law_size := D__law_size.b,
    a__law_bent := D__law_bent.a, d__law_bent := D__law_bent.d, F__law_bent := D__law_bent.F, m__law_bent := D__law_bent.m, b__law_bent := D__law_bent.b,
    a__law_read := D__law_read.a, d__law_read := D__law_read.d, F__law_read := D__law_read.F, m__law_read := D__law_read.m, b__law_read := D__law_read.b,
    a__law_written := D__law_written.a, d__law_written := D__law_written.d, F__law_written := D__law_written.F, m__law_written := D__law_written.m, b__law_written := D__law_written.b,
    a__law_spoilt := D__law_spoilt.a, d__law_spoilt := D__law_spoilt.d, F__law_spoilt := D__law_spoilt.F, m__law_spoilt := D__law_spoilt.m, b__law_spoilt := D__law_spoilt.b,
    a__law_told := D__law_told.a, d__law_told := D__law_told.d, F__law_told := D__law_told.F, m__law_told := D__law_told.m, b__law_told := D__law_told.b,
    a__law_refused := D__law_refused.a, d__law_refused := D__law_refused.d, F__law_refused := D__law_refused.F, m__law_refused := D__law_refused.m, b__law_refused := D__law_refused.b,
    a_law := D_law.a, d_law := D_law.d, F_law := D_law.F, m_law := D_law.m, b_law := D_law.b,
    kb_share_text_share := kbOf D_share_text.F (fun _ _ _ _ _ _ ws hl => match ws, hl with | [_], _ => rfl),
    kb_share_told_text := kbOf D_share_told.F (fun _ _ _ _ _ _ ws hl => match ws, hl with | [_], _ => rfl),
    g_DEEPEST := g_DEEPEST.elim fun t z => ⟨t, z ▸ PySem.W.mg_of X G h_DEEPEST⟩,
    g_MOST_TUPLES := g_MOST_TUPLES.elim fun t z => ⟨t, z ▸ PySem.W.mg_of X G h_MOST_TUPLES⟩,
    n_all := PySem.W.mg_none_of X G n_all,
    n_bool := PySem.W.mg_none_of X G n_bool,
    n_int := PySem.W.mg_none_of X G n_int,
    n_isinstance := PySem.W.mg_none_of X G n_isinstance,
    n_len := PySem.W.mg_none_of X G n_len,
    n_list := PySem.W.mg_none_of X G n_list,
    n_range := PySem.W.mg_none_of X G n_range,
    n_str := PySem.W.mg_none_of X G n_str,
    n_sum := PySem.W.mg_none_of X G n_sum,
    n_tuple := PySem.W.mg_none_of X G n_tuple,
    n_type := PySem.W.mg_none_of X G n_type,
    c_StampError := c_StampError, m_StampError := PySem.W.mg_of X G a_StampError, x_StampError := x_StampError, kp_StampError := kp_StampError, sb_StampError := sb_StampError, ty_StampError := ty_StampError,
    c_InvalidShare := c_InvalidShare, m_InvalidShare := PySem.W.mg_of X G a_InvalidShare, x_InvalidShare := x_InvalidShare, kp_InvalidShare := kp_InvalidShare, sb_InvalidShare := sb_InvalidShare, ty_InvalidShare := ty_InvalidShare,
    c_InvalidText := c_InvalidText, m_InvalidText := PySem.W.mg_of X G a_InvalidText, kp_InvalidText := kp_InvalidText, sb_InvalidText := sb_InvalidText, ty_InvalidText := ty_InvalidText,
    o_InvalidText := ⟨⟨_, _, _, _, _, _, _, _, _, _, _, _, _, _, _, l_InvalidText, rb_InvalidText⟩, sa_InvalidText, sb_InvalidText, ty_InvalidText, kp_InvalidText⟩, xf_InvalidText := ⟨ga_InvalidText, gg_InvalidText, sb_InvalidText, hd_InvalidText⟩,
    i_InvalidText := i_InvalidText, di_InvalidText := _, Fi_InvalidText := fun_mk fl_InvalidText fc_InvalidText fk_InvalidText, bi_InvalidText := (fun_mk fl_InvalidText fc_InvalidText fk_InvalidText).binds (fun _ _ _ _ _ _ us hl => match us, hl with | [_, _], _ => rfl), ii_InvalidText := ii_InvalidText, it_InvalidText := it_InvalidText, nf_InvalidText := nf_InvalidText }
  have cl : Clss K T0.cv 3 mt := ⟨fun c k hc hk => by
    have z_0_0 := exm_b sb_StampError ic_StampError ty_StampError e_0_0
    have z_0_1 := exm_b sb_InvalidShare ic_InvalidShare ty_InvalidShare e_0_1
    have z_0_2 := exm_b sb_InvalidText ic_InvalidText ty_InvalidText e_0_2
    have z_1_0 := exm_b sb_StampError ic_StampError ty_StampError e_1_0
    have z_1_1 := exm_b sb_InvalidShare ic_InvalidShare ty_InvalidShare e_1_1
    have z_1_2 := exm_b sb_InvalidText ic_InvalidText ty_InvalidText e_1_2
    have z_2_0 := exm_b sb_StampError ic_StampError ty_StampError e_2_0
    have z_2_1 := exm_b sb_InvalidShare ic_InvalidShare ty_InvalidShare e_2_1
    have z_2_2 := exm_b sb_InvalidText ic_InvalidText ty_InvalidText e_2_2
    match c, k, hc, hk with
    | 0, 0, _, _ => exact z_0_0
    | 0, 1, _, _ => exact z_0_1
    | 0, 2, _, _ => exact z_0_2
    | 1, 0, _, _ => exact z_1_0
    | 1, 1, _, _ => exact z_1_1
    | 1, 2, _, _ => exact z_1_2
    | 2, 0, _, _ => exact z_2_0
    | 2, 1, _, _ => exact z_2_1
    | 2, 2, _, _ => exact z_2_2
    | c + 3, _, hc, _ => exact absurd hc (by omega)
    | _, k + 3, _, hk => exact absurd hk (by omega)⟩
  let T : TxtC K mg := { T0 with cls := cl }
  refine ⟨D_law.d, T.cv, fun s u => ?_, fun base _ _ => (all_g T 120).g_law⟩
  obtain ⟨oc, od, kV, doc, pm, an, cdv, ct, osl, hfd, _, _⟩ := D_law.F.ex
  rw [hfd]
  exact .of_eq rfl
theorem law_true (ns : List Int) (h : ns.length ≤ 63) (hb : ∀ z ∈ ns, Builtin.Int.intBits z ≤ 1048576) : ∃ S, (fns 120).law [.kl (ns.map Val.int)] [] = .ok (.bl true) S := l_law ns h
theorem walk {l : PySem.W.OpenLaw} {q : Program} {loose : List Str} {XP : (Str → Option Value) → Heap → Prop} {YP : World → Heap → Prop} {d : DefRec} {K : Params → PySem.W.Frag} (hn : l.most = some 63) (hdf : d.params.defaults = [])
    (hY : ∀ (w : World) (h : Heap), YP w h → (K w.params).In h)
    (F : ∀ (w : World) (mg : Str → Option Value) (fa : Addr) (h : Heap), (K w.params).In h → h.Ns mainGlobals mg → mg d.name = some (.ref fa) →
      ∃ (fd : FuncData) (cv : Nat → Value), (∀ (s : Shared) (u : Value), BindsTo s fd ⟨[u], []⟩ [("script", u)]) ∧ ∀ base : Heap, (K w.params).In base → base.Ns mainGlobals mg → FnG l.prog w (K w.params) mg base 120 fa fd ["script"] (SpecOf ⟨K w.params, cv⟩ (fns 120).law)) :
    PySem.W.WalkO q loose XP YP l.row.toRowW d [] (fun f vs => PySem.call f vs) :=
  walk_g (n := 63) (k := 120) hn (by rw [sizeLine_eq]; decide) hdf ⟨rfl, by decide, by decide⟩ hY F law_true
end PD.K02
open PySem PySem.W PyProof.Rows
set_option maxRecDepth 100000 in
set_option maxHeartbeats 0 in
theorem PySem.Challenge.cw_heirstamps_k02_texts_of_shares_holds : PySem.Challenge.rw_heirstamps_k02_texts_of_shares.Holds := by
  w_on; o_law; k_head; (case hw => w_witness2)
  k_fill
  refine PD.K02.walk (l := PySem.Challenge.rw_heirstamps_k02_texts_of_shares) rfl rfl (fun w h Y => PySem.W.kIn_of Y) ?F
  case F =>
    intro w mg fa h KX G hmg
    have R_Reader : PD.K02.At_Reader (L2.KOf KX) mg := by
      refine' (PD.K02.mk_At_Reader KX G ?ns ?pg ?hd ?po ?sa ?mk ?kp ?na_text ?na_at ?na_depth ?na_tuples ?at___init__ ?fn___init__ ?lk___init__ ?co___init__ ?kf___init__ ?at_sees ?fn_sees ?lk_sees ?co_sees ?kf_sees ?at_take ?fn_take ?lk_take ?co_take ?kf_take ?at_begin_tuple ?fn_begin_tuple ?lk_begin_tuple ?co_begin_tuple ?kf_begin_tuple ?at_end_tuple ?fn_end_tuple ?lk_end_tuple ?co_end_tuple ?kf_end_tuple ?at_finish ?fn_finish ?lk_finish ?co_finish ?kf_finish :); (case ns => k_is); (case at___init__ => k_is); (case at_sees => k_is); (case at_take => k_is); (case at_begin_tuple => k_is); (case at_end_tuple => k_is); (case at_finish => k_is); (case pg => k_is); (case hd => k_is); (case po => k_is); (case sa => k_is); (case mk => k_is); (case kp => k_is); (case na_text => k_is); (case na_at => k_is); (case na_depth => k_is); (case na_tuples => k_is); (case fn___init__ => k_is); (case lk___init__ => k_is); (case co___init__ => k_is); (case kf___init__ => k_is); (case fn_sees => k_is); (case lk_sees => k_is); (case co_sees => k_is); (case kf_sees => k_is); (case fn_take => k_is); (case lk_take => k_is); (case co_take => k_is); (case kf_take => k_is); (case fn_begin_tuple => k_is); (case lk_begin_tuple => k_is); (case co_begin_tuple => k_is); (case kf_begin_tuple => k_is); (case fn_end_tuple => k_is); (case lk_end_tuple => k_is); (case co_end_tuple => k_is); (case kf_end_tuple => k_is); (case fn_finish => k_is); (case lk_finish => k_is); (case co_finish => k_is); (case kf_finish => k_is)
    have D_tuple_count : PD.K02.DefAt (L2.KOf KX) mg "tuple_count" PD.K02.s_tuple_count ["tree"] := by
      refine' PD.K02.mkDef KX G ?h1 ?h2 ?h3 ?h4 (fun _ _ _ _ _ _ us hl => match us, hl with | [_], _ => rfl); (case h1 => k_is); (case h2 => k_is); (case h3 => k_is); (case h4 => k_is)
    have D_is_share : PD.K02.DefAt (L2.KOf KX) mg "is_share" PD.K02.s_is_share ["value"] := by
      refine' PD.K02.mkDef KX G ?h1 ?h2 ?h3 ?h4 (fun _ _ _ _ _ _ us hl => match us, hl with | [_], _ => rfl); (case h1 => k_is); (case h2 => k_is); (case h3 => k_is); (case h4 => k_is)
    have D__is_share_tree : PD.K02.DefAt (L2.KOf KX) mg "_is_share_tree" PD.K02.s__is_share_tree ["value", "deepest"] := by
      refine' PD.K02.mkDef KX G ?h1 ?h2 ?h3 ?h4 (fun _ _ _ _ _ _ us hl => match us, hl with | [_, _], _ => rfl); (case h1 => k_is); (case h2 => k_is); (case h3 => k_is); (case h4 => k_is)
    have D_check_share : PD.K02.DefAt (L2.KOf KX) mg "check_share" PD.K02.s_check_share ["value"] := by
      refine' PD.K02.mkDef KX G ?h1 ?h2 ?h3 ?h4 (fun _ _ _ _ _ _ us hl => match us, hl with | [_], _ => rfl); (case h1 => k_is); (case h2 => k_is); (case h3 => k_is); (case h4 => k_is)
    have D_share_text : PD.K02.DefAt (L2.KOf KX) mg "share_text" PD.K02.s_share_text ["share"] := by
      refine' PD.K02.mkDef KX G ?h1 ?h2 ?h3 ?h4 (fun _ _ _ _ _ _ us hl => match us, hl with | [_], _ => rfl); (case h1 => k_is); (case h2 => k_is); (case h3 => k_is); (case h4 => k_is)
    have D__text_of : PD.K02.DefAt (L2.KOf KX) mg "_text_of" PD.K02.s__text_of ["share"] := by
      refine' PD.K02.mkDef KX G ?h1 ?h2 ?h3 ?h4 (fun _ _ _ _ _ _ us hl => match us, hl with | [_], _ => rfl); (case h1 => k_is); (case h2 => k_is); (case h3 => k_is); (case h4 => k_is)
    have D_share_told : PD.K02.DefAt (L2.KOf KX) mg "share_told" PD.K02.s_share_told ["text"] := by
      refine' PD.K02.mkDef KX G ?h1 ?h2 ?h3 ?h4 (fun _ _ _ _ _ _ us hl => match us, hl with | [_], _ => rfl); (case h1 => k_is); (case h2 => k_is); (case h3 => k_is); (case h4 => k_is)
    have D__take_share : PD.K02.DefAt (L2.KOf KX) mg "_take_share" PD.K02.s__take_share ["reader", "numbers"] := by
      refine' PD.K02.mkDef KX G ?h1 ?h2 ?h3 ?h4 (fun _ _ _ _ _ _ us hl => match us, hl with | [_, _], _ => rfl); (case h1 => k_is); (case h2 => k_is); (case h3 => k_is); (case h4 => k_is)
    have D__law_cup : PD.K02.DefAt (L2.KOf KX) mg "_law_cup" PD.K02.s__law_cup ["cell"] := by
      refine' PD.K02.mkDef KX G ?h1 ?h2 ?h3 ?h4 (fun _ _ _ _ _ _ us hl => match us, hl with | [_], _ => rfl); (case h1 => k_is); (case h2 => k_is); (case h3 => k_is); (case h4 => k_is)
    have D__law_sip : PD.K02.DefAt (L2.KOf KX) mg "_law_sip" PD.K02.s__law_sip ["cup", "many"] := by
      refine' PD.K02.mkDef KX G ?h1 ?h2 ?h3 ?h4 (fun _ _ _ _ _ _ us hl => match us, hl with | [_, _], _ => rfl); (case h1 => k_is); (case h2 => k_is); (case h3 => k_is); (case h4 => k_is)
    have D__law_same : PD.K02.DefAt (L2.KOf KX) mg "_law_same" PD.K02.s__law_same ["found", "due"] := by
      refine' PD.K02.mkDef KX G ?h1 ?h2 ?h3 ?h4 (fun _ _ _ _ _ _ us hl => match us, hl with | [_, _], _ => rfl); (case h1 => k_is); (case h2 => k_is); (case h3 => k_is); (case h4 => k_is)
    have D__law_share : PD.K02.DefAt (L2.KOf KX) mg "_law_share" PD.K02.s__law_share ["cup", "deep"] := by
      refine' PD.K02.mkDef KX G ?h1 ?h2 ?h3 ?h4 (fun _ _ _ _ _ _ us hl => match us, hl with | [_, _], _ => rfl); (case h1 => k_is); (case h2 => k_is); (case h3 => k_is); (case h4 => k_is)
    have D__law_long : PD.K02.DefAt (L2.KOf KX) mg "_law_long" PD.K02.s__law_long ["cup", "counts"] := by
      refine' PD.K02.mkDef KX G ?h1 ?h2 ?h3 ?h4 (fun _ _ _ _ _ _ us hl => match us, hl with | [_, _], _ => rfl); (case h1 => k_is); (case h2 => k_is); (case h3 => k_is); (case h4 => k_is)
    have D__law_is_share : PD.K02.DefAt (L2.KOf KX) mg "_law_is_share" PD.K02.s__law_is_share ["value", "deep"] := by
      refine' PD.K02.mkDef KX G ?h1 ?h2 ?h3 ?h4 (fun _ _ _ _ _ _ us hl => match us, hl with | [_, _], _ => rfl); (case h1 => k_is); (case h2 => k_is); (case h3 => k_is); (case h4 => k_is)
    have D__law_size : PD.K02.DefAt (L2.KOf KX) mg "_law_size" PD.K02.s__law_size ["tree"] := by
      refine' PD.K02.mkDef KX G ?h1 ?h2 ?h3 ?h4 (fun _ _ _ _ _ _ us hl => match us, hl with | [_], _ => rfl); (case h1 => k_is); (case h2 => k_is); (case h3 => k_is); (case h4 => k_is)
    have D__law_bent : PD.K02.DefAt (L2.KOf KX) mg "_law_bent" PD.K02.s__law_bent ["cup", "tree", "counts"] := by
      refine' PD.K02.mkDef KX G ?h1 ?h2 ?h3 ?h4 (fun _ _ _ _ _ _ us hl => match us, hl with | [_, _, _], _ => rfl); (case h1 => k_is); (case h2 => k_is); (case h3 => k_is); (case h4 => k_is)
    have D__law_read : PD.K02.DefAt (L2.KOf KX) mg "_law_read" PD.K02.s__law_read ["text"] := by
      refine' PD.K02.mkDef KX G ?h1 ?h2 ?h3 ?h4 (fun _ _ _ _ _ _ us hl => match us, hl with | [_], _ => rfl); (case h1 => k_is); (case h2 => k_is); (case h3 => k_is); (case h4 => k_is)
    have D__law_written : PD.K02.DefAt (L2.KOf KX) mg "_law_written" PD.K02.s__law_written ["share"] := by
      refine' PD.K02.mkDef KX G ?h1 ?h2 ?h3 ?h4 (fun _ _ _ _ _ _ us hl => match us, hl with | [_], _ => rfl); (case h1 => k_is); (case h2 => k_is); (case h3 => k_is); (case h4 => k_is)
    have D__law_spoilt : PD.K02.DefAt (L2.KOf KX) mg "_law_spoilt" PD.K02.s__law_spoilt ["cup", "text"] := by
      refine' PD.K02.mkDef KX G ?h1 ?h2 ?h3 ?h4 (fun _ _ _ _ _ _ us hl => match us, hl with | [_, _], _ => rfl); (case h1 => k_is); (case h2 => k_is); (case h3 => k_is); (case h4 => k_is)
    have D__law_told : PD.K02.DefAt (L2.KOf KX) mg "_law_told" PD.K02.s__law_told ["value"] := by
      refine' PD.K02.mkDef KX G ?h1 ?h2 ?h3 ?h4 (fun _ _ _ _ _ _ us hl => match us, hl with | [_], _ => rfl); (case h1 => k_is); (case h2 => k_is); (case h3 => k_is); (case h4 => k_is)
    have D__law_refused : PD.K02.DefAt (L2.KOf KX) mg "_law_refused" PD.K02.s__law_refused ["value"] := by
      refine' PD.K02.mkDef KX G ?h1 ?h2 ?h3 ?h4 (fun _ _ _ _ _ _ us hl => match us, hl with | [_], _ => rfl); (case h1 => k_is); (case h2 => k_is); (case h3 => k_is); (case h4 => k_is)
    have D_law : PD.K02.DefAt (L2.KOf KX) mg "law" PD.K02.s_law ["script"] := by
      refine' PD.K02.mkDef KX G ?h1 ?h2 ?h3 ?h4 (fun _ _ _ _ _ _ us hl => match us, hl with | [_], _ => rfl); (case h1 => k_is); (case h2 => k_is); (case h3 => k_is); (case h4 => k_is)
    refine' PD.K02.mk_all (l := PySem.Challenge.rw_heirstamps_k02_texts_of_shares) (w := w) KX G hmg R_Reader D_tuple_count D_is_share D__is_share_tree D_check_share D_share_text D__text_of D_share_told D__take_share D__law_cup D__law_sip D__law_same D__law_share D__law_long D__law_is_share D__law_size D__law_bent D__law_read D__law_written D__law_spoilt D__law_told D__law_refused D_law ?a_StampError ?x_StampError ?kp_StampError ?sb_StampError ?ty_StampError ?ic_StampError ?a_InvalidShare ?x_InvalidShare ?kp_InvalidShare ?sb_InvalidShare ?ty_InvalidShare ?ic_InvalidShare ?a_InvalidText ?l_InvalidText ?rb_InvalidText ?sa_InvalidText ?ga_InvalidText ?gg_InvalidText ?hd_InvalidText ?ii_InvalidText ?it_InvalidText ?nf_InvalidText ?fl_InvalidText ?fc_InvalidText ?fk_InvalidText ?kp_InvalidText ?sb_InvalidText ?ty_InvalidText ?ic_InvalidText ?n_all ?n_bool ?n_int ?n_isinstance ?n_len ?n_list ?n_range ?n_str ?n_sum ?n_tuple ?n_type ?hh_DEEPEST ?gg_DEEPEST ?hh_MOST_TUPLES ?gg_MOST_TUPLES ?e_0_0 ?e_0_1 ?e_0_2 ?e_1_0 ?e_1_1 ?e_1_2 ?e_2_0 ?e_2_1 ?e_2_2
    (case a_StampError => k_is)
    (case a_InvalidShare => k_is)
    (case a_InvalidText => k_is)
    (case x_StampError => k_exc)
    (case kp_StampError => k_is)
    (case sb_StampError => k_is)
    (case ty_StampError => k_is)
    (case ic_StampError => k_is)
    (case x_InvalidShare => k_exc)
    (case kp_InvalidShare => k_is)
    (case sb_InvalidShare => k_is)
    (case ty_InvalidShare => k_is)
    (case ic_InvalidShare => k_is)
    (case l_InvalidText => k_is)
    (case rb_InvalidText => rfl)
    (case sa_InvalidText => k_is)
    (case ga_InvalidText => k_is)
    (case gg_InvalidText => k_is)
    (case hd_InvalidText => k_is)
    (case ii_InvalidText => k_is)
    (case it_InvalidText => k_is)
    (case nf_InvalidText => k_is)
    (case fl_InvalidText => k_is)
    (case fc_InvalidText => k_is)
    (case fk_InvalidText => k_is)
    (case kp_InvalidText => k_is)
    (case sb_InvalidText => k_is)
    (case ty_InvalidText => k_is)
    (case ic_InvalidText => k_is)
    (case n_all => k_is)
    (case n_bool => k_is)
    (case n_int => k_is)
    (case n_isinstance => k_is)
    (case n_len => k_is)
    (case n_list => k_is)
    (case n_range => k_is)
    (case n_str => k_is)
    (case n_sum => k_is)
    (case n_tuple => k_is)
    (case n_type => k_is)
    (case e_0_0 => first | rfl | k_is)
    (case e_0_1 => first | rfl | k_is)
    (case e_0_2 => first | rfl | k_is)
    (case e_1_0 => first | rfl | k_is)
    (case e_1_1 => first | rfl | k_is)
    (case e_1_2 => first | rfl | k_is)
    (case e_2_0 => first | rfl | k_is)
    (case e_2_1 => first | rfl | k_is)
    (case e_2_2 => first | rfl | k_is)
    (case hh_DEEPEST => k_is)
    (case hh_MOST_TUPLES => k_is)
    (case gg_DEEPEST => exact ⟨_, rfl⟩)
    (case gg_MOST_TUPLES => exact ⟨_, rfl⟩)