import PyProof.Rows.All
import Wide.All
import OpenK.AllK
import Wide.FinOn
import HandS.ForMost
import HandS.IsInst
import HandS.TupAny
import KE.GoesEnum
import HandS.Zip
import HandS.DictComp
import HandS.Style
import HandS.Wide
import HandS.Conv
import KE.KRevSl
import PyProof.Rows.SeqMore
import HandS.Deep
import HandS.Text
import HandS.TupLen
import HandS.SortInts
import HandS.HeadHook3
import HandS.DictTup
import HandS.Small
import HandS.Flow
import HandS.Star
import HandS.Iter
import KE.KEqDict
import HandS.Base
import HandS.Call
import HandS.IntHex
import HandS.FStr
import PySem.Challenge.RW_leapwork_k81_numbers_dealt
set_option linter.all false
set_option Elab.async false
section
set_option Elab.async false
set_option maxRecDepth 100000
set_option maxHeartbeats 4000000
namespace DL
open PySem L2

abbrev D := PyData
/-- what a new or a mutable object holds -/
inductive MO where
  | lst (xs : List D) | tup (xs : List D) | dic (kvs : List (Key × D)) | dit (kvs : List (List Key × D))
def MO.isT : MO → Bool
  | .tup _ => true
  | _ => false
structure Ob where
  live : Bool
  o : MO
/-- a slot, an operand: unset, data, the j-th object of the store -/
inductive Sl where
  | un | d (x : D) | m (j : Nat)
/-- an expression's outcome: a slot's worth, or a new object that nobody holds yet -/
inductive Rt where
  | s (x : Sl) | nw (o : MO)
def kD : Key → D
  | .inl i => .int i
  | .inr x => .str x
def ksD (k : List Key) : D := .tuple (k.map kD)
def MO.toD : MO → D
  | .lst xs => .list xs
  | .tup xs => .tuple xs
  | .dic kvs => .dict (kvs.map fun p => (kD p.1, p.2))
  | .dit kvs => .dict (kvs.map fun p => (ksD p.1, p.2))
def Rt.sl : Rt → Sl
  | .s x => x
  | .nw o => .d o.toD
def MO.vw : MO → Option D
  | .tup _ => none
  | o => some o.toD
def Sl.vw (u : List Ob) : Sl → Option D
  | .un => none
  | .d x => some x
  | .m j => match u[j]? with
    | some b => b.o.vw
    | none => none

mutual
inductive Rp (K : PySem.W.Frag) (H : Hp) : V → D → Prop where
  | non : Rp K H .non .none
  | bl (b : Bool) : Rp K H (.bl b) (.bool b)
  | int (i : Int) : Rp K H (.int i) (.int i)
  | str (x : Str) : Rp K H (.str x) (.str x)
  | lst {a : Addr} {xs : List V} {ds : List D} : SqL K H a xs → RpA K H xs ds → Rp K H (.ref a) (.list ds)
  | tup {a : Addr} {xs : List V} {ds : List D} : SqT K H a xs → RpA K H xs ds → Rp K H (.ref a) (.tuple ds)
  | dic {a : Addr} {ws : List (Key × V)} {kvs : List (D × D)} : Rd H a (.dK ws) → (ws.map fun p => kD p.1) = kvs.map (·.1) → RpA K H (ws.map (·.2)) (kvs.map (·.2)) → Rp K H (.ref a) (.dict kvs)
  | dit {a : Addr} {ws : List (List Key × V)} {kvs : List (D × D)} : Rd H a (.dT ws) → (ws.map fun p => ksD p.1) = kvs.map (·.1) → RpA K H (ws.map (·.2)) (kvs.map (·.2)) → Rp K H (.ref a) (.dict kvs)
inductive RpA (K : PySem.W.Frag) (H : Hp) : List V → List D → Prop where
  | nil : RpA K H [] []
  | cons {v : V} {vs : List V} {d : D} {ds : List D} : Rp K H v d → RpA K H vs ds → RpA K H (v :: vs) (d :: ds)
end

/-- what may be read stays so -/
def Le (H H' : Hp) : Prop := ∀ a o, Rd H a o → Rd H' a o
theorem Le.refl (H : Hp) : Le H H := fun _ _ h => h
theorem Le.trans {H H1 H2 : Hp} (a : Le H H1) (b : Le H1 H2) : Le H H2 := fun x o h => b x o (a x o h)
theorem Le.of {H H' : Hp} (h : ∀ a o, H a = some o → H' a = some o) : Le H H' := fun a o r => by
  rcases r with r | ⟨b, r⟩
  · exact .inl (h _ _ r)
  · exact .inr ⟨b, h _ _ r⟩
theorem Le.sqL {K : PySem.W.Frag} {H H' : Hp} (e : Le H H') {a : Addr} {xs : List V} (h : SqL K H a xs) : SqL K H' a xs := by
  rcases h with h | h
  · exact .inl (e _ _ h)
  · exact .inr h
theorem Le.sqT {K : PySem.W.Frag} {H H' : Hp} (e : Le H H') {a : Addr} {xs : List V} (h : SqT K H a xs) : SqT K H' a xs := by
  rcases h with h | h
  · exact .inl (e _ _ h)
  · exact .inr h
theorem Le.new {H : Hp} {p : Addr} {o : HO} (h : H p = none) : Le H (upd H p o) := Le.of fun a u e => by
  rw [upd_ne (ne_of_none e h)]
  exact e
mutual
theorem Rp.mono {K : PySem.W.Frag} {H H' : Hp} (e : Le H H') : ∀ {v : V} {d : D}, Rp K H v d → Rp K H' v d
  | _, _, .non => .non
  | _, _, .bl b => .bl b
  | _, _, .int i => .int i
  | _, _, .str x => .str x
  | _, _, .lst h r => .lst (e.sqL h) (RpA.mono e r)
  | _, _, .tup h r => .tup (e.sqT h) (RpA.mono e r)
  | _, _, .dic h k r => .dic (e _ _ h) k (RpA.mono e r)
  | _, _, .dit h k r => .dit (e _ _ h) k (RpA.mono e r)
theorem RpA.mono {K : PySem.W.Frag} {H H' : Hp} (e : Le H H') : ∀ {vs : List V} {ds : List D}, RpA K H vs ds → RpA K H' vs ds
  | _, _, .nil => .nil
  | _, _, .cons h r => .cons (Rp.mono e h) (RpA.mono e r)
end
section
variable {K : PySem.W.Frag} {H H' : Hp}
theorem RpA.length : ∀ {vs : List V} {ds : List D}, RpA K H vs ds → vs.length = ds.length
  | _, _, .nil => rfl
  | _, _, .cons _ r => congrArg (· + 1) r.length
theorem RpA.append : ∀ {vs ws : List V} {ds es : List D}, RpA K H vs ds → RpA K H ws es → RpA K H (vs ++ ws) (ds ++ es)
  | _, _, _, _, .nil, s => s
  | _, _, _, _, .cons h r, s => .cons h (RpA.append r s)
theorem RpA.get : ∀ {vs : List V} {ds : List D} (i : Nat) {x : D}, RpA K H vs ds → ds[i]? = some x → ∃ v, vs[i]? = some v ∧ Rp K H v x
  | _, _, _, _, .nil, e => by simp at e
  | _, _, 0, _, .cons h _, e => by simp at e; subst e; exact ⟨_, rfl, h⟩
  | _, _, i + 1, x, .cons _ r, e => by
    obtain ⟨v, h1, h2⟩ := RpA.get i r (by simpa using e)
    exact ⟨v, by simpa using h1, h2⟩
theorem RpA.getV : ∀ {vs : List V} {ds : List D} (i : Nat) {v : V}, RpA K H vs ds → vs[i]? = some v → ∃ x, ds[i]? = some x ∧ Rp K H v x
  | _, _, _, _, .nil, e => by simp at e
  | _, _, 0, _, .cons h _, e => by simp at e; subst e; exact ⟨_, rfl, h⟩
  | _, _, i + 1, x, .cons _ r, e => by
    obtain ⟨v, h1, h2⟩ := RpA.getV i r (by simpa using e)
    exact ⟨v, by simpa using h1, h2⟩
theorem RpA.set : ∀ {vs : List V} {ds : List D} (i : Nat) {v : V} {x : D}, RpA K H vs ds → Rp K H v x → RpA K H (vs.set i v) (ds.set i x)
  | _, _, _, _, _, .nil, _ => .nil
  | _, _, 0, _, _, .cons _ r, q => .cons q r
  | _, _, i + 1, _, _, .cons h r, q => .cons h (RpA.set i r q)
theorem RpA.take : ∀ {vs : List V} {ds : List D} (n : Nat), RpA K H vs ds → RpA K H (vs.take n) (ds.take n)
  | _, _, 0, _ => .nil
  | _, _, _ + 1, .nil => .nil
  | _, _, n + 1, .cons h r => .cons h (RpA.take n r)
theorem RpA.drop : ∀ {vs : List V} {ds : List D} (n : Nat), RpA K H vs ds → RpA K H (vs.drop n) (ds.drop n)
  | _, _, 0, r => r
  | _, _, _ + 1, .nil => .nil
  | _, _, n + 1, .cons _ r => RpA.drop n r
theorem RpA.reverse {vs : List V} {ds : List D} (h : RpA K H vs ds) : RpA K H vs.reverse ds.reverse := by
  induction vs generalizing ds with
  | nil => cases h; exact .nil
  | cons v r ih =>
    cases h with
    | cons h t =>
      rw [List.reverse_cons, List.reverse_cons]
      exact (ih t).append (.cons h .nil)
theorem RpA.nil_iff {vs : List V} {ds : List D} (h : RpA K H vs ds) : vs = [] ↔ ds = [] := by
  cases h <;> simp
end

/-! ### the store -/
def hid (A : List Addr) (u : List Ob) (a : Addr) : Prop := ∃ (j : Nat) (b : Ob), A[j]? = some a ∧ u[j]? = some b ∧ b.live = true
open Classical in
noncomputable def vis (A : List Addr) (u : List Ob) (H : Hp) : Hp := fun a => if hid A u a then none else H a
section
variable {K : PySem.W.Frag} {A A' B : List Addr} {u u' w : List Ob} {H H' H1 : Hp}
theorem vis_of {a : Addr} (h : ¬ hid A u a) : vis A u H a = H a := by
  classical
  unfold vis; rw [if_neg h]
theorem vis_hid {a : Addr} (h : hid A u a) : vis A u H a = none := by
  classical
  unfold vis; rw [if_pos h]
theorem vis_some {a : Addr} {o : HO} (h : vis A u H a = some o) : ¬ hid A u a ∧ H a = some o := by
  classical
  by_cases q : hid A u a
  · rw [vis_hid q] at h; cases h
  · rw [vis_of q] at h; exact ⟨q, h⟩
theorem vis_le : Le (vis A u H) H := Le.of fun _ _ e => (vis_some e).2
theorem vis_rd {a : Addr} {o : HO} (h : Rd (vis A u H) a o) : ¬ hid A u a ∧ Rd H a o := by
  rcases h with h | ⟨b, h⟩
  · exact ⟨(vis_some h).1, .inl (vis_some h).2⟩
  · exact ⟨(vis_some h).1, .inr ⟨b, (vis_some h).2⟩⟩
theorem rd_vis {a : Addr} {o : HO} (n : ¬ hid A u a) (h : Rd H a o) : Rd (vis A u H) a o := by
  rcases h with h | ⟨b, h⟩
  · exact .inl (by rw [vis_of n]; exact h)
  · exact .inr ⟨b, by rw [vis_of n]; exact h⟩
def ObC (K : PySem.W.Frag) (Hv : Hp) : HO → MO → Prop
  | .lst vs, .lst xs => RpA K Hv vs xs
  | .tup vs, .tup xs => RpA K Hv vs xs
  | .dK ws, .dic kvs => ws.map (·.1) = kvs.map (·.1) ∧ RpA K Hv (ws.map (·.2)) (kvs.map (·.2))
  | .dT ws, .dit kvs => ws.map (·.1) = kvs.map (·.1) ∧ RpA K Hv (ws.map (·.2)) (kvs.map (·.2))
  | _, _ => False
theorem ObC.mono {Hv Hv' : Hp} (e : Le Hv Hv') : ∀ {o : HO} {m : MO}, ObC K Hv o m → ObC K Hv' o m := fun {o m} h => by
  cases o <;> cases m <;> first | exact (show False from h).elim | exact RpA.mono e h | exact ⟨h.1, RpA.mono e h.2⟩
structure Store (K : PySem.W.Frag) (A : List Addr) (u : List Ob) (H : Hp) : Prop where
  len : A.length = u.length
  nd : A.Nodup
  nt : ∀ (j : Nat) (x : Ob), u[j]? = some x → x.live = true → x.o.isT = false
  ob : ∀ (j : Nat) (a : Addr) (x : Ob), A[j]? = some a → u[j]? = some x → ∃ o, Rd H a o ∧ (x.live = true → H a = some o) ∧ ObC K (vis A u H) o x.o
def RV (K : PySem.W.Frag) (A : List Addr) (Hv : Hp) : V → Sl → Prop
  | _, .un => False
  | v, .d x => Rp K Hv v x
  | v, .m j => ∃ a, A[j]? = some a ∧ v = .ref a
structure Step (A : List Addr) (u : List Ob) (H : Hp) (A' : List Addr) (u' : List Ob) (H' : Hp) : Prop where
  pre : ∃ B, A' = A ++ B
  keep : Le (vis A u H) (vis A' u' H')
  dom : ∀ a, H' a = none → H a = none
  fr : ∀ a o x, H a = some (.frz o x) → H' a = some (.frz o x)
theorem rd_dom {a : Addr} {o : HO} (h : Rd H a o) : H a ≠ none := by
  rcases h with h | ⟨_, h⟩ <;> (rw [h]; exact fun z => nomatch z)
theorem rd_upd {a p : Addr} {o x : HO} (h : Rd H a o) (n : a ≠ p) : Rd (upd H p x) a o := by
  rcases h with h | ⟨y, h⟩
  · exact .inl (by rw [upd_ne n]; exact h)
  · exact .inr ⟨y, by rw [upd_ne n]; exact h⟩
theorem Step.refl : Step A u H A u H := ⟨⟨[], by simp⟩, Le.refl _, fun _ h => h, fun _ _ _ h => h⟩
theorem Step.trans {A1 A2 : List Addr} {u1 u2 : List Ob} {H2 : Hp} (a : Step A u H A1 u1 H1) (b : Step A1 u1 H1 A2 u2 H2) : Step A u H A2 u2 H2 := by
  obtain ⟨B1, e1⟩ := a.pre
  obtain ⟨B2, e2⟩ := b.pre
  exact ⟨⟨B1 ++ B2, by rw [e2, e1, List.append_assoc]⟩, a.keep.trans b.keep, fun x h => a.dom x (b.dom x h), fun x o y h => b.fr x o y (a.fr x o y h)⟩
theorem Step.at (s : Step A u H A' u' H') {j : Nat} {a : Addr} (h : A[j]? = some a) : A'[j]? = some a := by
  obtain ⟨B, e⟩ := s.pre
  obtain ⟨hl, _⟩ := List.getElem?_eq_some_iff.mp h
  rw [e, List.getElem?_append_left hl]
  exact h
theorem Step.rv (s : Step A u H A' u' H') {v : V} {x : Sl} (h : RV K A (vis A u H) v x) : RV K A' (vis A' u' H') v x := by
  cases x with
  | un => exact h
  | d x => exact Rp.mono s.keep h
  | m j => obtain ⟨a, e, r⟩ := h; exact ⟨a, s.at e, r⟩
structure Slots (K : PySem.W.Frag) (A : List Addr) (Hv : Hp) (ρ : List Sl) (σ : L2.St) : Prop where
  len : ρ.length = σ.length
  get : ∀ (i : Nat) (s : Sl), ρ[i]? = some s → s = .un ∨ ∃ v, σ[i]? = some (some v) ∧ RV K A Hv v s
theorem Step.slots (s : Step A u H A' u' H') {ρ : List Sl} {σ : L2.St} (h : Slots K A (vis A u H) ρ σ) : Slots K A' (vis A' u' H') ρ σ :=
  ⟨h.len, fun i x e => (h.get i x e).imp id fun ⟨v, q, r⟩ => ⟨v, q, s.rv r⟩⟩
/-- the same hidden addresses, a heap that grew -/
theorem hid_nodup (S : Store K A u H) {j : Nat} {a : Addr} {b : Ob} (h1 : A[j]? = some a) (h2 : u[j]? = some b) : hid A u a ↔ b.live = true := by
  constructor
  · rintro ⟨k, c, h3, h4, h5⟩
    have e : k = j := nodup_idx S.nd h3 h1
    subst e
    rw [h2] at h4; cases h4
    exact h5
  · intro h
    exact ⟨j, b, h1, h2, h⟩
where
  nodup_idx {α : Type} {N : List α} (hN : N.Nodup) {i j : Nat} {x : α} (a : N[i]? = some x) (b : N[j]? = some x) : i = j := by
    obtain ⟨h1, e1⟩ := List.getElem?_eq_some_iff.mp a
    obtain ⟨h2, e2⟩ := List.getElem?_eq_some_iff.mp b
    exact (List.getElem_inj hN).mp (e1.trans e2.symm)
theorem hid_dom (S : Store K A u H) {a : Addr} (h : hid A u a) : H a ≠ none := by
  obtain ⟨j, b, h1, h2, _⟩ := h
  obtain ⟨o, e, _⟩ := S.ob j a b h1 h2
  exact rd_dom e
theorem A_dom (S : Store K A u H) {a : Addr} (h : a ∈ A) : H a ≠ none := by
  obtain ⟨j, hj⟩ := List.getElem?_of_mem h
  have hl : j < u.length := by
    rw [← S.len]
    exact (List.getElem?_eq_some_iff.mp hj).1
  obtain ⟨o, e, _⟩ := S.ob j a u[j] hj (List.getElem?_eq_getElem hl)
  exact rd_dom e
/-- a new visible object -/
theorem Store.new (S : Store K A u H) {p : Addr} {o : HO} (hp : H p = none) : Store K A u (upd H p o) ∧ Step A u H A u (upd H p o) := by
  have le : Le (vis A u H) (vis A u (upd H p o)) := fun a x r => by
    obtain ⟨n, r⟩ := vis_rd r
    exact rd_vis n (Le.new hp _ _ r)
  refine ⟨⟨S.len, S.nd, S.nt, fun j a x h1 h2 => ?_⟩, ⟨⟨[], by simp⟩, le, fun a h => ?_, fun a o x h => by rw [upd_ne (ne_of_none h hp)]; exact h⟩⟩
  · obtain ⟨q, e, l, c⟩ := S.ob j a x h1 h2
    have np : a ≠ p := fun z => rd_dom e (by rw [z]; exact hp)
    exact ⟨q, rd_upd e np, fun hl => by rw [upd_ne np]; exact l hl, c.mono le⟩
  · by_cases e : a = p
    · rw [e]; exact hp
    · rw [upd_ne e] at h; exact h
theorem not_hid_new (S : Store K A u H) {p : Addr} (hp : H p = none) : ¬ hid A u p := fun h => hid_dom S h hp
/-- a new object that the store takes over, hidden -/
theorem hid_snoc {p : Addr} {b : Ob} (hl : A.length = u.length) {a : Addr} : hid (A ++ [p]) (u ++ [b]) a ↔ hid A u a ∨ (a = p ∧ b.live = true) := by
  constructor
  · rintro ⟨j, c, h1, h2, h3⟩
    by_cases hj : j < A.length
    · rw [List.getElem?_append_left hj] at h1
      rw [List.getElem?_append_left (by omega)] at h2
      exact .inl ⟨j, c, h1, h2, h3⟩
    · rw [List.getElem?_append_right (by omega)] at h1
      rw [List.getElem?_append_right (by omega)] at h2
      have e : j - A.length = 0 := by
        have := (List.getElem?_eq_some_iff.mp h1).1
        simp at this; omega
      rw [e] at h1
      rw [← hl, e] at h2
      simp at h1 h2
      subst h1 h2
      exact .inr ⟨rfl, h3⟩
  · rintro (⟨j, c, h1, h2, h3⟩ | ⟨rfl, h3⟩)
    · have hj := (List.getElem?_eq_some_iff.mp h1).1
      have hj2 := (List.getElem?_eq_some_iff.mp h2).1
      exact ⟨j, c, by rw [List.getElem?_append_left hj]; exact h1, by rw [List.getElem?_append_left hj2]; exact h2, h3⟩
    · exact ⟨A.length, b, by rw [List.getElem?_append_right (Nat.le_refl _)]; simp, by rw [hl, List.getElem?_append_right (Nat.le_refl _)]; simp, h3⟩
theorem Store.own (S : Store K A u H) {p : Addr} {o : HO} {mo : MO} (hp : H p = none) (hT : mo.isT = false) (c : ObC K (vis A u H) o mo) :
    Store K (A ++ [p]) (u ++ [⟨true, mo⟩]) (upd H p o) ∧ Step A u H (A ++ [p]) (u ++ [⟨true, mo⟩]) (upd H p o) := by
  have le : Le (vis A u H) (vis (A ++ [p]) (u ++ [⟨true, mo⟩]) (upd H p o)) := fun a x r => by
    obtain ⟨n, r⟩ := vis_rd r
    refine rd_vis (fun h => ?_) (Le.new hp _ _ r)
    rcases (hid_snoc S.len).mp h with h | ⟨rfl, _⟩
    · exact n h
    · rcases r with r | ⟨_, r⟩ <;> (rw [hp] at r; cases r)
  refine ⟨⟨by rw [List.length_append, List.length_append, S.len]; rfl, ?_, fun j x h hl => ?_, fun j a x h1 h2 => ?_⟩, ⟨⟨[p], rfl⟩, le, fun a h => ?_, fun a o x h => by rw [upd_ne (ne_of_none h hp)]; exact h⟩⟩
  · rw [List.nodup_append]
    refine ⟨S.nd, by simp, fun a ha b hb e => ?_⟩
    simp at hb
    subst hb e
    exact A_dom S ha hp
  · by_cases hj : j < u.length
    · rw [List.getElem?_append_left hj] at h
      exact S.nt j x h hl
    · rw [List.getElem?_append_right (by omega)] at h
      have hm : x ∈ [(⟨true, mo⟩ : Ob)] := List.mem_of_getElem? h
      rw [List.mem_singleton] at hm
      rw [hm]; exact hT
  · by_cases hj : j < A.length
    · rw [List.getElem?_append_left hj] at h1
      rw [List.getElem?_append_left (by rw [← S.len]; exact hj)] at h2
      obtain ⟨q, e, l, c⟩ := S.ob j a x h1 h2
      have np : a ≠ p := fun z => rd_dom e (by rw [z]; exact hp)
      exact ⟨q, rd_upd e np, fun hl => by rw [upd_ne np]; exact l hl, c.mono le⟩
    · rw [List.getElem?_append_right (by omega)] at h1
      rw [List.getElem?_append_right (by rw [← S.len]; omega)] at h2
      have e : j - A.length = 0 := by
        have := (List.getElem?_eq_some_iff.mp h1).1
        simp at this; omega
      rw [e] at h1
      rw [← S.len, e] at h2
      simp at h1 h2
      subst h1 h2
      exact ⟨o, .inl upd_same, fun _ => upd_same, c.mono le⟩
  · by_cases e : a = p
    · rw [e]; exact hp
    · rw [upd_ne e] at h; exact h
theorem getElem?_set_cases {α : Type} {l : List α} {i j : Nat} {y x : α} (h : (l.set i y)[j]? = some x) : (j = i ∧ x = y) ∨ (j ≠ i ∧ l[j]? = some x) := by
  by_cases e : j = i
  · subst e
    have hl : j < l.length := by
      have := (List.getElem?_eq_some_iff.mp h).1
      rw [List.length_set] at this; exact this
    rw [List.getElem?_set_self hl] at h
    exact .inl ⟨rfl, (Option.some.inj h).symm⟩
  · rw [List.getElem?_set_ne (Ne.symm e)] at h
    exact .inr ⟨e, h⟩
/-- a live object is written -/
theorem Store.write (S : Store K A u H) {j : Nat} {a : Addr} {b : Ob} {o : HO} {mo : MO} (h1 : A[j]? = some a) (h2 : u[j]? = some b) (hb : b.live = true) (hT : mo.isT = false) (c : ObC K (vis A u H) o mo) :
    Store K A (u.set j ⟨true, mo⟩) (upd H a o) ∧ Step A u H A (u.set j ⟨true, mo⟩) (upd H a o) := by
  have hh : ∀ x, hid A (u.set j ⟨true, mo⟩) x ↔ hid A u x := fun x => by
    constructor
    · rintro ⟨k, d, e1, e2, e3⟩
      rcases getElem?_set_cases e2 with ⟨rfl, rfl⟩ | ⟨_, e2⟩
      · exact ⟨k, b, e1, h2, hb⟩
      · exact ⟨k, d, e1, e2, e3⟩
    · rintro ⟨k, d, e1, e2, e3⟩
      by_cases e : k = j
      · subst e
        exact ⟨k, ⟨true, mo⟩, e1, List.getElem?_set_self (List.getElem?_eq_some_iff.mp e2).1, rfl⟩
      · exact ⟨k, d, e1, by rw [List.getElem?_set_ne (Ne.symm e)]; exact e2, e3⟩
  have ha : hid A u a := ⟨j, b, h1, h2, hb⟩
  have le : Le (vis A u H) (vis A (u.set j ⟨true, mo⟩) (upd H a o)) := fun x q r => by
    obtain ⟨n, r⟩ := vis_rd r
    refine rd_vis (fun h => n ((hh x).mp h)) ?_
    have ne : x ≠ a := fun e => n (by rw [e]; exact ha)
    rcases r with r | ⟨y, r⟩
    · exact .inl (by rw [upd_ne ne]; exact r)
    · exact .inr ⟨y, by rw [upd_ne ne]; exact r⟩
  refine ⟨⟨by rw [List.length_set]; exact S.len, S.nd, fun k x h hl => ?_, fun k x y e1 e2 => ?_⟩, ⟨⟨[], by simp⟩, le, fun x h => ?_, fun x q y h => ?_⟩⟩
  · rcases getElem?_set_cases h with ⟨_, rfl⟩ | ⟨_, h⟩
    · exact hT
    · exact S.nt k x h hl
  · rcases getElem?_set_cases e2 with ⟨rfl, rfl⟩ | ⟨ne, e2⟩
    · rw [h1] at e1; cases e1
      exact ⟨o, .inl upd_same, fun _ => upd_same, c.mono le⟩
    · obtain ⟨q, e, l, c'⟩ := S.ob k x y e1 e2
      have nx : x ≠ a := fun z => ne (hid_nodup.nodup_idx S.nd (z ▸ e1) h1)
      exact ⟨q, rd_upd e nx, fun hl => by rw [upd_ne nx]; exact l hl, c'.mono le⟩
  · by_cases e : x = a
    · rw [e, upd_same] at h; cases h
    · rw [upd_ne e] at h; exact h
  · have nx : x ≠ a := fun z => by
      subst z
      obtain ⟨o0, _, l0, c0⟩ := S.ob j x b h1 h2
      rw [l0 hb] at h; cases h
      cases q2 : b.o <;> rw [q2] at c0 <;> exact (show False from c0).elim
    rw [upd_ne nx]; exact h
/-- a live object is not written any more -/
theorem Store.freeze (S : Store K A u H) {j : Nat} {a : Addr} {b : Ob} (h1 : A[j]? = some a) (h2 : u[j]? = some b) :
    Store K A (u.set j ⟨false, b.o⟩) H ∧ Step A u H A (u.set j ⟨false, b.o⟩) H ∧ ¬ hid A (u.set j ⟨false, b.o⟩) a := by
  have hh : ∀ x, hid A (u.set j ⟨false, b.o⟩) x → hid A u x ∧ x ≠ a := fun x => by
    rintro ⟨k, d, e1, e2, e3⟩
    rcases getElem?_set_cases e2 with ⟨rfl, rfl⟩ | ⟨ne, e2⟩
    · cases e3
    · exact ⟨⟨k, d, e1, e2, e3⟩, fun z => ne (hid_nodup.nodup_idx S.nd (z ▸ e1) h1)⟩
  have le : Le (vis A u H) (vis A (u.set j ⟨false, b.o⟩) H) := fun x q r => by
    obtain ⟨n, r⟩ := vis_rd r
    exact rd_vis (fun h => n (hh x h).1) r
  refine ⟨⟨by rw [List.length_set]; exact S.len, S.nd, fun k x h hl => ?_, fun k x y e1 e2 => ?_⟩, ⟨⟨[], by simp⟩, le, fun _ h => h, fun _ _ _ h => h⟩, fun h => (hh a h).2 rfl⟩
  · rcases getElem?_set_cases h with ⟨_, rfl⟩ | ⟨_, h⟩
    · cases hl
    · exact S.nt k x h hl
  rcases getElem?_set_cases e2 with ⟨rfl, rfl⟩ | ⟨ne, e2⟩
  · obtain ⟨q, e, l, c⟩ := S.ob k x b e1 h2
    exact ⟨q, e, fun z => (nomatch z), c.mono le⟩
  · obtain ⟨q, e, l, c⟩ := S.ob k x y e1 e2
    exact ⟨q, e, l, c.mono le⟩
/-- the store is cut: what is left out may be seen again -/
theorem hid_take {n : Nat} {a : Addr} (h : hid (A.take n) (u.take n) a) : hid A u a := by
  obtain ⟨j, b, h1, h2, h3⟩ := h
  have hj : j < n := by
    have := (List.getElem?_eq_some_iff.mp h1).1
    rw [List.length_take] at this; omega
  rw [List.getElem?_take_of_lt hj] at h1 h2
  exact ⟨j, b, h1, h2, h3⟩
theorem Store.cut (S : Store K A u H) (n : Nat) : Store K (A.take n) (u.take n) H ∧ Le (vis A u H) (vis (A.take n) (u.take n) H) := by
  have le : Le (vis A u H) (vis (A.take n) (u.take n) H) := fun x q r => by
    obtain ⟨m, r⟩ := vis_rd r
    exact rd_vis (fun h => m (hid_take h)) r
  refine ⟨⟨by rw [List.length_take, List.length_take, S.len], S.nd.sublist (List.take_sublist _ _), fun j x h hl => ?_, fun j a x h1 h2 => ?_⟩, le⟩
  · have hj : j < n := by
      have := (List.getElem?_eq_some_iff.mp h).1
      rw [List.length_take] at this; omega
    rw [List.getElem?_take_of_lt hj] at h
    exact S.nt j x h hl
  have hj : j < n := by
    have := (List.getElem?_eq_some_iff.mp h1).1
    rw [List.length_take] at this; omega
  rw [List.getElem?_take_of_lt hj] at h1 h2
  obtain ⟨q, e, l, c⟩ := S.ob j a x h1 h2
  exact ⟨q, e, l, c.mono le⟩
/-- what is a tuple is seen -/
theorem Store.tup (S : Store K A u H) {a : Addr} {ts : List V} (h : H a = some (.tup ts)) : vis A u H a = some (.tup ts) := by
  rw [vis_of]
  · exact h
  · rintro ⟨j, b, h1, h2, h3⟩
    obtain ⟨o, -, l, c⟩ := S.ob j a b h1 h2
    have e := l h3
    rw [h] at e; cases e
    have := S.nt j b h2 h3
    cases q : b.o <;> rw [q] at c this <;> first | exact (show False from c).elim | cases this
theorem ObC.rp {Hv : Hp} {p : Addr} {o : HO} {mo : MO} (c : ObC K Hv o mo) {H2 : Hp} (le : Le Hv H2) (hp : Rd H2 p o) : Rp K H2 (.ref p) mo.toD := by
  cases mo with
  | lst xs =>
    cases o <;> first | exact (show False from c).elim | skip
    exact .lst (.inl hp) (RpA.mono le c)
  | tup xs =>
    cases o <;> first | exact (show False from c).elim | skip
    exact .tup (.inl hp) (RpA.mono le c)
  | dic kvs =>
    cases o <;> first | exact (show False from c).elim | skip
    obtain ⟨c1, c2⟩ := c
    refine .dic hp ?_ ?_
    · rw [List.map_map]
      have := congrArg (List.map kD) c1
      rw [List.map_map, List.map_map] at this
      exact this
    · rw [List.map_map]; exact RpA.mono le c2
  | dit kvs =>
    cases o <;> first | exact (show False from c).elim | skip
    obtain ⟨c1, c2⟩ := c
    refine .dit hp ?_ ?_
    · rw [List.map_map]
      have := congrArg (List.map ksD) c1
      rw [List.map_map, List.map_map] at this
      exact this
    · rw [List.map_map]; exact RpA.mono le c2

/-! ### what an expression's outcome says -/
def Post (K : PySem.W.Frag) (A : List Addr) (u : List Ob) (H : Hp) (r : Rt) (u' : List Ob) (v : V) (H' : Hp) : Prop :=
  match r with
  | .s x => ∃ A', Step A u H A' u' H' ∧ Store K A' u' H' ∧ RV K A' (vis A' u' H') v x
  | .nw mo => ∃ A' H1 p o, Step A u H A' u' H1 ∧ Store K A' u' H1 ∧ H1 p = none ∧ v = .ref p ∧ H' = upd H1 p o ∧ ObC K (vis A' u' H1) o mo
/-- held as a slot's worth -/
theorem Post.ret {r : Rt} {v : V} (h : Post K A u H r u' v H') : ∃ A', Step A u H A' u' H' ∧ Store K A' u' H' ∧ RV K A' (vis A' u' H') v r.sl := by
  cases r with
  | s x => exact h
  | nw mo =>
    obtain ⟨A', H1, p, o, st, S, hp, rfl, rfl, c⟩ := h
    obtain ⟨S2, st2⟩ := S.new (o := o) hp
    refine ⟨A', st.trans st2, S2, ?_⟩
    exact c.rp st2.keep (rd_vis (not_hid_new S hp) (.inl upd_same))
theorem Post.trans {A1 : List Addr} {u1 : List Ob} {H2 : Hp} {r : Rt} {v : V} (a : Step A u H A1 u1 H1) (h : Post K A1 u1 H1 r u' v H2) : Post K A u H r u' v H2 := by
  cases r with
  | s x => obtain ⟨A', st, h⟩ := h; exact ⟨A', a.trans st, h⟩
  | nw mo =>
    obtain ⟨A', H3, p, o, st, h⟩ := h
    exact ⟨A', H3, p, o, a.trans st, h⟩
end
end DL
end

section
set_option Elab.async false
set_option maxRecDepth 100000
set_option maxHeartbeats 4000000
namespace DL
open PySem L2

abbrev DE := List Sl → List Ob → Option (Rt × List Ob)
abbrev DT := List Sl → List Ob → Option (Bool × List Ob)
abbrev DA := List Sl → List Ob → Option (List Sl × List Ob)
def RVs (K : PySem.W.Frag) (A : List Addr) (Hv : Hp) : List V → List Sl → Prop
  | [], [] => True
  | v :: vs, s :: ss => RV K A Hv v s ∧ RVs K A Hv vs ss
  | _, _ => False
def PostT (K : PySem.W.Frag) (A : List Addr) (u : List Ob) (H : Hp) (u' : List Ob) (H' : Hp) : Prop := ∃ A', Step A u H A' u' H' ∧ Store K A' u' H'
def PostA (K : PySem.W.Frag) (A : List Addr) (u : List Ob) (H : Hp) (ss : List Sl) (u' : List Ob) (vs : List V) (H' : Hp) : Prop :=
  ∃ A', Step A u H A' u' H' ∧ Store K A' u' H' ∧ RVs K A' (vis A' u' H') vs ss
def LE (K : PySem.W.Frag) (te : TE) (de : DE) : Prop := ∀ (A : List Addr) (ρ : List Sl) (u : List Ob) (r : Rt) (u' : List Ob), de ρ u = some (r, u') →
  ∀ (σ : L2.St) (H : Hp), Store K A u H → Slots K A (vis A u H) ρ σ → ∀ Q : VK, (∀ v H', Post K A u H r u' v H' → Q v H') → te σ H Q
def LT (K : PySem.W.Frag) (tt : TT) (dt : DT) : Prop := ∀ (A : List Addr) (ρ : List Sl) (u : List Ob) (b : Bool) (u' : List Ob), dt ρ u = some (b, u') →
  ∀ (σ : L2.St) (H : Hp), Store K A u H → Slots K A (vis A u H) ρ σ → ∀ Q : Bool → Hp → Prop, (∀ H', PostT K A u H u' H' → Q b H') → tt σ H Q
def LA (K : PySem.W.Frag) (ta : TA) (da : DA) : Prop := ∀ (A : List Addr) (ρ : List Sl) (u : List Ob) (ss : List Sl) (u' : List Ob), da ρ u = some (ss, u') →
  ∀ (σ : L2.St) (H : Hp), Store K A u H → Slots K A (vis A u H) ρ σ → ∀ Q : List V → Hp → Prop, (∀ vs H', PostA K A u H ss u' vs H' → Q vs H') → ta σ H Q

/-! ### views of operands -/
def Rq (K : PySem.W.Frag) (Hv H : Hp) (v : V) (x : D) : Prop := Rp K Hv v x ∨ ∃ a o mo, v = .ref a ∧ Rd H a o ∧ ObC K Hv o mo ∧ MO.vw mo = some x
section
variable {K : PySem.W.Frag} {Hv H : Hp} {v : V} {x : D}
theorem Rq.list {ds : List D} (le : Le Hv H) (h : Rq K Hv H v (.list ds)) : ∃ a xs, v = .ref a ∧ SqL K H a xs ∧ RpA K Hv xs ds := by
  rcases h with h | ⟨a, o, mo, rfl, e, c, q⟩
  · cases h with
    | lst s r => exact ⟨_, _, rfl, le.sqL s, r⟩
  · cases mo <;> cases q
    cases o <;> first | exact (show False from c).elim | exact ⟨_, _, rfl, .inl e, c⟩
theorem Rq.tupleV {ds : List D} (h : Rq K Hv H v (.tuple ds)) : Rp K Hv v (.tuple ds) := by
  rcases h with h | ⟨a, o, mo, rfl, e, c, q⟩
  · exact h
  · cases mo <;> cases q
theorem Rq.tuple {ds : List D} (le : Le Hv H) (h : Rq K Hv H v (.tuple ds)) : ∃ a xs, v = .ref a ∧ SqT K H a xs ∧ RpA K Hv xs ds := by
  cases h.tupleV with
  | tup s r => exact ⟨_, _, rfl, le.sqT s, r⟩
theorem Rq.dict {kvs : List (D × D)} (le : Le Hv H) (h : Rq K Hv H v (.dict kvs)) : ∃ a, v = .ref a ∧
    ((∃ ws : List (Key × V), Rd H a (.dK ws) ∧ (ws.map fun p => kD p.1) = kvs.map (·.1) ∧ RpA K Hv (ws.map (·.2)) (kvs.map (·.2))) ∨
     (∃ ws : List (List Key × V), Rd H a (.dT ws) ∧ (ws.map fun p => ksD p.1) = kvs.map (·.1) ∧ RpA K Hv (ws.map (·.2)) (kvs.map (·.2)))) := by
  rcases h with h | ⟨a, o, mo, rfl, e, c, q⟩
  · cases h with
    | dic s k r => exact ⟨_, rfl, .inl ⟨_, le _ _ s, k, r⟩⟩
    | dit s k r => exact ⟨_, rfl, .inr ⟨_, le _ _ s, k, r⟩⟩
  · cases mo <;> cases q
    · cases o <;> first | exact (show False from c).elim | skip
      obtain ⟨c1, c2⟩ := c
      refine ⟨_, rfl, .inl ⟨_, e, ?_, ?_⟩⟩
      · rw [List.map_map]
        have := congrArg (List.map kD) c1
        rw [List.map_map, List.map_map] at this
        exact this
      · rw [List.map_map]; exact c2
    · cases o <;> first | exact (show False from c).elim | skip
      obtain ⟨c1, c2⟩ := c
      refine ⟨_, rfl, .inr ⟨_, e, ?_, ?_⟩⟩
      · rw [List.map_map]
        have := congrArg (List.map ksD) c1
        rw [List.map_map, List.map_map] at this
        exact this
      · rw [List.map_map]; exact c2
theorem Rq.int {i : Int} (h : Rq K Hv H v (.int i)) : v = .int i := by
  rcases h with h | ⟨a, o, mo, rfl, e, c, q⟩
  · cases h; rfl
  · cases mo <;> cases q
theorem Rq.str {i : Str} (h : Rq K Hv H v (.str i)) : v = .str i := by
  rcases h with h | ⟨a, o, mo, rfl, e, c, q⟩
  · cases h; rfl
  · cases mo <;> cases q
theorem Rq.bool {i : Bool} (h : Rq K Hv H v (.bool i)) : v = .bl i := by
  rcases h with h | ⟨a, o, mo, rfl, e, c, q⟩
  · cases h; rfl
  · cases mo <;> cases q
theorem Rq.none (h : Rq K Hv H v .none) : v = .non := by
  rcases h with h | ⟨a, o, mo, rfl, e, c, q⟩
  · cases h; rfl
  · cases mo <;> cases q
theorem Rq.of (h : Rp K Hv v x) : Rq K Hv H v x := .inl h
theorem RV.vw {A : List Addr} {u : List Ob} {s : Sl} (S : Store K A u H) (h : RV K A (vis A u H) v s) (e : s.vw u = some x) : Rq K (vis A u H) H v x := by
  cases s with
  | un => cases e
  | d y => cases e; exact .inl h
  | m j =>
    obtain ⟨a, ha, rfl⟩ := h
    simp only [Sl.vw] at e
    cases q : u[j]? with
    | none => rw [q] at e; cases e
    | some b =>
      rw [q] at e
      obtain ⟨o, h1, -, c⟩ := S.ob j a b ha q
      exact .inr ⟨a, o, b.o, rfl, h1, c, e⟩

/-! ### outcomes of an operation on values -/
def ResOk (K : PySem.W.Frag) (Hv H : Hp) : Rt → V → Hp → Prop
  | .s (.d z), v, H' => (H' = H ∧ Rp K Hv v z) ∨ (∃ p vs xs, H p = Option.none ∧ v = .ref p ∧ H' = upd H p (.tup vs) ∧ RpA K Hv vs xs ∧ z = .tuple xs)
  | .nw mo, v, H' => ∃ p o, H p = Option.none ∧ v = .ref p ∧ H' = upd H p o ∧ ObC K Hv o mo
  | _, _, _ => False
theorem ResOk.post {A : List Addr} {u : List Ob} {r : Rt} {H' : Hp} (S : Store K A u H) (h : ResOk K (vis A u H) H r v H') : Post K A u H r u v H' := by
  cases r with
  | s x =>
    cases x with
    | un => exact (show False from h).elim
    | m j => exact (show False from h).elim
    | d z =>
      rcases h with ⟨rfl, h⟩ | ⟨p, vs, xs, hp, rfl, rfl, r, rfl⟩
      · exact ⟨A, Step.refl, S, h⟩
      · obtain ⟨S2, st⟩ := S.new (o := .tup vs) hp
        exact ⟨A, st, S2, .tup (.inl (rd_vis (not_hid_new S hp) (.inl upd_same))) (RpA.mono st.keep r)⟩
  | nw mo =>
    obtain ⟨p, o, hp, rfl, rfl, c⟩ := h
    exact ⟨A, H, p, o, Step.refl, S, hp, rfl, rfl, c⟩
end

/-! ### the combinators -/
def dVar (i : Nat) : DE := fun ρ u => match ρ[i]? with
  | some (.d x) => some (.s (.d x), u)
  | some (.m j) => some (.s (.m j), u)
  | _ => none
def dC (x : D) : DE := fun _ u => some (.s (.d x), u)
def dBin (f : D → D → Option Rt) (da db : DE) : DE := fun ρ u => match da ρ u with
  | none => none
  | some (r1, u1) => match db ρ u1 with
    | none => none
    | some (r2, u2) => match r1.sl.vw u2, r2.sl.vw u2 with
      | some x, some y => (f x y).map fun r => (r, u2)
      | _, _ => none
def dUn (f : D → Option Rt) (da : DE) : DE := fun ρ u => match da ρ u with
  | none => none
  | some (r1, u1) => match r1.sl.vw u1 with
    | some x => (f x).map fun r => (r, u1)
    | _ => none
def daNil : DA := fun _ u => some ([], u)
def daCons (da : DE) (ds : DA) : DA := fun ρ u => match da ρ u with
  | none => none
  | some (r, u1) => match ds ρ u1 with
    | none => none
    | some (ss, u2) => some (r.sl :: ss, u2)
def vws (u : List Ob) : List Sl → Option (List D)
  | [] => some []
  | s :: ss => match s.vw u, vws u ss with
    | some x, some xs => some (x :: xs)
    | _, _ => none
/-- a builtin on views -/
def dFn (f : List D → Option Rt) (da : DA) : DE := fun ρ u => match da ρ u with
  | none => none
  | some (ss, u1) => match vws u1 ss with
    | some xs => (f xs).map fun r => (r, u1)
    | none => none
/-- a builtin's method on views -/
def dMt (f : D → List D → Option Rt) (de : DE) (da : DA) : DE := fun ρ u => match de ρ u with
  | none => none
  | some (r, u1) => match da ρ u1 with
    | none => none
    | some (ss, u2) => match r.sl.vw u2, vws u2 ss with
      | some x, some xs => (f x xs).map fun r => (r, u2)
      | _, _ => none
def dIf (dt : DT) (da db : DE) : DE := fun ρ u => match dt ρ u with
  | none => none
  | some (true, u1) => da ρ u1
  | some (false, u1) => db ρ u1
def dB (de : DE) : DT := fun ρ u => match de ρ u with
  | some (.s (.d (.bool b)), u1) => some (b, u1)
  | _ => none
def dAnd (da db : DT) : DT := fun ρ u => match da ρ u with
  | none => none
  | some (true, u1) => db ρ u1
  | some (false, u1) => some (false, u1)
def dOr (da db : DT) : DT := fun ρ u => match da ρ u with
  | none => none
  | some (true, u1) => some (true, u1)
  | some (false, u1) => db ρ u1
def dNot (da : DT) : DT := fun ρ u => match da ρ u with
  | none => none
  | some (b, u1) => some (!b, u1)
/-- a test's answer as a value -/
def dTV (dt : DT) : DE := fun ρ u => match dt ρ u with
  | none => none
  | some (b, u1) => some (.s (.d (.bool b)), u1)
/-- and, or as values, all but the last True or False -/
def dAndV (da db : DE) : DE := fun ρ u => match da ρ u with
  | some (.s (.d (.bool true)), u1) => db ρ u1
  | some (.s (.d (.bool false)), u1) => some (.s (.d (.bool false)), u1)
  | _ => none
def dOrV (da db : DE) : DE := fun ρ u => match da ρ u with
  | some (.s (.d (.bool true)), u1) => some (.s (.d (.bool true)), u1)
  | some (.s (.d (.bool false)), u1) => db ρ u1
  | _ => none
def truthD : D → Option Bool
  | .none => some false
  | .bool b => some b
  | .int i => some (i != 0)
  | .str x => if x.length ≤ sizeLine then some ((x.length : Int) != 0) else none
  | .list xs => some (!xs.isEmpty)
  | .tuple xs => some (!xs.isEmpty)
  | .dict _ => none
def dTru (de : DE) : DT := fun ρ u => match de ρ u with
  | none => none
  | some (r, u1) => match r.sl.vw u1 with
    | some x => (truthD x).map fun b => (b, u1)
    | none => none

def V2Ok (K : PySem.W.Frag) (r : R2) (f : D → D → Option Rt) : Prop := ∀ Hv H, Le Hv H → ∀ v w x y res, Rq K Hv H v x → Rq K Hv H w y → f x y = some res → ∀ Q : VK, (∀ z H', ResOk K Hv H res z H' → Q z H') → r v w H Q
def V1Ok (K : PySem.W.Frag) (r : V → Hp → VK → Prop) (f : D → Option Rt) : Prop := ∀ Hv H, Le Hv H → ∀ v x res, Rq K Hv H v x → f x = some res → ∀ Q : VK, (∀ z H', ResOk K Hv H res z H' → Q z H') → r v H Q
def Rqs (K : PySem.W.Frag) (Hv H : Hp) : List V → List D → Prop
  | [], [] => True
  | v :: vs, x :: xs => Rq K Hv H v x ∧ Rqs K Hv H vs xs
  | _, _ => False
def VnOk (K : PySem.W.Frag) (r : List V → Hp → VK → Prop) (f : List D → Option Rt) : Prop := ∀ Hv H, Le Hv H → (∀ a ts, H a = some (.tup ts) → Hv a = some (.tup ts)) → ∀ vs xs res, Rqs K Hv H vs xs → f xs = some res → ∀ Q : VK, (∀ z H', ResOk K Hv H res z H' → Q z H') → r vs H Q
def VmOk (K : PySem.W.Frag) (r : V → List V → Hp → VK → Prop) (f : D → List D → Option Rt) : Prop := ∀ Hv H, Le Hv H → ∀ v vs x xs res, Rq K Hv H v x → Rqs K Hv H vs xs → f x xs = some res → ∀ Q : VK, (∀ z H', ResOk K Hv H res z H' → Q z H') → r v vs H Q

section
variable {K : PySem.W.Frag}
theorem RVs.step {A A' : List Addr} {u u' : List Ob} {H H' : Hp} (s : Step A u H A' u' H') : ∀ {vs : List V} {ss : List Sl}, RVs K A (vis A u H) vs ss → RVs K A' (vis A' u' H') vs ss
  | [], [], _ => trivial
  | _ :: _, _ :: _, ⟨h, r⟩ => ⟨s.rv h, RVs.step s r⟩
  | [], _ :: _, h => h.elim
  | _ :: _, [], h => h.elim
theorem RVs.vws {A : List Addr} {u : List Ob} {H : Hp} (S : Store K A u H) : ∀ {vs : List V} {ss : List Sl} {xs : List D}, RVs K A (vis A u H) vs ss → vws u ss = some xs → Rqs K (vis A u H) H vs xs
  | [], [], xs, _, e => by cases e; trivial
  | _ :: _, s :: ss, xs, ⟨h, r⟩, e => by
    unfold DL.vws at e
    cases e1 : s.vw u with
    | none => rw [e1] at e; cases e
    | some x =>
      cases e2 : DL.vws u ss with
      | none => rw [e1, e2] at e; cases e
      | some ys =>
        rw [e1, e2] at e
        cases e
        exact ⟨h.vw S e1, RVs.vws S r e2⟩
  | [], _ :: _, _, h, _ => h.elim
  | _ :: _, [], _, h, _ => h.elim
theorem RVs.length {A : List Addr} {Hv : Hp} : ∀ {vs : List V} {ss : List Sl}, RVs K A Hv vs ss → vs.length = ss.length
  | [], [], _ => rfl
  | _ :: _, _ :: _, ⟨_, r⟩ => congrArg (· + 1) (RVs.length r)
  | [], _ :: _, h => h.elim
  | _ :: _, [], h => h.elim

theorem LE.var {i : Nat} : LE K (tVar i) (dVar i) := by
  intro A ρ u r u' e σ H S L Q q
  unfold dVar at e
  cases h : ρ[i]? with
  | none => rw [h] at e; cases e
  | some s =>
    rw [h] at e
    cases s with
    | un => cases e
    | d x =>
      cases e
      rcases L.get i _ h with z | ⟨v, e, rv⟩
      · cases z
      · exact ⟨v, e, q v H ⟨A, Step.refl, S, rv⟩⟩
    | m j =>
      cases e
      rcases L.get i _ h with z | ⟨v, e, rv⟩
      · cases z
      · exact ⟨v, e, q v H ⟨A, Step.refl, S, rv⟩⟩
theorem LE.c {v : V} {x : D} (h : ∀ H, Rp K H v x) : LE K (tC v) (dC x) := by
  intro A ρ u r u' e σ H S L Q q
  cases e
  exact q v H ⟨A, Step.refl, S, h _⟩
theorem LE.bin {r : R2} {f : D → D → Option Rt} {ta tb : TE} {da db : DE} (hf : V2Ok K r f) (ha : LE K ta da) (hb : LE K tb db) : LE K (tOp r ta tb) (dBin f da db) := by
  intro A ρ u res u' e σ H S L Q q
  unfold dBin at e
  cases e1 : da ρ u with
  | none => rw [e1] at e; cases e
  | some p1 =>
    obtain ⟨r1, u1⟩ := p1
    rw [e1] at e
    simp only at e
    cases e2 : db ρ u1 with
    | none => rw [e2] at e; cases e
    | some p2 =>
      obtain ⟨r2, u2⟩ := p2
      rw [e2] at e
      simp only at e
      refine ha A ρ u r1 u1 e1 σ H S L _ fun v1 H1 P1 => ?_
      obtain ⟨A1, st1, S1, rv1⟩ := P1.ret
      refine hb A1 ρ u1 r2 u2 e2 σ H1 S1 (st1.slots L) _ fun v2 H2 P2 => ?_
      obtain ⟨A2, st2, S2, rv2⟩ := P2.ret
      cases x1 : r1.sl.vw u2 with
      | none => rw [x1] at e; cases e
      | some x =>
        cases x2 : r2.sl.vw u2 with
        | none => rw [x1, x2] at e; cases e
        | some y =>
          rw [x1, x2] at e
          simp only at e
          cases e3 : f x y with
          | none => rw [e3] at e; cases e
          | some z =>
            rw [e3] at e
            cases e
            exact hf _ _ vis_le _ _ _ _ _ ((st2.rv rv1).vw S2 x1) (rv2.vw S2 x2) e3 Q fun v H' ok => q v H' ((ok.post S2).trans (st1.trans st2))
theorem LE.un {r : V → Hp → VK → Prop} {f : D → Option Rt} {ta : TE} {da : DE} (hf : V1Ok K r f) (ha : LE K ta da) : LE K (tUn r ta) (dUn f da) := by
  intro A ρ u res u' e σ H S L Q q
  unfold dUn at e
  cases e1 : da ρ u with
  | none => rw [e1] at e; cases e
  | some p1 =>
    obtain ⟨r1, u1⟩ := p1
    rw [e1] at e
    simp only at e
    refine ha A ρ u r1 u1 e1 σ H S L _ fun v1 H1 P1 => ?_
    obtain ⟨A1, st1, S1, rv1⟩ := P1.ret
    cases x1 : r1.sl.vw u1 with
    | none => rw [x1] at e; cases e
    | some x =>
      rw [x1] at e
      simp only at e
      cases e3 : f x with
      | none => rw [e3] at e; cases e
      | some z =>
        rw [e3] at e
        cases e
        exact hf _ _ vis_le _ _ _ (rv1.vw S1 x1) e3 Q fun v H' ok => q v H' ((ok.post S1).trans st1)
theorem LA.nil : LA K tNil daNil := by
  intro A ρ u ss u' e σ H S L Q q
  cases e
  exact q [] H ⟨A, Step.refl, S, trivial⟩
theorem LA.cons {ta : TE} {tr : TA} {da : DE} {ds : DA} (ha : LE K ta da) (hr : LA K tr ds) : LA K (tCons ta tr) (daCons da ds) := by
  intro A ρ u ss u' e σ H S L Q q
  unfold daCons at e
  cases e1 : da ρ u with
  | none => rw [e1] at e; cases e
  | some p1 =>
    obtain ⟨r1, u1⟩ := p1
    rw [e1] at e
    simp only at e
    cases e2 : ds ρ u1 with
    | none => rw [e2] at e; cases e
    | some p2 =>
      obtain ⟨s2, u2⟩ := p2
      rw [e2] at e
      cases e
      refine ha A ρ u r1 u1 e1 σ H S L _ fun v1 H1 P1 => ?_
      obtain ⟨A1, st1, S1, rv1⟩ := P1.ret
      refine hr A1 ρ u1 _ _ e2 σ H1 S1 (st1.slots L) _ fun vs H2 P2 => ?_
      obtain ⟨A2, st2, S2, rvs⟩ := P2
      exact q _ _ ⟨A2, st1.trans st2, S2, st2.rv rv1, rvs⟩
theorem LE.fn {r : List V → Hp → VK → Prop} {f : List D → Option Rt} {ta : TA} {da : DA} (hf : VnOk K r f) (ha : LA K ta da) : LE K (tCB r ta) (dFn f da) := by
  intro A ρ u res u' e σ H S L Q q
  unfold dFn at e
  cases e1 : da ρ u with
  | none => rw [e1] at e; cases e
  | some p1 =>
    obtain ⟨ss, u1⟩ := p1
    rw [e1] at e
    simp only at e
    refine ha A ρ u ss u1 e1 σ H S L _ fun vs H1 P1 => ?_
    obtain ⟨A1, st1, S1, rvs⟩ := P1
    cases x1 : vws u1 ss with
    | none => rw [x1] at e; cases e
    | some xs =>
      rw [x1] at e
      simp only at e
      cases e3 : f xs with
      | none => rw [e3] at e; cases e
      | some z =>
        rw [e3] at e
        cases e
        exact hf _ _ vis_le (fun a ts h => S1.tup h) _ _ _ (rvs.vws S1 x1) e3 Q fun v H' ok => q v H' ((ok.post S1).trans st1)
theorem LE.ite {t : TT} {ta tb : TE} {dt : DT} {da db : DE} (ht : LT K t dt) (ha : LE K ta da) (hb : LE K tb db) : LE K (tIf t ta tb) (dIf dt da db) := by
  intro A ρ u res u' e σ H S L Q q
  unfold dIf at e
  cases e1 : dt ρ u with
  | none => rw [e1] at e; cases e
  | some p1 =>
    obtain ⟨b, u1⟩ := p1
    rw [e1] at e
    refine ht A ρ u b u1 e1 σ H S L _ fun H1 P1 => ?_
    obtain ⟨A1, st1, S1⟩ := P1
    cases b with
    | true => exact iteT (ha A1 ρ u1 res u' e σ H1 S1 (st1.slots L) Q fun v H' P => q v H' (P.trans st1))
    | false => exact iteF (hb A1 ρ u1 res u' e σ H1 S1 (st1.slots L) Q fun v H' P => q v H' (P.trans st1))
theorem PostT.trans {A A1 : List Addr} {u u1 u' : List Ob} {H H1 H2 : Hp} (a : Step A u H A1 u1 H1) (h : PostT K A1 u1 H1 u' H2) : PostT K A u H u' H2 := by
  obtain ⟨A', st, S⟩ := h
  exact ⟨A', a.trans st, S⟩
theorem LE.b {te : TE} {de : DE} (h : LE K te de) : LT K (tB te) (dB de) := by
  intro A ρ u b u' e σ H S L Q q
  unfold dB at e
  cases e1 : de ρ u with
  | none => rw [e1] at e; cases e
  | some p1 =>
    obtain ⟨r, u1⟩ := p1
    rw [e1] at e
    cases r with
    | nw mo => cases e
    | s x =>
      cases x with
      | un => cases e
      | m j => cases e
      | d y =>
        cases y <;> cases e
        refine h A ρ u _ _ e1 σ H S L _ fun v H1 P => ?_
        obtain ⟨A1, st, S1, rv⟩ := P
        cases (show Rp K (vis A1 _ H1) v (.bool b) from rv)
        exact ⟨b, rfl, q H1 ⟨A1, st, S1⟩⟩
theorem LT.and {ta tb : TT} {da db : DT} (ha : LT K ta da) (hb : LT K tb db) : LT K (tAnd ta tb) (dAnd da db) := by
  intro A ρ u b u' e σ H S L Q q
  unfold dAnd at e
  cases e1 : da ρ u with
  | none => rw [e1] at e; cases e
  | some p1 =>
    obtain ⟨c, u1⟩ := p1
    rw [e1] at e
    refine ha A ρ u c u1 e1 σ H S L _ fun H1 P1 => ?_
    obtain ⟨A1, st1, S1⟩ := P1
    cases c with
    | true => exact iteT (hb A1 ρ u1 b u' e σ H1 S1 (st1.slots L) Q fun H' P => q H' (P.trans st1))
    | false =>
      cases e
      exact iteF (q H1 ⟨A1, st1, S1⟩)
theorem LT.or {ta tb : TT} {da db : DT} (ha : LT K ta da) (hb : LT K tb db) : LT K (tOr ta tb) (dOr da db) := by
  intro A ρ u b u' e σ H S L Q q
  unfold dOr at e
  cases e1 : da ρ u with
  | none => rw [e1] at e; cases e
  | some p1 =>
    obtain ⟨c, u1⟩ := p1
    rw [e1] at e
    refine ha A ρ u c u1 e1 σ H S L _ fun H1 P1 => ?_
    obtain ⟨A1, st1, S1⟩ := P1
    cases c with
    | true =>
      cases e
      exact iteT (q H1 ⟨A1, st1, S1⟩)
    | false => exact iteF (hb A1 ρ u1 b u' e σ H1 S1 (st1.slots L) Q fun H' P => q H' (P.trans st1))
theorem LT.not {ta : TT} {da : DT} (ha : LT K ta da) : LT K (tNot ta) (dNot da) := by
  intro A ρ u b u' e σ H S L Q q
  unfold dNot at e
  cases e1 : da ρ u with
  | none => rw [e1] at e; cases e
  | some p1 =>
    obtain ⟨c, u1⟩ := p1
    rw [e1] at e
    cases e
    exact ha A ρ u _ _ e1 σ H S L _ fun H1 P1 => q H1 P1
theorem LE.andV {ta tb : TE} {da db : DE} (ha : LE K ta da) (hb : LE K tb db) : LE K (tAndV ta tb) (dAndV da db) := by
  intro A ρ u res u' e σ H S L Q q
  unfold dAndV at e
  cases e1 : da ρ u with
  | none => rw [e1] at e; cases e
  | some p1 =>
    obtain ⟨r, u1⟩ := p1
    rw [e1] at e
    cases r with
    | nw mo => cases e
    | s x =>
      cases x with
      | un => cases e
      | m j => cases e
      | d y =>
        cases y with
        | bool b =>
          refine ha A ρ u _ u1 e1 σ H S L _ fun v H1 P => ?_
          obtain ⟨A1, st, S1, rv⟩ := P
          cases (show Rp K (vis A1 u1 H1) v (.bool b) from rv)
          refine ⟨b, rfl, ?_⟩
          cases b with
          | true => exact iteT (hb A1 ρ u1 res u' e σ H1 S1 (st.slots L) Q fun v H' P => q v H' (P.trans st))
          | false =>
            cases e
            exact iteF (q _ H1 ⟨A1, st, S1, .bl false⟩)
        | _ => cases e
theorem LE.orV {ta tb : TE} {da db : DE} (ha : LE K ta da) (hb : LE K tb db) : LE K (tOrV ta tb) (dOrV da db) := by
  intro A ρ u res u' e σ H S L Q q
  unfold dOrV at e
  cases e1 : da ρ u with
  | none => rw [e1] at e; cases e
  | some p1 =>
    obtain ⟨r, u1⟩ := p1
    rw [e1] at e
    cases r with
    | nw mo => cases e
    | s x =>
      cases x with
      | un => cases e
      | m j => cases e
      | d y =>
        cases y with
        | bool b =>
          refine ha A ρ u _ u1 e1 σ H S L _ fun v H1 P => ?_
          obtain ⟨A1, st, S1, rv⟩ := P
          cases (show Rp K (vis A1 u1 H1) v (.bool b) from rv)
          refine ⟨b, rfl, ?_⟩
          cases b with
          | false => exact iteF (hb A1 ρ u1 res u' e σ H1 S1 (st.slots L) Q fun v H' P => q v H' (P.trans st))
          | true =>
            cases e
            exact iteT (q _ H1 ⟨A1, st, S1, .bl true⟩)
        | _ => cases e
theorem LE.tru {te : TE} {de : DE} (h : LE K te de) : LT K (fun σ H Q => te σ H fun x H' => ∃ k, TruV K x H' k ∧ Q k H') (dTru de) := by
  intro A ρ u b u' e σ H S L Q q
  unfold dTru at e
  cases e1 : de ρ u with
  | none => rw [e1] at e; cases e
  | some p1 =>
    obtain ⟨r, u1⟩ := p1
    rw [e1] at e
    simp only at e
    refine h A ρ u r u1 e1 σ H S L _ fun v H1 P => ?_
    obtain ⟨A1, st, S1, rv⟩ := P.ret
    cases x1 : r.sl.vw u1 with
    | none => rw [x1] at e; cases e
    | some x =>
      rw [x1] at e
      simp only at e
      have w := rv.vw S1 x1
      cases e3 : truthD x with
      | none => rw [e3] at e; cases e
      | some c =>
        rw [e3] at e
        cases e
        refine ⟨b, ?_, q H1 ⟨A1, st, S1⟩⟩
        cases x with
        | none => rw [w.none]; cases e3; exact rfl
        | bool d => rw [w.bool]; cases e3; exact rfl
        | int d => rw [w.int]; cases e3; exact rfl
        | str d =>
          rw [w.str]
          simp only [truthD] at e3
          by_cases hl : d.length ≤ sizeLine
          · rw [if_pos hl] at e3; cases e3; exact ⟨hl, rfl⟩
          · rw [if_neg hl] at e3; cases e3
        | list ds =>
          obtain ⟨a, xs, rfl, s1, r1⟩ := w.list vis_le
          cases e3
          refine .inl ⟨xs, s1, ?_⟩
          cases r1 <;> rfl
        | tuple ds =>
          obtain ⟨a, xs, rfl, s1, r1⟩ := w.tuple vis_le
          cases e3
          refine .inr (.inl ⟨xs, s1, ?_⟩)
          cases r1 <;> rfl
        | dict kvs => cases e3
end

end DL
end

section
set_option Elab.async false
set_option maxRecDepth 100000
set_option maxHeartbeats 4000000
namespace DL
open PySem L2
abbrev SZ : Nat := 16777216

/-! ### where a piece of text stands -/
structure Ct where
  P : Program
  w : World
  K : PySem.W.Frag
  mg : Str → Option Value
  base : Heap
  N : List Str
  sc : Scope
  fn : Str → Bool
  k : Nat
structure OkX (c : Ct) (X : Cx) : Prop where
  prog : X.prog = c.P
  w : X.w = c.w
  K : X.K = c.K
  mg : X.mg = c.mg
  base : X.base = c.base
  N : X.N = c.N
  sc : X.env.scope = c.sc
  fn : X.fn = c.fn
  calm : X.calm = true
  room : Room c.k X.A
  grd : X.A.guards = some []
  xe : X.xe = fun _ _ => False
def Ct.blk (c : Ct) (scope : Scope) : Ct := { c with sc := relS scope c.sc, fn := fun x => scope.names.lookup x == some .cell }
theorem OkX.blk {c : Ct} {X : Cx} (ok : OkX c X) (s : Shared) (H : Hp) (scope : Scope) (cl : List (Str × Addr)) (C : Addr) (fp : List Addr) : OkX (c.blk scope) (X.blk s H scope (compEnvC scope cl C X.env) fp) := by
  refine ⟨ok.prog, ok.w, ok.K, ok.mg, ok.base, ok.N, ?_, rfl, ok.calm, ok.room, ok.grd, rfl⟩
  show relS scope X.env.scope = relS scope c.sc
  rw [ok.sc]
def JE (c : Ct) (e : Expr) (de : DE) : Prop := ∃ te, (∀ X, OkX c X → PE X e te) ∧ LE c.K te de
def JT (c : Ct) (e : Expr) (dt : DT) : Prop := ∃ tt, (∀ X, OkX c X → PT X e tt) ∧ LT c.K tt dt
def JW (c : Ct) (e : Expr) (dt : DT) : Prop := ∃ tt, (∀ X, OkX c X → PW X e tt) ∧ LT c.K tt dt
def JA (c : Ct) (es : List Expr) (da : DA) : Prop := ∃ ta, (∀ X, OkX c X → PA X es ta) ∧ LA c.K ta da

section
variable {c : Ct} {e a b : Expr} {es rest : List Expr} {de da db : DE} {dt dt2 : DT} {ds : DA} {pos p apos : Pos}
theorem je_var (i : Nat) {x : Str} (hN : c.N[i]? = some x := by rfl) (hv : Vis c.sc x := by first | exact Or.inl rfl | exact Or.inr (Or.inl rfl) | exact Or.inr (Or.inr rfl)) (hd : (x == ("__debug__" : Str)) = false := by decide)
    (hcd : (x == ("__classdict__" : Str)) = false := by decide) : JE c (.Name x pos) (dVar i) := ⟨_, fun X ok => pe_var (by rw [ok.N]; exact hN) (by rw [ok.sc]; exact hv) hd hcd, LE.var⟩
theorem je_int {i : Int} {j} : JE c (.Constant (.int i) j pos) (dC (.int i)) := ⟨_, fun X _ => pe_int, LE.c fun _ => .int i⟩
theorem je_bl {b : Bool} {j} : JE c (.Constant (.bool b) j pos) (dC (.bool b)) := ⟨_, fun X _ => pe_bl, LE.c fun _ => .bl b⟩
theorem je_non {j} : JE c (.Constant .none j pos) (dC .none) := ⟨_, fun X _ => pe_non, LE.c fun _ => .non⟩
theorem je_str {x : Str} {j} : JE c (.Constant (.str x) j pos) (dC (.str x)) := ⟨_, fun X _ => pe_str, LE.c fun _ => .str x⟩
/-- a module's constant -/
theorem je_con {x : Str} {v : V} {u : Value} {y : D} (hg : c.sc.names.lookup x = some .globalImplicit := by rfl) (hm : c.mg x = some u) (r : RelV v u) (h : ∀ H, Rp c.K H v y) (hd : (x == ("__debug__" : Str)) = false := by decide) : JE c (.Name x pos) (dC y) :=
  ⟨_, fun X ok => pe_glob (by show X.env.scope.names.lookup x = _; rw [ok.sc]; exact hg) (by rw [ok.mg]; exact hm) r hd, LE.c h⟩
theorem je_op {op : Operator} {r : R2} {f : D → D → Option Rt} (ho : ∀ X, OkX c X → OpR X (binaryOp op) r) (hf : V2Ok c.K r f) (ha : JE c a da) (hb : JE c b db) : JE c (.BinOp a op b pos) (dBin f da db) := by
  obtain ⟨ta, pa, la⟩ := ha
  obtain ⟨tb, pb, lb⟩ := hb
  exact ⟨_, fun X ok => pe_op (ho X ok) (pa X ok) (pb X ok), LE.bin hf la lb⟩
theorem je_cmp {op : CmpOp} {r : R2} {f : D → D → Option Rt} (ho : ∀ X, OkX c X → OpR X (compareOp op) r) (hf : V2Ok c.K r f) (ha : JE c a da) (hb : JE c b db) (hm : behindInMarks op b = false := by rfl) : JE c (.Compare a [op] [b] pos) (dBin f da db) := by
  obtain ⟨ta, pa, la⟩ := ha
  obtain ⟨tb, pb, lb⟩ := hb
  exact ⟨_, fun X ok => pe_cmpR (ho X ok) (pa X ok) (pb X ok) hm, LE.bin hf la lb⟩
theorem jt_cmp {op : CmpOp} {r : R2} {f : D → D → Option Rt} (ho : ∀ X, OkX c X → OpR X (compareOp op) r) (hf : V2Ok c.K r f) (ha : JE c a da) (hb : JE c b db) (hm : behindInMarks op b = false := by rfl) : JT c (.Compare a [op] [b] pos) (dB (dBin f da db)) := by
  obtain ⟨ta, pa, la⟩ := ha
  obtain ⟨tb, pb, lb⟩ := hb
  exact ⟨_, fun X ok => pt_cmpR (ho X ok) (pa X ok) (pb X ok) hm, LE.b (LE.bin hf la lb)⟩
theorem je_un {op : UnaryOp} {r : V → Hp → VK → Prop} {f : D → Option Rt} (ho : ∀ X, OkX c X → UnR X (unaryOp op) r) (hf : V1Ok c.K r f) (ha : JE c a da) : JE c (.UnaryOp op a pos) (dUn f da) := by
  obtain ⟨ta, pa, la⟩ := ha
  exact ⟨_, fun X ok => pe_un (ho X ok) (pa X ok), LE.un hf la⟩
theorem je_ix {r : R2} {f : D → D → Option Rt} (hr : ∀ X, OkX c X → IxR X r) (hf : V2Ok c.K r f) (ha : JE c a da) (hb : JE c b db) (hs : PlainIx b := by exact fun _ _ => rfl) : JE c (.Subscript a b pos) (dBin f da db) := by
  obtain ⟨ta, pa, la⟩ := ha
  obtain ⟨tb, pb, lb⟩ := hb
  exact ⟨_, fun X ok => pe_ix (hr X ok) (pa X ok) (pb X ok) hs, LE.bin hf la lb⟩
theorem ja_nil : JA c [] daNil := ⟨_, fun X ok => pa_nil, LA.nil⟩
theorem ja_cons (ha : JE c e de) (hr : JA c es ds) (hs : ∀ env, starEach (e :: es) env = (false, eval e env) :: starEach es env := by intro _; rfl) : JA c (e :: es) (daCons de ds) := by
  obtain ⟨ta, pa, la⟩ := ha
  obtain ⟨tr, pr, lr⟩ := hr
  exact ⟨_, fun X ok => pa_cons (pa X ok) (pr X ok) (hs _), LA.cons la lr⟩
theorem je_blt {id : String} {x : Str} {r : List V → Hp → VK → Prop} {f : List D → Option Rt} (hc : ∀ X, OkX c X → CallR X (.builtin id) r) (hf : VnOk c.K r f) (hm : c.mg x = none) (hv : bootBuiltins x = some (.builtin id)) (ha : JA c (e :: es) ds) (hg : c.sc.names.lookup x = some .globalImplicit := by rfl) (hn : x ≠ "__name__" := by decide) (hdb : (x == ("__debug__" : Str)) = false := by decide)
    (he : ∀ env, starEach (e :: es) env = (false, eval e env) :: starEach es env := by intro _; rfl) (hpl : ∀ env, (backTo pos (starEach es env)).any (·.1) = false := by intro _; rfl) : JE c (.Call (.Name x p) (e :: es) [] pos) (dFn f ds) := by
  obtain ⟨ta, pa, la⟩ := ha
  exact ⟨_, fun X ok => pe_callB (hc X ok) (by show X.env.scope.names.lookup x = _; rw [ok.sc]; exact hg) (by rw [ok.mg]; exact hm) hv (pa X ok) hn hdb (he _) (hpl _), LE.fn hf la⟩
theorem je_ty {T : String} {x : Str} {r : List V → Hp → VK → Prop} {f : List D → Option Rt} (hc : ∀ X, OkX c X → CallR X (.type T) r) (hf : VnOk c.K r f) (hm : c.mg x = none) (hv : bootBuiltins x = some (.type T)) (ha : JA c (e :: es) ds) (hg : c.sc.names.lookup x = some .globalImplicit := by rfl) (hn : x ≠ "__name__" := by decide) (hdb : (x == ("__debug__" : Str)) = false := by decide)
    (he : ∀ env, starEach (e :: es) env = (false, eval e env) :: starEach es env := by intro _; rfl) (hpl : ∀ env, (backTo pos (starEach es env)).any (·.1) = false := by intro _; rfl) : JE c (.Call (.Name x p) (e :: es) [] pos) (dFn f ds) := by
  obtain ⟨ta, pa, la⟩ := ha
  exact ⟨_, fun X ok => pe_callTy (hc X ok) (by show X.env.scope.names.lookup x = _; rw [ok.sc]; exact hg) (by rw [ok.mg]; exact hm) hv (pa X ok) hn hdb (he _) (hpl _), LE.fn hf la⟩
theorem je_if {t : Expr} (hc : JT c t dt) (ha : JE c a da) (hb : JE c b db) : JE c (.IfExp t a b pos) (dIf dt da db) := by
  obtain ⟨tc, pc, lc⟩ := hc
  obtain ⟨ta, pa, la⟩ := ha
  obtain ⟨tb, pb, lb⟩ := hb
  exact ⟨_, fun X ok => pe_ifExp (pc X ok) (pa X ok) (pb X ok), LE.ite lc la lb⟩
theorem jt_b (h : JE c e de) (he : ∀ env whole, isTrue e env whole = (do let v ← whole; standAt e.pos; holding [v] (truthy v)) := by intro _ _; rfl) : JT c e (dTru de) := by
  obtain ⟨te, pe, le⟩ := h
  exact ⟨_, fun X ok => by rw [← ok.K]; exact pt_truth (pe X ok) (he _), LE.tru le⟩
theorem jt_not (h : JT c a dt) : JT c (.UnaryOp .Not a pos) (dNot dt) := by
  obtain ⟨te, pe, le⟩ := h
  exact ⟨_, fun X ok => pt_not (pe X ok), LT.not le⟩
theorem JW.jt (h : JW c e dt) : JT c e dt := by
  obtain ⟨te, pe, le⟩ := h
  exact ⟨_, fun X ok => (pe X ok).pt, le⟩
theorem jw_and1 (h : JT c a dt) : JW c (.BoolOp .And [a] pos) dt := by
  obtain ⟨te, pe, le⟩ := h
  exact ⟨_, fun X ok => pw_and1 (pe X ok), le⟩
theorem jw_or1 (h : JT c a dt) : JW c (.BoolOp .Or [a] pos) dt := by
  obtain ⟨te, pe, le⟩ := h
  exact ⟨_, fun X ok => pw_or1 (pe X ok), le⟩
theorem jw_and (h : JT c a dt) (h2 : JW c (.BoolOp .And (b :: rest) pos) dt2) : JW c (.BoolOp .And (a :: b :: rest) pos) (dAnd dt dt2) := by
  obtain ⟨te, pe, le⟩ := h
  obtain ⟨te2, pe2, le2⟩ := h2
  exact ⟨_, fun X ok => pw_and (pe X ok) (pe2 X ok), LT.and le le2⟩
theorem jw_or (h : JT c a dt) (h2 : JW c (.BoolOp .Or (b :: rest) pos) dt2) : JW c (.BoolOp .Or (a :: b :: rest) pos) (dOr dt dt2) := by
  obtain ⟨te, pe, le⟩ := h
  obtain ⟨te2, pe2, le2⟩ := h2
  exact ⟨_, fun X ok => pw_or (pe X ok) (pe2 X ok), LT.or le le2⟩
theorem je_one {op} (h : JE c a da) : JE c (.BoolOp op [a] pos) da := by
  obtain ⟨te, pe, le⟩ := h
  exact ⟨_, fun X ok => pe_one (pe X ok), le⟩
theorem je_and (h : JE c a da) (h2 : JE c (.BoolOp .And (b :: rest) pos) db) : JE c (.BoolOp .And (a :: b :: rest) pos) (dAndV da db) := by
  obtain ⟨te, pe, le⟩ := h
  obtain ⟨te2, pe2, le2⟩ := h2
  exact ⟨_, fun X ok => pe_and (pe X ok) (pe2 X ok), LE.andV le le2⟩
theorem je_or (h : JE c a da) (h2 : JE c (.BoolOp .Or (b :: rest) pos) db) : JE c (.BoolOp .Or (a :: b :: rest) pos) (dOrV da db) := by
  obtain ⟨te, pe, le⟩ := h
  obtain ⟨te2, pe2, le2⟩ := h2
  exact ⟨_, fun X ok => pe_or (pe X ok) (pe2 X ok), LE.orV le le2⟩
end

/-! ### data that a container keeps: what is mutable is frozen -/
def Sl.dat (u : List Ob) : Sl → Option (D × List Ob)
  | .un => none
  | .d x => some (x, u)
  | .m j => match u[j]? with
    | some b => some (b.o.toD, u.set j ⟨false, b.o⟩)
    | none => none
def dats (u : List Ob) : List Sl → Option (List D × List Ob)
  | [] => some ([], u)
  | s :: ss => match s.dat u with
    | none => none
    | some (x, u1) => match dats u1 ss with
      | none => none
      | some (xs, u2) => some (x :: xs, u2)
section
variable {K : PySem.W.Frag} {A : List Addr} {u u1 : List Ob} {H : Hp}
theorem RV.dat {v : V} {s : Sl} {x : D} (S : Store K A u H) (h : RV K A (vis A u H) v s) (e : s.dat u = some (x, u1)) : Store K A u1 H ∧ Step A u H A u1 H ∧ Rp K (vis A u1 H) v x := by
  cases s with
  | un => cases e
  | d y => cases e; exact ⟨S, Step.refl, h⟩
  | m j =>
    obtain ⟨a, ha, rfl⟩ := h
    simp only [Sl.dat] at e
    cases q : u[j]? with
    | none => rw [q] at e; cases e
    | some b =>
      rw [q] at e
      cases e
      obtain ⟨S2, st, nh⟩ := S.freeze ha q
      obtain ⟨o, h1, -, cc⟩ := S.ob j a b ha q
      exact ⟨S2, st, cc.rp st.keep (rd_vis nh h1)⟩
theorem RVs.dats : ∀ {vs : List V} {ss : List Sl} {xs : List D} {u u1 : List Ob}, Store K A u H → RVs K A (vis A u H) vs ss → dats u ss = some (xs, u1) → Store K A u1 H ∧ Step A u H A u1 H ∧ RpA K (vis A u1 H) vs xs
  | [], [], xs, u, u1, S, _, e => by cases e; exact ⟨S, Step.refl, .nil⟩
  | v :: vs, s :: ss, xs, u, u1, S, ⟨h, r⟩, e => by
    unfold DL.dats at e
    cases e1 : s.dat u with
    | none => rw [e1] at e; cases e
    | some p =>
      obtain ⟨x, u2⟩ := p
      rw [e1] at e
      simp only at e
      cases e2 : DL.dats u2 ss with
      | none => rw [e2] at e; cases e
      | some p2 =>
        obtain ⟨ys, u3⟩ := p2
        rw [e2] at e
        cases e
        obtain ⟨S2, st2, r2⟩ := h.dat S e1
        obtain ⟨S3, st3, r3⟩ := RVs.dats S2 (r.step st2) e2
        exact ⟨S3, st2.trans st3, .cons (r2.mono st3.keep) r3⟩
  | [], _ :: _, _, _, _, _, h, _ => h.elim
  | _ :: _, [], _, _, _, _, h, _ => h.elim
end
def dTup (da : DA) : DE := fun ρ u => match da ρ u with
  | none => none
  | some (ss, u1) => match dats u1 ss with
    | none => none
    | some (xs, u2) => if xs.length ≤ SZ then some (.nw (.tup xs), u2) else none
def dLst (da : DA) : DE := fun ρ u => match da ρ u with
  | none => none
  | some (ss, u1) => match dats u1 ss with
    | none => none
    | some (xs, u2) => if xs.length ≤ SZ then some (.nw (.lst xs), u2) else none
def dNewK : DE := fun _ u => some (.nw (.dic []), u)
def dNewT : DE := fun _ u => some (.nw (.dit []), u)
section
variable {K : PySem.W.Frag}
theorem LE.disp {ta : TA} {da : DA} {mk : List V → HO} {mo : List D → MO} (hmk : ∀ Hv vs xs, RpA K Hv vs xs → ObC K Hv (mk vs) (mo xs)) (ha : LA K ta da) :
    LE K (fun σ H Q => ta σ H fun xs H1 => xs.length ≤ sizeLine ∧ ∀ p, H1 p = none → Q (.ref p) (upd H1 p (mk xs))) (fun ρ u => match da ρ u with
  | none => none
  | some (ss, u1) => match dats u1 ss with
    | none => none
    | some (xs, u2) => if xs.length ≤ SZ then some (.nw (mo xs), u2) else none) := by
  intro A ρ u res u' e σ H S L Q q
  simp only at e
  cases e1 : da ρ u with
  | none => rw [e1] at e; cases e
  | some p1 =>
    obtain ⟨ss, u1⟩ := p1
    rw [e1] at e
    simp only at e
    cases e2 : dats u1 ss with
    | none => rw [e2] at e; cases e
    | some p2 =>
      obtain ⟨xs, u2⟩ := p2
      rw [e2] at e
      simp only at e
      by_cases hl : xs.length ≤ SZ
      · rw [if_pos hl] at e
        cases e
        refine ha A ρ u ss u1 e1 σ H S L _ fun vs H1 P => ?_
        obtain ⟨A1, st, S1, rvs⟩ := P
        obtain ⟨S2, st2, rp⟩ := rvs.dats S1 e2
        refine ⟨by rw [rp.length, sizeLine_eq]; exact hl, fun p hp => ?_⟩
        exact q _ _ ⟨A1, H1, p, _, st.trans st2, S2, hp, rfl, rfl, hmk _ _ _ rp⟩
      · rw [if_neg hl] at e; cases e
theorem LE.newK : LE K tDNewK dNewK := by
  intro A ρ u res u' e σ H S L Q q
  cases e
  exact fun p hp => q _ _ ⟨A, H, p, _, Step.refl, S, hp, rfl, rfl, rfl, .nil⟩
theorem LE.newT : LE K tDNewT dNewT := by
  intro A ρ u res u' e σ H S L Q q
  cases e
  exact fun p hp => q _ _ ⟨A, H, p, _, Step.refl, S, hp, rfl, rfl, rfl, .nil⟩
end
section
variable {c : Ct} {es : List Expr} {ds : DA} {pos : Pos}
theorem je_tup {x1} (h : JA c es ds) : JE c (.Tuple es x1 pos) (dTup ds) := by
  obtain ⟨ta, pa, la⟩ := h
  exact ⟨_, fun X ok => pe_tup (pa X ok), LE.disp (mk := .tup) (mo := .tup) (fun _ _ _ h => h) la⟩
theorem je_lst (h : JA c es ds) : JE c (.List es pos) (dLst ds) := by
  obtain ⟨ta, pa, la⟩ := h
  exact ⟨_, fun X ok => pe_lst (pa X ok), LE.disp (mk := .lst) (mo := .lst) (fun _ _ _ h => h) la⟩
theorem je_newK : JE c (.Dict [] [] pos) dNewK := ⟨_, fun X _ => pe_dnewK, LE.newK⟩
theorem je_newT : JE c (.Dict [] [] pos) dNewT := ⟨_, fun X _ => pe_dnewT, LE.newT⟩
end

/-! ### calls -/
abbrev FnD := List Sl → List Ob → Option (Rt × List Ob)
def spF (K : PySem.W.Frag) (n : Nat) (f : FnD) : Sp := fun vs H Q _ => ∃ (A : List Addr) (u : List Ob) (args : List Sl) (r : Rt) (u' : List Ob), args.length = n ∧ f args u = some (r, u') ∧ Store K A u H ∧ RVs K A (vis A u H) vs args ∧
  ∀ v H', Post K A u H r u' v H' → Q v H'
def dCall (f : FnD) (n : Nat) (da : DA) : DE := fun ρ u => match da ρ u with
  | none => none
  | some (ss, u1) => if ss.length = n then f ss u1 else none
theorem LE.call {K : PySem.W.Frag} {n : Nat} {f : FnD} {ta : TA} {da : DA} {E : XK} (ha : LA K ta da) : LE K (tCall (spF K n f) [] E ta) (dCall f n da) := by
  intro A ρ u res u' e σ H S L Q q
  unfold dCall at e
  cases e1 : da ρ u with
  | none => rw [e1] at e; cases e
  | some p1 =>
    obtain ⟨ss, u1⟩ := p1
    rw [e1] at e
    simp only at e
    by_cases hl : ss.length = n
    · rw [if_pos hl] at e
      refine ha A ρ u ss u1 e1 σ H S L _ fun vs H1 P => ?_
      obtain ⟨A1, st, S1, rvs⟩ := P
      refine ⟨A1, u1, ss, res, u', hl, e, S1, by rw [List.append_nil]; exact rvs, fun v H' P => q v H' (P.trans st)⟩
    · rw [if_neg hl] at e; cases e
/-- what a def does, by its function on data; nothing is being shown (repr) as it is called -/
structure FnG (P : Program) (w : World) (K : PySem.W.Frag) (mg : Str → Option Value) (base : Heap) (k : Nat) (f : Addr) (fd : FuncData) (ps : List Str) (n : Nat) (g : FnD) : Prop where
  arity : ps.length = n
  go : ∀ (A : Around) (outer : List Env) (s : Shared) (H : Hp) (args : Args) (us : List Value) (vs : List V) (Q : VK), A.guards = some [] → Room k A → Env0 P w K mg base A outer s H → BindsTo s fd args (ps.zip us) → Vals vs us → spF K n g vs H Q E0 →
    codeAny (model P w) A (.call (.ref f) args) (CR CX0 outer P w H s Q E0) s
theorem FnG.mono {P : Program} {w : World} {K : PySem.W.Frag} {mg : Str → Option Value} {base : Heap} {j k : Nat} {f : Addr} {fd : FuncData} {ps : List Str} {n : Nat} {g : FnD} (F : FnG P w K mg base j f fd ps n g) (h : j ≤ k) : FnG P w K mg base k f fd ps n g :=
  ⟨F.arity, fun A outer s H args us vs Q hg hr => F.go A outer s H args us vs Q hg (hr.mono h)⟩
theorem je_call {c : Ct} {n j : Nat} {f : Addr} {fd : FuncData} {ps : List Str} {fn : FnD} {x : Str} {e : Expr} {es : List Expr} {ds : DA} {p pos : Pos} (F : FnG c.P c.w c.K c.mg c.base j f fd ps n fn) (hj : j ≤ c.k) (hm : c.mg x = some (.ref f)) (hk : PySem.W.keepIn c.K (.ref f) = true) (hb : Binds c.K fd ps [])
    (ha : JA c (e :: es) ds) (hg : c.sc.names.lookup x = some .globalImplicit := by rfl) (hdb : (x == ("__debug__" : Str)) = false := by decide) (he : ∀ env, starEach (e :: es) env = (false, eval e env) :: starEach es env := by intro _; rfl) (hpl : ∀ env, (backTo pos (starEach es env)).any (·.1) = false := by intro _; rfl) :
    JE c (.Call (.Name x p) (e :: es) [] pos) (dCall fn n ds) := by
  obtain ⟨ta, pa, la⟩ := ha
  refine ⟨tCall (spF c.K n fn) [] E0 ta, fun X ok => ⟨fun pins s σ H Q I h => ?_⟩, LE.call la⟩
  have glob : Gl X x := by
    show X.env.scope.names.lookup x = _
    rw [ok.sc]; exact hg
  have kept : PySem.W.keepIn X.K (.ref f) = true := by rw [ok.K]; exact hk
  refine wpAny_Call_Name_kw (ld_glob I glob (by rw [ok.mg]; exact hm) (PySem.W.callWith_K (h₀ := X.base) I.ok.mod.kin kept ?_ (he _) (hpl _)) hdb)
  refine thn ((pa X ok).run pos pins s σ H _ I h) fun us s' got => ?_
  obtain ⟨vs, H', J, rel, want⟩ := got
  refine ⟨J.kIn, ?_⟩
  rw [List.append_nil] at want
  have arity : us.length = ps.length := by
    obtain ⟨_, _, args, _, _, la, _, _, rv, _⟩ := want
    rw [F.arity, ← la, ← rv.length, rel.length]
  have bound : BindsTo s' fd ⟨us, []⟩ (ps.zip us) := by
    have q := hb s' us (by rw [← ok.K]; exact J.kIn) (by rw [List.append_nil]; exact arity)
    rwa [List.append_nil] at q
  have env := J.env0
  rw [ok.prog, ok.w, ok.K, ok.mg, ok.base] at env
  have run := F.go X.A X.stack s' H' ⟨us, []⟩ us vs Q ok.grd (ok.room.mono hj) env bound rel want
  rw [← ok.prog, ← ok.w] at run
  refine wpAny_call (codeAny_mono run fun r s2 out => ?_)
  match r, out with
  | .ok (.ret u), out => exact J.after out
  | .ok .next, out => exact out.elim
  | .ok .brk, out => exact out.elim
  | .ok .cont, out => exact out.elim
  | .error _, out => exact out.elim

/-! ### targets -/
abbrev DG := Sl → List Sl → Option (List Sl)
abbrev DGs := List D → List Sl → Option (List Sl)
def LG (K : PySem.W.Frag) (tg : TG) (dg : DG) (gi : List Nat) : Prop := ∀ (A : List Addr) (u : List Ob) (H : Hp) (s : Sl) (ρ ρ' : List Sl), dg s ρ = some ρ' → Store K A u H → ∀ (v : V) (σ : L2.St), RV K A (vis A u H) v s → Slots K A (vis A u H) ρ σ →
  ∀ Q : L2.St → Hp → Prop, (∀ σ', Slots K A (vis A u H) ρ' σ' → (∀ vs : List Nat, (∀ i ∈ gi, i ∈ vs) → wipe σ' vs = wipe σ vs) → Q σ' H) → tg v σ H Q
def LGs (K : PySem.W.Frag) (tg : TGs) (dg : DGs) (gi : List Nat) : Prop := ∀ (A : List Addr) (u : List Ob) (H : Hp) (xs : List D) (ρ ρ' : List Sl), dg xs ρ = some ρ' → Store K A u H → ∀ (vs : List V) (σ : L2.St), RpA K (vis A u H) vs xs → Slots K A (vis A u H) ρ σ →
  ∀ Q : L2.St → Hp → Prop, (∀ σ', Slots K A (vis A u H) ρ' σ' → (∀ vs : List Nat, (∀ i ∈ gi, i ∈ vs) → wipe σ' vs = wipe σ vs) → Q σ' H) → tg vs σ H Q
def JG (c : Ct) (e : Expr) (dg : DG) (gi : List Nat) : Prop := ∃ tg, (∀ X, OkX c X → PG X e tg) ∧ LG c.K tg dg gi
def JGs (c : Ct) (es : List Expr) (dg : DGs) (gi : List Nat) : Prop := ∃ tg, (∀ X, OkX c X → PGs X es tg) ∧ LGs c.K tg dg gi
def gSet (i : Nat) : DG := fun s ρ => some (ρ.set i s)
def gNone : DGs := fun xs ρ => match xs with
  | [] => some ρ
  | _ => none
def gSome (g : DG) (gs : DGs) : DGs := fun xs ρ => match xs with
  | [] => none
  | x :: r => match g (.d x) ρ with
    | none => none
    | some ρ1 => gs r ρ1
def gUnp (n : Nat) (gs : DGs) : DG := fun s ρ => match s with
  | .d (.tuple xs) => if xs.length = n then gs xs ρ else none
  | _ => none
section
variable {K : PySem.W.Frag} {A : List Addr} {Hv : Hp} {ρ : List Sl} {σ : L2.St}
theorem Slots.set (L : Slots K A Hv ρ σ) (i : Nat) {s : Sl} {v : V} (h : RV K A Hv v s) : Slots K A Hv (ρ.set i s) (σ.set i (some v)) := by
  refine ⟨by rw [List.length_set, List.length_set]; exact L.len, fun j x e => ?_⟩
  rcases getElem?_set_cases e with ⟨rfl, rfl⟩ | ⟨ne, e⟩
  · have hl : j < σ.length := by
      have := (List.getElem?_eq_some_iff.mp e).1
      rw [List.length_set, L.len] at this; exact this
    exact .inr ⟨v, List.getElem?_set_self hl, h⟩
  · rw [List.getElem?_set_ne (Ne.symm ne)]
    exact L.get j x e
theorem wipe_get (σ : L2.St) (j : Nat) : ∀ vs : List Nat, (wipe σ vs)[j]? = if j ∈ vs then (σ[j]?).map (fun _ => none) else σ[j]?
  | [] => by simp [wipe]
  | v :: vs => by
    unfold wipe
    have ih := wipe_get σ j vs
    by_cases e : v = j
    · subst e
      by_cases hl : v < (wipe σ vs).length
      · rw [List.getElem?_set_self hl, if_pos List.mem_cons_self]
        rw [wipe_length] at hl
        rw [List.getElem?_eq_getElem hl]
        rfl
      · rw [List.getElem?_eq_none (by rw [List.length_set]; omega), if_pos List.mem_cons_self]
        rw [wipe_length] at hl
        rw [List.getElem?_eq_none (by omega)]
        rfl
    · rw [List.getElem?_set_ne e, ih]
      by_cases m : j ∈ vs
      · rw [if_pos m, if_pos (List.mem_cons_of_mem _ m)]
      · rw [if_neg m, if_neg (fun q => by
          rcases List.mem_cons.mp q with q | q
          · exact e q.symm
          · exact m q)]
theorem wipe_set {σ : L2.St} {i : Nat} {x : Option V} {vs : List Nat} (h : i ∈ vs) : wipe (σ.set i x) vs = wipe σ vs := by
  apply List.ext_getElem?
  intro j
  rw [wipe_get, wipe_get]
  by_cases m : j ∈ vs
  · rw [if_pos m, if_pos m]
    by_cases e : i = j
    · subst e
      by_cases hl : i < σ.length
      · rw [List.getElem?_set_self hl, List.getElem?_eq_getElem hl]; rfl
      · rw [List.getElem?_eq_none (by rw [List.length_set]; omega), List.getElem?_eq_none (by omega)]
    · rw [List.getElem?_set_ne e]
  · rw [if_neg m, if_neg m, List.getElem?_set_ne (fun e => m (by rw [← e]; exact h))]
theorem wipe_wipe {σ : L2.St} {vs : List Nat} : wipe (wipe σ vs) vs = wipe σ vs := by
  apply List.ext_getElem?
  intro j
  rw [wipe_get, wipe_get]
  by_cases m : j ∈ vs
  · rw [if_pos m, if_pos m]
    cases σ[j]? <;> rfl
  · rw [if_neg m]
theorem LG.set {i : Nat} : LG K (gName i) (gSet i) [i] := by
  intro A u H s ρ ρ' e S v σ rv L Q q
  cases e
  exact q _ (L.set i rv) fun vs h => wipe_set (h i (by simp))
theorem LGs.nil : LGs K gNil gNone [] := by
  intro A u H xs ρ ρ' e S vs σ rv L Q q
  cases rv with
  | nil => cases e; exact ⟨rfl, q _ L fun _ _ => rfl⟩
  | cons _ _ => cases e
theorem LGs.cons {tg : TG} {ts : TGs} {g : DG} {gs : DGs} {gi hi : List Nat} (hg : LG K tg g gi) (hs : LGs K ts gs hi) : LGs K (gCons tg ts) (gSome g gs) (gi ++ hi) := by
  intro A u H xs ρ ρ' e S vs σ rv L Q q
  cases rv with
  | nil => cases e
  | @cons v vs x xs h r =>
    unfold gSome at e
    simp only at e
    cases e1 : g (.d x) ρ with
    | none => rw [e1] at e; cases e
    | some ρ1 =>
      rw [e1] at e
      exact ⟨v, vs, rfl, hg A u H (.d x) ρ ρ1 e1 S v σ h L _ fun σ1 L1 w1 => hs A u H xs ρ1 ρ' e S vs σ1 r L1 Q fun σ2 L2 w2 => q σ2 L2 fun vs h => (w2 vs fun i hi => h i (List.mem_append_right _ hi)).trans (w1 vs fun i hi => h i (List.mem_append_left _ hi))⟩
theorem LG.unp {n : Nat} {ts : TGs} {gs : DGs} {gi : List Nat} (hs : LGs K ts gs gi) : LG K (gTup K n ts) (gUnp n gs) gi := by
  intro A u H s ρ ρ' e S v σ rv L Q q
  cases s with
  | un => cases e
  | m j => cases e
  | d x =>
    cases x with
    | tuple xs =>
      unfold gUnp at e
      simp only at e
      by_cases hl : xs.length = n
      · rw [if_pos hl] at e
        have rv : Rp K (vis A u H) v (.tuple xs) := rv
        cases rv with
        | tup s r => exact ⟨_, _, rfl, vis_le.sqT s, r.length.trans hl, hs A u H xs ρ ρ' e S _ σ r L Q q⟩
      · rw [if_neg hl] at e; cases e
    | _ => cases e
end
section
variable {c : Ct} {es : List Expr} {pos : Pos}
theorem jg_name {i : Nat} {x : Str} (hN : c.N.Nodup) (hi : c.N[i]? = some x := by rfl) (hx : Loc c.sc x := by first | exact Or.inl rfl | exact Or.inr rfl) (hf : c.fn x = true ∨ c.sc.names.lookup x = some .local := by first | exact .inl rfl | exact .inr rfl) : JG c (.Name x pos) (gSet i) [i] :=
  ⟨_, fun X ok => pg_name (by rw [ok.N]; exact hN) (by rw [ok.N]; exact hi) (by rw [ok.sc]; exact hx) (by rw [ok.sc, ok.fn]; exact hf), LG.set⟩
theorem jgs_nil : JGs c [] gNone [] := ⟨_, fun X ok => pgs_nil, LGs.nil⟩
theorem jgs_cons {e : Expr} {g : DG} {gs : DGs} {gi hi : List Nat} (h : JG c e g gi) (hs : JGs c es gs hi) (hr : ∀ env, (assignEach (e :: es) env).map (·.2) = assign e env :: (assignEach es env).map (·.2) := by intro _; rfl) : JGs c (e :: es) (gSome g gs) (gi ++ hi) := by
  obtain ⟨tg, pg, lg⟩ := h
  obtain ⟨ts, ps, ls⟩ := hs
  exact ⟨gCons tg ts, fun X ok => pgs_cons (pg X ok) (ps X ok) (hr _), LGs.cons lg ls⟩
theorem jg_tup {gs : DGs} {gi : List Nat} {k : Nat} (n : Nat) (h : JGs c es gs gi) (hn : ∀ env, (assignEach es env).length = n := by intro _; rfl) (hst : ∀ env, (assignEach es env).findIdx? (·.1) = none := by intro _; rfl) : JG c (.Tuple es k pos) (gUnp n gs) gi := by
  obtain ⟨ts, ps, ls⟩ := h
  exact ⟨gTup c.K n ts, fun X ok => by rw [← ok.K]; exact pg_tup ok.calm (ps X ok) (hn _) (hst _), LG.unp ls⟩
end

/-! ### statements -/
inductive Out where
  | nx (ρ : List Sl) (u : List Ob) | rt (r : Rt) (u : List Ob) | bk (ρ : List Sl) (u : List Ob) | ct (ρ : List Sl) (u : List Ob)
abbrev DS := List Sl → List Ob → Option Out
def At (K : PySem.W.Frag) (A : List Addr) (u : List Ob) (H : Hp) (ρ' : List Sl) (u' : List Ob) (T : L2.St → Hp → Prop) : Prop :=
  ∀ A' σ' H', Step A u H A' u' H' → Store K A' u' H' → Slots K A' (vis A' u' H') ρ' σ' → T σ' H'
def OutOk (K : PySem.W.Frag) (A : List Addr) (u : List Ob) (H : Hp) (Dn : Ends) : Out → Prop
  | .nx ρ' u' => At K A u H ρ' u' Dn.nx
  | .bk ρ' u' => At K A u H ρ' u' Dn.bk
  | .ct ρ' u' => At K A u H ρ' u' Dn.ct
  | .rt r u' => ∀ v H', Post K A u H r u' v H' → Dn.rt v H'
def LS (K : PySem.W.Frag) (ts : TS) (ds : DS) : Prop := ∀ (A : List Addr) (ρ : List Sl) (u : List Ob) (o : Out), ds ρ u = some o →
  ∀ (σ : L2.St) (H : Hp), Store K A u H → Slots K A (vis A u H) ρ σ → ∀ Dn : Ends, OutOk K A u H Dn o → ts Dn σ H
def JS (c : Ct) (s : Stmt) (ds : DS) : Prop := ∃ ts, (∀ X, OkX c X → PS X s ts) ∧ LS c.K ts ds
def JSs (c : Ct) (s : List Stmt) (ds : DS) : Prop := ∃ ts, (∀ X, OkX c X → PSs X s ts) ∧ LS c.K ts ds
def sNil : DS := fun ρ u => some (.nx ρ u)
def sSeq (a b : DS) : DS := fun ρ u => match a ρ u with
  | some (.nx ρ1 u1) => b ρ1 u1
  | o => o
def sBrk : DS := fun ρ u => some (.bk ρ u)
def sCnt : DS := fun ρ u => some (.ct ρ u)
def sExpr (de : DE) : DS := fun ρ u => match de ρ u with
  | none => none
  | some (_, u1) => some (.nx ρ u1)
def sRet (de : DE) : DS := fun ρ u => match de ρ u with
  | none => none
  | some (r, u1) => some (.rt r u1)
def sRetN : DS := fun ρ u => some (.rt (.s (.d .none)) u)
def sIf (dt : DT) (a b : DS) : DS := fun ρ u => match dt ρ u with
  | none => none
  | some (true, u1) => a ρ u1
  | some (false, u1) => b ρ u1
/-- x = e, a target of any form -/
def sAsg (g : DG) (de : DE) : DS := fun ρ u => match de ρ u with
  | none => none
  | some (r, u1) => match g r.sl ρ with
    | none => none
    | some ρ1 => some (.nx ρ1 u1)
/-- x = e, e a new object that x holds alone -/
def sOwn (i : Nat) (de : DE) : DS := fun ρ u => match de ρ u with
  | some (.nw mo, u1) => if mo.isT then none else some (.nx (ρ.set i (.m u1.length)) (u1 ++ [⟨true, mo⟩]))
  | _ => none
section
variable {K : PySem.W.Frag}
theorem At.step {A A1 : List Addr} {u u1 : List Ob} {H H1 : Hp} {ρ' : List Sl} {u' : List Ob} {T : L2.St → Hp → Prop} (st : Step A u H A1 u1 H1) (h : At K A u H ρ' u' T) : At K A1 u1 H1 ρ' u' T := fun A' σ' H' s S L => h A' σ' H' (st.trans s) S L
theorem OutOk.step {A A1 : List Addr} {u u1 : List Ob} {H H1 : Hp} {Dn : Ends} {o : Out} (st : Step A u H A1 u1 H1) (h : OutOk K A u H Dn o) : OutOk K A1 u1 H1 Dn o := by
  cases o with
  | nx ρ' u' => exact At.step st h
  | bk ρ' u' => exact At.step st h
  | ct ρ' u' => exact At.step st h
  | rt r u' => exact fun v H' P => h v H' (P.trans st)
theorem LS.nil : LS K tNext sNil := by
  intro A ρ u o e σ H S L Dn q
  cases e
  exact q A σ H Step.refl S L
theorem LS.brk : LS K tBreak sBrk := by
  intro A ρ u o e σ H S L Dn q
  cases e
  exact q A σ H Step.refl S L
theorem LS.cnt : LS K tCont sCnt := by
  intro A ρ u o e σ H S L Dn q
  cases e
  exact q A σ H Step.refl S L
theorem LS.seq {t1 t2 : TS} {d1 d2 : DS} (h1 : LS K t1 d1) (h2 : LS K t2 d2) : LS K (tSeq t1 t2) (sSeq d1 d2) := by
  intro A ρ u o e σ H S L Dn q
  unfold sSeq at e
  cases e1 : d1 ρ u with
  | none => rw [e1] at e; cases e
  | some o1 =>
    rw [e1] at e
    refine h1 A ρ u o1 e1 σ H S L _ ?_
    cases o1 with
    | nx ρ1 u1 => exact fun A' σ' H' st S' L' => h2 A' ρ1 u1 o e σ' H' S' L' Dn (q.step st)
    | rt r u1 => cases e; exact q
    | bk ρ1 u1 => cases e; exact q
    | ct ρ1 u1 => cases e; exact q
theorem LS.expr {te : TE} {de : DE} (h : LE K te de) : LS K (tDrop te) (sExpr de) := by
  intro A ρ u o e σ H S L Dn q
  unfold sExpr at e
  cases e1 : de ρ u with
  | none => rw [e1] at e; cases e
  | some p =>
    obtain ⟨r, u1⟩ := p
    rw [e1] at e
    cases e
    refine h A ρ u r u1 e1 σ H S L _ fun v H1 P => ?_
    obtain ⟨A1, st, S1, _⟩ := P.ret
    exact q A1 σ H1 st S1 (st.slots L)
theorem LS.ret {te : TE} {de : DE} (h : LE K te de) : LS K (tRet te) (sRet de) := by
  intro A ρ u o e σ H S L Dn q
  unfold sRet at e
  cases e1 : de ρ u with
  | none => rw [e1] at e; cases e
  | some p =>
    obtain ⟨r, u1⟩ := p
    rw [e1] at e
    cases e
    exact h A ρ u r u1 e1 σ H S L _ q
theorem LS.retN : LS K tRetN sRetN := by
  intro A ρ u o e σ H S L Dn q
  cases e
  exact q .non H ⟨A, Step.refl, S, .non⟩
theorem LS.ite {t : TT} {ta tb : TS} {dt : DT} {da db : DS} (ht : LT K t dt) (ha : LS K ta da) (hb : LS K tb db) : LS K (tIfS t ta tb) (sIf dt da db) := by
  intro A ρ u o e σ H S L Dn q
  unfold sIf at e
  cases e1 : dt ρ u with
  | none => rw [e1] at e; cases e
  | some p =>
    obtain ⟨b, u1⟩ := p
    rw [e1] at e
    refine ht A ρ u b u1 e1 σ H S L _ fun H1 P => ?_
    obtain ⟨A1, st, S1⟩ := P
    cases b with
    | true => exact iteT (ha A1 ρ u1 o e σ H1 S1 (st.slots L) Dn (q.step st))
    | false => exact iteF (hb A1 ρ u1 o e σ H1 S1 (st.slots L) Dn (q.step st))
theorem LS.asg {te : TE} {tg : TG} {de : DE} {g : DG} {gi : List Nat} (h : LE K te de) (hg : LG K tg g gi) : LS K (tAsg te tg) (sAsg g de) := by
  intro A ρ u o e σ H S L Dn q
  unfold sAsg at e
  cases e1 : de ρ u with
  | none => rw [e1] at e; cases e
  | some p =>
    obtain ⟨r, u1⟩ := p
    rw [e1] at e
    simp only at e
    cases e2 : g r.sl ρ with
    | none => rw [e2] at e; cases e
    | some ρ1 =>
      rw [e2] at e
      cases e
      refine h A ρ u r u1 e1 σ H S L _ fun v H1 P => ?_
      obtain ⟨A1, st, S1, rv⟩ := P.ret
      exact hg A1 u1 H1 _ ρ ρ1 e2 S1 v σ rv (st.slots L) _ fun σ' L' _ => q A1 σ' H1 st S1 L'
theorem LS.own {te : TE} {i : Nat} {de : DE} (h : LE K te de) : LS K (tAsg te (gName i)) (sOwn i de) := by
  intro A ρ u o e σ H S L Dn q
  unfold sOwn at e
  cases e1 : de ρ u with
  | none => rw [e1] at e; cases e
  | some p =>
    obtain ⟨r, u1⟩ := p
    rw [e1] at e
    cases r with
    | s x => cases e
    | nw mo =>
      simp only at e
      by_cases hT : mo.isT = true
      · rw [if_pos hT] at e; cases e
      rw [if_neg hT] at e
      cases e
      have hT : mo.isT = false := by cases z : mo.isT <;> first | rfl | exact absurd z hT
      refine h A ρ u _ u1 e1 σ H S L _ fun v H1 P => ?_
      obtain ⟨A1, H2, p, o, st, S2, hp, rfl, rfl, cc⟩ := P
      obtain ⟨S3, st3⟩ := S2.own hp hT cc
      refine q _ _ _ (st.trans st3) S3 ((( st.trans st3).slots L).set i ⟨p, ?_, rfl⟩)
      rw [← S2.len, List.getElem?_append_right (Nat.le_refl _)]
      simp
end
section
variable {c : Ct} {e : Expr} {s : Stmt} {ss : List Stmt} {de : DE} {ds d2 : DS} {dt : DT} {pos pos' : Pos}
theorem jss_nil : JSs c [] sNil := ⟨_, fun X ok => pss_nil, LS.nil⟩
theorem jss_cons (h : JS c s ds) (h2 : JSs c ss d2) : JSs c (s :: ss) (sSeq ds d2) := by
  obtain ⟨t1, p1, l1⟩ := h
  obtain ⟨t2, p2, l2⟩ := h2
  exact ⟨_, fun X ok => pss_cons (p1 X ok) (p2 X ok), LS.seq l1 l2⟩
theorem jss_one (h : JS c s ds) : JSs c [s] ds := by
  obtain ⟨t1, p1, l1⟩ := h
  exact ⟨_, fun X ok => pss_one (p1 X ok), l1⟩
theorem js_pass : JS c (.Pass pos) sNil := ⟨_, fun X ok => ps_pass, LS.nil⟩
theorem js_break : JS c (.Break pos) sBrk := ⟨_, fun X ok => ps_break, LS.brk⟩
theorem js_continue : JS c (.Continue pos) sCnt := ⟨_, fun X ok => ps_continue, LS.cnt⟩
theorem js_doc {x j} : JS c (.Expr (.Constant (.str x) j pos) pos') sNil := ⟨_, fun X ok => ps_doc, LS.nil⟩
theorem js_expr (h : JE c e de) (hs : ∀ env, swapsWith e none pos.line env = pure false := by intro _; rfl) : JS c (.Expr e pos) (sExpr de) := by
  obtain ⟨t1, p1, l1⟩ := h
  exact ⟨_, fun X ok => ps_expr (p1 X ok) (hs _), LS.expr l1⟩
theorem js_ret (h : JE c e de) : JS c (.Return (some e) pos) (sRet de) := by
  obtain ⟨t1, p1, l1⟩ := h
  exact ⟨_, fun X ok => ps_ret (p1 X ok), LS.ret l1⟩
theorem js_retN : JS c (.Return none pos) sRetN := ⟨_, fun X ok => ps_retN, LS.retN⟩
theorem js_if {t : Expr} {a b : List Stmt} (ht : JT c t dt) (ha : JSs c a ds) (hb : JSs c b d2) : JS c (.If t a b pos) (sIf dt ds d2) := by
  obtain ⟨tt, pt, lt⟩ := ht
  obtain ⟨t1, p1, l1⟩ := ha
  obtain ⟨t2, p2, l2⟩ := hb
  exact ⟨_, fun X ok => ps_if (pt X ok) (p1 X ok) (p2 X ok), LS.ite lt l1 l2⟩
theorem js_set (i : Nat) {x : Str} (hN : c.N.Nodup) (he : JE c e de) (hi : c.N[i]? = some x := by rfl) (hx : Loc c.sc x := by first | exact Or.inl rfl | exact Or.inr rfl) (hf : c.fn x = true ∨ c.sc.names.lookup x = some .local := by first | exact .inl rfl | exact .inr rfl)
    (hs : ∀ env : Env, env.scope = c.sc → swapsWith e (some (.Name x pos')) pos.line env = pure false := by first | (intro _ _; rfl) | (intro env h; cases env; cases h; rfl)) : JS c (.Assign [.Name x pos'] e pos) (sAsg (gSet i) de) := by
  obtain ⟨t1, p1, l1⟩ := he
  exact ⟨_, fun X ok => ps_set (by rw [ok.N]; exact hN) (by rw [ok.N]; exact hi) (by rw [ok.sc]; exact hx) (p1 X ok) (hs _ ok.sc) (by rw [ok.sc, ok.fn]; exact hf), LS.asg l1 LG.set⟩
theorem js_own (i : Nat) {x : Str} (hN : c.N.Nodup) (he : JE c e de) (hi : c.N[i]? = some x := by rfl) (hx : Loc c.sc x := by first | exact Or.inl rfl | exact Or.inr rfl) (hf : c.fn x = true ∨ c.sc.names.lookup x = some .local := by first | exact .inl rfl | exact .inr rfl)
    (hs : ∀ env : Env, env.scope = c.sc → swapsWith e (some (.Name x pos')) pos.line env = pure false := by first | (intro _ _; rfl) | (intro env h; cases env; cases h; rfl)) : JS c (.Assign [.Name x pos'] e pos) (sOwn i de) := by
  obtain ⟨t1, p1, l1⟩ := he
  exact ⟨_, fun X ok => ps_set (by rw [ok.N]; exact hN) (by rw [ok.N]; exact hi) (by rw [ok.sc]; exact hx) (p1 X ok) (hs _ ok.sc) (by rw [ok.sc, ok.fn]; exact hf), LS.own l1⟩
theorem js_asg {tg : Expr} {g : DG} {gi : List Nat} (he : JE c e de) (hg : JG c tg g gi) (hs : ∀ env, swapsWithSole [tg] e pos.line env = pure false := by intro _; rfl) (hw : ∀ env, swappedStores [tg] e env = pure none := by intro _; rfl)
    (h1 : ∀ env, (assignEach [tg] env).map (·.2) = [assign tg env] := by intro _; rfl) : JS c (.Assign [tg] e pos) (sAsg g de) := by
  obtain ⟨t1, p1, l1⟩ := he
  obtain ⟨t2, p2, l2⟩ := hg
  exact ⟨_, fun X ok => ps_asg (p1 X ok) (p2 X ok) (hs _) (hw _) (h1 _), LS.asg l1 l2⟩
end
end DL
end

section
set_option Elab.async false
set_option maxRecDepth 100000
set_option maxHeartbeats 4000000
/-! enumerate, of a tuple too -/
namespace DL
open PySem L2

/-- the tuple's items, each with its number in a new pair -/
def EtT (K : PySem.W.Frag) (t : Addr) : It where
  go := fun k H => ∃ (ys : List V) (y : V), SqT K H t ys ∧ ys[k]? = some y
  yld := fun k H v H2 => ∃ P y, v = .ref P ∧ H P = none ∧ H2 = upd H P (.tup [.int (k : Nat), y]) ∧ ∀ ys, SqT K H t ys → ys[k]? = some y
  stop := fun k H => ∃ ys : List V, SqT K H t ys ∧ ys.length ≤ k
theorem apart_of {h : Heap} {a b : Addr} {o p : Obj} (e1 : h.get? a = some o) (e2 : h.get? b = some p) (n : o.cls ≠ p.cls) : a ≠ b := by
  rintro rfl
  rw [e1] at e2
  cases e2
  exact n rfl
theorem turn_etT {P : Program} {w : World} {K : PySem.W.Frag} {elts : List Expr} {kk : Nat} {tpos : Pos} (t e it : Addr) :
    Turn P w K (.Tuple elts kk tpos) (EtT K t) [e, it] e (fun k h => (∃ old, IsEnum h e it ((k : Nat) : Int) old) ∧ h.IsTupleIter it t k ∧ e ≠ it) where
  mem := List.mem_cons_self ..
  obj := by
    rintro k h ⟨⟨old, h1⟩, ⟨p, h2, h3, h4⟩, _⟩ b hb
    rcases List.mem_cons.mp hb with z | hb
    · rw [z]
      exact ⟨_, h1, fun v q => (nomatch q)⟩
    · rw [List.mem_singleton.mp hb]
      exact ⟨p, h2, fun v q => by rw [h4] at q; cases q⟩
  keep := by
    rintro k h h2 ⟨⟨old, h1⟩, hi, ne⟩ same
    exact ⟨⟨old, same e (List.mem_cons_self ..) _ h1⟩, hi.at fun o q => same it (by simp) o q, ne⟩
  item := by
    rintro X rfl rfl rfl calm k pins s σ H E I fine ⟨⟨old, h1⟩, hi, ne⟩ ⟨ys, y, hq, hy⟩
    obtain ⟨its, rv, pt, _⟩ := I.tuple hq
    obtain ⟨u, hu, ru⟩ := rv.get hy
    have pt : s.heap.IsTuple t its.toArray := pt
    have ti : t ≠ it := by
      obtain ⟨o1, q1, c1, _⟩ := pt
      obtain ⟨o2, q2, c2, _⟩ := hi
      exact apart_of q1 q2 (by rw [c1, c2]; decide)
    have te : e ≠ t := by
      obtain ⟨o1, q1, c1, _⟩ := pt
      exact apart_of h1 q1 (by rw [c1]; show Value.type "enumerate" ≠ Value.type "tuple"; decide)
    have big : e < s.heap.objs.size := Heap.lt_size h1
    have big2 : it < s.heap.objs.size := by obtain ⟨_, q, _⟩ := hi; exact Heap.lt_size q
    have ks : k < its.toArray.size := by
      have := (List.getElem?_eq_some_iff.mp hu).1
      simpa using this
    refine wpAny_pyNext_enum_itemD (Draws.tuple (A := X.A.in1) (I.ok.hd calm) it t ti its.toArray) h1 ⟨hi, pt⟩ ks ne (by simp [ne, te]) fun x h' tk hx ho st hT sz same => ?_
    have hxu : x = u := by
      have : its.toArray[k]? = some u := by simpa using hu
      rw [hx] at this
      exact Option.some.inj this
    subst hxu
    refine ⟨_, rfl, wpAny_letOwnedTupleGo_enum (s := { s with heap := h', toks := tk + 1 }) ho fun h2 he2 sb => ?_⟩
    have hT2 := (sb.2 _ (Nat.ne_of_gt big)).trans hT
    have mine : ObjOk X.prog X.w (upd H s.heap.objs.size (.tup [.int (k : Nat), y])) h2 s.heap.objs.size (.tup [.int (k : Nat), y]) :=
      ⟨show 2 ≤ sizeLine by decide, [.int k tk, x], .cons ⟨_, rfl⟩ (.cons ru .nil), _, hT2, rfl, _, rfl⟩
    have J := I.turnedNew (t' := tk + 1) (ch := [e, it]) (fun b ob hb q => (sb.2 b (fun z => hb (by rw [z]; exact List.mem_cons_self ..))).trans (same b ob (fun z => hb (by rw [z]; exact List.mem_cons_self ..)) (fun z => hb (by rw [z]; simp)) q)) fine (Nat.le_refl _) mine
    refine ⟨.ref s.heap.objs.size, _, J, rfl, ⟨_, y, rfl, I.hok.fresh (Nat.le_refl _), rfl, fun zs hz => ?_⟩, ⟨⟨x, ?_⟩, st.1.at fun o q => (sb.2 it (Ne.symm ne)).trans q, ne⟩, fun b hb => ?_⟩
    · rw [I.tuple_inj hz hq]
      exact hy
    · rw [show ((k + 1 : Nat) : Int) = (k : Int) + 1 from by omega]
      exact he2
    · have small : b < s.heap.objs.size := by
        rcases List.mem_cons.mp hb with z | hb
        · rw [z]; exact big
        · rw [List.mem_singleton.mp hb]; exact big2
      rw [upd_ne (Nat.ne_of_lt small)]
      exact (fine b hb).1
  done := by
    rintro X rfl rfl rfl calm k pins s σ H E I fine ⟨⟨old, h1⟩, hi, ne⟩ ⟨ys, hq, hl⟩
    obtain ⟨its, rv, pt, _⟩ := I.tuple hq
    have pt : s.heap.IsTuple t its.toArray := pt
    obtain ⟨f0, f1, f2, f3, f4, f5⟩ := fine it (by simp)
    have ln := rv.length
    have ti : t ≠ it := by
      obtain ⟨o1, q1, c1, _⟩ := pt
      obtain ⟨o2, q2, c2, _⟩ := hi
      exact apart_of q1 q2 (by rw [c1, c2]; decide)
    have none_ : its.toArray[k]? = none := by simp; omega
    have Dr : Draws X.prog X.w X.A.in1 it [it, t] k (fun _ _ => False) (fun i h => i = k ∧ h.IsTupleIter it t k ∧ h.IsTuple t its.toArray) :=
      { live := fun _ _ st => let ⟨o, q, _⟩ := st.2.1; ⟨o, q⟩
        frame := fun _ _ _ st same => ⟨st.1, st.2.1.at fun o q => same it (by simp) o q, st.2.2.at fun o q => same t (by simp) o q⟩
        item := fun i s Q E lt st hQ => absurd st.1 (Nat.ne_of_lt lt)
        done := fun s Q E st hE => wpAny_nextOf_tuple_end (I.ok.hd calm) st.2.1 st.2.2 none_ hE }
    exact wpAny_pyNext_enum_endD Dr h1 ⟨rfl, hi, pt⟩ fun h' eb => ⟨rfl, I.turned (t' := s.toks) (fun b o hb q => eb b o hb q) f0 f1 f3 f4 f5⟩
  self := fun A k s Q E st h => by
    obtain ⟨⟨old, h1⟩, _⟩ := st
    exact wpAny_pyIter_enum h1 h
theorem meets_etT {v : Value} {o : Obj} {H : Heap → Prop} (B : Begins v o H) :
    Meets (Builtin.«enumerate.__new__» ⟨[.type "enumerate", v], []⟩) (fun _ R s => H s.heap ∧ R (.ok (.ret (.ref (s.heap.push o).objs.size))) { s with heap := (s.heap.push o).push { cls := .type "enumerate", data := .fields #[.none, .bool false, .ref s.heap.objs.size, rawInt 0, .none, .none] } }) :=
  .of_wp fun prog w A R s h => by
    obtain ⟨hp, g, d, tk, os⟩ := s
    obtain ⟨h1, h⟩ := h
    have hsub := sub_enumerate
    have it1 : ∀ {A2 : Around} {E : Value → Shared → Prop} {Q : Value → Shared → Prop}, Q (.ref hp.objs.size) ⟨hp.push o, g, d, tk, os⟩ → wpAny (model prog w) A2 (pyIter v) Q E ⟨hp, g, d, tk, os⟩ := fun q => B.iter prog w _ _ ⟨hp, g, d, tk, os⟩ _ h1 q
    wp_walk using it1
    refine wpAny_stack_any fun st => wpAny_pure ?_
    split
    · rename_i c _ _ _ _ _
      cases (c == Value.type "enumerate") <;> (wp_walk using it1; exact ⟨_, rfl, h⟩)
    · wp_walk using it1
      exact ⟨_, rfl, h⟩
theorem call_etT {prog : Program} {w : World} {A : Around} {E : Value → Shared → Prop} {s : Shared} {t : Addr} {items : Array Value} {Q : Value → Shared → Prop} (ht : s.heap.IsTuple t items)
    (h : ∀ h2, IsEnum h2 (s.heap.objs.size + 1) s.heap.objs.size 0 .none → h2.IsTupleIter s.heap.objs.size t 0 → (∀ b o, s.heap.get? b = some o → h2.get? b = some o) → Q (.ref (s.heap.objs.size + 1)) { s with heap := h2 }) :
    wpAny (model prog w) A (call (.type "enumerate") [.ref t]) Q E s := by
  refine callType_new F.called_enumerate (by decide) (F.typeCall_enumerate_1 _) (F.newCall_enumerate_1 _) (fun obj => F.args_object_init_2 obj _) F.entry_enumerate_new (meets_etT (begins_tuple t items)) ⟨ht, ?_⟩
  have one : (s.heap.push { cls := .type "tuple_iterator", data := .fields #[.ref t, .int 0 0] }).objs.size = s.heap.objs.size + 1 := Heap.size_push ..
  have he : IsEnum ((s.heap.push { cls := .type "tuple_iterator", data := .fields #[.ref t, .int 0 0] }).push { cls := .type "enumerate", data := .fields #[.none, .bool false, .ref s.heap.objs.size, rawInt 0, .none, .none] }) (s.heap.objs.size + 1) s.heap.objs.size 0 .none := by
    have q := Heap.get?_push_size (s.heap.push { cls := .type "tuple_iterator", data := .fields #[.ref t, .int 0 0] }) (o := { cls := .type "enumerate", data := .fields #[.none, .bool false, .ref s.heap.objs.size, rawInt 0, .none, .none] }) rfl
    rw [one] at q
    exact q
  show _ ∧ _
  rw [one]
  exact ⟨⟨_, he, rfl⟩, h _ he ⟨_, Heap.get?_push_of_some _ (Heap.get?_push_size _ rfl), rfl, rfl⟩ fun b o x => Heap.get?_push_of_some _ (Heap.get?_push_of_some _ x)⟩
def iEnA (K : PySem.W.Frag) (ta : TA) : TI := fun σ H R => ta σ H fun vs H1 => ∃ a, vs = [.ref a] ∧ ((∃ xs, SqL K H1 a xs ∧ R (Ite K a) H1) ∨ ∃ xs, SqT K H1 a xs ∧ R (EtT K a) H1)
theorem pi_enA {X : Cx} {e : Expr} {ta : TA} {p pos tpos : Pos} {elts : List Expr} {kk : Nat} (hg : Gl X "enumerate") (hm : X.mg "enumerate" = none) (ha : PA X [e] ta) (hs : starEach [e] X.env = [(false, eval e X.env)] := by rfl) :
    PI X (.Tuple elts kk tpos) (.Call (.Name "enumerate" p) [e] [] pos) (iEnA X.K ta) := by
  refine ⟨fun pins s σ H R I h => ?_⟩
  refine PyProof.Rows.Call_ (ld_blt I hg hm PyProof.Rows.boot_enumerate (PyProof.Rows.callWith_type1 (thn (ha.run pos pins s σ H _ I h) fun us s1 ⟨vs, H1, I1, r1, a, ev, q⟩ => ?_) hs rfl))
  subst ev
  obtain ⟨u, rfl, r⟩ := vals1 r1
  cases r
  have fin : ∀ b, b ∈ [s1.heap.objs.size + 1, s1.heap.objs.size] → FpOk X pins H1 b := fun b hb => by
    have le : s1.heap.objs.size ≤ b := by
      rcases List.mem_cons.mp hb with z | hb
      · rw [z]; exact Nat.le_succ _
      · rw [List.mem_singleton.mp hb]; exact Nat.le_refl _
    exact I1.fpOk le (I1.hok.fresh le)
  rcases q with ⟨xs, hq, q⟩ | ⟨xs, hq, q⟩
  · obtain ⟨its, rv, p', _⟩ := I1.list hq
    exact call_enumerate_list p'.isList fun h' he hit _ hk => wpAny_pyIter_enum he ⟨_, _, _, _, H1, rfl, I1.kept (t' := s1.toks) hk, turn_enum a (s1.heap.objs.size + 1) s1.heap.objs.size, ⟨⟨.none, he⟩, hit, Nat.succ_ne_self _⟩, fin, q⟩
  · obtain ⟨its, rv, p', _⟩ := I1.tuple hq
    exact call_etT (show s1.heap.IsTuple a its.toArray from p') fun h' he hit hk => wpAny_pyIter_enum he ⟨_, _, _, _, H1, rfl, I1.kept (t' := s1.toks) hk, turn_etT a (s1.heap.objs.size + 1) s1.heap.objs.size, ⟨⟨.none, he⟩, hit, Nat.succ_ne_self _⟩, fin, q⟩
end DL
end

section
set_option Elab.async false
set_option maxRecDepth 100000
set_option maxHeartbeats 4000000
namespace DL
open PySem L2

/-! ### what is walked -/
def Grd (u : List Ob) : Option (Nat × MO) → Prop
  | none => True
  | some (j, mo) => ∃ l, u[j]? = some ⟨l, mo⟩
structure ItOk (K : PySem.W.Frag) (J : It) (A : List Addr) (u : List Ob) (H : Hp) (items : List D) (g : Option (Nat × MO)) : Prop where
  go : ∀ (i : Nat) (x : D) (A' : List Addr) (u' : List Ob) (H' : Hp), Step A u H A' u' H' → Store K A' u' H' → Grd u' g → items[i]? = some x →
    J.go i H' ∧ ∀ v H'', J.yld i H' v H'' → Step A' u' H' A' u' H'' ∧ Store K A' u' H'' ∧ Rp K (vis A' u' H'') v x
  stop : ∀ (i : Nat) (A' : List Addr) (u' : List Ob) (H' : Hp), Step A u H A' u' H' → Store K A' u' H' → Grd u' g → items.length ≤ i → J.stop i H'
abbrev DI := List Sl → List Ob → Option ((List D × Option (Nat × MO)) × List Ob)
def LI (K : PySem.W.Frag) (wi : TI) (di : DI) : Prop := ∀ (A : List Addr) (ρ : List Sl) (u : List Ob) (items : List D) (g : Option (Nat × MO)) (u' : List Ob), di ρ u = some ((items, g), u') →
  ∀ (σ : L2.St) (H : Hp), Store K A u H → Slots K A (vis A u H) ρ σ → ∀ R : It → Hp → Prop, (∀ J A' H', Step A u H A' u' H' → Store K A' u' H' → ItOk K J A' u' H' items g → R J H') → wi σ H R
def JI (c : Ct) (tg e : Expr) (di : DI) : Prop := ∃ wi, (∀ X, OkX c X → PI X tg e wi) ∧ LI c.K wi di

section
variable {K : PySem.W.Frag} {A : List Addr} {u : List Ob} {H : Hp}
theorem sqL_get {vs ws : List V} {a : Addr} {H : Hp} {i : Nat} {x : V} (h : SqL K H a vs) (f : ∀ xs, SqL K H a xs → xs[i]? = some x) : vs[i]? = some x := f _ h
theorem itok_list {a : Addr} {vs : List V} {xs : List D} (s : SqL K (vis A u H) a vs) (r : RpA K (vis A u H) vs xs) : ItOk K (Itl K a) A u H xs none := by
  refine ⟨fun i x A' u' H' st S _ e => ?_, fun i A' u' H' st S _ hl => ?_⟩
  · have s' := vis_le.sqL (st.keep.sqL s)
    obtain ⟨v, hv, rv⟩ := r.get i e
    refine ⟨⟨vs, v, s', hv⟩, fun w H'' ⟨e1, f⟩ => ?_⟩
    subst e1
    have q := f vs s'
    rw [hv] at q; cases q
    exact ⟨Step.refl, S, rv.mono st.keep⟩
  · exact ⟨vs, vis_le.sqL (st.keep.sqL s), by rw [r.length]; exact hl⟩
theorem itok_tup {a : Addr} {vs : List V} {xs : List D} (s : SqT K (vis A u H) a vs) (r : RpA K (vis A u H) vs xs) : ItOk K (Itt K a) A u H xs none := by
  refine ⟨fun i x A' u' H' st S _ e => ?_, fun i A' u' H' st S _ hl => ?_⟩
  · have s' := vis_le.sqT (st.keep.sqT s)
    obtain ⟨v, hv, rv⟩ := r.get i e
    refine ⟨⟨vs, v, s', hv⟩, fun w H'' ⟨e1, f⟩ => ?_⟩
    subst e1
    have q := f vs s'
    rw [hv] at q; cases q
    exact ⟨Step.refl, S, rv.mono st.keep⟩
  · exact ⟨vs, vis_le.sqT (st.keep.sqT s), by rw [r.length]; exact hl⟩
/-- a list of the store that stays as it is -/
theorem itok_own {j : Nat} {a : Addr} {xs : List D} (ha : A[j]? = some a) : ItOk K (Itl K a) A u H xs (some (j, .lst xs)) := by
  have key : ∀ (A' : List Addr) (u' : List Ob) (H' : Hp), Step A u H A' u' H' → Store K A' u' H' → Grd u' (some (j, .lst xs)) → ∃ vs, SqL K H' a vs ∧ RpA K (vis A' u' H') vs xs := fun A' u' H' st S g => by
    obtain ⟨l, g⟩ := g
    obtain ⟨o, e, -, cc⟩ := S.ob j a _ (st.at ha) g
    cases o <;> first | exact (show False from cc).elim | exact ⟨_, .inl e, cc⟩
  refine ⟨fun i x A' u' H' st S g e => ?_, fun i A' u' H' st S g hl => ?_⟩
  · obtain ⟨vs, s, r⟩ := key A' u' H' st S g
    obtain ⟨v, hv, rv⟩ := r.get i e
    refine ⟨⟨vs, v, s, hv⟩, fun w H'' ⟨e1, f⟩ => ?_⟩
    subst e1
    have q := f vs s
    rw [hv] at q; cases q
    exact ⟨Step.refl, S, rv⟩
  · obtain ⟨vs, s, r⟩ := key A' u' H' st S g
    exact ⟨vs, s, by rw [r.length]; exact hl⟩
def strItems (x : Str) : List D := x.cps.toList.map fun c => .str ⟨#[c]⟩
theorem itok_str {x : Str} : ItOk K (Its x) A u H (strItems x) none := by
  refine ⟨fun i y A' u' H' st S _ e => ?_, fun i A' u' H' st S _ hl => ?_⟩
  · unfold strItems at e
    rw [List.getElem?_map] at e
    cases q : x.cps.toList[i]? with
    | none => rw [q] at e; cases e
    | some c =>
      rw [q] at e
      cases e
      have q' : x.cps[i]? = some c := by simpa using q
      refine ⟨(Array.getElem?_eq_some_iff.mp q').1, fun w H'' ⟨e1, c', h1, h2⟩ => ?_⟩
      subst e1 h2
      rw [q'] at h1; cases h1
      exact ⟨Step.refl, S, .str _⟩
  · unfold strItems at hl
    rw [List.length_map, Array.length_toList] at hl
    exact hl
def rngItems (lo : Int) (n : Nat) : List D := (List.range n).map fun i => .int (lo + (i : Nat))
theorem itok_rng {lo : Int} {n : Nat} : ItOk K (Itr lo n) A u H (rngItems lo n) none := by
  refine ⟨fun i y A' u' H' st S _ e => ?_, fun i A' u' H' st S _ hl => ?_⟩
  · unfold rngItems at e
    rw [List.getElem?_map] at e
    cases q : (List.range n)[i]? with
    | none => rw [q] at e; cases e
    | some c =>
      rw [q] at e
      cases e
      obtain ⟨h1, h2⟩ := List.getElem?_eq_some_iff.mp q
      rw [List.length_range] at h1
      simp at h2
      subst h2
      refine ⟨h1, fun w H'' ⟨e1, h2⟩ => ?_⟩
      subst e1 h2
      exact ⟨Step.refl, S, .int _⟩
  · unfold rngItems at hl
    rw [List.length_map, List.length_range] at hl
    exact hl
def enumItems : Nat → List D → List D
  | _, [] => []
  | i, x :: r => .tuple [.int (i : Nat), x] :: enumItems (i + 1) r
theorem enum_get : ∀ (xs : List D) (k i : Nat) (y : D), (enumItems k xs)[i]? = some y → ∃ x, xs[i]? = some x ∧ y = .tuple [.int ((k + i : Nat) : Int), x]
  | [], _, _, _, h => by simp [enumItems] at h
  | x :: r, k, 0, y, h => by
    have h : some (PyData.tuple [.int (k : Nat), x]) = some y := h
    cases h
    exact ⟨x, rfl, rfl⟩
  | x :: r, k, i + 1, y, h => by
    obtain ⟨z, h1, h2⟩ := enum_get r (k + 1) i y h
    refine ⟨z, h1, ?_⟩
    rw [h2]
    congr 3
    omega
theorem enum_len : ∀ (xs : List D) (k : Nat), (enumItems k xs).length = xs.length
  | [], _ => rfl
  | _ :: r, k => congrArg (· + 1) (enum_len r (k + 1))
theorem pair_new (S : Store K A u H) {T : Addr} {x y : V} {d e : D} (hT : H T = none) (h1 : Rp K (vis A u H) x d) (h2 : Rp K (vis A u H) y e) :
    Step A u H A u (upd H T (.tup [x, y])) ∧ Store K A u (upd H T (.tup [x, y])) ∧ Rp K (vis A u (upd H T (.tup [x, y]))) (.ref T) (.tuple [d, e]) := by
  obtain ⟨S2, st⟩ := S.new (o := .tup [x, y]) hT
  exact ⟨st, S2, .tup (.inl (rd_vis (not_hid_new S hT) (.inl upd_same))) (.cons (h1.mono st.keep) (.cons (h2.mono st.keep) .nil))⟩
theorem itok_enum {a : Addr} {xs : List D} {g : Option (Nat × MO)} (key : ∀ (A' : List Addr) (u' : List Ob) (H' : Hp), Step A u H A' u' H' → Store K A' u' H' → Grd u' g → ∃ vs, SqL K H' a vs ∧ RpA K (vis A' u' H') vs xs) : ItOk K (Ite K a) A u H (enumItems 0 xs) g := by
  refine ⟨fun i y A' u' H' st S g e => ?_, fun i A' u' H' st S g hl => ?_⟩
  · obtain ⟨x, hx, rfl⟩ := enum_get _ _ _ _ e
    obtain ⟨vs, s, r⟩ := key A' u' H' st S g
    obtain ⟨v, hv, rv⟩ := r.get i hx
    refine ⟨⟨vs, v, s, hv⟩, fun w H'' ⟨T, z, e1, hT, e2, f⟩ => ?_⟩
    subst e1 e2
    have q := f vs s
    rw [hv] at q; cases q
    have q := pair_new (K := K) (x := .int (i : Nat)) (d := .int ((0 + i : Nat) : Int)) S hT (by rw [Nat.zero_add]; exact .int _) rv
    exact q
  · obtain ⟨vs, s, r⟩ := key A' u' H' st S g
    exact ⟨vs, s, by rw [r.length]; rw [enum_len] at hl; exact hl⟩
theorem itok_etT {a : Addr} {vs : List V} {xs : List D} (s : SqT K (vis A u H) a vs) (r : RpA K (vis A u H) vs xs) : ItOk K (EtT K a) A u H (enumItems 0 xs) none := by
  refine ⟨fun i y A' u' H' st S g e => ?_, fun i A' u' H' st S g hl => ?_⟩
  · obtain ⟨x, hx, rfl⟩ := enum_get _ _ _ _ e
    obtain ⟨v, hv, rv⟩ := r.get i hx
    have q1 := vis_le.sqT (st.keep.sqT s)
    refine ⟨⟨vs, v, q1, hv⟩, fun w H'' ⟨T, z, e1, hT, e2, f⟩ => ?_⟩
    subst e1 e2
    have q := f vs q1
    rw [hv] at q; cases q
    have q := pair_new (K := K) (x := .int (i : Nat)) (d := .int ((0 + i : Nat) : Int)) S hT (by rw [Nat.zero_add]; exact .int _) (rv.mono st.keep)
    exact q
  · refine ⟨vs, vis_le.sqT (st.keep.sqT s), ?_⟩
    rw [r.length]; rw [enum_len] at hl; exact hl
def zipItems : List D → List D → List D
  | x :: r, y :: t => .tuple [x, y] :: zipItems r t
  | _, _ => []
theorem zip_get : ∀ (xs ys : List D) (i : Nat) (z : D), (zipItems xs ys)[i]? = some z → ∃ x y, xs[i]? = some x ∧ ys[i]? = some y ∧ z = .tuple [x, y]
  | [], ys, i, z, h => by cases ys <;> simp [zipItems] at h
  | _ :: _, [], i, z, h => by simp [zipItems] at h
  | x :: r, y :: t, 0, z, h => by
    have h : some (PyData.tuple [x, y]) = some z := h
    cases h
    exact ⟨x, y, rfl, rfl, rfl⟩
  | x :: r, y :: t, i + 1, z, h => zip_get r t i z h
theorem zip_len : ∀ (xs ys : List D) (i : Nat), (zipItems xs ys).length ≤ i → xs.length ≤ i ∨ ys.length ≤ i
  | [], ys, i, h => .inl (Nat.zero_le _)
  | _ :: _, [], i, h => .inr (Nat.zero_le _)
  | x :: r, y :: t, 0, h => by simp [zipItems] at h
  | x :: r, y :: t, i + 1, h => by
    have h : (zipItems r t).length + 1 ≤ i + 1 := h
    rcases zip_len r t i (by omega) with q | q
    · exact .inl (Nat.succ_le_succ q)
    · exact .inr (Nat.succ_le_succ q)
theorem itok_zip {a b : Addr} {vs ws : List V} {xs ys : List D} (s : SqL K (vis A u H) a vs) (r : RpA K (vis A u H) vs xs) (s2 : SqL K (vis A u H) b ws) (r2 : RpA K (vis A u H) ws ys) : ItOk K (Itz K a b) A u H (zipItems xs ys) none := by
  refine ⟨fun i y A' u' H' st S g e => ?_, fun i A' u' H' st S g hl => ?_⟩
  · obtain ⟨x, y, hx, hy, rfl⟩ := zip_get _ _ _ _ e
    obtain ⟨v, hv, rv⟩ := r.get i hx
    obtain ⟨w, hw, rw'⟩ := r2.get i hy
    have q1 := vis_le.sqL (st.keep.sqL s)
    have q2 := vis_le.sqL (st.keep.sqL s2)
    refine ⟨⟨vs, ws, v, w, q1, q2, hv, hw⟩, fun z H'' ⟨T, x', y', e1, hT, e2, f1, f2⟩ => ?_⟩
    subst e1 e2
    have p1 := f1 vs q1
    rw [hv] at p1; cases p1
    have p2 := f2 ws q2
    rw [hw] at p2; cases p2
    exact pair_new S hT (rv.mono st.keep) (rw'.mono st.keep)
  · refine ⟨vs, ws, vis_le.sqL (st.keep.sqL s), vis_le.sqL (st.keep.sqL s2), ?_⟩
    rw [r.length, r2.length]
    exact zip_len _ _ _ hl
theorem itok_zipM {a b : Addr} {ws : List V} {xs ys : List D} {g : Option (Nat × MO)} (key : ∀ (A' : List Addr) (u' : List Ob) (H' : Hp), Step A u H A' u' H' → Store K A' u' H' → Grd u' g → ∃ vs, SqL K H' a vs ∧ RpA K (vis A' u' H') vs xs) (s2 : SqL K (vis A u H) b ws) (r2 : RpA K (vis A u H) ws ys) : ItOk K (Itz K a b) A u H (zipItems xs ys) g := by
  refine ⟨fun i y A' u' H' st S gg e => ?_, fun i A' u' H' st S gg hl => ?_⟩
  · obtain ⟨x, y, hx, hy, rfl⟩ := zip_get _ _ _ _ e
    obtain ⟨vs, q1, r⟩ := key A' u' H' st S gg
    obtain ⟨v, hv, rv⟩ := r.get i hx
    obtain ⟨w, hw, rw'⟩ := r2.get i hy
    have q2 := vis_le.sqL (st.keep.sqL s2)
    refine ⟨⟨vs, ws, v, w, q1, q2, hv, hw⟩, fun z H'' ⟨T, x', y', e1, hT, e2, f1, f2⟩ => ?_⟩
    subst e1 e2
    have p1 := f1 vs q1
    rw [hv] at p1; cases p1
    have p2 := f2 ws q2
    rw [hw] at p2; cases p2
    exact pair_new S hT rv (rw'.mono st.keep)
  · obtain ⟨vs, q1, r⟩ := key A' u' H' st S gg
    refine ⟨vs, ws, q1, vis_le.sqL (st.keep.sqL s2), ?_⟩
    rw [r.length, r2.length]
    exact zip_len _ _ _ hl
theorem itok_zipT {a b : Addr} {vs ws : List V} {xs ys : List D} (s : SqT K (vis A u H) a vs) (r : RpA K (vis A u H) vs xs) (s2 : SqT K (vis A u H) b ws) (r2 : RpA K (vis A u H) ws ys) : ItOk K (RZ.ItzT K a b) A u H (zipItems xs ys) none := by
  refine ⟨fun i y A' u' H' st S g e => ?_, fun i A' u' H' st S g hl => ?_⟩
  · obtain ⟨x, y, hx, hy, rfl⟩ := zip_get _ _ _ _ e
    obtain ⟨v, hv, rv⟩ := r.get i hx
    obtain ⟨w, hw, rw'⟩ := r2.get i hy
    have q1 := vis_le.sqT (st.keep.sqT s)
    have q2 := vis_le.sqT (st.keep.sqT s2)
    refine ⟨⟨vs, ws, v, w, q1, q2, hv, hw⟩, fun z H'' ⟨T, x', y', e1, hT, e2, f1, f2⟩ => ?_⟩
    subst e1 e2
    have p1 := f1 vs q1
    rw [hv] at p1; cases p1
    have p2 := f2 ws q2
    rw [hw] at p2; cases p2
    exact pair_new S hT (rv.mono st.keep) (rw'.mono st.keep)
  · refine ⟨vs, ws, vis_le.sqT (st.keep.sqT s), vis_le.sqT (st.keep.sqT s2), ?_⟩
    rw [r.length, r2.length]
    exact zip_len _ _ _ hl
end

/-! ### over a list, a tuple, a text -/
def iSeq (K : PySem.W.Frag) (tl : TE) : TI := fun σ H R => tl σ H fun x H1 => (∃ a, x = .ref a ∧ (∃ xs, SqL K H1 a xs) ∧ R (Itl K a) H1) ∨ (∃ a, x = .ref a ∧ (∃ xs, SqT K H1 a xs) ∧ R (Itt K a) H1) ∨ ∃ z, x = .str z ∧ R (Its z) H1
theorem pi_seq {X : Cx} {tg l : Expr} {tl : TE} (hl : PE X l tl) : PI X tg l (iSeq X.K tl) := by
  refine ⟨fun pins s σ H R I h => ?_⟩
  refine thn (hl.run pins s σ H _ I h) fun v s1 ⟨x, H1, I1, r1, q1⟩ => ?_
  rcases q1 with ⟨a, e, ⟨xs, hq⟩, q⟩ | ⟨a, e, ⟨xs, hq⟩, q⟩ | ⟨z, e, q⟩
  · subst e
    cases r1
    obtain ⟨its, rv, p, hz⟩ := I1.list hq
    refine wpAny_pyIter_list p.isList ?_
    refine ⟨s1.heap.objs.size, [s1.heap.objs.size], _, _, H1, rfl, I1.kept (t' := s1.toks) fun b o e => Heap.get?_push_of_some _ e, turn_list a _, ⟨_, Heap.get?_push_size _ rfl, rfl, rfl⟩, fun b hb => ?_, q⟩
    have e : b = s1.heap.objs.size := by simpa using hb
    subst e
    exact I1.fpOk (Nat.le_refl _) (I1.hok.fresh (Nat.le_refl _))
  · subst e
    cases r1
    obtain ⟨its, rv, p, hz⟩ := I1.tuple hq
    refine wpAny_pyIter_tuple (show s1.heap.IsTuple a its.toArray from p) ?_
    refine ⟨s1.heap.objs.size, [s1.heap.objs.size], _, _, H1, rfl, I1.kept (t' := s1.toks) fun b o e => Heap.get?_push_of_some _ e, turn_tuple a _, ⟨_, Heap.get?_push_size _ rfl, rfl, rfl⟩, fun b hb => ?_, q⟩
    have e : b = s1.heap.objs.size := by simpa using hb
    subst e
    exact I1.fpOk (Nat.le_refl _) (I1.hok.fresh (Nat.le_refl _))
  · subst e
    obtain ⟨t, rfl⟩ := r1
    cases ha : z.cps.all (· < 128)
    · exact wpAny_pyIter_wide ha (pi_one (tk := s1.toks) I1 _ (turn_str _ z t "str_iterator" (.inr rfl)) ⟨_, Heap.get?_push_size _ rfl, rfl, rfl⟩ q)
    · exact wpAny_pyIter_ascii ha (pi_one (tk := s1.toks) I1 _ (turn_str _ z t "str_ascii_iterator" (.inl rfl)) ⟨_, Heap.get?_push_size _ rfl, rfl, rfl⟩ q)
def iItems : Sl → List Ob → Option (List D × Option (Nat × MO))
  | .d (.list xs), _ => some (xs, none)
  | .d (.tuple xs), _ => some (xs, none)
  | .d (.str x), _ => some (strItems x, none)
  | .m j, u => match u[j]? with
    | some ⟨_, .lst xs⟩ => some (xs, some (j, .lst xs))
    | _ => none
  | _, _ => none
def diSeq (de : DE) : DI := fun ρ u => match de ρ u with
  | none => none
  | some (r, u1) => (iItems r.sl u1).map fun z => (z, u1)
theorem LI.seq {K : PySem.W.Frag} {te : TE} {de : DE} (h : LE K te de) : LI K (iSeq K te) (diSeq de) := by
  intro A ρ u items g u' e σ H S L R q
  unfold diSeq at e
  cases e1 : de ρ u with
  | none => rw [e1] at e; cases e
  | some p =>
    obtain ⟨r, u1⟩ := p
    rw [e1] at e
    simp only at e
    cases e2 : iItems r.sl u1 with
    | none => rw [e2] at e; cases e
    | some z =>
      rw [e2] at e
      cases e
      refine h A ρ u r _ e1 σ H S L _ fun v H1 P => ?_
      obtain ⟨A1, st, S1, rv⟩ := P.ret
      cases hs : r.sl with
      | un => rw [hs] at e2; cases e2
      | m j =>
        rw [hs] at e2 rv
        obtain ⟨a, ha, rfl⟩ := rv
        simp only [iItems] at e2
        split at e2
        · rename_i l xs hq
          cases e2
          obtain ⟨o, e, -, cc⟩ := S1.ob j a _ ha hq
          refine .inl ⟨a, rfl, ?_, q _ A1 H1 st S1 (itok_own ha)⟩
          cases o <;> first | exact (show False from cc).elim | exact ⟨_, .inl e⟩
        · cases e2
      | d x =>
        rw [hs] at e2 rv
        have rv : Rp K (vis A1 u' H1) v x := rv
        cases rv with
        | lst s r' => cases e2; exact .inl ⟨_, rfl, ⟨_, vis_le.sqL s⟩, q _ A1 H1 st S1 (itok_list s r')⟩
        | tup s r' => cases e2; exact .inr (.inl ⟨_, rfl, ⟨_, vis_le.sqT s⟩, q _ A1 H1 st S1 (itok_tup s r')⟩)
        | str z => cases e2; exact .inr (.inr ⟨_, rfl, q _ A1 H1 st S1 itok_str⟩)
        | _ => cases e2
theorem ji_seq {c : Ct} {tg e : Expr} {de : DE} (h : JE c e de) : JI c tg e (diSeq de) := by
  obtain ⟨te, pe, le⟩ := h
  exact ⟨_, fun X ok => by rw [← ok.K]; exact pi_seq (pe X ok), LI.seq le⟩
/-! ### over range, enumerate, zip -/
def diRng1 (de : DE) : DI := fun ρ u => match de ρ u with
  | some (.s (.d (.int n)), u1) => if n < 2 ^ 62 ∧ -(2 ^ 62) ≤ n then some ((rngItems 0 n.toNat, none), u1) else none
  | _ => none
def diRng2 (da db : DE) : DI := fun ρ u => match da ρ u with
  | some (.s (.d (.int i)), u1) => match db ρ u1 with
    | some (.s (.d (.int j)), u2) => if -(2 ^ 62) ≤ i ∧ i < 2 ^ 62 ∧ -(2 ^ 62) ≤ j ∧ j < 2 ^ 62 then some ((rngItems i (j - i).toNat, none), u2) else none
    | _ => none
  | _ => none
def diEnum (de : DE) : DI := fun ρ u => match de ρ u with
  | none => none
  | some (r, u1) => match r.sl with
    | .d (.list xs) => some ((enumItems 0 xs, none), u1)
    | .d (.tuple xs) => some ((enumItems 0 xs, none), u1)
    | .m j => match u1[j]? with
      | some ⟨_, .lst xs⟩ => some ((enumItems 0 xs, some (j, .lst xs)), u1)
      | _ => none
    | _ => none
def diZip (da db : DE) : DI := fun ρ u => match da ρ u with
  | none => none
  | some (r1, u1) => match db ρ u1 with
    | none => none
    | some (r2, u2) => match r1.sl, r2.sl with
      | .d (.list xs), .d (.list ys) => some ((zipItems xs ys, none), u2)
      | .d (.tuple xs), .d (.tuple ys) => some ((zipItems xs ys, none), u2)
      | .m j, .d (.list ys) => match u2[j]? with
        | some ⟨_, .lst xs⟩ => some ((zipItems xs ys, some (j, .lst xs)), u2)
        | _ => none
      | _, _ => none
section
variable {K : PySem.W.Frag}
theorem LI.rng1 {te : TE} {de : DE} (h : LE K te de) : LI K (iRng1 (tCons te tNil)) (diRng1 de) := by
  intro A ρ u items g u' e σ H S L R q
  unfold diRng1 at e
  split at e
  · rename_i n u1 e1
    split at e
    · rename_i hn
      cases e
      refine h A ρ u _ _ e1 σ H S L _ fun v H1 P => ?_
      obtain ⟨A1, st, S1, rv⟩ := P
      cases (show Rp K (vis A1 _ H1) v (.int n) from rv)
      exact ⟨n, rfl, hn.2, hn.1, q _ A1 H1 st S1 itok_rng⟩
    · cases e
  · cases e
theorem LI.rng2 {ta tb : TE} {da db : DE} (h : LE K ta da) (h2 : LE K tb db) : LI K (iRng2 (tCons ta (tCons tb tNil))) (diRng2 da db) := by
  intro A ρ u items g u' e σ H S L R q
  unfold diRng2 at e
  split at e
  · rename_i i u1 e1
    split at e
    · rename_i j u2 e2
      split at e
      · rename_i hn
        cases e
        refine h A ρ u _ _ e1 σ H S L _ fun v H1 P => ?_
        obtain ⟨A1, st, S1, rv⟩ := P
        cases (show Rp K (vis A1 _ H1) v (.int i) from rv)
        refine h2 A1 ρ _ _ _ e2 σ H1 S1 (st.slots L) _ fun v H2 P => ?_
        obtain ⟨A2, st2, S2, rv⟩ := P
        cases (show Rp K (vis A2 _ H2) v (.int j) from rv)
        exact ⟨i, j, rfl, hn, q _ A2 H2 (st.trans st2) S2 itok_rng⟩
      · cases e
    · cases e
  · cases e
theorem LI.enum {te : TE} {de : DE} (h : LE K te de) : LI K (iEnA K (tCons te tNil)) (diEnum de) := by
  intro A ρ u items g u' e σ H S L R q
  unfold diEnum at e
  cases e1 : de ρ u with
  | none => rw [e1] at e; cases e
  | some p =>
    obtain ⟨r, u1⟩ := p
    rw [e1] at e
    simp only at e
    have hu : u1 = u' := by
      split at e
      · cases e; rfl
      · cases e; rfl
      · split at e
        · cases e; rfl
        · cases e
      · cases e
    subst hu
    refine h A ρ u r _ e1 σ H S L _ fun v H1 P => ?_
    obtain ⟨A1, st, S1, rv⟩ := P.ret
    cases hs : r.sl with
    | un => rw [hs] at e; cases e
    | m j =>
      rw [hs] at e rv
      obtain ⟨a, ha, rfl⟩ := rv
      simp only at e
      split at e
      · rename_i l xs hq
        cases e
        have key : ∀ (A' : List Addr) (u2 : List Ob) (H' : Hp), Step A1 u1 H1 A' u2 H' → Store K A' u2 H' → Grd u2 (some (j, .lst xs)) → ∃ vs, SqL K H' a vs ∧ RpA K (vis A' u2 H') vs xs := fun A' u' H' st S g => by
          obtain ⟨l, g⟩ := g
          obtain ⟨o, e, -, cc⟩ := S.ob j a _ (st.at ha) g
          cases o <;> first | exact (show False from cc).elim | exact ⟨_, .inl e, cc⟩
        obtain ⟨vs, s, _⟩ := key A1 u1 H1 Step.refl S1 ⟨l, hq⟩
        exact ⟨a, rfl, .inl ⟨vs, s, q _ A1 H1 st S1 (itok_enum key)⟩⟩
      · cases e
    | d x =>
      rw [hs] at e rv
      have rv : Rp K (vis A1 u1 H1) v x := rv
      cases rv with
      | @lst a vs xs s r' =>
        cases e
        exact ⟨a, rfl, .inl ⟨vs, vis_le.sqL s, q _ A1 H1 st S1 (itok_enum fun A' u' H' st S _ => ⟨vs, vis_le.sqL (st.keep.sqL s), r'.mono st.keep⟩)⟩⟩
      | @tup a vs xs s r' =>
        cases e
        exact ⟨a, rfl, .inr ⟨vs, vis_le.sqT s, q _ A1 H1 st S1 (itok_etT s r')⟩⟩
      | _ => cases e
theorem LI.zip {ta tb : TE} {da db : DE} (h : LE K ta da) (h2 : LE K tb db) : LI K (RZ.iZipA K (tCons ta (tCons tb tNil))) (diZip da db) := by
  intro A ρ u items g u' e σ H S L R q
  unfold diZip at e
  cases e1 : da ρ u with
  | none => rw [e1] at e; cases e
  | some p =>
    obtain ⟨r1, u1⟩ := p
    rw [e1] at e
    simp only at e
    cases e2 : db ρ u1 with
    | none => rw [e2] at e; cases e
    | some p2 =>
      obtain ⟨r2, u2⟩ := p2
      rw [e2] at e
      simp only at e
      refine h A ρ u r1 _ e1 σ H S L _ fun v H1 P => ?_
      obtain ⟨A1, st, S1, rv⟩ := P.ret
      refine h2 A1 ρ _ r2 _ e2 σ H1 S1 (st.slots L) _ fun w H2 P => ?_
      obtain ⟨A2, st2, S2, rw'⟩ := P.ret
      have rv := st2.rv rv
      split at e
      · rename_i xs ys h1 h3
        rw [h1] at rv
        rw [h3] at rw'
        cases e
        have rv : Rp K _ v (.list xs) := rv
        have rw' : Rp K _ w (.list ys) := rw'
        cases rv with
        | lst s r' => cases rw' with
          | lst s2 r2' => exact ⟨_, _, _, _, rfl, .inl ⟨vis_le.sqL s, vis_le.sqL s2, q _ A2 H2 (st.trans st2) S2 (itok_zip s r' s2 r2')⟩⟩
      · rename_i xs ys h1 h3
        rw [h1] at rv
        rw [h3] at rw'
        cases e
        have rv : Rp K _ v (.tuple xs) := rv
        have rw' : Rp K _ w (.tuple ys) := rw'
        cases rv with
        | tup s r' => cases rw' with
          | tup s2 r2' => exact ⟨_, _, _, _, rfl, .inr ⟨vis_le.sqT s, vis_le.sqT s2, q _ A2 H2 (st.trans st2) S2 (itok_zipT s r' s2 r2')⟩⟩
      · rename_i j ys h1 h3
        rw [h1] at rv
        rw [h3] at rw'
        obtain ⟨a, ha, rfl⟩ := rv
        have rw' : Rp K _ w (.list ys) := rw'
        split at e
        · rename_i l xs hq
          cases e
          cases rw' with
          | lst s2 r2' =>
            have key : ∀ (A' : List Addr) (u3 : List Ob) (H' : Hp), Step A2 u' H2 A' u3 H' → Store K A' u3 H' → Grd u3 (some (j, .lst xs)) → ∃ vs, SqL K H' a vs ∧ RpA K (vis A' u3 H') vs xs := fun A' u' H' st S g => by
              obtain ⟨l, g⟩ := g
              obtain ⟨o, e, -, cc⟩ := S.ob j a _ (st.at ha) g
              cases o <;> first | exact (show False from cc).elim | exact ⟨_, .inl e, cc⟩
            obtain ⟨vs, s, _⟩ := key A2 u' H2 Step.refl S2 ⟨l, hq⟩
            exact ⟨_, _, _, _, rfl, .inl ⟨s, vis_le.sqL s2, q _ A2 H2 (st.trans st2) S2 (itok_zipM key s2 r2')⟩⟩
        · cases e
      · cases e
end
section
variable {c : Ct} {tg a b : Expr} {da db : DE} {p pos : Pos}
theorem gl_of {X : Cx} {x : Str} (ok : OkX c X) (hg : c.sc.names.lookup x = some .globalImplicit) : Gl X x := by
  show X.env.scope.names.lookup x = _
  rw [ok.sc]; exact hg
theorem ji_range1 (hm : c.mg "range" = none) (h : JE c a da) (hg : c.sc.names.lookup (Str.ofString "range") = some .globalImplicit := by rfl) (hs : ∀ env, starEach [a] env = [(false, eval a env)] := by intro _; rfl) : JI c tg (.Call (.Name "range" p) [a] [] pos) (diRng1 da) := by
  obtain ⟨te, pe, le⟩ := h
  exact ⟨_, fun X ok => pi_range1 (gl_of ok hg) (by rw [ok.mg]; exact hm) (pa_cons (pe X ok) pa_nil (hs _)) (hs _), LI.rng1 le⟩
theorem ji_range2 (hm : c.mg "range" = none) (h : JE c a da) (h2 : JE c b db) (hg : c.sc.names.lookup (Str.ofString "range") = some .globalImplicit := by rfl) (hs : ∀ env, starEach [a, b] env = [(false, eval a env), (false, eval b env)] := by intro _; rfl)
    (hs2 : ∀ env, starEach [b] env = [(false, eval b env)] := by intro _; rfl) : JI c tg (.Call (.Name "range" p) [a, b] [] pos) (diRng2 da db) := by
  obtain ⟨te, pe, le⟩ := h
  obtain ⟨te2, pe2, le2⟩ := h2
  exact ⟨_, fun X ok => pi_range2 (gl_of ok hg) (by rw [ok.mg]; exact hm) (pa_cons (pe X ok) (pa_cons (pe2 X ok) pa_nil (hs2 _)) (by rw [hs, hs2])) (hs _) (hs2 _), LI.rng2 le le2⟩
theorem ji_enum {elts : List Expr} {kk : Nat} {tpos : Pos} (hm : c.mg "enumerate" = none) (h : JE c a da) (hg : c.sc.names.lookup (Str.ofString "enumerate") = some .globalImplicit := by rfl) (hs : ∀ env, starEach [a] env = [(false, eval a env)] := by intro _; rfl) : JI c (.Tuple elts kk tpos) (.Call (.Name "enumerate" p) [a] [] pos) (diEnum da) := by
  obtain ⟨te, pe, le⟩ := h
  exact ⟨_, fun X ok => by rw [← ok.K]; exact pi_enA (gl_of ok hg) (by rw [ok.mg]; exact hm) (pa_cons (pe X ok) pa_nil (hs _)) (hs _), LI.enum le⟩
theorem ji_zip {elts : List Expr} {kk : Nat} {tpos : Pos} (hm : c.mg "zip" = none) (h : JE c a da) (h2 : JE c b db) (hg : c.sc.names.lookup (Str.ofString "zip") = some .globalImplicit := by rfl) (hs : ∀ env, starEach [a, b] env = (false, eval a env) :: starEach [b] env := by intro _; rfl)
    (hs2 : ∀ env, starEach [b] env = [(false, eval b env)] := by intro _; rfl) (hpl : ∀ env, (backTo pos (starEach [b] env)).any (·.1) = false := by intro _; rfl) : JI c (.Tuple elts kk tpos) (.Call (.Name "zip" p) [a, b] [] pos) (diZip da db) := by
  obtain ⟨te, pe, le⟩ := h
  obtain ⟨te2, pe2, le2⟩ := h2
  exact ⟨_, fun X ok => by rw [← ok.K]; exact RZ.pi_zipA (gl_of ok hg) (by rw [ok.mg]; exact hm) (pa_cons (pe X ok) (pa_cons (pe2 X ok) pa_nil (hs2 _)) (hs _)) (hs _) (hpl _), LI.zip le le2⟩
end

/-! ### for, while -/
open Classical in
noncomputable def forL (gd : Option (Nat × MO)) (g : DG) (body : DS) : List D → List Sl → List Ob → Option Out
  | [], ρ, u => if Grd u gd then some (.nx ρ u) else none
  | x :: xs, ρ, u => if Grd u gd then (match g (.d x) ρ with
    | none => none
    | some ρ1 => match body ρ1 u with
      | none => none
      | some (.nx ρ2 u2) => forL gd g body xs ρ2 u2
      | some (.ct ρ2 u2) => forL gd g body xs ρ2 u2
      | some (.bk ρ2 u2) => some (.nx ρ2 u2)
      | some (.rt r u2) => some (.rt r u2)) else none
noncomputable def sFor (di : DI) (g : DG) (body : DS) : DS := fun ρ u => match di ρ u with
  | none => none
  | some ((items, gd), u1) => forL gd g body items ρ u1
def whL (dt : DT) (body : DS) : Nat → List Sl → List Ob → Option Out
  | 0, _, _ => none
  | n + 1, ρ, u => match dt ρ u with
    | none => none
    | some (false, u1) => some (.nx ρ u1)
    | some (true, u1) => match body ρ u1 with
      | none => none
      | some (.nx ρ2 u2) => whL dt body n ρ2 u2
      | some (.ct ρ2 u2) => whL dt body n ρ2 u2
      | some (.bk ρ2 u2) => some (.nx ρ2 u2)
      | some (.rt r u2) => some (.rt r u2)
open Classical in
/-- as many turns as it takes -/
noncomputable def sWhile (dt : DT) (body : DS) : DS := fun ρ u => if h : ∃ n o, whL dt body n ρ u = some o then some (Classical.choose (Classical.choose_spec h)) else none
theorem whL_mono {dt : DT} {body : DS} : ∀ (n : Nat) (ρ : List Sl) (u : List Ob) (o : Out), whL dt body n ρ u = some o → ∀ m, n ≤ m → whL dt body m ρ u = some o
  | 0, _, _, _, h, _, _ => by cases h
  | n + 1, ρ, u, o, h, 0, hm => absurd hm (by omega)
  | n + 1, ρ, u, o, h, m + 1, hm => by
    unfold whL at h ⊢
    cases e1 : dt ρ u with
    | none => rw [e1] at h; cases h
    | some p =>
      obtain ⟨b, u1⟩ := p
      rw [e1] at h
      cases b with
      | false => exact h
      | true =>
        simp only at h ⊢
        cases e2 : body ρ u1 with
        | none => rw [e2] at h; cases h
        | some q =>
          rw [e2] at h
          cases q with
          | nx ρ2 u2 => exact whL_mono n ρ2 u2 o h m (by omega)
          | ct ρ2 u2 => exact whL_mono n ρ2 u2 o h m (by omega)
          | bk ρ2 u2 => exact h
          | rt r u2 => exact h
theorem sWhile_of {dt : DT} {body : DS} {n : Nat} {ρ : List Sl} {u : List Ob} {o : Out} (h : whL dt body n ρ u = some o) : sWhile dt body ρ u = some o := by
  unfold sWhile
  have hx : ∃ n o, whL dt body n ρ u = some o := ⟨n, o, h⟩
  rw [dif_pos hx]
  have q := Classical.choose_spec (Classical.choose_spec hx)
  have a := whL_mono _ _ _ _ q _ (Nat.le_max_left _ n)
  have b := whL_mono _ _ _ _ h _ (Nat.le_max_right (Classical.choose hx) n)
  exact a.symm.trans b
theorem sWhile_some {dt : DT} {body : DS} {ρ : List Sl} {u : List Ob} {o : Out} (h : sWhile dt body ρ u = some o) : ∃ n, whL dt body n ρ u = some o := by
  unfold sWhile at h
  split at h
  · rename_i hx
    cases h
    exact ⟨_, Classical.choose_spec (Classical.choose_spec hx)⟩
  · cases h
section
variable {K : PySem.W.Frag}
theorem LS.for {wi : TI} {tg : TG} {tb : TS} {di : DI} {g : DG} {body : DS} {gi : List Nat} (hi : LI K wi di) (hg : LG K tg g gi) (hb : LS K tb body) : LS K (tFor wi tg tb) (sFor di g body) := by
  intro A ρ u o e σ H S L Dn q
  unfold sFor at e
  cases e1 : di ρ u with
  | none => rw [e1] at e; cases e
  | some p =>
    obtain ⟨⟨items, gd⟩, u1⟩ := p
    rw [e1] at e
    simp only at e
    refine hi A ρ u items gd u1 e1 σ H S L _ fun J A1 H1 st1 S1 ok => ?_
    have q1 := q.step st1
    refine ⟨fun i m σ H => ∃ A' ρ' u', Step A1 u1 H1 A' u' H ∧ Store K A' u' H ∧ Slots K A' (vis A' u' H) ρ' σ ∧ forL gd g body (items.drop i) ρ' u' = some o ∧ m = items.length - i, ⟨_, A1, ρ, u1, Step.refl, S1, st1.slots L, by rw [List.drop_zero]; exact e, rfl⟩, fun i m σ2 H2 hW => ?_⟩
    obtain ⟨A2, ρ2, u2, st2, S2, L2', e2, rfl⟩ := hW
    by_cases hlt : i < items.length
    · have hx : items[i]? = some items[i] := List.getElem?_eq_getElem hlt
      rw [List.drop_eq_getElem_cons hlt] at e2
      unfold forL at e2
      split at e2
      · rename_i hgd
        obtain ⟨go, yl⟩ := ok.go i _ A2 u2 H2 st2 S2 hgd hx
        refine .inr ⟨go, fun σ' H' => ∃ A' ρ' u', Step A1 u1 H1 A' u' H' ∧ Store K A' u' H' ∧ Slots K A' (vis A' u' H') ρ' σ' ∧ forL gd g body (items.drop (i + 1)) ρ' u' = some o, fun σ' H' ⟨A', ρ', u', h1, h2, h3, h4⟩ => ⟨items.length - (i + 1), by omega, A', ρ', u', h1, h2, h3, h4, rfl⟩, fun v H3 y => ?_⟩
        obtain ⟨st3, S3, rv⟩ := yl v H3 y
        cases e3 : g (.d items[i]) ρ2 with
        | none => rw [e3] at e2; cases e2
        | some ρ3 =>
          rw [e3] at e2
          simp only at e2
          refine hg A2 u2 H3 _ ρ2 ρ3 e3 S3 v σ2 rv (st3.slots L2') _ fun σ3 L3 _ => ?_
          cases e4 : body ρ3 u2 with
          | none => rw [e4] at e2; cases e2
          | some o4 =>
            rw [e4] at e2
            refine hb A2 ρ3 u2 o4 e4 σ3 H3 S3 L3 _ ?_
            have st13 := st2.trans st3
            cases o4 with
            | nx ρ4 u4 => exact fun A' σ' H' s' S' L' => ⟨A', ρ4, u4, st13.trans s', S', L', e2⟩
            | ct ρ4 u4 => exact fun A' σ' H' s' S' L' => ⟨A', ρ4, u4, st13.trans s', S', L', e2⟩
            | bk ρ4 u4 =>
              cases e2
              exact fun A' σ' H' s' S' L' => q1 A' σ' H' (st13.trans s') S' L'
            | rt r u4 =>
              cases e2
              exact fun v H' P => q1 v H' (P.trans st13)
      · cases e2
    · rw [List.drop_eq_nil_of_le (by omega)] at e2
      unfold forL at e2
      split at e2
      · rename_i hgd
        cases e2
        exact .inl ⟨ok.stop i A2 u2 H2 st2 S2 hgd (by omega), q1 A2 σ2 H2 st2 S2 L2'⟩
      · cases e2
theorem LS.while {tt : TT} {tb : TS} {dt : DT} {body : DS} (ht : LT K tt dt) (hb : LS K tb body) : LS K (tWhile tt tb) (sWhile dt body) := by
  intro A ρ u o e σ H S L Dn q
  obtain ⟨n, e⟩ := sWhile_some e
  refine ⟨fun m σ' H' => ∃ A' ρ' u', Step A u H A' u' H' ∧ Store K A' u' H' ∧ Slots K A' (vis A' u' H') ρ' σ' ∧ whL dt body m ρ' u' = some o, ⟨n, A, ρ, u, Step.refl, S, L, e⟩, fun m σ2 H2 hW => ?_⟩
  obtain ⟨A2, ρ2, u2, st2, S2, L2', e2⟩ := hW
  cases m with
  | zero => cases e2
  | succ m =>
    unfold whL at e2
    cases e1 : dt ρ2 u2 with
    | none => rw [e1] at e2; cases e2
    | some p =>
      obtain ⟨b, u3⟩ := p
      rw [e1] at e2
      refine ht A2 ρ2 u2 b u3 e1 σ2 H2 S2 L2' _ fun H3 P => ?_
      obtain ⟨A3, st3, S3⟩ := P
      have st13 := st2.trans st3
      cases b with
      | false =>
        cases e2
        exact iteF (q A3 σ2 H3 st13 S3 (st3.slots L2'))
      | true =>
        simp only at e2
        refine iteT ⟨fun σ' H' => ∃ A' ρ' u', Step A u H A' u' H' ∧ Store K A' u' H' ∧ Slots K A' (vis A' u' H') ρ' σ' ∧ whL dt body m ρ' u' = some o, fun σ' H' h => ⟨m, Nat.lt_succ_self _, h⟩, ?_⟩
        cases e4 : body ρ2 u3 with
        | none => rw [e4] at e2; cases e2
        | some o4 =>
          rw [e4] at e2
          refine hb A3 ρ2 u3 o4 e4 σ2 H3 S3 (st3.slots L2') _ ?_
          cases o4 with
          | nx ρ4 u4 => exact fun A' σ' H' s' S' L' => ⟨A', ρ4, u4, st13.trans s', S', L', e2⟩
          | ct ρ4 u4 => exact fun A' σ' H' s' S' L' => ⟨A', ρ4, u4, st13.trans s', S', L', e2⟩
          | bk ρ4 u4 =>
            cases e2
            exact fun A' σ' H' s' S' L' => q A' σ' H' (st13.trans s') S' L'
          | rt r u4 =>
            cases e2
            exact fun v H' P => q v H' (P.trans st13)
end
section
variable {c : Ct} {tg e t : Expr} {ss : List Stmt} {di : DI} {g : DG} {body : DS} {dt : DT} {pos : Pos}
theorem js_for {gi : List Nat} (hi : JI c tg e di) (hg : JG c tg g gi) (hb : JSs c ss body) (hs : ∀ env x, foldedSetIterable e env x = pure x := by intro _ _; rfl) : JS c (.For tg e ss [] pos) (sFor di g body) := by
  obtain ⟨wi, pi, li⟩ := hi
  obtain ⟨tg', pg, lg⟩ := hg
  obtain ⟨tb, pb, lb⟩ := hb
  exact ⟨_, fun X ok => ps_for (by rw [ok.xe]; exact PassesOwn.never) ok.calm (pi X ok) (pg X ok) (pb X ok) (hs _), LS.for li lg lb⟩
theorem js_while (ht : JT c t dt) (hb : JSs c ss body) : JS c (.While t ss [] pos) (sWhile dt body) := by
  obtain ⟨tt, pt, lt⟩ := ht
  obtain ⟨tb, pb, lb⟩ := hb
  exact ⟨_, fun X ok => ps_while (by rw [ok.xe]; exact PassesOwn.never) (pt X ok) (pb X ok), LS.while lt lb⟩
end
end DL
end

section
set_option Elab.async false
set_option maxRecDepth 100000
set_option maxHeartbeats 4000000
namespace DL
open PySem L2

/-! ### list comprehensions -/
def wipeS (ρ : List Sl) : List Nat → List Sl
  | [] => ρ
  | v :: vs => (wipeS ρ vs).set v .un
open Classical in
noncomputable def lcL (gd : Option (Nat × MO)) (g : DG) (dt : DT) (de : DE) (ρ : List Sl) : List D → List D → List Ob → Option (List D × List Ob)
  | [], acc, u => if Grd (u ++ [⟨true, .lst acc⟩]) gd then some (acc, u) else none
  | x :: xs, acc, u => if Grd (u ++ [⟨true, .lst acc⟩]) gd then (match g (.d x) ρ with
    | none => none
    | some ρ1 => match dt ρ1 (u ++ [⟨true, .lst acc⟩]) with
      | none => none
      | some (false, u2) => if u2[u.length]? = some ⟨true, .lst acc⟩ then lcL gd g dt de ρ xs acc (u2.take u.length) else none
      | some (true, u2) => match de ρ1 u2 with
        | none => none
        | some (r, u3) => match r.sl.dat u3 with
          | none => none
          | some (y, u4) => if u4[u.length]? = some ⟨true, .lst acc⟩ ∧ acc.length < SZ then lcL gd g dt de ρ xs (acc ++ [y]) (u4.take u.length) else none) else none
noncomputable def dLc (di : DI) (g : DG) (dt : DT) (de : DE) (vs : List Nat) : DE := fun ρ u => match di ρ u with
  | none => none
  | some ((items, gd), u1) => match lcL gd g dt de (wipeS ρ vs) items [] u1 with
    | none => none
    | some (acc, u2) => some (.nw (.lst acc), u2)
def dtYes : DT := fun _ u => some (true, u)

section
variable {K : PySem.W.Frag} {A A' : List Addr} {u u' : List Ob} {H H' : Hp}
theorem LT.yes : LT K tYes dtYes := by
  intro A ρ u b u' e σ H S L Q q
  cases e
  exact q H ⟨A, Step.refl, S⟩
theorem wipeS_length (ρ : List Sl) : ∀ vs : List Nat, (wipeS ρ vs).length = ρ.length
  | [] => rfl
  | v :: vs => by unfold wipeS; rw [List.length_set, wipeS_length ρ vs]
theorem wipeS_get (ρ : List Sl) (i : Nat) (s : Sl) : ∀ vs : List Nat, (wipeS ρ vs)[i]? = some s → s = .un ∨ (i ∉ vs ∧ ρ[i]? = some s)
  | [], h => .inr ⟨by simp, h⟩
  | v :: vs, h => by
    unfold wipeS at h
    rcases getElem?_set_cases h with ⟨_, e⟩ | ⟨ne, e⟩
    · exact .inl e
    · rcases wipeS_get ρ i s vs e with q | ⟨q1, q2⟩
      · exact .inl q
      · exact .inr ⟨by simp only [List.mem_cons, not_or]; exact ⟨ne, q1⟩, q2⟩
theorem Slots.wipe {Hv : Hp} {ρ : List Sl} {σ : L2.St} (L : Slots K A Hv ρ σ) (vs : List Nat) : Slots K A Hv (wipeS ρ vs) (wipe σ vs) := by
  refine ⟨by rw [wipeS_length, wipe_length]; exact L.len, fun i s e => ?_⟩
  rcases wipeS_get ρ i s vs e with q | ⟨q1, q2⟩
  · exact .inl q
  · rcases L.get i s q2 with q | ⟨v, q, rv⟩
    · exact .inl q
    · refine .inr ⟨v, ?_, rv⟩
      rw [wipe_get, if_neg q1]
      exact q
theorem Step.cut (st : Step A u H A' u' H') (S : Store K A' u' H') {n : Nat} (h : A.length ≤ n) : Step A u H (A'.take n) (u'.take n) H' := by
  obtain ⟨B, e⟩ := st.pre
  refine ⟨⟨B.take (n - A.length), ?_⟩, st.keep.trans (S.cut n).2, st.dom, st.fr⟩
  rw [e, List.take_append, List.take_of_length_le h]
theorem set_take {α : Type} {l : List α} {j : Nat} {e X : α} (h : l[j]? = some e) : (l.set j X).take (j + 1) = l.take j ++ [X] := by
  have hl := (List.getElem?_eq_some_iff.mp h).1
  rw [List.take_succ, List.getElem?_set_self hl]
  congr 1
  apply List.ext_getElem?
  intro i
  by_cases hi : i < j
  · rw [List.getElem?_take_of_lt hi, List.getElem?_take_of_lt hi, List.getElem?_set_ne (by omega)]
  · rw [List.getElem?_eq_none (by rw [List.length_take, List.length_set]; omega), List.getElem?_eq_none (by rw [List.length_take]; omega)]
theorem get_take {α : Type} {l : List α} {j : Nat} {e : α} (h : l[j]? = some e) : l.take (j + 1) = l.take j ++ [e] := by
  rw [List.take_succ, h]; rfl
theorem take_pre {A B : List Addr} {D : Addr} {j : Nat} (h : j = A.length) : ((A ++ [D]) ++ B).take (j + 1) = A ++ [D] := by
  subst h
  rw [List.take_append, List.take_of_length_le (by simp)]
  simp
/-- the heap without p -/
def minus (H : Hp) (p : Addr) : Hp := fun a => if a = p then none else H a
theorem minus_same {p : Addr} : minus H p p = none := by unfold minus; rw [if_pos rfl]
theorem minus_ne {p a : Addr} (h : a ≠ p) : minus H p a = H a := by unfold minus; rw [if_neg h]
theorem rd_minus {p a : Addr} {o : HO} (h : Rd H a o) (n : a ≠ p) : Rd (minus H p) a o := by
  rcases h with h | ⟨y, h⟩
  · exact .inl (by rw [minus_ne n]; exact h)
  · exact .inr ⟨y, by rw [minus_ne n]; exact h⟩
theorem minus_upd {p : Addr} {o : HO} (h : H p = some o) : upd (minus H p) p o = H := by
  funext a
  by_cases e : a = p
  · subst e; rw [upd_same, h]
  · rw [upd_ne e, minus_ne e]
/-- the last object of the store is let go, as a new one -/
theorem Store.pop {D : Addr} {mo : MO} (S : Store K (A ++ [D]) (u ++ [⟨true, mo⟩]) H) : ∃ o, H D = some o ∧ ObC K (vis A u (minus H D)) o mo ∧ Store K A u (minus H D) ∧ vis (A ++ [D]) (u ++ [⟨true, mo⟩]) H = vis A u (minus H D) := by
  have hl : A.length = u.length := by
    have := S.len
    rw [List.length_append, List.length_append] at this
    simpa using this
  have ev : vis (A ++ [D]) (u ++ [⟨true, mo⟩]) H = vis A u (minus H D) := by
    funext a
    by_cases e : a = D
    · subst e
      rw [vis_hid ((hid_snoc hl).mpr (.inr ⟨rfl, rfl⟩))]
      by_cases h : hid A u a
      · rw [vis_hid h]
      · rw [vis_of h, minus_same]
    · by_cases h : hid A u a
      · rw [vis_hid h, vis_hid ((hid_snoc hl).mpr (.inl h))]
      · rw [vis_of h, minus_ne e, vis_of (fun q => by
          rcases (hid_snoc hl).mp q with q | ⟨q, _⟩
          · exact h q
          · exact e q)]
  have nA : D ∉ A := fun h => by
    have nd := S.nd
    rw [List.nodup_append] at nd
    exact nd.2.2 D h D (by simp) rfl
  obtain ⟨o, -, h1, h2⟩ := S.ob A.length D ⟨true, mo⟩ (by rw [List.getElem?_append_right (Nat.le_refl _)]; simp) (by rw [hl, List.getElem?_append_right (Nat.le_refl _)]; simp)
  rw [ev] at h2
  replace h1 := h1 rfl
  refine ⟨o, h1, h2, ⟨hl, (List.nodup_append.mp S.nd).1, fun j x h hv => S.nt j x (by rw [List.getElem?_append_left (List.getElem?_eq_some_iff.mp h).1]; exact h) hv, fun j a x e1 e2 => ?_⟩, ev⟩
  have l1 := (List.getElem?_eq_some_iff.mp e1).1
  have l2 := (List.getElem?_eq_some_iff.mp e2).1
  obtain ⟨q, h3, l3, h4⟩ := S.ob j a x (by rw [List.getElem?_append_left l1]; exact e1) (by rw [List.getElem?_append_left l2]; exact e2)
  rw [ev] at h4
  have na : a ≠ D := fun z => nA (by rw [← z]; exact List.mem_of_getElem? e1)
  exact ⟨q, rd_minus h3 na, fun z => by rw [minus_ne na]; exact l3 z, h4⟩
theorem LE.lc {wi : TI} {tg : TG} {tt : TT} {te : TE} {di : DI} {g : DG} {dt : DT} {de : DE} {gi vs : List Nat} (hi : LI K wi di) (hg : LG K tg g gi) (hv : ∀ i ∈ gi, i ∈ vs) (ht : LT K tt dt) (he : LE K te de) : LE K (tLc wi tg tt te vs) (dLc di g dt de vs) := by
  intro A ρ u res uF e σ H S L Q q
  unfold dLc at e
  cases e1 : di ρ u with
  | none => rw [e1] at e; cases e
  | some p =>
    obtain ⟨⟨items, gd⟩, u1⟩ := p
    rw [e1] at e
    simp only at e
    cases e2 : lcL gd g dt de (wipeS ρ vs) items [] u1 with
    | none => rw [e2] at e; cases e
    | some p2 =>
      obtain ⟨accF, u2⟩ := p2
      rw [e2] at e
      cases e
      refine hi A ρ u items gd u1 e1 σ H S L _ fun J A1 H1 st1 S1 ok => ?_
      intro Dd hD
      obtain ⟨S0, st0⟩ := S1.own (o := .lst []) (mo := .lst []) hD rfl .nil
      refine ⟨fun i m H => ∃ (u' : List Ob) (acc : List D), u'.length = u1.length ∧ Step (A1 ++ [Dd]) (u1 ++ [⟨true, .lst []⟩]) (upd H1 Dd (.lst [])) (A1 ++ [Dd]) (u' ++ [⟨true, .lst acc⟩]) H ∧ Store K (A1 ++ [Dd]) (u' ++ [⟨true, .lst acc⟩]) H ∧
        lcL gd g dt de (wipeS ρ vs) (items.drop i) acc u' = some (accF, uF) ∧ m = items.length - i, ⟨_, u1, [], rfl, Step.refl, S0, by rw [List.drop_zero]; exact e2, rfl⟩, fun i m H2 hW => ?_⟩
      obtain ⟨u', acc, hl, st2, S2, e3, rfl⟩ := hW
      have hA : A1.length = u'.length := by rw [hl]; exact S1.len
      have lw := ((st1.trans (st0.trans st2)).slots L).wipe vs
      by_cases hlt : i < items.length
      · have hx : items[i]? = some items[i] := List.getElem?_eq_getElem hlt
        rw [List.drop_eq_getElem_cons hlt] at e3
        unfold lcL at e3
        split at e3
        · rename_i hgd
          obtain ⟨go, yl⟩ := ok.go i _ _ _ H2 (st0.trans st2) S2 hgd hx
          refine .inr ⟨go, fun H' => ∃ (u' : List Ob) (acc : List D), u'.length = u1.length ∧ Step (A1 ++ [Dd]) (u1 ++ [⟨true, .lst []⟩]) (upd H1 Dd (.lst [])) (A1 ++ [Dd]) (u' ++ [⟨true, .lst acc⟩]) H' ∧ Store K (A1 ++ [Dd]) (u' ++ [⟨true, .lst acc⟩]) H' ∧
            lcL gd g dt de (wipeS ρ vs) (items.drop (i + 1)) acc u' = some (accF, uF), fun H' ⟨u', acc, h1, h2, h3, h4⟩ => ⟨items.length - (i + 1), by omega, u', acc, h1, h2, h3, h4, rfl⟩, fun v H3 y => ?_⟩
          obtain ⟨st3, S3, rv⟩ := yl v H3 y
          cases e4 : g (.d items[i]) (wipeS ρ vs) with
          | none => rw [e4] at e3; cases e3
          | some ρ3 =>
            rw [e4] at e3
            simp only at e3
            refine hg _ _ H3 _ _ ρ3 e4 S3 v (wipe σ vs) rv (st3.slots lw) _ fun σ3 L3 w3 => ⟨?_, ?_⟩
            · rw [w3 vs hv, wipe_wipe]
            cases e5 : dt ρ3 (u' ++ [⟨true, .lst acc⟩]) with
            | none => rw [e5] at e3; cases e3
            | some p5 =>
              obtain ⟨b, u5⟩ := p5
              rw [e5] at e3
              refine ht _ ρ3 _ b u5 e5 σ3 H3 S3 L3 _ fun H5 P => ?_
              obtain ⟨A5, st5, S5⟩ := P
              have st15 := st2.trans (st3.trans st5)
              obtain ⟨B5, p5⟩ := (show ∃ B, A5 = (A1 ++ [Dd]) ++ B from st5.pre)
              cases b with
              | false =>
                simp only at e3
                split at e3
                · rename_i hk
                  refine iteF ?_
                  have S5' := (S5.cut (u'.length + 1)).1
                  have st5' := st15.cut S5 (n := u'.length + 1) (by rw [List.length_append, hA]; exact Nat.le_refl _)
                  rw [get_take hk, p5, take_pre hA.symm] at S5' st5'
                  have hlk := (List.getElem?_eq_some_iff.mp hk).1
                  exact ⟨u5.take u'.length, acc, by rw [List.length_take]; omega, st5', S5', e3⟩
                · cases e3
              | true =>
                simp only at e3
                refine iteT ?_
                cases e6 : de ρ3 u5 with
                | none => rw [e6] at e3; cases e3
                | some p6 =>
                  obtain ⟨r, u6⟩ := p6
                  rw [e6] at e3
                  simp only at e3
                  refine he A5 ρ3 u5 r u6 e6 σ3 H5 S5 (st5.slots L3) _ fun w H6 P => ?_
                  obtain ⟨A6, st6, S6, rv6⟩ := P.ret
                  cases e7 : r.sl.dat u6 with
                  | none => rw [e7] at e3; cases e3
                  | some p7 =>
                    obtain ⟨yd, u7⟩ := p7
                    rw [e7] at e3
                    simp only at e3
                    split at e3
                    · rename_i hk
                      obtain ⟨hk, hsz⟩ := hk
                      obtain ⟨S7, st7, rp7⟩ := rv6.dat S6 e7
                      have st17 := st15.trans (st6.trans st7)
                      obtain ⟨B7, p7⟩ := (show ∃ B, A6 = (A1 ++ [Dd]) ++ B from st17.pre)
                      have hD7 : A6[u'.length]? = some Dd := by
                        rw [p7, ← hA, List.append_assoc, List.getElem?_append_right (Nat.le_refl _)]
                        simp
                      obtain ⟨o, -, ho, cc⟩ := S7.ob u'.length Dd _ hD7 hk
                      replace ho := ho rfl
                      cases o <;> first | exact (show False from cc).elim | skip
                      rename_i vs7
                      have cc : RpA K (vis A6 u7 H6) vs7 acc := cc
                      refine ⟨vs7, ho, by rw [cc.length, sizeLine_eq]; exact hsz, ?_⟩
                      obtain ⟨S8, st8⟩ := S7.write (o := .lst (vs7 ++ [w])) (mo := .lst (acc ++ [yd])) hD7 hk rfl rfl (cc.append (.cons rp7 .nil))
                      have hk8 := set_take (X := (⟨true, .lst (acc ++ [yd])⟩ : Ob)) hk
                      have S8' := (S8.cut (u'.length + 1)).1
                      have st8' := (st17.trans st8).cut S8 (n := u'.length + 1) (by rw [List.length_append, hA]; exact Nat.le_refl _)
                      rw [hk8, p7, take_pre hA.symm] at S8' st8'
                      have hlk := (List.getElem?_eq_some_iff.mp hk).1
                      exact ⟨u7.take u'.length, acc ++ [yd], by rw [List.length_take]; omega, st8', S8', e3⟩
                    · cases e3
        · cases e3
      · rw [List.drop_eq_nil_of_le (by omega)] at e3
        unfold lcL at e3
        split at e3
        · rename_i hgd
          cases e3
          refine .inl ⟨ok.stop i _ _ H2 (st0.trans st2) S2 hgd (by omega), q _ _ ?_⟩
          obtain ⟨o, h1, h2, h3, ev⟩ := S2.pop
          refine ⟨A1, minus H2 Dd, Dd, o, ⟨st1.pre, ?_, fun a h => ?_, fun a q y h => ?_⟩, h3, minus_same, rfl, (minus_upd h1).symm, h2⟩
          · rw [← ev]
            exact (st1.trans (st0.trans st2)).keep
          · by_cases e : a = Dd
            · subst e; exact st1.dom _ hD
            · rw [minus_ne e] at h
              exact (st1.trans (st0.trans st2)).dom a h
          · have f := (st1.trans (st0.trans st2)).fr a q y h
            have e : a ≠ Dd := fun z => by
              rw [z, h1] at f
              cases f
              exact (show False from h2).elim
            rw [minus_ne e]; exact f
        · cases e3
end
section
variable {c : Ct} {elt tg iter : Expr} {ifs : List Expr} {scope : Scope} {di : DI} {g : DG} {dt : DT} {de : DE} {gi : List Nat} {pos : Pos}
def JTs (c : Ct) (es : List Expr) (dt : DT) : Prop := ∃ tt, (∀ X, OkX c X → PTs X es tt) ∧ LT c.K tt dt
theorem jts_nil : JTs c [] dtYes := ⟨_, fun X _ => pts_nil, LT.yes⟩
theorem jts_one {t : Expr} (h : JT c t dt) : JTs c [t] dt := by
  obtain ⟨tt, pt, lt⟩ := h
  exact ⟨_, fun X ok => pts_one (pt X ok), lt⟩
theorem je_lc (own : List (Str × Nat)) (hN : c.N.Nodup) (hi : JI c tg iter di) (hb : blkC c.N c.sc scope own = true) (hg : JG (c.blk scope) tg g gi) (ht : JTs (c.blk scope) ifs dt) (he : JE (c.blk scope) elt de) (hv : ∀ i ∈ gi, i ∈ own.map (·.2) := by decide)
    (hs : ∀ env x, foldedSetIterable iter env x = pure x := by intro _ _; rfl) : JE c (.ListComp elt [⟨tg, iter, ifs, 0⟩] scope pos) (dLc di g dt de (own.map (·.2))) := by
  obtain ⟨wi, pi, li⟩ := hi
  obtain ⟨tg', pg, lg⟩ := hg
  obtain ⟨tt, pt, lt⟩ := ht
  obtain ⟨te, pe, le⟩ := he
  refine ⟨_, fun X ok => pe_lc ok.calm (by rw [ok.N]; exact hN) (pi X ok) (own := own) (blkOk_by (by rw [ok.N, ok.sc]; exact hb)) (fun s H C cl fp => pg _ (ok.blk s H scope cl C fp)) (fun s H C cl fp => pt _ (ok.blk s H scope cl C fp)) (fun s H C cl fp => pe _ (ok.blk s H scope cl C fp)) (hs _), LE.lc li lg hv lt le⟩
theorem js_setLc {i : Nat} {y : Str} {py spos : Pos} (own : List (Str × Nat)) (hN : c.N.Nodup) (hi : JI c tg iter di) (hb : blkC c.N c.sc scope own = true) (hg : JG (c.blk scope) tg g gi) (ht : JTs (c.blk scope) ifs dt) (he : JE (c.blk scope) elt de) (hv : ∀ i ∈ gi, i ∈ own.map (·.2) := by decide)
    (hk : c.sc.kind = .function := by rfl) (hy : c.N[i]? = some y := by rfl) (hyl : c.sc.names.lookup y = some .local := by rfl) (hl : (py.line == pos.line) = true := by rfl) (ha : (scope.names.any fun (n, k) => n == y && (k == .local || k == .cell)) = false := by decide +kernel)
    (hs : ∀ env x, foldedSetIterable iter env x = pure x := by intro _ _; rfl) : JS c (.Assign [.Name y py] (.ListComp elt [⟨tg, iter, ifs, 0⟩] scope pos) spos) (sAsg (gSet i) (dLc di g dt de (own.map (·.2)))) := by
  obtain ⟨wi, pi, li⟩ := hi
  obtain ⟨tg', pg, lg⟩ := hg
  obtain ⟨tt, pt, lt⟩ := ht
  obtain ⟨te, pe, le⟩ := he
  refine ⟨_, fun X ok => ps_setLc (i := i) ok.calm (by rw [ok.N]; exact hN) (by rw [ok.N]; exact hy) (by rw [ok.sc]; exact hyl) (sw_true (by rw [ok.sc]; exact hk) (by rw [ok.sc]; exact hyl) hl ha) (pi X ok) (own := own) (blkOk_by (by rw [ok.N, ok.sc]; exact hb)) (fun s H C cl fp => pg _ (ok.blk s H scope cl C fp)) (fun s H C cl fp => pt _ (ok.blk s H scope cl C fp)) (fun s H C cl fp => pe _ (ok.blk s H scope cl C fp)) (hs _), LS.asg (LE.lc li lg hv lt le) LG.set⟩
end

/-! ### the rule for a def -/
def fin (l : Nat) : Rt → List Ob → Option (Rt × List Ob)
  | .nw mo, u => some (.nw mo, u.take l)
  | .s (.d x), u => some (.s (.d x), u.take l)
  | .s (.m j), u => if j < l then some (.s (.m j), u.take l) else match u[j]? with
    | some ⟨true, mo⟩ => some (.nw mo, u.take l)
    | some ⟨false, mo⟩ => some (.s (.d mo.toD), u.take l)
    | none => none
  | .s .un, _ => none
def fnD (n N : Nat) (ds : DS) : FnD := fun args u => if args.length = n then (match ds (args ++ List.replicate (N - n) .un) u with
  | some (.rt r u') => fin u.length r u'
  | some (.nx _ u') => some (.s (.d .none), u'.take u.length)
  | _ => none) else none
section
variable {K : PySem.W.Frag} {A A' : List Addr} {u u' : List Ob} {H H' : Hp}
theorem cut_at (st : Step A u H A' u' H') (hl : A.length = u.length) : A'.take u.length = A := by
  obtain ⟨B, e⟩ := st.pre
  rw [e, List.take_append, List.take_of_length_le (by omega), ← hl]
  simp
theorem Post.fin {r r2 : Rt} {u2 : List Ob} {v : V} (S : Store K A u H) (h : Post K A u H r u' v H') (e : fin u.length r u' = some (r2, u2)) : Post K A u H r2 u2 v H' := by
  cases r with
  | nw mo =>
    cases e
    obtain ⟨A1, H1, p, o, st, S1, hp, rfl, rfl, cc⟩ := h
    obtain ⟨S2, le⟩ := S1.cut u.length
    exact ⟨_, H1, p, o, st.cut S1 (by rw [S.len]; exact Nat.le_refl _), S2, hp, rfl, rfl, cc.mono le⟩
  | s x =>
    cases x with
    | un => cases e
    | d x =>
      cases e
      obtain ⟨A1, st, S1, rv⟩ := h
      obtain ⟨S2, le⟩ := S1.cut u.length
      exact ⟨_, st.cut S1 (by rw [S.len]; exact Nat.le_refl _), S2, Rp.mono le rv⟩
    | m j =>
      obtain ⟨A1, st, S1, a, ha, rfl⟩ := h
      simp only [DL.fin] at e
      split at e
      · rename_i hj
        cases e
        obtain ⟨S2, le⟩ := S1.cut u.length
        exact ⟨_, st.cut S1 (by rw [S.len]; exact Nat.le_refl _), S2, a, by rw [List.getElem?_take_of_lt hj]; exact ha, rfl⟩
      · rename_i hj
        split at e
        · rename_i mo hq
          cases e
          obtain ⟨o, -, h1, cc⟩ := S1.ob j a _ ha hq
          replace h1 := h1 rfl
          have hh : hid A1 u' a := ⟨j, _, ha, hq, rfl⟩
          have nin : a ∉ A1.take u.length := fun hm => by
            obtain ⟨i, hi⟩ := List.getElem?_of_mem hm
            have l1 := (List.getElem?_eq_some_iff.mp hi).1
            rw [List.length_take] at l1
            rw [List.getElem?_take_of_lt (by omega)] at hi
            have := hid_nodup.nodup_idx S1.nd hi ha
            omega
          obtain ⟨S2, le⟩ := S1.cut u.length
          have ne : ∀ b, b ∈ A1.take u.length → b ≠ a := fun b hb z => nin (by rw [← z]; exact hb)
          have le2 : Le (vis A1 u' H') (vis (A1.take u.length) (u'.take u.length) (minus H' a)) := fun b x r => by
            obtain ⟨n1, r1⟩ := vis_rd r
            have nb : b ≠ a := fun z => n1 (by rw [z]; exact hh)
            refine rd_vis (fun q => n1 (hid_take q)) ?_
            rcases r1 with r1 | ⟨y, r1⟩
            · exact .inl (by rw [minus_ne nb]; exact r1)
            · exact .inr ⟨y, by rw [minus_ne nb]; exact r1⟩
          have hn : H a = none := by
            cases q : H a with
            | none => rfl
            | some ob =>
              by_cases hv : hid A u a
              · obtain ⟨i, b, i1, i2, i3⟩ := hv
                have l1 := (List.getElem?_eq_some_iff.mp i2).1
                have := hid_nodup.nodup_idx S1.nd (st.at i1) ha
                omega
              · have r := st.keep a ob (.inl (by rw [vis_of hv]; exact q))
                exact absurd hh (vis_rd r).1
          have st2 := st.cut S1 (n := u.length) (by rw [S.len]; exact Nat.le_refl _)
          refine ⟨A1.take u.length, minus H' a, a, o, ⟨st2.pre, st.keep.trans le2, fun b hb => ?_, fun b q y h => ?_⟩, ⟨S2.len, S2.nd, S2.nt, fun i b x e1 e2 => ?_⟩, minus_same, rfl, (minus_upd h1).symm, cc.mono le2⟩
          · by_cases z : b = a
            · rw [z]; exact hn
            · rw [minus_ne z] at hb; exact st.dom b hb
          · have f := st.fr b q y h
            have e : b ≠ a := fun z => by
              rw [z, h1] at f
              cases f
              cases mo <;> exact (show False from cc).elim
            rw [minus_ne e]; exact f
          · have hb := ne b (List.mem_of_getElem? e1)
            have li : i < u.length := by
              have := (List.getElem?_eq_some_iff.mp e1).1
              rw [List.length_take] at this; omega
            rw [List.getElem?_take_of_lt li] at e1 e2
            obtain ⟨q, e3, l3, c3⟩ := S1.ob i b x e1 e2
            exact ⟨q, rd_minus e3 hb, fun z => by rw [minus_ne hb]; exact l3 z, c3.mono le2⟩
        · rename_i mo hq
          cases e
          obtain ⟨o, h1, -, cc⟩ := S1.ob j a _ ha hq
          obtain ⟨S2, le⟩ := S1.cut u.length
          have nh : ¬ hid A1 u' a := fun h => by
            rw [hid_nodup S1 ha hq] at h
            cases h
          refine ⟨_, st.cut S1 (by rw [S.len]; exact Nat.le_refl _), S2, ?_⟩
          exact Rp.mono le (cc.rp (Le.refl _) (rd_vis nh h1))
        · cases e
end
theorem start_slots {K : PySem.W.Frag} {A : List Addr} {Hv : Hp} : ∀ {vs : List V} {args : List Sl}, RVs K A Hv vs args → ∀ m : Nat, Slots K A Hv (args ++ List.replicate m .un) (vs.map some ++ List.replicate m none) := fun {vs args} h m => by
  have hl := h.length
  refine ⟨by rw [List.length_append, List.length_append, List.length_map, hl, List.length_replicate, List.length_replicate], fun i s e => ?_⟩
  by_cases hi : i < args.length
  · rw [List.getElem?_append_left hi] at e
    have key : ∀ (vs : List V) (args : List Sl) (i : Nat) (s : Sl), RVs K A Hv vs args → args[i]? = some s → ∃ v, vs[i]? = some v ∧ RV K A Hv v s := by
      intro vs
      induction vs with
      | nil => intro args i s h e; cases args <;> first | simp at e | exact h.elim
      | cons v r ih =>
        intro args i s h e
        cases args with
        | nil => exact h.elim
        | cons a t =>
          cases i with
          | zero => simp at e; subst e; exact ⟨v, rfl, h.1⟩
          | succ i => exact ih t i s h.2 (by simpa using e)
    obtain ⟨v, e2, rv⟩ := key vs args i s h e
    exact .inr ⟨v, by rw [List.getElem?_append_left (by rw [List.length_map]; omega), List.getElem?_map, e2]; rfl, rv⟩
  · rw [List.getElem?_append_right (by omega), List.getElem?_replicate] at e
    split at e
    · cases e; exact .inl rfl
    · cases e
theorem FnG.of {P : Program} {w : World} {K : PySem.W.Frag} {mg : Str → Option Value} {base : Heap} {x qual : Str} {st : Stmt} {f : Addr} {fd : FuncData} {N ps : List Str} {k : Nat} {ds : DS} (F : Fun K x qual st f fd) (S : FnScope N ps (defScope st))
    (body : JSs ⟨P, w, K, mg, base, N, defScope st, fun _ => true, k⟩ (defBody st) ds) : FnG P w K mg base (k + 1) f fd ps ps.length (fnD ps.length N.length ds) := by
  obtain ⟨ts, pss, ls⟩ := body
  obtain ⟨oc, od, kV, doc, pm, an, cdv, ct, osl, rfl, lk, hcd⟩ := F.ex
  refine ⟨rfl, fun A outer s H args us vs Q hg room env0 bound rel want => ?_⟩
  obtain ⟨Ad, u, as, r, u', hl, e, St, rvs, q⟩ := want
  have arity : vs.length = ps.length := by rw [rvs.length, hl]
  have old : ∀ b o, base.get? b = some o → s.heap.get? b = some o := fun b o z => (env0.bs b o z).1
  have names : ∀ y ∈ ps.zip us, (defScope st).names.lookup y.1 = some .local ∨ ((defScope st).names.lookup y.1 = some .cell ∧ ((cellsFrom (s.heap.objs.size + 1) (defScope st).names []).lookup y.1).isSome = true) := by
    rintro ⟨n, v⟩ hy
    exact (S.par n (List.of_mem_zip hy).1).imp id fun z => ⟨z, PySem.W.cellsFrom_some _ _ _ (.inl z)⟩
  refine codeAny_call_function room.depth (env0.mod.kin.keeps old _ _ lk) rfl S.co S.gen rfl (PySem.W.codeRec_of (env0.mod.kin.keeps old) hcd) (bound _ _ _ _ (wpAny_newFunctionEnv_cells S.kind names ?_))
  rintro env rfl s1 came
  refine ⟨(env0.mod.nolimit.keeps old).keeps came.toInCall.keep, codeAny_func ?_⟩
  have here := (inv_start (CX := CX0) (qual := qual) (cd := cdv) (f := f) (E := E0) S room.hd env0 arity rel came).wish fun _ _ => False
  have ok : OkX ⟨P, w, K, mg, base, N, defScope st, fun _ => true, k⟩ (cxOf CX0 P w K mg base N qual (defScope st) f cdv A outer s H E0).nox := ⟨rfl, rfl, rfl, rfl, rfl, rfl, rfl, rfl, rfl, room.deeper _, hg, rfl⟩
  have begin_ : L2.start N vs = vs.map some ++ List.replicate (N.length - ps.length) none := by unfold L2.start; rw [arity]
  have sl := start_slots rvs (N.length - ps.length)
  rw [← begin_] at sl
  have reading : ts { nx := fun _ H' => Q .non H', rt := Q } (L2.start N vs) H := by
    unfold fnD at e
    rw [if_pos hl] at e
    cases e1 : ds (as ++ List.replicate (N.length - ps.length) .un) u with
    | none => rw [e1] at e; cases e
    | some o =>
      rw [e1] at e
      refine ls Ad _ u o e1 _ H St sl _ ?_
      cases o with
      | nx ρ1 u1 =>
        cases e
        exact fun A' σ' H' st' S' L' => q .non H' (Post.fin (r := .s (.d .none)) St ⟨A', st', S', .non⟩ rfl)
      | rt r1 u1 => exact fun v H' P => q v H' (P.fin St e)
      | bk ρ1 u1 => cases e
      | ct ρ1 u1 => cases e
  refine wpAny_mono ((pss _ ok).run [] s1 _ H _ here reading) (fun fl s' got => ?_) fun _ _ no => no.elim
  match fl, got with
  | .ret u, ⟨v, _, H', J, rv, z⟩ => exact ⟨v, H', J.os, J.bare, J.base, J.hok, rv, z⟩
  | .next, ⟨_, H', J, z⟩ => exact ⟨.non, H', J.os, J.bare, J.base, J.hok, rfl, z⟩
  | .brk, ⟨_, _, _, z⟩ => exact z.elim
  | .cont, ⟨_, _, _, z⟩ => exact z.elim

theorem rp_ints {K : PySem.W.Frag} {H : Hp} : ∀ ns : List Int, RpA K H (ns.map V.int) (ns.map PyData.int)
  | [] => .nil
  | n :: r => .cons (.int n) (rp_ints r)
/-! ### the end: a law's def, asked with the script -/
section
open PySem.Spec PyProof.Rows
theorem law_end {P : Program} {w : World} {K : PySem.W.Frag} {mg mb : Str → Option Value} {k : Nat} {fa a : Addr} {fd : FuncData} {x : Str} {g : FnD} {s1 : Shared} {vs : List Value} {ns : List Int}
    (KX : K.In s1.heap) (hns : s1.heap.Ns mainGlobals mg) (hb : s1.heap.Ns builtinsNs mb) (hbb : ∀ x : Str, x ≠ "__name__" → mb x = bootBuiltins x) (hlim : s1.heap.NoLimit) (hg : s1.gens = #[])
    (ha : s1.heap.get? a = some { cls := .type "list", data := .seq vs.toArray }) (hi : IntsAre vs ns) (hl : ns.length ≤ sizeLine) (room : Room k callerA)
    (F : ∀ base : Heap, K.In base → base.Ns mainGlobals mg → FnG P w K mg base k fa fd [x] 1 g) (hbind : ∀ (s : Shared) (u : Value), BindsTo s fd ⟨[u], []⟩ [(x, u)])
    (true_ : ∃ u', g [.d (.list (ns.map .int))] [] = some (.s (.d (.bool true)), u')) :
    codeAny (model P w) callerA (.call (.ref fa) ⟨[.ref a], []⟩) (fun r s' => r = .ok (.ret (.bool true)) ∧ OldK s1.heap s'.heap ∧ s'.os = s1.os ∧ AllBare s'.gens) s1 := by
  classical
  have rv := vals_ints hi
  let ob : Obj := { cls := .type "list", data := .seq vs.toArray }
  -- the script is tracked, locked, but where it is one of the module's own objects
  let H : Hp := fun b => if b = a ∧ K.lookup a = none then some (.frz ob (.lst (ns.map V.int))) else none
  have off : ∀ b, b ≠ a → H b = none := fun b n => if_neg fun z => n z.1
  have at_ : H a = none ∨ (K.lookup a = none ∧ H a = some (.frz ob (.lst (ns.map V.int)))) := by
    cases q : K.lookup a with
    | none => exact .inr ⟨rfl, if_pos ⟨rfl, q⟩⟩
    | some o => exact .inl (if_neg fun z => by rw [q] at z; cases z.2)
  have only : ∀ b u, H b = some u → b = a ∧ K.lookup a = none ∧ u = .frz ob (.lst (ns.map V.int)) := fun b u z => by
    by_cases n : b = a
    · subst n
      rcases at_ with q | ⟨q1, q2⟩
      · rw [q] at z; cases z
      · rw [q2] at z; cases z; exact ⟨rfl, q1, rfl⟩
    · rw [off b n] at z; cases z
  have len : (ns.map V.int).length ≤ sizeLine := by rw [List.length_map]; exact hl
  have held : HOk P w H s1.heap := fun b u z => by
    obtain ⟨rfl, _, rfl⟩ := only b u z
    exact ⟨ha, len, vs, _, rv, ha⟩
  have seq : SqL K H a (ns.map V.int) := by
    rcases at_ with q | ⟨_, q⟩
    · refine .inr ?_
      cases z : K.lookup a with
      | none =>
        have z2 : H a = some (.frz ob (.lst (ns.map V.int))) := if_pos ⟨rfl, z⟩
        rw [q] at z2; cases z2
      | some o =>
        have z' := KX a o z
        rw [ha] at z'; cases z'
        exact ⟨_, vs.toArray, _, rfl, rfl, rfl, rfl, by rw [List.size_toArray, ← rv.length]; exact len, by simpa using rv⟩
    · exact .inl (.inr ⟨_, q⟩)
  have plain : ∀ {b : Addr} {o : Obj} {es : Array DictEntry} {n : Nat}, s1.heap.get? b = some o → o.data = .dict es n → (hidT s1.heap H).get? b = some o := fun {b o es n} e d => hidT_get e (by
    cases z : H b with
    | none => rfl
    | some u =>
      obtain ⟨rfl, _⟩ := only b u z
      rw [ha] at e; cases e
      cases d)
  have space : ∀ {b : Addr} {m : Str → Option Value}, s1.heap.Ns b m → (hidT s1.heap H).Ns b m := fun ⟨o, es, n, e, d, t⟩ => ⟨o, es, n, plain e d, d, t⟩
  have inside : K.In (hidT s1.heap H) := fun b o z => hidT_get (KX b o z) (by
    cases y : H b with
    | none => rfl
    | some u =>
      obtain ⟨rfl, n, _⟩ := only b u y
      rw [n] at z; cases z)
  obtain ⟨mc, l1, l2⟩ := hlim
  have env : Env0 P w K mg (hidT s1.heap H) callerA [] s1 H := ⟨rfl, ⟨inside, space hns, ⟨mb, space hb, hbb⟩, mc, space l1, l2⟩, fun b o e => of_hidT e, Nat.le_of_eq (hidT_size _ _), trivial, fun b z => absurd (show b ∈ ([] : List Addr) from z) (by simp), held, .of_eq hg⟩
  obtain ⟨u', told⟩ := true_
  have lst : Rp K H (.ref a) (.list (ns.map PyData.int)) := .lst seq (rp_ints ns)
  have visH : vis [] [] H = H := by
    funext b
    exact vis_of fun ⟨j, _, z, _⟩ => by simp at z
  have store : Store K [] [] H := ⟨rfl, List.nodup_nil, fun j x z => by simp at z, fun j b x z => by simp at z⟩
  refine codeAny_mono ((F _ inside (space hns)).go callerA [] s1 H ⟨[.ref a], []⟩ [.ref a] [.ref a] (fun v _ => v = .bl true) rfl room env (hbind s1 (.ref a)) (.cons rfl .nil)
    ⟨[], [], [.d (.list (ns.map .int))], _, u', rfl, told, store, ⟨by rw [visH]; exact lst, trivial⟩, fun v H' ⟨A', _, _, z⟩ => by cases (show Rp K _ v (.bool true) from z); rfl⟩) fun r s' got => ?_
  match r, got with
  | .error _, got => exact got.elim
  | .ok .next, got => exact got.elim
  | .ok .brk, got => exact got.elim
  | .ok .cont, got => exact got.elim
  | .ok (.ret u), got =>
    obtain ⟨v, H', os, bare, un, held', rel, z⟩ := got
    have z : v = .bl true := z
    subst z
    obtain rfl : u = Value.bool true := rel
    refine ⟨rfl, OldK.of_keep fun b o e => ?_, os, bare⟩
    cases y : H b with
    | none => exact un.keep b o e y (fun z => absurd (show b ∈ ([] : List Addr) from z) (by simp)) (by simp)
    | some t =>
      obtain ⟨rfl, _, rfl⟩ := only b t y
      rw [ha] at e; cases e
      exact (held' b _ (un.frzs b _ _ y)).1
theorem walk_end {l : PySem.W.OpenLaw} {n k : Nat} {q : Program} {loose : List Str} {XP : (Str → Option Value) → Heap → Prop} {YP : World → Heap → Prop} {d : DefRec} {K : Params → PySem.W.Frag} {x : Str} {g : FnD}
    (hn : l.most = some n) (hn2 : n ≤ sizeLine) (hdf : d.params.defaults = []) (room : Room k callerA) (hY : ∀ (w : World) (h : Heap), YP w h → (K w.params).In h)
    (F : ∀ (w : World) (mg : Str → Option Value) (fa : Addr) (h : Heap), (K w.params).In h → h.Ns mainGlobals mg → mg d.name = some (.ref fa) →
      ∃ fd : FuncData, (∀ (s : Shared) (u : Value), BindsTo s fd ⟨[u], []⟩ [(x, u)]) ∧ ∀ base : Heap, (K w.params).In base → base.Ns mainGlobals mg → FnG l.prog w (K w.params) mg base k fa fd [x] 1 g)
    (true_ : ∀ ns : List Int, ns.length ≤ n → ∃ u', g [.d (.list (ns.map .int))] [] = some (.s (.d (.bool true)), u')) :
    PySem.W.WalkO q loose XP YP l.row.toRowW d [] (fun f vs => PySem.call f vs) := by
  refine Att.attach_call hn hdf fun w s₀ s1 mg mb fa o pm cd doc a vs ns G Y _ _ _ hmg hobj hints hlen gens => ?_
  obtain ⟨fd, hb, hF⟩ := F w mg fa _ (hY w _ Y) G.T.g hmg
  exact law_end (hY w _ Y) G.T.g G.T.b G.T.builtins G.T.nolimit gens hobj hints (Nat.le_trans hlen hn2) room hF hb (true_ ns hlen)
end
end DL
end

section
set_option Elab.async false
set_option maxRecDepth 100000
set_option maxHeartbeats 4000000
/-! rules by values that ask nothing of what holds a sequence: list + list, xs.extend(ys), xs[::-1] -/
namespace DL
open PySem L2 PySem.Spec PyProof.Rows

/-! ### what the built-ins do to the heap -/
section
variable {p q : Addr} {us ws : Array Value} {m k : Nat} {e1 e2 : Option Addr} {t1 t2 : Array (Option Value)}
theorem two_lists (small : us.size + ws.size ≤ sizeLine) : Meets (Builtin.«list.__add__» ⟨[.ref p, .ref q], []⟩) fun _ R st =>
    (st.heap.get? p = some ⟨.type "list", e1, .seq us m, t1⟩ ∧ st.heap.get? q = some ⟨.type "list", e2, .seq ws k, t2⟩) ∧
    R (.ok (.ret (.ref st.heap.objs.size))) { st with heap := st.heap.push { cls := .type "list", data := .seq (us ++ ws) }, toks := st.toks } :=
  .of_wp fun _ _ _ _ st want => by
    obtain ⟨heap, gens, drawn, toks, os⟩ := st
    obtain ⟨⟨at1, at2⟩, want⟩ := want
    have a1 := AutoSeq1.idx_int
    have a2 := AutoSeq1.sub_list_list
    have a3 := AutoSeq1.sub_tuple_tuple
    have a4 := AutoSeq1.sub_list_tuple
    have a5 := AutoSeq1.sub_tuple_list
    wp_walk using wpAny_loadPart' at1, wpAny_loadPart' at2
    exact ⟨_, rfl, want⟩
theorem more_items {T : String} (hT : T = "list" ∨ T = "tuple") (free : ¬(!us.isEmpty && Builtin.List.listTooLong (us.size + ws.size)) = true) (small : us.size ≤ sizeLine) (both : us.size + ws.size ≤ sizeLine + 1) :
    Meets (Builtin.«list.extend» ⟨[.ref p, .ref q], []⟩) fun _ R st =>
      (st.heap.get? p = some ⟨.type "list", none, .seq us m, #[]⟩ ∧ st.heap.get? q = some ⟨.type T, e2, .seq ws k, t2⟩) ∧
      R (.ok (.ret .none)) { st with heap := st.heap.update p (Obj.mapSeq fun x => x ++ ws), toks := st.toks } :=
  .of_wp fun _ _ _ _ st want => by
    obtain ⟨heap, gens, drawn, toks, os⟩ := st
    obtain ⟨⟨at1, at2⟩, want⟩ := want
    have a1 := AutoSeq1.idx_int
    have a2 := AutoSeq1.sub_list_list
    have a3 := AutoSeq1.sub_tuple_tuple
    have a4 := AutoSeq1.sub_list_tuple
    have a5 := AutoSeq1.sub_tuple_list
    have hz' : (us ++ ws).size ≤ sizeLine + 1 := by rw [Array.size_append]; exact both
    rcases hT with rfl | rfl
    · wp_walk using (wpAny_updateSeq at1 rfl (hz := small) (_hz' := hz')), wpAny_loadPart' at1, wpAny_loadPart' at2
      exact ⟨_, rfl, want⟩
    · wp_walk using (wpAny_updateSeq at1 rfl (hz := small) (_hz' := hz')), wpAny_loadPart' at1, wpAny_loadPart' at2
      exact ⟨_, rfl, want⟩
end
section
variable {X : Cx}
def rCatL (K : PySem.W.Frag) : R2 := fun x y H Q => ∃ p q vs ws, x = .ref p ∧ y = .ref q ∧ SqL K H p vs ∧ SqL K H q ws ∧ vs.length + ws.length ≤ sizeLine ∧ ∀ r, H r = none → Q (.ref r) (upd H r (.lst (vs ++ ws)))
theorem op_catL : OpR X (binaryOp .Add) (rCatL X.K) := by
  intro pins st σ H x y ux uy Q J rx ry ⟨p, q, vs, ws, ex, ey, l1, l2, room, told⟩
  subst ex ey
  cases rx; cases ry
  obtain ⟨as, rel1, ⟨⟨_, dd1, _, sl1⟩, n1, at1, c1, w1, d1⟩, _⟩ := J.list l1
  obtain ⟨bs, rel2, ⟨⟨_, dd2, _, sl2⟩, n2, at2, c2, w2, d2⟩, _⟩ := J.list l2
  simp only at c1 d1 c2 d2
  subst c1 d1 c2 d2
  have len1 := rel1.length
  have len2 := rel2.length
  have few : as.toArray.size + bs.toArray.size ≤ sizeLine := by simp only [List.size_toArray]; omega
  refine concat_meets ⟨_, at1, rfl⟩ ⟨_, at2, rfl⟩ noFill_list_add seq_list_add F.slot_list_add F.entry_list_add (F.args_list_add_2 _ _) (two_lists few) ⟨⟨at1, at2⟩, ?_⟩
  rw [show as.toArray ++ bs.toArray = (as ++ bs).toArray by simp]
  have fits : (vs ++ ws).length ≤ sizeLine := by simp only [List.length_append]; omega
  exact ⟨.ref st.heap.objs.size, _, J.lnew (t' := st.toks) (rel1.append rel2) fits, rfl, told _ J.fresh⟩
def rExtU (K : PySem.W.Frag) : V → List V → Hp → VK → Prop := fun x as H Q => ∃ p q vs ws, x = .ref p ∧ as = [.ref q] ∧ H p = some (.lst vs) ∧ (SqL K H q ws ∨ SqT K H q ws) ∧ vs.length + ws.length ≤ sizeLine ∧ Q .non (upd H p (.lst (vs ++ ws)))
theorem mt_extendU : MtR X "list.extend" (rExtU X.K) := by
  intro pins st σ H x as ux uas Q J rx ras ⟨p, q, vs, ws, ex, eas, own, other, room, told⟩
  subst ex eas
  cases rx
  obtain ⟨uq, euq, rq⟩ := ras.one
  subst euq
  cases rq
  obtain ⟨_, mine, n, rel, _, at1⟩ := J.lstM own
  -- the other one's items, a list's or a tuple's
  have items : ∃ (T : String) (bs : List Value) (dd : Option Addr) (k : Nat) (sl : Array (Option Value)), (T = "list" ∨ T = "tuple") ∧ Vals ws bs ∧ st.heap.get? q = some ⟨.type T, dd, .seq bs.toArray k, sl⟩ := by
    rcases other with l | t
    · obtain ⟨bs, rel2, ⟨⟨_, dd, _, sl⟩, k, at2, c2, _, d2⟩, _⟩ := J.list l
      simp only at c2 d2
      subst c2 d2
      exact ⟨_, bs, dd, k, sl, .inl rfl, rel2, at2⟩
    · obtain ⟨bs, rel2, ⟨⟨_, dd, _, sl⟩, at2, c2, k, d2⟩, _⟩ := J.tuple t
      simp only at c2 d2
      subst c2 d2
      exact ⟨_, bs, dd, k, sl, .inr rfl, rel2, at2⟩
  obtain ⟨T, bs, dd, k, sl, hT, rel2, at2⟩ := items
  have len1 := rel.length
  have len2 := rel2.length
  have few : mine.toArray.size + bs.toArray.size ≤ sizeLine := by simp only [List.size_toArray]; omega
  have free : ¬ (!mine.toArray.isEmpty && Builtin.List.listTooLong (mine.toArray.size + bs.toArray.size)) = true := by
    rw [notLongL few, Bool.and_false]
    exact Bool.false_ne_true
  refine call_meets F.slot_list_extend ⟨_, at1, rfl⟩ F.entry_list_extend (F.args_list_extend_2 _ _) (more_items hT free (by omega) (by omega)) ⟨⟨at1, at2⟩, ?_⟩
  have fits : (vs ++ ws).length ≤ sizeLine := by simp only [List.length_append]; omega
  exact ⟨.non, _, J.lset (its' := mine ++ bs) own at1 (by simp) (rel.append rel2) fits, rfl, told⟩
end

/-! ### xs[::-1] -/
section
variable {prog : Program} {w : World} {A : Around} {E : Value → Shared → Prop} {st : Shared}
theorem count_back (n : Nat) : Builtin.Slice.slicePlaces ((n : Int) - 1) (-1) (-1) = n := by
  unfold Builtin.Slice.slicePlaces
  rw [if_neg (show ¬ ((-1 : Int) > 0) by omega), show (- -1 : Int) = 1 by decide, Int.ediv_one]
  split <;> omega
theorem items_back (us : Array Value) : ((List.range us.size).filterMap fun (i : Nat) => us[((us.size : Int) - 1 + (i : Int) * -1).toNat]?).toArray = us.toList.reverse.toArray := by
  have each : ∀ l : List Nat, (∀ i ∈ l, i < us.size) → (l.filterMap fun (i : Nat) => us[((us.size : Int) - 1 + (i : Int) * -1).toNat]?) = l.map fun i => us.toList[us.size - 1 - i]?.getD .none := by
    intro l
    induction l with
    | nil => intro _; rfl
    | cons i r ih =>
      intro h
      have hi := h i List.mem_cons_self
      have at_ : us[((us.size : Int) - 1 + (i : Int) * -1).toNat]? = some (us.toList[us.size - 1 - i]?.getD .none) := by
        rw [show ((us.size : Int) - 1 + (i : Int) * -1).toNat = us.size - 1 - i by omega, Array.getElem?_toList, Array.getElem?_eq_getElem (by omega)]
        rfl
      rw [List.filterMap_cons, at_, List.map_cons, ih fun j hj => h j (List.mem_cons_of_mem _ hj)]
  rw [each _ fun i hi => List.mem_range.mp hi]
  congr 1
  apply List.ext_getElem (by simp)
  intro i h1 h2
  simp only [List.length_map, List.length_range] at h1
  rw [List.getElem_map, List.getElem_range, List.getElem_reverse, List.getElem?_eq_getElem (by simp; omega)]
  simp
/-- a slice object with no ends and the step -1, asked of a tuple -/
theorem tuple_back {t sl : Addr} {us : Array Value} {x y z : Value} {Q : Value → Shared → Prop} (tup : IsTup st.heap t us) (slice : st.heap.IsSliceOf sl x y z) (px : IsPart x none) (py : IsPart y none) (pz : IsPart z (some (-1))) (small : us.size ≤ sizeLine)
    (told : Q (.ref st.heap.objs.size) { st with heap := st.heap.push { cls := .type "tuple", data := .seq us.toList.reverse.toArray } }) : wpAny (model prog w) A (getItem (.ref t) (.ref sl)) Q E st := by
  have fits : sizeOk (.seq us.toList.reverse.toArray) := show us.toList.reverse.toArray.size ≤ sizeLine by simpa using small
  obtain ⟨ob, hob, cls, dat⟩ := id slice
  have isSl : st.TypeIs (.ref sl) "slice" := ⟨ob, hob, cls⟩
  unfold getItem
  try with_reducible refine wpAny_holding ?_
  first | refine wpAny_bind (wpAny_pure ?_) | skip
  refine wpAny_bind (wpAny_sequenceKey tup.typeIs (by decide) ?_)
  refine wpAny_bind (wpAny_callSpecial?_slot (name := Str.ofString "__getitem__") tup.typeIs slot_tuple_getitem (wpAny_call_entry slot_tuple_getitem tup.typeIs entry_tuple_getitem ?_ (args_tuple_getitem _ _)))
  show wpAny _ _ (Builtin.Tuple.tupleItemsOf (.ref t) >>= _) _ _ st
  refine wpAny_bind (tupleItemsOf_ tup (wpAny_bind (wpAny_typeOf isSl ?_)))
  rw [if_pos (by decide)]
  refine wpAny_bind (m := Builtin.Slice.sliceApplied (.ref sl) (pure (us.size : Int))) ?_
  unfold Builtin.Slice.sliceApplied Builtin.Slice.sliceFields
  refine wpAny_bind (wpAny_bind (wpAny_field hob dat (x := x) rfl (wpAny_bind (wpAny_field hob dat (x := y) rfl (wpAny_bind (wpAny_field hob dat (x := z) rfl (wpAny_pure ?_)))))))
  refine wpAny_bind (HT.slicePart_ pz ?_)
  show wpAny _ _ (if ((-1 : Int) == 0) = true then _ else _) _ _ st
  rw [if_neg (by decide)]
  refine wpAny_bind (HT.slicePart_ px (wpAny_bind (HT.slicePart_ py (wpAny_bind (wpAny_pure ?_)))))
  show wpAny _ _ (pure (((us.size : Nat) : Int) - 1, (-1 : Int), Builtin.Slice.slicePlaces (((us.size : Nat) : Int) - 1) (-1) (-1))) _ _ st
  rw [count_back]
  refine wpAny_pure ?_
  have part : ¬ (((((us.size : Nat) : Int) - 1) == 0 && (-1 : Int) == 1 && us.size == us.size) = true) := by simp
  show wpAny _ _ (if ((((us.size : Nat) : Int) - 1) == 0 && (-1 : Int) == 1 && us.size == us.size) = true then _ else _) _ _ st
  rw [if_neg part, items_back]
  first
    | exact wpAny_bind (m := Builtin.Tuple.tupleExact _) (wpAny_newObj_type (wpAny_pure ⟨_, rfl, wpAny_pure told⟩) fits)
    | exact wpAny_bind (m := Builtin.Tuple.tupleExact _) (wpAny_newObj_type (wpAny_bind (wpAny_pure (wpAny_pure ⟨_, rfl, wpAny_pure told⟩))) fits)
    | exact wpAny_bind (wpAny_bind (m := Builtin.Tuple.tupleExact _) (wpAny_newObj_type (wpAny_pure (wpAny_pure ⟨_, rfl, wpAny_pure told⟩)) fits))
    | exact wpAny_bind (wpAny_bind (m := Builtin.Tuple.tupleExact _) (wpAny_newObj_type (wpAny_pure ⟨_, rfl, wpAny_pure told⟩) fits))
end
section
variable {X : Cx}
def rRevU (K : PySem.W.Frag) : V → Hp → VK → Prop := fun x H Q => ∃ a vs, x = .ref a ∧ ((SqL K H a vs ∧ ∀ p, H p = none → Q (.ref p) (upd H p (.lst vs.reverse))) ∨ (SqT K H a vs ∧ ∀ p, H p = none → Q (.ref p) (upd H p (.tup vs.reverse))))
theorem pe_revU {e : Expr} {te : TE} {k : Nat} {p1 p2 p3 pos : Pos} (he : PE X e te) : PE X (.Subscript e (.Slice none none (some (.UnaryOp .USub (.Constant (.int 1) k p1) p2)) p3) pos) (tUn (rRevU X.K) te) := by
  have back : PO X (some (.UnaryOp .USub (.Constant (.int 1) k p1) p2)) (tPart (tUn (rU fun i => .int (-i)) (tC (.int 1)))) := po_some (pe_un un_neg pe_int)
  constructor
  intro pins st σ H Q J want
  apply Subscript_
  refine thn (he.run pins st σ H _ J want) fun uv s1 got => ?_
  obtain ⟨v, H1, J1, rel, a, vs, ev, alt⟩ := got
  subst ev
  cases rel
  -- the three parts: none, none, -1; nothing changes
  apply wpAny_Slice
  refine thn (po_none.run pins s1 σ H1 (fun o h => o = none ∧ h = H1) J1 ⟨rfl, rfl⟩) fun lo s2 got => ?_
  obtain ⟨_, h2, J2, plo, rfl, rfl⟩ := got
  refine thn (po_none.run pins s2 σ _ (fun o h => o = none ∧ h = _) J2 ⟨rfl, rfl⟩) fun hi s3 got => ?_
  obtain ⟨_, h3, J3, phi, rfl, rfl⟩ := got
  refine thn (back.run pins s3 σ _ (fun o h => o = some (-1) ∧ h = _) J3 ⟨1, rfl, -1, rfl, rfl, rfl⟩) fun stp s4 got => ?_
  obtain ⟨_, h4, J4, pst, rfl, rfl⟩ := got
  let s5 : Shared := { s4 with heap := s4.heap.push { cls := .type "slice", data := .fields #[lo, hi, stp] } }
  have J5 : Inv X pins σ _ s5 := J4.kept (t' := s4.toks) fun b ob q => Heap.get?_push_of_some _ q
  show wpAny (model X.prog X.w) X.A (subscriptTail e _ (.ref a) (.ref s4.heap.objs.size)) (EP X pins σ Q) X.xe s5
  rcases alt with ⟨sq, told⟩ | ⟨sq, told⟩
  · obtain ⟨us, rv, lst, room⟩ := J5.list sq
    have len := rv.length
    refine tail_any (ops := [.ref a, .ref s4.heap.objs.size]) lst.isList.typeIs PySem.slot_list_getitem.lookup ?_ (by with_unfolding_all rfl)
    refine wpAny_getItem_list_slice lst.isList (Heap.IsSliceOf.new _ lo hi stp) plo phi pst (by decide) ?_ (by rw [List.size_toArray]; omega)
    rw [PySem.W.krv_pick]
    exact ⟨.ref _, _, J5.laid (t' := s5.toks) (o := .lst vs.reverse) (fun b ob q => Heap.get?_push_of_some _ q) (Nat.le_refl _) ⟨by rw [List.length_reverse]; exact room, _, 0, rv.reverse, Heap.get?_push_size _ rfl⟩, rfl, told _ (J5.hok.fresh (Nat.le_refl _))⟩
  · obtain ⟨us, rv, tup, room⟩ := J5.tuple sq
    have len := rv.length
    refine tail_any (ops := [.ref a, .ref s4.heap.objs.size]) tup.typeIs PyProof.Rows.slot_tuple_getitem.lookup ?_ (by with_unfolding_all rfl)
    refine tuple_back tup (Heap.IsSliceOf.new _ lo hi stp) plo phi pst (by rw [List.size_toArray]; omega) ?_
    exact ⟨.ref _, _, J5.laid (t' := s5.toks) (o := .tup vs.reverse) (fun b ob q => Heap.get?_push_of_some _ q) (Nat.le_refl _) ⟨by rw [List.length_reverse]; exact room, _, rv.reverse, IsTup.new _ _⟩, rfl, told _ (J5.hok.fresh (Nat.le_refl _))⟩
end
end DL
end

section
set_option Elab.async false
set_option maxRecDepth 100000
set_option maxHeartbeats 4000000
namespace DL
open PySem L2

section
variable {K : PySem.W.Frag} {Hv H : Hp}
theorem ResOk.d {z : D} {v : V} (h : Rp K Hv v z) : ResOk K Hv H (.s (.d z)) v H := .inl ⟨rfl, h⟩
end
def sD (x : D) : Option Rt := some (.s (.d x))

/-! ### + -/
def rAddS : R2 := fun x y H Q => ∃ i j, x = .str i ∧ y = .str j ∧ i.length + j.length ≤ sizeLine ∧ Q (.str (i ++ j)) H
def rAddU (K : PySem.W.Frag) : R2 := fun x y H Q => rI0 (fun i j => .int (i + j)) x y H Q ∨ rAddS x y H Q ∨ rCatL K x y H Q ∨ rCatA K x y H Q
def addD : D → D → Option Rt
  | .int i, .int j => sD (.int (i + j))
  | .str a, .str b => if a.length + b.length ≤ SZ then sD (.str (a ++ b)) else none
  | .list a, .list b => if a.length + b.length ≤ SZ then some (.nw (.lst (a ++ b))) else none
  | .tuple a, .tuple b => if a.length + b.length ≤ SZ then sD (.tuple (a ++ b)) else none
  | _, _ => none
theorem o_add {c : Ct} : ∀ X, OkX c X → OpR X (binaryOp .Add) (rAddU c.K) := fun X ok => by
  rw [← ok.K]
  exact op_add.or (op_add_str.or (op_catL.or op_catA))
theorem v_add {K : PySem.W.Frag} : V2Ok K (rAddU K) addD := by
  intro Hv H le v w x y res h1 h2 e Q q
  cases x <;> cases y <;> simp only [addD] at e <;> try (cases e; done)
  · rw [h1.int, h2.int]
    cases e
    exact .inl ⟨_, _, rfl, rfl, q _ _ (.d (.int _))⟩
  · split at e
    · rename_i hl
      cases e
      rw [h1.str, h2.str]
      exact .inr (.inl ⟨_, _, rfl, rfl, by rw [sizeLine_eq]; exact hl, q _ _ (.d (.str _))⟩)
    · cases e
  · split at e
    · rename_i hl
      cases e
      obtain ⟨a, xs, rfl, s, r⟩ := h1.list le
      obtain ⟨b, ys, rfl, s2, r2⟩ := h2.list le
      exact .inr (.inr (.inl ⟨a, b, xs, ys, rfl, rfl, s, s2, by rw [r.length, r2.length, sizeLine_eq]; exact hl, fun p hp => q _ _ ⟨p, _, hp, rfl, rfl, r.append r2⟩⟩))
    · cases e
  · split at e
    · rename_i hl
      cases e
      have k1 := h1.tupleV
      have k2 := h2.tupleV
      obtain ⟨a, xs, rfl, s, r⟩ := h1.tuple le
      obtain ⟨b, ys, rfl, s2, r2⟩ := h2.tuple le
      refine .inr (.inr (.inr ⟨a, b, xs, ys, rfl, rfl, s, s2, by rw [r.length, r2.length, sizeLine_eq]; exact hl, fun e => ?_, fun n e => ?_, fun n1 n2 p hp => ?_⟩))
      · subst e
        cases r
        exact q _ _ (.d k2)
      · subst e
        cases r2
        rw [List.append_nil] at q
        exact q _ _ (.d k1)
      · exact q _ _ (.inr ⟨p, _, _, hp, rfl, rfl, r.append r2, rfl⟩)
    · cases e

/-! ### numbers -/
def i2 (C : Int → Int → Bool) (g : Int → Int → D) : D → D → Option Rt
  | .int i, .int j => if C i j = true then sD (g i j) else none
  | _, _ => none
theorem v_i2 {K : PySem.W.Frag} {P : Int → Int → Prop} {C : Int → Int → Bool} {gv : Int → Int → V} {g : Int → Int → D} (hC : ∀ i j, C i j = true → P i j) (hg : ∀ i j (Hv : Hp), Rp K Hv (gv i j) (g i j)) : V2Ok K (rI P gv) (i2 C g) := by
  intro Hv H le v w x y res h1 h2 e Q q
  cases x <;> try (cases e; done)
  cases y <;> try (cases e; done)
  simp only [i2] at e
  split at e
  · rename_i hc
    cases e
    rw [h1.int, h2.int]
    exact ⟨_, _, rfl, rfl, hC _ _ hc, q _ _ (.d (hg _ _ _))⟩
  · cases e
theorem v_i20 {K : PySem.W.Frag} {gv : Int → Int → V} {g : Int → Int → D} (hg : ∀ i j (Hv : Hp), Rp K Hv (gv i j) (g i j)) : V2Ok K (rI0 gv) (i2 (fun _ _ => true) g) := by
  intro Hv H le v w x y res h1 h2 e Q q
  cases x <;> try (cases e; done)
  cases y <;> try (cases e; done)
  simp only [i2, if_true] at e
  cases e
  rw [h1.int, h2.int]
  exact ⟨_, _, rfl, rfl, q _ _ (.d (hg _ _ _))⟩
abbrev subD := i2 (fun _ _ => true) fun i j => .int (i - j)
abbrev mulI := i2 (fun i j => decide (i.natAbs < 2 ^ 64) || decide (j.natAbs < 2 ^ 64)) fun i j => .int (i * j)
abbrev fdivD := i2 (fun _ j => decide (0 < j) && decide (j < 2 ^ 64)) fun i j => .int (i / j)
abbrev modD := i2 (fun _ j => decide (0 < j)) fun i j => .int (i % j)
abbrev powD := i2 (fun i j => decide (0 ≤ j) && decide (j ≤ 1000000) && decide (i.natAbs < 2 ^ 64)) fun i j => .int (i ^ j.toNat)
theorem o_sub {c : Ct} : ∀ X, OkX c X → OpR X (binaryOp .Sub) (rI0 fun i j => .int (i - j)) := fun X _ => op_sub
theorem v_sub {K : PySem.W.Frag} : V2Ok K (rI0 fun i j => .int (i - j)) subD := v_i20 fun i j _ => .int _
theorem o_mulI {c : Ct} : ∀ X, OkX c X → OpR X (binaryOp .Mult) (rI CMul fun i j => .int (i * j)) := fun X _ => op_mul
theorem v_mulI {K : PySem.W.Frag} : V2Ok K (rI CMul fun i j => .int (i * j)) mulI := v_i2 (fun i j h => by
  have h : decide (i.natAbs < 2 ^ 64) = true ∨ decide (j.natAbs < 2 ^ 64) = true := by simpa using h
  unfold CMul
  rcases h with h | h
  · have := of_decide_eq_true h
    exact .inl (by omega)
  · have := of_decide_eq_true h
    exact .inr (by omega)) fun i j _ => .int _
theorem o_fdiv {c : Ct} : ∀ X, OkX c X → OpR X (binaryOp .FloorDiv) (rI CDivW fun i j => .int (i / j)) := fun X _ => op_fdivW
theorem v_fdiv {K : PySem.W.Frag} : V2Ok K (rI CDivW fun i j => .int (i / j)) fdivD := v_i2 (fun i j h => by
  rw [Bool.and_eq_true] at h
  have h1 := of_decide_eq_true h.1
  have h2 := of_decide_eq_true h.2
  exact wide_div (b := 64) h1 (by omega) (by decide) (by decide)) fun i j _ => .int _
theorem o_mod {c : Ct} : ∀ X, OkX c X → OpR X (binaryOp .Mod) (rI (fun _ j => 0 < j) fun i j => .int (i % j)) := fun X _ => op_mod
theorem v_mod {K : PySem.W.Frag} : V2Ok K (rI (fun _ j => 0 < j) fun i j => .int (i % j)) modD := v_i2 (fun i j h => of_decide_eq_true h) fun i j _ => .int _
theorem o_pow {c : Ct} : ∀ X, OkX c X → OpR X (binaryOp .Pow) (rI CPow fun i j => .int (i ^ j.toNat)) := fun X _ => op_pow
theorem v_pow {K : PySem.W.Frag} : V2Ok K (rI CPow fun i j => .int (i ^ j.toNat)) powD := v_i2 (fun i j h => by
  rw [Bool.and_eq_true, Bool.and_eq_true] at h
  exact ⟨of_decide_eq_true h.1.1, of_decide_eq_true h.1.2, of_decide_eq_true h.2⟩) fun i j _ => .int _
def negD : D → Option Rt
  | .int i => sD (.int (-i))
  | _ => none
theorem o_neg {c : Ct} : ∀ X, OkX c X → UnR X (unaryOp .USub) (rU fun i => .int (-i)) := fun X _ => un_neg
theorem v_neg {K : PySem.W.Frag} : V1Ok K (rU fun i => .int (-i)) negD := by
  intro Hv H le v x res h e Q q
  cases x <;> try (cases e; done)
  cases e
  rw [h.int]
  exact ⟨_, rfl, q _ _ (.d (.int _))⟩

/-! ### order of numbers, of texts -/
def rLtS (f : Str → Str → Bool) : R2 := fun x y H Q => ∃ i j, x = .str i ∧ y = .str j ∧ Q (.bl (f i j)) H
def cmpD (f : Int → Int → Bool) : D → D → Option Rt := i2 (fun _ _ => true) fun i j => .bool (f i j)
theorem v_cmp {K : PySem.W.Frag} {f : Int → Int → Bool} : V2Ok K (rI0 fun i j => .bl (f i j)) (cmpD f) := v_i20 fun i j _ => .bl _
abbrev ltD := cmpD fun i j => decide (i < j)
abbrev leD := cmpD fun i j => decide (i ≤ j)
abbrev gtD := cmpD fun i j => decide (j < i)
abbrev geD := cmpD fun i j => decide (j ≤ i)
theorem o_lt {c : Ct} : ∀ X, OkX c X → OpR X (compareOp .Lt) (rI0 fun i j => .bl (decide (i < j))) := fun X _ => op_lt
theorem o_le {c : Ct} : ∀ X, OkX c X → OpR X (compareOp .LtE) (rI0 fun i j => .bl (decide (i ≤ j))) := fun X _ => op_le
theorem o_gt {c : Ct} : ∀ X, OkX c X → OpR X (compareOp .Gt) (rI0 fun i j => .bl (decide (j < i))) := fun X _ => op_gt
theorem o_ge {c : Ct} : ∀ X, OkX c X → OpR X (compareOp .GtE) (rI0 fun i j => .bl (decide (j ≤ i))) := fun X _ => op_ge
/-- a < b < c -/
def dChain (f g : D → D → Option Rt) (da db dc : DE) : DE := fun ρ u => match da ρ u with
  | none => none
  | some (r1, u1) => match db ρ u1 with
    | none => none
    | some (r2, u2) => match r1.sl.vw u2, r2.sl.vw u2 with
      | some x, some y => match f x y with
        | some (.s (.d (.bool true))) => match dc ρ u2 with
          | none => none
          | some (r3, u3) => match r2.sl.vw u3, r3.sl.vw u3 with
            | some y2, some z => (g y2 z).map fun r => (r, u3)
            | _, _ => none
        | some (.s (.d (.bool false))) => some (.s (.d (.bool false)), u2)
        | _ => none
      | _, _ => none
theorem LE.chain {K : PySem.W.Frag} {r r' : R2} {f g : D → D → Option Rt} {ta tb tc : TE} {da db dc : DE} (hf : V2Ok K r f) (hg : V2Ok K r' g) (ha : LE K ta da) (hb : LE K tb db) (hc : LE K tc dc) : LE K (tChain r r' ta tb tc) (dChain f g da db dc) := by
  intro A ρ u res u' e σ H S L Q q
  unfold dChain at e
  cases e1 : da ρ u with
  | none => rw [e1] at e; cases e
  | some p1 =>
    obtain ⟨r1, u1⟩ := p1
    rw [e1] at e
    simp only at e
    cases e2 : db ρ u1 with
    | none => rw [e2] at e; cases e
    | some p2 =>
      obtain ⟨r2, u2⟩ := p2
      rw [e2] at e
      simp only at e
      refine ha A ρ u r1 u1 e1 σ H S L _ fun v1 H1 P1 => ?_
      obtain ⟨A1, st1, S1, rv1⟩ := P1.ret
      refine hb A1 ρ u1 r2 u2 e2 σ H1 S1 (st1.slots L) _ fun v2 H2 P2 => ?_
      obtain ⟨A2, st2, S2, rv2⟩ := P2.ret
      cases x1 : r1.sl.vw u2 with
      | none => rw [x1] at e; cases e
      | some x =>
        cases x2 : r2.sl.vw u2 with
        | none => rw [x1, x2] at e; cases e
        | some y =>
          rw [x1, x2] at e
          simp only at e
          have st12 := st1.trans st2
          cases e3 : f x y with
          | none => rw [e3] at e; cases e
          | some z =>
            rw [e3] at e
            refine hf _ _ vis_le _ _ _ _ _ ((st2.rv rv1).vw S2 x1) (rv2.vw S2 x2) e3 _ fun v3 H3 ok => ?_
            have P3 := ok.post S2
            cases z with
            | nw mo => cases e
            | s z =>
              cases z with
              | un => cases e
              | m j => cases e
              | d z =>
                cases z with
                | bool b =>
                  obtain ⟨A3, st3, S3, rv3⟩ := P3
                  cases (show Rp K _ v3 (.bool b) from rv3)
                  refine ⟨b, rfl, ?_⟩
                  have st13 := st12.trans st3
                  cases b with
                  | false =>
                    cases e
                    exact iteF (q _ _ ⟨A3, st13, S3, .bl false⟩)
                  | true =>
                    simp only at e
                    refine iteT ?_
                    cases e4 : dc ρ u2 with
                    | none => rw [e4] at e; cases e
                    | some p4 =>
                      obtain ⟨r4, u4⟩ := p4
                      rw [e4] at e
                      simp only at e
                      refine hc A3 ρ u2 r4 u4 e4 σ H3 S3 (st13.slots L) _ fun v4 H4 P4 => ?_
                      obtain ⟨A4, st4, S4, rv4⟩ := P4.ret
                      cases y1 : r2.sl.vw u4 with
                      | none => rw [y1] at e; cases e
                      | some y2 =>
                        cases y3 : r4.sl.vw u4 with
                        | none => rw [y1, y3] at e; cases e
                        | some w =>
                          rw [y1, y3] at e
                          simp only at e
                          cases e5 : g y2 w with
                          | none => rw [e5] at e; cases e
                          | some t =>
                            rw [e5] at e
                            cases e
                            exact hg _ _ vis_le _ _ _ _ _ ((st4.rv (st3.rv rv2)).vw S4 y1) (rv4.vw S4 y3) e5 Q fun v5 H5 ok => q v5 H5 ((ok.post S4).trans (st13.trans st4))
                | _ => cases e
theorem je_chain {c : Ct} {op op' : CmpOp} {r r' : R2} {f g : D → D → Option Rt} {a b d : Expr} {da db dc : DE} {pos : Pos} (ho : ∀ X, OkX c X → OpR X (compareOp op) r) (hf : V2Ok c.K r f) (ho' : ∀ X, OkX c X → OpR X (compareOp op') r') (hg : V2Ok c.K r' g) (ha : JE c a da) (hb : JE c b db) (hc : JE c d dc)
    (hm : lastMarks [op, op'] [b, d] = false := by rfl) : JE c (.Compare a [op, op'] [b, d] pos) (dChain f g da db dc) := by
  obtain ⟨ta, pa, la⟩ := ha
  obtain ⟨tb, pb, lb⟩ := hb
  obtain ⟨tc, pc, lc⟩ := hc
  exact ⟨_, fun X ok => pe_chain (ho X ok) (ho' X ok) (pa X ok) (pb X ok) (pc X ok) (hm := hm), LE.chain hf hg la lb lc⟩

/-! ### ==, != of data -/
mutual
theorem Rp.dp {K : PySem.W.Frag} {H : Hp} : ∀ {v : V} {d : D}, Rp K H v d → d.canLay0 = true → Dp K H v d
  | _, _, .non, _ => .non
  | _, _, .bl b, _ => .bl b
  | _, _, .int i, _ => .int i
  | _, _, .str x, _ => .str x
  | _, _, .lst h r, e => .lst h (RpA.dp r (by simpa only [PyData.canLay0] using e))
  | _, _, .tup h r, e => .tup h (RpA.dp r (by simpa only [PyData.canLay0] using e))
  | _, _, .dic .., e => by simp [PyData.canLay0] at e
  | _, _, .dit .., e => by simp [PyData.canLay0] at e
theorem RpA.dp {K : PySem.W.Frag} {H : Hp} : ∀ {vs : List V} {ds : List D}, RpA K H vs ds → PyData.canLayAll0 ds = true → DpAll K H vs ds
  | _, _, .nil, _ => .nil
  | _, _, .cons (d := d) (ds := ds) h r, e => by
    have e : d.canLay0 = true ∧ PyData.canLayAll0 ds = true := by simpa only [PyData.canLayAll0, Bool.and_eq_true] using e
    exact .cons (Rp.dp h e.1) (RpA.dp r e.2)
end
theorem Rq.dp {K : PySem.W.Frag} {Hv H : Hp} {v : V} {d : D} (le : Le Hv H) (h : Rq K Hv H v d) (e : d.canLay0 = true) : Dp K H v d := by
  rcases h with h | ⟨a, o, mo, rfl, ho, cc, q⟩
  · exact (h.mono le).dp e
  · cases mo <;> cases q
    · cases o <;> first | exact (show False from cc).elim | skip
      exact .lst (.inl ho) ((RpA.mono le cc).dp (by simpa only [MO.toD, PyData.canLay0] using e))
    · simp [MO.toD, PyData.canLay0] at e
    · simp [MO.toD, PyData.canLay0] at e
def eqD (b : Bool) : D → D → Option Rt := fun x y => if SeqAt.shaped x = true ∧ SeqAt.shaped y = true then sD (.bool (PyData.eqv x y == b)) else none
theorem o_eq {c : Ct} : ∀ X, OkX c X → OpR X (compareOp .Eq) (rEqD c.K) := fun X ok => by rw [← ok.K]; exact op_eqD ok.room.units
theorem o_ne {c : Ct} : ∀ X, OkX c X → OpR X (compareOp .NotEq) (rNeD c.K) := fun X ok => by rw [← ok.K]; exact op_neD ok.room.units
theorem v_eq {K : PySem.W.Frag} : V2Ok K (rEqD K) (eqD true) := by
  intro Hv H le v w x y res h1 h2 e Q q
  unfold eqD at e
  split at e
  · rename_i hs
    cases e
    refine ⟨x, y, h1.dp le (SeqAt.canLay_of_shaped hs.1), h2.dp le (SeqAt.canLay_of_shaped hs.2), hs.1, hs.2, ?_⟩
    have := q (.bl (PyData.eqv x y == true)) H (.d (.bl _))
    rwa [show (PyData.eqv x y == true) = PyData.eqv x y by cases PyData.eqv x y <;> rfl] at this
  · cases e
theorem v_ne {K : PySem.W.Frag} : V2Ok K (rNeD K) (eqD false) := by
  intro Hv H le v w x y res h1 h2 e Q q
  unfold eqD at e
  split at e
  · rename_i hs
    cases e
    refine ⟨x, y, h1.dp le (SeqAt.canLay_of_shaped hs.1), h2.dp le (SeqAt.canLay_of_shaped hs.2), hs.1, hs.2, ?_⟩
    have := q (.bl (PyData.eqv x y == false)) H (.d (.bl _))
    rwa [show (PyData.eqv x y == false) = !PyData.eqv x y by cases PyData.eqv x y <;> rfl] at this
  · cases e
/-! ### is None -/
def isND (b : Bool) : D → D → Option Rt
  | .none, .none => sD (.bool b)
  | _, .none => sD (.bool (!b))
  | _, _ => none
def nonD : D → Bool
  | .none => true
  | _ => false
theorem isN_v {K : PySem.W.Frag} {Hv H : Hp} {v : V} {x : D} (h : Rq K Hv H v x) : decide (v = .non) = nonD x := by
  cases x with
  | none => rw [h.none]; rfl
  | bool b => rw [h.bool]; rfl
  | int b => rw [h.int]; rfl
  | str b => rw [h.str]; rfl
  | list b => rcases h with h | ⟨a, o, mo, rfl, _⟩ <;> first | rfl | (cases h; rfl)
  | tuple b => rcases h with h | ⟨a, o, mo, rfl, _⟩ <;> first | rfl | (cases h; rfl)
  | dict b => rcases h with h | ⟨a, o, mo, rfl, _⟩ <;> first | rfl | (cases h <;> rfl)
def rIsN (n : Bool) : R2 := fun x y H Q => y = .non ∧ Q (.bl (if n then !decide (x = .non) else decide (x = .non))) H
theorem o_is {c : Ct} : ∀ X, OkX c X → OpR X (compareOp .Is) (rIsN false) := fun X _ => op_isN
theorem o_isnot {c : Ct} : ∀ X, OkX c X → OpR X (compareOp .IsNot) (rIsN true) := fun X _ => op_notN
theorem v_isN {K : PySem.W.Frag} {n : Bool} : V2Ok K (rIsN n) (isND (!n)) := by
  intro Hv H le v w x y res h1 h2 e Q q
  cases y <;> try (cases x <;> cases e; done)
  rw [h2.none]
  refine ⟨rfl, ?_⟩
  rw [isN_v h1]
  cases x <;> cases e <;> cases n <;> exact q _ _ (.d (.bl _))

/-! ### subscripts -/
def rDG : R2 := fun x y H Q => ∃ a v, x = .ref a ∧ DGet H a y (some v) ∧ Q v H
theorem ix_dict {X : Cx} (hu : X.A.units + 1 < cLine) : IxR X rDG := by
  intro value slice pins s σ H x y v u Q I rx ry h hs
  obtain ⟨a, z, rfl, g, q⟩ := h
  cases rx
  exact PyProof.Rows.tail_any (dict_typeIs I g) PySem.F.slot_dict_getitem.lookup (d_getItem hu I g ry fun w' s' I' rw' => ⟨z, H, I', rw', q⟩) hs
def rIxU (K : PySem.W.Frag) : R2 := fun x y H Q => (rIxL K x y H Q ∨ rIxT K x y H Q ∨ rIxS x y H Q) ∨ rDG x y H Q
theorem o_ix {c : Ct} : ∀ X, OkX c X → IxR X (rIxU c.K) := fun X ok => by
  rw [← ok.K]
  exact (ix_list.or (ix_tup.or ix_str)).or (ix_dict (by have := ok.room.units; omega))
/-- a key by its data -/
def keyOf : D → Option Key
  | .int i => some (.inl i)
  | .str x => some (.inr x)
  | _ => none
theorem keyOf_kD (k : Key) : keyOf (kD k) = some k := by cases k <;> rfl
def lookK (kvs : List (D × D)) (k : Key) : Option D := (kvs.find? fun p => decide (keyOf p.1 = some k)).map (·.2)
theorem Rp.key {K : PySem.W.Frag} {H : Hp} {v : V} {x : D} {k : Key} (h : Rp K H v x) (e : keyOf x = some k) : v = kV k := by
  cases x <;> cases e <;> cases h <;> rfl
theorem Rq.key {K : PySem.W.Frag} {Hv H : Hp} {v : V} {x : D} {k : Key} (h : Rq K Hv H v x) (e : keyOf x = some k) : v = kV k := by
  rcases h with h | ⟨a, o, mo, rfl, _, _, q⟩
  · exact h.key e
  · cases mo <;> cases q <;> cases e
/-- a lookup in a dict of int and text keys -/
theorem look_val {K : PySem.W.Frag} {Hv : Hp} : ∀ {ws : List (Key × V)} {kvs : List (D × D)} (k : Key), (ws.map fun p => kD p.1) = kvs.map (·.1) → RpA K Hv (ws.map (·.2)) (kvs.map (·.2)) →
    (∀ y, lookK kvs k = some y → ∃ v, valV ws k = some v ∧ Rp K Hv v y) ∧ (lookK kvs k = none → valV ws k = none)
  | [], [], k, _, _ => ⟨fun y e => by simp [lookK] at e, fun _ => rfl⟩
  | [], _ :: _, _, e, _ => by simp at e
  | _ :: _, [], _, e, _ => by simp at e
  | p :: ws, q :: kvs, k, e, r => by
    rw [List.map_cons, List.map_cons] at e
    have e1 := (List.cons.inj e).1
    have e2 := (List.cons.inj e).2
    rw [List.map_cons, List.map_cons] at r
    cases r with
    | cons h r =>
      have ih := look_val k e2 r
      have kq : keyOf q.1 = some p.1 := by rw [← e1, keyOf_kD]
      by_cases n : p.1 = k
      · have l1 : lookK (q :: kvs) k = some q.2 := by
          unfold lookK
          rw [List.find?_cons, kq, n]
          simp
        rw [l1, valV_pos n]
        exact ⟨fun y z => by cases z; exact ⟨_, rfl, h⟩, fun z => by cases z⟩
      · have l1 : lookK (q :: kvs) k = lookK kvs k := by
          unfold lookK
          rw [List.find?_cons, kq, decide_eq_false (fun z => n (Option.some.inj z))]
        rw [l1, valV_neg n]
        exact ih
def atD (xs : List D) (i : Int) : Option D := atI xs i
theorem at_rp {K : PySem.W.Frag} {Hv : Hp} {vs : List V} {xs : List D} {i : Int} {x : D} (r : RpA K Hv vs xs) (e : atD xs i = some x) : ∃ v, atI vs i = some v ∧ Rp K Hv v x := by
  unfold atD atI at e
  unfold atI
  rw [r.length]
  cases q : ixN xs.length i with
  | none => rw [q] at e; cases e
  | some j =>
    rw [q] at e
    exact r.get j e
def ixD : D → D → Option Rt
  | .list xs, .int i => (atD xs i).map fun x => .s (.d x)
  | .tuple xs, .int i => (atD xs i).map fun x => .s (.d x)
  | .str z, .int i => if z.length ≤ SZ then (atI z.cps.toList i).map fun c => .s (.d (.str ⟨#[c]⟩)) else none
  | .dict kvs, k => match keyOf k with
    | some k => (lookK kvs k).map fun x => .s (.d x)
    | none => none
  | _, _ => none
theorem v_ix {K : PySem.W.Frag} : V2Ok K (rIxU K) ixD := by
  intro Hv H le v w x y res h1 h2 e Q q
  cases x with
  | list xs =>
    cases y <;> try (cases e; done)
    rename_i i
    simp only [ixD] at e
    cases q1 : atD xs i with
    | none => rw [q1] at e; cases e
    | some z =>
      rw [q1] at e; cases e
      obtain ⟨a, vs, rfl, s, r⟩ := h1.list le
      rw [h2.int]
      obtain ⟨u, e1, e2⟩ := at_rp r q1
      exact .inl (.inl ⟨a, vs, i, u, rfl, rfl, s, e1, q _ _ (.d e2)⟩)
  | tuple xs =>
    cases y <;> try (cases e; done)
    rename_i i
    simp only [ixD] at e
    cases q1 : atD xs i with
    | none => rw [q1] at e; cases e
    | some z =>
      rw [q1] at e; cases e
      obtain ⟨a, vs, rfl, s, r⟩ := h1.tuple le
      rw [h2.int]
      obtain ⟨u, e1, e2⟩ := at_rp r q1
      exact .inl (.inr (.inl ⟨a, vs, i, u, rfl, rfl, s, e1, q _ _ (.d e2)⟩))
  | str z =>
    cases y <;> try (cases e; done)
    rename_i i
    simp only [ixD] at e
    split at e
    · rename_i hl
      cases q1 : atI z.cps.toList i with
      | none => rw [q1] at e; cases e
      | some c =>
        rw [q1] at e; cases e
        rw [h1.str, h2.int]
        exact .inl (.inr (.inr ⟨z, i, c, rfl, rfl, by rw [sizeLine_eq]; exact hl, q1, q _ _ (.d (.str _))⟩))
    · cases e
  | dict kvs =>
    have e : (match keyOf y with | some k => (lookK kvs k).map fun x => Rt.s (.d x) | none => none) = some res := by
      cases y <;> exact e
    cases q0 : keyOf y with
    | none => rw [q0] at e; cases e
    | some k =>
      rw [q0] at e
      simp only at e
      cases q1 : lookK kvs k with
      | none => rw [q1] at e; cases e
      | some z =>
        rw [q1] at e; cases e
        obtain ⟨a, rfl, hd⟩ := h1.dict le
        rw [h2.key q0]
        rcases hd with ⟨ws, rd, ek, r⟩ | ⟨ws, rd, ek, r⟩
        · obtain ⟨u, e1, e2⟩ := (look_val k ek r).1 z q1
          exact .inr ⟨a, u, rfl, .inl ⟨ws, k, rd, rfl, e1.symm⟩, q _ _ (.d e2)⟩
        · have no : lookK kvs k = none := by
            unfold lookK
            rw [List.find?_eq_none.mpr (fun p hp => ?_)]
            · rfl
            · have hm : p.1 ∈ kvs.map (·.1) := List.mem_map_of_mem hp
              rw [← ek] at hm
              obtain ⟨t, _, ht⟩ := List.mem_map.mp hm
              rw [← ht]
              simp [ksD, keyOf]
          rw [no] at q1; cases q1
  | none => cases y <;> cases e
  | bool b => cases y <;> cases e
  | int b => cases y <;> cases e
end DL
end

section
set_option Elab.async false
set_option maxRecDepth 100000
set_option maxHeartbeats 4000000
namespace DL
open PySem L2

theorem units65 {c : Ct} {X : Cx} (ok : OkX c X) : X.A.units + 65 < cLine := by have := ok.room.un; omega
/-! ### in, not in -/
def rInU (K : PySem.W.Frag) (neg : Bool) : R2 := fun x y H Q =>
  (∃ d ds, Dp K H x d ∧ Dp K H y (.list ds) ∧ SeqAt.shaped d = true ∧ SeqAt.shaped (.list ds) = true ∧ Q (.bl ((ds.any fun z => PyData.eqv z d) != neg)) H) ∨
  rIn K neg x y H Q ∨ (∃ (c : Nat) (z : Str), x = .str ⟨#[c]⟩ ∧ y = .str z ∧ Q (.bl (decide (c ∈ z.cps.toList) != neg)) H) ∨ (∃ a o, y = .ref a ∧ DGet H a x o ∧ Q (.bl (o.isSome != neg)) H) ∨ (∃ a k, y = .ref a ∧ x = kV k ∧ Rd H a (.dT []) ∧ Q (.bl (false != neg)) H)
theorem none_in {P : Program} {w : World} {H : Hp} {h : Heap} {a : Addr} (ok : HOk P w H h) (e : Rd H a (.dT [])) : (a == sysModules) = false ∧ h.DictOf (mixKind P w) a [] := by
  obtain ⟨_, y, xs, r, o, es, ep, h1, h2, h3, h4, _⟩ := dt_rd ok e
  cases r
  have he : es = #[] := Array.toList_inj.mp (by rw [h4]; rfl)
  subst he
  exact ⟨y, o, _, ep, h1, h2, h3, fun i hi => by simp at hi, .nil, List.nodup_nil⟩
theorem op_inE {X : Cx} : OpR X (compareOp .In) (fun x y H Q => ∃ a k, y = .ref a ∧ x = kV k ∧ Rd H a (.dT []) ∧ Q (.bl (false != false)) H) := by
  intro pins s σ H x y v u Q I rx ry h
  obtain ⟨a, k, rfl, rfl, rd, q⟩ := h
  cases ry
  obtain ⟨hd, dd⟩ := none_in I.hok rd
  exact wpAny_in_of (kV_is rx) hd dd.mapOf ⟨.bl _, H, I.tok _, rfl, q⟩
theorem op_ninE {X : Cx} : OpR X (compareOp .NotIn) (fun x y H Q => ∃ a k, y = .ref a ∧ x = kV k ∧ Rd H a (.dT []) ∧ Q (.bl (false != true)) H) := by
  intro pins s σ H x y v u Q I rx ry h
  obtain ⟨a, k, rfl, rfl, rd, q⟩ := h
  cases ry
  obtain ⟨hd, dd⟩ := none_in I.hok rd
  exact wpAny_notIn_of (kV_is rx) hd dd.mapOf ⟨.bl _, H, I.tok _, rfl, q⟩
theorem xor_f (b : Bool) : (b != false) = b := by cases b <;> rfl
theorem xor_t (b : Bool) : (b != true) = !b := by cases b <;> rfl
theorem op_inDict {X : Cx} (hu : X.A.units + 1 < cLine) : OpR X (compareOp .In) (fun x y H Q => ∃ a o, y = .ref a ∧ DGet H a x o ∧ Q (.bl (o.isSome != false)) H) := by
  intro pins s σ H x y v u Q I rx ry h
  obtain ⟨a, o, rfl, g, q⟩ := h
  cases ry
  exact d_in hu I g rx fun s' I' => ⟨.bl _, H, I', rfl, by rw [xor_f] at q; exact q⟩
theorem op_ninDict {X : Cx} (hu : X.A.units + 1 < cLine) : OpR X (compareOp .NotIn) (fun x y H Q => ∃ a o, y = .ref a ∧ DGet H a x o ∧ Q (.bl (o.isSome != true)) H) := by
  intro pins s σ H x y v u Q I rx ry h
  obtain ⟨a, o, rfl, g, q⟩ := h
  cases ry
  exact d_notIn hu I g rx fun s' I' => ⟨.bl _, H, I', rfl, by rw [xor_t] at q; exact q⟩
theorem OpR.of {X : Cx} {f : Value → Value → Sem Value} {r r' : R2} (h : OpR X f r) (e : ∀ x y H Q, r' x y H Q → r x y H Q) : OpR X f r' := fun pins s σ H x y v u Q I rx ry q => h pins s σ H x y v u Q I rx ry (e _ _ _ _ q)
theorem o_in {c : Ct} : ∀ X, OkX c X → OpR X (compareOp .In) (rInU c.K false) := fun X ok => by
  rw [← ok.K]
  refine OpR.or (OpR.of (op_inD (units65 ok)) fun x y H Q ⟨d, ds, h1, h2, h3, h4, q⟩ => ⟨d, ds, h1, h2, h3, h4, by rw [xor_f] at q; exact q⟩) (op_in_seq.or (OpR.or (OpR.of op_in_sign fun x y H Q ⟨c, z, h1, h2, q⟩ => ⟨c, z, h1, h2, by rw [xor_f] at q; exact q⟩) ((op_inDict (by have := units65 ok; omega)).or op_inE)))
theorem o_nin {c : Ct} : ∀ X, OkX c X → OpR X (compareOp .NotIn) (rInU c.K true) := fun X ok => by
  rw [← ok.K]
  refine OpR.or (OpR.of (op_notInD (units65 ok)) fun x y H Q ⟨d, ds, h1, h2, h3, h4, q⟩ => ⟨d, ds, h1, h2, h3, h4, by rw [xor_t] at q; exact q⟩) (op_notIn_seq.or (OpR.or (OpR.of op_notIn_sign fun x y H Q ⟨c, z, h1, h2, q⟩ => ⟨c, z, h1, h2, by rw [xor_t] at q; exact q⟩) ((op_ninDict (by have := units65 ok; omega)).or op_ninE)))
def flatD : D → Bool
  | .none => true
  | .bool _ => true
  | .int _ => true
  | .str _ => true
  | _ => false
theorem Rp.flat {K : PySem.W.Frag} {H : Hp} {v : V} {x : D} (h : Rp K H v x) (f : flatD x = true) : flatV v = true := by
  cases h <;> first | rfl | (cases f; done)
theorem Rq.flat {K : PySem.W.Frag} {Hv H : Hp} {v : V} {x : D} (h : Rq K Hv H v x) (f : flatD x = true) : Rp K Hv v x := by
  rcases h with h | ⟨a, o, mo, rfl, _, _, q⟩
  · exact h
  · cases mo <;> cases q <;> cases f
theorem eqV_eqv {K : PySem.W.Frag} {H : Hp} {v w : V} {x y : D} (h : Rp K H v x) (g : Rp K H w y) (f : flatD x = true) (f2 : flatD y = true) : eqV v w = PyData.eqv x y := by
  cases h <;> first | (cases f; done) | (cases g <;> first | (cases f2; done) | (simp only [eqV, PyData.eqv]))
theorem inV_any {K : PySem.W.Frag} {H : Hp} {v : V} {x : D} (h : Rp K H v x) (f : flatD x = true) : ∀ {vs : List V} {xs : List D}, RpA K H vs xs → xs.all flatD = true → vs.all flatV = true ∧ inV v vs = xs.any fun z => PyData.eqv z x
  | _, _, .nil, _ => ⟨rfl, rfl⟩
  | _, _, .cons g r, e => by
    rw [List.all_cons, Bool.and_eq_true] at e
    obtain ⟨i1, i2⟩ := inV_any h f r e.2
    refine ⟨by rw [List.all_cons, g.flat e.1, i1]; rfl, ?_⟩
    unfold inV at i2 ⊢
    rw [List.any_cons, List.any_cons, i2, eqV_eqv g h e.1 f]
def inD (neg : Bool) : D → D → Option Rt
  | x, .list ds => if SeqAt.shaped x = true ∧ SeqAt.shaped (.list ds) = true then sD (.bool ((ds.any fun z => PyData.eqv z x) != neg)) else none
  | x, .tuple ds => if flatD x = true ∧ ds.all flatD = true then sD (.bool ((ds.any fun z => PyData.eqv z x) != neg)) else none
  | .str x, .str z => match x.cps.toList with
    | [c] => sD (.bool (decide (c ∈ z.cps.toList) != neg))
    | _ => none
  | x, .dict kvs => match keyOf x with
    | some k => if kvs.all (fun p => (keyOf p.1).isSome) then sD (.bool ((lookK kvs k).isSome != neg)) else none
    | none => none
  | _, _ => none
theorem v_in {K : PySem.W.Frag} {neg : Bool} : V2Ok K (rInU K neg) (inD neg) := by
  intro Hv H le v w x y res h1 h2 e Q q
  cases y with
  | list ds =>
    have e : (if SeqAt.shaped x = true ∧ SeqAt.shaped (.list ds) = true then sD (.bool ((ds.any fun z => PyData.eqv z x) != neg)) else none) = some res := by cases x <;> exact e
    split at e
    · rename_i hs
      cases e
      exact .inl ⟨x, ds, h1.dp le (SeqAt.canLay_of_shaped hs.1), h2.dp le (SeqAt.canLay_of_shaped hs.2), hs.1, hs.2, q _ _ (.d (.bl _))⟩
    · cases e
  | tuple ds =>
    have e : (if flatD x = true ∧ ds.all flatD = true then sD (.bool ((ds.any fun z => PyData.eqv z x) != neg)) else none) = some res := by cases x <;> exact e
    split at e
    · rename_i hs
      cases e
      obtain ⟨a, vs, rfl, s, r⟩ := h2.tuple le
      have p := h1.flat hs.1
      obtain ⟨i1, i2⟩ := inV_any p hs.1 r hs.2
      refine .inr (.inl ⟨a, vs, rfl, .inr s, p.flat hs.1, i1, ?_⟩)
      have := q (.bl ((ds.any fun z => PyData.eqv z x) != neg)) H (.d (.bl _))
      rw [i2]
      cases neg
      · rw [xor_f] at this; exact this
      · rw [xor_t] at this; exact this
    · cases e
  | str z =>
    cases x <;> try (cases e; done)
    rename_i x
    simp only [inD] at e
    split at e
    · rename_i c hc
      cases e
      rw [h1.str, h2.str]
      have ex : x = ⟨#[c]⟩ := by
        cases x with
        | mk a =>
          congr 1
          exact Array.toList_inj.mp (by simpa using hc)
      exact .inr (.inr (.inl ⟨c, z, by rw [ex], rfl, q _ _ (.d (.bl _))⟩))
    · cases e
  | dict kvs =>
    have e : (match keyOf x with | some k => if kvs.all (fun p => (keyOf p.1).isSome) then sD (.bool ((lookK kvs k).isSome != neg)) else none | none => none) = some res := by cases x <;> exact e
    cases q0 : keyOf x with
    | none => rw [q0] at e; cases e
    | some k =>
      rw [q0] at e
      simp only at e
      split at e
      · rename_i hall
        cases e
        obtain ⟨a, rfl, hd⟩ := h2.dict le
        rw [h1.key q0]
        rcases hd with ⟨ws, rd, ek, r⟩ | ⟨ws, rd, ek, r⟩
        · have lv := look_val k ek r
          have eo : (valV ws k).isSome = (lookK kvs k).isSome := by
            cases z : lookK kvs k with
            | none => rw [lv.2 z]; rfl
            | some y =>
              obtain ⟨u, e1, _⟩ := lv.1 y z
              rw [e1]; rfl
          exact .inr (.inr (.inr (.inl ⟨a, _, rfl, .inl ⟨ws, k, rd, rfl, rfl⟩, by rw [eo]; exact q _ _ (.d (.bl _))⟩)))
        · cases kvs with
          | nil =>
            cases ws with
            | nil => exact .inr (.inr (.inr (.inr ⟨a, k, rfl, rfl, rd, q _ _ (.d (.bl _))⟩)))
            | cons _ _ => simp at ek
          | cons p r =>
            exfalso
            cases ws with
            | nil => simp at ek
            | cons t ws =>
              rw [List.map_cons, List.map_cons] at ek
              have e1 := (List.cons.inj ek).1
              rw [List.all_cons, Bool.and_eq_true] at hall
              rw [← e1] at hall
              simp [ksD, keyOf] at hall
      · cases e
  | none => cases x <;> cases e
  | bool b => cases x <;> cases e
  | int b => cases x <;> cases e
end DL
end

section
set_option Elab.async false
set_option maxRecDepth 100000
set_option maxHeartbeats 4000000
namespace DL
open PySem L2

/-! ### functions of one, of two values -/
theorem Rqs.one {K : PySem.W.Frag} {Hv H : Hp} {vs : List V} {x : D} (h : Rqs K Hv H vs [x]) : ∃ v, vs = [v] ∧ Rq K Hv H v x := by
  match vs, h with
  | [v], h => exact ⟨v, rfl, h.1⟩
  | [], h => exact h.elim
  | _ :: _ :: _, h => exact h.2.elim
theorem Rqs.two {K : PySem.W.Frag} {Hv H : Hp} {vs : List V} {x y : D} (h : Rqs K Hv H vs [x, y]) : ∃ v w, vs = [v, w] ∧ Rq K Hv H v x ∧ Rq K Hv H w y := by
  match vs, h with
  | [v, w], h => exact ⟨v, w, rfl, h.1, h.2.1⟩
  | [], h => exact h.elim
  | [_], h => exact h.2.elim
  | _ :: _ :: _ :: _, h => exact h.2.2.elim
def on1 (f : D → Option Rt) : List D → Option Rt
  | [x] => f x
  | _ => none
def on2 (f : D → D → Option Rt) : List D → Option Rt
  | [x, y] => f x y
  | _ => none
theorem vn1 {K : PySem.W.Frag} {r : List V → Hp → VK → Prop} {f : D → Option Rt} (h : ∀ Hv H, Le Hv H → (∀ a ts, H a = some (.tup ts) → Hv a = some (.tup ts)) → ∀ v x res, Rq K Hv H v x → f x = some res → ∀ Q : VK, (∀ z H', ResOk K Hv H res z H' → Q z H') → r [v] H Q) : VnOk K r (on1 f) := by
  intro Hv H le hv vs xs res hx e Q q
  match xs, e with
  | [x], e =>
    obtain ⟨v, rfl, h1⟩ := hx.one
    exact h Hv H le hv v x res h1 e Q q
theorem vn2 {K : PySem.W.Frag} {r : List V → Hp → VK → Prop} {f : D → D → Option Rt} (h : ∀ Hv H, Le Hv H → ∀ v w x y res, Rq K Hv H v x → Rq K Hv H w y → f x y = some res → ∀ Q : VK, (∀ z H', ResOk K Hv H res z H' → Q z H') → r [v, w] H Q) : VnOk K r (on2 f) := by
  intro Hv H le hv vs xs res hx e Q q
  match xs, e with
  | [x, y], e =>
    obtain ⟨v, w, rfl, h1, h2⟩ := hx.two
    exact h Hv H le v w x y res h1 h2 e Q q

/-! ### len -/
theorem call_lenK {X : Cx} : CallR X (.builtin "len") (fun xs H Q => ∃ (a : Addr) (kvs : List (Key × V)), xs = [V.ref a] ∧ Rd H a (.dK kvs) ∧ Q (.int kvs.length) H) := by
  intro pins s σ H xs us Q I r h
  obtain ⟨a, kvs, rfl, e, q⟩ := h
  obtain ⟨u, rfl, rx⟩ := vals1 r
  obtain rfl : u = .ref a := rx
  exact d_len I e fun t s' I' => ⟨.int kvs.length, H, I', ⟨t, rfl⟩, q⟩
theorem call_lenT {X : Cx} : CallR X (.builtin "len") (fun xs H Q => ∃ (a : Addr) (kvs : List (List Key × V)), xs = [V.ref a] ∧ Rd H a (.dT kvs) ∧ Q (.int kvs.length) H) := by
  intro pins s σ H xs us Q I r h
  obtain ⟨a, kvs, rfl, e, q⟩ := h
  obtain ⟨u, rfl, rx⟩ := vals1 r
  obtain rfl : u = .ref a := rx
  obtain ⟨z, hd, ys, rel, dd⟩ := dt_rd I.hok e
  have hl : kvs.length = ys.length := Paired.length rel
  refine call_len_dictH hd dd (by rw [← hl]; rw [sizeLine_eq] at z; omega) ?_
  rw [← hl]
  exact ⟨.int ((kvs.length : Nat) : Int), H, I.tok _, ⟨_, rfl⟩, q⟩
def rLenU (K : PySem.W.Frag) : List V → Hp → VK → Prop := fun xs H Q => (∃ x n, xs = [x] ∧ LenV K x H n ∧ Q (.int n) H) ∨ (∃ (a : Addr) (kvs : List (Key × V)), xs = [V.ref a] ∧ Rd H a (.dK kvs) ∧ Q (.int kvs.length) H) ∨ (∃ (a : Addr) (kvs : List (List Key × V)), xs = [V.ref a] ∧ Rd H a (.dT kvs) ∧ Q (.int kvs.length) H)
theorem c_len {c : Ct} : ∀ X, OkX c X → CallR X (.builtin "len") (rLenU c.K) := fun X ok => by
  rw [← ok.K]
  exact call_len.or (call_lenK.or call_lenT)
def lenD : D → Option Rt
  | .str x => if x.length ≤ SZ then sD (.int x.length) else none
  | .list xs => sD (.int xs.length)
  | .tuple xs => sD (.int xs.length)
  | .dict kvs => sD (.int kvs.length)
  | _ => none
theorem v_len {K : PySem.W.Frag} : VnOk K (rLenU K) (on1 lenD) := vn1 fun Hv H le hv v x res h e Q q => by
  cases x with
  | str z =>
    simp only [lenD] at e
    split at e
    · rename_i hl
      cases e
      rw [h.str]
      exact .inl ⟨_, _, rfl, ⟨by rw [sizeLine_eq]; exact hl, rfl⟩, q _ _ (.d (.int _))⟩
    · cases e
  | list ds =>
    cases e
    obtain ⟨a, xs, rfl, s, r⟩ := h.list le
    exact .inl ⟨_, _, rfl, .inl ⟨xs, s, rfl⟩, q _ _ (.d (by rw [r.length]; exact .int _))⟩
  | tuple ds =>
    cases e
    obtain ⟨a, xs, rfl, s, r⟩ := h.tuple le
    exact .inl ⟨_, _, rfl, .inr ⟨xs, s, rfl⟩, q _ _ (.d (by rw [r.length]; exact .int _))⟩
  | dict kvs =>
    cases e
    obtain ⟨a, rfl, hd⟩ := h.dict le
    rcases hd with ⟨ws, rd, ek, r⟩ | ⟨ws, rd, ek, r⟩
    · have hl : ws.length = kvs.length := by have := congrArg List.length ek; simpa using this
      exact .inr (.inl ⟨a, ws, rfl, rd, q _ _ (.d (by rw [hl]; exact .int _))⟩)
    · have hl : ws.length = kvs.length := by have := congrArg List.length ek; simpa using this
      exact .inr (.inr ⟨a, ws, rfl, rd, q _ _ (.d (by rw [hl]; exact .int _))⟩)
  | none => cases e
  | bool b => cases e
  | int b => cases e

/-! ### isinstance -/
inductive Tn where
  | int | bool | str | list | tuple | dict
def Tn.nm : Tn → String
  | .int => "int"
  | .bool => "bool"
  | .str => "str"
  | .list => "list"
  | .tuple => "tuple"
  | .dict => "dict"
def Tn.has : Tn → D → Bool
  | .int, .int _ => true
  | .int, .bool _ => true
  | .bool, .bool _ => true
  | .str, .str _ => true
  | .list, .list _ => true
  | .tuple, .tuple _ => true
  | .dict, .dict _ => true
  | _, _ => false
def tyN : D → String
  | .none => "NoneType"
  | .bool _ => "bool"
  | .int _ => "int"
  | .str _ => "str"
  | .list _ => "list"
  | .tuple _ => "tuple"
  | .dict _ => "dict"
theorem Tn.kit (t : Tn) (x : D) : kitB (tyN x) t.nm = some (t.has x) := by
  cases t <;> cases x <;> (show kitB _ _ = some _; simp only [tyN, Tn.nm, Tn.has]; decide +kernel)
def noDict : D → Bool
  | .dict _ => false
  | _ => true
theorem Rq.ty {K : PySem.W.Frag} {Hv H : Hp} {v : V} {x : D} (le : Le Hv H) (h : Rq K Hv H v x) (nd : noDict x = true) : TyX K H v (.type (tyN x)) := by
  cases x with
  | none => rw [h.none]; exact .base .non
  | bool b => rw [h.bool]; exact .base (.bl b)
  | int b => rw [h.int]; exact .base (.int b)
  | str b => rw [h.str]; exact .base (.str b)
  | list ds =>
    obtain ⟨a, xs, rfl, s, r⟩ := h.list le
    rcases s with (s | ⟨o, s⟩) | ⟨o, its, n, s, c, _⟩
    · exact .base (.lst s)
    · exact .base (.frz s)
    · exact .kList s c
  | tuple ds =>
    obtain ⟨a, xs, rfl, s, r⟩ := h.tuple le
    rcases s with (s | ⟨o, s⟩) | ⟨o, its, n, s, c, _⟩
    · exact .base (.tup s)
    · exact .fTuple s
    · exact .kTuple s c
  | dict kvs => cases nd
def isiD (ts : List Tn) (x : D) : Option Rt := if noDict x then sD (.bool (ts.any fun t => t.has x)) else none
theorem LE.isi {K : PySem.W.Frag} {t : Tn} {te : TE} {de : DE} (h : LE K te de) : LE K (tCB (rIsi K) (tCons te (tCons (tC (.ty t.nm)) tNil))) (dUn (isiD [t]) de) := by
  intro A ρ u res u' e σ H S L Q q
  unfold dUn at e
  cases e1 : de ρ u with
  | none => rw [e1] at e; cases e
  | some p1 =>
    obtain ⟨r1, u1⟩ := p1
    rw [e1] at e
    simp only at e
    refine h A ρ u r1 u1 e1 σ H S L _ fun v1 H1 P1 => ?_
    obtain ⟨A1, st1, S1, rv1⟩ := P1.ret
    cases x1 : r1.sl.vw u1 with
    | none => rw [x1] at e; cases e
    | some x =>
      rw [x1] at e
      simp only [isiD] at e
      split at e
      · rename_i nd
        cases e
        refine ⟨v1, .ty t.nm, .type (tyN x), .type t.nm, t.has x, rfl, .ty _, (rv1.vw S1 x1).ty vis_le nd, kit_ty (Tn.kit t x), ?_⟩
        refine q _ _ ⟨A1, st1, S1, ?_⟩
        rw [List.any_cons, List.any_nil, Bool.or_false]
        exact .bl _
      · cases e
theorem LE.isi2 {K : PySem.W.Frag} {t t2 : Tn} {te : TE} {de : DE} (h : LE K te de) : LE K (tCB (rIsiT K) (tCons te (tCons (fun σ H Q => (tCons (tC (.ty t.nm)) (tCons (tC (.ty t2.nm)) tNil)) σ H fun xs H1 => xs.length ≤ sizeLine ∧ ∀ p, H1 p = none → Q (.ref p) (upd H1 p (.tup xs))) tNil))) (dUn (isiD [t, t2]) de) := by
  intro A ρ u res u' e σ H S L Q q
  unfold dUn at e
  cases e1 : de ρ u with
  | none => rw [e1] at e; cases e
  | some p1 =>
    obtain ⟨r1, u1⟩ := p1
    rw [e1] at e
    simp only at e
    refine h A ρ u r1 u1 e1 σ H S L _ fun v1 H1 P1 => ?_
    obtain ⟨A1, st1, S1, rv1⟩ := P1.ret
    cases x1 : r1.sl.vw u1 with
    | none => rw [x1] at e; cases e
    | some x =>
      rw [x1] at e
      simp only [isiD] at e
      split at e
      · rename_i nd
        cases e
        refine ⟨show 2 ≤ sizeLine by rw [sizeLine_eq]; decide, fun p hp => ?_⟩
        obtain ⟨S2, st2⟩ := S1.new (o := .tup [.ty t.nm, .ty t2.nm]) hp
        refine ⟨v1, p, [.ty t.nm, .ty t2.nm], .type (tyN x), [.type t.nm, .type t2.nm], t.has x || t2.has x, rfl, upd_same, .cons (.ty _) (.cons (.ty _) .nil), ((st2.rv rv1).vw S2 x1).ty vis_le nd, ?_, ?_⟩
        · refine kitAny_cons (kit_ty (Tn.kit t x)) (fun z => kitAny_cons (kit_ty (Tn.kit t2 x)) (fun z2 => ?_) fun z2 => ?_) fun z => ?_
          · rw [z, z2]; exact kitAny_nil
          · rw [z2, Bool.or_true]
          · rw [z]; rfl
        · refine q _ _ ⟨A1, st1.trans st2, S2, ?_⟩
          rw [List.any_cons, List.any_cons, List.any_nil, Bool.or_false]
          exact .bl _
      · cases e
section
variable {c : Ct} {e : Expr} {de : DE} {pos p p2 p3 p4 : Pos} {x y : Str}
theorem je_isi (t : Tn) (he : JE c e de) (hv : bootBuiltins x = some (.type t.nm)) (hm : c.mg "isinstance" = none) (hm2 : c.mg x = none) (hg : c.sc.names.lookup ("isinstance" : Str) = some .globalImplicit := by rfl) (hg2 : c.sc.names.lookup x = some .globalImplicit := by rfl) (hdb : (x == ("__debug__" : Str)) = false := by decide) (hn : x ≠ "__name__" := by decide)
    (hes : ∀ env, starEach (e :: [.Name x p2]) env = (false, eval e env) :: starEach [.Name x p2] env := by intro _; rfl) (hpl : ∀ env, (backTo pos (starEach [.Name x p2] env)).any (·.1) = false := by intro _; rfl) : JE c (.Call (.Name "isinstance" p) [e, .Name x p2] [] pos) (dUn (isiD [t]) de) := by
  obtain ⟨te, pe, le⟩ := he
  refine ⟨_, fun X ok => ?_, LE.isi (t := t) le⟩
  have gl : ∀ {z : Str}, c.sc.names.lookup z = some .globalImplicit → Gl X z := fun h => by show X.env.scope.names.lookup _ = _; rw [ok.sc]; exact h
  rw [← ok.K]
  exact pe_callB call_isi (gl hg) (by rw [ok.mg]; exact hm) rfl (pa_cons (pe X ok) (pa_cons (pe_bltn (v := .ty t.nm) (u := .type t.nm) (gl hg2) (by rw [ok.mg]; exact hm2) hv rfl hn hdb) pa_nil) (hes _)) (by decide) (by decide) (hes _) (hpl _)
theorem je_isi2 (t t2 : Tn) {k : Nat} (he : JE c e de) (hv : bootBuiltins x = some (.type t.nm)) (hv2 : bootBuiltins y = some (.type t2.nm)) (hm : c.mg "isinstance" = none) (hm2 : c.mg x = none) (hm3 : c.mg y = none) (hg : c.sc.names.lookup ("isinstance" : Str) = some .globalImplicit := by rfl) (hg2 : c.sc.names.lookup x = some .globalImplicit := by rfl) (hg3 : c.sc.names.lookup y = some .globalImplicit := by rfl) (hdb : (x == ("__debug__" : Str)) = false := by decide) (hn : x ≠ "__name__" := by decide) (hdb2 : (y == ("__debug__" : Str)) = false := by decide) (hn2 : y ≠ "__name__" := by decide)
    (hes : ∀ env, starEach (e :: [.Tuple [.Name x p2, .Name y p3] k p4]) env = (false, eval e env) :: starEach [.Tuple [.Name x p2, .Name y p3] k p4] env := by intro _; rfl) (hpl : ∀ env, (backTo pos (starEach [.Tuple [.Name x p2, .Name y p3] k p4] env)).any (·.1) = false := by intro _; rfl) : JE c (.Call (.Name "isinstance" p) [e, .Tuple [.Name x p2, .Name y p3] k p4] [] pos) (dUn (isiD [t, t2]) de) := by
  obtain ⟨te, pe, le⟩ := he
  refine ⟨_, fun X ok => ?_, LE.isi2 (t := t) (t2 := t2) le⟩
  have gl : ∀ {z : Str}, c.sc.names.lookup z = some .globalImplicit → Gl X z := fun h => by show X.env.scope.names.lookup _ = _; rw [ok.sc]; exact h
  rw [← ok.K]
  exact pe_callB call_isiT (gl hg) (by rw [ok.mg]; exact hm) rfl (pa_cons (pe X ok) (pa_cons (pe_tup (pa_cons (pe_bltn (v := .ty t.nm) (u := .type t.nm) (gl hg2) (by rw [ok.mg]; exact hm2) hv rfl hn hdb) (pa_cons (pe_bltn (v := .ty t2.nm) (u := .type t2.nm) (gl hg3) (by rw [ok.mg]; exact hm3) hv2 rfl hn2 hdb2) pa_nil))) pa_nil) (hes _)) (by decide) (by decide) (hes _) (hpl _)
end
end DL
end

section
set_option Elab.async false
set_option maxRecDepth 100000
set_option maxHeartbeats 4000000
namespace DL
open PySem L2

/-! ### slices -/
abbrev DO := List Sl → List Ob → Option (Option Int × List Ob)
def LO (K : PySem.W.Frag) (t : TO) (d : DO) : Prop := ∀ (A : List Addr) (ρ : List Sl) (u : List Ob) (o : Option Int) (u' : List Ob), d ρ u = some (o, u') →
  ∀ (σ : L2.St) (H : Hp), Store K A u H → Slots K A (vis A u H) ρ σ → ∀ Q : Option Int → Hp → Prop, (∀ H', PostT K A u H u' H' → Q o H') → t σ H Q
def JO (c : Ct) (e : Option Expr) (d : DO) : Prop := ∃ t, (∀ X, OkX c X → PO X e t) ∧ LO c.K t d
def oN : DO := fun _ u => some (none, u)
def oI (de : DE) : DO := fun ρ u => match de ρ u with
  | some (.s (.d (.int i)), u1) => some (some i, u1)
  | _ => none
theorem jo_none {c : Ct} : JO c none oN := ⟨_, fun X ok => po_none, fun A ρ u o u' e σ H S L Q q => by cases e; exact q H ⟨A, Step.refl, S⟩⟩
theorem jo_some {c : Ct} {e : Expr} {de : DE} (h : JE c e de) : JO c (some e) (oI de) := by
  obtain ⟨te, pe, le⟩ := h
  refine ⟨_, fun X ok => po_some (pe X ok), fun A ρ u o u' e σ H S L Q q => ?_⟩
  unfold oI at e
  cases e1 : de ρ u with
  | none => rw [e1] at e; cases e
  | some p1 =>
    obtain ⟨r, u1⟩ := p1
    rw [e1] at e
    cases r with
    | nw mo => cases e
    | s x =>
      cases x with
      | un => cases e
      | m j => cases e
      | d y =>
        cases y <;> cases e
        rename_i i
        refine le A ρ u _ _ e1 σ H S L _ fun v H1 P => ?_
        obtain ⟨A1, st, S1, rv⟩ := P
        cases (show Rp c.K (vis A1 _ H1) v (.int i) from rv)
        exact ⟨i, rfl, q H1 ⟨A1, st, S1⟩⟩
def dSl (f : D → Option Int → Option Int → Option Rt) (de : DE) (dl dh : DO) : DE := fun ρ u => match de ρ u with
  | none => none
  | some (r, u1) => match dl ρ u1 with
    | none => none
    | some (l, u2) => match dh ρ u2 with
      | none => none
      | some (h, u3) => match r.sl.vw u3 with
        | none => none
        | some x => (f x l h).map fun r => (r, u3)
def cutL {α : Type} (xs : List α) (lo hi : Option Int) : List α := (xs.drop (HT.sIx xs.length 0 lo)).take (HT.sIx xs.length xs.length hi - HT.sIx xs.length 0 lo)
theorem cut_rp {K : PySem.W.Frag} {H : Hp} {vs : List V} {ds : List D} (r : RpA K H vs ds) (lo hi : Option Int) : RpA K H (cutV vs lo hi) (cutL ds lo hi) := by
  unfold cutV cutL
  rw [r.length]
  exact (r.drop _).take _
def slD : D → Option Int → Option Int → Option Rt
  | .list ds, lo, hi => some (.nw (.lst (cutL ds lo hi)))
  | .tuple ds, lo, hi => sD (.tuple (cutL ds lo hi))
  | .str z, lo, hi => if z.length ≤ SZ then sD (.str (cutS z lo hi)) else none
  | _, _, _ => none
def rSlU (K : PySem.W.Frag) : V → Option Int → Option Int → Hp → VK → Prop := fun x lo hi H Q => rSlL K x lo hi H Q ∨ rSlA K x lo hi H Q ∨ rSlS x lo hi H Q
theorem v_sl {K : PySem.W.Frag} {Hv H : Hp} (le : Le Hv H) {v : V} {x : D} {lo hi : Option Int} {res : Rt} (h : Rq K Hv H v x) (e : slD x lo hi = some res) {Q : VK} (q : ∀ z H', ResOk K Hv H res z H' → Q z H') : rSlU K v lo hi H Q := by
  cases x with
  | list ds =>
    cases e
    obtain ⟨a, xs, rfl, s, r⟩ := h.list le
    exact .inl ⟨a, xs, rfl, s, fun p hp => q _ _ ⟨p, _, hp, rfl, rfl, cut_rp r lo hi⟩⟩
  | tuple ds =>
    cases e
    have k := h.tupleV
    obtain ⟨a, xs, rfl, s, r⟩ := h.tuple le
    refine .inr (.inl ⟨a, xs, rfl, s, fun ⟨w1, w2⟩ => ?_, fun _ p hp => q _ _ (.inr ⟨p, _, _, hp, rfl, rfl, cut_rp r lo hi, rfl⟩)⟩)
    refine q _ _ (.d ?_)
    have e2 : cutL ds lo hi = ds := by
      unfold cutL
      rw [← r.length, w1, w2, Nat.sub_zero, r.length, List.drop_zero, List.take_length]
    rw [e2]
    exact k
  | str z =>
    simp only [slD] at e
    split at e
    · rename_i hl
      cases e
      rw [h.str]
      exact .inr (.inr ⟨z, rfl, by rw [sizeLine_eq]; exact hl, q _ _ (.d (.str _))⟩)
    · cases e
  | none => cases e
  | bool b => cases e
  | int b => cases e
  | dict b => cases e
theorem LE.sl {K : PySem.W.Frag} {te : TE} {tl th : TO} {de : DE} {dl dh : DO} (he : LE K te de) (hl : LO K tl dl) (hh : LO K th dh) : LE K (tSl (rSlU K) te tl th) (dSl slD de dl dh) := by
  intro A ρ u res u' e σ H S L Q q
  unfold dSl at e
  cases e1 : de ρ u with
  | none => rw [e1] at e; cases e
  | some p1 =>
    obtain ⟨r1, u1⟩ := p1
    rw [e1] at e
    simp only at e
    cases e2 : dl ρ u1 with
    | none => rw [e2] at e; cases e
    | some p2 =>
      obtain ⟨l, u2⟩ := p2
      rw [e2] at e
      simp only at e
      cases e3 : dh ρ u2 with
      | none => rw [e3] at e; cases e
      | some p3 =>
        obtain ⟨hh1, u3⟩ := p3
        rw [e3] at e
        simp only at e
        refine he A ρ u r1 u1 e1 σ H S L _ fun v1 H1 P1 => ?_
        obtain ⟨A1, st1, S1, rv1⟩ := P1.ret
        refine hl A1 ρ u1 l u2 e2 σ H1 S1 (st1.slots L) _ fun H2 P2 => ?_
        obtain ⟨A2, st2, S2⟩ := P2
        have st12 := st1.trans st2
        refine hh A2 ρ u2 hh1 u3 e3 σ H2 S2 (st12.slots L) _ fun H3 P3 => ?_
        obtain ⟨A3, st3, S3⟩ := P3
        have st13 := st12.trans st3
        cases x1 : r1.sl.vw u3 with
        | none => rw [x1] at e; cases e
        | some x =>
          rw [x1] at e
          simp only at e
          cases e4 : slD x l hh1 with
          | none => rw [e4] at e; cases e
          | some z =>
            rw [e4] at e
            cases e
            exact v_sl vis_le ((st3.rv (st2.rv rv1)).vw S3 x1) e4 fun v H' ok => q v H' ((ok.post S3).trans st13)
theorem je_sl {c : Ct} {e : Expr} {lo hi : Option Expr} {de : DE} {dl dh : DO} {pos p2 : Pos} (he : JE c e de) (hl : JO c lo dl) (hh : JO c hi dh) : JE c (.Subscript e (.Slice lo hi none p2) pos) (dSl slD de dl dh) := by
  obtain ⟨te, pe, le⟩ := he
  obtain ⟨tl, pl, ll⟩ := hl
  obtain ⟨th, ph, lh⟩ := hh
  refine ⟨_, fun X ok => ?_, LE.sl le ll lh⟩
  rw [← ok.K]
  exact pe_slice (sl_list.or (sl_tupA.or sl_str)) (pe X ok) (pl X ok) (ph X ok)
/-- t[::-1] -/
def revD : D → Option Rt
  | .list ds => some (.nw (.lst ds.reverse))
  | .tuple ds => sD (.tuple ds.reverse)
  | _ => none
theorem v_rev {K : PySem.W.Frag} : V1Ok K (rRevU K) revD := by
  intro Hv H le v x res h e Q q
  cases x with
  | list ds =>
    cases e
    obtain ⟨a, xs, rfl, s, r⟩ := h.list le
    exact ⟨a, xs, rfl, .inl ⟨s, fun p hp => q _ _ ⟨p, _, hp, rfl, rfl, r.reverse⟩⟩⟩
  | tuple ds =>
    cases e
    obtain ⟨a, xs, rfl, s, r⟩ := h.tuple le
    exact ⟨a, xs, rfl, .inr ⟨s, fun p hp => q _ _ (.inr ⟨p, _, _, hp, rfl, rfl, r.reverse, rfl⟩)⟩⟩
  | none => cases e
  | bool b => cases e
  | int b => cases e
  | str b => cases e
  | dict b => cases e
theorem je_rev {c : Ct} {e : Expr} {de : DE} {k : Nat} {p1 p2 p3 pos : Pos} (he : JE c e de) : JE c (.Subscript e (.Slice none none (some (.UnaryOp .USub (.Constant (.int 1) k p1) p2)) p3) pos) (dUn revD de) := by
  obtain ⟨te, pe, le⟩ := he
  refine ⟨_, fun X ok => ?_, LE.un v_rev le⟩
  rw [← ok.K]
  exact pe_revU (pe X ok)

/-! ### list, tuple, int, min, max -/
def rListU (K : PySem.W.Frag) : List V → Hp → VK → Prop := fun xs H Q => (∃ p ys, xs = [.ref p] ∧ (SqL K H p ys ∨ SqT K H p ys) ∧ ∀ l, H l = none → Q (.ref l) (upd H l (.lst ys))) ∨
  (∃ (a : Addr) (kvs : List (Key × V)), xs = [.ref a] ∧ Rd H a (.dK kvs) ∧ ∀ p, H p = none → Q (.ref p) (upd H p (.lst (kvs.map fun kv => kV kv.1)))) ∨
  (∃ d kvs, xs = [V.ref d] ∧ Rd H d (.dT kvs) ∧ ∀ p bs, H p = none → IsKeys H kvs bs → Q (.ref p) (upd H p (.lst (bs.map V.ref))))
theorem c_list {c : Ct} : ∀ X, OkX c X → CallR X (.type "list") (rListU c.K) := fun X ok => by
  rw [← ok.K]
  exact call_list_of.or ((call_listD ok.calm).or (call_list_dT ok.calm))
theorem rp_k {K : PySem.W.Frag} {H : Hp} (k : Key) : Rp K H (kV k) (kD k) := by
  cases k with
  | inl i => exact .int i
  | inr x => exact .str x
theorem rp_ks {K : PySem.W.Frag} {H : Hp} : ∀ k : List Key, RpA K H (k.map kV) (k.map kD)
  | [] => .nil
  | x :: r => .cons (rp_k x) (rp_ks r)
theorem rp_keys {K : PySem.W.Frag} {H : Hp} : ∀ ws : List (Key × V), RpA K H (ws.map fun kv => kV kv.1) (ws.map fun p => kD p.1)
  | [] => .nil
  | x :: r => .cons (rp_k x.1) (rp_keys r)
theorem rp_tkeys {K : PySem.W.Frag} {Hv H : Hp} (hv : ∀ a ts, H a = some (.tup ts) → Hv a = some (.tup ts)) : ∀ {ws : List (List Key × V)} {bs : List Addr}, IsKeys H ws bs → RpA K Hv (bs.map V.ref) (ws.map fun p => ksD p.1)
  | _, _, .nil => .nil
  | _, _, .cons h r => .cons (.tup (.inl (.inl (hv _ _ h))) (rp_ks _)) (rp_tkeys hv r)
def listD : D → Option Rt
  | .list ds => some (.nw (.lst ds))
  | .tuple ds => some (.nw (.lst ds))
  | .dict kvs => some (.nw (.lst (kvs.map (·.1))))
  | _ => none
theorem v_list {K : PySem.W.Frag} : VnOk K (rListU K) (on1 listD) := vn1 fun Hv H le hv v x res h e Q q => by
  cases x with
  | list ds =>
    cases e
    obtain ⟨a, xs, rfl, s, r⟩ := h.list le
    exact .inl ⟨a, xs, rfl, .inl s, fun p hp => q _ _ ⟨p, _, hp, rfl, rfl, r⟩⟩
  | tuple ds =>
    cases e
    obtain ⟨a, xs, rfl, s, r⟩ := h.tuple le
    exact .inl ⟨a, xs, rfl, .inr s, fun p hp => q _ _ ⟨p, _, hp, rfl, rfl, r⟩⟩
  | dict kvs =>
    cases e
    obtain ⟨a, rfl, hd⟩ := h.dict le
    rcases hd with ⟨ws, rd, ek, r⟩ | ⟨ws, rd, ek, r⟩
    · refine .inr (.inl ⟨a, ws, rfl, rd, fun p hp => q _ _ ⟨p, _, hp, rfl, rfl, ?_⟩⟩)
      rw [← ek]; exact rp_keys ws
    · refine .inr (.inr ⟨a, ws, rfl, rd, fun p bs hp ks => q _ _ ⟨p, _, hp, rfl, rfl, ?_⟩⟩)
      rw [← ek]; exact rp_tkeys hv ks
  | none => cases e
  | bool b => cases e
  | int b => cases e
  | str b => cases e
theorem c_tuple {c : Ct} : ∀ X, OkX c X → CallR X (.type "tuple") (fun xs H Q => ∃ p ys, xs = [.ref p] ∧ ((SqL c.K H p ys ∧ ∀ l, H l = none → Q (.ref l) (upd H l (.tup ys))) ∨ (SqT c.K H p ys ∧ Q (.ref p) H))) := fun X ok => by
  rw [← ok.K]
  exact call_tuple_of
def tupD : D → Option Rt
  | .list ds => sD (.tuple ds)
  | .tuple ds => sD (.tuple ds)
  | _ => none
theorem v_tup {K : PySem.W.Frag} : VnOk K (fun xs H Q => ∃ p ys, xs = [.ref p] ∧ ((SqL K H p ys ∧ ∀ l, H l = none → Q (.ref l) (upd H l (.tup ys))) ∨ (SqT K H p ys ∧ Q (.ref p) H))) (on1 tupD) := vn1 fun Hv H le hv v x res h e Q q => by
  cases x with
  | list ds =>
    cases e
    obtain ⟨a, xs, rfl, s, r⟩ := h.list le
    exact ⟨a, xs, rfl, .inl ⟨s, fun p hp => q _ _ (.inr ⟨p, _, _, hp, rfl, rfl, r, rfl⟩)⟩⟩
  | tuple ds =>
    cases e
    have k := h.tupleV
    obtain ⟨a, xs, rfl, s, r⟩ := h.tuple le
    exact ⟨a, xs, rfl, .inr ⟨s, q _ _ (.d k)⟩⟩
  | none => cases e
  | bool b => cases e
  | int b => cases e
  | str b => cases e
  | dict b => cases e
theorem c_int {c : Ct} : ∀ X, OkX c X → CallR X (.type "int") (fun xs H Q => (∃ i, xs = [.int i] ∧ Q (.int i) H) ∨ ∃ k, xs = [.bl k] ∧ Q (.int (if k then 1 else 0)) H) := fun X ok => call_int1
def intD : D → Option Rt
  | .int i => sD (.int i)
  | .bool b => sD (.int (if b then 1 else 0))
  | _ => none
theorem v_int {K : PySem.W.Frag} : VnOk K (fun xs H Q => (∃ i, xs = [.int i] ∧ Q (.int i) H) ∨ ∃ k, xs = [.bl k] ∧ Q (.int (if k then 1 else 0)) H) (on1 intD) := vn1 fun Hv H le hv v x res h e Q q => by
  cases x <;> cases e
  · rw [h.bool]; exact .inr ⟨_, rfl, q _ _ (.d (.int _))⟩
  · rw [h.int]; exact .inl ⟨_, rfl, q _ _ (.d (.int _))⟩
theorem v_ii {K : PySem.W.Frag} {f : Int → Int → Int} : VnOk K (fun xs H Q => ∃ i j, xs = [.int i, .int j] ∧ Q (.int (f i j)) H) (on2 (i2 (fun _ _ => true) fun i j => .int (f i j))) := vn2 fun Hv H le v w x y res h1 h2 e Q q => by
  cases x <;> try (cases e; done)
  cases y <;> try (cases e; done)
  simp only [i2, if_true] at e
  cases e
  rw [h1.int, h2.int]
  exact ⟨_, _, rfl, q _ _ (.d (.int _))⟩
theorem c_max {c : Ct} : ∀ X, OkX c X → CallR X (.builtin "max") (fun xs H Q => ∃ i j, xs = [.int i, .int j] ∧ Q (.int (if j > i then j else i)) H) := fun X ok => call_max2 ok.calm
theorem c_min {c : Ct} : ∀ X, OkX c X → CallR X (.builtin "min") (fun xs H Q => ∃ i j, xs = [.int i, .int j] ∧ Q (.int (if j < i then j else i)) H) := fun X ok => call_min2 ok.calm
abbrev max2D := on2 (i2 (fun _ _ => true) fun i j => .int (if j > i then j else i))
abbrev min2D := on2 (i2 (fun _ _ => true) fun i j => .int (if j < i then j else i))

/-! ### lists of one kind -/
def allOf {α : Type} (f : D → Option α) : List D → Option (List α)
  | [] => some []
  | x :: r => match f x, allOf f r with
    | some y, some s => some (y :: s)
    | _, _ => none
def asI : D → Option Int
  | .int i => some i
  | _ => none
def asB : D → Option Bool
  | .bool i => some i
  | _ => none
def asS : D → Option Str
  | .str i => some i
  | _ => none
theorem rp_all {α : Type} {K : PySem.W.Frag} {H : Hp} {f : D → Option α} {g : α → V} (hfg : ∀ v x y, Rp K H v x → f x = some y → v = g y) : ∀ {vs : List V} {ds : List D} {ys : List α}, RpA K H vs ds → allOf f ds = some ys → vs = ys.map g
  | _, _, _, .nil, e => by cases e; rfl
  | _, _, ys, .cons (d := d) (ds := ds) h r, e => by
    unfold allOf at e
    cases e1 : f d with
    | none => rw [e1] at e; cases e
    | some y =>
      cases e2 : allOf f ds with
      | none => rw [e1, e2] at e; cases e
      | some t =>
        rw [e1, e2] at e
        cases e
        rw [List.map_cons, hfg _ _ _ h e1, rp_all hfg r e2]
theorem rpI {K : PySem.W.Frag} {H : Hp} {vs : List V} {ds : List D} {ys : List Int} (r : RpA K H vs ds) (e : allOf asI ds = some ys) : vs = ys.map V.int := rp_all (fun v x y h e => by cases x <;> cases e; cases h; rfl) r e
theorem rpB {K : PySem.W.Frag} {H : Hp} {vs : List V} {ds : List D} {ys : List Bool} (r : RpA K H vs ds) (e : allOf asB ds = some ys) : vs = ys.map V.bl := rp_all (fun v x y h e => by cases x <;> cases e; cases h; rfl) r e
theorem rpS {K : PySem.W.Frag} {H : Hp} {vs : List V} {ds : List D} {ys : List Str} (r : RpA K H vs ds) (e : allOf asS ds = some ys) : vs = ys.map V.str := rp_all (fun v x y h e => by cases x <;> cases e; cases h; rfl) r e
theorem rp_mapI {K : PySem.W.Frag} {H : Hp} : ∀ ns : List Int, RpA K H (ns.map V.int) (ns.map PyData.int)
  | [] => .nil
  | n :: r => .cons (.int n) (rp_mapI r)
theorem rp_mapS {K : PySem.W.Frag} {H : Hp} : ∀ ns : List Str, RpA K H (ns.map V.str) (ns.map PyData.str)
  | [] => .nil
  | n :: r => .cons (.str n) (rp_mapS r)
def seqD {α : Type} (f : D → Option α) (g : List α → Option Rt) : D → Option Rt
  | .list ds => match allOf f ds with
    | some ys => g ys
    | none => none
  | _ => none
theorem v_seq {α : Type} {K : PySem.W.Frag} {r : List V → Hp → VK → Prop} {f : D → Option α} {g : List α → Option Rt} (hr : ∀ (Hv H : Hp) (a : Addr) (xs : List V) (ds : List D) (ys : List α) (res : Rt), SqL K H a xs → RpA K Hv xs ds → allOf f ds = some ys → g ys = some res → ∀ Q : VK, (∀ z H', ResOk K Hv H res z H' → Q z H') → r [.ref a] H Q) : VnOk K r (on1 (seqD f g)) := vn1 fun Hv H le hv v x res h e Q q => by
  cases x <;> try (cases e; done)
  rename_i ds
  simp only [seqD] at e
  cases e1 : allOf f ds with
  | none => rw [e1] at e; cases e
  | some ys =>
    rw [e1] at e
    obtain ⟨a, xs, rfl, s, r⟩ := h.list le
    exact hr Hv H a xs ds ys res s r e1 e Q q
theorem c_sum {c : Ct} : ∀ X, OkX c X → CallR X (.builtin "sum") (rSum c.K) := fun X ok => by rw [← ok.K]; exact cr_sum ok.calm
theorem c_any {c : Ct} : ∀ X, OkX c X → CallR X (.builtin "any") (rAny c.K) := fun X ok => by rw [← ok.K]; exact cr_any ok.calm
theorem c_all {c : Ct} : ∀ X, OkX c X → CallR X (.builtin "all") (rAll c.K) := fun X ok => by rw [← ok.K]; exact cr_all ok.calm
abbrev sumD := on1 (seqD asI fun ns => sD (.int ns.sum))
abbrev anyD := on1 (seqD asB fun bs => sD (.bool (bs.any id)))
abbrev allD := on1 (seqD asB fun bs => sD (.bool (bs.all id)))
theorem v_sum {K : PySem.W.Frag} : VnOk K (rSum K) sumD := v_seq fun Hv H a xs ds ys res s r e1 e2 Q q => by cases e2; exact ⟨a, ys, rfl, by rw [← rpI r e1]; exact s, q _ _ (.d (.int _))⟩
theorem v_any {K : PySem.W.Frag} : VnOk K (rAny K) anyD := v_seq fun Hv H a xs ds ys res s r e1 e2 Q q => by cases e2; exact ⟨a, ys, rfl, by rw [← rpB r e1]; exact s, q _ _ (.d (.bl _))⟩
theorem v_all {K : PySem.W.Frag} : VnOk K (rAll K) allD := v_seq fun Hv H a xs ds ys res s r e1 e2 Q q => by cases e2; exact ⟨a, ys, rfl, by rw [← rpB r e1]; exact s, q _ _ (.d (.bl _))⟩

/-! ### sorted -/
def sortI (ns : List Int) : List Int := ns.mergeSort (fun a b => decide (a ≤ b))
theorem sortI_of {a b : List Int} (p : a.Perm b) (h : a.Pairwise (· ≤ ·)) : a = sortI b := by
  have h2 : (sortI b).Pairwise (· ≤ ·) := by
    have := List.pairwise_mergeSort (le := fun a b : Int => decide (a ≤ b)) (fun a b c h1 h2 => by simp at *; omega) (fun a b => by simp; omega) b
    exact this.imp fun h => by simpa using h
  exact List.Perm.eq_of_pairwise (le := (· ≤ ·)) (fun a b _ _ h1 h2 => by omega) h h2 (p.trans (List.mergeSort_perm _ _).symm)
def leS (a b : Str) : Bool := !Spec.ltCps b.cps.toList a.cps.toList
def sortS (ns : List Str) : List Str := ns.mergeSort leS
theorem lt_tr : ∀ a b c : List Nat, Spec.ltCps b a = false → Spec.ltCps c b = false → Spec.ltCps c a = false
  | [], b, c, _, _ => by cases c <;> simp_all [Spec.ltCps] <;> cases b <;> simp_all [Spec.ltCps]
  | x :: a, [], c, h, _ => by simp [Spec.ltCps] at h
  | x :: a, y :: b, [], _, h => by simp [Spec.ltCps] at h
  | x :: a, y :: b, z :: c, h1, h2 => by
    simp only [Spec.ltCps, Bool.or_eq_false_iff, Bool.and_eq_false_iff, decide_eq_false_iff_not, beq_eq_false_iff_ne] at h1 h2 ⊢
    obtain ⟨h1, h3⟩ := h1
    obtain ⟨h2, h4⟩ := h2
    refine ⟨by omega, ?_⟩
    by_cases e : z = x
    · right
      have e1 : y = x := by omega
      have e2 : z = y := by omega
      rcases h3 with h3 | h3
      · exact absurd e1 h3
      · rcases h4 with h4 | h4
        · exact absurd e2 h4
        · exact lt_tr a b c h3 h4
    · exact .inl e
theorem lt_tot : ∀ a b : List Nat, Spec.ltCps b a = false ∨ Spec.ltCps a b = false
  | [], [] => by simp [Spec.ltCps]
  | [], _ :: _ => by simp [Spec.ltCps]
  | _ :: _, [] => by simp [Spec.ltCps]
  | x :: a, y :: b => by
    simp only [Spec.ltCps, Bool.or_eq_false_iff, Bool.and_eq_false_iff, decide_eq_false_iff_not, beq_eq_false_iff_ne]
    rcases lt_tot a b with h | h
    · by_cases e : x < y
      · exact .inl ⟨by omega, .inl (by omega)⟩
      · by_cases e2 : y < x
        · exact .inr ⟨by omega, .inl (by omega)⟩
        · exact .inl ⟨e2, .inr h⟩
    · by_cases e : x < y
      · exact .inl ⟨by omega, .inl (by omega)⟩
      · by_cases e2 : y < x
        · exact .inr ⟨by omega, .inl (by omega)⟩
        · exact .inr ⟨e, .inr h⟩
theorem lt_anti : ∀ a b : List Nat, Spec.ltCps b a = false → Spec.ltCps a b = false → a = b
  | [], [], _, _ => rfl
  | [], _ :: _, _, h => by simp [Spec.ltCps] at h
  | _ :: _, [], h, _ => by simp [Spec.ltCps] at h
  | x :: a, y :: b, h1, h2 => by
    simp only [Spec.ltCps, Bool.or_eq_false_iff, Bool.and_eq_false_iff, decide_eq_false_iff_not, beq_eq_false_iff_ne] at h1 h2
    have e : x = y := by omega
    subst e
    rw [lt_anti a b (h1.2.resolve_left (fun z => z rfl)) (h2.2.resolve_left (fun z => z rfl))]
theorem str_cps {a b : Str} (h : a.cps.toList = b.cps.toList) : a = b := by
  cases a; cases b
  congr 1
  exact Array.toList_inj.mp h
theorem pair_sortedS : ∀ {l : List Str}, PyProof.Rows.sortedS l = true → l.Pairwise (fun a b => leS a b = true)
  | [], _ => .nil
  | x :: r, h => go x r h
where
  go : ∀ (x : Str) (r : List Str), PyProof.Rows.risingS x r = true → (x :: r).Pairwise (fun a b => leS a b = true)
    | x, [], _ => by simp
    | x, y :: r, h => by
      have h : leS x y = true ∧ PyProof.Rows.risingS y r = true := by
        unfold PyProof.Rows.risingS at h
        rw [Bool.and_eq_true] at h
        exact h
      have ih := go y r h.2
      refine List.pairwise_cons.mpr ⟨fun z hz => ?_, ih⟩
      rcases List.mem_cons.mp hz with rfl | hz
      · exact h.1
      · have := (List.pairwise_cons.mp ih).1 z hz
        unfold leS at *
        simp only [Bool.not_eq_true'] at *
        exact lt_tr _ _ _ h.1 this
theorem sortS_of {a b : List Str} (p : a.Perm b) (h : PyProof.Rows.sortedS a = true) : a = sortS b := by
  have h2 : (sortS b).Pairwise (fun a b => leS a b = true) := List.pairwise_mergeSort (le := leS) (fun a b c h1 h2 => by
    unfold leS at *
    simp only [Bool.not_eq_true'] at *
    exact lt_tr _ _ _ h1 h2) (fun a b => by
    unfold leS
    rcases lt_tot a.cps.toList b.cps.toList with h | h <;> rw [h] <;> simp) b
  refine List.Perm.eq_of_pairwise (le := fun a b => leS a b = true) (fun a b _ _ h1 h2 => ?_) (pair_sortedS h) h2 (p.trans (List.mergeSort_perm _ _).symm)
  unfold leS at h1 h2
  simp only [Bool.not_eq_true'] at h1 h2
  exact str_cps (lt_anti _ _ h1 h2)
end DL
end

section
set_option Elab.async false
set_option maxRecDepth 100000
set_option maxHeartbeats 4000000
namespace DL
open PySem L2

/-! ### sorted, rules -/
def rSortU (K : PySem.W.Frag) : List V → Hp → VK → Prop := fun xs H Q => rSortedI K xs H Q ∨ rSortedS K xs H Q ∨
  (∃ (a : Addr) (kvs : List (Key × V)) (ks : List Str), xs = [.ref a] ∧ Rd H a (.dK kvs) ∧ kvs.map (·.1) = ks.map Sum.inr ∧ ks.length < 64 ∧ ∀ ys p, ys.Perm ks → PyProof.Rows.sortedS ys = true → H p = none → Q (.ref p) (upd H p (.lst (ys.map V.str))))
theorem c_sorted {c : Ct} : ∀ X, OkX c X → CallR X (.builtin "sorted") (rSortU c.K) := fun X ok => by
  rw [← ok.K]
  exact cr_sortedI.or (cr_sortedS.or (call_sortedD ok.calm))
def sortedD : D → Option Rt
  | .list ds => match allOf asI ds with
    | some ns => some (.nw (.lst ((sortI ns).map PyData.int)))
    | none => match allOf asS ds with
      | some zs => if zs.length < 64 then some (.nw (.lst ((sortS zs).map PyData.str))) else none
      | none => none
  | .dict kvs => match allOf asS (kvs.map (·.1)) with
    | some zs => if zs.length < 64 ∧ 0 < zs.length then some (.nw (.lst ((sortS zs).map PyData.str))) else none
    | none => none
  | _ => none
theorem kS_of {ws : List (Key × V)} : ∀ {ds : List D} {zs : List Str}, (ws.map fun p => kD p.1) = ds → allOf asS ds = some zs → ws.map (·.1) = zs.map Sum.inr := by
  induction ws with
  | nil => intro ds zs h e; subst h; cases e; rfl
  | cons p r ih =>
    intro ds zs h e
    subst h
    rw [List.map_cons] at e
    unfold allOf at e
    cases e1 : asS (kD p.1) with
    | none => rw [e1] at e; cases e
    | some z =>
      cases e2 : allOf asS (r.map fun p => kD p.1) with
      | none => rw [e1, e2] at e; cases e
      | some t =>
        rw [e1, e2] at e
        cases e
        rw [List.map_cons, List.map_cons, ih rfl e2]
        congr 1
        cases q : p.1 with
        | inl i => rw [q] at e1; cases e1
        | inr x => rw [q] at e1; cases e1; rfl
theorem noS_of {ws : List (List Key × V)} {ds : List D} {zs : List Str} (h : (ws.map fun p => ksD p.1) = ds) (e : allOf asS ds = some zs) : ws = [] := by
  subst h
  cases ws with
  | nil => rfl
  | cons p r => rw [List.map_cons] at e; unfold allOf at e; cases e
theorem v_sorted {K : PySem.W.Frag} : VnOk K (rSortU K) (on1 sortedD) := vn1 fun Hv H le hv v x res h e Q q => by
  cases x with
  | list ds =>
    obtain ⟨a, xs, rfl, s, r⟩ := h.list le
    simp only [sortedD] at e
    cases e1 : allOf asI ds with
    | some ns =>
      rw [e1] at e
      cases e
      refine .inl ⟨a, ns, rfl, by rw [← rpI r e1]; exact s, fun ns' p pm so hp => q _ _ ⟨p, _, hp, rfl, rfl, ?_⟩⟩
      rw [sortI_of pm so]
      exact rp_mapI _
    | none =>
      rw [e1] at e
      simp only at e
      cases e2 : allOf asS ds with
      | none => rw [e2] at e; cases e
      | some zs =>
        rw [e2] at e
        simp only at e
        split at e
        · rename_i hl
          cases e
          refine .inr (.inl ⟨a, zs, rfl, by rw [← rpS r e2]; exact s, hl, fun ys p pm so hp => q _ _ ⟨p, _, hp, rfl, rfl, ?_⟩⟩)
          rw [sortS_of pm so]
          exact rp_mapS _
        · cases e
  | dict kvs =>
    simp only [sortedD] at e
    obtain ⟨a, rfl, hd⟩ := h.dict le
    cases e2 : allOf asS (kvs.map (·.1)) with
    | none => rw [e2] at e; cases e
    | some zs =>
      rw [e2] at e
      simp only at e
      split at e
      · rename_i hl
        cases e
        rcases hd with ⟨ws, rd, ek, r⟩ | ⟨ws, rd, ek, r⟩
        · refine .inr (.inr ⟨a, ws, zs, rfl, rd, kS_of ek e2, hl.1, fun ys p pm so hp => q _ _ ⟨p, _, hp, rfl, rfl, ?_⟩⟩)
          rw [sortS_of pm so]
          exact rp_mapS _
        · have hw := noS_of ek e2
          subst hw
          rw [← ek] at e2
          cases e2
          exact absurd hl.2 (by simp)
      · cases e
  | none => cases e
  | bool b => cases e
  | int b => cases e
  | str b => cases e
  | tuple b => cases e

/-! ### methods of texts -/
def dM1 (f : Str → D → Option Rt) (d1 d2 : DE) : DE := fun ρ u => match d1 ρ u with
  | some (.s (.d (.str a)), u1) => match d2 ρ u1 with
    | none => none
    | some (r, u2) => match r.sl.vw u2 with
      | some y => (f a y).map fun r => (r, u2)
      | none => none
  | _ => none
def VsOk (K : PySem.W.Frag) (r : V → List V → Hp → VK → Prop) (f : Str → D → Option Rt) : Prop := ∀ Hv H, Le Hv H → ∀ a w y res, Rq K Hv H w y → f a y = some res → ∀ Q : VK, (∀ z H', ResOk K Hv H res z H' → Q z H') → r (.str a) [w] H Q
theorem LE.m1 {K : PySem.W.Frag} {r : V → List V → Hp → VK → Prop} {f : Str → D → Option Rt} {t1 t2 : TE} {d1 d2 : DE} (hf : VsOk K r f) (h1 : LE K t1 d1) (h2 : LE K t2 d2) : LE K (tM1 r t1 t2) (dM1 f d1 d2) := by
  intro A ρ u res u' e σ H S L Q q
  unfold dM1 at e
  split at e
  · rename_i a u1 e1
    cases e2 : d2 ρ u1 with
    | none => rw [e2] at e; cases e
    | some p2 =>
      obtain ⟨r2, u2⟩ := p2
      rw [e2] at e
      simp only at e
      refine h1 A ρ u _ u1 e1 σ H S L _ fun v1 H1 P1 => ?_
      obtain ⟨A1, st1, S1, rv1⟩ := P1
      cases (show Rp K _ v1 (.str a) from rv1)
      refine ⟨⟨a, rfl⟩, h2 A1 ρ u1 r2 u2 e2 σ H1 S1 (st1.slots L) _ fun v2 H2 P2 => ?_⟩
      obtain ⟨A2, st2, S2, rv2⟩ := P2.ret
      cases x2 : r2.sl.vw u2 with
      | none => rw [x2] at e; cases e
      | some y =>
        rw [x2] at e
        simp only at e
        cases e3 : f a y with
        | none => rw [e3] at e; cases e
        | some z =>
          rw [e3] at e
          cases e
          exact hf _ _ vis_le _ _ _ _ (rv2.vw S2 x2) e3 Q fun v H' ok => q v H' ((ok.post S2).trans (st1.trans st2))
  · cases e
def joinD (a : Str) : D → Option Rt
  | .list ds => match allOf asS ds with
    | some zs => if (zs.map (·.length)).sum + zs.length * a.length ≤ 16777216 then sD (.str (Txt.join a zs)) else none
    | none => none
  | _ => none
def splitD (a : Str) : D → Option Rt
  | .str b => if (b.length == 0) = false ∧ a.length + 2 ≤ SZ then some (.nw (.lst ((Txt.split a b).map PyData.str))) else none
  | _ => none
section
variable {c : Ct} {o e : Expr} {d1 d2 : DE} {apos pos : Pos}
theorem je_join (ho : JE c o d1) (he : JE c e d2) (hs : ∀ env, starEach [e] env = [(false, eval e env)] := by intro _; rfl) (hbase : ∀ env, attributeBase o "join" env (eval o env) = eval o env := by intro _; rfl) (hline : (apos.endLine == pos.line) = true := by rfl) : JE c (.Call (.Attribute o "join" apos) [e] [] pos) (dM1 joinD d1 d2) := by
  obtain ⟨t1, p1, l1⟩ := ho
  obtain ⟨t2, p2, l2⟩ := he
  refine ⟨_, fun X ok => by have := pe_join (p1 X ok) (p2 X ok) (hs _) (hbase _) hline; rw [ok.K] at this; exact this, LE.m1 (fun Hv H le a w y res h e Q q => ?_) l1 l2⟩
  cases y with
  | list ds =>
    simp only [joinD] at e
    cases e1 : allOf asS ds with
    | none => rw [e1] at e; cases e
    | some zs =>
      rw [e1] at e
      simp only at e
      split at e
      · rename_i hl
        cases e
        obtain ⟨p, xs, rfl, s, r⟩ := h.list le
        exact ⟨a, p, zs, rfl, rfl, .inl (by rw [← rpS r e1]; exact s), hl, q _ _ (.d (.str _))⟩
      · cases e
  | none => cases e
  | bool b => cases e
  | int b => cases e
  | str b => cases e
  | tuple b => cases e
  | dict b => cases e
theorem je_split (ho : JE c o d1) (he : JE c e d2) (hs : ∀ env, starEach [e] env = [(false, eval e env)] := by intro _; rfl) (hbase : ∀ env, attributeBase o "split" env (eval o env) = eval o env := by intro _; rfl) (hline : (apos.endLine == pos.line) = true := by rfl) : JE c (.Call (.Attribute o "split" apos) [e] [] pos) (dM1 splitD d1 d2) := by
  obtain ⟨t1, p1, l1⟩ := ho
  obtain ⟨t2, p2, l2⟩ := he
  refine ⟨_, fun X ok => pe_split (p1 X ok) (p2 X ok) (hs _) (hbase _) hline, LE.m1 (fun Hv H le a w y res h e Q q => ?_) l1 l2⟩
  cases y with
  | str b =>
    simp only [splitD] at e
    split at e
    · rename_i hl
      cases e
      rw [h.str]
      exact ⟨a, b, rfl, rfl, hl.1, by rw [sizeLine_eq]; exact hl.2, fun p hp => q _ _ ⟨p, _, hp, rfl, rfl, rp_mapS _⟩⟩
    · cases e
  | none => cases e
  | bool b => cases e
  | int b => cases e
  | list b => cases e
  | tuple b => cases e
  | dict b => cases e
end

/-! ### a live object's methods -/
/-- what an operation makes of the object: the answer and what it holds then -/
def VuOk (K : PySem.W.Frag) (r : V → List V → Hp → VK → Prop) (f : MO → List D → Option (D × MO)) : Prop :=
  ∀ Hv H a o mo vs xs z mo', Le Hv H → H a = some o → ObC K Hv o mo → RpA K Hv vs xs → f mo xs = some (z, mo') → ∀ Q : VK, (∀ v o', Rp K Hv v z → ObC K Hv o' mo' → Q v (upd H a o')) → r (.ref a) vs H Q
def MO.kn : MO → String
  | .lst _ => "list"
  | .tup _ => "tuple"
  | .dic _ => "dict"
  | .dit _ => "dict"
/-- x.name(es), x a live object -/
def dMut (T : String) (f : MO → List D → Option (D × MO)) (i : Nat) (da : DA) : DE := fun ρ u => match ρ[i]? with
  | some (.m j) => match u[j]? with
    | some b0 => if b0.o.kn = T ∧ b0.o.isT = false ∧ b0.live = true then match da ρ u with
      | none => none
      | some (ss, u1) => match dats u1 ss with
        | none => none
        | some (xs, u2) => match u2[j]? with
          | some b => if b.live then match f b.o xs with
            | some (z, mo) => if mo.isT then none else some (.s (.d z), u2.set j ⟨true, mo⟩)
            | none => none
            else none
          | none => none
      else none
    | none => none
  | _ => none
theorem ObC.ty {K : PySem.W.Frag} {Hv H : Hp} {a : Addr} {o : HO} {mo : MO} {T : String} (h : H a = some o) (c : ObC K Hv o mo) (k : mo.kn = T) (n : mo.isT = false) : tyV K T (.ref a) H := by
  subst k
  cases mo with
  | lst xs => cases o <;> first | exact (show False from c).elim | exact .inl ⟨rfl, _, .inl (.inl h)⟩
  | tup xs => cases n
  | dic xs => cases o <;> first | exact (show False from c).elim | exact .inr (.inr (.inl ⟨rfl, .inl ⟨_, h⟩⟩))
  | dit xs => cases o <;> first | exact (show False from c).elim | exact .inr (.inr (.inl ⟨rfl, .inr ⟨_, h⟩⟩))
theorem LE.mut {K : PySem.W.Frag} {T : String} {r : V → List V → Hp → VK → Prop} {f : MO → List D → Option (D × MO)} {i : Nat} {ta : TA} {da : DA} (hf : VuOk K r f) (ha : LA K ta da) : LE K (tBM K T r (tVar i) ta) (dMut T f i da) := by
  intro A ρ u res u' e σ H S L Q q
  unfold dMut at e
  split at e
  · rename_i j hi
    split at e
    · rename_i b0 hj
      split at e
      · rename_i hk
        cases e1 : da ρ u with
        | none => rw [e1] at e; cases e
        | some p1 =>
          obtain ⟨ss, u1⟩ := p1
          rw [e1] at e
          simp only at e
          cases e2 : dats u1 ss with
          | none => rw [e2] at e; cases e
          | some p2 =>
            obtain ⟨xs, u2⟩ := p2
            rw [e2] at e
            simp only at e
            rcases L.get i _ hi with z | ⟨v, e0, rv⟩
            · cases z
            obtain ⟨a, hA, rfl⟩ := rv
            obtain ⟨o0, -, h0, c0⟩ := S.ob j a b0 hA hj
            replace h0 := h0 hk.2.2
            refine ⟨_, e0, ObC.ty h0 c0 hk.1 hk.2.1, ha A ρ u ss u1 e1 σ H S L _ fun vs H1 P => ?_⟩
            obtain ⟨A1, st1, S1, rvs⟩ := P
            obtain ⟨S2, st2, rp⟩ := rvs.dats S1 e2
            split at e
            · rename_i b hb
              split at e
              · rename_i hl
                split at e
                · rename_i z mo hz
                  split at e
                  · cases e
                  · rename_i hT
                    cases e
                    have hA1 := st1.at hA
                    obtain ⟨o, -, ho, cc⟩ := S2.ob j a b hA1 hb
                    replace ho := ho hl
                    refine hf _ H1 a o b.o vs xs z mo vis_le ho cc rp hz Q fun v o' rz co => ?_
                    obtain ⟨S3, st3⟩ := S2.write hA1 hb hl (by cases q : mo.isT <;> first | rfl | exact absurd q hT) co
                    exact q _ _ ⟨A1, (st1.trans st2).trans st3, S3, Rp.mono st3.keep rz⟩
                · cases e
              · cases e
            · cases e
      · cases e
    · cases e
  · cases e
theorem LE.mut0 {K : PySem.W.Frag} {T : String} {r : V → List V → Hp → VK → Prop} {f : MO → List D → Option (D × MO)} {i : Nat} (hf : VuOk K r f) : LE K (tBM0 K T r (tVar i)) (dMut T f i daNil) := LE.mut (ta := tNil) hf LA.nil
def appF : MO → List D → Option (D × MO)
  | .lst xs, [y] => if xs.length < SZ then some (.none, .lst (xs ++ [y])) else none
  | _, _ => none
def popF : MO → List D → Option (D × MO)
  | .lst xs, [] => match xs[xs.length - 1]? with
    | some y => some (y, .lst xs.dropLast)
    | none => none
  | _, _ => none
def extF : MO → List D → Option (D × MO)
  | .lst xs, [.list zs] => if xs.length + zs.length ≤ SZ then some (.none, .lst (xs ++ zs)) else none
  | .lst xs, [.tuple zs] => if xs.length + zs.length ≤ SZ then some (.none, .lst (xs ++ zs)) else none
  | _, _ => none
theorem RpA.one {K : PySem.W.Frag} {H : Hp} {vs : List V} {x : D} (h : RpA K H vs [x]) : ∃ v, vs = [v] ∧ Rp K H v x := by
  cases h with
  | cons h r => cases r; exact ⟨_, rfl, h⟩
theorem RpA.dropLast {K : PySem.W.Frag} {H : Hp} : ∀ {vs : List V} {ds : List D}, RpA K H vs ds → RpA K H vs.dropLast ds.dropLast
  | _, _, .nil => .nil
  | _, _, .cons h .nil => .nil
  | _, _, .cons h (.cons h2 r) => .cons h (RpA.dropLast (.cons h2 r))
theorem u_app {K : PySem.W.Frag} : VuOk K rAppend appF := by
  intro Hv H a o mo vs xs z mo' le ho c r e Q q
  unfold appF at e
  split at e
  · rename_i ds y
    split at e
    · rename_i hl
      cases e
      cases o <;> first | exact (show False from c).elim | skip
      have c : RpA K Hv _ ds := c
      obtain ⟨v, rfl, hv⟩ := r.one
      exact ⟨a, _, v, rfl, rfl, ho, by rw [c.length, sizeLine_eq]; exact hl, q _ _ .non (c.append (.cons hv .nil))⟩
    · cases e
  · cases e
theorem u_pop {K : PySem.W.Frag} : VuOk K rPop popF := by
  intro Hv H a o mo vs xs z mo' le ho c r e Q q
  unfold popF at e
  split at e
  · rename_i ds
    split at e
    · rename_i y hy
      cases e
      cases o <;> first | exact (show False from c).elim | skip
      have c : RpA K Hv _ ds := c
      cases r
      obtain ⟨v, h1, h2⟩ := c.get _ hy
      rw [← c.length] at h1
      exact ⟨a, _, v, rfl, rfl, ho, h1, q _ _ h2 c.dropLast⟩
    · cases e
  · cases e
theorem u_ext {K : PySem.W.Frag} : VuOk K (rExtU K) extF := by
  intro Hv H a o mo vs xs z mo' le ho c r e Q q
  unfold extF at e
  split at e
  · rename_i ds zs
    split at e
    · rename_i hl
      cases e
      cases o <;> first | exact (show False from c).elim | skip
      have c : RpA K Hv _ ds := c
      obtain ⟨v, rfl, hv⟩ := r.one
      cases hv with
      | lst s rz => exact ⟨a, _, _, _, rfl, rfl, ho, .inl (le.sqL s), by rw [c.length, rz.length, sizeLine_eq]; exact hl, q _ _ .non (c.append rz)⟩
    · cases e
  · rename_i ds zs
    split at e
    · rename_i hl
      cases e
      cases o <;> first | exact (show False from c).elim | skip
      have c : RpA K Hv _ ds := c
      obtain ⟨v, rfl, hv⟩ := r.one
      cases hv with
      | tup s rz => exact ⟨a, _, _, _, rfl, rfl, ho, .inr (le.sqT s), by rw [c.length, rz.length, sizeLine_eq]; exact hl, q _ _ .non (c.append rz)⟩
    · cases e
  · cases e
section
variable {c : Ct} {e : Expr} {es : List Expr} {da : DA} {p apos cpos : Pos} {x : Str}
theorem je_mut {T id : String} {name : Str} {r : V → List V → Hp → VK → Prop} {f : MO → List D → Option (D × MO)} (i : Nat) (pa : PlainAttrs T) (slot : Slot T name id) (hty : typeOf (.builtin id) = pure (.type "method_descriptor")) (hm : ∀ X, OkX c X → MtR X id r) (hf : VuOk c.K r f) (ha : JA c (e :: es) da)
    (hN : c.N[i]? = some x := by rfl) (hv : Vis c.sc x := by first | exact Or.inl rfl | exact Or.inr (Or.inl rfl) | exact Or.inr (Or.inr rfl)) (hd : (x == ("__debug__" : Str)) = false := by decide) (hcd : (x == ("__classdict__" : Str)) = false := by decide)
    (hbase : ∀ env, attributeBase (.Name x p) name env (eval (.Name x p) env) = eval (.Name x p) env := by intro _; rfl)
    (hfew : ∀ env, ((backTo cpos (starEach (e :: es) env)).all (fun x => !x.1) && (backToKw cpos (keywordEach [] env)).all (fun x => x.1.isSome) && decide ((e :: es).length + ([] : List Keyword).length + (if ([] : List Keyword).isEmpty then 0 else 1) < 30)) = true := by intro _; rfl)
    (hline : (apos.endLine == cpos.line) = true := by rfl) (hs : ∀ env, starEach (e :: es) env = (false, eval e env) :: starEach es env := by intro _; rfl) (hplain : ∀ env, (backTo cpos (starEach es env)).any (·.1) = false := by intro _; rfl) :
    JE c (.Call (.Attribute (.Name x p) name apos) (e :: es) [] cpos) (dMut T f i da) := by
  obtain ⟨ta, pt, la⟩ := ha
  refine ⟨_, fun X ok => ?_, LE.mut (T := T) (i := i) hf la⟩
  rw [← ok.K]
  exact pe_bm pa slot hty (hm X ok) (pe_var (by rw [ok.N]; exact hN) (by rw [ok.sc]; exact hv) hd hcd) (pt X ok) (hbase _) (hfew _) hline (hs _) (hplain _)
theorem je_mut0 {T id : String} {name : Str} {r : V → List V → Hp → VK → Prop} {f : MO → List D → Option (D × MO)} (i : Nat) (pa : PlainAttrs T) (slot : Slot T name id) (hty : typeOf (.builtin id) = pure (.type "method_descriptor")) (hm : ∀ X, OkX c X → MtR X id r) (hf : VuOk c.K r f)
    (hN : c.N[i]? = some x := by rfl) (hv : Vis c.sc x := by first | exact Or.inl rfl | exact Or.inr (Or.inl rfl) | exact Or.inr (Or.inr rfl)) (hd : (x == ("__debug__" : Str)) = false := by decide) (hcd : (x == ("__classdict__" : Str)) = false := by decide)
    (hbase : ∀ env, attributeBase (.Name x p) name env (eval (.Name x p) env) = eval (.Name x p) env := by intro _; rfl) (hline : (apos.endLine == cpos.line) = true := by rfl) :
    JE c (.Call (.Attribute (.Name x p) name apos) [] [] cpos) (dMut T f i daNil) := by
  refine ⟨_, fun X ok => ?_, LE.mut0 (T := T) (i := i) hf⟩
  rw [← ok.K]
  exact pe_bm0 pa slot hty (hm X ok) (pe_var (by rw [ok.N]; exact hN) (by rw [ok.sc]; exact hv) hd hcd) (hbase _) hline
end
end DL
end

section
set_option Elab.async false
set_option maxRecDepth 100000
set_option maxHeartbeats 4000000
/-! lookups in dicts, whatever the keys: by values, then by data -/
namespace DL
open PySem L2

def LkV (K : PySem.W.Frag) (H : Hp) (a : Addr) (y : V) (o : Option V) : Prop :=
  (∃ kvs k, Rd H a (.dK kvs) ∧ y = kV k ∧ o = valV kvs k) ∨ (∃ kvs k b, Rd H a (.dT kvs) ∧ y = .ref b ∧ SqT K H b (k.map kV) ∧ o = valV kvs k) ∨
  (∃ k, Rd H a (.dT []) ∧ y = kV k ∧ o = none) ∨ (∃ (k : List Key) (b : Addr), Rd H a (.dK []) ∧ y = .ref b ∧ SqT K H b (k.map kV) ∧ o = none)
section
variable {X : Cx} {pins : List (Addr × Obj)} {σ : L2.St} {H : Hp} {s : Shared} {a b : Addr} {y : V} {u : Value} {o : Option V} {A : Around} {E : Value → Shared → Prop}
theorem key_sq {k : List Key} (I : Inv X pins σ H s) (h : SqT X.K H b (k.map kV)) : (tupleKind (mixKind X.prog X.w)).is s.heap k b := by
  obtain ⟨its, rel, ⟨ob, g1, g2, n, g3⟩, _⟩ := I.tuple h
  exact ⟨ob, its.toArray, n, g1, g2, g3, by simpa using items_are rel⟩
theorem LkV.sem (I : Inv X pins σ H s) (h : LkV X.K H a y o) (ry : RelV y u) : (a == sysModules) = false ∧
    ((∃ k f, (mixKind X.prog X.w).is k u = true ∧ s.heap.MapOf (mixKind X.prog X.w) a f ∧ RelO o (f k)) ∨
     (∃ (b : Addr) (k : List Key) (xs : List (List Key × Addr × Value)), u = .ref b ∧ (tupleKind (mixKind X.prog X.w)).is s.heap k b ∧ s.heap.DictOfH (tupleKind (mixKind X.prog X.w)) a xs ∧ RelO o ((atKey xs k).map (·.2)))) := by
  rcases h with ⟨kvs, k, e, rfl, rfl⟩ | ⟨kvs, k, b, e, rfl, t, rfl⟩ | ⟨k, e, rfl, rfl⟩ | ⟨k, b, e, rfl, t, rfl⟩
  · obtain ⟨_, low, ws, rel, dd⟩ := dk_rd I.hok e
    exact ⟨low, .inl ⟨k, _, kV_is ry, dd.mapOf, rel.val k⟩⟩
  · obtain ⟨_, low, ws, rel, dd⟩ := dt_rd I.hok e
    cases (show u = Value.ref b from ry)
    exact ⟨low, .inr ⟨b, k, ws, rfl, key_sq I t, dd, rel.val k⟩⟩
  · obtain ⟨low, dd⟩ := none_in I.hok e
    exact ⟨low, .inl ⟨k, _, kV_is ry, dd.mapOf, trivial⟩⟩
  · obtain ⟨_, low, ws, rel, ob, es, ep, g1, g2, g3, g4, g5, g6⟩ := dk_rd I.hok e
    cases rel
    have hes : es.toList = [] := by
      cases q : es.toList with
      | nil => rfl
      | cons d r => rw [q] at g5; cases g5
    cases (show u = Value.ref b from ry)
    exact ⟨low, .inr ⟨b, k, [], rfl, key_sq I t, ⟨ob, es, ep, g1, g2, g3, hes, fun x hx => (nomatch hx), List.nodup_nil⟩, trivial⟩⟩
theorem lk_item {v : V} {Q : Value → Shared → Prop} (hu : A.units + 1 < cLine) (I : Inv X pins σ H s) (g : LkV X.K H a y (some v)) (ry : RelV y u) (h : ∀ w' s', Inv X pins σ H s' → RelV v w' → Q w' s') : wpAny (model X.prog X.w) A (getItem (.ref a) u) Q E s := by
  obtain ⟨low, ⟨k, f, hk, hm, r⟩ | ⟨b, k, xs, rfl, hk, hm, r⟩⟩ := g.sem I ry
  · obtain ⟨w', hw, rw'⟩ := RelO.some_of (v := v) r
    exact wpAny_getItem_of hk hm hw (h w' _ (I.tok _) rw')
  · obtain ⟨w', hw, rw'⟩ := RelO.some_of (v := v) r
    obtain ⟨p, hp, hp2⟩ := Option.map_eq_some_iff.mp hw
    refine wpAny_getItem_heap (tupleKind_room_in1 hu) hk hm hp ?_
    rw [hp2]
    exact h w' _ (I.tok _) rw'
theorem lk_in {Q : Value → Shared → Prop} (hu : A.units + 1 < cLine) (I : Inv X pins σ H s) (g : LkV X.K H a y o) (ry : RelV y u) (h : ∀ s', Inv X pins σ H s' → Q (.bool o.isSome) s') : wpAny (model X.prog X.w) A (compareOp .In u (.ref a)) Q E s := by
  obtain ⟨low, ⟨k, f, hk, hm, r⟩ | ⟨b, k, xs, rfl, hk, hm, r⟩⟩ := g.sem I ry
  · refine wpAny_in_of hk low hm ?_
    rw [← r.isSome_eq]
    exact h _ (I.tok _)
  · refine wpAny_in_heap (tupleKind_room_in1 hu) hk low hm ?_
    have q := r.isSome_eq
    rw [Option.isSome_map] at q
    rw [← q]
    exact h _ (I.tok _)
theorem lk_nin {Q : Value → Shared → Prop} (hu : A.units + 1 < cLine) (I : Inv X pins σ H s) (g : LkV X.K H a y o) (ry : RelV y u) (h : ∀ s', Inv X pins σ H s' → Q (.bool (!o.isSome)) s') : wpAny (model X.prog X.w) A (compareOp .NotIn u (.ref a)) Q E s := by
  obtain ⟨low, ⟨k, f, hk, hm, r⟩ | ⟨b, k, xs, rfl, hk, hm, r⟩⟩ := g.sem I ry
  · refine wpAny_notIn_of hk low hm ?_
    rw [← r.isSome_eq]
    exact h _ (I.tok _)
  · refine PyProof.Rows.wpAny_notIn_heap (tupleKind_room_in1 hu) hk low hm ?_
    have q := r.isSome_eq
    rw [Option.isSome_map] at q
    rw [← q]
    exact h _ (I.tok _)
theorem LkV.dict (I : Inv X pins σ H s) (h : IsD H a) : s.TypeIs (.ref a) "dict" := (isD_at I h).1
theorem lk_get1 {Q : Value → Shared → Prop} (hu : A.units + 1 < cLine) (I : Inv X pins σ H s) (t : s.TypeIs (.ref a) "dict") (g : LkV X.K H a y o) (ry : RelV y u) (h : ∀ w' s', Inv X pins σ H s' → RelV (o.getD .non) w' → Q w' s') : wpAny (model X.prog X.w) A (call (.builtin "dict.get") [.ref a, u]) Q E s := by
  obtain ⟨low, ⟨k, f, hk, hm, r⟩ | ⟨b, k, xs, rfl, hk, hm, r⟩⟩ := g.sem I ry
  · exact call_meetsIn PySem.F.slot_dict_get t PySem.F.entry_dict_get (PySem.F.args_dict_get_2 _ _) (meets_dict_get (mixKind X.prog X.w) a hk low) ⟨f, hm, h _ _ (I.tok _) (r.getD rfl)⟩
  · exact call_meetsIn PySem.F.slot_dict_get t PySem.F.entry_dict_get (PySem.F.args_dict_get_2 _ _) (meetsH_dict_get (tupleKind (mixKind X.prog X.w)) a b low) ⟨tupleKind_room_in1 hu, k, xs, hk, hm, h _ _ (I.tok _) (r.getD rfl)⟩
theorem lk_get2 {d : V} {r2 : Value} {Q : Value → Shared → Prop} (hu : A.units + 1 < cLine) (I : Inv X pins σ H s) (t : s.TypeIs (.ref a) "dict") (g : LkV X.K H a y o) (ry : RelV y u) (rd : RelV d r2) (h : ∀ w' s', Inv X pins σ H s' → RelV (o.getD d) w' → Q w' s') : wpAny (model X.prog X.w) A (call (.builtin "dict.get") [.ref a, u, r2]) Q E s := by
  obtain ⟨low, ⟨k, f, hk, hm, r⟩ | ⟨b, k, xs, rfl, hk, hm, r⟩⟩ := g.sem I ry
  · exact call_meetsIn PySem.F.slot_dict_get t PySem.F.entry_dict_get (PySem.F.args_dict_get_3 _ _ _) (meets_dict_get_default (mixKind X.prog X.w) a hk low r2) ⟨f, hm, h _ _ (I.tok _) (r.getD rd)⟩
  · exact call_meetsIn PySem.F.slot_dict_get t PySem.F.entry_dict_get (PySem.F.args_dict_get_3 _ _ _) (meetsH_dict_get_default (tupleKind (mixKind X.prog X.w)) a b low r2) ⟨tupleKind_room_in1 hu, k, xs, hk, hm, h _ _ (I.tok _) (r.getD rd)⟩
end

/-! ### by data -/
def keysOf : D → Option (List Key)
  | .tuple ds => allOf keyOf ds
  | _ => none
def lookT (kvs : List (D × D)) (k : List Key) : Option D := (kvs.find? fun p => decide (keysOf p.1 = some k)).map (·.2)
theorem allOf_kD : ∀ k : List Key, allOf keyOf (k.map kD) = some k
  | [] => rfl
  | x :: r => by rw [List.map_cons]; unfold allOf; rw [keyOf_kD, allOf_kD r]
theorem keysOf_ksD (k : List Key) : keysOf (ksD k) = some k := allOf_kD k
theorem lookT_val {K : PySem.W.Frag} {Hv : Hp} : ∀ {ws : List (List Key × V)} {kvs : List (D × D)} (k : List Key), (ws.map fun p => ksD p.1) = kvs.map (·.1) → RpA K Hv (ws.map (·.2)) (kvs.map (·.2)) →
    (∀ y, lookT kvs k = some y → ∃ v, valV ws k = some v ∧ Rp K Hv v y) ∧ (lookT kvs k = none → valV ws k = none)
  | [], [], k, _, _ => ⟨fun y e => by simp [lookT] at e, fun _ => rfl⟩
  | [], _ :: _, _, e, _ => by simp at e
  | _ :: _, [], _, e, _ => by simp at e
  | p :: ws, q :: kvs, k, e, r => by
    rw [List.map_cons, List.map_cons] at e
    have e1 := (List.cons.inj e).1
    have e2 := (List.cons.inj e).2
    rw [List.map_cons, List.map_cons] at r
    cases r with
    | cons h r =>
      have ih := lookT_val k e2 r
      have kq : keysOf q.1 = some p.1 := by rw [← e1, keysOf_ksD]
      by_cases n : p.1 = k
      · have l1 : lookT (q :: kvs) k = some q.2 := by
          unfold lookT
          rw [List.find?_cons, kq, n]
          simp
        rw [l1, valV_pos n]
        exact ⟨fun y z => by cases z; exact ⟨_, rfl, h⟩, fun z => by cases z⟩
      · have l1 : lookT (q :: kvs) k = lookT kvs k := by
          unfold lookT
          rw [List.find?_cons, kq, decide_eq_false (fun z => n (Option.some.inj z))]
        rw [l1, valV_neg n]
        exact ih
/-- what a dict has at a key; none: no key of its kind -/
def lookD (kvs : List (D × D)) (x : D) : Option (Option D) := match keyOf x with
  | some k => if kvs.all fun p => (keyOf p.1).isSome then some (lookK kvs k) else none
  | none => match keysOf x with
    | some ks => if kvs.all fun p => (keysOf p.1).isSome then some (lookT kvs ks) else none
    | none => none
theorem kv_map {H : Hp} {K : PySem.W.Frag} : ∀ {vs : List V} {ds : List D} {ks : List Key}, RpA K H vs ds → allOf keyOf ds = some ks → vs = ks.map kV := fun r e => rp_all (fun v x y h e => h.key e) r e
theorem Rq.keys {K : PySem.W.Frag} {Hv H : Hp} {v : V} {x : D} {k : List Key} (le : Le Hv H) (h : Rq K Hv H v x) (e : keysOf x = some k) : ∃ b, v = .ref b ∧ SqT K H b (k.map kV) := by
  cases x <;> try (cases e; done)
  rename_i ds
  obtain ⟨b, vs, rfl, s, r⟩ := h.tuple le
  exact ⟨b, rfl, by rw [← kv_map r e]; exact s⟩
/-- what is told of a lookup by values -/
def OR (K : PySem.W.Frag) (Hv : Hp) : Option V → Option D → Prop
  | some v, some y => Rp K Hv v y
  | none, none => True
  | _, _ => False
theorem lookD_val {K : PySem.W.Frag} {Hv H : Hp} {v w : V} {kvs : List (D × D)} {x : D} {r : Option D} (le : Le Hv H) (hd : Rq K Hv H v (.dict kvs)) (hx : Rq K Hv H w x) (e : lookD kvs x = some r) : ∃ a o, v = .ref a ∧ IsD H a ∧ LkV K H a w o ∧ OR K Hv o r := by
  obtain ⟨a, rfl, hk⟩ := hd.dict le
  have isd : IsD H a := by
    rcases hk with ⟨ws, rd, _⟩ | ⟨ws, rd, _⟩
    · exact .inl ⟨ws, rd⟩
    · exact .inr ⟨ws, rd⟩
  unfold lookD at e
  cases q0 : keyOf x with
  | some k =>
    rw [q0] at e
    simp only at e
    split at e
    · rename_i hall
      cases e
      have hw := hx.key q0
      rcases hk with ⟨ws, rd, ek, r⟩ | ⟨ws, rd, ek, r⟩
      · refine ⟨a, valV ws k, rfl, isd, .inl ⟨ws, k, rd, hw, rfl⟩, ?_⟩
        have lv := look_val k ek r
        cases z : lookK kvs k with
        | none => rw [lv.2 z]; trivial
        | some y =>
          obtain ⟨u, e1, e2⟩ := lv.1 y z
          rw [e1]; exact e2
      · cases ws with
        | cons t ws =>
          exfalso
          cases kvs with
          | nil => simp at ek
          | cons p r =>
            rw [List.map_cons, List.map_cons] at ek
            have e1 := (List.cons.inj ek).1
            rw [List.all_cons, Bool.and_eq_true] at hall
            rw [← e1] at hall
            simp [ksD, keyOf] at hall
        | nil =>
          have : kvs = [] := by
            cases kvs with
            | nil => rfl
            | cons _ _ => simp at ek
          subst this
          exact ⟨a, none, rfl, isd, .inr (.inr (.inl ⟨k, rd, hw, rfl⟩)), trivial⟩
    · cases e
  | none =>
    rw [q0] at e
    simp only at e
    cases q1 : keysOf x with
    | none => rw [q1] at e; cases e
    | some ks =>
      rw [q1] at e
      simp only at e
      split at e
      · rename_i hall
        cases e
        obtain ⟨b, rfl, sq⟩ := hx.keys le q1
        rcases hk with ⟨ws, rd, ek, r⟩ | ⟨ws, rd, ek, r⟩
        · cases ws with
          | cons t ws =>
            exfalso
            cases kvs with
            | nil => simp at ek
            | cons p r =>
              rw [List.map_cons, List.map_cons] at ek
              have e1 := (List.cons.inj ek).1
              rw [List.all_cons, Bool.and_eq_true] at hall
              rw [← e1] at hall
              cases z : t.1 <;> rw [z] at hall <;> simp [kD, keysOf] at hall
          | nil =>
            have : kvs = [] := by
              cases kvs with
              | nil => rfl
              | cons _ _ => simp at ek
            subst this
            exact ⟨a, none, rfl, isd, .inr (.inr (.inr ⟨ks, b, rd, rfl, sq, rfl⟩)), trivial⟩
        · refine ⟨a, valV ws ks, rfl, isd, .inr (.inl ⟨ws, ks, b, rd, rfl, sq, rfl⟩), ?_⟩
          have lv := lookT_val ks ek r
          cases z : lookT kvs ks with
          | none => rw [lv.2 z]; trivial
          | some y =>
            obtain ⟨u, e1, e2⟩ := lv.1 y z
            rw [e1]; exact e2
      · cases e
/-! the rules -/
def ixA : D → D → Option Rt
  | .dict kvs, y => match lookD kvs y with
    | some (some z) => sD z
    | _ => none
  | x, y => ixD x y
def rIxA (K : PySem.W.Frag) : R2 := fun x y H Q => (∃ a v, x = .ref a ∧ LkV K H a y (some v) ∧ Q v H) ∨ rIxU K x y H Q
theorem ix_lk {X : Cx} (hu : X.A.units + 1 < cLine) : IxR X (fun x y H Q => ∃ a v, x = .ref a ∧ LkV X.K H a y (some v) ∧ Q v H) := by
  intro value slice pins s σ H x y v u Q I rx ry h hs
  obtain ⟨a, z, rfl, g, q⟩ := h
  cases rx
  have isd : IsD H a := by
    rcases g with ⟨_, _, e, _⟩ | ⟨_, _, _, e, _⟩ | ⟨_, e, _⟩ | ⟨_, _, e, _⟩
    · exact .inl ⟨_, e⟩
    · exact .inr ⟨_, e⟩
    · exact .inr ⟨_, e⟩
    · exact .inl ⟨_, e⟩
  exact PyProof.Rows.tail_any (LkV.dict I isd) PySem.F.slot_dict_getitem.lookup (lk_item hu I g ry fun w' s' I' rw' => ⟨z, H, I', rw', q⟩) hs
theorem o_ixA {c : Ct} : ∀ X, OkX c X → IxR X (rIxA c.K) := fun X ok => by
  have h2 := o_ix X ok
  rw [← ok.K] at h2 ⊢
  exact (ix_lk (by have := ok.room.units; omega)).or h2
theorem v_ixA {K : PySem.W.Frag} : V2Ok K (rIxA K) ixA := by
  intro Hv H le v w x y res h1 h2 e Q q
  cases x with
  | dict kvs =>
    simp only [ixA] at e
    cases e1 : lookD kvs y with
    | none => rw [e1] at e; cases e
    | some r =>
      cases r with
      | none => rw [e1] at e; cases e
      | some z =>
        rw [e1] at e; cases e
        obtain ⟨a, o, rfl, _, lk, or⟩ := lookD_val le h1 h2 e1
        cases o with
        | none => exact or.elim
        | some t => exact .inl ⟨a, t, rfl, lk, q _ _ (.d or)⟩
  | none => exact .inr (v_ix Hv H le _ _ _ _ _ h1 h2 e Q q)
  | bool b => exact .inr (v_ix Hv H le _ _ _ _ _ h1 h2 e Q q)
  | int b => exact .inr (v_ix Hv H le _ _ _ _ _ h1 h2 e Q q)
  | str b => exact .inr (v_ix Hv H le _ _ _ _ _ h1 h2 e Q q)
  | list b => exact .inr (v_ix Hv H le _ _ _ _ _ h1 h2 e Q q)
  | tuple b => exact .inr (v_ix Hv H le _ _ _ _ _ h1 h2 e Q q)
def inA (neg : Bool) : D → D → Option Rt
  | x, .dict kvs => match lookD kvs x with
    | some o => sD (.bool (o.isSome != neg))
    | none => none
  | .tuple es, .tuple ds => if neg = false ∧ SeqAt.shaped (.tuple es) = true ∧ SeqAt.shaped (.tuple ds) = true then sD (.bool (ds.any fun z => PyData.eqv z (.tuple es))) else none
  | .list es, .tuple ds => if neg = false ∧ SeqAt.shaped (.list es) = true ∧ SeqAt.shaped (.tuple ds) = true then sD (.bool (ds.any fun z => PyData.eqv z (.list es))) else none
  | x, y => inD neg x y
def rInT (K : PySem.W.Frag) : R2 := fun x y H Q => ∃ d ds, Dp K H x d ∧ Dp K H y (.tuple ds) ∧ SeqAt.shaped d = true ∧ SeqAt.shaped (.tuple ds) = true ∧ Q (.bl (ds.any fun z => PyData.eqv z d)) H
theorem op_inT {X : Cx} (hu : X.A.units + 65 < cLine) : OpR X (compareOp .In) (rInT X.K) := by
  intro pins s σ H x y v u Q I rx ry ⟨d, ds, h1, h2, s1, s2, q⟩
  obtain ⟨as, r1⟩ := Dp.reads I d x v h1 rx
  obtain ⟨bs, r2⟩ := Dp.reads I (.tuple ds) y u h2 ry
  have k2 : PyData.canLayAll0 ds = true := SeqAt.canLay_of_shaped s2
  have dep : d.depth ≤ 64 := by
    simp only [SeqAt.shaped, Bool.and_eq_true, decide_eq_true_eq] at s1
    omega
  exact SeqAt.in_tuple_reads r2 r1 k2 (SeqAt.canLay_of_shaped s1) (by have := Nat.min_le_right (PyData.depthAll ds) d.depth; omega) ⟨.bl _, H, I, rfl, q⟩
def rInA (K : PySem.W.Frag) (neg : Bool) : R2 := fun x y H Q => (neg = false ∧ rInT K x y H Q) ∨ (∃ a o, y = .ref a ∧ LkV K H a x o ∧ Q (.bl (o.isSome != neg)) H) ∨ rInU K neg x y H Q
theorem o_inA {c : Ct} : ∀ X, OkX c X → OpR X (compareOp .In) (rInA c.K false) := fun X ok => by
  have h2 := o_in X ok
  have hu : X.A.units + 1 < cLine := by have := ok.room.units; omega
  rw [← ok.K] at h2 ⊢
  refine OpR.or (OpR.of (op_inT (units65 ok)) fun x y H Q h => h.2) (OpR.or ?_ h2)
  intro pins s σ H x y v u Q I rx ry h
  obtain ⟨a, o, rfl, g, q⟩ := h
  cases ry
  exact lk_in hu I g rx fun s' I' => ⟨.bl _, H, I', rfl, by rw [xor_f] at q; exact q⟩
theorem o_ninA {c : Ct} : ∀ X, OkX c X → OpR X (compareOp .NotIn) (rInA c.K true) := fun X ok => by
  have h2 := o_nin X ok
  have hu : X.A.units + 1 < cLine := by have := ok.room.units; omega
  rw [← ok.K] at h2 ⊢
  refine OpR.or (fun pins s σ H x y v u Q I rx ry h => by cases h.1) (OpR.or ?_ h2)
  intro pins s σ H x y v u Q I rx ry h
  obtain ⟨a, o, rfl, g, q⟩ := h
  cases ry
  exact lk_nin hu I g rx fun s' I' => ⟨.bl _, H, I', rfl, by rw [xor_t] at q; exact q⟩
theorem v_inA {K : PySem.W.Frag} {neg : Bool} : V2Ok K (rInA K neg) (inA neg) := by
  intro Hv H le v w x y res h1 h2 e Q q
  cases y with
  | dict kvs =>
    have e : (match lookD kvs x with | some o => sD (.bool (o.isSome != neg)) | none => none) = some res := by cases x <;> exact e
    cases e1 : lookD kvs x with
    | none => rw [e1] at e; cases e
    | some r =>
      rw [e1] at e; cases e
      obtain ⟨a, o, rfl, _, lk, or⟩ := lookD_val le h2 h1 e1
      have eo : o.isSome = r.isSome := by cases o <;> cases r <;> first | rfl | exact or.elim
      exact .inr (.inl ⟨a, o, rfl, lk, by rw [eo]; exact q _ _ (.d (.bl _))⟩)
  | none => exact .inr (.inr (v_in Hv H le _ _ _ _ _ h1 h2 (by cases x <;> exact e) Q q))
  | bool b => exact .inr (.inr (v_in Hv H le _ _ _ _ _ h1 h2 (by cases x <;> exact e) Q q))
  | int b => exact .inr (.inr (v_in Hv H le _ _ _ _ _ h1 h2 (by cases x <;> exact e) Q q))
  | str b => exact .inr (.inr (v_in Hv H le _ _ _ _ _ h1 h2 (by cases x <;> exact e) Q q))
  | list b => exact .inr (.inr (v_in Hv H le _ _ _ _ _ h1 h2 (by cases x <;> exact e) Q q))
  | tuple b =>
    have go : ∀ z : D, Rq K Hv H v z → (if neg = false ∧ SeqAt.shaped z = true ∧ SeqAt.shaped (.tuple b) = true then sD (.bool (b.any fun y => PyData.eqv y z)) else none) = some res → rInA K neg v w H Q := by
      intro z h1 e
      split at e
      · rename_i hs
        cases e
        exact .inl ⟨hs.1, z, b, h1.dp le (SeqAt.canLay_of_shaped hs.2.1), h2.dp le (SeqAt.canLay_of_shaped hs.2.2), hs.2.1, hs.2.2, q _ _ (.d (.bl _))⟩
      · cases e
    cases x with
    | tuple es => exact go _ h1 e
    | list es => exact go _ h1 e
    | _ => exact .inr (.inr (v_in Hv H le _ _ _ _ _ h1 h2 e Q q))

/-! ### d.get(k), d.get(k, x) -/
def tGt1 (K : PySem.W.Frag) (td ty : TE) : TE := fun σ H Q => td σ H fun x H1 => ∃ a, x = .ref a ∧ IsD H1 a ∧ ty σ H1 fun y H2 => ∃ o, IsD H2 a ∧ LkV K H2 a y o ∧ Q (o.getD .non) H2
def tGt2 (K : PySem.W.Frag) (td ty tx : TE) : TE := fun σ H Q => td σ H fun x H1 => ∃ a, x = .ref a ∧ IsD H1 a ∧ ty σ H1 fun y H2 => tx σ H2 fun z H3 => ∃ o, IsD H3 a ∧ LkV K H3 a y o ∧ Q (o.getD z) H3
section
variable {X : Cx} {o e f : Expr} {apos cpos : Pos} {td ty tx : TE}
theorem pe_gt1 (hu : X.A.units + 1 < cLine) (ho : PE X o td) (he : PE X e ty) (m : M1 X o "get" apos e cpos) : PE X (.Call (.Attribute o "get" apos) [e] [] cpos) (tGt1 X.K td ty) := by
  refine ⟨fun pins s σ H Q I want => wpAny_Call_method m.base m.few m.line PySem.F.plainAttrs_dict PySem.F.slot_dict_get PySem.F.type_dict_get (thn (ho.run pins s σ H _ I want) fun u s1 got => ?_)⟩
  obtain ⟨x, H1, J, rx, a, rfl, isd, q1⟩ := got
  cases rx
  obtain ⟨t1, t2, _⟩ := isD_at J isd
  refine ⟨t1, t2, ?_⟩
  rw [m.trees]
  refine Calls.callWith_builtin rfl (Calls.evalArgs_plain (Calls.spliced_cons (thn (he.run pins s1 σ H1 _ J q1) fun iv s2 got2 => Calls.spliced_nil ?_)))
  obtain ⟨y, H2, J2, ry, ov, isd2, g, q2⟩ := got2
  exact lk_get1 hu J2 (LkV.dict J2 isd2) g ry fun w' s3 J3 rw' => ⟨_, H2, J3, rw', q2⟩
theorem pe_gt2 (hu : X.A.units + 1 < cLine) (ho : PE X o td) (he : PE X e ty) (hf : PE X f tx) (m : M2 X o "get" apos e f cpos) : PE X (.Call (.Attribute o "get" apos) [e, f] [] cpos) (tGt2 X.K td ty tx) := by
  refine ⟨fun pins s σ H Q I want => wpAny_Call_method m.base m.few m.line PySem.F.plainAttrs_dict PySem.F.slot_dict_get PySem.F.type_dict_get (thn (ho.run pins s σ H _ I want) fun u s1 got => ?_)⟩
  obtain ⟨x, H1, J, rx, a, rfl, isd, q1⟩ := got
  cases rx
  obtain ⟨t1, t2, _⟩ := isD_at J isd
  refine ⟨t1, t2, ?_⟩
  rw [m.trees]
  refine Calls.callWith_builtin rfl (Calls.evalArgs_plain (Calls.spliced_cons (thn (he.run pins s1 σ H1 _ J q1) fun iv s2 got2 => ?_)))
  obtain ⟨y, H2, J2, ry, q2⟩ := got2
  refine Calls.spliced_cons (thn (hf.run pins s2 σ H2 _ J2 q2) fun dv s3 got3 => Calls.spliced_nil ?_)
  obtain ⟨z, H3, J3, rz, ov, isd3, g, q3⟩ := got3
  exact lk_get2 hu J3 (LkV.dict J3 isd3) g ry rz fun w' s4 J4 rw' => ⟨_, H3, J4, rw', q3⟩
end
end DL
end

section
set_option Elab.async false
set_option maxRecDepth 100000
set_option maxHeartbeats 4000000
/-! dicts: get, written ones, stores, displays -/
namespace DL
open PySem L2

theorem ORget {K : PySem.W.Frag} {Hv : Hp} {o : Option V} {r : Option D} {v : V} {x : D} (h : OR K Hv o r) (d : Rp K Hv v x) : Rp K Hv (o.getD v) (r.getD x) := by
  cases o <;> cases r <;> first | exact d | exact h | exact h.elim
theorem OR.mono {K : PySem.W.Frag} {Hv Hw : Hp} {o : Option V} {r : Option D} (le : Le Hv Hw) (h : OR K Hv o r) : OR K Hw o r := by
  cases o <;> cases r <;> first | exact trivial | exact Rp.mono le h | exact h.elim
def isDic : D → Bool
  | .dict _ => true
  | _ => false
theorem Rq.isD {K : PySem.W.Frag} {Hv H : Hp} {v : V} {x : D} (le : Le Hv H) (h : Rq K Hv H v x) (e : isDic x = true) : ∃ a, v = .ref a ∧ IsD H a := by
  cases x <;> try (cases e; done)
  obtain ⟨a, rfl, hk⟩ := h.dict le
  rcases hk with ⟨ws, rd, _⟩ | ⟨ws, rd, _⟩
  · exact ⟨a, rfl, .inl ⟨ws, rd⟩⟩
  · exact ⟨a, rfl, .inr ⟨ws, rd⟩⟩
def dGt1 (d1 d2 : DE) : DE := fun ρ u => match d1 ρ u with
  | none => none
  | some (r1, u1) => match r1.sl.vw u1 with
    | none => none
    | some x0 => if isDic x0 then match d2 ρ u1 with
      | none => none
      | some (r2, u2) => match r1.sl.vw u2, r2.sl.vw u2 with
        | some (.dict kvs), some y => match lookD kvs y with
          | some o => some (.s (.d (o.getD .none)), u2)
          | none => none
        | _, _ => none
      else none
/-- the default is data -/
def dGt2 (d1 d2 d3 : DE) : DE := fun ρ u => match d1 ρ u with
  | none => none
  | some (r1, u1) => match r1.sl.vw u1 with
    | none => none
    | some x0 => if isDic x0 then match d2 ρ u1 with
      | none => none
      | some (r2, u2) => match d3 ρ u2 with
        | none => none
        | some (r3, u3) => match r3.sl with
          | .d z => match r1.sl.vw u3, r2.sl.vw u3 with
            | some (.dict kvs), some y => match lookD kvs y with
              | some o => some (.s (.d (o.getD z)), u3)
              | none => none
            | _, _ => none
          | _ => none
      else none
theorem LE.gt1 {K : PySem.W.Frag} {t1 t2 : TE} {d1 d2 : DE} (h1 : LE K t1 d1) (h2 : LE K t2 d2) : LE K (tGt1 K t1 t2) (dGt1 d1 d2) := by
  intro A ρ u res u' e σ H S L Q q
  unfold dGt1 at e
  cases e1 : d1 ρ u with
  | none => rw [e1] at e; cases e
  | some p1 =>
    obtain ⟨r1, u1⟩ := p1
    rw [e1] at e
    simp only at e
    cases x0 : r1.sl.vw u1 with
    | none => rw [x0] at e; cases e
    | some x =>
      rw [x0] at e
      simp only at e
      split at e
      · rename_i hd
        cases e2 : d2 ρ u1 with
        | none => rw [e2] at e; cases e
        | some p2 =>
          obtain ⟨r2, u2⟩ := p2
          rw [e2] at e
          simp only at e
          refine h1 A ρ u r1 u1 e1 σ H S L _ fun v1 H1 P1 => ?_
          obtain ⟨A1, st1, S1, rv1⟩ := P1.ret
          obtain ⟨a, rfl, isd⟩ := (rv1.vw S1 x0).isD vis_le hd
          refine ⟨a, rfl, isd, h2 A1 ρ u1 r2 u2 e2 σ H1 S1 (st1.slots L) _ fun v2 H2 P2 => ?_⟩
          obtain ⟨A2, st2, S2, rv2⟩ := P2.ret
          split at e
          · rename_i kvs y x1 x2
            split at e
            · rename_i o e3
              cases e
              obtain ⟨a', o', ea, isd2, lk, or⟩ := lookD_val vis_le ((st2.rv rv1).vw S2 x1) (rv2.vw S2 x2) e3
              cases ea
              exact ⟨o', isd2, lk, q _ _ ⟨A2, st1.trans st2, S2, ORget or .non⟩⟩
            · cases e
          · cases e
      · cases e
theorem LE.gt2 {K : PySem.W.Frag} {t1 t2 t3 : TE} {d1 d2 d3 : DE} (h1 : LE K t1 d1) (h2 : LE K t2 d2) (h3 : LE K t3 d3) : LE K (tGt2 K t1 t2 t3) (dGt2 d1 d2 d3) := by
  intro A ρ u res u' e σ H S L Q q
  unfold dGt2 at e
  cases e1 : d1 ρ u with
  | none => rw [e1] at e; cases e
  | some p1 =>
    obtain ⟨r1, u1⟩ := p1
    rw [e1] at e
    simp only at e
    cases x0 : r1.sl.vw u1 with
    | none => rw [x0] at e; cases e
    | some x =>
      rw [x0] at e
      simp only at e
      split at e
      · rename_i hd
        cases e2 : d2 ρ u1 with
        | none => rw [e2] at e; cases e
        | some p2 =>
          obtain ⟨r2, u2⟩ := p2
          rw [e2] at e
          simp only at e
          cases e3 : d3 ρ u2 with
          | none => rw [e3] at e; cases e
          | some p3 =>
            obtain ⟨r3, u3⟩ := p3
            rw [e3] at e
            simp only at e
            refine h1 A ρ u r1 u1 e1 σ H S L _ fun v1 H1 P1 => ?_
            obtain ⟨A1, st1, S1, rv1⟩ := P1.ret
            obtain ⟨a, rfl, isd⟩ := (rv1.vw S1 x0).isD vis_le hd
            refine ⟨a, rfl, isd, h2 A1 ρ u1 r2 u2 e2 σ H1 S1 (st1.slots L) _ fun v2 H2 P2 => ?_⟩
            obtain ⟨A2, st2, S2, rv2⟩ := P2.ret
            refine h3 A2 ρ u2 r3 u3 e3 σ H2 S2 ((st1.trans st2).slots L) _ fun v3 H3 P3 => ?_
            obtain ⟨A3, st3, S3, rv3⟩ := P3.ret
            split at e
            · rename_i z hz
              split at e
              · rename_i kvs y x1 x2
                split at e
                · rename_i o e4
                  cases e
                  obtain ⟨a', o', ea, isd2, lk, or⟩ := lookD_val vis_le ((st3.rv (st2.rv rv1)).vw S3 x1) ((st3.rv rv2).vw S3 x2) e4
                  cases ea
                  rw [hz] at rv3
                  exact ⟨o', isd2, lk, q _ _ ⟨A3, (st1.trans st2).trans st3, S3, ORget or rv3⟩⟩
                · cases e
              · cases e
            · cases e
      · cases e
section
variable {c : Ct} {o e f : Expr} {d1 d2 d3 : DE} {apos cpos : Pos}
theorem je_gt1 (ho : JE c o d1) (he : JE c e d2) (m : ∀ X : Cx, M1 X o "get" apos e cpos := by exact fun _ => ⟨rfl, rfl, rfl, rfl⟩) : JE c (.Call (.Attribute o "get" apos) [e] [] cpos) (dGt1 d1 d2) := by
  obtain ⟨t1, p1, l1⟩ := ho
  obtain ⟨t2, p2, l2⟩ := he
  refine ⟨_, fun X ok => ?_, LE.gt1 l1 l2⟩
  rw [← ok.K]
  exact pe_gt1 (by have := ok.room.units; omega) (p1 X ok) (p2 X ok) (m X)
theorem je_gt2 (ho : JE c o d1) (he : JE c e d2) (hf : JE c f d3) (m : ∀ X : Cx, M2 X o "get" apos e f cpos := by exact fun _ => ⟨rfl, rfl, rfl, rfl⟩) : JE c (.Call (.Attribute o "get" apos) [e, f] [] cpos) (dGt2 d1 d2 d3) := by
  obtain ⟨t1, p1, l1⟩ := ho
  obtain ⟨t2, p2, l2⟩ := he
  obtain ⟨t3, p3, l3⟩ := hf
  refine ⟨_, fun X ok => ?_, LE.gt2 l1 l2 l3⟩
  rw [← ok.K]
  exact pe_gt2 (by have := ok.room.units; omega) (p1 X ok) (p2 X ok) (p3 X ok) (m X)
end

/-! ### a written dict of the module, asked by its name -/
structure KD (K : PySem.W.Frag) (w : World) (mg : Str → Option Value) (x : Str) (kvs : List (Str × D)) : Prop where
  ex : ∃ (a : Addr) (es : Array DictEntry) (n : Nat), mg x = some (.ref a) ∧ KDict K w a es n ∧ ∀ z : Str,
    (kvs.lookup z = none → PySem.W.nsIn K a z = some none) ∧ ∀ y, kvs.lookup z = some y → ∃ u v, PySem.W.nsIn K a z = some (some u) ∧ RelV v u ∧ ∀ H, Rp K H v y
def kinD (kvs : List (Str × D)) (neg : Bool) : D → Option Rt
  | .str z => sD (.bool ((kvs.lookup z).isSome != neg))
  | _ => none
def kgtD (kvs : List (Str × D)) : D → Option Rt
  | .str z => sD ((kvs.lookup z).getD .none)
  | _ => none
def kixD (kvs : List (Str × D)) : D → Option Rt
  | .str z => (kvs.lookup z).map fun y => .s (.d y)
  | _ => none
section
variable {c : Ct} {e f : Expr} {de df : DE} {x : Str} {kvs : List (Str × D)} {pos p apos cpos : Pos}
theorem je_kin (k : KD c.K c.w c.mg x kvs) (h : JE c e de) (hg : c.sc.names.lookup x = some .globalImplicit := by rfl) (hd : (x == ("__debug__" : Str)) = false := by decide) (hm : behindInMarks .In (.Name x p) = false := by rfl) : JE c (.Compare e [.In] [.Name x p] pos) (dUn (kinD kvs false) de) := by
  obtain ⟨te, pe, le⟩ := h
  obtain ⟨a, es, n, h1, h2, h3⟩ := k.ex
  refine ⟨tOp (fun x y H Q => ∃ (z : Str) (r : Option Value), x = .str z ∧ y = .ref a ∧ PySem.W.nsIn c.K a z = some r ∧ Q (.bl r.isSome) H) te (tC (.ref a)), fun X ok => ?_,
    LE.un (r := fun x H Q => ∃ (z : Str) (r : Option Value), x = .str z ∧ (V.ref a : V) = .ref a ∧ PySem.W.nsIn c.K a z = some r ∧ Q (.bl r.isSome) H) (fun Hv H le v y res hv e Q q => ?_) le⟩
  · have T : KDict X.K X.w a es n := by rw [ok.K, ok.w]; exact h2
    have := op_in_kd T
    rw [ok.K] at this
    exact pe_cmpR this (pe X ok) (pe_glob (v := .ref a) (u := .ref a) (by show X.env.scope.names.lookup x = _; rw [ok.sc]; exact hg) (by rw [ok.mg]; exact h1) rfl hd) hm
  · cases y <;> try (cases e; done)
    rename_i z
    cases e
    rw [hv.str]
    cases q1 : kvs.lookup z with
    | none =>
      refine ⟨z, none, rfl, rfl, (h3 z).1 q1, q _ _ (.d ?_)⟩
      rw [q1]; exact .bl _
    | some y =>
      obtain ⟨u, w, e1, _⟩ := (h3 z).2 y q1
      refine ⟨z, some u, rfl, rfl, e1, q _ _ (.d ?_)⟩
      rw [q1]; exact .bl _
theorem je_knin (k : KD c.K c.w c.mg x kvs) (h : JE c e de) (hg : c.sc.names.lookup x = some .globalImplicit := by rfl) (hd : (x == ("__debug__" : Str)) = false := by decide) (hm : behindInMarks .NotIn (.Name x p) = false := by rfl) : JE c (.Compare e [.NotIn] [.Name x p] pos) (dUn (kinD kvs true) de) := by
  obtain ⟨te, pe, le⟩ := h
  obtain ⟨a, es, n, h1, h2, h3⟩ := k.ex
  refine ⟨tOp (fun x y H Q => ∃ (z : Str) (r : Option Value), x = .str z ∧ y = .ref a ∧ PySem.W.nsIn c.K a z = some r ∧ Q (.bl (!r.isSome)) H) te (tC (.ref a)), fun X ok => ?_,
    LE.un (r := fun x H Q => ∃ (z : Str) (r : Option Value), x = .str z ∧ (V.ref a : V) = .ref a ∧ PySem.W.nsIn c.K a z = some r ∧ Q (.bl (!r.isSome)) H) (fun Hv H le v y res hv e Q q => ?_) le⟩
  · have T : KDict X.K X.w a es n := by rw [ok.K, ok.w]; exact h2
    have := op_notIn_kd T
    rw [ok.K] at this
    exact pe_cmpR this (pe X ok) (pe_glob (v := .ref a) (u := .ref a) (by show X.env.scope.names.lookup x = _; rw [ok.sc]; exact hg) (by rw [ok.mg]; exact h1) rfl hd) hm
  · cases y <;> try (cases e; done)
    rename_i z
    cases e
    rw [hv.str]
    cases q1 : kvs.lookup z with
    | none =>
      refine ⟨z, none, rfl, rfl, (h3 z).1 q1, q _ _ (.d ?_)⟩
      rw [q1]; exact .bl _
    | some y =>
      obtain ⟨u, w, e1, _⟩ := (h3 z).2 y q1
      refine ⟨z, some u, rfl, rfl, e1, q _ _ (.d ?_)⟩
      rw [q1]; exact .bl _
/-- D[e] -/
theorem je_kix (k : KD c.K c.w c.mg x kvs) (h : JE c e de) (hg : c.sc.names.lookup x = some .globalImplicit := by rfl) (hd : (x == ("__debug__" : Str)) = false := by decide) (hs : PlainIx e := by exact fun _ _ => rfl) : JE c (.Subscript (.Name x p) e pos) (dUn (kixD kvs) de) := by
  obtain ⟨te, pe, le⟩ := h
  obtain ⟨a, es, n, h1, h2, h3⟩ := k.ex
  refine ⟨tOp (fun x y H Q => ∃ (z : Str) (u0 : Value) (v0 : V), x = .ref a ∧ y = .str z ∧ PySem.W.nsIn c.K a z = some (some u0) ∧ RelV v0 u0 ∧ Q v0 H) (tC (.ref a)) te, fun X ok => ?_,
    LE.un (r := fun y H Q => ∃ (z : Str) (u0 : Value) (v0 : V), (V.ref a : V) = .ref a ∧ y = .str z ∧ PySem.W.nsIn c.K a z = some (some u0) ∧ RelV v0 u0 ∧ Q v0 H) (fun Hv H le v y res hv e Q q => ?_) le⟩
  · have T : KDict X.K X.w a es n := by rw [ok.K, ok.w]; exact h2
    have it := op_item_kd T
    have rule : IxR X (fun x y H Q => ∃ (z : Str) (u0 : Value) (v0 : V), x = .ref a ∧ y = .str z ∧ PySem.W.nsIn X.K a z = some (some u0) ∧ RelV v0 u0 ∧ Q v0 H) := by
      intro value slice pins s σ H x y v u Q I rx ry want hs
      obtain ⟨z, u0, v0, rfl, rfl, g, r, q⟩ := want
      have run := it pins s σ H _ _ v u Q I rx ry ⟨z, u0, v0, rfl, rfl, g, r, q⟩
      cases rx
      exact PyProof.Rows.tail_any (kd_type T I) PySem.F.slot_dict_getitem.lookup run hs
    rw [ok.K] at rule
    exact pe_ix rule (pe_glob (v := .ref a) (u := .ref a) (by show X.env.scope.names.lookup x = _; rw [ok.sc]; exact hg) (by rw [ok.mg]; exact h1) rfl hd) (pe X ok) hs
  · cases y <;> try (cases e; done)
    rename_i z
    simp only [kixD] at e
    cases q1 : kvs.lookup z with
    | none => rw [q1] at e; cases e
    | some y =>
      rw [q1] at e; cases e
      rw [hv.str]
      obtain ⟨u, w, e1, e2, e3⟩ := (h3 z).2 y q1
      exact ⟨z, u, w, rfl, rfl, e1, e2, q _ _ (.d (e3 _))⟩
/-- D.get(e) -/
theorem je_kgt (k : KD c.K c.w c.mg x kvs) (h : JE c e de) (hg : c.sc.names.lookup x = some .globalImplicit := by rfl) (hd : (x == ("__debug__" : Str)) = false := by decide) (m : ∀ X : Cx, M1 X (.Name x p) "get" apos e cpos := by exact fun _ => ⟨rfl, rfl, rfl, rfl⟩) : JE c (.Call (.Attribute (.Name x p) "get" apos) [e] [] cpos) (dUn (kgtD kvs) de) := by
  obtain ⟨te, pe, le⟩ := h
  obtain ⟨a, es, n, h1, h2, h3⟩ := k.ex
  refine ⟨tUn (fun y H Q => ∃ (z : Str) (r : Option Value) (v0 : V), y = .str z ∧ PySem.W.nsIn c.K a z = some r ∧ RelV v0 (r.getD .none) ∧ Q v0 H) te, fun X ok => ⟨fun pins s σ H Q I want => ?_⟩,
    LE.un (fun Hv H le v y res hv e Q q => ?_) le⟩
  · have T : KDict X.K X.w a es n := by rw [ok.K, ok.w]; exact h2
    have ho : PE X (.Name x p) (tC (.ref a)) := pe_glob (v := .ref a) (u := .ref a) (by show X.env.scope.names.lookup x = _; rw [ok.sc]; exact hg) (by rw [ok.mg]; exact h1) rfl hd
    have m := m X
    refine wpAny_Call_method m.base m.few m.line PySem.F.plainAttrs_dict PySem.F.slot_dict_get PySem.F.type_dict_get (thn (ho.run pins s σ H (fun v H1 => v = .ref a ∧ H1 = H) I ⟨rfl, rfl⟩) fun u s1 got => ?_)
    obtain ⟨v, H1, J, rx, rfl, rfl⟩ := got
    cases rx
    refine ⟨kd_type T J, fun b eb => ?_, ?_⟩
    · cases eb
      exact ⟨_, J.kIn a _ T.at_, rfl⟩
    rw [m.trees]
    refine Calls.callWith_builtin rfl (Calls.evalArgs_plain (Calls.spliced_cons (thn ((pe X ok).run pins s1 σ _ _ J want) fun iv s2 got2 => Calls.spliced_nil ?_)))
    obtain ⟨y, H2, J2, ry, z, r, v0, rfl, g, r0, q2⟩ := got2
    obtain ⟨tk, rfl⟩ := ry
    refine call_meetsIn PySem.F.slot_dict_get (kd_type T J2) PySem.F.entry_dict_get (PySem.F.args_dict_get_2 _ _) (meets_dict_get (strKind X.prog X.w) a (k := z) (PySem.strKind_is X.prog X.w z tk) T.low) ⟨_, PySem.W.mapOf_K (prog := X.prog) J2.kIn T.at_ T.lit, ?_⟩
    have g' : PySem.W.nsIn X.K a z = some r := by rw [ok.K]; exact g
    rw [PySem.W.find_K T.at_ g']
    exact ⟨v0, H2, J2.tok _, r0, q2⟩
  · cases y <;> try (cases e; done)
    rename_i z
    cases e
    rw [hv.str]
    cases q1 : kvs.lookup z with
    | none =>
      refine ⟨z, none, .non, rfl, (h3 z).1 q1, rfl, q _ _ (.d ?_)⟩
      rw [q1]; exact .non
    | some y =>
      obtain ⟨u, w, e1, e2, e3⟩ := (h3 z).2 y q1
      refine ⟨z, some u, w, rfl, e1, e2, q _ _ (.d ?_)⟩
      rw [q1]; exact e3 _
/-- D.get(e, f), f's worth data -/
def dKg2 (kvs : List (Str × D)) (de df : DE) : DE := fun ρ u => match de ρ u with
  | none => none
  | some (r1, u1) => match df ρ u1 with
    | none => none
    | some (r2, u2) => match r2.sl, r1.sl.vw u2 with
      | .d y, some (.str z) => some (.s (.d ((kvs.lookup z).getD y)), u2)
      | _, _ => none
theorem je_kgt2 (k : KD c.K c.w c.mg x kvs) (h : JE c e de) (h2 : JE c f df) (hg : c.sc.names.lookup x = some .globalImplicit := by rfl) (hd : (x == ("__debug__" : Str)) = false := by decide) (m : ∀ X : Cx, M2 X (.Name x p) "get" apos e f cpos := by exact fun _ => ⟨rfl, rfl, rfl, rfl⟩) : JE c (.Call (.Attribute (.Name x p) "get" apos) [e, f] [] cpos) (dKg2 kvs de df) := by
  obtain ⟨te, pe, le⟩ := h
  obtain ⟨tf, pf, lf⟩ := h2
  obtain ⟨a, es, n, h1, h2, h3⟩ := k.ex
  refine ⟨fun σ H Q => te σ H fun y H1 => tf σ H1 fun d H2 => ∃ (z : Str) (r : Option Value) (v0 : V), y = .str z ∧ PySem.W.nsIn c.K a z = some r ∧ (r = none → v0 = d) ∧ (∀ u, r = some u → RelV v0 u) ∧ Q v0 H2, fun X ok => ⟨fun pins s σ H Q I want => ?_⟩, fun A ρ u res u' e σ H S L Q q => ?_⟩
  · have T : KDict X.K X.w a es n := by rw [ok.K, ok.w]; exact h2
    have ho : PE X (.Name x p) (tC (.ref a)) := pe_glob (v := .ref a) (u := .ref a) (by show X.env.scope.names.lookup x = _; rw [ok.sc]; exact hg) (by rw [ok.mg]; exact h1) rfl hd
    have m := m X
    refine wpAny_Call_method m.base m.few m.line PySem.F.plainAttrs_dict PySem.F.slot_dict_get PySem.F.type_dict_get (thn (ho.run pins s σ H (fun v H1 => v = .ref a ∧ H1 = H) I ⟨rfl, rfl⟩) fun u s1 got => ?_)
    obtain ⟨v, H1, J, rx, rfl, rfl⟩ := got
    cases rx
    refine ⟨kd_type T J, fun b eb => ?_, ?_⟩
    · cases eb
      exact ⟨_, J.kIn a _ T.at_, rfl⟩
    rw [m.trees]
    refine Calls.callWith_builtin rfl (Calls.evalArgs_plain (Calls.spliced_cons (thn ((pe X ok).run pins s1 σ _ _ J want) fun iv s2 got2 => ?_)))
    obtain ⟨y, H2, J2, ry, want2⟩ := got2
    refine Calls.spliced_cons (thn ((pf X ok).run pins s2 σ _ _ J2 want2) fun dv s3 got3 => Calls.spliced_nil ?_)
    obtain ⟨d, H3, J3, rd, z, r, v0, rfl, g, r0, r1, q2⟩ := got3
    obtain ⟨tk, rfl⟩ := ry
    refine call_meetsIn PySem.F.slot_dict_get (kd_type T J3) PySem.F.entry_dict_get (PySem.F.args_dict_get_3 _ _ _) (meets_dict_get_default (strKind X.prog X.w) a (k := z) (PySem.strKind_is X.prog X.w z tk) T.low dv) ⟨_, PySem.W.mapOf_K (prog := X.prog) J3.kIn T.at_ T.lit, ?_⟩
    have g' : PySem.W.nsIn X.K a z = some r := by rw [ok.K]; exact g
    rw [PySem.W.find_K T.at_ g']
    refine ⟨v0, H3, J3.tok _, ?_, q2⟩
    cases r with
    | none => rw [r0 rfl]; exact rd
    | some u => exact r1 u rfl
  · unfold dKg2 at e
    cases e1 : de ρ u with
    | none => rw [e1] at e; cases e
    | some p1 =>
      obtain ⟨r1, u1⟩ := p1
      rw [e1] at e
      simp only at e
      cases e2 : df ρ u1 with
      | none => rw [e2] at e; cases e
      | some p2 =>
        obtain ⟨r2, u2⟩ := p2
        rw [e2] at e
        simp only at e
        refine le A ρ u r1 u1 e1 σ H S L _ fun v1 H1 P1 => ?_
        obtain ⟨A1, st1, S1, rv1⟩ := P1.ret
        refine lf A1 ρ u1 r2 u2 e2 σ H1 S1 (st1.slots L) _ fun v2 H2 P2 => ?_
        obtain ⟨A2, st2, S2, rv2⟩ := P2.ret
        split at e
        · rename_i y z hy hz
          cases e
          rw [hy] at rv2
          have hv := ((st2.rv rv1).vw S2 hz).str
          cases q1 : kvs.lookup z with
          | none =>
            refine ⟨z, none, v2, hv, (h3 z).1 q1, fun _ => rfl, fun u z => (nomatch z), q _ _ ⟨A2, st1.trans st2, S2, ?_⟩⟩
            rw [q1]; exact rv2
          | some y =>
            obtain ⟨u, w, g1, g2, g3⟩ := (h3 z).2 y q1
            refine ⟨z, some u, w, hv, g1, fun z => (nomatch z), fun u' z => by cases z; exact g2, q _ _ ⟨A2, st1.trans st2, S2, ?_⟩⟩
            rw [q1]; exact g3 _
        · cases e
end
/-! what a written dict holds, as a check -/
mutual
def vdB (K : PySem.W.Frag) : Value → D → Bool
  | .none, .none => true
  | .bool a, .bool b => a == b
  | .int a _, .int b => a == b
  | .str a _, .str b => decide (a = b)
  | .ref p, .tuple ds => match K.lookup p with
    | some ⟨.type t, _, .seq its _, _⟩ => decide (t = "tuple") && (decide (its.size ≤ SZ) && vdBs K its.toList ds)
    | _ => false
  | .ref p, .list ds => match K.lookup p with
    | some ⟨.type t, none, .seq its _, _⟩ => decide (t = "list") && (decide (its.size ≤ SZ) && vdBs K its.toList ds)
    | _ => false
  | _, _ => false
def vdBs (K : PySem.W.Frag) : List Value → List D → Bool
  | [], [] => true
  | v :: vs, d :: ds => vdB K v d && vdBs K vs ds
  | _, _ => false
end
mutual
theorem vdB_ok {K : PySem.W.Frag} : ∀ (d : D) {u : Value}, vdB K u d = true → ∃ v, RelV v u ∧ ∀ H, Rp K H v d
  | .none, u, h => by
    cases u <;> first | exact ⟨.non, rfl, fun _ => .non⟩ | (simp [vdB] at h; done)
  | .bool b, u, h => by
    cases u <;> try (simp [vdB] at h; done)
    rename_i a
    have : a = b := by simpa [vdB] using h
    subst this
    exact ⟨.bl a, rfl, fun _ => .bl a⟩
  | .int b, u, h => by
    cases u <;> try (simp [vdB] at h; done)
    rename_i a t
    have : a = b := by simpa [vdB] using h
    subst this
    exact ⟨.int a, ⟨t, rfl⟩, fun _ => .int a⟩
  | .str b, u, h => by
    cases u <;> try (simp [vdB] at h; done)
    rename_i a t
    have : a = b := by simpa [vdB] using h
    subst this
    exact ⟨.str a, ⟨t, rfl⟩, fun _ => .str a⟩
  | .tuple ds, u, h => by
    cases u <;> try (simp [vdB] at h; done)
    rename_i p
    unfold vdB at h
    split at h
    · rename_i t dd its n sl hl
      rw [Bool.and_eq_true, Bool.and_eq_true] at h
      obtain ⟨h1, h2, h3⟩ := h
      have h1 := of_decide_eq_true h1
      have h2 := of_decide_eq_true h2
      subst h1
      obtain ⟨vs, rv, rp⟩ := vdBs_ok ds h3
      exact ⟨.ref p, rfl, fun H => .tup (.inr ⟨_, its, n, hl, rfl, rfl, by rw [sizeLine_eq]; exact h2, rv⟩) (rp H)⟩
    · cases h
  | .list ds, u, h => by
    cases u <;> try (simp [vdB] at h; done)
    rename_i p
    unfold vdB at h
    split at h
    · rename_i t its n sl hl
      rw [Bool.and_eq_true, Bool.and_eq_true] at h
      obtain ⟨h1, h2, h3⟩ := h
      have h1 := of_decide_eq_true h1
      have h2 := of_decide_eq_true h2
      subst h1
      obtain ⟨vs, rv, rp⟩ := vdBs_ok ds h3
      exact ⟨.ref p, rfl, fun H => .lst (.inr ⟨_, its, n, hl, rfl, rfl, rfl, by rw [sizeLine_eq]; exact h2, rv⟩) (rp H)⟩
    · cases h
  | .dict kvs, u, h => by
    cases u <;> simp [vdB] at h
theorem vdBs_ok {K : PySem.W.Frag} : ∀ (ds : List D) {us : List Value}, vdBs K us ds = true → ∃ vs, Vals vs us ∧ ∀ H, RpA K H vs ds
  | [], us, h => by
    cases us with
    | nil => exact ⟨[], .nil, fun _ => .nil⟩
    | cons _ _ => simp [vdBs] at h
  | d :: ds, us, h => by
    cases us with
    | nil => simp [vdBs] at h
    | cons u us =>
      have h : vdB K u d = true ∧ vdBs K us ds = true := by simpa [vdBs] using h
      obtain ⟨v, r1, p1⟩ := vdB_ok d h.1
      obtain ⟨vs, r2, p2⟩ := vdBs_ok ds h.2
      exact ⟨v :: vs, .cons r1 r2, fun H => .cons (p1 H) (p2 H)⟩
end
def kdB (K : PySem.W.Frag) (a : Addr) (kvs : List (Str × D)) : Bool := match K.lookup a with
  | some ⟨_, _, .dict es _, _⟩ => go es.toList kvs
  | _ => false
where
  go : List DictEntry → List (Str × D) → Bool
    | [], [] => true
    | e :: es, p :: kvs => (match e.key with
      | .str x _ => decide (x = p.1)
      | _ => false) && (vdB K e.val p.2 && go es kvs)
    | _, _ => false
theorem kd_go {K : PySem.W.Frag} : ∀ {es : List DictEntry} {kvs : List (Str × D)}, kdB.go K es kvs = true → (es.any (·.refKey)) = false ∧ ∀ z : Str,
    (kvs.lookup z = none → es.find? (·.key.isStr z) = none) ∧ ∀ y, kvs.lookup z = some y → ∃ e v, es.find? (·.key.isStr z) = some e ∧ RelV v e.val ∧ ∀ H, Rp K H v y
  | [], [], _ => ⟨rfl, fun z => ⟨fun _ => rfl, fun y h => by simp at h⟩⟩
  | [], _ :: _, h => by simp [kdB.go] at h
  | _ :: _, [], h => by simp [kdB.go] at h
  | e :: es, p :: kvs, h => by
    unfold kdB.go at h
    rw [Bool.and_eq_true, Bool.and_eq_true] at h
    obtain ⟨h1, h2, h3⟩ := h
    obtain ⟨x, y⟩ := p
    split at h1
    · rename_i k t hk
      have h1 : k = x := of_decide_eq_true h1
      subst h1
      obtain ⟨g1, g2⟩ := kd_go h3
      obtain ⟨v, r1, r2⟩ := vdB_ok y h2
      refine ⟨?_, fun z => ?_⟩
      · rw [List.any_cons, g1, Bool.or_false]
        unfold DictEntry.refKey
        rw [hk]
      · have isS : e.key.isStr z = decide (k = z) := by
          rw [hk]
          show (k == z) = decide (k = z)
          rw [Bool.eq_iff_iff]
          simp
        rw [List.find?_cons, isS, List.lookup_cons]
        by_cases n : z = k
        · subst n
          simp
          exact ⟨v, r1, r2⟩
        · have n1 : (z == k) = false := by simpa using n
          have n2 : decide (k = z) = false := by simpa using fun q => n q.symm
          rw [n1, n2]
          exact g2 z
    · cases h1
/-- the table by two looks at what stands -/
theorem KD.by {K : PySem.W.Frag} {w : World} {mg : Str → Option Value} {x : Str} {kvs : List (Str × D)} {a : Addr} (h : mg x = some (.ref a)) (d : He.dicW K a = some (He.keysIn w.params (kvs.map (·.1)))) (b : kdB K a kvs = true) : KD K w mg x kvs := by
  obtain ⟨es, n, T⟩ := He.dicW_ok d
  refine ⟨a, es, n, h, T, fun z => ?_⟩
  have look := T.at_
  unfold kdB at b
  rw [look] at b
  obtain ⟨g1, g2⟩ := kd_go b
  unfold PySem.W.nsIn
  rw [look]
  refine ⟨fun q => ?_, fun y q => ?_⟩
  · simp only
    rw [(g2 z).1 q, g1]
    rfl
  · obtain ⟨e, v, h1, h2, h3⟩ := (g2 z).2 y q
    exact ⟨e.val, v, by simp only; rw [h1], h2, h3⟩
end DL
end

section
set_option Elab.async false
set_option maxRecDepth 100000
set_option maxHeartbeats 4000000
/-! stores into live objects, displays of dicts, the rest of what a def says -/
namespace DL
open PySem L2

/-! ### x[i] = v -/
def putG {κ β : Type} [DecidableEq κ] (kvs : List (κ × β)) (k : κ) (v : β) : List (κ × β) :=
  if (kvs.any fun q => decide (q.1 = k)) = true then (kvs.map fun q => if q.1 = k then (q.1, v) else q)
  else kvs ++ [(k, v)]
def dropG {κ β : Type} [DecidableEq κ] (kvs : List (κ × β)) (k : κ) : List (κ × β) := kvs.filter fun kv => decide (kv.1 ≠ k)
def valG {κ β : Type} [DecidableEq κ] (kvs : List (κ × β)) (k : κ) : Option β := (kvs.find? fun kv => decide (kv.1 = k)).map (·.2)
def RK {κ : Type} (K : PySem.W.Frag) (Hv : Hp) (ws : List (κ × V)) (kvs : List (κ × D)) : Prop := ws.map (·.1) = kvs.map (·.1) ∧ RpA K Hv (ws.map (·.2)) (kvs.map (·.2))
section
variable {κ : Type} [DecidableEq κ] {K : PySem.W.Frag} {Hv : Hp}
theorem RK.len {ws : List (κ × V)} {kvs : List (κ × D)} (h : RK K Hv ws kvs) : ws.length = kvs.length := by simpa using congrArg List.length h.1
theorem RK.any {ws : List (κ × V)} {kvs : List (κ × D)} (h : RK K Hv ws kvs) (k : κ) : (ws.any fun kv => decide (kv.1 = k)) = kvs.any fun kv => decide (kv.1 = k) := by
  have e1 : (ws.any fun kv => decide (kv.1 = k)) = (ws.map (·.1)).any fun x => decide (x = k) := by rw [List.any_map]; rfl
  have e2 : (kvs.any fun kv => decide (kv.1 = k)) = (kvs.map (·.1)).any fun x => decide (x = k) := by rw [List.any_map]; rfl
  rw [e1, e2, h.1]
theorem RK.put {ws : List (κ × V)} {kvs : List (κ × D)} (h : RK K Hv ws kvs) (k : κ) {v : V} {x : D} (hv : Rp K Hv v x) : RK K Hv (putK ws k v) (putG kvs k x) := by
  unfold putK putG
  rw [h.any k]
  split
  · rename_i hany
    clear hany
    obtain ⟨h1, h2⟩ := h
    induction ws generalizing kvs with
    | nil =>
      cases kvs with
      | nil => exact ⟨rfl, .nil⟩
      | cons _ _ => simp at h1
    | cons p ws ih =>
      cases kvs with
      | nil => simp at h1
      | cons q kvs =>
        rw [List.map_cons, List.map_cons] at h1 h2
        cases h2 with
        | cons h3 h4 =>
          obtain ⟨e1, e2⟩ := List.cons.inj h1
          obtain ⟨i1, i2⟩ := ih e2 h4
          rw [List.map_cons, List.map_cons, e1]
          by_cases n : q.1 = k
          · rw [if_pos n, if_pos n]
            exact ⟨by rw [List.map_cons, List.map_cons, i1], .cons hv i2⟩
          · rw [if_neg n, if_neg n]
            exact ⟨by rw [List.map_cons, List.map_cons, i1, e1], .cons h3 i2⟩
  · obtain ⟨h1, h2⟩ := h
    refine ⟨by rw [List.map_append, List.map_append, h1]; rfl, ?_⟩
    rw [List.map_append, List.map_append]
    exact h2.append (.cons hv .nil)
theorem RK.drop {ws : List (κ × V)} {kvs : List (κ × D)} (h : RK K Hv ws kvs) (k : κ) : RK K Hv (dropK ws k) (dropG kvs k) := by
  unfold dropK dropG
  obtain ⟨h1, h2⟩ := h
  induction ws generalizing kvs with
  | nil =>
    cases kvs with
    | nil => exact ⟨rfl, .nil⟩
    | cons _ _ => simp at h1
  | cons p ws ih =>
    cases kvs with
    | nil => simp at h1
    | cons q kvs =>
      rw [List.map_cons, List.map_cons] at h1 h2
      cases h2 with
      | cons h3 h4 =>
        obtain ⟨e1, e2⟩ := List.cons.inj h1
        obtain ⟨i1, i2⟩ := ih e2 h4
        rw [List.filter_cons, List.filter_cons, e1]
        by_cases n : q.1 = k
        · rw [if_neg (by simpa using n), if_neg (by simpa using n)]
          exact ⟨i1, i2⟩
        · rw [if_pos (by simpa using n), if_pos (by simpa using n)]
          exact ⟨by rw [List.map_cons, List.map_cons, i1, e1], .cons h3 i2⟩
theorem RK.val {ws : List (κ × V)} {kvs : List (κ × D)} (h : RK K Hv ws kvs) (k : κ) : OR K Hv (valV ws k) (valG kvs k) := by
  obtain ⟨h1, h2⟩ := h
  induction ws generalizing kvs with
  | nil =>
    cases kvs with
    | nil => trivial
    | cons _ _ => simp at h1
  | cons p ws ih =>
    cases kvs with
    | nil => simp at h1
    | cons q kvs =>
      rw [List.map_cons, List.map_cons] at h1 h2
      cases h2 with
      | cons h3 h4 =>
        obtain ⟨e1, e2⟩ := List.cons.inj h1
        by_cases n : q.1 = k
        · rw [valV_pos (by rw [e1]; exact n)]
          have : valG (q :: kvs) k = some q.2 := by simp [valG, List.find?_cons, n]
          rw [this]; exact h3
        · rw [valV_neg (by rw [e1]; exact n)]
          have : valG (q :: kvs) k = valG kvs k := by simp [valG, List.find?_cons, n]
          rw [this]; exact ih e2 h4
end
/-- what the object holds behind o[i] = x -/
def putF (u : List Ob) : MO → Rt → D → Option MO
  | .lst xs, ri, x => match ri.sl.vw u with
    | some (.int i) => match ixN xs.length i with
      | some j => some (.lst (xs.set j x))
      | none => none
    | _ => none
  | .dic kvs, ri, x => match ri.sl.vw u with
    | some y => match keyOf y with
      | some k => if kvs.length < SZ then some (.dic (putG kvs k x)) else none
      | none => none
    | _ => none
  | .dit kvs, .nw (.tup ks), x => match allOf keyOf ks with
    | some k => if kvs.length < SZ then some (.dit (putG kvs k x)) else none
    | none => none
  | _, _, _ => none
def sPut (i : Nat) (dx de : DE) : DS := fun ρ u => match de ρ u with
  | none => none
  | some (r, u1) => match ρ[i]? with
    | some (.m j) => match dx ρ u1 with
      | none => none
      | some (ri, u2) => match r.sl.dat u2 with
        | none => none
        | some (x, u3) => match u3[j]? with
          | some b => if b.live then match putF u3 b.o ri x with
            | some mo => some (.nx ρ (u3.set j ⟨true, mo⟩))
            | none => none
            else none
          | none => none
    | _ => none
theorem putF_T {u : List Ob} {m mo : MO} {ri : Rt} {x : D} (h : putF u m ri x = some mo) : mo.isT = false := by
  unfold putF at h
  repeat' (split at h)
  all_goals first | (cases h; rfl) | (cases h; done)
theorem LS.put {K : PySem.W.Frag} {i : Nat} {te ti : TE} {de dx : DE} (he : LE K te de) (hx : LE K ti dx) : LS K (tAsg te (gSub (tVar i) ti fun o i v H Q => rSetL o i v H Q ∨ rSetD o i v H Q)) (sPut i dx de) := by
  intro A ρ u o e σ H S L Dn q
  unfold sPut at e
  cases e1 : de ρ u with
  | none => rw [e1] at e; cases e
  | some p1 =>
    obtain ⟨r, u1⟩ := p1
    rw [e1] at e
    simp only at e
    refine he A ρ u r u1 e1 σ H S L _ fun v1 H1 P1 => ?_
    obtain ⟨A1, st1, S1, rv1⟩ := P1.ret
    split at e
    · rename_i j hi
      have L1 := st1.slots L
      rcases L1.get i _ hi with z | ⟨v, e0, rv⟩
      · cases z
      obtain ⟨a, hA, rfl⟩ := rv
      refine ⟨_, e0, ?_⟩
      cases e2 : dx ρ u1 with
      | none => rw [e2] at e; cases e
      | some p2 =>
        obtain ⟨ri, u2⟩ := p2
        rw [e2] at e
        simp only at e
        refine hx A1 ρ u1 ri u2 e2 σ H1 S1 L1 _ fun v2 H2 P2 => ?_
        have tk : ∀ ks, ri = .nw (.tup ks) → ∃ p vs, v2 = .ref p ∧ H2 p = some (.tup vs) ∧ ∀ k, allOf keyOf ks = some k → vs = k.map kV := fun ks z => by
          subst z
          obtain ⟨A', H', p, o', _, _, _, rfl, rfl, cc⟩ := P2
          cases o' <;> first | exact (show False from cc).elim | exact ⟨p, _, rfl, upd_same, fun k hk => kv_map (show RpA K _ _ ks from cc) hk⟩
        obtain ⟨A2, st2, S2, rv2⟩ := P2.ret
        split at e
        · cases e
        · rename_i x u3 e3
          obtain ⟨S3, st3, rx⟩ := (st2.rv rv1).dat S2 e3
          have rv3 := st3.rv rv2
          split at e
          · rename_i b hb
            split at e
            · rename_i hl
              split at e
              · rename_i mo hp
                cases e
                have hA2 := st3.at (st2.at hA)
                obtain ⟨ho, -, h0, cc⟩ := S3.ob j a b hA2 hb
                replace h0 := h0 hl
                have fin : ∀ o', ObC K (vis A2 u3 H2) o' mo → Dn.nx σ (upd H2 a o') := fun o' c' => by
                  obtain ⟨S4, st4⟩ := S3.write hA2 hb hl (putF_T hp) c'
                  have st14 := ((st1.trans st2).trans st3).trans st4
                  exact q _ _ _ st14 S4 (st14.slots L)
                cases hm : b.o with
                | lst xs =>
                  rw [hm] at hp cc
                  simp only [putF] at hp
                  split at hp <;> try (cases hp; done)
                  rename_i k hk
                  split at hp <;> cases hp
                  rename_i jj hj
                  cases ho <;> first | exact (show False from cc).elim | skip
                  have cc : RpA K _ _ xs := cc
                  exact .inl ⟨a, _, k, jj, rfl, (rv3.vw S3 hk).int, h0, by rw [cc.length]; exact hj, fin _ (cc.set jj rx)⟩
                | tup xs => rw [hm] at hp; simp only [putF] at hp; cases hp
                | dic kvs =>
                  rw [hm] at hp cc
                  simp only [putF] at hp
                  split at hp <;> try (cases hp; done)
                  rename_i y hy
                  split at hp <;> try (cases hp; done)
                  rename_i k hk
                  split at hp <;> cases hp
                  rename_i hz
                  cases ho <;> first | exact (show False from cc).elim | skip
                  rename_i ws
                  have rk : RK K (vis A2 u3 H2) ws kvs := cc
                  have ek := (rv3.vw S3 hy).key hk
                  exact .inr ⟨a, _, rfl, .inl ⟨_, k, h0, ek, by rw [rk.len, sizeLine_eq]; exact hz, rfl⟩, fin _ (rk.put k rx)⟩
                | dit kvs =>
                  rw [hm] at hp cc
                  cases ri with
                  | s z => simp [putF] at hp
                  | nw m =>
                    cases m with
                    | lst _ => simp [putF] at hp
                    | dic _ => simp [putF] at hp
                    | dit _ => simp [putF] at hp
                    | tup ks =>
                      simp only [putF] at hp
                      split at hp <;> try (cases hp; done)
                      rename_i k hk
                      split at hp <;> cases hp
                      rename_i hz
                      cases ho <;> first | exact (show False from cc).elim | skip
                      rename_i ws
                      have rk : RK K (vis A2 u3 H2) ws kvs := cc
                      obtain ⟨p, vs, rfl, hp2, hv⟩ := tk _ rfl
                      have hv := hv k hk
                      subst hv
                      exact .inr ⟨a, _, rfl, .inr ⟨_, k, p, h0, rfl, hp2, by rw [rk.len, sizeLine_eq]; exact hz, rfl⟩, fin _ (rk.put k rx)⟩
              · cases e
            · cases e
          · cases e
    · cases e
theorem PSet.or {X : Cx} {t t' : TSet} (h : PSet X t) (h' : PSet X t') : PSet X (fun o i v H Q => t o i v H Q ∨ t' o i v H Q) := by
  intro pins s σ H o i v ov iv u Q I ro ri rv q
  rcases q with q | q
  · exact h pins s σ H o i v ov iv u Q I ro ri rv q
  · exact h' pins s σ H o i v ov iv u Q I ro ri rv q
theorem js_put {c : Ct} {e ix : Expr} {de dx : DE} {x : Str} {p p2 pos : Pos} (i : Nat) (hx : JE c ix dx) (he : JE c e de) (hN : c.N[i]? = some x := by rfl) (hv : Vis c.sc x := by first | exact Or.inl rfl | exact Or.inr (Or.inl rfl) | exact Or.inr (Or.inr rfl)) (hd : (x == ("__debug__" : Str)) = false := by decide) (hcd : (x == ("__classdict__" : Str)) = false := by decide)
    (ha : ∀ env v, assign (.Subscript (.Name x p) ix p2) env v = (do
      let ov ← holding [v] (eval (.Name x p) env)
      let iv ← holding [v, ov] (eval ix env)
      standAt p2
      holding [v, ov, iv] (setItem ov iv v)
      release [v, ov, iv] []) := by intro _ _; rfl)
    (hs : ∀ env, swapsWithSole [.Subscript (.Name x p) ix p2] e pos.line env = pure false := by intro _; rfl) (hw : ∀ env, swappedStores [.Subscript (.Name x p) ix p2] e env = pure none := by intro _; rfl)
    (h1 : ∀ env, (assignEach [.Subscript (.Name x p) ix p2] env).map (·.2) = [assign (.Subscript (.Name x p) ix p2) env] := by intro _; rfl) : JS c (.Assign [.Subscript (.Name x p) ix p2] e pos) (sPut i dx de) := by
  obtain ⟨te, pe, le⟩ := he
  obtain ⟨ti, pi, li⟩ := hx
  exact ⟨_, fun X ok => ps_asg (pe X ok) (pg_sub (pe_var (by rw [ok.N]; exact hN) (by rw [ok.sc]; exact hv) hd hcd) (pi X ok) (PSet.or set_list (set_dict (by have := ok.room.units; omega))) (ha _)) (hs _) (hw _) (h1 _), LS.put le li⟩
end DL
end

section
set_option Elab.async false
set_option maxRecDepth 100000
set_option maxHeartbeats 4000000
/-! displays of dicts, copies, pop; is for truths; a, b = e, f -/
namespace DL
open PySem L2

/-! ### {k: v, ..} -/
def pairsD : List (DE × DE) → List Sl → List Ob → Option (List (Sl × Sl) × List Ob)
  | [], _, u => some ([], u)
  | p :: r, ρ, u => match p.1 ρ u with
    | none => none
    | some (r1, u1) => match p.2 ρ u1 with
      | none => none
      | some (r2, u2) => match pairsD r ρ u2 with
        | none => none
        | some (ss, u3) => some ((r1.sl, r2.sl) :: ss, u3)
def slK : Sl → Option Key
  | .d x => keyOf x
  | _ => none
def slKs : List Sl → Option (List Key)
  | [] => some []
  | s :: r => match slK s, slKs r with
    | some k, some ks => some (k :: ks)
    | _, _ => none
def mergeG (kvs more : List (Key × D)) : List (Key × D) := more.foldl (fun acc kv => putG acc kv.1 kv.2) kvs
def dDisp (ps : List (DE × DE)) : DE := fun ρ u => match pairsD ps ρ (u ++ [⟨true, .dic []⟩]) with
  | none => none
  | some (ss, u1) => match slKs (ss.map (·.1)) with
    | none => none
    | some ks => match dats u1 (ss.map (·.2)) with
      | none => none
      | some (xs, u2) => match u2[u.length]? with
        | some ⟨true, .dic []⟩ => if xs.length ≤ 15 then some (.nw (.dic (mergeG [] (ks.zip xs))), u2.take u.length) else none
        | _ => none
def LPs (K : PySem.W.Frag) (trs : List (TE × TE)) (ps : List (DE × DE)) : Prop := ∀ (A : List Addr) (ρ : List Sl) (u : List Ob) (ss : List (Sl × Sl)) (u' : List Ob), pairsD ps ρ u = some (ss, u') →
  ∀ (σ : L2.St) (H : Hp), Store K A u H → Slots K A (vis A u H) ρ σ → ∀ Q : List (V × V) → Hp → Prop, (∀ vs H', (∃ A', Step A u H A' u' H' ∧ Store K A' u' H' ∧ RVs K A' (vis A' u' H') (vs.map (·.1)) (ss.map (·.1)) ∧ RVs K A' (vis A' u' H') (vs.map (·.2)) (ss.map (·.2))) → Q vs H') → tPairs trs σ H Q
section
variable {K : PySem.W.Frag}
theorem LPs.nil : LPs K [] [] := fun A ρ u ss u' e σ H S L Q q => by cases e; exact q [] H ⟨A, Step.refl, S, trivial, trivial⟩
theorem LPs.cons {tk tv : TE} {trs : List (TE × TE)} {dk dv : DE} {ps : List (DE × DE)} (h1 : LE K tk dk) (h2 : LE K tv dv) (h3 : LPs K trs ps) : LPs K ((tk, tv) :: trs) ((dk, dv) :: ps) := by
  intro A ρ u ss u' e σ H S L Q q
  unfold pairsD at e
  simp only at e
  cases e1 : dk ρ u with
  | none => rw [e1] at e; cases e
  | some p1 =>
    obtain ⟨r1, u1⟩ := p1
    rw [e1] at e
    simp only at e
    cases e2 : dv ρ u1 with
    | none => rw [e2] at e; cases e
    | some p2 =>
      obtain ⟨r2, u2⟩ := p2
      rw [e2] at e
      simp only at e
      cases e3 : pairsD ps ρ u2 with
      | none => rw [e3] at e; cases e
      | some p3 =>
        obtain ⟨s3, u3⟩ := p3
        rw [e3] at e
        cases e
        refine h1 A ρ u r1 u1 e1 σ H S L _ fun v1 H1 P1 => ?_
        obtain ⟨A1, st1, S1, rv1⟩ := P1.ret
        refine h2 A1 ρ u1 r2 u2 e2 σ H1 S1 (st1.slots L) _ fun v2 H2 P2 => ?_
        obtain ⟨A2, st2, S2, rv2⟩ := P2.ret
        refine h3 A2 ρ u2 s3 _ e3 σ H2 S2 ((st1.trans st2).slots L) _ fun vs H3 P3 => ?_
        obtain ⟨A3, st3, S3, k3, w3⟩ := P3
        exact q _ _ ⟨A3, (st1.trans st2).trans st3, S3, ⟨st3.rv (st2.rv rv1), k3⟩, ⟨st3.rv rv2, w3⟩⟩
theorem RVs.keys {A : List Addr} {Hv : Hp} : ∀ {vs : List V} {ss : List Sl} {ks : List Key}, RVs K A Hv vs ss → slKs ss = some ks → vs = ks.map kV
  | [], [], ks, _, e => by cases e; rfl
  | v :: vs, s :: ss, ks, ⟨h, r⟩, e => by
    unfold slKs at e
    cases e1 : slK s with
    | none => rw [e1] at e; cases e
    | some k =>
      cases e2 : slKs ss with
      | none => rw [e1, e2] at e; cases e
      | some t =>
        rw [e1, e2] at e
        cases e
        rw [List.map_cons, RVs.keys r e2]
        cases s with
        | un => exact h.elim
        | m j => cases e1
        | d x => rw [(show Rp K Hv v x from h).key e1]
  | [], _ :: _, _, h, _ => h.elim
  | _ :: _, [], _, h, _ => h.elim
theorem merge_rk {Hv : Hp} : ∀ {ks : List Key} {vs : List V} {xs : List D} {ws : List (Key × V)} {kvs : List (Key × D)}, RK K Hv ws kvs → RpA K Hv vs xs → ks.length = vs.length → RK K Hv (mergeK ws (ks.zip vs)) (mergeG kvs (ks.zip xs))
  | [], [], _, ws, kvs, h, .nil, _ => h
  | k :: ks, v :: vs, _, ws, kvs, h, .cons hv r, e => merge_rk (ks := ks) (h.put k hv) r (by simpa using e)
  | [], _ :: _, _, _, _, _, _, e => by simp at e
  | _ :: _, [], _, _, _, _, _, e => by simp at e
theorem zip_split : ∀ {ps : List (V × V)} {ks : List Key}, ps.map (·.1) = ks.map kV → ps = (ks.zip (ps.map (·.2))).map fun kv => (kV kv.1, kv.2)
  | [], [], _ => rfl
  | p :: ps, k :: ks, h => by
    rw [List.map_cons, List.map_cons] at h
    obtain ⟨h1, h2⟩ := List.cons.inj h
    rw [List.map_cons, List.zip_cons_cons, List.map_cons, ← zip_split h2, ← h1]
  | [], _ :: _, h => by simp at h
  | _ :: _, [], h => by simp at h
theorem upd_minus {H : Hp} {p : Addr} {o : HO} : upd (minus H p) p o = upd H p o := by
  funext a
  by_cases e : a = p
  · subst e; rw [upd_same, upd_same]
  · rw [upd_ne e, upd_ne e, minus_ne e]
theorem LE.ddisp {trs : List (TE × TE)} {ps : List (DE × DE)} (h : LPs K trs ps) : LE K (tDisp trs) (dDisp ps) := by
  intro A ρ u res u' e σ H S L Q q
  unfold dDisp at e
  cases e1 : pairsD ps ρ (u ++ [⟨true, .dic []⟩]) with
  | none => rw [e1] at e; cases e
  | some p1 =>
    obtain ⟨ss, u1⟩ := p1
    rw [e1] at e
    simp only at e
    cases e2 : slKs (ss.map (·.1)) with
    | none => rw [e2] at e; cases e
    | some ks =>
      rw [e2] at e
      simp only at e
      cases e3 : dats u1 (ss.map (·.2)) with
      | none => rw [e3] at e; cases e
      | some p3 =>
        obtain ⟨xs, u2⟩ := p3
        rw [e3] at e
        simp only at e
        split at e
        · rename_i hk
          split at e
          · rename_i h15
            cases e
            intro Dd hD
            obtain ⟨S0, st0⟩ := S.own (o := .dK []) (mo := .dic []) hD rfl ⟨rfl, .nil⟩
            refine h _ ρ _ ss u1 e1 σ _ S0 (st0.slots L) _ fun vs H1 P => ?_
            obtain ⟨A1, st1, S1, rk, rvv⟩ := P
            obtain ⟨S2, st2, rp⟩ := rvv.dats S1 e3
            have st12 := st1.trans st2
            have kk := rk.keys e2
            have hA : A.length = u.length := S.len
            obtain ⟨B, hB⟩ := (show ∃ B, A1 = (A ++ [Dd]) ++ B from st12.pre)
            have hD1 : A1[u.length]? = some Dd := by
              rw [hB, ← hA, List.append_assoc, List.getElem?_append_right (Nat.le_refl _)]
              simp
            obtain ⟨ho, -, h0, cc⟩ := S2.ob u.length Dd _ hD1 hk
            replace h0 := h0 rfl
            cases ho <;> first | exact (show False from cc).elim | skip
            rename_i ws
            have cc : RK K (vis A1 u2 H1) ws [] := cc
            have e0 : ws = [] := List.length_eq_zero_iff.mp (by rw [cc.len]; rfl)
            subst e0
            have lv : ks.length = (vs.map (·.2)).length := by
              have := congrArg List.length kk
              simpa using this.symm
            refine ⟨h0, ks.zip (vs.map (·.2)), zip_split kk, ?_, ?_⟩
            · rw [List.length_zip, rp.length]
              omega
            have S3 := (S2.cut (u.length + 1)).1
            have le3 := (S2.cut (u.length + 1)).2
            have st3 := (st0.trans st12).cut S2 (n := u.length + 1) (by omega)
            rw [get_take hk, hB, take_pre hA.symm] at S3 st3 le3
            obtain ⟨o, h1, h2, h3, ev⟩ := S3.pop
            refine q _ _ ⟨A, minus H1 Dd, Dd, _, ⟨⟨[], by simp⟩, ?_, fun a ha => ?_, fun a q y h => ?_⟩, h3, minus_same, rfl, upd_minus.symm, ?_⟩
            · rw [← ev]
              exact st3.keep
            · by_cases z : a = Dd
              · rw [z]; exact hD
              · rw [minus_ne z] at ha; exact st3.dom a ha
            · have f := st3.fr a q y h
              have e : a ≠ Dd := fun z => by
                rw [z, h1] at f
                cases f
                exact (show False from h2).elim
              rw [minus_ne e]; exact f
            · exact merge_rk (ws := []) (kvs := []) ⟨rfl, .nil⟩ (rp.mono (by rw [← ev]; exact hB ▸ le3)) lv
          · cases e
        · cases e
end
def JPs (c : Ct) (keys : List (Option Expr)) (values : List Expr) (ps : List (DE × DE)) : Prop := ∃ trs, (∀ X, OkX c X → ∀ pos, PPs X pos keys values trs) ∧ LPs c.K trs ps
section
variable {c : Ct} {k v e : Expr} {ks : List (Option Expr)} {vs : List Expr} {dk dv de : DE} {ps : List (DE × DE)} {pos p : Pos}
theorem jps_nil : JPs c [] [] [] := ⟨[], fun _ _ _ => pps_nil, LPs.nil⟩
theorem jps_cons (h1 : JE c k dk) (h2 : JE c v dv) (h3 : JPs c ks vs ps) : JPs c (some k :: ks) (v :: vs) ((dk, dv) :: ps) := by
  obtain ⟨t1, p1, l1⟩ := h1
  obtain ⟨t2, p2, l2⟩ := h2
  obtain ⟨t3, p3, l3⟩ := h3
  exact ⟨_, fun X ok pos => pps_cons (p1 X ok) (p2 X ok) (p3 X ok pos), LPs.cons l1 l2 l3⟩
theorem je_disp (h : JPs c (some k :: ks) (v :: vs) ps) (hall : (some k :: ks).all (·.isSome) = true := by rfl) (hl : (some k :: ks).length = (v :: vs).length := by rfl) (h15 : (some k :: ks).length ≤ 15 := by decide) : JE c (.Dict (some k :: ks) (v :: vs) pos) (dDisp ps) := by
  obtain ⟨t, p, l⟩ := h
  exact ⟨_, fun X ok => pe_disp (p X ok pos) hall hl (by simp) h15, LE.ddisp l⟩
end

/-! ### dict(d) -/
def rDictU (K : PySem.W.Frag) : List V → Hp → VK → Prop := fun xs H Q => (∃ (a : Addr) (kvs : List (Key × V)), xs = [.ref a] ∧ Rd H a (.dK kvs) ∧ ∀ p, H p = none → Q (.ref p) (upd H p (.dK kvs))) ∨
  ∃ (a : Addr) (ps : List Addr) (kvs : List (Key × V)), xs = [.ref a] ∧ SqL K H a (ps.map V.ref) ∧ Paired (fun p kv => SqT K H p [kV kv.1, kv.2]) ps kvs ∧ ∀ p, H p = none → Q (.ref p) (upd H p (.dK (mergeK [] kvs)))
theorem c_dict {c : Ct} : ∀ X, OkX c X → CallR X (.type "dict") (rDictU c.K) := fun X ok => by
  rw [← ok.K]
  intro pins s σ H xs us Q I r want
  rcases want with w | w
  · exact call_dictD pins s σ H xs us Q I r w
  · exact call_dictP ok.calm pins s σ H xs us Q I r w
def pairD : D → Option (Key × D)
  | .tuple [k, x] => (keyOf k).map fun k => (k, x)
  | _ => none
def dictD : D → Option Rt
  | .dict kvs => match allOf keyOf (kvs.map (·.1)) with
    | some ks => if kvs.isEmpty then none else some (.nw (.dic (ks.zip (kvs.map (·.2)))))
    | none => none
  | .list ds => (allOf pairD ds).map fun ps => .nw (.dic (mergeG [] ps))
  | _ => none
theorem pairs_of {K : PySem.W.Frag} {Hv H : Hp} (le : Le Hv H) : ∀ {ds : List D} {xs : List V} {ps : List (Key × D)}, RpA K Hv xs ds → allOf pairD ds = some ps →
    ∃ (as : List Addr) (kvs : List (Key × V)), xs = as.map V.ref ∧ Paired (fun p kv => SqT K H p [kV kv.1, kv.2]) as kvs ∧ ∀ ws wd, RK K Hv ws wd → RK K Hv (mergeK ws kvs) (mergeG wd ps)
  | [], _, _, .nil, e => by cases e; exact ⟨[], [], rfl, .nil, fun _ _ h => h⟩
  | d :: ds, _, ps, .cons h r, e => by
    unfold allOf at e
    cases e1 : pairD d with
    | none => rw [e1] at e; cases e
    | some p =>
      cases e2 : allOf pairD ds with
      | none => rw [e1, e2] at e; cases e
      | some qs =>
        rw [e1, e2] at e
        cases e
        obtain ⟨as, kvs, f1, f2, f3⟩ := pairs_of le r e2
        unfold pairD at e1
        split at e1
        · rename_i k x
          cases e3 : keyOf k with
          | none => rw [e3] at e1; cases e1
          | some kk =>
            rw [e3] at e1
            cases e1
            cases h with
            | tup sq rp =>
              rename_i b vs
              cases rp with
              | cons h1 rp =>
                cases rp with
                | cons h2 rp =>
                  cases rp
                  rename_i v1 v2
                  have kv := h1.key e3
                  refine ⟨b :: as, (kk, v2) :: kvs, by rw [f1]; rfl, .cons (by rw [← kv]; exact le.sqT sq) f2, fun ws wd hw => ?_⟩
                  exact f3 _ _ (hw.put kk h2)
        · cases e1
theorem keys_kD : ∀ {ws : List (Key × V)} {ks : List Key}, allOf keyOf (ws.map fun p => kD p.1) = some ks → ws.map (·.1) = ks
  | [], ks, e => by cases e; rfl
  | p :: ws, ks, e => by
    rw [List.map_cons] at e
    unfold allOf at e
    rw [keyOf_kD] at e
    cases e2 : allOf keyOf (ws.map fun p => kD p.1) with
    | none => rw [e2] at e; cases e
    | some t =>
      rw [e2] at e
      cases e
      rw [List.map_cons, keys_kD e2]
theorem v_dict {K : PySem.W.Frag} : VnOk K (rDictU K) (on1 dictD) := vn1 fun Hv H le hv v x res h e Q q => by
  cases x <;> try (cases e; done)
  · rename_i ds
    simp only [dictD] at e
    cases e1 : allOf pairD ds with
    | none => rw [e1] at e; cases e
    | some ps =>
      rw [e1] at e
      cases e
      obtain ⟨a, xs, rfl, sq, r⟩ := h.list le
      obtain ⟨as, kvs, rfl, f2, f3⟩ := pairs_of le r e1
      exact .inr ⟨a, as, kvs, rfl, sq, f2, fun p hp => q _ _ ⟨p, _, hp, rfl, rfl, f3 [] [] ⟨rfl, .nil⟩⟩⟩
  rename_i kvs
  refine .inl ?_
  simp only [dictD] at e
  cases e1 : allOf keyOf (kvs.map (·.1)) with
  | none => rw [e1] at e; cases e
  | some ks =>
    rw [e1] at e
    simp only at e
    split at e
    · cases e
    · rename_i hne
      cases e
      obtain ⟨a, rfl, hk⟩ := h.dict le
      rcases hk with ⟨ws, rd, ek, r⟩ | ⟨ws, rd, ek, r⟩
      · refine ⟨a, ws, rfl, rd, fun p hp => q _ _ ⟨p, _, hp, rfl, rfl, ?_⟩⟩
        rw [← ek] at e1
        have e2 := keys_kD e1
        have hl : ks.length = (kvs.map (·.2)).length := by
          rw [← e2, List.length_map, List.length_map]
          simpa using congrArg List.length ek
        refine ⟨?_, ?_⟩
        · rw [e2, ← List.unzip_fst, List.unzip_zip hl]
        · rw [← List.unzip_snd, ← List.unzip_snd (l := ks.zip _), List.unzip_zip hl, List.unzip_snd]
          exact r
      · exfalso
        cases ws with
        | nil =>
          cases kvs with
          | nil => exact hne rfl
          | cons _ _ => simp at ek
        | cons t ws =>
          rw [← ek, List.map_cons] at e1
          unfold allOf at e1
          simp [ksD, keyOf] at e1

/-! ### is, of truths -/
def isBD (n : Bool) : D → D → Option Rt
  | .bool a, .bool b => sD (.bool (decide (a = b) != n))
  | _, _ => none
theorem o_isB {c : Ct} : ∀ X, OkX c X → OpR X (compareOp .Is) rIsB := fun X ok => op_isBl
theorem v_isB {K : PySem.W.Frag} : V2Ok K rIsB (isBD false) := by
  intro Hv H le v w x y res h1 h2 e Q q
  cases x <;> try (cases e; done)
  cases y <;> try (cases e; done)
  cases e
  rw [h1.bool, h2.bool]
  exact ⟨_, _, rfl, rfl, by have := q (.bl _) H (.d (.bl _)); rwa [xor_f] at this⟩

/-! ### d.pop(k, x) -/
def rPopK : V → List V → Hp → VK → Prop := fun x xs H Q => ∃ (a : Addr) (kvs : List (Key × V)) (k : Key) (d : V), x = .ref a ∧ xs = [kV k, d] ∧ H a = some (.dK kvs) ∧ (∀ v, valV kvs k = some v → Q v (upd H a (.dK (dropK kvs k)))) ∧ (valV kvs k = none → Q d H)
def rPopS (K : PySem.W.Frag) : V → List V → Hp → VK → Prop := fun x xs H Q => ∃ (a : Addr) (kvs : List (List Key × V)) (k : List Key) (b : Addr) (d : V), x = .ref a ∧ xs = [.ref b, d] ∧ H a = some (.dT kvs) ∧ SqT K H b (k.map kV) ∧ (∀ v, valV kvs k = some v → Q v (upd H a (.dT (dropK kvs k)))) ∧ (valV kvs k = none → Q d H)
theorem mt_popK {X : Cx} : MtR X "dict.pop" rPopK := by
  intro pins s σ H x xs v us Q I rx rxs want
  obtain ⟨a, kvs, k, d, rfl, rfl, ha, q1, q2⟩ := want
  cases rx
  obtain ⟨u1, u2, rfl, r1, r2⟩ := vals2 rxs
  cases z : valV kvs k with
  | none => exact d_popD I ha r1 z fun s' J => ⟨d, H, J, r2, q2 z⟩
  | some y => exact d_pop I ha r1 z (.inr ⟨_, rfl⟩) fun w' s' J rw' => ⟨y, _, J, rw', q1 y z⟩
theorem mt_popS {X : Cx} (hu : X.A.units + 1 < cLine) : MtR X "dict.pop" (rPopS X.K) := by
  intro pins s σ H x xs v us Q I rx rxs want
  obtain ⟨a, kvs, k, b, d, rfl, rfl, ha, hb, q1, q2⟩ := want
  cases rx
  obtain ⟨u1, u2, rfl, r1, r2⟩ := vals2 rxs
  cases r1
  obtain ⟨size, low, ws, rel, dd⟩ := dt_of I.hok ha
  have val := rel.val k
  refine call_meetsIn PySem.F.slot_dict_pop dd.typeIs PySem.F.entry_dict_pop (PySem.F.args_dict_pop_3 _ _ _) (DT.meetsPop (knd := tupleKind (mixKind X.prog X.w)) (k := k) u2 low)
    ⟨ws, tupleKind_room_in1 hu, key_sq I hb, dd, by rw [← Paired.length rel]; exact size, fun none_ tk => ?_, fun p there h' tk now same => ?_⟩
  · rw [none_] at val
    exact ⟨d, H, I.tok tk, r2, q2 (by cases z : valV kvs k with | none => rfl | some y => rw [z] at val; exact val.elim)⟩
  · rw [there] at val
    cases z : valV kvs k with
    | none => rw [z] at val; exact val.elim
    | some y =>
      rw [z] at val
      obtain ⟨ob, es, ep, g1, g2, g3, g4, _, g6⟩ := now
      have J : Inv X pins σ (upd H a (.dT (dropK kvs k))) { s with heap := h', toks := tk } := d_write I (by rw [ha]; exact True.intro) same ⟨ob, g1⟩ ⟨Nat.le_trans (dropK_le kvs k) size, low, _, (L2.DX.KT_drop k rel).keeps (fun c ys ec => (by rw [upd_ne (ne_of ec ha (fun z => nomatch z))]; exact ec)), ob, es, ep, g1, g2, g3, g4, g6⟩
      exact ⟨y, _, J, val, q1 y z⟩
def popD2 : MO → List D → Option (D × MO)
  | .dic kvs, [y, d] => match keyOf y with
    | some k => match valG kvs k with
      | some z => some (z, .dic (dropG kvs k))
      | none => some (d, .dic kvs)
    | none => none
  | .dit kvs, [y, d] => match keysOf y with
    | some k => match valG kvs k with
      | some z => some (z, .dit (dropG kvs k))
      | none => some (d, .dit kvs)
    | none => none
  | _, _ => none
theorem RpA.two {K : PySem.W.Frag} {H : Hp} {vs : List V} {x y : D} (h : RpA K H vs [x, y]) : ∃ v w, vs = [v, w] ∧ Rp K H v x ∧ Rp K H w y := by
  cases h with
  | cons h r =>
    obtain ⟨w, rfl, h2⟩ := r.one
    exact ⟨_, w, rfl, h, h2⟩
theorem upd_self {H : Hp} {a : Addr} {o : HO} (h : H a = some o) : upd H a o = H := by
  funext b
  by_cases e : b = a
  · rw [e, upd_same, h]
  · rw [upd_ne e]
theorem u_pop2 {K : PySem.W.Frag} : VuOk K (fun x xs H Q => rPopK x xs H Q ∨ rPopS K x xs H Q) popD2 := by
  intro Hv H a o mo vs xs z mo' le ho cc r e Q q
  unfold popD2 at e
  split at e
  · rename_i kvs y d
    cases o <;> first | exact (show False from cc).elim | skip
    rename_i ws
    have rk : RK K Hv ws kvs := cc
    obtain ⟨v, w, rfl, h1, h2⟩ := r.two
    split at e
    · rename_i k hk
      have or := rk.val k
      have ek := h1.key hk
      subst ek
      split at e
      · rename_i t ht
        cases e
        rw [ht] at or
        refine .inl ⟨a, ws, k, w, rfl, rfl, ho, fun v e1 => ?_, fun e1 => ?_⟩
        · rw [e1] at or
          exact q _ _ or (rk.drop k)
        · rw [e1] at or; exact or.elim
      · rename_i hn
        cases e
        rw [hn] at or
        refine .inl ⟨a, ws, k, w, rfl, rfl, ho, fun v e1 => ?_, fun e1 => ?_⟩
        · rw [e1] at or; exact or.elim
        · have := q w (.dK ws) h2 rk
          rwa [upd_self ho] at this
    · cases e
  · rename_i kvs y d
    cases o <;> first | exact (show False from cc).elim | skip
    rename_i ws
    have rk : RK K Hv ws kvs := cc
    obtain ⟨v, w, rfl, h1, h2⟩ := r.two
    split at e
    · rename_i k hk
      have or := rk.val k
      obtain ⟨b, rfl, sq⟩ := (Rq.of (H := H) h1).keys le hk
      split at e
      · rename_i t ht
        cases e
        rw [ht] at or
        refine .inr ⟨a, ws, k, b, w, rfl, rfl, ho, sq, fun v e1 => ?_, fun e1 => ?_⟩
        · rw [e1] at or
          exact q _ _ or (rk.drop k)
        · rw [e1] at or; exact or.elim
      · rename_i hn
        cases e
        rw [hn] at or
        refine .inr ⟨a, ws, k, b, w, rfl, rfl, ho, sq, fun v e1 => ?_, fun e1 => ?_⟩
        · rw [e1] at or; exact or.elim
        · have := q w (.dT ws) h2 rk
          rwa [upd_self ho] at this
    · cases e
  · cases e
theorem m_pop2 {c : Ct} : ∀ X, OkX c X → MtR X "dict.pop" (fun x xs H Q => rPopK x xs H Q ∨ rPopS c.K x xs H Q) := fun X ok => by
  rw [← ok.K]
  exact mt_popK.or (mt_popS (by have := ok.room.units; omega))

/-! ### x, y = a, b -/
def sPar (i j : Nat) (da : DA) : DS := fun ρ u => match da ρ u with
  | some ([s, t], u1) => some (.nx ((ρ.set i s).set j t) u1)
  | _ => none
theorem LS.par {K : PySem.W.Frag} {i j : Nat} {ta : TA} {da : DA} (h : LA K ta da) : LS K (tPar i j ta) (sPar i j da) := by
  intro A ρ u o e σ H S L Dn q
  unfold sPar at e
  split at e
  · rename_i s t u1 e1
    cases e
    refine h A ρ u _ u1 e1 σ H S L _ fun vs H1 P => ?_
    obtain ⟨A1, st, S1, rvs⟩ := P
    match vs, rvs with
    | [v, w], ⟨r1, r2, _⟩ => exact ⟨v, w, rfl, q A1 _ H1 st S1 (((st.slots L).set i r1).set j r2)⟩
  · cases e
theorem js_par {c : Ct} {i j : Nat} {x y : Str} {a b : Expr} {da : DA} {px py pt pt2 pos : Pos} {kt k2 : Nat} (hN : c.N.Nodup) (h : JA c [a, b] da) (hij : i ≠ j) (hi : c.N[i]? = some x := by rfl) (hj : c.N[j]? = some y := by rfl) (hx : c.sc.names.lookup x = some .local := by rfl) (hy : c.sc.names.lookup y = some .local := by rfl)
    (hw : ∀ env : Env, env.scope = c.sc → swappedStores [.Tuple [.Name x px, .Name y py] kt pt] (.Tuple [a, b] k2 pt2) env = pure (some [x, y]))
    (hs : ∀ env, swapsWithSole [.Tuple [.Name x px, .Name y py] kt pt] (.Tuple [a, b] k2 pt2) pos.line env = pure false := by intro _; rfl) :
    JS c (.Assign [.Tuple [.Name x px, .Name y py] kt pt] (.Tuple [a, b] k2 pt2) pos) (sPar i j da) := by
  obtain ⟨ta, pa, la⟩ := h
  exact ⟨_, fun X ok => ps_par ok.calm (by rw [ok.N]; exact hN) (by rw [ok.N]; exact hi) (by rw [ok.N]; exact hj) hij (by rw [ok.sc]; exact hx) (by rw [ok.sc]; exact hy) (pa X ok) (hw _ ok.sc) (hs _), LS.par la⟩
end DL
end

section
set_option Elab.async false
set_option maxRecDepth 100000
set_option maxHeartbeats 4000000
/-! constants of the module, not, products of texts, what a law's defs are told by -/
namespace DL
open PySem L2

theorem je_conB {c : Ct} {x : Str} {pos : Pos} {y : D} (h : ∃ u, c.mg x = some u ∧ vdB c.K u y = true) (hg : c.sc.names.lookup x = some .globalImplicit := by rfl) (hd : (x == ("__debug__" : Str)) = false := by decide) : JE c (.Name x pos) (dC y) := by
  obtain ⟨u, h1, h2⟩ := h
  obtain ⟨v, r1, r2⟩ := vdB_ok y h2
  exact je_con hg h1 r1 r2 hd
def dNotV (de : DE) : DE := dTV (dNot (dTru de))
theorem je_not {c : Ct} {e : Expr} {de : DE} {pos : Pos} (h : JE c e de) : JE c (.UnaryOp .Not e pos) (dNotV de) := by
  obtain ⟨te, pe, le⟩ := h
  refine ⟨_, fun X ok => by have := pe_notT (pos := pos) (pe X ok); rw [ok.K] at this; exact this, fun A ρ u r u' e σ H S L Q q => ?_⟩
  unfold dNotV dTV dNot at e
  cases e1 : dTru de ρ u with
  | none => rw [e1] at e; cases e
  | some p =>
    obtain ⟨b, u1⟩ := p
    rw [e1] at e
    cases e
    exact LE.tru le A ρ u b _ e1 σ H S L (fun k H' => Q (.bl (!k)) H') fun H' ⟨A', st, S'⟩ => q _ _ ⟨A', st, S', .bl _⟩
/-- where a def stands, and how it is called -/
structure DefAt (K : PySem.W.Frag) (mg : Str → Option Value) (x : Str) (st : Stmt) (ps : List Str) (f : Addr) (fd : FuncData) : Prop where
  fn : Fun K x x st f fd
  at_ : mg x = some (.ref f)
  kept : PySem.W.keepIn K (.ref f) = true
  binds : Binds K fd ps []
theorem FnG.none {P : Program} {w : World} {K : PySem.W.Frag} {mg : Str → Option Value} {base : Heap} {k : Nat} {f : Addr} {fd : FuncData} {ps : List Str} : FnG P w K mg base k f fd ps ps.length (fun _ _ => none) :=
  ⟨rfl, fun A outer s H args us vs Q _ _ _ _ _ h => by
    obtain ⟨_, _, _, _, _, _, e, _⟩ := h
    cases e⟩
section
variable {c : Ct} {e f : Expr} {de df : DE} {x : Str} {kvs : List (Str × D)} {pos p apos cpos : Pos}
theorem jt_kin (k : KD c.K c.w c.mg x kvs) (h : JE c e de) (hg : c.sc.names.lookup x = some .globalImplicit := by rfl) (hd : (x == ("__debug__" : Str)) = false := by decide) (hm : behindInMarks .In (.Name x p) = false := by rfl) : JT c (.Compare e [.In] [.Name x p] pos) (dB (dUn (kinD kvs false) de)) := by
  obtain ⟨te, pe, le⟩ := h
  obtain ⟨a, es, n, h1, h2, h3⟩ := k.ex
  refine ⟨tB (tOp (fun x y H Q => ∃ (z : Str) (r : Option Value), x = .str z ∧ y = .ref a ∧ PySem.W.nsIn c.K a z = some r ∧ Q (.bl r.isSome) H) te (tC (.ref a))), fun X ok => ?_,
    LE.b (LE.un (r := fun x H Q => ∃ (z : Str) (r : Option Value), x = .str z ∧ (V.ref a : V) = .ref a ∧ PySem.W.nsIn c.K a z = some r ∧ Q (.bl r.isSome) H) (fun Hv H le v y res hv e Q q => ?_) le)⟩
  · have T : KDict X.K X.w a es n := by rw [ok.K, ok.w]; exact h2
    have := op_in_kd T
    rw [ok.K] at this
    exact pt_cmpR this (pe X ok) (pe_glob (v := .ref a) (u := .ref a) (by show X.env.scope.names.lookup x = _; rw [ok.sc]; exact hg) (by rw [ok.mg]; exact h1) rfl hd) hm
  · cases y <;> try (cases e; done)
    rename_i z
    cases e
    rw [hv.str]
    cases q1 : kvs.lookup z with
    | none =>
      refine ⟨z, none, rfl, rfl, (h3 z).1 q1, q _ _ (.d ?_)⟩
      rw [q1]; exact .bl _
    | some y =>
      obtain ⟨u, w, e1, _⟩ := (h3 z).2 y q1
      refine ⟨z, some u, rfl, rfl, e1, q _ _ (.d ?_)⟩
      rw [q1]; exact .bl _
theorem jt_knin (k : KD c.K c.w c.mg x kvs) (h : JE c e de) (hg : c.sc.names.lookup x = some .globalImplicit := by rfl) (hd : (x == ("__debug__" : Str)) = false := by decide) (hm : behindInMarks .NotIn (.Name x p) = false := by rfl) : JT c (.Compare e [.NotIn] [.Name x p] pos) (dB (dUn (kinD kvs true) de)) := by
  obtain ⟨te, pe, le⟩ := h
  obtain ⟨a, es, n, h1, h2, h3⟩ := k.ex
  refine ⟨tB (tOp (fun x y H Q => ∃ (z : Str) (r : Option Value), x = .str z ∧ y = .ref a ∧ PySem.W.nsIn c.K a z = some r ∧ Q (.bl (!r.isSome)) H) te (tC (.ref a))), fun X ok => ?_,
    LE.b (LE.un (r := fun x H Q => ∃ (z : Str) (r : Option Value), x = .str z ∧ (V.ref a : V) = .ref a ∧ PySem.W.nsIn c.K a z = some r ∧ Q (.bl (!r.isSome)) H) (fun Hv H le v y res hv e Q q => ?_) le)⟩
  · have T : KDict X.K X.w a es n := by rw [ok.K, ok.w]; exact h2
    have := op_notIn_kd T
    rw [ok.K] at this
    exact pt_cmpR this (pe X ok) (pe_glob (v := .ref a) (u := .ref a) (by show X.env.scope.names.lookup x = _; rw [ok.sc]; exact hg) (by rw [ok.mg]; exact h1) rfl hd) hm
  · cases y <;> try (cases e; done)
    rename_i z
    cases e
    rw [hv.str]
    cases q1 : kvs.lookup z with
    | none =>
      refine ⟨z, none, rfl, rfl, (h3 z).1 q1, q _ _ (.d ?_)⟩
      rw [q1]; exact .bl _
    | some y =>
      obtain ⟨u, w, e1, _⟩ := (h3 z).2 y q1
      refine ⟨z, some u, rfl, rfl, e1, q _ _ (.d ?_)⟩
      rw [q1]; exact .bl _
end
/-! ### PLACEHOLDERS -/
/-! ### * -/
def rMulS : R2 := fun x y H Q => ∃ (a : Str) (k : Int), x = .str a ∧ y = .int k ∧ 0 ≤ k ∧ k ≤ 1 ∧ Q (.str (if k = 1 then a else Str.empty)) H
theorem op_mulS {X : Cx} : OpR X (binaryOp .Mult) rMulS := by
  intro pins s σ H x y v u Q I rx ry want
  obtain ⟨a, k, rfl, rfl, k0, k1, q⟩ := want
  obtain ⟨t, rfl⟩ := rx
  obtain ⟨t2, rfl⟩ := ry
  by_cases e : k = 1
  · subst e
    rw [if_pos rfl] at q
    refine P.mul_str (by decide) (fun _ h => by simp at h) (fun _ h => by simp at h) ?_
    rw [if_neg (by decide), if_pos (by simp)]
    exact ⟨.str a, H, I.tok _, ⟨_, rfl⟩, q⟩
  · rw [if_neg e] at q
    exact P.mul_str_none (by omega) (by omega) ⟨.str Str.empty, H, I.tok _, ⟨_, rfl⟩, q⟩
def rMulU : R2 := fun x y H Q => rI CMul (fun i j => .int (i * j)) x y H Q ∨ rMulS x y H Q
def mulD : D → D → Option Rt
  | .int i, y => mulI (.int i) y
  | .str a, .int k => if 0 ≤ k ∧ k ≤ 1 then sD (.str (if k = 1 then a else Str.empty)) else none
  | _, _ => none
theorem o_mul {c : Ct} : ∀ X, OkX c X → OpR X (binaryOp .Mult) rMulU := fun X ok => op_mul.or op_mulS
theorem v_mul {K : PySem.W.Frag} : V2Ok K rMulU mulD := by
  intro Hv H le v w x y res h1 h2 e Q q
  cases x <;> try (cases e; done)
  · exact .inl (v_mulI Hv H le v w _ y res h1 h2 e Q q)
  · cases y <;> try (cases e; done)
    simp only [mulD] at e
    split at e
    · rename_i hk
      cases e
      rw [h1.str, h2.int]
      exact .inr ⟨_, _, rfl, rfl, hk.1, hk.2, q _ _ (.d (.str _))⟩
    · cases e
/-! ### repr -/
mutual
theorem Rp.reads {X : Cx} {pins : List (Addr × Obj)} {σ : L2.St} {H : Hp} {s : Shared} (I : Inv X pins σ H s) : ∀ (d : D) {v : V} {u : Value}, Rp X.K H v d → RelV v u → d.hasDict = false → ∃ as, Reads s.heap u d as
  | .none, v, u, h, r, _ => by cases h; cases (show u = Value.none from r); exact ⟨_, .none⟩
  | .bool b, v, u, h, r, _ => by cases h; cases (show u = Value.bool b from r); exact ⟨_, .bool b⟩
  | .int i, v, u, h, r, _ => by cases h; obtain ⟨t, q⟩ := (show ∃ t, u = Value.int i t from r); cases q; exact ⟨_, .int i t⟩
  | .str x, v, u, h, r, _ => by cases h; obtain ⟨t, q⟩ := (show ∃ t, u = Value.str x t from r); cases q; exact ⟨_, .str x t⟩
  | .list ds, v, u, h, r, hd => by
    cases h with
    | lst sq rp =>
      rename_i a vs
      cases (show u = Value.ref a from r)
      obtain ⟨its, rv, ⟨⟨c1, d1, da1, s1⟩, n1, g1, g2, g3, g4⟩, _⟩ := I.list sq
      simp only at g2 g4
      subst g2 g4
      obtain ⟨as, ra⟩ := RpA.reads I ds rp rv (by simpa only [PyData.hasDict] using hd)
      exact ⟨_, .list g1 rfl rfl (by simpa using ra)⟩
  | .tuple ds, v, u, h, r, hd => by
    cases h with
    | tup sq rp =>
      rename_i a vs
      cases (show u = Value.ref a from r)
      obtain ⟨its, rv, ⟨⟨c1, d1, da1, s1⟩, g1, g2, n1, g4⟩, _⟩ := I.tuple sq
      simp only at g2 g4
      subst g2 g4
      obtain ⟨as, ra⟩ := RpA.reads I ds rp rv (by simpa only [PyData.hasDict] using hd)
      exact ⟨_, .tuple g1 rfl rfl (by simpa using ra)⟩
  | .dict kvs, v, u, h, r, hd => by simp [PyData.hasDict] at hd
theorem RpA.reads {X : Cx} {pins : List (Addr × Obj)} {σ : L2.St} {H : Hp} {s : Shared} (I : Inv X pins σ H s) : ∀ (ds : List D) {vs : List V} {us : List Value}, RpA X.K H vs ds → Vals vs us → PyData.hasDictAll ds = false → ∃ as, ReadsAll s.heap us ds as
  | [], vs, us, h, r, _ => by cases h; cases r; exact ⟨_, .nil⟩
  | d :: ds, vs, us, h, r, hd => by
    cases h with
    | cons h1 h2 =>
      cases r with
      | cons r1 r2 =>
        have hd : d.hasDict = false ∧ PyData.hasDictAll ds = false := by simpa only [PyData.hasDictAll, Bool.or_eq_false_iff] using hd
        obtain ⟨as, q1⟩ := Rp.reads I d h1 r1 hd.1
        obtain ⟨bs, q2⟩ := RpA.reads I ds h2 r2 hd.2
        exact ⟨_, .cons q1 q2⟩
end
mutual
/-- no lists, and all keys of dicts are numbers or texts -/
def keyed : D → Bool
  | .none | .bool _ | .int _ | .str _ => true
  | .list _ => false
  | .tuple xs => keyedA xs
  | .dict kvs => keyedK kvs
def keyedA : List D → Bool
  | [] => true
  | x :: xs => keyed x && keyedA xs
def keyedK : List (D × D) → Bool
  | [] => true
  | (k, v) :: r => (keyOf k).isSome && (keyed v && keyedK r)
end
theorem keyedK_all : ∀ {kvs : List (D × D)}, keyedK kvs = true → (∀ k ∈ kvs.map (·.1), (keyOf k).isSome = true) ∧ keyedA (kvs.map (·.2)) = true
  | [], _ => ⟨fun _ h => (nomatch h), rfl⟩
  | (k, v) :: r, h => by
    simp only [keyedK, Bool.and_eq_true] at h
    obtain ⟨h1, h2⟩ := keyedK_all h.2.2
    refine ⟨fun x hx => ?_, by simp only [List.map_cons, keyedA, h.2.1, h2]; rfl⟩
    rcases List.mem_cons.mp hx with e | hx
    · rw [e]; exact h.1
    · exact h1 x hx
/-- the keys of a dict of numbers and texts -/
theorem keys_reads {prog : Program} {w : World} {h : Heap} : ∀ {es : List DictEntry} {vs : List (Key × Value)} {ws : List (Key × V)}, Pairs (mixKind prog w) es vs → KV ws vs → ∃ as, ReadsAll h (es.map (·.key)) (ws.map fun p => kD p.1) as ∧ sysModules ∉ as
  | _, _, _, .nil, .nil => ⟨_, .nil, by simp⟩
  | _, _, _, .cons (e := e) k1 k2 r, .cons hq t => by
    obtain ⟨as, q, n⟩ := keys_reads (h := h) r t
    obtain ⟨h1, h2⟩ := hq
    rcases keyIs_shape (show keyIs _ e.key = true from k1) with ⟨i, tk, e1, e2⟩ | ⟨x, tk, e1, e2⟩
    · refine ⟨[] ++ as, .cons ?_ q, by simpa using n⟩
      dsimp only; rw [h1, e1, e2]; exact .int i tk
    · refine ⟨[] ++ as, .cons ?_ q, by simpa using n⟩
      dsimp only; rw [h1, e1, e2]; exact .str x tk
theorem vals_reads {prog : Program} {w : World} : ∀ {es : List DictEntry} {vs : List (Key × Value)} {ws : List (Key × V)}, Pairs (mixKind prog w) es vs → KV ws vs → Vals (ws.map (·.2)) (es.map (·.val))
  | _, _, _, .nil, .nil => .nil
  | _, _, _, .cons k1 k2 r, .cons hq t => .cons (by show RelV _ _; dsimp only; rw [k2]; exact hq.2) (vals_reads r t)
mutual
theorem Rp.readsD {X : Cx} {pins : List (Addr × Obj)} {σ : L2.St} {H : Hp} {s : Shared} (I : Inv X pins σ H s) : ∀ (d : D) {v : V} {u : Value}, Rp X.K H v d → RelV v u → keyed d = true → ∃ as, Reads s.heap u d as ∧ sysModules ∉ as
  | .none, v, u, h, r, _ => by cases h; cases (show u = Value.none from r); exact ⟨_, .none, by simp⟩
  | .bool b, v, u, h, r, _ => by cases h; cases (show u = Value.bool b from r); exact ⟨_, .bool b, by simp⟩
  | .int i, v, u, h, r, _ => by cases h; obtain ⟨t, q⟩ := (show ∃ t, u = Value.int i t from r); cases q; exact ⟨_, .int i t, by simp⟩
  | .str x, v, u, h, r, _ => by cases h; obtain ⟨t, q⟩ := (show ∃ t, u = Value.str x t from r); cases q; exact ⟨_, .str x t, by simp⟩
  | .list ds, v, u, h, r, hd => by simp [keyed] at hd
  | .tuple ds, v, u, h, r, hd => by
    cases h with
    | tup sq rp =>
      rename_i a vs
      cases (show u = Value.ref a from r)
      obtain ⟨its, rv, ⟨⟨c1, d1, da1, s1⟩, g1, g2, n1, g4⟩, _⟩ := I.tuple sq
      simp only at g2 g4
      subst g2 g4
      obtain ⟨as, ra, n⟩ := RpA.readsD I ds rp rv (by simpa only [keyed] using hd)
      exact ⟨_, .tuple g1 rfl rfl (by simpa using ra), n⟩
  | .dict kvs, v, u, h, r, hd => by
    obtain ⟨kk, kv⟩ := keyedK_all (show keyedK kvs = true by simpa only [keyed] using hd)
    cases h with
    | dic rd ek rp =>
      rename_i a ws
      cases (show u = Value.ref a from r)
      obtain ⟨_, nb, vs, rel, o, es, ep, g1, g2, g3, g4, g5, _⟩ := dk_rd I.hok rd
      obtain ⟨as, q1, n1⟩ := keys_reads (h := s.heap) g5 rel
      rw [ek] at q1
      obtain ⟨bs, q2, n2⟩ := RpA.readsK I kvs rp (vals_reads g5 rel) kv
      have na : ¬ sysModules = a := fun e => by rw [← e] at nb; simp at nb
      exact ⟨_, .dict g1 g2.1 g3 q1 q2, by simp [na, n1, n2]⟩
    | dit rd ek rp =>
      rename_i a ws
      cases ws with
      | cons p ws =>
        exfalso
        cases kvs with
        | nil => simp at ek
        | cons q kvs =>
          have e1 := (List.cons.inj (by simpa only [List.map_cons] using ek)).1
          have := kk q.1 (by simp)
          rw [← e1] at this
          simp [ksD, keyOf] at this
      | nil =>
        cases kvs with
        | cons q kvs => simp at ek
        | nil =>
          cases (show u = Value.ref a from r)
          obtain ⟨_, nb, xs, rel, o, es, ep, g1, g2, g3, g4, _⟩ := dt_rd I.hok rd
          cases rel
          have na : ¬ sysModules = a := fun e => by rw [← e] at nb; simp at nb
          have ge : es.toList = [] := by simpa using g4
          exact ⟨_, .dict (as := []) (bs := []) g1 g2.1 g3 (by rw [ge]; exact .nil) (by rw [ge]; exact .nil), by simp [na]⟩
theorem RpA.readsD {X : Cx} {pins : List (Addr × Obj)} {σ : L2.St} {H : Hp} {s : Shared} (I : Inv X pins σ H s) : ∀ (ds : List D) {vs : List V} {us : List Value}, RpA X.K H vs ds → Vals vs us → keyedA ds = true → ∃ as, ReadsAll s.heap us ds as ∧ sysModules ∉ as
  | [], vs, us, h, r, _ => by cases h; cases r; exact ⟨_, .nil, by simp⟩
  | d :: ds, vs, us, h, r, hd => by
    cases h with
    | cons h1 h2 =>
      cases r with
      | cons r1 r2 =>
        have hd : keyed d = true ∧ keyedA ds = true := by simpa only [keyedA, Bool.and_eq_true] using hd
        obtain ⟨as, q1, n1⟩ := Rp.readsD I d h1 r1 hd.1
        obtain ⟨bs, q2, n2⟩ := RpA.readsD I ds h2 r2 hd.2
        exact ⟨_, .cons q1 q2, by simp [n1, n2]⟩
theorem RpA.readsK {X : Cx} {pins : List (Addr × Obj)} {σ : L2.St} {H : Hp} {s : Shared} (I : Inv X pins σ H s) : ∀ (kvs : List (D × D)) {vs : List V} {us : List Value}, RpA X.K H vs (kvs.map (·.2)) → Vals vs us → keyedA (kvs.map (·.2)) = true → ∃ as, ReadsAll s.heap us (kvs.map (·.2)) as ∧ sysModules ∉ as
  | [], vs, us, h, r, _ => by cases h; cases r; exact ⟨_, .nil, by simp⟩
  | (k, d) :: ds, vs, us, h, r, hd => by
    cases h with
    | cons h1 h2 =>
      cases r with
      | cons r1 r2 =>
        have hd : keyed d = true ∧ keyedA (ds.map (·.2)) = true := by simpa only [List.map_cons, keyedA, Bool.and_eq_true] using hd
        obtain ⟨as, q1, n1⟩ := Rp.readsD I d h1 r1 hd.1
        obtain ⟨bs, q2, n2⟩ := RpA.readsK I ds h2 r2 hd.2
        exact ⟨_, .cons q1 q2, by simp [n1, n2]⟩
end
/-- what repr is known of: without dicts; or a list of things, one thing, without lists, keys numbers and texts -/
def shK (d : D) : Bool := !d.hasDict || match d with
  | .list xs => keyedA xs
  | x => keyed x
def okR (d : D) : Bool := d.showable && (shK d && (decide (d.shown.length ≤ SZ) && decide (d.depth ≤ 63)))
def rReprU (K : PySem.W.Frag) : List V → Hp → VK → Prop := fun xs H Q => ∃ v d, xs = [v] ∧ Rp K H v d ∧ okR d = true ∧ Q (.str d.shown) H
theorem list_shows {prog : Program} {w : World} {h0 : Heap} {a : Addr} {o : Obj} {vs : Array Value} {n : Nat} {ds : List D} {as : List Addr} (e1 : h0.get? a = some o) (e2 : o.cls = .type "list") (e3 : o.data = .seq vs n) (e4 : ReadsAll h0 vs.toList ds as)
    (sh : (PyData.list ds).showable = true) (ns : sysModules ∉ as) (sz : (PyData.list ds).shown.length ≤ sizeLine) {A : Around} {E : Value → Shared → Prop} {s : Shared} {Q : Value → Shared → Prop} (gd : A.guards = some []) (un : A.units + ((PyData.list ds).depth + 1) < cLine) (kp : ∀ b p, h0.get? b = some p → s.heap.get? b = some p)
    (q : ∀ h1 t k, (∀ b p, s.heap.get? b = some p → h1.get? b = some p) → Q (.str (PyData.list ds).shown t) { s with heap := h1, toks := k }) : wpAny (model prog w) A (call (.builtin "repr") [.ref a]) Q E s := by
  have sz2 : (listText (PyData.shownAll ds)).length ≤ sizeLine := by rwa [PyData.shown] at sz
  obtain ⟨bs, r1, r2⟩ := ReprAllK.of_readsAll (prog := prog) (w := w) e4 (by rwa [PyData.showable] at sh) (fun _ => ns) fun t m => Nat.le_trans (listText_mem_le m) sz2
  have out : a ∉ bs := not_mem_of_deeper (Reads.list e1 e2 e3 e4) (by rw [PyData.depth]; exact Nat.lt_succ_self _) r1
  rw [PyData.depth] at un
  rw [PyData.shown] at q
  refine call_repr_slot (T := "list") (by omega) ⟨o, kp _ _ e1, e2⟩ F.slot_list_repr.toG ?_
  cases hv : vs.toList with
  | nil =>
    rw [hv] at e4
    cases e4
    have hv2 : vs = #[] := by cases vs; simp at hv; rw [hv]
    rw [hv2] at e3
    simp only [PyData.shownAll, listText_nil] at q
    exact call_list_repr_empty ⟨o, kp _ _ e1, e2⟩ (kp _ _ e1) e3 ⟨_, _, rfl, q _ _ _ fun _ _ e => e⟩
  | cons x l =>
    have hv2 : vs = (x :: l).toArray := by cases vs; simp at hv; rw [hv]
    rw [hv2] at e3
    rw [hv] at r2
    exact call_list_reprK e1 e2 e3 out (by simpa using r2.length_eq) (fun i y e => r2.item i y (by simpa using e)) gd (fun b _ => Clear.nil b) (by show A.units + 1 + _ < _; omega) kp (fun h1 t k e => ⟨_, _, rfl, q h1 t k e⟩) sz2
theorem c_repr {c : Ct} : ∀ X, OkX c X → CallR X (.builtin "repr") (rReprU c.K) := fun X ok => by
  rw [← ok.K]
  intro pins s σ H xs us Q I r want
  obtain ⟨v, d, rfl, rp, okd, q⟩ := want
  unfold okR at okd
  rw [Bool.and_eq_true, Bool.and_eq_true, Bool.and_eq_true] at okd
  obtain ⟨k1, k2, k3, k4⟩ := okd
  have k3 : d.shown.length ≤ sizeLine := by rw [sizeLine_eq]; exact of_decide_eq_true k3
  have k4 := of_decide_eq_true k4
  obtain ⟨u, rfl, rx⟩ := vals1 r
  have un := ok.room.un
  cases d with
  | none => cases rp; cases (show u = Value.none from rx); exact PySem.P.repr_of_none ⟨.str _, H, I.tok _, ⟨_, rfl⟩, q⟩
  | bool b => cases rp; cases (show u = Value.bool b from rx); exact PySem.P.repr_of_bool ⟨.str _, H, I.tok _, ⟨_, rfl⟩, q⟩
  | int i =>
    cases rp
    obtain ⟨t, e⟩ := (show ∃ t, u = Value.int i t from rx)
    cases e
    exact PySem.P.repr_of_int (by simpa [PyData.showable] using k1) ⟨.str _, H, I.tok _, ⟨_, rfl⟩, q⟩
  | str x =>
    cases rp
    obtain ⟨t, e⟩ := (show ∃ t, u = Value.str x t from rx)
    cases e
    exact PySem.P.repr_of_str ⟨.str _, H, I.tok _, ⟨_, rfl⟩, q⟩ k3
  | list ds =>
    by_cases hd : (PyData.list ds).hasDict = true
    · have ks : keyedA ds = true := by
        have k := k2
        unfold shK at k
        rw [hd] at k
        simpa using k
      cases rp with
      | lst sq rp =>
        rename_i a vs
        cases (show u = Value.ref a from rx)
        obtain ⟨its, rv, ⟨⟨c1, d1, da1, s1⟩, n1, g1, g2, g3, g4⟩, _⟩ := I.list sq
        simp only at g2 g4
        subst g2 g4
        obtain ⟨as, ra, nn⟩ := RpA.readsD I ds rp rv ks
        exact list_shows g1 rfl rfl (by simpa using ra) k1 nn k3 ok.grd (by omega) (fun _ _ e => e) fun h' tk n keep => ⟨.str _, H, I.kept (t' := n) fun b ob e => keep b ob e, ⟨tk, rfl⟩, q⟩
    · have hd : (PyData.list ds).hasDict = false := by simpa using hd
      obtain ⟨as, rd⟩ := Rp.reads I _ rp rx hd
      cases rd with
      | list g1 g2 g3 g4 => exact repr_of_reads' (.list g1 g2 g3 g4) k1 (fun z => by rw [hd] at z; cases z) ok.grd (by omega) (fun _ _ e => e) (fun h' tk n keep => ⟨.str _, H, I.kept (t' := n) fun b ob e => keep b ob e, ⟨tk, rfl⟩, q⟩) k3
  | tuple ds =>
    have nn : ∃ as, Reads s.heap u (.tuple ds) as ∧ ((PyData.tuple ds).hasDict = true → sysModules ∉ as) := by
      by_cases hd : (PyData.tuple ds).hasDict = true
      · have ks : keyed (.tuple ds) = true := by
          have k := k2
          unfold shK at k
          rw [hd] at k
          simpa using k
        obtain ⟨as, r1, r2⟩ := Rp.readsD I _ rp rx ks
        exact ⟨as, r1, fun _ => r2⟩
      · have hd : (PyData.tuple ds).hasDict = false := by simpa using hd
        obtain ⟨as, r1⟩ := Rp.reads I _ rp rx hd
        exact ⟨as, r1, fun z => by rw [hd] at z; cases z⟩
    obtain ⟨as, rd, nn⟩ := nn
    cases rd with
    | tuple g1 g2 g3 g4 => exact repr_of_reads' (.tuple g1 g2 g3 g4) k1 nn ok.grd (by omega) (fun _ _ e => e) (fun h' tk n keep => ⟨.str _, H, I.kept (t' := n) fun b ob e => keep b ob e, ⟨tk, rfl⟩, q⟩) k3
  | dict kvs =>
    have ks : keyed (.dict kvs) = true := by
      have hd : (PyData.dict kvs).hasDict = true := rfl
      have k := k2
      unfold shK at k
      rw [hd] at k
      simpa using k
    obtain ⟨as, rd, nn⟩ := Rp.readsD I _ rp rx ks
    cases rd with
    | dict g1 g2 g3 g4 g5 => exact repr_of_reads' (.dict g1 g2 g3 g4 g5) k1 (fun _ => nn) ok.grd (by omega) (fun _ _ e => e) (fun h' tk n keep => ⟨.str _, H, I.kept (t' := n) fun b ob e => keep b ob e, ⟨tk, rfl⟩, q⟩) k3
def reprD (d : D) : Option Rt := if okR d then sD (.str d.shown) else none
theorem Rq.rp {K : PySem.W.Frag} {Hv H : Hp} {v : V} {d : D} (le : Le Hv H) (h : Rq K Hv H v d) : Rp K H v d := by
  rcases h with h | ⟨a, o, mo, rfl, ho, cc, q⟩
  · exact h.mono le
  · have hh : Rq K Hv H (.ref a) d := .inr ⟨a, o, mo, rfl, ho, cc, q⟩
    cases d with
    | dict kvs =>
      obtain ⟨b, eb, hd⟩ := hh.dict le
      cases eb
      rcases hd with ⟨ws, r1, r2, r3⟩ | ⟨ws, r1, r2, r3⟩
      · exact .dic r1 r2 (RpA.mono le r3)
      · exact .dit r1 r2 (RpA.mono le r3)
    | list ds =>
      obtain ⟨b, xs, eb, sq, rr⟩ := hh.list le
      cases eb
      exact .lst sq (RpA.mono le rr)
    | tuple ds => exact (hh.tupleV).mono le
    | none => exact absurd q (by cases mo <;> simp [MO.vw, MO.toD])
    | bool b => exact absurd q (by cases mo <;> simp [MO.vw, MO.toD])
    | int b => exact absurd q (by cases mo <;> simp [MO.vw, MO.toD])
    | str b => exact absurd q (by cases mo <;> simp [MO.vw, MO.toD])
theorem v_repr {K : PySem.W.Frag} : VnOk K (rReprU K) (on1 reprD) := vn1 fun Hv H le hv v x res h e Q q => by
  unfold reprD at e
  split at e
  · rename_i hok
    cases e
    exact ⟨v, x, rfl, h.rp le, hok, q _ _ (.d (.str _))⟩
  · cases e
end DL
end

section
set_option Elab.async false
set_option maxRecDepth 100000
set_option maxHeartbeats 4000000
/-! dict comprehensions, stars, d.pop(k), x = [..] that x holds alone -/
namespace DL
open PySem L2

open Classical in
noncomputable def dcL (gd : Option (Nat × MO)) (g : DG) (dt : DT) (dk de : DE) (ρ : List Sl) : List D → List (Key × D) → List Ob → Option (List (Key × D) × List Ob)
  | [], acc, u => if Grd (u ++ [⟨true, .dic acc⟩]) gd then some (acc, u) else none
  | x :: xs, acc, u => if Grd (u ++ [⟨true, .dic acc⟩]) gd then (match g (.d x) ρ with
    | none => none
    | some ρ1 => match dt ρ1 (u ++ [⟨true, .dic acc⟩]) with
      | none => none
      | some (false, u2) => if u2[u.length]? = some ⟨true, .dic acc⟩ then dcL gd g dt dk de ρ xs acc (u2.take u.length) else none
      | some (true, u2) => match dk ρ1 u2 with
        | none => none
        | some (rk, u25) => match slK rk.sl with
          | none => none
          | some k => match de ρ1 u25 with
            | none => none
            | some (r, u3) => match r.sl.dat u3 with
              | none => none
              | some (y, u4) => if u4[u.length]? = some ⟨true, .dic acc⟩ ∧ acc.length < SZ then dcL gd g dt dk de ρ xs (putG acc k y) (u4.take u.length) else none) else none
noncomputable def dDc (di : DI) (g : DG) (dt : DT) (dk de : DE) (vs : List Nat) : DE := fun ρ u => match di ρ u with
  | none => none
  | some ((items, gd), u1) => match dcL gd g dt dk de (wipeS ρ vs) items [] u1 with
    | none => none
    | some (acc, u2) => some (.nw (.dic acc), u2)
section
variable {K : PySem.W.Frag}
theorem LE.dc {wi : TI} {tg : TG} {tt : TT} {tk te : TE} {di : DI} {g : DG} {dt : DT} {dk de : DE} {gi vs : List Nat} (hi : LI K wi di) (hg : LG K tg g gi) (hv : ∀ i ∈ gi, i ∈ vs) (ht : LT K tt dt) (hk : LE K tk dk) (he : LE K te de) : LE K (tDc wi tg tt tk te vs) (dDc di g dt dk de vs) := by
  intro A ρ u res uF e σ H S L Q q
  unfold dDc at e
  cases e1 : di ρ u with
  | none => rw [e1] at e; cases e
  | some p =>
    obtain ⟨⟨items, gd⟩, u1⟩ := p
    rw [e1] at e
    simp only at e
    cases e2 : dcL gd g dt dk de (wipeS ρ vs) items [] u1 with
    | none => rw [e2] at e; cases e
    | some p2 =>
      obtain ⟨accF, u2⟩ := p2
      rw [e2] at e
      cases e
      refine hi A ρ u items gd u1 e1 σ H S L _ fun J A1 H1 st1 S1 ok => ?_
      intro Dd hD
      obtain ⟨S0, st0⟩ := S1.own (o := .dK []) (mo := .dic []) hD rfl ⟨rfl, .nil⟩
      refine ⟨fun i m H => ∃ (u' : List Ob) (acc : List (Key × D)), u'.length = u1.length ∧ Step (A1 ++ [Dd]) (u1 ++ [⟨true, .dic []⟩]) (upd H1 Dd (.dK [])) (A1 ++ [Dd]) (u' ++ [⟨true, .dic acc⟩]) H ∧ Store K (A1 ++ [Dd]) (u' ++ [⟨true, .dic acc⟩]) H ∧
        dcL gd g dt dk de (wipeS ρ vs) (items.drop i) acc u' = some (accF, uF) ∧ m = items.length - i, ⟨_, u1, [], rfl, Step.refl, S0, by rw [List.drop_zero]; exact e2, rfl⟩, fun i m H2 hW => ?_⟩
      obtain ⟨u', acc, hl, st2, S2, e3, rfl⟩ := hW
      have hA : A1.length = u'.length := by rw [hl]; exact S1.len
      have lw := ((st1.trans (st0.trans st2)).slots L).wipe vs
      by_cases hlt : i < items.length
      · have hx : items[i]? = some items[i] := List.getElem?_eq_getElem hlt
        rw [List.drop_eq_getElem_cons hlt] at e3
        unfold dcL at e3
        split at e3
        · rename_i hgd
          obtain ⟨go, yl⟩ := ok.go i _ _ _ H2 (st0.trans st2) S2 hgd hx
          refine .inr ⟨go, fun H' => ∃ (u' : List Ob) (acc : List (Key × D)), u'.length = u1.length ∧ Step (A1 ++ [Dd]) (u1 ++ [⟨true, .dic []⟩]) (upd H1 Dd (.dK [])) (A1 ++ [Dd]) (u' ++ [⟨true, .dic acc⟩]) H' ∧ Store K (A1 ++ [Dd]) (u' ++ [⟨true, .dic acc⟩]) H' ∧
            dcL gd g dt dk de (wipeS ρ vs) (items.drop (i + 1)) acc u' = some (accF, uF), fun H' ⟨u', acc, h1, h2, h3, h4⟩ => ⟨items.length - (i + 1), by omega, u', acc, h1, h2, h3, h4, rfl⟩, fun v H3 y => ?_⟩
          obtain ⟨st3, S3, rv⟩ := yl v H3 y
          cases e4 : g (.d items[i]) (wipeS ρ vs) with
          | none => rw [e4] at e3; cases e3
          | some ρ3 =>
            rw [e4] at e3
            simp only at e3
            refine hg _ _ H3 _ _ ρ3 e4 S3 v (wipe σ vs) rv (st3.slots lw) _ fun σ3 L3 w3 => ⟨?_, ?_⟩
            · rw [w3 vs hv, wipe_wipe]
            cases e5 : dt ρ3 (u' ++ [⟨true, .dic acc⟩]) with
            | none => rw [e5] at e3; cases e3
            | some p5 =>
              obtain ⟨b, u5⟩ := p5
              rw [e5] at e3
              refine ht _ ρ3 _ b u5 e5 σ3 H3 S3 L3 _ fun H5 P => ?_
              obtain ⟨A5, st5, S5⟩ := P
              have st15 := st2.trans (st3.trans st5)
              obtain ⟨B5, p5⟩ := (show ∃ B, A5 = (A1 ++ [Dd]) ++ B from st5.pre)
              cases b with
              | false =>
                simp only at e3
                split at e3
                · rename_i hk
                  refine iteF ?_
                  have S5' := (S5.cut (u'.length + 1)).1
                  have st5' := st15.cut S5 (n := u'.length + 1) (by rw [List.length_append, hA]; exact Nat.le_refl _)
                  rw [get_take hk, p5, take_pre hA.symm] at S5' st5'
                  have hlk := (List.getElem?_eq_some_iff.mp hk).1
                  exact ⟨u5.take u'.length, acc, by rw [List.length_take]; omega, st5', S5', e3⟩
                · cases e3
              | true =>
                simp only at e3
                refine iteT ?_
                cases k6 : dk ρ3 u5 with
                | none => rw [k6] at e3; cases e3
                | some pk =>
                  obtain ⟨rk, uk⟩ := pk
                  rw [k6] at e3
                  simp only at e3
                  cases k7 : slK rk.sl with
                  | none => rw [k7] at e3; cases e3
                  | some k =>
                    rw [k7] at e3
                    simp only at e3
                    refine hk A5 ρ3 u5 rk uk k6 σ3 H5 S5 (st5.slots L3) _ fun wk Hk P => ?_
                    obtain ⟨Ak, stk, Sk, rvk⟩ := P.ret
                    have ek : wk = kV k := by
                      cases hs : rk.sl with
                      | un => rw [hs] at k7; cases k7
                      | m j => rw [hs] at k7; cases k7
                      | d x => rw [hs] at k7 rvk; exact (show Rp K _ wk x from rvk).key k7
                    cases e6 : de ρ3 uk with
                    | none => rw [e6] at e3; cases e3
                    | some p6 =>
                      obtain ⟨r, u6⟩ := p6
                      rw [e6] at e3
                      simp only at e3
                      refine he Ak ρ3 uk r u6 e6 σ3 Hk Sk ((st5.trans stk).slots L3) _ fun w H6 P => ?_
                      obtain ⟨A6, st6, S6, rv6⟩ := P.ret
                      cases e7 : r.sl.dat u6 with
                      | none => rw [e7] at e3; cases e3
                      | some p7 =>
                        obtain ⟨yd, u7⟩ := p7
                        rw [e7] at e3
                        simp only at e3
                        split at e3
                        · rename_i hk
                          obtain ⟨hk, hsz⟩ := hk
                          obtain ⟨S7, st7, rp7⟩ := rv6.dat S6 e7
                          have st17 := st15.trans (stk.trans (st6.trans st7))
                          obtain ⟨B7, p7⟩ := (show ∃ B, A6 = (A1 ++ [Dd]) ++ B from st17.pre)
                          have hD7 : A6[u'.length]? = some Dd := by
                            rw [p7, ← hA, List.append_assoc, List.getElem?_append_right (Nat.le_refl _)]
                            simp
                          obtain ⟨o, -, ho, cc⟩ := S7.ob u'.length Dd _ hD7 hk
                          replace ho := ho rfl
                          cases o <;> first | exact (show False from cc).elim | skip
                          rename_i ws
                          have cc : RK K (vis A6 u7 H6) ws acc := cc
                          refine ⟨ws, k, ek, ho, by rw [cc.len, sizeLine_eq]; exact hsz, ?_⟩
                          obtain ⟨S8, st8⟩ := S7.write (o := .dK (putK ws k w)) (mo := .dic (putG acc k yd)) hD7 hk rfl rfl (cc.put k rp7)
                          have hk8 := set_take (X := (⟨true, .dic (putG acc k yd)⟩ : Ob)) hk
                          have S8' := (S8.cut (u'.length + 1)).1
                          have st8' := (st17.trans st8).cut S8 (n := u'.length + 1) (by rw [List.length_append, hA]; exact Nat.le_refl _)
                          rw [hk8, p7, take_pre hA.symm] at S8' st8'
                          have hlk := (List.getElem?_eq_some_iff.mp hk).1
                          exact ⟨u7.take u'.length, putG acc k yd, by rw [List.length_take]; omega, st8', S8', e3⟩
                        · cases e3
        · cases e3
      · rw [List.drop_eq_nil_of_le (by omega)] at e3
        unfold dcL at e3
        split at e3
        · rename_i hgd
          cases e3
          refine .inl ⟨ok.stop i _ _ H2 (st0.trans st2) S2 hgd (by omega), q _ _ ?_⟩
          obtain ⟨o, h1, h2, h3, ev⟩ := S2.pop
          refine ⟨A1, minus H2 Dd, Dd, o, ⟨st1.pre, ?_, fun a h => ?_, fun a q y h => ?_⟩, h3, minus_same, rfl, (minus_upd h1).symm, h2⟩
          · rw [← ev]
            exact (st1.trans (st0.trans st2)).keep
          · by_cases e : a = Dd
            · subst e; exact st1.dom _ hD
            · rw [minus_ne e] at h
              exact (st1.trans (st0.trans st2)).dom a h
          · have f := (st1.trans (st0.trans st2)).fr a q y h
            have e : a ≠ Dd := fun z => by
              rw [z, h1] at f
              cases f
              exact (show False from h2).elim
            rw [minus_ne e]; exact f
        · cases e3
end
section
variable {c : Ct} {kx elt tg iter : Expr} {ifs : List Expr} {scope : Scope} {di : DI} {g : DG} {dt : DT} {dk de : DE} {gi : List Nat} {pos : Pos}
theorem je_dc (own : List (Str × Nat)) (hN : c.N.Nodup) (hi : JI c tg iter di) (hb : blkC c.N c.sc scope own = true) (hg : JG (c.blk scope) tg g gi) (ht : JTs (c.blk scope) ifs dt) (hk : JE (c.blk scope) kx dk) (he : JE (c.blk scope) elt de) (hv : ∀ i ∈ gi, i ∈ own.map (·.2) := by decide)
    (hs : ∀ env x, foldedSetIterable iter env x = pure x := by intro _ _; rfl) : JE c (.DictComp kx elt [⟨tg, iter, ifs, 0⟩] scope pos) (dDc di g dt dk de (own.map (·.2))) := by
  obtain ⟨wi, pi, li⟩ := hi
  obtain ⟨tg', pg, lg⟩ := hg
  obtain ⟨tt, pt, lt⟩ := ht
  obtain ⟨tk, pk, lk⟩ := hk
  obtain ⟨te, pe, le⟩ := he
  exact ⟨_, fun X ok => pe_dc ok.calm (by rw [ok.N]; exact hN) (pi X ok) (own := own) (blkOk_by (by rw [ok.N, ok.sc]; exact hb)) (fun s H C cl fp => pg _ (ok.blk s H scope cl C fp)) (fun s H C cl fp => pt _ (ok.blk s H scope cl C fp)) (fun s H C cl fp => pk _ (ok.blk s H scope cl C fp)) (fun s H C cl fp => pe _ (ok.blk s H scope cl C fp)) (hs _), LE.dc li lg hv lt lk le⟩
theorem js_ownLc {i : Nat} {y : Str} {py spos : Pos} (own : List (Str × Nat)) (hN : c.N.Nodup) (hi : JI c tg iter di) (hb : blkC c.N c.sc scope own = true) (hg : JG (c.blk scope) tg g gi) (ht : JTs (c.blk scope) ifs dt) (he : JE (c.blk scope) elt de) (hv : ∀ i ∈ gi, i ∈ own.map (·.2) := by decide)
    (hk : c.sc.kind = .function := by rfl) (hy : c.N[i]? = some y := by rfl) (hyl : c.sc.names.lookup y = some .local := by rfl) (hl : (py.line == pos.line) = true := by rfl) (ha : (scope.names.any fun (n, k) => n == y && (k == .local || k == .cell)) = false := by decide +kernel)
    (hs : ∀ env x, foldedSetIterable iter env x = pure x := by intro _ _; rfl) : JS c (.Assign [.Name y py] (.ListComp elt [⟨tg, iter, ifs, 0⟩] scope pos) spos) (sOwn i (dLc di g dt de (own.map (·.2)))) := by
  obtain ⟨wi, pi, li⟩ := hi
  obtain ⟨tg', pg, lg⟩ := hg
  obtain ⟨tt, pt, lt⟩ := ht
  obtain ⟨te, pe, le⟩ := he
  exact ⟨_, fun X ok => ps_setLc (i := i) ok.calm (by rw [ok.N]; exact hN) (by rw [ok.N]; exact hy) (by rw [ok.sc]; exact hyl) (sw_true (by rw [ok.sc]; exact hk) (by rw [ok.sc]; exact hyl) hl ha) (pi X ok) (own := own) (blkOk_by (by rw [ok.N, ok.sc]; exact hb)) (fun s H C cl fp => pg _ (ok.blk s H scope cl C fp)) (fun s H C cl fp => pt _ (ok.blk s H scope cl C fp)) (fun s H C cl fp => pe _ (ok.blk s H scope cl C fp)) (hs _), LS.own (LE.lc li lg hv lt le)⟩
end

/-! ### (a, *xs) -/
def seqOf : D → Option (List D)
  | .list ds => some ds
  | .tuple ds => some ds
  | _ => none
def daStar (de : DE) (ds : DA) : DA := fun ρ u => match de ρ u with
  | none => none
  | some (r, u1) => match r.sl.vw u1 with
    | none => none
    | some x => match seqOf x with
      | none => none
      | some xs => match ds ρ u1 with
        | none => none
        | some (ss, u2) => some (xs.map Sl.d ++ ss, u2)
theorem RVs.ofD {K : PySem.W.Frag} {A : List Addr} {Hv : Hp} : ∀ {vs : List V} {xs : List D}, RpA K Hv vs xs → RVs K A Hv vs (xs.map Sl.d)
  | _, _, .nil => trivial
  | _, _, .cons h r => ⟨h, RVs.ofD r⟩
theorem RVs.app {K : PySem.W.Frag} {A : List Addr} {Hv : Hp} : ∀ {vs ws : List V} {ss ts : List Sl}, RVs K A Hv vs ss → RVs K A Hv ws ts → RVs K A Hv (vs ++ ws) (ss ++ ts)
  | [], _, [], _, _, h => h
  | _ :: _, _, _ :: _, _, ⟨h, r⟩, h2 => ⟨h, RVs.app r h2⟩
  | [], _, _ :: _, _, h, _ => h.elim
  | _ :: _, _, [], _, h, _ => h.elim
theorem LA.star {K : PySem.W.Frag} {te : TE} {t : TA} {de : DE} {ds : DA} (h : LE K te de) (h2 : LA K t ds) : LA K (StX.tStar K te t) (daStar de ds) := by
  intro A ρ u so u' e σ H S L Q q
  unfold daStar at e
  cases e1 : de ρ u with
  | none => rw [e1] at e; cases e
  | some p1 =>
    obtain ⟨r, u1⟩ := p1
    rw [e1] at e
    simp only at e
    cases x1 : r.sl.vw u1 with
    | none => rw [x1] at e; cases e
    | some x =>
      rw [x1] at e
      simp only at e
      cases x2 : seqOf x with
      | none => rw [x2] at e; cases e
      | some xs =>
        rw [x2] at e
        simp only at e
        cases e2 : ds ρ u1 with
        | none => rw [e2] at e; cases e
        | some p2 =>
          obtain ⟨ss, u2⟩ := p2
          rw [e2] at e
          cases e
          refine h A ρ u r u1 e1 σ H S L _ fun v1 H1 P1 => ?_
          obtain ⟨A1, st1, S1, rv1⟩ := P1.ret
          have w := rv1.vw S1 x1
          have key : ∃ p vs, v1 = V.ref p ∧ (SqT K H1 p vs ∨ SqL K H1 p vs) ∧ RpA K (vis A1 u1 H1) vs xs := by
            cases x <;> try (cases x2; done)
            · cases x2
              obtain ⟨a, vs, rfl, s, rp⟩ := w.list vis_le
              exact ⟨a, vs, rfl, .inr s, rp⟩
            · cases x2
              obtain ⟨a, vs, rfl, s, rp⟩ := w.tuple vis_le
              exact ⟨a, vs, rfl, .inl s, rp⟩
          obtain ⟨p, vs, rfl, sq, rp⟩ := key
          refine ⟨p, vs, rfl, sq, h2 A1 ρ u1 ss _ e2 σ H1 S1 (st1.slots L) _ fun ys H2 P2 => ?_⟩
          obtain ⟨A2, st2, S2, rvs⟩ := P2
          exact q _ _ ⟨A2, st1.trans st2, S2, (RVs.ofD (rp.mono st2.keep)).app rvs⟩
theorem ja_star {c : Ct} {e : Expr} {es : List Expr} {de : DE} {ds : DA} {p : Pos} (h : JE c e de) (h2 : JA c es ds) : JA c (.Starred e p :: es) (daStar de ds) := by
  obtain ⟨te, pe, le⟩ := h
  obtain ⟨ta, pa, la⟩ := h2
  exact ⟨_, fun X ok => by rw [← ok.K]; exact StX.pa_star (pe X ok) (pa X ok), LA.star le la⟩
end DL
end

section
set_option Elab.async false
set_option maxRecDepth 100000
set_option maxHeartbeats 4000000
/-! for k in d: the dict is locked as it is come to, and stays so -/
namespace DL
open PySem L2

def iKeysL (td : TE) : TI := fun σ H R => td σ H fun x H1 => ∃ d, x = .ref d ∧
  ((∃ kvs, Rd H1 d (.dK kvs) ∧ ∀ o H2, H2 d = some (.frz o (.dK kvs)) → (H2 = H1 ∨ (H1 d = some (.dK kvs) ∧ H2 = upd H1 d (.frz o (.dK kvs)))) → R (Itk d o kvs) H2) ∨
   (∃ kvs, Rd H1 d (.dT kvs) ∧ ∀ o H2, H2 d = some (.frz o (.dT kvs)) → (H2 = H1 ∨ (H1 d = some (.dT kvs) ∧ H2 = upd H1 d (.frz o (.dT kvs)))) → R (Itkt d o kvs) H2))
theorem pi_keysL {X : Cx} {tg e : Expr} {td : TE} (he : PE X e td) : PI X tg e (iKeysL td) := by
  refine ⟨fun pins s σ H R I want => thn (he.run pins s σ H _ I want) fun u s1 got => ?_⟩
  obtain ⟨x, H1, J, rx, d, rfl, q⟩ := got
  cases rx
  rcases q with ⟨kvs, rd, q⟩ | ⟨kvs, rd, q⟩
  · have key : ∃ o H2, Inv X pins σ H2 s1 ∧ H2 d = some (.frz o (.dK kvs)) ∧ R (Itk d o kvs) H2 := by
      rcases rd with h | ⟨o, h⟩
      · obtain ⟨o, J2⟩ := J.lock h True.intro
        exact ⟨o, _, J2, upd_same, q o _ upd_same (.inr ⟨h, rfl⟩)⟩
      · exact ⟨o, _, J, h, q o _ h (.inl rfl)⟩
    obtain ⟨o, H2, J2, hd, q⟩ := key
    obtain ⟨low, there, exact_, es, ep, ws, data, size, kv, _⟩ := J2.frzK hd
    refine iter_keys low there exact_ data (pi_one (tk := s1.toks) J2 _ (turn_keys _ data) ⟨_, Heap.get?_push_size _ rfl, rfl, ?_⟩ q)
    rw [size] <;> rfl
  · have key : ∃ o H2, Inv X pins σ H2 s1 ∧ H2 d = some (.frz o (.dT kvs)) ∧ R (Itkt d o kvs) H2 := by
      rcases rd with h | ⟨o, h⟩
      · obtain ⟨o, J2⟩ := J.lock h True.intro
        exact ⟨o, _, J2, upd_same, q o _ upd_same (.inr ⟨h, rfl⟩)⟩
      · exact ⟨o, _, J, h, q o _ h (.inl rfl)⟩
    obtain ⟨o, H2, J2, hd, q⟩ := key
    obtain ⟨low, there, exact_, es, ep, data, size, ent⟩ := J2.frzT hd
    refine iter_keys low there exact_ data (pi_one (tk := s1.toks) J2 _ (turn_keysT _ data) ⟨_, Heap.get?_push_size _ rfl, rfl, ?_⟩ q)
    rw [size] <;> rfl
section
variable {K : PySem.W.Frag} {A : List Addr} {u : List Ob} {H : Hp}
theorem rd_one {a : Addr} {o q : HO} (h : H a = some o) (nf : ∀ b y, o ≠ .frz b y) (r : Rd H a q) : q = o := by
  rcases r with r | ⟨b, r⟩
  · rw [h] at r; cases r; rfl
  · rw [h] at r; cases r; exact absurd rfl (nf _ _)
theorem Store.lock (S : Store K A u H) {d : Addr} {o : HO} {ob : Obj} (h : H d = some o) (nf : ∀ b y, o ≠ .frz b y) (seen : ¬ hid A u d) : Store K A u (upd H d (.frz ob o)) ∧ Step A u H A u (upd H d (.frz ob o)) := by
  have mv : ∀ a q, Rd H a q → Rd (upd H d (.frz ob o)) a q := fun a q r => by
    by_cases e : a = d
    · subst e
      rw [rd_one h nf r]
      exact .inr ⟨ob, upd_same⟩
    · exact rd_upd r e
  have le : Le (vis A u H) (vis A u (upd H d (.frz ob o))) := fun a q r => by
    obtain ⟨n, r⟩ := vis_rd r
    exact rd_vis n (mv _ _ r)
  refine ⟨⟨S.len, S.nd, S.nt, fun j a x h1 h2 => ?_⟩, ⟨⟨[], by simp⟩, le, fun a z => ?_, fun a b y z => ?_⟩⟩
  · obtain ⟨q, r, l, c⟩ := S.ob j a x h1 h2
    refine ⟨q, mv _ _ r, fun hl => ?_, c.mono le⟩
    have ne : a ≠ d := fun e => seen ⟨j, x, by rw [← e]; exact h1, h2, hl⟩
    rw [upd_ne ne]; exact l hl
  · by_cases e : a = d
    · rw [e, upd_same] at z; cases z
    · rw [upd_ne e] at z; exact z
  · by_cases e : a = d
    · rw [e, h] at z; cases z; exact absurd rfl (nf _ _)
    · rw [upd_ne e]; exact z
theorem itok_k {d : Addr} {o : Obj} {ws : List (Key × V)} {items : List D} (h : H d = some (.frz o (.dK ws))) (e : items = ws.map fun p => kD p.1) : ItOk K (Itk d o ws) A u H items none := by
  subst e
  refine ⟨fun i x A' u' H' st S _ hx => ?_, fun i A' u' H' st S _ hl => ⟨st.fr _ _ _ h, by simpa using hl⟩⟩
  rw [List.getElem?_map] at hx
  cases hw : ws[i]? with
  | none => rw [hw] at hx; cases hx
  | some p =>
    rw [hw] at hx; cases hx
    refine ⟨⟨st.fr _ _ _ h, (List.getElem?_eq_some_iff.mp hw).1⟩, fun v H'' y => ?_⟩
    obtain ⟨rfl, k, z, e1, rfl⟩ := y
    rw [hw] at e1; cases e1
    exact ⟨Step.refl, S, rp_k _⟩
theorem itok_t {d : Addr} {o : Obj} {ws : List (List Key × V)} {items : List D} (h : H d = some (.frz o (.dT ws))) (e : items = ws.map fun p => ksD p.1) : ItOk K (Itkt d o ws) A u H items none := by
  subst e
  refine ⟨fun i x A' u' H' st S _ hx => ?_, fun i A' u' H' st S _ hl => ⟨st.fr _ _ _ h, by simpa using hl⟩⟩
  rw [List.getElem?_map] at hx
  cases hw : ws[i]? with
  | none => rw [hw] at hx; cases hx
  | some p =>
    rw [hw] at hx; cases hx
    refine ⟨⟨st.fr _ _ _ h, (List.getElem?_eq_some_iff.mp hw).1⟩, fun v H'' y => ?_⟩
    obtain ⟨rfl, k, z, q, e1, rfl, e2⟩ := y
    rw [hw] at e1; cases e1
    exact ⟨Step.refl, S, .tup (.inl (.inl (S.tup e2))) (rp_ks _)⟩
def diKeys (de : DE) : DI := fun ρ u => match de ρ u with
  | none => none
  | some (r, u1) => match r.sl.dat u1 with
    | some (.dict kvs, u2) => some ((kvs.map (·.1), none), u2)
    | _ => none
theorem LI.keys {te : TE} {de : DE} (h : LE K te de) : LI K (iKeysL te) (diKeys de) := by
  intro A ρ u items g u' e σ H S L R q
  unfold diKeys at e
  cases e1 : de ρ u with
  | none => rw [e1] at e; cases e
  | some p =>
    obtain ⟨r, u1⟩ := p
    rw [e1] at e
    simp only at e
    split at e
    · rename_i kvs u2 e2
      cases e
      refine h A ρ u r u1 e1 σ H S L _ fun v H1 P => ?_
      obtain ⟨A1, st1, S1, rv⟩ := P.ret
      obtain ⟨S2, st2, rp⟩ := rv.dat S1 e2
      have st12 := st1.trans st2
      cases rp with
      | @dic a ws _ rd ek rr =>
        obtain ⟨seen, rd⟩ := vis_rd rd
        refine ⟨a, rfl, .inl ⟨ws, rd, fun o H2 h2 alt => ?_⟩⟩
        rcases alt with rfl | ⟨h1, rfl⟩
        · exact q _ A1 _ st12 S2 (itok_k h2 ek.symm)
        · obtain ⟨S3, st3⟩ := S2.lock (ob := o) h1 (fun b y z => by cases z) seen
          exact q _ A1 _ (st12.trans st3) S3 (itok_k h2 ek.symm)
      | @dit a ws _ rd ek rr =>
        obtain ⟨seen, rd⟩ := vis_rd rd
        refine ⟨a, rfl, .inr ⟨ws, rd, fun o H2 h2 alt => ?_⟩⟩
        rcases alt with rfl | ⟨h1, rfl⟩
        · exact q _ A1 _ st12 S2 (itok_t h2 ek.symm)
        · obtain ⟨S3, st3⟩ := S2.lock (ob := o) h1 (fun b y z => by cases z) seen
          exact q _ A1 _ (st12.trans st3) S3 (itok_t h2 ek.symm)
    · cases e
end
theorem ji_keys {c : Ct} {tg e : Expr} {de : DE} (h : JE c e de) : JI c tg e (diKeys de) := by
  obtain ⟨te, pe, le⟩ := h
  exact ⟨_, fun X ok => pi_keysL (pe X ok), LI.keys le⟩
/-! over a list, a tuple, a text, or a dict's keys -/
def diAny (de : DE) : DI := fun ρ u => match diSeq de ρ u with
  | some z => some z
  | none => diKeys de ρ u
theorem LI.any {K : PySem.W.Frag} {te : TE} {de : DE} (h : LE K te de) : LI K (fun σ H R => iSeq K te σ H R ∨ iKeysL te σ H R) (diAny de) := by
  intro A ρ u items g u' e σ H S L R q
  unfold diAny at e
  cases e1 : diSeq de ρ u with
  | some z =>
    rw [e1] at e
    cases e
    exact .inl (LI.seq h A ρ u items g u' e1 σ H S L R q)
  | none =>
    rw [e1] at e
    exact .inr (LI.keys h A ρ u items g u' e σ H S L R q)
theorem ji_any {c : Ct} {tg e : Expr} {de : DE} (h : JE c e de) : JI c tg e (diAny de) := by
  obtain ⟨te, pe, le⟩ := h
  refine ⟨_, fun X ok => ⟨fun pins s σ H R I want => ?_⟩, LI.any le⟩
  rcases want with want | want
  · rw [← ok.K] at want
    exact (pi_seq (pe X ok)).run pins s σ H R I want
  · exact (pi_keysL (pe X ok)).run pins s σ H R I want

/-! ### d.pop(k) -/
def rPopK1 : V → List V → Hp → VK → Prop := fun x xs H Q => ∃ (a : Addr) (kvs : List (Key × V)) (k : Key) (v : V), x = .ref a ∧ xs = [kV k] ∧ H a = some (.dK kvs) ∧ valV kvs k = some v ∧ Q v (upd H a (.dK (dropK kvs k)))
theorem mt_popK1 {X : Cx} : MtR X "dict.pop" rPopK1 := by
  intro pins s σ H x xs v us Q I rx rxs want
  obtain ⟨a, kvs, k, y, rfl, rfl, ha, z, q⟩ := want
  cases rx
  obtain ⟨u1, rfl, r1⟩ := vals1 rxs
  exact d_pop I ha r1 z (.inl rfl) fun w' s' J rw' => ⟨y, _, J, rw', q⟩
def popD1 : MO → List D → Option (D × MO)
  | .dic kvs, [y] => match keyOf y with
    | some k => match valG kvs k with
      | some z => some (z, .dic (dropG kvs k))
      | none => none
    | none => none
  | _, _ => none
theorem u_pop1 {K : PySem.W.Frag} : VuOk K rPopK1 popD1 := by
  intro Hv H a o mo vs xs z mo' le ho cc r e Q q
  unfold popD1 at e
  split at e
  · rename_i kvs y
    cases o <;> first | exact (show False from cc).elim | skip
    rename_i ws
    have rk : RK K Hv ws kvs := cc
    obtain ⟨v, rfl, h1⟩ := r.one
    split at e
    · rename_i k hk
      have or := rk.val k
      have ek := h1.key hk
      subst ek
      split at e
      · rename_i t ht
        cases e
        rw [ht] at or
        cases hv : valV ws k with
        | none => rw [hv] at or; exact or.elim
        | some v =>
          rw [hv] at or
          exact ⟨a, ws, k, v, rfl, rfl, ho, hv, q _ _ or (rk.drop k)⟩
      · cases e
    · cases e
  · cases e
end DL
end

section
set_option Elab.async false
set_option maxRecDepth 100000
set_option maxHeartbeats 4000000
/-! d == {}, d != {} -/
namespace DL
open PySem L2

/-- a dict whose keys are numbers and texts, or that is empty: is it empty? -/
def SayE (H : Hp) (a : Addr) (e : Bool) : Prop := (∃ ks : List (Key × V), Rd H a (.dK ks) ∧ e = ks.isEmpty) ∨ (Rd H a (.dT []) ∧ e = true)
theorem SayE.sem {X : Cx} {pins : List (Addr × Obj)} {σ : L2.St} {H : Hp} {s : Shared} {a : Addr} {e : Bool} (I : Inv X pins σ H s) (h : SayE H a e) : (a == sysModules) = false ∧ ∃ vs, s.heap.DictOf (mixKind X.prog X.w) a vs ∧ e = (vs.length == 0) := by
  rcases h with ⟨ks, rd, rfl⟩ | ⟨rd, rfl⟩
  · obtain ⟨_, low, vs, rel, dd⟩ := dk_rd I.hok rd
    refine ⟨low, vs, dd, ?_⟩
    have := rel.length
    cases ks <;> cases vs <;> first | rfl | (simp at this)
  · obtain ⟨low, dd⟩ := none_in I.hok rd
    exact ⟨low, [], dd, rfl⟩
def rEqE (neg : Bool) : R2 := fun x y H Q => ∃ a b e, x = .ref a ∧ y = .ref b ∧ SayE H a e ∧ SayE H b true ∧ Q (.bl (e != neg)) H
theorem op_eqE {X : Cx} (hu : X.A.units < cLine) : OpR X (compareOp .Eq) (rEqE false) := by
  intro pins s σ H x y v u Q I rx ry want
  obtain ⟨a, b, e, rfl, rfl, ea, eb, q⟩ := want
  cases rx
  cases ry
  obtain ⟨low, vs, da, h1⟩ := ea.sem I
  obtain ⟨low2, ws, db, h2⟩ := eb.sem I
  have hw : ws = [] := List.length_eq_zero_iff.mp (by simpa using h2.symm)
  subst hw
  refine PySem.W.keq_eq (knd := mixKind X.prog X.w) (r := true) low low2 da db hu (fun e => ?_) (fin_bl I q (by rw [h1]; simp))
  rw [List.length_eq_zero_iff.mp e]
  exact .nil
theorem op_neE {X : Cx} (hu : X.A.units < cLine) : OpR X (compareOp .NotEq) (rEqE true) := by
  intro pins s σ H x y v u Q I rx ry want
  obtain ⟨a, b, e, rfl, rfl, ea, eb, q⟩ := want
  cases rx
  cases ry
  obtain ⟨low, vs, da, h1⟩ := ea.sem I
  obtain ⟨low2, ws, db, h2⟩ := eb.sem I
  have hw : ws = [] := List.length_eq_zero_iff.mp (by simpa using h2.symm)
  subst hw
  refine PySem.W.keq_ne (knd := mixKind X.prog X.w) (r := true) low low2 da db hu (fun e => ?_) (fin_bl I q (by rw [h1]; simp))
  rw [List.length_eq_zero_iff.mp e]
  exact .nil
def eqA (b : Bool) : D → D → Option Rt
  | .dict kvs, .dict [] => if kvs.all fun p => (keyOf p.1).isSome then sD (.bool (kvs.isEmpty == b)) else none
  | .str x, .str y => sD (.bool (decide (x = y) == b))
  | x, y => eqD b x y
theorem Rq.say {K : PySem.W.Frag} {Hv H : Hp} {v : V} {kvs : List (D × D)} (le : Le Hv H) (h : Rq K Hv H v (.dict kvs)) (e : (kvs.all fun p => (keyOf p.1).isSome) = true) : ∃ a, v = .ref a ∧ SayE H a kvs.isEmpty := by
  obtain ⟨a, rfl, hk⟩ := h.dict le
  refine ⟨a, rfl, ?_⟩
  rcases hk with ⟨ws, rd, ek, _⟩ | ⟨ws, rd, ek, _⟩
  · refine .inl ⟨ws, rd, ?_⟩
    have := congrArg List.length ek
    cases ws <;> cases kvs <;> first | rfl | (simp at this)
  · cases ws with
    | nil =>
      cases kvs with
      | nil => exact .inr ⟨rd, rfl⟩
      | cons _ _ => simp at ek
    | cons t ws =>
      exfalso
      cases kvs with
      | nil => simp at ek
      | cons p r =>
        have e1 := (List.cons.inj (by simpa only [List.map_cons] using ek)).1
        rw [List.all_cons, Bool.and_eq_true, ← e1] at e
        simp [ksD, keyOf] at e
def rEqA (K : PySem.W.Frag) : R2 := fun x y H Q => rEqE false x y H Q ∨ rEqD K x y H Q ∨ rEq x y H Q
def rNeA (K : PySem.W.Frag) : R2 := fun x y H Q => rEqE true x y H Q ∨ rNeD K x y H Q ∨ rNe x y H Q
theorem o_eqA {c : Ct} : ∀ X, OkX c X → OpR X (compareOp .Eq) (rEqA c.K) := fun X ok => (op_eqE (by have := ok.room.units; omega)).or ((o_eq X ok).or op_eq)
theorem o_neA {c : Ct} : ∀ X, OkX c X → OpR X (compareOp .NotEq) (rNeA c.K) := fun X ok => (op_neE (by have := ok.room.units; omega)).or ((o_ne X ok).or op_ne)
theorem v_eqA {K : PySem.W.Frag} : V2Ok K (rEqA K) (eqA true) := by
  intro Hv H le v w x y res h1 h2 e Q q
  unfold eqA at e
  split at e
  · rename_i kvs
    split at e
    · rename_i hall
      cases e
      obtain ⟨a, rfl, s1⟩ := h1.say le hall
      obtain ⟨b, rfl, s2⟩ := h2.say le rfl
      refine .inl ⟨a, b, _, rfl, rfl, s1, s2, ?_⟩
      have := q (.bl (kvs.isEmpty == true)) H (.d (.bl _))
      rwa [show (kvs.isEmpty == true) = (kvs.isEmpty != false) by cases kvs.isEmpty <;> rfl] at this
    · cases e
  · rename_i x y
    cases e
    rw [h1.str, h2.str]
    refine .inr (.inr ⟨rfl, ?_⟩)
    have := q (.bl (decide (x = y) == true)) H (.d (.bl _))
    rwa [show (decide (x = y) == true) = decide (V.str x = V.str y) by
      by_cases z : x = y
      · simp [z]
      · have : ¬ V.str x = V.str y := fun k => z (by injection k)
        simp [z]] at this
  · exact .inr (.inl (v_eq Hv H le v w _ _ res h1 h2 e Q q))
theorem v_neA {K : PySem.W.Frag} : V2Ok K (rNeA K) (eqA false) := by
  intro Hv H le v w x y res h1 h2 e Q q
  unfold eqA at e
  split at e
  · rename_i kvs
    split at e
    · rename_i hall
      cases e
      obtain ⟨a, rfl, s1⟩ := h1.say le hall
      obtain ⟨b, rfl, s2⟩ := h2.say le rfl
      refine .inl ⟨a, b, _, rfl, rfl, s1, s2, ?_⟩
      have := q (.bl (kvs.isEmpty == false)) H (.d (.bl _))
      rwa [show (kvs.isEmpty == false) = (kvs.isEmpty != true) by cases kvs.isEmpty <;> rfl] at this
    · cases e
  · rename_i x y
    cases e
    rw [h1.str, h2.str]
    refine .inr (.inr ⟨rfl, ?_⟩)
    have := q (.bl (decide (x = y) == false)) H (.d (.bl _))
    rwa [show (decide (x = y) == false) = !decide (V.str x = V.str y) by
      by_cases z : x = y
      · simp [z]
      · have : ¬ V.str x = V.str y := fun k => z (by injection k)
        simp [z]] at this
  · exact .inr (.inl (v_ne Hv H le v w _ _ res h1 h2 e Q q))
end DL
end

section
set_option Elab.async false
set_option maxRecDepth 100000
set_option maxHeartbeats 4000000
/-! the mirrors by rewriting: each combinator as a chain that is gone into from the left -/
namespace DL
open PySem L2

/-- what stands ahead of it isn't gone into: a later argument's type hangs on it -/
abbrev Wt {α : Type} (_ : α) : Type := Unit
def bd {α β : Type} (x : Option α) (f : α → Option β) (_ : Wt f := ()) : Option β := x.bind f
@[simp] theorem bd_some {α β : Type} (a : α) (f : α → Option β) (w : Wt f) : bd (some a) f w = f a := rfl
@[simp] theorem bd_none {α β : Type} (f : α → Option β) (w : Wt f) : bd (none : Option α) f w = none := rfl
/-- a choice that is not gone into before it is made -/
def ch {α : Type} (b : Bool) (x y : Unit → α) (_ : Wt x := ()) (_ : Wt y := ()) : α := if b then x () else y ()
@[simp] theorem ch_true {α : Type} (x y : Unit → α) (w : Wt x) (z : Wt y) : ch true x y w z = x () := rfl
@[simp] theorem ch_false {α : Type} (x y : Unit → α) (w : Wt x) (z : Wt y) : ch false x y w z = y () := rfl
def nxt (o : Option Out) (f : List Sl → List Ob → Option Out) (_ : Wt f := ()) : Option Out := match o with
  | some (.nx ρ u) => f ρ u
  | o => o
@[simp] theorem nxt_nx (ρ : List Sl) (u : List Ob) (f : List Sl → List Ob → Option Out) (w : Wt f) : nxt (some (.nx ρ u)) f w = f ρ u := rfl
@[simp] theorem nxt_rt (r : Rt) (u : List Ob) (f : List Sl → List Ob → Option Out) (w : Wt f) : nxt (some (.rt r u)) f w = some (.rt r u) := rfl
@[simp] theorem nxt_bk (ρ : List Sl) (u : List Ob) (f : List Sl → List Ob → Option Out) (w : Wt f) : nxt (some (.bk ρ u)) f w = some (.bk ρ u) := rfl
@[simp] theorem nxt_ct (ρ : List Sl) (u : List Ob) (f : List Sl → List Ob → Option Out) (w : Wt f) : nxt (some (.ct ρ u)) f w = some (.ct ρ u) := rfl
@[simp] theorem nxt_none (f : List Sl → List Ob → Option Out) (w : Wt f) : nxt none f w = none := rfl

section
variable {ρ : List Sl} {u : List Ob}
/-! slots -/
def slR : Option Sl → List Ob → Option (Rt × List Ob)
  | some (.d x), u => some (.s (.d x), u)
  | some (.m j), u => some (.s (.m j), u)
  | _, _ => none
@[simp] theorem slR_d (x : D) : slR (some (.d x)) u = some (.s (.d x), u) := rfl
@[simp] theorem slR_m (j : Nat) : slR (some (.m j)) u = some (.s (.m j), u) := rfl
theorem e_var (i : Nat) : dVar i ρ u = slR ρ[i]? u := by
  unfold dVar slR
  cases ρ[i]? with
  | none => rfl
  | some s => cases s <;> rfl
theorem e_c (x : D) : dC x ρ u = some (.s (.d x), u) := rfl
@[simp] theorem sl_s (x : Sl) : (Rt.s x).sl = x := rfl
@[simp] theorem sl_nw (mo : MO) : (Rt.nw mo).sl = .d mo.toD := rfl
@[simp] theorem vw_d (x : D) : (Sl.d x).vw u = some x := rfl
theorem e_bin (f : D → D → Option Rt) (a b : DE) : dBin f a b ρ u = bd (a ρ u) fun p => bd (b ρ p.2) fun q => bd (p.1.sl.vw q.2) fun x => bd (q.1.sl.vw q.2) fun y => bd (f x y) fun r => some (r, q.2) := by
  unfold dBin bd
  cases e1 : a ρ u with
  | none => rfl
  | some p =>
    obtain ⟨r1, u1⟩ := p
    simp only [Option.bind_some]
    cases e2 : b ρ u1 with
    | none => rfl
    | some q =>
      obtain ⟨r2, u2⟩ := q
      simp only [Option.bind_some]
      cases r1.sl.vw u2 with
      | none => rfl
      | some x =>
        cases r2.sl.vw u2 with
        | none => rfl
        | some y => simp only [Option.bind_some]; cases f x y <;> rfl
theorem e_un (f : D → Option Rt) (a : DE) : dUn f a ρ u = bd (a ρ u) fun p => bd (p.1.sl.vw p.2) fun x => bd (f x) fun r => some (r, p.2) := by
  unfold dUn bd
  cases a ρ u with
  | none => rfl
  | some p =>
    simp only [Option.bind_some]
    cases p.1.sl.vw p.2 with
    | none => rfl
    | some x => simp only [Option.bind_some]; cases f x <;> rfl
theorem e_anil : daNil ρ u = some ([], u) := rfl
theorem e_acons (a : DE) (b : DA) : daCons a b ρ u = bd (a ρ u) fun p => bd (b ρ p.2) fun q => some (p.1.sl :: q.1, q.2) := by
  unfold daCons bd
  cases a ρ u with
  | none => rfl
  | some p => simp only [Option.bind_some]; cases b ρ p.2 <;> rfl
@[simp] theorem vws_nil : vws u [] = some [] := rfl
@[simp] theorem vws_cons (s : Sl) (ss : List Sl) : vws u (s :: ss) = bd (s.vw u) fun x => bd (vws u ss) fun xs => some (x :: xs) := by
  conv => lhs; unfold vws
  unfold bd
  cases s.vw u with
  | none => rfl
  | some x => simp only [Option.bind_some]; cases vws u ss <;> rfl
theorem e_fn (f : List D → Option Rt) (a : DA) : dFn f a ρ u = bd (a ρ u) fun p => bd (vws p.2 p.1) fun xs => bd (f xs) fun r => some (r, p.2) := by
  unfold dFn bd
  cases a ρ u with
  | none => rfl
  | some p =>
    simp only [Option.bind_some]
    cases vws p.2 p.1 with
    | none => rfl
    | some x => simp only [Option.bind_some]; cases f x <;> rfl
theorem e_if (t : DT) (a b : DE) : dIf t a b ρ u = bd (t ρ u) fun p => ch p.1 (fun _ => a ρ p.2) (fun _ => b ρ p.2) := by
  unfold dIf bd
  cases t ρ u with
  | none => rfl
  | some p => obtain ⟨b, u1⟩ := p; cases b <;> rfl
def rtB : Rt → Option Bool
  | .s (.d (.bool b)) => some b
  | _ => none
@[simp] theorem rtB_b (b : Bool) : rtB (.s (.d (.bool b))) = some b := rfl
theorem e_b (a : DE) : dB a ρ u = bd (a ρ u) fun p => bd (rtB p.1) fun b => some (b, p.2) := by
  unfold dB bd
  cases a ρ u with
  | none => rfl
  | some p =>
    obtain ⟨r, u1⟩ := p
    simp only [Option.bind_some]
    cases r with
    | nw mo => rfl
    | s x =>
      cases x with
      | un => rfl
      | m j => rfl
      | d y => cases y <;> rfl
theorem e_and (a b : DT) : dAnd a b ρ u = bd (a ρ u) fun p => ch p.1 (fun _ => b ρ p.2) (fun _ => some (false, p.2)) := by
  unfold dAnd bd
  cases a ρ u with
  | none => rfl
  | some p => obtain ⟨c, u1⟩ := p; cases c <;> rfl
theorem e_or (a b : DT) : dOr a b ρ u = bd (a ρ u) fun p => ch p.1 (fun _ => some (true, p.2)) (fun _ => b ρ p.2) := by
  unfold dOr bd
  cases a ρ u with
  | none => rfl
  | some p => obtain ⟨c, u1⟩ := p; cases c <;> rfl
theorem e_not (a : DT) : dNot a ρ u = bd (a ρ u) fun p => some (!p.1, p.2) := by
  unfold dNot bd
  cases a ρ u <;> rfl
theorem e_tv (a : DT) : dTV a ρ u = bd (a ρ u) fun p => some (.s (.d (.bool p.1)), p.2) := by
  unfold dTV bd
  cases a ρ u <;> rfl
theorem e_andV (a b : DE) : dAndV a b ρ u = bd (a ρ u) fun p => bd (rtB p.1) fun c => ch c (fun _ => b ρ p.2) (fun _ => some (.s (.d (.bool false)), p.2)) := by
  unfold dAndV bd
  cases a ρ u with
  | none => rfl
  | some p =>
    obtain ⟨r, u1⟩ := p
    simp only [Option.bind_some]
    cases r with
    | nw mo => rfl
    | s x =>
      cases x with
      | un => rfl
      | m j => rfl
      | d y =>
        cases y with
        | bool c => cases c <;> rfl
        | _ => rfl
theorem e_orV (a b : DE) : dOrV a b ρ u = bd (a ρ u) fun p => bd (rtB p.1) fun c => ch c (fun _ => some (.s (.d (.bool true)), p.2)) (fun _ => b ρ p.2) := by
  unfold dOrV bd
  cases a ρ u with
  | none => rfl
  | some p =>
    obtain ⟨r, u1⟩ := p
    simp only [Option.bind_some]
    cases r with
    | nw mo => rfl
    | s x =>
      cases x with
      | un => rfl
      | m j => rfl
      | d y =>
        cases y with
        | bool c => cases c <;> rfl
        | _ => rfl
theorem e_tru (a : DE) : dTru a ρ u = bd (a ρ u) fun p => bd (p.1.sl.vw p.2) fun x => bd (truthD x) fun b => some (b, p.2) := by
  unfold dTru bd
  cases a ρ u with
  | none => rfl
  | some p =>
    simp only [Option.bind_some]
    cases p.1.sl.vw p.2 with
    | none => rfl
    | some x => simp only [Option.bind_some]; cases truthD x <;> rfl
@[simp] theorem dats_nil : dats u [] = some ([], u) := rfl
@[simp] theorem dats_cons (s : Sl) (ss : List Sl) : dats u (s :: ss) = bd (s.dat u) fun p => bd (dats p.2 ss) fun q => some (p.1 :: q.1, q.2) := by
  conv => lhs; unfold dats
  unfold bd
  cases s.dat u with
  | none => rfl
  | some p => simp only [Option.bind_some]; cases dats p.2 ss <;> rfl
@[simp] theorem dat_d (x : D) : (Sl.d x).dat u = some (x, u) := rfl
theorem e_tup (a : DA) : dTup a ρ u = bd (a ρ u) fun p => bd (dats p.2 p.1) fun q => ch (decide (q.1.length ≤ SZ)) (fun _ => some (.nw (.tup q.1), q.2)) (fun _ => none) := by
  unfold dTup bd ch
  cases a ρ u with
  | none => rfl
  | some p =>
    simp only [Option.bind_some]
    cases dats p.2 p.1 with
    | none => rfl
    | some q => simp only [Option.bind_some, decide_eq_true_eq]
theorem e_lst (a : DA) : dLst a ρ u = bd (a ρ u) fun p => bd (dats p.2 p.1) fun q => ch (decide (q.1.length ≤ SZ)) (fun _ => some (.nw (.lst q.1), q.2)) (fun _ => none) := by
  unfold dLst bd ch
  cases a ρ u with
  | none => rfl
  | some p =>
    simp only [Option.bind_some]
    cases dats p.2 p.1 with
    | none => rfl
    | some q => simp only [Option.bind_some, decide_eq_true_eq]
theorem e_call (f : FnD) (n : Nat) (a : DA) : dCall f n a ρ u = bd (a ρ u) fun p => ch (decide (p.1.length = n)) (fun _ => f p.1 p.2) (fun _ => none) := by
  unfold dCall bd ch
  cases a ρ u with
  | none => rfl
  | some p => simp only [Option.bind_some, decide_eq_true_eq]
/-! statements -/
theorem e_nil : sNil ρ u = some (.nx ρ u) := rfl
theorem e_seq (a b : DS) : sSeq a b ρ u = nxt (a ρ u) fun ρ1 u1 => b ρ1 u1 := by
  unfold sSeq nxt
  cases a ρ u with
  | none => rfl
  | some o => cases o <;> rfl
theorem e_ret (a : DE) : sRet a ρ u = bd (a ρ u) fun p => some (.rt p.1 p.2) := by
  unfold sRet bd
  cases a ρ u <;> rfl
theorem e_expr (a : DE) : sExpr a ρ u = bd (a ρ u) fun p => some (.nx ρ p.2) := by
  unfold sExpr bd
  cases a ρ u <;> rfl
theorem e_sif (t : DT) (a b : DS) : sIf t a b ρ u = bd (t ρ u) fun p => ch p.1 (fun _ => a ρ p.2) (fun _ => b ρ p.2) := by
  unfold sIf bd
  cases t ρ u with
  | none => rfl
  | some p => obtain ⟨c, u1⟩ := p; cases c <;> rfl
theorem e_asg (g : DG) (a : DE) : sAsg g a ρ u = bd (a ρ u) fun p => bd (g p.1.sl ρ) fun ρ1 => some (.nx ρ1 p.2) := by
  unfold sAsg bd
  cases a ρ u with
  | none => rfl
  | some p => simp only [Option.bind_some]; cases g p.1.sl ρ <;> rfl
theorem e_set (i : Nat) (s : Sl) : gSet i s ρ = some (ρ.set i s) := rfl
theorem e_gnone : gNone [] ρ = some ρ := rfl
theorem e_gsome (g : DG) (gs : DGs) (x : D) (r : List D) : gSome g gs (x :: r) ρ = bd (g (.d x) ρ) fun ρ1 => gs r ρ1 := by
  unfold gSome bd
  simp only
  cases g (.d x) ρ <;> rfl
theorem e_unp (n : Nat) (gs : DGs) (xs : List D) : gUnp n gs (.d (.tuple xs)) ρ = ch (decide (xs.length = n)) (fun _ => gs xs ρ) (fun _ => none) := by
  unfold gUnp ch
  simp only [decide_eq_true_eq]
end
/-! operations -/
theorem q_str (b : Bool) (x y : Str) (hx : PyData.strOk x = true) (hy : PyData.strOk y = true) : eqD b (.str x) (.str y) = sD (.bool ((x == y) == b)) := by
  unfold eqD
  rw [if_pos ⟨by simp [SeqAt.shaped, PyData.canLay0, PyData.depth, hx], by simp [SeqAt.shaped, PyData.canLay0, PyData.depth, hy]⟩]
  simp [PyData.eqv]
theorem q_int (b : Bool) (x y : Int) : eqD b (.int x) (.int y) = sD (.bool ((x == y) == b)) := by
  unfold eqD
  rw [if_pos ⟨by simp [SeqAt.shaped, PyData.canLay0, PyData.depth], by simp [SeqAt.shaped, PyData.canLay0, PyData.depth]⟩]
  simp [PyData.eqv]
theorem qa_str (b : Bool) (x y : Str) : eqA b (.str x) (.str y) = sD (.bool ((x == y) == b)) := by
  show sD (.bool (decide (x = y) == b)) = _
  rw [show (x == y) = decide (x = y) from by by_cases z : x = y <;> simp [z]]
theorem qa_int (b : Bool) (x y : Int) : eqA b (.int x) (.int y) = sD (.bool ((x == y) == b)) := q_int b x y
theorem qa_tup (b : Bool) (xs : List D) (y : D) : eqA b (.tuple xs) y = eqD b (.tuple xs) y := by cases y <;> rfl
theorem qa_list (b : Bool) (xs : List D) (y : D) : eqA b (.list xs) y = eqD b (.list xs) y := by cases y <;> rfl
theorem qa_none (b : Bool) (kvs : List (D × D)) (h : (kvs.all fun p => (keyOf p.1).isSome) = true) : eqA b (.dict kvs) (.dict []) = sD (.bool (kvs.isEmpty == b)) := by
  show (if _ then _ else _) = _; rw [if_pos h]
@[simp] theorem beq_t (b : Bool) : (b == true) = b := by cases b <;> rfl
@[simp] theorem beq_f (b : Bool) : (b == false) = !b := by cases b <;> rfl
/-- a def whose body gives data and leaves the store -/
theorem fnD_ret {n N : Nat} {ds : DS} {args : List Sl} {u : List Ob} {y : D} (hl : args.length = n) (h : ds (args ++ List.replicate (N - n) .un) u = some (.rt (.s (.d y)) u)) : fnD n N ds args u = some (.s (.d y), u) := by
  unfold fnD
  rw [if_pos hl, h]
  simp only [fin, List.take_length]
/-! loops -/
section
variable {dt : DT} {body : DS} {ρ ρ1 ρ2 : List Sl} {u u1 u2 : List Ob} {o : Out} {r : Rt} {g : DG} {x : D} {xs : List D}
theorem wh_end (h : dt ρ u = some (false, u1)) : sWhile dt body ρ u = some (.nx ρ u1) := sWhile_of (n := 1) (by unfold whL; rw [h])
theorem wh_rt (h : dt ρ u = some (true, u1)) (h2 : body ρ u1 = some (.rt r u2)) : sWhile dt body ρ u = some (.rt r u2) := sWhile_of (n := 1) (by unfold whL; rw [h]; simp only [h2])
theorem wh_bk (h : dt ρ u = some (true, u1)) (h2 : body ρ u1 = some (.bk ρ2 u2)) : sWhile dt body ρ u = some (.nx ρ2 u2) := sWhile_of (n := 1) (by unfold whL; rw [h]; simp only [h2])
theorem wh_nx (h : dt ρ u = some (true, u1)) (h2 : body ρ u1 = some (.nx ρ2 u2)) (h3 : sWhile dt body ρ2 u2 = some o) : sWhile dt body ρ u = some o := by
  obtain ⟨n, hn⟩ := sWhile_some h3
  exact sWhile_of (n := n + 1) (by unfold whL; rw [h]; simp only [h2, hn])
theorem wh_ct (h : dt ρ u = some (true, u1)) (h2 : body ρ u1 = some (.ct ρ2 u2)) (h3 : sWhile dt body ρ2 u2 = some o) : sWhile dt body ρ u = some o := by
  obtain ⟨n, hn⟩ := sWhile_some h3
  exact sWhile_of (n := n + 1) (by unfold whL; rw [h]; simp only [h2, hn])
theorem grd_none : Grd u none := trivial
theorem for_nil : forL none g body [] ρ u = some (.nx ρ u) := by unfold forL; rw [if_pos grd_none]
theorem for_nx (h : g (.d x) ρ = some ρ1) (h2 : body ρ1 u = some (.nx ρ2 u2)) : forL none g body (x :: xs) ρ u = forL none g body xs ρ2 u2 := by
  conv => lhs; unfold forL
  rw [if_pos grd_none, h]; simp only [h2]
theorem for_ct (h : g (.d x) ρ = some ρ1) (h2 : body ρ1 u = some (.ct ρ2 u2)) : forL none g body (x :: xs) ρ u = forL none g body xs ρ2 u2 := by
  conv => lhs; unfold forL
  rw [if_pos grd_none, h]; simp only [h2]
theorem for_bk (h : g (.d x) ρ = some ρ1) (h2 : body ρ1 u = some (.bk ρ2 u2)) : forL none g body (x :: xs) ρ u = some (.nx ρ2 u2) := by
  conv => lhs; unfold forL
  rw [if_pos grd_none, h]; simp only [h2]
theorem for_rt (h : g (.d x) ρ = some ρ1) (h2 : body ρ1 u = some (.rt r u2)) : forL none g body (x :: xs) ρ u = some (.rt r u2) := by
  conv => lhs; unfold forL
  rw [if_pos grd_none, h]; simp only [h2]
theorem e_for (di : DI) : sFor di g body ρ u = bd (di ρ u) fun p => forL p.1.2 g body p.1.1 ρ p.2 := by
  unfold sFor bd
  cases di ρ u <;> rfl
theorem e_seqI (de : DE) : diSeq de ρ u = bd (de ρ u) fun p => bd (iItems p.1.sl p.2) fun z => some (z, p.2) := by
  unfold diSeq bd
  cases de ρ u with
  | none => rfl
  | some p => simp only [Option.bind_some]; cases iItems p.1.sl p.2 <;> rfl
/-- what is walked -/
def anyIt : Sl → List Ob → Option ((List D × Option (Nat × MO)) × List Ob)
  | .d (.list xs), u => some ((xs, none), u)
  | .d (.tuple xs), u => some ((xs, none), u)
  | .d (.str x), u => some ((strItems x, none), u)
  | .d (.dict kvs), u => some ((kvs.map (·.1), none), u)
  | .m j, u => match u[j]? with
    | some ⟨_, .lst xs⟩ => some ((xs, some (j, .lst xs)), u)
    | some b => match b.o.toD with
      | .dict kvs => some ((kvs.map (·.1), none), u.set j ⟨false, b.o⟩)
      | _ => none
    | none => none
  | _, _ => none
theorem any_l (xs : List D) : anyIt (.d (.list xs)) u = some ((xs, none), u) := rfl
theorem any_t (xs : List D) : anyIt (.d (.tuple xs)) u = some ((xs, none), u) := rfl
theorem any_s (x : Str) : anyIt (.d (.str x)) u = some ((strItems x, none), u) := rfl
theorem any_d (kvs : List (D × D)) : anyIt (.d (.dict kvs)) u = some ((kvs.map (·.1), none), u) := rfl
theorem e_any (de : DE) : diAny de ρ u = bd (de ρ u) fun p => anyIt p.1.sl p.2 := by
  unfold diAny diSeq diKeys bd
  cases de ρ u with
  | none => rfl
  | some p =>
    obtain ⟨r, u1⟩ := p
    simp only [Option.bind_some]
    cases r.sl with
    | un => rfl
    | d x => cases x <;> rfl
    | m j =>
      simp only [iItems, anyIt, Sl.dat]
      cases u1[j]? with
      | none => rfl
      | some b =>
        obtain ⟨l, mo⟩ := b
        cases mo <;> rfl
/-! comprehensions -/
theorem get_end {α : Type} (u : List α) (b : α) : (u ++ [b])[u.length]? = some b := by
  rw [List.getElem?_append_right (Nat.le_refl _)]; simp
theorem take_end {α : Type} (u : List α) (b : α) : (u ++ [b]).take u.length = u := by simp
/-- each item by itself: a list comprehension that leaves the store -/
theorem lc_pure {de : DE} {ρx : D → List Sl} {p : D → Bool} {f : D → D} : ∀ {xs acc : List D}, (∀ x ∈ xs, g (.d x) ρ = some (ρx x)) → (∀ x ∈ xs, ∀ w, dt (ρx x) w = some (p x, w)) → (∀ x ∈ xs, p x = true → ∀ w, ∃ r, de (ρx x) w = some (r, w) ∧ r.sl = .d (f x)) → acc.length + xs.length ≤ SZ →
    lcL none g dt de ρ xs acc u = some (acc ++ (xs.filter p).map f, u)
  | [], acc, _, _, _, _ => by unfold lcL; rw [if_pos grd_none]; simp
  | x :: xs, acc, h1, h2, h3, hz => by
    have ih := fun acc' (hz : acc'.length + xs.length ≤ SZ) => lc_pure (acc := acc') (fun y hy => h1 y (List.mem_cons_of_mem _ hy)) (fun y hy => h2 y (List.mem_cons_of_mem _ hy)) (fun y hy => h3 y (List.mem_cons_of_mem _ hy)) hz
    rw [List.length_cons] at hz
    unfold lcL
    rw [if_pos grd_none, h1 x List.mem_cons_self]
    simp only [h2 x List.mem_cons_self]
    cases hp : p x with
    | false =>
      simp only [get_end, if_true, take_end]
      rw [ih acc (by omega), List.filter_cons, hp]
      rfl
    | true =>
      obtain ⟨r, e1, e2⟩ := h3 x List.mem_cons_self hp (u ++ [⟨true, .lst acc⟩])
      simp only [e1, e2, dat_d, get_end, take_end]
      rw [if_pos ⟨trivial, by omega⟩, ih (acc ++ [f x]) (by rw [List.length_append]; simp; omega), List.filter_cons, hp]
      simp
theorem e_lc (di : DI) (de : DE) (vs : List Nat) : dLc di g dt de vs ρ u = bd (di ρ u) fun p => bd (lcL p.1.2 g dt de (wipeS ρ vs) p.1.1 [] p.2) fun q => some (.nw (.lst q.1), q.2) := by
  unfold dLc bd
  cases di ρ u with
  | none => rfl
  | some p =>
    obtain ⟨⟨items, gd⟩, u1⟩ := p
    simp only [Option.bind_some]
    cases lcL gd g dt de (wipeS ρ vs) items [] u1 <;> rfl
end
/-- a def that hands back a list or dict of its own -/
theorem fnD_own {n N : Nat} {ds : DS} {args : List Sl} {u v : List Ob} {mo : MO} (hl : args.length = n) (h : ds (args ++ List.replicate (N - n) .un) u = some (.rt (.s (.m (u.length + v.length))) (u ++ v ++ [⟨true, mo⟩]))) : fnD n N ds args u = some (.nw mo, u) := by
  unfold fnD
  rw [if_pos hl, h]
  have e : (u ++ v ++ [(⟨true, mo⟩ : Ob)])[u.length + v.length]? = some ⟨true, mo⟩ := by
    rw [List.getElem?_append_right (by simp)]; simp
  have e2 : (u ++ v ++ [(⟨true, mo⟩ : Ob)]).take u.length = u := by rw [List.append_assoc]; simp
  simp only [fin, e, e2]
  rw [if_neg (by omega)]
theorem fnD_new {n N : Nat} {ds : DS} {args : List Sl} {u v : List Ob} {mo : MO} (hl : args.length = n) (h : ds (args ++ List.replicate (N - n) .un) u = some (.rt (.nw mo) (u ++ v))) : fnD n N ds args u = some (.nw mo, u) := by
  unfold fnD
  rw [if_pos hl, h]
  simp [fin]
/-- a def that writes to what it was handed -/
theorem fnD_eff {n N : Nat} {ds : DS} {args : List Sl} {u u2 v : List Ob} {y : D} (hl : args.length = n) (h : ds (args ++ List.replicate (N - n) .un) u = some (.rt (.s (.d y)) (u2 ++ v))) (hu : u2.length = u.length) : fnD n N ds args u = some (.s (.d y), u2) := by
  unfold fnD
  rw [if_pos hl, h]
  simp only [fin, ← hu, List.take_left]
/-! operations, by what they are handed -/
theorem on1_ (f : D → Option Rt) (x : D) : on1 f [x] = f x := rfl
theorem on2_ (f : D → D → Option Rt) (x y : D) : on2 f [x, y] = f x y := rfl
theorem len_l (xs : List D) : lenD (.list xs) = sD (.int xs.length) := rfl
theorem len_t (xs : List D) : lenD (.tuple xs) = sD (.int xs.length) := rfl
theorem len_d (kvs : List (D × D)) : lenD (.dict kvs) = sD (.int kvs.length) := rfl
theorem len_s (z : Str) (h : z.length ≤ SZ) : lenD (.str z) = sD (.int z.length) := by show (if z.length ≤ SZ then _ else _) = _; rw [if_pos h]
theorem tru_b (b : Bool) : truthD (.bool b) = some b := rfl
theorem tru_l (xs : List D) : truthD (.list xs) = some (!xs.isEmpty) := rfl
theorem tru_t (xs : List D) : truthD (.tuple xs) = some (!xs.isEmpty) := rfl
theorem tru_n : truthD .none = some false := rfl
theorem kgt_ (kvs : List (Str × D)) (z : Str) : kgtD kvs (.str z) = sD ((kvs.lookup z).getD .none) := rfl
theorem kin_ (kvs : List (Str × D)) (n : Bool) (z : Str) : kinD kvs n (.str z) = sD (.bool ((kvs.lookup z).isSome != n)) := rfl
theorem it_l (xs : List D) (u : List Ob) : iItems (.d (.list xs)) u = some (xs, none) := rfl
theorem it_t (xs : List D) (u : List Ob) : iItems (.d (.tuple xs)) u = some (xs, none) := rfl
theorem tup_l (xs : List D) : tupD (.list xs) = sD (.tuple xs) := rfl
theorem tup_t (xs : List D) : tupD (.tuple xs) = sD (.tuple xs) := rfl
theorem list_l (xs : List D) : listD (.list xs) = some (.nw (.lst xs)) := rfl
theorem list_t (xs : List D) : listD (.tuple xs) = some (.nw (.lst xs)) := rfl
theorem rev_l (xs : List D) : revD (.list xs) = some (.nw (.lst xs.reverse)) := rfl
theorem rev_t (xs : List D) : revD (.tuple xs) = sD (.tuple xs.reverse) := rfl
theorem md_l (xs : List D) : (MO.lst xs).toD = .list xs := rfl
theorem md_t (xs : List D) : (MO.tup xs).toD = .tuple xs := rfl
theorem isi_ (ts : List Tn) (x : D) (h : noDict x = true) : isiD ts x = sD (.bool (ts.any fun t => t.has x)) := by unfold isiD; rw [if_pos h]
theorem e_oI {ρ : List Sl} {u : List Ob} (i : Int) : oI (dC (.int i)) ρ u = some (some i, u) := rfl
theorem e_oN {ρ : List Sl} {u : List Ob} : oN ρ u = some (none, u) := rfl
theorem e_sl {ρ : List Sl} {u : List Ob} (f : D → Option Int → Option Int → Option Rt) (a : DE) (l h : DO) : dSl f a l h ρ u = bd (a ρ u) fun p => bd (l ρ p.2) fun q => bd (h ρ q.2) fun t => bd (p.1.sl.vw t.2) fun x => bd (f x q.1 t.1) fun r => some (r, t.2) := by
  unfold dSl bd
  cases a ρ u with
  | none => rfl
  | some p =>
    obtain ⟨r, u1⟩ := p
    simp only [Option.bind_some]
    cases l ρ u1 with
    | none => rfl
    | some q =>
      obtain ⟨lo, u2⟩ := q
      simp only [Option.bind_some]
      cases h ρ u2 with
      | none => rfl
      | some t =>
        obtain ⟨hi, u3⟩ := t
        simp only [Option.bind_some]
        cases r.sl.vw u3 with
        | none => rfl
        | some x => simp only [Option.bind_some]; cases f x lo hi <;> rfl
theorem ix_0 (x : D) (r : List D) : ixA (.tuple (x :: r)) (.int 0) = sD x := by simp [ixA, ixD, atD, atI, ixN, sD]
theorem ix_1 (x y : D) (r : List D) : ixA (.tuple (x :: y :: r)) (.int 1) = sD y := by
  have e : atD (x :: y :: r) 1 = some y := by
    unfold atD atI ixN
    rw [if_pos (by decide), if_pos (by simp only [List.length_cons]; omega)]
    rfl
  show (atD _ _).map _ = _
  rw [e]; rfl
theorem ix_2 (x y z : D) (r : List D) : ixA (.tuple (x :: y :: z :: r)) (.int 2) = sD z := by
  have e : atD (x :: y :: z :: r) 2 = some z := by
    unfold atD atI ixN
    rw [if_pos (by decide), if_pos (by simp only [List.length_cons]; omega)]
    rfl
  show (atD _ _).map _ = _
  rw [e]; rfl
theorem ix_3 (x y z t : D) (r : List D) : ixA (.tuple (x :: y :: z :: t :: r)) (.int 3) = sD t := by
  have e : atD (x :: y :: z :: t :: r) 3 = some t := by
    unfold atD atI ixN
    rw [if_pos (by decide), if_pos (by simp only [List.length_cons]; omega)]
    rfl
  show (atD _ _).map _ = _
  rw [e]; rfl
theorem sl_1 (x : D) (r : List D) : slD (.tuple (x :: r)) (some 1) none = sD (.tuple r) := by simp [slD, cutL, HT.sIx, sD]
theorem in_t2 (n : Bool) (w a b : Str) : inA n (.str w) (.tuple [.str a, .str b]) = sD (.bool (((a == w) || (b == w)) != n)) := by
  simp [inA, inD, flatD, PyData.eqv, sD]
theorem in_t3 (n : Bool) (w a b c : Str) : inA n (.str w) (.tuple [.str a, .str b, .str c]) = sD (.bool (((a == w) || ((b == w) || (c == w))) != n)) := by
  simp [inA, inD, flatD, PyData.eqv, sD]
theorem in_t4 (n : Bool) (w a b c d : Str) : inA n (.str w) (.tuple [.str a, .str b, .str c, .str d]) = sD (.bool (((a == w) || ((b == w) || ((c == w) || (d == w)))) != n)) := by
  simp [inA, inD, flatD, PyData.eqv, sD]
theorem is_none (b : Bool) (x : D) : isND b x .none = sD (.bool (nonD x == b)) := by
  cases x <;> cases b <;> rfl
theorem add_ii (i j : Int) : addD (.int i) (.int j) = sD (.int (i + j)) := rfl
theorem sub_ii (i j : Int) : subD (.int i) (.int j) = sD (.int (i - j)) := rfl
theorem neg_i (i : Int) : negD (.int i) = sD (.int (-i)) := rfl
theorem mod_ii (i j : Int) (h : 0 < j) : modD (.int i) (.int j) = sD (.int (i % j)) := by
  show (if decide (0 < j) = true then _ else _) = _; rw [if_pos (decide_eq_true h)]
theorem lt_ii (i j : Int) : ltD (.int i) (.int j) = sD (.bool (decide (i < j))) := rfl
theorem le_ii (i j : Int) : leD (.int i) (.int j) = sD (.bool (decide (i ≤ j))) := rfl
theorem gt_ii (i j : Int) : gtD (.int i) (.int j) = sD (.bool (decide (j < i))) := rfl
theorem ge_ii (i j : Int) : geD (.int i) (.int j) = sD (.bool (decide (j ≤ i))) := rfl
/-- texts that stand in the program -/
theorem ok_lit (s : String) (h : PyData.strOk (Str.ofString s) = true := by decide +kernel) : PyData.strOk (Str.ofString s) = true := h
end DL
end

section
set_option Elab.async false
set_option maxRecDepth 100000
set_option maxHeartbeats 400000
namespace DL
open PySem L2 PySem.Spec PyProof.Rows
/-- a number's figures by two -/
def binS (n : Nat) : Str := ⟨((Nat.toDigits 2 n).map Char.toNat).toArray⟩
theorem binS_len (n : Nat) : (binS n).length = (Nat.toDigits 2 n).length := by
  show (((Nat.toDigits 2 n).map Char.toNat).toArray).size = _
  simp
theorem bin_fitsK {n k : Nat} (h : n.log2 < k) (h0 : 0 < k) : (binS n).length ≤ k := by
  rw [binS_len]
  have hn : n < 2 ^ k := by
    by_cases z : n = 0
    · subst z; exact Nat.two_pow_pos _
    · exact (Nat.log2_lt z).mp h
  exact (Nat.length_toDigits_le_iff (n := n) (b := 2) (k := k) (by decide) h0).mpr hn
theorem bin_fits {n : Nat} (h : n.log2 < 1920) : (binS n).length ≤ sizeLine := by
  have := bin_fitsK h (by decide)
  rw [sizeLine_eq]
  omega
structure BinF (f : Builtin.Float.FormatSpec) : Prop where
  ty : f.type = some 98
  pr : f.precision = none
  z : f.noNeg0 = false
  al : f.alt = false
  w : f.width = none
  gr : f.grouping = none
  sg : f.sign = none
  fi : f.fill = 32
  li : f.align = 62
  me : f = { align := 62, type := some 98 }
theorem parse_b : ∃ f, BinF f ∧ Builtin.Float.parseFormatSpec ({ cps := #[98] } : Str).cps.toList "int" 62 = .ok f := ⟨{ align := 62, type := some 98 }, ⟨rfl, rfl, rfl, rfl, rfl, rfl, rfl, rfl, rfl, rfl⟩, by rfl⟩
theorem digs_cons (n : Nat) : ∃ c r, Nat.toDigits 2 n = c :: r := by
  have := PyProof.Rows.tDigits_len_ge 2 n
  cases e : Nat.toDigits 2 n with
  | nil => rw [e] at this; simp at this
  | cons c r => exact ⟨c, r, rfl⟩
set_option maxHeartbeats 4000000 in
theorem bin_meets {a : Int} {t u : Tok} (h0 : 0 ≤ a) (hz : a.natAbs.log2 < 1920) : Meets (Builtin.«int.__format__» ⟨[.int a t, .str ⟨#[98]⟩ u], []⟩) (fun _ R s => ∀ t' k, R (.ok (.ret (.str (binS a.natAbs) t'))) { s with toks := k }) := by
  apply PySem.W.KPc.meets_of
  intro _ _ _ _ _ _ h
  unfold Builtin.«int.__format__»
  refine wpAny_bind (wpAny_of_eq (a := (_, _)) rfl ?_)
  refine wpAny_bind (wpAny_of_eq (a := _) rfl ?_)
  kxf_if
  refine wpAny_bind (wpAny_typeNameOf (T := "str") (typeIs_str _ _ _) (by decide) fun _ => ?_)
  refine wpAny_bind (wpAny_of_eq (a := some _) rfl ?_)
  kxf_if
  kxf_if
  refine wpAny_bind (wpAny_typeNameOfCut_int ?_)
  obtain ⟨f, hf, hp⟩ := parse_b
  have e1 : f.type.getD (if ({ cps := #[98] : Str }.cps.back? == some 0) = true then 0 else 100) = 98 := by rw [hf.ty]; rfl
  simp only [hp, e1]
  rw [if_pos (by decide)]
  show wpAny _ _ (if _ then _ else _) _ _ _
  rw [if_neg (by simp [hf.pr])]
  show wpAny _ _ (if _ then _ else _) _ _ _
  rw [if_neg (by simp [hf.z])]
  show wpAny _ _ (if _ then _ else _) _ _ _
  rw [if_neg (by decide)]
  show wpAny _ _ (if _ then _ else _) _ _ _
  rw [if_neg (by decide)]
  show wpAny _ _ (if _ then _ else _) _ _ _
  rw [if_neg (by simp [hf.w])]
  have e2 : ∀ X : Str, X = binS a.natAbs → X.length ≤ sizeLine := fun X h => by rw [h]; exact bin_fits hz
  refine PySem.W.KXf.ret_text ?_ (e2 _ ?_) h
  all_goals
    have hm := hf.me
    clear e1 hp hf e2
    subst hm
    obtain ⟨c, r, ec⟩ := digs_cons a.natAbs
    have hd : decide (a < 0) = false := decide_eq_false (by omega)
    unfold binS
    rw [hd, ec]
    conv => lhs; whnf
    have e0 : ∀ n : Nat, ((-1 : Int) - n).toNat = 0 := fun n => by omega
    simp
    try omega
    trace_state
end DL
end

section
set_option Elab.async false
set_option maxRecDepth 100000
set_option maxHeartbeats 400000
namespace DL
open PySem L2 PySem.Spec PyProof.Rows
/-! int(t, 2) of a text of noughts and ones -/
namespace B2
open PySem.NumText PySem.Calls L2.Hx
def Is (c : Nat) : Prop := c = 48 ∨ c = 49
def num (l : List Nat) : Nat := l.foldl (fun a c => a * 2 + (c - 48)) 0
theorem is_hex {c : Nat} (h : Is c) : IsHex c := by unfold Is at h; unfold IsHex; omega
theorem hv_is {c : Nat} (h : Is c) : hv c = c - 48 := by
  unfold Is at h; unfold hv
  rw [if_pos (by omega)]
theorem hv2 {c : Nat} (h : Is c) : c - 48 < 2 := by unfold Is at h; omega
theorem dig {c : Nat} (h : Is c) : digit? c = some (c - 48) := by rw [digit_hex (is_hex h), hv_is h]
theorem stp {ds : Array Nat} {b : Bool} {c : Nat} (h : Is c) : PySem.NumText.step 2 (ds, b) c = some (ds.push (c - 48), true) := by
  have hr := hex_rng (is_hex h)
  unfold PySem.NumText.step
  rw [if_neg (by rw [beq_iff_eq]; exact hr.2.2), dig h]
  exact if_pos (hv2 h)
theorem fold : ∀ (cs : List Nat) (ds : Array Nat), (∀ c ∈ cs, Is c) → cs.foldlM (PySem.NumText.step 2) (ds, true) = some (cs.foldl (fun acc c => acc.push (c - 48)) ds, true)
  | [], _, _ => rfl
  | c :: cs, ds, h => by
    rw [List.foldlM_cons, stp (h c (List.mem_cons_self ..))]
    show cs.foldlM (PySem.NumText.step 2) (ds.push (c - 48), true) = _
    exact fold cs (ds.push (c - 48)) fun d hd => h d (List.mem_cons_of_mem _ hd)
theorem digs {cs : List Nat} (h : ∀ c ∈ cs, Is c) (hne : cs ≠ []) : digits? 2 cs = some (cs.foldl (fun acc c => acc.push (c - 48)) #[]) := by
  cases cs with
  | nil => exact absurd rfl hne
  | cons c cs =>
    unfold digits?
    rw [List.foldlM_cons, stp (h c (List.mem_cons_self ..))]
    show (cs.foldlM (PySem.NumText.step 2) ((#[] : Array Nat).push (c - 48), true)).bind _ = _
    rw [fold cs _ fun d hd => h d (List.mem_cons_of_mem _ hd)]
    rfl
theorem pushs : ∀ (cs : List Nat) (ds : Array Nat), (cs.foldl (fun acc c => acc.push (c - 48)) ds).foldl (fun acc d => acc * 2 + d) 0 = cs.foldl (fun a c => a * 2 + (c - 48)) (ds.foldl (fun acc d => acc * 2 + d) 0)
  | [], _ => rfl
  | c :: cs, ds => by
    rw [List.foldl_cons, pushs cs (ds.push (c - 48)), List.foldl_cons]
    congr 1
    simp
theorem bas {cs : List Nat} (h : ∀ c ∈ cs, Is c) : based 2 cs = (2, false, cs) := by
  match cs, h with
  | [], _ => rfl
  | [a], h =>
    rcases h a (List.mem_cons_self ..) with rfl | rfl <;> rfl
  | a :: c :: r, h =>
    rcases h a (List.mem_cons_self ..) with rfl | rfl <;> rcases h c (List.mem_cons_of_mem _ (List.mem_cons_self ..)) with rfl | rfl <;> rfl
theorem rd {cs : List Nat} (h : ∀ c ∈ cs, Is c) (hne : cs ≠ []) : (int_private% "readNumeral") 0 2 cs = (int_private% "Numeral.value") ((num cs : Nat) : Int) := by
  have hh : ∀ c ∈ cs, IsHex c := fun c hc => is_hex (h c hc)
  have hr : ∀ c ∈ cs.reverse, IsHex c := fun c hc => hh c (List.mem_reverse.mp hc)
  refine (readNumeral_eq 0 2 cs).trans ?_
  rw [dropB hh, signH hh]
  show judge 0 false (based 2 cs).1 (based 2 cs).2.1 (digits? (based 2 cs).1 (((based 2 cs).2.2.reverse.dropWhile blank).reverse)) = _
  rw [bas h]
  show judge 0 false 2 false (digits? 2 ((cs.reverse.dropWhile blank).reverse)) = _
  rw [dropB hr, List.reverse_reverse, digs h hne]
  show (int_private% "Numeral.value") (((cs.foldl (fun acc c => acc.push (c - 48)) (#[] : Array Nat)).foldl (fun acc d => acc * 2 + d) 0 : Nat) : Int) = _
  have z : (#[] : Array Nat).foldl (fun acc d => acc * 2 + d) 0 = 0 := by first | rfl | simp
  rw [pushs, z] <;> rfl
set_option maxHeartbeats 4000000 in
theorem gives {x : PySem.Str} {u t : Tok} (hl : x.length ≤ 640) (h : ∀ c ∈ x.cps.toList, Is c) (hne : x.cps.toList ≠ []) :
    Gives (Builtin.«int.__new__» ⟨[.type "int", .str x u, .int 2 t], []⟩) (.int ((num x.cps.toList : Nat) : Int)) :=
  .of_wp fun M A E s Q hQ => by
    obtain ⟨hp, g, d, tk, os⟩ := s
    have f1 := F.conv_sub_int
    have f2 := F.madeHere_int
    have f6 : typeOf (.str x u) = pure (.type "str") := rfl
    obtain ⟨e1, e2⟩ := seen_hex (x := x) fun c hc => is_hex (h c hc)
    have hs : (numSeenOf x).length ≤ 640 := by
      rw [e2, Array.length_toList]
      exact hl
    have hr : (int_private% "readNumeral") 0 2 (numSeenOf x) = (int_private% "Numeral.value") ((num x.cps.toList : Nat) : Int) := by
      rw [e2]
      exact rd h hne
    have ha : ((numSeenOf x).length == (numTextOf x).length) = true := by
      rw [e1, e2]
      exact beq_self_eq_true _
    have hk := Hid.mk (And.intro hs (And.intro hr ha))
    clear hs hr ha e1 e2 hl hne h
    repeat (any_goals (first
      | assumption
      | ((with_reducible show wpAny _ _ ((int_private% "intFromText") _ _ _) _ _ _); refine wp_textB hk.out.1 hk.out.2.1 hk.out.2.2 ?_)
      | wp_step))
    all_goals first | exact ⟨_, rfl, hQ⟩ | skip
theorem callB {prog : Program} {w : World} {A : Around} {E : Value → Shared → Prop} {s : Shared} {Q : Value → Shared → Prop} {x : PySem.Str} {u t : Tok} (hl : x.length ≤ 640) (h : ∀ c ∈ x.cps.toList, Is c) (hne : x.cps.toList ≠ [])
    (hQ : Q (.int ((num x.cps.toList : Nat) : Int) s.toks) { s with toks := s.toks + 1 }) : wpAny (model prog w) A (call (.type "int") [.str x u, .int 2 t]) Q E s :=
  callType_new F.called_int F.newNe_int (typeCall_int_2 _ _) (newCall_int_2 _ _) (fun obj => F.initArgs_range_2 obj _ _) F.entry_int_new (gives hl h hne).meets (show (Made.int ((num x.cps.toList : Nat) : Int)).post _ s from ⟨rfl, hQ⟩)
end B2
def rInt2 : List V → Hp → VK → Prop := fun xs H Q => ∃ x : Str, xs = [.str x, .int 2] ∧ x.cps.toList ≠ [] ∧ x.length ≤ 640 ∧ (∀ c ∈ x.cps.toList, B2.Is c) ∧ Q (.int ((B2.num x.cps.toList : Nat) : Int)) H
theorem call_int2 {X : Cx} : CallR X (.type "int") rInt2 := by
  intro pins s σ H xs us Q I r h
  obtain ⟨l, rfl, hne, hl, hx, q⟩ := h
  obtain ⟨u, w', rfl, r1, r2⟩ := vals2 r
  obtain ⟨t1, rfl⟩ := r1
  obtain ⟨t2, rfl⟩ := r2
  exact B2.callB (x := l) hl hx hne ⟨.int ((B2.num l.cps.toList : Nat) : Int), H, I.tok _, ⟨_, rfl⟩, q⟩
end DL
end

section
set_option Elab.async false
set_option maxRecDepth 100000
set_option maxHeartbeats 400000
/-! texts: f'{k:b}', t[::-1], t[i::k], int(t, 2), list(range(n)) -/
namespace DL
open PySem L2 PyProof.Rows
/-! f'{k:b}' -/
def rBin : V → Hp → VK → Prop := fun x H Q => ∃ i : Int, x = .int i ∧ 0 ≤ i ∧ i.natAbs.log2 < 1920 ∧ Q (.str (binS i.natAbs)) H
theorem lit_b : Str.ofString "b" = (⟨#[98]⟩ : Str) := by decide +kernel
theorem pe_bin {X : Cx} {e : Expr} {te : TE} {j : Nat} {p1 p2 p3 p4 : Pos} (he : PE X e te) : PE X (.JoinedStr [.FormattedValue e (-1) (some (.JoinedStr [.Constant (.str "b") j p1] p2)) p3] p4) (tUn rBin te) := by
  refine pe_joined1 ⟨fun pins s σ H Q I h => ?_⟩
  refine wpAny_FormattedValue_spec (thn (he.run pins s σ H _ I h) fun v s1 got => ?_)
  obtain ⟨x, H1, I1, r1, i, rfl, h0, hz, q⟩ := got
  obtain ⟨t, rfl⟩ := r1
  have sp : PE X (.JoinedStr [.Constant (.str "b") j p1] p2) (tC (.str "b")) := pe_joined1 pe_str
  refine thn (sp.run pins s1 σ H1 (fun x h => x = .str (Str.ofString "b") ∧ h = H1) I1 ⟨rfl, rfl⟩) fun u s2 got => ?_
  obtain ⟨y, H2, I2, r2, rfl, rfl⟩ := got
  obtain ⟨t2, rfl⟩ := r2
  refine ⟨_, t2, rfl, ?_⟩
  exact PySem.W.KXf.field_int lit_b (by decide +kernel) (by decide +kernel) (fun u => bin_meets h0 hz) fun t' k => ⟨.str (binS i.natAbs), H2, I2.tok _, ⟨_, rfl⟩, q⟩
def binD : D → Option Rt
  | .int i => if 0 ≤ i ∧ i.natAbs.log2 < 1920 then sD (.str (binS i.natAbs)) else none
  | _ => none
theorem v_bin {K : PySem.W.Frag} : V1Ok K rBin binD := by
  intro Hv H le v x res h e Q q
  cases x <;> try (cases e; done)
  rename_i i
  simp only [binD] at e
  split at e
  · rename_i hh
    cases e
    rw [h.int]
    exact ⟨i, rfl, hh.1, hh.2, q _ _ (.d (.str _))⟩
  · cases e
theorem je_bin {c : Ct} {e : Expr} {de : DE} {j : Nat} {p1 p2 p3 p4 : Pos} (he : JE c e de) : JE c (.JoinedStr [.FormattedValue e (-1) (some (.JoinedStr [.Constant (.str "b") j p1] p2)) p3] p4) (dUn binD de) := by
  obtain ⟨te, pe, le⟩ := he
  exact ⟨_, fun X ok => pe_bin (pe X ok), LE.un v_bin le⟩
/-! pieces of texts -/
theorem fm_same {α β : Type} {f g : α → Option β} : ∀ {l : List α}, (∀ x ∈ l, f x = g x) → l.filterMap f = l.filterMap g
  | [], _ => rfl
  | x :: r, h => by
    rw [List.filterMap_cons, List.filterMap_cons, h x List.mem_cons_self, fm_same fun y hy => h y (List.mem_cons_of_mem _ hy)]
theorem nat_of (n : Nat) : ((n : Nat) : Int).toNat = n := by omega
def revS (z : Str) : Str := ⟨z.cps.toList.reverse.toArray⟩
/-- each k-th sign from i on -/
def everyL {α : Type} (k : Nat) : Nat → List α → List α
  | 0, l => l.take 0
  | n + 1, l => match l with
    | [] => []
    | a :: r => a :: everyL k n (r.drop (k - 1))
def stepS (z : Str) (i k : Nat) : Str := ⟨(everyL k z.length (z.cps.toList.drop i)).toArray⟩
theorem every_len {α : Type} (k : Nat) : ∀ (n : Nat) (l : List α), (everyL k n l).length ≤ l.length
  | 0, l => by simp [everyL]
  | n + 1, [] => by simp [everyL]
  | n + 1, a :: r => by
    have := every_len k n (r.drop (k - 1))
    simp only [everyL, List.length_cons]
    rw [List.length_drop] at this
    omega
/-- it by places -/
theorem every_ix {α : Type} {k : Nat} (hk : 0 < k) : ∀ (n : Nat) (l : List α), l.length ≤ n → everyL k n l = (List.range ((l.length + k - 1) / k)).filterMap fun m => l[k * m]?
  | 0, l, h => by
    have : l = [] := List.length_eq_zero_iff.mp (by omega)
    subst this
    rw [show (([] : List α).length + k - 1) / k = 0 from Nat.div_eq_of_lt (by simp; omega)]
    rfl
  | n + 1, [], h => by
    rw [show (([] : List α).length + k - 1) / k = 0 from Nat.div_eq_of_lt (by simp; omega)]
    rfl
  | n + 1, a :: r, h => by
    have ih := every_ix hk n (r.drop (k - 1)) (by rw [List.length_drop]; simp at h; omega)
    show a :: everyL k n (r.drop (k - 1)) = _
    rw [ih]
    have e : ((a :: r).length + k - 1) / k = ((r.drop (k - 1)).length + k - 1) / k + 1 := by
      rw [List.length_drop, List.length_cons]
      by_cases z : k - 1 ≤ r.length
      · rw [show r.length + 1 + k - 1 = (r.length - (k - 1) + k - 1) + k by omega, Nat.add_div_right _ hk]
      · rw [show r.length - (k - 1) = 0 by omega, Nat.div_eq_of_lt (show 0 + k - 1 < k by omega)]
        exact Nat.div_eq_of_lt_le (by omega) (by omega)
    rw [e, List.range_succ_eq_map, List.filterMap_cons]
    simp only [Nat.mul_zero, List.getElem?_cons_zero, List.filterMap_map]
    congr 1
    refine fm_same fun m _ => ?_
    show (r.drop (k - 1))[k * m]? = (a :: r)[k * (m + 1)]?
    rw [List.getElem?_drop, Nat.mul_add, Nat.mul_one, show k * m + k = (k - 1 + k * m) + 1 by omega, List.getElem?_cons_succ]
theorem pick_back (x : Str) (t : Tok) : (slicePicked x none none (some (-1, t))).filterMap (x.cps[·]?) = x.cps.toList.reverse := by
  have e : slicePicked x none none (some (-1, t)) = sliceRange ((x.cps.size : Int) - 1) (-1) (-1) := rfl
  rw [e, PySem.W.krv_sliceRange, PySem.W.krv_range, List.filterMap_reverse, PySem.W.krv_all]
theorem pick_step (x : Str) (i k : Nat) (t t2 : Tok) (hk : 0 < k) : (slicePicked x (some ((i : Int), t)) none (some ((k : Int), t2))).filterMap (x.cps[·]?) = everyL k x.length (x.cps.toList.drop i) := by
  rw [every_ix hk _ _ (by rw [List.length_drop, Array.length_toList]; exact Nat.sub_le _ _)]
  have hlen : x.length = x.cps.size := rfl
  have e : slicePicked x (some ((i : Int), t)) none (some ((k : Int), t2)) = sliceRange (if (i : Int) ≤ x.cps.size then (i : Int) else x.cps.size) x.cps.size k := by
    show Builtin.Str.strSliceIndices (some (i : Int)) none (k : Int) x.cps.size = _
    unfold Builtin.Str.strSliceIndices
    have hk' : (k : Int) > 0 := by omega
    have hi : ¬ ((i : Int) < 0) := by omega
    simp only [hk', if_true, hi, if_false]
    congr 1
    split <;> omega
  rw [e]
  unfold sliceRange
  have hk' : (k : Int) > 0 := by omega
  simp only [hk', if_true]
  rw [List.length_drop, Array.length_toList, List.filterMap_map]
  by_cases hi : i < x.cps.size
  · have h1 : (if (i : Int) ≤ x.cps.size then (i : Int) else x.cps.size) = i := if_pos (by omega)
    have h2 : (i : Int) < x.cps.size := by omega
    rw [h1]
    simp only [h2, if_true]
    have e2 : (((x.cps.size : Int) - i + k - 1) / k).toNat = (x.cps.size - i + k - 1) / k := by
      rw [show (x.cps.size : Int) - i + k - 1 = ((x.cps.size - i + k - 1 : Nat) : Int) by omega, ← Int.natCast_ediv, Int.toNat_natCast]
    rw [e2]
    refine fm_same fun m _ => ?_
    show x.cps[((i : Int) + (k : Int) * (m : Int)).toNat]? = (x.cps.toList.drop i)[k * m]?
    rw [List.getElem?_drop, Array.getElem?_toList, ← Int.natCast_mul, ← Int.natCast_add, Int.toNat_natCast]
  · have e0 : (x.cps.size - i + k - 1) / k = 0 := Nat.div_eq_of_lt (by omega)
    rw [e0]
    have h2 : ¬ ((if (i : Int) ≤ x.cps.size then (i : Int) else x.cps.size) < (x.cps.size : Int)) := by split <;> omega
    simp only [h2, if_false]
    rfl
def rRevA (K : PySem.W.Frag) : V → Hp → VK → Prop := fun x H Q => rRevU K x H Q ∨ ∃ z : Str, x = .str z ∧ z.length ≤ sizeLine ∧ Q (.str (revS z)) H
theorem pe_revA {X : Cx} {e : Expr} {te : TE} {k : Nat} {p1 p2 p3 pos : Pos} (he : PE X e te) : PE X (.Subscript e (.Slice none none (some (.UnaryOp .USub (.Constant (.int 1) k p1) p2)) p3) pos) (tUn (rRevA X.K) te) := by
  have back : PO X (some (.UnaryOp .USub (.Constant (.int 1) k p1) p2)) (tPart (tUn (rU fun i => .int (-i)) (tC (.int 1)))) := po_some (pe_un un_neg pe_int)
  constructor
  intro pins st σ H Q J want
  apply Subscript_
  refine thn (he.run pins st σ H _ J want) fun uv s1 got => ?_
  obtain ⟨v, H1, J1, rel, alt⟩ := got
  apply wpAny_Slice
  refine thn (po_none.run pins s1 σ H1 (fun o h => o = none ∧ h = H1) J1 ⟨rfl, rfl⟩) fun lo s2 got => ?_
  obtain ⟨_, h2, J2, plo, rfl, rfl⟩ := got
  refine thn (po_none.run pins s2 σ _ (fun o h => o = none ∧ h = _) J2 ⟨rfl, rfl⟩) fun hi s3 got => ?_
  obtain ⟨_, h3, J3, phi, rfl, rfl⟩ := got
  refine thn (back.run pins s3 σ _ (fun o h => o = some (-1) ∧ h = _) J3 ⟨1, rfl, -1, rfl, rfl, rfl⟩) fun stp s4 got => ?_
  obtain ⟨_, h4, J4, pst, rfl, rfl⟩ := got
  let s5 : Shared := { s4 with heap := s4.heap.push { cls := .type "slice", data := .fields #[lo, hi, stp] } }
  have J5 : Inv X pins σ _ s5 := J4.kept (t' := s4.toks) fun b ob q => Heap.get?_push_of_some _ q
  rcases alt with ⟨a, vs, ev, alt⟩ | ⟨z, ez, hz, q⟩
  · subst ev
    cases rel
    show wpAny (model X.prog X.w) X.A (subscriptTail e _ (.ref a) (.ref s4.heap.objs.size)) (EP X pins σ Q) X.xe s5
    rcases alt with ⟨sq, told⟩ | ⟨sq, told⟩
    · obtain ⟨us, rv, lst, room⟩ := J5.list sq
      have len := rv.length
      refine tail_any (ops := [.ref a, .ref s4.heap.objs.size]) lst.isList.typeIs PySem.slot_list_getitem.lookup ?_ (by with_unfolding_all rfl)
      refine wpAny_getItem_list_slice lst.isList (Heap.IsSliceOf.new _ lo hi stp) plo phi pst (by decide) ?_ (by rw [List.size_toArray]; omega)
      rw [PySem.W.krv_pick]
      exact ⟨.ref _, _, J5.laid (t' := s5.toks) (o := .lst vs.reverse) (fun b ob q => Heap.get?_push_of_some _ q) (Nat.le_refl _) ⟨by rw [List.length_reverse]; exact room, _, 0, rv.reverse, Heap.get?_push_size _ rfl⟩, rfl, told _ (J5.hok.fresh (Nat.le_refl _))⟩
    · obtain ⟨us, rv, tup, room⟩ := J5.tuple sq
      have len := rv.length
      refine tail_any (ops := [.ref a, .ref s4.heap.objs.size]) tup.typeIs PyProof.Rows.slot_tuple_getitem.lookup ?_ (by with_unfolding_all rfl)
      refine tuple_back tup (Heap.IsSliceOf.new _ lo hi stp) plo phi pst (by rw [List.size_toArray]; omega) ?_
      exact ⟨.ref _, _, J5.laid (t' := s5.toks) (o := .tup vs.reverse) (fun b ob q => Heap.get?_push_of_some _ q) (Nat.le_refl _) ⟨by rw [List.length_reverse]; exact room, _, rv.reverse, IsTup.new _ _⟩, rfl, told _ (J5.hok.fresh (Nat.le_refl _))⟩
  · subst ez
    obtain ⟨t, rfl⟩ := rel
    cases plo
    cases phi
    cases pst
    rename_i u
    show wpAny (model X.prog X.w) X.A (subscriptTail e _ (.str z t) (.ref s4.heap.objs.size)) (EP X pins σ Q) X.xe s5
    refine tail_any (ops := [.ref s4.heap.objs.size, .str z t]) (typeIs_str _ _ _) F.slot_str_getitem.lookup ?_ (by with_unfolding_all rfl)
    refine wpAny_getItem_str_slice (l := none) (u := none) (st := some (-1, u)) ⟨_, Heap.get?_push_size _ rfl, rfl, rfl⟩ rfl ?_
    have e1 : sliceMade z t none none (some (-1, u)) = .str (revS z) := by
      unfold sliceMade revS
      rw [if_neg (by simp), pick_back]
    rw [e1]
    refine ⟨?_, .str (revS z), _, J5.tok _, ⟨_, rfl⟩, q⟩
    show (z.cps.toList.reverse.toArray).size ≤ sizeLine
    rw [List.size_toArray, List.length_reverse, Array.length_toList]
    exact hz
def revA : D → Option Rt
  | .str z => if z.length ≤ SZ then sD (.str (revS z)) else none
  | x => revD x
theorem v_revA {K : PySem.W.Frag} : V1Ok K (rRevA K) revA := by
  intro Hv H le v x res h e Q q
  cases x with
  | str z =>
    simp only [revA] at e
    split at e
    · rename_i hl
      cases e
      rw [h.str]
      exact .inr ⟨z, rfl, by rw [sizeLine_eq]; exact hl, q _ _ (.d (.str _))⟩
    · cases e
  | _ => exact .inl (v_rev Hv H le v _ res h e Q q)
theorem je_revA {c : Ct} {e : Expr} {de : DE} {k : Nat} {p1 p2 p3 pos : Pos} (he : JE c e de) : JE c (.Subscript e (.Slice none none (some (.UnaryOp .USub (.Constant (.int 1) k p1) p2)) p3) pos) (dUn revA de) := by
  obtain ⟨te, pe, le⟩ := he
  refine ⟨_, fun X ok => ?_, LE.un v_revA le⟩
  rw [← ok.K]
  exact pe_revA (pe X ok)
/-! t[i::k] -/
def rStep : List V → Hp → VK → Prop := fun xs H Q => ∃ (z : Str) (i k : Int), xs = [.str z, .int i, .int k] ∧ 0 ≤ i ∧ 0 < k ∧ z.length ≤ sizeLine ∧ Q (.str (stepS z i.toNat k.toNat)) H
theorem pe_step {X : Cx} {e a b : Expr} {te ta tb : TE} {p3 pos : Pos} (he : PE X e te) (ha : PE X a ta) (hb : PE X b tb) : PE X (.Subscript e (.Slice (some a) none (some b) p3) pos) (tCB rStep (tCons te (tCons ta (tCons tb tNil)))) := by
  constructor
  intro pins st σ H Q J want
  apply Subscript_
  refine thn (he.run pins st σ H _ J want) fun uv s1 got => ?_
  obtain ⟨v, H1, J1, rel, more⟩ := got
  apply wpAny_Slice
  refine evalPart_some_step (thn (ha.run pins s1 σ H1 _ J1 more) fun lo s2 got => ?_)
  obtain ⟨y, H2, J2, rel2, more⟩ := got
  refine evalPart_none_step ?_
  refine evalPart_some_step (thn (hb.run pins s2 σ H2 _ J2 more) fun stp s4 got => ?_)
  obtain ⟨w, H3, J4, rel3, z, i, k, ex, h0, h1, hz, q⟩ := got
  simp only [List.cons.injEq, and_true] at ex
  obtain ⟨rfl, rfl, rfl⟩ := ex
  obtain ⟨t, rfl⟩ := rel
  obtain ⟨t2, rfl⟩ := rel2
  obtain ⟨t3, rfl⟩ := rel3
  let s5 : Shared := { s4 with heap := s4.heap.push { cls := .type "slice", data := .fields #[.int i t2, .none, .int k t3] } }
  have J5 : Inv X pins σ _ s5 := J4.kept (t' := s4.toks) fun b ob q => Heap.get?_push_of_some _ q
  show wpAny (model X.prog X.w) X.A (subscriptTail e _ (.str z t) (.ref s4.heap.objs.size)) (EP X pins σ Q) X.xe s5
  refine tail_any (ops := [.ref s4.heap.objs.size, .str z t]) (typeIs_str _ _ _) F.slot_str_getitem.lookup ?_ (by with_unfolding_all rfl)
  have hk : (k == 0) = false := by simpa using (show ¬ k = 0 by omega)
  refine wpAny_getItem_str_slice (l := some (i, t2)) (u := none) (st := some (k, t3)) ⟨_, Heap.get?_push_size _ rfl, rfl, rfl⟩ hk ?_
  obtain ⟨i, rfl⟩ := Int.eq_ofNat_of_zero_le h0
  obtain ⟨k, rfl⟩ := Int.eq_ofNat_of_zero_le (Int.le_of_lt h1)
  have pk := pick_step z i k t2 t3 (by omega)
  unfold sliceMade
  split
  · rename_i hh
    have e1 : stepS z i k = z := by
      simp only [Option.map_some, Option.getD_some, Bool.and_eq_true, beq_iff_eq] at hh
      obtain ⟨g1, g2⟩ := hh
      have k1 : k = 1 := by omega
      subst k1
      have g3 : i = 0 ∨ z.cps.size = 0 := by
        by_cases hi : i = 0
        · exact .inl hi
        · refine .inr ?_
          have e : slicePicked z (some ((i : Int), t2)) none (some (((1 : Nat) : Int), t3)) = sliceRange (if (i : Int) ≤ z.cps.size then (i : Int) else z.cps.size) z.cps.size ((1 : Nat) : Int) := by
            show Builtin.Str.strSliceIndices (some (i : Int)) none ((1 : Nat) : Int) z.cps.size = _
            unfold Builtin.Str.strSliceIndices
            have hk' : ((1 : Nat) : Int) > 0 := by omega
            have hi : ¬ ((i : Int) < 0) := by omega
            simp only [hk', if_true, hi, if_false]
            congr 1
            split <;> omega
          have g2' : (slicePicked z (some ((i : Int), t2)) none (some (((1 : Nat) : Int), t3))).length = z.cps.size := g2
          rw [e] at g2'
          have := sliceRange_len_le (if (i : Int) ≤ z.cps.size then (i : Int) else z.cps.size) z.cps.size ((1 : Nat) : Int) (by omega)
          rw [if_pos (show ((1 : Nat) : Int) > 0 by omega)] at this
          by_cases hh : (i : Int) ≤ z.cps.size
          · rw [if_pos hh] at this g2'; omega
          · rw [if_neg hh] at this g2'; omega
      have ev : ∀ (n : Nat) (l : List Nat), l.length ≤ n → everyL 1 n l = l := by
        intro n
        induction n with
        | zero => intro l h; have : l = [] := List.length_eq_zero_iff.mp (by omega); subst this; rfl
        | succ n ih =>
          intro l h
          cases l with
          | nil => rfl
          | cons a r => show a :: everyL 1 n (r.drop 0) = _; rw [List.drop_zero, ih r (by simpa using h)]
      unfold stepS
      rcases g3 with g3 | g3
      · subst g3
        rw [List.drop_zero, ev _ _ (by rw [Array.length_toList]; exact Nat.le_refl _), Array.toArray_toList]
      · have : z.cps.toList = [] := by rw [← List.length_eq_zero_iff, Array.length_toList]; exact g3
        rw [this, List.drop_nil, ev _ _ (Nat.zero_le _)]
        have : z.cps = #[] := Array.size_eq_zero_iff.mp g3
        cases z
        simp only at this
        rw [this]
    exact ⟨.str z, _, J5, ⟨_, rfl⟩, by have := q; rw [nat_of, nat_of, e1] at this; exact this⟩
  · rw [pk]
    refine ⟨?_, .str (stepS z i k), _, J5.tok _, ⟨_, rfl⟩, q⟩
    show ((everyL k z.length (z.cps.toList.drop i)).toArray).size ≤ sizeLine
    rw [List.size_toArray]
    have := every_len k z.length (z.cps.toList.drop i)
    rw [List.length_drop, Array.length_toList] at this
    have h3 : z.length = z.cps.size := rfl
    refine Nat.le_trans this (Nat.le_trans (Nat.sub_le _ _) ?_)
    exact hz
end DL
end

section
set_option Elab.async false
set_option maxRecDepth 100000
set_option maxHeartbeats 400000
namespace DL
open PySem L2 PyProof.Rows
def on3 (f : D → D → D → Option Rt) : List D → Option Rt
  | [x, y, z] => f x y z
  | _ => none
theorem rqs_three {K : PySem.W.Frag} {Hv H : Hp} {vs : List V} {x y z : D} (h : Rqs K Hv H vs [x, y, z]) : ∃ v w t, vs = [v, w, t] ∧ Rq K Hv H v x ∧ Rq K Hv H w y ∧ Rq K Hv H t z := by
  cases vs with
  | nil => exact h.elim
  | cons v vs =>
    obtain ⟨h1, h⟩ := h
    obtain ⟨w, t, rfl, h2, h3⟩ := Rqs.two h
    exact ⟨v, w, t, rfl, h1, h2, h3⟩
theorem vn3 {K : PySem.W.Frag} {r : List V → Hp → VK → Prop} {f : D → D → D → Option Rt} (h : ∀ Hv H, Le Hv H → ∀ v w t x y z res, Rq K Hv H v x → Rq K Hv H w y → Rq K Hv H t z → f x y z = some res → ∀ Q : VK, (∀ z H', ResOk K Hv H res z H' → Q z H') → r [v, w, t] H Q) : VnOk K r (on3 f) := by
  intro Hv H le hv vs xs res hx e Q q
  match xs, e with
  | [x, y, z], e =>
    obtain ⟨v, w, t, rfl, h1, h2, h3⟩ := rqs_three hx
    exact h Hv H le v w t x y z res h1 h2 h3 e Q q
def step3D : D → D → D → Option Rt
  | .str z, .int i, .int k => if decide (0 ≤ i) && (decide (0 < k) && decide (z.length ≤ SZ)) then sD (.str (stepS z i.toNat k.toNat)) else none
  | _, _, _ => none
abbrev stepD := on3 step3D
theorem v_step {K : PySem.W.Frag} : VnOk K rStep stepD := vn3 fun Hv H le v w t x y z res h1 h2 h3 e Q q => by
  cases x <;> try (cases e; done)
  cases y <;> try (cases e; done)
  cases z <;> try (cases e; done)
  rename_i z i k
  simp only [step3D] at e
  split at e
  · rename_i hh
    simp only [Bool.and_eq_true, decide_eq_true_eq] at hh
    obtain ⟨g1, g2, g3⟩ := hh
    obtain rfl := Option.some.inj e
    rw [h1.str, h2.int, h3.int]
    exact ⟨z, i, k, rfl, g1, g2, by rw [sizeLine_eq]; exact g3, q _ _ (.d (.str _))⟩
  · cases e
theorem je_step {c : Ct} {e a b : Expr} {de da db : DE} {p3 pos : Pos} (he : JE c e de) (ha : JE c a da) (hb : JE c b db) : JE c (.Subscript e (.Slice (some a) none (some b) p3) pos) (dFn stepD (daCons de (daCons da (daCons db daNil)))) := by
  obtain ⟨te, pe, le⟩ := he
  obtain ⟨ta, pa, la⟩ := ha
  obtain ⟨tb, pb, lb⟩ := hb
  exact ⟨_, fun X ok => pe_step (pe X ok) (pa X ok) (pb X ok), LE.fn v_step (LA.cons le (LA.cons la (LA.cons lb LA.nil)))⟩
/-! int(t, 2) -/
theorem c_int2 {c : Ct} : ∀ X, OkX c X → CallR X (.type "int") rInt2 := fun X ok => call_int2
def isBin (z : Str) : Bool := !z.cps.toList.isEmpty && decide (z.length ≤ 640) && z.cps.toList.all fun c => c == 48 || c == 49
def int2D : D → D → Option Rt
  | .str z, .int n => if n = 2 ∧ isBin z = true then sD (.int (B2.num z.cps.toList : Nat)) else none
  | _, _ => none
theorem v_int2 {K : PySem.W.Frag} : VnOk K rInt2 (on2 int2D) := vn2 fun Hv H le v w x y res h1 h2 e Q q => by
  cases x <;> try (cases e; done)
  cases y <;> try (cases e; done)
  rename_i z n
  simp only [int2D] at e
  split at e
  · rename_i hh
    cases e
    obtain ⟨rfl, hz⟩ := hh
    simp only [isBin, Bool.and_eq_true, decide_eq_true_eq, List.all_eq_true, Bool.or_eq_true, beq_iff_eq, Bool.not_eq_true'] at hz
    rw [h1.str, h2.int]
    exact ⟨z, rfl, fun hn => by rw [hn] at hz; simp at hz, hz.1.2, hz.2, q _ _ (.d (.int _))⟩
  · cases e
/-! list(range(n)) -/
def lrgD : D → Option Rt
  | .int n => if n ≤ 16777216 ∧ 0 ≤ n then some (.nw (.lst ((List.range n.toNat).map fun i => .int (i : Nat)))) else none
  | _ => none
def rLrg : V → Hp → VK → Prop := fun x H Q => ∃ n : Int, x = .int n ∧ RgOk 0 n ∧ ∀ q, H q = none → Q (.ref q) (upd H q (.lst (rgV 0 n)))
theorem v_lrg {K : PySem.W.Frag} : V1Ok K rLrg lrgD := by
  intro Hv H le v x res h e Q q
  cases x <;> try (cases e; done)
  rename_i n
  simp only [lrgD] at e
  split at e
  · rename_i hh
    cases e
    rw [h.int]
    refine ⟨n, rfl, ⟨by omega, by omega, by omega, by omega, by omega⟩, fun p hp => q _ _ ⟨p, _, hp, rfl, rfl, ?_⟩⟩
    unfold rgV
    rw [Int.sub_zero]
    have e2 : (List.range n.toNat).map (fun i : Nat => V.int (0 + (i : Nat))) = ((List.range n.toNat).map fun i : Nat => (i : Int)).map V.int := by
      rw [List.map_map]; exact List.map_congr_left fun i _ => by show V.int _ = V.int _; rw [Int.zero_add]
    have e3 : (List.range n.toNat).map (fun i : Nat => PyData.int (i : Nat)) = ((List.range n.toNat).map fun i : Nat => (i : Int)).map PyData.int := by
      rw [List.map_map]; rfl
    rw [e2, e3]
    exact rp_mapI _
  · cases e
theorem je_lrg {c : Ct} {a : Expr} {da : DE} {p p2 p3 pos : Pos} (h1 : c.mg "list" = none) (h2 : c.mg "range" = none) (ha : JE c a da)
    (hgl : c.sc.names.lookup (Str.ofString "list") = some .globalImplicit := by rfl) (hgz : c.sc.names.lookup (Str.ofString "range") = some .globalImplicit := by rfl)
    (hs : ∀ env, starEach [a] env = (false, eval a env) :: starEach [] env := by intro _; rfl)
    (hs0 : ∀ env, starEach [.Call (.Name "range" p2) [a] [] p3] env = (false, eval (.Call (.Name "range" p2) [a] [] p3) env) :: starEach [] env := by intro _; rfl) :
    JE c (.Call (.Name "list" p) [.Call (.Name "range" p2) [a] [] p3] [] pos) (dUn lrgD da) := by
  obtain ⟨te, pe, le⟩ := ha
  refine ⟨tUn rLrg te, fun X ok => ?_, LE.un v_lrg le⟩
  exact pe_listRg (pos := pos) (p := p) ok.calm (gl_of ok hgl) (by rw [ok.mg]; exact h1) (prg_1 (pos := p3) (p := p2) (gl_of ok hgz) (by rw [ok.mg]; exact h2) (pe X ok) (hs _)) (hs0 _)
end DL
end

section
set_option Elab.async false
set_option maxRecDepth 100000
set_option maxHeartbeats 4000000
namespace PX
open PySem L2 DL
def top (i : Nat) : Stmt := PySem.Challenge.pw_leapwork_k81_numbers_dealt.main.body.getD i (.Pass ⟨0, 0, 0, 0⟩)
abbrev s_dealt : Stmt := top 1
theorem sc_dealt : FnScope ["k", "many", "figures", "holder"] ["k", "many"] (defScope s_dealt) := ⟨rfl, rfl, rfl, by decide +kernel, rfl, by decide +kernel, by decide +kernel⟩
abbrev s__number_of_figures : Stmt := top 2
theorem sc__number_of_figures : FnScope ["figures"] ["figures"] (defScope s__number_of_figures) := ⟨rfl, rfl, rfl, by decide +kernel, rfl, by decide +kernel, by decide +kernel⟩
abbrev s__law_spread : Stmt := top 4
theorem sc__law_spread : FnScope ["_law_cell", "_law_at", "_law_primes", "_law_one", "_law_two", "_law_three"] ["_law_cell", "_law_at"] (defScope s__law_spread) := ⟨rfl, rfl, rfl, by decide +kernel, rfl, by decide +kernel, by decide +kernel⟩
abbrev s__law_open : Stmt := top 5
theorem sc__law_open : FnScope ["_law_script", "_law_cells", "_law_k", "_law_cell"] ["_law_script"] (defScope s__law_open) := ⟨rfl, rfl, rfl, by decide +kernel, rfl, by decide +kernel, by decide +kernel⟩
abbrev s__law_anew : Stmt := top 6
theorem sc__law_anew : FnScope ["_law_pen"] ["_law_pen"] (defScope s__law_anew) := ⟨rfl, rfl, rfl, by decide +kernel, rfl, by decide +kernel, by decide +kernel⟩
abbrev s__law_take : Stmt := top 7
theorem sc__law_take : FnScope ["_law_pen", "_law_many", "_law_at", "_law_cell", "_law_found"] ["_law_pen", "_law_many"] (defScope s__law_take) := ⟨rfl, rfl, rfl, by decide +kernel, rfl, by decide +kernel, by decide +kernel⟩
abbrev s__law_same : Stmt := top 8
theorem sc__law_same : FnScope ["_law_found", "_law_due", "_law_one", "_law_other"] ["_law_found", "_law_due"] (defScope s__law_same) := ⟨rfl, rfl, rfl, by decide +kernel, rfl, by decide +kernel, by decide +kernel⟩
abbrev s__law_dealt : Stmt := top 9
theorem sc__law_dealt : FnScope ["_law_number", "_law_many", "_law_figures", "_law_found", "_law_holder", "_law_mine", "_law_place"] ["_law_number", "_law_many"] (defScope s__law_dealt) := ⟨rfl, rfl, rfl, by decide +kernel, rfl, by decide +kernel, by decide +kernel⟩
abbrev s__law_some_number : Stmt := top 10
theorem sc__law_some_number : FnScope ["_law_pen", "_law_kind", "_law_found", "_law_k"] ["_law_pen"] (defScope s__law_some_number) := ⟨rfl, rfl, rfl, by decide +kernel, rfl, by decide +kernel, by decide +kernel⟩
abbrev s_law : Stmt := top 11
theorem sc_law : FnScope ["_law_script", "_law_pen", "_law_turn", "_law_number", "_law_many", "_law_again", "_law_found"] ["_law_script"] (defScope s_law) := ⟨rfl, rfl, rfl, by decide +kernel, rfl, by decide +kernel, by decide +kernel⟩
/-! what the defs do, on data -/
noncomputable def b__number_of_figures : DS := (sRet (dFn (on2 int2D) (daCons (dBin addD (dC (.str "0")) (dUn revA (dVar 0))) (daCons (dC (.int 2)) daNil))))
noncomputable def F__number_of_figures : FnD := fnD 1 1 b__number_of_figures
noncomputable def b_dealt : DS := (sSeq (sAsg (gSet 2) (dUn revA (dUn binD (dVar 0))))
  (sRet (dLc (diRng1 (dVar 1)) (gSet 3) dtYes (dCall F__number_of_figures 1 (daCons (dFn stepD (daCons (dVar 2) (daCons (dVar 3) (daCons (dVar 1) daNil)))) daNil)) [3])))
noncomputable def F_dealt : FnD := fnD 2 4 b_dealt
noncomputable def b__law_spread : DS := (sSeq (sIf (dB (dBin geD (dVar 0) (dBin powD (dC (.int 10)) (dC (.int 18))))) (sRet (dVar 0)) sNil)
  (sSeq (sAsg (gSet 2) (dLst (daCons (dC (.int 2147483629)) (daCons (dC (.int 2147483587)) (daCons (dC (.int 2147483579)) (daCons (dC (.int 2147483563)) (daCons (dC (.int 2147483549)) (daCons (dC (.int 2147483543)) (daCons (dC (.int 2147483497)) (daCons (dC (.int 2147483489)) daNil))))))))))
  (sSeq (sAsg (gSet 2) (dBin addD (dVar 2) (dLst (daCons (dC (.int 2147483477)) (daCons (dC (.int 2147483423)) (daCons (dC (.int 2147483399)) (daCons (dC (.int 2147483353)) (daCons (dC (.int 2147483323)) daNil))))))))
  (sSeq (sAsg (gSet 3) (dBin modD (dBin powD (dBin addD (dBin addD (dBin mulD (dBin modD (dVar 0) (dC (.int 1000000007))) (dBin addD (dBin mulD (dC (.int 2)) (dVar 1)) (dC (.int 69069)))) (dBin mulD (dVar 1) (dC (.int 40503)))) (dC (.int 977))) (dC (.int 3))) (dBin ixA (dVar 2) (dBin modD (dVar 1) (dC (.int 13))))))
  (sSeq (sAsg (gSet 4) (dBin modD (dBin powD (dBin addD (dBin addD (dBin mulD (dVar 3) (dBin addD (dVar 1) (dC (.int 3)))) (dBin modD (dVar 0) (dC (.int 65537)))) (dC (.int 5))) (dC (.int 5))) (dBin ixA (dVar 2) (dBin modD (dBin addD (dVar 1) (dC (.int 5))) (dC (.int 13))))))
  (sSeq (sAsg (gSet 5) (dBin modD (dBin powD (dBin addD (dBin addD (dVar 4) (dBin modD (dVar 3) (dC (.int 1009)))) (dVar 1)) (dC (.int 3))) (dBin ixA (dVar 2) (dBin modD (dBin addD (dVar 1) (dC (.int 7))) (dC (.int 13))))))
  (sRet (dBin addD (dBin mulD (dBin addD (dBin mulD (dVar 3) (dC (.int 2147483647))) (dVar 4)) (dC (.int 2147483647))) (dVar 5)))))))))
noncomputable def F__law_spread : FnD := fnD 2 6 b__law_spread
noncomputable def b__law_open : DS := (sSeq (sOwn 1 (dFn (on1 listD) (daCons (dSl slD (dVar 0) oN (oI (dC (.int 12)))) daNil)))
  (sSeq (sFor (diEnum (dSl slD (dVar 0) (oI (dC (.int 12))) (oI (dC (.int 63))))) (gUnp 2 (gSome (gSet 2) (gSome (gSet 3) gNone))) (sPut 1 (dBin modD (dVar 2) (dC (.int 12))) (dBin addD (dBin ixA (dVar 1) (dBin modD (dVar 2) (dC (.int 12)))) (dVar 3))))
  (sRet (dLst (daCons (dVar 1) (daCons (dC (.int 0)) (daCons (dC (.int 0)) daNil)))))))
noncomputable def F__law_open : FnD := fnD 1 4 b__law_open
noncomputable def b__law_anew : DS := (sSeq (sPut 0 (dC (.int 2)) (dC (.int 0)))
  (sRet (dVar 0)))
noncomputable def F__law_anew : FnD := fnD 1 1 b__law_anew
noncomputable def b__law_take : DS := (sSeq (sIf (dB (dBin ltD (dBin ixA (dVar 0) (dC (.int 2))) (dVar 1))) (sSeq (sAsg (gSet 2) (dBin ixA (dVar 0) (dC (.int 1))))
  (sSeq (sAsg (gSet 3) (dC (.int 0)))
  (sSeq (sIf (dB (dBin ltD (dVar 2) (dFn (on1 lenD) (daCons (dBin ixA (dVar 0) (dC (.int 0))) daNil)))) (sAsg (gSet 3) (dBin ixA (dBin ixA (dVar 0) (dC (.int 0))) (dVar 2))) (sIf (dB (dBin gtD (dFn (on1 lenD) (daCons (dBin ixA (dVar 0) (dC (.int 0))) daNil)) (dC (.int 0)))) (sAsg (gSet 3) (dBin modD (dBin ixA (dBin ixA (dVar 0) (dC (.int 0))) (dBin modD (dBin addD (dBin mulD (dVar 2) (dC (.int 5))) (dC (.int 3))) (dFn (on1 lenD) (daCons (dBin ixA (dVar 0) (dC (.int 0))) daNil)))) (dBin addD (dBin powD (dC (.int 10)) (dC (.int 17))) (dVar 2)))) sNil))
  (sSeq (sPut 0 (dC (.int 1)) (dBin addD (dVar 2) (dC (.int 1))))
  (sPut 0 (dC (.int 2)) (dCall F__law_spread 2 (daCons (dVar 3) (daCons (dVar 2) daNil)))))))) sNil)
  (sSeq (sAsg (gSet 4) (dBin modD (dBin ixA (dVar 0) (dC (.int 2))) (dVar 1)))
  (sSeq (sPut 0 (dC (.int 2)) (dBin fdivD (dBin ixA (dVar 0) (dC (.int 2))) (dVar 1)))
  (sRet (dVar 4)))))
noncomputable def F__law_take : FnD := fnD 2 5 b__law_take
noncomputable def b__law_same (r__law_same : FnD) : DS := (sSeq (sIf (dB (dBin (isND true) (dVar 1) (dC .none))) (sRet (dBin (isND true) (dVar 0) (dC .none))) sNil)
  (sSeq (sIf (dOr (dTru (dUn (isiD [.bool]) (dVar 1))) (dTru (dUn (isiD [.bool]) (dVar 0)))) (sRet (dAndV (dUn (isiD [.bool]) (dVar 1)) (dAndV (dUn (isiD [.bool]) (dVar 0)) (dBin (eqA true) (dVar 0) (dVar 1))))) sNil)
  (sSeq (sIf (dTru (dUn (isiD [.int]) (dVar 1))) (sRet (dAndV (dUn (isiD [.int]) (dVar 0)) (dBin (eqA true) (dVar 0) (dVar 1)))) sNil)
  (sSeq (sIf (dTru (dUn (isiD [.str]) (dVar 1))) (sRet (dAndV (dUn (isiD [.str]) (dVar 0)) (dBin (eqA true) (dVar 0) (dVar 1)))) sNil)
  (sSeq (sIf (dOr (dB (dBin (eqA false) (dUn (isiD [.tuple]) (dVar 1)) (dUn (isiD [.tuple]) (dVar 0)))) (dB (dBin (eqA false) (dUn (isiD [.list]) (dVar 1)) (dUn (isiD [.list]) (dVar 0))))) (sRet (dC (.bool false))) sNil)
  (sSeq (sIf (dB (dBin (eqA false) (dFn (on1 lenD) (daCons (dVar 0) daNil)) (dFn (on1 lenD) (daCons (dVar 1) daNil)))) (sRet (dC (.bool false))) sNil)
  (sRet (dBin (inA true) (dC (.bool false)) (dLc (diZip (dVar 0) (dVar 1)) (gUnp 2 (gSome (gSet 2) (gSome (gSet 3) gNone))) dtYes (dCall r__law_same 2 (daCons (dVar 2) (daCons (dVar 3) daNil))) [2, 3])))))))))
noncomputable def R__law_same : Nat → FnD
  | 0 => fun _ _ => none
  | k + 1 => fnD 2 4 (b__law_same (R__law_same k))
noncomputable def F__law_same : FnD := (R__law_same 100)
noncomputable def b__law_dealt : DS := (sSeq (sOwn 2 (dLst daNil))
  (sSeq (sWhile (dB (dBin gtD (dVar 0) (dC (.int 0)))) (sSeq (sExpr (dMut "list" appF 2 (daCons (dBin modD (dVar 0) (dC (.int 2))) daNil)))
  (sAsg (gSet 0) (dBin fdivD (dVar 0) (dC (.int 2))))))
  (sSeq (sOwn 3 (dLst daNil))
  (sSeq (sFor (diRng1 (dVar 1)) (gSet 4) (sSeq (sAsg (gSet 5) (dC (.int 0)))
  (sSeq (sFor (diAny (dUn revA (dUn lrgD (dFn (on1 lenD) (daCons (dVar 2) daNil))))) (gSet 6) (sIf (dB (dBin (eqA true) (dBin modD (dVar 6) (dVar 1)) (dVar 4))) (sAsg (gSet 5) (dBin addD (dBin mulD (dVar 5) (dC (.int 2))) (dBin ixA (dVar 2) (dVar 6)))) sNil))
  (sExpr (dMut "list" appF 3 (daCons (dVar 5) daNil))))))
  (sRet (dVar 3))))))
noncomputable def F__law_dealt : FnD := fnD 2 7 b__law_dealt
noncomputable def b__law_some_number : DS := (sSeq (sAsg (gSet 1) (dCall F__law_take 2 (daCons (dVar 0) (daCons (dC (.int 5)) daNil))))
  (sSeq (sIf (dB (dBin ltD (dVar 1) (dC (.int 2)))) (sRet (dCall F__law_take 2 (daCons (dVar 0) (daCons (dBin ixA (dLst (daCons (dC (.int 12)) (daCons (dC (.int 400)) daNil))) (dVar 1)) daNil)))) sNil)
  (sSeq (sIf (dB (dBin (eqA true) (dVar 1) (dC (.int 2)))) (sSeq (sAsg (gSet 2) (dC (.int 1)))
  (sSeq (sFor (diRng1 (dCall F__law_take 2 (daCons (dVar 0) (daCons (dC (.int 40)) daNil)))) (gSet 3) (sAsg (gSet 2) (dBin mulD (dVar 2) (dC (.int 2)))))
  (sRet (dBin addD (dVar 2) (dCall F__law_take 2 (daCons (dVar 0) (daCons (dC (.int 3)) daNil))))))) sNil)
  (sRet (dIf (dB (dBin (eqA true) (dVar 1) (dC (.int 3)))) (dCall F__law_take 2 (daCons (dVar 0) (daCons (dBin powD (dC (.int 10)) (dC (.int 18))) daNil))) (dBin mulD (dCall F__law_take 2 (daCons (dVar 0) (daCons (dBin powD (dC (.int 10)) (dC (.int 6))) daNil))) (dC (.int 1024))))))))
noncomputable def F__law_some_number : FnD := fnD 1 4 b__law_some_number
noncomputable def b_law : DS := (sSeq (sOwn 1 (dCall F__law_open 1 (daCons (dVar 0) daNil)))
  (sSeq (sFor (diRng1 (dC (.int 12))) (gSet 2) (sSeq (sAsg (gSet 3) (dCall F__law_some_number 1 (daCons (dCall F__law_anew 1 (daCons (dVar 1) daNil)) daNil)))
  (sSeq (sAsg (gSet 4) (dBin addD (dC (.int 1)) (dCall F__law_take 2 (daCons (dVar 1) (daCons (dC (.int 9)) daNil)))))
  (sFor (diRng1 (dC (.int 2))) (gSet 5) (sSeq (sOwn 6 (dCall F_dealt 2 (daCons (dVar 3) (daCons (dVar 4) daNil))))
  (sSeq (sIf (dNot (dTru (dCall F__law_same 2 (daCons (dVar 6) (daCons (dCall F__law_dealt 2 (daCons (dVar 3) (daCons (dVar 4) daNil))) daNil))))) (sRet (dC (.bool false))) sNil)
  (sExpr (dMut "list" appF 6 (daCons (dC (.int 1)) daNil)))))))))
  (sSeq (sFor (diRng1 (dC (.int 40))) (gSet 3) (sIf (dNot (dTru (dCall F__law_same 2 (daCons (dCall F_dealt 2 (daCons (dVar 3) (daCons (dC (.int 2)) daNil))) (daCons (dCall F__law_dealt 2 (daCons (dVar 3) (daCons (dC (.int 2)) daNil))) daNil))))) (sRet (dC (.bool false))) sNil))
  (sRet (dC (.bool true))))))
noncomputable def F_law : FnD := fnD 1 7 b_law
/-! what is seen of the module -/
structure Facts (w : World) (K : PySem.W.Frag) (mg : Str → Option Value) (f : Nat → Addr) (fd : Nat → FuncData) : Prop where
  m_bool : mg "bool" = none
  m_enumerate : mg "enumerate" = none
  m_int : mg "int" = none
  m_isinstance : mg "isinstance" = none
  m_len : mg "len" = none
  m_list : mg "list" = none
  m_range : mg "range" = none
  m_str : mg "str" = none
  m_tuple : mg "tuple" = none
  m_zip : mg "zip" = none
  d_dealt : DefAt K mg "dealt" s_dealt ["k", "many"] (f 0) (fd 0)
  d__number_of_figures : DefAt K mg "_number_of_figures" s__number_of_figures ["figures"] (f 1) (fd 1)
  d__law_spread : DefAt K mg "_law_spread" s__law_spread ["_law_cell", "_law_at"] (f 2) (fd 2)
  d__law_open : DefAt K mg "_law_open" s__law_open ["_law_script"] (f 3) (fd 3)
  d__law_anew : DefAt K mg "_law_anew" s__law_anew ["_law_pen"] (f 4) (fd 4)
  d__law_take : DefAt K mg "_law_take" s__law_take ["_law_pen", "_law_many"] (f 5) (fd 5)
  d__law_same : DefAt K mg "_law_same" s__law_same ["_law_found", "_law_due"] (f 6) (fd 6)
  d__law_dealt : DefAt K mg "_law_dealt" s__law_dealt ["_law_number", "_law_many"] (f 7) (fd 7)
  d__law_some_number : DefAt K mg "_law_some_number" s__law_some_number ["_law_pen"] (f 8) (fd 8)
  d_law : DefAt K mg "law" s_law ["_law_script"] (f 9) (fd 9)
section
variable {P : Program} {w : World} {K : PySem.W.Frag} {mg : Str → Option Value} {base : Heap} {f : Nat → Addr} {fd : Nat → FuncData}
theorem g__number_of_figures (ft : Facts w K mg f fd) : FnG P w K mg base 1 (f 1) (fd 1) ["figures"] 1 F__number_of_figures := by
  have nd := (sc__number_of_figures).nd
  exact FnG.of (k := 0) ft.d__number_of_figures.fn sc__number_of_figures (jss_one (js_ret (je_ty c_int2 v_int2 ft.m_int rfl (ja_cons (je_op o_add v_add je_str (je_revA (je_var 0))) (ja_cons je_int ja_nil)))))
theorem g_dealt (ft : Facts w K mg f fd) : FnG P w K mg base 2 (f 0) (fd 0) ["k", "many"] 2 F_dealt := by
  have g__number_of_figures := g__number_of_figures (P := P) (base := base) ft
  have nd := (sc_dealt).nd
  exact FnG.of (k := 1) ft.d_dealt.fn sc_dealt (jss_cons (js_set 2 nd (je_revA (je_bin (je_var 0))))
    (jss_one (js_ret (je_lc [("holder", 3)] nd (ji_range1 ft.m_range (je_var 1)) (by (first | decide +kernel | (dsimp only [Ct.blk]; decide +kernel))) (jg_name nd (i := 3)) jts_nil (je_call g__number_of_figures (by (first | exact Nat.le_refl _ | exact Nat.le_of_ble_eq_true rfl | exact Nat.le_trans (Nat.le_of_ble_eq_true rfl) (Nat.le_add_right _ _) | (dsimp only [Ct.blk]; omega))) ft.d__number_of_figures.at_ ft.d__number_of_figures.kept ft.d__number_of_figures.binds (ja_cons (je_step (je_var 2) (je_var 3) (je_var 1)) ja_nil))))))
theorem g__law_spread (ft : Facts w K mg f fd) : FnG P w K mg base 1 (f 2) (fd 2) ["_law_cell", "_law_at"] 2 F__law_spread := by
  have nd := (sc__law_spread).nd
  exact FnG.of (k := 0) ft.d__law_spread.fn sc__law_spread (jss_cons (js_if (jt_cmp o_ge v_cmp (je_var 0) (je_op o_pow v_pow je_int je_int)) (jss_one (js_ret (je_var 0))) jss_nil)
    (jss_cons (js_set 2 nd (je_lst (ja_cons je_int (ja_cons je_int (ja_cons je_int (ja_cons je_int (ja_cons je_int (ja_cons je_int (ja_cons je_int (ja_cons je_int ja_nil))))))))))
    (jss_cons (js_set 2 nd (je_op o_add v_add (je_var 2) (je_lst (ja_cons je_int (ja_cons je_int (ja_cons je_int (ja_cons je_int (ja_cons je_int ja_nil))))))))
    (jss_cons (js_set 3 nd (je_op o_mod v_mod (je_op o_pow v_pow (je_op o_add v_add (je_op o_add v_add (je_op o_mul v_mul (je_op o_mod v_mod (je_var 0) je_int) (je_op o_add v_add (je_op o_mul v_mul je_int (je_var 1)) je_int)) (je_op o_mul v_mul (je_var 1) je_int)) je_int) je_int) (je_ix o_ixA v_ixA (je_var 2) (je_op o_mod v_mod (je_var 1) je_int))))
    (jss_cons (js_set 4 nd (je_op o_mod v_mod (je_op o_pow v_pow (je_op o_add v_add (je_op o_add v_add (je_op o_mul v_mul (je_var 3) (je_op o_add v_add (je_var 1) je_int)) (je_op o_mod v_mod (je_var 0) je_int)) je_int) je_int) (je_ix o_ixA v_ixA (je_var 2) (je_op o_mod v_mod (je_op o_add v_add (je_var 1) je_int) je_int))))
    (jss_cons (js_set 5 nd (je_op o_mod v_mod (je_op o_pow v_pow (je_op o_add v_add (je_op o_add v_add (je_var 4) (je_op o_mod v_mod (je_var 3) je_int)) (je_var 1)) je_int) (je_ix o_ixA v_ixA (je_var 2) (je_op o_mod v_mod (je_op o_add v_add (je_var 1) je_int) je_int))))
    (jss_one (js_ret (je_op o_add v_add (je_op o_mul v_mul (je_op o_add v_add (je_op o_mul v_mul (je_var 3) je_int) (je_var 4)) je_int) (je_var 5))))))))))
theorem g__law_open (ft : Facts w K mg f fd) : FnG P w K mg base 1 (f 3) (fd 3) ["_law_script"] 1 F__law_open := by
  have nd := (sc__law_open).nd
  exact FnG.of (k := 0) ft.d__law_open.fn sc__law_open (jss_cons (js_own 1 nd (je_ty c_list v_list ft.m_list rfl (ja_cons (je_sl (je_var 0) jo_none (jo_some je_int)) ja_nil)))
    (jss_cons (js_for (ji_enum ft.m_enumerate (je_sl (je_var 0) (jo_some je_int) (jo_some je_int))) (jg_tup 2 (jgs_cons (jg_name nd (i := 2)) (jgs_cons (jg_name nd (i := 3)) jgs_nil))) (jss_one (js_put 1 (je_op o_mod v_mod (je_var 2) je_int) (je_op o_add v_add (je_ix o_ixA v_ixA (je_var 1) (je_op o_mod v_mod (je_var 2) je_int)) (je_var 3)))))
    (jss_one (js_ret (je_lst (ja_cons (je_var 1) (ja_cons je_int (ja_cons je_int ja_nil))))))))
theorem g__law_anew (ft : Facts w K mg f fd) : FnG P w K mg base 1 (f 4) (fd 4) ["_law_pen"] 1 F__law_anew := by
  have nd := (sc__law_anew).nd
  exact FnG.of (k := 0) ft.d__law_anew.fn sc__law_anew (jss_cons (js_put 0 je_int je_int)
    (jss_one (js_ret (je_var 0))))
theorem g__law_take (ft : Facts w K mg f fd) : FnG P w K mg base 2 (f 5) (fd 5) ["_law_pen", "_law_many"] 2 F__law_take := by
  have g__law_spread := g__law_spread (P := P) (base := base) ft
  have nd := (sc__law_take).nd
  exact FnG.of (k := 1) ft.d__law_take.fn sc__law_take (jss_cons (js_if (jt_cmp o_lt v_cmp (je_ix o_ixA v_ixA (je_var 0) je_int) (je_var 1)) (jss_cons (js_set 2 nd (je_ix o_ixA v_ixA (je_var 0) je_int))
    (jss_cons (js_set 3 nd je_int)
    (jss_cons (js_if (jt_cmp o_lt v_cmp (je_var 2) (je_blt c_len v_len ft.m_len rfl (ja_cons (je_ix o_ixA v_ixA (je_var 0) je_int) ja_nil))) (jss_one (js_set 3 nd (je_ix o_ixA v_ixA (je_ix o_ixA v_ixA (je_var 0) je_int) (je_var 2)))) (jss_one (js_if (jt_cmp o_gt v_cmp (je_blt c_len v_len ft.m_len rfl (ja_cons (je_ix o_ixA v_ixA (je_var 0) je_int) ja_nil)) je_int) (jss_one (js_set 3 nd (je_op o_mod v_mod (je_ix o_ixA v_ixA (je_ix o_ixA v_ixA (je_var 0) je_int) (je_op o_mod v_mod (je_op o_add v_add (je_op o_mul v_mul (je_var 2) je_int) je_int) (je_blt c_len v_len ft.m_len rfl (ja_cons (je_ix o_ixA v_ixA (je_var 0) je_int) ja_nil)))) (je_op o_add v_add (je_op o_pow v_pow je_int je_int) (je_var 2))))) jss_nil)))
    (jss_cons (js_put 0 je_int (je_op o_add v_add (je_var 2) je_int))
    (jss_one (js_put 0 je_int (je_call g__law_spread (by (first | exact Nat.le_refl _ | exact Nat.le_of_ble_eq_true rfl | exact Nat.le_trans (Nat.le_of_ble_eq_true rfl) (Nat.le_add_right _ _) | (dsimp only [Ct.blk]; omega))) ft.d__law_spread.at_ ft.d__law_spread.kept ft.d__law_spread.binds (ja_cons (je_var 3) (ja_cons (je_var 2) ja_nil))))))))) jss_nil)
    (jss_cons (js_set 4 nd (je_op o_mod v_mod (je_ix o_ixA v_ixA (je_var 0) je_int) (je_var 1)))
    (jss_cons (js_put 0 je_int (je_op o_fdiv v_fdiv (je_ix o_ixA v_ixA (je_var 0) je_int) (je_var 1)))
    (jss_one (js_ret (je_var 4))))))
theorem gr__law_same (ft : Facts w K mg f fd) : ∀ k : Nat, FnG P w K mg base (0 + k) (f 6) (fd 6) ["_law_found", "_law_due"] 2 ((R__law_same k))
  | 0 => FnG.none
  | k + 1 => by
    have g__law_same := gr__law_same ft k
    · have nd := (sc__law_same).nd
      exact FnG.of (k := 0 + k) ft.d__law_same.fn sc__law_same (jss_cons (js_if (jt_cmp o_is v_isN (je_var 1) je_non) (jss_one (js_ret (je_cmp o_is v_isN (je_var 0) je_non))) jss_nil)
    (jss_cons (js_if (JW.jt (jw_or (jt_b (je_isi .bool (je_var 1) rfl ft.m_isinstance ft.m_bool)) (jw_or1 (jt_b (je_isi .bool (je_var 0) rfl ft.m_isinstance ft.m_bool))))) (jss_one (js_ret (je_and (je_isi .bool (je_var 1) rfl ft.m_isinstance ft.m_bool) (je_and (je_isi .bool (je_var 0) rfl ft.m_isinstance ft.m_bool) (je_one (je_cmp o_eqA v_eqA (je_var 0) (je_var 1))))))) jss_nil)
    (jss_cons (js_if (jt_b (je_isi .int (je_var 1) rfl ft.m_isinstance ft.m_int)) (jss_one (js_ret (je_and (je_isi .int (je_var 0) rfl ft.m_isinstance ft.m_int) (je_one (je_cmp o_eqA v_eqA (je_var 0) (je_var 1)))))) jss_nil)
    (jss_cons (js_if (jt_b (je_isi .str (je_var 1) rfl ft.m_isinstance ft.m_str)) (jss_one (js_ret (je_and (je_isi .str (je_var 0) rfl ft.m_isinstance ft.m_str) (je_one (je_cmp o_eqA v_eqA (je_var 0) (je_var 1)))))) jss_nil)
    (jss_cons (js_if (JW.jt (jw_or (jt_cmp o_neA v_neA (je_isi .tuple (je_var 1) rfl ft.m_isinstance ft.m_tuple) (je_isi .tuple (je_var 0) rfl ft.m_isinstance ft.m_tuple)) (jw_or1 (jt_cmp o_neA v_neA (je_isi .list (je_var 1) rfl ft.m_isinstance ft.m_list) (je_isi .list (je_var 0) rfl ft.m_isinstance ft.m_list))))) (jss_one (js_ret je_bl)) jss_nil)
    (jss_cons (js_if (jt_cmp o_neA v_neA (je_blt c_len v_len ft.m_len rfl (ja_cons (je_var 0) ja_nil)) (je_blt c_len v_len ft.m_len rfl (ja_cons (je_var 1) ja_nil))) (jss_one (js_ret je_bl)) jss_nil)
    (jss_one (js_ret (je_cmp o_ninA v_inA je_bl (je_lc [("_law_one", 2), ("_law_other", 3)] nd (ji_zip ft.m_zip (je_var 0) (je_var 1)) (by (first | decide +kernel | (dsimp only [Ct.blk]; decide +kernel))) (jg_tup 2 (jgs_cons (jg_name nd (i := 2)) (jgs_cons (jg_name nd (i := 3)) jgs_nil))) jts_nil (je_call g__law_same (by (first | exact Nat.le_refl _ | exact Nat.le_of_ble_eq_true rfl | exact Nat.le_trans (Nat.le_of_ble_eq_true rfl) (Nat.le_add_right _ _) | (dsimp only [Ct.blk]; omega))) ft.d__law_same.at_ ft.d__law_same.kept ft.d__law_same.binds (ja_cons (je_var 2) (ja_cons (je_var 3) ja_nil)))))))))))))
theorem g__law_same (ft : Facts w K mg f fd) : FnG P w K mg base (0 + 100) (f 6) (fd 6) ["_law_found", "_law_due"] 2 F__law_same := (gr__law_same ft 100)
theorem g__law_dealt (ft : Facts w K mg f fd) : FnG P w K mg base 1 (f 7) (fd 7) ["_law_number", "_law_many"] 2 F__law_dealt := by
  have nd := (sc__law_dealt).nd
  exact FnG.of (k := 0) ft.d__law_dealt.fn sc__law_dealt (jss_cons (js_own 2 nd (je_lst ja_nil))
    (jss_cons (js_while (jt_cmp o_gt v_cmp (je_var 0) je_int) (jss_cons (js_expr (je_mut 2 PySem.F.plainAttrs_list PySem.F.slot_list_append PySem.F.type_list_append (fun _ _ => mt_append) u_app (ja_cons (je_op o_mod v_mod (je_var 0) je_int) ja_nil)))
    (jss_one (js_set 0 nd (je_op o_fdiv v_fdiv (je_var 0) je_int)))))
    (jss_cons (js_own 3 nd (je_lst ja_nil))
    (jss_cons (js_for (ji_range1 ft.m_range (je_var 1)) (jg_name nd (i := 4)) (jss_cons (js_set 5 nd je_int)
    (jss_cons (js_for (ji_any (je_revA (je_lrg ft.m_list ft.m_range (je_blt c_len v_len ft.m_len rfl (ja_cons (je_var 2) ja_nil))))) (jg_name nd (i := 6)) (jss_one (js_if (jt_cmp o_eqA v_eqA (je_op o_mod v_mod (je_var 6) (je_var 1)) (je_var 4)) (jss_one (js_set 5 nd (je_op o_add v_add (je_op o_mul v_mul (je_var 5) je_int) (je_ix o_ixA v_ixA (je_var 2) (je_var 6))))) jss_nil)))
    (jss_one (js_expr (je_mut 3 PySem.F.plainAttrs_list PySem.F.slot_list_append PySem.F.type_list_append (fun _ _ => mt_append) u_app (ja_cons (je_var 5) ja_nil)))))))
    (jss_one (js_ret (je_var 3)))))))
theorem g__law_some_number (ft : Facts w K mg f fd) : FnG P w K mg base 3 (f 8) (fd 8) ["_law_pen"] 1 F__law_some_number := by
  have g__law_take := g__law_take (P := P) (base := base) ft
  have nd := (sc__law_some_number).nd
  exact FnG.of (k := 2) ft.d__law_some_number.fn sc__law_some_number (jss_cons (js_set 1 nd (je_call g__law_take (by (first | exact Nat.le_refl _ | exact Nat.le_of_ble_eq_true rfl | exact Nat.le_trans (Nat.le_of_ble_eq_true rfl) (Nat.le_add_right _ _) | (dsimp only [Ct.blk]; omega))) ft.d__law_take.at_ ft.d__law_take.kept ft.d__law_take.binds (ja_cons (je_var 0) (ja_cons je_int ja_nil))))
    (jss_cons (js_if (jt_cmp o_lt v_cmp (je_var 1) je_int) (jss_one (js_ret (je_call g__law_take (by (first | exact Nat.le_refl _ | exact Nat.le_of_ble_eq_true rfl | exact Nat.le_trans (Nat.le_of_ble_eq_true rfl) (Nat.le_add_right _ _) | (dsimp only [Ct.blk]; omega))) ft.d__law_take.at_ ft.d__law_take.kept ft.d__law_take.binds (ja_cons (je_var 0) (ja_cons (je_ix o_ixA v_ixA (je_lst (ja_cons je_int (ja_cons je_int ja_nil))) (je_var 1)) ja_nil))))) jss_nil)
    (jss_cons (js_if (jt_cmp o_eqA v_eqA (je_var 1) je_int) (jss_cons (js_set 2 nd je_int)
    (jss_cons (js_for (ji_range1 ft.m_range (je_call g__law_take (by (first | exact Nat.le_refl _ | exact Nat.le_of_ble_eq_true rfl | exact Nat.le_trans (Nat.le_of_ble_eq_true rfl) (Nat.le_add_right _ _) | (dsimp only [Ct.blk]; omega))) ft.d__law_take.at_ ft.d__law_take.kept ft.d__law_take.binds (ja_cons (je_var 0) (ja_cons je_int ja_nil)))) (jg_name nd (i := 3)) (jss_one (js_set 2 nd (je_op o_mul v_mul (je_var 2) je_int))))
    (jss_one (js_ret (je_op o_add v_add (je_var 2) (je_call g__law_take (by (first | exact Nat.le_refl _ | exact Nat.le_of_ble_eq_true rfl | exact Nat.le_trans (Nat.le_of_ble_eq_true rfl) (Nat.le_add_right _ _) | (dsimp only [Ct.blk]; omega))) ft.d__law_take.at_ ft.d__law_take.kept ft.d__law_take.binds (ja_cons (je_var 0) (ja_cons je_int ja_nil)))))))) jss_nil)
    (jss_one (js_ret (je_if (jt_cmp o_eqA v_eqA (je_var 1) je_int) (je_call g__law_take (by (first | exact Nat.le_refl _ | exact Nat.le_of_ble_eq_true rfl | exact Nat.le_trans (Nat.le_of_ble_eq_true rfl) (Nat.le_add_right _ _) | (dsimp only [Ct.blk]; omega))) ft.d__law_take.at_ ft.d__law_take.kept ft.d__law_take.binds (ja_cons (je_var 0) (ja_cons (je_op o_pow v_pow je_int je_int) ja_nil))) (je_op o_mul v_mul (je_call g__law_take (by (first | exact Nat.le_refl _ | exact Nat.le_of_ble_eq_true rfl | exact Nat.le_trans (Nat.le_of_ble_eq_true rfl) (Nat.le_add_right _ _) | (dsimp only [Ct.blk]; omega))) ft.d__law_take.at_ ft.d__law_take.kept ft.d__law_take.binds (ja_cons (je_var 0) (ja_cons (je_op o_pow v_pow je_int je_int) ja_nil))) je_int)))))))
theorem g_law (ft : Facts w K mg f fd) : FnG P w K mg base 101 (f 9) (fd 9) ["_law_script"] 1 F_law := by
  have g__law_open := g__law_open (P := P) (base := base) ft
  have g__law_some_number := g__law_some_number (P := P) (base := base) ft
  have g__law_anew := g__law_anew (P := P) (base := base) ft
  have g__law_take := g__law_take (P := P) (base := base) ft
  have g_dealt := g_dealt (P := P) (base := base) ft
  have g__law_same := g__law_same (P := P) (base := base) ft
  have g__law_dealt := g__law_dealt (P := P) (base := base) ft
  have nd := (sc_law).nd
  exact FnG.of (k := 100) ft.d_law.fn sc_law (jss_cons (js_own 1 nd (je_call g__law_open (by (first | exact Nat.le_refl _ | exact Nat.le_of_ble_eq_true rfl | exact Nat.le_trans (Nat.le_of_ble_eq_true rfl) (Nat.le_add_right _ _) | (dsimp only [Ct.blk]; omega))) ft.d__law_open.at_ ft.d__law_open.kept ft.d__law_open.binds (ja_cons (je_var 0) ja_nil)))
    (jss_cons (js_for (ji_range1 ft.m_range je_int) (jg_name nd (i := 2)) (jss_cons (js_set 3 nd (je_call g__law_some_number (by (first | exact Nat.le_refl _ | exact Nat.le_of_ble_eq_true rfl | exact Nat.le_trans (Nat.le_of_ble_eq_true rfl) (Nat.le_add_right _ _) | (dsimp only [Ct.blk]; omega))) ft.d__law_some_number.at_ ft.d__law_some_number.kept ft.d__law_some_number.binds (ja_cons (je_call g__law_anew (by (first | exact Nat.le_refl _ | exact Nat.le_of_ble_eq_true rfl | exact Nat.le_trans (Nat.le_of_ble_eq_true rfl) (Nat.le_add_right _ _) | (dsimp only [Ct.blk]; omega))) ft.d__law_anew.at_ ft.d__law_anew.kept ft.d__law_anew.binds (ja_cons (je_var 1) ja_nil)) ja_nil)))
    (jss_cons (js_set 4 nd (je_op o_add v_add je_int (je_call g__law_take (by (first | exact Nat.le_refl _ | exact Nat.le_of_ble_eq_true rfl | exact Nat.le_trans (Nat.le_of_ble_eq_true rfl) (Nat.le_add_right _ _) | (dsimp only [Ct.blk]; omega))) ft.d__law_take.at_ ft.d__law_take.kept ft.d__law_take.binds (ja_cons (je_var 1) (ja_cons je_int ja_nil)))))
    (jss_one (js_for (ji_range1 ft.m_range je_int) (jg_name nd (i := 5)) (jss_cons (js_own 6 nd (je_call g_dealt (by (first | exact Nat.le_refl _ | exact Nat.le_of_ble_eq_true rfl | exact Nat.le_trans (Nat.le_of_ble_eq_true rfl) (Nat.le_add_right _ _) | (dsimp only [Ct.blk]; omega))) ft.d_dealt.at_ ft.d_dealt.kept ft.d_dealt.binds (ja_cons (je_var 3) (ja_cons (je_var 4) ja_nil))))
    (jss_cons (js_if (jt_not (jt_b (je_call g__law_same (by (first | exact Nat.le_refl _ | exact Nat.le_of_ble_eq_true rfl | exact Nat.le_trans (Nat.le_of_ble_eq_true rfl) (Nat.le_add_right _ _) | (dsimp only [Ct.blk]; omega))) ft.d__law_same.at_ ft.d__law_same.kept ft.d__law_same.binds (ja_cons (je_var 6) (ja_cons (je_call g__law_dealt (by (first | exact Nat.le_refl _ | exact Nat.le_of_ble_eq_true rfl | exact Nat.le_trans (Nat.le_of_ble_eq_true rfl) (Nat.le_add_right _ _) | (dsimp only [Ct.blk]; omega))) ft.d__law_dealt.at_ ft.d__law_dealt.kept ft.d__law_dealt.binds (ja_cons (je_var 3) (ja_cons (je_var 4) ja_nil))) ja_nil))))) (jss_one (js_ret je_bl)) jss_nil)
    (jss_one (js_expr (je_mut 6 PySem.F.plainAttrs_list PySem.F.slot_list_append PySem.F.type_list_append (fun _ _ => mt_append) u_app (ja_cons je_int ja_nil)))))))))))
    (jss_cons (js_for (ji_range1 ft.m_range je_int) (jg_name nd (i := 3)) (jss_one (js_if (jt_not (jt_b (je_call g__law_same (by (first | exact Nat.le_refl _ | exact Nat.le_of_ble_eq_true rfl | exact Nat.le_trans (Nat.le_of_ble_eq_true rfl) (Nat.le_add_right _ _) | (dsimp only [Ct.blk]; omega))) ft.d__law_same.at_ ft.d__law_same.kept ft.d__law_same.binds (ja_cons (je_call g_dealt (by (first | exact Nat.le_refl _ | exact Nat.le_of_ble_eq_true rfl | exact Nat.le_trans (Nat.le_of_ble_eq_true rfl) (Nat.le_add_right _ _) | (dsimp only [Ct.blk]; omega))) ft.d_dealt.at_ ft.d_dealt.kept ft.d_dealt.binds (ja_cons (je_var 3) (ja_cons je_int ja_nil))) (ja_cons (je_call g__law_dealt (by (first | exact Nat.le_refl _ | exact Nat.le_of_ble_eq_true rfl | exact Nat.le_trans (Nat.le_of_ble_eq_true rfl) (Nat.le_add_right _ _) | (dsimp only [Ct.blk]; omega))) ft.d__law_dealt.at_ ft.d__law_dealt.kept ft.d__law_dealt.binds (ja_cons (je_var 3) (ja_cons je_int ja_nil))) ja_nil))))) (jss_one (js_ret je_bl)) jss_nil)))
    (jss_one (js_ret je_bl)))))
end
section
variable {K : PySem.W.Frag} {mg : Str → Option Value} {w : World}
theorem at_dealt {f : Addr} {od an : Option Addr} {sl : Array (Option Value)} {oc kV dc pm cd ct : Value} (a : mg "dealt" = some (.ref f)) (l : K.lookup f = some ⟨oc, od, .func (PySem.W.fnOf "dealt" "dealt" (defArgs s_dealt) (defBody s_dealt) (defScope s_dealt) .none kV dc pm an cd ct), sl⟩) (c : PySem.W.codeIn K cd "dealt" = true) (k : PySem.W.keepIn K (.ref f) = true) : DefAt K mg "dealt" s_dealt ["k", "many"] f (PySem.W.fnOf "dealt" "dealt" (defArgs s_dealt) (defBody s_dealt) (defScope s_dealt) .none kV dc pm an cd ct) :=
  have F := fun_mk (st := s_dealt) l c k
  ⟨F, a, k, F.binds (ps := ["k", "many"]) fun _ _ _ _ _ _ us hl => match us, hl with | [_, _], _ => rfl⟩
theorem at__number_of_figures {f : Addr} {od an : Option Addr} {sl : Array (Option Value)} {oc kV dc pm cd ct : Value} (a : mg "_number_of_figures" = some (.ref f)) (l : K.lookup f = some ⟨oc, od, .func (PySem.W.fnOf "_number_of_figures" "_number_of_figures" (defArgs s__number_of_figures) (defBody s__number_of_figures) (defScope s__number_of_figures) .none kV dc pm an cd ct), sl⟩) (c : PySem.W.codeIn K cd "_number_of_figures" = true) (k : PySem.W.keepIn K (.ref f) = true) : DefAt K mg "_number_of_figures" s__number_of_figures ["figures"] f (PySem.W.fnOf "_number_of_figures" "_number_of_figures" (defArgs s__number_of_figures) (defBody s__number_of_figures) (defScope s__number_of_figures) .none kV dc pm an cd ct) :=
  have F := fun_mk (st := s__number_of_figures) l c k
  ⟨F, a, k, F.binds (ps := ["figures"]) fun _ _ _ _ _ _ us hl => match us, hl with | [_], _ => rfl⟩
theorem at__law_spread {f : Addr} {od an : Option Addr} {sl : Array (Option Value)} {oc kV dc pm cd ct : Value} (a : mg "_law_spread" = some (.ref f)) (l : K.lookup f = some ⟨oc, od, .func (PySem.W.fnOf "_law_spread" "_law_spread" (defArgs s__law_spread) (defBody s__law_spread) (defScope s__law_spread) .none kV dc pm an cd ct), sl⟩) (c : PySem.W.codeIn K cd "_law_spread" = true) (k : PySem.W.keepIn K (.ref f) = true) : DefAt K mg "_law_spread" s__law_spread ["_law_cell", "_law_at"] f (PySem.W.fnOf "_law_spread" "_law_spread" (defArgs s__law_spread) (defBody s__law_spread) (defScope s__law_spread) .none kV dc pm an cd ct) :=
  have F := fun_mk (st := s__law_spread) l c k
  ⟨F, a, k, F.binds (ps := ["_law_cell", "_law_at"]) fun _ _ _ _ _ _ us hl => match us, hl with | [_, _], _ => rfl⟩
theorem at__law_open {f : Addr} {od an : Option Addr} {sl : Array (Option Value)} {oc kV dc pm cd ct : Value} (a : mg "_law_open" = some (.ref f)) (l : K.lookup f = some ⟨oc, od, .func (PySem.W.fnOf "_law_open" "_law_open" (defArgs s__law_open) (defBody s__law_open) (defScope s__law_open) .none kV dc pm an cd ct), sl⟩) (c : PySem.W.codeIn K cd "_law_open" = true) (k : PySem.W.keepIn K (.ref f) = true) : DefAt K mg "_law_open" s__law_open ["_law_script"] f (PySem.W.fnOf "_law_open" "_law_open" (defArgs s__law_open) (defBody s__law_open) (defScope s__law_open) .none kV dc pm an cd ct) :=
  have F := fun_mk (st := s__law_open) l c k
  ⟨F, a, k, F.binds (ps := ["_law_script"]) fun _ _ _ _ _ _ us hl => match us, hl with | [_], _ => rfl⟩
theorem at__law_anew {f : Addr} {od an : Option Addr} {sl : Array (Option Value)} {oc kV dc pm cd ct : Value} (a : mg "_law_anew" = some (.ref f)) (l : K.lookup f = some ⟨oc, od, .func (PySem.W.fnOf "_law_anew" "_law_anew" (defArgs s__law_anew) (defBody s__law_anew) (defScope s__law_anew) .none kV dc pm an cd ct), sl⟩) (c : PySem.W.codeIn K cd "_law_anew" = true) (k : PySem.W.keepIn K (.ref f) = true) : DefAt K mg "_law_anew" s__law_anew ["_law_pen"] f (PySem.W.fnOf "_law_anew" "_law_anew" (defArgs s__law_anew) (defBody s__law_anew) (defScope s__law_anew) .none kV dc pm an cd ct) :=
  have F := fun_mk (st := s__law_anew) l c k
  ⟨F, a, k, F.binds (ps := ["_law_pen"]) fun _ _ _ _ _ _ us hl => match us, hl with | [_], _ => rfl⟩
theorem at__law_take {f : Addr} {od an : Option Addr} {sl : Array (Option Value)} {oc kV dc pm cd ct : Value} (a : mg "_law_take" = some (.ref f)) (l : K.lookup f = some ⟨oc, od, .func (PySem.W.fnOf "_law_take" "_law_take" (defArgs s__law_take) (defBody s__law_take) (defScope s__law_take) .none kV dc pm an cd ct), sl⟩) (c : PySem.W.codeIn K cd "_law_take" = true) (k : PySem.W.keepIn K (.ref f) = true) : DefAt K mg "_law_take" s__law_take ["_law_pen", "_law_many"] f (PySem.W.fnOf "_law_take" "_law_take" (defArgs s__law_take) (defBody s__law_take) (defScope s__law_take) .none kV dc pm an cd ct) :=
  have F := fun_mk (st := s__law_take) l c k
  ⟨F, a, k, F.binds (ps := ["_law_pen", "_law_many"]) fun _ _ _ _ _ _ us hl => match us, hl with | [_, _], _ => rfl⟩
theorem at__law_same {f : Addr} {od an : Option Addr} {sl : Array (Option Value)} {oc kV dc pm cd ct : Value} (a : mg "_law_same" = some (.ref f)) (l : K.lookup f = some ⟨oc, od, .func (PySem.W.fnOf "_law_same" "_law_same" (defArgs s__law_same) (defBody s__law_same) (defScope s__law_same) .none kV dc pm an cd ct), sl⟩) (c : PySem.W.codeIn K cd "_law_same" = true) (k : PySem.W.keepIn K (.ref f) = true) : DefAt K mg "_law_same" s__law_same ["_law_found", "_law_due"] f (PySem.W.fnOf "_law_same" "_law_same" (defArgs s__law_same) (defBody s__law_same) (defScope s__law_same) .none kV dc pm an cd ct) :=
  have F := fun_mk (st := s__law_same) l c k
  ⟨F, a, k, F.binds (ps := ["_law_found", "_law_due"]) fun _ _ _ _ _ _ us hl => match us, hl with | [_, _], _ => rfl⟩
theorem at__law_dealt {f : Addr} {od an : Option Addr} {sl : Array (Option Value)} {oc kV dc pm cd ct : Value} (a : mg "_law_dealt" = some (.ref f)) (l : K.lookup f = some ⟨oc, od, .func (PySem.W.fnOf "_law_dealt" "_law_dealt" (defArgs s__law_dealt) (defBody s__law_dealt) (defScope s__law_dealt) .none kV dc pm an cd ct), sl⟩) (c : PySem.W.codeIn K cd "_law_dealt" = true) (k : PySem.W.keepIn K (.ref f) = true) : DefAt K mg "_law_dealt" s__law_dealt ["_law_number", "_law_many"] f (PySem.W.fnOf "_law_dealt" "_law_dealt" (defArgs s__law_dealt) (defBody s__law_dealt) (defScope s__law_dealt) .none kV dc pm an cd ct) :=
  have F := fun_mk (st := s__law_dealt) l c k
  ⟨F, a, k, F.binds (ps := ["_law_number", "_law_many"]) fun _ _ _ _ _ _ us hl => match us, hl with | [_, _], _ => rfl⟩
theorem at__law_some_number {f : Addr} {od an : Option Addr} {sl : Array (Option Value)} {oc kV dc pm cd ct : Value} (a : mg "_law_some_number" = some (.ref f)) (l : K.lookup f = some ⟨oc, od, .func (PySem.W.fnOf "_law_some_number" "_law_some_number" (defArgs s__law_some_number) (defBody s__law_some_number) (defScope s__law_some_number) .none kV dc pm an cd ct), sl⟩) (c : PySem.W.codeIn K cd "_law_some_number" = true) (k : PySem.W.keepIn K (.ref f) = true) : DefAt K mg "_law_some_number" s__law_some_number ["_law_pen"] f (PySem.W.fnOf "_law_some_number" "_law_some_number" (defArgs s__law_some_number) (defBody s__law_some_number) (defScope s__law_some_number) .none kV dc pm an cd ct) :=
  have F := fun_mk (st := s__law_some_number) l c k
  ⟨F, a, k, F.binds (ps := ["_law_pen"]) fun _ _ _ _ _ _ us hl => match us, hl with | [_], _ => rfl⟩
theorem at_law {f : Addr} {od an : Option Addr} {sl : Array (Option Value)} {oc kV dc pm cd ct : Value} (a : mg "law" = some (.ref f)) (l : K.lookup f = some ⟨oc, od, .func (PySem.W.fnOf "law" "law" (defArgs s_law) (defBody s_law) (defScope s_law) .none kV dc pm an cd ct), sl⟩) (c : PySem.W.codeIn K cd "law" = true) (k : PySem.W.keepIn K (.ref f) = true) : DefAt K mg "law" s_law ["_law_script"] f (PySem.W.fnOf "law" "law" (defArgs s_law) (defBody s_law) (defScope s_law) .none kV dc pm an cd ct) :=
  have F := fun_mk (st := s_law) l c k
  ⟨F, a, k, F.binds (ps := ["_law_script"]) fun _ _ _ _ _ _ us hl => match us, hl with | [_], _ => rfl⟩
end
theorem facts_mk {w : World} {K : PySem.W.Frag} {h : Heap} {mg : Str → Option Value} {fa : Addr} (X : K.In h) (G : h.Ns mainGlobals mg) (hfa : mg "law" = some (.ref fa)) {f0 f1 f2 f3 f4 f5 f6 f7 f8 f9 : Addr} {od0 an0 od1 an1 od2 an2 od3 an3 od4 an4 od5 an5 od6 an6 od7 an7 od8 an8 od9 an9 : Option Addr} {sl0 sl1 sl2 sl3 sl4 sl5 sl6 sl7 sl8 sl9 : Array (Option Value)} {oc0 kV0 dc0 pm0 cd0 ct0 oc1 kV1 dc1 pm1 cd1 ct1 oc2 kV2 dc2 pm2 cd2 ct2 oc3 kV3 dc3 pm3 cd3 ct3 oc4 kV4 dc4 pm4 cd4 ct4 oc5 kV5 dc5 pm5 cd5 ct5 oc6 kV6 dc6 pm6 cd6 ct6 oc7 kV7 dc7 pm7 cd7 ct7 oc8 kV8 dc8 pm8 cd8 ct8 oc9 kV9 dc9 pm9 cd9 ct9 : Value}
  (a0 : PySem.W.nsIn K mainGlobals "dealt" = some (some (.ref f0))) (l0 : K.lookup f0 = some ⟨oc0, od0, .func (PySem.W.fnOf "dealt" "dealt" (defArgs s_dealt) (defBody s_dealt) (defScope s_dealt) .none kV0 dc0 pm0 an0 cd0 ct0), sl0⟩) (c0 : PySem.W.codeIn K cd0 "dealt" = true) (k0 : PySem.W.keepIn K (.ref f0) = true)
  (a1 : PySem.W.nsIn K mainGlobals "_number_of_figures" = some (some (.ref f1))) (l1 : K.lookup f1 = some ⟨oc1, od1, .func (PySem.W.fnOf "_number_of_figures" "_number_of_figures" (defArgs s__number_of_figures) (defBody s__number_of_figures) (defScope s__number_of_figures) .none kV1 dc1 pm1 an1 cd1 ct1), sl1⟩) (c1 : PySem.W.codeIn K cd1 "_number_of_figures" = true) (k1 : PySem.W.keepIn K (.ref f1) = true)
  (a2 : PySem.W.nsIn K mainGlobals "_law_spread" = some (some (.ref f2))) (l2 : K.lookup f2 = some ⟨oc2, od2, .func (PySem.W.fnOf "_law_spread" "_law_spread" (defArgs s__law_spread) (defBody s__law_spread) (defScope s__law_spread) .none kV2 dc2 pm2 an2 cd2 ct2), sl2⟩) (c2 : PySem.W.codeIn K cd2 "_law_spread" = true) (k2 : PySem.W.keepIn K (.ref f2) = true)
  (a3 : PySem.W.nsIn K mainGlobals "_law_open" = some (some (.ref f3))) (l3 : K.lookup f3 = some ⟨oc3, od3, .func (PySem.W.fnOf "_law_open" "_law_open" (defArgs s__law_open) (defBody s__law_open) (defScope s__law_open) .none kV3 dc3 pm3 an3 cd3 ct3), sl3⟩) (c3 : PySem.W.codeIn K cd3 "_law_open" = true) (k3 : PySem.W.keepIn K (.ref f3) = true)
  (a4 : PySem.W.nsIn K mainGlobals "_law_anew" = some (some (.ref f4))) (l4 : K.lookup f4 = some ⟨oc4, od4, .func (PySem.W.fnOf "_law_anew" "_law_anew" (defArgs s__law_anew) (defBody s__law_anew) (defScope s__law_anew) .none kV4 dc4 pm4 an4 cd4 ct4), sl4⟩) (c4 : PySem.W.codeIn K cd4 "_law_anew" = true) (k4 : PySem.W.keepIn K (.ref f4) = true)
  (a5 : PySem.W.nsIn K mainGlobals "_law_take" = some (some (.ref f5))) (l5 : K.lookup f5 = some ⟨oc5, od5, .func (PySem.W.fnOf "_law_take" "_law_take" (defArgs s__law_take) (defBody s__law_take) (defScope s__law_take) .none kV5 dc5 pm5 an5 cd5 ct5), sl5⟩) (c5 : PySem.W.codeIn K cd5 "_law_take" = true) (k5 : PySem.W.keepIn K (.ref f5) = true)
  (a6 : PySem.W.nsIn K mainGlobals "_law_same" = some (some (.ref f6))) (l6 : K.lookup f6 = some ⟨oc6, od6, .func (PySem.W.fnOf "_law_same" "_law_same" (defArgs s__law_same) (defBody s__law_same) (defScope s__law_same) .none kV6 dc6 pm6 an6 cd6 ct6), sl6⟩) (c6 : PySem.W.codeIn K cd6 "_law_same" = true) (k6 : PySem.W.keepIn K (.ref f6) = true)
  (a7 : PySem.W.nsIn K mainGlobals "_law_dealt" = some (some (.ref f7))) (l7 : K.lookup f7 = some ⟨oc7, od7, .func (PySem.W.fnOf "_law_dealt" "_law_dealt" (defArgs s__law_dealt) (defBody s__law_dealt) (defScope s__law_dealt) .none kV7 dc7 pm7 an7 cd7 ct7), sl7⟩) (c7 : PySem.W.codeIn K cd7 "_law_dealt" = true) (k7 : PySem.W.keepIn K (.ref f7) = true)
  (a8 : PySem.W.nsIn K mainGlobals "_law_some_number" = some (some (.ref f8))) (l8 : K.lookup f8 = some ⟨oc8, od8, .func (PySem.W.fnOf "_law_some_number" "_law_some_number" (defArgs s__law_some_number) (defBody s__law_some_number) (defScope s__law_some_number) .none kV8 dc8 pm8 an8 cd8 ct8), sl8⟩) (c8 : PySem.W.codeIn K cd8 "_law_some_number" = true) (k8 : PySem.W.keepIn K (.ref f8) = true)
  (a9 : PySem.W.nsIn K mainGlobals "law" = some (some (.ref f9))) (l9 : K.lookup f9 = some ⟨oc9, od9, .func (PySem.W.fnOf "law" "law" (defArgs s_law) (defBody s_law) (defScope s_law) .none kV9 dc9 pm9 an9 cd9 ct9), sl9⟩) (c9 : PySem.W.codeIn K cd9 "law" = true) (k9 : PySem.W.keepIn K (.ref f9) = true)
  (z_bool : PySem.W.nsIn K mainGlobals "bool" = some none)
  (z_enumerate : PySem.W.nsIn K mainGlobals "enumerate" = some none)
  (z_int : PySem.W.nsIn K mainGlobals "int" = some none)
  (z_isinstance : PySem.W.nsIn K mainGlobals "isinstance" = some none)
  (z_len : PySem.W.nsIn K mainGlobals "len" = some none)
  (z_list : PySem.W.nsIn K mainGlobals "list" = some none)
  (z_range : PySem.W.nsIn K mainGlobals "range" = some none)
  (z_str : PySem.W.nsIn K mainGlobals "str" = some none)
  (z_tuple : PySem.W.nsIn K mainGlobals "tuple" = some none)
  (z_zip : PySem.W.nsIn K mainGlobals "zip" = some none) : ∃ (f : Nat → Addr) (fd : Nat → FuncData), f 9 = fa ∧ Facts w K mg f fd ∧ ∀ (s : Shared) (v : Value), BindsTo s (fd 9) ⟨[v], []⟩ [("_law_script", v)] := by
  have e := hfa.symm.trans (PySem.W.mg_of X G a9)
  have e2 : f9 = fa := by cases e; rfl
  exact ⟨fun i => [f0, f1, f2, f3, f4, f5, f6, f7, f8, f9].getD i 0, fun i => [PySem.W.fnOf "dealt" "dealt" (defArgs s_dealt) (defBody s_dealt) (defScope s_dealt) .none kV0 dc0 pm0 an0 cd0 ct0,
    PySem.W.fnOf "_number_of_figures" "_number_of_figures" (defArgs s__number_of_figures) (defBody s__number_of_figures) (defScope s__number_of_figures) .none kV1 dc1 pm1 an1 cd1 ct1,
    PySem.W.fnOf "_law_spread" "_law_spread" (defArgs s__law_spread) (defBody s__law_spread) (defScope s__law_spread) .none kV2 dc2 pm2 an2 cd2 ct2,
    PySem.W.fnOf "_law_open" "_law_open" (defArgs s__law_open) (defBody s__law_open) (defScope s__law_open) .none kV3 dc3 pm3 an3 cd3 ct3,
    PySem.W.fnOf "_law_anew" "_law_anew" (defArgs s__law_anew) (defBody s__law_anew) (defScope s__law_anew) .none kV4 dc4 pm4 an4 cd4 ct4,
    PySem.W.fnOf "_law_take" "_law_take" (defArgs s__law_take) (defBody s__law_take) (defScope s__law_take) .none kV5 dc5 pm5 an5 cd5 ct5,
    PySem.W.fnOf "_law_same" "_law_same" (defArgs s__law_same) (defBody s__law_same) (defScope s__law_same) .none kV6 dc6 pm6 an6 cd6 ct6,
    PySem.W.fnOf "_law_dealt" "_law_dealt" (defArgs s__law_dealt) (defBody s__law_dealt) (defScope s__law_dealt) .none kV7 dc7 pm7 an7 cd7 ct7,
    PySem.W.fnOf "_law_some_number" "_law_some_number" (defArgs s__law_some_number) (defBody s__law_some_number) (defScope s__law_some_number) .none kV8 dc8 pm8 an8 cd8 ct8,
    PySem.W.fnOf "law" "law" (defArgs s_law) (defBody s_law) (defScope s_law) .none kV9 dc9 pm9 an9 cd9 ct9].getD i (PySem.W.fnOf "" "" (defArgs s_law) (defBody s_law) (defScope s_law) .none kV0 dc0 pm0 an0 cd0 ct0), e2, {
    d_dealt := at_dealt (PySem.W.mg_of X G a0) l0 c0 k0
    d__number_of_figures := at__number_of_figures (PySem.W.mg_of X G a1) l1 c1 k1
    d__law_spread := at__law_spread (PySem.W.mg_of X G a2) l2 c2 k2
    d__law_open := at__law_open (PySem.W.mg_of X G a3) l3 c3 k3
    d__law_anew := at__law_anew (PySem.W.mg_of X G a4) l4 c4 k4
    d__law_take := at__law_take (PySem.W.mg_of X G a5) l5 c5 k5
    d__law_same := at__law_same (PySem.W.mg_of X G a6) l6 c6 k6
    d__law_dealt := at__law_dealt (PySem.W.mg_of X G a7) l7 c7 k7
    d__law_some_number := at__law_some_number (PySem.W.mg_of X G a8) l8 c8 k8
    d_law := at_law (PySem.W.mg_of X G a9) l9 c9 k9
    m_bool := PySem.W.mg_none_of X G z_bool
    m_enumerate := PySem.W.mg_none_of X G z_enumerate
    m_int := PySem.W.mg_none_of X G z_int
    m_isinstance := PySem.W.mg_none_of X G z_isinstance
    m_len := PySem.W.mg_none_of X G z_len
    m_list := PySem.W.mg_none_of X G z_list
    m_range := PySem.W.mg_none_of X G z_range
    m_str := PySem.W.mg_none_of X G z_str
    m_tuple := PySem.W.mg_none_of X G z_tuple
    m_zip := PySem.W.mg_none_of X G z_zip }, fun s v => .of_eq rfl⟩
end PX
end

section
set_option maxRecDepth 100000
set_option maxHeartbeats 1000000
namespace PX
open PySem L2 DL
theorem put_ok {i j : Nat} {dx de : DE} {ρ : List Sl} {u u1 u2 u3 : List Ob} {r ri : Rt} {x : D} {m mo : MO} (h : de ρ u = some (r, u1)) (h1 : ρ[i]? = some (.m j)) (h2 : dx ρ u1 = some (ri, u2)) (h3 : r.sl.dat u2 = some (x, u3)) (h4 : u3[j]? = some ⟨true, m⟩) (h5 : putF u3 m ri x = some mo) :
    sPut i dx de ρ u = some (.nx ρ (u3.set j ⟨true, mo⟩)) := by
  unfold sPut
  simp only [h, h1, h2, h3, h4, h5]
  simp
theorem mut_ok {T : String} {f : MO → List D → Option (D × MO)} {i j : Nat} {da : DA} {ρ : List Sl} {u u1 u2 : List Ob} {ss : List Sl} {xs : List D} {m0 m m2 : MO} {z : D} (h1 : ρ[i]? = some (.m j)) (h2 : u[j]? = some ⟨true, m0⟩) (k : m0.kn = T ∧ m0.isT = false) (ha : da ρ u = some (ss, u1)) (hd : dats u1 ss = some (xs, u2)) (h3 : u2[j]? = some ⟨true, m⟩)
    (hf : f m xs = some (z, m2)) (hT : m2.isT = false) : dMut T f i da ρ u = some (.s (.d z), u2.set j ⟨true, m2⟩) := by
  unfold dMut
  simp only [h1, h2, ha, hd, h3, hf, hT]
  rw [if_pos ⟨k.1, k.2, trivial⟩]
  simp
theorem e_own (i : Nat) (de : DE) {ρ : List Sl} {u u1 : List Ob} {xs : List D} (h : de ρ u = some (.nw (.lst xs), u1)) : sOwn i de ρ u = some (.nx (ρ.set i (.m u1.length)) (u1 ++ [⟨true, .lst xs⟩])) := by
  unfold sOwn
  rw [h]
  rfl
inductive Runs (g : DG) (body : DS) : List D → List Sl → List Ob → List Sl → List Ob → Prop
  | nil {ρ : List Sl} {u : List Ob} : Runs g body [] ρ u ρ u
  | cons {x : D} {xs : List D} {ρ ρ1 ρ2 ρ3 : List Sl} {u u2 u3 : List Ob} : g (.d x) ρ = some ρ1 → body ρ1 u = some (.nx ρ2 u2) → Runs g body xs ρ2 u2 ρ3 u3 → Runs g body (x :: xs) ρ u ρ3 u3
theorem Runs.app {g : DG} {body : DS} {xs ys : List D} {ρ ρ2 ρ3 : List Sl} {u u2 u3 : List Ob} (h : Runs g body xs ρ u ρ2 u2) (h2 : Runs g body ys ρ2 u2 ρ3 u3) : Runs g body (xs ++ ys) ρ u ρ3 u3 := by
  induction h with
  | nil => exact h2
  | cons a b _ ih => exact .cons a b (ih h2)
theorem Runs.for_ {g : DG} {body : DS} {xs : List D} {ρ ρ2 : List Sl} {u u2 : List Ob} (h : Runs g body xs ρ u ρ2 u2) : forL none g body xs ρ u = some (.nx ρ2 u2) := by
  induction h with
  | nil => exact for_nil
  | cons a b _ ih => rw [for_nx a b, ih]
abbrev pile (u : List Ob) (xs : List D) : List Ob := u ++ [⟨true, .lst xs⟩]
theorem pile_at (u : List Ob) (xs : List D) : (pile u xs)[u.length]? = some ⟨true, .lst xs⟩ := by
  rw [List.getElem?_append_right (Nat.le_refl _)]; simp
theorem pile_set (u : List Ob) (xs ys : List D) : (pile u xs).set u.length ⟨true, .lst ys⟩ = pile u ys := by
  unfold pile
  rw [List.set_append_right _ _ (Nat.le_refl _)]; simp
/-- a def that hands back data, or a new object, and may have drawn -/
theorem fnD_any {n N : Nat} {ds : DS} {args : List Sl} {u u2 : List Ob} {r : Rt} {x : D} (hl : args.length = n) (h : ds (args ++ List.replicate (N - n) .un) u = some (.rt r u2)) (hr : r.sl = .d x) (hu : u2.length = u.length) : ∃ r', fnD n N ds args u = some (r', u2) ∧ r'.sl = .d x := by
  have tk : u2.take u.length = u2 := by rw [← hu]; exact List.take_length
  unfold fnD
  rw [if_pos hl, h]
  cases r with
  | s s =>
    cases s with
    | d y => exact ⟨.s (.d y), by simp only [fin, tk], hr⟩
    | un => cases hr
    | m j => cases hr
  | nw mo => exact ⟨.nw mo, by simp only [fin, tk], hr⟩
end PX
end

section
set_option maxRecDepth 100000
set_option maxHeartbeats 1000000
namespace PX
open PySem L2 DL
/-! the pen: cells, how many were taken, what is left of the last -/
structure Pen where
  cells : List Int
  n : Nat
  left : Int
def Pen.mo (p : Pen) : MO := .lst [.list (p.cells.map .int), .int (p.n : Int), .int p.left]
theorem add_ll (a b : List D) (h : a.length + b.length ≤ 100) : addD (.list a) (.list b) = some (.nw (.lst (a ++ b))) := by
  show (if _ then _ else _) = _
  rw [if_pos (by show _ ≤ 16777216; omega)]
theorem mul_ii (i j : Int) (h : i.natAbs < 2 ^ 64 ∨ j.natAbs < 2 ^ 64) : mulD (.int i) (.int j) = sD (.int (i * j)) := by
  show (if _ then _ else _) = _
  rw [if_pos]
  rw [Bool.or_eq_true, decide_eq_true_eq, decide_eq_true_eq]
  exact h
theorem pow_ii (i j : Int) (h1 : 0 ≤ j) (h2 : j ≤ 1000000) (h : i.natAbs < 2 ^ 64) : powD (.int i) (.int j) = sD (.int (i ^ j.toNat)) := by
  show (if _ then _ else _) = _
  rw [if_pos]
  rw [Bool.and_eq_true, Bool.and_eq_true, decide_eq_true_eq, decide_eq_true_eq, decide_eq_true_eq]
  exact ⟨⟨h1, h2⟩, h⟩
theorem fdiv_ii (i j : Int) (h1 : 0 < j) (h2 : j < 2 ^ 64) : fdivD (.int i) (.int j) = sD (.int (i / j)) := by
  show (if _ then _ else _) = _
  rw [if_pos]
  rw [Bool.and_eq_true, decide_eq_true_eq, decide_eq_true_eq]
  exact ⟨h1, h2⟩
abbrev primes : List D := [.int 2147483629, .int 2147483587, .int 2147483579, .int 2147483563, .int 2147483549, .int 2147483543, .int 2147483497, .int 2147483489, .int 2147483477, .int 2147483423, .int 2147483399, .int 2147483353, .int 2147483323]
theorem prime_at (x : Int) : ∃ q : Int, ixA (.list primes) (.int (x % 13)) = sD (.int q) ∧ 0 < q ∧ q < 2147483648 := by
  have h : x % 13 = 0 ∨ x % 13 = 1 ∨ x % 13 = 2 ∨ x % 13 = 3 ∨ x % 13 = 4 ∨ x % 13 = 5 ∨ x % 13 = 6 ∨ x % 13 = 7 ∨ x % 13 = 8 ∨ x % 13 = 9 ∨ x % 13 = 10 ∨ x % 13 = 11 ∨ x % 13 = 12 := by omega
  rcases h with h | h | h | h | h | h | h | h | h | h | h | h | h <;> rw [h] <;> exact ⟨_, rfl, by decide, by decide⟩
theorem spread_T (c : Int) (n : Nat) (hn : n < 2 ^ 31) (u : List Ob) : ∃ v : Int, F__law_spread [.d (.int c), .d (.int (n : Int))] u = some (.s (.d (.int v)), u) := by
  have hp : powD (.int 10) (.int 18) = sD (.int (10 ^ 18)) := pow_ii 10 18 (by decide) (by decide) (by decide)
  by_cases big : (10 : Int) ^ 18 ≤ c
  · refine ⟨c, fnD_ret rfl ?_⟩
    unfold b__law_spread
    have hg : geD (.int c) (.int (10 ^ 18)) = sD (.bool true) := by rw [ge_ii, decide_eq_true big]
    simp only [DL.e_var, DL.e_c, DL.e_bin, DL.e_un, DL.e_anil, DL.e_acons, DL.e_fn, DL.e_if, DL.e_b, DL.e_and, DL.e_or, DL.e_not, DL.e_tv, DL.dNotV, DL.e_andV, DL.e_orV, DL.e_tru, DL.e_tup, DL.e_lst, DL.e_call, DL.e_nil, DL.e_seq, DL.e_ret, DL.e_expr, DL.e_sif, DL.e_asg, DL.e_set, DL.e_gnone, DL.e_gsome, DL.e_unp, DL.e_for, DL.e_seqI, DL.e_any, DL.any_l, DL.any_t, DL.any_s, DL.any_d, DL.e_lc, DL.e_sl, DL.e_oI, DL.e_oN, DL.q_str, DL.q_int, DL.qa_str, DL.qa_int, DL.on1_, DL.on2_, DL.len_l, DL.len_t, DL.len_d, DL.tru_b, DL.tru_l, DL.tru_t, DL.tru_n, DL.kgt_, DL.kin_, DL.it_l, DL.it_t, DL.tup_l, DL.tup_t, DL.list_l, DL.list_t, DL.rev_l, DL.rev_t, DL.md_l, DL.md_t, DL.isi_, DL.ix_0, DL.ix_1, DL.ix_2, DL.ix_3, DL.sl_1, DL.in_t2, DL.in_t3, DL.in_t4, DL.is_none, DL.add_ii, DL.sub_ii, DL.neg_i, DL.lt_ii, DL.le_ii, DL.gt_ii, DL.ge_ii, DL.bd_some, DL.bd_none, DL.ch_true, DL.ch_false, DL.nxt_nx, DL.nxt_rt, DL.nxt_bk, DL.nxt_ct, DL.nxt_none, DL.slR_d, DL.slR_m, DL.sl_s, DL.sl_nw, DL.vw_d, DL.vws_nil, DL.vws_cons, DL.dats_nil, DL.dats_cons, DL.dat_d, DL.rtB_b, DL.beq_t, DL.beq_f, DL.xor_f, DL.xor_t, DL.sD, DL.wipeS, DL.SZ, Nat.reduceLeDiff, Nat.reduceEqDiff, List.length_cons, List.length_nil, List.append_nil, List.nil_append, List.cons_append, List.replicate, List.getElem?_cons_zero, List.getElem?_cons_succ, List.set_cons_zero, List.set_cons_succ, if_true, ite_true, ite_false, Nat.reduceSub, Nat.reduceAdd, Nat.sub_self, List.any_cons, List.any_nil, Bool.or_false, Bool.or_true, Bool.true_or, Bool.false_or, Bool.and_true, Bool.and_false, Bool.true_and, Bool.false_and, Bool.not_true, Bool.not_false, Bool.not_not, decide_true, decide_false, decide_eq_true_eq, List.isEmpty_nil, List.isEmpty_cons, Nat.zero_add, List.map_id, hp, hg]
  have hg : geD (.int c) (.int (10 ^ 18)) = sD (.bool false) := by rw [ge_ii, decide_eq_false big]
  have hn : n < 2147483648 := hn
  obtain ⟨p1, e1, a1, b1⟩ := prime_at (n : Int)
  obtain ⟨p2, e2, a2, b2⟩ := prime_at ((n : Int) + 5)
  obtain ⟨p3, e3, a3, b3⟩ := prime_at ((n : Int) + 7)
  have c1 : 0 ≤ c % 1000000007 ∧ c % 1000000007 < 1000000007 := ⟨Int.emod_nonneg _ (by decide), Int.emod_lt_of_pos _ (by decide)⟩
  have c2 : 0 ≤ c % 65537 ∧ c % 65537 < 65537 := ⟨Int.emod_nonneg _ (by decide), Int.emod_lt_of_pos _ (by decide)⟩
  obtain ⟨m, hm⟩ : ∃ m, m = c % 1000000007 := ⟨_, rfl⟩
  obtain ⟨m2, hm2⟩ : ∃ m, m = c % 65537 := ⟨_, rfl⟩
  rw [← hm] at c1
  rw [← hm2] at c2
  have q1 : mulD (.int 2) (.int (n : Int)) = sD (.int (2 * (n : Int))) := mul_ii _ _ (.inl (by decide))
  have q2 : mulD (.int m) (.int (2 * (n : Int) + 69069)) = sD (.int (m * (2 * (n : Int) + 69069))) := mul_ii _ _ (.inl (by omega))
  have q3 : mulD (.int (n : Int)) (.int 40503) = sD (.int ((n : Int) * 40503)) := mul_ii _ _ (.inr (by decide))
  have t1 : 0 ≤ m * (2 * (n : Int) + 69069) ∧ m * (2 * (n : Int) + 69069) ≤ 1000000007 * (2 * 2147483648 + 69069) := ⟨Int.mul_nonneg c1.1 (by omega), Int.mul_le_mul (by omega) (by omega) (by omega) (by omega)⟩
  have q4 : powD (.int (m * (2 * (n : Int) + 69069) + (n : Int) * 40503 + 977)) (.int 3) = sD (.int ((m * (2 * (n : Int) + 69069) + (n : Int) * 40503 + 977) ^ (3 : Int).toNat)) := pow_ii _ _ (by decide) (by decide) (by omega)
  obtain ⟨one, ho⟩ : ∃ one, one = (m * (2 * (n : Int) + 69069) + (n : Int) * 40503 + 977) ^ (3 : Int).toNat % p1 := ⟨_, rfl⟩
  have o1 : 0 ≤ one ∧ one < 2147483648 := by
    rw [ho]
    exact ⟨Int.emod_nonneg _ (by omega), by have := Int.emod_lt_of_pos ((m * (2 * (n : Int) + 69069) + (n : Int) * 40503 + 977) ^ (3 : Int).toNat) a1; omega⟩
  have q5 : modD (.int ((m * (2 * (n : Int) + 69069) + (n : Int) * 40503 + 977) ^ (3 : Int).toNat)) (.int p1) = sD (.int one) := by rw [mod_ii _ _ a1, ho]
  have q6 : mulD (.int one) (.int ((n : Int) + 3)) = sD (.int (one * ((n : Int) + 3))) := mul_ii _ _ (.inl (by omega))
  have t2 : 0 ≤ one * ((n : Int) + 3) ∧ one * ((n : Int) + 3) ≤ 2147483648 * 2147483651 := ⟨Int.mul_nonneg o1.1 (by omega), Int.mul_le_mul (by omega) (by omega) (by omega) (by omega)⟩
  have q7 : powD (.int (one * ((n : Int) + 3) + m2 + 5)) (.int 5) = sD (.int ((one * ((n : Int) + 3) + m2 + 5) ^ (5 : Int).toNat)) := pow_ii _ _ (by decide) (by decide) (by omega)
  obtain ⟨two_, hw⟩ : ∃ two_, two_ = (one * ((n : Int) + 3) + m2 + 5) ^ (5 : Int).toNat % p2 := ⟨_, rfl⟩
  have o2 : 0 ≤ two_ ∧ two_ < 2147483648 := by
    rw [hw]
    exact ⟨Int.emod_nonneg _ (by omega), by have := Int.emod_lt_of_pos ((one * ((n : Int) + 3) + m2 + 5) ^ (5 : Int).toNat) a2; omega⟩
  have q8 : modD (.int ((one * ((n : Int) + 3) + m2 + 5) ^ (5 : Int).toNat)) (.int p2) = sD (.int two_) := by rw [mod_ii _ _ a2, hw]
  have c3 : 0 ≤ one % 1009 ∧ one % 1009 < 1009 := ⟨Int.emod_nonneg _ (by decide), Int.emod_lt_of_pos _ (by decide)⟩
  have q9 : powD (.int (two_ + one % 1009 + (n : Int))) (.int 3) = sD (.int ((two_ + one % 1009 + (n : Int)) ^ (3 : Int).toNat)) := pow_ii _ _ (by decide) (by decide) (by omega)
  obtain ⟨three, ht⟩ : ∃ x, x = (two_ + one % 1009 + (n : Int)) ^ (3 : Int).toNat % p3 := ⟨_, rfl⟩
  have q10 : modD (.int ((two_ + one % 1009 + (n : Int)) ^ (3 : Int).toNat)) (.int p3) = sD (.int three) := by rw [mod_ii _ _ a3, ht]
  have q11 : mulD (.int one) (.int 2147483647) = sD (.int (one * 2147483647)) := mul_ii _ _ (.inr (by decide))
  have q12 : mulD (.int (one * 2147483647 + two_)) (.int 2147483647) = sD (.int ((one * 2147483647 + two_) * 2147483647)) := mul_ii _ _ (.inr (by decide))
  have d1 : modD (.int c) (.int 1000000007) = sD (.int m) := by rw [mod_ii _ _ (by decide), hm]
  have d2 : modD (.int c) (.int 65537) = sD (.int m2) := by rw [mod_ii _ _ (by decide), hm2]
  have d3 : modD (.int (n : Int)) (.int 13) = sD (.int ((n : Int) % 13)) := mod_ii _ _ (by decide)
  have d4 : modD (.int ((n : Int) + 5)) (.int 13) = sD (.int (((n : Int) + 5) % 13)) := mod_ii _ _ (by decide)
  have d5 : modD (.int ((n : Int) + 7)) (.int 13) = sD (.int (((n : Int) + 7) % 13)) := mod_ii _ _ (by decide)
  have d6 : modD (.int one) (.int 1009) = sD (.int (one % 1009)) := mod_ii _ _ (by decide)
  have ap := add_ll [.int 2147483629, .int 2147483587, .int 2147483579, .int 2147483563, .int 2147483549, .int 2147483543, .int 2147483497, .int 2147483489] [.int 2147483477, .int 2147483423, .int 2147483399, .int 2147483353, .int 2147483323] (by decide)
  simp only [List.cons_append, List.nil_append] at ap
  refine ⟨(one * 2147483647 + two_) * 2147483647 + three, fnD_ret rfl ?_⟩
  unfold b__law_spread
  simp only [DL.e_var, DL.e_c, DL.e_bin, DL.e_un, DL.e_anil, DL.e_acons, DL.e_fn, DL.e_if, DL.e_b, DL.e_and, DL.e_or, DL.e_not, DL.e_tv, DL.dNotV, DL.e_andV, DL.e_orV, DL.e_tru, DL.e_tup, DL.e_lst, DL.e_call, DL.e_nil, DL.e_seq, DL.e_ret, DL.e_expr, DL.e_sif, DL.e_asg, DL.e_set, DL.e_gnone, DL.e_gsome, DL.e_unp, DL.e_for, DL.e_seqI, DL.e_any, DL.any_l, DL.any_t, DL.any_s, DL.any_d, DL.e_lc, DL.e_sl, DL.e_oI, DL.e_oN, DL.q_str, DL.q_int, DL.qa_str, DL.qa_int, DL.on1_, DL.on2_, DL.len_l, DL.len_t, DL.len_d, DL.tru_b, DL.tru_l, DL.tru_t, DL.tru_n, DL.kgt_, DL.kin_, DL.it_l, DL.it_t, DL.tup_l, DL.tup_t, DL.list_l, DL.list_t, DL.rev_l, DL.rev_t, DL.md_l, DL.md_t, DL.isi_, DL.ix_0, DL.ix_1, DL.ix_2, DL.ix_3, DL.sl_1, DL.in_t2, DL.in_t3, DL.in_t4, DL.is_none, DL.add_ii, DL.sub_ii, DL.neg_i, DL.lt_ii, DL.le_ii, DL.gt_ii, DL.ge_ii, DL.bd_some, DL.bd_none, DL.ch_true, DL.ch_false, DL.nxt_nx, DL.nxt_rt, DL.nxt_bk, DL.nxt_ct, DL.nxt_none, DL.slR_d, DL.slR_m, DL.sl_s, DL.sl_nw, DL.vw_d, DL.vws_nil, DL.vws_cons, DL.dats_nil, DL.dats_cons, DL.dat_d, DL.rtB_b, DL.beq_t, DL.beq_f, DL.xor_f, DL.xor_t, DL.sD, DL.wipeS, DL.SZ, Nat.reduceLeDiff, Nat.reduceEqDiff, List.length_cons, List.length_nil, List.append_nil, List.nil_append, List.cons_append, List.replicate, List.getElem?_cons_zero, List.getElem?_cons_succ, List.set_cons_zero, List.set_cons_succ, if_true, ite_true, ite_false, Nat.reduceSub, Nat.reduceAdd, Nat.sub_self, List.any_cons, List.any_nil, Bool.or_false, Bool.or_true, Bool.true_or, Bool.false_or, Bool.and_true, Bool.and_false, Bool.true_and, Bool.false_and, Bool.not_true, Bool.not_false, Bool.not_not, decide_true, decide_false, decide_eq_true_eq, List.isEmpty_nil, List.isEmpty_cons, Nat.zero_add, List.map_id, hp, hg, ap, q1, q2, q3, q4, q5, q6, q7, q8, q9, q10, q11, q12, d1, d2, d3, d4, d5, d6, e1, e2, e3]
end PX
end

section
set_option maxRecDepth 100000
set_option maxHeartbeats 1000000
namespace PX
open PySem L2 DL
theorem at_get (xs : List D) (i : Int) (h0 : 0 ≤ i) (h1 : i < (xs.length : Nat)) : ∃ x, x ∈ xs ∧ xs[i.toNat]? = some x ∧ atD xs i = some x := by
  have hl : i.toNat < xs.length := by omega
  refine ⟨xs[i.toNat], List.getElem_mem hl, List.getElem?_eq_getElem hl, ?_⟩
  unfold atD atI ixN
  rw [if_pos h0, if_pos h1]
  exact List.getElem?_eq_getElem hl
theorem ixl_get (xs : List D) (i : Int) (h0 : 0 ≤ i) (h1 : i < (xs.length : Nat)) : ∃ x, x ∈ xs ∧ xs[i.toNat]? = some x ∧ ixA (.list xs) (.int i) = sD x := by
  obtain ⟨x, a, b, c⟩ := at_get xs i h0 h1
  refine ⟨x, a, b, ?_⟩
  show (atD xs i).map _ = _
  rw [c]; rfl
theorem set_same {u : List Ob} {j : Nat} {b : Ob} (h : u[j]? = some b) : u.set j b = u := by
  obtain ⟨hl, e⟩ := List.getElem?_eq_some_iff.mp h
  rw [← e]; exact List.set_getElem_self hl
theorem vw_pen {u : List Ob} {j : Nat} {p : Pen} (h : u[j]? = some ⟨true, p.mo⟩) : (Sl.m j).vw u = some (.list [.list (p.cells.map .int), .int (p.n : Int), .int p.left]) := by
  show (match u[j]? with | some b => b.o.vw | none => none) = _
  rw [h]; rfl
theorem l3_0 (a b c : D) : ixA (.list [a, b, c]) (.int 0) = sD a := rfl
theorem l3_1 (a b c : D) : ixA (.list [a, b, c]) (.int 1) = sD b := rfl
theorem l3_2 (a b c : D) : ixA (.list [a, b, c]) (.int 2) = sD c := rfl
theorem put_pen1 {u : List Ob} {j : Nat} {p : Pen} {ρ : List Sl} {de : DE} {r : Rt} {x : Int} (h : u[j]? = some ⟨true, p.mo⟩) (hρ : ρ[0]? = some (.m j)) (he : de ρ u = some (r, u)) (hr : r.sl = .d (.int x)) (hx : 0 ≤ x) : sPut 0 (dC (.int 1)) de ρ u = some (.nx ρ (u.set j ⟨true, (Pen.mk p.cells x.toNat p.left).mo⟩)) := by
  have q := put_ok (i := 0) (dx := dC (.int 1)) (de := de) (mo := (Pen.mk p.cells x.toNat p.left).mo) he hρ rfl (show r.sl.dat u = some (.int x, u) by rw [hr]; rfl) h (by
    show (match ixN 3 1 with | some j => some (MO.lst ([_, _, _].set j (.int x))) | none => none) = _
    show some (MO.lst [_, .int x, _]) = some (.lst [_, .int ((x.toNat : Nat) : Int), _])
    rw [Int.toNat_of_nonneg hx])
  exact q
theorem put_pen2 {u : List Ob} {j : Nat} {p : Pen} {ρ : List Sl} {de : DE} {r : Rt} {x : Int} (h : u[j]? = some ⟨true, p.mo⟩) (hρ : ρ[0]? = some (.m j)) (he : de ρ u = some (r, u)) (hr : r.sl = .d (.int x)) : sPut 0 (dC (.int 2)) de ρ u = some (.nx ρ (u.set j ⟨true, (Pen.mk p.cells p.n x).mo⟩)) :=
  put_ok (i := 0) (dx := dC (.int 2)) (de := de) (mo := (Pen.mk p.cells p.n x).mo) he hρ rfl (show r.sl.dat u = some (.int x, u) by rw [hr]; rfl) h rfl
theorem at_set {u : List Ob} {j : Nat} {b c : Ob} (h : u[j]? = some b) : (u.set j c)[j]? = some c := List.getElem?_set_self (List.getElem?_eq_some_iff.mp h).1
theorem tail_take {p : Pen} {j : Nat} {u : List Ob} (hu : u[j]? = some ⟨true, p.mo⟩) (many : Int) (h0 : 0 < many) (h1 : many < 2 ^ 63) (x2 x3 x4 : Sl) :
    (sSeq (sAsg (gSet 4) (dBin modD (dBin ixA (dVar 0) (dC (.int 2))) (dVar 1))) (sSeq (sPut 0 (dC (.int 2)) (dBin fdivD (dBin ixA (dVar 0) (dC (.int 2))) (dVar 1))) (sRet (dVar 4)))) [.m j, .d (.int many), x2, x3, x4] u = some (.rt (.s (.d (.int (p.left % many)))) (u.set j ⟨true, (Pen.mk p.cells p.n (p.left / many)).mo⟩)) := by
  have a1 : sAsg (gSet 4) (dBin modD (dBin ixA (dVar 0) (dC (.int 2))) (dVar 1)) [.m j, .d (.int many), x2, x3, x4] u = some (.nx [.m j, .d (.int many), x2, x3, .d (.int (p.left % many))] u) := by
    simp only [DL.e_var, DL.e_c, DL.e_bin, DL.e_un, DL.e_anil, DL.e_acons, DL.e_fn, DL.e_if, DL.e_b, DL.e_and, DL.e_or, DL.e_not, DL.e_tv, DL.dNotV, DL.e_andV, DL.e_orV, DL.e_tru, DL.e_tup, DL.e_lst, DL.e_call, DL.e_nil, DL.e_seq, DL.e_ret, DL.e_expr, DL.e_sif, DL.e_asg, DL.e_set, DL.e_gnone, DL.e_gsome, DL.e_unp, DL.e_for, DL.e_seqI, DL.e_any, DL.any_l, DL.any_t, DL.any_s, DL.any_d, DL.e_lc, DL.e_sl, DL.e_oI, DL.e_oN, DL.q_str, DL.q_int, DL.qa_str, DL.qa_int, DL.on1_, DL.on2_, DL.len_l, DL.len_t, DL.len_d, DL.tru_b, DL.tru_l, DL.tru_t, DL.tru_n, DL.kgt_, DL.kin_, DL.it_l, DL.it_t, DL.tup_l, DL.tup_t, DL.list_l, DL.list_t, DL.rev_l, DL.rev_t, DL.md_l, DL.md_t, DL.isi_, DL.ix_0, DL.ix_1, DL.ix_2, DL.ix_3, DL.sl_1, DL.in_t2, DL.in_t3, DL.in_t4, DL.is_none, DL.add_ii, DL.sub_ii, DL.neg_i, DL.lt_ii, DL.le_ii, DL.gt_ii, DL.ge_ii, DL.bd_some, DL.bd_none, DL.ch_true, DL.ch_false, DL.nxt_nx, DL.nxt_rt, DL.nxt_bk, DL.nxt_ct, DL.nxt_none, DL.slR_d, DL.slR_m, DL.sl_s, DL.sl_nw, DL.vw_d, DL.vws_nil, DL.vws_cons, DL.dats_nil, DL.dats_cons, DL.dat_d, DL.rtB_b, DL.beq_t, DL.beq_f, DL.xor_f, DL.xor_t, DL.sD, DL.wipeS, DL.SZ, Nat.reduceLeDiff, Nat.reduceEqDiff, List.length_cons, List.length_nil, List.append_nil, List.nil_append, List.cons_append, List.replicate, List.getElem?_cons_zero, List.getElem?_cons_succ, List.set_cons_zero, List.set_cons_succ, if_true, ite_true, ite_false, Nat.reduceSub, Nat.reduceAdd, Nat.sub_self, List.any_cons, List.any_nil, Bool.or_false, Bool.or_true, Bool.true_or, Bool.false_or, Bool.and_true, Bool.and_false, Bool.true_and, Bool.false_and, Bool.not_true, Bool.not_false, Bool.not_not, decide_true, decide_false, decide_eq_true_eq, List.isEmpty_nil, List.isEmpty_cons, Nat.zero_add, List.map_id, vw_pen hu, l3_2, mod_ii _ _ h0]
  have a2 := put_pen2 (ρ := [.m j, .d (.int many), x2, x3, .d (.int (p.left % many))]) (de := dBin fdivD (dBin ixA (dVar 0) (dC (.int 2))) (dVar 1)) (r := .s (.d (.int (p.left / many)))) hu rfl (by simp only [DL.e_var, DL.e_c, DL.e_bin, DL.e_un, DL.e_anil, DL.e_acons, DL.e_fn, DL.e_if, DL.e_b, DL.e_and, DL.e_or, DL.e_not, DL.e_tv, DL.dNotV, DL.e_andV, DL.e_orV, DL.e_tru, DL.e_tup, DL.e_lst, DL.e_call, DL.e_nil, DL.e_seq, DL.e_ret, DL.e_expr, DL.e_sif, DL.e_asg, DL.e_set, DL.e_gnone, DL.e_gsome, DL.e_unp, DL.e_for, DL.e_seqI, DL.e_any, DL.any_l, DL.any_t, DL.any_s, DL.any_d, DL.e_lc, DL.e_sl, DL.e_oI, DL.e_oN, DL.q_str, DL.q_int, DL.qa_str, DL.qa_int, DL.on1_, DL.on2_, DL.len_l, DL.len_t, DL.len_d, DL.tru_b, DL.tru_l, DL.tru_t, DL.tru_n, DL.kgt_, DL.kin_, DL.it_l, DL.it_t, DL.tup_l, DL.tup_t, DL.list_l, DL.list_t, DL.rev_l, DL.rev_t, DL.md_l, DL.md_t, DL.isi_, DL.ix_0, DL.ix_1, DL.ix_2, DL.ix_3, DL.sl_1, DL.in_t2, DL.in_t3, DL.in_t4, DL.is_none, DL.add_ii, DL.sub_ii, DL.neg_i, DL.lt_ii, DL.le_ii, DL.gt_ii, DL.ge_ii, DL.bd_some, DL.bd_none, DL.ch_true, DL.ch_false, DL.nxt_nx, DL.nxt_rt, DL.nxt_bk, DL.nxt_ct, DL.nxt_none, DL.slR_d, DL.slR_m, DL.sl_s, DL.sl_nw, DL.vw_d, DL.vws_nil, DL.vws_cons, DL.dats_nil, DL.dats_cons, DL.dat_d, DL.rtB_b, DL.beq_t, DL.beq_f, DL.xor_f, DL.xor_t, DL.sD, DL.wipeS, DL.SZ, Nat.reduceLeDiff, Nat.reduceEqDiff, List.length_cons, List.length_nil, List.append_nil, List.nil_append, List.cons_append, List.replicate, List.getElem?_cons_zero, List.getElem?_cons_succ, List.set_cons_zero, List.set_cons_succ, if_true, ite_true, ite_false, Nat.reduceSub, Nat.reduceAdd, Nat.sub_self, List.any_cons, List.any_nil, Bool.or_false, Bool.or_true, Bool.true_or, Bool.false_or, Bool.and_true, Bool.and_false, Bool.true_and, Bool.false_and, Bool.not_true, Bool.not_false, Bool.not_not, decide_true, decide_false, decide_eq_true_eq, List.isEmpty_nil, List.isEmpty_cons, Nat.zero_add, List.map_id, vw_pen hu, l3_2, fdiv_ii _ _ h0 (by omega)]) rfl
  rw [e_seq, a1, nxt_nx, e_seq, a2, nxt_nx]
  simp only [DL.e_var, DL.e_c, DL.e_bin, DL.e_un, DL.e_anil, DL.e_acons, DL.e_fn, DL.e_if, DL.e_b, DL.e_and, DL.e_or, DL.e_not, DL.e_tv, DL.dNotV, DL.e_andV, DL.e_orV, DL.e_tru, DL.e_tup, DL.e_lst, DL.e_call, DL.e_nil, DL.e_seq, DL.e_ret, DL.e_expr, DL.e_sif, DL.e_asg, DL.e_set, DL.e_gnone, DL.e_gsome, DL.e_unp, DL.e_for, DL.e_seqI, DL.e_any, DL.any_l, DL.any_t, DL.any_s, DL.any_d, DL.e_lc, DL.e_sl, DL.e_oI, DL.e_oN, DL.q_str, DL.q_int, DL.qa_str, DL.qa_int, DL.on1_, DL.on2_, DL.len_l, DL.len_t, DL.len_d, DL.tru_b, DL.tru_l, DL.tru_t, DL.tru_n, DL.kgt_, DL.kin_, DL.it_l, DL.it_t, DL.tup_l, DL.tup_t, DL.list_l, DL.list_t, DL.rev_l, DL.rev_t, DL.md_l, DL.md_t, DL.isi_, DL.ix_0, DL.ix_1, DL.ix_2, DL.ix_3, DL.sl_1, DL.in_t2, DL.in_t3, DL.in_t4, DL.is_none, DL.add_ii, DL.sub_ii, DL.neg_i, DL.lt_ii, DL.le_ii, DL.gt_ii, DL.ge_ii, DL.bd_some, DL.bd_none, DL.ch_true, DL.ch_false, DL.nxt_nx, DL.nxt_rt, DL.nxt_bk, DL.nxt_ct, DL.nxt_none, DL.slR_d, DL.slR_m, DL.sl_s, DL.sl_nw, DL.vw_d, DL.vws_nil, DL.vws_cons, DL.dats_nil, DL.dats_cons, DL.dat_d, DL.rtB_b, DL.beq_t, DL.beq_f, DL.xor_f, DL.xor_t, DL.sD, DL.wipeS, DL.SZ, Nat.reduceLeDiff, Nat.reduceEqDiff, List.length_cons, List.length_nil, List.append_nil, List.nil_append, List.cons_append, List.replicate, List.getElem?_cons_zero, List.getElem?_cons_succ, List.set_cons_zero, List.set_cons_succ, if_true, ite_true, ite_false, Nat.reduceSub, Nat.reduceAdd, Nat.sub_self, List.any_cons, List.any_nil, Bool.or_false, Bool.or_true, Bool.true_or, Bool.false_or, Bool.and_true, Bool.and_false, Bool.true_and, Bool.false_and, Bool.not_true, Bool.not_false, Bool.not_not, decide_true, decide_false, decide_eq_true_eq, List.isEmpty_nil, List.isEmpty_cons, Nat.zero_add, List.map_id]
theorem take_T (p : Pen) (j : Nat) (u : List Ob) (hu : u[j]? = some ⟨true, p.mo⟩) (many : Int) (h0 : 0 < many) (h1 : many < 2 ^ 63) (hn : p.n < 2 ^ 31) :
    ∃ (d : Int) (q : Pen), 0 ≤ d ∧ d < many ∧ q.n ≤ p.n + 1 ∧ F__law_take [.m j, .d (.int many)] u = some (.s (.d (.int d)), u.set j ⟨true, q.mo⟩) := by
  have fin : ∀ (q : Pen) (x2 x3 : Sl), (sIf (dB (dBin ltD (dBin ixA (dVar 0) (dC (.int 2))) (dVar 1))) (sSeq (sAsg (gSet 2) (dBin ixA (dVar 0) (dC (.int 1))))
  (sSeq (sAsg (gSet 3) (dC (.int 0)))
  (sSeq (sIf (dB (dBin ltD (dVar 2) (dFn (on1 lenD) (daCons (dBin ixA (dVar 0) (dC (.int 0))) daNil)))) (sAsg (gSet 3) (dBin ixA (dBin ixA (dVar 0) (dC (.int 0))) (dVar 2))) (sIf (dB (dBin gtD (dFn (on1 lenD) (daCons (dBin ixA (dVar 0) (dC (.int 0))) daNil)) (dC (.int 0)))) (sAsg (gSet 3) (dBin modD (dBin ixA (dBin ixA (dVar 0) (dC (.int 0))) (dBin modD (dBin addD (dBin mulD (dVar 2) (dC (.int 5))) (dC (.int 3))) (dFn (on1 lenD) (daCons (dBin ixA (dVar 0) (dC (.int 0))) daNil)))) (dBin addD (dBin powD (dC (.int 10)) (dC (.int 17))) (dVar 2)))) sNil))
  (sSeq (sPut 0 (dC (.int 1)) (dBin addD (dVar 2) (dC (.int 1))))
  (sPut 0 (dC (.int 2)) (dCall F__law_spread 2 (daCons (dVar 3) (daCons (dVar 2) daNil)))))))) sNil) [.m j, .d (.int many), .un, .un, .un] u = some (.nx [.m j, .d (.int many), x2, x3, .un] (u.set j ⟨true, q.mo⟩)) → q.n ≤ p.n + 1 →
      ∃ (d : Int) (q : Pen), 0 ≤ d ∧ d < many ∧ q.n ≤ p.n + 1 ∧ F__law_take [.m j, .d (.int many)] u = some (.s (.d (.int d)), u.set j ⟨true, q.mo⟩) := by
    intro q x2 x3 e hq
    refine ⟨q.left % many, ⟨q.cells, q.n, q.left / many⟩, Int.emod_nonneg _ (by omega), Int.emod_lt_of_pos _ h0, hq, ?_⟩
    refine fnD_eff (v := []) rfl ?_ (by simp)
    show (sSeq _ _) [.m j, .d (.int many), .un, .un, .un] u = _
    rw [e_seq, show sIf _ _ _ _ _ = _ from e, nxt_nx, show (sSeq _ _) _ _ = _ from tail_take (at_set hu) many h0 h1 x2 x3 .un, List.set_set, List.append_nil]
  by_cases lt : p.left < many
  · have h2 : ltD (.int p.left) (.int many) = sD (.bool true) := by rw [lt_ii, decide_eq_true lt]
    -- the cell
    have cell : ∃ c : Int, (sIf (dB (dBin ltD (dVar 2) (dFn (on1 lenD) (daCons (dBin ixA (dVar 0) (dC (.int 0))) daNil)))) (sAsg (gSet 3) (dBin ixA (dBin ixA (dVar 0) (dC (.int 0))) (dVar 2))) (sIf (dB (dBin gtD (dFn (on1 lenD) (daCons (dBin ixA (dVar 0) (dC (.int 0))) daNil)) (dC (.int 0)))) (sAsg (gSet 3) (dBin modD (dBin ixA (dBin ixA (dVar 0) (dC (.int 0))) (dBin modD (dBin addD (dBin mulD (dVar 2) (dC (.int 5))) (dC (.int 3))) (dFn (on1 lenD) (daCons (dBin ixA (dVar 0) (dC (.int 0))) daNil)))) (dBin addD (dBin powD (dC (.int 10)) (dC (.int 17))) (dVar 2)))) sNil)) [.m j, .d (.int many), .d (.int (p.n : Int)), .d (.int 0), .un] u = some (.nx [.m j, .d (.int many), .d (.int (p.n : Int)), .d (.int c), .un] u) := by
      have ll : (p.cells.map PyData.int).length = p.cells.length := by simp
      by_cases l1 : (p.n : Int) < ((p.cells.map PyData.int).length : Nat)
      · obtain ⟨x, hx, _, ex⟩ := ixl_get (p.cells.map .int) (p.n : Int) (by omega) l1
        obtain ⟨c, _, rfl⟩ := List.mem_map.mp hx
        have l2 : ltD (.int (p.n : Int)) (.int ((p.cells.map PyData.int).length : Nat)) = sD (.bool true) := by rw [lt_ii, decide_eq_true l1]
        exact ⟨c, by simp only [DL.e_var, DL.e_c, DL.e_bin, DL.e_un, DL.e_anil, DL.e_acons, DL.e_fn, DL.e_if, DL.e_b, DL.e_and, DL.e_or, DL.e_not, DL.e_tv, DL.dNotV, DL.e_andV, DL.e_orV, DL.e_tru, DL.e_tup, DL.e_lst, DL.e_call, DL.e_nil, DL.e_seq, DL.e_ret, DL.e_expr, DL.e_sif, DL.e_asg, DL.e_set, DL.e_gnone, DL.e_gsome, DL.e_unp, DL.e_for, DL.e_seqI, DL.e_any, DL.any_l, DL.any_t, DL.any_s, DL.any_d, DL.e_lc, DL.e_sl, DL.e_oI, DL.e_oN, DL.q_str, DL.q_int, DL.qa_str, DL.qa_int, DL.on1_, DL.on2_, DL.len_l, DL.len_t, DL.len_d, DL.tru_b, DL.tru_l, DL.tru_t, DL.tru_n, DL.kgt_, DL.kin_, DL.it_l, DL.it_t, DL.tup_l, DL.tup_t, DL.list_l, DL.list_t, DL.rev_l, DL.rev_t, DL.md_l, DL.md_t, DL.isi_, DL.ix_0, DL.ix_1, DL.ix_2, DL.ix_3, DL.sl_1, DL.in_t2, DL.in_t3, DL.in_t4, DL.is_none, DL.add_ii, DL.sub_ii, DL.neg_i, DL.lt_ii, DL.le_ii, DL.gt_ii, DL.ge_ii, DL.bd_some, DL.bd_none, DL.ch_true, DL.ch_false, DL.nxt_nx, DL.nxt_rt, DL.nxt_bk, DL.nxt_ct, DL.nxt_none, DL.slR_d, DL.slR_m, DL.sl_s, DL.sl_nw, DL.vw_d, DL.vws_nil, DL.vws_cons, DL.dats_nil, DL.dats_cons, DL.dat_d, DL.rtB_b, DL.beq_t, DL.beq_f, DL.xor_f, DL.xor_t, DL.sD, DL.wipeS, DL.SZ, Nat.reduceLeDiff, Nat.reduceEqDiff, List.length_cons, List.length_nil, List.append_nil, List.nil_append, List.cons_append, List.replicate, List.getElem?_cons_zero, List.getElem?_cons_succ, List.set_cons_zero, List.set_cons_succ, if_true, ite_true, ite_false, Nat.reduceSub, Nat.reduceAdd, Nat.sub_self, List.any_cons, List.any_nil, Bool.or_false, Bool.or_true, Bool.true_or, Bool.false_or, Bool.and_true, Bool.and_false, Bool.true_and, Bool.false_and, Bool.not_true, Bool.not_false, Bool.not_not, decide_true, decide_false, decide_eq_true_eq, List.isEmpty_nil, List.isEmpty_cons, Nat.zero_add, List.map_id, vw_pen hu, l3_0, l2, ex]⟩
      · have l2 : ltD (.int (p.n : Int)) (.int ((p.cells.map PyData.int).length : Nat)) = sD (.bool false) := by rw [lt_ii, decide_eq_false l1]
        by_cases l3 : (0 : Int) < ((p.cells.map PyData.int).length : Nat)
        · have l4 : gtD (.int ((p.cells.map PyData.int).length : Nat)) (.int 0) = sD (.bool true) := by rw [gt_ii, decide_eq_true l3]
          have m1 : mulD (.int (p.n : Int)) (.int 5) = sD (.int ((p.n : Int) * 5)) := mul_ii _ _ (.inr (by decide))
          have m2 : modD (.int ((p.n : Int) * 5 + 3)) (.int ((p.cells.map PyData.int).length : Nat)) = sD (.int (((p.n : Int) * 5 + 3) % ((p.cells.map PyData.int).length : Nat))) := mod_ii _ _ l3
          obtain ⟨x, hx, _, ex⟩ := ixl_get (p.cells.map .int) (((p.n : Int) * 5 + 3) % ((p.cells.map PyData.int).length : Nat)) (Int.emod_nonneg _ (by omega)) (Int.emod_lt_of_pos _ l3)
          obtain ⟨c, _, rfl⟩ := List.mem_map.mp hx
          have m3 : powD (.int 10) (.int 17) = sD (.int (10 ^ 17)) := pow_ii 10 17 (by decide) (by decide) (by decide)
          have m4 : modD (.int c) (.int (10 ^ 17 + (p.n : Int))) = sD (.int (c % (10 ^ 17 + (p.n : Int)))) := mod_ii _ _ (by have h17 : (0 : Int) < 10 ^ 17 := (by decide); omega)
          exact ⟨c % (10 ^ 17 + (p.n : Int)), by simp only [DL.e_var, DL.e_c, DL.e_bin, DL.e_un, DL.e_anil, DL.e_acons, DL.e_fn, DL.e_if, DL.e_b, DL.e_and, DL.e_or, DL.e_not, DL.e_tv, DL.dNotV, DL.e_andV, DL.e_orV, DL.e_tru, DL.e_tup, DL.e_lst, DL.e_call, DL.e_nil, DL.e_seq, DL.e_ret, DL.e_expr, DL.e_sif, DL.e_asg, DL.e_set, DL.e_gnone, DL.e_gsome, DL.e_unp, DL.e_for, DL.e_seqI, DL.e_any, DL.any_l, DL.any_t, DL.any_s, DL.any_d, DL.e_lc, DL.e_sl, DL.e_oI, DL.e_oN, DL.q_str, DL.q_int, DL.qa_str, DL.qa_int, DL.on1_, DL.on2_, DL.len_l, DL.len_t, DL.len_d, DL.tru_b, DL.tru_l, DL.tru_t, DL.tru_n, DL.kgt_, DL.kin_, DL.it_l, DL.it_t, DL.tup_l, DL.tup_t, DL.list_l, DL.list_t, DL.rev_l, DL.rev_t, DL.md_l, DL.md_t, DL.isi_, DL.ix_0, DL.ix_1, DL.ix_2, DL.ix_3, DL.sl_1, DL.in_t2, DL.in_t3, DL.in_t4, DL.is_none, DL.add_ii, DL.sub_ii, DL.neg_i, DL.lt_ii, DL.le_ii, DL.gt_ii, DL.ge_ii, DL.bd_some, DL.bd_none, DL.ch_true, DL.ch_false, DL.nxt_nx, DL.nxt_rt, DL.nxt_bk, DL.nxt_ct, DL.nxt_none, DL.slR_d, DL.slR_m, DL.sl_s, DL.sl_nw, DL.vw_d, DL.vws_nil, DL.vws_cons, DL.dats_nil, DL.dats_cons, DL.dat_d, DL.rtB_b, DL.beq_t, DL.beq_f, DL.xor_f, DL.xor_t, DL.sD, DL.wipeS, DL.SZ, Nat.reduceLeDiff, Nat.reduceEqDiff, List.length_cons, List.length_nil, List.append_nil, List.nil_append, List.cons_append, List.replicate, List.getElem?_cons_zero, List.getElem?_cons_succ, List.set_cons_zero, List.set_cons_succ, if_true, ite_true, ite_false, Nat.reduceSub, Nat.reduceAdd, Nat.sub_self, List.any_cons, List.any_nil, Bool.or_false, Bool.or_true, Bool.true_or, Bool.false_or, Bool.and_true, Bool.and_false, Bool.true_and, Bool.false_and, Bool.not_true, Bool.not_false, Bool.not_not, decide_true, decide_false, decide_eq_true_eq, List.isEmpty_nil, List.isEmpty_cons, Nat.zero_add, List.map_id, vw_pen hu, l3_0, l2, l4, m1, m2, ex, m3, m4]⟩
        · have l4 : gtD (.int ((p.cells.map PyData.int).length : Nat)) (.int 0) = sD (.bool false) := by rw [gt_ii, decide_eq_false l3]
          exact ⟨0, by simp only [DL.e_var, DL.e_c, DL.e_bin, DL.e_un, DL.e_anil, DL.e_acons, DL.e_fn, DL.e_if, DL.e_b, DL.e_and, DL.e_or, DL.e_not, DL.e_tv, DL.dNotV, DL.e_andV, DL.e_orV, DL.e_tru, DL.e_tup, DL.e_lst, DL.e_call, DL.e_nil, DL.e_seq, DL.e_ret, DL.e_expr, DL.e_sif, DL.e_asg, DL.e_set, DL.e_gnone, DL.e_gsome, DL.e_unp, DL.e_for, DL.e_seqI, DL.e_any, DL.any_l, DL.any_t, DL.any_s, DL.any_d, DL.e_lc, DL.e_sl, DL.e_oI, DL.e_oN, DL.q_str, DL.q_int, DL.qa_str, DL.qa_int, DL.on1_, DL.on2_, DL.len_l, DL.len_t, DL.len_d, DL.tru_b, DL.tru_l, DL.tru_t, DL.tru_n, DL.kgt_, DL.kin_, DL.it_l, DL.it_t, DL.tup_l, DL.tup_t, DL.list_l, DL.list_t, DL.rev_l, DL.rev_t, DL.md_l, DL.md_t, DL.isi_, DL.ix_0, DL.ix_1, DL.ix_2, DL.ix_3, DL.sl_1, DL.in_t2, DL.in_t3, DL.in_t4, DL.is_none, DL.add_ii, DL.sub_ii, DL.neg_i, DL.lt_ii, DL.le_ii, DL.gt_ii, DL.ge_ii, DL.bd_some, DL.bd_none, DL.ch_true, DL.ch_false, DL.nxt_nx, DL.nxt_rt, DL.nxt_bk, DL.nxt_ct, DL.nxt_none, DL.slR_d, DL.slR_m, DL.sl_s, DL.sl_nw, DL.vw_d, DL.vws_nil, DL.vws_cons, DL.dats_nil, DL.dats_cons, DL.dat_d, DL.rtB_b, DL.beq_t, DL.beq_f, DL.xor_f, DL.xor_t, DL.sD, DL.wipeS, DL.SZ, Nat.reduceLeDiff, Nat.reduceEqDiff, List.length_cons, List.length_nil, List.append_nil, List.nil_append, List.cons_append, List.replicate, List.getElem?_cons_zero, List.getElem?_cons_succ, List.set_cons_zero, List.set_cons_succ, if_true, ite_true, ite_false, Nat.reduceSub, Nat.reduceAdd, Nat.sub_self, List.any_cons, List.any_nil, Bool.or_false, Bool.or_true, Bool.true_or, Bool.false_or, Bool.and_true, Bool.and_false, Bool.true_and, Bool.false_and, Bool.not_true, Bool.not_false, Bool.not_not, decide_true, decide_false, decide_eq_true_eq, List.isEmpty_nil, List.isEmpty_cons, Nat.zero_add, List.map_id, vw_pen hu, l3_0, l2, l4]⟩
    obtain ⟨c, hc⟩ := cell
    have hu1 : (u.set j ⟨true, (Pen.mk p.cells (p.n + 1) p.left).mo⟩)[j]? = some ⟨true, (Pen.mk p.cells (p.n + 1) p.left).mo⟩ := at_set hu
    obtain ⟨v, hv⟩ := spread_T c p.n hn (u.set j ⟨true, (Pen.mk p.cells (p.n + 1) p.left).mo⟩)
    have b1 := put_pen1 (ρ := [.m j, .d (.int many), .d (.int (p.n : Int)), .d (.int c), .un]) (de := dBin addD (dVar 2) (dC (.int 1))) (r := .s (.d (.int ((p.n : Int) + 1)))) hu rfl (by simp only [DL.e_var, DL.e_c, DL.e_bin, DL.e_un, DL.e_anil, DL.e_acons, DL.e_fn, DL.e_if, DL.e_b, DL.e_and, DL.e_or, DL.e_not, DL.e_tv, DL.dNotV, DL.e_andV, DL.e_orV, DL.e_tru, DL.e_tup, DL.e_lst, DL.e_call, DL.e_nil, DL.e_seq, DL.e_ret, DL.e_expr, DL.e_sif, DL.e_asg, DL.e_set, DL.e_gnone, DL.e_gsome, DL.e_unp, DL.e_for, DL.e_seqI, DL.e_any, DL.any_l, DL.any_t, DL.any_s, DL.any_d, DL.e_lc, DL.e_sl, DL.e_oI, DL.e_oN, DL.q_str, DL.q_int, DL.qa_str, DL.qa_int, DL.on1_, DL.on2_, DL.len_l, DL.len_t, DL.len_d, DL.tru_b, DL.tru_l, DL.tru_t, DL.tru_n, DL.kgt_, DL.kin_, DL.it_l, DL.it_t, DL.tup_l, DL.tup_t, DL.list_l, DL.list_t, DL.rev_l, DL.rev_t, DL.md_l, DL.md_t, DL.isi_, DL.ix_0, DL.ix_1, DL.ix_2, DL.ix_3, DL.sl_1, DL.in_t2, DL.in_t3, DL.in_t4, DL.is_none, DL.add_ii, DL.sub_ii, DL.neg_i, DL.lt_ii, DL.le_ii, DL.gt_ii, DL.ge_ii, DL.bd_some, DL.bd_none, DL.ch_true, DL.ch_false, DL.nxt_nx, DL.nxt_rt, DL.nxt_bk, DL.nxt_ct, DL.nxt_none, DL.slR_d, DL.slR_m, DL.sl_s, DL.sl_nw, DL.vw_d, DL.vws_nil, DL.vws_cons, DL.dats_nil, DL.dats_cons, DL.dat_d, DL.rtB_b, DL.beq_t, DL.beq_f, DL.xor_f, DL.xor_t, DL.sD, DL.wipeS, DL.SZ, Nat.reduceLeDiff, Nat.reduceEqDiff, List.length_cons, List.length_nil, List.append_nil, List.nil_append, List.cons_append, List.replicate, List.getElem?_cons_zero, List.getElem?_cons_succ, List.set_cons_zero, List.set_cons_succ, if_true, ite_true, ite_false, Nat.reduceSub, Nat.reduceAdd, Nat.sub_self, List.any_cons, List.any_nil, Bool.or_false, Bool.or_true, Bool.true_or, Bool.false_or, Bool.and_true, Bool.and_false, Bool.true_and, Bool.false_and, Bool.not_true, Bool.not_false, Bool.not_not, decide_true, decide_false, decide_eq_true_eq, List.isEmpty_nil, List.isEmpty_cons, Nat.zero_add, List.map_id]) rfl (by omega)
    rw [show ((p.n : Int) + 1).toNat = p.n + 1 by omega] at b1
    have b2 := put_pen2 (ρ := [.m j, .d (.int many), .d (.int (p.n : Int)), .d (.int c), .un]) (de := dCall F__law_spread 2 (daCons (dVar 3) (daCons (dVar 2) daNil))) (r := .s (.d (.int v))) hu1 rfl (by simp only [DL.e_var, DL.e_c, DL.e_bin, DL.e_un, DL.e_anil, DL.e_acons, DL.e_fn, DL.e_if, DL.e_b, DL.e_and, DL.e_or, DL.e_not, DL.e_tv, DL.dNotV, DL.e_andV, DL.e_orV, DL.e_tru, DL.e_tup, DL.e_lst, DL.e_call, DL.e_nil, DL.e_seq, DL.e_ret, DL.e_expr, DL.e_sif, DL.e_asg, DL.e_set, DL.e_gnone, DL.e_gsome, DL.e_unp, DL.e_for, DL.e_seqI, DL.e_any, DL.any_l, DL.any_t, DL.any_s, DL.any_d, DL.e_lc, DL.e_sl, DL.e_oI, DL.e_oN, DL.q_str, DL.q_int, DL.qa_str, DL.qa_int, DL.on1_, DL.on2_, DL.len_l, DL.len_t, DL.len_d, DL.tru_b, DL.tru_l, DL.tru_t, DL.tru_n, DL.kgt_, DL.kin_, DL.it_l, DL.it_t, DL.tup_l, DL.tup_t, DL.list_l, DL.list_t, DL.rev_l, DL.rev_t, DL.md_l, DL.md_t, DL.isi_, DL.ix_0, DL.ix_1, DL.ix_2, DL.ix_3, DL.sl_1, DL.in_t2, DL.in_t3, DL.in_t4, DL.is_none, DL.add_ii, DL.sub_ii, DL.neg_i, DL.lt_ii, DL.le_ii, DL.gt_ii, DL.ge_ii, DL.bd_some, DL.bd_none, DL.ch_true, DL.ch_false, DL.nxt_nx, DL.nxt_rt, DL.nxt_bk, DL.nxt_ct, DL.nxt_none, DL.slR_d, DL.slR_m, DL.sl_s, DL.sl_nw, DL.vw_d, DL.vws_nil, DL.vws_cons, DL.dats_nil, DL.dats_cons, DL.dat_d, DL.rtB_b, DL.beq_t, DL.beq_f, DL.xor_f, DL.xor_t, DL.sD, DL.wipeS, DL.SZ, Nat.reduceLeDiff, Nat.reduceEqDiff, List.length_cons, List.length_nil, List.append_nil, List.nil_append, List.cons_append, List.replicate, List.getElem?_cons_zero, List.getElem?_cons_succ, List.set_cons_zero, List.set_cons_succ, if_true, ite_true, ite_false, Nat.reduceSub, Nat.reduceAdd, Nat.sub_self, List.any_cons, List.any_nil, Bool.or_false, Bool.or_true, Bool.true_or, Bool.false_or, Bool.and_true, Bool.and_false, Bool.true_and, Bool.false_and, Bool.not_true, Bool.not_false, Bool.not_not, decide_true, decide_false, decide_eq_true_eq, List.isEmpty_nil, List.isEmpty_cons, Nat.zero_add, List.map_id, hv]) rfl
    rw [List.set_set] at b2
    refine fin ⟨p.cells, p.n + 1, v⟩ (.d (.int (p.n : Int))) (.d (.int c)) ?_ (Nat.le_refl _)
    have t1 : dB (dBin ltD (dBin ixA (dVar 0) (dC (.int 2))) (dVar 1)) [.m j, .d (.int many), .un, .un, .un] u = some (true, u) := by simp only [DL.e_var, DL.e_c, DL.e_bin, DL.e_un, DL.e_anil, DL.e_acons, DL.e_fn, DL.e_if, DL.e_b, DL.e_and, DL.e_or, DL.e_not, DL.e_tv, DL.dNotV, DL.e_andV, DL.e_orV, DL.e_tru, DL.e_tup, DL.e_lst, DL.e_call, DL.e_nil, DL.e_seq, DL.e_ret, DL.e_expr, DL.e_sif, DL.e_asg, DL.e_set, DL.e_gnone, DL.e_gsome, DL.e_unp, DL.e_for, DL.e_seqI, DL.e_any, DL.any_l, DL.any_t, DL.any_s, DL.any_d, DL.e_lc, DL.e_sl, DL.e_oI, DL.e_oN, DL.q_str, DL.q_int, DL.qa_str, DL.qa_int, DL.on1_, DL.on2_, DL.len_l, DL.len_t, DL.len_d, DL.tru_b, DL.tru_l, DL.tru_t, DL.tru_n, DL.kgt_, DL.kin_, DL.it_l, DL.it_t, DL.tup_l, DL.tup_t, DL.list_l, DL.list_t, DL.rev_l, DL.rev_t, DL.md_l, DL.md_t, DL.isi_, DL.ix_0, DL.ix_1, DL.ix_2, DL.ix_3, DL.sl_1, DL.in_t2, DL.in_t3, DL.in_t4, DL.is_none, DL.add_ii, DL.sub_ii, DL.neg_i, DL.lt_ii, DL.le_ii, DL.gt_ii, DL.ge_ii, DL.bd_some, DL.bd_none, DL.ch_true, DL.ch_false, DL.nxt_nx, DL.nxt_rt, DL.nxt_bk, DL.nxt_ct, DL.nxt_none, DL.slR_d, DL.slR_m, DL.sl_s, DL.sl_nw, DL.vw_d, DL.vws_nil, DL.vws_cons, DL.dats_nil, DL.dats_cons, DL.dat_d, DL.rtB_b, DL.beq_t, DL.beq_f, DL.xor_f, DL.xor_t, DL.sD, DL.wipeS, DL.SZ, Nat.reduceLeDiff, Nat.reduceEqDiff, List.length_cons, List.length_nil, List.append_nil, List.nil_append, List.cons_append, List.replicate, List.getElem?_cons_zero, List.getElem?_cons_succ, List.set_cons_zero, List.set_cons_succ, if_true, ite_true, ite_false, Nat.reduceSub, Nat.reduceAdd, Nat.sub_self, List.any_cons, List.any_nil, Bool.or_false, Bool.or_true, Bool.true_or, Bool.false_or, Bool.and_true, Bool.and_false, Bool.true_and, Bool.false_and, Bool.not_true, Bool.not_false, Bool.not_not, decide_true, decide_false, decide_eq_true_eq, List.isEmpty_nil, List.isEmpty_cons, Nat.zero_add, List.map_id, vw_pen hu, l3_2, h2]
    have t2 : sAsg (gSet 2) (dBin ixA (dVar 0) (dC (.int 1))) [.m j, .d (.int many), .un, .un, .un] u = some (.nx [.m j, .d (.int many), .d (.int (p.n : Int)), .un, .un] u) := by simp only [DL.e_var, DL.e_c, DL.e_bin, DL.e_un, DL.e_anil, DL.e_acons, DL.e_fn, DL.e_if, DL.e_b, DL.e_and, DL.e_or, DL.e_not, DL.e_tv, DL.dNotV, DL.e_andV, DL.e_orV, DL.e_tru, DL.e_tup, DL.e_lst, DL.e_call, DL.e_nil, DL.e_seq, DL.e_ret, DL.e_expr, DL.e_sif, DL.e_asg, DL.e_set, DL.e_gnone, DL.e_gsome, DL.e_unp, DL.e_for, DL.e_seqI, DL.e_any, DL.any_l, DL.any_t, DL.any_s, DL.any_d, DL.e_lc, DL.e_sl, DL.e_oI, DL.e_oN, DL.q_str, DL.q_int, DL.qa_str, DL.qa_int, DL.on1_, DL.on2_, DL.len_l, DL.len_t, DL.len_d, DL.tru_b, DL.tru_l, DL.tru_t, DL.tru_n, DL.kgt_, DL.kin_, DL.it_l, DL.it_t, DL.tup_l, DL.tup_t, DL.list_l, DL.list_t, DL.rev_l, DL.rev_t, DL.md_l, DL.md_t, DL.isi_, DL.ix_0, DL.ix_1, DL.ix_2, DL.ix_3, DL.sl_1, DL.in_t2, DL.in_t3, DL.in_t4, DL.is_none, DL.add_ii, DL.sub_ii, DL.neg_i, DL.lt_ii, DL.le_ii, DL.gt_ii, DL.ge_ii, DL.bd_some, DL.bd_none, DL.ch_true, DL.ch_false, DL.nxt_nx, DL.nxt_rt, DL.nxt_bk, DL.nxt_ct, DL.nxt_none, DL.slR_d, DL.slR_m, DL.sl_s, DL.sl_nw, DL.vw_d, DL.vws_nil, DL.vws_cons, DL.dats_nil, DL.dats_cons, DL.dat_d, DL.rtB_b, DL.beq_t, DL.beq_f, DL.xor_f, DL.xor_t, DL.sD, DL.wipeS, DL.SZ, Nat.reduceLeDiff, Nat.reduceEqDiff, List.length_cons, List.length_nil, List.append_nil, List.nil_append, List.cons_append, List.replicate, List.getElem?_cons_zero, List.getElem?_cons_succ, List.set_cons_zero, List.set_cons_succ, if_true, ite_true, ite_false, Nat.reduceSub, Nat.reduceAdd, Nat.sub_self, List.any_cons, List.any_nil, Bool.or_false, Bool.or_true, Bool.true_or, Bool.false_or, Bool.and_true, Bool.and_false, Bool.true_and, Bool.false_and, Bool.not_true, Bool.not_false, Bool.not_not, decide_true, decide_false, decide_eq_true_eq, List.isEmpty_nil, List.isEmpty_cons, Nat.zero_add, List.map_id, vw_pen hu, l3_1]
    have t3 : sAsg (gSet 3) (dC (.int 0)) [.m j, .d (.int many), .d (.int (p.n : Int)), .un, .un] u = some (.nx [.m j, .d (.int many), .d (.int (p.n : Int)), .d (.int 0), .un] u) := by simp only [DL.e_var, DL.e_c, DL.e_bin, DL.e_un, DL.e_anil, DL.e_acons, DL.e_fn, DL.e_if, DL.e_b, DL.e_and, DL.e_or, DL.e_not, DL.e_tv, DL.dNotV, DL.e_andV, DL.e_orV, DL.e_tru, DL.e_tup, DL.e_lst, DL.e_call, DL.e_nil, DL.e_seq, DL.e_ret, DL.e_expr, DL.e_sif, DL.e_asg, DL.e_set, DL.e_gnone, DL.e_gsome, DL.e_unp, DL.e_for, DL.e_seqI, DL.e_any, DL.any_l, DL.any_t, DL.any_s, DL.any_d, DL.e_lc, DL.e_sl, DL.e_oI, DL.e_oN, DL.q_str, DL.q_int, DL.qa_str, DL.qa_int, DL.on1_, DL.on2_, DL.len_l, DL.len_t, DL.len_d, DL.tru_b, DL.tru_l, DL.tru_t, DL.tru_n, DL.kgt_, DL.kin_, DL.it_l, DL.it_t, DL.tup_l, DL.tup_t, DL.list_l, DL.list_t, DL.rev_l, DL.rev_t, DL.md_l, DL.md_t, DL.isi_, DL.ix_0, DL.ix_1, DL.ix_2, DL.ix_3, DL.sl_1, DL.in_t2, DL.in_t3, DL.in_t4, DL.is_none, DL.add_ii, DL.sub_ii, DL.neg_i, DL.lt_ii, DL.le_ii, DL.gt_ii, DL.ge_ii, DL.bd_some, DL.bd_none, DL.ch_true, DL.ch_false, DL.nxt_nx, DL.nxt_rt, DL.nxt_bk, DL.nxt_ct, DL.nxt_none, DL.slR_d, DL.slR_m, DL.sl_s, DL.sl_nw, DL.vw_d, DL.vws_nil, DL.vws_cons, DL.dats_nil, DL.dats_cons, DL.dat_d, DL.rtB_b, DL.beq_t, DL.beq_f, DL.xor_f, DL.xor_t, DL.sD, DL.wipeS, DL.SZ, Nat.reduceLeDiff, Nat.reduceEqDiff, List.length_cons, List.length_nil, List.append_nil, List.nil_append, List.cons_append, List.replicate, List.getElem?_cons_zero, List.getElem?_cons_succ, List.set_cons_zero, List.set_cons_succ, if_true, ite_true, ite_false, Nat.reduceSub, Nat.reduceAdd, Nat.sub_self, List.any_cons, List.any_nil, Bool.or_false, Bool.or_true, Bool.true_or, Bool.false_or, Bool.and_true, Bool.and_false, Bool.true_and, Bool.false_and, Bool.not_true, Bool.not_false, Bool.not_not, decide_true, decide_false, decide_eq_true_eq, List.isEmpty_nil, List.isEmpty_cons, Nat.zero_add, List.map_id]
    rw [e_sif, t1, bd_some, ch_true, e_seq, t2, nxt_nx, e_seq, t3, nxt_nx, e_seq, hc, nxt_nx, e_seq, b1, nxt_nx, b2]
  · have h2 : ltD (.int p.left) (.int many) = sD (.bool false) := by rw [lt_ii, decide_eq_false lt]
    have t1 : dB (dBin ltD (dBin ixA (dVar 0) (dC (.int 2))) (dVar 1)) [.m j, .d (.int many), .un, .un, .un] u = some (false, u) := by simp only [DL.e_var, DL.e_c, DL.e_bin, DL.e_un, DL.e_anil, DL.e_acons, DL.e_fn, DL.e_if, DL.e_b, DL.e_and, DL.e_or, DL.e_not, DL.e_tv, DL.dNotV, DL.e_andV, DL.e_orV, DL.e_tru, DL.e_tup, DL.e_lst, DL.e_call, DL.e_nil, DL.e_seq, DL.e_ret, DL.e_expr, DL.e_sif, DL.e_asg, DL.e_set, DL.e_gnone, DL.e_gsome, DL.e_unp, DL.e_for, DL.e_seqI, DL.e_any, DL.any_l, DL.any_t, DL.any_s, DL.any_d, DL.e_lc, DL.e_sl, DL.e_oI, DL.e_oN, DL.q_str, DL.q_int, DL.qa_str, DL.qa_int, DL.on1_, DL.on2_, DL.len_l, DL.len_t, DL.len_d, DL.tru_b, DL.tru_l, DL.tru_t, DL.tru_n, DL.kgt_, DL.kin_, DL.it_l, DL.it_t, DL.tup_l, DL.tup_t, DL.list_l, DL.list_t, DL.rev_l, DL.rev_t, DL.md_l, DL.md_t, DL.isi_, DL.ix_0, DL.ix_1, DL.ix_2, DL.ix_3, DL.sl_1, DL.in_t2, DL.in_t3, DL.in_t4, DL.is_none, DL.add_ii, DL.sub_ii, DL.neg_i, DL.lt_ii, DL.le_ii, DL.gt_ii, DL.ge_ii, DL.bd_some, DL.bd_none, DL.ch_true, DL.ch_false, DL.nxt_nx, DL.nxt_rt, DL.nxt_bk, DL.nxt_ct, DL.nxt_none, DL.slR_d, DL.slR_m, DL.sl_s, DL.sl_nw, DL.vw_d, DL.vws_nil, DL.vws_cons, DL.dats_nil, DL.dats_cons, DL.dat_d, DL.rtB_b, DL.beq_t, DL.beq_f, DL.xor_f, DL.xor_t, DL.sD, DL.wipeS, DL.SZ, Nat.reduceLeDiff, Nat.reduceEqDiff, List.length_cons, List.length_nil, List.append_nil, List.nil_append, List.cons_append, List.replicate, List.getElem?_cons_zero, List.getElem?_cons_succ, List.set_cons_zero, List.set_cons_succ, if_true, ite_true, ite_false, Nat.reduceSub, Nat.reduceAdd, Nat.sub_self, List.any_cons, List.any_nil, Bool.or_false, Bool.or_true, Bool.true_or, Bool.false_or, Bool.and_true, Bool.and_false, Bool.true_and, Bool.false_and, Bool.not_true, Bool.not_false, Bool.not_not, decide_true, decide_false, decide_eq_true_eq, List.isEmpty_nil, List.isEmpty_cons, Nat.zero_add, List.map_id, vw_pen hu, l3_2, h2]
    refine fin p .un .un ?_ (Nat.le_succ _)
    rw [e_sif, t1, bd_some, ch_false, e_nil, set_same hu]
end PX
end

section
set_option maxRecDepth 100000
set_option maxHeartbeats 1000000
namespace PX
open PySem L2 DL
def penAt (u : List Ob) (j : Nat) (p : Pen) : Prop := u[j]? = some ⟨true, p.mo⟩
theorem penAt.lt {u : List Ob} {j : Nat} {p : Pen} (h : penAt u j p) : j < u.length := (List.getElem?_eq_some_iff.mp h).1
theorem penAt.set {u : List Ob} {j : Nat} {p : Pen} (h : penAt u j p) (q : Pen) : penAt (u.set j ⟨true, q.mo⟩) j q := at_set h
theorem penAt.app {u : List Ob} {j : Nat} {p : Pen} (h : penAt u j p) (v : List Ob) : penAt (u ++ v) j p := by
  show (u ++ v)[j]? = _
  rw [List.getElem?_append_left h.lt]; exact h
theorem open_T (ns : List Int) (u : List Ob) : ∃ cells : List Int, F__law_open [.d (.list (ns.map .int))] u = some (.nw (Pen.mk cells 0 0).mo, u) := by
  -- each further cell is added to one of the twelve
  have run : ∀ (l : List Int) (k : Nat) (cs : List Int) (x2 x3 : Sl) (s : D), cs.length = 12 →
      ∃ (cs' : List Int) (y2 y3 : Sl), Runs (gUnp 2 (gSome (gSet 2) (gSome (gSet 3) gNone))) (sPut 1 (dBin modD (dVar 2) (dC (.int 12))) (dBin addD (dBin ixA (dVar 1) (dBin modD (dVar 2) (dC (.int 12)))) (dVar 3))) (enumItems k (l.map .int)) [.d s, .m u.length, x2, x3] (pile u (cs.map .int)) [.d s, .m u.length, y2, y3] (pile u (cs'.map .int)) ∧ cs'.length = 12 := by
    intro l
    induction l with
    | nil => intro k cs x2 x3 s h; exact ⟨cs, x2, x3, .nil, h⟩
    | cons c r ih =>
      intro k cs x2 x3 s h
      have m : modD (.int (k : Int)) (.int 12) = sD (.int ((k : Int) % 12)) := mod_ii _ _ (by decide)
      have i0 : 0 ≤ (k : Int) % 12 := Int.emod_nonneg _ (by decide)
      have i1 : (k : Int) % 12 < 12 := Int.emod_lt_of_pos _ (by decide)
      obtain ⟨x, hx, _, ex⟩ := ixl_get (cs.map .int) ((k : Int) % 12) i0 (by rw [List.length_map, h]; exact i1)
      obtain ⟨d, _, rfl⟩ := List.mem_map.mp hx
      have vw : (Sl.m u.length).vw (pile u (cs.map .int)) = some (.list (cs.map .int)) := by
        show (match (pile u (cs.map PyData.int))[u.length]? with | some b => b.o.vw | none => none) = _
        rw [pile_at]; rfl
      have pt := put_ok (i := 1) (j := u.length) (dx := dBin modD (dVar 2) (dC (.int 12))) (de := dBin addD (dBin ixA (dVar 1) (dBin modD (dVar 2) (dC (.int 12)))) (dVar 3)) (ρ := [.d s, .m u.length, .d (.int (k : Int)), .d (.int c)]) (u := pile u (cs.map .int)) (u1 := pile u (cs.map .int)) (u2 := pile u (cs.map .int)) (u3 := pile u (cs.map .int)) (r := .s (.d (.int (d + c)))) (ri := .s (.d (.int ((k : Int) % 12)))) (x := .int (d + c)) (m := .lst (cs.map .int)) (mo := .lst ((cs.set ((k : Int) % 12).toNat (d + c)).map .int))
        (by simp only [DL.e_var, DL.e_c, DL.e_bin, DL.e_un, DL.e_anil, DL.e_acons, DL.e_fn, DL.e_if, DL.e_b, DL.e_and, DL.e_or, DL.e_not, DL.e_tv, DL.dNotV, DL.e_andV, DL.e_orV, DL.e_tru, DL.e_tup, DL.e_lst, DL.e_call, DL.e_nil, DL.e_seq, DL.e_ret, DL.e_expr, DL.e_sif, DL.e_asg, DL.e_set, DL.e_gnone, DL.e_gsome, DL.e_unp, DL.e_for, DL.e_seqI, DL.e_any, DL.any_l, DL.any_t, DL.any_s, DL.any_d, DL.e_lc, DL.e_sl, DL.e_oI, DL.e_oN, DL.q_str, DL.q_int, DL.qa_str, DL.qa_int, DL.on1_, DL.on2_, DL.len_l, DL.len_t, DL.len_d, DL.tru_b, DL.tru_l, DL.tru_t, DL.tru_n, DL.kgt_, DL.kin_, DL.it_l, DL.it_t, DL.tup_l, DL.tup_t, DL.list_l, DL.list_t, DL.rev_l, DL.rev_t, DL.md_l, DL.md_t, DL.isi_, DL.ix_0, DL.ix_1, DL.ix_2, DL.ix_3, DL.sl_1, DL.in_t2, DL.in_t3, DL.in_t4, DL.is_none, DL.add_ii, DL.sub_ii, DL.neg_i, DL.lt_ii, DL.le_ii, DL.gt_ii, DL.ge_ii, DL.bd_some, DL.bd_none, DL.ch_true, DL.ch_false, DL.nxt_nx, DL.nxt_rt, DL.nxt_bk, DL.nxt_ct, DL.nxt_none, DL.slR_d, DL.slR_m, DL.sl_s, DL.sl_nw, DL.vw_d, DL.vws_nil, DL.vws_cons, DL.dats_nil, DL.dats_cons, DL.dat_d, DL.rtB_b, DL.beq_t, DL.beq_f, DL.xor_f, DL.xor_t, DL.sD, DL.wipeS, DL.SZ, Nat.reduceLeDiff, Nat.reduceEqDiff, List.length_cons, List.length_nil, List.append_nil, List.nil_append, List.cons_append, List.replicate, List.getElem?_cons_zero, List.getElem?_cons_succ, List.set_cons_zero, List.set_cons_succ, if_true, ite_true, ite_false, Nat.reduceSub, Nat.reduceAdd, Nat.sub_self, List.any_cons, List.any_nil, Bool.or_false, Bool.or_true, Bool.true_or, Bool.false_or, Bool.and_true, Bool.and_false, Bool.true_and, Bool.false_and, Bool.not_true, Bool.not_false, Bool.not_not, decide_true, decide_false, decide_eq_true_eq, List.isEmpty_nil, List.isEmpty_cons, Nat.zero_add, List.map_id, vw, m, ex]) rfl (by simp only [DL.e_var, DL.e_c, DL.e_bin, DL.e_un, DL.e_anil, DL.e_acons, DL.e_fn, DL.e_if, DL.e_b, DL.e_and, DL.e_or, DL.e_not, DL.e_tv, DL.dNotV, DL.e_andV, DL.e_orV, DL.e_tru, DL.e_tup, DL.e_lst, DL.e_call, DL.e_nil, DL.e_seq, DL.e_ret, DL.e_expr, DL.e_sif, DL.e_asg, DL.e_set, DL.e_gnone, DL.e_gsome, DL.e_unp, DL.e_for, DL.e_seqI, DL.e_any, DL.any_l, DL.any_t, DL.any_s, DL.any_d, DL.e_lc, DL.e_sl, DL.e_oI, DL.e_oN, DL.q_str, DL.q_int, DL.qa_str, DL.qa_int, DL.on1_, DL.on2_, DL.len_l, DL.len_t, DL.len_d, DL.tru_b, DL.tru_l, DL.tru_t, DL.tru_n, DL.kgt_, DL.kin_, DL.it_l, DL.it_t, DL.tup_l, DL.tup_t, DL.list_l, DL.list_t, DL.rev_l, DL.rev_t, DL.md_l, DL.md_t, DL.isi_, DL.ix_0, DL.ix_1, DL.ix_2, DL.ix_3, DL.sl_1, DL.in_t2, DL.in_t3, DL.in_t4, DL.is_none, DL.add_ii, DL.sub_ii, DL.neg_i, DL.lt_ii, DL.le_ii, DL.gt_ii, DL.ge_ii, DL.bd_some, DL.bd_none, DL.ch_true, DL.ch_false, DL.nxt_nx, DL.nxt_rt, DL.nxt_bk, DL.nxt_ct, DL.nxt_none, DL.slR_d, DL.slR_m, DL.sl_s, DL.sl_nw, DL.vw_d, DL.vws_nil, DL.vws_cons, DL.dats_nil, DL.dats_cons, DL.dat_d, DL.rtB_b, DL.beq_t, DL.beq_f, DL.xor_f, DL.xor_t, DL.sD, DL.wipeS, DL.SZ, Nat.reduceLeDiff, Nat.reduceEqDiff, List.length_cons, List.length_nil, List.append_nil, List.nil_append, List.cons_append, List.replicate, List.getElem?_cons_zero, List.getElem?_cons_succ, List.set_cons_zero, List.set_cons_succ, if_true, ite_true, ite_false, Nat.reduceSub, Nat.reduceAdd, Nat.sub_self, List.any_cons, List.any_nil, Bool.or_false, Bool.or_true, Bool.true_or, Bool.false_or, Bool.and_true, Bool.and_false, Bool.true_and, Bool.false_and, Bool.not_true, Bool.not_false, Bool.not_not, decide_true, decide_false, decide_eq_true_eq, List.isEmpty_nil, List.isEmpty_cons, Nat.zero_add, List.map_id, m]) rfl (pile_at ..) (by
        show (match ixN (cs.map PyData.int).length ((k : Int) % 12) with | some j => some (MO.lst ((cs.map PyData.int).set j (.int (d + c)))) | none => none) = _
        have : ixN (cs.map PyData.int).length ((k : Int) % 12) = some ((k : Int) % 12).toNat := by
          unfold ixN
          rw [if_pos i0, if_pos (by rw [List.length_map, h]; exact i1)]
        rw [this, List.map_set])
      rw [pile_set] at pt
      obtain ⟨cs', y2, y3, g1, g2⟩ := ih (k + 1) (cs.set ((k : Int) % 12).toNat (d + c)) (.d (.int (k : Int))) (.d (.int c)) s (by rw [List.length_set]; exact h)
      exact ⟨cs', y2, y3, .cons rfl pt g1, g2⟩
  have c1 : slD (.list (ns.map .int)) none (some 12) = some (.nw (.lst ((cutL ns none (some 12)).map .int))) := by
    show some (Rt.nw (.lst (cutL (ns.map PyData.int) none (some 12)))) = _
    unfold cutL
    rw [List.length_map, List.map_take, List.map_drop]
  have c2 : slD (.list (ns.map .int)) (some 12) (some 63) = some (.nw (.lst ((cutL ns (some 12) (some 63)).map .int))) := by
    show some (Rt.nw (.lst (cutL (ns.map PyData.int) (some 12) (some 63)))) = _
    unfold cutL
    rw [List.length_map, List.map_take, List.map_drop]
  have o1 : sOwn 1 (dFn (on1 listD) (daCons (dSl slD (dVar 0) oN (oI (dC (.int 12)))) daNil)) [.d (.list (ns.map .int)), .un, .un, .un] u = some (.nx [.d (.list (ns.map .int)), .m u.length, .un, .un] (pile u ((cutL ns none (some 12)).map .int))) := e_own 1 _ (by simp only [DL.e_var, DL.e_c, DL.e_bin, DL.e_un, DL.e_anil, DL.e_acons, DL.e_fn, DL.e_if, DL.e_b, DL.e_and, DL.e_or, DL.e_not, DL.e_tv, DL.dNotV, DL.e_andV, DL.e_orV, DL.e_tru, DL.e_tup, DL.e_lst, DL.e_call, DL.e_nil, DL.e_seq, DL.e_ret, DL.e_expr, DL.e_sif, DL.e_asg, DL.e_set, DL.e_gnone, DL.e_gsome, DL.e_unp, DL.e_for, DL.e_seqI, DL.e_any, DL.any_l, DL.any_t, DL.any_s, DL.any_d, DL.e_lc, DL.e_sl, DL.e_oI, DL.e_oN, DL.q_str, DL.q_int, DL.qa_str, DL.qa_int, DL.on1_, DL.on2_, DL.len_l, DL.len_t, DL.len_d, DL.tru_b, DL.tru_l, DL.tru_t, DL.tru_n, DL.kgt_, DL.kin_, DL.it_l, DL.it_t, DL.tup_l, DL.tup_t, DL.list_l, DL.list_t, DL.rev_l, DL.rev_t, DL.md_l, DL.md_t, DL.isi_, DL.ix_0, DL.ix_1, DL.ix_2, DL.ix_3, DL.sl_1, DL.in_t2, DL.in_t3, DL.in_t4, DL.is_none, DL.add_ii, DL.sub_ii, DL.neg_i, DL.lt_ii, DL.le_ii, DL.gt_ii, DL.ge_ii, DL.bd_some, DL.bd_none, DL.ch_true, DL.ch_false, DL.nxt_nx, DL.nxt_rt, DL.nxt_bk, DL.nxt_ct, DL.nxt_none, DL.slR_d, DL.slR_m, DL.sl_s, DL.sl_nw, DL.vw_d, DL.vws_nil, DL.vws_cons, DL.dats_nil, DL.dats_cons, DL.dat_d, DL.rtB_b, DL.beq_t, DL.beq_f, DL.xor_f, DL.xor_t, DL.sD, DL.wipeS, DL.SZ, Nat.reduceLeDiff, Nat.reduceEqDiff, List.length_cons, List.length_nil, List.append_nil, List.nil_append, List.cons_append, List.replicate, List.getElem?_cons_zero, List.getElem?_cons_succ, List.set_cons_zero, List.set_cons_succ, if_true, ite_true, ite_false, Nat.reduceSub, Nat.reduceAdd, Nat.sub_self, List.any_cons, List.any_nil, Bool.or_false, Bool.or_true, Bool.true_or, Bool.false_or, Bool.and_true, Bool.and_false, Bool.true_and, Bool.false_and, Bool.not_true, Bool.not_false, Bool.not_not, decide_true, decide_false, decide_eq_true_eq, List.isEmpty_nil, List.isEmpty_cons, Nat.zero_add, List.map_id, c1])
  have fin : ∀ (cs : List Int) (y2 y3 : Sl), sFor (diEnum (dSl slD (dVar 0) (oI (dC (.int 12))) (oI (dC (.int 63))))) (gUnp 2 (gSome (gSet 2) (gSome (gSet 3) gNone))) (sPut 1 (dBin modD (dVar 2) (dC (.int 12))) (dBin addD (dBin ixA (dVar 1) (dBin modD (dVar 2) (dC (.int 12)))) (dVar 3))) [.d (.list (ns.map .int)), .m u.length, .un, .un] (pile u ((cutL ns none (some 12)).map .int)) = some (.nx [.d (.list (ns.map .int)), .m u.length, y2, y3] (pile u (cs.map .int))) →
      ∃ cells : List Int, F__law_open [.d (.list (ns.map .int))] u = some (.nw (Pen.mk cells 0 0).mo, u) := by
    intro cs y2 y3 e
    refine ⟨cs, ?_⟩
    have last : dLst (daCons (dVar 1) (daCons (dC (.int 0)) (daCons (dC (.int 0)) daNil))) [.d (.list (ns.map .int)), .m u.length, y2, y3] (pile u (cs.map .int)) = some (.nw (Pen.mk cs 0 0).mo, u ++ [⟨false, .lst (cs.map .int)⟩]) := by
      have dt : (Sl.m u.length).dat (pile u (cs.map .int)) = some (.list (cs.map .int), u ++ [⟨false, .lst (cs.map .int)⟩]) := by
        show (match (pile u (cs.map PyData.int))[u.length]? with | some b => some (b.o.toD, (pile u (cs.map PyData.int)).set u.length ⟨false, b.o⟩) | none => none) = _
        rw [pile_at]
        show some (_, (u ++ [_]).set u.length _) = _
        rw [List.set_append_right _ _ (Nat.le_refl _)]
        simp [MO.toD]
      simp only [e_lst, e_acons, e_anil, e_var, e_c, List.getElem?_cons_zero, List.getElem?_cons_succ, slR_m, bd_some, sl_s, dats_cons, dats_nil, dt, dat_d]
      rfl
    refine fnD_new (v := [⟨false, .lst (cs.map .int)⟩]) rfl ?_
    show (sSeq _ _) [.d (.list (ns.map .int)), .un, .un, .un] u = _
    rw [e_seq, o1, nxt_nx, e_seq, e, nxt_nx, e_ret, show dLst _ _ _ = _ from last, bd_some]
  have it : diEnum (dSl slD (dVar 0) (oI (dC (.int 12))) (oI (dC (.int 63)))) [.d (.list (ns.map .int)), .m u.length, .un, .un] (pile u ((cutL ns none (some 12)).map .int)) = some ((enumItems 0 ((cutL ns (some 12) (some 63)).map .int), none), pile u ((cutL ns none (some 12)).map .int)) := by
    have : dSl slD (dVar 0) (oI (dC (.int 12))) (oI (dC (.int 63))) [.d (.list (ns.map .int)), .m u.length, .un, .un] (pile u ((cutL ns none (some 12)).map .int)) = some (.nw (.lst ((cutL ns (some 12) (some 63)).map .int)), pile u ((cutL ns none (some 12)).map .int)) := by simp only [DL.e_var, DL.e_c, DL.e_bin, DL.e_un, DL.e_anil, DL.e_acons, DL.e_fn, DL.e_if, DL.e_b, DL.e_and, DL.e_or, DL.e_not, DL.e_tv, DL.dNotV, DL.e_andV, DL.e_orV, DL.e_tru, DL.e_tup, DL.e_lst, DL.e_call, DL.e_nil, DL.e_seq, DL.e_ret, DL.e_expr, DL.e_sif, DL.e_asg, DL.e_set, DL.e_gnone, DL.e_gsome, DL.e_unp, DL.e_for, DL.e_seqI, DL.e_any, DL.any_l, DL.any_t, DL.any_s, DL.any_d, DL.e_lc, DL.e_sl, DL.e_oI, DL.e_oN, DL.q_str, DL.q_int, DL.qa_str, DL.qa_int, DL.on1_, DL.on2_, DL.len_l, DL.len_t, DL.len_d, DL.tru_b, DL.tru_l, DL.tru_t, DL.tru_n, DL.kgt_, DL.kin_, DL.it_l, DL.it_t, DL.tup_l, DL.tup_t, DL.list_l, DL.list_t, DL.rev_l, DL.rev_t, DL.md_l, DL.md_t, DL.isi_, DL.ix_0, DL.ix_1, DL.ix_2, DL.ix_3, DL.sl_1, DL.in_t2, DL.in_t3, DL.in_t4, DL.is_none, DL.add_ii, DL.sub_ii, DL.neg_i, DL.lt_ii, DL.le_ii, DL.gt_ii, DL.ge_ii, DL.bd_some, DL.bd_none, DL.ch_true, DL.ch_false, DL.nxt_nx, DL.nxt_rt, DL.nxt_bk, DL.nxt_ct, DL.nxt_none, DL.slR_d, DL.slR_m, DL.sl_s, DL.sl_nw, DL.vw_d, DL.vws_nil, DL.vws_cons, DL.dats_nil, DL.dats_cons, DL.dat_d, DL.rtB_b, DL.beq_t, DL.beq_f, DL.xor_f, DL.xor_t, DL.sD, DL.wipeS, DL.SZ, Nat.reduceLeDiff, Nat.reduceEqDiff, List.length_cons, List.length_nil, List.append_nil, List.nil_append, List.cons_append, List.replicate, List.getElem?_cons_zero, List.getElem?_cons_succ, List.set_cons_zero, List.set_cons_succ, if_true, ite_true, ite_false, Nat.reduceSub, Nat.reduceAdd, Nat.sub_self, List.any_cons, List.any_nil, Bool.or_false, Bool.or_true, Bool.true_or, Bool.false_or, Bool.and_true, Bool.and_false, Bool.true_and, Bool.false_and, Bool.not_true, Bool.not_false, Bool.not_not, decide_true, decide_false, decide_eq_true_eq, List.isEmpty_nil, List.isEmpty_cons, Nat.zero_add, List.map_id, c2]
    unfold diEnum
    rw [this]
    rfl
  by_cases long : 12 ≤ ns.length
  · have l12 : (cutL ns none (some 12)).length = 12 := by
      unfold cutL
      simp [HT.sIx]
      omega
    obtain ⟨cs, y2, y3, g1, g2⟩ := run (cutL ns (some 12) (some 63)) 0 (cutL ns none (some 12)) .un .un (.list (ns.map .int)) l12
    exact fin cs y2 y3 (by rw [e_for, it, bd_some]; exact g1.for_)
  · have emp : cutL ns (some 12) (some 63) = [] := by
      unfold cutL
      simp [HT.sIx]
      omega
    rw [emp] at it
    exact fin (cutL ns none (some 12)) .un .un (by rw [e_for, it, bd_some]; exact for_nil)
end PX
end

section
set_option maxRecDepth 100000
set_option maxHeartbeats 1000000
/-! figures by two, dealt to holders -/
namespace PX
open PySem L2 DL
/-- figures by two, the last one first -/
def bits (n : Nat) : List Nat := if h : n = 0 then [] else n % 2 :: bits (n / 2)
termination_by n
decreasing_by omega
theorem bits_0 : bits 0 = [] := by unfold bits; rw [dif_pos rfl]
theorem bits_pos {n : Nat} (h : 0 < n) : bits n = n % 2 :: bits (n / 2) := by
  conv => lhs; unfold bits
  rw [dif_neg (by omega)]
theorem bits_lt (n : Nat) : ∀ b ∈ bits n, b < 2 := by
  induction n using Nat.strongRecOn with
  | _ n ih =>
    by_cases h : n = 0
    · subst h; rw [bits_0]; intro b hb; cases hb
    · rw [bits_pos (by omega)]
      intro b hb
      rcases List.mem_cons.mp hb with rfl | hb
      · omega
      · exact ih _ (by omega) b hb
/-- what a holder has whose first figure is the r-th from here -/
def pickR (v : Nat → Nat) (m : Nat) : Nat → List Nat → Nat
  | _, [] => 0
  | 0, c :: l => pickR v m (m - 1) l * 2 + v c
  | r + 1, c :: l => pickR v m r l
theorem pick_drop (v : Nat → Nat) (m : Nat) : ∀ (r : Nat) (l : List Nat), pickR v m r l = pickR v m 0 (l.drop r)
  | 0, l => by rw [List.drop_zero]
  | r + 1, [] => rfl
  | r + 1, c :: l => by rw [List.drop_succ_cons, ← pick_drop v m r l]; rfl
theorem every_pick (v : Nat → Nat) {m : Nat} : ∀ (n : Nat) (l : List Nat), l.length ≤ n → (everyL m n l).foldr (fun c a => a * 2 + v c) 0 = pickR v m 0 l
  | 0, l, h => by
    have : l = [] := List.length_eq_zero_iff.mp (by omega)
    subst this; rfl
  | n + 1, [], _ => rfl
  | n + 1, c :: l, h => by
    show (c :: everyL m n (l.drop (m - 1))).foldr _ 0 = pickR v m (m - 1) l * 2 + v c
    rw [List.foldr_cons, every_pick v n _ (by rw [List.length_drop]; simp at h; omega), ← pick_drop]
theorem pick_map (v w f : Nat → Nat) (m : Nat) (h : ∀ c, v (f c) = w c) : ∀ (r : Nat) (l : List Nat), pickR v m r (l.map f) = pickR w m r l
  | _, [] => by cases ‹Nat› <;> rfl
  | 0, c :: l => by
    show pickR v m (m - 1) (l.map f) * 2 + v (f c) = pickR w m (m - 1) l * 2 + w c
    rw [pick_map v w f m h _ l, h]
  | r + 1, c :: l => pick_map v w f m h r l
theorem pick_zero (v : Nat → Nat) (m : Nat) (c : Nat) (hv : v c = 0) : ∀ r : Nat, pickR v m r [c] = 0
  | 0 => by
    show pickR v m (m - 1) [] * 2 + v c = 0
    rw [hv]
    cases m - 1 <;> rfl
  | r + 1 => by
    show pickR v m r [] = 0
    cases r <;> rfl
/-- one by one, from the last place down -/
theorem law_pick {m h : Nat} (hm : h < m) : ∀ (l : List Nat) (o r : Nat), r < m → (o + r) % m = h →
    (List.range l.length).foldr (fun p a => if (o + p) % m = h then a * 2 + l.getD p 0 else a) 0 = pickR id m r l
  | [], o, r, _, _ => by cases r <;> rfl
  | c :: l, o, r, hr, e => by
    rw [List.length_cons, List.range_succ_eq_map, List.foldr_cons, List.foldr_map]
    have ih : ∀ r' : Nat, r' < m → (o + 1 + r') % m = h → (List.range l.length).foldr (fun p a => if (o + (p + 1)) % m = h then a * 2 + (c :: l).getD (p + 1) 0 else a) 0 = pickR id m r' l := by
      intro r' a b
      rw [← law_pick hm l (o + 1) r' a b]
      have : (fun (p a : Nat) => if (o + (p + 1)) % m = h then a * 2 + (c :: l).getD (p + 1) 0 else a) = fun (p a : Nat) => if (o + 1 + p) % m = h then a * 2 + l.getD p 0 else a := by
        funext p a
        rw [show o + (p + 1) = o + 1 + p by omega]
        rfl
      rw [this]
    cases r with
    | zero =>
      have e1 : (o + 0) % m = h := e
      rw [if_pos e1, ih (m - 1) (by omega) (by rw [show o + 1 + (m - 1) = o + m by omega, Nat.add_mod_right]; exact e1)]
      rfl
    | succ r =>
      have e1 : ¬ (o + 0) % m = h := by
        intro z
        have z : o % m = h := z
        have q : (o + (r + 1)) % m = (o % m + (r + 1)) % m := by rw [Nat.mod_add_mod]
        rw [e, z] at q
        by_cases w : h + (r + 1) < m
        · rw [Nat.mod_eq_of_lt w] at q; omega
        · have : (h + (r + 1)) % m = h + (r + 1) - m := by
            rw [Nat.mod_eq_sub_mod (by omega), Nat.mod_eq_of_lt (by omega)]
          omega
      rw [if_neg e1, ih r (by omega) (by rw [show o + 1 + r = o + (r + 1) by omega]; exact e)]
      rfl
/-- what each holder has -/
def deal (n m h : Nat) : Nat := pickR id m h (bits n)
theorem law_deal (n : Nat) {m h : Nat} (hm : h < m) : (List.range (bits n).length).foldr (fun p a => if p % m = h then a * 2 + (bits n).getD p 0 else a) 0 = deal n m h := by
  have := law_pick hm (bits n) 0 h hm (by rw [Nat.zero_add]; exact Nat.mod_eq_of_lt hm)
  simp only [Nat.zero_add] at this
  exact this
/-! the text of the figures -/
theorem dig_small (d : Nat) (h : d < 2) : (Nat.toDigits 2 d).map Char.toNat = [48 + d] := by
  have : d = 0 ∨ d = 1 := by omega
  rcases this with rfl | rfl <;> rfl
theorem figs_are (n : Nat) (h : 0 < n) : ((Nat.toDigits 2 n).map Char.toNat).reverse = (bits n).map (48 + ·) := by
  induction n using Nat.strongRecOn with
  | _ n ih =>
    by_cases h1 : n < 2
    · rw [dig_small n h1, bits_pos h, show n / 2 = 0 by omega, bits_0, show n % 2 = n by omega]; rfl
    · have e := Nat.toDigits_append_toDigits (b := 2) (n := n / 2) (d := n % 2) (by decide) (by omega) (by omega)
      rw [show 2 * (n / 2) + n % 2 = n by omega] at e
      rw [← e, List.map_append, List.reverse_append, ih (n / 2) (by omega) (by omega), dig_small _ (by omega), bits_pos h]
      rfl
def figs (n : Nat) : List Nat := ((Nat.toDigits 2 n).map Char.toNat).reverse
theorem figs_bin (n : Nat) : ∀ c ∈ figs n, c = 48 ∨ c = 49 := by
  intro c hc
  by_cases h : 0 < n
  · unfold figs at hc
    rw [figs_are n h] at hc
    obtain ⟨b, hb, rfl⟩ := List.mem_map.mp hc
    have := bits_lt n b hb
    omega
  · have : n = 0 := by omega
    subst this
    have : figs 0 = [48] := rfl
    rw [this] at hc
    left; simpa using hc
theorem figs_pick (n m r : Nat) : pickR (fun c => c - 48) m r (figs n) = pickR id m r (bits n) := by
  by_cases h : 0 < n
  · unfold figs
    rw [figs_are n h]
    exact pick_map _ _ _ m (fun c => by show 48 + c - 48 = c; omega) r _
  · have : n = 0 := by omega
    subst this
    have : figs 0 = [48] := rfl
    rw [this, bits_0, pick_zero _ _ _ rfl]
    cases r <;> rfl
end PX
end

section
set_option maxRecDepth 100000
set_option maxHeartbeats 1000000
namespace PX
open PySem L2 DL
/-- a list comprehension over things that are told by their words -/
theorem lc_enc {α : Type} {g : DG} {dt : DT} {de : DE} {ρ : List Sl} {u : List Ob} (enc : α → D) (f : α → D) (p : α → Bool) (ρx : D → List Sl) : ∀ {ts : List α} {acc : List D}, (∀ s ∈ ts, g (.d (enc s)) ρ = some (ρx (enc s))) → (∀ s ∈ ts, ∀ w, dt (ρx (enc s)) w = some (p s, w)) → (∀ s ∈ ts, p s = true → ∀ w, ∃ r, de (ρx (enc s)) w = some (r, w) ∧ r.sl = .d (f s)) → acc.length + ts.length ≤ SZ →
    lcL none g dt de ρ (ts.map enc) acc u = some (acc ++ (ts.filter p).map f, u)
  | [], acc, _, _, _, _ => by
    rw [List.map_nil]
    unfold lcL; rw [if_pos grd_none]; simp
  | s :: r, acc, h1, h2, h3, hz => by
    have ih := fun acc' (hz : acc'.length + r.length ≤ SZ) => lc_enc (u := u) enc f p ρx (acc := acc') (fun y hy => h1 y (List.mem_cons_of_mem _ hy)) (fun y hy => h2 y (List.mem_cons_of_mem _ hy)) (fun y hy => h3 y (List.mem_cons_of_mem _ hy)) hz
    rw [List.length_cons] at hz
    rw [List.map_cons]
    unfold lcL
    rw [if_pos grd_none, h1 s List.mem_cons_self]
    simp only [h2 s List.mem_cons_self]
    cases hp : p s with
    | false =>
      simp only [get_end, if_true, take_end]
      rw [ih acc (by omega), List.filter_cons, hp]
      rfl
    | true =>
      obtain ⟨q, e1, e2⟩ := h3 s List.mem_cons_self hp (u ++ [⟨true, .lst acc⟩])
      simp only [e1, e2, dat_d, get_end, take_end]
      rw [if_pos ⟨trivial, by omega⟩, ih (acc ++ [f s]) (by rw [List.length_append]; simp; omega), List.filter_cons, hp]
      simp
/-! data of numbers, texts, tuples, lists -/
mutual
def plainD : D → Bool
  | .int _ => true
  | .str x => PyData.strOk x
  | .tuple xs => decide (xs.length ≤ 1000000) && plainDs xs
  | .list xs => decide (xs.length ≤ 1000000) && plainDs xs
  | _ => false
def plainDs : List D → Bool
  | [] => true
  | x :: r => plainD x && plainDs r
end
theorem plainDs_all : ∀ {xs : List D}, plainDs xs = true ↔ ∀ x ∈ xs, plainD x = true
  | [] => by simp [plainDs]
  | x :: r => by
    simp only [plainDs, Bool.and_eq_true, plainDs_all, List.mem_cons, forall_eq_or_imp]
theorem canAll : ∀ {xs : List D}, PyData.canLayAll0 xs = true ↔ ∀ x ∈ xs, PyData.canLay0 x = true
  | [] => by simp [PyData.canLayAll0]
  | x :: r => by
    simp only [PyData.canLayAll0, Bool.and_eq_true, canAll, List.mem_cons, forall_eq_or_imp]
theorem depthAll_le : ∀ {xs : List D} {n : Nat}, PyData.depthAll xs ≤ n ↔ ∀ x ∈ xs, PyData.depth x ≤ n
  | [], n => by simp [PyData.depthAll]
  | x :: r, n => by
    simp only [PyData.depthAll, Nat.max_le, depthAll_le, List.mem_cons, forall_eq_or_imp]
mutual
theorem plain_can : ∀ x : D, plainD x = true → PyData.canLay0 x = true
  | .int _, _ => rfl
  | .str x, h => h
  | .tuple xs, h => by
    simp only [plainD, Bool.and_eq_true] at h
    exact plain_cans xs h.2
  | .list xs, h => by
    simp only [plainD, Bool.and_eq_true] at h
    exact plain_cans xs h.2
  | .none, h => by simp [plainD] at h
  | .bool _, h => by simp [plainD] at h
  | .dict _, h => by simp [plainD] at h
theorem plain_cans : ∀ xs : List D, plainDs xs = true → PyData.canLayAll0 xs = true
  | [], _ => rfl
  | x :: r, h => by
    simp only [plainDs, Bool.and_eq_true] at h
    simp only [PyData.canLayAll0, plain_can x h.1, plain_cans r h.2, Bool.and_self]
end
mutual
theorem eqv_self : ∀ x : D, plainD x = true → PyData.eqv x x = true
  | .int _, _ => by simp [PyData.eqv]
  | .str x, h => by simp [PyData.eqv]
  | .tuple xs, h => by
    simp only [plainD, Bool.and_eq_true] at h
    simp only [PyData.eqv]; exact eqv_selfs xs h.2
  | .list xs, h => by
    simp only [plainD, Bool.and_eq_true] at h
    simp only [PyData.eqv]; exact eqv_selfs xs h.2
  | .none, h => by simp [plainD] at h
  | .bool _, h => by simp [plainD] at h
  | .dict _, h => by simp [plainD] at h
theorem eqv_selfs : ∀ xs : List D, plainDs xs = true → PyData.eqvAll xs xs = true
  | [], _ => rfl
  | x :: r, h => by
    simp only [plainDs, Bool.and_eq_true] at h
    simp only [PyData.eqvAll, eqv_self x h.1, eqv_selfs r h.2, Bool.and_self]
end
theorem shaped_of {x : D} (h : plainD x = true) (d : PyData.depth x ≤ 64) : SeqAt.shaped x = true := by
  unfold SeqAt.shaped
  rw [plain_can x h, decide_eq_true d]; rfl
theorem plain_nd {x : D} (h : plainD x = true) : noDict x = true := by cases x <;> first | rfl | simp [plainD] at h
/-- the items, while what is walked stays -/
theorem lc_encG {α : Type} {gd : Option (Nat × MO)} {g : DG} {dt : DT} {de : DE} {ρ : List Sl} {u : List Ob} (hg : ∀ acc : List D, Grd (u ++ [⟨true, .lst acc⟩]) gd) (enc : α → D) (f : α → D) (ρx : D → List Sl) : ∀ {ts : List α} {acc : List D}, (∀ s ∈ ts, g (.d (enc s)) ρ = some (ρx (enc s))) → (∀ s ∈ ts, ∀ w, dt (ρx (enc s)) w = some (true, w)) → (∀ s ∈ ts, ∀ w, ∃ r, de (ρx (enc s)) w = some (r, w) ∧ r.sl = .d (f s)) → acc.length + ts.length ≤ SZ →
    lcL gd g dt de ρ (ts.map enc) acc u = some (acc ++ ts.map f, u)
  | [], acc, _, _, _, _ => by
    rw [List.map_nil]
    unfold lcL; rw [if_pos (hg acc)]; simp
  | s :: r, acc, h1, h2, h3, hz => by
    have ih := fun acc' (hz : acc'.length + r.length ≤ SZ) => lc_encG (u := u) hg enc f ρx (acc := acc') (fun y hy => h1 y (List.mem_cons_of_mem _ hy)) (fun y hy => h2 y (List.mem_cons_of_mem _ hy)) (fun y hy => h3 y (List.mem_cons_of_mem _ hy)) hz
    rw [List.length_cons] at hz
    rw [List.map_cons]
    unfold lcL
    rw [if_pos (hg acc), h1 s List.mem_cons_self]
    simp only [h2 s List.mem_cons_self]
    obtain ⟨q, e1, e2⟩ := h3 s List.mem_cons_self (u ++ [⟨true, .lst acc⟩])
    simp only [e1, e2, dat_d, get_end, take_end]
    rw [if_pos ⟨trivial, by omega⟩, ih (acc ++ [f s]) (by rw [List.length_append]; simp; omega)]
    simp
theorem zip_self : ∀ xs : List D, zipItems xs xs = xs.map fun x => PyData.tuple [x, x]
  | [] => rfl
  | x :: r => by rw [List.map_cons, ← zip_self r]; rfl
theorem q_bool (b x y : Bool) : eqA b (.bool x) (.bool y) = sD (.bool ((x == y) == b)) := by
  show eqD b (.bool x) (.bool y) = _
  unfold eqD
  rw [if_pos ⟨by simp [SeqAt.shaped, PyData.canLay0, PyData.depth], by simp [SeqAt.shaped, PyData.canLay0, PyData.depth]⟩]
  simp [PyData.eqv]
theorem no_false (n : Nat) : inA true (.bool false) (.list (List.replicate n (.bool true))) = sD (.bool true) := by
  show (if _ then _ else _) = _
  have h1 : SeqAt.shaped (.list (List.replicate n (PyData.bool true))) = true := by
    unfold SeqAt.shaped
    have c : PyData.canLay0 (.list (List.replicate n (PyData.bool true))) = true := by
      show PyData.canLayAll0 _ = true
      rw [canAll]
      intro x hx
      rw [(List.mem_replicate.mp hx).2]; rfl
    have d : PyData.depth (.list (List.replicate n (PyData.bool true))) ≤ 64 := by
      show PyData.depthAll _ + 1 ≤ 64
      have : PyData.depthAll (List.replicate n (PyData.bool true)) ≤ 0 := depthAll_le.mpr fun x hx => by
        rw [(List.mem_replicate.mp hx).2]; exact Nat.le_refl _
      omega
    rw [c, decide_eq_true d]; rfl
  rw [if_pos ⟨by decide, h1⟩]
  have e : ((List.replicate n (PyData.bool true)).any fun z => PyData.eqv z (.bool false)) = false := by
    rw [List.any_eq_false]
    intro x hx
    rw [(List.mem_replicate.mp hx).2]; simp [PyData.eqv]
  rw [e]; rfl
theorem isi_i (ts : List Tn) (x : Int) : isiD ts (.int x) = sD (.bool (ts.any fun t => t.has (.int x))) := rfl
theorem isi_s (ts : List Tn) (x : Str) : isiD ts (.str x) = sD (.bool (ts.any fun t => t.has (.str x))) := rfl
theorem isi_t (ts : List Tn) (x : List D) : isiD ts (.tuple x) = sD (.bool (ts.any fun t => t.has (.tuple x))) := rfl
theorem isi_l (ts : List Tn) (x : List D) : isiD ts (.list x) = sD (.bool (ts.any fun t => t.has (.list x))) := rfl
/-- what is made of a pair of the same -/
theorem same_T : ∀ (k : Nat) (x : D) (u : List Ob), PyData.depth x < k → PyData.depth x ≤ 64 → plainD x = true → R__law_same k [.d x, .d x] u = some (.s (.d (.bool true)), u)
  | 0, x, u, h, _, _ => by omega
  | k + 1, x, u, h, h64, hp => by
    have nd := plain_nd hp
    have sh := shaped_of hp h64
    have seqs : ∀ xs : List D, (x = .tuple xs ∨ x = .list xs) → R__law_same (k + 1) [.d x, .d x] u = some (.s (.d (.bool true)), u) := by
      intro xs hx
      have px : xs.length ≤ 1000000 ∧ plainDs xs = true := by
        rcases hx with hx | hx <;> (rw [hx] at hp; simpa only [plainD, Bool.and_eq_true, decide_eq_true_eq] using hp)
      have dx : ∀ y ∈ xs, PyData.depth y < PyData.depth x := by
        have : PyData.depth x = PyData.depthAll xs + 1 := by rcases hx with hx | hx <;> (rw [hx]; rfl)
        intro y hy
        have := (depthAll_le (n := PyData.depthAll xs)).mp (Nat.le_refl _) y hy
        omega
      refine fnD_ret rfl ?_
      unfold b__law_same
      have lc := lc_enc (g := gUnp 2 (gSome (gSet 2) (gSome (gSet 3) gNone))) (dt := dtYes) (de := dCall (R__law_same k) 2 (daCons (dVar 2) (daCons (dVar 3) daNil))) (ρ := [.d x, .d x, .un, .un]) (u := u) (fun y => PyData.tuple [y, y]) (fun _ => PyData.bool true) (fun _ => true) (fun z => match z with | .tuple [a, b] => [.d x, .d x, .d a, .d b] | _ => []) (ts := xs) (acc := [])
        (fun y hy => rfl) (fun y hy w => rfl) (fun y hy _ w => by
          have := same_T k y w (by have := dx y hy; omega) (by have := dx y hy; omega) (plainDs_all.mp px.2 y hy)
          exact ⟨.s (.d (.bool true)), by simp only [DL.e_var, DL.e_c, DL.e_bin, DL.e_un, DL.e_anil, DL.e_acons, DL.e_fn, DL.e_if, DL.e_b, DL.e_and, DL.e_or, DL.e_not, DL.e_tv, DL.dNotV, DL.e_andV, DL.e_orV, DL.e_tru, DL.e_tup, DL.e_lst, DL.e_call, DL.e_nil, DL.e_seq, DL.e_ret, DL.e_expr, DL.e_sif, DL.e_asg, DL.e_set, DL.e_gnone, DL.e_gsome, DL.e_unp, DL.e_for, DL.e_seqI, DL.e_any, DL.any_l, DL.any_t, DL.any_s, DL.any_d, DL.e_lc, DL.e_sl, DL.e_oI, DL.e_oN, DL.q_str, DL.q_int, DL.qa_str, DL.qa_int, DL.on1_, DL.on2_, DL.len_l, DL.len_t, DL.len_d, DL.tru_b, DL.tru_l, DL.tru_t, DL.tru_n, DL.kgt_, DL.kin_, DL.it_l, DL.it_t, DL.tup_l, DL.tup_t, DL.list_l, DL.list_t, DL.rev_l, DL.rev_t, DL.md_l, DL.md_t, DL.isi_, DL.ix_0, DL.ix_1, DL.ix_2, DL.ix_3, DL.sl_1, DL.in_t2, DL.in_t3, DL.in_t4, DL.is_none, DL.add_ii, DL.sub_ii, DL.neg_i, DL.lt_ii, DL.le_ii, DL.gt_ii, DL.ge_ii, DL.bd_some, DL.bd_none, DL.ch_true, DL.ch_false, DL.nxt_nx, DL.nxt_rt, DL.nxt_bk, DL.nxt_ct, DL.nxt_none, DL.slR_d, DL.slR_m, DL.sl_s, DL.sl_nw, DL.vw_d, DL.vws_nil, DL.vws_cons, DL.dats_nil, DL.dats_cons, DL.dat_d, DL.rtB_b, DL.beq_t, DL.beq_f, DL.xor_f, DL.xor_t, DL.sD, DL.wipeS, DL.SZ, Nat.reduceLeDiff, Nat.reduceEqDiff, List.length_cons, List.length_nil, List.append_nil, List.nil_append, List.cons_append, List.replicate, List.getElem?_cons_zero, List.getElem?_cons_succ, List.set_cons_zero, List.set_cons_succ, if_true, ite_true, ite_false, Nat.reduceSub, Nat.reduceAdd, Nat.sub_self, List.any_cons, List.any_nil, Bool.or_false, Bool.or_true, Bool.true_or, Bool.false_or, Bool.and_true, Bool.and_false, Bool.true_and, Bool.false_and, Bool.not_true, Bool.not_false, Bool.not_not, decide_true, decide_false, decide_eq_true_eq, List.isEmpty_nil, List.isEmpty_cons, Nat.zero_add, List.map_id, this], rfl⟩) (by show 0 + _ ≤ 16777216; omega)
      rw [List.nil_append, List.filter_eq_self.mpr fun _ _ => rfl, List.map_const'] at lc
      have z : diZip (dVar 0) (dVar 1) [.d x, .d x, .un, .un] u = some ((xs.map fun y => PyData.tuple [y, y], none), u) := by
        rcases hx with hx | hx <;> (rw [hx, ← zip_self]; rfl)
      rcases hx with hx | hx
      · rw [hx] at lc z ⊢
        simp only [DL.e_var, DL.e_c, DL.e_bin, DL.e_un, DL.e_anil, DL.e_acons, DL.e_fn, DL.e_if, DL.e_b, DL.e_and, DL.e_or, DL.e_not, DL.e_tv, DL.dNotV, DL.e_andV, DL.e_orV, DL.e_tru, DL.e_tup, DL.e_lst, DL.e_call, DL.e_nil, DL.e_seq, DL.e_ret, DL.e_expr, DL.e_sif, DL.e_asg, DL.e_set, DL.e_gnone, DL.e_gsome, DL.e_unp, DL.e_for, DL.e_seqI, DL.e_any, DL.any_l, DL.any_t, DL.any_s, DL.any_d, DL.e_lc, DL.e_sl, DL.e_oI, DL.e_oN, DL.q_str, DL.q_int, DL.qa_str, DL.qa_int, DL.on1_, DL.on2_, DL.len_l, DL.len_t, DL.len_d, DL.tru_b, DL.tru_l, DL.tru_t, DL.tru_n, DL.kgt_, DL.kin_, DL.it_l, DL.it_t, DL.tup_l, DL.tup_t, DL.list_l, DL.list_t, DL.rev_l, DL.rev_t, DL.md_l, DL.md_t, DL.isi_, DL.ix_0, DL.ix_1, DL.ix_2, DL.ix_3, DL.sl_1, DL.in_t2, DL.in_t3, DL.in_t4, DL.is_none, DL.add_ii, DL.sub_ii, DL.neg_i, DL.lt_ii, DL.le_ii, DL.gt_ii, DL.ge_ii, DL.bd_some, DL.bd_none, DL.ch_true, DL.ch_false, DL.nxt_nx, DL.nxt_rt, DL.nxt_bk, DL.nxt_ct, DL.nxt_none, DL.slR_d, DL.slR_m, DL.sl_s, DL.sl_nw, DL.vw_d, DL.vws_nil, DL.vws_cons, DL.dats_nil, DL.dats_cons, DL.dat_d, DL.rtB_b, DL.beq_t, DL.beq_f, DL.xor_f, DL.xor_t, DL.sD, DL.wipeS, DL.SZ, Nat.reduceLeDiff, Nat.reduceEqDiff, List.length_cons, List.length_nil, List.append_nil, List.nil_append, List.cons_append, List.replicate, List.getElem?_cons_zero, List.getElem?_cons_succ, List.set_cons_zero, List.set_cons_succ, if_true, ite_true, ite_false, Nat.reduceSub, Nat.reduceAdd, Nat.sub_self, List.any_cons, List.any_nil, Bool.or_false, Bool.or_true, Bool.true_or, Bool.false_or, Bool.and_true, Bool.and_false, Bool.true_and, Bool.false_and, Bool.not_true, Bool.not_false, Bool.not_not, decide_true, decide_false, decide_eq_true_eq, List.isEmpty_nil, List.isEmpty_cons, Nat.zero_add, List.map_id, isi_i, isi_s, isi_t, isi_l, nonD, Tn.has, q_bool, len_t, qa_int, beq_self_eq_true, z, lc, no_false, noDict]
      · rw [hx] at lc z ⊢
        simp only [DL.e_var, DL.e_c, DL.e_bin, DL.e_un, DL.e_anil, DL.e_acons, DL.e_fn, DL.e_if, DL.e_b, DL.e_and, DL.e_or, DL.e_not, DL.e_tv, DL.dNotV, DL.e_andV, DL.e_orV, DL.e_tru, DL.e_tup, DL.e_lst, DL.e_call, DL.e_nil, DL.e_seq, DL.e_ret, DL.e_expr, DL.e_sif, DL.e_asg, DL.e_set, DL.e_gnone, DL.e_gsome, DL.e_unp, DL.e_for, DL.e_seqI, DL.e_any, DL.any_l, DL.any_t, DL.any_s, DL.any_d, DL.e_lc, DL.e_sl, DL.e_oI, DL.e_oN, DL.q_str, DL.q_int, DL.qa_str, DL.qa_int, DL.on1_, DL.on2_, DL.len_l, DL.len_t, DL.len_d, DL.tru_b, DL.tru_l, DL.tru_t, DL.tru_n, DL.kgt_, DL.kin_, DL.it_l, DL.it_t, DL.tup_l, DL.tup_t, DL.list_l, DL.list_t, DL.rev_l, DL.rev_t, DL.md_l, DL.md_t, DL.isi_, DL.ix_0, DL.ix_1, DL.ix_2, DL.ix_3, DL.sl_1, DL.in_t2, DL.in_t3, DL.in_t4, DL.is_none, DL.add_ii, DL.sub_ii, DL.neg_i, DL.lt_ii, DL.le_ii, DL.gt_ii, DL.ge_ii, DL.bd_some, DL.bd_none, DL.ch_true, DL.ch_false, DL.nxt_nx, DL.nxt_rt, DL.nxt_bk, DL.nxt_ct, DL.nxt_none, DL.slR_d, DL.slR_m, DL.sl_s, DL.sl_nw, DL.vw_d, DL.vws_nil, DL.vws_cons, DL.dats_nil, DL.dats_cons, DL.dat_d, DL.rtB_b, DL.beq_t, DL.beq_f, DL.xor_f, DL.xor_t, DL.sD, DL.wipeS, DL.SZ, Nat.reduceLeDiff, Nat.reduceEqDiff, List.length_cons, List.length_nil, List.append_nil, List.nil_append, List.cons_append, List.replicate, List.getElem?_cons_zero, List.getElem?_cons_succ, List.set_cons_zero, List.set_cons_succ, if_true, ite_true, ite_false, Nat.reduceSub, Nat.reduceAdd, Nat.sub_self, List.any_cons, List.any_nil, Bool.or_false, Bool.or_true, Bool.true_or, Bool.false_or, Bool.and_true, Bool.and_false, Bool.true_and, Bool.false_and, Bool.not_true, Bool.not_false, Bool.not_not, decide_true, decide_false, decide_eq_true_eq, List.isEmpty_nil, List.isEmpty_cons, Nat.zero_add, List.map_id, isi_i, isi_s, isi_t, isi_l, nonD, Tn.has, q_bool, len_l, qa_int, beq_self_eq_true, z, lc, no_false, noDict]
    cases x with
    | none => simp [plainD] at hp
    | bool b => simp [plainD] at hp
    | dict kvs => simp [plainD] at hp
    | int i =>
      refine fnD_ret rfl ?_
      unfold b__law_same
      simp only [DL.e_var, DL.e_c, DL.e_bin, DL.e_un, DL.e_anil, DL.e_acons, DL.e_fn, DL.e_if, DL.e_b, DL.e_and, DL.e_or, DL.e_not, DL.e_tv, DL.dNotV, DL.e_andV, DL.e_orV, DL.e_tru, DL.e_tup, DL.e_lst, DL.e_call, DL.e_nil, DL.e_seq, DL.e_ret, DL.e_expr, DL.e_sif, DL.e_asg, DL.e_set, DL.e_gnone, DL.e_gsome, DL.e_unp, DL.e_for, DL.e_seqI, DL.e_any, DL.any_l, DL.any_t, DL.any_s, DL.any_d, DL.e_lc, DL.e_sl, DL.e_oI, DL.e_oN, DL.q_str, DL.q_int, DL.qa_str, DL.qa_int, DL.on1_, DL.on2_, DL.len_l, DL.len_t, DL.len_d, DL.tru_b, DL.tru_l, DL.tru_t, DL.tru_n, DL.kgt_, DL.kin_, DL.it_l, DL.it_t, DL.tup_l, DL.tup_t, DL.list_l, DL.list_t, DL.rev_l, DL.rev_t, DL.md_l, DL.md_t, DL.isi_, DL.ix_0, DL.ix_1, DL.ix_2, DL.ix_3, DL.sl_1, DL.in_t2, DL.in_t3, DL.in_t4, DL.is_none, DL.add_ii, DL.sub_ii, DL.neg_i, DL.lt_ii, DL.le_ii, DL.gt_ii, DL.ge_ii, DL.bd_some, DL.bd_none, DL.ch_true, DL.ch_false, DL.nxt_nx, DL.nxt_rt, DL.nxt_bk, DL.nxt_ct, DL.nxt_none, DL.slR_d, DL.slR_m, DL.sl_s, DL.sl_nw, DL.vw_d, DL.vws_nil, DL.vws_cons, DL.dats_nil, DL.dats_cons, DL.dat_d, DL.rtB_b, DL.beq_t, DL.beq_f, DL.xor_f, DL.xor_t, DL.sD, DL.wipeS, DL.SZ, Nat.reduceLeDiff, Nat.reduceEqDiff, List.length_cons, List.length_nil, List.append_nil, List.nil_append, List.cons_append, List.replicate, List.getElem?_cons_zero, List.getElem?_cons_succ, List.set_cons_zero, List.set_cons_succ, if_true, ite_true, ite_false, Nat.reduceSub, Nat.reduceAdd, Nat.sub_self, List.any_cons, List.any_nil, Bool.or_false, Bool.or_true, Bool.true_or, Bool.false_or, Bool.and_true, Bool.and_false, Bool.true_and, Bool.false_and, Bool.not_true, Bool.not_false, Bool.not_not, decide_true, decide_false, decide_eq_true_eq, List.isEmpty_nil, List.isEmpty_cons, Nat.zero_add, List.map_id, isi_i, isi_s, isi_t, isi_l, nonD, Tn.has, q_bool, qa_int, beq_self_eq_true, noDict]
    | str s =>
      have hp : PyData.strOk s = true := hp
      refine fnD_ret rfl ?_
      unfold b__law_same
      simp only [DL.e_var, DL.e_c, DL.e_bin, DL.e_un, DL.e_anil, DL.e_acons, DL.e_fn, DL.e_if, DL.e_b, DL.e_and, DL.e_or, DL.e_not, DL.e_tv, DL.dNotV, DL.e_andV, DL.e_orV, DL.e_tru, DL.e_tup, DL.e_lst, DL.e_call, DL.e_nil, DL.e_seq, DL.e_ret, DL.e_expr, DL.e_sif, DL.e_asg, DL.e_set, DL.e_gnone, DL.e_gsome, DL.e_unp, DL.e_for, DL.e_seqI, DL.e_any, DL.any_l, DL.any_t, DL.any_s, DL.any_d, DL.e_lc, DL.e_sl, DL.e_oI, DL.e_oN, DL.q_str, DL.q_int, DL.qa_str, DL.qa_int, DL.on1_, DL.on2_, DL.len_l, DL.len_t, DL.len_d, DL.tru_b, DL.tru_l, DL.tru_t, DL.tru_n, DL.kgt_, DL.kin_, DL.it_l, DL.it_t, DL.tup_l, DL.tup_t, DL.list_l, DL.list_t, DL.rev_l, DL.rev_t, DL.md_l, DL.md_t, DL.isi_, DL.ix_0, DL.ix_1, DL.ix_2, DL.ix_3, DL.sl_1, DL.in_t2, DL.in_t3, DL.in_t4, DL.is_none, DL.add_ii, DL.sub_ii, DL.neg_i, DL.lt_ii, DL.le_ii, DL.gt_ii, DL.ge_ii, DL.bd_some, DL.bd_none, DL.ch_true, DL.ch_false, DL.nxt_nx, DL.nxt_rt, DL.nxt_bk, DL.nxt_ct, DL.nxt_none, DL.slR_d, DL.slR_m, DL.sl_s, DL.sl_nw, DL.vw_d, DL.vws_nil, DL.vws_cons, DL.dats_nil, DL.dats_cons, DL.dat_d, DL.rtB_b, DL.beq_t, DL.beq_f, DL.xor_f, DL.xor_t, DL.sD, DL.wipeS, DL.SZ, Nat.reduceLeDiff, Nat.reduceEqDiff, List.length_cons, List.length_nil, List.append_nil, List.nil_append, List.cons_append, List.replicate, List.getElem?_cons_zero, List.getElem?_cons_succ, List.set_cons_zero, List.set_cons_succ, if_true, ite_true, ite_false, Nat.reduceSub, Nat.reduceAdd, Nat.sub_self, List.any_cons, List.any_nil, Bool.or_false, Bool.or_true, Bool.true_or, Bool.false_or, Bool.and_true, Bool.and_false, Bool.true_and, Bool.false_and, Bool.not_true, Bool.not_false, Bool.not_not, decide_true, decide_false, decide_eq_true_eq, List.isEmpty_nil, List.isEmpty_cons, Nat.zero_add, List.map_id, isi_i, isi_s, isi_t, isi_l, nonD, Tn.has, q_bool, hp, beq_self_eq_true, noDict]
    | tuple xs => exact seqs xs (.inl rfl)
    | list xs => exact seqs xs (.inr rfl)
/-- of a list that stands in the store -/
theorem same_m (xs : List D) (j : Nat) (u : List Ob) (hj : u[j]? = some ⟨true, .lst xs⟩) (d : ∀ x ∈ xs, PyData.depth x < 60) (hp : ∀ x ∈ xs, plainD x = true) (hz : xs.length ≤ 1000000) : F__law_same [.m j, .d (.list xs)] u = some (.s (.d (.bool true)), u) := by
  have jl : j < u.length := (List.getElem?_eq_some_iff.mp hj).1
  refine (congrFun (congrFun (show F__law_same = fnD 2 4 (b__law_same (R__law_same 99)) from rfl) _) _).trans (fnD_ret rfl ?_)
  unfold b__law_same
  have lc := lc_encG (gd := some (j, .lst xs)) (g := gUnp 2 (gSome (gSet 2) (gSome (gSet 3) gNone))) (dt := dtYes) (de := dCall (R__law_same 99) 2 (daCons (dVar 2) (daCons (dVar 3) daNil))) (ρ := [.m j, .d (.list xs), .un, .un]) (u := u) (fun acc => ⟨true, by rw [List.getElem?_append_left jl]; exact hj⟩) (fun y => PyData.tuple [y, y]) (fun _ => PyData.bool true) (fun z => match z with | .tuple [a, b] => [.m j, .d (.list xs), .d a, .d b] | _ => []) (ts := xs) (acc := [])
    (fun y hy => rfl) (fun y hy w => rfl) (fun y hy w => by
      have := same_T 99 y w (by have := d y hy; omega) (by have := d y hy; omega) (hp y hy)
      exact ⟨.s (.d (.bool true)), by simp only [DL.e_var, DL.e_c, DL.e_bin, DL.e_un, DL.e_anil, DL.e_acons, DL.e_fn, DL.e_if, DL.e_b, DL.e_and, DL.e_or, DL.e_not, DL.e_tv, DL.dNotV, DL.e_andV, DL.e_orV, DL.e_tru, DL.e_tup, DL.e_lst, DL.e_call, DL.e_nil, DL.e_seq, DL.e_ret, DL.e_expr, DL.e_sif, DL.e_asg, DL.e_set, DL.e_gnone, DL.e_gsome, DL.e_unp, DL.e_for, DL.e_seqI, DL.e_any, DL.any_l, DL.any_t, DL.any_s, DL.any_d, DL.e_lc, DL.e_sl, DL.e_oI, DL.e_oN, DL.q_str, DL.q_int, DL.qa_str, DL.qa_int, DL.on1_, DL.on2_, DL.len_l, DL.len_t, DL.len_d, DL.tru_b, DL.tru_l, DL.tru_t, DL.tru_n, DL.kgt_, DL.kin_, DL.it_l, DL.it_t, DL.tup_l, DL.tup_t, DL.list_l, DL.list_t, DL.rev_l, DL.rev_t, DL.md_l, DL.md_t, DL.isi_, DL.ix_0, DL.ix_1, DL.ix_2, DL.ix_3, DL.sl_1, DL.in_t2, DL.in_t3, DL.in_t4, DL.is_none, DL.add_ii, DL.sub_ii, DL.neg_i, DL.lt_ii, DL.le_ii, DL.gt_ii, DL.ge_ii, DL.bd_some, DL.bd_none, DL.ch_true, DL.ch_false, DL.nxt_nx, DL.nxt_rt, DL.nxt_bk, DL.nxt_ct, DL.nxt_none, DL.slR_d, DL.slR_m, DL.sl_s, DL.sl_nw, DL.vw_d, DL.vws_nil, DL.vws_cons, DL.dats_nil, DL.dats_cons, DL.dat_d, DL.rtB_b, DL.beq_t, DL.beq_f, DL.xor_f, DL.xor_t, DL.sD, DL.wipeS, DL.SZ, Nat.reduceLeDiff, Nat.reduceEqDiff, List.length_cons, List.length_nil, List.append_nil, List.nil_append, List.cons_append, List.replicate, List.getElem?_cons_zero, List.getElem?_cons_succ, List.set_cons_zero, List.set_cons_succ, if_true, ite_true, ite_false, Nat.reduceSub, Nat.reduceAdd, Nat.sub_self, List.any_cons, List.any_nil, Bool.or_false, Bool.or_true, Bool.true_or, Bool.false_or, Bool.and_true, Bool.and_false, Bool.true_and, Bool.false_and, Bool.not_true, Bool.not_false, Bool.not_not, decide_true, decide_false, decide_eq_true_eq, List.isEmpty_nil, List.isEmpty_cons, Nat.zero_add, List.map_id, this], rfl⟩) (by show 0 + _ ≤ 16777216; omega)
  rw [List.nil_append, List.map_const'] at lc
  have z : diZip (dVar 0) (dVar 1) [.m j, .d (.list xs), .un, .un] u = some ((xs.map fun y => PyData.tuple [y, y], some (j, .lst xs)), u) := by
    rw [← zip_self]
    unfold diZip
    simp only [e_var, List.getElem?_cons_zero, List.getElem?_cons_succ, slR_m, slR_d, sl_s, hj]
  have vw : (Sl.m j).vw u = some (.list xs) := by
    show (match u[j]? with | some b => b.o.vw | none => none) = _
    rw [hj]; rfl
  simp only [DL.e_var, DL.e_c, DL.e_bin, DL.e_un, DL.e_anil, DL.e_acons, DL.e_fn, DL.e_if, DL.e_b, DL.e_and, DL.e_or, DL.e_not, DL.e_tv, DL.dNotV, DL.e_andV, DL.e_orV, DL.e_tru, DL.e_tup, DL.e_lst, DL.e_call, DL.e_nil, DL.e_seq, DL.e_ret, DL.e_expr, DL.e_sif, DL.e_asg, DL.e_set, DL.e_gnone, DL.e_gsome, DL.e_unp, DL.e_for, DL.e_seqI, DL.e_any, DL.any_l, DL.any_t, DL.any_s, DL.any_d, DL.e_lc, DL.e_sl, DL.e_oI, DL.e_oN, DL.q_str, DL.q_int, DL.qa_str, DL.qa_int, DL.on1_, DL.on2_, DL.len_l, DL.len_t, DL.len_d, DL.tru_b, DL.tru_l, DL.tru_t, DL.tru_n, DL.kgt_, DL.kin_, DL.it_l, DL.it_t, DL.tup_l, DL.tup_t, DL.list_l, DL.list_t, DL.rev_l, DL.rev_t, DL.md_l, DL.md_t, DL.isi_, DL.ix_0, DL.ix_1, DL.ix_2, DL.ix_3, DL.sl_1, DL.in_t2, DL.in_t3, DL.in_t4, DL.is_none, DL.add_ii, DL.sub_ii, DL.neg_i, DL.lt_ii, DL.le_ii, DL.gt_ii, DL.ge_ii, DL.bd_some, DL.bd_none, DL.ch_true, DL.ch_false, DL.nxt_nx, DL.nxt_rt, DL.nxt_bk, DL.nxt_ct, DL.nxt_none, DL.slR_d, DL.slR_m, DL.sl_s, DL.sl_nw, DL.vw_d, DL.vws_nil, DL.vws_cons, DL.dats_nil, DL.dats_cons, DL.dat_d, DL.rtB_b, DL.beq_t, DL.beq_f, DL.xor_f, DL.xor_t, DL.sD, DL.wipeS, DL.SZ, Nat.reduceLeDiff, Nat.reduceEqDiff, List.length_cons, List.length_nil, List.append_nil, List.nil_append, List.cons_append, List.replicate, List.getElem?_cons_zero, List.getElem?_cons_succ, List.set_cons_zero, List.set_cons_succ, if_true, ite_true, ite_false, Nat.reduceSub, Nat.reduceAdd, Nat.sub_self, List.any_cons, List.any_nil, Bool.or_false, Bool.or_true, Bool.true_or, Bool.false_or, Bool.and_true, Bool.and_false, Bool.true_and, Bool.false_and, Bool.not_true, Bool.not_false, Bool.not_not, decide_true, decide_false, decide_eq_true_eq, List.isEmpty_nil, List.isEmpty_cons, Nat.zero_add, List.map_id, vw, isi_i, isi_s, isi_t, isi_l, nonD, Tn.has, q_bool, len_l, qa_int, beq_self_eq_true, z, lc, no_false, noDict]
end PX
end

section
set_option maxRecDepth 100000
set_option maxHeartbeats 1000000
/-! dealt, by the program -/
namespace PX
open PySem L2 DL
theorem add_ss (a b : Str) (h : a.length + b.length ≤ 100000) : addD (.str a) (.str b) = sD (.str (a ++ b)) := by
  show (if _ then _ else _) = _
  rw [if_pos (by show _ ≤ 16777216; omega)]
theorem rev_s (z : Str) (h : z.length ≤ 100000) : revA (.str z) = sD (.str (revS z)) := by
  show (if _ then _ else _) = _
  rw [if_pos (by show _ ≤ 16777216; omega)]
theorem revS_len (z : Str) : (revS z).length = z.length := by
  show (z.cps.toList.reverse.toArray).size = z.cps.size
  rw [List.size_toArray, List.length_reverse, Array.length_toList]
theorem revS_list (z : Str) : (revS z).cps.toList = z.cps.toList.reverse := by
  show (z.cps.toList.reverse.toArray).toList = _
  simp
def val2 (l : List Nat) : Nat := l.foldr (fun c a => a * 2 + (c - 48)) 0
theorem number_of (s : Str) (hl : s.length ≤ 630) (hb : ∀ c ∈ s.cps.toList, c = 48 ∨ c = 49) (u : List Ob) : F__number_of_figures [.d (.str s)] u = some (.s (.d (.int (val2 s.cps.toList : Nat))), u) := by
  have e0 : (Str.ofString "0").cps = #[48] := by decide +kernel
  have l0 : (Str.ofString "0").length = 1 := by show (Str.ofString "0").cps.size = 1; rw [e0]; rfl
  have hcat : (Str.ofString "0" ++ revS s).cps.toList = 48 :: s.cps.toList.reverse := by
    show ((Str.ofString "0").cps ++ (revS s).cps).toList = _
    rw [e0, Array.toList_append, revS_list]; rfl
  have hlen : (Str.ofString "0" ++ revS s).length ≤ 640 := by
    have : (Str.ofString "0" ++ revS s).length = (Str.ofString "0" ++ revS s).cps.toList.length := by rw [Array.length_toList]; rfl
    rw [this, hcat, List.length_cons, List.length_reverse, Array.length_toList]
    have : s.cps.size = s.length := rfl
    omega
  have ib : isBin (Str.ofString "0" ++ revS s) = true := by
    unfold isBin
    rw [hcat, decide_eq_true hlen, Bool.and_true, Bool.and_eq_true]
    refine ⟨rfl, ?_⟩
    rw [List.all_eq_true]
    intro c hc
    rcases List.mem_cons.mp hc with rfl | hc
    · rfl
    · have := hb c (List.mem_reverse.mp hc)
      simpa using this
  have i2 : int2D (.str (Str.ofString "0" ++ revS s)) (.int 2) = sD (.int (val2 s.cps.toList : Nat)) := by
    show (if _ then _ else _) = _
    rw [if_pos ⟨rfl, ib⟩]
    have : B2.num (Str.ofString "0" ++ revS s).cps.toList = val2 s.cps.toList := by
      rw [hcat]
      unfold B2.num val2
      rw [List.foldl_cons, List.foldl_reverse]
    rw [this]
  refine fnD_ret rfl ?_
  unfold b__number_of_figures
  simp only [DL.e_var, DL.e_c, DL.e_bin, DL.e_un, DL.e_anil, DL.e_acons, DL.e_fn, DL.e_if, DL.e_b, DL.e_and, DL.e_or, DL.e_not, DL.e_tv, DL.dNotV, DL.e_andV, DL.e_orV, DL.e_tru, DL.e_tup, DL.e_lst, DL.e_call, DL.e_nil, DL.e_seq, DL.e_ret, DL.e_expr, DL.e_sif, DL.e_asg, DL.e_set, DL.e_gnone, DL.e_gsome, DL.e_unp, DL.e_for, DL.e_seqI, DL.e_any, DL.any_l, DL.any_t, DL.any_s, DL.any_d, DL.e_lc, DL.e_sl, DL.e_oI, DL.e_oN, DL.q_str, DL.q_int, DL.qa_str, DL.qa_int, DL.on1_, DL.on2_, DL.len_l, DL.len_t, DL.len_d, DL.tru_b, DL.tru_l, DL.tru_t, DL.tru_n, DL.kgt_, DL.kin_, DL.it_l, DL.it_t, DL.tup_l, DL.tup_t, DL.list_l, DL.list_t, DL.rev_l, DL.rev_t, DL.md_l, DL.md_t, DL.isi_, DL.ix_0, DL.ix_1, DL.ix_2, DL.ix_3, DL.sl_1, DL.in_t2, DL.in_t3, DL.in_t4, DL.is_none, DL.add_ii, DL.sub_ii, DL.neg_i, DL.lt_ii, DL.le_ii, DL.gt_ii, DL.ge_ii, DL.bd_some, DL.bd_none, DL.ch_true, DL.ch_false, DL.nxt_nx, DL.nxt_rt, DL.nxt_bk, DL.nxt_ct, DL.nxt_none, DL.slR_d, DL.slR_m, DL.sl_s, DL.sl_nw, DL.vw_d, DL.vws_nil, DL.vws_cons, DL.dats_nil, DL.dats_cons, DL.dat_d, DL.rtB_b, DL.beq_t, DL.beq_f, DL.xor_f, DL.xor_t, DL.sD, DL.wipeS, DL.SZ, Nat.reduceLeDiff, Nat.reduceEqDiff, List.length_cons, List.length_nil, List.append_nil, List.nil_append, List.cons_append, List.replicate, List.getElem?_cons_zero, List.getElem?_cons_succ, List.set_cons_zero, List.set_cons_succ, if_true, ite_true, ite_false, Nat.reduceSub, Nat.reduceAdd, Nat.sub_self, List.any_cons, List.any_nil, Bool.or_false, Bool.or_true, Bool.true_or, Bool.false_or, Bool.and_true, Bool.and_false, Bool.true_and, Bool.false_and, Bool.not_true, Bool.not_false, Bool.not_not, decide_true, decide_false, decide_eq_true_eq, List.isEmpty_nil, List.isEmpty_cons, Nat.zero_add, List.map_id, rev_s s (by omega), add_ss _ _ (by rw [l0, revS_len]; omega : (Str.ofString "0").length + (revS s).length ≤ 100000), i2]
/-- a number of not too many figures -/
def Few (n : Nat) : Prop := n.log2 < 600
theorem Few.of_lt {n : Nat} (h : n < 2 ^ 70) : Few n := by
  unfold Few
  by_cases z : n = 0
  · subst z; decide
  · have := (Nat.log2_lt z).mpr h
    omega
theorem figs_len {n : Nat} (h : Few n) : (figs n).length ≤ 600 := by
  have := bin_fitsK h (by decide)
  rw [binS_len] at this
  unfold figs
  rw [List.length_reverse, List.length_map]
  exact this
theorem figs_text (n : Nat) : (revS (binS n)).cps.toList = figs n := by
  rw [revS_list]
  show (((Nat.toDigits 2 n).map Char.toNat).toArray.toList).reverse = _
  rfl
theorem text_len (n : Nat) (h : Few n) : (revS (binS n)).length ≤ 600 := by
  have := figs_len h
  rw [← figs_text, Array.length_toList] at this
  exact this
theorem bits_len {n : Nat} (h : Few n) : (bits n).length ≤ 600 := by
  by_cases h0 : 0 < n
  · have := figs_len h
    unfold figs at this
    rw [figs_are n h0, List.length_map] at this
    exact this
  · have : n = 0 := by omega
    subst this
    rw [bits_0]; exact Nat.zero_le _
theorem mem_every {α : Type} (k : Nat) : ∀ (n : Nat) (l : List α) (x : α), x ∈ everyL k n l → x ∈ l
  | 0, l, x, h => by simp [everyL] at h
  | n + 1, [], x, h => by simp [everyL] at h
  | n + 1, a :: r, x, h => by
    rcases List.mem_cons.mp (show x ∈ a :: everyL k n (r.drop (k - 1)) from h) with rfl | h
    · exact List.mem_cons_self
    · exact List.mem_cons_of_mem _ (List.mem_of_mem_drop (mem_every k n _ x h))
theorem holder_val {n m h : Nat} : val2 (everyL m (revS (binS n)).length ((figs n).drop h)) = deal n m h := by
  have hl : (revS (binS n)).length = (figs n).length := by
    rw [← figs_text, Array.length_toList]; rfl
  unfold val2 deal
  rw [hl, every_pick (fun c => c - 48) _ _ (by rw [List.length_drop]; omega), ← pick_drop, figs_pick]
def dealL (n m : Nat) : List D := (List.range m).map fun h => .int (deal n m h : Nat)
theorem dealt_ok (n m : Nat) (hn : Few n) (hm : 0 < m) (hm2 : m ≤ 1000) (u : List Ob) : F_dealt [.d (.int (n : Int)), .d (.int (m : Int))] u = some (.nw (.lst (dealL n m)), u) := by
  have b1 : binD (.int (n : Int)) = sD (.str (binS n)) := by
    show (if _ then _ else _) = _
    rw [if_pos ⟨by omega, by rw [Int.natAbs_natCast]; unfold Few at hn; omega⟩, Int.natAbs_natCast]
  have tl := text_len n hn
  have t1 : sAsg (gSet 2) (dUn revA (dUn binD (dVar 0))) [.d (.int (n : Int)), .d (.int (m : Int)), .un, .un] u = some (.nx [.d (.int (n : Int)), .d (.int (m : Int)), .d (.str (revS (binS n))), .un] u) := by
    simp only [DL.e_var, DL.e_c, DL.e_bin, DL.e_un, DL.e_anil, DL.e_acons, DL.e_fn, DL.e_if, DL.e_b, DL.e_and, DL.e_or, DL.e_not, DL.e_tv, DL.dNotV, DL.e_andV, DL.e_orV, DL.e_tru, DL.e_tup, DL.e_lst, DL.e_call, DL.e_nil, DL.e_seq, DL.e_ret, DL.e_expr, DL.e_sif, DL.e_asg, DL.e_set, DL.e_gnone, DL.e_gsome, DL.e_unp, DL.e_for, DL.e_seqI, DL.e_any, DL.any_l, DL.any_t, DL.any_s, DL.any_d, DL.e_lc, DL.e_sl, DL.e_oI, DL.e_oN, DL.q_str, DL.q_int, DL.qa_str, DL.qa_int, DL.on1_, DL.on2_, DL.len_l, DL.len_t, DL.len_d, DL.tru_b, DL.tru_l, DL.tru_t, DL.tru_n, DL.kgt_, DL.kin_, DL.it_l, DL.it_t, DL.tup_l, DL.tup_t, DL.list_l, DL.list_t, DL.rev_l, DL.rev_t, DL.md_l, DL.md_t, DL.isi_, DL.ix_0, DL.ix_1, DL.ix_2, DL.ix_3, DL.sl_1, DL.in_t2, DL.in_t3, DL.in_t4, DL.is_none, DL.add_ii, DL.sub_ii, DL.neg_i, DL.lt_ii, DL.le_ii, DL.gt_ii, DL.ge_ii, DL.bd_some, DL.bd_none, DL.ch_true, DL.ch_false, DL.nxt_nx, DL.nxt_rt, DL.nxt_bk, DL.nxt_ct, DL.nxt_none, DL.slR_d, DL.slR_m, DL.sl_s, DL.sl_nw, DL.vw_d, DL.vws_nil, DL.vws_cons, DL.dats_nil, DL.dats_cons, DL.dat_d, DL.rtB_b, DL.beq_t, DL.beq_f, DL.xor_f, DL.xor_t, DL.sD, DL.wipeS, DL.SZ, Nat.reduceLeDiff, Nat.reduceEqDiff, List.length_cons, List.length_nil, List.append_nil, List.nil_append, List.cons_append, List.replicate, List.getElem?_cons_zero, List.getElem?_cons_succ, List.set_cons_zero, List.set_cons_succ, if_true, ite_true, ite_false, Nat.reduceSub, Nat.reduceAdd, Nat.sub_self, List.any_cons, List.any_nil, Bool.or_false, Bool.or_true, Bool.true_or, Bool.false_or, Bool.and_true, Bool.and_false, Bool.true_and, Bool.false_and, Bool.not_true, Bool.not_false, Bool.not_not, decide_true, decide_false, decide_eq_true_eq, List.isEmpty_nil, List.isEmpty_cons, Nat.zero_add, List.map_id, b1, rev_s (binS n) (by rw [revS_len] at tl; omega)]
  have it : diRng1 (dVar 1) [.d (.int (n : Int)), .d (.int (m : Int)), .d (.str (revS (binS n))), .un] u = some (((List.range m).map fun h : Nat => PyData.int (0 + (h : Nat)), none), u) := by
    unfold diRng1
    simp only [e_var, List.getElem?_cons_zero, List.getElem?_cons_succ, slR_d]
    rw [if_pos ⟨by omega, by omega⟩]
    rfl
  have lc := lc_encG (gd := none) (g := gSet 3) (dt := dtYes) (de := dCall F__number_of_figures 1 (daCons (dFn stepD (daCons (dVar 2) (daCons (dVar 3) (daCons (dVar 1) daNil)))) daNil)) (ρ := [.d (.int (n : Int)), .d (.int (m : Int)), .d (.str (revS (binS n))), .un]) (u := u) (fun acc => trivial) (fun h : Nat => PyData.int (0 + (h : Nat))) (fun h : Nat => PyData.int (deal n m h : Nat)) (fun z => [.d (.int (n : Int)), .d (.int (m : Int)), .d (.str (revS (binS n))), .d z]) (ts := List.range m) (acc := [])
    (fun y hy => rfl) (fun y hy w => rfl) (fun h hh w => by
      have s3 : stepD [.str (revS (binS n)), .int (0 + (h : Nat)), .int (m : Int)] = sD (.str (stepS (revS (binS n)) h m)) := by
        show (if _ then _ else _) = _
        rw [decide_eq_true (show (0 : Int) ≤ 0 + (h : Nat) by omega), decide_eq_true (show (0 : Int) < (m : Int) by omega), decide_eq_true (show (revS (binS n)).length ≤ SZ by show _ ≤ 16777216; omega)]
        refine (if_pos (by rfl)).trans ?_
        rw [show ((0 : Int) + (h : Nat)).toNat = h by omega, show ((m : Nat) : Int).toNat = m by omega]
      have cp : (stepS (revS (binS n)) h m).cps.toList = everyL m (revS (binS n)).length ((figs n).drop h) := by
        show ((everyL m _ ((revS (binS n)).cps.toList.drop h)).toArray).toList = _
        rw [figs_text]
      have nb := number_of (stepS (revS (binS n)) h m) (by
          have e : (stepS (revS (binS n)) h m).length = (stepS (revS (binS n)) h m).cps.toList.length := by rw [Array.length_toList]; rfl
          rw [e, cp]
          have := every_len m (revS (binS n)).length ((figs n).drop h)
          have := figs_len hn
          rw [List.length_drop] at *
          omega) (by
          rw [cp]
          intro c hc
          exact figs_bin n c (List.mem_of_mem_drop (mem_every _ _ _ _ hc))) w
      rw [cp, holder_val] at nb
      exact ⟨.s (.d (.int (deal n m h : Nat))), by simp only [DL.e_var, DL.e_c, DL.e_bin, DL.e_un, DL.e_anil, DL.e_acons, DL.e_fn, DL.e_if, DL.e_b, DL.e_and, DL.e_or, DL.e_not, DL.e_tv, DL.dNotV, DL.e_andV, DL.e_orV, DL.e_tru, DL.e_tup, DL.e_lst, DL.e_call, DL.e_nil, DL.e_seq, DL.e_ret, DL.e_expr, DL.e_sif, DL.e_asg, DL.e_set, DL.e_gnone, DL.e_gsome, DL.e_unp, DL.e_for, DL.e_seqI, DL.e_any, DL.any_l, DL.any_t, DL.any_s, DL.any_d, DL.e_lc, DL.e_sl, DL.e_oI, DL.e_oN, DL.q_str, DL.q_int, DL.qa_str, DL.qa_int, DL.on1_, DL.on2_, DL.len_l, DL.len_t, DL.len_d, DL.tru_b, DL.tru_l, DL.tru_t, DL.tru_n, DL.kgt_, DL.kin_, DL.it_l, DL.it_t, DL.tup_l, DL.tup_t, DL.list_l, DL.list_t, DL.rev_l, DL.rev_t, DL.md_l, DL.md_t, DL.isi_, DL.ix_0, DL.ix_1, DL.ix_2, DL.ix_3, DL.sl_1, DL.in_t2, DL.in_t3, DL.in_t4, DL.is_none, DL.add_ii, DL.sub_ii, DL.neg_i, DL.lt_ii, DL.le_ii, DL.gt_ii, DL.ge_ii, DL.bd_some, DL.bd_none, DL.ch_true, DL.ch_false, DL.nxt_nx, DL.nxt_rt, DL.nxt_bk, DL.nxt_ct, DL.nxt_none, DL.slR_d, DL.slR_m, DL.sl_s, DL.sl_nw, DL.vw_d, DL.vws_nil, DL.vws_cons, DL.dats_nil, DL.dats_cons, DL.dat_d, DL.rtB_b, DL.beq_t, DL.beq_f, DL.xor_f, DL.xor_t, DL.sD, DL.wipeS, DL.SZ, Nat.reduceLeDiff, Nat.reduceEqDiff, List.length_cons, List.length_nil, List.append_nil, List.nil_append, List.cons_append, List.replicate, List.getElem?_cons_zero, List.getElem?_cons_succ, List.set_cons_zero, List.set_cons_succ, if_true, ite_true, ite_false, Nat.reduceSub, Nat.reduceAdd, Nat.sub_self, List.any_cons, List.any_nil, Bool.or_false, Bool.or_true, Bool.true_or, Bool.false_or, Bool.and_true, Bool.and_false, Bool.true_and, Bool.false_and, Bool.not_true, Bool.not_false, Bool.not_not, decide_true, decide_false, decide_eq_true_eq, List.isEmpty_nil, List.isEmpty_cons, Nat.zero_add, List.map_id, s3, nb], rfl⟩) (by rw [List.length_range]; show 0 + _ ≤ 16777216; omega)
  refine fnD_new (v := []) rfl ?_
  show (sSeq _ _) [.d (.int (n : Int)), .d (.int (m : Int)), .un, .un] u = _
  rw [e_seq, t1, nxt_nx, e_ret, e_lc, it, bd_some]
  simp only [wipeS, List.set_cons_zero, List.set_cons_succ]
  rw [show lcL _ _ _ _ _ _ _ _ = _ from lc]
  simp [dealL]
end PX
end

section
set_option maxRecDepth 100000
set_option maxHeartbeats 1000000
/-! dealt, by the law -/
namespace PX
open PySem L2 DL
def intL (l : List Nat) : List D := l.map fun b => .int (b : Nat)
theorem app_ok (xs : List D) (x : D) (h : xs.length < 100000) : appF (.lst xs) [x] = some (.none, .lst (xs ++ [x])) := by
  show (if _ then _ else _) = _
  rw [if_pos (by show _ < 16777216; omega)]
noncomputable abbrev bodyF : DS := sSeq (sExpr (dMut "list" appF 2 (daCons (dBin modD (dVar 0) (dC (.int 2))) daNil))) (sAsg (gSet 0) (dBin fdivD (dVar 0) (dC (.int 2))))
theorem figures (m : Int) (u : List Ob) : ∀ (k : Nat) (acc : List D), acc.length + (bits k).length ≤ 1000 →
    sWhile (dB (dBin gtD (dVar 0) (dC (.int 0)))) bodyF [.d (.int (k : Int)), .d (.int m), .m u.length, .un, .un, .un, .un] (pile u acc) = some (.nx [.d (.int 0), .d (.int m), .m u.length, .un, .un, .un, .un] (pile u (acc ++ intL (bits k)))) := by
  intro k
  induction k using Nat.strongRecOn with
  | _ k ih =>
    intro acc hl
    by_cases h0 : k = 0
    · subst h0
      rw [bits_0]
      have g : gtD (.int ((0 : Nat) : Int)) (.int 0) = sD (.bool false) := rfl
      refine (wh_end (u1 := pile u acc) (by simp only [DL.e_var, DL.e_c, DL.e_bin, DL.e_un, DL.e_anil, DL.e_acons, DL.e_fn, DL.e_if, DL.e_b, DL.e_and, DL.e_or, DL.e_not, DL.e_tv, DL.dNotV, DL.e_andV, DL.e_orV, DL.e_tru, DL.e_tup, DL.e_lst, DL.e_call, DL.e_nil, DL.e_seq, DL.e_ret, DL.e_expr, DL.e_sif, DL.e_asg, DL.e_set, DL.e_gnone, DL.e_gsome, DL.e_unp, DL.e_for, DL.e_seqI, DL.e_any, DL.any_l, DL.any_t, DL.any_s, DL.any_d, DL.e_lc, DL.e_sl, DL.e_oI, DL.e_oN, DL.q_str, DL.q_int, DL.qa_str, DL.qa_int, DL.on1_, DL.on2_, DL.len_l, DL.len_t, DL.len_d, DL.tru_b, DL.tru_l, DL.tru_t, DL.tru_n, DL.kgt_, DL.kin_, DL.it_l, DL.it_t, DL.tup_l, DL.tup_t, DL.list_l, DL.list_t, DL.rev_l, DL.rev_t, DL.md_l, DL.md_t, DL.isi_, DL.ix_0, DL.ix_1, DL.ix_2, DL.ix_3, DL.sl_1, DL.in_t2, DL.in_t3, DL.in_t4, DL.is_none, DL.add_ii, DL.sub_ii, DL.neg_i, DL.lt_ii, DL.le_ii, DL.gt_ii, DL.ge_ii, DL.bd_some, DL.bd_none, DL.ch_true, DL.ch_false, DL.nxt_nx, DL.nxt_rt, DL.nxt_bk, DL.nxt_ct, DL.nxt_none, DL.slR_d, DL.slR_m, DL.sl_s, DL.sl_nw, DL.vw_d, DL.vws_nil, DL.vws_cons, DL.dats_nil, DL.dats_cons, DL.dat_d, DL.rtB_b, DL.beq_t, DL.beq_f, DL.xor_f, DL.xor_t, DL.sD, DL.wipeS, DL.SZ, Nat.reduceLeDiff, Nat.reduceEqDiff, List.length_cons, List.length_nil, List.append_nil, List.nil_append, List.cons_append, List.replicate, List.getElem?_cons_zero, List.getElem?_cons_succ, List.set_cons_zero, List.set_cons_succ, if_true, ite_true, ite_false, Nat.reduceSub, Nat.reduceAdd, Nat.sub_self, List.any_cons, List.any_nil, Bool.or_false, Bool.or_true, Bool.true_or, Bool.false_or, Bool.and_true, Bool.and_false, Bool.true_and, Bool.false_and, Bool.not_true, Bool.not_false, Bool.not_not, decide_true, decide_false, decide_eq_true_eq, List.isEmpty_nil, List.isEmpty_cons, Nat.zero_add, List.map_id, g])).trans ?_
      simp [intL]
    · have g : gtD (.int (k : Int)) (.int 0) = sD (.bool true) := by rw [gt_ii, decide_eq_true (by omega)]
      rw [bits_pos (by omega), List.length_cons] at hl
      have hm : modD (.int (k : Int)) (.int 2) = sD (.int (((k % 2 : Nat)) : Int)) := by rw [mod_ii _ _ (by decide)]; simp
      have hd : fdivD (.int (k : Int)) (.int 2) = sD (.int (((k / 2 : Nat)) : Int)) := by rw [fdiv_ii _ _ (by decide) (by decide)]; simp
      have a1 := mut_ok (T := "list") (f := appF) (i := 2) (j := u.length) (da := daCons (dBin modD (dVar 0) (dC (.int 2))) daNil) (ss := [.d (.int ((k % 2 : Nat) : Int))]) (xs := [.int ((k % 2 : Nat) : Int)]) (ρ := [.d (.int (k : Int)), .d (.int m), .m u.length, .un, .un, .un, .un]) (u := pile u acc) (u1 := pile u acc) (u2 := pile u acc) (m0 := .lst acc) (m := .lst acc) rfl (pile_at ..) ⟨rfl, rfl⟩ (by simp only [DL.e_var, DL.e_c, DL.e_bin, DL.e_un, DL.e_anil, DL.e_acons, DL.e_fn, DL.e_if, DL.e_b, DL.e_and, DL.e_or, DL.e_not, DL.e_tv, DL.dNotV, DL.e_andV, DL.e_orV, DL.e_tru, DL.e_tup, DL.e_lst, DL.e_call, DL.e_nil, DL.e_seq, DL.e_ret, DL.e_expr, DL.e_sif, DL.e_asg, DL.e_set, DL.e_gnone, DL.e_gsome, DL.e_unp, DL.e_for, DL.e_seqI, DL.e_any, DL.any_l, DL.any_t, DL.any_s, DL.any_d, DL.e_lc, DL.e_sl, DL.e_oI, DL.e_oN, DL.q_str, DL.q_int, DL.qa_str, DL.qa_int, DL.on1_, DL.on2_, DL.len_l, DL.len_t, DL.len_d, DL.tru_b, DL.tru_l, DL.tru_t, DL.tru_n, DL.kgt_, DL.kin_, DL.it_l, DL.it_t, DL.tup_l, DL.tup_t, DL.list_l, DL.list_t, DL.rev_l, DL.rev_t, DL.md_l, DL.md_t, DL.isi_, DL.ix_0, DL.ix_1, DL.ix_2, DL.ix_3, DL.sl_1, DL.in_t2, DL.in_t3, DL.in_t4, DL.is_none, DL.add_ii, DL.sub_ii, DL.neg_i, DL.lt_ii, DL.le_ii, DL.gt_ii, DL.ge_ii, DL.bd_some, DL.bd_none, DL.ch_true, DL.ch_false, DL.nxt_nx, DL.nxt_rt, DL.nxt_bk, DL.nxt_ct, DL.nxt_none, DL.slR_d, DL.slR_m, DL.sl_s, DL.sl_nw, DL.vw_d, DL.vws_nil, DL.vws_cons, DL.dats_nil, DL.dats_cons, DL.dat_d, DL.rtB_b, DL.beq_t, DL.beq_f, DL.xor_f, DL.xor_t, DL.sD, DL.wipeS, DL.SZ, Nat.reduceLeDiff, Nat.reduceEqDiff, List.length_cons, List.length_nil, List.append_nil, List.nil_append, List.cons_append, List.replicate, List.getElem?_cons_zero, List.getElem?_cons_succ, List.set_cons_zero, List.set_cons_succ, if_true, ite_true, ite_false, Nat.reduceSub, Nat.reduceAdd, Nat.sub_self, List.any_cons, List.any_nil, Bool.or_false, Bool.or_true, Bool.true_or, Bool.false_or, Bool.and_true, Bool.and_false, Bool.true_and, Bool.false_and, Bool.not_true, Bool.not_false, Bool.not_not, decide_true, decide_false, decide_eq_true_eq, List.isEmpty_nil, List.isEmpty_cons, Nat.zero_add, List.map_id, hm]) rfl (pile_at ..) (app_ok acc _ (by omega)) rfl
      rw [pile_set] at a1
      have b1 : bodyF [.d (.int (k : Int)), .d (.int m), .m u.length, .un, .un, .un, .un] (pile u acc) = some (.nx [.d (.int ((k / 2 : Nat) : Int)), .d (.int m), .m u.length, .un, .un, .un, .un] (pile u (acc ++ [.int ((k % 2 : Nat) : Int)]))) := by
        unfold bodyF
        rw [e_seq, e_expr, a1, bd_some, nxt_nx]
        simp only [DL.e_var, DL.e_c, DL.e_bin, DL.e_un, DL.e_anil, DL.e_acons, DL.e_fn, DL.e_if, DL.e_b, DL.e_and, DL.e_or, DL.e_not, DL.e_tv, DL.dNotV, DL.e_andV, DL.e_orV, DL.e_tru, DL.e_tup, DL.e_lst, DL.e_call, DL.e_nil, DL.e_seq, DL.e_ret, DL.e_expr, DL.e_sif, DL.e_asg, DL.e_set, DL.e_gnone, DL.e_gsome, DL.e_unp, DL.e_for, DL.e_seqI, DL.e_any, DL.any_l, DL.any_t, DL.any_s, DL.any_d, DL.e_lc, DL.e_sl, DL.e_oI, DL.e_oN, DL.q_str, DL.q_int, DL.qa_str, DL.qa_int, DL.on1_, DL.on2_, DL.len_l, DL.len_t, DL.len_d, DL.tru_b, DL.tru_l, DL.tru_t, DL.tru_n, DL.kgt_, DL.kin_, DL.it_l, DL.it_t, DL.tup_l, DL.tup_t, DL.list_l, DL.list_t, DL.rev_l, DL.rev_t, DL.md_l, DL.md_t, DL.isi_, DL.ix_0, DL.ix_1, DL.ix_2, DL.ix_3, DL.sl_1, DL.in_t2, DL.in_t3, DL.in_t4, DL.is_none, DL.add_ii, DL.sub_ii, DL.neg_i, DL.lt_ii, DL.le_ii, DL.gt_ii, DL.ge_ii, DL.bd_some, DL.bd_none, DL.ch_true, DL.ch_false, DL.nxt_nx, DL.nxt_rt, DL.nxt_bk, DL.nxt_ct, DL.nxt_none, DL.slR_d, DL.slR_m, DL.sl_s, DL.sl_nw, DL.vw_d, DL.vws_nil, DL.vws_cons, DL.dats_nil, DL.dats_cons, DL.dat_d, DL.rtB_b, DL.beq_t, DL.beq_f, DL.xor_f, DL.xor_t, DL.sD, DL.wipeS, DL.SZ, Nat.reduceLeDiff, Nat.reduceEqDiff, List.length_cons, List.length_nil, List.append_nil, List.nil_append, List.cons_append, List.replicate, List.getElem?_cons_zero, List.getElem?_cons_succ, List.set_cons_zero, List.set_cons_succ, if_true, ite_true, ite_false, Nat.reduceSub, Nat.reduceAdd, Nat.sub_self, List.any_cons, List.any_nil, Bool.or_false, Bool.or_true, Bool.true_or, Bool.false_or, Bool.and_true, Bool.and_false, Bool.true_and, Bool.false_and, Bool.not_true, Bool.not_false, Bool.not_not, decide_true, decide_false, decide_eq_true_eq, List.isEmpty_nil, List.isEmpty_cons, Nat.zero_add, List.map_id, hd]
      refine (wh_nx (u1 := pile u acc) (by simp only [DL.e_var, DL.e_c, DL.e_bin, DL.e_un, DL.e_anil, DL.e_acons, DL.e_fn, DL.e_if, DL.e_b, DL.e_and, DL.e_or, DL.e_not, DL.e_tv, DL.dNotV, DL.e_andV, DL.e_orV, DL.e_tru, DL.e_tup, DL.e_lst, DL.e_call, DL.e_nil, DL.e_seq, DL.e_ret, DL.e_expr, DL.e_sif, DL.e_asg, DL.e_set, DL.e_gnone, DL.e_gsome, DL.e_unp, DL.e_for, DL.e_seqI, DL.e_any, DL.any_l, DL.any_t, DL.any_s, DL.any_d, DL.e_lc, DL.e_sl, DL.e_oI, DL.e_oN, DL.q_str, DL.q_int, DL.qa_str, DL.qa_int, DL.on1_, DL.on2_, DL.len_l, DL.len_t, DL.len_d, DL.tru_b, DL.tru_l, DL.tru_t, DL.tru_n, DL.kgt_, DL.kin_, DL.it_l, DL.it_t, DL.tup_l, DL.tup_t, DL.list_l, DL.list_t, DL.rev_l, DL.rev_t, DL.md_l, DL.md_t, DL.isi_, DL.ix_0, DL.ix_1, DL.ix_2, DL.ix_3, DL.sl_1, DL.in_t2, DL.in_t3, DL.in_t4, DL.is_none, DL.add_ii, DL.sub_ii, DL.neg_i, DL.lt_ii, DL.le_ii, DL.gt_ii, DL.ge_ii, DL.bd_some, DL.bd_none, DL.ch_true, DL.ch_false, DL.nxt_nx, DL.nxt_rt, DL.nxt_bk, DL.nxt_ct, DL.nxt_none, DL.slR_d, DL.slR_m, DL.sl_s, DL.sl_nw, DL.vw_d, DL.vws_nil, DL.vws_cons, DL.dats_nil, DL.dats_cons, DL.dat_d, DL.rtB_b, DL.beq_t, DL.beq_f, DL.xor_f, DL.xor_t, DL.sD, DL.wipeS, DL.SZ, Nat.reduceLeDiff, Nat.reduceEqDiff, List.length_cons, List.length_nil, List.append_nil, List.nil_append, List.cons_append, List.replicate, List.getElem?_cons_zero, List.getElem?_cons_succ, List.set_cons_zero, List.set_cons_succ, if_true, ite_true, ite_false, Nat.reduceSub, Nat.reduceAdd, Nat.sub_self, List.any_cons, List.any_nil, Bool.or_false, Bool.or_true, Bool.true_or, Bool.false_or, Bool.and_true, Bool.and_false, Bool.true_and, Bool.false_and, Bool.not_true, Bool.not_false, Bool.not_not, decide_true, decide_false, decide_eq_true_eq, List.isEmpty_nil, List.isEmpty_cons, Nat.zero_add, List.map_id, g]) b1 (ih (k / 2) (by omega) _ (by rw [List.length_append]; simp; omega))).trans ?_
      rw [bits_pos (n := k) (by omega)]
      simp [intL]
noncomputable abbrev bodyI : DS := sIf (dB (dBin (eqA true) (dBin modD (dVar 6) (dVar 1)) (dVar 4))) (sAsg (gSet 5) (dBin addD (dBin mulD (dVar 5) (dC (.int 2))) (dBin ixA (dVar 2) (dVar 6)))) sNil
theorem inner (m h : Nat) (hm : 0 < m) (L : List Nat) (j : Nat) (W : List Ob) (vw : (Sl.m j).vw W = some (.list (intL L))) (x3 : Sl) : ∀ (ps : List Nat) (a : Nat) (x6 : Sl), (∀ p ∈ ps, p < L.length) →
    ∃ y6, forL none (gSet 6) bodyI (ps.map fun p : Nat => .int (p : Int)) [.d (.int 0), .d (.int (m : Int)), .m j, x3, .d (.int (h : Int)), .d (.int (a : Int)), x6] W
      = some (.nx [.d (.int 0), .d (.int (m : Int)), .m j, x3, .d (.int (h : Int)), .d (.int ((ps.foldl (fun a p => if p % m = h then a * 2 + L.getD p 0 else a) a : Nat) : Int)), y6] W)
  | [], a, x6, _ => ⟨x6, for_nil⟩
  | p :: r, a, x6, hp => by
    have hpl := hp p List.mem_cons_self
    have hmod : modD (.int (p : Int)) (.int (m : Int)) = sD (.int ((p % m : Nat) : Int)) := by rw [mod_ii _ _ (by omega)]; simp
    have step : bodyI [.d (.int 0), .d (.int (m : Int)), .m j, x3, .d (.int (h : Int)), .d (.int (a : Int)), .d (.int (p : Int))] W = some (.nx [.d (.int 0), .d (.int (m : Int)), .m j, x3, .d (.int (h : Int)), .d (.int (((if p % m = h then a * 2 + L.getD p 0 else a) : Nat) : Int)), .d (.int (p : Int))] W) := by
      unfold bodyI
      by_cases e : p % m = h
      · have q : eqA true (.int ((p % m : Nat) : Int)) (.int (h : Int)) = sD (.bool true) := by rw [qa_int, e, beq_self_eq_true]; rfl
        have mu : mulD (.int (a : Int)) (.int 2) = sD (.int ((a : Int) * 2)) := mul_ii _ _ (.inr (by decide))
        obtain ⟨x, hx, hx2, ex⟩ := ixl_get (intL L) (p : Int) (by omega) (by unfold intL; rw [List.length_map]; omega)
        have hx3 : x = .int (L.getD p 0 : Nat) := by
          unfold intL at hx2
          rw [show ((p : Nat) : Int).toNat = p by omega, List.getElem?_map, List.getElem?_eq_getElem hpl] at hx2
          rw [List.getD_eq_getElem?_getD, List.getElem?_eq_getElem hpl]
          exact (Option.some.inj hx2).symm
        rw [hx3] at ex
        simp only [DL.e_var, DL.e_c, DL.e_bin, DL.e_un, DL.e_anil, DL.e_acons, DL.e_fn, DL.e_if, DL.e_b, DL.e_and, DL.e_or, DL.e_not, DL.e_tv, DL.dNotV, DL.e_andV, DL.e_orV, DL.e_tru, DL.e_tup, DL.e_lst, DL.e_call, DL.e_nil, DL.e_seq, DL.e_ret, DL.e_expr, DL.e_sif, DL.e_asg, DL.e_set, DL.e_gnone, DL.e_gsome, DL.e_unp, DL.e_for, DL.e_seqI, DL.e_any, DL.any_l, DL.any_t, DL.any_s, DL.any_d, DL.e_lc, DL.e_sl, DL.e_oI, DL.e_oN, DL.q_str, DL.q_int, DL.qa_str, DL.qa_int, DL.on1_, DL.on2_, DL.len_l, DL.len_t, DL.len_d, DL.tru_b, DL.tru_l, DL.tru_t, DL.tru_n, DL.kgt_, DL.kin_, DL.it_l, DL.it_t, DL.tup_l, DL.tup_t, DL.list_l, DL.list_t, DL.rev_l, DL.rev_t, DL.md_l, DL.md_t, DL.isi_, DL.ix_0, DL.ix_1, DL.ix_2, DL.ix_3, DL.sl_1, DL.in_t2, DL.in_t3, DL.in_t4, DL.is_none, DL.add_ii, DL.sub_ii, DL.neg_i, DL.lt_ii, DL.le_ii, DL.gt_ii, DL.ge_ii, DL.bd_some, DL.bd_none, DL.ch_true, DL.ch_false, DL.nxt_nx, DL.nxt_rt, DL.nxt_bk, DL.nxt_ct, DL.nxt_none, DL.slR_d, DL.slR_m, DL.sl_s, DL.sl_nw, DL.vw_d, DL.vws_nil, DL.vws_cons, DL.dats_nil, DL.dats_cons, DL.dat_d, DL.rtB_b, DL.beq_t, DL.beq_f, DL.xor_f, DL.xor_t, DL.sD, DL.wipeS, DL.SZ, Nat.reduceLeDiff, Nat.reduceEqDiff, List.length_cons, List.length_nil, List.append_nil, List.nil_append, List.cons_append, List.replicate, List.getElem?_cons_zero, List.getElem?_cons_succ, List.set_cons_zero, List.set_cons_succ, if_true, ite_true, ite_false, Nat.reduceSub, Nat.reduceAdd, Nat.sub_self, List.any_cons, List.any_nil, Bool.or_false, Bool.or_true, Bool.true_or, Bool.false_or, Bool.and_true, Bool.and_false, Bool.true_and, Bool.false_and, Bool.not_true, Bool.not_false, Bool.not_not, decide_true, decide_false, decide_eq_true_eq, List.isEmpty_nil, List.isEmpty_cons, Nat.zero_add, List.map_id, hmod, q, mu, vw, ex]
        rw [if_pos e]
        simp
      · have q : eqA true (.int ((p % m : Nat) : Int)) (.int (h : Int)) = sD (.bool false) := by
          rw [qa_int]
          have : (((p % m : Nat) : Int) == (h : Int)) = false := by rw [beq_eq_false_iff_ne]; omega
          rw [this]; rfl
        simp only [DL.e_var, DL.e_c, DL.e_bin, DL.e_un, DL.e_anil, DL.e_acons, DL.e_fn, DL.e_if, DL.e_b, DL.e_and, DL.e_or, DL.e_not, DL.e_tv, DL.dNotV, DL.e_andV, DL.e_orV, DL.e_tru, DL.e_tup, DL.e_lst, DL.e_call, DL.e_nil, DL.e_seq, DL.e_ret, DL.e_expr, DL.e_sif, DL.e_asg, DL.e_set, DL.e_gnone, DL.e_gsome, DL.e_unp, DL.e_for, DL.e_seqI, DL.e_any, DL.any_l, DL.any_t, DL.any_s, DL.any_d, DL.e_lc, DL.e_sl, DL.e_oI, DL.e_oN, DL.q_str, DL.q_int, DL.qa_str, DL.qa_int, DL.on1_, DL.on2_, DL.len_l, DL.len_t, DL.len_d, DL.tru_b, DL.tru_l, DL.tru_t, DL.tru_n, DL.kgt_, DL.kin_, DL.it_l, DL.it_t, DL.tup_l, DL.tup_t, DL.list_l, DL.list_t, DL.rev_l, DL.rev_t, DL.md_l, DL.md_t, DL.isi_, DL.ix_0, DL.ix_1, DL.ix_2, DL.ix_3, DL.sl_1, DL.in_t2, DL.in_t3, DL.in_t4, DL.is_none, DL.add_ii, DL.sub_ii, DL.neg_i, DL.lt_ii, DL.le_ii, DL.gt_ii, DL.ge_ii, DL.bd_some, DL.bd_none, DL.ch_true, DL.ch_false, DL.nxt_nx, DL.nxt_rt, DL.nxt_bk, DL.nxt_ct, DL.nxt_none, DL.slR_d, DL.slR_m, DL.sl_s, DL.sl_nw, DL.vw_d, DL.vws_nil, DL.vws_cons, DL.dats_nil, DL.dats_cons, DL.dat_d, DL.rtB_b, DL.beq_t, DL.beq_f, DL.xor_f, DL.xor_t, DL.sD, DL.wipeS, DL.SZ, Nat.reduceLeDiff, Nat.reduceEqDiff, List.length_cons, List.length_nil, List.append_nil, List.nil_append, List.cons_append, List.replicate, List.getElem?_cons_zero, List.getElem?_cons_succ, List.set_cons_zero, List.set_cons_succ, if_true, ite_true, ite_false, Nat.reduceSub, Nat.reduceAdd, Nat.sub_self, List.any_cons, List.any_nil, Bool.or_false, Bool.or_true, Bool.true_or, Bool.false_or, Bool.and_true, Bool.and_false, Bool.true_and, Bool.false_and, Bool.not_true, Bool.not_false, Bool.not_not, decide_true, decide_false, decide_eq_true_eq, List.isEmpty_nil, List.isEmpty_cons, Nat.zero_add, List.map_id, hmod, q]
        rw [if_neg e]
    obtain ⟨y6, ih⟩ := inner m h hm L j W vw x3 r (if p % m = h then a * 2 + L.getD p 0 else a) (.d (.int (p : Int))) (fun q hq => hp q (List.mem_cons_of_mem _ hq))
    refine ⟨y6, ?_⟩
    rw [List.map_cons, for_nx (ρ1 := [.d (.int 0), .d (.int (m : Int)), .m j, x3, .d (.int (h : Int)), .d (.int (a : Int)), .d (.int (p : Int))]) rfl step, ih]
    rfl
abbrev duo (u : List Ob) (A B : List D) : List Ob := u ++ [⟨true, .lst A⟩] ++ [⟨true, .lst B⟩]
theorem duo_1 (u : List Ob) (A B : List D) : (duo u A B)[u.length]? = some ⟨true, .lst A⟩ := by simp
theorem duo_2 (u : List Ob) (A B : List D) : (duo u A B)[u.length + 1]? = some ⟨true, .lst B⟩ := by simp
theorem duo_set (u : List Ob) (A B C : List D) : (duo u A B).set (u.length + 1) ⟨true, .lst C⟩ = duo u A C := by
  unfold duo
  rw [List.set_append_right _ _ (by simp)]
  simp
noncomputable abbrev bodyH : DS := sSeq (sAsg (gSet 5) (dC (.int 0)))
  (sSeq (sFor (diAny (dUn revA (dUn lrgD (dFn (on1 lenD) (daCons (dVar 2) daNil))))) (gSet 6) bodyI)
  (sExpr (dMut "list" appF 3 (daCons (dVar 5) daNil))))
theorem holder (m h : Nat) (hm : h < m) (n : Nat) (hn : Few n) (u : List Ob) (B : List D) (hB : B.length < 100000) (x5 x6 : Sl) :
    ∃ y6, bodyH [.d (.int 0), .d (.int (m : Int)), .m u.length, .m (u.length + 1), .d (.int (h : Int)), x5, x6] (duo u (intL (bits n)) B)
      = some (.nx [.d (.int 0), .d (.int (m : Int)), .m u.length, .m (u.length + 1), .d (.int (h : Int)), .d (.int (deal n m h : Nat)), y6] (duo u (intL (bits n)) (B ++ [.int (deal n m h : Nat)]))) := by
  have vw : (Sl.m u.length).vw (duo u (intL (bits n)) B) = some (.list (intL (bits n))) := by
    show (match (duo u (intL (bits n)) B)[u.length]? with | some b => b.o.vw | none => none) = _
    rw [duo_1]; rfl
  have bl := bits_len hn
  have ll : (intL (bits n)).length = (bits n).length := List.length_map ..
  have lr : lrgD (.int ((intL (bits n)).length : Nat)) = some (.nw (.lst ((List.range (bits n).length).map fun i : Nat => .int (i : Int)))) := by
    show (if _ then _ else _) = _
    rw [if_pos ⟨by omega, by omega⟩, show (((intL (bits n)).length : Nat) : Int).toNat = (bits n).length by omega]
  have rv : revA (.list ((List.range (bits n).length).map fun i : Nat => PyData.int (i : Int))) = some (.nw (.lst ((List.range (bits n).length).reverse.map fun i : Nat => .int (i : Int)))) := by
    show some (Rt.nw (.lst (List.reverse _))) = _
    rw [List.map_reverse]
  obtain ⟨y6, q⟩ := inner m h (by omega) (bits n) u.length (duo u (intL (bits n)) B) vw (.m (u.length + 1)) (List.range (bits n).length).reverse 0 x6 (fun p hp => List.mem_range.mp (List.mem_reverse.mp hp))
  rw [List.foldl_reverse] at q
  have q2 := law_deal n hm
  rw [q2] at q
  refine ⟨y6, ?_⟩
  have t1 : sAsg (gSet 5) (dC (.int 0)) [.d (.int 0), .d (.int (m : Int)), .m u.length, .m (u.length + 1), .d (.int (h : Int)), x5, x6] (duo u (intL (bits n)) B) = some (.nx [.d (.int 0), .d (.int (m : Int)), .m u.length, .m (u.length + 1), .d (.int (h : Int)), .d (.int ((0 : Nat) : Int)), x6] (duo u (intL (bits n)) B)) := by
    simp only [DL.e_var, DL.e_c, DL.e_bin, DL.e_un, DL.e_anil, DL.e_acons, DL.e_fn, DL.e_if, DL.e_b, DL.e_and, DL.e_or, DL.e_not, DL.e_tv, DL.dNotV, DL.e_andV, DL.e_orV, DL.e_tru, DL.e_tup, DL.e_lst, DL.e_call, DL.e_nil, DL.e_seq, DL.e_ret, DL.e_expr, DL.e_sif, DL.e_asg, DL.e_set, DL.e_gnone, DL.e_gsome, DL.e_unp, DL.e_for, DL.e_seqI, DL.e_any, DL.any_l, DL.any_t, DL.any_s, DL.any_d, DL.e_lc, DL.e_sl, DL.e_oI, DL.e_oN, DL.q_str, DL.q_int, DL.qa_str, DL.qa_int, DL.on1_, DL.on2_, DL.len_l, DL.len_t, DL.len_d, DL.tru_b, DL.tru_l, DL.tru_t, DL.tru_n, DL.kgt_, DL.kin_, DL.it_l, DL.it_t, DL.tup_l, DL.tup_t, DL.list_l, DL.list_t, DL.rev_l, DL.rev_t, DL.md_l, DL.md_t, DL.isi_, DL.ix_0, DL.ix_1, DL.ix_2, DL.ix_3, DL.sl_1, DL.in_t2, DL.in_t3, DL.in_t4, DL.is_none, DL.add_ii, DL.sub_ii, DL.neg_i, DL.lt_ii, DL.le_ii, DL.gt_ii, DL.ge_ii, DL.bd_some, DL.bd_none, DL.ch_true, DL.ch_false, DL.nxt_nx, DL.nxt_rt, DL.nxt_bk, DL.nxt_ct, DL.nxt_none, DL.slR_d, DL.slR_m, DL.sl_s, DL.sl_nw, DL.vw_d, DL.vws_nil, DL.vws_cons, DL.dats_nil, DL.dats_cons, DL.dat_d, DL.rtB_b, DL.beq_t, DL.beq_f, DL.xor_f, DL.xor_t, DL.sD, DL.wipeS, DL.SZ, Nat.reduceLeDiff, Nat.reduceEqDiff, List.length_cons, List.length_nil, List.append_nil, List.nil_append, List.cons_append, List.replicate, List.getElem?_cons_zero, List.getElem?_cons_succ, List.set_cons_zero, List.set_cons_succ, if_true, ite_true, ite_false, Nat.reduceSub, Nat.reduceAdd, Nat.sub_self, List.any_cons, List.any_nil, Bool.or_false, Bool.or_true, Bool.true_or, Bool.false_or, Bool.and_true, Bool.and_false, Bool.true_and, Bool.false_and, Bool.not_true, Bool.not_false, Bool.not_not, decide_true, decide_false, decide_eq_true_eq, List.isEmpty_nil, List.isEmpty_cons, Nat.zero_add, List.map_id]
    rfl
  have it : diAny (dUn revA (dUn lrgD (dFn (on1 lenD) (daCons (dVar 2) daNil)))) [.d (.int 0), .d (.int (m : Int)), .m u.length, .m (u.length + 1), .d (.int (h : Int)), .d (.int ((0 : Nat) : Int)), x6] (duo u (intL (bits n)) B) = some (((List.range (bits n).length).reverse.map fun i : Nat => .int (i : Int), none), duo u (intL (bits n)) B) := by
    simp only [DL.e_var, DL.e_c, DL.e_bin, DL.e_un, DL.e_anil, DL.e_acons, DL.e_fn, DL.e_if, DL.e_b, DL.e_and, DL.e_or, DL.e_not, DL.e_tv, DL.dNotV, DL.e_andV, DL.e_orV, DL.e_tru, DL.e_tup, DL.e_lst, DL.e_call, DL.e_nil, DL.e_seq, DL.e_ret, DL.e_expr, DL.e_sif, DL.e_asg, DL.e_set, DL.e_gnone, DL.e_gsome, DL.e_unp, DL.e_for, DL.e_seqI, DL.e_any, DL.any_l, DL.any_t, DL.any_s, DL.any_d, DL.e_lc, DL.e_sl, DL.e_oI, DL.e_oN, DL.q_str, DL.q_int, DL.qa_str, DL.qa_int, DL.on1_, DL.on2_, DL.len_l, DL.len_t, DL.len_d, DL.tru_b, DL.tru_l, DL.tru_t, DL.tru_n, DL.kgt_, DL.kin_, DL.it_l, DL.it_t, DL.tup_l, DL.tup_t, DL.list_l, DL.list_t, DL.rev_l, DL.rev_t, DL.md_l, DL.md_t, DL.isi_, DL.ix_0, DL.ix_1, DL.ix_2, DL.ix_3, DL.sl_1, DL.in_t2, DL.in_t3, DL.in_t4, DL.is_none, DL.add_ii, DL.sub_ii, DL.neg_i, DL.lt_ii, DL.le_ii, DL.gt_ii, DL.ge_ii, DL.bd_some, DL.bd_none, DL.ch_true, DL.ch_false, DL.nxt_nx, DL.nxt_rt, DL.nxt_bk, DL.nxt_ct, DL.nxt_none, DL.slR_d, DL.slR_m, DL.sl_s, DL.sl_nw, DL.vw_d, DL.vws_nil, DL.vws_cons, DL.dats_nil, DL.dats_cons, DL.dat_d, DL.rtB_b, DL.beq_t, DL.beq_f, DL.xor_f, DL.xor_t, DL.sD, DL.wipeS, DL.SZ, Nat.reduceLeDiff, Nat.reduceEqDiff, List.length_cons, List.length_nil, List.append_nil, List.nil_append, List.cons_append, List.replicate, List.getElem?_cons_zero, List.getElem?_cons_succ, List.set_cons_zero, List.set_cons_succ, if_true, ite_true, ite_false, Nat.reduceSub, Nat.reduceAdd, Nat.sub_self, List.any_cons, List.any_nil, Bool.or_false, Bool.or_true, Bool.true_or, Bool.false_or, Bool.and_true, Bool.and_false, Bool.true_and, Bool.false_and, Bool.not_true, Bool.not_false, Bool.not_not, decide_true, decide_false, decide_eq_true_eq, List.isEmpty_nil, List.isEmpty_cons, Nat.zero_add, List.map_id, vw, lr, rv]
  have a1 := mut_ok (T := "list") (f := appF) (i := 3) (j := u.length + 1) (da := daCons (dVar 5) daNil) (ss := [.d (.int (deal n m h : Nat))]) (xs := [.int (deal n m h : Nat)]) (ρ := [.d (.int 0), .d (.int (m : Int)), .m u.length, .m (u.length + 1), .d (.int (h : Int)), .d (.int (deal n m h : Nat)), y6]) (u := duo u (intL (bits n)) B) (u1 := duo u (intL (bits n)) B) (u2 := duo u (intL (bits n)) B) (m0 := .lst B) (m := .lst B) rfl (duo_2 ..) ⟨rfl, rfl⟩ (by simp only [DL.e_var, DL.e_c, DL.e_bin, DL.e_un, DL.e_anil, DL.e_acons, DL.e_fn, DL.e_if, DL.e_b, DL.e_and, DL.e_or, DL.e_not, DL.e_tv, DL.dNotV, DL.e_andV, DL.e_orV, DL.e_tru, DL.e_tup, DL.e_lst, DL.e_call, DL.e_nil, DL.e_seq, DL.e_ret, DL.e_expr, DL.e_sif, DL.e_asg, DL.e_set, DL.e_gnone, DL.e_gsome, DL.e_unp, DL.e_for, DL.e_seqI, DL.e_any, DL.any_l, DL.any_t, DL.any_s, DL.any_d, DL.e_lc, DL.e_sl, DL.e_oI, DL.e_oN, DL.q_str, DL.q_int, DL.qa_str, DL.qa_int, DL.on1_, DL.on2_, DL.len_l, DL.len_t, DL.len_d, DL.tru_b, DL.tru_l, DL.tru_t, DL.tru_n, DL.kgt_, DL.kin_, DL.it_l, DL.it_t, DL.tup_l, DL.tup_t, DL.list_l, DL.list_t, DL.rev_l, DL.rev_t, DL.md_l, DL.md_t, DL.isi_, DL.ix_0, DL.ix_1, DL.ix_2, DL.ix_3, DL.sl_1, DL.in_t2, DL.in_t3, DL.in_t4, DL.is_none, DL.add_ii, DL.sub_ii, DL.neg_i, DL.lt_ii, DL.le_ii, DL.gt_ii, DL.ge_ii, DL.bd_some, DL.bd_none, DL.ch_true, DL.ch_false, DL.nxt_nx, DL.nxt_rt, DL.nxt_bk, DL.nxt_ct, DL.nxt_none, DL.slR_d, DL.slR_m, DL.sl_s, DL.sl_nw, DL.vw_d, DL.vws_nil, DL.vws_cons, DL.dats_nil, DL.dats_cons, DL.dat_d, DL.rtB_b, DL.beq_t, DL.beq_f, DL.xor_f, DL.xor_t, DL.sD, DL.wipeS, DL.SZ, Nat.reduceLeDiff, Nat.reduceEqDiff, List.length_cons, List.length_nil, List.append_nil, List.nil_append, List.cons_append, List.replicate, List.getElem?_cons_zero, List.getElem?_cons_succ, List.set_cons_zero, List.set_cons_succ, if_true, ite_true, ite_false, Nat.reduceSub, Nat.reduceAdd, Nat.sub_self, List.any_cons, List.any_nil, Bool.or_false, Bool.or_true, Bool.true_or, Bool.false_or, Bool.and_true, Bool.and_false, Bool.true_and, Bool.false_and, Bool.not_true, Bool.not_false, Bool.not_not, decide_true, decide_false, decide_eq_true_eq, List.isEmpty_nil, List.isEmpty_cons, Nat.zero_add, List.map_id]) rfl (duo_2 ..) (app_ok B _ hB) rfl
  rw [duo_set] at a1
  unfold bodyH
  rw [e_seq, t1, nxt_nx, e_seq, e_for, it, bd_some]
  dsimp only
  rw [q, nxt_nx, e_expr, a1, bd_some]
theorem holders (m : Nat) (n : Nat) (hn : Few n) (hm : m ≤ 1000) (u : List Ob) : ∀ (k : Nat) (x4 x5 x6 : Sl), k ≤ m →
    ∃ y4 y5 y6, forL none (gSet 4) bodyH ((List.range' (m - k) k).map fun i : Nat => .int (0 + (i : Int))) [.d (.int 0), .d (.int (m : Int)), .m u.length, .m (u.length + 1), x4, x5, x6] (duo u (intL (bits n)) ((List.range (m - k)).map fun h => .int (deal n m h : Nat)))
      = some (.nx [.d (.int 0), .d (.int (m : Int)), .m u.length, .m (u.length + 1), y4, y5, y6] (duo u (intL (bits n)) (dealL n m)))
  | 0, x4, x5, x6, _ => ⟨x4, x5, x6, for_nil⟩
  | k + 1, x4, x5, x6, hk => by
    obtain ⟨y6, e⟩ := holder m (m - (k + 1)) (by omega) n hn u ((List.range (m - (k + 1))).map fun h => .int (deal n m h : Nat)) (by rw [List.length_map, List.length_range]; omega) x5 x6
    obtain ⟨z4, z5, z6, ih⟩ := holders m n hn hm u k (.d (.int ((m - (k + 1) : Nat) : Int))) (.d (.int (deal n m (m - (k + 1)) : Nat))) y6 (by omega)
    refine ⟨z4, z5, z6, ?_⟩
    have es : (List.range (m - (k + 1))).map (fun h => PyData.int (deal n m h : Nat)) ++ [.int (deal n m (m - (k + 1)) : Nat)] = (List.range (m - k)).map fun h => PyData.int (deal n m h : Nat) := by
      rw [show m - k = (m - (k + 1)) + 1 by omega, List.range_succ, List.map_append]; rfl
    rw [es] at e
    rw [List.range'_succ, List.map_cons, for_nx (ρ1 := [.d (.int 0), .d (.int (m : Int)), .m u.length, .m (u.length + 1), .d (.int ((m - (k + 1) : Nat) : Int)), x5, x6]) (by rw [Int.zero_add]; rfl) e, show m - (k + 1) + 1 = m - k by omega, ih]
theorem law_dealt_ok (n m : Nat) (hn : Few n) (hm : 0 < m) (hm2 : m ≤ 1000) (u : List Ob) : F__law_dealt [.d (.int (n : Int)), .d (.int (m : Int))] u = some (.nw (.lst (dealL n m)), u) := by
  have o1 : sOwn 2 (dLst daNil) [.d (.int (n : Int)), .d (.int (m : Int)), .un, .un, .un, .un, .un] u = some (.nx [.d (.int (n : Int)), .d (.int (m : Int)), .m u.length, .un, .un, .un, .un] (pile u [])) := e_own 2 _ (by simp only [DL.e_var, DL.e_c, DL.e_bin, DL.e_un, DL.e_anil, DL.e_acons, DL.e_fn, DL.e_if, DL.e_b, DL.e_and, DL.e_or, DL.e_not, DL.e_tv, DL.dNotV, DL.e_andV, DL.e_orV, DL.e_tru, DL.e_tup, DL.e_lst, DL.e_call, DL.e_nil, DL.e_seq, DL.e_ret, DL.e_expr, DL.e_sif, DL.e_asg, DL.e_set, DL.e_gnone, DL.e_gsome, DL.e_unp, DL.e_for, DL.e_seqI, DL.e_any, DL.any_l, DL.any_t, DL.any_s, DL.any_d, DL.e_lc, DL.e_sl, DL.e_oI, DL.e_oN, DL.q_str, DL.q_int, DL.qa_str, DL.qa_int, DL.on1_, DL.on2_, DL.len_l, DL.len_t, DL.len_d, DL.tru_b, DL.tru_l, DL.tru_t, DL.tru_n, DL.kgt_, DL.kin_, DL.it_l, DL.it_t, DL.tup_l, DL.tup_t, DL.list_l, DL.list_t, DL.rev_l, DL.rev_t, DL.md_l, DL.md_t, DL.isi_, DL.ix_0, DL.ix_1, DL.ix_2, DL.ix_3, DL.sl_1, DL.in_t2, DL.in_t3, DL.in_t4, DL.is_none, DL.add_ii, DL.sub_ii, DL.neg_i, DL.lt_ii, DL.le_ii, DL.gt_ii, DL.ge_ii, DL.bd_some, DL.bd_none, DL.ch_true, DL.ch_false, DL.nxt_nx, DL.nxt_rt, DL.nxt_bk, DL.nxt_ct, DL.nxt_none, DL.slR_d, DL.slR_m, DL.sl_s, DL.sl_nw, DL.vw_d, DL.vws_nil, DL.vws_cons, DL.dats_nil, DL.dats_cons, DL.dat_d, DL.rtB_b, DL.beq_t, DL.beq_f, DL.xor_f, DL.xor_t, DL.sD, DL.wipeS, DL.SZ, Nat.reduceLeDiff, Nat.reduceEqDiff, List.length_cons, List.length_nil, List.append_nil, List.nil_append, List.cons_append, List.replicate, List.getElem?_cons_zero, List.getElem?_cons_succ, List.set_cons_zero, List.set_cons_succ, if_true, ite_true, ite_false, Nat.reduceSub, Nat.reduceAdd, Nat.sub_self, List.any_cons, List.any_nil, Bool.or_false, Bool.or_true, Bool.true_or, Bool.false_or, Bool.and_true, Bool.and_false, Bool.true_and, Bool.false_and, Bool.not_true, Bool.not_false, Bool.not_not, decide_true, decide_false, decide_eq_true_eq, List.isEmpty_nil, List.isEmpty_cons, Nat.zero_add, List.map_id])
  have f1 := figures (m : Int) u n [] (by have := bits_len hn; simp; omega)
  rw [List.nil_append] at f1
  have o2 : sOwn 3 (dLst daNil) [.d (.int 0), .d (.int (m : Int)), .m u.length, .un, .un, .un, .un] (pile u (intL (bits n))) = some (.nx [.d (.int 0), .d (.int (m : Int)), .m u.length, .m (u.length + 1), .un, .un, .un] (duo u (intL (bits n)) [])) := by
    have := e_own 3 (dLst daNil) (ρ := [.d (.int 0), .d (.int (m : Int)), .m u.length, .un, .un, .un, .un]) (u := pile u (intL (bits n))) (u1 := pile u (intL (bits n))) (xs := []) (by simp only [DL.e_var, DL.e_c, DL.e_bin, DL.e_un, DL.e_anil, DL.e_acons, DL.e_fn, DL.e_if, DL.e_b, DL.e_and, DL.e_or, DL.e_not, DL.e_tv, DL.dNotV, DL.e_andV, DL.e_orV, DL.e_tru, DL.e_tup, DL.e_lst, DL.e_call, DL.e_nil, DL.e_seq, DL.e_ret, DL.e_expr, DL.e_sif, DL.e_asg, DL.e_set, DL.e_gnone, DL.e_gsome, DL.e_unp, DL.e_for, DL.e_seqI, DL.e_any, DL.any_l, DL.any_t, DL.any_s, DL.any_d, DL.e_lc, DL.e_sl, DL.e_oI, DL.e_oN, DL.q_str, DL.q_int, DL.qa_str, DL.qa_int, DL.on1_, DL.on2_, DL.len_l, DL.len_t, DL.len_d, DL.tru_b, DL.tru_l, DL.tru_t, DL.tru_n, DL.kgt_, DL.kin_, DL.it_l, DL.it_t, DL.tup_l, DL.tup_t, DL.list_l, DL.list_t, DL.rev_l, DL.rev_t, DL.md_l, DL.md_t, DL.isi_, DL.ix_0, DL.ix_1, DL.ix_2, DL.ix_3, DL.sl_1, DL.in_t2, DL.in_t3, DL.in_t4, DL.is_none, DL.add_ii, DL.sub_ii, DL.neg_i, DL.lt_ii, DL.le_ii, DL.gt_ii, DL.ge_ii, DL.bd_some, DL.bd_none, DL.ch_true, DL.ch_false, DL.nxt_nx, DL.nxt_rt, DL.nxt_bk, DL.nxt_ct, DL.nxt_none, DL.slR_d, DL.slR_m, DL.sl_s, DL.sl_nw, DL.vw_d, DL.vws_nil, DL.vws_cons, DL.dats_nil, DL.dats_cons, DL.dat_d, DL.rtB_b, DL.beq_t, DL.beq_f, DL.xor_f, DL.xor_t, DL.sD, DL.wipeS, DL.SZ, Nat.reduceLeDiff, Nat.reduceEqDiff, List.length_cons, List.length_nil, List.append_nil, List.nil_append, List.cons_append, List.replicate, List.getElem?_cons_zero, List.getElem?_cons_succ, List.set_cons_zero, List.set_cons_succ, if_true, ite_true, ite_false, Nat.reduceSub, Nat.reduceAdd, Nat.sub_self, List.any_cons, List.any_nil, Bool.or_false, Bool.or_true, Bool.true_or, Bool.false_or, Bool.and_true, Bool.and_false, Bool.true_and, Bool.false_and, Bool.not_true, Bool.not_false, Bool.not_not, decide_true, decide_false, decide_eq_true_eq, List.isEmpty_nil, List.isEmpty_cons, Nat.zero_add, List.map_id])
    rw [this]
    simp
  obtain ⟨y4, y5, y6, q⟩ := holders m n hn hm2 u m .un .un .un (Nat.le_refl _)
  rw [Nat.sub_self, ← List.range_eq_range', List.range_zero, List.map_nil] at q
  have it : diRng1 (dVar 1) [.d (.int 0), .d (.int (m : Int)), .m u.length, .m (u.length + 1), .un, .un, .un] (duo u (intL (bits n)) []) = some (((List.range m).map fun h : Nat => PyData.int (0 + (h : Nat)), none), duo u (intL (bits n)) []) := by
    unfold diRng1
    simp only [e_var, List.getElem?_cons_zero, List.getElem?_cons_succ, slR_d]
    rw [if_pos ⟨by omega, by omega⟩]
    rfl
  refine fnD_own (v := [⟨true, .lst (intL (bits n))⟩]) rfl ?_
  show (sSeq _ _) [.d (.int (n : Int)), .d (.int (m : Int)), .un, .un, .un, .un, .un] u = _
  rw [e_seq, o1, nxt_nx, e_seq, show sWhile _ _ _ _ = _ from f1, nxt_nx, e_seq, o2, nxt_nx, e_seq, e_for, it, bd_some]
  dsimp only
  rw [show forL _ _ _ _ _ _ = _ from q, nxt_nx]
  simp only [DL.e_var, DL.e_c, DL.e_bin, DL.e_un, DL.e_anil, DL.e_acons, DL.e_fn, DL.e_if, DL.e_b, DL.e_and, DL.e_or, DL.e_not, DL.e_tv, DL.dNotV, DL.e_andV, DL.e_orV, DL.e_tru, DL.e_tup, DL.e_lst, DL.e_call, DL.e_nil, DL.e_seq, DL.e_ret, DL.e_expr, DL.e_sif, DL.e_asg, DL.e_set, DL.e_gnone, DL.e_gsome, DL.e_unp, DL.e_for, DL.e_seqI, DL.e_any, DL.any_l, DL.any_t, DL.any_s, DL.any_d, DL.e_lc, DL.e_sl, DL.e_oI, DL.e_oN, DL.q_str, DL.q_int, DL.qa_str, DL.qa_int, DL.on1_, DL.on2_, DL.len_l, DL.len_t, DL.len_d, DL.tru_b, DL.tru_l, DL.tru_t, DL.tru_n, DL.kgt_, DL.kin_, DL.it_l, DL.it_t, DL.tup_l, DL.tup_t, DL.list_l, DL.list_t, DL.rev_l, DL.rev_t, DL.md_l, DL.md_t, DL.isi_, DL.ix_0, DL.ix_1, DL.ix_2, DL.ix_3, DL.sl_1, DL.in_t2, DL.in_t3, DL.in_t4, DL.is_none, DL.add_ii, DL.sub_ii, DL.neg_i, DL.lt_ii, DL.le_ii, DL.gt_ii, DL.ge_ii, DL.bd_some, DL.bd_none, DL.ch_true, DL.ch_false, DL.nxt_nx, DL.nxt_rt, DL.nxt_bk, DL.nxt_ct, DL.nxt_none, DL.slR_d, DL.slR_m, DL.sl_s, DL.sl_nw, DL.vw_d, DL.vws_nil, DL.vws_cons, DL.dats_nil, DL.dats_cons, DL.dat_d, DL.rtB_b, DL.beq_t, DL.beq_f, DL.xor_f, DL.xor_t, DL.sD, DL.wipeS, DL.SZ, Nat.reduceLeDiff, Nat.reduceEqDiff, List.length_cons, List.length_nil, List.append_nil, List.nil_append, List.cons_append, List.replicate, List.getElem?_cons_zero, List.getElem?_cons_succ, List.set_cons_zero, List.set_cons_succ, if_true, ite_true, ite_false, Nat.reduceSub, Nat.reduceAdd, Nat.sub_self, List.any_cons, List.any_nil, Bool.or_false, Bool.or_true, Bool.true_or, Bool.false_or, Bool.and_true, Bool.and_false, Bool.true_and, Bool.false_and, Bool.not_true, Bool.not_false, Bool.not_not, decide_true, decide_false, decide_eq_true_eq, List.isEmpty_nil, List.isEmpty_cons, Nat.zero_add, List.map_id]
end PX
end

section
set_option maxRecDepth 100000
set_option maxHeartbeats 1000000
/-! the law -/
namespace PX
open PySem L2 DL
theorem deal_plain (n m : Nat) (h : m ≤ 1000) : (∀ x ∈ dealL n m, plainD x = true) ∧ (∀ x ∈ dealL n m, PyData.depth x < 60) ∧ (dealL n m).length ≤ 1000000 := by
  refine ⟨fun x hx => ?_, fun x hx => ?_, by unfold dealL; rw [List.length_map, List.length_range]; omega⟩ <;>
  · obtain ⟨i, _, rfl⟩ := List.mem_map.mp hx
    first | rfl | (show 0 < 60; decide)
theorem anew_T (p : Pen) (j : Nat) (u : List Ob) (hu : penAt u j p) : F__law_anew [.m j] u = some (.s (.m j), u.set j ⟨true, (Pen.mk p.cells p.n 0).mo⟩) := by
  have hj := hu.lt
  have a2 := put_pen2 (ρ := [.m j]) (de := dC (.int 0)) (r := .s (.d (.int 0))) (x := 0) hu rfl rfl rfl
  unfold F__law_anew fnD
  rw [if_pos (show [Sl.m j].length = 1 from rfl)]
  have e : b__law_anew ([.m j] ++ List.replicate (1 - 1) .un) u = some (.rt (.s (.m j)) (u.set j ⟨true, (Pen.mk p.cells p.n 0).mo⟩)) := by
    show (sSeq _ _) [.m j] u = _
    rw [e_seq, a2, nxt_nx]
    simp only [DL.e_var, DL.e_c, DL.e_bin, DL.e_un, DL.e_anil, DL.e_acons, DL.e_fn, DL.e_if, DL.e_b, DL.e_and, DL.e_or, DL.e_not, DL.e_tv, DL.dNotV, DL.e_andV, DL.e_orV, DL.e_tru, DL.e_tup, DL.e_lst, DL.e_call, DL.e_nil, DL.e_seq, DL.e_ret, DL.e_expr, DL.e_sif, DL.e_asg, DL.e_set, DL.e_gnone, DL.e_gsome, DL.e_unp, DL.e_for, DL.e_seqI, DL.e_any, DL.any_l, DL.any_t, DL.any_s, DL.any_d, DL.e_lc, DL.e_sl, DL.e_oI, DL.e_oN, DL.q_str, DL.q_int, DL.qa_str, DL.qa_int, DL.on1_, DL.on2_, DL.len_l, DL.len_t, DL.len_d, DL.tru_b, DL.tru_l, DL.tru_t, DL.tru_n, DL.kgt_, DL.kin_, DL.it_l, DL.it_t, DL.tup_l, DL.tup_t, DL.list_l, DL.list_t, DL.rev_l, DL.rev_t, DL.md_l, DL.md_t, DL.isi_, DL.ix_0, DL.ix_1, DL.ix_2, DL.ix_3, DL.sl_1, DL.in_t2, DL.in_t3, DL.in_t4, DL.is_none, DL.add_ii, DL.sub_ii, DL.neg_i, DL.lt_ii, DL.le_ii, DL.gt_ii, DL.ge_ii, DL.bd_some, DL.bd_none, DL.ch_true, DL.ch_false, DL.nxt_nx, DL.nxt_rt, DL.nxt_bk, DL.nxt_ct, DL.nxt_none, DL.slR_d, DL.slR_m, DL.sl_s, DL.sl_nw, DL.vw_d, DL.vws_nil, DL.vws_cons, DL.dats_nil, DL.dats_cons, DL.dat_d, DL.rtB_b, DL.beq_t, DL.beq_f, DL.xor_f, DL.xor_t, DL.sD, DL.wipeS, DL.SZ, Nat.reduceLeDiff, Nat.reduceEqDiff, List.length_cons, List.length_nil, List.append_nil, List.nil_append, List.cons_append, List.replicate, List.getElem?_cons_zero, List.getElem?_cons_succ, List.set_cons_zero, List.set_cons_succ, if_true, ite_true, ite_false, Nat.reduceSub, Nat.reduceAdd, Nat.sub_self, List.any_cons, List.any_nil, Bool.or_false, Bool.or_true, Bool.true_or, Bool.false_or, Bool.and_true, Bool.and_false, Bool.true_and, Bool.false_and, Bool.not_true, Bool.not_false, Bool.not_not, decide_true, decide_false, decide_eq_true_eq, List.isEmpty_nil, List.isEmpty_cons, Nat.zero_add, List.map_id]
  rw [e]
  simp only [fin]
  rw [if_pos hj, List.take_of_length_le (by rw [List.length_set]; exact Nat.le_refl _)]
/-- twice as much, so often -/
theorem twice (j : Nat) (u : List Ob) : ∀ (l : List D) (a : Nat) (x1 x3 : Sl), ∃ y3, forL none (gSet 3) (sAsg (gSet 2) (dBin mulD (dVar 2) (dC (.int 2)))) l [.m j, x1, .d (.int (a : Int)), x3] u = some (.nx [.m j, x1, .d (.int ((a * 2 ^ l.length : Nat) : Int)), y3] u)
  | [], a, x1, x3 => ⟨x3, by rw [List.length_nil, Nat.pow_zero, Nat.mul_one]; exact for_nil⟩
  | d :: r, a, x1, x3 => by
    obtain ⟨y3, ih⟩ := twice j u r (a * 2) x1 (.d d)
    refine ⟨y3, ?_⟩
    have mu : mulD (.int (a : Int)) (.int 2) = sD (.int ((a * 2 : Nat) : Int)) := (mul_ii _ _ (.inr (by decide))).trans (by simp)
    have st : sAsg (gSet 2) (dBin mulD (dVar 2) (dC (.int 2))) [.m j, x1, .d (.int (a : Int)), .d d] u = some (.nx [.m j, x1, .d (.int ((a * 2 : Nat) : Int)), .d d] u) := by simp only [DL.e_var, DL.e_c, DL.e_bin, DL.e_un, DL.e_anil, DL.e_acons, DL.e_fn, DL.e_if, DL.e_b, DL.e_and, DL.e_or, DL.e_not, DL.e_tv, DL.dNotV, DL.e_andV, DL.e_orV, DL.e_tru, DL.e_tup, DL.e_lst, DL.e_call, DL.e_nil, DL.e_seq, DL.e_ret, DL.e_expr, DL.e_sif, DL.e_asg, DL.e_set, DL.e_gnone, DL.e_gsome, DL.e_unp, DL.e_for, DL.e_seqI, DL.e_any, DL.any_l, DL.any_t, DL.any_s, DL.any_d, DL.e_lc, DL.e_sl, DL.e_oI, DL.e_oN, DL.q_str, DL.q_int, DL.qa_str, DL.qa_int, DL.on1_, DL.on2_, DL.len_l, DL.len_t, DL.len_d, DL.tru_b, DL.tru_l, DL.tru_t, DL.tru_n, DL.kgt_, DL.kin_, DL.it_l, DL.it_t, DL.tup_l, DL.tup_t, DL.list_l, DL.list_t, DL.rev_l, DL.rev_t, DL.md_l, DL.md_t, DL.isi_, DL.ix_0, DL.ix_1, DL.ix_2, DL.ix_3, DL.sl_1, DL.in_t2, DL.in_t3, DL.in_t4, DL.is_none, DL.add_ii, DL.sub_ii, DL.neg_i, DL.lt_ii, DL.le_ii, DL.gt_ii, DL.ge_ii, DL.bd_some, DL.bd_none, DL.ch_true, DL.ch_false, DL.nxt_nx, DL.nxt_rt, DL.nxt_bk, DL.nxt_ct, DL.nxt_none, DL.slR_d, DL.slR_m, DL.sl_s, DL.sl_nw, DL.vw_d, DL.vws_nil, DL.vws_cons, DL.dats_nil, DL.dats_cons, DL.dat_d, DL.rtB_b, DL.beq_t, DL.beq_f, DL.xor_f, DL.xor_t, DL.sD, DL.wipeS, DL.SZ, Nat.reduceLeDiff, Nat.reduceEqDiff, List.length_cons, List.length_nil, List.append_nil, List.nil_append, List.cons_append, List.replicate, List.getElem?_cons_zero, List.getElem?_cons_succ, List.set_cons_zero, List.set_cons_succ, if_true, ite_true, ite_false, Nat.reduceSub, Nat.reduceAdd, Nat.sub_self, List.any_cons, List.any_nil, Bool.or_false, Bool.or_true, Bool.true_or, Bool.false_or, Bool.and_true, Bool.and_false, Bool.true_and, Bool.false_and, Bool.not_true, Bool.not_false, Bool.not_not, decide_true, decide_false, decide_eq_true_eq, List.isEmpty_nil, List.isEmpty_cons, Nat.zero_add, List.map_id, mu]
    rw [for_nx (ρ1 := [.m j, x1, .d (.int (a : Int)), .d d]) rfl st, ih, List.length_cons, Nat.pow_succ]
    rw [show a * 2 * 2 ^ r.length = a * (2 ^ r.length * 2) by rw [Nat.mul_assoc, Nat.mul_comm 2]]
theorem some_number_T (p : Pen) (j : Nat) (u : List Ob) (hu : penAt u j p) (hn : p.n + 10 < 2 ^ 31) : ∃ (n : Nat) (q : Pen), n < 2 ^ 70 ∧ q.n ≤ p.n + 3 ∧ F__law_some_number [.m j] u = some (.s (.d (.int (n : Int))), u.set j ⟨true, q.mo⟩) := by
  have hn' : p.n + 10 < 2147483648 := hn
  obtain ⟨k, q, k0, k1, q1, e1⟩ := take_T p j u hu 5 (by decide) (by decide) (by omega)
  have hq : penAt (u.set j ⟨true, q.mo⟩) j q := hu.set q
  have t1 : sAsg (gSet 1) (dCall F__law_take 2 (daCons (dVar 0) (daCons (dC (.int 5)) daNil))) [.m j, .un, .un, .un] u = some (.nx [.m j, .d (.int k), .un, .un] (u.set j ⟨true, q.mo⟩)) := by simp only [DL.e_var, DL.e_c, DL.e_bin, DL.e_un, DL.e_anil, DL.e_acons, DL.e_fn, DL.e_if, DL.e_b, DL.e_and, DL.e_or, DL.e_not, DL.e_tv, DL.dNotV, DL.e_andV, DL.e_orV, DL.e_tru, DL.e_tup, DL.e_lst, DL.e_call, DL.e_nil, DL.e_seq, DL.e_ret, DL.e_expr, DL.e_sif, DL.e_asg, DL.e_set, DL.e_gnone, DL.e_gsome, DL.e_unp, DL.e_for, DL.e_seqI, DL.e_any, DL.any_l, DL.any_t, DL.any_s, DL.any_d, DL.e_lc, DL.e_sl, DL.e_oI, DL.e_oN, DL.q_str, DL.q_int, DL.qa_str, DL.qa_int, DL.on1_, DL.on2_, DL.len_l, DL.len_t, DL.len_d, DL.tru_b, DL.tru_l, DL.tru_t, DL.tru_n, DL.kgt_, DL.kin_, DL.it_l, DL.it_t, DL.tup_l, DL.tup_t, DL.list_l, DL.list_t, DL.rev_l, DL.rev_t, DL.md_l, DL.md_t, DL.isi_, DL.ix_0, DL.ix_1, DL.ix_2, DL.ix_3, DL.sl_1, DL.in_t2, DL.in_t3, DL.in_t4, DL.is_none, DL.add_ii, DL.sub_ii, DL.neg_i, DL.lt_ii, DL.le_ii, DL.gt_ii, DL.ge_ii, DL.bd_some, DL.bd_none, DL.ch_true, DL.ch_false, DL.nxt_nx, DL.nxt_rt, DL.nxt_bk, DL.nxt_ct, DL.nxt_none, DL.slR_d, DL.slR_m, DL.sl_s, DL.sl_nw, DL.vw_d, DL.vws_nil, DL.vws_cons, DL.dats_nil, DL.dats_cons, DL.dat_d, DL.rtB_b, DL.beq_t, DL.beq_f, DL.xor_f, DL.xor_t, DL.sD, DL.wipeS, DL.SZ, Nat.reduceLeDiff, Nat.reduceEqDiff, List.length_cons, List.length_nil, List.append_nil, List.nil_append, List.cons_append, List.replicate, List.getElem?_cons_zero, List.getElem?_cons_succ, List.set_cons_zero, List.set_cons_succ, if_true, ite_true, ite_false, Nat.reduceSub, Nat.reduceAdd, Nat.sub_self, List.any_cons, List.any_nil, Bool.or_false, Bool.or_true, Bool.true_or, Bool.false_or, Bool.and_true, Bool.and_false, Bool.true_and, Bool.false_and, Bool.not_true, Bool.not_false, Bool.not_not, decide_true, decide_false, decide_eq_true_eq, List.isEmpty_nil, List.isEmpty_cons, Nat.zero_add, List.map_id, e1]
  have fin : ∀ (n : Nat) (q2 : Pen), n < 2 ^ 70 → q2.n ≤ p.n + 3 → (sSeq (sIf (dB (dBin ltD (dVar 1) (dC (.int 2)))) (sRet (dCall F__law_take 2 (daCons (dVar 0) (daCons (dBin ixA (dLst (daCons (dC (.int 12)) (daCons (dC (.int 400)) daNil))) (dVar 1)) daNil)))) sNil)
  (sSeq (sIf (dB (dBin (eqA true) (dVar 1) (dC (.int 2)))) (sSeq (sAsg (gSet 2) (dC (.int 1)))
  (sSeq (sFor (diRng1 (dCall F__law_take 2 (daCons (dVar 0) (daCons (dC (.int 40)) daNil)))) (gSet 3) (sAsg (gSet 2) (dBin mulD (dVar 2) (dC (.int 2)))))
  (sRet (dBin addD (dVar 2) (dCall F__law_take 2 (daCons (dVar 0) (daCons (dC (.int 3)) daNil))))))) sNil)
  (sRet (dIf (dB (dBin (eqA true) (dVar 1) (dC (.int 3)))) (dCall F__law_take 2 (daCons (dVar 0) (daCons (dBin powD (dC (.int 10)) (dC (.int 18))) daNil))) (dBin mulD (dCall F__law_take 2 (daCons (dVar 0) (daCons (dBin powD (dC (.int 10)) (dC (.int 6))) daNil))) (dC (.int 1024))))))) [.m j, .d (.int k), .un, .un] (u.set j ⟨true, q.mo⟩) = some (.rt (.s (.d (.int (n : Int)))) (u.set j ⟨true, q2.mo⟩)) →
      ∃ (n : Nat) (q : Pen), n < 2 ^ 70 ∧ q.n ≤ p.n + 3 ∧ F__law_some_number [.m j] u = some (.s (.d (.int (n : Int))), u.set j ⟨true, q.mo⟩) := by
    intro n q2 a b e
    refine ⟨n, q2, a, b, fnD_eff (v := []) rfl ?_ (by simp)⟩
    show (sSeq _ _) [.m j, .un, .un, .un] u = _
    rw [e_seq, t1, nxt_nx, show (sSeq _ _) _ _ = _ from e, List.append_nil]
  by_cases c1 : k < 2
  · have l1 : ltD (.int k) (.int 2) = sD (.bool true) := by rw [lt_ii, decide_eq_true c1]
    obtain ⟨m, i1, m0, m1⟩ : ∃ m : Int, ixA (.list [.int 12, .int 400]) (.int k) = sD (.int m) ∧ 0 < m ∧ m ≤ 400 := by
      have : k = 0 ∨ k = 1 := by omega
      rcases this with rfl | rfl <;> exact ⟨_, rfl, by decide, by decide⟩
    obtain ⟨d, q2, d0, d1, qn, e2⟩ := take_T q j _ hq m m0 (by omega) (by omega)
    rw [List.set_set] at e2
    obtain ⟨d, rfl⟩ := Int.eq_ofNat_of_zero_le d0
    refine fin d q2 (by omega) (by omega) ?_
    simp only [DL.e_var, DL.e_c, DL.e_bin, DL.e_un, DL.e_anil, DL.e_acons, DL.e_fn, DL.e_if, DL.e_b, DL.e_and, DL.e_or, DL.e_not, DL.e_tv, DL.dNotV, DL.e_andV, DL.e_orV, DL.e_tru, DL.e_tup, DL.e_lst, DL.e_call, DL.e_nil, DL.e_seq, DL.e_ret, DL.e_expr, DL.e_sif, DL.e_asg, DL.e_set, DL.e_gnone, DL.e_gsome, DL.e_unp, DL.e_for, DL.e_seqI, DL.e_any, DL.any_l, DL.any_t, DL.any_s, DL.any_d, DL.e_lc, DL.e_sl, DL.e_oI, DL.e_oN, DL.q_str, DL.q_int, DL.qa_str, DL.qa_int, DL.on1_, DL.on2_, DL.len_l, DL.len_t, DL.len_d, DL.tru_b, DL.tru_l, DL.tru_t, DL.tru_n, DL.kgt_, DL.kin_, DL.it_l, DL.it_t, DL.tup_l, DL.tup_t, DL.list_l, DL.list_t, DL.rev_l, DL.rev_t, DL.md_l, DL.md_t, DL.isi_, DL.ix_0, DL.ix_1, DL.ix_2, DL.ix_3, DL.sl_1, DL.in_t2, DL.in_t3, DL.in_t4, DL.is_none, DL.add_ii, DL.sub_ii, DL.neg_i, DL.lt_ii, DL.le_ii, DL.gt_ii, DL.ge_ii, DL.bd_some, DL.bd_none, DL.ch_true, DL.ch_false, DL.nxt_nx, DL.nxt_rt, DL.nxt_bk, DL.nxt_ct, DL.nxt_none, DL.slR_d, DL.slR_m, DL.sl_s, DL.sl_nw, DL.vw_d, DL.vws_nil, DL.vws_cons, DL.dats_nil, DL.dats_cons, DL.dat_d, DL.rtB_b, DL.beq_t, DL.beq_f, DL.xor_f, DL.xor_t, DL.sD, DL.wipeS, DL.SZ, Nat.reduceLeDiff, Nat.reduceEqDiff, List.length_cons, List.length_nil, List.append_nil, List.nil_append, List.cons_append, List.replicate, List.getElem?_cons_zero, List.getElem?_cons_succ, List.set_cons_zero, List.set_cons_succ, if_true, ite_true, ite_false, Nat.reduceSub, Nat.reduceAdd, Nat.sub_self, List.any_cons, List.any_nil, Bool.or_false, Bool.or_true, Bool.true_or, Bool.false_or, Bool.and_true, Bool.and_false, Bool.true_and, Bool.false_and, Bool.not_true, Bool.not_false, Bool.not_not, decide_true, decide_false, decide_eq_true_eq, List.isEmpty_nil, List.isEmpty_cons, Nat.zero_add, List.map_id, l1, i1, e2]
  · have l1 : ltD (.int k) (.int 2) = sD (.bool false) := by rw [lt_ii, decide_eq_false c1]
    by_cases c2 : k = 2
    · have l2 : eqA true (.int k) (.int 2) = sD (.bool true) := by rw [qa_int, c2]; rfl
      obtain ⟨d, q2, d0, d1, qn, e2⟩ := take_T q j _ hq 40 (by decide) (by decide) (by omega)
      rw [List.set_set] at e2
      have hq2 : penAt (u.set j ⟨true, q2.mo⟩) j q2 := hu.set q2
      obtain ⟨d2, q3, f0, f1, qn3, e3⟩ := take_T q2 j _ hq2 3 (by decide) (by decide) (by omega)
      rw [List.set_set] at e3
      obtain ⟨d2, rfl⟩ := Int.eq_ofNat_of_zero_le f0
      obtain ⟨y3, tw⟩ := twice j (u.set j ⟨true, q2.mo⟩) (rngItems 0 d.toNat) 1 (.d (.int k)) .un
      have ln : (rngItems 0 d.toNat).length = d.toNat := by unfold rngItems; rw [List.length_map, List.length_range]
      rw [ln, Nat.one_mul, show ((1 : Nat) : Int) = 1 from rfl] at tw
      have it : diRng1 (dCall F__law_take 2 (daCons (dVar 0) (daCons (dC (.int 40)) daNil))) [.m j, .d (.int k), .d (.int 1), .un] (u.set j ⟨true, q.mo⟩) = some ((rngItems 0 d.toNat, none), u.set j ⟨true, q2.mo⟩) := by
        have : dCall F__law_take 2 (daCons (dVar 0) (daCons (dC (.int 40)) daNil)) [.m j, .d (.int k), .d (.int 1), .un] (u.set j ⟨true, q.mo⟩) = some (.s (.d (.int d)), u.set j ⟨true, q2.mo⟩) := by simp only [DL.e_var, DL.e_c, DL.e_bin, DL.e_un, DL.e_anil, DL.e_acons, DL.e_fn, DL.e_if, DL.e_b, DL.e_and, DL.e_or, DL.e_not, DL.e_tv, DL.dNotV, DL.e_andV, DL.e_orV, DL.e_tru, DL.e_tup, DL.e_lst, DL.e_call, DL.e_nil, DL.e_seq, DL.e_ret, DL.e_expr, DL.e_sif, DL.e_asg, DL.e_set, DL.e_gnone, DL.e_gsome, DL.e_unp, DL.e_for, DL.e_seqI, DL.e_any, DL.any_l, DL.any_t, DL.any_s, DL.any_d, DL.e_lc, DL.e_sl, DL.e_oI, DL.e_oN, DL.q_str, DL.q_int, DL.qa_str, DL.qa_int, DL.on1_, DL.on2_, DL.len_l, DL.len_t, DL.len_d, DL.tru_b, DL.tru_l, DL.tru_t, DL.tru_n, DL.kgt_, DL.kin_, DL.it_l, DL.it_t, DL.tup_l, DL.tup_t, DL.list_l, DL.list_t, DL.rev_l, DL.rev_t, DL.md_l, DL.md_t, DL.isi_, DL.ix_0, DL.ix_1, DL.ix_2, DL.ix_3, DL.sl_1, DL.in_t2, DL.in_t3, DL.in_t4, DL.is_none, DL.add_ii, DL.sub_ii, DL.neg_i, DL.lt_ii, DL.le_ii, DL.gt_ii, DL.ge_ii, DL.bd_some, DL.bd_none, DL.ch_true, DL.ch_false, DL.nxt_nx, DL.nxt_rt, DL.nxt_bk, DL.nxt_ct, DL.nxt_none, DL.slR_d, DL.slR_m, DL.sl_s, DL.sl_nw, DL.vw_d, DL.vws_nil, DL.vws_cons, DL.dats_nil, DL.dats_cons, DL.dat_d, DL.rtB_b, DL.beq_t, DL.beq_f, DL.xor_f, DL.xor_t, DL.sD, DL.wipeS, DL.SZ, Nat.reduceLeDiff, Nat.reduceEqDiff, List.length_cons, List.length_nil, List.append_nil, List.nil_append, List.cons_append, List.replicate, List.getElem?_cons_zero, List.getElem?_cons_succ, List.set_cons_zero, List.set_cons_succ, if_true, ite_true, ite_false, Nat.reduceSub, Nat.reduceAdd, Nat.sub_self, List.any_cons, List.any_nil, Bool.or_false, Bool.or_true, Bool.true_or, Bool.false_or, Bool.and_true, Bool.and_false, Bool.true_and, Bool.false_and, Bool.not_true, Bool.not_false, Bool.not_not, decide_true, decide_false, decide_eq_true_eq, List.isEmpty_nil, List.isEmpty_cons, Nat.zero_add, List.map_id, e2]
        unfold diRng1
        simp only [this]
        rw [if_pos ⟨by omega, by omega⟩]
      have b40 : (2 : Nat) ^ d.toNat ≤ 2 ^ 40 := Nat.pow_le_pow_right (by decide) (by omega)
      have h40 : (2 : Nat) ^ 40 = 1099511627776 := by decide
      have h70 : (2 : Nat) ^ 70 = 1180591620717411303424 := by decide
      refine fin (2 ^ d.toNat + d2) q3 (by omega) (by omega) ?_
      have g1 : sAsg (gSet 2) (dC (.int 1)) [.m j, .d (.int k), .un, .un] (u.set j ⟨true, q.mo⟩) = some (.nx [.m j, .d (.int k), .d (.int 1), .un] (u.set j ⟨true, q.mo⟩)) := by simp only [DL.e_var, DL.e_c, DL.e_bin, DL.e_un, DL.e_anil, DL.e_acons, DL.e_fn, DL.e_if, DL.e_b, DL.e_and, DL.e_or, DL.e_not, DL.e_tv, DL.dNotV, DL.e_andV, DL.e_orV, DL.e_tru, DL.e_tup, DL.e_lst, DL.e_call, DL.e_nil, DL.e_seq, DL.e_ret, DL.e_expr, DL.e_sif, DL.e_asg, DL.e_set, DL.e_gnone, DL.e_gsome, DL.e_unp, DL.e_for, DL.e_seqI, DL.e_any, DL.any_l, DL.any_t, DL.any_s, DL.any_d, DL.e_lc, DL.e_sl, DL.e_oI, DL.e_oN, DL.q_str, DL.q_int, DL.qa_str, DL.qa_int, DL.on1_, DL.on2_, DL.len_l, DL.len_t, DL.len_d, DL.tru_b, DL.tru_l, DL.tru_t, DL.tru_n, DL.kgt_, DL.kin_, DL.it_l, DL.it_t, DL.tup_l, DL.tup_t, DL.list_l, DL.list_t, DL.rev_l, DL.rev_t, DL.md_l, DL.md_t, DL.isi_, DL.ix_0, DL.ix_1, DL.ix_2, DL.ix_3, DL.sl_1, DL.in_t2, DL.in_t3, DL.in_t4, DL.is_none, DL.add_ii, DL.sub_ii, DL.neg_i, DL.lt_ii, DL.le_ii, DL.gt_ii, DL.ge_ii, DL.bd_some, DL.bd_none, DL.ch_true, DL.ch_false, DL.nxt_nx, DL.nxt_rt, DL.nxt_bk, DL.nxt_ct, DL.nxt_none, DL.slR_d, DL.slR_m, DL.sl_s, DL.sl_nw, DL.vw_d, DL.vws_nil, DL.vws_cons, DL.dats_nil, DL.dats_cons, DL.dat_d, DL.rtB_b, DL.beq_t, DL.beq_f, DL.xor_f, DL.xor_t, DL.sD, DL.wipeS, DL.SZ, Nat.reduceLeDiff, Nat.reduceEqDiff, List.length_cons, List.length_nil, List.append_nil, List.nil_append, List.cons_append, List.replicate, List.getElem?_cons_zero, List.getElem?_cons_succ, List.set_cons_zero, List.set_cons_succ, if_true, ite_true, ite_false, Nat.reduceSub, Nat.reduceAdd, Nat.sub_self, List.any_cons, List.any_nil, Bool.or_false, Bool.or_true, Bool.true_or, Bool.false_or, Bool.and_true, Bool.and_false, Bool.true_and, Bool.false_and, Bool.not_true, Bool.not_false, Bool.not_not, decide_true, decide_false, decide_eq_true_eq, List.isEmpty_nil, List.isEmpty_cons, Nat.zero_add, List.map_id]
      have g3 : sRet (dBin addD (dVar 2) (dCall F__law_take 2 (daCons (dVar 0) (daCons (dC (.int 3)) daNil)))) [.m j, .d (.int k), .d (.int ((2 ^ d.toNat : Nat) : Int)), y3] (u.set j ⟨true, q2.mo⟩) = some (.rt (.s (.d (.int ((2 ^ d.toNat + d2 : Nat) : Int)))) (u.set j ⟨true, q3.mo⟩)) := by
        simp only [DL.e_var, DL.e_c, DL.e_bin, DL.e_un, DL.e_anil, DL.e_acons, DL.e_fn, DL.e_if, DL.e_b, DL.e_and, DL.e_or, DL.e_not, DL.e_tv, DL.dNotV, DL.e_andV, DL.e_orV, DL.e_tru, DL.e_tup, DL.e_lst, DL.e_call, DL.e_nil, DL.e_seq, DL.e_ret, DL.e_expr, DL.e_sif, DL.e_asg, DL.e_set, DL.e_gnone, DL.e_gsome, DL.e_unp, DL.e_for, DL.e_seqI, DL.e_any, DL.any_l, DL.any_t, DL.any_s, DL.any_d, DL.e_lc, DL.e_sl, DL.e_oI, DL.e_oN, DL.q_str, DL.q_int, DL.qa_str, DL.qa_int, DL.on1_, DL.on2_, DL.len_l, DL.len_t, DL.len_d, DL.tru_b, DL.tru_l, DL.tru_t, DL.tru_n, DL.kgt_, DL.kin_, DL.it_l, DL.it_t, DL.tup_l, DL.tup_t, DL.list_l, DL.list_t, DL.rev_l, DL.rev_t, DL.md_l, DL.md_t, DL.isi_, DL.ix_0, DL.ix_1, DL.ix_2, DL.ix_3, DL.sl_1, DL.in_t2, DL.in_t3, DL.in_t4, DL.is_none, DL.add_ii, DL.sub_ii, DL.neg_i, DL.lt_ii, DL.le_ii, DL.gt_ii, DL.ge_ii, DL.bd_some, DL.bd_none, DL.ch_true, DL.ch_false, DL.nxt_nx, DL.nxt_rt, DL.nxt_bk, DL.nxt_ct, DL.nxt_none, DL.slR_d, DL.slR_m, DL.sl_s, DL.sl_nw, DL.vw_d, DL.vws_nil, DL.vws_cons, DL.dats_nil, DL.dats_cons, DL.dat_d, DL.rtB_b, DL.beq_t, DL.beq_f, DL.xor_f, DL.xor_t, DL.sD, DL.wipeS, DL.SZ, Nat.reduceLeDiff, Nat.reduceEqDiff, List.length_cons, List.length_nil, List.append_nil, List.nil_append, List.cons_append, List.replicate, List.getElem?_cons_zero, List.getElem?_cons_succ, List.set_cons_zero, List.set_cons_succ, if_true, ite_true, ite_false, Nat.reduceSub, Nat.reduceAdd, Nat.sub_self, List.any_cons, List.any_nil, Bool.or_false, Bool.or_true, Bool.true_or, Bool.false_or, Bool.and_true, Bool.and_false, Bool.true_and, Bool.false_and, Bool.not_true, Bool.not_false, Bool.not_not, decide_true, decide_false, decide_eq_true_eq, List.isEmpty_nil, List.isEmpty_cons, Nat.zero_add, List.map_id, e3]
        rw [Int.natCast_add]
      have a0 : dB (dBin ltD (dVar 1) (dC (.int 2))) [.m j, .d (.int k), .un, .un] (u.set j ⟨true, q.mo⟩) = some (false, u.set j ⟨true, q.mo⟩) := by simp only [DL.e_var, DL.e_c, DL.e_bin, DL.e_un, DL.e_anil, DL.e_acons, DL.e_fn, DL.e_if, DL.e_b, DL.e_and, DL.e_or, DL.e_not, DL.e_tv, DL.dNotV, DL.e_andV, DL.e_orV, DL.e_tru, DL.e_tup, DL.e_lst, DL.e_call, DL.e_nil, DL.e_seq, DL.e_ret, DL.e_expr, DL.e_sif, DL.e_asg, DL.e_set, DL.e_gnone, DL.e_gsome, DL.e_unp, DL.e_for, DL.e_seqI, DL.e_any, DL.any_l, DL.any_t, DL.any_s, DL.any_d, DL.e_lc, DL.e_sl, DL.e_oI, DL.e_oN, DL.q_str, DL.q_int, DL.qa_str, DL.qa_int, DL.on1_, DL.on2_, DL.len_l, DL.len_t, DL.len_d, DL.tru_b, DL.tru_l, DL.tru_t, DL.tru_n, DL.kgt_, DL.kin_, DL.it_l, DL.it_t, DL.tup_l, DL.tup_t, DL.list_l, DL.list_t, DL.rev_l, DL.rev_t, DL.md_l, DL.md_t, DL.isi_, DL.ix_0, DL.ix_1, DL.ix_2, DL.ix_3, DL.sl_1, DL.in_t2, DL.in_t3, DL.in_t4, DL.is_none, DL.add_ii, DL.sub_ii, DL.neg_i, DL.lt_ii, DL.le_ii, DL.gt_ii, DL.ge_ii, DL.bd_some, DL.bd_none, DL.ch_true, DL.ch_false, DL.nxt_nx, DL.nxt_rt, DL.nxt_bk, DL.nxt_ct, DL.nxt_none, DL.slR_d, DL.slR_m, DL.sl_s, DL.sl_nw, DL.vw_d, DL.vws_nil, DL.vws_cons, DL.dats_nil, DL.dats_cons, DL.dat_d, DL.rtB_b, DL.beq_t, DL.beq_f, DL.xor_f, DL.xor_t, DL.sD, DL.wipeS, DL.SZ, Nat.reduceLeDiff, Nat.reduceEqDiff, List.length_cons, List.length_nil, List.append_nil, List.nil_append, List.cons_append, List.replicate, List.getElem?_cons_zero, List.getElem?_cons_succ, List.set_cons_zero, List.set_cons_succ, if_true, ite_true, ite_false, Nat.reduceSub, Nat.reduceAdd, Nat.sub_self, List.any_cons, List.any_nil, Bool.or_false, Bool.or_true, Bool.true_or, Bool.false_or, Bool.and_true, Bool.and_false, Bool.true_and, Bool.false_and, Bool.not_true, Bool.not_false, Bool.not_not, decide_true, decide_false, decide_eq_true_eq, List.isEmpty_nil, List.isEmpty_cons, Nat.zero_add, List.map_id, l1]
      have a1 : dB (dBin (eqA true) (dVar 1) (dC (.int 2))) [.m j, .d (.int k), .un, .un] (u.set j ⟨true, q.mo⟩) = some (true, u.set j ⟨true, q.mo⟩) := by simp only [DL.e_var, DL.e_c, DL.e_bin, DL.e_un, DL.e_anil, DL.e_acons, DL.e_fn, DL.e_if, DL.e_b, DL.e_and, DL.e_or, DL.e_not, DL.e_tv, DL.dNotV, DL.e_andV, DL.e_orV, DL.e_tru, DL.e_tup, DL.e_lst, DL.e_call, DL.e_nil, DL.e_seq, DL.e_ret, DL.e_expr, DL.e_sif, DL.e_asg, DL.e_set, DL.e_gnone, DL.e_gsome, DL.e_unp, DL.e_for, DL.e_seqI, DL.e_any, DL.any_l, DL.any_t, DL.any_s, DL.any_d, DL.e_lc, DL.e_sl, DL.e_oI, DL.e_oN, DL.q_str, DL.q_int, DL.qa_str, DL.qa_int, DL.on1_, DL.on2_, DL.len_l, DL.len_t, DL.len_d, DL.tru_b, DL.tru_l, DL.tru_t, DL.tru_n, DL.kgt_, DL.kin_, DL.it_l, DL.it_t, DL.tup_l, DL.tup_t, DL.list_l, DL.list_t, DL.rev_l, DL.rev_t, DL.md_l, DL.md_t, DL.isi_, DL.ix_0, DL.ix_1, DL.ix_2, DL.ix_3, DL.sl_1, DL.in_t2, DL.in_t3, DL.in_t4, DL.is_none, DL.add_ii, DL.sub_ii, DL.neg_i, DL.lt_ii, DL.le_ii, DL.gt_ii, DL.ge_ii, DL.bd_some, DL.bd_none, DL.ch_true, DL.ch_false, DL.nxt_nx, DL.nxt_rt, DL.nxt_bk, DL.nxt_ct, DL.nxt_none, DL.slR_d, DL.slR_m, DL.sl_s, DL.sl_nw, DL.vw_d, DL.vws_nil, DL.vws_cons, DL.dats_nil, DL.dats_cons, DL.dat_d, DL.rtB_b, DL.beq_t, DL.beq_f, DL.xor_f, DL.xor_t, DL.sD, DL.wipeS, DL.SZ, Nat.reduceLeDiff, Nat.reduceEqDiff, List.length_cons, List.length_nil, List.append_nil, List.nil_append, List.cons_append, List.replicate, List.getElem?_cons_zero, List.getElem?_cons_succ, List.set_cons_zero, List.set_cons_succ, if_true, ite_true, ite_false, Nat.reduceSub, Nat.reduceAdd, Nat.sub_self, List.any_cons, List.any_nil, Bool.or_false, Bool.or_true, Bool.true_or, Bool.false_or, Bool.and_true, Bool.and_false, Bool.true_and, Bool.false_and, Bool.not_true, Bool.not_false, Bool.not_not, decide_true, decide_false, decide_eq_true_eq, List.isEmpty_nil, List.isEmpty_cons, Nat.zero_add, List.map_id, l2]
      rw [e_seq, e_sif, a0, bd_some, ch_false, e_nil, nxt_nx, e_seq, e_sif, a1, bd_some, ch_true, e_seq, g1, nxt_nx, e_seq, e_for, it, bd_some]
      dsimp only
      rw [show forL _ _ _ _ _ _ = _ from tw, nxt_nx, g3, nxt_rt]
    · have l2 : eqA true (.int k) (.int 2) = sD (.bool false) := by
        rw [qa_int]
        have : (k == 2) = false := by rw [beq_eq_false_iff_ne]; exact c2
        rw [this]; rfl
      by_cases c3 : k = 3
      · have l3 : eqA true (.int k) (.int 3) = sD (.bool true) := by rw [qa_int, c3]; rfl
        have p18 : powD (.int 10) (.int 18) = sD (.int (10 ^ 18)) := pow_ii 10 18 (by decide) (by decide) (by decide)
        obtain ⟨d, q2, d0, d1, qn, e2⟩ := take_T q j _ hq (10 ^ 18) (by decide) (by decide) (by omega)
        rw [List.set_set] at e2
        obtain ⟨d, rfl⟩ := Int.eq_ofNat_of_zero_le d0
        have h70 : (2 : Nat) ^ 70 = 1180591620717411303424 := by decide
        have h18 : (10 : Int) ^ 18 = 1000000000000000000 := by decide
        refine fin d q2 (by omega) (by omega) ?_
        simp only [DL.e_var, DL.e_c, DL.e_bin, DL.e_un, DL.e_anil, DL.e_acons, DL.e_fn, DL.e_if, DL.e_b, DL.e_and, DL.e_or, DL.e_not, DL.e_tv, DL.dNotV, DL.e_andV, DL.e_orV, DL.e_tru, DL.e_tup, DL.e_lst, DL.e_call, DL.e_nil, DL.e_seq, DL.e_ret, DL.e_expr, DL.e_sif, DL.e_asg, DL.e_set, DL.e_gnone, DL.e_gsome, DL.e_unp, DL.e_for, DL.e_seqI, DL.e_any, DL.any_l, DL.any_t, DL.any_s, DL.any_d, DL.e_lc, DL.e_sl, DL.e_oI, DL.e_oN, DL.q_str, DL.q_int, DL.qa_str, DL.qa_int, DL.on1_, DL.on2_, DL.len_l, DL.len_t, DL.len_d, DL.tru_b, DL.tru_l, DL.tru_t, DL.tru_n, DL.kgt_, DL.kin_, DL.it_l, DL.it_t, DL.tup_l, DL.tup_t, DL.list_l, DL.list_t, DL.rev_l, DL.rev_t, DL.md_l, DL.md_t, DL.isi_, DL.ix_0, DL.ix_1, DL.ix_2, DL.ix_3, DL.sl_1, DL.in_t2, DL.in_t3, DL.in_t4, DL.is_none, DL.add_ii, DL.sub_ii, DL.neg_i, DL.lt_ii, DL.le_ii, DL.gt_ii, DL.ge_ii, DL.bd_some, DL.bd_none, DL.ch_true, DL.ch_false, DL.nxt_nx, DL.nxt_rt, DL.nxt_bk, DL.nxt_ct, DL.nxt_none, DL.slR_d, DL.slR_m, DL.sl_s, DL.sl_nw, DL.vw_d, DL.vws_nil, DL.vws_cons, DL.dats_nil, DL.dats_cons, DL.dat_d, DL.rtB_b, DL.beq_t, DL.beq_f, DL.xor_f, DL.xor_t, DL.sD, DL.wipeS, DL.SZ, Nat.reduceLeDiff, Nat.reduceEqDiff, List.length_cons, List.length_nil, List.append_nil, List.nil_append, List.cons_append, List.replicate, List.getElem?_cons_zero, List.getElem?_cons_succ, List.set_cons_zero, List.set_cons_succ, if_true, ite_true, ite_false, Nat.reduceSub, Nat.reduceAdd, Nat.sub_self, List.any_cons, List.any_nil, Bool.or_false, Bool.or_true, Bool.true_or, Bool.false_or, Bool.and_true, Bool.and_false, Bool.true_and, Bool.false_and, Bool.not_true, Bool.not_false, Bool.not_not, decide_true, decide_false, decide_eq_true_eq, List.isEmpty_nil, List.isEmpty_cons, Nat.zero_add, List.map_id, l1, l2, l3, p18, e2]
      · have l3 : eqA true (.int k) (.int 3) = sD (.bool false) := by
          rw [qa_int]
          have : (k == 3) = false := by rw [beq_eq_false_iff_ne]; exact c3
          rw [this]; rfl
        have p6 : powD (.int 10) (.int 6) = sD (.int (10 ^ 6)) := pow_ii 10 6 (by decide) (by decide) (by decide)
        obtain ⟨d, q2, d0, d1, qn, e2⟩ := take_T q j _ hq (10 ^ 6) (by decide) (by decide) (by omega)
        rw [List.set_set] at e2
        obtain ⟨d, rfl⟩ := Int.eq_ofNat_of_zero_le d0
        have mu : mulD (.int (d : Int)) (.int 1024) = sD (.int ((d * 1024 : Nat) : Int)) := (mul_ii _ _ (.inr (by decide))).trans (by simp)
        have h70 : (2 : Nat) ^ 70 = 1180591620717411303424 := by decide
        have h6 : (10 : Int) ^ 6 = 1000000 := by decide
        refine fin (d * 1024) q2 (by omega) (by omega) ?_
        simp only [DL.e_var, DL.e_c, DL.e_bin, DL.e_un, DL.e_anil, DL.e_acons, DL.e_fn, DL.e_if, DL.e_b, DL.e_and, DL.e_or, DL.e_not, DL.e_tv, DL.dNotV, DL.e_andV, DL.e_orV, DL.e_tru, DL.e_tup, DL.e_lst, DL.e_call, DL.e_nil, DL.e_seq, DL.e_ret, DL.e_expr, DL.e_sif, DL.e_asg, DL.e_set, DL.e_gnone, DL.e_gsome, DL.e_unp, DL.e_for, DL.e_seqI, DL.e_any, DL.any_l, DL.any_t, DL.any_s, DL.any_d, DL.e_lc, DL.e_sl, DL.e_oI, DL.e_oN, DL.q_str, DL.q_int, DL.qa_str, DL.qa_int, DL.on1_, DL.on2_, DL.len_l, DL.len_t, DL.len_d, DL.tru_b, DL.tru_l, DL.tru_t, DL.tru_n, DL.kgt_, DL.kin_, DL.it_l, DL.it_t, DL.tup_l, DL.tup_t, DL.list_l, DL.list_t, DL.rev_l, DL.rev_t, DL.md_l, DL.md_t, DL.isi_, DL.ix_0, DL.ix_1, DL.ix_2, DL.ix_3, DL.sl_1, DL.in_t2, DL.in_t3, DL.in_t4, DL.is_none, DL.add_ii, DL.sub_ii, DL.neg_i, DL.lt_ii, DL.le_ii, DL.gt_ii, DL.ge_ii, DL.bd_some, DL.bd_none, DL.ch_true, DL.ch_false, DL.nxt_nx, DL.nxt_rt, DL.nxt_bk, DL.nxt_ct, DL.nxt_none, DL.slR_d, DL.slR_m, DL.sl_s, DL.sl_nw, DL.vw_d, DL.vws_nil, DL.vws_cons, DL.dats_nil, DL.dats_cons, DL.dat_d, DL.rtB_b, DL.beq_t, DL.beq_f, DL.xor_f, DL.xor_t, DL.sD, DL.wipeS, DL.SZ, Nat.reduceLeDiff, Nat.reduceEqDiff, List.length_cons, List.length_nil, List.append_nil, List.nil_append, List.cons_append, List.replicate, List.getElem?_cons_zero, List.getElem?_cons_succ, List.set_cons_zero, List.set_cons_succ, if_true, ite_true, ite_false, Nat.reduceSub, Nat.reduceAdd, Nat.sub_self, List.any_cons, List.any_nil, Bool.or_false, Bool.or_true, Bool.true_or, Bool.false_or, Bool.and_true, Bool.and_false, Bool.true_and, Bool.false_and, Bool.not_true, Bool.not_false, Bool.not_not, decide_true, decide_false, decide_eq_true_eq, List.isEmpty_nil, List.isEmpty_cons, Nat.zero_add, List.map_id, l1, l2, l3, p6, e2, mu]
end PX
end

section
set_option maxRecDepth 100000
set_option maxHeartbeats 1000000
namespace PX
open PySem L2 DL
/-- the two agree -/
theorem agree (n m : Nat) (hn : Few n) (hm : 0 < m) (hm2 : m ≤ 1000) (j : Nat) (u : List Ob) (hj : u[j]? = some ⟨true, .lst (dealL n m)⟩) : F__law_same [.m j, .d (.list (dealL n m))] u = some (.s (.d (.bool true)), u) :=
  let ⟨a, b, c⟩ := deal_plain n m hm2
  same_m _ j u hj b a c
noncomputable abbrev bodyA : DS := sSeq (sOwn 6 (dCall F_dealt 2 (daCons (dVar 3) (daCons (dVar 4) daNil))))
  (sSeq (sIf (dNot (dTru (dCall F__law_same 2 (daCons (dVar 6) (daCons (dCall F__law_dealt 2 (daCons (dVar 3) (daCons (dVar 4) daNil))) daNil))))) (sRet (dC (.bool false))) sNil)
  (sExpr (dMut "list" appF 6 (daCons (dC (.int 1)) daNil))))
theorem again_T (s i : D) (n m : Nat) (hn : Few n) (hm : 0 < m) (hm2 : m ≤ 1000) (x5 : Sl) (x6 : Sl) (u : List Ob) (p : Pen) (hp : penAt u 0 p) :
    ∃ (y6 : Sl) (u' : List Ob), bodyA [.d s, .m 0, .d i, .d (.int (n : Int)), .d (.int (m : Int)), x5, x6] u = some (.nx [.d s, .m 0, .d i, .d (.int (n : Int)), .d (.int (m : Int)), x5, y6] u') ∧ penAt u' 0 p := by
  have o1 : sOwn 6 (dCall F_dealt 2 (daCons (dVar 3) (daCons (dVar 4) daNil))) [.d s, .m 0, .d i, .d (.int (n : Int)), .d (.int (m : Int)), x5, x6] u = some (.nx [.d s, .m 0, .d i, .d (.int (n : Int)), .d (.int (m : Int)), x5, .m u.length] (pile u (dealL n m))) :=
    e_own 6 _ (by simp only [DL.e_var, DL.e_c, DL.e_bin, DL.e_un, DL.e_anil, DL.e_acons, DL.e_fn, DL.e_if, DL.e_b, DL.e_and, DL.e_or, DL.e_not, DL.e_tv, DL.dNotV, DL.e_andV, DL.e_orV, DL.e_tru, DL.e_tup, DL.e_lst, DL.e_call, DL.e_nil, DL.e_seq, DL.e_ret, DL.e_expr, DL.e_sif, DL.e_asg, DL.e_set, DL.e_gnone, DL.e_gsome, DL.e_unp, DL.e_for, DL.e_seqI, DL.e_any, DL.any_l, DL.any_t, DL.any_s, DL.any_d, DL.e_lc, DL.e_sl, DL.e_oI, DL.e_oN, DL.q_str, DL.q_int, DL.qa_str, DL.qa_int, DL.on1_, DL.on2_, DL.len_l, DL.len_t, DL.len_d, DL.tru_b, DL.tru_l, DL.tru_t, DL.tru_n, DL.kgt_, DL.kin_, DL.it_l, DL.it_t, DL.tup_l, DL.tup_t, DL.list_l, DL.list_t, DL.rev_l, DL.rev_t, DL.md_l, DL.md_t, DL.isi_, DL.ix_0, DL.ix_1, DL.ix_2, DL.ix_3, DL.sl_1, DL.in_t2, DL.in_t3, DL.in_t4, DL.is_none, DL.add_ii, DL.sub_ii, DL.neg_i, DL.lt_ii, DL.le_ii, DL.gt_ii, DL.ge_ii, DL.bd_some, DL.bd_none, DL.ch_true, DL.ch_false, DL.nxt_nx, DL.nxt_rt, DL.nxt_bk, DL.nxt_ct, DL.nxt_none, DL.slR_d, DL.slR_m, DL.sl_s, DL.sl_nw, DL.vw_d, DL.vws_nil, DL.vws_cons, DL.dats_nil, DL.dats_cons, DL.dat_d, DL.rtB_b, DL.beq_t, DL.beq_f, DL.xor_f, DL.xor_t, DL.sD, DL.wipeS, DL.SZ, Nat.reduceLeDiff, Nat.reduceEqDiff, List.length_cons, List.length_nil, List.append_nil, List.nil_append, List.cons_append, List.replicate, List.getElem?_cons_zero, List.getElem?_cons_succ, List.set_cons_zero, List.set_cons_succ, if_true, ite_true, ite_false, Nat.reduceSub, Nat.reduceAdd, Nat.sub_self, List.any_cons, List.any_nil, Bool.or_false, Bool.or_true, Bool.true_or, Bool.false_or, Bool.and_true, Bool.and_false, Bool.true_and, Bool.false_and, Bool.not_true, Bool.not_false, Bool.not_not, decide_true, decide_false, decide_eq_true_eq, List.isEmpty_nil, List.isEmpty_cons, Nat.zero_add, List.map_id, dealt_ok n m hn hm hm2 u])
  have ld := law_dealt_ok n m hn hm hm2 (pile u (dealL n m))
  have sm := agree n m hn hm hm2 u.length (pile u (dealL n m)) (pile_at ..)
  have t2 : sIf (dNot (dTru (dCall F__law_same 2 (daCons (dVar 6) (daCons (dCall F__law_dealt 2 (daCons (dVar 3) (daCons (dVar 4) daNil))) daNil))))) (sRet (dC (.bool false))) sNil [.d s, .m 0, .d i, .d (.int (n : Int)), .d (.int (m : Int)), x5, .m u.length] (pile u (dealL n m)) = some (.nx [.d s, .m 0, .d i, .d (.int (n : Int)), .d (.int (m : Int)), x5, .m u.length] (pile u (dealL n m))) := by
    simp only [DL.e_var, DL.e_c, DL.e_bin, DL.e_un, DL.e_anil, DL.e_acons, DL.e_fn, DL.e_if, DL.e_b, DL.e_and, DL.e_or, DL.e_not, DL.e_tv, DL.dNotV, DL.e_andV, DL.e_orV, DL.e_tru, DL.e_tup, DL.e_lst, DL.e_call, DL.e_nil, DL.e_seq, DL.e_ret, DL.e_expr, DL.e_sif, DL.e_asg, DL.e_set, DL.e_gnone, DL.e_gsome, DL.e_unp, DL.e_for, DL.e_seqI, DL.e_any, DL.any_l, DL.any_t, DL.any_s, DL.any_d, DL.e_lc, DL.e_sl, DL.e_oI, DL.e_oN, DL.q_str, DL.q_int, DL.qa_str, DL.qa_int, DL.on1_, DL.on2_, DL.len_l, DL.len_t, DL.len_d, DL.tru_b, DL.tru_l, DL.tru_t, DL.tru_n, DL.kgt_, DL.kin_, DL.it_l, DL.it_t, DL.tup_l, DL.tup_t, DL.list_l, DL.list_t, DL.rev_l, DL.rev_t, DL.md_l, DL.md_t, DL.isi_, DL.ix_0, DL.ix_1, DL.ix_2, DL.ix_3, DL.sl_1, DL.in_t2, DL.in_t3, DL.in_t4, DL.is_none, DL.add_ii, DL.sub_ii, DL.neg_i, DL.lt_ii, DL.le_ii, DL.gt_ii, DL.ge_ii, DL.bd_some, DL.bd_none, DL.ch_true, DL.ch_false, DL.nxt_nx, DL.nxt_rt, DL.nxt_bk, DL.nxt_ct, DL.nxt_none, DL.slR_d, DL.slR_m, DL.sl_s, DL.sl_nw, DL.vw_d, DL.vws_nil, DL.vws_cons, DL.dats_nil, DL.dats_cons, DL.dat_d, DL.rtB_b, DL.beq_t, DL.beq_f, DL.xor_f, DL.xor_t, DL.sD, DL.wipeS, DL.SZ, Nat.reduceLeDiff, Nat.reduceEqDiff, List.length_cons, List.length_nil, List.append_nil, List.nil_append, List.cons_append, List.replicate, List.getElem?_cons_zero, List.getElem?_cons_succ, List.set_cons_zero, List.set_cons_succ, if_true, ite_true, ite_false, Nat.reduceSub, Nat.reduceAdd, Nat.sub_self, List.any_cons, List.any_nil, Bool.or_false, Bool.or_true, Bool.true_or, Bool.false_or, Bool.and_true, Bool.and_false, Bool.true_and, Bool.false_and, Bool.not_true, Bool.not_false, Bool.not_not, decide_true, decide_false, decide_eq_true_eq, List.isEmpty_nil, List.isEmpty_cons, Nat.zero_add, List.map_id, ld, sm]
  have a1 := mut_ok (T := "list") (f := appF) (i := 6) (j := u.length) (da := daCons (dC (.int 1)) daNil) (ss := [.d (.int 1)]) (xs := [.int 1]) (ρ := [.d s, .m 0, .d i, .d (.int (n : Int)), .d (.int (m : Int)), x5, .m u.length]) (u := pile u (dealL n m)) (u1 := pile u (dealL n m)) (u2 := pile u (dealL n m)) (m0 := .lst (dealL n m)) (m := .lst (dealL n m)) rfl (pile_at ..) ⟨rfl, rfl⟩ (by simp only [DL.e_var, DL.e_c, DL.e_bin, DL.e_un, DL.e_anil, DL.e_acons, DL.e_fn, DL.e_if, DL.e_b, DL.e_and, DL.e_or, DL.e_not, DL.e_tv, DL.dNotV, DL.e_andV, DL.e_orV, DL.e_tru, DL.e_tup, DL.e_lst, DL.e_call, DL.e_nil, DL.e_seq, DL.e_ret, DL.e_expr, DL.e_sif, DL.e_asg, DL.e_set, DL.e_gnone, DL.e_gsome, DL.e_unp, DL.e_for, DL.e_seqI, DL.e_any, DL.any_l, DL.any_t, DL.any_s, DL.any_d, DL.e_lc, DL.e_sl, DL.e_oI, DL.e_oN, DL.q_str, DL.q_int, DL.qa_str, DL.qa_int, DL.on1_, DL.on2_, DL.len_l, DL.len_t, DL.len_d, DL.tru_b, DL.tru_l, DL.tru_t, DL.tru_n, DL.kgt_, DL.kin_, DL.it_l, DL.it_t, DL.tup_l, DL.tup_t, DL.list_l, DL.list_t, DL.rev_l, DL.rev_t, DL.md_l, DL.md_t, DL.isi_, DL.ix_0, DL.ix_1, DL.ix_2, DL.ix_3, DL.sl_1, DL.in_t2, DL.in_t3, DL.in_t4, DL.is_none, DL.add_ii, DL.sub_ii, DL.neg_i, DL.lt_ii, DL.le_ii, DL.gt_ii, DL.ge_ii, DL.bd_some, DL.bd_none, DL.ch_true, DL.ch_false, DL.nxt_nx, DL.nxt_rt, DL.nxt_bk, DL.nxt_ct, DL.nxt_none, DL.slR_d, DL.slR_m, DL.sl_s, DL.sl_nw, DL.vw_d, DL.vws_nil, DL.vws_cons, DL.dats_nil, DL.dats_cons, DL.dat_d, DL.rtB_b, DL.beq_t, DL.beq_f, DL.xor_f, DL.xor_t, DL.sD, DL.wipeS, DL.SZ, Nat.reduceLeDiff, Nat.reduceEqDiff, List.length_cons, List.length_nil, List.append_nil, List.nil_append, List.cons_append, List.replicate, List.getElem?_cons_zero, List.getElem?_cons_succ, List.set_cons_zero, List.set_cons_succ, if_true, ite_true, ite_false, Nat.reduceSub, Nat.reduceAdd, Nat.sub_self, List.any_cons, List.any_nil, Bool.or_false, Bool.or_true, Bool.true_or, Bool.false_or, Bool.and_true, Bool.and_false, Bool.true_and, Bool.false_and, Bool.not_true, Bool.not_false, Bool.not_not, decide_true, decide_false, decide_eq_true_eq, List.isEmpty_nil, List.isEmpty_cons, Nat.zero_add, List.map_id]) rfl (pile_at ..) (app_ok _ _ (by unfold dealL; rw [List.length_map, List.length_range]; omega)) rfl
  rw [pile_set] at a1
  refine ⟨.m u.length, pile u (dealL n m ++ [.int 1]), ?_, hp.app _⟩
  unfold bodyA
  rw [e_seq, o1, nxt_nx, e_seq, t2, nxt_nx, e_expr, a1, bd_some]
noncomputable abbrev bodyW : DS := sSeq (sAsg (gSet 3) (dCall F__law_some_number 1 (daCons (dCall F__law_anew 1 (daCons (dVar 1) daNil)) daNil)))
  (sSeq (sAsg (gSet 4) (dBin addD (dC (.int 1)) (dCall F__law_take 2 (daCons (dVar 1) (daCons (dC (.int 9)) daNil)))))
  (sFor (diRng1 (dC (.int 2))) (gSet 5) bodyA))
theorem turn_W (s i : D) (x3 x4 x5 x6 : Sl) (u : List Ob) (p : Pen) (hp : penAt u 0 p) (hb : p.n + 100 ≤ 900000000) :
    ∃ (y3 y4 y5 y6 : Sl) (u' : List Ob) (p' : Pen), bodyW [.d s, .m 0, .d i, x3, x4, x5, x6] u = some (.nx [.d s, .m 0, .d i, y3, y4, y5, y6] u') ∧ penAt u' 0 p' ∧ p'.n ≤ p.n + 100 := by
  have an := anew_T p 0 u hp
  have hp0 : penAt (u.set 0 ⟨true, (Pen.mk p.cells p.n 0).mo⟩) 0 ⟨p.cells, p.n, 0⟩ := hp.set _
  obtain ⟨n, q, n70, qn, en⟩ := some_number_T _ 0 _ hp0 (by show p.n + 10 < 2147483648; omega)
  rw [List.set_set] at en
  have qn : q.n ≤ p.n + 3 := qn
  have hq : penAt (u.set 0 ⟨true, q.mo⟩) 0 q := hp.set q
  obtain ⟨d, q2, d0, d1, qn2, e2⟩ := take_T q 0 _ hq 9 (by decide) (by decide) (by omega)
  rw [List.set_set] at e2
  obtain ⟨d, rfl⟩ := Int.eq_ofNat_of_zero_le d0
  have hq2 : penAt (u.set 0 ⟨true, q2.mo⟩) 0 q2 := hp.set q2
  have t1 : sAsg (gSet 3) (dCall F__law_some_number 1 (daCons (dCall F__law_anew 1 (daCons (dVar 1) daNil)) daNil)) [.d s, .m 0, .d i, x3, x4, x5, x6] u = some (.nx [.d s, .m 0, .d i, .d (.int (n : Int)), x4, x5, x6] (u.set 0 ⟨true, q.mo⟩)) := by
    simp only [DL.e_var, DL.e_c, DL.e_bin, DL.e_un, DL.e_anil, DL.e_acons, DL.e_fn, DL.e_if, DL.e_b, DL.e_and, DL.e_or, DL.e_not, DL.e_tv, DL.dNotV, DL.e_andV, DL.e_orV, DL.e_tru, DL.e_tup, DL.e_lst, DL.e_call, DL.e_nil, DL.e_seq, DL.e_ret, DL.e_expr, DL.e_sif, DL.e_asg, DL.e_set, DL.e_gnone, DL.e_gsome, DL.e_unp, DL.e_for, DL.e_seqI, DL.e_any, DL.any_l, DL.any_t, DL.any_s, DL.any_d, DL.e_lc, DL.e_sl, DL.e_oI, DL.e_oN, DL.q_str, DL.q_int, DL.qa_str, DL.qa_int, DL.on1_, DL.on2_, DL.len_l, DL.len_t, DL.len_d, DL.tru_b, DL.tru_l, DL.tru_t, DL.tru_n, DL.kgt_, DL.kin_, DL.it_l, DL.it_t, DL.tup_l, DL.tup_t, DL.list_l, DL.list_t, DL.rev_l, DL.rev_t, DL.md_l, DL.md_t, DL.isi_, DL.ix_0, DL.ix_1, DL.ix_2, DL.ix_3, DL.sl_1, DL.in_t2, DL.in_t3, DL.in_t4, DL.is_none, DL.add_ii, DL.sub_ii, DL.neg_i, DL.lt_ii, DL.le_ii, DL.gt_ii, DL.ge_ii, DL.bd_some, DL.bd_none, DL.ch_true, DL.ch_false, DL.nxt_nx, DL.nxt_rt, DL.nxt_bk, DL.nxt_ct, DL.nxt_none, DL.slR_d, DL.slR_m, DL.sl_s, DL.sl_nw, DL.vw_d, DL.vws_nil, DL.vws_cons, DL.dats_nil, DL.dats_cons, DL.dat_d, DL.rtB_b, DL.beq_t, DL.beq_f, DL.xor_f, DL.xor_t, DL.sD, DL.wipeS, DL.SZ, Nat.reduceLeDiff, Nat.reduceEqDiff, List.length_cons, List.length_nil, List.append_nil, List.nil_append, List.cons_append, List.replicate, List.getElem?_cons_zero, List.getElem?_cons_succ, List.set_cons_zero, List.set_cons_succ, if_true, ite_true, ite_false, Nat.reduceSub, Nat.reduceAdd, Nat.sub_self, List.any_cons, List.any_nil, Bool.or_false, Bool.or_true, Bool.true_or, Bool.false_or, Bool.and_true, Bool.and_false, Bool.true_and, Bool.false_and, Bool.not_true, Bool.not_false, Bool.not_not, decide_true, decide_false, decide_eq_true_eq, List.isEmpty_nil, List.isEmpty_cons, Nat.zero_add, List.map_id, an, en]
  have t2 : sAsg (gSet 4) (dBin addD (dC (.int 1)) (dCall F__law_take 2 (daCons (dVar 1) (daCons (dC (.int 9)) daNil)))) [.d s, .m 0, .d i, .d (.int (n : Int)), x4, x5, x6] (u.set 0 ⟨true, q.mo⟩) = some (.nx [.d s, .m 0, .d i, .d (.int (n : Int)), .d (.int ((1 + d : Nat) : Int)), x5, x6] (u.set 0 ⟨true, q2.mo⟩)) := by
    simp only [DL.e_var, DL.e_c, DL.e_bin, DL.e_un, DL.e_anil, DL.e_acons, DL.e_fn, DL.e_if, DL.e_b, DL.e_and, DL.e_or, DL.e_not, DL.e_tv, DL.dNotV, DL.e_andV, DL.e_orV, DL.e_tru, DL.e_tup, DL.e_lst, DL.e_call, DL.e_nil, DL.e_seq, DL.e_ret, DL.e_expr, DL.e_sif, DL.e_asg, DL.e_set, DL.e_gnone, DL.e_gsome, DL.e_unp, DL.e_for, DL.e_seqI, DL.e_any, DL.any_l, DL.any_t, DL.any_s, DL.any_d, DL.e_lc, DL.e_sl, DL.e_oI, DL.e_oN, DL.q_str, DL.q_int, DL.qa_str, DL.qa_int, DL.on1_, DL.on2_, DL.len_l, DL.len_t, DL.len_d, DL.tru_b, DL.tru_l, DL.tru_t, DL.tru_n, DL.kgt_, DL.kin_, DL.it_l, DL.it_t, DL.tup_l, DL.tup_t, DL.list_l, DL.list_t, DL.rev_l, DL.rev_t, DL.md_l, DL.md_t, DL.isi_, DL.ix_0, DL.ix_1, DL.ix_2, DL.ix_3, DL.sl_1, DL.in_t2, DL.in_t3, DL.in_t4, DL.is_none, DL.add_ii, DL.sub_ii, DL.neg_i, DL.lt_ii, DL.le_ii, DL.gt_ii, DL.ge_ii, DL.bd_some, DL.bd_none, DL.ch_true, DL.ch_false, DL.nxt_nx, DL.nxt_rt, DL.nxt_bk, DL.nxt_ct, DL.nxt_none, DL.slR_d, DL.slR_m, DL.sl_s, DL.sl_nw, DL.vw_d, DL.vws_nil, DL.vws_cons, DL.dats_nil, DL.dats_cons, DL.dat_d, DL.rtB_b, DL.beq_t, DL.beq_f, DL.xor_f, DL.xor_t, DL.sD, DL.wipeS, DL.SZ, Nat.reduceLeDiff, Nat.reduceEqDiff, List.length_cons, List.length_nil, List.append_nil, List.nil_append, List.cons_append, List.replicate, List.getElem?_cons_zero, List.getElem?_cons_succ, List.set_cons_zero, List.set_cons_succ, if_true, ite_true, ite_false, Nat.reduceSub, Nat.reduceAdd, Nat.sub_self, List.any_cons, List.any_nil, Bool.or_false, Bool.or_true, Bool.true_or, Bool.false_or, Bool.and_true, Bool.and_false, Bool.true_and, Bool.false_and, Bool.not_true, Bool.not_false, Bool.not_not, decide_true, decide_false, decide_eq_true_eq, List.isEmpty_nil, List.isEmpty_cons, Nat.zero_add, List.map_id, e2]
    rw [Int.natCast_add]; rfl
  have fn := Few.of_lt n70
  obtain ⟨y6, u1, g1, h1⟩ := again_T s i n (1 + d) fn (by omega) (by omega) (.d (.int 0)) x6 _ q2 hq2
  obtain ⟨z6, u2, g2, h2⟩ := again_T s i n (1 + d) fn (by omega) (by omega) (.d (.int 1)) y6 u1 q2 h1
  have lp : sFor (diRng1 (dC (.int 2))) (gSet 5) bodyA [.d s, .m 0, .d i, .d (.int (n : Int)), .d (.int ((1 + d : Nat) : Int)), x5, x6] (u.set 0 ⟨true, q2.mo⟩) = some (.nx [.d s, .m 0, .d i, .d (.int (n : Int)), .d (.int ((1 + d : Nat) : Int)), .d (.int 1), z6] u2) := by
    have it : diRng1 (dC (.int 2)) [.d s, .m 0, .d i, .d (.int (n : Int)), .d (.int ((1 + d : Nat) : Int)), x5, x6] (u.set 0 ⟨true, q2.mo⟩) = some (([.int 0, .int 1], none), u.set 0 ⟨true, q2.mo⟩) := rfl
    rw [e_for, it, bd_some]
    dsimp only
    rw [for_nx (ρ1 := [.d s, .m 0, .d i, .d (.int (n : Int)), .d (.int ((1 + d : Nat) : Int)), .d (.int 0), x6]) rfl g1, for_nx (ρ1 := [.d s, .m 0, .d i, .d (.int (n : Int)), .d (.int ((1 + d : Nat) : Int)), .d (.int 1), y6]) rfl g2, for_nil]
  refine ⟨.d (.int (n : Int)), .d (.int ((1 + d : Nat) : Int)), .d (.int 1), z6, u2, q2, ?_, h2, by omega⟩
  unfold bodyW
  rw [e_seq, t1, nxt_nx, e_seq, t2, nxt_nx, lp]
theorem run_W (s : D) : ∀ (l : List D) (x2 x3 x4 x5 x6 : Sl) (u : List Ob) (p : Pen), penAt u 0 p → p.n + l.length * 100 ≤ 900000000 →
    ∃ (y2 y3 y4 y5 y6 : Sl) (u' : List Ob) (p' : Pen), Runs (gSet 2) bodyW l [.d s, .m 0, x2, x3, x4, x5, x6] u [.d s, .m 0, y2, y3, y4, y5, y6] u' ∧ penAt u' 0 p'
  | [], x2, x3, x4, x5, x6, u, p, hp, _ => ⟨x2, x3, x4, x5, x6, u, p, .nil, hp⟩
  | i :: r, x2, x3, x4, x5, x6, u, p, hp, hb => by
    rw [List.length_cons] at hb
    obtain ⟨y3, y4, y5, y6, u1, p1, e, h1, h2⟩ := turn_W s i x3 x4 x5 x6 u p hp (by omega)
    obtain ⟨z2, z3, z4, z5, z6, u', p', g, h3⟩ := run_W s r (.d i) y3 y4 y5 y6 u1 p1 h1 (by omega)
    exact ⟨z2, z3, z4, z5, z6, u', p', .cons rfl e g, h3⟩
noncomputable abbrev bodyL : DS := sIf (dNot (dTru (dCall F__law_same 2 (daCons (dCall F_dealt 2 (daCons (dVar 3) (daCons (dC (.int 2)) daNil))) (daCons (dCall F__law_dealt 2 (daCons (dVar 3) (daCons (dC (.int 2)) daNil))) daNil))))) (sRet (dC (.bool false))) sNil
theorem run_L (s : D) (x1 x2 x4 x5 x6 : Sl) (u : List Ob) : ∀ (l : List Nat) (x3 : Sl), (∀ n ∈ l, n < 100) → ∃ y3, forL none (gSet 3) bodyL (l.map fun n : Nat => .int (0 + (n : Int))) [.d s, x1, x2, x3, x4, x5, x6] u = some (.nx [.d s, x1, x2, y3, x4, x5, x6] u)
  | [], x3, _ => ⟨x3, for_nil⟩
  | n :: r, x3, h => by
    have fn : Few n := Few.of_lt (Nat.lt_trans (h n List.mem_cons_self) (by decide))
    have d1 := dealt_ok n 2 fn (by decide) (by decide) u
    have d2 := law_dealt_ok n 2 fn (by decide) (by decide) u
    obtain ⟨a, b, c⟩ := deal_plain n 2 (by decide)
    have pl : plainD (.list (dealL n 2)) = true := by
      show (decide ((dealL n 2).length ≤ 1000000) && plainDs (dealL n 2)) = true
      rw [decide_eq_true c, Bool.true_and]; exact plainDs_all.mpr a
    have dp : PyData.depth (.list (dealL n 2)) ≤ 60 := by
      show PyData.depthAll _ + 1 ≤ 60
      have : PyData.depthAll (dealL n 2) ≤ 0 := depthAll_le.mpr fun x hx => by
        obtain ⟨i, _, rfl⟩ := List.mem_map.mp hx
        exact Nat.le_refl _
      omega
    have sm : F__law_same [.d (.list (dealL n 2)), .d (.list (dealL n 2))] u = some (.s (.d (.bool true)), u) := same_T 100 _ u (by omega) (by omega) pl
    have d1 : F_dealt [.d (.int (n : Int)), .d (.int 2)] u = some (.nw (.lst (dealL n 2)), u) := d1
    have d2 : F__law_dealt [.d (.int (n : Int)), .d (.int 2)] u = some (.nw (.lst (dealL n 2)), u) := d2
    have st : bodyL [.d s, x1, x2, .d (.int (n : Int)), x4, x5, x6] u = some (.nx [.d s, x1, x2, .d (.int (n : Int)), x4, x5, x6] u) := by
      unfold bodyL
      simp only [DL.e_var, DL.e_c, DL.e_bin, DL.e_un, DL.e_anil, DL.e_acons, DL.e_fn, DL.e_if, DL.e_b, DL.e_and, DL.e_or, DL.e_not, DL.e_tv, DL.dNotV, DL.e_andV, DL.e_orV, DL.e_tru, DL.e_tup, DL.e_lst, DL.e_call, DL.e_nil, DL.e_seq, DL.e_ret, DL.e_expr, DL.e_sif, DL.e_asg, DL.e_set, DL.e_gnone, DL.e_gsome, DL.e_unp, DL.e_for, DL.e_seqI, DL.e_any, DL.any_l, DL.any_t, DL.any_s, DL.any_d, DL.e_lc, DL.e_sl, DL.e_oI, DL.e_oN, DL.q_str, DL.q_int, DL.qa_str, DL.qa_int, DL.on1_, DL.on2_, DL.len_l, DL.len_t, DL.len_d, DL.tru_b, DL.tru_l, DL.tru_t, DL.tru_n, DL.kgt_, DL.kin_, DL.it_l, DL.it_t, DL.tup_l, DL.tup_t, DL.list_l, DL.list_t, DL.rev_l, DL.rev_t, DL.md_l, DL.md_t, DL.isi_, DL.ix_0, DL.ix_1, DL.ix_2, DL.ix_3, DL.sl_1, DL.in_t2, DL.in_t3, DL.in_t4, DL.is_none, DL.add_ii, DL.sub_ii, DL.neg_i, DL.lt_ii, DL.le_ii, DL.gt_ii, DL.ge_ii, DL.bd_some, DL.bd_none, DL.ch_true, DL.ch_false, DL.nxt_nx, DL.nxt_rt, DL.nxt_bk, DL.nxt_ct, DL.nxt_none, DL.slR_d, DL.slR_m, DL.sl_s, DL.sl_nw, DL.vw_d, DL.vws_nil, DL.vws_cons, DL.dats_nil, DL.dats_cons, DL.dat_d, DL.rtB_b, DL.beq_t, DL.beq_f, DL.xor_f, DL.xor_t, DL.sD, DL.wipeS, DL.SZ, Nat.reduceLeDiff, Nat.reduceEqDiff, List.length_cons, List.length_nil, List.append_nil, List.nil_append, List.cons_append, List.replicate, List.getElem?_cons_zero, List.getElem?_cons_succ, List.set_cons_zero, List.set_cons_succ, if_true, ite_true, ite_false, Nat.reduceSub, Nat.reduceAdd, Nat.sub_self, List.any_cons, List.any_nil, Bool.or_false, Bool.or_true, Bool.true_or, Bool.false_or, Bool.and_true, Bool.and_false, Bool.true_and, Bool.false_and, Bool.not_true, Bool.not_false, Bool.not_not, decide_true, decide_false, decide_eq_true_eq, List.isEmpty_nil, List.isEmpty_cons, Nat.zero_add, List.map_id, d1, d2, sm]
    obtain ⟨y3, ih⟩ := run_L s x1 x2 x4 x5 x6 u r (.d (.int (n : Int))) (fun k hk => h k (List.mem_cons_of_mem _ hk))
    refine ⟨y3, ?_⟩
    rw [List.map_cons, for_nx (ρ1 := [.d s, x1, x2, .d (.int (n : Int)), x4, x5, x6]) (by rw [Int.zero_add]; rfl) st, ih]
theorem true_ : ∀ ns : List Int, ns.length ≤ 63 → ∃ u', F_law [.d (.list (ns.map .int))] [] = some (.s (.d (.bool true)), u') := by
  intro ns _
  obtain ⟨cells, e0⟩ := open_T ns []
  have hp : penAt [⟨true, (Pen.mk cells 0 0).mo⟩] 0 ⟨cells, 0, 0⟩ := rfl
  have o1 : sOwn 1 (dCall F__law_open 1 (daCons (dVar 0) daNil)) [.d (.list (ns.map .int)), .un, .un, .un, .un, .un, .un] [] = some (.nx [.d (.list (ns.map .int)), .m 0, .un, .un, .un, .un, .un] [⟨true, (Pen.mk cells 0 0).mo⟩]) := by
    have : dCall F__law_open 1 (daCons (dVar 0) daNil) [.d (.list (ns.map .int)), .un, .un, .un, .un, .un, .un] [] = some (.nw (Pen.mk cells 0 0).mo, []) := by simp only [DL.e_var, DL.e_c, DL.e_bin, DL.e_un, DL.e_anil, DL.e_acons, DL.e_fn, DL.e_if, DL.e_b, DL.e_and, DL.e_or, DL.e_not, DL.e_tv, DL.dNotV, DL.e_andV, DL.e_orV, DL.e_tru, DL.e_tup, DL.e_lst, DL.e_call, DL.e_nil, DL.e_seq, DL.e_ret, DL.e_expr, DL.e_sif, DL.e_asg, DL.e_set, DL.e_gnone, DL.e_gsome, DL.e_unp, DL.e_for, DL.e_seqI, DL.e_any, DL.any_l, DL.any_t, DL.any_s, DL.any_d, DL.e_lc, DL.e_sl, DL.e_oI, DL.e_oN, DL.q_str, DL.q_int, DL.qa_str, DL.qa_int, DL.on1_, DL.on2_, DL.len_l, DL.len_t, DL.len_d, DL.tru_b, DL.tru_l, DL.tru_t, DL.tru_n, DL.kgt_, DL.kin_, DL.it_l, DL.it_t, DL.tup_l, DL.tup_t, DL.list_l, DL.list_t, DL.rev_l, DL.rev_t, DL.md_l, DL.md_t, DL.isi_, DL.ix_0, DL.ix_1, DL.ix_2, DL.ix_3, DL.sl_1, DL.in_t2, DL.in_t3, DL.in_t4, DL.is_none, DL.add_ii, DL.sub_ii, DL.neg_i, DL.lt_ii, DL.le_ii, DL.gt_ii, DL.ge_ii, DL.bd_some, DL.bd_none, DL.ch_true, DL.ch_false, DL.nxt_nx, DL.nxt_rt, DL.nxt_bk, DL.nxt_ct, DL.nxt_none, DL.slR_d, DL.slR_m, DL.sl_s, DL.sl_nw, DL.vw_d, DL.vws_nil, DL.vws_cons, DL.dats_nil, DL.dats_cons, DL.dat_d, DL.rtB_b, DL.beq_t, DL.beq_f, DL.xor_f, DL.xor_t, DL.sD, DL.wipeS, DL.SZ, Nat.reduceLeDiff, Nat.reduceEqDiff, List.length_cons, List.length_nil, List.append_nil, List.nil_append, List.cons_append, List.replicate, List.getElem?_cons_zero, List.getElem?_cons_succ, List.set_cons_zero, List.set_cons_succ, if_true, ite_true, ite_false, Nat.reduceSub, Nat.reduceAdd, Nat.sub_self, List.any_cons, List.any_nil, Bool.or_false, Bool.or_true, Bool.true_or, Bool.false_or, Bool.and_true, Bool.and_false, Bool.true_and, Bool.false_and, Bool.not_true, Bool.not_false, Bool.not_not, decide_true, decide_false, decide_eq_true_eq, List.isEmpty_nil, List.isEmpty_cons, Nat.zero_add, List.map_id, e0]
    unfold sOwn
    rw [this]
    rfl
  obtain ⟨y2, y3, y4, y5, y6, u', p', run, _⟩ := run_W (.list (ns.map .int)) (rngItems 0 12) .un .un .un .un .un _ _ hp (by show 0 + 12 * 100 ≤ 900000000; decide)
  have f := run.for_
  have it : diRng1 (dC (.int 12)) [.d (.list (ns.map .int)), .m 0, .un, .un, .un, .un, .un] [⟨true, (Pen.mk cells 0 0).mo⟩] = some ((rngItems 0 12, none), [⟨true, (Pen.mk cells 0 0).mo⟩]) := rfl
  obtain ⟨z3, g⟩ := run_L (.list (ns.map .int)) (.m 0) y2 y4 y5 y6 u' (List.range 40) y3 (fun n hn => by have := List.mem_range.mp hn; omega)
  have it2 : diRng1 (dC (.int 40)) [.d (.list (ns.map .int)), .m 0, y2, y3, y4, y5, y6] u' = some (((List.range 40).map fun n : Nat => PyData.int (0 + (n : Int)), none), u') := rfl
  have body : b_law ([.d (.list (ns.map .int))] ++ List.replicate (7 - 1) .un) [] = some (.rt (.s (.d (.bool true))) u') := by
    show (sSeq _ _) [.d (.list (ns.map .int)), .un, .un, .un, .un, .un, .un] [] = _
    rw [e_seq, o1, nxt_nx, e_seq, e_for, it, bd_some]
    dsimp only
    rw [show forL _ _ _ _ _ _ = _ from f, nxt_nx, e_seq, e_for, it2, bd_some]
    dsimp only
    rw [show forL _ _ _ _ _ _ = _ from g, nxt_nx]
    simp only [DL.e_var, DL.e_c, DL.e_bin, DL.e_un, DL.e_anil, DL.e_acons, DL.e_fn, DL.e_if, DL.e_b, DL.e_and, DL.e_or, DL.e_not, DL.e_tv, DL.dNotV, DL.e_andV, DL.e_orV, DL.e_tru, DL.e_tup, DL.e_lst, DL.e_call, DL.e_nil, DL.e_seq, DL.e_ret, DL.e_expr, DL.e_sif, DL.e_asg, DL.e_set, DL.e_gnone, DL.e_gsome, DL.e_unp, DL.e_for, DL.e_seqI, DL.e_any, DL.any_l, DL.any_t, DL.any_s, DL.any_d, DL.e_lc, DL.e_sl, DL.e_oI, DL.e_oN, DL.q_str, DL.q_int, DL.qa_str, DL.qa_int, DL.on1_, DL.on2_, DL.len_l, DL.len_t, DL.len_d, DL.tru_b, DL.tru_l, DL.tru_t, DL.tru_n, DL.kgt_, DL.kin_, DL.it_l, DL.it_t, DL.tup_l, DL.tup_t, DL.list_l, DL.list_t, DL.rev_l, DL.rev_t, DL.md_l, DL.md_t, DL.isi_, DL.ix_0, DL.ix_1, DL.ix_2, DL.ix_3, DL.sl_1, DL.in_t2, DL.in_t3, DL.in_t4, DL.is_none, DL.add_ii, DL.sub_ii, DL.neg_i, DL.lt_ii, DL.le_ii, DL.gt_ii, DL.ge_ii, DL.bd_some, DL.bd_none, DL.ch_true, DL.ch_false, DL.nxt_nx, DL.nxt_rt, DL.nxt_bk, DL.nxt_ct, DL.nxt_none, DL.slR_d, DL.slR_m, DL.sl_s, DL.sl_nw, DL.vw_d, DL.vws_nil, DL.vws_cons, DL.dats_nil, DL.dats_cons, DL.dat_d, DL.rtB_b, DL.beq_t, DL.beq_f, DL.xor_f, DL.xor_t, DL.sD, DL.wipeS, DL.SZ, Nat.reduceLeDiff, Nat.reduceEqDiff, List.length_cons, List.length_nil, List.append_nil, List.nil_append, List.cons_append, List.replicate, List.getElem?_cons_zero, List.getElem?_cons_succ, List.set_cons_zero, List.set_cons_succ, if_true, ite_true, ite_false, Nat.reduceSub, Nat.reduceAdd, Nat.sub_self, List.any_cons, List.any_nil, Bool.or_false, Bool.or_true, Bool.true_or, Bool.false_or, Bool.and_true, Bool.and_false, Bool.true_and, Bool.false_and, Bool.not_true, Bool.not_false, Bool.not_not, decide_true, decide_false, decide_eq_true_eq, List.isEmpty_nil, List.isEmpty_cons, Nat.zero_add, List.map_id]
  unfold F_law fnD
  rw [if_pos (show [Sl.d (PyData.list (ns.map .int))].length = 1 from rfl), body]
  exact ⟨_, rfl⟩
end PX
end

section
set_option Elab.async false
set_option maxRecDepth 100000
set_option maxHeartbeats 0
open PySem PySem.W PyProof.Rows
theorem PySem.Challenge.cw_leapwork_k81_numbers_dealt_holds : PySem.Challenge.rw_leapwork_k81_numbers_dealt.Holds := by
  w_on; o_law; k_head; (case hw => w_witness2)
  k_fill
  refine DL.walk_end (l := PySem.Challenge.rw_leapwork_k81_numbers_dealt) (n := 63) (k := 101) (x := "_law_script") (g := PX.F_law) rfl (by decide) rfl ⟨rfl, by decide, by decide⟩ (fun w h Y => PySem.W.kIn_of Y) ?F PX.true_
  case F =>
    intro w mg fa h KX G hmg
    suffices facts : ∃ (f : Nat → Addr) (fd : Nat → FuncData), f 9 = fa ∧ PX.Facts w _ mg f fd ∧ ∀ (s : Shared) (v : Value), BindsTo s (fd 9) ⟨[v], []⟩ [("_law_script", v)] by
      obtain ⟨f, fd, rfl, ft, hb⟩ := facts
      exact ⟨fd 9, hb, fun base _ _ => PX.g_law ft⟩
    refine' PX.facts_mk KX G hmg ?a0 ?l0 ?c0 ?k0 ?a1 ?l1 ?c1 ?k1 ?a2 ?l2 ?c2 ?k2 ?a3 ?l3 ?c3 ?k3 ?a4 ?l4 ?c4 ?k4 ?a5 ?l5 ?c5 ?k5 ?a6 ?l6 ?c6 ?k6 ?a7 ?l7 ?c7 ?k7 ?a8 ?l8 ?c8 ?k8 ?a9 ?l9 ?c9 ?k9 ?z_bool ?z_enumerate ?z_int ?z_isinstance ?z_len ?z_list ?z_range ?z_str ?z_tuple ?z_zip
    (case a0 => k_is)
    (case l0 => k_is)
    (case c0 => k_is)
    (case k0 => k_is)
    (case a1 => k_is)
    (case l1 => k_is)
    (case c1 => k_is)
    (case k1 => k_is)
    (case a2 => k_is)
    (case l2 => k_is)
    (case c2 => k_is)
    (case k2 => k_is)
    (case a3 => k_is)
    (case l3 => k_is)
    (case c3 => k_is)
    (case k3 => k_is)
    (case a4 => k_is)
    (case l4 => k_is)
    (case c4 => k_is)
    (case k4 => k_is)
    (case a5 => k_is)
    (case l5 => k_is)
    (case c5 => k_is)
    (case k5 => k_is)
    (case a6 => k_is)
    (case l6 => k_is)
    (case c6 => k_is)
    (case k6 => k_is)
    (case a7 => k_is)
    (case l7 => k_is)
    (case c7 => k_is)
    (case k7 => k_is)
    (case a8 => k_is)
    (case l8 => k_is)
    (case c8 => k_is)
    (case k8 => k_is)
    (case a9 => k_is)
    (case l9 => k_is)
    (case c9 => k_is)
    (case k9 => k_is)
    (case z_bool => k_is)
    (case z_enumerate => k_is)
    (case z_int => k_is)
    (case z_isinstance => k_is)
    (case z_len => k_is)
    (case z_list => k_is)
    (case z_range => k_is)
    (case z_str => k_is)
    (case z_tuple => k_is)
    (case z_zip => k_is)
end
