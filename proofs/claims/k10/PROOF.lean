import PyProof.Rows.All
import HandS.ForMost
import HandS.ForExc
import HandS.Style
import HandS.Wide
import HandS.Zip
import HandS.Defaults
import HandS.IsInst
import HandS.Walk
import HandS.Evl
import HandS.TupAny
import HandS.TupMul
import KE.GoesNew
import KE.KExcLine
import HandS.Deep
import HandS.SortInts
import HandS.Conv
import HandS.Comp
import PySem.Challenge.RW_sectionwise_k10_whole_sections_of_sectio
set_option Elab.async false
set_option linter.all false
set_option maxRecDepth 100000

set_option maxHeartbeats 2000000
namespace DL
open PySem PySem.Spec PyProof.Rows L2
open Evl (Ex)

/-! ### data, and how it stands in the heap -/
/-- what a program's value is, without addresses: lists that nobody writes any more are trees -/
inductive D where
  | non | bl (b : Bool) | int (i : Int) | str (x : Str) | lst (xs : List D) | tup (xs : List D)
  /-- a list that only its own slot knows -/
  | own (xs : List D)
  /-- the list of three numbers that draws change -/
  | well
  | ref (a : Addr)
  /-- a built-in class -/
  | ty (n : String)
  /-- a list that is new -/
  | nl (xs : List D)
/-- the objects that were there before -/
class OldT where
  old : Hp
variable [OldT]
abbrev Wl := Int × Int × Int
def wl (w : Wl) : List V := [.int w.1, .int w.2.1, .int w.2.2]
mutual
inductive Rep (wa : Addr) (Hf : Hp) : V → D → Prop
  | non : Rep wa Hf .non .non
  | bl (b : Bool) : Rep wa Hf (.bl b) (.bl b)
  | int (i : Int) : Rep wa Hf (.int i) (.int i)
  | str (x : Str) : Rep wa Hf (.str x) (.str x)
  | lst {a : Addr} {xs : List V} {ds : List D} : Hf a = some (.lst xs) → Reps wa Hf xs ds → Rep wa Hf (.ref a) (.lst ds)
  | tup {a : Addr} {xs : List V} {ds : List D} : Hf a = some (.tup xs) → Reps wa Hf xs ds → Rep wa Hf (.ref a) (.tup ds)
  | well : Rep wa Hf (.ref wa) .well
  | ref (a : Addr) : Rep wa Hf (.ref a) (.ref a)
  | ty (n : String) : Rep wa Hf (.ty n) (.ty n)
  | nl {a : Addr} {xs : List V} {ds : List D} : Hf a = some (.lst xs) → OldT.old a = none → Reps wa Hf xs ds → Rep wa Hf (.ref a) (.nl ds)
inductive Reps (wa : Addr) (Hf : Hp) : List V → List D → Prop
  | nil : Reps wa Hf [] []
  | cons {v : V} {vs : List V} {d : D} {ds : List D} : Rep wa Hf v d → Reps wa Hf vs ds → Reps wa Hf (v :: vs) (d :: ds)
end
section
variable {wa : Addr} {Hf Hf' Hf1 H H' H1 : Hp}
mutual
theorem Rep.mono (e : Ex Hf Hf') : ∀ {v : V} {d : D}, Rep wa Hf v d → Rep wa Hf' v d
  | _, _, .non => .non
  | _, _, .bl b => .bl b
  | _, _, .int i => .int i
  | _, _, .str x => .str x
  | _, _, .lst h r => .lst (e _ _ h) (Reps.mono e r)
  | _, _, .tup h r => .tup (e _ _ h) (Reps.mono e r)
  | _, _, .well => .well
  | _, _, .ref a => .ref a
  | _, _, .ty a => .ty a
  | _, _, .nl h o r => .nl (e _ _ h) o (Reps.mono e r)
theorem Reps.mono (e : Ex Hf Hf') : ∀ {vs : List V} {ds : List D}, Reps wa Hf vs ds → Reps wa Hf' vs ds
  | _, _, .nil => .nil
  | _, _, .cons h r => .cons (Rep.mono e h) (Reps.mono e r)
end
theorem Reps.length : ∀ {vs : List V} {ds : List D}, Reps wa Hf vs ds → vs.length = ds.length
  | _, _, .nil => rfl
  | _, _, .cons _ r => by simp [Reps.length r]
theorem Reps.get : ∀ {vs : List V} {ds : List D} {i : Nat} {d : D}, Reps wa Hf vs ds → ds[i]? = some d → ∃ v, vs[i]? = some v ∧ Rep wa Hf v d
  | _, _, _, _, .nil, e => by simp at e
  | _, _, 0, _, .cons r _, e => by simp at e; subst e; exact ⟨_, rfl, r⟩
  | _, _, i + 1, d, .cons _ t, e => by
    obtain ⟨v, h1, h2⟩ := Reps.get (i := i) (d := d) t (by simpa using e)
    exact ⟨v, by simpa using h1, h2⟩
theorem Reps.getV : ∀ {vs : List V} {ds : List D} {i : Nat} {v : V}, Reps wa Hf vs ds → vs[i]? = some v → ∃ d, ds[i]? = some d ∧ Rep wa Hf v d
  | _, _, _, _, .nil, e => by simp at e
  | _, _, 0, _, .cons r _, e => by simp at e; subst e; exact ⟨_, rfl, r⟩
  | _, _, i + 1, d, .cons _ t, e => by
    obtain ⟨v, h1, h2⟩ := Reps.getV (i := i) (v := d) t (by simpa using e)
    exact ⟨v, by simpa using h1, h2⟩
theorem Reps.append : ∀ {vs ws : List V} {ds es : List D}, Reps wa Hf vs ds → Reps wa Hf ws es → Reps wa Hf (vs ++ ws) (ds ++ es)
  | _, _, _, _, .nil, s => s
  | _, _, _, _, .cons r t, s => .cons r (Reps.append t s)
theorem Reps.take : ∀ {vs : List V} {ds : List D} (n : Nat), Reps wa Hf vs ds → Reps wa Hf (vs.take n) (ds.take n)
  | _, _, 0, _ => .nil
  | _, _, _ + 1, .nil => .nil
  | _, _, n + 1, .cons r t => .cons r (Reps.take n t)
theorem Reps.drop : ∀ {vs : List V} {ds : List D} (n : Nat), Reps wa Hf vs ds → Reps wa Hf (vs.drop n) (ds.drop n)
  | _, _, 0, r => r
  | _, _, _ + 1, .nil => .nil
  | _, _, n + 1, .cons _ t => Reps.drop n t
theorem Reps.reverse : ∀ {vs : List V} {ds : List D}, Reps wa Hf vs ds → Reps wa Hf vs.reverse ds.reverse
  | _, _, .nil => .nil
  | _, _, .cons r t => by
    rw [List.reverse_cons, List.reverse_cons]
    exact (Reps.reverse t).append (.cons r .nil)
theorem Reps.rep {vs : List V} {ds : List D} (h : Reps wa Hf vs ds) : ∀ k : Nat, Reps wa Hf (List.replicate k vs).flatten (List.replicate k ds).flatten
  | 0 => .nil
  | k + 1 => by
    rw [List.replicate_succ, List.replicate_succ, List.flatten_cons, List.flatten_cons]
    exact h.append (h.rep k)
theorem Reps.ints : ∀ {vs : List V} {ns : List Int}, Reps wa Hf vs (ns.map D.int) → vs = ns.map V.int
  | _, [], h => by cases h; rfl
  | _, n :: ns, h => by
    cases h with
    | cons h1 h2 =>
      cases h1
      rw [Reps.ints h2]
      rfl
theorem Reps.bls : ∀ {vs : List V} {ns : List Bool}, Reps wa Hf vs (ns.map D.bl) → vs = ns.map V.bl
  | _, [], h => by cases h; rfl
  | _, n :: ns, h => by
    cases h with
    | cons h1 h2 =>
      cases h1
      rw [Reps.bls h2]
      rfl
theorem Reps.of_ints : ∀ {ns : List Int}, Reps wa Hf (ns.map V.int) (ns.map D.int)
  | [] => .nil
  | n :: ns => .cons (.int n) Reps.of_ints

/-- the frozen part is there, and the well -/
structure Base (wa : Addr) (Hf H : Hp) (w : Wl) : Prop where
  ex : Ex Hf H
  well : H wa = some (.lst (wl w))
  nw : Hf wa = none
  od : Ex OldT.old Hf
/-- from a heap to a later one -/
structure Go (wa : Addr) (H Hf H' Hf' : Hp) : Prop where
  keep : ∀ a o, a ≠ wa → H a = some o → H' a = some o
  ex : Ex Hf Hf'
  new : ∀ a o, H a = some o → Hf' a = Hf a
  there : ∀ a o, H a = some o → ∃ o', H' a = some o'
theorem Go.refl : Go wa H Hf H Hf := ⟨fun _ _ _ h => h, Ex.refl _, fun _ _ _ => rfl, fun _ o h => ⟨o, h⟩⟩
theorem Go.trans (a : Go wa H Hf H1 Hf1) (b : Go wa H1 Hf1 H' Hf') : Go wa H Hf H' Hf' :=
  ⟨fun x o n h => b.keep x o n (a.keep x o n h), a.ex.trans b.ex, fun x o h => by
    obtain ⟨o', h'⟩ := a.there x o h
    rw [b.new x o' h', a.new x o h], fun x o h => by
    obtain ⟨o', h'⟩ := a.there x o h
    exact b.there x o' h'⟩
theorem Go.free (g : Go wa H Hf H' Hf') {p : Addr} (h : H' p = none) : H p = none := by
  cases q : H p with
  | none => rfl
  | some o =>
    obtain ⟨o', e⟩ := g.there p o q
    rw [h] at e
    cases e
/-- a new object, not frozen -/
theorem Go.new1 {p : Addr} {o : HO} (h : H p = none) : Go wa H Hf (upd H p o) Hf :=
  ⟨fun a u _ e => by rw [upd_ne (ne_of_none e h)]; exact e, Ex.refl _, fun _ _ _ => rfl, fun a u e => ⟨u, by rw [upd_ne (ne_of_none e h)]; exact e⟩⟩
/-- a new object, frozen at once -/
theorem Go.newF {p : Addr} {o : HO} (x : Ex Hf H) (h : H p = none) : Go wa H Hf (upd H p o) (upd Hf p o) :=
  have hf : Hf p = none := Evl.fresh_back x h
  ⟨fun a u _ e => by rw [upd_ne (ne_of_none e h)]; exact e, Ex.new hf, fun a u e => by rw [upd_ne (ne_of_none e h)], fun a u e => ⟨u, by rw [upd_ne (ne_of_none e h)]; exact e⟩⟩
theorem Base.new1 {w : Wl} {p : Addr} {o : HO} (b : Base wa Hf H w) (h : H p = none) : Base wa Hf (upd H p o) w :=
  ⟨b.ex.trans (Ex.new h), by rw [upd_ne (ne_of_none b.well h)]; exact b.well, b.nw, b.od⟩
theorem ex_upd2 {p : Addr} {o : HO} (x : Ex Hf H) : Ex (upd Hf p o) (upd H p o) := fun a u e => by
  by_cases hp : a = p
  · subst hp; rw [upd_same] at e ⊢; exact e
  · rw [upd_ne hp] at e ⊢; exact x a u e
theorem Base.newF {w : Wl} {p : Addr} {o : HO} (b : Base wa Hf H w) (h : H p = none) : Base wa (upd Hf p o) (upd H p o) w :=
  ⟨ex_upd2 b.ex, by rw [upd_ne (ne_of_none b.well h)]; exact b.well, by rw [upd_ne (ne_of_none b.well h)]; exact b.nw, b.od.trans (Ex.new (Evl.fresh_back b.ex h))⟩
end

/-! ### what comes of a piece of code -/
structure Exn where
  name : Str
  fs : List (Str × D)
inductive R (α : Type) where
  | ok (a : α) (w : Wl) | er (x : Exn) (w : Wl) | no
def R.bind {α β : Type} (r : R α) (k : α → Wl → R β) : R β := match r with
  | .ok a w => k a w
  | .er x w => .er x w
  | .no => .no
def R.noer {α : Type} (r : R α) : R α := match r with
  | .ok a w => .ok a w
  | _ => .no
@[simp] theorem R.bind_ok {α β : Type} {a : α} {w : Wl} {k : α → Wl → R β} : (R.ok a w).bind k = k a w := rfl
@[simp] theorem R.bind_er {α β : Type} {x : Exn} {w : Wl} {k : α → Wl → R β} : (R.er x w).bind k = .er x w := rfl
@[simp] theorem R.bind_no {α β : Type} {k : α → Wl → R β} : (R.no).bind k = .no := rfl
@[simp] theorem R.noer_ok {α : Type} {a : α} {w : Wl} : (R.ok a w).noer = .ok a w := rfl
abbrev Sl := List (Option D)
abbrev DE := Sl → Wl → R D
abbrev DT := Sl → Wl → R Bool
abbrev DA := Sl → Wl → R (List D)
abbrev DG := D → Sl → Option Sl
inductive RS where
  | nx (s : Sl) (w : Wl) | rt (d : D) (w : Wl) | bk (s : Sl) (w : Wl) | ct (s : Sl) (w : Wl) | er (x : Exn) (s : Sl) (w : Wl) | no
abbrev DS := Sl → Wl → RS
abbrev DF := List D → Wl → R D

/-- what an exception is -/
def ErrV (mg : Str → Option Value) (wa : Addr) (Hf : Hp) (x : Exn) (cls : Value) (dx : Option Addr) : Prop :=
  ∃ (C d : Addr) (vs : List (Str × V)), mg x.name = some (.ref C) ∧ cls = .ref C ∧ dx = some d ∧ Hf d = some (.xd vs) ∧ vs.map (·.1) = x.fs.map (·.1) ∧ Reps wa Hf (vs.map (·.2)) (x.fs.map (·.2))
def Fin {α : Type} (wa : Addr) (Hf H : Hp) (r : R α) (Ok : α → Wl → Hp → Hp → Prop) (Er : Exn → Wl → Hp → Hp → Prop) : Prop := match r with
  | .ok a w' => ∀ H' Hf', Go wa H Hf H' Hf' → Base wa Hf' H' w' → Ok a w' H' Hf'
  | .er x w' => ∀ H' Hf', Go wa H Hf H' Hf' → Base wa Hf' H' w' → Er x w' H' Hf'
  | .no => False
section
variable {wa : Addr} {Hf H : Hp} {α β : Type}
theorem Fin.bind {r : R α} {k : α → Wl → R β} {Ok : β → Wl → Hp → Hp → Prop} {Er : Exn → Wl → Hp → Hp → Prop} (h : Fin wa Hf H (r.bind k) Ok Er) :
    Fin wa Hf H r (fun a w1 H1 Hf1 => Fin wa Hf1 H1 (k a w1) Ok Er) Er := by
  cases r with
  | ok a w1 =>
    intro H1 Hf1 g b
    have h : Fin wa Hf H (k a w1) Ok Er := h
    cases e : k a w1 with
    | ok a2 w2 => rw [e] at h; exact fun H2 Hf2 g2 b2 => h H2 Hf2 (g.trans g2) b2
    | er x w2 => rw [e] at h; exact fun H2 Hf2 g2 b2 => h H2 Hf2 (g.trans g2) b2
    | no => rw [e] at h; exact h
  | er x w1 => exact h
  | no => exact h
theorem Fin.mono {r : R α} {Ok Ok' : α → Wl → Hp → Hp → Prop} {Er Er' : Exn → Wl → Hp → Hp → Prop} (h : Fin wa Hf H r Ok Er)
    (ho : ∀ a w' H' Hf', Go wa H Hf H' Hf' → Base wa Hf' H' w' → Ok a w' H' Hf' → Ok' a w' H' Hf') (he : ∀ x w' H' Hf', Go wa H Hf H' Hf' → Base wa Hf' H' w' → Er x w' H' Hf' → Er' x w' H' Hf') : Fin wa Hf H r Ok' Er' := by
  cases r with
  | ok a w1 => exact fun H1 Hf1 g b => ho _ _ _ _ g b (h H1 Hf1 g b)
  | er x w1 => exact fun H1 Hf1 g b => he _ _ _ _ g b (h H1 Hf1 g b)
  | no => exact h
theorem Fin.here {a : α} {w : Wl} {Ok : α → Wl → Hp → Hp → Prop} {Er : Exn → Wl → Hp → Hp → Prop} (h : Fin wa Hf H (.ok a w) Ok Er) (b : Base wa Hf H w) : Ok a w H Hf := h H Hf Go.refl b
theorem Fin.noer {r : R α} {Ok : α → Wl → Hp → Hp → Prop} {Er Er' : Exn → Wl → Hp → Hp → Prop} (h : Fin wa Hf H r.noer Ok Er) : Fin wa Hf H r Ok Er' := by
  cases r with
  | ok a w1 => exact h
  | er x w1 => exact False.elim h
  | no => exact h
end

/-! ### slots -/
structure Slots (wa : Addr) (Hf H : Hp) (σ : L2.St) (s : Sl) : Prop where
  len : σ.length = s.length
  val : ∀ (i : Nat) (d : D), s[i]? = some (some d) → (∀ xs, d ≠ D.own xs) → ∃ v, σ[i]? = some (some v) ∧ Rep wa Hf v d
  own : ∀ (i : Nat) (xs : List D), s[i]? = some (some (.own xs)) → ∃ p vs, σ[i]? = some (some (.ref p)) ∧ H p = some (.lst vs) ∧ Hf p = none ∧ p ≠ wa ∧ Reps wa Hf vs xs
  inj : ∀ (i j : Nat) (xs ys : List D) (p : Addr), s[i]? = some (some (.own xs)) → s[j]? = some (some (.own ys)) → σ[i]? = some (some (.ref p)) → σ[j]? = some (some (.ref p)) → i = j
def OwnNew (H0 : Hp) (σ : L2.St) (s : Sl) : Prop := ∀ (i : Nat) (xs : List D) (p : Addr), s[i]? = some (some (.own xs)) → σ[i]? = some (some (.ref p)) → H0 p = none
theorem rep_own {wa : Addr} {Hf : Hp} {v : V} {xs : List D} : ¬ Rep wa Hf v (.own xs) := fun h => nomatch h
section
variable {wa : Addr} {Hf Hf' H H' H0 : Hp} {σ : L2.St} {s : Sl}
theorem Slots.go (x : Slots wa Hf H σ s) (g : Go wa H Hf H' Hf') : Slots wa Hf' H' σ s :=
  ⟨x.len, fun i d e n => let ⟨v, h1, h2⟩ := x.val i d e n; ⟨v, h1, h2.mono g.ex⟩, fun i xs e => by
    obtain ⟨p, vs, h1, h2, h3, h4, h5⟩ := x.own i xs e
    exact ⟨p, vs, h1, g.keep p _ h4 h2, (g.new p _ h2).trans h3, h4, h5.mono g.ex⟩, x.inj⟩
theorem Slots.set (x : Slots wa Hf H σ s) {i : Nat} {v : V} {d : D} (r : Rep wa Hf v d) : Slots wa Hf H (σ.set i (some v)) (s.set i (some d)) := by
  have nd : ∀ xs, d ≠ .own xs := fun xs z => by subst z; exact rep_own r
  have key : ∀ (j : Nat) (e : Option D), (s.set i (some d))[j]? = some e → (j = i ∧ e = some d ∧ (σ.set i (some v))[j]? = some (some v)) ∨ (j ≠ i ∧ s[j]? = some e ∧ (σ.set i (some v))[j]? = σ[j]?) := fun j e h => by
    by_cases hj : j = i
    · subst hj
      rw [List.getElem?_set] at h
      split at h
      · split at h
        · rename_i h1 h2
          refine .inl ⟨rfl, (Option.some.inj h).symm, ?_⟩
          rw [List.getElem?_set_self (by rw [x.len]; exact h2)]
        · cases h
      · rename_i h1
        exact absurd rfl h1
    · refine .inr ⟨hj, ?_, List.getElem?_set_ne (Ne.symm hj)⟩
      rw [List.getElem?_set_ne (Ne.symm hj)] at h
      exact h
  refine ⟨by simp [x.len], fun j e h n => ?_, fun j xs h => ?_, fun j k xs ys p h1 h2 h3 h4 => ?_⟩
  · rcases key j _ h with ⟨rfl, e1, e2⟩ | ⟨_, e1, e2⟩
    · cases e1
      exact ⟨v, e2, r⟩
    · rw [e2]
      exact x.val j e e1 n
  · rcases key j _ h with ⟨rfl, e1, e2⟩ | ⟨_, e1, e2⟩
    · cases e1
      exact absurd rfl (nd xs)
    · rw [e2]
      exact x.own j xs e1
  · rcases key j _ h1 with ⟨_, e1, _⟩ | ⟨_, e1, e2⟩
    · cases e1
      exact absurd rfl (nd xs)
    · rcases key k _ h2 with ⟨_, f1, _⟩ | ⟨_, f1, f2⟩
      · cases f1
        exact absurd rfl (nd ys)
      · rw [e2] at h3
        rw [f2] at h4
        exact x.inj j k xs ys p e1 f1 h3 h4
theorem OwnNew.set (x : OwnNew H0 σ s) {i : Nat} {v : V} {d : D} (nd : ∀ xs, d ≠ .own xs) : OwnNew H0 (σ.set i (some v)) (s.set i (some d)) := fun j xs p h1 h2 => by
  by_cases hj : j = i
  · subst hj
    rw [List.getElem?_set] at h1
    split at h1
    · split at h1
      · cases h1
        exact absurd rfl (nd xs)
      · cases h1
    · rename_i hne
      exact absurd rfl hne
  · rw [List.getElem?_set_ne (Ne.symm hj)] at h1 h2
    exact x j xs p h1 h2
/-- a new list into a slot -/
theorem Slots.setOwn (x : Slots wa Hf H σ s) {i : Nat} {p : Addr} {vs : List V} {xs : List D} (hp : H p = some (.lst vs)) (hf : Hf p = none) (hw : p ≠ wa) (r : Reps wa Hf vs xs)
    (hn : ∀ (j : Nat) (ys : List D), s[j]? = some (some (.own ys)) → σ[j]? ≠ some (some (.ref p))) : Slots wa Hf H (σ.set i (some (.ref p))) (s.set i (some (.own xs))) := by
  have key : ∀ (j : Nat) (e : Option D), (s.set i (some (.own xs)))[j]? = some e → (j = i ∧ e = some (.own xs) ∧ (σ.set i (some (.ref p)))[j]? = some (some (.ref p))) ∨ (j ≠ i ∧ s[j]? = some e ∧ (σ.set i (some (.ref p)))[j]? = σ[j]?) := fun j e h => by
    by_cases hj : j = i
    · subst hj
      rw [List.getElem?_set] at h
      split at h
      · split at h
        · rename_i h1 h2
          refine .inl ⟨rfl, (Option.some.inj h).symm, ?_⟩
          rw [List.getElem?_set_self (by rw [x.len]; exact h2)]
        · cases h
      · rename_i h1
        exact absurd rfl h1
    · refine .inr ⟨hj, ?_, List.getElem?_set_ne (Ne.symm hj)⟩
      rw [List.getElem?_set_ne (Ne.symm hj)] at h
      exact h
  refine ⟨by simp [x.len], fun j e h n => ?_, fun j ys h => ?_, fun j k ys zs q h1 h2 h3 h4 => ?_⟩
  · rcases key j _ h with ⟨rfl, e1, e2⟩ | ⟨_, e1, e2⟩
    · cases e1
      exact absurd rfl (n xs)
    · rw [e2]
      exact x.val j e e1 n
  · rcases key j _ h with ⟨rfl, e1, e2⟩ | ⟨_, e1, e2⟩
    · cases e1
      exact ⟨p, vs, e2, hp, hf, hw, r⟩
    · rw [e2]
      exact x.own j ys e1
  · rcases key j _ h1 with ⟨hji, e1, e2⟩ | ⟨hji, e1, e2⟩
    · rcases key k _ h2 with ⟨hki, f1, f2⟩ | ⟨_, f1, f2⟩
      · rw [hji, hki]
      · rw [e2] at h3
        cases h3
        rw [f2] at h4
        exact absurd h4 (hn k zs f1)
    · rcases key k _ h2 with ⟨_, f1, f2⟩ | ⟨_, f1, f2⟩
      · rw [f2] at h4
        cases h4
        rw [e2] at h3
        exact absurd h3 (hn j ys e1)
      · rw [e2] at h3
        rw [f2] at h4
        exact x.inj j k ys zs q e1 f1 h3 h4
theorem OwnNew.setOwn (x : OwnNew H0 σ s) {i : Nat} {p : Addr} {xs : List D} (hl : σ.length = s.length) (h0 : H0 p = none) : OwnNew H0 (σ.set i (some (.ref p))) (s.set i (some (.own xs))) := fun j ys q h1 h2 => by
  by_cases hj : j = i
  · subst hj
    rw [List.getElem?_set] at h1
    split at h1
    · split at h1
      · rename_i _ hlt
        rw [List.getElem?_set_self (by rw [hl]; exact hlt)] at h2
        cases h2
        exact h0
      · cases h1
    · rename_i hne
      exact absurd rfl hne
  · rw [List.getElem?_set_ne (Ne.symm hj)] at h1 h2
    exact x j ys q h1 h2
/-- a slot's own list is written -/
theorem Slots.write (x : Slots wa Hf H σ s) {i : Nat} {xs ys : List D} {p : Addr} {ws : List V} (hi : s[i]? = some (some (.own xs))) (hp : σ[i]? = some (some (.ref p))) (r : Reps wa Hf ws ys) :
    Slots wa Hf (upd H p (.lst ws)) σ (s.set i (some (.own ys))) := by
  have hlt : i < s.length := (List.getElem?_eq_some_iff.mp hi).1
  have key : ∀ (j : Nat) (e : Option D), (s.set i (some (.own ys)))[j]? = some e → (j = i ∧ e = some (.own ys)) ∨ (j ≠ i ∧ s[j]? = some e) := fun j e h => by
    by_cases hj : j = i
    · subst hj
      rw [List.getElem?_set_self hlt] at h
      exact .inl ⟨rfl, (Option.some.inj h).symm⟩
    · rw [List.getElem?_set_ne (Ne.symm hj)] at h
      exact .inr ⟨hj, h⟩
  obtain ⟨p', vs, h1, h2, h3, h4, h5⟩ := x.own i xs hi
  rw [hp] at h1
  cases h1
  refine ⟨by simp [x.len], fun j e h n => ?_, fun j zs h => ?_, fun j k zs us q e1 e2 e3 e4 => ?_⟩
  · rcases key j _ h with ⟨_, e1⟩ | ⟨_, e1⟩
    · cases e1
      exact absurd rfl (n ys)
    · exact x.val j e e1 n
  · rcases key j _ h with ⟨rfl, e1⟩ | ⟨hj, e1⟩
    · cases e1
      exact ⟨p, ws, hp, upd_same, h3, h4, r⟩
    · obtain ⟨q, us, k1, k2, k3, k4, k5⟩ := x.own j zs e1
      have hne : q ≠ p := fun z => by
        subst z
        exact hj (x.inj j i zs xs q e1 hi k1 hp)
      exact ⟨q, us, k1, by rw [upd_ne hne]; exact k2, k3, k4, k5⟩
  · have o1 : ∃ z, s[j]? = some (some (.own z)) := by
      rcases key j _ e1 with ⟨rfl, _⟩ | ⟨_, f⟩
      · exact ⟨xs, hi⟩
      · exact ⟨zs, f⟩
    have o2 : ∃ z, s[k]? = some (some (.own z)) := by
      rcases key k _ e2 with ⟨rfl, _⟩ | ⟨_, f⟩
      · exact ⟨xs, hi⟩
      · exact ⟨us, f⟩
    obtain ⟨z1, o1⟩ := o1
    obtain ⟨z2, o2⟩ := o2
    exact x.inj j k z1 z2 q o1 o2 e3 e4
/-- a slot's own list is read from now on -/
theorem Slots.frz (x : Slots wa Hf H σ s) {i : Nat} {xs : List D} {p : Addr} {vs : List V} (hi : s[i]? = some (some (.own xs))) (hp : σ[i]? = some (some (.ref p))) (hv : H p = some (.lst vs)) :
    Slots wa (upd Hf p (.lst vs)) H σ (s.set i (some (.lst xs))) := by
  have hlt : i < s.length := (List.getElem?_eq_some_iff.mp hi).1
  obtain ⟨p', vs', h1, h2, h3, h4, h5⟩ := x.own i xs hi
  rw [hp] at h1
  cases h1
  rw [hv] at h2
  cases h2
  have e0 : Ex Hf (upd Hf p (.lst vs)) := Ex.new h3
  have key : ∀ (j : Nat) (e : Option D), (s.set i (some (.lst xs)))[j]? = some e → (j = i ∧ e = some (.lst xs)) ∨ (j ≠ i ∧ s[j]? = some e) := fun j e h => by
    by_cases hj : j = i
    · subst hj
      rw [List.getElem?_set_self hlt] at h
      exact .inl ⟨rfl, (Option.some.inj h).symm⟩
    · rw [List.getElem?_set_ne (Ne.symm hj)] at h
      exact .inr ⟨hj, h⟩
  refine ⟨by simp [x.len], fun j e h n => ?_, fun j zs h => ?_, fun j k zs us q e1 e2 e3 e4 => ?_⟩
  · rcases key j _ h with ⟨rfl, e1⟩ | ⟨_, e1⟩
    · cases e1
      exact ⟨_, hp, .lst upd_same (h5.mono e0)⟩
    · obtain ⟨v, k1, k2⟩ := x.val j e e1 n
      exact ⟨v, k1, k2.mono e0⟩
  · rcases key j _ h with ⟨_, e1⟩ | ⟨hj, e1⟩
    · cases e1
    · obtain ⟨q, us, k1, k2, k3, k4, k5⟩ := x.own j zs e1
      have hne : q ≠ p := fun z => by
        subst z
        exact hj (x.inj j i zs xs q e1 hi k1 hp)
      exact ⟨q, us, k1, k2, by rw [upd_ne hne]; exact k3, k4, k5.mono e0⟩
  · rcases key j _ e1 with ⟨_, f⟩ | ⟨_, f⟩
    · cases f
    · rcases key k _ e2 with ⟨_, f2⟩ | ⟨_, f2⟩
      · cases f2
      · exact x.inj j k zs us q f f2 e3 e4
theorem OwnNew.sub {s' : Sl} (x : OwnNew H0 σ s) (h : ∀ (i : Nat) xs, s'[i]? = some (some (.own xs)) → ∃ ys, s[i]? = some (some (.own ys))) : OwnNew H0 σ s' := fun i xs p h1 h2 => by
  obtain ⟨ys, e⟩ := h i xs h1
  exact x i ys p e h2
end
end DL

set_option maxHeartbeats 2000000
namespace DL
open PySem PySem.Spec PyProof.Rows L2
variable [OldT]
open Evl (Ex)
abbrev Rl (β α : Type) := Addr → Hp → β → α → Prop
abbrev rD : Rl V D := Rep
abbrev rAs : Rl (List V) (List D) := Reps
abbrev rB : Rl Bool Bool := fun _ _ b c => b = c
abbrev rO : Rl (Option Int) (Option Int) := fun _ _ b c => b = c
/-- a fresh list -/
abbrev Er (mg : Str → Option Value) (W : WX) (wa : Addr) (σ : L2.St) : Exn → Wl → Hp → Hp → Prop := fun x _ H' Hf' => ∀ cls dx, ErrV mg wa Hf' x cls dx → W cls dx σ H'
def lf {α β : Type} (rel : Rl β α) (mg : Str → Option Value) (W : WX) (E : Sl → Wl → R α) : L2.St → Hp → (β → Hp → Prop) → Prop := fun σ H Q =>
  ∃ wa Hf sD w, Base wa Hf H w ∧ Slots wa Hf H σ sD ∧ Fin wa Hf H (E sD w) (fun d _ H' Hf' => ∀ v, rel wa Hf' v d → Q v H') (Er mg W wa σ)
/-- the same, the value a list that is new -/
def lfL (mg : Str → Option Value) (W : WX) (E : Sl → Wl → R (List D)) : TE := fun σ H Q =>
  ∃ wa Hf sD w, Base wa Hf H w ∧ Slots wa Hf H σ sD ∧ Fin wa Hf H (E sD w) (fun ds _ H' Hf' => ∀ p vs, H p = none → H' p = some (.lst vs) → Hf' p = none → p ≠ wa → Reps wa Hf' vs ds → Q (.ref p) H') (Er mg W wa σ)
abbrev lE := lf rD
abbrev lA := lf rAs
abbrev lT := lf rB
abbrev lO := lf rO
section
variable {α β γ δ : Type} {X : Cx} {mg : Str → Option Value} {W : WX} {e a b c : Expr} {pos : Pos} {σ : L2.St} {H : Hp}
theorem weakE {t t' : TE} (h : PE X e t) (i : ∀ σ H Q, t' σ H Q → t σ H Q) : PE X e t' := ⟨fun pins s σ H Q I q => h.run pins s σ H Q I (i σ H Q q)⟩
theorem weakT {t t' : TT} (h : PT X e t) (i : ∀ σ H Q, t' σ H Q → t σ H Q) : PT X e t' := ⟨fun pins s σ H Q I q => h.run pins s σ H Q I (i σ H Q q)⟩
theorem weakW {t t' : TT} (h : PW X e t) (i : ∀ σ H Q, t' σ H Q → t σ H Q) : PW X e t' := ⟨fun wh pins s σ H Q I q => h.run wh pins s σ H Q I (i σ H Q q)⟩
theorem weakA {es : List Expr} {t t' : TA} (h : PA X es t) (i : ∀ σ H Q, t' σ H Q → t σ H Q) : PA X es t' := ⟨fun p pins s σ H Q I q => h.run p pins s σ H Q I (i σ H Q q)⟩
theorem weakO {o : Option Expr} {t t' : TO} (h : PO X o t) (i : ∀ σ H Q, t' σ H Q → t σ H Q) : PO X o t' := ⟨fun pins s σ H Q I q => h.run pins s σ H Q I (i σ H Q q)⟩
theorem orE {t t' : TE} (h : PE X e t) (h' : PE X e t') : PE X e (fun σ H Q => t σ H Q ∨ t' σ H Q) := ⟨fun pins s σ H Q I q => q.elim (fun q => h.run pins s σ H Q I q) fun q => h'.run pins s σ H Q I q⟩
theorem orT {t t' : TT} (h : PT X e t) (h' : PT X e t') : PT X e (fun σ H Q => t σ H Q ∨ t' σ H Q) := ⟨fun pins s σ H Q I q => q.elim (fun q => h.run pins s σ H Q I q) fun q => h'.run pins s σ H Q I q⟩
/-! ### names, constants -/
def getS (s : Sl) (i : Nat) : Option D := match s[i]? with
  | some (some (.own _)) => none
  | some (some d) => some d
  | _ => none
def eVar (i : Nat) : DE := fun s w => match getS s i with
  | some d => .ok d w
  | none => .no
def eC (d : D) : DE := fun _ w => .ok d w
theorem getS_some {wa : Addr} {Hf : Hp} {s : Sl} {i : Nat} {d : D} (x : Slots wa Hf H σ s) (h : getS s i = some d) : ∃ v, σ[i]? = some (some v) ∧ Rep wa Hf v d := by
  unfold getS at h
  split at h
  · cases h
  · rename_i d' hn hi
    cases h
    exact x.val i d hi fun xs z => hn xs z
  · cases h
theorem pd_var (i : Nat) {x : Str} (hN : X.N[i]? = some x := by rfl) (hv : Vis X.env.scope x := by first | exact Or.inl rfl | exact Or.inr (Or.inl rfl) | exact Or.inr (Or.inr rfl)) (hd : (x == ("__debug__" : Str)) = false := by decide)
    (hcd : (x == ("__classdict__" : Str)) = false := by decide) : PE X (.Name x pos) (lE mg W (eVar i)) := weakE (pe_var hN hv hd hcd) fun σ H Q h => by
  obtain ⟨wa, Hf, sD, w, hb, hs, hf⟩ := h
  unfold eVar at hf
  split at hf
  · rename_i d hi
    obtain ⟨v, h1, h2⟩ := getS_some hs hi
    exact ⟨v, h1, hf.here hb v h2⟩
  · exact hf.elim
theorem pd_c {v : V} {d : D} (h : PE X e (tC v)) (r : ∀ wa Hf, Rep wa Hf v d) : PE X e (lE mg W (eC d)) := weakE h fun σ H Q h => by
  obtain ⟨wa, Hf, sD, w, hb, hs, hf⟩ := h
  exact hf.here hb v (r _ _)
theorem pd_int {i j} : PE X (.Constant (.int i) j pos) (lE mg W (eC (.int i))) := pd_c pe_int fun _ _ => .int i
theorem pd_bl {i j} : PE X (.Constant (.bool i) j pos) (lE mg W (eC (.bl i))) := pd_c pe_bl fun _ _ => .bl i
theorem pd_non {j} : PE X (.Constant .none j pos) (lE mg W (eC .non)) := pd_c pe_non fun _ _ => .non
theorem pd_str {i j} : PE X (.Constant (.str i) j pos) (lE mg W (eC (.str i))) := pd_c pe_str fun _ _ => .str i
theorem pd_globI {x : Str} {i : Int} {t : Tok} (hg : Gl X x) (hm : X.mg x = some (.int i t)) (hd : (x == ("__debug__" : Str)) = false := by decide) : PE X (.Name x pos) (lE mg W (eC (.int i))) := pd_c (pe_glob hg hm (v := .int i) ⟨t, rfl⟩ hd) fun _ _ => .int i
theorem pd_ty {x : Str} {n : String} (hg : Gl X x) (hm : X.mg x = none) (hv : bootBuiltins x = some (.type n)) (hn : x ≠ "__name__" := by decide) (hd : (x == ("__debug__" : Str)) = false := by decide) : PE X (.Name x pos) (lE mg W (eC (.ty n))) :=
  pd_c (pe_bltn (v := .ty n) hg hm hv rfl hn hd) fun _ _ => .ty n

/-! ### operations on values -/
/-- a two-place rule does what f tells -/
def OpD (r : R2) (f : Wl → D → D → Option D) : Prop := ∀ wa Hf H w x y u v z Q, Base wa Hf H w → Rep wa Hf u x → Rep wa Hf v y → f w x y = some z →
  (∀ H' Hf', Go wa H Hf H' Hf' → Base wa Hf' H' w → ∀ v', Rep wa Hf' v' z → Q v' H') → r u v H Q
def UnD (r : V → Hp → VK → Prop) (f : Wl → D → Option D) : Prop := ∀ wa Hf H w x u z Q, Base wa Hf H w → Rep wa Hf u x → f w x = some z →
  (∀ H' Hf', Go wa H Hf H' Hf' → Base wa Hf' H' w → ∀ v', Rep wa Hf' v' z → Q v' H') → r u H Q
def CaD (r : List V → Hp → VK → Prop) (f : Wl → List D → Option D) : Prop := ∀ wa Hf H w ds us z Q, Base wa Hf H w → Reps wa Hf us ds → f w ds = some z →
  (∀ H' Hf', Go wa H Hf H' Hf' → Base wa Hf' H' w → ∀ v', Rep wa Hf' v' z → Q v' H') → r us H Q
/-- a call that makes a list -/
def CaL (r : List V → Hp → VK → Prop) (f : Wl → List D → Option (List D)) : Prop := ∀ wa Hf H w ds us zs Q, Base wa Hf H w → Reps wa Hf us ds → f w ds = some zs →
  (∀ H' Hf' p vs, Go wa H Hf H' Hf' → Base wa Hf' H' w → H p = none → H' p = some (.lst vs) → Hf' p = none → p ≠ wa → Reps wa Hf' vs zs → Q (.ref p) H') → r us H Q
def OpL (r : R2) (f : Wl → D → D → Option (List D)) : Prop := ∀ wa Hf H w x y u v zs Q, Base wa Hf H w → Rep wa Hf u x → Rep wa Hf v y → f w x y = some zs →
  (∀ H' Hf' p vs, Go wa H Hf H' Hf' → Base wa Hf' H' w → H p = none → H' p = some (.lst vs) → Hf' p = none → p ≠ wa → Reps wa Hf' vs zs → Q (.ref p) H') → r u v H Q
def opt {α : Type} (o : Option α) (w : Wl) : R α := match o with
  | some z => .ok z w
  | none => .no
@[simp] theorem opt_some {α : Type} {z : α} {w : Wl} : opt (some z) w = .ok z w := rfl
@[simp] theorem opt_none {α : Type} {w : Wl} : opt (none : Option α) w = .no := rfl
theorem Fin.opt {α : Type} {wa : Addr} {Hf H : Hp} {o : Option α} {w : Wl} {Ok : α → Wl → Hp → Hp → Prop} {Er : Exn → Wl → Hp → Hp → Prop} (h : Fin wa Hf H (opt o w) Ok Er) : ∃ z, o = some z ∧ ∀ H' Hf', Go wa H Hf H' Hf' → Base wa Hf' H' w → Ok z w H' Hf' := by
  cases o with
  | none => exact h.elim
  | some z => exact ⟨z, rfl, h⟩
def eBin (f : Wl → D → D → Option D) (A B : DE) : DE := fun s w => (A s w).bind fun x w1 => (B s w1).bind fun y w2 => opt (f w2 x y) w2
def eUn (f : Wl → D → Option D) (A : DE) : DE := fun s w => (A s w).bind fun x w1 => opt (f w1 x) w1
def eCB (f : Wl → List D → Option D) (A : DA) : DE := fun s w => (A s w).bind fun x w1 => opt (f w1 x) w1
variable {A B C : DE} {r r' : R2} {f g : Wl → D → D → Option D}

theorem bin_ok {Q : VK} (hf : OpD r f) (h : lE mg W (eBin f A B) σ H Q) : tOp r (lE mg W A) (lE mg W B) σ H Q := by
  obtain ⟨wa, Hf, sD, w, hb, hs, h⟩ := h
  refine ⟨wa, Hf, sD, w, hb, hs, h.bind.mono (fun x w1 H1 Hf1 g1 b1 q v rv => ?_) (fun _ _ _ _ _ _ q => q)⟩
  refine ⟨wa, Hf1, sD, w1, b1, hs.go g1, q.bind.mono (fun y w2 H2 Hf2 g2 b2 q2 v2 rv2 => ?_) (fun _ _ _ _ _ _ q => q)⟩
  obtain ⟨z, e, q3⟩ := q2.opt
  exact hf wa Hf2 H2 w2 x y v v2 z Q b2 (rv.mono g2.ex) rv2 e q3
theorem un_ok {Q : VK} {r : V → Hp → VK → Prop} {f : Wl → D → Option D} (hf : UnD r f) (h : lE mg W (eUn f A) σ H Q) : tUn r (lE mg W A) σ H Q := by
  obtain ⟨wa, Hf, sD, w, hb, hs, h⟩ := h
  refine ⟨wa, Hf, sD, w, hb, hs, h.bind.mono (fun x w1 H1 Hf1 g1 b1 q v rv => ?_) (fun _ _ _ _ _ _ q => q)⟩
  obtain ⟨z, e, q3⟩ := q.opt
  exact hf wa Hf1 H1 w1 x v z Q b1 rv e q3
theorem cb_ok {Q : VK} {r : List V → Hp → VK → Prop} {f : Wl → List D → Option D} {A : DA} (hf : CaD r f) (h : lE mg W (eCB f A) σ H Q) : tCB r (lA mg W A) σ H Q := by
  obtain ⟨wa, Hf, sD, w, hb, hs, h⟩ := h
  refine ⟨wa, Hf, sD, w, hb, hs, h.bind.mono (fun x w1 H1 Hf1 g1 b1 q v rv => ?_) (fun _ _ _ _ _ _ q => q)⟩
  obtain ⟨z, e, q3⟩ := q.opt
  exact hf wa Hf1 H1 w1 x v z Q b1 rv e q3
def eCBL (f : Wl → List D → Option (List D)) (A : DA) : DA := fun s w => (A s w).bind fun x w1 => opt (f w1 x) w1
def eBinL (f : Wl → D → D → Option (List D)) (A B : DE) : DA := fun s w => (A s w).bind fun x w1 => (B s w1).bind fun y w2 => opt (f w2 x y) w2
theorem cbL_ok {Q : VK} {r : List V → Hp → VK → Prop} {f : Wl → List D → Option (List D)} {A : DA} (hf : CaL r f) (h : lfL mg W (eCBL f A) σ H Q) : tCB r (lA mg W A) σ H Q := by
  obtain ⟨wa, Hf, sD, w, hb, hs, h⟩ := h
  refine ⟨wa, Hf, sD, w, hb, hs, h.bind.mono (fun x w1 H1 Hf1 g1 b1 q v rv => ?_) (fun _ _ _ _ _ _ q => q)⟩
  obtain ⟨z, e, q3⟩ := q.opt
  exact hf wa Hf1 H1 w1 x v z Q b1 rv e fun H' Hf' p vs g b n e1 e2 e3 r => q3 H' Hf' g b p vs (g1.free n) e1 e2 e3 r
theorem binL_ok {Q : VK} {f : Wl → D → D → Option (List D)} (hf : OpL r f) (h : lfL mg W (eBinL f A B) σ H Q) : tOp r (lE mg W A) (lE mg W B) σ H Q := by
  obtain ⟨wa, Hf, sD, w, hb, hs, h⟩ := h
  refine ⟨wa, Hf, sD, w, hb, hs, h.bind.mono (fun x w1 H1 Hf1 g1 b1 q v rv => ?_) (fun _ _ _ _ _ _ q => q)⟩
  refine ⟨wa, Hf1, sD, w1, b1, hs.go g1, q.bind.mono (fun y w2 H2 Hf2 g2 b2 q2 v2 rv2 => ?_) (fun _ _ _ _ _ _ q => q)⟩
  obtain ⟨z, e, q3⟩ := q2.opt
  exact hf wa Hf2 H2 w2 x y v v2 z Q b2 (rv.mono g2.ex) rv2 e fun H' Hf' p vs g b n e1 e2 e3 r => q3 H' Hf' g b p vs ((g1.trans g2).free n) e1 e2 e3 r
/-- a new list, read from now on -/
def eL (A : DA) : DE := fun s w => (A s w).bind fun ds w1 => .ok (.lst ds) w1
theorem eL_ok {Q : VK} {A : DA} (h : lE mg W (eL A) σ H Q) : lfL mg W A σ H Q := by
  obtain ⟨wa, Hf, sD, w, hb, hs, h⟩ := h
  refine ⟨wa, Hf, sD, w, hb, hs, ?_⟩
  unfold eL at h
  cases ea : A sD w with
  | ok ds w1 =>
    rw [ea] at h
    intro H1 Hf1 g1 b1 p vs n e1 e2 e3 rv
    have ex : Ex Hf1 (upd Hf1 p (.lst vs)) := Ex.new e2
    have g2 : Go wa H Hf H1 (upd Hf1 p (.lst vs)) := ⟨g1.keep, g1.ex.trans ex, fun a o h => by rw [upd_ne (ne_of_none h n)]; exact g1.new a o h, g1.there⟩
    have b2 : Base wa (upd Hf1 p (.lst vs)) H1 w1 := ⟨fun a u h => by
      by_cases hp : a = p
      · subst hp; rw [upd_same] at h; rw [← h]; exact e1
      · rw [upd_ne hp] at h; exact b1.ex a u h, b1.well, by rw [upd_ne (Ne.symm e3)]; exact b1.nw, b1.od.trans ex⟩
    exact h H1 _ g2 b2 (.ref p) (.lst upd_same (rv.mono ex))
  | er x w1 => rw [ea] at h; exact h
  | no => rw [ea] at h; exact h
theorem pd_L {A : DA} (h : PE X e (lfL mg W A)) : PE X e (lE mg W (eL A)) := weakE h fun _ _ _ q => eL_ok q
end
end DL

set_option maxHeartbeats 2000000
namespace DL
open PySem PySem.Spec PyProof.Rows L2
variable [OldT]
open Evl (Ex)
section
variable {α β γ δ : Type} {X : Cx} {mg : Str → Option Value} {W : WX} {e a b c : Expr} {pos : Pos} {σ : L2.St} {H : Hp} {A B C : DE} {r r' : R2} {f g : Wl → D → D → Option D}
theorem frzL {wa : Addr} {Hf H : Hp} {w : Wl} {Q : VK} {z : D} {vs : List V} {ds : List D} (hb : Base wa Hf H w) (rv : Reps wa Hf vs ds) (q : ∀ H' Hf', Go wa H Hf H' Hf' → Base wa Hf' H' w → ∀ v', Rep wa Hf' v' (.lst ds) → Q v' H') : ∀ p, H p = none → Q (.ref p) (upd H p (.lst vs)) := fun p hp =>
  q _ _ (Go.newF hb.ex hp) (hb.newF hp) _ (.lst upd_same (rv.mono (Ex.new (Evl.fresh_back hb.ex hp))))
theorem frzT {wa : Addr} {Hf H : Hp} {w : Wl} {Q : VK} {z : D} {vs : List V} {ds : List D} (hb : Base wa Hf H w) (rv : Reps wa Hf vs ds) (q : ∀ H' Hf', Go wa H Hf H' Hf' → Base wa Hf' H' w → ∀ v', Rep wa Hf' v' (.tup ds) → Q v' H') : ∀ p, H p = none → Q (.ref p) (upd H p (.tup vs)) := fun p hp =>
  q _ _ (Go.newF hb.ex hp) (hb.newF hp) _ (.tup upd_same (rv.mono (Ex.new (Evl.fresh_back hb.ex hp))))
/-! ### two-place operators -/
theorem pd_bin {op : Operator} (ho : OpR X (binaryOp op) r) (hf : OpD r f) (ha : PE X a (lE mg W A)) (hb : PE X b (lE mg W B)) : PE X (.BinOp a op b pos) (lE mg W (eBin f A B)) := weakE (pe_op ho ha hb) fun _ _ _ q => bin_ok hf q
theorem pd_un {op : UnaryOp} {r : V → Hp → VK → Prop} {f : Wl → D → Option D} (ho : UnR X (unaryOp op) r) (hf : UnD r f) (ha : PE X a (lE mg W A)) : PE X (.UnaryOp op a pos) (lE mg W (eUn f A)) := weakE (pe_un ho ha) fun _ _ _ q => un_ok hf q
def lim : Nat := 16000000
theorem lim_le {n : Nat} (h : n ≤ lim) : n ≤ sizeLine := by
  rw [sizeLine_eq]
  have : lim = 16000000 := rfl
  omega
def fAdd : Wl → D → D → Option D := fun _ x y => match x, y with
  | .int i, .int j => some (.int (i + j))
  | .tup xs, .tup ys => if xs.length + ys.length ≤ lim then some (.tup (xs ++ ys)) else none
  | .lst xs, .lst ys => if xs.length + ys.length ≤ lim then some (.lst (xs ++ ys)) else none
  | .str x, .str y => if x.length + y.length ≤ lim then some (.str (x ++ y)) else none
  | _, _ => none
def rAddS : R2 := fun x y H Q => ∃ i j, x = .str i ∧ y = .str j ∧ i.length + j.length ≤ sizeLine ∧ Q (.str (i ++ j)) H
def rAddA (K : PySem.W.Frag) : R2 := fun x y H Q => (rI0 (fun i j => .int (i + j)) x y H Q ∨ rCatA K x y H Q) ∨ rCat x y H Q ∨ rAddS x y H Q
theorem op_addA : OpR X (binaryOp .Add) (rAddA X.K) := (op_add.or op_catA).or (op_cat.or op_add_str)
theorem opd_add {K : PySem.W.Frag} : OpD (rAddA K) fAdd := by
  intro wa Hf H w x y u v z Q hb ru rv h q
  unfold fAdd at h
  split at h
  · cases h
    cases ru
    cases rv
    exact .inl (.inl ⟨_, _, rfl, rfl, q _ _ Go.refl hb _ (.int _)⟩)
  · split at h
    · rename_i hz
      cases h
      cases ru with
      | tup h1 r1 =>
        cases rv with
        | tup h2 r2 =>
          have l1 := r1.length
          have l2 := r2.length
          refine .inl (.inr ⟨_, _, _, _, rfl, rfl, SqT.of (hb.ex _ _ h1), SqT.of (hb.ex _ _ h2), lim_le (by omega), fun e => ?_, fun _ e => ?_, fun _ _ => frzT (z := .non) hb (r1.append r2) q⟩)
          · subst e
            cases r1
            exact q _ _ Go.refl hb _ (.tup h2 (by simpa using r2))
          · subst e
            cases r2
            exact q _ _ Go.refl hb _ (.tup h1 (by simpa using r1))
    · cases h
  · split at h
    · rename_i hz
      cases h
      cases ru with
      | lst h1 r1 =>
        cases rv with
        | lst h2 r2 =>
          have l1 := r1.length
          have l2 := r2.length
          exact .inr (.inl ⟨_, _, _, _, rfl, rfl, hb.ex _ _ h1, hb.ex _ _ h2, lim_le (by omega), frzL (z := .non) hb (r1.append r2) q⟩)
    · cases h
  · split at h
    · rename_i hz
      cases h
      cases ru
      cases rv
      exact .inr (.inr ⟨_, _, rfl, rfl, lim_le hz, q _ _ Go.refl hb _ (.str _)⟩)
    · cases h
  · cases h
theorem pd_add (ha : PE X a (lE mg W A)) (hb : PE X b (lE mg W B)) : PE X (.BinOp a .Add b pos) (lE mg W (eBin fAdd A B)) := pd_bin op_addA opd_add ha hb
def fSub : Wl → D → D → Option D := fun _ x y => match x, y with
  | .int i, .int j => some (.int (i - j))
  | _, _ => none
theorem pd_sub (ha : PE X a (lE mg W A)) (hb : PE X b (lE mg W B)) : PE X (.BinOp a .Sub b pos) (lE mg W (eBin fSub A B)) := pd_bin op_sub (fun wa Hf H w x y u v z Q hb ru rv h q => by
  unfold fSub at h
  split at h
  · cases h
    cases ru
    cases rv
    exact ⟨_, _, rfl, rfl, q _ _ Go.refl hb _ (.int _)⟩
  · cases h) ha hb
/-- factors that the model multiplies: together below a million bits -/
def mulOk (i j : Int) : Prop := i.natAbs.log2 + j.natAbs.log2 < 1000000
instance (i j : Int) : Decidable (mulOk i j) := by unfold mulOk; infer_instance
def fMul : Wl → D → D → Option D := fun _ x y => match x, y with
  | .int i, .int j => if mulOk i j then some (.int (i * j)) else none
  | .lst xs, .int k => if 0 ≤ k ∧ k ≤ 1000000 ∧ xs.length * k.toNat ≤ lim then some (.lst (List.replicate k.toNat xs).flatten) else none
  | .tup xs, .int k => if xs ≠ [] ∧ 2 ≤ k ∧ k ≤ 1000 ∧ xs.length ≤ 1000 then some (.tup (List.replicate k.toNat xs).flatten) else none
  | _, _ => none
def rMulA (K : PySem.W.Frag) : R2 := fun x y H Q => rI CMulW (fun i j => .int (i * j)) x y H Q ∨ rRep x y H Q ∨ rRepT K x y H Q
theorem op_mulA : OpR X (binaryOp .Mult) (rMulA X.K) := op_mulW.or (op_rep.or op_repT)
theorem opd_mul {K : PySem.W.Frag} : OpD (rMulA K) fMul := by
  intro wa Hf H w x y u v z Q hb ru rv h q
  unfold fMul at h
  split at h
  · split at h
    · rename_i hm
      cases h
      cases ru
      cases rv
      exact .inl ⟨_, _, rfl, rfl, hm, q _ _ Go.refl hb _ (.int _)⟩
    · cases h
  · split at h
    · rename_i hm
      cases h
      cases rv
      cases ru with
      | lst h1 r1 =>
        have l1 := r1.length
        exact .inr (.inl ⟨_, _, _, rfl, rfl, hb.ex _ _ h1, by omega, by omega, by rw [l1]; exact lim_le hm.2.2, frzL (z := .non) hb (r1.rep _) q⟩)
    · cases h
  · split at h
    · rename_i hm
      cases h
      cases rv
      cases ru with
      | tup h1 r1 =>
        have l1 := r1.length
        refine .inr (.inr ⟨_, _, _, rfl, rfl, SqT.of (hb.ex _ _ h1), fun e => ?_, hm.2.1, hm.2.2.1, by omega, frzT (z := .non) hb (r1.rep _) q⟩)
        subst e
        cases r1
        exact hm.1 rfl
    · cases h
  · cases h
theorem pd_mul (ha : PE X a (lE mg W A)) (hb : PE X b (lE mg W B)) : PE X (.BinOp a .Mult b pos) (lE mg W (eBin fMul A B)) := pd_bin op_mulA opd_mul ha hb
def divOk (j : Int) : Prop := j ≠ 0 ∧ j.natAbs.log2 < 9000
instance (j : Int) : Decidable (divOk j) := by unfold divOk; infer_instance
def fDiv : Wl → D → D → Option D := fun _ x y => match x, y with
  | .int i, .int j => if divOk j then some (.int (i.fdiv j)) else none
  | _, _ => none
theorem op_divA : OpR X (binaryOp .FloorDiv) (rI (fun _ j => divOk j) fun i j => .int (i.fdiv j)) := opI fun i j _ _ _ _ _ hc q => floordiv_int hc.1 q (.inl (PyProof.noPylong_of_log2 hc.2))
theorem pd_div (ha : PE X a (lE mg W A)) (hb : PE X b (lE mg W B)) : PE X (.BinOp a .FloorDiv b pos) (lE mg W (eBin fDiv A B)) := pd_bin op_divA (fun wa Hf H w x y u v z Q hb ru rv h q => by
  unfold fDiv at h
  split at h
  · split at h
    · rename_i hm
      cases h
      cases ru
      cases rv
      exact ⟨_, _, rfl, rfl, hm, q _ _ Go.refl hb _ (.int _)⟩
    · cases h
  · cases h) ha hb
def fMod : Wl → D → D → Option D := fun _ x y => match x, y with
  | .int i, .int j => if j ≠ 0 then some (.int (i.fmod j)) else none
  | _, _ => none
theorem pd_mod (ha : PE X a (lE mg W A)) (hb : PE X b (lE mg W B)) : PE X (.BinOp a .Mod b pos) (lE mg W (eBin fMod A B)) := pd_bin op_modN (fun wa Hf H w x y u v z Q hb ru rv h q => by
  unfold fMod at h
  split at h
  · split at h
    · rename_i hm
      cases h
      cases ru
      cases rv
      exact ⟨_, _, rfl, rfl, hm, q _ _ Go.refl hb _ (.int _)⟩
    · cases h
  · cases h) ha hb
def fPow : Wl → D → D → Option D := fun _ x y => match x, y with
  | .int i, .int j => if 0 ≤ j ∧ j ≤ 1000000 ∧ i.natAbs < 18446744073709551616 then some (.int (i ^ j.toNat)) else none
  | _, _ => none
theorem pd_pow (ha : PE X a (lE mg W A)) (hb : PE X b (lE mg W B)) : PE X (.BinOp a .Pow b pos) (lE mg W (eBin fPow A B)) := pd_bin op_pow (fun wa Hf H w x y u v z Q hb ru rv h q => by
  unfold fPow at h
  split at h
  · split at h
    · rename_i hm
      cases h
      cases ru
      cases rv
      exact ⟨_, _, rfl, rfl, ⟨hm.1, hm.2.1, hm.2.2⟩, q _ _ Go.refl hb _ (.int _)⟩
    · cases h
  · cases h) ha hb
def fNeg : Wl → D → Option D := fun _ x => match x with
  | .int i => some (.int (-i))
  | _ => none
theorem pd_neg (ha : PE X a (lE mg W A)) : PE X (.UnaryOp .USub a pos) (lE mg W (eUn fNeg A)) := pd_un un_neg (fun wa Hf H w x u z Q hb ru h q => by
  unfold fNeg at h
  split at h
  · cases h
    cases ru
    exact ⟨_, rfl, q _ _ Go.refl hb _ (.int _)⟩
  · cases h) ha

/-! ### comparisons -/
def fCmp (p : Int → Int → Bool) : Wl → D → D → Option D := fun _ x y => match x, y with
  | .int i, .int j => some (.bl (p i j))
  | _, _ => none
theorem opd_cmp {p : Int → Int → Bool} : OpD (rI0 fun i j => .bl (p i j)) (fCmp p) := by
  intro wa Hf H w x y u v z Q hb ru rv h q
  unfold fCmp at h
  split at h
  · cases h
    cases ru
    cases rv
    exact ⟨_, _, rfl, rfl, q _ _ Go.refl hb _ (.bl _)⟩
  · cases h
abbrev fLt := fCmp fun i j => decide (i < j)
abbrev fLe := fCmp fun i j => decide (i ≤ j)
abbrev fGt := fCmp fun i j => decide (j < i)
abbrev fGe := fCmp fun i j => decide (j ≤ i)
/-- a comparison, by its operator's rule -/
theorem pd_cmp {op : CmpOp} (ho : OpR X (compareOp op) r) (hf : OpD r f) (ha : PE X a (lE mg W A)) (hb : PE X b (lE mg W B)) (hm : behindInMarks op b = false) : PE X (.Compare a [op] [b] pos) (lE mg W (eBin f A B)) := weakE (pe_cmpR ho ha hb hm) fun _ _ _ q => bin_ok hf q
theorem pd_lt (ha : PE X a (lE mg W A)) (hb : PE X b (lE mg W B)) : PE X (.Compare a [.Lt] [b] pos) (lE mg W (eBin fLt A B)) := pd_cmp op_lt opd_cmp ha hb (nomark _)
theorem pd_le (ha : PE X a (lE mg W A)) (hb : PE X b (lE mg W B)) : PE X (.Compare a [.LtE] [b] pos) (lE mg W (eBin fLe A B)) := pd_cmp op_le opd_cmp ha hb (nomark _)
theorem pd_gt (ha : PE X a (lE mg W A)) (hb : PE X b (lE mg W B)) : PE X (.Compare a [.Gt] [b] pos) (lE mg W (eBin fGt A B)) := pd_cmp op_gt opd_cmp ha hb (nomark _)
theorem pd_ge (ha : PE X a (lE mg W A)) (hb : PE X b (lE mg W B)) : PE X (.Compare a [.GtE] [b] pos) (lE mg W (eBin fGe A B)) := pd_cmp op_ge opd_cmp ha hb (nomark _)
mutual
def toPD : D → PyData
  | .non => .none
  | .bl b => .bool b
  | .int i => .int i
  | .str x => .str x
  | .lst xs => .list (toPDs xs)
  | .nl xs => .list (toPDs xs)
  | .tup xs => .tuple (toPDs xs)
  | _ => .dict []
def toPDs : List D → List PyData
  | [] => []
  | x :: xs => toPD x :: toPDs xs
end
section
variable {K : PySem.W.Frag} {wa : Addr} {Hf : Hp} {w : Wl}
mutual
theorem Rep.dp (hb : Base wa Hf H w) : ∀ {v : V} {d : D}, Rep wa Hf v d → (toPD d).canLay0 = true → Dp K H v (toPD d)
  | _, _, .non, _ => .non
  | _, _, .bl b, _ => .bl b
  | _, _, .int b, _ => .int b
  | _, _, .str b, _ => .str b
  | _, _, .lst h r, c => .lst (SqL.of (hb.ex _ _ h)) (Reps.dp hb r (by simpa [toPD, PyData.canLay0] using c))
  | _, _, .nl h o r, c => .lst (SqL.of (hb.ex _ _ h)) (Reps.dp hb r (by simpa [toPD, PyData.canLay0] using c))
  | _, _, .tup h r, c => .tup (SqT.of (hb.ex _ _ h)) (Reps.dp hb r (by simpa [toPD, PyData.canLay0] using c))
  | _, _, .well, c => by simp [toPD, PyData.canLay0] at c
  | _, _, .ref a, c => by simp [toPD, PyData.canLay0] at c
  | _, _, .ty a, c => by simp [toPD, PyData.canLay0] at c
theorem Reps.dp (hb : Base wa Hf H w) : ∀ {vs : List V} {ds : List D}, Reps wa Hf vs ds → PyData.canLayAll0 (toPDs ds) = true → DpAll K H vs (toPDs ds)
  | _, _, .nil, _ => .nil
  | _, d :: ds, .cons h r, c => by
    have c' : (toPD d).canLay0 = true ∧ PyData.canLayAll0 (toPDs ds) = true := by simpa [toPDs, PyData.canLayAll0] using c
    exact .cons (Rep.dp hb h c'.1) (Reps.dp hb r c'.2)
end
theorem shaped_lay {d : PyData} (h : SeqAt.shaped d = true) : d.canLay0 = true := by
  unfold SeqAt.shaped at h
  rw [Bool.and_eq_true] at h
  exact h.1
end
def okD (x : D) : Bool := SeqAt.shaped (toPD x)
def eqD (x y : D) : Bool := PyData.eqv (toPD x) (toPD y)
def fEq : Wl → D → D → Option D := fun _ x y => if okD x && okD y then some (.bl (eqD x y)) else none
def fNe : Wl → D → D → Option D := fun _ x y => if okD x && okD y then some (.bl (!eqD x y)) else none
theorem opd_eq {K : PySem.W.Frag} : OpD (rEqD K) fEq := by
  intro wa Hf H w x y u v z Q hb ru rv h q
  unfold fEq at h
  split at h
  · rename_i hc
    rw [Bool.and_eq_true] at hc
    cases h
    exact ⟨_, _, ru.dp hb (shaped_lay hc.1), rv.dp hb (shaped_lay hc.2), hc.1, hc.2, q _ _ Go.refl hb _ (.bl _)⟩
  · cases h
theorem opd_ne {K : PySem.W.Frag} : OpD (rNeD K) fNe := by
  intro wa Hf H w x y u v z Q hb ru rv h q
  unfold fNe at h
  split at h
  · rename_i hc
    rw [Bool.and_eq_true] at hc
    cases h
    exact ⟨_, _, ru.dp hb (shaped_lay hc.1), rv.dp hb (shaped_lay hc.2), hc.1, hc.2, q _ _ Go.refl hb _ (.bl _)⟩
  · cases h
theorem pd_eq (hu : X.A.units + 64 < cLine) (ha : PE X a (lE mg W A)) (hb : PE X b (lE mg W B)) : PE X (.Compare a [.Eq] [b] pos) (lE mg W (eBin fEq A B)) := pd_cmp (op_eqD hu) opd_eq ha hb (nomark _)
theorem pd_ne (hu : X.A.units + 64 < cLine) (ha : PE X a (lE mg W A)) (hb : PE X b (lE mg W B)) : PE X (.Compare a [.NotEq] [b] pos) (lE mg W (eBin fNe A B)) := pd_cmp (op_neD hu) opd_ne ha hb (nomark _)
def fIsN : Wl → D → D → Option D := fun _ x y => match x, y with
  | .non, .non => some (.bl true)
  | .well, .non | .ref _, .non | .ty _, .non | .bl _, .non | .int _, .non | .str _, .non | .lst _, .non | .tup _, .non => some (.bl false)
  | _, _ => none
def fNotN : Wl → D → D → Option D := fun w x y => match fIsN w x y with
  | some (.bl k) => some (.bl (!k))
  | _ => none
theorem isN_of {wa : Addr} {Hf : Hp} {w : Wl} {x y z : D} {u v : V} (ru : Rep wa Hf u x) (rv : Rep wa Hf v y) (h : fIsN w x y = some z) : v = .non ∧ z = .bl (decide (u = .non)) := by
  unfold fIsN at h
  split at h <;> first
    | (cases h; cases ru; cases rv; exact ⟨rfl, rfl⟩)
    | cases h
theorem pd_isN (ha : PE X a (lE mg W A)) (hb : PE X b (lE mg W B)) : PE X (.Compare a [.Is] [b] pos) (lE mg W (eBin fIsN A B)) := pd_cmp op_isN (fun wa Hf H w x y u v z Q hb ru rv h q => by
  obtain ⟨e1, e2⟩ := isN_of ru rv h
  subst e2
  exact ⟨e1, q _ _ Go.refl hb _ (.bl _)⟩) ha hb (nomark _)
theorem pd_notN (ha : PE X a (lE mg W A)) (hb : PE X b (lE mg W B)) : PE X (.Compare a [.IsNot] [b] pos) (lE mg W (eBin fNotN A B)) := pd_cmp op_notN (fun wa Hf H w x y u v z Q hb ru rv h q => by
  unfold fNotN at h
  split at h
  · rename_i k hk
    cases h
    obtain ⟨e1, e2⟩ := isN_of ru rv hk
    cases e2
    exact ⟨e1, q _ _ Go.refl hb _ (.bl _)⟩
  · cases h) ha hb (nomark _)
/-- a op1 b op2 c -/
def eChain (f g : Wl → D → D → Option D) (A B C : DE) : DE := fun s w => (A s w).bind fun x w1 => (B s w1).bind fun y w2 => (opt (f w2 x y) w2).bind fun z w3 => match z with
  | .bl true => (C s w3).bind fun u w4 => opt (g w4 y u) w4
  | .bl false => .ok (.bl false) w3
  | _ => .no
theorem chain_ok {Q : VK} (hf : OpD r f) (hg : OpD r' g) (h : lE mg W (eChain f g A B C) σ H Q) : tChain r r' (lE mg W A) (lE mg W B) (lE mg W C) σ H Q := by
  obtain ⟨wa, Hf, sD, w, hb, hs, h⟩ := h
  refine ⟨wa, Hf, sD, w, hb, hs, h.bind.mono (fun x w1 H1 Hf1 g1 b1 q v rv => ?_) (fun _ _ _ _ _ _ q => q)⟩
  refine ⟨wa, Hf1, sD, w1, b1, hs.go g1, q.bind.mono (fun y w2 H2 Hf2 g2 b2 q2 v2 rv2 => ?_) (fun _ _ _ _ _ _ q => q)⟩
  obtain ⟨z, e, q3⟩ := q2.bind.opt
  refine hf wa Hf2 H2 w2 x y v v2 z _ b2 (rv.mono g2.ex) rv2 e fun H3 Hf3 g3 b3 v3 r3 => ?_
  have q4 := q3 H3 Hf3 g3 b3
  split at q4
  · cases r3
    refine ⟨true, rfl, iteT ?_⟩
    refine ⟨wa, Hf3, sD, _, b3, (hs.go g1).go (g2.trans g3), q4.bind.mono (fun u w4 H4 Hf4 g4 b4 q5 v4 r4 => ?_) (fun _ _ _ _ _ _ q => q)⟩
    obtain ⟨z2, e2, q6⟩ := q5.opt
    exact hg wa Hf4 H4 _ _ _ v2 v4 z2 Q b4 (rv2.mono (g3.trans g4).ex) r4 e2 q6
  · cases r3
    exact ⟨false, rfl, iteF (q4.here b3 _ (.bl false))⟩
  · exact q4.elim
theorem pd_chain {op op' : CmpOp} (ho : OpR X (compareOp op) r) (ho' : OpR X (compareOp op') r') (hf : OpD r f) (hg : OpD r' g) (ha : PE X a (lE mg W A)) (hb : PE X b (lE mg W B)) (hc : PE X c (lE mg W C))
    (hm : lastMarks [op, op'] [b, c] = false := by with_unfolding_all rfl) : PE X (.Compare a [op, op'] [b, c] pos) (lE mg W (eChain f g A B C)) := weakE (pe_chain ho ho' ha hb hc hm) fun _ _ _ q => chain_ok hf hg q

/-! ### and, or, not as values -/
def eAnd (A B : DE) : DE := fun s w => (A s w).bind fun x w1 => match x with
  | .bl true => B s w1
  | .bl false => .ok (.bl false) w1
  | _ => .no
def eOr (A B : DE) : DE := fun s w => (A s w).bind fun x w1 => match x with
  | .bl true => .ok (.bl true) w1
  | .bl false => B s w1
  | _ => .no
def eNot (A : DE) : DE := fun s w => (A s w).bind fun x w1 => match x with
  | .bl k => .ok (.bl (!k)) w1
  | _ => .no
variable {rest : List Expr}
theorem pd_one {op} (h : PE X a (lE mg W A)) : PE X (.BoolOp op [a] pos) (lE mg W A) := pe_one h
theorem pd_and (ha : PE X a (lE mg W A)) (hb : PE X (.BoolOp .And (b :: rest) pos) (lE mg W B)) : PE X (.BoolOp .And (a :: b :: rest) pos) (lE mg W (eAnd A B)) := weakE (pe_and ha hb) fun σ H Q h => by
  obtain ⟨wa, Hf, sD, w, hb, hs, h⟩ := h
  refine ⟨wa, Hf, sD, w, hb, hs, h.bind.mono (fun x w1 H1 Hf1 g1 b1 q v rv => ?_) (fun _ _ _ _ _ _ q => q)⟩
  split at q
  · cases rv
    exact ⟨true, rfl, iteT ⟨wa, Hf1, sD, w1, b1, hs.go g1, q⟩⟩
  · cases rv
    exact ⟨false, rfl, iteF (q.here b1 _ (.bl false))⟩
  · exact q.elim
theorem pd_or (ha : PE X a (lE mg W A)) (hb : PE X (.BoolOp .Or (b :: rest) pos) (lE mg W B)) : PE X (.BoolOp .Or (a :: b :: rest) pos) (lE mg W (eOr A B)) := weakE (pe_or ha hb) fun σ H Q h => by
  obtain ⟨wa, Hf, sD, w, hb, hs, h⟩ := h
  refine ⟨wa, Hf, sD, w, hb, hs, h.bind.mono (fun x w1 H1 Hf1 g1 b1 q v rv => ?_) (fun _ _ _ _ _ _ q => q)⟩
  split at q
  · cases rv
    exact ⟨true, rfl, iteT (q.here b1 _ (.bl true))⟩
  · cases rv
    exact ⟨false, rfl, iteF ⟨wa, Hf1, sD, w1, b1, hs.go g1, q⟩⟩
  · exact q.elim
theorem pd_not (ha : PE X a (lE mg W A)) : PE X (.UnaryOp .Not a pos) (lE mg W (eNot A)) := weakE (pe_not ha) fun σ H Q h => by
  obtain ⟨wa, Hf, sD, w, hb, hs, h⟩ := h
  refine ⟨wa, Hf, sD, w, hb, hs, h.bind.mono (fun x w1 H1 Hf1 g1 b1 q v rv => ?_) (fun _ _ _ _ _ _ q => q)⟩
  split at q
  · cases rv
    exact ⟨_, rfl, q.here b1 _ (.bl _)⟩
  · exact q.elim

/-! ### tests -/
def tE (A : DE) : DT := fun s w => (A s w).bind fun x w1 => match x with
  | .bl k => .ok k w1
  | _ => .no
def tAn (A B : DT) : DT := fun s w => (A s w).bind fun k w1 => if k then B s w1 else .ok false w1
def tOn (A B : DT) : DT := fun s w => (A s w).bind fun k w1 => if k then .ok true w1 else B s w1
def tNo (A : DT) : DT := fun s w => (A s w).bind fun k w1 => .ok (!k) w1
def truD : D → Option Bool
  | .non => some false
  | .bl b => some b
  | .int i => some (i != 0)
  | .str y => if y.length ≤ lim then some ((y.length : Int) != 0) else none
  | .lst xs => some (!xs.isEmpty)
  | .tup xs => some (!xs.isEmpty)
  | _ => none
def tTr (A : DE) : DT := fun s w => (A s w).bind fun x w1 => opt (truD x) w1
variable {S T : DT}
theorem tE_ok {Q : Bool → Hp → Prop} (h : lT mg W (tE A) σ H Q) : tTest (lE mg W A) σ H Q := by
  obtain ⟨wa, Hf, sD, w, hb, hs, h⟩ := h
  refine ⟨wa, Hf, sD, w, hb, hs, h.bind.mono (fun x w1 H1 Hf1 g1 b1 q v rv => ?_) (fun _ _ _ _ _ _ q => q)⟩
  split at q
  · cases rv
    exact ⟨_, rfl, q.here b1 _ rfl⟩
  · exact q.elim
/-- a comparison as a test -/
theorem qd_cmp {op : CmpOp} (ho : OpR X (compareOp op) r) (hf : OpD r f) (ha : PE X a (lE mg W A)) (hb : PE X b (lE mg W B)) (hm : behindInMarks op b = false) : PT X (.Compare a [op] [b] pos) (lT mg W (tE (eBin f A B))) := weakT (pt_cmpR ho ha hb hm) fun σ H Q h => by
  have q := tE_ok h
  exact bin_ok hf q
theorem qd_lt (ha : PE X a (lE mg W A)) (hb : PE X b (lE mg W B)) : PT X (.Compare a [.Lt] [b] pos) (lT mg W (tE (eBin fLt A B))) := qd_cmp op_lt opd_cmp ha hb (nomark _)
theorem qd_le (ha : PE X a (lE mg W A)) (hb : PE X b (lE mg W B)) : PT X (.Compare a [.LtE] [b] pos) (lT mg W (tE (eBin fLe A B))) := qd_cmp op_le opd_cmp ha hb (nomark _)
theorem qd_gt (ha : PE X a (lE mg W A)) (hb : PE X b (lE mg W B)) : PT X (.Compare a [.Gt] [b] pos) (lT mg W (tE (eBin fGt A B))) := qd_cmp op_gt opd_cmp ha hb (nomark _)
theorem qd_ge (ha : PE X a (lE mg W A)) (hb : PE X b (lE mg W B)) : PT X (.Compare a [.GtE] [b] pos) (lT mg W (tE (eBin fGe A B))) := qd_cmp op_ge opd_cmp ha hb (nomark _)
theorem qd_eq (hu : X.A.units + 64 < cLine) (ha : PE X a (lE mg W A)) (hb : PE X b (lE mg W B)) : PT X (.Compare a [.Eq] [b] pos) (lT mg W (tE (eBin fEq A B))) := qd_cmp (op_eqD hu) opd_eq ha hb (nomark _)
theorem qd_ne (hu : X.A.units + 64 < cLine) (ha : PE X a (lE mg W A)) (hb : PE X b (lE mg W B)) : PT X (.Compare a [.NotEq] [b] pos) (lT mg W (tE (eBin fNe A B))) := qd_cmp (op_neD hu) opd_ne ha hb (nomark _)
theorem qd_isN (ha : PE X a (lE mg W A)) (hb : PE X b (lE mg W B)) : PT X (.Compare a [.Is] [b] pos) (lT mg W (tE (eBin fIsN A B))) := qd_cmp op_isN (fun wa Hf H w x y u v z Q hb ru rv h q => by
  obtain ⟨e1, e2⟩ := isN_of ru rv h
  subst e2
  exact ⟨e1, q _ _ Go.refl hb _ (.bl _)⟩) ha hb (nomark _)
theorem qd_notN (ha : PE X a (lE mg W A)) (hb : PE X b (lE mg W B)) : PT X (.Compare a [.IsNot] [b] pos) (lT mg W (tE (eBin fNotN A B))) := qd_cmp op_notN (fun wa Hf H w x y u v z Q hb ru rv h q => by
  unfold fNotN at h
  split at h
  · rename_i k hk
    cases h
    obtain ⟨e1, e2⟩ := isN_of ru rv hk
    cases e2
    exact ⟨e1, q _ _ Go.refl hb _ (.bl _)⟩
  · cases h) ha hb (nomark _)
theorem qd_chain {op op' : CmpOp} (ho : OpR X (compareOp op) r) (ho' : OpR X (compareOp op') r') (hf : OpD r f) (hg : OpD r' g) (ha : PE X a (lE mg W A)) (hb : PE X b (lE mg W B)) (hc : PE X c (lE mg W C))
    (hm : lastMarks [op, op'] [b, c] = false := by with_unfolding_all rfl) : PT X (.Compare a [op, op'] [b, c] pos) (lT mg W (tE (eChain f g A B C))) := weakT (pt_chain ho ho' ha hb hc hm) fun σ H Q h => by
  have q := tE_ok h
  exact chain_ok hf hg q
/-- any other expression as a test: its truth -/
theorem qd_tr (ha : PE X a (lE mg W A)) (he : ∀ whole, isTrue a X.env whole = (do let v ← whole; standAt a.pos; holding [v] (truthy v)) := by intro _; rfl) : PT X a (lT mg W (tTr A)) := weakT (pt_truth ha he) fun σ H Q h => by
  obtain ⟨wa, Hf, sD, w, hb, hs, h⟩ := h
  refine ⟨wa, Hf, sD, w, hb, hs, h.bind.mono (fun x w1 H1 Hf1 g1 b1 q v rv => ?_) (fun _ _ _ _ _ _ q => q)⟩
  obtain ⟨z, e, q3⟩ := q.opt
  refine ⟨z, ?_, q3 _ _ Go.refl b1 _ rfl⟩
  unfold truD at e
  split at e
  · cases e; cases rv; rfl
  · cases e; cases rv; rfl
  · cases e; cases rv; rfl
  · split at e
    · rename_i hz
      cases e
      cases rv
      exact ⟨lim_le hz, rfl⟩
    · cases e
  · cases e
    cases rv with
    | lst h1 r1 =>
      refine .inl ⟨_, SqL.of (b1.ex _ _ h1), ?_⟩
      cases r1 <;> rfl
  · cases e
    cases rv with
    | tup h1 r1 =>
      refine .inr (.inl ⟨_, SqT.of (b1.ex _ _ h1), ?_⟩)
      cases r1 <;> rfl
  · cases e
theorem qd_and1 (ha : PT X a (lT mg W S)) : PW X (.BoolOp .And [a] pos) (lT mg W S) := pw_and1 ha
theorem qd_or1 (ha : PT X a (lT mg W S)) : PW X (.BoolOp .Or [a] pos) (lT mg W S) := pw_or1 ha
theorem qd_and (ha : PT X a (lT mg W S)) (hb : PW X (.BoolOp .And (b :: rest) pos) (lT mg W T)) : PW X (.BoolOp .And (a :: b :: rest) pos) (lT mg W (tAn S T)) := weakW (pw_and ha hb) fun σ H Q h => by
  obtain ⟨wa, Hf, sD, w, hb, hs, h⟩ := h
  refine ⟨wa, Hf, sD, w, hb, hs, h.bind.mono (fun x w1 H1 Hf1 g1 b1 q v rv => ?_) (fun _ _ _ _ _ _ q => q)⟩
  cases rv
  cases x with
  | true => exact iteT ⟨wa, Hf1, sD, w1, b1, hs.go g1, q⟩
  | false => exact iteF (q.here b1 _ rfl)
theorem qd_or (ha : PT X a (lT mg W S)) (hb : PW X (.BoolOp .Or (b :: rest) pos) (lT mg W T)) : PW X (.BoolOp .Or (a :: b :: rest) pos) (lT mg W (tOn S T)) := weakW (pw_or ha hb) fun σ H Q h => by
  obtain ⟨wa, Hf, sD, w, hb, hs, h⟩ := h
  refine ⟨wa, Hf, sD, w, hb, hs, h.bind.mono (fun x w1 H1 Hf1 g1 b1 q v rv => ?_) (fun _ _ _ _ _ _ q => q)⟩
  cases rv
  cases x with
  | true => exact iteT (q.here b1 _ rfl)
  | false => exact iteF ⟨wa, Hf1, sD, w1, b1, hs.go g1, q⟩
theorem qd_not (ha : PT X a (lT mg W S)) : PT X (.UnaryOp .Not a pos) (lT mg W (tNo S)) := weakT (pt_not ha) fun σ H Q h => by
  obtain ⟨wa, Hf, sD, w, hb, hs, h⟩ := h
  refine ⟨wa, Hf, sD, w, hb, hs, h.bind.mono (fun x w1 H1 Hf1 g1 b1 q v rv => ?_) (fun _ _ _ _ _ _ q => q)⟩
  cases rv
  exact q.here b1 _ rfl
/-- a if t else b -/
def eIf (T : DT) (A B : DE) : DE := fun s w => (T s w).bind fun k w1 => if k then A s w1 else B s w1
theorem pd_if (hc : PT X c (lT mg W T)) (ha : PE X a (lE mg W A)) (hb : PE X b (lE mg W B)) : PE X (.IfExp c a b pos) (lE mg W (eIf T A B)) := weakE (pe_ifExp hc ha hb) fun σ H Q h => by
  obtain ⟨wa, Hf, sD, w, hb, hs, h⟩ := h
  refine ⟨wa, Hf, sD, w, hb, hs, h.bind.mono (fun x w1 H1 Hf1 g1 b1 q v rv => ?_) (fun _ _ _ _ _ _ q => q)⟩
  cases rv
  cases x with
  | true => exact iteT ⟨wa, Hf1, sD, w1, b1, hs.go g1, q⟩
  | false => exact iteF ⟨wa, Hf1, sD, w1, b1, hs.go g1, q⟩

/-! ### argument lists, displays -/
def aNil : DA := fun _ w => .ok [] w
def aCons (A : DE) (As : DA) : DA := fun s w => (A s w).bind fun x w1 => (As s w1).bind fun xs w2 => .ok (x :: xs) w2
variable {As : DA} {es : List Expr}
theorem ad_nil : PA X [] (lA mg W aNil) := weakA pa_nil fun σ H Q h => by
  obtain ⟨wa, Hf, sD, w, hb, hs, h⟩ := h
  exact h.here hb _ .nil
theorem ad_cons (ha : PE X a (lE mg W A)) (hr : PA X es (lA mg W As)) (hs : starEach (a :: es) X.env = (false, eval a X.env) :: starEach es X.env := by rfl) : PA X (a :: es) (lA mg W (aCons A As)) := weakA (pa_cons ha hr hs) fun σ H Q h => by
  obtain ⟨wa, Hf, sD, w, hb, hs, h⟩ := h
  refine ⟨wa, Hf, sD, w, hb, hs, h.bind.mono (fun x w1 H1 Hf1 g1 b1 q v rv => ?_) (fun _ _ _ _ _ _ q => q)⟩
  refine ⟨wa, Hf1, sD, w1, b1, hs.go g1, q.bind.mono (fun y w2 H2 Hf2 g2 b2 q2 v2 rv2 => ?_) (fun _ _ _ _ _ _ q => q)⟩
  exact q2.here b2 _ (.cons (rv.mono g2.ex) rv2)
def eTup (As : DA) : DE := fun s w => (As s w).bind fun xs w1 => if xs.length ≤ lim then .ok (.tup xs) w1 else .no
def aLst (As : DA) : DA := fun s w => (As s w).bind fun xs w1 => if xs.length ≤ lim then .ok xs w1 else .no
theorem pd_tup {k} (ha : PA X es (lA mg W As)) : PE X (.Tuple es k pos) (lE mg W (eTup As)) := weakE (pe_tup ha) fun σ H Q h => by
  obtain ⟨wa, Hf, sD, w, hb, hs, h⟩ := h
  refine ⟨wa, Hf, sD, w, hb, hs, h.bind.mono (fun x w1 H1 Hf1 g1 b1 q v rv => ?_) (fun _ _ _ _ _ _ q => q)⟩
  split at q
  · rename_i hz
    refine ⟨by rw [rv.length]; exact lim_le hz, fun p hp => ?_⟩
    exact q _ _ (Go.newF b1.ex hp) (b1.newF hp) _ (.tup upd_same (rv.mono (Ex.new (Evl.fresh_back b1.ex hp))))
  · exact q.elim
theorem pl_lst (ha : PA X es (lA mg W As)) : PE X (.List es pos) (lfL mg W (aLst As)) := weakE (pe_lst ha) fun σ H Q h => by
  obtain ⟨wa, Hf, sD, w, hb, hs, h⟩ := h
  refine ⟨wa, Hf, sD, w, hb, hs, h.bind.mono (fun x w1 H1 Hf1 g1 b1 q v rv => ?_) (fun _ _ _ _ _ _ q => q)⟩
  split at q
  · rename_i hz
    refine ⟨by rw [rv.length]; exact lim_le hz, fun p hp => ?_⟩
    exact q _ _ (Go.new1 hp) (b1.new1 hp) p v (g1.free hp) upd_same (Evl.fresh_back b1.ex hp) (fun z => by rw [z, b1.well] at hp; cases hp) rv
  · exact q.elim

/-! ### subscripts -/
def atD (w : Wl) (x : D) (i : Int) : Option D := match x with
  | .lst xs => atI xs i
  | .tup xs => atI xs i
  | .well => atI [.int w.1, .int w.2.1, .int w.2.2] i
  | _ => none
def fIx : Wl → D → D → Option D := fun w x y => match y with
  | .int i => atD w x i
  | _ => none
theorem atI_rep {wa : Addr} {Hf : Hp} {vs : List V} {ds : List D} {i : Int} {d : D} (r : Reps wa Hf vs ds) (h : atI ds i = some d) : ∃ v, atI vs i = some v ∧ Rep wa Hf v d := by
  unfold atI at h ⊢
  rw [r.length]
  cases e : ixN ds.length i with
  | none => rw [e] at h; cases h
  | some j =>
    rw [e] at h
    exact r.get h
theorem opd_ix {K : PySem.W.Frag} : OpD (rIx K) fIx := by
  intro wa Hf H w x y u v z Q hb ru rv h q
  unfold fIx at h
  split at h
  · cases rv
    unfold atD at h
    split at h
    · cases ru with
      | lst h1 r1 =>
        obtain ⟨v', e, r'⟩ := atI_rep r1 h
        exact .inl ⟨_, _, _, _, rfl, rfl, SqL.of (hb.ex _ _ h1), e, q _ _ Go.refl hb _ r'⟩
    · cases ru with
      | tup h1 r1 =>
        obtain ⟨v', e, r'⟩ := atI_rep r1 h
        exact .inr (.inl ⟨_, _, _, _, rfl, rfl, SqT.of (hb.ex _ _ h1), e, q _ _ Go.refl hb _ r'⟩)
    · cases ru
      obtain ⟨v', e, r'⟩ := atI_rep (wa := wa) (Hf := Hf) (vs := wl w) (.cons (.int _) (.cons (.int _) (.cons (.int _) .nil))) h
      exact .inl ⟨_, _, _, _, rfl, rfl, SqL.of hb.well, e, q _ _ Go.refl hb _ r'⟩
    · cases h
  · cases h
theorem pd_ix (ha : PE X a (lE mg W A)) (hb : PE X b (lE mg W B)) (hs : PlainIx b := by exact fun _ _ => rfl) : PE X (.Subscript a b pos) (lE mg W (eBin fIx A B)) := weakE (pe_ix ix_seq ha hb hs) fun _ _ _ q => bin_ok opd_ix q
/-- a part of a slice -/
def oNone : Sl → Wl → R (Option Int) := fun _ w => .ok none w
def oSome (A : DE) : Sl → Wl → R (Option Int) := fun s w => (A s w).bind fun x w1 => match x with
  | .int i => .ok (some i) w1
  | _ => .no
theorem od_none : PO X none (lO mg W oNone) := weakO po_none fun σ H Q h => by
  obtain ⟨wa, Hf, sD, w, hb, hs, h⟩ := h
  exact h.here hb _ rfl
theorem od_some (ha : PE X a (lE mg W A)) : PO X (some a) (lO mg W (oSome A)) := weakO (po_some ha) fun σ H Q h => by
  obtain ⟨wa, Hf, sD, w, hb, hs, h⟩ := h
  refine ⟨wa, Hf, sD, w, hb, hs, h.bind.mono (fun x w1 H1 Hf1 g1 b1 q v rv => ?_) (fun _ _ _ _ _ _ q => q)⟩
  split at q
  · cases rv
    exact ⟨_, rfl, q.here b1 _ rfl⟩
  · exact q.elim
def cutD {α : Type} (xs : List α) (lo hi : Option Int) : List α := (xs.drop (HT.sIx xs.length 0 lo)).take (HT.sIx xs.length xs.length hi - HT.sIx xs.length 0 lo)
theorem cut_rep {wa : Addr} {Hf : Hp} {vs : List V} {ds : List D} {lo hi : Option Int} (r : Reps wa Hf vs ds) : Reps wa Hf (cutV vs lo hi) (cutD ds lo hi) := by
  unfold cutV cutD
  rw [r.length]
  exact (r.drop _).take _
theorem cutD_whole {α : Type} {xs : List α} {lo hi : Option Int} (h : HT.sIx xs.length 0 lo = 0 ∧ HT.sIx xs.length xs.length hi = xs.length) : cutD xs lo hi = xs := by
  unfold cutD
  rw [h.1, h.2]
  simp
def eSl (A : DE) (L M : Sl → Wl → R (Option Int)) : DE := fun s w => (A s w).bind fun x w1 => (L s w1).bind fun l w2 => (M s w2).bind fun m w3 => match x with
  | .lst xs => .ok (.lst (cutD xs l m)) w3
  | .tup xs => .ok (.tup (cutD xs l m)) w3
  | _ => .no
theorem pd_sl {lo hi : Option Expr} {p2 : Pos} {L M : Sl → Wl → R (Option Int)} (ha : PE X a (lE mg W A)) (hl : PO X lo (lO mg W L)) (hm : PO X hi (lO mg W M)) : PE X (.Subscript a (.Slice lo hi none p2) pos) (lE mg W (eSl A L M)) :=
  weakE (pe_slice (sl_list.or sl_tupA) ha hl hm) fun σ H Q h => by
  obtain ⟨wa, Hf, sD, w, hb, hs, h⟩ := h
  refine ⟨wa, Hf, sD, w, hb, hs, h.bind.mono (fun x w1 H1 Hf1 g1 b1 q v rv => ?_) (fun _ _ _ _ _ _ q => q)⟩
  refine ⟨wa, Hf1, sD, w1, b1, hs.go g1, q.bind.mono (fun y w2 H2 Hf2 g2 b2 q2 v2 rv2 => ?_) (fun _ _ _ _ _ _ q => q)⟩
  refine ⟨wa, Hf2, sD, w2, b2, (hs.go g1).go g2, q2.bind.mono (fun z w3 H3 Hf3 g3 b3 q3 v3 rv3 => ?_) (fun _ _ _ _ _ _ q => q)⟩
  cases rv2
  cases rv3
  split at q3
  · cases rv with
    | lst h1 r1 =>
      refine .inl ⟨_, _, rfl, SqL.of (b3.ex _ _ (g3.ex _ _ (g2.ex _ _ h1))), ?_⟩
      exact frzL (z := .non) b3 (cut_rep ((r1.mono g2.ex).mono g3.ex)) q3
  · cases rv with
    | tup h1 r1 =>
      have h3 := g3.ex _ _ (g2.ex _ _ h1)
      have r3 := (r1.mono g2.ex).mono g3.ex
      refine .inr ⟨_, _, rfl, SqT.of (b3.ex _ _ h3), fun hw => ?_, fun _ => frzT (z := .non) b3 (cut_rep r3) q3⟩
      rw [r3.length] at hw
      refine q3 _ _ Go.refl b3 _ ?_
      rw [cutD_whole hw]
      exact .tup h3 r3
  · exact q3.elim

/-! ### calls of built-ins by values -/
theorem pd_cb {x : Str} {id : String} {r : List V → Hp → VK → Prop} {f : Wl → List D → Option D} {p : Pos} (hc : CallR X (.builtin id) r) (hf : CaD r f) (hg : Gl X x) (hm : X.mg x = none) (hv : bootBuiltins x = some (.builtin id)) (ha : PA X (a :: es) (lA mg W As)) (hn : x ≠ "__name__" := by decide) (hdb : (x == ("__debug__" : Str)) = false := by decide)
    (he : starEach (a :: es) X.env = (false, eval a X.env) :: starEach es X.env := by rfl) (hpl : (backTo pos (starEach es X.env)).any (·.1) = false := by rfl) : PE X (.Call (.Name x p) (a :: es) [] pos) (lE mg W (eCB f As)) :=
  weakE (pe_callB hc hg hm hv ha hn hdb he hpl) fun _ _ _ q => cb_ok hf q
theorem pd_ct {x : Str} {id : String} {r : List V → Hp → VK → Prop} {f : Wl → List D → Option D} {p : Pos} (hc : CallR X (.type id) r) (hf : CaD r f) (hg : Gl X x) (hm : X.mg x = none) (hv : bootBuiltins x = some (.type id)) (ha : PA X (a :: es) (lA mg W As)) (hn : x ≠ "__name__" := by decide) (hdb : (x == ("__debug__" : Str)) = false := by decide)
    (he : starEach (a :: es) X.env = (false, eval a X.env) :: starEach es X.env := by rfl) (hpl : (backTo pos (starEach es X.env)).any (·.1) = false := by rfl) : PE X (.Call (.Name x p) (a :: es) [] pos) (lE mg W (eCB f As)) :=
  weakE (pe_callTy hc hg hm hv ha hn hdb he hpl) fun _ _ _ q => cb_ok hf q
theorem pl_ct {x : Str} {id : String} {r : List V → Hp → VK → Prop} {f : Wl → List D → Option (List D)} {p : Pos} (hc : CallR X (.type id) r) (hf : CaL r f) (hg : Gl X x) (hm : X.mg x = none) (hv : bootBuiltins x = some (.type id)) (ha : PA X (a :: es) (lA mg W As)) (hn : x ≠ "__name__" := by decide) (hdb : (x == ("__debug__" : Str)) = false := by decide)
    (he : starEach (a :: es) X.env = (false, eval a X.env) :: starEach es X.env := by rfl) (hpl : (backTo pos (starEach es X.env)).any (·.1) = false := by rfl) : PE X (.Call (.Name x p) (a :: es) [] pos) (lfL mg W (eCBL f As)) :=
  weakE (pe_callTy hc hg hm hv ha hn hdb he hpl) fun _ _ _ q => cbL_ok hf q
end
end DL

set_option maxHeartbeats 2000000
namespace DL
open PySem PySem.Spec PyProof.Rows L2
variable [OldT]
open Evl (Ex)
/-! ### built-ins by values -/
def ints? : List D → Option (List Int)
  | [] => some []
  | .int i :: r => (ints? r).map (i :: ·)
  | _ => none
def bls? : List D → Option (List Bool)
  | [] => some []
  | .bl i :: r => (bls? r).map (i :: ·)
  | _ => none
@[simp] theorem ints?_map : ∀ ns : List Int, ints? (ns.map .int) = some ns
  | [] => rfl
  | n :: r => by simp [ints?, ints?_map r]
@[simp] theorem bls?_map : ∀ ns : List Bool, bls? (ns.map .bl) = some ns
  | [] => rfl
  | n :: r => by simp [bls?, bls?_map r]
theorem ints?_some : ∀ {ds : List D} {ns : List Int}, ints? ds = some ns → ds = ns.map .int
  | [], ns, h => by cases h; rfl
  | .int i :: r, ns, h => by
    unfold ints? at h
    cases e : ints? r with
    | none => rw [e] at h; cases h
    | some ms =>
      rw [e] at h
      cases h
      rw [ints?_some e]
      rfl
  | .non :: _, _, h | .bl _ :: _, _, h | .str _ :: _, _, h | .lst _ :: _, _, h | .tup _ :: _, _, h | .own _ :: _, _, h | .well :: _, _, h | .ref _ :: _, _, h | .ty _ :: _, _, h => by cases h
theorem bls?_some : ∀ {ds : List D} {ns : List Bool}, bls? ds = some ns → ds = ns.map .bl
  | [], ns, h => by cases h; rfl
  | .bl i :: r, ns, h => by
    unfold bls? at h
    cases e : bls? r with
    | none => rw [e] at h; cases h
    | some ms =>
      rw [e] at h
      cases h
      rw [bls?_some e]
      rfl
  | .non :: _, _, h | .int _ :: _, _, h | .str _ :: _, _, h | .lst _ :: _, _, h | .tup _ :: _, _, h | .own _ :: _, _, h | .well :: _, _, h | .ref _ :: _, _, h | .ty _ :: _, _, h => by cases h
section
variable {X : Cx} {H : Hp}
def fLen : Wl → List D → Option D := fun _ ds => match ds with
  | [.lst xs] => some (.int xs.length)
  | [.tup xs] => some (.int xs.length)
  | [.str x] => if x.length ≤ lim then some (.int x.length) else none
  | _ => none
theorem cd_len {K : PySem.W.Frag} : CaD (fun xs H Q => ∃ x n, xs = [x] ∧ LenV K x H n ∧ Q (.int n) H) fLen := by
  intro wa Hf H w ds us z Q hb rs h q
  unfold fLen at h
  split at h
  · cases h
    cases rs with
    | cons r1 r2 =>
      cases r2
      cases r1 with
      | lst h1 r1 => exact ⟨_, _, rfl, .inl ⟨_, SqL.of (hb.ex _ _ h1), rfl⟩, by rw [r1.length]; exact q _ _ Go.refl hb _ (.int _)⟩
  · cases h
    cases rs with
    | cons r1 r2 =>
      cases r2
      cases r1 with
      | tup h1 r1 => exact ⟨_, _, rfl, .inr ⟨_, SqT.of (hb.ex _ _ h1), rfl⟩, by rw [r1.length]; exact q _ _ Go.refl hb _ (.int _)⟩
  · split at h
    · rename_i hz
      cases h
      cases rs with
      | cons r1 r2 =>
        cases r2
        cases r1
        exact ⟨_, _, rfl, ⟨lim_le hz, rfl⟩, q _ _ Go.refl hb _ (.int _)⟩
    · cases h
  · cases h
def fMax2 : Wl → List D → Option D := fun _ ds => match ds with
  | [.int i, .int j] => some (.int (if j > i then j else i))
  | _ => none
def fMin2 : Wl → List D → Option D := fun _ ds => match ds with
  | [.int i, .int j] => some (.int (if j < i then j else i))
  | _ => none
theorem cd_max2 : CaD (fun xs H Q => ∃ i j, xs = [.int i, .int j] ∧ Q (.int (if j > i then j else i)) H) fMax2 := by
  intro wa Hf H w ds us z Q hb rs h q
  unfold fMax2 at h
  split at h
  · cases h
    cases rs with
    | cons r1 r2 =>
      cases r1
      cases r2 with
      | cons r1 r2 =>
        cases r1
        cases r2
        exact ⟨_, _, rfl, q _ _ Go.refl hb _ (.int _)⟩
  · cases h
theorem cd_min2 : CaD (fun xs H Q => ∃ i j, xs = [.int i, .int j] ∧ Q (.int (if j < i then j else i)) H) fMin2 := by
  intro wa Hf H w ds us z Q hb rs h q
  unfold fMin2 at h
  split at h
  · cases h
    cases rs with
    | cons r1 r2 =>
      cases r1
      cases r2 with
      | cons r1 r2 =>
        cases r1
        cases r2
        exact ⟨_, _, rfl, q _ _ Go.refl hb _ (.int _)⟩
  · cases h
def fAbs : Wl → List D → Option D := fun _ ds => match ds with
  | [.int i] => some (.int (if i < 0 then -i else i))
  | _ => none
theorem cd_abs : CaD (fun xs H Q => ∃ i, xs = [.int i] ∧ Q (.int (if i < 0 then -i else i)) H) fAbs := by
  intro wa Hf H w ds us z Q hb rs h q
  unfold fAbs at h
  split at h
  · cases h
    cases rs with
    | cons r1 r2 =>
      cases r1
      cases r2
      exact ⟨_, rfl, q _ _ Go.refl hb _ (.int _)⟩
  · cases h
def fInt : Wl → List D → Option D := fun _ ds => match ds with
  | [.int i] => some (.int i)
  | [.bl k] => some (.int (if k then 1 else 0))
  | _ => none
theorem cd_int : CaD (fun xs H Q => (∃ i, xs = [.int i] ∧ Q (.int i) H) ∨ ∃ k, xs = [.bl k] ∧ Q (.int (if k then 1 else 0)) H) fInt := by
  intro wa Hf H w ds us z Q hb rs h q
  unfold fInt at h
  split at h
  · cases h
    cases rs with
    | cons r1 r2 =>
      cases r1
      cases r2
      exact .inl ⟨_, rfl, q _ _ Go.refl hb _ (.int _)⟩
  · cases h
    cases rs with
    | cons r1 r2 =>
      cases r1
      cases r2
      exact .inr ⟨_, rfl, q _ _ Go.refl hb _ (.int _)⟩
  · cases h
def fSum : Wl → List D → Option D := fun _ ds => match ds with
  | [.lst xs] => (ints? xs).map fun ns => .int ns.sum
  | _ => none
theorem one_lst {wa : Addr} {Hf : Hp} {us : List V} {xs : List D} (r : Reps wa Hf us [.lst xs]) : ∃ a vs, us = [.ref a] ∧ Hf a = some (.lst vs) ∧ Reps wa Hf vs xs := by
  cases r with
  | cons r1 r2 =>
    cases r2
    cases r1 with
    | lst h1 r1 => exact ⟨_, _, rfl, h1, r1⟩
theorem cd_sum {K : PySem.W.Frag} : CaD (rSum K) fSum := by
  intro wa Hf H w ds us z Q hb rs h q
  unfold fSum at h
  split at h
  · rename_i xs
    cases e : ints? xs with
    | none => rw [e] at h; cases h
    | some ns =>
      rw [e] at h
      cases h
      obtain ⟨a, vs, rfl, h1, r1⟩ := one_lst rs
      rw [ints?_some e] at r1
      have e2 := r1.ints
      subst e2
      exact ⟨a, ns, rfl, SqL.of (hb.ex _ _ h1), q _ _ Go.refl hb _ (.int _)⟩
  · cases h
def fAll : Wl → List D → Option D := fun _ ds => match ds with
  | [.lst xs] => (bls? xs).map fun ns => .bl (ns.all id)
  | _ => none
def fAny : Wl → List D → Option D := fun _ ds => match ds with
  | [.lst xs] => (bls? xs).map fun ns => .bl (ns.any id)
  | _ => none
theorem cd_all {K : PySem.W.Frag} : CaD (rAll K) fAll := by
  intro wa Hf H w ds us z Q hb rs h q
  unfold fAll at h
  split at h
  · rename_i xs
    cases e : bls? xs with
    | none => rw [e] at h; cases h
    | some ns =>
      rw [e] at h
      cases h
      obtain ⟨a, vs, rfl, h1, r1⟩ := one_lst rs
      rw [bls?_some e] at r1
      have e2 := r1.bls
      subst e2
      exact ⟨a, ns, rfl, SqL.of (hb.ex _ _ h1), q _ _ Go.refl hb _ (.bl _)⟩
  · cases h
theorem cd_any {K : PySem.W.Frag} : CaD (rAny K) fAny := by
  intro wa Hf H w ds us z Q hb rs h q
  unfold fAny at h
  split at h
  · rename_i xs
    cases e : bls? xs with
    | none => rw [e] at h; cases h
    | some ns =>
      rw [e] at h
      cases h
      obtain ⟨a, vs, rfl, h1, r1⟩ := one_lst rs
      rw [bls?_some e] at r1
      have e2 := r1.bls
      subst e2
      exact ⟨a, ns, rfl, SqL.of (hb.ex _ _ h1), q _ _ Go.refl hb _ (.bl _)⟩
  · cases h
def fTuple : Wl → List D → Option D := fun _ ds => match ds with
  | [.lst xs] => some (.tup xs)
  | [.tup xs] => some (.tup xs)
  | _ => none
theorem cd_tuple {K : PySem.W.Frag} : CaD (fun xs H Q => ∃ p ys, xs = [.ref p] ∧ ((SqL K H p ys ∧ ∀ l, H l = none → Q (.ref l) (upd H l (.tup ys))) ∨ (SqT K H p ys ∧ Q (.ref p) H))) fTuple := by
  intro wa Hf H w ds us z Q hb rs h q
  unfold fTuple at h
  split at h
  · cases h
    obtain ⟨a, vs, rfl, h1, r1⟩ := one_lst rs
    exact ⟨a, vs, rfl, .inl ⟨SqL.of (hb.ex _ _ h1), frzT (z := .non) hb r1 q⟩⟩
  · cases h
    cases rs with
    | cons r1 r2 =>
      cases r2
      cases r1 with
      | tup h1 r1 => exact ⟨_, _, rfl, .inr ⟨SqT.of (hb.ex _ _ h1), q _ _ Go.refl hb _ (.tup h1 r1)⟩⟩
  · cases h
/-- list(x): a new list -/
def fList : Wl → List D → Option (List D) := fun _ ds => match ds with
  | [.lst xs] => some xs
  | [.tup xs] => some xs
  | _ => none
theorem newL {wa : Addr} {Hf H : Hp} {w : Wl} {Q : VK} {vs : List V} {ds : List D} (hb : Base wa Hf H w) (rv : Reps wa Hf vs ds) (q : ∀ H' Hf' p vs, Go wa H Hf H' Hf' → Base wa Hf' H' w → H p = none → H' p = some (.lst vs) → Hf' p = none → p ≠ wa → Reps wa Hf' vs ds → Q (.ref p) H') : ∀ p, H p = none → Q (.ref p) (upd H p (.lst vs)) := fun p hp =>
  q _ _ p vs (Go.new1 hp) (hb.new1 hp) hp upd_same (Evl.fresh_back hb.ex hp) (fun z => by rw [z, hb.well] at hp; cases hp) rv
theorem cl_list {K : PySem.W.Frag} : CaL (fun xs H Q => ∃ p ys, xs = [.ref p] ∧ (SqL K H p ys ∨ SqT K H p ys) ∧ ∀ l, H l = none → Q (.ref l) (upd H l (.lst ys))) fList := by
  intro wa Hf H w ds us z Q hb rs h q
  unfold fList at h
  split at h
  · cases h
    obtain ⟨a, vs, rfl, h1, r1⟩ := one_lst rs
    exact ⟨a, vs, rfl, .inl (SqL.of (hb.ex _ _ h1)), newL hb r1 q⟩
  · cases h
    cases rs with
    | cons r1 r2 =>
      cases r2
      cases r1 with
      | tup h1 r1 => exact ⟨_, _, rfl, .inr (SqT.of (hb.ex _ _ h1)), newL hb r1 q⟩
  · cases h
/-- isinstance -/
def tyD : D → Option String
  | .non => some "NoneType"
  | .bl _ => some "bool"
  | .int _ => some "int"
  | .str _ => some "str"
  | .lst _ => some "list"
  | .nl _ => some "list"
  | .tup _ => some "tuple"
  | _ => none
theorem tyD_ok {wa : Addr} {Hf : Hp} {K : PySem.W.Frag} {w : Wl} {x : D} {v : V} {t : String} (hb : Base wa Hf H w) (r : Rep wa Hf v x) (h : tyD x = some t) : TyX K H v (.type t) := by
  cases r with
  | non => cases h; exact .base .non
  | bl b => cases h; exact .base (.bl b)
  | int b => cases h; exact .base (.int b)
  | str b => cases h; exact .base (.str b)
  | lst h1 r1 => cases h; exact .base (.lst (hb.ex _ _ h1))
  | nl h1 o r1 => cases h; exact .base (.lst (hb.ex _ _ h1))
  | tup h1 r1 => cases h; exact .base (.tup (hb.ex _ _ h1))
  | well => cases h
  | ref a => cases h
  | ty a => cases h
def isB (t : String) (n : String) : Option Bool := if t = n then some true else match n with
  | "int" => if t = "bool" then some true else if t = "NoneType" ∨ t = "str" ∨ t = "list" ∨ t = "tuple" then some false else none
  | "bool" | "str" | "list" | "tuple" => if t = "NoneType" ∨ t = "str" ∨ t = "list" ∨ t = "tuple" ∨ t = "bool" ∨ t = "int" then some false else none
  | _ => none
theorem kitB_all : ∀ t ∈ ["NoneType", "bool", "int", "str", "list", "tuple"], ∀ n ∈ ["bool", "int", "str", "list", "tuple"], kitB t n = isB t n := by decide +kernel
theorem isB_kit {K : PySem.W.Frag} {t n : String} {b : Bool} {x : D} (ht : tyD x = some t) (h : isB t n = some b) : PySem.W.kitOne K (.type t) (.type n) = some b := by
  have mt : t ∈ ["NoneType", "bool", "int", "str", "list", "tuple"] := by
    cases x <;> first | (cases ht; decide) | cases ht
  have mn : n ∈ ["bool", "int", "str", "list", "tuple"] ∨ n = "NoneType" := by
    unfold isB at h
    split at h
    · rename_i e
      subst e
      revert mt
      intro mt
      simp only [List.mem_cons, List.not_mem_nil, or_false] at mt ⊢
      rcases mt with h | h | h | h | h | h <;> simp [h]
    · split at h <;> first | (left; decide) | cases h
  rcases mn with mn | mn
  · exact kit_ty (by rw [kitB_all t mt n mn]; exact h)
  · subst mn
    unfold isB at h
    split at h
    · rename_i e
      subst e
      cases h
      exact kit_ty (by decide +kernel)
    · simp at h
def fIsi : Wl → List D → Option D := fun _ ds => match ds with
  | [x, .ty n] => (tyD x).bind fun t => (isB t n).map .bl
  | [x, .tup [.ty n, .ty m]] => (tyD x).bind fun t => (isB t n).bind fun b => if b then some (.bl true) else (isB t m).map .bl
  | _ => none
theorem cd_isi {K : PySem.W.Frag} : CaD (fun xs H Q => rIsi K xs H Q ∨ rIsiT K xs H Q) fIsi := by
  intro wa Hf H w ds us z Q hb rs h q
  unfold fIsi at h
  split at h
  · rename_i x n
    cases e : tyD x with
    | none => rw [e] at h; cases h
    | some t =>
      rw [e] at h
      cases e2 : isB t n with
      | none => simp [e2] at h
      | some b =>
        simp only [Option.bind_some, e2, Option.map_some, Option.some.injEq] at h
        subst h
        cases rs with
        | cons r1 r2 =>
          cases r2 with
          | cons r2 r3 =>
            cases r2
            cases r3
            exact .inl ⟨_, _, _, _, b, rfl, .ty n, tyD_ok hb r1 e, isB_kit e e2, q _ _ Go.refl hb _ (.bl _)⟩
  · rename_i x n m
    cases e : tyD x with
    | none => rw [e] at h; cases h
    | some t =>
      rw [e] at h
      cases e2 : isB t n with
      | none => simp [e2] at h
      | some b =>
        simp only [Option.bind_some, e2] at h
        cases rs with
        | cons r1 r2 =>
          cases r2 with
          | cons r2 r3 =>
            cases r3
            cases r2 with
            | tup h1 r2 =>
              cases r2 with
              | cons ra rb =>
                cases ra
                cases rb with
                | cons rb rc =>
                  cases rb
                  cases rc
                  have pc : Paired ClsV [V.ty n, V.ty m] [Value.type n, Value.type m] := .cons (.ty n) (.cons (.ty m) .nil)
                  cases b with
                  | true =>
                    simp only [if_true, Option.some.injEq] at h
                    subst h
                    refine .inr ⟨_, _, _, _, _, true, rfl, hb.ex _ _ h1, pc, tyD_ok hb r1 e, ?_, q _ _ Go.refl hb _ (.bl _)⟩
                    unfold PySem.W.kitAny
                    rw [isB_kit e e2]
                  | false =>
                    simp only [Bool.false_eq_true, if_false] at h
                    cases e3 : isB t m with
                    | none => rw [e3] at h; cases h
                    | some b2 =>
                      rw [e3] at h
                      cases h
                      refine .inr ⟨_, _, _, _, _, b2, rfl, hb.ex _ _ h1, pc, tyD_ok hb r1 e, ?_, q _ _ Go.refl hb _ (.bl _)⟩
                      unfold PySem.W.kitAny
                      rw [isB_kit e e2]
                      show PySem.W.kitAny K (.type t) [.type m] = some b2
                      unfold PySem.W.kitAny
                      rw [isB_kit e e3]
                      cases b2 <;> rfl
  · cases h
theorem call_isiA : CallR X (.builtin "isinstance") (fun xs H Q => rIsi X.K xs H Q ∨ rIsiT X.K xs H Q) := call_isi.or call_isiT
/-- divmod -/
def fDivmod : Wl → List D → Option D := fun _ ds => match ds with
  | [.int i, .int j] => if divOk j then some (.tup [.int (i.fdiv j), .int (i.fmod j)]) else none
  | _ => none
def rDivmod : List V → Hp → VK → Prop := fun xs H Q => ∃ i j, xs = [.int i, .int j] ∧ divOk j ∧ ∀ p, H p = none → Q (.ref p) (upd H p (.tup [.int (i.fdiv j), .int (i.fmod j)]))
theorem call_divmodA : CallR X (.builtin "divmod") rDivmod := by
  intro pins s σ H xs us Q I r h
  obtain ⟨i, j, rfl, ⟨h1, h2⟩, q⟩ := h
  obtain ⟨u, w', rfl, ⟨t, rfl⟩, ⟨t', rfl⟩⟩ := vals2 r
  refine divmod_int h1 ?_ (.inl (PyProof.noPylong_of_log2 h2))
  have hn : H s.heap.objs.size = none := I.hok.fresh (Nat.le_refl _)
  refine ⟨.ref s.heap.objs.size, _, ?_, rfl, q _ hn⟩
  refine I.laid (fun b o e => Heap.get?_push_of_some _ e) (Nat.le_refl _) ⟨by simp only [List.length_cons, List.length_nil]; rw [sizeLine_eq]; decide, [.int (i.fdiv j) s.toks, .int (i.fmod j) (s.toks + 1)], .cons ⟨_, rfl⟩ (.cons ⟨_, rfl⟩ .nil), ?_⟩
  exact ⟨_, Heap.get?_push_size s.heap rfl, rfl, 0, rfl⟩
theorem cd_divmod : CaD rDivmod fDivmod := by
  intro wa Hf H w ds us z Q hb rs h q
  unfold fDivmod at h
  split at h
  · split at h
    · rename_i hd
      cases h
      cases rs with
      | cons r1 r2 =>
        cases r1
        cases r2 with
        | cons r1 r2 =>
          cases r1
          cases r2
          exact ⟨_, _, rfl, hd, frzT (z := .non) hb (.cons (.int _) (.cons (.int _) .nil)) q⟩
    · cases h
  · cases h
end
end DL

set_option maxHeartbeats 2000000
namespace DL
open PySem PySem.Spec PyProof.Rows L2
variable [OldT]
open Evl (Ex)
/-! ### what is walked -/
structure WalkD (wa : Addr) (Hf : Hp) (J : It) (ds : List D) : Prop where
  goes : ∀ i H, i < ds.length → Ex Hf H → J.go i H
  stops : ∀ H, Ex Hf H → J.stop ds.length H
  yields : ∀ i H Hf1 w x H' d, ds[i]? = some d → Ex Hf Hf1 → Base wa Hf1 H w → J.yld i H x H' → ∃ Hf2, Go wa H Hf1 H' Hf2 ∧ Base wa Hf2 H' w ∧ Rep wa Hf2 x d
abbrev DI := Sl → Wl → R (List D)
def lI (mg : Str → Option Value) (W : WX) (I : DI) : TI := fun σ H R =>
  ∃ wa Hf sD w, Base wa Hf H w ∧ Slots wa Hf H σ sD ∧ Fin wa Hf H (I sD w) (fun ds _ H' Hf' => ∀ J, WalkD wa Hf' J ds → R J H') (Er mg W wa σ)
section
variable {X : Cx} {mg : Str → Option Value} {W : WX} {tg it a b e : Expr} {es : List Expr} {pos : Pos} {σ : L2.St} {H : Hp} {wa : Addr} {Hf : Hp}
theorem weakI {t t' : TI} (h : PI X tg it t) (i : ∀ σ H Q, t' σ H Q → t σ H Q) : PI X tg it t' := ⟨fun pins s σ H Q I q => h.run pins s σ H Q I (i σ H Q q)⟩
theorem orI {t t' : TI} (h : PI X tg it t) (h' : PI X tg it t') : PI X tg it (fun σ H Q => t σ H Q ∨ t' σ H Q) := ⟨fun pins s σ H Q I q => q.elim (fun q => h.run pins s σ H Q I q) fun q => h'.run pins s σ H Q I q⟩
theorem walkD_list {K : PySem.W.Frag} {p : Addr} {vs : List V} {ds : List D} (h : Hf p = some (.lst vs)) (r : Reps wa Hf vs ds) : WalkD wa Hf (Itl K p) ds :=
  ⟨fun i H hi x => by
    have hi' : i < vs.length := by rw [r.length]; exact hi
    exact ⟨vs, vs[i], SqL.of (x _ _ h), by simp [hi']⟩, fun H x => ⟨vs, SqL.of (x _ _ h), Nat.le_of_eq r.length⟩, fun i H Hf1 w y H' d hd x b q => by
    obtain ⟨rfl, q⟩ := q
    obtain ⟨v, e1, r1⟩ := (r.mono x).get hd
    have e2 := q vs (SqL.of (b.ex _ _ (x _ _ h)))
    rw [e1] at e2
    cases e2
    exact ⟨Hf1, Go.refl, b, r1⟩⟩
theorem walkD_tup {K : PySem.W.Frag} {p : Addr} {vs : List V} {ds : List D} (h : Hf p = some (.tup vs)) (r : Reps wa Hf vs ds) : WalkD wa Hf (Itt K p) ds :=
  ⟨fun i H hi x => by
    have hi' : i < vs.length := by rw [r.length]; exact hi
    exact ⟨vs, vs[i], SqT.of (x _ _ h), by simp [hi']⟩, fun H x => ⟨vs, SqT.of (x _ _ h), Nat.le_of_eq r.length⟩, fun i H Hf1 w y H' d hd x b q => by
    obtain ⟨rfl, q⟩ := q
    obtain ⟨v, e1, r1⟩ := (r.mono x).get hd
    have e2 := q vs (SqT.of (b.ex _ _ (x _ _ h)))
    rw [e1] at e2
    cases e2
    exact ⟨Hf1, Go.refl, b, r1⟩⟩
def upTo (lo : Int) (n : Nat) : List D := (List.range n).map fun i => .int (lo + (i : Nat))
theorem walkD_range {lo : Int} {n : Nat} : WalkD wa Hf (Itr lo n) (upTo lo n) :=
  ⟨fun i H hi x => by
    have h : i < n := by simpa [upTo] using hi
    exact h, fun H x => by
    have h : n ≤ (upTo lo n).length := by simp [upTo]
    exact h, fun i H Hf1 w y H' d hd x b q => by
    obtain ⟨rfl, q⟩ := q
    unfold upTo at hd
    rw [List.getElem?_map] at hd
    cases e : (List.range n)[i]? with
    | none => rw [e] at hd; cases hd
    | some j =>
      rw [e] at hd
      have ej : j = i := by
        rw [List.getElem?_range] at e
        · exact (Option.some.inj e).symm
        · have := (List.getElem?_eq_some_iff.mp e).1
          simpa using this
      subst ej
      cases hd
      rw [q]
      exact ⟨Hf1, Go.refl, b, .int _⟩⟩
def enumD (xs : List D) : List D := xs.zipIdx.map fun p => .tup [.int (p.2 : Nat), p.1]
theorem walkD_enum {K : PySem.W.Frag} {p : Addr} {vs : List V} {ds : List D} (h : Hf p = some (.lst vs)) (r : Reps wa Hf vs ds) : WalkD wa Hf (Ite K p) (enumD ds) :=
  ⟨fun i H hi x => by
    have hi' : i < vs.length := by rw [r.length]; simpa [enumD] using hi
    exact ⟨vs, vs[i], SqL.of (x _ _ h), by simp [hi']⟩, fun H x => ⟨vs, SqL.of (x _ _ h), by simp [enumD, r.length]⟩, fun i H Hf1 w y H' d hd x b q => by
    obtain ⟨T, z, rfl, hT, rfl, q⟩ := q
    unfold enumD at hd
    rw [List.getElem?_map, List.getElem?_zipIdx] at hd
    cases e : ds[i]? with
    | none => rw [e] at hd; cases hd
    | some d1 =>
      rw [e] at hd
      cases hd
      obtain ⟨v, e1, r1⟩ := (r.mono x).get e
      have e2 := q vs (SqL.of (b.ex _ _ (x _ _ h)))
      rw [e1] at e2
      cases e2
      rw [Nat.zero_add]
      exact ⟨_, Go.newF b.ex hT, b.newF hT, .tup upd_same (.cons (.int _) (.cons (r1.mono (Ex.new (Evl.fresh_back b.ex hT))) .nil))⟩⟩
/-- over a list or a tuple -/
def iSeq (A : DE) : DI := fun s w => (A s w).bind fun x w1 => match x with
  | .lst xs => .ok xs w1
  | .tup xs => .ok xs w1
  | _ => .no
theorem id_seq {A : DE} (ha : PE X a (lE mg W A)) : PI X tg a (lI mg W (iSeq A)) := weakI (orI (pi_list ha) (pi_tup ha)) fun σ H Q h => by
  obtain ⟨wa, Hf, sD, w, hb, hs, h⟩ := h
  unfold iSeq at h
  cases ea : A sD w with
  | ok x w1 =>
    rw [ea, R.bind_ok] at h
    cases x with
    | lst xs =>
      refine .inl ⟨wa, Hf, sD, w, hb, hs, ?_⟩
      rw [ea]
      intro H1 Hf1 g b v rv
      cases rv with
      | lst h1 r1 => exact ⟨_, rfl, ⟨_, SqL.of (b.ex _ _ h1)⟩, h H1 Hf1 g b _ (walkD_list h1 r1)⟩
    | tup xs =>
      refine .inr ⟨wa, Hf, sD, w, hb, hs, ?_⟩
      rw [ea]
      intro H1 Hf1 g b v rv
      cases rv with
      | tup h1 r1 => exact ⟨_, rfl, ⟨_, SqT.of (b.ex _ _ h1)⟩, h H1 Hf1 g b _ (walkD_tup h1 r1)⟩
    | _ => exact h.elim
  | er x w1 =>
    rw [ea] at h
    refine .inl ⟨wa, Hf, sD, w, hb, hs, ?_⟩
    rw [ea]
    exact h
  | no => rw [ea] at h; exact h.elim
/-- over a new list -/
def iRng1 (As : DA) : DI := fun s w => (As s w).bind fun xs w1 => match xs with
  | [.int j] => if -4611686018427387904 ≤ j ∧ j < 4611686018427387904 then .ok (upTo 0 j.toNat) w1 else .no
  | _ => .no
def iRng2 (As : DA) : DI := fun s w => (As s w).bind fun xs w1 => match xs with
  | [.int i, .int j] => if (-4611686018427387904 ≤ i ∧ i < 4611686018427387904) ∧ -4611686018427387904 ≤ j ∧ j < 4611686018427387904 then .ok (upTo i (j - i).toNat) w1 else .no
  | _ => .no
theorem id_rng1 {As : DA} {p : Pos} (hg : Gl X "range") (hm : X.mg "range" = none) (ha : PA X [a] (lA mg W As)) (hs : starEach [a] X.env = [(false, eval a X.env)] := by rfl) : PI X tg (.Call (.Name "range" p) [a] [] pos) (lI mg W (iRng1 As)) := weakI (pi_range1 hg hm ha hs) fun σ H Q h => by
  obtain ⟨wa, Hf, sD, w, hb, hs, h⟩ := h
  refine ⟨wa, Hf, sD, w, hb, hs, h.bind.mono (fun x w1 H1 Hf1 g1 b1 q v rv => ?_) (fun _ _ _ _ _ _ q => q)⟩
  split at q
  · split at q
    · rename_i hz
      cases rv with
      | cons r1 r2 =>
        cases r1
        cases r2
        exact ⟨_, rfl, by omega, by omega, q.here b1 _ walkD_range⟩
    · exact q.elim
  · exact q.elim
theorem id_rng2 {As : DA} {p : Pos} (hg : Gl X "range") (hm : X.mg "range" = none) (ha : PA X [a, b] (lA mg W As)) (hs : starEach [a, b] X.env = [(false, eval a X.env), (false, eval b X.env)] := by rfl) (hs2 : starEach [b] X.env = [(false, eval b X.env)] := by rfl) : PI X tg (.Call (.Name "range" p) [a, b] [] pos) (lI mg W (iRng2 As)) := weakI (pi_range2 hg hm ha hs hs2) fun σ H Q h => by
  obtain ⟨wa, Hf, sD, w, hb, hs, h⟩ := h
  refine ⟨wa, Hf, sD, w, hb, hs, h.bind.mono (fun x w1 H1 Hf1 g1 b1 q v rv => ?_) (fun _ _ _ _ _ _ q => q)⟩
  split at q
  · split at q
    · rename_i hz
      cases rv with
      | cons r1 r2 =>
        cases r1
        cases r2 with
        | cons r1 r2 =>
          cases r1
          cases r2
          exact ⟨_, _, rfl, ⟨by omega, by omega, by omega, by omega⟩, q.here b1 _ walkD_range⟩
    · exact q.elim
  · exact q.elim
def iEnum (As : DA) : DI := fun s w => (As s w).bind fun xs w1 => match xs with
  | [.lst ds] => .ok (enumD ds) w1
  | _ => .no
theorem id_enum {As : DA} {p tpos : Pos} {elts : List Expr} {kk : Nat} (hg : Gl X "enumerate") (hm : X.mg "enumerate" = none) (ha : PA X [a] (lA mg W As)) (hs : starEach [a] X.env = [(false, eval a X.env)] := by rfl) : PI X (.Tuple elts kk tpos) (.Call (.Name "enumerate" p) [a] [] pos) (lI mg W (iEnum As)) := weakI (pi_enum hg hm ha hs) fun σ H Q h => by
  obtain ⟨wa, Hf, sD, w, hb, hs, h⟩ := h
  refine ⟨wa, Hf, sD, w, hb, hs, h.bind.mono (fun x w1 H1 Hf1 g1 b1 q v rv => ?_) (fun _ _ _ _ _ _ q => q)⟩
  split at q
  · obtain ⟨p, vs, rfl, h1, r1⟩ := one_lst rv
    exact ⟨p, vs, rfl, SqL.of (b1.ex _ _ h1), q.here b1 _ (walkD_enum h1 r1)⟩
  · exact q.elim

/-! ### targets -/
def lG (vs : List Nat) (G : DG) : TG := fun v σ H Q => ∃ wa Hf H0 w sD d s', Base wa Hf H w ∧ Rep wa Hf v d ∧ Slots wa Hf H σ sD ∧ OwnNew H0 σ sD ∧ G d sD = some s' ∧
  ∀ σ', Slots wa Hf H σ' s' → OwnNew H0 σ' s' → wipe σ' vs = wipe σ vs → Q σ' H
def lGs (vs : List Nat) (G : List D → Sl → Option Sl) : TGs := fun v σ H Q => ∃ wa Hf H0 w sD d s', Base wa Hf H w ∧ Reps wa Hf v d ∧ Slots wa Hf H σ sD ∧ OwnNew H0 σ sD ∧ G d sD = some s' ∧
  ∀ σ', Slots wa Hf H σ' s' → OwnNew H0 σ' s' → wipe σ' vs = wipe σ vs → Q σ' H
theorem weakG {t t' : TG} (h : PG X tg t) (i : ∀ v σ H Q, t' v σ H Q → t v σ H Q) : PG X tg t' := ⟨fun pins s σ H v u Q I r q => h.run pins s σ H v u Q I r (i v σ H Q q)⟩
theorem weakGs {t t' : TGs} (h : PGs X es t) (i : ∀ v σ H Q, t' v σ H Q → t v σ H Q) : PGs X es t' := ⟨fun pins s σ H v u Q I r q => h.run pins s σ H v u Q I r (i v σ H Q q)⟩
theorem wipe_set {σ : L2.St} {i : Nat} {x : Option V} : ∀ {vs : List Nat}, i ∈ vs → wipe (σ.set i x) vs = wipe σ vs
  | v :: vs, h => by
    unfold wipe
    by_cases hi : i ∈ vs
    · rw [wipe_set hi]
    · have e : i = v := by
        rcases List.mem_cons.mp h with e | e
        · exact e
        · exact absurd e hi
      subst e
      have key : ∀ (ws : List Nat), i ∉ ws → wipe (σ.set i x) ws = (wipe σ ws).set i x := by
        intro ws
        induction ws with
        | nil => intro _; rfl
        | cons u us ih =>
          intro hu
          have h1 : i ∉ us := fun m => hu (List.mem_cons_of_mem _ m)
          have h2 : i ≠ u := fun e => hu (by rw [e]; exact List.mem_cons_self)
          unfold wipe
          rw [ih h1, List.set_comm _ _ h2]
      rw [key vs hi, List.set_set]
def gN (i : Nat) : DG := fun d s => some (s.set i (some d))
theorem gd_name {i : Nat} {x : Str} {vs : List Nat} (hN : X.N.Nodup) (hi : X.N[i]? = some x) (hx : Loc X.env.scope x) (hv : i ∈ vs) (hf : X.fn x = true ∨ X.env.scope.names.lookup x = some .local := by first | exact .inl rfl | exact .inr rfl | assumption) : PG X (.Name x pos) (lG vs (gN i)) := weakG (pg_name hN hi hx hf) fun v σ H Q h => by
  obtain ⟨wa, Hf, H0, w, sD, d, s', hb, rv, hs, ho, e, q⟩ := h
  cases e
  exact q _ (hs.set rv) (ho.set fun xs z => by subst z; exact rep_own rv) (wipe_set hv)
def gNil' : List D → Sl → Option Sl := fun ds s => match ds with
  | [] => some s
  | _ => none
def gCons' (G : DG) (Gs : List D → Sl → Option Sl) : List D → Sl → Option Sl := fun ds s => match ds with
  | d :: r => (G d s).bind fun s1 => Gs r s1
  | _ => none
def gT (Gs : List D → Sl → Option Sl) (n : Nat) : DG := fun d s => match d with
  | .tup ds => if ds.length = n then Gs ds s else none
  | _ => none
theorem gd_nil {vs : List Nat} : PGs X [] (lGs vs gNil') := weakGs pgs_nil fun v σ H Q h => by
  obtain ⟨wa, Hf, H0, w, sD, d, s', hb, rv, hs, ho, e, q⟩ := h
  unfold gNil' at e
  split at e
  · cases e
    cases rv
    exact ⟨rfl, q _ hs ho rfl⟩
  · cases e
theorem gd_cons {G : DG} {Gs : List D → Sl → Option Sl} {vs : List Nat} (h1 : PG X a (lG vs G)) (h2 : PGs X es (lGs vs Gs)) (hs : (assignEach (a :: es) X.env).map (·.2) = assign a X.env :: (assignEach es X.env).map (·.2) := by rfl) : PGs X (a :: es) (lGs vs (gCons' G Gs)) := weakGs (pgs_cons h1 h2 hs) fun v σ H Q h => by
  obtain ⟨wa, Hf, H0, w, sD, d, s', hb, rv, hs, ho, e, q⟩ := h
  unfold gCons' at e
  split at e
  · rename_i d r
    cases rv with
    | cons r1 r2 =>
      cases e1 : G d sD with
      | none => rw [e1] at e; cases e
      | some s1 =>
        rw [e1] at e
        exact ⟨_, _, rfl, wa, Hf, H0, w, sD, d, s1, hb, r1, hs, ho, e1, fun σ1 hs1 ho1 hw1 => ⟨wa, Hf, H0, w, s1, r, s', hb, r2, hs1, ho1, e, fun σ2 hs2 ho2 hw2 => q σ2 hs2 ho2 (hw2.trans hw1)⟩⟩
  · cases e
theorem gd_tup {k : Nat} {Gs : List D → Sl → Option Sl} {n : Nat} {vs : List Nat} (hc : X.calm = true) (h : PGs X es (lGs vs Gs)) (hn : (assignEach es X.env).length = n := by rfl) (hst : (assignEach es X.env).findIdx? (·.1) = none := by rfl) : PG X (.Tuple es k pos) (lG vs (gT Gs n)) := weakG (pg_tup hc h hn hst) fun v σ H Q h => by
  obtain ⟨wa, Hf, H0, w, sD, d, s', hb, rv, hs, ho, e, q⟩ := h
  unfold gT at e
  split at e
  · split at e
    · rename_i hl
      cases rv with
      | tup h1 r1 => exact ⟨_, _, rfl, SqT.of (hb.ex _ _ h1), by rw [r1.length]; exact hl, wa, Hf, H0, w, sD, _, s', hb, r1, hs, ho, e, q⟩
    · cases e
  · cases e
end

/-! ### calls of the program's own functions -/
def spD (mg : Str → Option Value) (n : Nat) (F : DF) : Sp := fun vs H Q E => ∃ wa Hf ds w, Base wa Hf H w ∧ Reps wa Hf vs ds ∧ ds.length = n ∧
  Fin wa Hf H (F ds w) (fun d _ H' Hf' => ∀ v, Rep wa Hf' v d → Q v H') (fun x _ H' Hf' => ∀ cls dx, ErrV mg wa Hf' x cls dx → E cls dx H')
abbrev FnD (P : Program) (w : World) (K : PySem.W.Frag) (mg : Str → Option Value) (base : Heap) (k : Nat) (f : Addr) (fd : FuncData) (ps : List Str) (F : DF) : Prop := FnOk P w K mg base (L2.CX P w) k f fd ps (spD mg ps.length F)
/-- less is promised, or the same -/
def Less {α β : Type} (F G : α → β → R D) : Prop := ∀ a b, F a b = .no ∨ F a b = G a b
theorem FnD.less {P : Program} {w : World} {K : PySem.W.Frag} {mg : Str → Option Value} {base : Heap} {k : Nat} {f : Addr} {fd : FuncData} {ps : List Str} {F G : DF} (h : FnD P w K mg base k f fd ps G) (l : ∀ ds w, ds.length = ps.length → F ds w = .no ∨ F ds w = G ds w) : FnD P w K mg base k f fd ps F :=
  FnOk.imp h fun vs H Q E ⟨wa, Hf, ds, w, hb, r, hl, q⟩ => ⟨wa, Hf, ds, w, hb, r, hl, by
    rcases l ds w hl with e | e
    · rw [e] at q; exact q.elim
    · rw [e] at q; exact q⟩
def eCall (n : Nat) (F : DF) (As : DA) : DE := fun s w => (As s w).bind fun ds w1 => if ds.length = n then F ds w1 else .no
/-- what is raised in a callee reaches what is wished here -/
def Wok (X : Cx) (W : WX) : Prop := ∀ σ, PassesAt (L2.CX X.prog X.w) X σ (WE W σ)
theorem wok_takes {X : Cx} {W : WX} (t : Takes X W) : Wok X W := fun σ => passAt t σ
abbrev W0 : WX := fun _ _ _ _ => False
theorem wok0 {X : Cx} : Wok X W0 := fun σ pins H s e s' I c => by
  obtain ⟨_, _, _, _, _, _, _, _, _, _, _, _, z⟩ := c
  exact z.elim
section
variable {X : Cx} {W : WX} {tg it a b e : Expr} {es : List Expr} {pos : Pos} {σ : L2.St} {H : Hp} {wa : Addr} {Hf : Hp}
theorem fin_call {mg : Str → Option Value} {w : Wl} {n : Nat} {F : DF} {ds : List D} {vs : List V} {Q : VK} {W : WX} (hb : Base wa Hf H w) (rv : Reps wa Hf vs ds) (q : Fin wa Hf H (if ds.length = n then F ds w else .no) (fun d _ H' Hf' => ∀ v, Rep wa Hf' v d → Q v H') (Er mg W wa σ)) : spD mg n F vs H Q (WE W σ) := by
  split at q
  · rename_i hl
    exact ⟨wa, Hf, ds, w, hb, rv, hl, q⟩
  · exact q.elim
theorem pd_call {k : Nat} {f : Addr} {fd : FuncData} {ps : List Str} {F : DF} {x : Str} {p : Pos} {As : DA} (G : FnD X.prog X.w X.K X.mg X.base k f fd ps F) (hr : Room k X.A) (hg : Gl X x) (hm : X.mg x = some (.ref f)) (hk : PySem.W.keepIn X.K (.ref f) = true) (hb : Binds X.K fd ps []) (hx : Wok X W)
    (ha : PA X (e :: es) (lA X.mg W As)) (hdb : (x == ("__debug__" : Str)) = false := by decide) (he : starEach (e :: es) X.env = (false, eval e X.env) :: starEach es X.env := by rfl) (hpl : (backTo pos (starEach es X.env)).any (·.1) = false := by rfl) :
    PE X (.Call (.Name x p) (e :: es) [] pos) (lE X.mg W (eCall ps.length F As)) := weakE (pe_callS G hr hg hm hk hb hx ha hdb he hpl) fun σ H Q h => by
  obtain ⟨wa, Hf, sD, w, hb, hs, h⟩ := h
  refine ⟨wa, Hf, sD, w, hb, hs, h.bind.mono (fun x w1 H1 Hf1 g1 b1 q v rv => ?_) (fun _ _ _ _ _ _ q => q)⟩
  exact fin_call b1 rv q
end
end DL

set_option maxHeartbeats 2000000
namespace DL
open PySem PySem.Spec PyProof.Rows L2
variable [OldT]
open Evl (Ex)
/-! ### comprehensions -/
def lcD (G : DG) (T : DT) (E : DE) : List D → Sl → Wl → R (List D)
  | [], _, w => .ok [] w
  | d :: r, s, w => match G d s with
    | none => .no
    | some s1 => (T s1 w).noer.bind fun b w1 => if b = true then (E s1 w1).noer.bind fun y w2 => (lcD G T E r s w2).bind fun ys w3 => .ok (y :: ys) w3 else lcD G T E r s w1
def wipeS (s : Sl) : List Nat → Sl
  | [] => s
  | v :: vs => (wipeS s vs).set v none
def aLc (I : DI) (G : DG) (T : DT) (E : DE) (vs : List Nat) : DA := fun s w => (I s w).bind fun ds w1 => if ds.length ≤ lim then (lcD G T E ds (wipeS s vs) w1).noer else .no
def tYesD : DT := fun _ w => .ok true w
section
variable {X : Cx} {mg : Str → Option Value} {W : WX} {tg it a b e elt iter : Expr} {es ifs : List Expr} {pos : Pos} {σ : L2.St} {H : Hp} {wa : Addr} {Hf : Hp}
theorem Slots.setNone {s : Sl} (x : Slots wa Hf H σ s) (i : Nat) : Slots wa Hf H (σ.set i none) (s.set i none) := by
  have key : ∀ (j : Nat) (d : D), (s.set i none)[j]? = some (some d) → j ≠ i ∧ s[j]? = some (some d) := fun j d h => by
    by_cases hj : j = i
    · subst hj
      rw [List.getElem?_set] at h
      split at h
      · split at h <;> cases h
      · rename_i hne
        exact absurd rfl hne
    · rw [List.getElem?_set_ne (Ne.symm hj)] at h
      exact ⟨hj, h⟩
  have keyσ : ∀ (j : Nat), j ≠ i → (σ.set i none)[j]? = σ[j]? := fun j hj => List.getElem?_set_ne (Ne.symm hj)
  refine ⟨by simp [x.len], fun j d h n => ?_, fun j xs h => ?_, fun j k xs ys p h1 h2 h3 h4 => ?_⟩
  · obtain ⟨hj, h'⟩ := key j d h
    rw [keyσ j hj]
    exact x.val j d h' n
  · obtain ⟨hj, h'⟩ := key j _ h
    rw [keyσ j hj]
    exact x.own j xs h'
  · obtain ⟨hj, h1'⟩ := key j _ h1
    obtain ⟨hk, h2'⟩ := key k _ h2
    rw [keyσ j hj] at h3
    rw [keyσ k hk] at h4
    exact x.inj j k xs ys p h1' h2' h3 h4
theorem Slots.wipe {s : Sl} (x : Slots wa Hf H σ s) : ∀ vs : List Nat, Slots wa Hf H (L2.wipe σ vs) (wipeS s vs)
  | [] => x
  | v :: vs => (x.wipe vs).setNone v
theorem wipe_none {σ : L2.St} {i : Nat} : ∀ {vs : List Nat}, i ∈ vs → (L2.wipe σ vs).set i none = L2.wipe σ vs
  | v :: vs, h => by
    unfold L2.wipe
    by_cases hv : v = i
    · subst hv
      rw [List.set_set]
    · rw [List.set_comm _ _ hv]
      rcases List.mem_cons.mp h with e | e
      · exact absurd e.symm hv
      · rw [wipe_none e]
theorem wipe_wipe {σ : L2.St} : ∀ vs : List Nat, L2.wipe (L2.wipe σ vs) vs = L2.wipe σ vs := by
  have key : ∀ us vs : List Nat, (∀ i ∈ us, i ∈ vs) → L2.wipe (L2.wipe σ vs) us = L2.wipe σ vs := by
    intro us
    induction us with
    | nil => intro vs _; rfl
    | cons u us ih =>
      intro vs h
      show (L2.wipe (L2.wipe σ vs) us).set u none = L2.wipe σ vs
      rw [ih vs fun i hi => h i (List.mem_cons_of_mem _ hi)]
      exact wipe_none (h u List.mem_cons_self)
  exact fun vs => key vs vs fun _ h => h
theorem weakTs {t t' : TT} (h : PTs X ifs t) (i : ∀ σ H Q, t' σ H Q → t σ H Q) : PTs X ifs t' := ⟨fun pins s σ H Q I q => h.run pins s σ H Q I (i σ H Q q)⟩
theorem td_nil : PTs X [] (lT mg W tYesD) := weakTs pts_nil fun σ H Q h => by
  obtain ⟨wa, Hf, sD, w, hb, hs, h⟩ := h
  exact h.here hb _ rfl
theorem td_one {T : DT} (h : PT X a (lT mg W T)) : PTs X [a] (lT mg W T) := pts_one h
theorem lc_ok {I : DI} {G : DG} {T : DT} {E : DE} {vs : List Nat} {Q : VK} (h : lfL mg W (aLc I G T E vs) σ H Q) : tLc (lI mg W I) (lG vs G) (lT mg W0 T) (lE mg W0 E) vs σ H Q := by
  obtain ⟨wa, Hf, sD, w, hb, hs, h⟩ := h
  refine ⟨wa, Hf, sD, w, hb, hs, h.bind.mono (fun ds w1 H1 Hf1 g1 b1 q J wk D hD => ?_) (fun _ _ _ _ _ _ q => q)⟩
  have hs1 := (hs.go g1).wipe vs
  split at q
  · rename_i hz
    cases el : lcD G T E ds (wipeS sD vs) w1 with
    | er x w2 => rw [el] at q; exact q.elim
    | no => rw [el] at q; exact q.elim
    | ok total wF =>
      rw [el] at q
      have hDw : D ≠ wa := fun z => by rw [z, b1.well] at hD; cases hD
      have hDf : Hf1 D = none := Evl.fresh_back b1.ex hD
      refine ⟨fun i m H2 => m = ds.length - i ∧ i ≤ ds.length ∧ ∃ Hf2 w2 accV acc ys, Go wa H1 Hf1 H2 Hf2 ∧ Base wa Hf2 H2 w2 ∧ H2 D = some (.lst accV) ∧ Hf2 D = none ∧ Reps wa Hf2 accV acc ∧ acc.length ≤ i ∧ lcD G T E (ds.drop i) (wipeS sD vs) w2 = .ok ys wF ∧ acc ++ ys = total,
        ⟨ds.length, by simp, Nat.zero_le _, Hf1, w1, [], [], total, Go.new1 hD, b1.new1 hD, upd_same, hDf, .nil, Nat.le_refl _, el, rfl⟩, ?_⟩
      rintro i m H2 ⟨rfl, hi, Hf2, w2, accV, acc, ys, g2, b2, hD2, hDf2, ra, hal, e2, rfl⟩
      by_cases hlt : i < ds.length
      · have ed : ds.drop i = ds[i] :: ds.drop (i + 1) := List.drop_eq_getElem_cons hlt
        rw [ed] at e2
        have gi : ds[i]? = some ds[i] := by simp [hlt]
        refine .inr ⟨wk.goes i H2 hlt (g2.ex.trans b2.ex), fun H' => ∃ Hf2 w2 accV acc' ys', Go wa H1 Hf1 H' Hf2 ∧ Base wa Hf2 H' w2 ∧ H' D = some (.lst accV) ∧ Hf2 D = none ∧ Reps wa Hf2 accV acc' ∧ acc'.length ≤ i + 1 ∧ lcD G T E (ds.drop (i + 1)) (wipeS sD vs) w2 = .ok ys' wF ∧ acc' ++ ys' = acc ++ ys,
          fun H' hN => ⟨ds.length - (i + 1), by omega, rfl, hlt, hN⟩, fun x H3 hy => ?_⟩
        obtain ⟨Hf3, g3, b3, r3⟩ := wk.yields i H2 Hf2 w2 x H3 _ gi g2.ex b2 hy
        have hD3 : H3 D = some (.lst accV) := g3.keep D _ hDw hD2
        have hDf3 : Hf3 D = none := (g3.new D _ hD2).trans hDf2
        unfold lcD at e2
        cases eg : G ds[i] (wipeS sD vs) with
        | none => rw [eg] at e2; cases e2
        | some s1 =>
          rw [eg] at e2
          dsimp only at e2
          refine ⟨wa, Hf3, fun _ => none, w2, wipeS sD vs, ds[i], s1, b3, r3, (hs1.go g2).go g3, fun _ _ _ _ _ => rfl, eg, fun σ4 hs4 _ hw4 => ⟨hw4.trans (wipe_wipe vs), ?_⟩⟩
          cases et : T s1 w2 with
          | er y u => rw [et] at e2; cases e2
          | no => rw [et] at e2; cases e2
          | ok bb w5 =>
            rw [et] at e2
            refine ⟨wa, Hf3, s1, w2, b3, hs4, ?_⟩
            rw [et]
            intro H5 Hf5 g5 b5 v5 rv5
            have ev5 : v5 = bb := rv5
            subst ev5
            have hD5 : H5 D = some (.lst accV) := g5.keep D _ hDw hD3
            have hDf5 : Hf5 D = none := (g5.new D _ hD3).trans hDf3
            cases v5 with
            | false =>
              refine iteF ?_
              have e3 : lcD G T E (ds.drop (i + 1)) (wipeS sD vs) w5 = .ok ys wF := by simpa [R.noer, R.bind] using e2
              exact ⟨Hf5, w5, accV, acc, ys, (g2.trans g3).trans g5, b5, hD5, hDf5, (ra.mono g3.ex).mono g5.ex, by omega, e3, rfl⟩
            | true =>
              refine iteT ?_
              have e3 : ((E s1 w5).noer.bind fun y w2 => (lcD G T E (ds.drop (i + 1)) (wipeS sD vs) w2).bind fun ys w3 => .ok (y :: ys) w3) = R.ok ys wF := by simpa [R.noer, R.bind] using e2
              cases ee : E s1 w5 with
              | er y u => rw [ee] at e3; cases e3
              | no => rw [ee] at e3; cases e3
              | ok y w6 =>
                rw [ee] at e3
                refine ⟨wa, Hf5, s1, w5, b5, hs4.go g5, ?_⟩
                rw [ee]
                intro H6 Hf6 g6 b6 v6 r6
                have hD6 : H6 D = some (.lst accV) := g6.keep D _ hDw hD5
                have hDf6 : Hf6 D = none := (g6.new D _ hD5).trans hDf5
                have e4 : ((lcD G T E (ds.drop (i + 1)) (wipeS sD vs) w6).bind fun ys w3 => .ok (y :: ys) w3) = R.ok ys wF := by simpa [R.noer, R.bind] using e3
                cases er : lcD G T E (ds.drop (i + 1)) (wipeS sD vs) w6 with
                | er y u => rw [er] at e4; cases e4
                | no => rw [er] at e4; cases e4
                | ok zs w7 =>
                  rw [er] at e4
                  cases e4
                  have ra6 := ((ra.mono g3.ex).mono g5.ex).mono g6.ex
                  have hlen : accV.length = acc.length := ra.length
                  refine ⟨accV, hD6, Nat.lt_of_lt_of_le (by omega : accV.length < lim) (lim_le (Nat.le_refl _)), Hf6, w6, accV ++ [v6], acc ++ [y], zs, ?_, ?_, upd_same, hDf6, ra6.append (.cons r6 .nil), by simp; omega, er, by simp⟩
                  · have gg := ((g2.trans g3).trans g5).trans g6
                    refine ⟨fun a o n h => ?_, gg.ex, gg.new, fun a o h => ?_⟩
                    · rw [upd_ne (ne_of_none h hD)]
                      exact gg.keep a o n h
                    · rw [upd_ne (ne_of_none h hD)]
                      exact gg.there a o h
                  · exact ⟨Evl.Ex.mut b6.ex hDf6, by rw [upd_ne (Ne.symm hDw)]; exact b6.well, b6.nw, b6.od⟩
      · have ei : i = ds.length := by omega
        subst ei
        rw [List.drop_length] at e2
        cases e2
        refine .inl ⟨wk.stops H2 (g2.ex.trans b2.ex), ?_⟩
        rw [List.append_nil] at q
        exact q H2 Hf2 g2 b2 D accV (g1.free hD) hD2 hDf2 hDw ra
  · exact q.elim
/-- [elt for tg in iter if ..]: a new list -/
theorem pl_lc {scope : Scope} {own : List (Str × Nat)} {I : DI} {G : DG} {T : DT} {E : DE} (hc : X.calm = true) (hN : X.N.Nodup) (hi : PI X tg iter (lI mg W I)) (ok : BlkOk X.N X.env.scope scope own)
    (hg : ∀ (s : Shared) (H : Hp) (C : Addr) (cl : List (Str × Addr)) (fp : List Addr), PG (X.blk s H scope (compEnvC scope cl C X.env) fp) tg (lG (own.map (·.2)) G)) (ht : ∀ (s : Shared) (H : Hp) (C : Addr) (cl : List (Str × Addr)) (fp : List Addr), PTs (X.blk s H scope (compEnvC scope cl C X.env) fp) ifs (lT mg W0 T))
    (he : ∀ (s : Shared) (H : Hp) (C : Addr) (cl : List (Str × Addr)) (fp : List Addr), PE (X.blk s H scope (compEnvC scope cl C X.env) fp) elt (lE mg W0 E)) (hs : ∀ x, foldedSetIterable iter X.env x = pure x := by intro _; rfl) :
    PE X (.ListComp elt [⟨tg, iter, ifs, 0⟩] scope pos) (lfL mg W (aLc I G T E (own.map (·.2)))) := weakE (pe_lc hc hN hi ok hg ht he hs) fun _ _ _ q => lc_ok q

/-! ### statements -/
def FinS (mg : Str → Option Value) (W : WX) (wa : Addr) (H0 Hf0 Hf : Hp) (r : RS) (D : Ends) : Prop := match r with
  | .nx s w => ∀ σ H' Hf', Go wa H0 Hf0 H' Hf' → Ex Hf Hf' → Base wa Hf' H' w → Slots wa Hf' H' σ s → OwnNew H0 σ s → D.nx σ H'
  | .bk s w => ∀ σ H' Hf', Go wa H0 Hf0 H' Hf' → Ex Hf Hf' → Base wa Hf' H' w → Slots wa Hf' H' σ s → OwnNew H0 σ s → D.bk σ H'
  | .ct s w => ∀ σ H' Hf', Go wa H0 Hf0 H' Hf' → Ex Hf Hf' → Base wa Hf' H' w → Slots wa Hf' H' σ s → OwnNew H0 σ s → D.ct σ H'
  | .rt d w => ∀ H' Hf' v, Go wa H0 Hf0 H' Hf' → Base wa Hf' H' w → Rep wa Hf' v d → D.rt v H'
  | .er x s w => ∀ σ H' Hf' cls dx, Go wa H0 Hf0 H' Hf' → Ex Hf Hf' → Base wa Hf' H' w → Slots wa Hf' H' σ s → OwnNew H0 σ s → ErrV mg wa Hf' x cls dx → W cls dx σ H'
  | .no => False
def lS (mg : Str → Option Value) (W : WX) (S : DS) : TS := fun D σ H => ∃ wa Hf sD w H0 Hf0, Go wa H0 Hf0 H Hf ∧ Base wa Hf H w ∧ Slots wa Hf H σ sD ∧ OwnNew H0 σ sD ∧ FinS mg W wa H0 Hf0 Hf (S sD w) D
theorem FinS.shift {H0 Hf0 Hf Hf1 : Hp} {r : RS} {D : Ends} (h : FinS mg W wa H0 Hf0 Hf r D) (x : Ex Hf Hf1) : FinS mg W wa H0 Hf0 Hf1 r D := by
  cases r with
  | nx s w => exact fun σ H' Hf' g e => h σ H' Hf' g (x.trans e)
  | bk s w => exact fun σ H' Hf' g e => h σ H' Hf' g (x.trans e)
  | ct s w => exact fun σ H' Hf' g e => h σ H' Hf' g (x.trans e)
  | rt d w => exact h
  | er y s w => exact fun σ H' Hf' cls dx g e => h σ H' Hf' cls dx g (x.trans e)
  | no => exact h
theorem weakS {st : Stmt} {t t' : TS} (h : PS X st t) (i : ∀ D σ H, t' D σ H → t D σ H) : PS X st t' := ⟨fun pins s σ H D I q => h.run pins s σ H D I (i D σ H q)⟩
theorem weakSs {st : List Stmt} {t t' : TS} (h : PSs X st t) (i : ∀ D σ H, t' D σ H → t D σ H) : PSs X st t' := ⟨fun pins s σ H D I q => h.run pins s σ H D I (i D σ H q)⟩
def sNx : DS := fun s w => .nx s w
def sSeq (S T : DS) : DS := fun s w => match S s w with
  | .nx s1 w1 => T s1 w1
  | o => o
variable {st : Stmt} {rest sts : List Stmt} {S T U : DS} {A B E : DE} {As : DA}
theorem sd_nil : PSs X [] (lS mg W sNx) := weakSs pss_nil fun D σ H h => by
  obtain ⟨wa, Hf, sD, w, H0, Hf0, g, b, hs, ho, h⟩ := h
  exact h σ H Hf g (Ex.refl _) b hs ho
theorem sd_cons (h1 : PS X st (lS mg W S)) (h2 : PSs X rest (lS mg W T)) : PSs X (st :: rest) (lS mg W (sSeq S T)) := weakSs (pss_cons h1 h2) fun D σ H h => by
  obtain ⟨wa, Hf, sD, w, H0, Hf0, g, b, hs, ho, h⟩ := h
  refine ⟨wa, Hf, sD, w, H0, Hf0, g, b, hs, ho, ?_⟩
  unfold sSeq at h
  cases e : S sD w with
  | nx s1 w1 =>
    rw [e] at h
    exact fun σ' H' Hf' g' x' b' hs' ho' => ⟨wa, Hf', s1, w1, H0, Hf0, g', b', hs', ho', h.shift x'⟩
  | bk s1 w1 => rw [e] at h; exact h
  | ct s1 w1 => rw [e] at h; exact h
  | rt d w1 => rw [e] at h; exact h
  | er x s1 w1 => rw [e] at h; exact h
  | no => rw [e] at h; exact h
theorem sd_one (h1 : PS X st (lS mg W S)) : PSs X [st] (lS mg W S) := pss_one h1
def sAsg (i : Nat) (E : DE) : DS := fun s w => match E s w with
  | .ok d w1 => .nx (s.set i (some d)) w1
  | .er x w1 => .er x s w1
  | .no => .no
theorem sd_asg {i : Nat} (h : PS X st (tAsg (lE mg W E) (gName i))) : PS X st (lS mg W (sAsg i E)) := weakS h fun D σ H h => by
  obtain ⟨wa, Hf, sD, w, H0, Hf0, g, b, hs, ho, h⟩ := h
  refine ⟨wa, Hf, sD, w, b, hs, ?_⟩
  unfold sAsg at h
  cases e : E sD w with
  | ok d w1 =>
    rw [e] at h
    exact fun H1 Hf1 g1 b1 v rv => h (σ.set i (some v)) H1 Hf1 (g.trans g1) g1.ex b1 ((hs.go g1).set rv) (ho.set fun xs z => by subst z; exact rep_own rv)
  | er x w1 =>
    rw [e] at h
    exact fun H1 Hf1 g1 b1 cls dx ev => h σ H1 Hf1 cls dx (g.trans g1) g1.ex b1 (hs.go g1) ho ev
  | no => rw [e] at h; exact h
/-- a new list that its slot owns -/
def sNew (i : Nat) (E : DA) : DS := fun s w => match E s w with
  | .ok d w1 => .nx (s.set i (some (.own d))) w1
  | .er x w1 => .er x s w1
  | .no => .no
theorem sd_new {i : Nat} (h : PS X st (tAsg (lfL mg W As) (gName i))) : PS X st (lS mg W (sNew i As)) := weakS h fun D σ H h => by
  obtain ⟨wa, Hf, sD, w, H0, Hf0, g, b, hs, ho, h⟩ := h
  refine ⟨wa, Hf, sD, w, b, hs, ?_⟩
  unfold sNew at h
  cases e : As sD w with
  | ok d w1 =>
    rw [e] at h
    refine fun H1 Hf1 g1 b1 p vs hp e1 e2 e3 rv => h (σ.set i (some (.ref p))) H1 Hf1 (g.trans g1) g1.ex b1 ((hs.go g1).setOwn e1 e2 e3 rv fun j ys hj hp' => ?_) (ho.setOwn hs.len (g.free hp))
    obtain ⟨q, us, k1, k2, _⟩ := hs.own j ys hj
    rw [hp'] at k1
    cases k1
    rw [hp] at k2
    cases k2
  | er x w1 =>
    rw [e] at h
    exact fun H1 Hf1 g1 b1 cls dx ev => h σ H1 Hf1 cls dx (g.trans g1) g1.ex b1 (hs.go g1) ho ev
  | no => rw [e] at h; exact h
theorem asg_weak {te te' : TE} {i : Nat} (h : PS X st (tAsg te (gName i))) (w : ∀ σ H Q, te' σ H Q → te σ H Q) : PS X st (tAsg te' (gName i)) := weakS h fun D σ H q => w σ H _ q
/-- any target -/
def sTg (G : DG) (E : DE) : DS := fun s w => match E s w with
  | .ok d w1 => match G d s with
    | some s1 => .nx s1 w1
    | none => .no
  | .er x w1 => .er x s w1
  | .no => .no
theorem sd_tg {G : DG} {vs : List Nat} (h : PS X st (tAsg (lE mg W E) (lG vs G))) : PS X st (lS mg W (sTg G E)) := weakS h fun D σ H h => by
  obtain ⟨wa, Hf, sD, w, H0, Hf0, g, b, hs, ho, h⟩ := h
  refine ⟨wa, Hf, sD, w, b, hs, ?_⟩
  unfold sTg at h
  cases e : E sD w with
  | ok d w1 =>
    rw [e] at h
    dsimp only at h
    cases eg : G d sD with
    | none => rw [eg] at h; exact h.elim
    | some s1 =>
      rw [eg] at h
      exact fun H1 Hf1 g1 b1 v rv => ⟨wa, Hf1, H0, w1, sD, d, s1, b1, rv, hs.go g1, ho, eg, fun σ' hs' ho' _ => h σ' H1 Hf1 (g.trans g1) g1.ex b1 hs' ho'⟩
  | er x w1 =>
    rw [e] at h
    exact fun H1 Hf1 g1 b1 cls dx ev => h σ H1 Hf1 cls dx (g.trans g1) g1.ex b1 (hs.go g1) ho ev
  | no => rw [e] at h; exact h
def sDrop (E : DE) : DS := fun s w => match E s w with
  | .ok _ w1 => .nx s w1
  | .er x w1 => .er x s w1
  | .no => .no
theorem sd_expr (he : PE X e (lE mg W E)) (hsw : swapsWith e none pos.line X.env = pure false := by rfl) : PS X (.Expr e pos) (lS mg W (sDrop E)) := weakS (ps_expr he hsw) fun D σ H h => by
  obtain ⟨wa, Hf, sD, w, H0, Hf0, g, b, hs, ho, h⟩ := h
  refine ⟨wa, Hf, sD, w, b, hs, ?_⟩
  unfold sDrop at h
  cases e : E sD w with
  | ok d w1 =>
    rw [e] at h
    exact fun H1 Hf1 g1 b1 v rv => h σ H1 Hf1 (g.trans g1) g1.ex b1 (hs.go g1) ho
  | er x w1 =>
    rw [e] at h
    exact fun H1 Hf1 g1 b1 cls dx ev => h σ H1 Hf1 cls dx (g.trans g1) g1.ex b1 (hs.go g1) ho ev
  | no => rw [e] at h; exact h
/-- x.append(e), x the slot's own list -/
def sApp (i : Nat) (E : DE) : DS := fun s w => match s[i]? with
  | some (some (.own xs)) => match E s w with
    | .ok d w1 => if xs.length < lim then .nx (s.set i (some (.own (xs ++ [d])))) w1 else .no
    | .er x w1 => .er x s w1
    | .no => .no
  | _ => .no
theorem sd_app {i : Nat} (h : PS X st (tDrop (tBM X.K "list" rAppend (tVar i) (tCons (lE mg W E) tNil)))) : PS X st (lS mg W (sApp i E)) := weakS h fun D σ H h => by
  obtain ⟨wa, Hf, sD, w, H0, Hf0, g, b, hs, ho, h⟩ := h
  unfold sApp at h
  split at h
  · rename_i xs hi
    obtain ⟨p, vs, k1, k2, k3, k4, k5⟩ := hs.own i xs hi
    refine ⟨.ref p, k1, .inl ⟨rfl, vs, SqL.of k2⟩, wa, Hf, sD, w, b, hs, ?_⟩
    cases e : E sD w with
    | ok d w1 =>
      rw [e] at h
      dsimp only at h
      split at h
      · rename_i hz
        intro H1 Hf1 g1 b1 v rv
        have hs1 := hs.go g1
        have kp : H1 p = some (.lst vs) := g1.keep p _ k4 k2
        have kf : Hf1 p = none := (g1.new p _ k2).trans k3
        have h0 : H0 p = none := ho i xs p hi k1
        have r1 : Reps wa Hf1 (vs ++ [v]) (xs ++ [d]) := (k5.mono g1.ex).append (.cons rv .nil)
        refine ⟨p, vs, v, rfl, rfl, kp, Nat.lt_of_lt_of_le (by rw [k5.length]; exact hz) (lim_le (Nat.le_refl _)), ?_⟩
        refine h σ _ Hf1 ?_ g1.ex ?_ (hs1.write hi k1 r1) (ho.sub fun j ys hj => ?_)
        · have gg := g.trans g1
          exact ⟨fun a o n q => by rw [upd_ne (ne_of_none q h0)]; exact gg.keep a o n q, gg.ex, gg.new, fun a o q => by rw [upd_ne (ne_of_none q h0)]; exact gg.there a o q⟩
        · exact ⟨Evl.Ex.mut b1.ex kf, by rw [upd_ne (Ne.symm k4)]; exact b1.well, b1.nw, b1.od⟩
        · by_cases hji : j = i
          · subst hji
            exact ⟨xs, hi⟩
          · rw [List.getElem?_set_ne (Ne.symm hji)] at hj
            exact ⟨ys, hj⟩
      · exact h.elim
    | er x w1 =>
      rw [e] at h
      exact fun H1 Hf1 g1 b1 cls dx ev => h σ H1 Hf1 cls dx (g.trans g1) g1.ex b1 (hs.go g1) ho ev
    | no => rw [e] at h; exact h
  · exact h.elim
/-- the well's k-th number stored -/
def setW (w : Wl) (k : Int) (z : Int) : Option Wl := if k = 0 then some (z, w.2.1, w.2.2) else if k = 1 then some (w.1, z, w.2.2) else if k = 2 then some (w.1, w.2.1, z) else none
def sSetW (A B E : DE) : DS := fun s w => match (E s w).bind fun d w1 => (A s w1).bind fun x w2 => (B s w2).bind fun k w3 => .ok [d, x, k] w3 with
  | .ok [.int z, .well, .int k] w3 => match setW w3 k z with
    | some w4 => .nx s w4
    | none => .no
  | .er x w3 => .er x s w3
  | _ => .no
theorem sd_setW (h : PS X st (tAsg (lE mg W E) (gSub (lE mg W A) (lE mg W B) rSetL))) : PS X st (lS mg W (sSetW A B E)) := weakS h fun D σ H h => by
  obtain ⟨wa, Hf, sD, w, H0, Hf0, g, b, hs, ho, h⟩ := h
  refine ⟨wa, Hf, sD, w, b, hs, ?_⟩
  unfold sSetW at h
  cases e : E sD w with
  | no => rw [e] at h; exact h
  | er x w1 =>
    rw [e] at h
    exact fun H1 Hf1 g1 b1 cls dx ev => h σ H1 Hf1 cls dx (g.trans g1) g1.ex b1 (hs.go g1) ho ev
  | ok d w1 =>
    rw [e, R.bind_ok] at h
    intro H1 Hf1 g1 b1 v rv
    refine ⟨wa, Hf1, sD, w1, b1, hs.go g1, ?_⟩
    cases e2 : A sD w1 with
    | no => rw [e2] at h; exact h
    | er x w2 =>
      rw [e2] at h
      exact fun H2 Hf2 g2 b2 cls dx ev => h σ H2 Hf2 cls dx ((g.trans g1).trans g2) (g1.ex.trans g2.ex) b2 ((hs.go g1).go g2) ho ev
    | ok x w2 =>
      rw [e2, R.bind_ok] at h
      intro H2 Hf2 g2 b2 v2 rv2
      refine ⟨wa, Hf2, sD, w2, b2, (hs.go g1).go g2, ?_⟩
      cases e3 : B sD w2 with
      | no => rw [e3] at h; exact h
      | er x w3 =>
        rw [e3] at h
        exact fun H3 Hf3 g3 b3 cls dx ev => h σ H3 Hf3 cls dx (((g.trans g1).trans g2).trans g3) ((g1.ex.trans g2.ex).trans g3.ex) b3 (((hs.go g1).go g2).go g3) ho ev
      | ok k w3 =>
        rw [e3, R.bind_ok] at h
        intro H3 Hf3 g3 b3 v3 rv3
        split at h
        · rename_i z k' w3' heq
          cases heq
          cases rv3
          cases rv2
          cases rv
          split at h
          · rename_i w4 hw
            have fin : ∀ j, ixN (wl w3).length k' = some j → wl w4 = (wl w3).set j (.int z) → rSetL (.ref wa) (.int k') (.int z) H3 fun H4 => D.nx σ H4 := fun j hj he => by
              refine ⟨wa, wl w3, k', j, rfl, rfl, b3.well, hj, ?_⟩
              rw [← he]
              have gg := (((g.trans g1).trans g2).trans g3)
              have hs3 := ((hs.go g1).go g2).go g3
              have g4 : Go wa H3 Hf3 (upd H3 wa (.lst (wl w4))) Hf3 := ⟨fun a o n q => by rw [upd_ne n]; exact q, Ex.refl _, fun _ _ _ => rfl, fun a o q => by
                by_cases ha : a = wa
                · exact ⟨_, by rw [ha]; exact upd_same⟩
                · exact ⟨o, by rw [upd_ne ha]; exact q⟩⟩
              exact h σ _ Hf3 (gg.trans g4) ((g1.ex.trans g2.ex).trans g3.ex) ⟨Evl.Ex.mut b3.ex b3.nw, upd_same, b3.nw, b3.od⟩ (hs3.go g4) ho
            unfold setW at hw
            split at hw
            · rename_i h0
              cases hw
              subst h0
              exact fin 0 rfl rfl
            · split at hw
              · rename_i h0
                cases hw
                subst h0
                exact fin 1 rfl rfl
              · split at hw
                · rename_i h0
                  cases hw
                  subst h0
                  exact fin 2 rfl rfl
                · cases hw
          · exact h.elim
        · rename_i heq
          cases heq
        · exact h.elim
def sIf (C : DT) (S T : DS) : DS := fun s w => match C s w with
  | .ok k w1 => if k then S s w1 else T s w1
  | .er x w1 => .er x s w1
  | .no => .no
theorem sd_if {c : Expr} {a b : List Stmt} {C : DT} (hc : PT X c (lT mg W C)) (ha : PSs X a (lS mg W S)) (hb : PSs X b (lS mg W T)) : PS X (.If c a b pos) (lS mg W (sIf C S T)) := weakS (ps_if hc ha hb) fun D σ H h => by
  obtain ⟨wa, Hf, sD, w, H0, Hf0, g, b, hs, ho, h⟩ := h
  refine ⟨wa, Hf, sD, w, b, hs, ?_⟩
  unfold sIf at h
  cases e : C sD w with
  | no => rw [e] at h; exact h
  | er x w1 =>
    rw [e] at h
    exact fun H1 Hf1 g1 b1 cls dx ev => h σ H1 Hf1 cls dx (g.trans g1) g1.ex b1 (hs.go g1) ho ev
  | ok k w1 =>
    rw [e] at h
    intro H1 Hf1 g1 b1 v rv
    have ev : v = k := rv
    subst ev
    cases v with
    | true => exact iteT ⟨wa, Hf1, sD, w1, H0, Hf0, g.trans g1, b1, hs.go g1, ho, FinS.shift h g1.ex⟩
    | false => exact iteF ⟨wa, Hf1, sD, w1, H0, Hf0, g.trans g1, b1, hs.go g1, ho, FinS.shift h g1.ex⟩
def sRet (E : DE) : DS := fun s w => match E s w with
  | .ok d w1 => .rt d w1
  | .er x w1 => .er x s w1
  | .no => .no
theorem sd_ret (he : PE X e (lE mg W E)) : PS X (.Return (some e) pos) (lS mg W (sRet E)) := weakS (ps_ret he) fun D σ H h => by
  obtain ⟨wa, Hf, sD, w, H0, Hf0, g, b, hs, ho, h⟩ := h
  refine ⟨wa, Hf, sD, w, b, hs, ?_⟩
  unfold sRet at h
  cases e : E sD w with
  | ok d w1 =>
    rw [e] at h
    exact fun H1 Hf1 g1 b1 v rv => h H1 Hf1 v (g.trans g1) b1 rv
  | er x w1 =>
    rw [e] at h
    exact fun H1 Hf1 g1 b1 cls dx ev => h σ H1 Hf1 cls dx (g.trans g1) g1.ex b1 (hs.go g1) ho ev
  | no => rw [e] at h; exact h
/-- a, b = e1, e2 -/
def sPar (i j : Nat) (As : DA) : DS := fun s w => match As s w with
  | .ok [x, y] w1 => .nx ((s.set i (some x)).set j (some y)) w1
  | .er x w1 => .er x s w1
  | _ => .no
theorem sd_par {i j : Nat} (h : PS X st (tPar i j (lA mg W As))) : PS X st (lS mg W (sPar i j As)) := weakS h fun D σ H h => by
  obtain ⟨wa, Hf, sD, w, H0, Hf0, g, b, hs, ho, h⟩ := h
  refine ⟨wa, Hf, sD, w, b, hs, ?_⟩
  unfold sPar at h
  cases e : As sD w with
  | ok d w1 =>
    rw [e] at h
    intro H1 Hf1 g1 b1 v rv
    split at h
    · rename_i x y w1' heq
      cases heq
      cases rv with
      | cons r1 r2 =>
        cases r2 with
        | cons r2 r3 =>
          cases r3
          have n1 : ∀ xs, x ≠ .own xs := fun xs z => by subst z; exact rep_own r1
          have n2 : ∀ xs, y ≠ .own xs := fun xs z => by subst z; exact rep_own r2
          exact ⟨_, _, rfl, h _ H1 Hf1 (g.trans g1) g1.ex b1 (((hs.go g1).set r1).set r2) ((ho.set n1).set n2)⟩
    · rename_i heq
      cases heq
    · exact h.elim
  | er x w1 =>
    rw [e] at h
    exact fun H1 Hf1 g1 b1 cls dx ev => h σ H1 Hf1 cls dx (g.trans g1) g1.ex b1 (hs.go g1) ho ev
  | no => rw [e] at h; exact h
/-- from here on the slot's own list is only read -/
def frzS (i : Nat) (s : Sl) : Sl := match s[i]? with
  | some (some (.own xs)) => s.set i (some (.lst xs))
  | _ => s
def sFrz (i : Nat) (S : DS) : DS := fun s w => S (frzS i s) w
theorem frz_ok {i : Nat} {D : Ends} (h : lS mg W (sFrz i S) D σ H) : lS mg W S D σ H := by
  obtain ⟨wa, Hf, sD, w, H0, Hf0, g, b, hs, ho, h⟩ := h
  unfold sFrz frzS at h
  split at h
  · rename_i xs hi
    obtain ⟨p, vs, k1, k2, k3, k4, k5⟩ := hs.own i xs hi
    have h0 : H0 p = none := ho i xs p hi k1
    have x1 : Ex Hf (upd Hf p (.lst vs)) := Ex.new k3
    refine ⟨wa, upd Hf p (.lst vs), _, w, H0, Hf0, ⟨g.keep, g.ex.trans x1, fun a o q => by rw [upd_ne (ne_of_none q h0)]; exact g.new a o q, g.there⟩, ⟨fun a u q => ?_, b.well, by rw [upd_ne (Ne.symm k4)]; exact b.nw, b.od.trans x1⟩, hs.frz hi k1 k2, ho.sub fun j ys hj => ?_, FinS.shift h x1⟩
    · by_cases ha : a = p
      · subst ha; rw [upd_same] at q; rw [← q]; exact k2
      · rw [upd_ne ha] at q; exact b.ex a u q
    · by_cases hji : j = i
      · subst hji
        rw [List.getElem?_set_self (List.getElem?_eq_some_iff.mp hi).1] at hj
        cases hj
      · rw [List.getElem?_set_ne (Ne.symm hji)] at hj
        exact ⟨ys, hj⟩
  · exact ⟨wa, Hf, sD, w, H0, Hf0, g, b, hs, ho, h⟩
theorem sd_frz (i : Nat) (h : PSs X sts (lS mg W S)) : PSs X sts (lS mg W (sFrz i S)) := weakSs h fun _ _ _ q => frz_ok q
theorem sd_frz1 (i : Nat) (h : PS X st (lS mg W S)) : PS X st (lS mg W (sFrz i S)) := weakS h fun _ _ _ q => frz_ok q
/-! ### loops -/
def loopD (G : DG) (B : DS) : List D → DS
  | [], s, w => .nx s w
  | d :: r, s, w => match G d s with
    | none => .no
    | some s1 => match B s1 w with
      | .nx s2 w2 => loopD G B r s2 w2
      | .ct s2 w2 => loopD G B r s2 w2
      | .bk s2 w2 => .nx s2 w2
      | o => o
def sFor (I : DI) (G : DG) (B : DS) : DS := fun s w => match I s w with
  | .ok ds w1 => loopD G B ds s w1
  | .er x w1 => .er x s w1
  | .no => .no
theorem sd_for {I : DI} {G : DG} {S : DS} {vs : List Nat} {body : List Stmt} (hp : PassesOwn (model X.prog X.w) X.A X.env X.xe) (hc : X.calm = true) (hi : PI X tg iter (lI mg W I)) (hg : PG X tg (lG vs G)) (hb : PSs X body (lS mg W S))
    (hfs : ∀ x, foldedSetIterable iter X.env x = pure x := by intro _; rfl) : PS X (.For tg iter body [] pos) (lS mg W (sFor I G S)) := weakS (ps_for hp hc hi hg hb hfs) fun D σ H h => by
  obtain ⟨wa, Hf, sD, w, H0, Hf0, g, b, hs, ho, h⟩ := h
  refine ⟨wa, Hf, sD, w, b, hs, ?_⟩
  unfold sFor at h
  cases e : I sD w with
  | no => rw [e] at h; exact h
  | er x w1 =>
    rw [e] at h
    exact fun H1 Hf1 g1 b1 cls dx ev => h σ H1 Hf1 cls dx (g.trans g1) g1.ex b1 (hs.go g1) ho ev
  | ok ds w1 =>
    rw [e] at h
    intro H1 Hf1 g1 b1 J wk
    have h1 := FinS.shift h g1.ex
    refine ⟨fun i m σ2 H2 => m = ds.length - i ∧ i ≤ ds.length ∧ ∃ Hf2 s2 w2, Go wa H0 Hf0 H2 Hf2 ∧ Ex Hf1 Hf2 ∧ Base wa Hf2 H2 w2 ∧ Slots wa Hf2 H2 σ2 s2 ∧ OwnNew H0 σ2 s2 ∧ FinS mg W wa H0 Hf0 Hf2 (loopD G S (ds.drop i) s2 w2) D,
      ⟨ds.length, by simp, Nat.zero_le _, Hf1, sD, w1, g.trans g1, Ex.refl _, b1, hs.go g1, ho, h1⟩, ?_⟩
    rintro i m σ2 H2 ⟨rfl, hle, Hf2, s2, w2, g2, x2, b2, hs2, ho2, h2⟩
    by_cases hlt : i < ds.length
    · have ed : ds.drop i = ds[i] :: ds.drop (i + 1) := List.drop_eq_getElem_cons hlt
      rw [ed] at h2
      have gi : ds[i]? = some ds[i] := by simp [hlt]
      refine .inr ⟨wk.goes i H2 hlt (x2.trans b2.ex), fun σ' H' => ∃ Hf2 s2 w2, Go wa H0 Hf0 H' Hf2 ∧ Ex Hf1 Hf2 ∧ Base wa Hf2 H' w2 ∧ Slots wa Hf2 H' σ' s2 ∧ OwnNew H0 σ' s2 ∧ FinS mg W wa H0 Hf0 Hf2 (loopD G S (ds.drop (i + 1)) s2 w2) D,
        fun σ' H' hN => ⟨ds.length - (i + 1), by omega, rfl, hlt, hN⟩, fun x H3 hy => ?_⟩
      obtain ⟨Hf3, g3, b3, r3⟩ := wk.yields i H2 Hf2 w2 x H3 _ gi x2 b2 hy
      unfold loopD at h2
      cases eg : G ds[i] s2 with
      | none => rw [eg] at h2; exact h2.elim
      | some s3 =>
        rw [eg] at h2
        dsimp only at h2
        refine ⟨wa, Hf3, H0, w2, s2, ds[i], s3, b3, r3, hs2.go g3, ho2, eg, fun σ4 hs4 ho4 _ => ⟨wa, Hf3, s3, w2, H0, Hf0, g2.trans g3, b3, hs4, ho4, ?_⟩⟩
        cases eb : S s3 w2 with
        | nx s5 w5 =>
          rw [eb] at h2
          exact fun σ5 H5 Hf5 g5 x5 b5 hs5 ho5 => ⟨Hf5, s5, w5, g5, (x2.trans g3.ex).trans x5, b5, hs5, ho5, FinS.shift h2 (g3.ex.trans x5)⟩
        | ct s5 w5 =>
          rw [eb] at h2
          exact fun σ5 H5 Hf5 g5 x5 b5 hs5 ho5 => ⟨Hf5, s5, w5, g5, (x2.trans g3.ex).trans x5, b5, hs5, ho5, FinS.shift h2 (g3.ex.trans x5)⟩
        | bk s5 w5 =>
          rw [eb] at h2
          exact fun σ5 H5 Hf5 g5 x5 b5 hs5 ho5 => h2 σ5 H5 Hf5 g5 (g3.ex.trans x5) b5 hs5 ho5
        | rt d w5 => rw [eb] at h2; exact h2
        | er y s5 w5 => rw [eb] at h2; exact FinS.shift (r := .er y s5 w5) h2 g3.ex
        | no => rw [eb] at h2; exact h2
    · have ei : i = ds.length := by omega
      subst ei
      rw [List.drop_length] at h2
      exact .inl ⟨wk.stops H2 (x2.trans b2.ex), h2 σ2 H2 Hf2 g2 (Ex.refl _) b2 hs2 ho2⟩
/-- at most n turns -/
def whileD (C : DT) (B : DS) : Nat → DS
  | 0, _, _ => .no
  | n + 1, s, w => match C s w with
    | .ok true w1 => match B s w1 with
      | .nx s2 w2 => whileD C B n s2 w2
      | .ct s2 w2 => whileD C B n s2 w2
      | .bk s2 w2 => .nx s2 w2
      | o => o
    | .ok false w1 => .nx s w1
    | .er x w1 => .er x s w1
    | .no => .no
theorem sd_while {c : Expr} {C : DT} {S : DS} {body : List Stmt} (n : Nat) (hp : PassesOwn (model X.prog X.w) X.A X.env X.xe) (hc : PT X c (lT mg W C)) (hb : PSs X body (lS mg W S)) : PS X (.While c body [] pos) (lS mg W (whileD C S n)) := weakS (ps_while hp hc hb) fun D σ H h => by
  obtain ⟨wa, Hf, sD, w, H0, Hf0, g, b, hs, ho, h⟩ := h
  refine ⟨fun m σ2 H2 => ∃ Hf2 s2 w2, Go wa H0 Hf0 H2 Hf2 ∧ Base wa Hf2 H2 w2 ∧ Slots wa Hf2 H2 σ2 s2 ∧ OwnNew H0 σ2 s2 ∧ Ex Hf Hf2 ∧ FinS mg W wa H0 Hf0 Hf2 (whileD C S m s2 w2) D, ⟨n, Hf, sD, w, g, b, hs, ho, Ex.refl _, h⟩, ?_⟩
  rintro m σ2 H2 ⟨Hf2, s2, w2, g2, b2, hs2, ho2, x2, h2⟩
  cases m with
  | zero => exact h2.elim
  | succ m =>
    unfold whileD at h2
    refine ⟨wa, Hf2, s2, w2, b2, hs2, ?_⟩
    cases ec : C s2 w2 with
    | no => rw [ec] at h2; exact h2
    | er x w3 =>
      rw [ec] at h2
      exact fun H1 Hf1 g1 b1 cls dx ev => h2 σ2 H1 Hf1 cls dx (g2.trans g1) g1.ex b1 (hs2.go g1) ho2 ev
    | ok k w3 =>
      rw [ec] at h2
      intro H3 Hf3 g3 b3 v rv
      have ev : v = k := rv
      subst ev
      cases v with
      | false => exact iteF (h2 σ2 H3 Hf3 (g2.trans g3) g3.ex b3 (hs2.go g3) ho2)
      | true =>
        dsimp only at h2
        refine iteT ⟨fun σ' H' => ∃ Hf2 s2 w2, Go wa H0 Hf0 H' Hf2 ∧ Base wa Hf2 H' w2 ∧ Slots wa Hf2 H' σ' s2 ∧ OwnNew H0 σ' s2 ∧ Ex Hf Hf2 ∧ FinS mg W wa H0 Hf0 Hf2 (whileD C S m s2 w2) D, fun σ' H' hN => ⟨m, Nat.lt_succ_self m, hN⟩,
          wa, Hf3, s2, w3, H0, Hf0, g2.trans g3, b3, hs2.go g3, ho2, ?_⟩
        cases eb : S s2 w3 with
        | nx s5 w5 =>
          rw [eb] at h2
          exact fun σ5 H5 Hf5 g5 x5 b5 hs5 ho5 => ⟨Hf5, s5, w5, g5, b5, hs5, ho5, (x2.trans g3.ex).trans x5, FinS.shift h2 (g3.ex.trans x5)⟩
        | ct s5 w5 =>
          rw [eb] at h2
          exact fun σ5 H5 Hf5 g5 x5 b5 hs5 ho5 => ⟨Hf5, s5, w5, g5, b5, hs5, ho5, (x2.trans g3.ex).trans x5, FinS.shift h2 (g3.ex.trans x5)⟩
        | bk s5 w5 =>
          rw [eb] at h2
          exact fun σ5 H5 Hf5 g5 x5 b5 hs5 ho5 => h2 σ5 H5 Hf5 g5 (g3.ex.trans x5) b5 hs5 ho5
        | rt d w5 => rw [eb] at h2; exact h2
        | er y s5 w5 => rw [eb] at h2; exact FinS.shift (r := .er y s5 w5) h2 g3.ex
        | no => rw [eb] at h2; exact h2
end
/-! ### a def -/
def runB (n k : Nat) (B : DS) : DF := fun ds w => if ds.length = k then match B (ds.map some ++ List.replicate (n - k) none) w with
    | .nx _ w1 => .ok .non w1
    | .rt d w1 => .ok d w1
    | .er x _ w1 => .er x w1
    | _ => .no
  else .no
section
variable {P : Program} {w : World} {K : PySem.W.Frag} {mg : Str → Option Value} {base : Heap}
theorem slots_start {wa : Addr} {Hf H : Hp} {vs : List V} {ds : List D} {N : List Str} (hl : vs.length ≤ N.length) (r : Reps wa Hf vs ds) : Slots wa Hf H (L2.start N vs) (ds.map some ++ List.replicate (N.length - ds.length) none) := by
  have e := r.length
  have key : ∀ (i : Nat) (d : D), (ds.map some ++ List.replicate (N.length - ds.length) none)[i]? = some (some d) → ds[i]? = some d := fun i d h => by
    rw [List.getElem?_append] at h
    split at h
    · rw [List.getElem?_map] at h
      cases q : ds[i]? with
      | none => rw [q] at h; cases h
      | some z => rw [q] at h; cases h; rfl
    · rw [List.getElem?_replicate] at h
      split at h <;> cases h
  have nown : ∀ (i : Nat) (xs : List D), ds[i]? ≠ some (.own xs) := fun i xs h => by
    obtain ⟨v, _, r'⟩ := r.get h
    exact rep_own r'
  refine ⟨by unfold L2.start; simp [e], fun i d h n => ?_, fun i xs h => absurd (key i _ h) (nown i xs), fun i j xs ys p h _ _ _ => absurd (key i _ h) (nown i xs)⟩
  obtain ⟨v, h1, h2⟩ := r.get (key i d h)
  refine ⟨v, ?_, h2⟩
  unfold L2.start
  have hi : i < vs.length := (List.getElem?_eq_some_iff.mp h1).1
  rw [List.getElem?_append_left (by simpa using hi), List.getElem?_map, h1]
  rfl
theorem fnD {x qual : Str} {st : Stmt} {f : Addr} {fd : FuncData} {N ps : List Str} {k : Nat} (F : Fun K x qual st f fd) (S : FnScope N ps (defScope st)) (hN : ps.length ≤ N.length) (B : DS)
    (h : ∀ (cdv : Value) (A : Around) (outer : List Env) (s : Shared) (H : Hp) (E : XK), Room k (A.deeper (envOfC qual (defScope st) s.heap.objs.size f cdv)) →
      PSs (cxOf (L2.CX P w) P w K mg base N qual (defScope st) f cdv A outer s H E) (defBody st) (lS mg (fun cls d _ H => E cls d H) B)) : FnD P w K mg base (k + 1) f fd ps (runB N.length ps.length B) := by
  refine F.okX S (fun vs H Q E ⟨wa, Hf, ds, w, hb, r, hl, _⟩ => by rw [r.length]; exact hl) fun cdv A outer s H vs Q E hr ⟨wa, Hf, ds, w, hb, r, hl, q⟩ => ⟨_, h cdv A outer s H E hr, ?_⟩
  have hvl : vs.length ≤ N.length := by rw [r.length, hl]; exact hN
  have hst := slots_start (H := H) hvl r
  refine ⟨wa, Hf, _, w, H, Hf, Go.refl, hb, hst, fun i xs p h1 _ => ?_, ?_⟩
  · obtain ⟨q1, us, k1, k2, k3, k4, k5⟩ := hst.own i xs h1
    exfalso
    rw [List.getElem?_append] at h1
    split at h1
    · rw [List.getElem?_map] at h1
      cases e : ds[i]? with
      | none => rw [e] at h1; cases h1
      | some z =>
        rw [e] at h1
        cases h1
        obtain ⟨v, _, r'⟩ := r.get e
        exact rep_own r'
    · rw [List.getElem?_replicate] at h1
      split at h1 <;> cases h1
  · unfold runB at q
    rw [if_pos hl, ← hl] at q
    cases eB : B (ds.map some ++ List.replicate (N.length - ds.length) none) w with
    | nx s1 w1 => rw [eB] at q; exact fun σ H' Hf' g _ b _ _ => q H' Hf' g b _ .non
    | rt d w1 => rw [eB] at q; exact fun H' Hf' v g b r' => q H' Hf' g b v r'
    | er y s1 w1 => rw [eB] at q; exact fun σ H' Hf' cls dx g _ b _ _ ev => q H' Hf' g b cls dx ev
    | bk s1 w1 => rw [eB] at q; exact q.elim
    | ct s1 w1 => rw [eB] at q; exact q.elim
    | no => rw [eB] at q; exact q.elim
end
end DL

set_option maxHeartbeats 4000000
namespace DL
open PySem PySem.Spec PyProof.Rows L2
variable [OldT]
open Evl (Ex)
/-! ### zip of two, of three, each a list or a tuple -/
def hoK (k : Bool) (xs : List V) : HO := match k with | true => .tup xs | false => .lst xs
def SI (k : Bool) (h : Heap) (it l : Addr) (i : Nat) : Prop := match k with | true => h.IsTupleIter it l i | false => h.IsListIter it l i
def SQ (k : Bool) (h : Heap) (l : Addr) (xs : Array Value) : Prop := match k with | true => h.IsTuple l xs | false => h.IsList l xs
def itO (k : Bool) (l : Addr) : Obj := match k with
  | true => { cls := .type "tuple_iterator", data := .fields #[.ref l, .int 0 0] }
  | false => { cls := .type "list_iterator", data := .fields #[.ref l, .int 0 0] }
theorem SI.at {k : Bool} {h h' : Heap} {it l : Addr} {i : Nat} (x : SI k h it l i) (e : ∀ o, h.get? it = some o → h'.get? it = some o) : SI k h' it l i := by
  cases k with
  | true => exact Heap.IsTupleIter.at x e
  | false => exact Heap.IsListIter.at x e
theorem SI.obj {k : Bool} {h : Heap} {it l : Addr} {i : Nat} (x : SI k h it l i) : ∃ o, h.get? it = some o ∧ ∀ v, o.data ≠ .cell v := by
  cases k with
  | true => obtain ⟨o, e, _, d⟩ := x; exact ⟨o, e, fun v z => by rw [d] at z; cases z⟩
  | false => obtain ⟨o, e, _, d⟩ := x; exact ⟨o, e, fun v z => by rw [d] at z; cases z⟩
theorem SI.new {k : Bool} {h : Heap} {it l : Addr} (x : h.get? it = some (itO k l)) : SI k h it l 0 := by
  cases k with
  | true => exact ⟨_, x, rfl, rfl⟩
  | false => exact ⟨_, x, rfl, rfl⟩
theorem draws_SI {prog : Program} {w : World} {A : Around} (k : Bool) (hh : A.handled = none) (it l : Addr) (hne : l ≠ it) (items : Array Value) :
    Draws prog w A it [it, l] items.size (fun i v => items[i]? = some v) (fun i h => SI k h it l i ∧ SQ k h l items) := by
  cases k with
  | true => exact Draws.tuple hh it l hne items
  | false => exact Draws.list hh it l hne items
theorem begins_SI (k : Bool) (l : Addr) (items : Array Value) : Begins (.ref l) (itO k l) fun h => SQ k h l items := by
  cases k with
  | true => exact begins_tuple l items
  | false => exact begins_list l items
section
variable {X : Cx} {pins : List (Addr × Obj)} {σ : L2.St} {H : Hp} {s : Shared}
theorem seqAt (I : Inv X pins σ H s) {k : Bool} {a : Addr} {xs : List V} (h : H a = some (hoK k xs)) : ∃ its : List Value, Vals xs its ∧ SQ k s.heap a its.toArray ∧ a < s.heap.objs.size := by
  cases k with
  | true =>
    obtain ⟨its, r, p, _⟩ := I.tuple (SqT.of h)
    obtain ⟨o, e, _⟩ := id p
    exact ⟨its, r, p, Heap.lt_size e⟩
  | false =>
    obtain ⟨its, r, p, _⟩ := I.list (SqL.of h)
    exact ⟨its, r, p.isList, p.lt⟩
theorem hoK_inj {k : Bool} {xs ys : List V} (h : hoK k xs = hoK k ys) : xs = ys := by
  cases k <;> (cases h; rfl)
def ItZ2 (k1 k2 : Bool) (a b : Addr) : It :=
  ⟨fun i H => ∃ xs ys : List V, H a = some (hoK k1 xs) ∧ H b = some (hoK k2 ys) ∧ i < xs.length ∧ i < ys.length,
    fun i H v H' => ∃ T x y, v = .ref T ∧ H T = none ∧ H' = upd H T (.tup [x, y]) ∧ (∀ xs, H a = some (hoK k1 xs) → xs[i]? = some x) ∧ ∀ ys, H b = some (hoK k2 ys) → ys[i]? = some y,
    fun i H => ∃ xs ys : List V, H a = some (hoK k1 xs) ∧ H b = some (hoK k2 ys) ∧ i = min xs.length ys.length⟩
theorem turn_z2 {P : Program} {w : World} {K : PySem.W.Frag} {elts : List Expr} {kk : Nat} {tpos : Pos} {k1 k2 : Bool} {a b z TI TO i1 i2 : Addr} (D : ZipApart z TI TO i1 i2 a b) :
    Turn P w K (.Tuple elts kk tpos) (ItZ2 k1 k2 a b) [z, TI, TO, i1, i2] z (fun i h => IsZip h z TI TO .none ∧ IsTupOf2 h TI (.ref i1) (.ref i2) ∧ (∃ x y, IsTupOf2 h TO x y) ∧ SI k1 h i1 a i ∧ SI k2 h i2 b i) where
  mem := by simp
  obj := fun i h st c hc => by
    obtain ⟨hz, hTI, ⟨x, y, hTO⟩, h1, h2⟩ := st
    have e' : c = z ∨ c = TI ∨ c = TO ∨ c = i1 ∨ c = i2 := by simpa using hc
    rcases e' with q | q | q | q | q
    · rw [q]; exact ⟨_, hz, fun v q => nomatch q⟩
    · rw [q]; exact ⟨_, hTI, fun v q => nomatch q⟩
    · rw [q]; exact ⟨_, hTO, fun v q => nomatch q⟩
    · rw [q]; exact h1.obj
    · rw [q]; exact h2.obj
  keep := fun i h h' st k => by
    obtain ⟨hz, hTI, ⟨x, y, hTO⟩, h1, h2⟩ := st
    exact ⟨k z (by simp) _ hz, k TI (by simp) _ hTI, ⟨x, y, k TO (by simp) _ hTO⟩, h1.at fun o q => k i1 (by simp) o q, h2.at fun o q => k i2 (by simp) o q⟩
  item := by
    intro X hP hw hK hc i pins s σ H E I hf st hg
    subst hP hw hK
    obtain ⟨hz, hTI, hTO, h1, h2⟩ := st
    obtain ⟨xs, ys, ha, hb, hx, hy⟩ := hg
    obtain ⟨its, rv, p, la⟩ := seqAt I ha
    obtain ⟨its2, rv2, p2, lb⟩ := seqAt I hb
    have hh := I.ok.hd hc
    have W := GoesN.zip2 (elts := elts) (x1 := kk) (pos := tpos) (z := z) (TI := TI) (TO := TO) (ZipSep2.mk (fp1 := [i1, a]) (fp2 := [i2, b]) D.TIz D.TOz D.TITO D.TIi1 (by simp) (by simp [D.i1z.symm, D.l1z.symm]) (by simp [D.TOi1, D.l1TO.symm]) D.TIi2 (by simp) (by simp [D.i2z.symm, D.l2z.symm]) (by simp [D.TOi2, D.l2TO.symm]) (by simp [D.i12, D.l2i1.symm]) (by simp [D.i12.symm, D.l1i2.symm]))
      (draws_SI (prog := X.prog) (w := X.w) (A := X.A.in1) k1 hh i1 a D.l1i1 its.toArray) (draws_SI (prog := X.prog) (w := X.w) (A := X.A.in1) k2 hh i2 b D.l2i2 its2.toArray)
    have l1 := rv.length
    have l2 := rv2.length
    refine thn (W.goes i s (fun v s2 => ∃ x H', Inv X pins σ H' s2 ∧ RelV x v ∧ (ItZ2 k1 k2 a b).yld i H x H' ∧ (IsZip s2.heap z TI TO .none ∧ IsTupOf2 s2.heap TI (.ref i1) (.ref i2) ∧ (∃ x y, IsTupOf2 s2.heap TO x y) ∧ SI k1 s2.heap i1 a (i + 1) ∧ SI k2 s2.heap i2 b (i + 1)) ∧ ∀ c ∈ [z, TI, TO, i1, i2], H' c = none) E (by simp; omega) ⟨hz, hTI, hTO, ⟨h1, p⟩, ⟨h2, p2⟩⟩ fun v h' tk hY st' hk _ => ?_) fun r s1 q => q
    obtain ⟨T, u1, u2, rfl, hT, e1, e2, hTup⟩ := hY
    obtain ⟨hz', hTI', hTO', ⟨h1', _⟩, ⟨h2', _⟩⟩ := st'
    have e1 : its[i]? = some u1 := by simpa using e1
    have e2 : its2[i]? = some u2 := by simpa using e2
    have gx : xs[i]? = some xs[i] := by simp [hx]
    have gy : ys[i]? = some ys[i] := by simp [hy]
    obtain ⟨u1', f1, r1⟩ := rv.get gx
    obtain ⟨u2', f2, r2⟩ := rv2.get gy
    rw [e1] at f1
    cases f1
    rw [e2] at f2
    cases f2
    have new : ObjOk X.prog X.w (upd H T (.tup [xs[i], ys[i]])) h' T (.tup [xs[i], ys[i]]) := ⟨by show 2 ≤ sizeLine; decide, [u1, u2], .cons r1 (.cons r2 .nil), hTup⟩
    have I1 : Inv X pins σ (upd H T (.tup [xs[i], ys[i]])) { s with heap := h', toks := tk } := I.turnedNew (ch := [z, TI, TO, i1, i2]) (fun c o hcm q => hk c o (fun m => hcm (by simp at m ⊢; rcases m with m | m | m | m <;> simp [m])) q) hf hT new
    refine ⟨.ref T, _, I1, rfl, ⟨T, _, _, rfl, I.hok.fresh hT, rfl, fun l hl => ?_, fun l hl => ?_⟩, ⟨hz', hTI', hTO', h1', h2'⟩, fun c hcm => ?_⟩
    · rw [ha] at hl
      rw [← hoK_inj (Option.some.inj hl)]
      exact gx
    · rw [hb] at hl
      rw [← hoK_inj (Option.some.inj hl)]
      exact gy
    · have hlt : c < s.heap.objs.size := by
        have e' : c = z ∨ c = TI ∨ c = TO ∨ c = i1 ∨ c = i2 := by simpa using hcm
        rcases e' with q | q | q | q | q
        · rw [q]; exact Heap.lt_size hz
        · rw [q]; exact Heap.lt_size hTI
        · obtain ⟨_, _, hTO⟩ := hTO; rw [q]; exact Heap.lt_size hTO
        · rw [q]; obtain ⟨_, e, _⟩ := h1.obj; exact Heap.lt_size e
        · rw [q]; obtain ⟨_, e, _⟩ := h2.obj; exact Heap.lt_size e
      rw [upd_ne (Nat.ne_of_lt (Nat.lt_of_lt_of_le hlt hT))]
      exact (hf c hcm).1
  done := by
    intro X hP hw hK hc i pins s σ H E I hf st hg
    subst hP hw hK
    obtain ⟨hz, hTI, hTO, h1, h2⟩ := st
    obtain ⟨xs, ys, ha, hb, hi⟩ := hg
    obtain ⟨its, rv, p, la⟩ := seqAt I ha
    obtain ⟨its2, rv2, p2, lb⟩ := seqAt I hb
    have hh := I.ok.hd hc
    have l1 := rv.length
    have l2 := rv2.length
    have W := GoesN.zip2 (elts := elts) (x1 := kk) (pos := tpos) (z := z) (TI := TI) (TO := TO) (ZipSep2.mk (fp1 := [i1, a]) (fp2 := [i2, b]) D.TIz D.TOz D.TITO D.TIi1 (by simp) (by simp [D.i1z.symm, D.l1z.symm]) (by simp [D.TOi1, D.l1TO.symm]) D.TIi2 (by simp) (by simp [D.i2z.symm, D.l2z.symm]) (by simp [D.TOi2, D.l2TO.symm]) (by simp [D.i12, D.l2i1.symm]) (by simp [D.i12.symm, D.l1i2.symm]))
      (draws_SI (prog := X.prog) (w := X.w) (A := X.A.in1) k1 hh i1 a D.l1i1 its.toArray) (draws_SI (prog := X.prog) (w := X.w) (A := X.A.in1) k2 hh i2 b D.l2i2 its2.toArray)
    have ei : i = min its.toArray.size its2.toArray.size := by simp; omega
    rw [ei] at h1 h2
    refine W.stops s _ E ⟨hz, hTI, hTO, ⟨h1, p⟩, ⟨h2, p2⟩⟩ fun h' tk hk _ => I.turnedL (ch := [z, TI, TO, i1, i2]) (fun c o hcm q => hk c o (fun m => hcm (by simp at m ⊢; rcases m with m | m | m | m <;> simp [m])) q) hf
  self := fun A i s Q E st h => wpAny_pyIter_zip st.1 h
def iZ2 (k1 k2 : Bool) (ta : TA) : TI := fun σ H R => ta σ H fun vs H1 => ∃ a b xs ys, vs = [.ref a, .ref b] ∧ H1 a = some (hoK k1 xs) ∧ H1 b = some (hoK k2 ys) ∧ R (ItZ2 k1 k2 a b) H1
theorem pi_z2 {e e2 : Expr} {ta : TA} {p pos tpos : Pos} {elts : List Expr} {kk : Nat} (k1 k2 : Bool) (hg : Gl X "zip") (hm : X.mg "zip" = none) (ha : PA X [e, e2] ta)
    (hs : starEach [e, e2] X.env = (false, eval e X.env) :: starEach [e2] X.env := by rfl) (hpl : (backTo pos (starEach [e2] X.env)).any (·.1) = false := by rfl) :
    PI X (.Tuple elts kk tpos) (.Call (.Name "zip" p) [e, e2] [] pos) (iZ2 k1 k2 ta) := by
  refine ⟨fun pins s σ H R I h => ?_⟩
  refine Call_ (ld_blt I hg hm PyProof.Rows.boot_zip (PyProof.Rows.callWith_type1 (thn (ha.run pos pins s σ H _ I h) fun us s1 ⟨vs, H1, I1, r1, q1⟩ => ?_) hs hpl))
  obtain ⟨a, b, xs, ys, ex, hx, hy, q⟩ := q1
  subst ex
  cases r1 with
  | cons r rr =>
    cases rr with
    | cons r' rr =>
      cases rr
      cases r
      cases r'
      obtain ⟨its, rv, p1, la⟩ := seqAt I1 hx
      obtain ⟨its2, rv2, p2, lb⟩ := seqAt I1 hy
      refine zip_begins2 (begins_SI k1 a its.toArray) (begins_SI k2 b its2.toArray) p1 p2 fun h' hz hTI hTO h1 h2 hsz hk => wpAny_pyIter_zip hz ?_
      have I2 : Inv X pins σ H1 { s1 with heap := h' } := I1.kept (t' := s1.toks) hk
      refine ⟨s1.heap.objs.size + 4, [s1.heap.objs.size + 4, s1.heap.objs.size + 2, s1.heap.objs.size + 3, s1.heap.objs.size, s1.heap.objs.size + 1], _, _, H1, rfl, I2, turn_z2 (PySem.W.ktu_apart s1.heap.objs.size a b la lb), ⟨hz, hTI, ⟨_, _, hTO⟩, SI.new h1, SI.new h2⟩, fun c hcm => ?_, q⟩
      have e' : c = s1.heap.objs.size + 4 ∨ c = s1.heap.objs.size + 2 ∨ c = s1.heap.objs.size + 3 ∨ c = s1.heap.objs.size ∨ c = s1.heap.objs.size + 1 := by simpa using hcm
      have hle : s1.heap.objs.size ≤ c := by
        rcases e' with z | z | z | z | z <;> (rw [z]; first | exact Nat.le_add_right _ _ | exact Nat.le_refl _)
      exact I1.fpOk hle (I1.hok.fresh hle)

def ItZ3 (k1 k2 k3 : Bool) (a b c : Addr) : It :=
  ⟨fun i H => ∃ xs ys zs : List V, H a = some (hoK k1 xs) ∧ H b = some (hoK k2 ys) ∧ H c = some (hoK k3 zs) ∧ i < xs.length ∧ i < ys.length ∧ i < zs.length,
    fun i H v H' => ∃ T x y z, v = .ref T ∧ H T = none ∧ H' = upd H T (.tup [x, y, z]) ∧ (∀ xs, H a = some (hoK k1 xs) → xs[i]? = some x) ∧ (∀ ys, H b = some (hoK k2 ys) → ys[i]? = some y) ∧ ∀ zs, H c = some (hoK k3 zs) → zs[i]? = some z,
    fun i H => ∃ xs ys zs : List V, H a = some (hoK k1 xs) ∧ H b = some (hoK k2 ys) ∧ H c = some (hoK k3 zs) ∧ i = min (min xs.length ys.length) zs.length⟩
structure Apart3 (n : Nat) (a b c : Addr) : Prop where
  la : a < n
  lb : b < n
  lc : c < n
theorem mem2 {x y z : Nat} (h1 : x ≠ y) (h2 : x ≠ z) : (x : Addr) ∉ ([y, z] : List Addr) := fun m => by
  rcases List.mem_cons.mp m with e | m
  · exact h1 e
  · rcases List.mem_cons.mp m with e | m
    · exact h2 e
    · cases m
theorem Apart3.sep {n a b c : Nat} (D : Apart3 n a b c) : ZipSep3 (n + 5) (n + 3) (n + 4) n (n + 1) (n + 2) [n, a] [n + 1, b] [n + 2, c] := by
  have la : @LT.lt Nat _ a n := D.la
  have lb : @LT.lt Nat _ b n := D.lb
  have lc : @LT.lt Nat _ c n := D.lc
  constructor <;> first
    | exact List.mem_cons_self
    | exact mem2 (by omega) (by omega)
    | (refine PySem.W.neN ?_; omega)
theorem turn_z3 {P : Program} {w : World} {K : PySem.W.Frag} {elts : List Expr} {kk : Nat} {tpos : Pos} {k1 k2 k3 : Bool} {n a b c : Addr} (D : Apart3 n a b c) :
    Turn P w K (.Tuple elts kk tpos) (ItZ3 k1 k2 k3 a b c) [n + 5, n + 3, n + 4, n, n + 1, n + 2] (n + 5) (fun i h => IsZip h (n + 5) (n + 3) (n + 4) .none ∧ IsTupOf3 h (n + 3) (.ref n) (.ref (n + 1)) (.ref (n + 2)) ∧ (∃ x y z, IsTupOf3 h (n + 4) x y z) ∧ SI k1 h n a i ∧ SI k2 h (n + 1) b i ∧ SI k3 h (n + 2) c i) where
  mem := by simp
  obj := fun i h st d hd => by
    obtain ⟨hz, hTI, ⟨x, y, z, hTO⟩, h1, h2, h3⟩ := st
    have e' : d = n + 5 ∨ d = n + 3 ∨ d = n + 4 ∨ d = n ∨ d = n + 1 ∨ d = n + 2 := by simpa using hd
    rcases e' with q | q | q | q | q | q
    · rw [q]; exact ⟨_, hz, fun v q => nomatch q⟩
    · rw [q]; exact ⟨_, hTI, fun v q => nomatch q⟩
    · rw [q]; exact ⟨_, hTO, fun v q => nomatch q⟩
    · rw [q]; exact h1.obj
    · rw [q]; exact h2.obj
    · rw [q]; exact h3.obj
  keep := fun i h h' st k => by
    obtain ⟨hz, hTI, ⟨x, y, z, hTO⟩, h1, h2, h3⟩ := st
    exact ⟨k _ (by simp) _ hz, k _ (by simp) _ hTI, ⟨x, y, z, k _ (by simp) _ hTO⟩, h1.at fun o q => k _ (by simp) o q, h2.at fun o q => k _ (by simp) o q, h3.at fun o q => k _ (by simp) o q⟩
  item := by
    intro X hP hw hK hc i pins s σ H E I hf st hg
    subst hP hw hK
    obtain ⟨hz, hTI, hTO, h1, h2, h3⟩ := st
    obtain ⟨xs, ys, zs, ha, hb, hcc, hx, hy, hzz⟩ := hg
    obtain ⟨its, rv, p, la⟩ := seqAt I ha
    obtain ⟨its2, rv2, p2, lb⟩ := seqAt I hb
    obtain ⟨its3, rv3, p3, lc⟩ := seqAt I hcc
    have hh := I.ok.hd hc
    have W := GoesN.zip3 (elts := elts) (x1 := kk) (pos := tpos) D.sep
      (draws_SI (prog := X.prog) (w := X.w) (A := X.A.in1) k1 hh n a (Nat.ne_of_lt D.la) its.toArray) (draws_SI (prog := X.prog) (w := X.w) (A := X.A.in1) k2 hh (n + 1) b (Nat.ne_of_lt (Nat.lt_succ_of_lt D.lb)) its2.toArray) (draws_SI (prog := X.prog) (w := X.w) (A := X.A.in1) k3 hh (n + 2) c (Nat.ne_of_lt (Nat.lt_succ_of_lt (Nat.lt_succ_of_lt D.lc))) its3.toArray)
    have l1 := rv.length
    have l2 := rv2.length
    have l3 := rv3.length
    refine thn (W.goes i s (fun v s2 => ∃ x H', Inv X pins σ H' s2 ∧ RelV x v ∧ (ItZ3 k1 k2 k3 a b c).yld i H x H' ∧ (IsZip s2.heap (n + 5) (n + 3) (n + 4) .none ∧ IsTupOf3 s2.heap (n + 3) (.ref n) (.ref (n + 1)) (.ref (n + 2)) ∧ (∃ x y z, IsTupOf3 s2.heap (n + 4) x y z) ∧ SI k1 s2.heap n a (i + 1) ∧ SI k2 s2.heap (n + 1) b (i + 1) ∧ SI k3 s2.heap (n + 2) c (i + 1)) ∧ ∀ c ∈ [n + 5, n + 3, n + 4, n, n + 1, n + 2], H' c = none) E (by simp; omega) ⟨hz, hTI, hTO, ⟨h1, p⟩, ⟨h2, p2⟩, ⟨h3, p3⟩⟩ fun v h' tk hY st' hk _ => ?_) fun r s1 q => q
    obtain ⟨T, u1, u2, u3, rfl, hT, e1, e2, e3, hTup⟩ := hY
    obtain ⟨hz', hTI', hTO', ⟨h1', _⟩, ⟨h2', _⟩, ⟨h3', _⟩⟩ := st'
    have e1 : its[i]? = some u1 := by simpa using e1
    have e2 : its2[i]? = some u2 := by simpa using e2
    have e3 : its3[i]? = some u3 := by simpa using e3
    have gx : xs[i]? = some xs[i] := by simp [hx]
    have gy : ys[i]? = some ys[i] := by simp [hy]
    have gz : zs[i]? = some zs[i] := by simp [hzz]
    obtain ⟨u1', f1, r1⟩ := rv.get gx
    obtain ⟨u2', f2, r2⟩ := rv2.get gy
    obtain ⟨u3', f3, r3⟩ := rv3.get gz
    rw [e1] at f1
    cases f1
    rw [e2] at f2
    cases f2
    rw [e3] at f3
    cases f3
    have new : ObjOk X.prog X.w (upd H T (.tup [xs[i], ys[i], zs[i]])) h' T (.tup [xs[i], ys[i], zs[i]]) := ⟨by show 3 ≤ sizeLine; decide, [u1, u2, u3], .cons r1 (.cons r2 (.cons r3 .nil)), hTup⟩
    have I1 : Inv X pins σ (upd H T (.tup [xs[i], ys[i], zs[i]])) { s with heap := h', toks := tk } := I.turnedNew (ch := [n + 5, n + 3, n + 4, n, n + 1, n + 2]) (fun c o hcm q => hk c o (fun m => hcm (by simp at m ⊢; rcases m with m | m | m | m | m <;> simp [m])) q) hf hT new
    refine ⟨.ref T, _, I1, rfl, ⟨T, _, _, _, rfl, I.hok.fresh hT, rfl, fun l hl => ?_, fun l hl => ?_, fun l hl => ?_⟩, ⟨hz', hTI', hTO', h1', h2', h3'⟩, fun c hcm => ?_⟩
    · rw [ha] at hl
      rw [← hoK_inj (Option.some.inj hl)]
      exact gx
    · rw [hb] at hl
      rw [← hoK_inj (Option.some.inj hl)]
      exact gy
    · rw [hcc] at hl
      rw [← hoK_inj (Option.some.inj hl)]
      exact gz
    · have hlt : c < s.heap.objs.size := by
        have e' : c = n + 5 ∨ c = n + 3 ∨ c = n + 4 ∨ c = n ∨ c = n + 1 ∨ c = n + 2 := by simpa using hcm
        rcases e' with q | q | q | q | q | q
        · rw [q]; exact Heap.lt_size hz
        · rw [q]; exact Heap.lt_size hTI
        · obtain ⟨_, _, _, hTO⟩ := hTO; rw [q]; exact Heap.lt_size hTO
        · rw [q]; obtain ⟨_, e, _⟩ := h1.obj; exact Heap.lt_size e
        · rw [q]; obtain ⟨_, e, _⟩ := h2.obj; exact Heap.lt_size e
        · rw [q]; obtain ⟨_, e, _⟩ := h3.obj; exact Heap.lt_size e
      rw [upd_ne (Nat.ne_of_lt (Nat.lt_of_lt_of_le hlt hT))]
      exact (hf c hcm).1
  done := by
    intro X hP hw hK hc i pins s σ H E I hf st hg
    subst hP hw hK
    obtain ⟨hz, hTI, hTO, h1, h2, h3⟩ := st
    obtain ⟨xs, ys, zs, ha, hb, hcc, hi⟩ := hg
    obtain ⟨its, rv, p, la⟩ := seqAt I ha
    obtain ⟨its2, rv2, p2, lb⟩ := seqAt I hb
    obtain ⟨its3, rv3, p3, lc⟩ := seqAt I hcc
    have hh := I.ok.hd hc
    have l1 := rv.length
    have l2 := rv2.length
    have l3 := rv3.length
    have W := GoesN.zip3 (elts := elts) (x1 := kk) (pos := tpos) D.sep
      (draws_SI (prog := X.prog) (w := X.w) (A := X.A.in1) k1 hh n a (Nat.ne_of_lt D.la) its.toArray) (draws_SI (prog := X.prog) (w := X.w) (A := X.A.in1) k2 hh (n + 1) b (Nat.ne_of_lt (Nat.lt_succ_of_lt D.lb)) its2.toArray) (draws_SI (prog := X.prog) (w := X.w) (A := X.A.in1) k3 hh (n + 2) c (Nat.ne_of_lt (Nat.lt_succ_of_lt (Nat.lt_succ_of_lt D.lc))) its3.toArray)
    have ei : i = min (min its.toArray.size its2.toArray.size) its3.toArray.size := by simp; omega
    rw [ei] at h1 h2 h3
    refine W.stops s _ E ⟨hz, hTI, hTO, ⟨h1, p⟩, ⟨h2, p2⟩, ⟨h3, p3⟩⟩ fun h' tk hk _ => I.turnedL (ch := [n + 5, n + 3, n + 4, n, n + 1, n + 2]) (fun c o hcm q => hk c o (fun m => hcm (by simp at m ⊢; rcases m with m | m | m | m | m <;> simp [m])) q) hf
  self := fun A i s Q E st h => wpAny_pyIter_zip st.1 h
def iZ3 (k1 k2 k3 : Bool) (ta : TA) : TI := fun σ H R => ta σ H fun vs H1 => ∃ a b c xs ys zs, vs = [.ref a, .ref b, .ref c] ∧ H1 a = some (hoK k1 xs) ∧ H1 b = some (hoK k2 ys) ∧ H1 c = some (hoK k3 zs) ∧ R (ItZ3 k1 k2 k3 a b c) H1
theorem pi_z3 {e e2 e3 : Expr} {ta : TA} {p pos tpos : Pos} {elts : List Expr} {kk : Nat} (k1 k2 k3 : Bool) (hg : Gl X "zip") (hm : X.mg "zip" = none) (ha : PA X [e, e2, e3] ta)
    (hs : starEach [e, e2, e3] X.env = (false, eval e X.env) :: starEach [e2, e3] X.env := by rfl) (hpl : (backTo pos (starEach [e2, e3] X.env)).any (·.1) = false := by rfl) :
    PI X (.Tuple elts kk tpos) (.Call (.Name "zip" p) [e, e2, e3] [] pos) (iZ3 k1 k2 k3 ta) := by
  refine ⟨fun pins s σ H R I h => ?_⟩
  refine Call_ (ld_blt I hg hm PyProof.Rows.boot_zip (PyProof.Rows.callWith_type1 (thn (ha.run pos pins s σ H _ I h) fun us s1 ⟨vs, H1, I1, r1, q1⟩ => ?_) hs hpl))
  obtain ⟨a, b, c, xs, ys, zs, ex, hx, hy, hz0, q⟩ := q1
  subst ex
  cases r1 with
  | cons r rr =>
    cases rr with
    | cons r' rr =>
      cases rr with
      | cons r'' rr =>
        cases rr
        cases r
        cases r'
        cases r''
        obtain ⟨its, rv, p1, la⟩ := seqAt I1 hx
        obtain ⟨its2, rv2, p2, lb⟩ := seqAt I1 hy
        obtain ⟨its3, rv3, p3, lc⟩ := seqAt I1 hz0
        refine zip_begins3 (begins_SI k1 a its.toArray) (begins_SI k2 b its2.toArray) (begins_SI k3 c its3.toArray) p1 p2 p3 fun h' hz hTI hTO h1 h2 h3 hsz hk => wpAny_pyIter_zip hz ?_
        have I2 : Inv X pins σ H1 { s1 with heap := h' } := I1.kept (t' := s1.toks) hk
        refine ⟨s1.heap.objs.size + 5, [s1.heap.objs.size + 5, s1.heap.objs.size + 3, s1.heap.objs.size + 4, s1.heap.objs.size, s1.heap.objs.size + 1, s1.heap.objs.size + 2], _, _, H1, rfl, I2, turn_z3 ⟨la, lb, lc⟩, ⟨hz, hTI, ⟨_, _, _, hTO⟩, SI.new h1, SI.new h2, SI.new h3⟩, fun d hdm => ?_, q⟩
        have e' : d = s1.heap.objs.size + 5 ∨ d = s1.heap.objs.size + 3 ∨ d = s1.heap.objs.size + 4 ∨ d = s1.heap.objs.size ∨ d = s1.heap.objs.size + 1 ∨ d = s1.heap.objs.size + 2 := by simpa using hdm
        have hle : s1.heap.objs.size ≤ d := by
          rcases e' with z | z | z | z | z | z <;> (rw [z]; first | exact Nat.le_add_right _ _ | exact Nat.le_refl _)
        exact I1.fpOk hle (I1.hok.fresh hle)
end
end DL

set_option maxHeartbeats 4000000
namespace DL
open PySem PySem.Spec PyProof.Rows L2
variable [OldT]
open Evl (Ex)
/-! ### t[::-1] of a tuple -/
section
variable {prog : Program} {w : World} {A : Around} {E : Value → Shared → Prop} {s : Shared}
theorem sliceApplied_rev {sl : Addr} {vl vu vs : Value} {n : Nat} {Q : Int × Int × Nat → Shared → Prop} (hs : s.heap.IsSliceOf sl vl vu vs) (pl : IsPart vl none) (pu : IsPart vu none) (ps : IsPart vs (some (-1)))
    (h : Q ((n : Int) - 1, -1, n) s) : wpAny (model prog w) A (Builtin.Slice.sliceApplied (.ref sl) (pure (n : Int))) Q E s := by
  obtain ⟨os, hos, hcs, hds⟩ := id hs
  unfold Builtin.Slice.sliceApplied Builtin.Slice.sliceFields
  refine wpAny_bind (wpAny_bind (wpAny_field hos hds (x := vl) rfl (wpAny_bind (wpAny_field hos hds (x := vu) rfl (wpAny_bind (wpAny_field hos hds (x := vs) rfl (wpAny_pure ?_)))))))
  refine wpAny_bind (HT.slicePart_ ps ?_)
  show wpAny _ _ (if ((-1 : Int) == 0) = true then _ else _) _ _ s
  rw [if_neg (by decide)]
  refine wpAny_bind (HT.slicePart_ pl (wpAny_bind (HT.slicePart_ pu (wpAny_bind (wpAny_pure ?_)))))
  show wpAny _ _ (match Builtin.Slice.sliceAdjust none none (-1) (n : Int) with | (lo, hi) => pure (lo, (-1 : Int), Builtin.Slice.slicePlaces lo hi (-1))) _ _ s
  have e1 : Builtin.Slice.sliceAdjust none none (-1) (n : Int) = ((n : Int) - 1, -1) := by
    unfold Builtin.Slice.sliceAdjust
    simp
  rw [e1]
  have e2 : Builtin.Slice.slicePlaces ((n : Int) - 1) (-1) (-1) = n := by
    unfold Builtin.Slice.slicePlaces
    simp
    split <;> omega
  show wpAny _ _ (pure ((n : Int) - 1, (-1 : Int), Builtin.Slice.slicePlaces ((n : Int) - 1) (-1) (-1))) _ _ s
  rw [e2]
  exact wpAny_pure h
theorem pick_rev (xs : Array Value) : ((List.range xs.size).filterMap fun (m : Nat) => xs[(((xs.size : Int) - 1) + (m : Int) * (-1)).toNat]?).toArray = xs.toList.reverse.toArray := by
  congr 1
  have e : (List.range xs.size).filterMap (fun (m : Nat) => xs[(((xs.size : Int) - 1) + (m : Int) * (-1)).toNat]?) = ((List.range xs.size).map fun k => xs.size - 1 - k).filterMap (xs[·]?) := by
    rw [List.filterMap_map]
    have key : ∀ l : List Nat, (∀ m ∈ l, m < xs.size) → l.filterMap (fun (m : Nat) => xs[(((xs.size : Int) - 1) + (m : Int) * (-1)).toNat]?) = l.filterMap ((xs[·]?) ∘ fun k => xs.size - 1 - k) := by
      intro l
      induction l with
      | nil => intro _; rfl
      | cons m l ih =>
        intro hl
        have hm := hl m List.mem_cons_self
        have e2 : (((xs.size : Int) - 1) + (m : Int) * (-1)).toNat = xs.size - 1 - m := by omega
        rw [List.filterMap_cons, List.filterMap_cons, ih fun k hk => hl k (List.mem_cons_of_mem _ hk), e2]
        rfl
    exact key _ fun m hm => List.mem_range.mp hm
  rw [e, PySem.W.krv_range, List.filterMap_reverse, PySem.W.krv_all]
theorem getItem_tuple_rev {t sl : Addr} {items : Array Value} {vl vu vs : Value} {Q : Value → Shared → Prop} (ht : IsTup s.heap t items) (hs : s.heap.IsSliceOf sl vl vu vs) (pl : IsPart vl none) (pu : IsPart vu none) (ps : IsPart vs (some (-1)))
    (h : Q (.ref s.heap.objs.size) { s with heap := s.heap.push { cls := .type "tuple", data := .seq items.toList.reverse.toArray } })
    (hsz : items.size ≤ sizeLine) : wpAny (model prog w) A (getItem (.ref t) (.ref sl)) Q E s := by
  have htake : sizeOk (.seq items.toList.reverse.toArray) := by
    show items.toList.reverse.toArray.size ≤ sizeLine
    rw [List.size_toArray, List.length_reverse, Array.length_toList]
    exact hsz
  obtain ⟨os, hos, hcs, hds⟩ := id hs
  have hTs : s.TypeIs (.ref sl) "slice" := ⟨os, hos, hcs⟩
  unfold getItem
  try with_reducible refine wpAny_holding ?_
  first | refine wpAny_bind (wpAny_pure ?_) | skip
  refine wpAny_bind (wpAny_sequenceKey ht.typeIs (by decide) ?_)
  refine wpAny_bind (wpAny_callSpecial?_slot (name := Str.ofString "__getitem__") ht.typeIs PyProof.Rows.slot_tuple_getitem
    (wpAny_call_entry PyProof.Rows.slot_tuple_getitem ht.typeIs entry_tuple_getitem ?_ (args_tuple_getitem _ _)))
  show wpAny _ _ (Builtin.Tuple.tupleItemsOf (.ref t) >>= _) _ _ s
  refine wpAny_bind (tupleItemsOf_ ht ?_)
  refine wpAny_bind (wpAny_typeOf hTs ?_)
  rw [if_pos (by decide)]
  refine wpAny_bind (sliceApplied_rev hs pl pu ps ?_)
  have hno : ¬ ((((items.size : Int) - 1) == 0 && (-1 : Int) == 1 && items.size == items.size) = true) := by
    intro q
    rw [Bool.and_eq_true, Bool.and_eq_true] at q
    have q1 := q.1.2
    revert q1
    decide
  show wpAny _ _ (if (((items.size : Int) - 1) == 0 && (-1 : Int) == 1 && items.size == items.size) = true then _ else _) _ _ s
  rw [if_neg hno, pick_rev]
  first
    | exact wpAny_bind (m := Builtin.Tuple.tupleExact _) (wpAny_newObj_type (wpAny_pure ⟨_, rfl, wpAny_pure h⟩) htake)
    | exact wpAny_bind (m := Builtin.Tuple.tupleExact _) (wpAny_newObj_type (wpAny_bind (wpAny_pure (wpAny_pure ⟨_, rfl, wpAny_pure h⟩))) htake)
    | exact wpAny_bind (wpAny_bind (m := Builtin.Tuple.tupleExact _) (wpAny_newObj_type (wpAny_pure (wpAny_pure ⟨_, rfl, wpAny_pure h⟩)) htake))
    | exact wpAny_bind (wpAny_bind (m := Builtin.Tuple.tupleExact _) (wpAny_newObj_type (wpAny_pure ⟨_, rfl, wpAny_pure h⟩) htake))
end
def tRevT (K : PySem.W.Frag) (te : TE) : TE := fun σ H Q => te σ H fun x H1 => ∃ a xs, x = .ref a ∧ SqT K H1 a xs ∧ ∀ p, H1 p = none → Q (.ref p) (upd H1 p (.tup xs.reverse))
theorem pe_revT {X : Cx} {e : Expr} {te : TE} {k : Nat} {p1 p2 p3 pos : Pos} (he : PE X e te) : PE X (.Subscript e (.Slice none none (some (.UnaryOp .USub (.Constant (.int 1) k p1) p2)) p3) pos) (tRevT X.K te) := by
  refine ⟨fun pins s σ H Q I h => ?_⟩
  refine Subscript_ (thn (he.run pins s σ H _ I h) fun v s1 ⟨x, H1, I1, r1, q1⟩ => ?_)
  obtain ⟨a, xs, ex, hx, q⟩ := q1
  subst ex
  cases r1
  have hst : PO X (some (.UnaryOp .USub (.Constant (.int 1) k p1) p2)) (tPart (tUn (rU fun i => .int (-i)) (tC (.int 1)))) := po_some (pe_un un_neg pe_int)
  refine wpAny_Slice (thn (po_none.run pins s1 σ H1 (fun o H2 => o = none ∧ H2 = H1) I1 ⟨rfl, rfl⟩) fun vl s2 ⟨l, H2, I2, pl, el, e2⟩ => ?_)
  subst el e2
  refine thn (po_none.run pins s2 σ H2 (fun o H3 => o = none ∧ H3 = H2) I2 ⟨rfl, rfl⟩) fun vu s3 ⟨u, H3, I3, pu, eu, e3⟩ => ?_
  subst eu e3
  refine thn (hst.run pins s3 σ H3 (fun o H4 => o = some (-1) ∧ H4 = H3) I3 ⟨1, rfl, -1, rfl, rfl, rfl⟩) fun vs s4 ⟨o, H4, I4, ps, eo, e4⟩ => ?_
  subst eo e4
  have I5 : Inv X pins σ H4 { s4 with heap := s4.heap.push { cls := .type "slice", data := .fields #[vl, vu, vs] } } := I4.kept (t' := s4.toks) fun b ob q => Heap.get?_push_of_some _ q
  obtain ⟨its, r, ht, hz⟩ := I5.tuple hx
  have hlen := r.length
  show wpAny (model X.prog X.w) X.A (subscriptTail e (.Slice none none (some (.UnaryOp .USub (.Constant (.int 1) k p1) p2)) p3) (.ref a) (.ref s4.heap.objs.size)) (EP X pins σ Q) X.xe { s4 with heap := s4.heap.push { cls := .type "slice", data := .fields #[vl, vu, vs] } }
  refine tail_any (ops := [.ref a, .ref s4.heap.objs.size]) ht.typeIs (PyProof.Rows.slot_tuple_getitem.lookup) ?_ (by with_unfolding_all rfl)
  refine getItem_tuple_rev ht (Heap.IsSliceOf.new _ vl vu vs) pl pu ps ?_ (by rw [List.size_toArray]; omega)
  refine ⟨.ref _, _, I5.laid (t' := s4.toks) (o := .tup xs.reverse) (fun b ob q => Heap.get?_push_of_some _ q) (Nat.le_refl _) ?_, rfl, q _ (I5.hok.fresh (Nat.le_refl _))⟩
  exact ⟨by rw [List.length_reverse]; exact hz, its.reverse, r.reverse, IsTup.new _ _⟩
section
variable {X : Cx} {mg : Str → Option Value} {W : WX} {tg it a b c e : Expr} {es : List Expr} {pos : Pos} {σ : L2.St} {H : Hp} {wa : Addr} {Hf : Hp} {A : DE}
def eRev (A : DE) : DE := fun s w => (A s w).bind fun x w1 => match x with
  | .lst xs => .ok (.lst xs.reverse) w1
  | .tup xs => .ok (.tup xs.reverse) w1
  | _ => .no
theorem pd_rev {k : Nat} {p1 p2 p3 : Pos} (ha : PE X a (lE mg W A)) : PE X (.Subscript a (.Slice none none (some (.UnaryOp .USub (.Constant (.int 1) k p1) p2)) p3) pos) (lE mg W (eRev A)) := weakE (orE (pe_revL ha) (pe_revT ha)) fun σ H Q h => by
  obtain ⟨wa, Hf, sD, w, hb, hs, h⟩ := h
  unfold eRev at h
  cases ea : A sD w with
  | ok x w1 =>
    rw [ea, R.bind_ok] at h
    cases x with
    | lst xs =>
      refine .inl ⟨wa, Hf, sD, w, hb, hs, ?_⟩
      rw [ea]
      intro H1 Hf1 g b v rv
      cases rv with
      | lst h1 r1 =>
        refine ⟨_, _, rfl, SqL.of (b.ex _ _ h1), fun p hp => ?_⟩
        exact h _ _ (g.trans (Go.newF b.ex hp)) (b.newF hp) _ (.lst upd_same (r1.reverse.mono (Ex.new (Evl.fresh_back b.ex hp))))
    | tup xs =>
      refine .inr ⟨wa, Hf, sD, w, hb, hs, ?_⟩
      rw [ea]
      intro H1 Hf1 g b v rv
      cases rv with
      | tup h1 r1 =>
        refine ⟨_, _, rfl, SqT.of (b.ex _ _ h1), fun p hp => ?_⟩
        exact h _ _ (g.trans (Go.newF b.ex hp)) (b.newF hp) _ (.tup upd_same (r1.reverse.mono (Ex.new (Evl.fresh_back b.ex hp))))
    | _ => exact h.elim
  | er x w1 =>
    rw [ea] at h
    refine .inl ⟨wa, Hf, sD, w, hb, hs, ?_⟩
    rw [ea]
    exact h
  | no => rw [ea] at h; exact h.elim

/-! ### zip -/
def seqD : D → Option (Bool × List D)
  | .lst xs => some (false, xs)
  | .tup xs => some (true, xs)
  | _ => none
theorem seqD_rep {v : V} {d : D} {k : Bool} {xs : List D} (r : Rep wa Hf v d) (h : seqD d = some (k, xs)) : ∃ a vs, v = .ref a ∧ Hf a = some (hoK k vs) ∧ Reps wa Hf vs xs := by
  unfold seqD at h
  split at h
  · cases h
    cases r with
    | lst h1 r1 => exact ⟨_, _, rfl, h1, r1⟩
  · cases h
    cases r with
    | tup h1 r1 => exact ⟨_, _, rfl, h1, r1⟩
  · cases h
def zipD (xs ys : List D) : List D := (xs.zip ys).map fun p => .tup [p.1, p.2]
def zip3D (xs ys zs : List D) : List D := (xs.zip (ys.zip zs)).map fun p => .tup [p.1, p.2.1, p.2.2]
theorem walkD_z2 {k1 k2 : Bool} {p q : Addr} {vs us : List V} {ds es : List D} (h1 : Hf p = some (hoK k1 vs)) (h2 : Hf q = some (hoK k2 us)) (r1 : Reps wa Hf vs ds) (r2 : Reps wa Hf us es) : WalkD wa Hf (ItZ2 k1 k2 p q) (zipD ds es) := by
  have l1 := r1.length
  have l2 := r2.length
  refine ⟨fun i H hi x => ⟨vs, us, x _ _ h1, x _ _ h2, ?_, ?_⟩, fun H x => ⟨vs, us, x _ _ h1, x _ _ h2, by simp [zipD]; omega⟩, fun i H Hf1 w y H' d hd x b z => ?_⟩
  · simp [zipD] at hi; omega
  · simp [zipD] at hi; omega
  · obtain ⟨T, u, v, rfl, hT, rfl, q1, q2⟩ := z
    unfold zipD at hd
    rw [List.getElem?_map] at hd
    cases e : (ds.zip es)[i]? with
    | none => rw [e] at hd; cases hd
    | some pr =>
      rw [e] at hd
      cases hd
      rw [List.getElem?_zip_eq_some] at e
      obtain ⟨u1, f1, s1⟩ := (r1.mono x).get e.1
      obtain ⟨u2, f2, s2⟩ := (r2.mono x).get e.2
      have g1 := q1 vs (b.ex _ _ (x _ _ h1))
      have g2 := q2 us (b.ex _ _ (x _ _ h2))
      rw [f1] at g1
      rw [f2] at g2
      cases g1
      cases g2
      have nx := Ex.new (o := HO.tup [u, v]) (Evl.fresh_back b.ex hT)
      exact ⟨_, Go.newF b.ex hT, b.newF hT, .tup upd_same (.cons (s1.mono nx) (.cons (s2.mono nx) .nil))⟩
theorem walkD_z3 {k1 k2 k3 : Bool} {p q o : Addr} {vs us ts : List V} {ds es fs : List D} (h1 : Hf p = some (hoK k1 vs)) (h2 : Hf q = some (hoK k2 us)) (h3 : Hf o = some (hoK k3 ts)) (r1 : Reps wa Hf vs ds) (r2 : Reps wa Hf us es) (r3 : Reps wa Hf ts fs) : WalkD wa Hf (ItZ3 k1 k2 k3 p q o) (zip3D ds es fs) := by
  have l1 := r1.length
  have l2 := r2.length
  have l3 := r3.length
  refine ⟨fun i H hi x => ⟨vs, us, ts, x _ _ h1, x _ _ h2, x _ _ h3, ?_, ?_, ?_⟩, fun H x => ⟨vs, us, ts, x _ _ h1, x _ _ h2, x _ _ h3, by simp [zip3D]; omega⟩, fun i H Hf1 w y H' d hd x b z => ?_⟩
  · simp [zip3D] at hi; omega
  · simp [zip3D] at hi; omega
  · simp [zip3D] at hi; omega
  · obtain ⟨T, u, v, t, rfl, hT, rfl, q1, q2, q3⟩ := z
    unfold zip3D at hd
    rw [List.getElem?_map] at hd
    cases e : (ds.zip (es.zip fs))[i]? with
    | none => rw [e] at hd; cases hd
    | some pr =>
      rw [e] at hd
      cases hd
      rw [List.getElem?_zip_eq_some, List.getElem?_zip_eq_some] at e
      obtain ⟨u1, f1, s1⟩ := (r1.mono x).get e.1
      obtain ⟨u2, f2, s2⟩ := (r2.mono x).get e.2.1
      obtain ⟨u3, f3, s3⟩ := (r3.mono x).get e.2.2
      have g1 := q1 vs (b.ex _ _ (x _ _ h1))
      have g2 := q2 us (b.ex _ _ (x _ _ h2))
      have g3 := q3 ts (b.ex _ _ (x _ _ h3))
      rw [f1] at g1
      rw [f2] at g2
      rw [f3] at g3
      cases g1
      cases g2
      cases g3
      have nx := Ex.new (o := HO.tup [u, v, t]) (Evl.fresh_back b.ex hT)
      exact ⟨_, Go.newF b.ex hT, b.newF hT, .tup upd_same (.cons (s1.mono nx) (.cons (s2.mono nx) (.cons (s3.mono nx) .nil)))⟩
theorem anyI {κ : Type} {t : κ → TI} (h : ∀ k, PI X tg it (t k)) : PI X tg it (fun σ H R => ∃ k, t k σ H R) := ⟨fun pins s σ H R I ⟨k, q⟩ => (h k).run pins s σ H R I q⟩
def iZip (As : DA) : DI := fun s w => (As s w).bind fun xs w1 => match xs with
  | [x, y] => match seqD x, seqD y with
    | some (_, ds), some (_, es) => .ok (zipD ds es) w1
    | _, _ => .no
  | [x, y, z] => match seqD x, seqD y, seqD z with
    | some (_, ds), some (_, es), some (_, fs) => .ok (zip3D ds es fs) w1
    | _, _, _ => .no
  | _ => .no
theorem id_zip2 {As : DA} {p tpos : Pos} {elts : List Expr} {kk : Nat} (hg : Gl X "zip") (hm : X.mg "zip" = none) (ha : PA X [a, b] (lA mg W (aCons A As))) (hl : ∀ s w x w1, (aCons A As s w) = .ok x w1 → x.length = 2)
    (hs : starEach [a, b] X.env = (false, eval a X.env) :: starEach [b] X.env := by rfl) (hpl : (backTo pos (starEach [b] X.env)).any (·.1) = false := by rfl) : PI X (.Tuple elts kk tpos) (.Call (.Name "zip" p) [a, b] [] pos) (lI mg W (iZip (aCons A As))) :=
  weakI (anyI fun k : Bool × Bool => pi_z2 k.1 k.2 hg hm ha hs hpl) fun σ H Q h => by
  obtain ⟨wa, Hf, sD, w, hb, hs, h⟩ := h
  unfold iZip at h
  cases ea : aCons A As sD w with
  | ok ds w1 =>
    rw [ea, R.bind_ok] at h
    have h2 := hl _ _ _ _ ea
    obtain ⟨x, y, rfl⟩ : ∃ x y, ds = [x, y] := by
      match ds, h2 with
      | [x, y], _ => exact ⟨x, y, rfl⟩
    dsimp only at h
    split at h
    · rename_i k1 ds k2 es e1 e2
      refine ⟨(k1, k2), wa, Hf, sD, w, hb, hs, ?_⟩
      rw [ea]
      intro H1 Hf1 g b v rv
      cases rv with
      | cons r1 r2 =>
        cases r2 with
        | cons r2 r3 =>
          cases r3
          obtain ⟨p1, vs, rfl, h1, s1⟩ := seqD_rep r1 e1
          obtain ⟨p2, us, rfl, h2, s2⟩ := seqD_rep r2 e2
          exact ⟨p1, p2, vs, us, rfl, b.ex _ _ h1, b.ex _ _ h2, h H1 Hf1 g b _ (walkD_z2 h1 h2 s1 s2)⟩
    · exact h.elim
  | er x w1 =>
    rw [ea] at h
    refine ⟨(true, true), wa, Hf, sD, w, hb, hs, ?_⟩
    rw [ea]
    exact h
  | no => rw [ea] at h; exact h.elim
theorem id_zip3 {As : DA} {p tpos : Pos} {elts : List Expr} {kk : Nat} (hg : Gl X "zip") (hm : X.mg "zip" = none) (ha : PA X [a, b, c] (lA mg W (aCons A As))) (hl : ∀ s w x w1, (aCons A As s w) = .ok x w1 → x.length = 3)
    (hs : starEach [a, b, c] X.env = (false, eval a X.env) :: starEach [b, c] X.env := by rfl) (hpl : (backTo pos (starEach [b, c] X.env)).any (·.1) = false := by rfl) : PI X (.Tuple elts kk tpos) (.Call (.Name "zip" p) [a, b, c] [] pos) (lI mg W (iZip (aCons A As))) :=
  weakI (anyI fun k : Bool × Bool × Bool => pi_z3 k.1 k.2.1 k.2.2 hg hm ha hs hpl) fun σ H Q h => by
  obtain ⟨wa, Hf, sD, w, hb, hs, h⟩ := h
  unfold iZip at h
  cases ea : aCons A As sD w with
  | ok ds w1 =>
    rw [ea, R.bind_ok] at h
    have h2 := hl _ _ _ _ ea
    obtain ⟨x, y, z, rfl⟩ : ∃ x y z, ds = [x, y, z] := by
      match ds, h2 with
      | [x, y, z], _ => exact ⟨x, y, z, rfl⟩
    dsimp only at h
    split at h
    · rename_i k1 ds k2 es k3 fs e1 e2 e3
      refine ⟨(k1, k2, k3), wa, Hf, sD, w, hb, hs, ?_⟩
      rw [ea]
      intro H1 Hf1 g b v rv
      cases rv with
      | cons r1 r2 =>
        cases r2 with
        | cons r2 r3 =>
          cases r3 with
          | cons r3 r4 =>
            cases r4
            obtain ⟨p1, vs, rfl, h1, s1⟩ := seqD_rep r1 e1
            obtain ⟨p2, us, rfl, h2, s2⟩ := seqD_rep r2 e2
            obtain ⟨p3, ts, rfl, h3, s3⟩ := seqD_rep r3 e3
            exact ⟨p1, p2, p3, vs, us, ts, rfl, b.ex _ _ h1, b.ex _ _ h2, b.ex _ _ h3, h H1 Hf1 g b _ (walkD_z3 h1 h2 h3 s1 s2 s3)⟩
    · exact h.elim
  | er x w1 =>
    rw [ea] at h
    refine ⟨(true, true, true), wa, Hf, sD, w, hb, hs, ?_⟩
    rw [ea]
    exact h
  | no => rw [ea] at h; exact h.elim
/-- an argument list has so many values -/
theorem aNil_len {s : Sl} {w w1 : Wl} {x : List D} (h : aNil s w = .ok x w1) : x.length = 0 := by cases h; rfl
theorem aCons_len {n : Nat} {As : DA} (hr : ∀ s w x w1, As s w = .ok x w1 → x.length = n) : ∀ s w x w1, (aCons A As s w) = .ok x w1 → x.length = n + 1 := fun s w x w1 h => by
  unfold aCons at h
  cases e : A s w with
  | ok d w2 =>
    rw [e, R.bind_ok] at h
    cases e2 : As s w2 with
    | ok ds w3 =>
      rw [e2, R.bind_ok] at h
      cases h
      simp [hr _ _ _ _ e2]
    | er y w3 => rw [e2] at h; cases h
    | no => rw [e2] at h; cases h
  | er y w2 => rw [e] at h; cases h
  | no => rw [e] at h; cases h

/-! ### calls by names -/
def permute {α : Type} (π : List Nat) (xs : List α) : List α := π.filterMap fun i => xs[i]?
theorem permute_reps {vs : List V} {ds : List D} (r : Reps wa Hf vs ds) : ∀ π : List Nat, Reps wa Hf (permute π vs) (permute π ds)
  | [] => .nil
  | i :: π => by
    have ih := permute_reps r π
    unfold permute at ih ⊢
    rw [List.filterMap_cons, List.filterMap_cons]
    cases e : ds[i]? with
    | none =>
      have e2 : vs[i]? = none := by
        rw [List.getElem?_eq_none_iff] at e ⊢
        rw [r.length]; exact e
      rw [e2]
      exact ih
    | some d =>
      obtain ⟨v, e2, r2⟩ := r.get e
      rw [e2]
      exact .cons r2 ih
theorem permute_vals {vs : List V} {us : List Value} (r : Vals vs us) : ∀ π : List Nat, Vals (permute π vs) (permute π us)
  | [] => .nil
  | i :: π => by
    have ih := permute_vals r π
    unfold permute at ih ⊢
    rw [List.filterMap_cons, List.filterMap_cons]
    cases e : vs[i]? with
    | none =>
      rw [r.none_of e]
      exact ih
    | some d =>
      obtain ⟨v, e2, r2⟩ := r.get e
      rw [e2]
      exact .cons r2 ih
/-- how keywords bind: all the n positional values, then those of the names ks, put in order by π -/
def KwB (fd : FuncData) (ps : List Str) (n : Nat) (ks : List Str) (π : List Nat) : Prop := ∀ us ws : List Value, us.length = n → ws.length = ks.length → bindArgs fd ⟨us, ks.zip ws⟩ = pure (ps.zip (permute π (us ++ ws)))
theorem KwB.kbn {K : PySem.W.Frag} {fd : FuncData} {ps ks : List Str} {n : Nat} {π : List Nat} (h : KwB fd ps n ks π) : KBn K fd ps n ks (fun us ws => permute π (us ++ ws)) (fun us ws => permute π (us ++ ws)) :=
  ⟨fun s us ws _ h1 h2 => .of_eq (h us ws h1 h2), fun r1 r2 => permute_vals (r1.append r2) π⟩
def eCallK (m n k : Nat) (π : List Nat) (F : DF) (As Ks : DA) : DE := fun s w => (As s w).bind fun ds w1 => (Ks s w1).bind fun zs w2 => if ds.length = n ∧ zs.length = k ∧ (permute π (ds ++ zs)).length = m then F (permute π (ds ++ zs)) w2 else .no
theorem kd_nil : PK X [] (lA mg W aNil) := ⟨fun pos pins s σ H Q I h => (pk_nil (X := X)).run pos pins s σ H Q I (by
  obtain ⟨wa, Hf, sD, w, hb, hs, h⟩ := h
  exact h.here hb _ .nil)⟩
theorem kd_cons {kws : List Keyword} {nm kpos} {As : DA} (ha : PE X e (lE mg W A)) (hr : PK X kws (lA mg W As)) : PK X (⟨nm, e, kpos⟩ :: kws) (lA mg W (aCons A As)) := ⟨fun pos pins s σ H Q I h => (pk_cons ha hr).run pos pins s σ H Q I (by
  obtain ⟨wa, Hf, sD, w, hb, hs, h⟩ := h
  refine ⟨wa, Hf, sD, w, hb, hs, h.bind.mono (fun x w1 H1 Hf1 g1 b1 q v rv => ?_) (fun _ _ _ _ _ _ q => q)⟩
  refine ⟨wa, Hf1, sD, w1, b1, hs.go g1, q.bind.mono (fun y w2 H2 Hf2 g2 b2 q2 v2 rv2 => ?_) (fun _ _ _ _ _ _ q => q)⟩
  exact q2.here b2 _ (.cons (rv.mono g2.ex) rv2))⟩
/-- f(k = v, ..), no positional values; what is raised goes to the wish -/
theorem run_fnW {k : Nat} {f : Addr} {fd : FuncData} {ps ks : List Str} {n : Nat} {F : DF} {W : WX} {pins : List (Addr × Obj)} {s : Shared} {Q : VK} {us ws : List Value} {vs zs : List V} {π : List Nat} (G : FnD X.prog X.w X.K X.mg X.base k f fd ps F) (hr : Room k X.A) (hb : KwB fd ps n ks π) (hx : Wok X W)
    (I : Inv X pins σ H s) (r : Vals vs us) (rz : Vals zs ws) (l1 : vs.length = n) (l2 : zs.length = ks.length) (h : spD X.mg ps.length F (permute π (vs ++ zs)) H Q (WE W σ)) : wpAny (model X.prog X.w) X.A (call (.ref f) us (ks.zip ws)) (EP X pins σ Q) X.xe s := by
  have r2 := (hb.kbn (K := X.K)).rel r rz
  refine wpAny_call (codeAny_mono (G.run X.A X.stack s H ⟨us, ks.zip ws⟩ (permute π (us ++ ws)) (permute π (vs ++ zs)) Q (WE W σ) hr I.env0 ((hb.kbn (K := X.K)).to s us ws I.kIn (r.length.symm.trans l1) (rz.length.symm.trans l2)) r2 h) fun r s' hq => ?_)
  cases r with
  | error e => exact hx σ pins H s e s' I hq
  | ok fl =>
    cases fl with
    | ret u => exact I.after hq
    | next => exact False.elim hq
    | brk => exact False.elim hq
    | cont => exact False.elim hq
theorem pd_callK0 {k : Nat} {f : Addr} {fd : FuncData} {ps ks : List Str} {F : DF} {W : WX} {x : Str} {p : Pos} {Ks : DA} {kws : List Keyword} {π : List Nat} (G : FnD X.prog X.w X.K X.mg X.base k f fd ps F) (hr : Room k X.A) (hg : Gl X x) (hm : X.mg x = some (.ref f)) (hk : PySem.W.keepIn X.K (.ref f) = true) (hb : KwB fd ps 0 ks π) (hx : Wok X W)
    (hkw : PK X kws (lA X.mg W Ks)) (hall : (backToKw pos (keywordEach kws X.env)).all (·.1.isSome) = true := by rfl) (hks : (backToKw pos (keywordEach kws X.env)).filterMap (·.1) = ks := by rfl) (hdb : (x == ("__debug__" : Str)) = false := by decide)
    (hpl : ((backTo pos (starEach [] X.env)).any (·.1) || (backToKw pos (keywordEach kws X.env)).any (·.1.isNone)) = false := by rfl) :
    PE X (.Call (.Name x p) [] kws pos) (lE X.mg W (eCallK ps.length 0 ks.length π F aNil Ks)) := by
  refine ⟨fun pins s σ H Q I h => ?_⟩
  obtain ⟨wa, Hf, sD, w, hb0, hs, h⟩ := h
  refine wpAny_Call_Name_kw (ld_glob I hg hm ?_ hdb)
  refine PySem.W.callWith_KW0 (h₀ := X.base) I.ok.mod.kin hk hall ?_ hpl
  refine thn (hkw.run pos pins s σ H (fun zs H1 => zs.length = ks.length ∧ spD X.mg ps.length F (permute π ([] ++ zs)) H1 Q (WE W σ)) I ⟨wa, Hf, sD, w, hb0, hs, ?_⟩) fun ws s2 ⟨zs, H2, I2, rz, l2, q2⟩ => ⟨I2.kIn, ?_⟩
  · refine Fin.mono (Fin.bind (r := Ks sD w) (k := fun zs w2 => if ([] : List D).length = 0 ∧ zs.length = ks.length ∧ (permute π ([] ++ zs)).length = ps.length then F (permute π ([] ++ zs)) w2 else .no) h) (fun zs w1 H1 Hf1 g1 b1 q v rv => ?_) (fun _ _ _ _ _ _ q => q)
    split at q
    · rename_i hl
      refine ⟨by rw [rv.length]; exact hl.2.1, wa, Hf1, _, w1, b1, permute_reps (Reps.append .nil rv) π, hl.2.2, q⟩
    · exact q.elim
  · rw [hks]
    exact run_fnW G hr hb hx I2 .nil rz rfl l2 q2
end
end DL

set_option maxHeartbeats 4000000
namespace DL
open PySem PySem.Spec PyProof.Rows L2
variable [OldT]
open Evl (Ex)
/-! ### values side by side, some of them new lists that a slot will own -/
inductive RepsO (wa : Addr) (Hf H : Hp) : List V → List D → List Addr → Prop
  | nil : RepsO wa Hf H [] [] []
  | val {v : V} {d : D} {vs : List V} {ds : List D} {ps : List Addr} : Rep wa Hf v d → RepsO wa Hf H vs ds ps → RepsO wa Hf H (v :: vs) (d :: ds) ps
  | own {p : Addr} {xs : List V} {es : List D} {vs : List V} {ds : List D} {ps : List Addr} : H p = some (.lst xs) → Hf p = none → p ≠ wa → Reps wa Hf xs es → p ∉ ps → RepsO wa Hf H vs ds ps → RepsO wa Hf H (.ref p :: vs) (.own es :: ds) (p :: ps)
def lM (mg : Str → Option Value) (W : WX) (E : Sl → Wl → R (List D)) : TA := fun σ H Q =>
  ∃ wa Hf sD w, Base wa Hf H w ∧ Slots wa Hf H σ sD ∧ Fin wa Hf H (E sD w) (fun ds _ H' Hf' => ∀ vs ps, RepsO wa Hf' H' vs ds ps → (∀ p ∈ ps, H p = none) → Q vs H') (Er mg W wa σ)
section
variable {X : Cx} {mg : Str → Option Value} {W : WX} {tg it a b c e : Expr} {es : List Expr} {pos : Pos} {σ : L2.St} {H H' H0 : Hp} {wa : Addr} {Hf Hf' : Hp} {A : DE} {As M : DA}
theorem RepsO.length : ∀ {vs : List V} {ds : List D} {ps : List Addr}, RepsO wa Hf H vs ds ps → vs.length = ds.length
  | _, _, _, .nil => rfl
  | _, _, _, .val _ r => by simp [RepsO.length r]
  | _, _, _, .own _ _ _ _ _ r => by simp [RepsO.length r]
theorem RepsO.go (g : Go wa H Hf H' Hf') : ∀ {vs : List V} {ds : List D} {ps : List Addr}, RepsO wa Hf H vs ds ps → RepsO wa Hf' H' vs ds ps
  | _, _, _, .nil => .nil
  | _, _, _, .val h r => .val (h.mono g.ex) (RepsO.go g r)
  | _, _, _, .own h1 h2 h3 h4 h5 r => .own (g.keep _ _ h3 h1) ((g.new _ _ h1).trans h2) h3 (h4.mono g.ex) h5 (RepsO.go g r)
def mVal (A : DE) (As : DA) : DA := fun s w => (A s w).bind fun x w1 => (As s w1).bind fun xs w2 => .ok (x :: xs) w2
def mOwn (A : DA) (As : DA) : DA := fun s w => (A s w).bind fun x w1 => (As s w1).bind fun xs w2 => .ok (.own x :: xs) w2
theorem md_nil : PA X [] (lM mg W aNil) := weakA pa_nil fun σ H Q h => by
  obtain ⟨wa, Hf, sD, w, hb, hs, h⟩ := h
  exact h.here hb _ [] .nil fun _ m => nomatch m
theorem md_val (ha : PE X a (lE mg W A)) (hr : PA X es (lM mg W As)) (hs : starEach (a :: es) X.env = (false, eval a X.env) :: starEach es X.env := by rfl) : PA X (a :: es) (lM mg W (mVal A As)) := weakA (pa_cons ha hr hs) fun σ H Q h => by
  obtain ⟨wa, Hf, sD, w, hb, hs, h⟩ := h
  refine ⟨wa, Hf, sD, w, hb, hs, h.bind.mono (fun x w1 H1 Hf1 g1 b1 q v rv => ?_) (fun _ _ _ _ _ _ q => q)⟩
  refine ⟨wa, Hf1, sD, w1, b1, hs.go g1, q.bind.mono (fun y w2 H2 Hf2 g2 b2 q2 v2 ps rv2 hn => ?_) (fun _ _ _ _ _ _ q => q)⟩
  exact q2.here b2 _ ps (.val (rv.mono g2.ex) rv2) fun p m => g1.free (hn p m)
theorem md_own {B : DA} (ha : PE X a (lfL mg W B)) (hr : PA X es (lM mg W As)) (hs : starEach (a :: es) X.env = (false, eval a X.env) :: starEach es X.env := by rfl) : PA X (a :: es) (lM mg W (mOwn B As)) := weakA (pa_cons ha hr hs) fun σ H Q h => by
  obtain ⟨wa, Hf, sD, w, hb, hs, h⟩ := h
  refine ⟨wa, Hf, sD, w, hb, hs, h.bind.mono (fun x w1 H1 Hf1 g1 b1 q p vs hp e1 e2 e3 rv => ?_) (fun _ _ _ _ _ _ q => q)⟩
  refine ⟨wa, Hf1, sD, w1, b1, hs.go g1, q.bind.mono (fun y w2 H2 Hf2 g2 b2 q2 v2 ps rv2 hn => ?_) (fun _ _ _ _ _ _ q => q)⟩
  have hpp : p ∉ ps := fun m => by
    have := hn p m
    rw [e1] at this
    cases this
  refine q2.here b2 _ (p :: ps) (.own (g2.keep _ _ e3 e1) ((g2.new _ _ e1).trans e2) e3 (rv.mono g2.ex) hpp rv2) fun z m => ?_
  rcases List.mem_cons.mp m with e | m
  · rw [e]; exact hp
  · exact g1.free (hn z m)
/-- into slots, one after another -/
def putS (s : Sl) : List Nat → List D → Option Sl
  | [], [] => some s
  | i :: is, d :: ds => putS (s.set i (some d)) is ds
  | _, _ => none
def putV (σ : L2.St) : List Nat → List V → Option L2.St
  | [], [] => some σ
  | i :: is, v :: vs => putV (σ.set i (some v)) is vs
  | _, _ => none
/-- who owns p already is none of these -/
def Apart (s : Sl) (σ : L2.St) (ps : List Addr) : Prop := ∀ p ∈ ps, ∀ (j : Nat) (ys : List D), s[j]? = some (some (.own ys)) → σ[j]? ≠ some (some (.ref p))
theorem put_ok : ∀ {is : List Nat} {vs : List V} {ds : List D} {ps : List Addr} {σ : L2.St} {s s' : Sl}, RepsO wa Hf H vs ds ps → (∀ p ∈ ps, H0 p = none) → Slots wa Hf H σ s → OwnNew H0 σ s → Apart s σ ps → putS s is ds = some s' →
    ∃ σ', putV σ is vs = some σ' ∧ Slots wa Hf H σ' s' ∧ OwnNew H0 σ' s'
  | [], _, _, _, σ, s, s', .nil, _, hs, ho, _, h => by cases h; exact ⟨σ, rfl, hs, ho⟩
  | i :: is, _, _, _, σ, s, s', .val r rr, hp, hs, ho, ha, h => by
    refine put_ok (is := is) rr hp (hs.set r) (ho.set fun xs z => by subst z; exact rep_own r) (fun p m j ys h1 h2 => ?_) h
    by_cases hj : j = i
    · subst hj
      rw [List.getElem?_set] at h1
      split at h1
      · split at h1
        · cases h1
          exact rep_own r
        · cases h1
      · rename_i hne
        exact absurd rfl hne
    · rw [List.getElem?_set_ne (Ne.symm hj)] at h1 h2
      exact ha p m j ys h1 h2
  | i :: is, _, _, _, σ, s, s', .own (p := p) h1 h2 h3 h4 h5 rr, hp, hs, ho, ha, h => by
    refine put_ok (is := is) rr (fun q m => hp q (List.mem_cons_of_mem _ m)) (hs.setOwn h1 h2 h3 h4 fun j ys k1 => ha p List.mem_cons_self j ys k1) (ho.setOwn hs.len (hp p List.mem_cons_self)) (fun q m j ys k1 k2 => ?_) h
    by_cases hj : j = i
    · subst hj
      rw [List.getElem?_set] at k2
      split at k2
      · split at k2
        · cases k2
          exact h5 m
        · cases k2
      · rename_i hne
        exact absurd rfl hne
    · rw [List.getElem?_set_ne (Ne.symm hj)] at k1 k2
      exact ha q (List.mem_cons_of_mem _ m) j ys k1 k2
  | [], _, _, _, _, _, _, .val _ _, _, _, _, _, h => by cases h
  | [], _, _, _, _, _, _, .own _ _ _ _ _ _, _, _, _, _, h => by cases h
  | _ :: _, _, _, _, _, _, _, .nil, _, _, _, _, h => by cases h
def sMul (is : List Nat) (M : DA) : DS := fun s w => match M s w with
  | .ok ds w1 => match putS s is ds with
    | some s1 => .nx s1 w1
    | none => .no
  | .er x w1 => .er x s w1
  | .no => .no
theorem apart_new {s : Sl} {H1 : Hp} {ps : List Addr} (hs : Slots wa Hf H1 σ s) (hn : ∀ p ∈ ps, H1 p = none) : Apart s σ ps := fun p m j ys h1 h2 => by
  obtain ⟨q, us, k1, k2, _⟩ := hs.own j ys h1
  rw [h2] at k1
  cases k1
  rw [hn p m] at k2
  cases k2
variable {st : Stmt}
/-- a, b = e1, e2: two local names -/
theorem sd_par2 {i j : Nat} (h : PS X st (tPar i j (lM mg W M))) : PS X st (lS mg W (sMul [i, j] M)) := weakS h fun D σ H h => by
  obtain ⟨wa, Hf, sD, w, H0, Hf0, g, b, hs, ho, h⟩ := h
  refine ⟨wa, Hf, sD, w, b, hs, ?_⟩
  unfold sMul at h
  cases e : M sD w with
  | ok ds w1 =>
    rw [e] at h
    dsimp only at h
    intro H1 Hf1 g1 b1 vs ps rv hn
    split at h
    · rename_i s1 hp
      obtain ⟨σ1, e1, hs1, ho1⟩ := put_ok (H0 := H0) rv (fun p m => g.free (hn p m)) (hs.go g1) ho (apart_new hs hn) hp
      match ds, vs, hp, e1 with
      | [x, y], [u, v], hp, e1 =>
        cases e1
        exact ⟨u, v, rfl, h _ H1 Hf1 (g.trans g1) g1.ex b1 hs1 ho1⟩
    · exact h.elim
  | er x w1 =>
    rw [e] at h
    exact fun H1 Hf1 g1 b1 cls dx ev => h σ H1 Hf1 cls dx (g.trans g1) g1.ex b1 (hs.go g1) ho ev
  | no => rw [e] at h; exact h
theorem sd_par3 {i j k : Nat} (h : PS X st (tPar3 i j k (lM mg W M))) : PS X st (lS mg W (sMul [i, j, k] M)) := weakS h fun D σ H h => by
  obtain ⟨wa, Hf, sD, w, H0, Hf0, g, b, hs, ho, h⟩ := h
  refine ⟨wa, Hf, sD, w, b, hs, ?_⟩
  unfold sMul at h
  cases e : M sD w with
  | ok ds w1 =>
    rw [e] at h
    dsimp only at h
    intro H1 Hf1 g1 b1 vs ps rv hn
    split at h
    · rename_i s1 hp
      obtain ⟨σ1, e1, hs1, ho1⟩ := put_ok (H0 := H0) rv (fun p m => g.free (hn p m)) (hs.go g1) ho (apart_new hs hn) hp
      match ds, vs, hp, e1 with
      | [x, y, z], [u, v, t], hp, e1 =>
        cases e1
        exact ⟨u, v, t, rfl, h _ H1 Hf1 (g.trans g1) g1.ex b1 hs1 ho1⟩
    · exact h.elim
  | er x w1 =>
    rw [e] at h
    exact fun H1 Hf1 g1 b1 cls dx ev => h σ H1 Hf1 cls dx (g.trans g1) g1.ex b1 (hs.go g1) ho ev
  | no => rw [e] at h; exact h
/-- names, as targets -/
def gNames : List Nat → TGs
  | [] => gNil
  | i :: is => gCons (gName i) (gNames is)
theorem gNames_of {H : Hp} {Q : L2.St → Hp → Prop} : ∀ {is : List Nat} {vs : List V} {σ σ' : L2.St}, putV σ is vs = some σ' → Q σ' H → gNames is vs σ H Q
  | [], [], _, _, h, q => by cases h; exact ⟨rfl, q⟩
  | i :: is, v :: vs, _, _, h, q => ⟨v, vs, rfl, gNames_of (is := is) h q⟩
  | [], _ :: _, _, _, h, _ => by cases h
  | _ :: _, [], _, _, h, _ => by cases h
/-- a, b, .. = a written tuple -/
theorem sd_multi {is : List Nat} {n : Nat} (h : PS X st (tAsg (tTup (lM mg W M)) (gTup X.K n (gNames is)))) (hn : is.length = n) (hz : n ≤ 1000) : PS X st (lS mg W (sMul is M)) := weakS h fun D σ H h => by
  obtain ⟨wa, Hf, sD, w, H0, Hf0, g, b, hs, ho, h⟩ := h
  refine ⟨wa, Hf, sD, w, b, hs, ?_⟩
  unfold sMul at h
  cases e : M sD w with
  | ok ds w1 =>
    rw [e] at h
    dsimp only at h
    intro H1 Hf1 g1 b1 vs ps rv hnew
    split at h
    · rename_i s1 hp
      obtain ⟨σ1, e1, hs1, ho1⟩ := put_ok (H0 := H0) rv (fun p m => g.free (hnew p m)) (hs.go g1) ho (apart_new hs hnew) hp
      have len : ∀ (is : List Nat) (vs : List V) (σ σ' : L2.St), putV σ is vs = some σ' → vs.length = is.length := by
        intro is
        induction is with
        | nil => intro vs σ σ' h; cases vs with
          | nil => rfl
          | cons _ _ => cases h
        | cons i is ih => intro vs σ σ' h; cases vs with
          | nil => cases h
          | cons v vs => simp [ih _ _ _ h]
      have hvl := len _ _ _ _ e1
      refine ⟨by rw [hvl, hn, sizeLine_eq]; omega, fun t ht => ⟨t, vs, rfl, SqT.of upd_same, by rw [hvl, hn], gNames_of e1 ?_⟩⟩
      exact h _ _ Hf1 ((g.trans g1).trans (Go.new1 ht)) g1.ex (b1.new1 ht) (hs1.go (Go.new1 ht)) ho1
    · exact h.elim
  | er x w1 =>
    rw [e] at h
    exact fun H1 Hf1 g1 b1 cls dx ev => h σ H1 Hf1 cls dx (g.trans g1) g1.ex b1 (hs.go g1) ho ev
  | no => rw [e] at h; exact h
/-- what the proof never comes to -/
def sNever : DS := fun _ _ => .no
theorem sd_never : PS X st (lS mg W sNever) := weakS ps_never fun D σ H h => by
  obtain ⟨wa, Hf, sD, w, H0, Hf0, g, b, hs, ho, h⟩ := h
  exact h
end
theorem Fun.kwb {K : PySem.W.Frag} {x qual : Str} {st : Stmt} {f : Addr} {fd : FuncData} {ps ks : List Str} {n : Nat} {π : List Nat} (F : Fun K x qual st f fd)
    (h : ∀ (kV doc pm : Value) (an : Option Addr) (cdv ct : Value) (us ws : List Value), us.length = n → ws.length = ks.length → bindArgs (PySem.W.fnOf x qual (defArgs st) (defBody st) (defScope st) .none kV doc pm an cdv ct) ⟨us, ks.zip ws⟩ = pure (ps.zip (permute π (us ++ ws)))) : KwB fd ps n ks π := by
  obtain ⟨oc, od, kV, doc, pm, an, cdv, ct, osl, rfl, lk, hcd⟩ := F.ex
  exact fun us ws h1 h2 => h kV doc pm an cdv ct us ws h1 h2
end DL

set_option maxHeartbeats 2000000
namespace DL
open PySem PySem.Spec PyProof.Rows L2
variable [OldT]
open Evl (Ex)
/-! ### in, index, sorted, max and min of a list, break, continue -/
theorem units65 {k : Nat} {A : Around} (r : Room k A) : A.units + 65 < cLine := by have := r.un; omega
/-- is an integer among integers -/
def hasI (i : Int) (ns : List Int) : Bool := ns.any fun j => decide (j = i)
def fInG (neg : Bool) : Wl → D → D → Option D := fun _ x y => match y with
  | .lst ds => if okD x && okD (.lst ds) then some (.bl (if neg then !ds.any fun d => eqD d x else ds.any fun d => eqD d x)) else none
  | .tup ds => match x, ints? ds with
    | .int i, some ns => some (.bl (if neg then !hasI i ns else hasI i ns))
    | _, _ => none
  | _ => none
abbrev fIn := fInG false
abbrev fNin := fInG true
theorem toPDs_map (ds : List D) : toPDs ds = ds.map toPD := by
  induction ds with
  | nil => rfl
  | cons d r ih => rw [List.map_cons, ← ih]; rfl
theorem anyPD (x : D) (ds : List D) : ((toPDs ds).any fun z => PyData.eqv z (toPD x)) = ds.any fun d => eqD d x := by
  rw [toPDs_map, List.any_map]
  rfl
theorem inV_ints (i : Int) (ns : List Int) : inV (.int i) (ns.map V.int) = hasI i ns := by
  unfold inV hasI
  rw [List.any_map]
  congr 1
theorem flat_ints (ns : List Int) : (ns.map V.int).all flatV = true := by
  rw [List.all_map]
  exact List.all_eq_true.mpr fun _ _ => rfl
theorem opd_in {K : PySem.W.Frag} : OpD (fun x y H Q => rInD K x y H Q ∨ rIn K false x y H Q) fIn := by
  intro wa Hf H w x y u v z Q hb ru rv h q
  unfold fIn fInG at h
  split at h
  · split at h
    · rename_i ds hc
      rw [Bool.and_eq_true] at hc
      cases h
      refine .inl ⟨_, _, ru.dp hb (shaped_lay hc.1), rv.dp hb (shaped_lay hc.2), hc.1, hc.2, ?_⟩
      rw [anyPD]
      exact q _ _ Go.refl hb _ (.bl _)
    · cases h
  · rename_i ds
    split at h
    · rename_i i ns e
      cases h
      cases ru
      cases rv with
      | tup h1 r1 =>
        rw [ints?_some e] at r1
        have e2 := r1.ints
        subst e2
        refine .inr ⟨_, _, rfl, .inr (SqT.of (hb.ex _ _ h1)), rfl, flat_ints _, ?_⟩
        rw [inV_ints]
        exact q _ _ Go.refl hb _ (.bl _)
    · cases h
  · cases h
theorem opd_nin {K : PySem.W.Frag} : OpD (fun x y H Q => rNotInD K x y H Q ∨ rIn K true x y H Q) fNin := by
  intro wa Hf H w x y u v z Q hb ru rv h q
  unfold fNin fInG at h
  split at h
  · split at h
    · rename_i ds hc
      rw [Bool.and_eq_true] at hc
      cases h
      refine .inl ⟨_, _, ru.dp hb (shaped_lay hc.1), rv.dp hb (shaped_lay hc.2), hc.1, hc.2, ?_⟩
      rw [anyPD]
      exact q _ _ Go.refl hb _ (.bl _)
    · cases h
  · rename_i ds
    split at h
    · rename_i i ns e
      cases h
      cases ru
      cases rv with
      | tup h1 r1 =>
        rw [ints?_some e] at r1
        have e2 := r1.ints
        subst e2
        refine .inr ⟨_, _, rfl, .inr (SqT.of (hb.ex _ _ h1)), rfl, flat_ints _, ?_⟩
        rw [inV_ints]
        exact q _ _ Go.refl hb _ (.bl _)
    · cases h
  · cases h
section
variable {X : Cx} {mg : Str → Option Value} {W : WX} {a b : Expr} {pos : Pos} {A B : DE}
theorem pd_in (hu : X.A.units + 65 < cLine) (ha : PE X a (lE mg W A)) (hb : PE X b (lE mg W B)) (hm : behindInMarks .In b = false := by first | rfl | exact nomark _) : PE X (.Compare a [.In] [b] pos) (lE mg W (eBin fIn A B)) := pd_cmp ((op_inD hu).or op_in_seq) opd_in ha hb hm
theorem pd_nin (hu : X.A.units + 65 < cLine) (ha : PE X a (lE mg W A)) (hb : PE X b (lE mg W B)) (hm : behindInMarks .NotIn b = false := by first | rfl | exact nomark _) : PE X (.Compare a [.NotIn] [b] pos) (lE mg W (eBin fNin A B)) := pd_cmp ((op_notInD hu).or op_notIn_seq) opd_nin ha hb hm
theorem qd_in (hu : X.A.units + 65 < cLine) (ha : PE X a (lE mg W A)) (hb : PE X b (lE mg W B)) (hm : behindInMarks .In b = false := by first | rfl | exact nomark _) : PT X (.Compare a [.In] [b] pos) (lT mg W (tE (eBin fIn A B))) := qd_cmp ((op_inD hu).or op_in_seq) opd_in ha hb hm
theorem qd_nin (hu : X.A.units + 65 < cLine) (ha : PE X a (lE mg W A)) (hb : PE X b (lE mg W B)) (hm : behindInMarks .NotIn b = false := by first | rfl | exact nomark _) : PT X (.Compare a [.NotIn] [b] pos) (lT mg W (tE (eBin fNin A B))) := qd_cmp ((op_notInD hu).or op_notIn_seq) opd_nin ha hb hm
end
/-! sorted, max, min -/
def sortI (ns : List Int) : List Int := ns.mergeSort fun a b => decide (a ≤ b)
theorem sortI_perm (ns : List Int) : (sortI ns).Perm ns := List.mergeSort_perm _ _
theorem sortI_le (ns : List Int) : (sortI ns).Pairwise (· ≤ ·) := by
  have := List.pairwise_mergeSort (le := fun a b : Int => decide (a ≤ b)) (fun a b c h1 h2 => by simp at *; omega) (fun a b => by simp; omega) ns
  exact this.imp fun h => of_decide_eq_true h
theorem sorted_unique : ∀ {xs ys : List Int}, xs.Perm ys → xs.Pairwise (· ≤ ·) → ys.Pairwise (· ≤ ·) → xs = ys := fun p h1 h2 => p.eq_of_pairwise (fun a b _ _ h3 h4 => Int.le_antisymm h3 h4) h1 h2
def fSorted : Wl → List D → Option (List D) := fun _ ds => match ds with
  | [.lst xs] => (ints? xs).map fun ns => (sortI ns).map .int
  | _ => none
theorem cl_sorted {K : PySem.W.Frag} : CaL (rSortedI K) fSorted := by
  intro wa Hf H w ds us zs Q hb rs h q
  unfold fSorted at h
  split at h
  · rename_i xs
    cases e : ints? xs with
    | none => rw [e] at h; cases h
    | some ns =>
      rw [e] at h
      cases h
      obtain ⟨a, vs, rfl, h1, r1⟩ := one_lst rs
      rw [ints?_some e] at r1
      have e2 := r1.ints
      subst e2
      refine ⟨a, ns, rfl, SqL.of (hb.ex _ _ h1), fun ns' p hp hs hn => ?_⟩
      have e3 : ns' = sortI ns := sorted_unique (hp.trans (sortI_perm ns).symm) hs (sortI_le ns)
      subst e3
      exact newL hb Reps.of_ints q p hn
  · cases h
def maxI : List Int → Option Int
  | [] => none
  | i :: r => some (r.foldl max i)
def minI : List Int → Option Int
  | [] => none
  | i :: r => some (r.foldl min i)
theorem foldl_max_le : ∀ (r : List Int) (i : Int), i ≤ r.foldl max i ∧ (∀ y ∈ r, y ≤ r.foldl max i) ∧ (r.foldl max i = i ∨ r.foldl max i ∈ r)
  | [], i => ⟨Int.le_refl _, by simp, .inl rfl⟩
  | j :: r, i => by
    obtain ⟨h1, h2, h3⟩ := foldl_max_le r (max i j)
    refine ⟨?_, ?_, ?_⟩
    · simp only [List.foldl_cons]; omega
    · intro y hy
      simp only [List.foldl_cons]
      rcases List.mem_cons.mp hy with rfl | hy
      · omega
      · exact h2 y hy
    · simp only [List.foldl_cons, List.mem_cons]
      rcases h3 with h3 | h3
      · omega
      · exact .inr (.inr h3)
theorem foldl_min_le : ∀ (r : List Int) (i : Int), r.foldl min i ≤ i ∧ (∀ y ∈ r, r.foldl min i ≤ y) ∧ (r.foldl min i = i ∨ r.foldl min i ∈ r)
  | [], i => ⟨Int.le_refl _, by simp, .inl rfl⟩
  | j :: r, i => by
    obtain ⟨h1, h2, h3⟩ := foldl_min_le r (min i j)
    refine ⟨?_, ?_, ?_⟩
    · simp only [List.foldl_cons]; omega
    · intro y hy
      simp only [List.foldl_cons]
      rcases List.mem_cons.mp hy with rfl | hy
      · omega
      · exact h2 y hy
    · simp only [List.foldl_cons, List.mem_cons]
      rcases h3 with h3 | h3
      · omega
      · exact .inr (.inr h3)
theorem maxI_of {ns : List Int} {m : Int} (h : maxI ns = some m) : m ∈ ns ∧ ∀ y ∈ ns, y ≤ m := by
  cases ns with
  | nil => cases h
  | cons i r =>
    cases h
    obtain ⟨h1, h2, h3⟩ := foldl_max_le r i
    refine ⟨?_, fun y hy => ?_⟩
    · rcases h3 with h3 | h3
      · rw [h3]; exact List.mem_cons_self
      · exact List.mem_cons_of_mem _ h3
    · rcases List.mem_cons.mp hy with rfl | hy
      · exact h1
      · exact h2 y hy
theorem minI_of {ns : List Int} {m : Int} (h : minI ns = some m) : m ∈ ns ∧ ∀ y ∈ ns, m ≤ y := by
  cases ns with
  | nil => cases h
  | cons i r =>
    cases h
    obtain ⟨h1, h2, h3⟩ := foldl_min_le r i
    refine ⟨?_, fun y hy => ?_⟩
    · rcases h3 with h3 | h3
      · rw [h3]; exact List.mem_cons_self
      · exact List.mem_cons_of_mem _ h3
    · rcases List.mem_cons.mp hy with rfl | hy
      · exact h1
      · exact h2 y hy
def fMaxL : Wl → List D → Option D := fun _ ds => match ds with
  | [.lst xs] => (ints? xs).bind fun ns => (maxI ns).map .int
  | _ => none
def fMinL : Wl → List D → Option D := fun _ ds => match ds with
  | [.lst xs] => (ints? xs).bind fun ns => (minI ns).map .int
  | _ => none
theorem cd_maxL {K : PySem.W.Frag} : CaD (rMax K) fMaxL := by
  intro wa Hf H w ds us z Q hb rs h q
  unfold fMaxL at h
  split at h
  · rename_i xs
    cases e : ints? xs with
    | none => rw [e] at h; cases h
    | some ns =>
      rw [e, Option.bind_some] at h
      cases e1 : maxI ns with
      | none => rw [e1] at h; cases h
      | some m =>
        rw [e1] at h
        cases h
        obtain ⟨a, vs, rfl, h1, r1⟩ := one_lst rs
        rw [ints?_some e] at r1
        have e2 := r1.ints
        subst e2
        obtain ⟨g1, g2⟩ := maxI_of e1
        refine ⟨a, ns, rfl, SqL.of (hb.ex _ _ h1), List.length_pos_of_mem g1, fun m' h3 h4 => ?_⟩
        have : m' = m := Int.le_antisymm (g2 m' h3) (h4 m g1)
        subst this
        exact q _ _ Go.refl hb _ (.int _)
  · cases h
theorem cd_minL {K : PySem.W.Frag} : CaD (rMin K) fMinL := by
  intro wa Hf H w ds us z Q hb rs h q
  unfold fMinL at h
  split at h
  · rename_i xs
    cases e : ints? xs with
    | none => rw [e] at h; cases h
    | some ns =>
      rw [e, Option.bind_some] at h
      cases e1 : minI ns with
      | none => rw [e1] at h; cases h
      | some m =>
        rw [e1] at h
        cases h
        obtain ⟨a, vs, rfl, h1, r1⟩ := one_lst rs
        rw [ints?_some e] at r1
        have e2 := r1.ints
        subst e2
        obtain ⟨g1, g2⟩ := minI_of e1
        refine ⟨a, ns, rfl, SqL.of (hb.ex _ _ h1), List.length_pos_of_mem g1, fun m' h3 h4 => ?_⟩
        have : m' = m := Int.le_antisymm (h4 m g1) (g2 m' h3)
        subst this
        exact q _ _ Go.refl hb _ (.int _)
  · cases h
/-! xs.index(y) -/
def idxD (ds : List D) (y : D) : Option D := if okD y && okD (.lst ds) then (ds.findIdx? fun d => eqD d y).map fun j => .int (j : Nat) else none
def eIdx (A B : DE) : DE := fun s w => (A s w).bind fun x w1 => match x with
  | .lst ds => (B s w1).bind fun y w2 => opt (idxD ds y) w2
  | _ => .no
section
variable {X : Cx} {mg : Str → Option Value} {W : WX} {o e : Expr} {apos cpos : Pos} {A B : DE}
theorem pd_index (hu : X.A.units + 65 < cLine) (ha : PE X o (lE mg W A)) (hb : PE X e (lE mg W B))
    (hbase : attributeBase o "index" X.env (eval o X.env) = eval o X.env := by rfl)
    (hfew : ((backTo cpos (starEach (e :: []) X.env)).all (fun x => !x.1) && (backToKw cpos (keywordEach [] X.env)).all (fun x => x.1.isSome)
      && decide ((e :: []).length + ([] : List Keyword).length + (if ([] : List Keyword).isEmpty then 0 else 1) < 30)) = true := by rfl)
    (hline : (apos.endLine == cpos.line) = true := by rfl) (hs : starEach (e :: []) X.env = (false, eval e X.env) :: starEach [] X.env := by rfl) (hplain : (backTo cpos (starEach [] X.env)).any (·.1) = false := by rfl) :
    PE X (.Call (.Attribute o "index" apos) [e] [] cpos) (lE mg W (eIdx A B)) := weakE (pe_bm PySem.F.plainAttrs_list PySem.F.slot_list_index PySem.F.type_list_index (mt_indexD hu) ha (pa_cons hb pa_nil hs) hbase hfew hline hs hplain) fun σ H Q h => by
  obtain ⟨wa, Hf, sD, w, hb, hs, h⟩ := h
  refine ⟨wa, Hf, sD, w, hb, hs, h.bind.mono (fun x w1 H1 Hf1 g1 b1 q v rv => ?_) (fun _ _ _ _ _ _ q => q)⟩
  have hx : ∃ xs, x = .lst xs := by
    cases x with
    | lst xs => exact ⟨xs, rfl⟩
    | _ => exact q.elim
  obtain ⟨ds, rfl⟩ := hx
  cases rv with
  | lst h1 r1 =>
    refine ⟨.inl ⟨rfl, _, SqL.of (b1.ex _ _ h1)⟩, wa, Hf1, sD, w1, b1, hs.go g1, q.bind.mono (fun y w2 H2 Hf2 g2 b2 q2 v2 rv2 => ?_) (fun _ _ _ _ _ _ q => q)⟩
    unfold idxD at q2
    split at q2
    · rename_i hc
      rw [Bool.and_eq_true] at hc
      cases e1 : ds.findIdx? (fun d => eqD d y) with
      | none => rw [e1] at q2; exact q2.elim
      | some j =>
        rw [e1] at q2
        obtain ⟨hj, h3, h4⟩ := List.findIdx?_eq_some_iff_getElem.mp e1
        have hl := (Rep.lst h1 r1).mono g2.ex
        refine ⟨_, v2, toPD y, toPDs ds, j, toPD ds[j], rfl, rfl, hl.dp b2 (shaped_lay hc.2), rv2.dp b2 (shaped_lay hc.1), hc.2, hc.1, ?_, h3, fun m z' hm hz => ?_, q2 H2 Hf2 Go.refl b2 _ (.int _)⟩
        · rw [toPDs_map, List.getElem?_map, List.getElem?_eq_getElem hj]; rfl
        · rw [toPDs_map, List.getElem?_map, List.getElem?_eq_getElem (by omega)] at hz
          cases hz
          have := h4 m hm
          exact (Bool.not_eq_true _).mp this
    · exact q2.elim
theorem pl_cb {es : List Expr} {a : Expr} {As : DA} {x : Str} {id : String} {r : List V → Hp → VK → Prop} {f : Wl → List D → Option (List D)} {p : Pos} {pos : Pos} (hc : CallR X (.builtin id) r) (hf : CaL r f) (hg : Gl X x) (hm : X.mg x = none) (hv : bootBuiltins x = some (.builtin id)) (ha : PA X (a :: es) (lA mg W As)) (hn : x ≠ "__name__" := by decide) (hdb : (x == ("__debug__" : Str)) = false := by decide)
    (he : starEach (a :: es) X.env = (false, eval a X.env) :: starEach es X.env := by rfl) (hpl : (backTo pos (starEach es X.env)).any (·.1) = false := by rfl) : PE X (.Call (.Name x p) (a :: es) [] pos) (lfL mg W (eCBL f As)) :=
  weakE (pe_callB hc hg hm hv ha hn hdb he hpl) fun _ _ _ q => cbL_ok hf q
end
/-! break, continue -/
section
variable {X : Cx} {mg : Str → Option Value} {W : WX} {pos : Pos}
def sBrk : DS := fun s w => .bk s w
def sCnt : DS := fun s w => .ct s w
theorem sd_brk : PS X (.Break pos) (lS mg W sBrk) := weakS ps_break fun D σ H h => by
  obtain ⟨wa, Hf, sD, w, H0, Hf0, g, b, hs, ho, h⟩ := h
  exact h σ H Hf g (Ex.refl _) b hs ho
theorem sd_cnt : PS X (.Continue pos) (lS mg W sCnt) := weakS ps_continue fun D σ H h => by
  obtain ⟨wa, Hf, sD, w, H0, Hf0, g, b, hs, ho, h⟩ := h
  exact h σ H Hf g (Ex.refl _) b hs ho
end
end DL

set_option maxHeartbeats 2000000
namespace DL
open PySem PySem.Spec PyProof.Rows L2
variable [OldT]
open Evl (Ex)
/-! ### list(range(..)) -/
def rgOk (a b : Int) : Prop := -4611686018427387904 ≤ a ∧ a < 4611686018427387904 ∧ -4611686018427387904 ≤ b ∧ b < 4611686018427387904 ∧ (b - a).toNat ≤ lim
instance (a b : Int) : Decidable (rgOk a b) := by unfold rgOk; infer_instance
theorem rgOk_of {a b : Int} (h : rgOk a b) : RgOk a b := by
  obtain ⟨h1, h2, h3, h4, h5⟩ := h
  have : lim = 16000000 := rfl
  exact ⟨by omega, by omega, by omega, by omega, by omega⟩
def aRg1 (A : DE) : DA := fun s w => (A s w).bind fun x w1 => match x with
  | .int j => if rgOk 0 j then .ok (upTo 0 (j - 0).toNat) w1 else .no
  | _ => .no
def aRg2 (A B : DE) : DA := fun s w => (A s w).bind fun x w1 => (B s w1).bind fun y w2 => match x, y with
  | .int i, .int j => if rgOk i j then .ok (upTo i (j - i).toNat) w2 else .no
  | _, _ => .no
section
variable {X : Cx} {mg : Str → Option Value} {W : WX} {a b : Expr} {p p2 pos pos2 : Pos} {A B : DE}
theorem rg_reps {wa : Addr} {Hf : Hp} {i j : Int} : Reps wa Hf (rgV i j) (upTo i (j - i).toNat) := by
  have e : ∀ l : List Nat, Reps wa Hf (l.map fun (k : Nat) => V.int (i + (k : Nat))) (l.map fun (k : Nat) => D.int (i + (k : Nat))) := by
    intro l
    induction l with
    | nil => exact .nil
    | cons k r ih => exact .cons (.int _) ih
  exact e _
theorem pl_rg1 (hc : X.calm = true) (hg : Gl X "list") (hm : X.mg "list" = none) (hg2 : Gl X "range") (hm2 : X.mg "range" = none) (ha : PE X a (lE mg W A))
    (na : starEach [a] X.env = (false, eval a X.env) :: starEach [] X.env := by rfl)
    (ne : starEach [Expr.Call (.Name "range" p2) [a] [] pos2] X.env = (false, eval (Expr.Call (.Name "range" p2) [a] [] pos2) X.env) :: starEach [] X.env := by rfl) :
    PE X (.Call (.Name "list" p) [.Call (.Name "range" p2) [a] [] pos2] [] pos) (lfL mg W (aRg1 A)) := weakE (pe_listRg hc hg hm (prg_1 hg2 hm2 ha na) ne) fun σ H Q h => by
  obtain ⟨wa, Hf, sD, w, hb, hs, h⟩ := h
  refine ⟨wa, Hf, sD, w, hb, hs, h.bind.mono (fun x w1 H1 Hf1 g1 b1 q v rv => ?_) (fun _ _ _ _ _ _ q => q)⟩
  split at q
  · split at q
    · rename_i hr
      cases rv
      refine ⟨_, rfl, rgOk_of hr, fun l hl => ?_⟩
      exact newL b1 rg_reps (fun H' Hf' l2 vs g b n e1 e2 e3 r => q H' Hf' g b l2 vs (g1.free n) e1 e2 e3 r) l hl
    · exact q.elim
  · exact q.elim
theorem pl_rg2 (hc : X.calm = true) (hg : Gl X "list") (hm : X.mg "list" = none) (hg2 : Gl X "range") (hm2 : X.mg "range" = none) (ha : PE X a (lE mg W A)) (hb : PE X b (lE mg W B))
    (na : starEach [a, b] X.env = (false, eval a X.env) :: starEach [b] X.env := by rfl) (nb : starEach [b] X.env = (false, eval b X.env) :: starEach [] X.env := by rfl) (hp : (backTo pos2 (starEach [b] X.env)).any (·.1) = false := by rfl)
    (ne : starEach [Expr.Call (.Name "range" p2) [a, b] [] pos2] X.env = (false, eval (Expr.Call (.Name "range" p2) [a, b] [] pos2) X.env) :: starEach [] X.env := by rfl) :
    PE X (.Call (.Name "list" p) [.Call (.Name "range" p2) [a, b] [] pos2] [] pos) (lfL mg W (aRg2 A B)) := weakE (pe_listRg hc hg hm (prg_2 hg2 hm2 ha hb na nb hp) ne) fun σ H Q h => by
  obtain ⟨wa, Hf, sD, w, hb, hs, h⟩ := h
  refine ⟨wa, Hf, sD, w, hb, hs, h.bind.mono (fun x w1 H1 Hf1 g1 b1 q v rv => ?_) (fun _ _ _ _ _ _ q => q)⟩
  refine ⟨wa, Hf1, sD, w1, b1, hs.go g1, q.bind.mono (fun y w2 H2 Hf2 g2 b2 q2 v2 rv2 => ?_) (fun _ _ _ _ _ _ q => q)⟩
  split at q2
  · split at q2
    · rename_i hr
      cases rv
      cases rv2
      refine ⟨_, _, rfl, rfl, rgOk_of hr, fun l hl => ?_⟩
      exact newL b2 rg_reps (fun H' Hf' l2 vs g b n e1 e2 e3 r => q2 H' Hf' g b l2 vs ((g1.trans g2).free n) e1 e2 e3 r) l hl
    · exact q2.elim
  · exact q2.elim
end
/-! ### a test that is `x if c else y` -/
section
variable {X : Cx} {mg : Str → Option Value} {W : WX} {a b c : Expr} {pos : Pos} {C S T : DT} {tC tA tB : TT}
theorem pt_ifx (hc : PT X c tC) (ha : PT X a tA) (hb : PT X b tB) : PT X (.IfExp c a b pos) (fun σ H Q => tC σ H fun k H1 => if k = true then tA σ H1 Q else tB σ H1 Q) := ⟨fun pins s σ H Q I h =>
  PyProof.Rows.isTrue_IfExp (thn (hc.run pins s σ H _ I h) fun d s1 ⟨H1, I1, q1⟩ => by
    cases d with
    | true => exact ha.run pins s1 σ H1 Q I1 q1
    | false => exact hb.run pins s1 σ H1 Q I1 q1)⟩
def tIfD (C S T : DT) : DT := fun s w => (C s w).bind fun k w1 => if k then S s w1 else T s w1
theorem qd_ifx (hc : PT X c (lT mg W C)) (ha : PT X a (lT mg W S)) (hb : PT X b (lT mg W T)) : PT X (.IfExp c a b pos) (lT mg W (tIfD C S T)) := weakT (pt_ifx hc ha hb) fun σ H Q h => by
  obtain ⟨wa, Hf, sD, w, hb, hs, h⟩ := h
  refine ⟨wa, Hf, sD, w, hb, hs, h.bind.mono (fun x w1 H1 Hf1 g1 b1 q v rv => ?_) (fun _ _ _ _ _ _ q => q)⟩
  cases rv
  cases x with
  | true => exact iteT ⟨wa, Hf1, sD, w1, b1, hs.go g1, q⟩
  | false => exact iteF ⟨wa, Hf1, sD, w1, b1, hs.go g1, q⟩
end
end DL

set_option maxHeartbeats 2000000
namespace DL
open PySem PySem.Spec PyProof.Rows L2
variable [OldT]
/-! ### what a piece of code comes to, as a plain proposition -/
section
variable {α β : Type} {a : α} {w : Wl} {Q P : α → Wl → Prop} {s : Sl} {A B C : DE} {As Bs : DA} {S T : DT} {f g : Wl → D → D → Option D} {U V : DS} {N N' : Sl → Wl → Prop} {Z Z' : D → Wl → Prop} {i n k : Nat}
def okE (r : R α) (Q : α → Wl → Prop) : Prop := match r with
  | .ok a w => Q a w
  | _ => False
def okO (o : Option α) (P : α → Prop) : Prop := match o with
  | some z => P z
  | none => False
def okB (d : D) (P : Bool → Prop) : Prop := match d with
  | .bl k => P k
  | _ => False
@[simp] theorem okE_ok : okE (.ok a w) Q = Q a w := rfl
@[simp] theorem okE_no : okE (.no) Q = False := rfl
@[simp] theorem okE_er {x : Exn} : okE (.er x w) Q = False := rfl
@[simp] theorem okO_some {P : α → Prop} : okO (some a) P = P a := rfl
@[simp] theorem okO_none {P : α → Prop} : okO none P = False := rfl
@[simp] theorem okB_bl {P : Bool → Prop} {k : Bool} : okB (.bl k) P = P k := rfl
theorem okE_bind {r : R α} {k : α → Wl → R β} {Q : β → Wl → Prop} : okE (r.bind k) Q = okE r (fun a w => okE (k a w) Q) := by cases r <;> rfl
@[simp] theorem okE_noer {r : R α} : okE r.noer Q = okE r Q := by cases r <;> rfl
@[simp] theorem okE_opt {o : Option α} : okE (opt o w) Q = okO o fun z => Q z w := by cases o <;> rfl
@[simp] theorem okE_ite {c : Prop} [Decidable c] {r r' : R α} : okE (if c then r else r') Q = if c then okE r Q else okE r' Q := by split <;> rfl
@[simp] theorem okO_ite {c : Prop} [Decidable c] {o : Option α} {P : α → Prop} : okO (if c then o else none) P = (c ∧ okO o P) := by
  by_cases h : c
  · simp [h]
  · simp [h]
theorem okE_mono {r : R α} (h : okE r P) (i : ∀ a w, P a w → Q a w) : okE r Q := by
  cases r with
  | ok a w => exact i _ _ h
  | er _ _ => exact h
  | no => exact h
theorem okE_eq {r : R α} (h : okE r fun d w' => d = a ∧ w' = w) : r = .ok a w := by
  cases r with
  | ok b v => obtain ⟨rfl, rfl⟩ := h; rfl
  | er _ _ => exact h.elim
  | no => exact h.elim
theorem okE_ex {r : R α} (h : okE r P) : ∃ a w, r = .ok a w ∧ P a w := by
  cases r with
  | ok b v => exact ⟨b, v, rfl, h⟩
  | er _ _ => exact h.elim
  | no => exact h.elim
variable {Q : D → Wl → Prop} {QA : List D → Wl → Prop} {QT : Bool → Wl → Prop}
@[simp] theorem okE_var : okE (eVar i s w) Q = okO (getS s i) fun d => Q d w := by unfold eVar; cases getS s i <;> rfl
@[simp] theorem okE_c {d : D} : okE (eC d s w) Q = Q d w := rfl
@[simp] theorem okE_bin : okE (eBin f A B s w) Q = okE (A s w) fun x w1 => okE (B s w1) fun y w2 => okO (f w2 x y) fun z => Q z w2 := by unfold eBin; simp only [okE_bind, okE_opt]
@[simp] theorem okE_un {f : Wl → D → Option D} : okE (eUn f A s w) Q = okE (A s w) fun x w1 => okO (f w1 x) fun z => Q z w1 := by unfold eUn; simp only [okE_bind, okE_opt]
@[simp] theorem okE_cb {f : Wl → List D → Option D} : okE (eCB f As s w) Q = okE (As s w) fun x w1 => okO (f w1 x) fun z => Q z w1 := by unfold eCB; simp only [okE_bind, okE_opt]
@[simp] theorem okE_cbl {f : Wl → List D → Option (List D)} : okE (eCBL f As s w) QA = okE (As s w) fun x w1 => okO (f w1 x) fun z => QA z w1 := by unfold eCBL; simp only [okE_bind, okE_opt]
@[simp] theorem okE_l : okE (eL As s w) Q = okE (As s w) fun x w1 => Q (.lst x) w1 := by unfold eL; simp only [okE_bind, okE_ok]
@[simp] theorem okE_nil : okE (aNil s w) QA = QA [] w := rfl
@[simp] theorem okE_cons : okE (aCons A As s w) QA = okE (A s w) fun x w1 => okE (As s w1) fun xs w2 => QA (x :: xs) w2 := by unfold aCons; simp only [okE_bind, okE_ok]
@[simp] theorem okE_tup : okE (eTup As s w) Q = okE (As s w) fun xs w1 => xs.length ≤ lim ∧ Q (.tup xs) w1 := by
  unfold eTup; simp only [okE_bind]; congr; funext xs w1; split <;> simp [*]
@[simp] theorem okE_lst : okE (aLst As s w) QA = okE (As s w) fun xs w1 => xs.length ≤ lim ∧ QA xs w1 := by
  unfold aLst; simp only [okE_bind]; congr; funext xs w1; split <;> simp [*]
@[simp] theorem okE_call {F : DF} : okE (eCall n F As s w) Q = okE (As s w) fun ds w1 => ds.length = n ∧ okE (F ds w1) Q := by
  unfold eCall; simp only [okE_bind]; congr; funext xs w1; split <;> simp [*]
@[simp] theorem okE_callK {F : DF} {m : Nat} {π : List Nat} : okE (eCallK m n k π F As Bs s w) Q = okE (As s w) fun ds w1 => okE (Bs s w1) fun zs w2 => (ds.length = n ∧ zs.length = k ∧ (permute π (ds ++ zs)).length = m) ∧ okE (F (permute π (ds ++ zs)) w2) Q := by
  unfold eCallK; simp only [okE_bind]; congr; funext xs w1; congr; funext ys w2; split <;> simp [*]
@[simp] theorem okE_if : okE (eIf T A B s w) Q = okE (T s w) fun k w1 => if k = true then okE (A s w1) Q else okE (B s w1) Q := by
  unfold eIf; simp only [okE_bind]; congr; funext k w1; cases k <;> rfl
@[simp] theorem okE_and : okE (eAnd A B s w) Q = okE (A s w) fun x w1 => okB x fun k => if k = true then okE (B s w1) Q else Q (.bl false) w1 := by
  unfold eAnd; simp only [okE_bind]; congr; funext x w1; cases x <;> try rfl
  rename_i b; cases b <;> rfl
@[simp] theorem okE_or : okE (eOr A B s w) Q = okE (A s w) fun x w1 => okB x fun k => if k = true then Q (.bl true) w1 else okE (B s w1) Q := by
  unfold eOr; simp only [okE_bind]; congr; funext x w1; cases x <;> try rfl
  rename_i b; cases b <;> rfl
@[simp] theorem okE_not : okE (eNot A s w) Q = okE (A s w) fun x w1 => okB x fun k => Q (.bl (!k)) w1 := by
  unfold eNot; simp only [okE_bind]; congr; funext x w1; cases x <;> rfl
@[simp] theorem okE_chain : okE (eChain f g A B C s w) Q = okE (A s w) fun x w1 => okE (B s w1) fun y w2 => okO (f w2 x y) fun z => okB z fun k => if k = true then okE (C s w2) fun u w4 => okO (g w4 y u) fun v => Q v w4 else Q (.bl false) w2 := by
  unfold eChain; simp only [okE_bind, okE_opt]; congr; funext x w1; congr; funext y w2; congr; funext z; cases z <;> try rfl
  rename_i b; cases b
  · rfl
  · simp only [okE_bind, okE_opt]; rfl
@[simp] theorem okT_e : okE (tE A s w) QT = okE (A s w) fun x w1 => okB x fun k => QT k w1 := by
  unfold tE; simp only [okE_bind]; congr; funext x w1; cases x <;> rfl
@[simp] theorem okT_an : okE (tAn S T s w) QT = okE (S s w) fun k w1 => if k = true then okE (T s w1) QT else QT false w1 := by
  unfold tAn; simp only [okE_bind]; congr; funext k w1; cases k <;> rfl
@[simp] theorem okT_on : okE (tOn S T s w) QT = okE (S s w) fun k w1 => if k = true then QT true w1 else okE (T s w1) QT := by
  unfold tOn; simp only [okE_bind]; congr; funext k w1; cases k <;> rfl
@[simp] theorem okT_no : okE (tNo S s w) QT = okE (S s w) fun k w1 => QT (!k) w1 := by unfold tNo; simp only [okE_bind, okE_ok]
@[simp] theorem okT_tr : okE (tTr A s w) QT = okE (A s w) fun x w1 => okO (truD x) fun k => QT k w1 := by unfold tTr; simp only [okE_bind, okE_opt]
@[simp] theorem okT_yes : okE (tYesD s w) QT = QT true w := rfl
@[simp] theorem okE_rev : okE (eRev A s w) Q = okE (A s w) fun x w1 => match x with
    | .lst xs => Q (.lst xs.reverse) w1
    | .tup xs => Q (.tup xs.reverse) w1
    | _ => False := by unfold eRev; simp only [okE_bind]; congr; funext x w1; cases x <;> rfl
@[simp] theorem okI_seq : okE (iSeq A s w) QA = okE (A s w) fun x w1 => okO (seqD x) fun p => QA p.2 w1 := by unfold iSeq; simp only [okE_bind]; congr; funext x w1; cases x <;> rfl
def rng1D : List D → Option (List D)
  | [.int j] => if -4611686018427387904 ≤ j ∧ j < 4611686018427387904 then some (upTo 0 j.toNat) else none
  | _ => none
def rng2D : List D → Option (List D)
  | [.int i, .int j] => if (-4611686018427387904 ≤ i ∧ i < 4611686018427387904) ∧ -4611686018427387904 ≤ j ∧ j < 4611686018427387904 then some (upTo i (j - i).toNat) else none
  | _ => none
def enm1D : List D → Option (List D)
  | [.lst ds] => some (enumD ds)
  | _ => none
def zip2D : List D → Option (List D)
  | [x, y] => (seqD x).bind fun p => (seqD y).bind fun q => some (zipD p.2 q.2)
  | [x, y, z] => (seqD x).bind fun p => (seqD y).bind fun q => (seqD z).bind fun r => some (zip3D p.2 q.2 r.2)
  | _ => none
@[simp] theorem okI_rng1 : okE (iRng1 As s w) QA = okE (As s w) fun xs w1 => okO (rng1D xs) fun ds => QA ds w1 := by
  unfold iRng1; simp only [okE_bind]; congr; funext xs w1
  rcases xs with _ | ⟨x, _ | ⟨y, xs⟩⟩ <;> try rfl
  · cases x <;> try rfl
    simp only [rng1D, okE_ite, okO_ite, okE_ok, okE_no, okO_some]
    split <;> simp [*]
  · cases x <;> rfl
@[simp] theorem okI_rng2 : okE (iRng2 As s w) QA = okE (As s w) fun xs w1 => okO (rng2D xs) fun ds => QA ds w1 := by
  unfold iRng2; simp only [okE_bind]; congr; funext xs w1
  rcases xs with _ | ⟨x, _ | ⟨y, _ | ⟨z, xs⟩⟩⟩ <;> try rfl
  · cases x <;> rfl
  · cases x <;> try rfl
    cases y <;> try rfl
    simp only [rng2D, okE_ite, okO_ite, okE_ok, okE_no, okO_some]
    split <;> simp [*]
  · cases x <;> try rfl
    cases y <;> rfl
@[simp] theorem okI_enum : okE (iEnum As s w) QA = okE (As s w) fun xs w1 => okO (enm1D xs) fun ds => QA ds w1 := by
  unfold iEnum; simp only [okE_bind]; congr; funext xs w1
  rcases xs with _ | ⟨x, _ | ⟨y, xs⟩⟩ <;> try rfl
  · cases x <;> rfl
  · cases x <;> rfl
@[simp] theorem okI_zip : okE (iZip As s w) QA = okE (As s w) fun xs w1 => okO (zip2D xs) fun ds => QA ds w1 := by
  unfold iZip; simp only [okE_bind]; congr; funext xs w1
  rcases xs with _ | ⟨x, _ | ⟨y, _ | ⟨z, _ | ⟨u, xs⟩⟩⟩⟩ <;> try rfl
  · show okE (match seqD x, seqD y with | some (_, ds), some (_, es) => R.ok (zipD ds es) w1 | _, _ => R.no) QA = okO ((seqD x).bind fun p => (seqD y).bind fun q => some (zipD p.2 q.2)) _
    cases seqD x <;> cases seqD y <;> rfl
  · show okE (match seqD x, seqD y, seqD z with | some (_, ds), some (_, es), some (_, fs) => R.ok (zip3D ds es fs) w1 | _, _, _ => R.no) QA = okO ((seqD x).bind fun p => (seqD y).bind fun q => (seqD z).bind fun r => some (zip3D p.2 q.2 r.2)) _
    cases seqD x <;> cases seqD y <;> cases seqD z <;> rfl
@[simp] theorem okE_lc {I : DI} {G : DG} {vs : List Nat} : okE (aLc I G T A vs s w) QA = okE (I s w) fun ds w1 => ds.length ≤ lim ∧ okE (lcD G T A ds (wipeS s vs) w1) QA := by
  unfold aLc; simp only [okE_bind]; congr; funext xs w1; split <;> simp [*]
/-! statements -/
def okS (r : RS) (N : Sl → Wl → Prop) (Z : D → Wl → Prop) : Prop := match r with
  | .nx s w => N s w
  | .rt d w => Z d w
  | _ => False
@[simp] theorem okS_nx : okS (.nx s w) N Z = N s w := rfl
@[simp] theorem okS_rt {d : D} : okS (.rt d w) N Z = Z d w := rfl
@[simp] theorem okS_no : okS .no N Z = False := rfl
@[simp] theorem okS_sNx : okS (sNx s w) N Z = N s w := rfl
@[simp] theorem okS_never : okS (sNever s w) N Z = False := rfl
@[simp] theorem okS_seq : okS (sSeq U V s w) N Z = okS (U s w) (fun s1 w1 => okS (V s1 w1) N Z) Z := by unfold sSeq; cases U s w <;> rfl
@[simp] theorem okS_asg : okS (sAsg i A s w) N Z = okE (A s w) fun d w1 => N (s.set i (some d)) w1 := by unfold sAsg; cases A s w <;> rfl
@[simp] theorem okS_new : okS (sNew i As s w) N Z = okE (As s w) fun d w1 => N (s.set i (some (.own d))) w1 := by unfold sNew; cases As s w <;> rfl
@[simp] theorem okS_tg {G : DG} : okS (sTg G A s w) N Z = okE (A s w) fun d w1 => okO (G d s) fun s1 => N s1 w1 := by
  unfold sTg
  cases A s w with
  | ok d w1 => simp only [okE_ok]; cases G d s <;> rfl
  | er _ _ => rfl
  | no => rfl
@[simp] theorem okS_drop : okS (sDrop A s w) N Z = okE (A s w) fun _ w1 => N s w1 := by unfold sDrop; cases A s w <;> rfl
@[simp] theorem okS_if : okS (sIf T U V s w) N Z = okE (T s w) fun k w1 => if k = true then okS (U s w1) N Z else okS (V s w1) N Z := by
  unfold sIf
  cases T s w with
  | ok k w1 => cases k <;> rfl
  | er _ _ => rfl
  | no => rfl
@[simp] theorem okS_ret : okS (sRet A s w) N Z = okE (A s w) Z := by unfold sRet; cases A s w <;> rfl
def okOwn (o : Option (Option D)) (P : List D → Prop) : Prop := match o with
  | some (some (.own xs)) => P xs
  | _ => False
@[simp] theorem okOwn_own {xs : List D} {P : List D → Prop} : okOwn (some (some (.own xs))) P = P xs := rfl
@[simp] theorem okS_app : okS (sApp i A s w) N Z = okOwn s[i]? fun xs => okE (A s w) fun d w1 => xs.length < lim ∧ N (s.set i (some (.own (xs ++ [d])))) w1 := by
  unfold sApp
  cases h : s[i]? with
  | none => rfl
  | some o =>
    cases o with
    | none => rfl
    | some d =>
      cases d <;> try rfl
      rename_i xs
      simp only [okOwn_own]
      cases A s w with
      | ok d w1 => simp only [okE_ok]; split <;> simp [*]
      | er _ _ => rfl
      | no => rfl
@[simp] theorem okS_frz : okS (sFrz i U s w) N Z = okS (U (frzS i s) w) N Z := rfl
@[simp] theorem okS_setW : okS (sSetW A B C s w) N Z = okE (C s w) fun d w1 => okE (A s w1) fun x w2 => okE (B s w2) fun k w3 => match d, x, k with
    | .int z, .well, .int k => okO (setW w3 k z) fun w4 => N s w4
    | _, _, _ => False := by
  unfold sSetW
  cases C s w with
  | er _ _ => rfl
  | no => rfl
  | ok d w1 =>
    simp only [R.bind_ok, okE_ok]
    cases A s w1 with
    | er _ _ => rfl
    | no => rfl
    | ok x w2 =>
      simp only [R.bind_ok, okE_ok]
      cases B s w2 with
      | er _ _ => rfl
      | no => rfl
      | ok k w3 =>
        simp only [R.bind_ok, okE_ok]
        cases d <;> try rfl
        cases x <;> try rfl
        cases k <;> try rfl
        rename_i z k
        cases h : setW w3 k z <;> simp [h] <;> rfl
@[simp] theorem okE_mval : okE (mVal A As s w) QA = okE (A s w) fun x w1 => okE (As s w1) fun xs w2 => QA (x :: xs) w2 := by unfold mVal; simp only [okE_bind, okE_ok]
@[simp] theorem okE_mown : okE (mOwn Bs As s w) QA = okE (Bs s w) fun x w1 => okE (As s w1) fun xs w2 => QA (.own x :: xs) w2 := by unfold mOwn; simp only [okE_bind, okE_ok]
@[simp] theorem okS_mul {is : List Nat} : okS (sMul is As s w) N Z = okE (As s w) fun ds w1 => okO (putS s is ds) fun s1 => N s1 w1 := by
  unfold sMul
  cases As s w with
  | ok d w1 => simp only [okE_ok]; cases putS s is d <;> rfl
  | er _ _ => rfl
  | no => rfl
@[simp] theorem okS_for {I : DI} {G : DG} : okS (sFor I G U s w) N Z = okE (I s w) fun ds w1 => okS (loopD G U ds s w1) N Z := by unfold sFor; cases I s w <;> rfl
theorem okS_mono {r : RS} (h : okS r N Z) (i : ∀ s w, N s w → N' s w) (j : ∀ d w, Z d w → Z' d w) : okS r N' Z' := by
  cases r with
  | nx s w => exact i _ _ h
  | rt d w => exact j _ _ h
  | _ => exact h
theorem okE_run {B : DS} {ds : List D} : okE (runB n k B ds w) Q = (ds.length = k ∧ okS (B (ds.map some ++ List.replicate (n - k) none) w) (fun _ w1 => Q .non w1) Q) := by
  unfold runB
  by_cases h : ds.length = k
  · rw [if_pos h]
    simp only [h, true_and]
    cases B (ds.map some ++ List.replicate (n - k) none) w <;> rfl
  · rw [if_neg h]
    simp [h]
/-- a comprehension, element by element -/
theorem lc_map {γ : Type} {G : DG} (g f : γ → D) (p : γ → Bool) {s : Sl} {w : Wl} : ∀ {xs : List γ}, (∀ x ∈ xs, okO (G (g x) s) fun s1 => T s1 w = .ok (p x) w ∧ (p x = true → A s1 w = .ok (f x) w)) → lcD G T A (xs.map g) s w = .ok ((xs.filter p).map f) w
  | [], _ => rfl
  | x :: xs, h => by
    have h1 := h x List.mem_cons_self
    have ih := lc_map g f p (xs := xs) fun y hy => h y (List.mem_cons_of_mem _ hy)
    rw [List.map_cons]
    unfold lcD
    cases e : G (g x) s with
    | none => rw [e] at h1; exact h1.elim
    | some s1 =>
      rw [e] at h1
      obtain ⟨h2, h3⟩ := h1
      simp only [h2, R.noer_ok, R.bind_ok]
      by_cases hp : p x = true
      · rw [if_pos hp, h3 hp, List.filter_cons_of_pos hp]
        simp [ih]
      · rw [if_neg hp, List.filter_cons_of_neg hp]
        exact ih
/-- .. no condition -/
theorem lc_all {γ : Type} {G : DG} (g f : γ → D) {s : Sl} {w : Wl} {xs : List γ} (h : ∀ x ∈ xs, okO (G (g x) s) fun s1 => okE (A s1 w) fun d w1 => d = f x ∧ w1 = w) : lcD G tYesD A (xs.map g) s w = .ok (xs.map f) w := by
  have := lc_map (T := tYesD) (A := A) (G := G) g f (fun _ => true) (s := s) (w := w) (xs := xs) fun x hx => by
    have h1 := h x hx
    cases e : G (g x) s with
    | none => rw [e] at h1; exact h1.elim
    | some s1 =>
      rw [e] at h1
      exact ⟨rfl, fun _ => okE_eq h1⟩
  rw [List.filter_eq_self.mpr (by simp)] at this
  exact this
theorem okE_lcall {γ : Type} {G : DG} (g f : γ → D) {s : Sl} {w : Wl} {xs : List γ} {Q : List D → Wl → Prop} (h : ∀ x ∈ xs, okO (G (g x) s) fun s1 => okE (A s1 w) fun d w1 => d = f x ∧ w1 = w) (q : Q (xs.map f) w) : okE (lcD G tYesD A (xs.map g) s w) Q := by
  rw [lc_all g f h]
  exact q
/-- a loop by its invariant -/
theorem okS_loop {G : DG} (I : Nat → Sl → Wl → Prop) : ∀ {ds : List D} {s : Sl} {w : Wl} (m : Nat), I m s w → (∀ i d s w, ds[i]? = some d → I (m + i) s w → okO (G d s) fun s1 => okS (U s1 w) (I (m + i + 1)) Z) → (∀ s w, I (m + ds.length) s w → N s w) → okS (loopD G U ds s w) N Z
  | [], s, w, m, h0, _, he => he s w h0
  | d :: ds, s, w, m, h0, hs, he => by
    have h1 := hs 0 d s w rfl h0
    unfold loopD
    cases e : G d s with
    | none => rw [e] at h1; exact h1.elim
    | some s1 =>
      rw [e] at h1
      simp only [okO_some] at h1
      dsimp only
      cases e2 : U s1 w with
      | nx s2 w2 =>
        rw [e2] at h1
        exact okS_loop I (m + 1) h1 (fun i d' s' w' hd hI => by
          have := hs (i + 1) d' s' w' (by simpa using hd) (by rw [show m + (i + 1) = m + 1 + i by omega]; exact hI)
          rw [show m + (i + 1) + 1 = m + 1 + i + 1 by omega] at this
          exact this) (fun s' w' hI => he s' w' (by rw [List.length_cons, show m + (ds.length + 1) = m + 1 + ds.length by omega]; exact hI))
      | rt d' w2 => rw [e2] at h1; exact h1
      | bk _ _ => rw [e2] at h1; exact h1.elim
      | ct _ _ => rw [e2] at h1; exact h1.elim
      | er _ _ _ => rw [e2] at h1; exact h1.elim
      | no => rw [e2] at h1; exact h1.elim
theorem okS_loop0 {G : DG} (I : Nat → Sl → Wl → Prop) {ds : List D} {s : Sl} {w : Wl} (h0 : I 0 s w) (hs : ∀ i d s w, ds[i]? = some d → I i s w → okO (G d s) fun s1 => okS (U s1 w) (I (i + 1)) Z) (he : ∀ s w, I ds.length s w → N s w) : okS (loopD G U ds s w) N Z :=
  okS_loop I 0 h0 (fun i d s w hd hI => by
    rw [Nat.zero_add] at hI ⊢
    exact hs i d s w hd hI) (fun s w hI => he s w (by rw [Nat.zero_add] at hI; exact hI))
end
end DL

set_option maxHeartbeats 2000000
namespace DL
open PySem PySem.Spec PyProof.Rows L2
variable [OldT]
/-! ### what the operations make of plain values -/
section
variable {w : Wl} {i j k n m : Nat} {a b : Int} {xs ys : List D} {s : Sl} {d x y : D} {P : D → Prop} {PA : List D → Prop} {PS : Sl → Prop}
@[simp] theorem v_add : fAdd w (.int a) (.int b) = some (.int (a + b)) := rfl
@[simp] theorem v_addT : okO (fAdd w (.tup xs) (.tup ys)) P = (xs.length + ys.length ≤ lim ∧ P (.tup (xs ++ ys))) := by unfold fAdd; simp
@[simp] theorem v_addL : okO (fAdd w (.lst xs) (.lst ys)) P = (xs.length + ys.length ≤ lim ∧ P (.lst (xs ++ ys))) := by unfold fAdd; simp
@[simp] theorem v_sub : fSub w (.int a) (.int b) = some (.int (a - b)) := rfl
@[simp] theorem v_mul : okO (fMul w (.int a) (.int b)) P = (mulOk a b ∧ P (.int (a * b))) := by unfold fMul; simp
@[simp] theorem v_div : okO (fDiv w (.int a) (.int b)) P = (divOk b ∧ P (.int (a.fdiv b))) := by unfold fDiv; simp
@[simp] theorem v_mod : okO (fMod w (.int a) (.int b)) P = (b ≠ 0 ∧ P (.int (a.fmod b))) := by unfold fMod; by_cases h : b = 0 <;> simp [h]
@[simp] theorem v_pow : okO (fPow w (.int a) (.int b)) P = ((0 ≤ b ∧ b ≤ 1000000 ∧ a.natAbs < 18446744073709551616) ∧ P (.int (a ^ b.toNat))) := by unfold fPow; simp
@[simp] theorem v_neg : fNeg w (.int a) = some (.int (-a)) := rfl
@[simp] theorem v_cmp {p : Int → Int → Bool} : fCmp p w (.int a) (.int b) = some (.bl (p a b)) := rfl
@[simp] theorem v_eq : okO (fEq w x y) P = ((okD x && okD y) = true ∧ P (.bl (eqD x y))) := by unfold fEq; simp
@[simp] theorem v_ne : okO (fNe w x y) P = ((okD x && okD y) = true ∧ P (.bl (!eqD x y))) := by unfold fNe; simp
@[simp] theorem v_lenL : fLen w [.lst xs] = some (.int xs.length) := rfl
@[simp] theorem v_lenT : fLen w [.tup xs] = some (.int xs.length) := rfl
@[simp] theorem v_max : fMax2 w [.int a, .int b] = some (.int (if b > a then b else a)) := rfl
@[simp] theorem v_min : fMin2 w [.int a, .int b] = some (.int (if b < a then b else a)) := rfl
@[simp] theorem v_abs : fAbs w [.int a] = some (.int (if a < 0 then -a else a)) := rfl
@[simp] theorem v_int : fInt w [.int a] = some (.int a) := rfl
@[simp] theorem v_intB {c : Bool} : fInt w [.bl c] = some (.int (if c then 1 else 0)) := rfl
@[simp] theorem v_sum {α : Type} {f : α → Int} {l : List α} : fSum w [.lst (l.map fun x => .int (f x))] = some (.int (l.map f).sum) := by
  have : l.map (fun x => D.int (f x)) = (l.map f).map D.int := by simp
  show ((ints? (l.map fun x => D.int (f x))).map fun ns => D.int ns.sum) = _
  rw [this, ints?_map]
  rfl
@[simp] theorem v_all {α : Type} {f : α → Bool} {l : List α} : fAll w [.lst (l.map fun x => .bl (f x))] = some (.bl (l.all f)) := by
  have : l.map (fun x => D.bl (f x)) = (l.map f).map D.bl := by simp
  show ((bls? (l.map fun x => D.bl (f x))).map fun ns => D.bl (ns.all id)) = _
  rw [this, bls?_map]
  simp
@[simp] theorem v_any {α : Type} {f : α → Bool} {l : List α} : fAny w [.lst (l.map fun x => .bl (f x))] = some (.bl (l.any f)) := by
  have : l.map (fun x => D.bl (f x)) = (l.map f).map D.bl := by simp
  show ((bls? (l.map fun x => D.bl (f x))).map fun ns => D.bl (ns.any id)) = _
  rw [this, bls?_map]
  simp
@[simp] theorem v_tupL : fTuple w [.lst xs] = some (.tup xs) := rfl
@[simp] theorem v_tupT : fTuple w [.tup xs] = some (.tup xs) := rfl
@[simp] theorem v_lstL : fList w [.lst xs] = some xs := rfl
@[simp] theorem v_lstT : fList w [.tup xs] = some xs := rfl
@[simp] theorem v_isi1 : fIsi w [.int a, .ty "int"] = some (.bl true) := rfl
@[simp] theorem v_isi2 : fIsi w [.int a, .ty "bool"] = some (.bl false) := rfl
@[simp] theorem v_isi3 : fIsi w [.int a, .ty "tuple"] = some (.bl false) := rfl
@[simp] theorem v_isi4 : fIsi w [.int a, .ty "list"] = some (.bl false) := rfl
@[simp] theorem v_isi5 : fIsi w [.tup xs, .ty "int"] = some (.bl false) := rfl
@[simp] theorem v_isi6 : fIsi w [.tup xs, .ty "tuple"] = some (.bl true) := rfl
@[simp] theorem v_isi7 : fIsi w [.tup xs, .ty "list"] = some (.bl false) := rfl
@[simp] theorem v_isi8 : fIsi w [.lst xs, .ty "int"] = some (.bl false) := rfl
@[simp] theorem v_isi9 : fIsi w [.lst xs, .ty "tuple"] = some (.bl false) := rfl
@[simp] theorem v_isi10 : fIsi w [.lst xs, .ty "list"] = some (.bl true) := rfl
@[simp] theorem v_truB {c : Bool} : truD (.bl c) = some c := rfl
@[simp] theorem v_truI : truD (.int a) = some (a != 0) := rfl
@[simp] theorem v_truL : truD (.lst xs) = some (!xs.isEmpty) := rfl
@[simp] theorem v_truT : truD (.tup xs) = some (!xs.isEmpty) := rfl
@[simp] theorem v_gN : gN i d s = some (s.set i (some d)) := rfl
@[simp] theorem v_gNil : gNil' [] s = some s := rfl
@[simp] theorem v_gCons {G : DG} {Gs : List D → Sl → Option Sl} : okO (gCons' G Gs (d :: xs) s) PS = okO (G d s) fun s1 => okO (Gs xs s1) PS := by
  show okO ((G d s).bind fun s1 => Gs xs s1) PS = _
  cases G d s <;> rfl
@[simp] theorem v_gT {Gs : List D → Sl → Option Sl} : okO (gT Gs n (.tup xs) s) PS = (xs.length = n ∧ okO (Gs xs s) PS) := by
  show okO (if xs.length = n then Gs xs s else none) PS = _
  simp
@[simp] theorem v_ixL : fIx w (.lst xs) (.int a) = atI xs a := rfl
@[simp] theorem v_ixT : fIx w (.tup xs) (.int a) = atI xs a := rfl
@[simp] theorem v_ix0 : fIx w .well (.int 0) = some (.int w.1) := rfl
@[simp] theorem v_ix1 : fIx w .well (.int 1) = some (.int w.2.1) := rfl
@[simp] theorem v_ix2 : fIx w .well (.int 2) = some (.int w.2.2) := rfl
@[simp] theorem v_set0 : setW w 0 a = some (a, w.2.1, w.2.2) := rfl
@[simp] theorem v_set1 : setW w 1 a = some (w.1, a, w.2.2) := rfl
@[simp] theorem v_set2 : setW w 2 a = some (w.1, w.2.1, a) := rfl
theorem getS_eq : getS s i = match s[i]? with
  | some (some (.own _)) => none
  | some (some d) => some d
  | _ => none := rfl
@[simp] theorem getS_succ {o : Option D} : getS (o :: s) (i + 1) = getS s i := rfl
@[simp] theorem getS_int : getS (some (.int a) :: s) 0 = some (.int a) := rfl
@[simp] theorem getS_bl {c : Bool} : getS (some (.bl c) :: s) 0 = some (.bl c) := rfl
@[simp] theorem getS_str {c : Str} : getS (some (.str c) :: s) 0 = some (.str c) := rfl
@[simp] theorem getS_non : getS (some .non :: s) 0 = some .non := rfl
@[simp] theorem getS_lst : getS (some (.lst xs) :: s) 0 = some (.lst xs) := rfl
@[simp] theorem getS_tup : getS (some (.tup xs) :: s) 0 = some (.tup xs) := rfl
@[simp] theorem getS_well : getS (some .well :: s) 0 = some .well := rfl
@[simp] theorem wipeS_nil : wipeS s [] = s := rfl
@[simp] theorem wipeS_cons {vs : List Nat} : wipeS s (i :: vs) = (wipeS s vs).set i none := rfl
@[simp] theorem frzS_zero : frzS 0 (some (.own xs) :: s) = some (.lst xs) :: s := rfl
@[simp] theorem frzS_lst : frzS 0 (some (.lst xs) :: s) = some (.lst xs) :: s := rfl
@[simp] theorem frzS_tup : frzS 0 (some (.tup xs) :: s) = some (.tup xs) :: s := rfl
@[simp] theorem frzS_succ {o : Option D} : frzS (i + 1) (o :: s) = o :: frzS i s := by
  unfold frzS
  rw [List.getElem?_cons_succ]
  cases s[i]? with
  | none => rfl
  | some q =>
    cases q with
    | none => rfl
    | some d => cases d <;> rfl
@[simp] theorem seqD_lst : seqD (.lst xs) = some (false, xs) := rfl
@[simp] theorem seqD_tup : seqD (.tup xs) = some (true, xs) := rfl
@[simp] theorem putS_nil : putS s [] [] = some s := rfl
@[simp] theorem putS_cons {is : List Nat} : putS s (i :: is) (d :: xs) = putS (s.set i (some d)) is xs := rfl
@[simp] theorem rng1_int : okO (rng1D [.int a]) PA = ((-4611686018427387904 ≤ a ∧ a < 4611686018427387904) ∧ PA (upTo 0 a.toNat)) := by unfold rng1D; simp
@[simp] theorem rng2_int : okO (rng2D [.int a, .int b]) PA = (((-4611686018427387904 ≤ a ∧ a < 4611686018427387904) ∧ -4611686018427387904 ≤ b ∧ b < 4611686018427387904) ∧ PA (upTo a (b - a).toNat)) := by unfold rng2D; simp
@[simp] theorem enm1_lst : enm1D [.lst xs] = some (enumD xs) := rfl
theorem zip2_two {p q : Bool} (h1 : seqD x = some (p, xs)) (h2 : seqD y = some (q, ys)) : zip2D [x, y] = some (zipD xs ys) := by simp [zip2D, h1, h2]
@[simp] theorem zip2_tt : zip2D [.tup xs, .tup ys] = some (zipD xs ys) := rfl
@[simp] theorem zip2_tl : zip2D [.tup xs, .lst ys] = some (zipD xs ys) := rfl
@[simp] theorem zip2_lt : zip2D [.lst xs, .tup ys] = some (zipD xs ys) := rfl
@[simp] theorem zip2_ll : zip2D [.lst xs, .lst ys] = some (zipD xs ys) := rfl
@[simp] theorem zip3_ttl {zs : List D} : zip2D [.tup xs, .tup ys, .lst zs] = some (zip3D xs ys zs) := rfl
theorem mulOk_of {a b : Int} {i j : Nat} (ha : a.natAbs < 2 ^ i) (hb : b.natAbs < 2 ^ j) (hi : 0 < i) (hj : 0 < j) (h : i + j ≤ 1000000) : mulOk a b := by
  have x := PySem.Flt.log2_lt_of hi ha
  have y := PySem.Flt.log2_lt_of hj hb
  unfold mulOk
  omega
theorem divOk_of {b : Int} (h0 : b ≠ 0) (hb : b.natAbs < 2 ^ 9000) : divOk b := ⟨h0, PySem.Flt.log2_lt_of (by decide) hb⟩
/-- two lists by one of pairs -/
theorem zipD_map {α : Type} {f g : α → D} {l : List α} : zipD (l.map f) (l.map g) = l.map fun x => .tup [f x, g x] := by
  unfold zipD
  rw [List.zip_map', List.map_map]
  rfl
theorem zipD_maps {α β : Type} {f : α → D} {g : β → D} {l : List α} {m : List β} : zipD (l.map f) (m.map g) = (l.zip m).map fun x => .tup [f x.1, g x.2] := by
  unfold zipD
  rw [List.zip_map, List.map_map]
  rfl
theorem zip3D_maps {α β γ : Type} {f : α → D} {g : β → D} {h : γ → D} {l : List α} {m : List β} {n : List γ} : zip3D (l.map f) (m.map g) (n.map h) = (l.zip (m.zip n)).map fun x => .tup [f x.1, g x.2.1, h x.2.2] := by
  unfold zip3D
  rw [List.zip_map, List.zip_map, List.map_map]
  rfl
theorem zip3D_map {α : Type} {f g h : α → D} {l : List α} : zip3D (l.map f) (l.map g) (l.map h) = l.map fun x => .tup [f x, g x, h x] := by
  unfold zip3D
  rw [List.zip_map', List.zip_map', List.map_map]
  rfl
end
end DL

set_option maxHeartbeats 2000000
namespace DL
open PySem PySem.Spec PyProof.Rows L2
variable [OldT]
/-! ### in, index, sorted, divmod, while by value -/
section
variable {w : Wl} {i j k n m : Nat} {a b : Int} {xs ys : List D} {s : Sl} {d x y : D} {P : D → Prop} {A B C : DE} {Q : D → Wl → Prop} {U V : DS} {N : Sl → Wl → Prop} {Z : D → Wl → Prop} {T : DT}
@[simp] theorem v_divmod : okO (fDivmod w [.int a, .int b]) P = (divOk b ∧ P (.tup [.int (a.fdiv b), .int (a.fmod b)])) := by
  show okO (if divOk b then some _ else none) P = _
  simp
@[simp] theorem v_inL : okO (fInG false w x (.lst xs)) P = ((okD x && okD (.lst xs)) = true ∧ P (.bl (xs.any fun d => eqD d x))) := by
  show okO (if _ then some _ else none) P = _
  simp
@[simp] theorem v_ninL : okO (fInG true w x (.lst xs)) P = ((okD x && okD (.lst xs)) = true ∧ P (.bl (!xs.any fun d => eqD d x))) := by
  show okO (if _ then some _ else none) P = _
  simp
theorem v_inT {ns : List Int} : fInG false w (.int a) (.tup (ns.map .int)) = some (.bl (hasI a ns)) := by
  unfold fInG
  simp
theorem v_ninT {ns : List Int} : fInG true w (.int a) (.tup (ns.map .int)) = some (.bl (!hasI a ns)) := by
  unfold fInG
  simp
@[simp] theorem okE_idx : okE (eIdx A B s w) Q = okE (A s w) fun x w1 => match x with
    | .lst ds => okE (B s w1) fun y w2 => okO (idxD ds y) fun z => Q z w2
    | _ => False := by
  unfold eIdx
  simp only [okE_bind]
  congr
  funext x w1
  cases x <;> try rfl
  simp only [okE_bind, okE_opt]
@[simp] theorem v_sorted {ns : List Int} : fSorted w [.lst (ns.map .int)] = some ((sortI ns).map .int) := by
  unfold fSorted
  simp
@[simp] theorem v_maxL {ns : List Int} : fMaxL w [.lst (ns.map .int)] = (maxI ns).map .int := by
  unfold fMaxL
  simp
@[simp] theorem v_minL {ns : List Int} : fMinL w [.lst (ns.map .int)] = (minI ns).map .int := by
  unfold fMinL
  simp
/-- a while loop: I k: at most k turns are left -/
theorem okS_while (I : Nat → Sl → Wl → Prop) : ∀ (n k : Nat) {s : Sl} {w : Wl}, k < n → I k s w → (∀ k s w, I k s w → okE (T s w) fun c w1 => if c = true then ∃ j, k = j + 1 ∧ okS (U s w1) (I j) Z else N s w1) → okS (whileD T U n s w) N Z
  | 0, k, s, w, hk, _, _ => by omega
  | n + 1, k, s, w, hk, h, hs => by
    have h1 := hs k s w h
    unfold whileD
    cases e : T s w with
    | no => rw [e] at h1; exact h1
    | er x w1 => rw [e] at h1; exact h1
    | ok c w1 =>
      rw [e] at h1
      simp only [okE_ok] at h1
      cases c with
      | false => exact h1
      | true =>
        rw [if_pos rfl] at h1
        obtain ⟨j, rfl, h2⟩ := h1
        dsimp only
        cases e2 : U s w1 with
        | nx s2 w2 => rw [e2] at h2; exact okS_while I n j (by omega) h2 hs
        | rt d w2 => rw [e2] at h2; exact h2
        | bk _ _ => rw [e2] at h2; exact h2.elim
        | ct _ _ => rw [e2] at h2; exact h2.elim
        | er _ _ _ => rw [e2] at h2; exact h2.elim
        | no => rw [e2] at h2; exact h2.elim
end
@[simp] theorem atI_0 {α : Type} {x : α} {r : List α} : atI (x :: r) 0 = some x := atI_nat (j := 0) rfl
@[simp] theorem atI_1 {α : Type} {x y : α} {r : List α} : atI (x :: y :: r) 1 = some y := atI_nat (j := 1) rfl
@[simp] theorem atI_2 {α : Type} {x y z : α} {r : List α} : atI (x :: y :: z :: r) 2 = some z := atI_nat (j := 2) rfl
/-! ### equality of plain values -/
@[simp] theorem okD_int {a : Int} : okD (.int a) = true := rfl
@[simp] theorem okD_non : okD .non = true := rfl
@[simp] theorem eqD_int {a b : Int} : eqD (.int a) (.int b) = decide (a = b) := by
  show (PyData.eqv (.int a) (.int b)) = _
  unfold PyData.eqv
  rfl
@[simp] theorem eqD_non : eqD .non .non = true := by
  show (PyData.eqv .none .none) = _
  unfold PyData.eqv
  rfl
@[simp] theorem eqD_ni {a : Int} : eqD .non (.int a) = false := by
  show (PyData.eqv .none (.int a)) = _
  unfold PyData.eqv
  rfl
@[simp] theorem eqD_in {a : Int} : eqD (.int a) .non = false := by
  show (PyData.eqv (.int a) .none) = _
  unfold PyData.eqv
  rfl
/-- tuples of ints -/
def eD (xs : List Int) : D := .tup (xs.map .int)
theorem toPDs_ints : ∀ xs : List Int, toPDs (xs.map D.int) = xs.map PyData.int
  | [] => by simp [toPDs]
  | x :: xs => by simp [toPDs, toPD, toPDs_ints xs]
theorem lay_ints : ∀ xs : List Int, PyData.canLayAll0 (xs.map PyData.int) = true ∧ PyData.depthAll (xs.map PyData.int) = 0
  | [] => by simp [PyData.canLayAll0, PyData.depthAll]
  | x :: xs => by
    have := lay_ints xs
    simp [PyData.canLayAll0, PyData.depthAll, PyData.canLay0, PyData.depth, this]
@[simp] theorem okD_ints {xs : List Int} : okD (eD xs) = true := by
  have := lay_ints xs
  simp [okD, eD, toPD, toPDs_ints, SeqAt.shaped, PyData.canLay0, PyData.depth, this]
@[simp] theorem okD_lints {xs : List Int} : okD (.lst (xs.map .int)) = true := by
  have := lay_ints xs
  simp [okD, toPD, toPDs_ints, SeqAt.shaped, PyData.canLay0, PyData.depth, this]
theorem eqvAll_ints : ∀ xs ys : List Int, PyData.eqvAll (xs.map PyData.int) (ys.map PyData.int) = decide (xs = ys)
  | [], [] => by simp [PyData.eqvAll]
  | [], y :: ys => by simp [PyData.eqvAll]
  | x :: xs, [] => by simp [PyData.eqvAll]
  | x :: xs, y :: ys => by
    have := eqvAll_ints xs ys
    have e : PyData.eqv (.int x) (.int y) = decide (x = y) := by unfold PyData.eqv; rfl
    simp [PyData.eqvAll, e, this]
@[simp] theorem eqD_ints {xs ys : List Int} : eqD (eD xs) (eD ys) = decide (xs = ys) := by
  show PyData.eqv (toPD (eD xs)) (toPD (eD ys)) = _
  simp only [eD, toPD, toPDs_ints]
  rw [show PyData.eqv (.tuple (xs.map PyData.int)) (.tuple (ys.map PyData.int)) = PyData.eqvAll (xs.map PyData.int) (ys.map PyData.int) by unfold PyData.eqv; rfl]
  exact eqvAll_ints xs ys
@[simp] theorem eqD_lints {xs ys : List Int} : eqD (.lst (xs.map .int)) (.lst (ys.map .int)) = decide (xs = ys) := by
  show PyData.eqv (toPD (.lst (xs.map .int))) (toPD (.lst (ys.map .int))) = _
  simp only [toPD, toPDs_ints]
  rw [show PyData.eqv (.list (xs.map PyData.int)) (.list (ys.map PyData.int)) = PyData.eqvAll (xs.map PyData.int) (ys.map PyData.int) by unfold PyData.eqv; rfl]
  exact eqvAll_ints xs ys
theorem any_ints {a : Int} {xs : List Int} : ((xs.map D.int).any fun d => eqD d (.int a)) = hasI a xs := by
  rw [List.any_map]
  unfold hasI
  congr 1
theorem hasI_iff {a : Int} {xs : List Int} : hasI a xs = true ↔ a ∈ xs := by
  unfold hasI
  simp
theorem idx_ints {a : Int} {xs : List Int} : idxD (xs.map .int) (.int a) = (xs.findIdx? fun b => decide (b = a)).map fun j => .int (j : Nat) := by
  unfold idxD
  simp only [okD_int, okD_lints, Bool.and_self, if_true, List.findIdx?_map]
  congr 2
/-! ### sizes of numbers -/
theorem nat_lt_pow {a : Int} {k : Nat} (h0 : 0 ≤ a) (h : a ≤ 2 ^ k) : a.natAbs < 2 ^ (k + 1) := by
  have e : (a.natAbs : Int) = a := Int.natAbs_of_nonneg h0
  have : (a.natAbs : Int) ≤ ((2 ^ k : Nat) : Int) := by rw [e]; simpa using h
  have h2 : a.natAbs ≤ 2 ^ k := by exact_mod_cast this
  have h3 : 2 ^ k < 2 ^ (k + 1) := Nat.pow_lt_pow_right (by decide) (by omega)
  omega
/-- below two to the k, either way -/
def Bt (k : Nat) (a : Int) : Prop := a.natAbs < 2 ^ k
theorem Bt.mono {i j : Nat} {a : Int} (h : Bt i a) (hij : i ≤ j) : Bt j a := Nat.lt_of_lt_of_le h (Nat.pow_le_pow_right (by decide) hij)
theorem bt_mul {i j : Nat} {a b : Int} (ha : Bt i a) (hb : Bt j b) : Bt (i + j) (a * b) := by
  unfold Bt at *
  rw [Int.natAbs_mul, Nat.pow_add]
  exact Nat.mul_lt_mul'' ha hb
theorem bt_add {i : Nat} {a b : Int} (ha : Bt i a) (hb : Bt i b) : Bt (i + 1) (a + b) := by
  unfold Bt at *
  rw [Nat.pow_succ]
  omega
theorem bt_neg {i : Nat} {a : Int} (ha : Bt i a) : Bt i (-a) := by
  unfold Bt at *
  omega
theorem bt_sub {i : Nat} {a b : Int} (ha : Bt i a) (hb : Bt i b) : Bt (i + 1) (a - b) := by
  unfold Bt at *
  rw [Nat.pow_succ]
  omega
theorem bt_of {i : Nat} {a : Int} (h1 : -(2 ^ i : Int) < a) (h2 : a < 2 ^ i) : Bt i a := by
  unfold Bt
  have : ((2 ^ i : Nat) : Int) = (2 : Int) ^ i := by simp
  omega
theorem bt_iff {i : Nat} {a : Int} : Bt i a ↔ -(2 ^ i : Int) < a ∧ a < 2 ^ i := by
  unfold Bt
  have : ((2 ^ i : Nat) : Int) = (2 : Int) ^ i := by simp
  omega
theorem mul_bt {i j : Nat} {a b : Int} (ha : Bt i a) (hb : Bt j b) (h : i + j ≤ 900000) : mulOk a b :=
  mulOk_of (i := i + 1) (j := j + 1) (Bt.mono ha (by omega)) (Bt.mono hb (by omega)) (by omega) (by omega) (by omega)
theorem div_bt {i : Nat} {b : Int} (h0 : b ≠ 0) (hb : Bt i b) (h : i ≤ 9000) : divOk b := divOk_of h0 (Bt.mono hb h)
theorem fmod_range {a n : Int} (h : 0 < n) : 0 ≤ a.fmod n ∧ a.fmod n < n := by
  rw [Int.fmod_eq_emod_of_nonneg _ (by omega)]
  exact ⟨Int.emod_nonneg _ (by omega), Int.emod_lt_of_pos _ h⟩
theorem fdiv_range {a n : Int} (h : 0 < n) (h0 : 0 ≤ a) : 0 ≤ a.fdiv n ∧ a.fdiv n ≤ a := by
  rw [Int.fdiv_eq_ediv_of_nonneg _ (by omega)]
  exact ⟨Int.ediv_nonneg h0 (by omega), Int.ediv_le_self _ h0⟩
theorem atI_of {α : Type} {l : List α} {k : Int} (h0 : 0 ≤ k) (h1 : k < l.length) : ∃ x, atI l k = some x ∧ x ∈ l := by
  obtain ⟨j, rfl⟩ := Int.eq_ofNat_of_zero_le h0
  have hj : j < l.length := by omega
  exact ⟨l[j], atI_nat (by simp [hj]), by simp⟩
theorem lim7 {n : Nat} (h : n ≤ 1000000) : n ≤ lim := Nat.le_trans h (by decide)
end DL

set_option maxHeartbeats 2000000
namespace DL
open PySem PySem.Spec PyProof.Rows L2
open Evl (Ex)
/-! ### new lists within what a def tells: they may be changed, then the value is forgotten -/
section
variable [OldT]
variable {X : Cx} {mg : Str → Option Value} {W : WX} {e : Expr} {A : DA} {σ : L2.St} {H : Hp}
/-- a new list, known as such -/
def eNL (A : DA) : DE := fun s w => (A s w).bind fun ds w1 => .ok (.nl ds) w1
theorem eNL_ok {Q : VK} (h : lE mg W (eNL A) σ H Q) : lfL mg W A σ H Q := by
  obtain ⟨wa, Hf, sD, w, hb, hs, h⟩ := h
  refine ⟨wa, Hf, sD, w, hb, hs, ?_⟩
  unfold eNL at h
  cases ea : A sD w with
  | ok ds w1 =>
    rw [ea] at h
    intro H1 Hf1 g1 b1 p vs n e1 e2 e3 rv
    have ex : Ex Hf1 (upd Hf1 p (.lst vs)) := Ex.new e2
    have g2 : Go wa H Hf H1 (upd Hf1 p (.lst vs)) := ⟨g1.keep, g1.ex.trans ex, fun a o h => by rw [upd_ne (ne_of_none h n)]; exact g1.new a o h, g1.there⟩
    have b2 : Base wa (upd Hf1 p (.lst vs)) H1 w1 := ⟨fun a u h => by
      by_cases hp : a = p
      · subst hp; rw [upd_same] at h; rw [← h]; exact e1
      · rw [upd_ne hp] at h; exact b1.ex a u h, b1.well, by rw [upd_ne (Ne.symm e3)]; exact b1.nw, b1.od.trans ex⟩
    have po : OldT.old p = none := Evl.fresh_back b1.od e2
    exact h H1 _ g2 b2 (.ref p) (.nl upd_same po (rv.mono ex))
  | er x w1 => rw [ea] at h; exact h
  | no => rw [ea] at h; exact h
theorem pd_NL (h : PE X e (lfL mg W A)) : PE X e (lE mg W (eNL A)) := weakE h fun _ _ _ q => eNL_ok q
end
@[simp] theorem okE_nl {A : DA} {s : Sl} {w : Wl} {Q : D → Wl → Prop} : okE (eNL A s w) Q = okE (A s w) fun x w1 => Q (.nl x) w1 := by unfold eNL; cases A s w <;> rfl
@[simp] theorem v_isiNl {w : Wl} {xs : List D} : fIsi w [.nl xs, .ty "list"] = some (.bl true) := rfl
mutual
def nlFree : D → Bool
  | .nl _ => false
  | .own _ => false
  | .lst ds => nlFrees ds
  | .tup ds => nlFrees ds
  | _ => true
def nlFrees : List D → Bool
  | [] => true
  | d :: r => nlFree d && nlFrees r
end
def nlFreeO : Option D → Bool
  | some d => nlFree d
  | none => true
section
variable [OldT] {h' : Hp} {wa : Addr} {Hf H : Hp}
mutual
theorem Rep.turn : ∀ {v : V} {d : D}, Rep wa Hf v d → nlFree d = true → @Rep ⟨h'⟩ wa Hf v d
  | _, _, .non, _ => @Rep.non ⟨h'⟩ wa Hf
  | _, _, .bl b, _ => @Rep.bl ⟨h'⟩ wa Hf b
  | _, _, .int b, _ => @Rep.int ⟨h'⟩ wa Hf b
  | _, _, .str b, _ => @Rep.str ⟨h'⟩ wa Hf b
  | _, _, .lst h r, n => @Rep.lst ⟨h'⟩ wa Hf _ _ _ h (Reps.turn r (by simpa [nlFree] using n))
  | _, _, .tup h r, n => @Rep.tup ⟨h'⟩ wa Hf _ _ _ h (Reps.turn r (by simpa [nlFree] using n))
  | _, _, .well, _ => @Rep.well ⟨h'⟩ wa Hf
  | _, _, .ref a, _ => @Rep.ref ⟨h'⟩ wa Hf a
  | _, _, .ty a, _ => @Rep.ty ⟨h'⟩ wa Hf a
  | _, _, .nl _ _ _, n => by simp [nlFree] at n
theorem Reps.turn : ∀ {vs : List V} {ds : List D}, Reps wa Hf vs ds → nlFrees ds = true → @Reps ⟨h'⟩ wa Hf vs ds
  | _, _, .nil, _ => @Reps.nil ⟨h'⟩ wa Hf
  | _, _, .cons h r, n => by
    have n' := n
    simp only [nlFrees, Bool.and_eq_true] at n'
    exact @Reps.cons ⟨h'⟩ wa Hf _ _ _ _ (Rep.turn h n'.1) (Reps.turn r n'.2)
end
theorem free_own {s : Sl} (h : s.all nlFreeO = true) {i : Nat} {xs : List D} : s[i]? ≠ some (some (.own xs)) := fun z => by
  have h1 := List.all_eq_true.mp h _ (List.mem_of_getElem? z)
  simp [nlFreeO, nlFree] at h1
theorem Slots.turn {σ : L2.St} {s : Sl} (x : Slots wa Hf H σ s) (h : s.all nlFreeO = true) : @Slots ⟨h'⟩ wa Hf H σ s := by
  refine @Slots.mk ⟨h'⟩ wa Hf H σ s x.len (fun i d e n => ?_) (fun i xs e => absurd e (free_own h)) fun i j xs ys p e _ _ _ => absurd e (free_own h)
  obtain ⟨v, h1, h2⟩ := x.val i d e n
  have h3 := List.all_eq_true.mp h _ (List.mem_of_getElem? e)
  exact ⟨v, h1, h2.turn h3⟩
end
/-- what may stand in what was told: an int, a triplet of ints, a new list of ints -/
def nlPart : D → Bool
  | .int _ => true
  | .tup ds => (ints? ds).isSome
  | .nl ds => (ints? ds).isSome && decide (ds.length ≤ 1000)
  | _ => false
def sSeg (i j : Nat) (E : DE) (T : DT) (R : DS) : DS := fun s w => if s.all nlFreeO = true ∧ i ≠ j ∧ i < s.length ∧ j < s.length then match E s w with
  | .ok (.tup ds) w1 => if ds.all nlPart = true ∧ ds.length ≤ 1000 then match T (s.set i (some (.tup ds))) w1 with
    | .ok false w2 => R ((s.set i none).set j none) w2
    | _ => .no
    else .no
  | _ => .no
  else .no
/-- nothing but the instance is changed -/
def tAny (t : OldT → TS) : TS := fun D σ H => ∃ o, t o D σ H
theorem ps_any {X : Cx} {st : Stmt} {t : OldT → TS} (h : ∀ o, PS X st (t o)) : PS X st (tAny t) := ⟨fun pins s σ H D I ⟨o, q⟩ => (h o).run pins s σ H D I q⟩
def tAnyT (t : OldT → TT) : TT := fun σ H Q => ∃ o, t o σ H Q
theorem pt_any {X : Cx} {c : Expr} {t : OldT → TT} (h : ∀ o, PT X c (t o)) : PT X c (tAnyT t) := ⟨fun pins s σ H Q I ⟨o, q⟩ => (h o).run pins s σ H Q I q⟩
abbrev isL (j : Nat) : DT := tTr (eCB fIsi (aCons (eVar j) (aCons (eC (.ty "list")) aNil)))
abbrev tLoop (K : PySem.W.Frag) (mg : Str → Option Value) (i j : Nat) : TS := tFor (iTup K (tVar i)) (gName j) (tIfS (tAnyT fun o => @lT o mg W0 (isL j)) (tDrop (tBM K "list" rAppend (tVar j) (tCons (tC (.int 7)) tNil))) tNext)
/-- is the value in a slot a list -/
theorem isL_ok {mg : Str → Option Value} {j : Nat} {σ : L2.St} {H : Hp} {v : V} {wa : Addr} {w : Wl} {d : D} {Hf : Hp} {b : Bool} {Q : Bool → Hp → Prop} (o : OldT) (hb : @Base o wa Hf H w) (hj : σ[j]? = some (some v)) (hr : @Rep o wa Hf v d) (hn : ∀ xs, d ≠ .own xs)
    (ht : ∀ w, fIsi w [d, .ty "list"] = some (.bl b)) (q : ∀ H' Hf', @Go wa H Hf H' Hf' → @Base o wa Hf' H' w → Q b H') : (tAnyT fun o => @lT o mg W0 (isL j)) σ H Q := by
  have hl : j < σ.length := (List.getElem?_eq_some_iff.mp hj).1
  have hd : getS ((List.replicate σ.length (none : Option D)).set j (some d)) j = some d := by
    unfold getS
    rw [List.getElem?_set_self (by simpa using hl)]
    cases d <;> first | rfl | exact absurd rfl (hn _)
  refine ⟨o, wa, Hf, (List.replicate σ.length none).set j (some d), w, hb, ⟨by simp, fun k x e n => ?_, fun k xs e => ?_, fun k l xs ys p e _ _ _ => ?_⟩, ?_⟩
  · by_cases hk : k = j
    · subst hk
      rw [List.getElem?_set_self (by simpa using hl)] at e
      cases e
      exact ⟨v, hj, hr⟩
    · rw [List.getElem?_set_ne (Ne.symm hk), List.getElem?_replicate] at e
      split at e <;> cases e
  · by_cases hk : k = j
    · subst hk
      rw [List.getElem?_set_self (by simpa using hl)] at e
      cases e
      exact absurd rfl (hn _)
    · rw [List.getElem?_set_ne (Ne.symm hk), List.getElem?_replicate] at e
      split at e <;> cases e
  · by_cases hk : k = j
    · subst hk
      rw [List.getElem?_set_self (by simpa using hl)] at e
      cases e
      exact absurd rfl (hn _)
    · rw [List.getElem?_set_ne (Ne.symm hk), List.getElem?_replicate] at e
      split at e <;> cases e
  · have e : isL j ((List.replicate σ.length none).set j (some d)) w = .ok b w := by
      unfold isL tTr eCB aCons eVar eC aNil
      simp only [hd, R.bind_ok, ht, opt_some]
      cases b <;> rfl
    rw [e]
    intro H' Hf' g b' v' hv
    cases (show v' = b from hv)
    exact q H' Hf' g b'

/-! the loop that changes what is new -/
structure Soft (H2 : Hp) (S : Addr → Prop) (wa : Addr) (w : Wl) (k : Nat) (H' : Hp) : Prop where
  keep : ∀ a u, ¬ S a → H2 a = some u → H' a = some u
  soft : ∀ a, S a → ∃ ns : List Int, H' a = some (.lst (ns.map V.int)) ∧ ns.length ≤ 1000 + k
  well : H' wa = some (.lst (wl w))
theorem Soft.go {o : OldT} {H2 : Hp} {S : Addr → Prop} {wa : Addr} {w : Wl} {k : Nat} {H' H'' Hf Hf'' : Hp} (s : Soft H2 S wa w k H') (hS : ¬ S wa) (h2 : H2 wa = some (.lst (wl w))) (g : @Go wa H' Hf H'' Hf'') (b : @Base o wa Hf'' H'' w) : Soft H2 S wa w k H'' :=
  ⟨fun a u n e => by
    by_cases ha : a = wa
    · rw [ha] at e ⊢
      rw [h2] at e
      cases e
      exact b.well
    · exact g.keep a u ha (s.keep a u n e), fun a h => by
    obtain ⟨ns, e, l⟩ := s.soft a h
    exact ⟨ns, g.keep a _ (fun z => hS (z ▸ h)) e, l⟩, b.well⟩
def oneH (a : Addr) (u : HO) : Hp := fun x => if x = a then some u else none
theorem one_base {o : OldT} {H : Hp} {wa a : Addr} {u : HO} {w : Wl} (h : H a = some u) (hw : H wa = some (.lst (wl w))) (n : a ≠ wa) : @Base ⟨fun _ => none⟩ wa (oneH a u) H w :=
  @Base.mk ⟨fun _ => none⟩ wa (oneH a u) H w (fun x v e => by
    unfold oneH at e
    split at e
    · rename_i hx; subst hx; rw [← e]; exact h
    · cases e) hw (by unfold oneH; rw [if_neg (Ne.symm n)]) fun x v e => by cases e
theorem none_base {H : Hp} {wa : Addr} {w : Wl} (hw : H wa = some (.lst (wl w))) : @Base ⟨fun _ => none⟩ wa (fun _ => none) H w :=
  @Base.mk ⟨fun _ => none⟩ wa (fun _ => none) H w (fun x v e => by cases e) hw rfl fun x v e => by cases e
theorem loop_ok {K : PySem.W.Frag} {mg : Str → Option Value} {i j : Nat} {D : Ends} {σ2 : L2.St} {H2 Hf2 : Hp} {o : OldT} {wa t : Addr} {w2 : Wl} {vs : List V} {ds : List DL.D} (hb : @Base o wa Hf2 H2 w2) (ht : Hf2 t = some (.tup vs)) (hr : @Reps o wa Hf2 vs ds)
    (hp : ds.all nlPart = true) (hi : σ2[i]? = some (some (.ref t))) (hij : i ≠ j) (hj : j < σ2.length) (hl : ds.length ≤ 1000)
    (q : ∀ σ3 H3, σ3.length = σ2.length → (∀ k, k ≠ j → σ3[k]? = σ2[k]?) → (∀ a u, H2 a = some u → (o.old a ≠ none ∨ Hf2 a = none) → H3 a = some u) → (∀ a u, H2 a = some u → ∃ u', H3 a = some u') → H3 wa = some (.lst (wl w2)) → D.nx σ3 H3) : tLoop K mg i j D σ2 H2 := by
  let S : Addr → Prop := fun a => ∃ (n : Nat) (xs : List DL.D), vs[n]? = some (V.ref a) ∧ ds[n]? = some (DL.D.nl xs)
  have len := hr.length
  have sf : ∀ a, S a → ∃ ns : List Int, Hf2 a = some (.lst (ns.map V.int)) ∧ ns.length ≤ 1000 ∧ o.old a = none := by
    rintro a ⟨n, xs, e1, e2⟩
    obtain ⟨v, e3, r⟩ := hr.get e2
    rw [e1] at e3
    cases e3
    have h1 := List.all_eq_true.mp hp _ (List.mem_of_getElem? e2)
    simp only [nlPart, Bool.and_eq_true, decide_eq_true_eq] at h1
    obtain ⟨ns, hn⟩ := Option.isSome_iff_exists.mp h1.1
    cases r with
    | nl h oo rr =>
      have e4 := ints?_some hn
      subst e4
      have e5 := rr.ints
      subst e5
      exact ⟨ns, h, by simpa using h1.2, oo⟩
  have nS : ¬ S wa := fun z => by
    obtain ⟨ns, e, _⟩ := sf wa z
    rw [hb.nw] at e
    cases e
  have nT : ∀ {a us}, Hf2 a = some (.tup us) → ¬ S a := fun {a us} e z => by
    obtain ⟨ns, e2, _⟩ := sf a z
    rw [e] at e2
    cases e2
  have s0 : Soft H2 S wa w2 0 H2 := ⟨fun _ _ _ e => e, fun a z => by
    obtain ⟨ns, e, l, _⟩ := sf a z
    exact ⟨ns, hb.ex _ _ e, by omega⟩, hb.well⟩
  refine ⟨.ref t, hi, t, rfl, ⟨vs, SqT.of (hb.ex _ _ ht)⟩, fun k m σ' H' => m = vs.length - k ∧ k ≤ vs.length ∧ Soft H2 S wa w2 k H' ∧ σ'.length = σ2.length ∧ ∀ l, l ≠ j → σ'[l]? = σ2[l]?, ⟨vs.length, by simp, Nat.zero_le _, s0, rfl, fun _ _ => rfl⟩, ?_⟩
  rintro k m σ' H' ⟨rfl, hk, s, hl', hσ⟩
  have htup : SqT K H' t vs := SqT.of (s.keep t _ (nT ht) (hb.ex _ _ ht))
  by_cases hlt : k < vs.length
  · refine .inr ⟨⟨vs, vs[k], htup, by simp [hlt]⟩, fun σ3 H3 => k + 1 ≤ vs.length ∧ Soft H2 S wa w2 (k + 1) H3 ∧ σ3.length = σ2.length ∧ ∀ l, l ≠ j → σ3[l]? = σ2[l]?, fun σ3 H3 z => ⟨vs.length - (k + 1), by omega, rfl, z⟩, fun x H3 hy => ?_⟩
    obtain ⟨rfl, hx0⟩ := hy
    have hx := hx0 vs htup
    clear hx0
    obtain ⟨d, hd, rv⟩ := hr.getV hx
    have hnl := List.all_eq_true.mp hp _ (List.mem_of_getElem? hd)
    show (tIfS _ _ _) _ (σ'.set j (some x)) H3
    have hjl : j < σ'.length := by rw [hl']; exact hj
    have hset : (σ'.set j (some x))[j]? = some (some x) := List.getElem?_set_self hjl
    have hlen : (σ'.set j (some x)).length = σ2.length := by rw [List.length_set, hl']
    have hoth : ∀ l, l ≠ j → (σ'.set j (some x))[l]? = σ2[l]? := fun l hlj => by rw [List.getElem?_set_ne (Ne.symm hlj)]; exact hσ l hlj
    have bump : ∀ {H4 : Hp}, Soft H2 S wa w2 k H4 → Soft H2 S wa w2 (k + 1) H4 := fun {H4} s4 => ⟨s4.keep, fun a z => let ⟨ns, e, l⟩ := s4.soft a z; ⟨ns, e, by omega⟩, s4.well⟩
    cases d with
    | int n =>
      cases rv
      refine isL_ok (b := false) ⟨fun _ => none⟩ (none_base s.well) hset (@Rep.int ⟨fun _ => none⟩ wa _ n) (fun _ z => by cases z) (fun _ => rfl) fun H4 Hf4 g4 b4 => ?_
      exact ⟨hlt, bump (s.go nS hb.well g4 b4), hlen, hoth⟩
    | tup zs =>
      simp only [nlPart] at hnl
      obtain ⟨ns, hn⟩ := Option.isSome_iff_exists.mp hnl
      obtain ⟨a, us, rfl, h, rr⟩ : ∃ a us, x = V.ref a ∧ Hf2 a = some (.tup us) ∧ @Reps o wa Hf2 us zs := by
        cases rv with
        | tup h rr => exact ⟨_, _, rfl, h, rr⟩
      · have e4 := ints?_some hn
        subst e4
        have e5 := rr.ints
        subst e5
        have hna : a ≠ wa := fun z => by rw [z, hb.nw] at h; cases h
        refine isL_ok (b := false) ⟨fun _ => none⟩ (one_base (o := o) (s.keep a _ (nT h) (hb.ex _ _ h)) s.well hna) hset (@Rep.tup ⟨fun _ => none⟩ wa _ a _ _ (if_pos rfl) (@Reps.of_ints ⟨fun _ => none⟩ wa _ ns)) (fun _ z => by cases z) (fun _ => rfl) fun H4 Hf4 g4 b4 => ?_
        exact ⟨hlt, bump (s.go nS hb.well g4 b4), hlen, hoth⟩
    | nl zs =>
      obtain ⟨a, us, rfl, h⟩ : ∃ a us, x = V.ref a ∧ Hf2 a = some (.lst us) := by
        cases rv with
        | nl h oo rr => exact ⟨_, _, rfl, h⟩
      · have hS : S a := ⟨k, zs, hx, hd⟩
        obtain ⟨ns, e, hns⟩ := s.soft a hS
        have hna : a ≠ wa := fun z => by rw [z, hb.nw] at h; cases h
        refine isL_ok (b := true) ⟨fun _ => none⟩ (one_base (o := o) e s.well hna) hset (@Rep.lst ⟨fun _ => none⟩ wa _ a _ _ (if_pos rfl) (@Reps.of_ints ⟨fun _ => none⟩ wa _ ns)) (fun _ z => by cases z) (fun _ => rfl) fun H4 Hf4 g4 b4 => ?_
        have s4 := s.go nS hb.well g4 b4
        have e4 : H4 a = some (.lst (ns.map V.int)) := g4.keep a _ hna e
        rw [if_pos rfl]
        refine ⟨.ref a, hset, .inl ⟨rfl, _, SqL.of e4⟩, a, _, .int 7, rfl, rfl, e4, by rw [List.length_map, sizeLine_eq]; omega, hlt, ⟨fun b u n2 e2 => ?_, fun b hb2 => ?_, ?_⟩, hlen, hoth⟩
        · have hba : b ≠ a := fun z => by rw [z] at n2; exact n2 hS
          rw [upd_ne hba]
          exact s4.keep b u n2 e2
        · by_cases hba : b = a
          · subst hba
            exact ⟨ns ++ [7], by rw [upd_same, List.map_append]; rfl, by simp; omega⟩
          · obtain ⟨ms, e6, l6⟩ := s4.soft b hb2
            exact ⟨ms, by rw [upd_ne hba]; exact e6, by omega⟩
        · rw [upd_ne (Ne.symm hna)]
          exact s4.well
    | non => simp [nlPart] at hnl
    | bl _ => simp [nlPart] at hnl
    | str _ => simp [nlPart] at hnl
    | lst _ => simp [nlPart] at hnl
    | own _ => simp [nlPart] at hnl
    | well => simp [nlPart] at hnl
    | ref _ => simp [nlPart] at hnl
    | ty _ => simp [nlPart] at hnl
  · refine .inl ⟨⟨vs, htup, by omega⟩, q σ' H' hl' hσ (fun a u e h => s.keep a u (fun z => ?_) e) (fun a u e => ?_) s.well⟩
    · obtain ⟨ns, e2, _, e3⟩ := sf a z
      rcases h with h | h
      · exact h e3
      · rw [h] at e2; cases e2
    · by_cases hS : S a
      · obtain ⟨ns, e2, _⟩ := s.soft a hS
        exact ⟨_, e2⟩
      · exact ⟨u, s.keep a u hS e⟩

/-- x = f(..); if test: ..; for part in x: if isinstance(part, list): part.append(7): x is forgotten -/
theorem sd_seg [OldT] {X : Cx} {mg : Str → Option Value} {W : WX} {st1 st2 st3 : Stmt} {rest : List Stmt} {E : DE} {T : DT} {R : DS} {u : TS} (i j : Nat) (h1 : ∀ o : OldT, PS X st1 (tAsg (@lE o mg W E) (gName i))) (h2 : ∀ o : OldT, PS X st2 (tIfS (@lT o mg W T) u tNext))
    (h3 : PS X st3 (tLoop X.K mg i j)) (h4 : PSs X rest (lS mg W R)) : PSs X (st1 :: st2 :: st3 :: rest) (lS mg W (sSeg i j E T R)) :=
  weakSs (pss_cons (ps_any h1) (pss_cons (ps_any h2) (pss_cons h3 h4))) fun D σ H h => by
  obtain ⟨wa, Hf, sD, w, H0, Hf0, g, b, hs, ho, h⟩ := h
  unfold sSeg at h
  split at h
  · rename_i hc
    obtain ⟨hfree, hij, hil, hjl⟩ := hc
    have b' : @Base ⟨Hf⟩ wa Hf H w := @Base.mk ⟨Hf⟩ wa Hf H w b.ex b.well b.nw (Ex.refl _)
    have hs' : @Slots ⟨Hf⟩ wa Hf H σ sD := hs.turn hfree
    refine ⟨⟨Hf⟩, wa, Hf, sD, w, b', hs', ?_⟩
    split at h
    · rename_i ds w1 eE
      split at h
      · rename_i hpd
        obtain ⟨hpart, hlen⟩ := hpd
        rw [eE]
        intro H1 Hf1 g1 b1 v rv
        have s1 : @Slots ⟨Hf⟩ wa Hf1 H1 (σ.set i (some v)) (sD.set i (some (.tup ds))) := @Slots.set ⟨Hf⟩ _ _ _ _ _ (@Slots.go ⟨Hf⟩ _ _ _ _ _ _ _ hs' g1) _ _ _ rv
        refine ⟨⟨Hf⟩, wa, Hf1, sD.set i (some (.tup ds)), w1, b1, s1, ?_⟩
        split at h
        · rename_i w2 eT
          rw [eT]
          intro H2 Hf2 g2 b2 v2 rv2
          cases (show v2 = false from rv2)
          refine iteF ?_
          have rv3 : @Rep ⟨Hf⟩ wa Hf2 v (.tup ds) := @Rep.mono ⟨Hf⟩ _ _ _ g2.ex _ _ rv
          obtain ⟨t, vs, rfl, hT, rT⟩ : ∃ t vs, v = V.ref t ∧ Hf2 t = some (.tup vs) ∧ @Reps ⟨Hf⟩ wa Hf2 vs ds := by
            cases rv3 with
            | tup hT rT => exact ⟨_, _, rfl, hT, rT⟩
          have hσl : j < (σ.set i (some (V.ref t))).length := by rw [List.length_set, hs.len]; exact hjl
          have e1 : (σ.set i (some (V.ref t)))[i]? = some (some (V.ref t)) := List.getElem?_set_self (by rw [hs.len]; exact hil)
          refine loop_ok (o := ⟨Hf⟩) b2 hT rT hpart e1 hij hσl hlen fun σ3 H3 l3 e3 k3 t3 w3 => ?_
          have gg := g1.trans g2
          have go : Go wa H Hf H3 Hf := ⟨fun a u n e => by
            refine k3 a u (gg.keep a u n e) ?_
            cases q : Hf a with
            | none => exact .inr ((gg.new a u e).trans q)
            | some z => exact .inl (by show Hf a ≠ none; rw [q]; simp), Ex.refl _, fun _ _ _ => rfl, fun a u e => by
            obtain ⟨u', e'⟩ := gg.there a u e
            exact t3 a u' e'⟩
          have b3 : Base wa Hf H3 w2 := ⟨fun a u e => go.keep a u (fun z => by rw [z, b.nw] at e; cases e) (b.ex a u e), w3, b.nw, b.od⟩
          have key : ∀ (k : Nat) (d : DL.D), ((sD.set i none).set j none)[k]? = some (some d) → k ≠ i ∧ k ≠ j ∧ sD[k]? = some (some d) := fun k d e => by
            by_cases hkj : k = j
            · subst hkj
              rw [List.getElem?_set_self (by rw [List.length_set]; exact hjl)] at e
              cases e
            · rw [List.getElem?_set_ne (Ne.symm hkj)] at e
              by_cases hki : k = i
              · subst hki
                rw [List.getElem?_set_self hil] at e
                cases e
              · rw [List.getElem?_set_ne (Ne.symm hki)] at e
                exact ⟨hki, hkj, e⟩
          have s3 : Slots wa Hf H3 σ3 ((sD.set i none).set j none) := ⟨by rw [l3, List.length_set, List.length_set, List.length_set]; exact hs.len, fun k d e n => by
            obtain ⟨k1, k2, k4⟩ := key k d e
            obtain ⟨v, e5, r5⟩ := hs.val k d k4 n
            exact ⟨v, by rw [e3 k k2, List.getElem?_set_ne (Ne.symm k1)]; exact e5, r5⟩, fun k xs e => absurd (key k _ e).2.2 (free_own hfree), fun k l xs ys p e _ _ _ => absurd (key k _ e).2.2 (free_own hfree)⟩
          exact ⟨wa, Hf, (sD.set i none).set j none, w2, H0, Hf0, g.trans go, b3, s3, fun k xs p e => absurd (key k _ e).2.2 (free_own hfree), h⟩
        · exact h.elim
      · exact h.elim
    · exact h.elim
  · exact h.elim
end DL

set_option maxHeartbeats 2000000
namespace DL
open PySem PySem.Spec PyProof.Rows L2
variable [OldT]
open Evl (Ex)
/-! ### comprehensions of two clauses -/
def lc2D (G : DG) (T : DT) (I1 : DI) (G1 : DG) (T1 : DT) (E : DE) (vs1 : List Nat) : List D → Sl → Wl → R (List D)
  | [], _, w => .ok [] w
  | d :: r, s, w => match G d s with
    | none => .no
    | some s1 => (T s1 w).noer.bind fun b w1 => if b = true then (I1 s1 w1).noer.bind fun ds1 w2 => (lcD G1 T1 E ds1 (wipeS s1 vs1) w2).noer.bind fun ys w3 => (lc2D G T I1 G1 T1 E vs1 r s w3).bind fun zs w4 => .ok (ys ++ zs) w4 else lc2D G T I1 G1 T1 E vs1 r s w1
def aLc2 (I : DI) (G : DG) (T : DT) (I1 : DI) (G1 : DG) (T1 : DT) (E : DE) (vs vs1 : List Nat) : DA := fun s w => (I s w).bind fun ds w1 => (lc2D G T I1 G1 T1 E vs1 ds (wipeS s vs) w1).noer.bind fun ys w2 => if ys.length ≤ lim then .ok ys w2 else .no
section
variable {X : Cx} {mg : Str → Option Value} {W : WX} {tg it a b e elt iter tg1 iter1 : Expr} {es ifs ifs1 : List Expr} {pos : Pos} {σ : L2.St} {H : Hp} {wa : Addr} {Hf : Hp}
theorem Go.app {H' Hf' : Hp} {p : Addr} {o : HO} (g : Go wa H Hf H' Hf') (h : H p = none) : Go wa H Hf (upd H' p o) Hf' :=
  ⟨fun a u n e => by rw [upd_ne (ne_of_none e h)]; exact g.keep a u n e, g.ex, g.new, fun a u e => by rw [upd_ne (ne_of_none e h)]; exact g.there a u e⟩
theorem Base.app {w : Wl} {p : Addr} {o : HO} (b : Base wa Hf H w) (h : Hf p = none) (hw : p ≠ wa) : Base wa Hf (upd H p o) w :=
  ⟨Evl.Ex.mut b.ex h, by rw [upd_ne (Ne.symm hw)]; exact b.well, b.nw, b.od⟩
theorem OwnNew.setNone {H0 : Hp} {s : Sl} (x : OwnNew H0 σ s) (i : Nat) : OwnNew H0 (σ.set i none) (s.set i none) := fun j xs p h1 h2 => by
  by_cases hj : j = i
  · subst hj
    rw [List.getElem?_set] at h1
    split at h1
    · split at h1 <;> cases h1
    · rename_i hne
      exact absurd rfl hne
  · rw [List.getElem?_set_ne (Ne.symm hj)] at h1 h2
    exact x j xs p h1 h2
theorem OwnNew.wipe {H0 : Hp} {s : Sl} (x : OwnNew H0 σ s) : ∀ vs : List Nat, OwnNew H0 (L2.wipe σ vs) (wipeS s vs)
  | [] => x
  | v :: vs => (x.wipe vs).setNone v
theorem Slots.app {s : Sl} {D : Addr} {o o' : HO} {H0 : Hp} (x : Slots wa Hf H σ s) (n : OwnNew (upd H0 D o') σ s) : Slots wa Hf (upd H D o) σ s :=
  ⟨x.len, x.val, fun i xs e => by
    obtain ⟨p, vs, h1, h2, h3, h4, h5⟩ := x.own i xs e
    have q := n i xs p e h1
    have hp : p ≠ D := fun z => by rw [z, upd_same] at q; cases q
    exact ⟨p, vs, h1, by rw [upd_ne hp]; exact h2, h3, h4, h5⟩, x.inj⟩
theorem Slots.apart {s : Sl} {D : Addr} {o : HO} (x : Slots wa Hf H σ s) (h : H D = none) : OwnNew (upd (fun _ => none) D o) σ s := fun i xs p h1 h2 => by
  obtain ⟨q, vs, e1, e2, _⟩ := x.own i xs h1
  rw [h2] at e1
  cases e1
  by_cases hp : p = D
  · subst hp; rw [h] at e2; cases e2
  · rw [upd_ne hp]
theorem less {n i : Nat} (h : i < n) : n - (i + 1) < n - i := by omega
theorem lc2_ok {I : DI} {G : DG} {T : DT} {I1 : DI} {G1 : DG} {T1 : DT} {E : DE} {vs vs1 : List Nat} {Q : VK} (h : lfL mg W (aLc2 I G T I1 G1 T1 E vs vs1) σ H Q) :
    tLc2 (lI mg W I) (lG vs G) (lT mg W0 T) (lI mg W0 I1) (lG vs1 G1) (lT mg W0 T1) (lE mg W0 E) vs vs1 σ H Q := by
  obtain ⟨wa, Hf, sD, w, hb, hs, h⟩ := h
  refine ⟨wa, Hf, sD, w, hb, hs, h.bind.mono (fun ds w1 H1 Hf1 g1 b1 q J wk D hD => ?_) (fun _ _ _ _ _ _ q => q)⟩
  have hs1 := (hs.go g1).wipe vs
  cases el : lc2D G T I1 G1 T1 E vs1 ds (wipeS sD vs) w1 with
  | er x w2 => rw [el] at q; exact q.elim
  | no => rw [el] at q; exact q.elim
  | ok total wF =>
    rw [el] at q
    simp only [R.noer, R.bind_ok] at q
    split at q
    · rename_i hz
      have hDw : D ≠ wa := fun z => by rw [z, b1.well] at hD; cases hD
      have hDf : Hf1 D = none := Evl.fresh_back b1.ex hD
      refine ⟨fun i m H2 => m = ds.length - i ∧ i ≤ ds.length ∧ ∃ Hf2 w2 accV acc ys, Go wa H1 Hf1 H2 Hf2 ∧ Base wa Hf2 H2 w2 ∧ H2 D = some (.lst accV) ∧ Hf2 D = none ∧ Reps wa Hf2 accV acc ∧ lc2D G T I1 G1 T1 E vs1 (ds.drop i) (wipeS sD vs) w2 = .ok ys wF ∧ acc ++ ys = total,
        ⟨ds.length, by simp, Nat.zero_le _, Hf1, w1, [], [], total, Go.new1 hD, b1.new1 hD, upd_same, hDf, .nil, el, rfl⟩, ?_⟩
      rintro i m H2 ⟨rfl, hi, Hf2, w2, accV, acc, ys, g2, b2, hD2, hDf2, ra, e2, rfl⟩
      by_cases hlt : i < ds.length
      · have ed : ds.drop i = ds[i] :: ds.drop (i + 1) := List.drop_eq_getElem_cons hlt
        rw [ed] at e2
        have gi : ds[i]? = some ds[i] := by simp [hlt]
        refine .inr ⟨wk.goes i H2 hlt (g2.ex.trans b2.ex), fun H' => ∃ Hf2 w2 accV acc' ys', Go wa H1 Hf1 H' Hf2 ∧ Base wa Hf2 H' w2 ∧ H' D = some (.lst accV) ∧ Hf2 D = none ∧ Reps wa Hf2 accV acc' ∧ lc2D G T I1 G1 T1 E vs1 (ds.drop (i + 1)) (wipeS sD vs) w2 = .ok ys' wF ∧ acc' ++ ys' = acc ++ ys,
          fun H' hN => ⟨ds.length - (i + 1), less hlt, rfl, hlt, hN⟩, fun x H3 hy => ?_⟩
        obtain ⟨Hf3, g3, b3, r3⟩ := wk.yields i H2 Hf2 w2 x H3 _ gi g2.ex b2 hy
        have hD3 : H3 D = some (.lst accV) := g3.keep D _ hDw hD2
        have hDf3 : Hf3 D = none := (g3.new D _ hD2).trans hDf2
        unfold lc2D at e2
        cases eg : G ds[i] (wipeS sD vs) with
        | none => rw [eg] at e2; cases e2
        | some s1 =>
          rw [eg] at e2
          dsimp only at e2
          refine ⟨wa, Hf3, upd (fun _ => none) D (.lst []), w2, wipeS sD vs, ds[i], s1, b3, r3, (hs1.go g2).go g3, hs1.apart hD, eg, fun σ4 hs4 on4 hw4 => ⟨hw4.trans (wipe_wipe vs), ?_⟩⟩
          cases et : T s1 w2 with
          | er y u => rw [et] at e2; cases e2
          | no => rw [et] at e2; cases e2
          | ok bb w5 =>
            rw [et] at e2
            refine ⟨wa, Hf3, s1, w2, b3, hs4, ?_⟩
            rw [et]
            intro H5 Hf5 g5 b5 v5 rv5
            have ev5 : v5 = bb := rv5
            subst ev5
            have hD5 : H5 D = some (.lst accV) := g5.keep D _ hDw hD3
            have hDf5 : Hf5 D = none := (g5.new D _ hD3).trans hDf3
            cases v5 with
            | false =>
              refine iteF ?_
              have e3 : lc2D G T I1 G1 T1 E vs1 (ds.drop (i + 1)) (wipeS sD vs) w5 = .ok ys wF := by simpa [R.noer, R.bind] using e2
              exact ⟨Hf5, w5, accV, acc, ys, (g2.trans g3).trans g5, b5, hD5, hDf5, (ra.mono g3.ex).mono g5.ex, e3, rfl⟩
            | true =>
              refine iteT ?_
              have e3 : ((I1 s1 w5).noer.bind fun ds1 w2 => (lcD G1 T1 E ds1 (wipeS s1 vs1) w2).noer.bind fun ys w3 => (lc2D G T I1 G1 T1 E vs1 (ds.drop (i + 1)) (wipeS sD vs) w3).bind fun zs w4 => .ok (ys ++ zs) w4) = R.ok ys wF := by simpa [R.noer, R.bind] using e2
              cases ei : I1 s1 w5 with
              | er y u => rw [ei] at e3; cases e3
              | no => rw [ei] at e3; cases e3
              | ok ds1 w6 =>
                rw [ei] at e3
                refine ⟨wa, Hf5, s1, w5, b5, hs4.go g5, ?_⟩
                rw [ei]
                intro H6 Hf6 g6 b6 J1 wk1
                have hD6 : H6 D = some (.lst accV) := g6.keep D _ hDw hD5
                have hDf6 : Hf6 D = none := (g6.new D _ hD5).trans hDf5
                have e4 : ((lcD G1 T1 E ds1 (wipeS s1 vs1) w6).noer.bind fun ys w3 => (lc2D G T I1 G1 T1 E vs1 (ds.drop (i + 1)) (wipeS sD vs) w3).bind fun zs w4 => .ok (ys ++ zs) w4) = R.ok ys wF := by simpa [R.noer, R.bind] using e3
                cases ey : lcD G1 T1 E ds1 (wipeS s1 vs1) w6 with
                | er y u => rw [ey] at e4; cases e4
                | no => rw [ey] at e4; cases e4
                | ok ys1 w7 =>
                  rw [ey] at e4
                  have e5 : ((lc2D G T I1 G1 T1 E vs1 (ds.drop (i + 1)) (wipeS sD vs) w7).bind fun zs w4 => .ok (ys1 ++ zs) w4) = R.ok ys wF := by simpa [R.noer, R.bind] using e4
                  cases ez : lc2D G T I1 G1 T1 E vs1 (ds.drop (i + 1)) (wipeS sD vs) w7 with
                  | er y u => rw [ez] at e5; cases e5
                  | no => rw [ez] at e5; cases e5
                  | ok zs w8 =>
                    rw [ez] at e5
                    cases e5
                    have g06 : Go wa H1 Hf1 H6 Hf6 := ((g2.trans g3).trans g5).trans g6
                    have hsI := ((hs4.go g5).go g6).wipe vs1
                    refine ⟨fun j k H7 => k = ds1.length - j ∧ j ≤ ds1.length ∧ ∃ Hf7 w9 accV' acc' us, Go wa H1 Hf1 H7 Hf7 ∧ Ex Hf6 Hf7 ∧ Slots wa Hf7 H7 (L2.wipe σ4 vs1) (wipeS s1 vs1) ∧ Base wa Hf7 H7 w9 ∧ H7 D = some (.lst accV') ∧ Hf7 D = none ∧ Reps wa Hf7 accV' acc' ∧ lcD G1 T1 E (ds1.drop j) (wipeS s1 vs1) w9 = .ok us w7 ∧ acc' ++ us = acc ++ ys1,
                      ⟨ds1.length, by simp, Nat.zero_le _, Hf6, w6, accV, acc, ys1, g06, Ex.refl _, hsI, b6, hD6, hDf6, ((ra.mono g3.ex).mono g5.ex).mono g6.ex, ey, rfl⟩, ?_⟩
                    rintro j k H7 ⟨rfl, hj, Hf7, w9, accV', acc', us, g7, x7, s7, b7, hD7, hDf7, ra7, e7, eacc⟩
                    by_cases hlj : j < ds1.length
                    · have ed1 : ds1.drop j = ds1[j] :: ds1.drop (j + 1) := List.drop_eq_getElem_cons hlj
                      rw [ed1] at e7
                      have gj : ds1[j]? = some ds1[j] := by simp [hlj]
                      refine .inr ⟨wk1.goes j H7 hlj (x7.trans b7.ex), fun H' => ∃ Hf7 w9 accV' acc' us', Go wa H1 Hf1 H' Hf7 ∧ Ex Hf6 Hf7 ∧ Slots wa Hf7 H' (L2.wipe σ4 vs1) (wipeS s1 vs1) ∧ Base wa Hf7 H' w9 ∧ H' D = some (.lst accV') ∧ Hf7 D = none ∧ Reps wa Hf7 accV' acc' ∧ lcD G1 T1 E (ds1.drop (j + 1)) (wipeS s1 vs1) w9 = .ok us' w7 ∧ acc' ++ us' = acc ++ ys1,
                        fun H' hN => ⟨ds1.length - (j + 1), less hlj, rfl, hlj, hN⟩, fun y H8 hy8 => ?_⟩
                      obtain ⟨Hf8, g8, b8, r8⟩ := wk1.yields j H7 Hf7 w9 y H8 _ gj x7 b7 hy8
                      have hD8 : H8 D = some (.lst accV') := g8.keep D _ hDw hD7
                      have hDf8 : Hf8 D = none := (g8.new D _ hD7).trans hDf7
                      unfold lcD at e7
                      cases eg1 : G1 ds1[j] (wipeS s1 vs1) with
                      | none => rw [eg1] at e7; cases e7
                      | some s2 =>
                        rw [eg1] at e7
                        dsimp only at e7
                        refine ⟨wa, Hf8, fun _ => none, w9, wipeS s1 vs1, ds1[j], s2, b8, r8, s7.go g8, fun _ _ _ _ _ => rfl, eg1, fun σ9 hs9 _ hw9 => ⟨hw9.trans (wipe_wipe vs1), ?_⟩⟩
                        cases et1 : T1 s2 w9 with
                        | er y u => rw [et1] at e7; cases e7
                        | no => rw [et1] at e7; cases e7
                        | ok bb1 w10 =>
                          rw [et1] at e7
                          refine ⟨wa, Hf8, s2, w9, b8, hs9, ?_⟩
                          rw [et1]
                          intro H9 Hf9 g9 b9 v9 rv9
                          have ev9 : v9 = bb1 := rv9
                          subst ev9
                          have hD9 : H9 D = some (.lst accV') := g9.keep D _ hDw hD8
                          have hDf9 : Hf9 D = none := (g9.new D _ hD8).trans hDf8
                          cases v9 with
                          | false =>
                            refine iteF ?_
                            have e8 : lcD G1 T1 E (ds1.drop (j + 1)) (wipeS s1 vs1) w10 = .ok us w7 := by simpa [R.noer, R.bind] using e7
                            exact ⟨Hf9, w10, accV', acc', us, (g7.trans g8).trans g9, (x7.trans g8.ex).trans g9.ex, (s7.go g8).go g9, b9, hD9, hDf9, (ra7.mono g8.ex).mono g9.ex, e8, eacc⟩
                          | true =>
                            refine iteT ?_
                            have e8 : ((E s2 w10).noer.bind fun y w2 => (lcD G1 T1 E (ds1.drop (j + 1)) (wipeS s1 vs1) w2).bind fun ys w3 => .ok (y :: ys) w3) = R.ok us w7 := by simpa [R.noer, R.bind] using e7
                            cases ee : E s2 w10 with
                            | er y u => rw [ee] at e8; cases e8
                            | no => rw [ee] at e8; cases e8
                            | ok z w11 =>
                              rw [ee] at e8
                              refine ⟨wa, Hf9, s2, w10, b9, hs9.go g9, ?_⟩
                              rw [ee]
                              intro H10 Hf10 g10 b10 v10 r10
                              have hD10 : H10 D = some (.lst accV') := g10.keep D _ hDw hD9
                              have hDf10 : Hf10 D = none := (g10.new D _ hD9).trans hDf9
                              have e9 : ((lcD G1 T1 E (ds1.drop (j + 1)) (wipeS s1 vs1) w11).bind fun ys w3 => .ok (z :: ys) w3) = R.ok us w7 := by simpa [R.noer, R.bind] using e8
                              cases er : lcD G1 T1 E (ds1.drop (j + 1)) (wipeS s1 vs1) w11 with
                              | er y u => rw [er] at e9; cases e9
                              | no => rw [er] at e9; cases e9
                              | ok us1 w12 =>
                                rw [er] at e9
                                cases e9
                                have ra10 := ((ra7.mono g8.ex).mono g9.ex).mono g10.ex
                                have hlen : accV'.length = acc'.length := ra7.length
                                have hlt2 : accV'.length < lim := by
                                  have q1 : (acc' ++ z :: us1).length = (acc ++ ys1).length := by rw [eacc]
                                  simp only [List.length_append, List.length_cons] at q1 hz
                                  omega
                                have gg := ((g7.trans g8).trans g9).trans g10
                                refine ⟨accV', hD10, Nat.lt_of_lt_of_le hlt2 (lim_le (Nat.le_refl _)), Hf10, w11, accV' ++ [v10], acc' ++ [z], us1, gg.app hD, ((x7.trans g8.ex).trans g9.ex).trans g10.ex, ?_, b10.app hDf10 hDw, upd_same, hDf10, ra10.append (.cons r10 .nil), er, by simp [← eacc]⟩
                                exact (((s7.go g8).go g9).go g10).app (on4.wipe vs1)
                    · have ej : j = ds1.length := by omega
                      subst ej
                      rw [List.drop_length] at e7
                      cases e7
                      refine .inl ⟨wk1.stops H7 (x7.trans b7.ex), Hf7, w7, accV', acc', zs, g7, b7, hD7, hDf7, ra7, ez, ?_⟩
                      rw [List.append_nil] at eacc
                      rw [eacc, List.append_assoc]
      · have ei : i = ds.length := by omega
        subst ei
        rw [List.drop_length] at e2
        cases e2
        refine .inl ⟨wk.stops H2 (g2.ex.trans b2.ex), ?_⟩
        rw [List.append_nil] at q
        exact q H2 Hf2 g2 b2 D accV (g1.free hD) hD2 hDf2 hDw ra
    · exact q.elim
/-- [elt for tg in iter if .. for tg1 in iter1 if ..]: a new list -/
theorem pl_lc2 {scope : Scope} {own : List (Str × Nat)} {vs1 : List Nat} {I I1 : DI} {G G1 : DG} {T T1 : DT} {E : DE} (hc : X.calm = true) (hN : X.N.Nodup) (hi : PI X tg iter (lI mg W I)) (ok : BlkOk X.N X.env.scope scope own) (hv : ∀ i ∈ vs1, i ∈ own.map (·.2))
    (hg : ∀ (s : Shared) (H : Hp) (C : Addr) (cl : List (Str × Addr)) (fp : List Addr), PG (X.blk s H scope (compEnvC scope cl C X.env) fp) tg (lG (own.map (·.2)) G)) (ht : ∀ (s : Shared) (H : Hp) (C : Addr) (cl : List (Str × Addr)) (fp : List Addr), PTs (X.blk s H scope (compEnvC scope cl C X.env) fp) ifs (lT mg W0 T))
    (hi1 : ∀ (s : Shared) (H : Hp) (C : Addr) (cl : List (Str × Addr)) (fp : List Addr), PI (X.blk s H scope (compEnvC scope cl C X.env) fp) tg1 iter1 (lI mg W0 I1))
    (hg1 : ∀ (s : Shared) (H : Hp) (C : Addr) (cl : List (Str × Addr)) (fp : List Addr), PG (X.blk s H scope (compEnvC scope cl C X.env) fp) tg1 (lG vs1 G1)) (ht1 : ∀ (s : Shared) (H : Hp) (C : Addr) (cl : List (Str × Addr)) (fp : List Addr), PTs (X.blk s H scope (compEnvC scope cl C X.env) fp) ifs1 (lT mg W0 T1))
    (he : ∀ (s : Shared) (H : Hp) (C : Addr) (cl : List (Str × Addr)) (fp : List Addr), PE (X.blk s H scope (compEnvC scope cl C X.env) fp) elt (lE mg W0 E)) (hs : ∀ x, foldedSetIterable iter X.env x = pure x := by intro _; rfl) (hs1 : ∀ env x, foldedSetIterable iter1 env x = pure x := by intro _ _; rfl) :
    PE X (.ListComp elt [⟨tg, iter, ifs, 0⟩, ⟨tg1, iter1, ifs1, 0⟩] scope pos) (lfL mg W (aLc2 I G T I1 G1 T1 E (own.map (·.2)) vs1)) := weakE (pe_lc2 hc hN hi ok hv hg ht hi1 hg1 ht1 he hs hs1) fun _ _ _ q => lc2_ok q
/-! ### len(set(xs)) -/
def dist (ns : List Int) : Nat := (PyProof.Rows.firstMet (fun i => ns.getD i 0) ns.length).length
def tLenSetG (K : PySem.W.Frag) (ta : TE) : TE := fun σ H Q => ta σ H fun x H1 => ∃ (l : Addr) (ns : List Int), x = .ref l ∧ SqL K H1 l (ns.map V.int) ∧ ns.length ≤ 4000 ∧ Q (.int (dist ns : Nat)) H1
theorem pe_lenSetG {a : Expr} {ta : TE} {p p2 q pos : Pos} (hg : Gl X "len") (hm : X.mg "len" = none) (hg2 : Gl X "set") (hm2 : X.mg "set" = none) (ha : PE X a ta) (hc : X.calm = true := by rfl)
    (na : starEach [a] X.env = (false, eval a X.env) :: starEach [] X.env := by rfl) : PE X (.Call (.Name "len" p) [.Call (.Name "set" p2) [a] [] q] [] pos) (tLenSetG X.K ta) := by
  refine ⟨fun pins s σ H Q I h => ?_⟩
  refine Call_ (ld_blt I hg hm boot_len ?_)
  refine PyProof.Rows.callWith_builtin1 (PyProof.Rows.args_cons ?_ rfl) rfl rfl
  refine Call_ (ld_blt I hg2 hm2 boot_set ?_)
  refine PyProof.Rows.callWith_type1 (PyProof.Rows.args_cons (thn (ha.run pins s σ H _ I h) fun v s1 ⟨x, H1, I1, r1, q1⟩ => PyProof.Rows.args_nil ?_) na) na rfl
  obtain ⟨l, ns, rfl, hq, hl, q1⟩ := q1
  cases r1
  obtain ⟨its, r, pl, hz⟩ := I1.list hq
  have hlen : its.toArray.size = ns.length := by rw [List.size_toArray, ← r.length, List.length_map]
  refine call_set_list (I1.ok.hd hc) pl.isList (by simpa using RZ.intsAre_vals r) (by rw [hlen]; unfold scanBound; omega) fun h' tk hS hk => ?_
  refine PyProof.Rows.args_nil ?_
  rw [hlen] at hS
  have hle := PyProof.Rows.firstMet_length_le (fun i => ns.getD i 0) ns.length
  obtain ⟨o, es, ep, t, ho, hex, hd, _, _, _, hf, hn⟩ := hS
  have I2 : Inv X pins σ H1 { s1 with heap := h', toks := tk } := I1.kept fun b o e => hk b o (Heap.lt_size e) e
  exact call_len_set ho hex hd hf (by rw [hn] <;> omega) ⟨.int (dist ns : Nat), H1, I2.tok _, ⟨_, by rw [hn] <;> rfl⟩, q1⟩
def fLenSet : Wl → D → Option D := fun _ x => match x with
  | .lst ds => match ints? ds with
    | some ns => if ns.length ≤ 4000 then some (.int (dist ns)) else none
    | none => none
  | _ => none
theorem pd_lenSet {A : DE} {p p2 q : Pos} (hg : Gl X "len") (hm : X.mg "len" = none) (hg2 : Gl X "set") (hm2 : X.mg "set" = none) (ha : PE X a (lE mg W A)) (hc : X.calm = true := by rfl)
    (na : starEach [a] X.env = (false, eval a X.env) :: starEach [] X.env := by rfl) : PE X (.Call (.Name "len" p) [.Call (.Name "set" p2) [a] [] q] [] pos) (lE mg W (eUn fLenSet A)) := weakE (pe_lenSetG hg hm hg2 hm2 ha hc na) fun σ H Q h => by
  obtain ⟨wa, Hf, sD, w, hb, hs, h⟩ := h
  refine ⟨wa, Hf, sD, w, hb, hs, h.bind.mono (fun x w1 H1 Hf1 g1 b1 q v rv => ?_) (fun _ _ _ _ _ _ q => q)⟩
  obtain ⟨z, e, q3⟩ := q.opt
  unfold fLenSet at e
  split at e
  · split at e
    · rename_i ds ns hn
      split at e
      · rename_i hl
        cases e
        obtain ⟨a, vs, ev, h1, r1⟩ := one_lst (Reps.cons rv .nil)
        cases ev
        rw [ints?_some hn] at r1
        have e2 := r1.ints
        subst e2
        exact ⟨a, ns, rfl, SqL.of (b1.ex _ _ h1), hl, q3 _ _ Go.refl b1 _ (.int _)⟩
      · cases e
    · cases e
  · cases e
@[simp] theorem v_lenSet {w : Wl} {ns : List Int} : fLenSet w (.lst (ns.map .int)) = if ns.length ≤ 4000 then some (.int (dist ns)) else none := by
  unfold fLenSet
  simp only [ints?_map]
/-! ### is, is not of bools -/
def fIsB : Wl → D → D → Option D := fun _ x y => match x, y with
  | .bl a, .bl b => some (.bl (decide (a = b)))
  | _, _ => none
def fNotB : Wl → D → D → Option D := fun _ x y => match x, y with
  | .bl a, .bl b => some (.bl (!decide (a = b)))
  | _, _ => none
theorem opd_isB : OpD rIsB fIsB := by
  intro wa Hf H w x y u v z Q hb ru rv h q
  unfold fIsB at h
  split at h
  · cases h
    cases ru
    cases rv
    exact ⟨_, _, rfl, rfl, q _ _ Go.refl hb _ (.bl _)⟩
  · cases h
theorem opd_notB : OpD rNotB fNotB := by
  intro wa Hf H w x y u v z Q hb ru rv h q
  unfold fNotB at h
  split at h
  · cases h
    cases ru
    cases rv
    exact ⟨_, _, rfl, rfl, q _ _ Go.refl hb _ (.bl _)⟩
  · cases h
theorem pd_isB {A B : DE} (ha : PE X a (lE mg W A)) (hb : PE X b (lE mg W B)) : PE X (.Compare a [.Is] [b] pos) (lE mg W (eBin fIsB A B)) := pd_cmp op_isBl opd_isB ha hb (nomark _)
theorem pd_notB {A B : DE} (ha : PE X a (lE mg W A)) (hb : PE X b (lE mg W B)) : PE X (.Compare a [.IsNot] [b] pos) (lE mg W (eBin fNotB A B)) := pd_cmp op_notBl opd_notB ha hb (nomark _)
theorem qd_isB {A B : DE} (ha : PE X a (lE mg W A)) (hb : PE X b (lE mg W B)) : PT X (.Compare a [.Is] [b] pos) (lT mg W (tE (eBin fIsB A B))) := qd_cmp op_isBl opd_isB ha hb (nomark _)
theorem qd_notB {A B : DE} (ha : PE X a (lE mg W A)) (hb : PE X b (lE mg W B)) : PT X (.Compare a [.IsNot] [b] pos) (lT mg W (tE (eBin fNotB A B))) := qd_cmp op_notBl opd_notB ha hb (nomark _)
@[simp] theorem v_isB {w : Wl} {x y : Bool} : fIsB w (.bl x) (.bl y) = some (.bl (decide (x = y))) := rfl
@[simp] theorem v_notB {w : Wl} {x y : Bool} : fNotB w (.bl x) (.bl y) = some (.bl (!decide (x = y))) := rfl
end
section
variable {w : Wl} {s : Sl} {A E : DE} {T T1 : DT} {I I1 : DI} {G G1 : DG}
@[simp] theorem okE_lc2 {vs vs1 : List Nat} {QA : List D → Wl → Prop} : okE (aLc2 I G T I1 G1 T1 E vs vs1 s w) QA = okE (I s w) fun ds w1 => okE (lc2D G T I1 G1 T1 E vs1 ds (wipeS s vs) w1) fun ys w2 => ys.length ≤ lim ∧ QA ys w2 := by
  unfold aLc2; simp only [okE_bind, okE_noer]; congr; funext ds w1; congr; funext ys w2; split <;> simp [*]
/-- a comprehension of two clauses without tests, element by element -/
theorem lc2_all {γ δ : Type} {vs1 : List Nat} (g : γ → D) (h : γ → List δ) (g1 : δ → D) (f : γ → δ → D) {s : Sl} {w : Wl} : ∀ {xs : List γ}, (∀ x ∈ xs, okO (G (g x) s) fun s1 => I1 s1 w = .ok ((h x).map g1) w ∧ ∀ y ∈ h x, okO (G1 (g1 y) (wipeS s1 vs1)) fun s2 => okE (E s2 w) fun d w1 => d = f x y ∧ w1 = w) →
    lc2D G tYesD I1 G1 tYesD E vs1 (xs.map g) s w = .ok (xs.flatMap fun x => (h x).map (f x)) w
  | [], _ => rfl
  | x :: xs, k => by
    have h1 := k x List.mem_cons_self
    have ih := lc2_all g h g1 f (xs := xs) fun y hy => k y (List.mem_cons_of_mem _ hy)
    rw [List.map_cons]
    unfold lc2D
    cases e : G (g x) s with
    | none => rw [e] at h1; exact h1.elim
    | some s1 =>
      rw [e] at h1
      obtain ⟨h2, h3⟩ := h1
      have q : lcD G1 tYesD E ((h x).map g1) (wipeS s1 vs1) w = .ok ((h x).map (f x)) w := lc_all g1 (f x) h3
      simp only [tYesD, R.noer_ok, R.bind_ok, if_true, h2, q, List.flatMap_cons]
      rw [show lc2D G tYesD I1 G1 tYesD E vs1 (xs.map g) s w = _ from ih]
      rfl
end
end DL

set_option maxHeartbeats 2000000
namespace DL
open PySem PySem.Spec PyProof.Rows L2
open Evl (Ex)

/-! ### the text -/
variable [OldT]
def topS (i : Nat) : Stmt := PySem.Challenge.pw_sectionwise_k10_whole_sections_of_sectio.main.body.getD i (.Pass ⟨0, 0, 0, 0⟩)
abbrev s_is_number : Stmt := topS 6
abbrev s_is_far : Stmt := topS 7
abbrev s_is_triplet : Stmt := topS 8
abbrev s_is_part : Stmt := topS 9
abbrev s_is_kept : Stmt := topS 10
abbrev s_many_of : Stmt := topS 11
abbrev s_subscript_of : Stmt := topS 12
abbrev s_last_of : Stmt := topS 13
abbrev s_subscripts : Stmt := topS 14
abbrev s_lies_between : Stmt := topS 15
abbrev s_part_of_part : Stmt := topS 16
abbrev s_is_range : Stmt := topS 21
abbrev s_is_bounds : Stmt := topS 20
abbrev s_multiplied : Stmt := topS 22
abbrev s_many_in : Stmt := topS 24
abbrev s_is_section : Stmt := topS 23
abbrev s_check_bounds : Stmt := topS 25
abbrev s_check_section : Stmt := topS 26
abbrev s_composed : Stmt := topS 27
abbrev s_w_mix : Stmt := topS 29
abbrev s_w_draw : Stmt := topS 31
abbrev s_w_pick : Stmt := topS 32
abbrev s_w_bounds : Stmt := topS 33
abbrev s_w_part : Stmt := topS 34
abbrev s_w_section : Stmt := topS 35
abbrev s_w_subscripts : Stmt := topS 36
abbrev s_w_elements : Stmt := topS 37
abbrev s_w_place : Stmt := topS 38
abbrev s_w_many : Stmt := topS 39
abbrev s_w_bare_part : Stmt := topS 40
abbrev s_w_part_due : Stmt := topS 41
abbrev s_w_due : Stmt := topS 42
abbrev s_w_right : Stmt := topS 43
abbrev s_w_source : Stmt := topS 30
abbrev s_law : Stmt := topS 44
abbrev N_is_number : List Str := ["value"]
abbrev P_is_number : List Str := ["value"]
theorem sc_is_number : FnScope N_is_number P_is_number (defScope s_is_number) := ⟨rfl, rfl, rfl, by decide +kernel, rfl, by decide +kernel, by decide +kernel⟩
abbrev N_is_far : List Str := ["value"]
abbrev P_is_far : List Str := ["value"]
theorem sc_is_far : FnScope N_is_far P_is_far (defScope s_is_far) := ⟨rfl, rfl, rfl, by decide +kernel, rfl, by decide +kernel, by decide +kernel⟩
abbrev N_is_triplet : List Str := ["value", "number"]
abbrev P_is_triplet : List Str := ["value"]
theorem sc_is_triplet : FnScope N_is_triplet P_is_triplet (defScope s_is_triplet) := ⟨rfl, rfl, rfl, by decide +kernel, rfl, by decide +kernel, by decide +kernel⟩
abbrev N_is_part : List Str := ["value", "number"]
abbrev P_is_part : List Str := ["value"]
theorem sc_is_part : FnScope N_is_part P_is_part (defScope s_is_part) := ⟨rfl, rfl, rfl, by decide +kernel, rfl, by decide +kernel, by decide +kernel⟩
abbrev N_is_kept : List Str := ["part"]
abbrev P_is_kept : List Str := ["part"]
theorem sc_is_kept : FnScope N_is_kept P_is_kept (defScope s_is_kept) := ⟨rfl, rfl, rfl, by decide +kernel, rfl, by decide +kernel, by decide +kernel⟩
abbrev N_many_of : List Str := ["part", "first", "last", "step"]
abbrev P_many_of : List Str := ["part"]
theorem sc_many_of : FnScope N_many_of P_many_of (defScope s_many_of) := ⟨rfl, rfl, rfl, by decide +kernel, rfl, by decide +kernel, by decide +kernel⟩
abbrev N_subscript_of : List Str := ["part", "index"]
abbrev P_subscript_of : List Str := ["part", "index"]
theorem sc_subscript_of : FnScope N_subscript_of P_subscript_of (defScope s_subscript_of) := ⟨rfl, rfl, rfl, by decide +kernel, rfl, by decide +kernel, by decide +kernel⟩
abbrev N_last_of : List Str := ["part"]
abbrev P_last_of : List Str := ["part"]
theorem sc_last_of : FnScope N_last_of P_last_of (defScope s_last_of) := ⟨rfl, rfl, rfl, by decide +kernel, rfl, by decide +kernel, by decide +kernel⟩
abbrev N_subscripts : List Str := ["part", "index"]
abbrev P_subscripts : List Str := ["part"]
theorem sc_subscripts : FnScope N_subscripts P_subscripts (defScope s_subscripts) := ⟨rfl, rfl, rfl, by decide +kernel, rfl, by decide +kernel, by decide +kernel⟩
abbrev N_lies_between : List Str := ["part", "low", "high", "ends", "number"]
abbrev P_lies_between : List Str := ["part", "low", "high"]
theorem sc_lies_between : FnScope N_lies_between P_lies_between (defScope s_lies_between) := ⟨rfl, rfl, rfl, by decide +kernel, rfl, by decide +kernel, by decide +kernel⟩
abbrev N_part_of_part : List Str := ["part", "inner", "first", "last", "number"]
abbrev P_part_of_part : List Str := ["part", "inner"]
theorem sc_part_of_part : FnScope N_part_of_part P_part_of_part (defScope s_part_of_part) := ⟨rfl, rfl, rfl, by decide +kernel, rfl, by decide +kernel, by decide +kernel⟩
abbrev N_is_range : List Str := ["value", "number"]
abbrev P_is_range : List Str := ["value"]
theorem sc_is_range : FnScope N_is_range P_is_range (defScope s_is_range) := ⟨rfl, rfl, rfl, by decide +kernel, rfl, by decide +kernel, by decide +kernel⟩
abbrev N_is_bounds : List Str := ["value", "pair"]
abbrev P_is_bounds : List Str := ["value"]
theorem sc_is_bounds : FnScope N_is_bounds P_is_bounds (defScope s_is_bounds) := ⟨rfl, rfl, rfl, by decide +kernel, rfl, by decide +kernel, by decide +kernel⟩
abbrev N_multiplied : List Str := ["numbers", "made", "number"]
abbrev P_multiplied : List Str := ["numbers"]
theorem sc_multiplied : FnScope N_multiplied P_multiplied (defScope s_multiplied) := ⟨rfl, rfl, rfl, by decide +kernel, rfl, by decide +kernel, by decide +kernel⟩
abbrev N_many_in : List Str := ["section", "part"]
abbrev P_many_in : List Str := ["section"]
theorem sc_many_in : FnScope N_many_in P_many_in (defScope s_many_in) := ⟨rfl, rfl, rfl, by decide +kernel, rfl, by decide +kernel, by decide +kernel⟩
abbrev N_is_section : List Str := ["bounds", "value", "part", "low", "high"]
abbrev P_is_section : List Str := ["bounds", "value"]
theorem sc_is_section : FnScope N_is_section P_is_section (defScope s_is_section) := ⟨rfl, rfl, rfl, by decide +kernel, rfl, by decide +kernel, by decide +kernel⟩
abbrev N_check_bounds : List Str := ["bounds"]
abbrev P_check_bounds : List Str := ["bounds"]
theorem sc_check_bounds : FnScope N_check_bounds P_check_bounds (defScope s_check_bounds) := ⟨rfl, rfl, rfl, by decide +kernel, rfl, by decide +kernel, by decide +kernel⟩
abbrev N_check_section : List Str := ["bounds", "section", "name"]
abbrev P_check_section : List Str := ["bounds", "section", "name"]
theorem sc_check_section : FnScope N_check_section P_check_section (defScope s_check_section) := ⟨rfl, rfl, rfl, by decide +kernel, rfl, by decide +kernel, by decide +kernel⟩
abbrev N_composed : List Str := ["bounds", "section", "inner", "part", "kept", "made", "told", "behind", "its"]
abbrev P_composed : List Str := ["bounds", "section", "inner"]
theorem sc_composed : FnScope N_composed P_composed (defScope s_composed) := ⟨rfl, rfl, rfl, by decide +kernel, rfl, by decide +kernel, by decide +kernel⟩
abbrev N_w_mix : List Str := ["_law_cell", "_law_lap", "_law_blend"]
abbrev P_w_mix : List Str := ["_law_cell", "_law_lap"]
theorem sc_w_mix : FnScope N_w_mix P_w_mix (defScope s_w_mix) := ⟨rfl, rfl, rfl, by decide +kernel, rfl, by decide +kernel, by decide +kernel⟩
abbrev N_w_draw : List Str := ["_law_well", "_law_many_here", "_law_drawn"]
abbrev P_w_draw : List Str := ["_law_well", "_law_many_here"]
theorem sc_w_draw : FnScope N_w_draw P_w_draw (defScope s_w_draw) := ⟨rfl, rfl, rfl, by decide +kernel, rfl, by decide +kernel, by decide +kernel⟩
abbrev N_w_pick : List Str := ["_law_well", "_law_some"]
abbrev P_w_pick : List Str := ["_law_well", "_law_some"]
theorem sc_w_pick : FnScope N_w_pick P_w_pick (defScope s_w_pick) := ⟨rfl, rfl, rfl, by decide +kernel, rfl, by decide +kernel, by decide +kernel⟩
abbrev N_w_bounds : List Str := ["_law_well", "_law_most", "_law_size", "_law_found", "_law_turn", "_law_low", "_law_high"]
abbrev P_w_bounds : List Str := ["_law_well", "_law_most", "_law_size"]
theorem sc_w_bounds : FnScope N_w_bounds P_w_bounds (defScope s_w_bounds) := ⟨rfl, rfl, rfl, by decide +kernel, rfl, by decide +kernel, by decide +kernel⟩
abbrev N_w_part : List Str := ["_law_well", "_law_low", "_law_high", "_law_many_here", "_law_one", "_law_other", "_law_way", "_law_step", "_law_turn"]
abbrev P_w_part : List Str := ["_law_well", "_law_low", "_law_high"]
theorem sc_w_part : FnScope N_w_part P_w_part (defScope s_w_part) := ⟨rfl, rfl, rfl, by decide +kernel, rfl, by decide +kernel, by decide +kernel⟩
abbrev N_w_section : List Str := ["_law_well", "_law_bounds_so", "_law_low", "_law_high"]
abbrev P_w_section : List Str := ["_law_well", "_law_bounds_so"]
theorem sc_w_section : FnScope N_w_section P_w_section (defScope s_w_section) := ⟨rfl, rfl, rfl, by decide +kernel, rfl, by decide +kernel, by decide +kernel⟩
abbrev N_w_subscripts : List Str := ["_law_part_here", "_law_found", "_law_here"]
abbrev P_w_subscripts : List Str := ["_law_part_here"]
theorem sc_w_subscripts : FnScope N_w_subscripts P_w_subscripts (defScope s_w_subscripts) := ⟨rfl, rfl, rfl, by decide +kernel, rfl, by decide +kernel, by decide +kernel⟩
abbrev N_w_elements : List Str := ["_law_section_so", "_law_found", "_law_part_here", "_law_longer", "_law_row", "_law_one"]
abbrev P_w_elements : List Str := ["_law_section_so"]
theorem sc_w_elements : FnScope N_w_elements P_w_elements (defScope s_w_elements) := ⟨rfl, rfl, rfl, by decide +kernel, rfl, by decide +kernel, by decide +kernel⟩
abbrev N_w_place : List Str := ["_law_bounds_so", "_law_element_so", "_law_found", "_law_by", "_law_one", "_law_low", "_law_high"]
abbrev P_w_place : List Str := ["_law_bounds_so", "_law_element_so"]
theorem sc_w_place : FnScope N_w_place P_w_place (defScope s_w_place) := ⟨rfl, rfl, rfl, by decide +kernel, rfl, by decide +kernel, by decide +kernel⟩
abbrev N_w_many : List Str := ["_law_part_here"]
abbrev P_w_many : List Str := ["_law_part_here"]
theorem sc_w_many : FnScope N_w_many P_w_many (defScope s_w_many) := ⟨rfl, rfl, rfl, by decide +kernel, rfl, by decide +kernel, by decide +kernel⟩
abbrev N_w_bare_part : List Str := ["_law_inner_so"]
abbrev P_w_bare_part : List Str := ["_law_inner_so"]
theorem sc_w_bare_part : FnScope N_w_bare_part P_w_bare_part (defScope s_w_bare_part) := ⟨rfl, rfl, rfl, by decide +kernel, rfl, by decide +kernel, by decide +kernel⟩
abbrev N_w_part_due : List Str := ["_law_part_here", "_law_inner_so", "_law_some", "_law_chosen", "_law_one"]
abbrev P_w_part_due : List Str := ["_law_part_here", "_law_inner_so"]
theorem sc_w_part_due : FnScope N_w_part_due P_w_part_due (defScope s_w_part_due) := ⟨rfl, rfl, rfl, by decide +kernel, rfl, by decide +kernel, by decide +kernel⟩
abbrev N_w_due : List Str := ["_law_section_so", "_law_inner_so", "_law_part_here", "_law_is_none", "_law_found", "_law_at"]
abbrev P_w_due : List Str := ["_law_section_so", "_law_inner_so"]
theorem sc_w_due : FnScope N_w_due P_w_due (defScope s_w_due) := ⟨rfl, rfl, rfl, by decide +kernel, rfl, by decide +kernel, by decide +kernel⟩
abbrev N_w_right : List Str := ["_law_well", "_law_bounds_so", "_law_section_so", "_law_part_here", "_law_kept", "_law_inside_so", "_law_inner_so", "_law_due_here", "_law_told", "_law_some", "_law_one"]
abbrev P_w_right : List Str := ["_law_well"]
theorem sc_w_right : FnScope N_w_right P_w_right (defScope s_w_right) := ⟨rfl, rfl, rfl, by decide +kernel, rfl, by decide +kernel, by decide +kernel⟩
/-- what the top has written -/
structure Txt (K : PySem.W.Frag) (mg : Str → Option Value) where
  a_is_number : Addr
  d_is_number : FuncData
  F_is_number : Fun K "is_number" "is_number" s_is_number a_is_number d_is_number
  g_is_number : mg "is_number" = some (.ref a_is_number)
  a_is_far : Addr
  d_is_far : FuncData
  F_is_far : Fun K "is_far" "is_far" s_is_far a_is_far d_is_far
  g_is_far : mg "is_far" = some (.ref a_is_far)
  a_is_triplet : Addr
  d_is_triplet : FuncData
  F_is_triplet : Fun K "is_triplet" "is_triplet" s_is_triplet a_is_triplet d_is_triplet
  g_is_triplet : mg "is_triplet" = some (.ref a_is_triplet)
  a_is_part : Addr
  d_is_part : FuncData
  F_is_part : Fun K "is_part" "is_part" s_is_part a_is_part d_is_part
  g_is_part : mg "is_part" = some (.ref a_is_part)
  a_is_kept : Addr
  d_is_kept : FuncData
  F_is_kept : Fun K "is_kept" "is_kept" s_is_kept a_is_kept d_is_kept
  g_is_kept : mg "is_kept" = some (.ref a_is_kept)
  a_many_of : Addr
  d_many_of : FuncData
  F_many_of : Fun K "many_of" "many_of" s_many_of a_many_of d_many_of
  g_many_of : mg "many_of" = some (.ref a_many_of)
  a_subscript_of : Addr
  d_subscript_of : FuncData
  F_subscript_of : Fun K "subscript_of" "subscript_of" s_subscript_of a_subscript_of d_subscript_of
  g_subscript_of : mg "subscript_of" = some (.ref a_subscript_of)
  a_last_of : Addr
  d_last_of : FuncData
  F_last_of : Fun K "last_of" "last_of" s_last_of a_last_of d_last_of
  g_last_of : mg "last_of" = some (.ref a_last_of)
  a_subscripts : Addr
  d_subscripts : FuncData
  F_subscripts : Fun K "subscripts" "subscripts" s_subscripts a_subscripts d_subscripts
  g_subscripts : mg "subscripts" = some (.ref a_subscripts)
  a_lies_between : Addr
  d_lies_between : FuncData
  F_lies_between : Fun K "lies_between" "lies_between" s_lies_between a_lies_between d_lies_between
  g_lies_between : mg "lies_between" = some (.ref a_lies_between)
  a_part_of_part : Addr
  d_part_of_part : FuncData
  F_part_of_part : Fun K "part_of_part" "part_of_part" s_part_of_part a_part_of_part d_part_of_part
  g_part_of_part : mg "part_of_part" = some (.ref a_part_of_part)
  a_is_range : Addr
  d_is_range : FuncData
  F_is_range : Fun K "is_range" "is_range" s_is_range a_is_range d_is_range
  g_is_range : mg "is_range" = some (.ref a_is_range)
  a_is_bounds : Addr
  d_is_bounds : FuncData
  F_is_bounds : Fun K "is_bounds" "is_bounds" s_is_bounds a_is_bounds d_is_bounds
  g_is_bounds : mg "is_bounds" = some (.ref a_is_bounds)
  a_multiplied : Addr
  d_multiplied : FuncData
  F_multiplied : Fun K "multiplied" "multiplied" s_multiplied a_multiplied d_multiplied
  g_multiplied : mg "multiplied" = some (.ref a_multiplied)
  a_many_in : Addr
  d_many_in : FuncData
  F_many_in : Fun K "many_in" "many_in" s_many_in a_many_in d_many_in
  g_many_in : mg "many_in" = some (.ref a_many_in)
  a_is_section : Addr
  d_is_section : FuncData
  F_is_section : Fun K "is_section" "is_section" s_is_section a_is_section d_is_section
  g_is_section : mg "is_section" = some (.ref a_is_section)
  a_check_bounds : Addr
  d_check_bounds : FuncData
  F_check_bounds : Fun K "check_bounds" "check_bounds" s_check_bounds a_check_bounds d_check_bounds
  g_check_bounds : mg "check_bounds" = some (.ref a_check_bounds)
  a_check_section : Addr
  d_check_section : FuncData
  F_check_section : Fun K "check_section" "check_section" s_check_section a_check_section d_check_section
  g_check_section : mg "check_section" = some (.ref a_check_section)
  a_composed : Addr
  d_composed : FuncData
  F_composed : Fun K "composed" "composed" s_composed a_composed d_composed
  g_composed : mg "composed" = some (.ref a_composed)
  a_w_mix : Addr
  d_w_mix : FuncData
  F_w_mix : Fun K "_law_mix" "_law_mix" s_w_mix a_w_mix d_w_mix
  g_w_mix : mg "_law_mix" = some (.ref a_w_mix)
  a_w_draw : Addr
  d_w_draw : FuncData
  F_w_draw : Fun K "_law_draw" "_law_draw" s_w_draw a_w_draw d_w_draw
  g_w_draw : mg "_law_draw" = some (.ref a_w_draw)
  a_w_pick : Addr
  d_w_pick : FuncData
  F_w_pick : Fun K "_law_pick" "_law_pick" s_w_pick a_w_pick d_w_pick
  g_w_pick : mg "_law_pick" = some (.ref a_w_pick)
  a_w_bounds : Addr
  d_w_bounds : FuncData
  F_w_bounds : Fun K "_law_bounds" "_law_bounds" s_w_bounds a_w_bounds d_w_bounds
  g_w_bounds : mg "_law_bounds" = some (.ref a_w_bounds)
  a_w_part : Addr
  d_w_part : FuncData
  F_w_part : Fun K "_law_part" "_law_part" s_w_part a_w_part d_w_part
  g_w_part : mg "_law_part" = some (.ref a_w_part)
  a_w_section : Addr
  d_w_section : FuncData
  F_w_section : Fun K "_law_section" "_law_section" s_w_section a_w_section d_w_section
  g_w_section : mg "_law_section" = some (.ref a_w_section)
  a_w_subscripts : Addr
  d_w_subscripts : FuncData
  F_w_subscripts : Fun K "_law_subscripts" "_law_subscripts" s_w_subscripts a_w_subscripts d_w_subscripts
  g_w_subscripts : mg "_law_subscripts" = some (.ref a_w_subscripts)
  a_w_elements : Addr
  d_w_elements : FuncData
  F_w_elements : Fun K "_law_elements" "_law_elements" s_w_elements a_w_elements d_w_elements
  g_w_elements : mg "_law_elements" = some (.ref a_w_elements)
  a_w_place : Addr
  d_w_place : FuncData
  F_w_place : Fun K "_law_place" "_law_place" s_w_place a_w_place d_w_place
  g_w_place : mg "_law_place" = some (.ref a_w_place)
  a_w_many : Addr
  d_w_many : FuncData
  F_w_many : Fun K "_law_many" "_law_many" s_w_many a_w_many d_w_many
  g_w_many : mg "_law_many" = some (.ref a_w_many)
  a_w_bare_part : Addr
  d_w_bare_part : FuncData
  F_w_bare_part : Fun K "_law_bare_part" "_law_bare_part" s_w_bare_part a_w_bare_part d_w_bare_part
  g_w_bare_part : mg "_law_bare_part" = some (.ref a_w_bare_part)
  a_w_part_due : Addr
  d_w_part_due : FuncData
  F_w_part_due : Fun K "_law_part_due" "_law_part_due" s_w_part_due a_w_part_due d_w_part_due
  g_w_part_due : mg "_law_part_due" = some (.ref a_w_part_due)
  a_w_due : Addr
  d_w_due : FuncData
  F_w_due : Fun K "_law_due" "_law_due" s_w_due a_w_due d_w_due
  g_w_due : mg "_law_due" = some (.ref a_w_due)
  a_w_right : Addr
  d_w_right : FuncData
  F_w_right : Fun K "_law_right" "_law_right" s_w_right a_w_right d_w_right
  g_w_right : mg "_law_right" = some (.ref a_w_right)
  a_w_source : Addr
  d_w_source : FuncData
  F_w_source : Fun K "_law_source" "_law_source" s_w_source a_w_source d_w_source
  g_w_source : mg "_law_source" = some (.ref a_w_source)
  a_law : Addr
  d_law : FuncData
  F_law : Fun K "law" "law" s_law a_law d_law
  g_law : mg "law" = some (.ref a_law)
  z_int : mg "int" = none
  z_isinstance : mg "isinstance" = none
  z_bool : mg "bool" = none
  z_tuple : mg "tuple" = none
  z_len : mg "len" = none
  z_all : mg "all" = none
  z_list : mg "list" = none
  z_max : mg "max" = none
  z_range : mg "range" = none
  z_zip : mg "zip" = none
  z_min : mg "min" = none
  z_abs : mg "abs" = none
  t_FAR : Tok
  c_FAR : mg "FAR" = some (.int 1000000000000000000000000000000 t_FAR)
  t_LIST_LIMIT : Tok
  c_LIST_LIMIT : mg "LIST_LIMIT" = some (.int 64 t_LIST_LIMIT)
  t_FARTHEST : Tok
  c_FARTHEST : mg "FARTHEST" = some (.int 500000000000000000000000000000 t_FARTHEST)
  t_DIMENSIONS : Tok
  c_DIMENSIONS : mg "DIMENSIONS" = some (.int 7 t_DIMENSIONS)
section
variable {P : Program} {w : World} {K : PySem.W.Frag} {mg : Str → Option Value} {base : Heap}
theorem b_is_number (T : Txt K mg) : Binds K T.d_is_number ["value"] [] := T.F_is_number.binds fun _ _ _ _ _ _ us hl => match us, hl with | [_], _ => rfl
theorem b_is_far (T : Txt K mg) : Binds K T.d_is_far ["value"] [] := T.F_is_far.binds fun _ _ _ _ _ _ us hl => match us, hl with | [_], _ => rfl
theorem b_is_triplet (T : Txt K mg) : Binds K T.d_is_triplet ["value"] [] := T.F_is_triplet.binds fun _ _ _ _ _ _ us hl => match us, hl with | [_], _ => rfl
theorem b_is_part (T : Txt K mg) : Binds K T.d_is_part ["value"] [] := T.F_is_part.binds fun _ _ _ _ _ _ us hl => match us, hl with | [_], _ => rfl
theorem b_is_kept (T : Txt K mg) : Binds K T.d_is_kept ["part"] [] := T.F_is_kept.binds fun _ _ _ _ _ _ us hl => match us, hl with | [_], _ => rfl
theorem b_many_of (T : Txt K mg) : Binds K T.d_many_of ["part"] [] := T.F_many_of.binds fun _ _ _ _ _ _ us hl => match us, hl with | [_], _ => rfl
theorem b_subscript_of (T : Txt K mg) : Binds K T.d_subscript_of ["part", "index"] [] := T.F_subscript_of.binds fun _ _ _ _ _ _ us hl => match us, hl with | [_, _], _ => rfl
theorem b_last_of (T : Txt K mg) : Binds K T.d_last_of ["part"] [] := T.F_last_of.binds fun _ _ _ _ _ _ us hl => match us, hl with | [_], _ => rfl
theorem b_subscripts (T : Txt K mg) : Binds K T.d_subscripts ["part"] [] := T.F_subscripts.binds fun _ _ _ _ _ _ us hl => match us, hl with | [_], _ => rfl
theorem b_lies_between (T : Txt K mg) : Binds K T.d_lies_between ["part", "low", "high"] [] := T.F_lies_between.binds fun _ _ _ _ _ _ us hl => match us, hl with | [_, _, _], _ => rfl
theorem b_part_of_part (T : Txt K mg) : Binds K T.d_part_of_part ["part", "inner"] [] := T.F_part_of_part.binds fun _ _ _ _ _ _ us hl => match us, hl with | [_, _], _ => rfl
theorem b_is_range (T : Txt K mg) : Binds K T.d_is_range ["value"] [] := T.F_is_range.binds fun _ _ _ _ _ _ us hl => match us, hl with | [_], _ => rfl
theorem b_is_bounds (T : Txt K mg) : Binds K T.d_is_bounds ["value"] [] := T.F_is_bounds.binds fun _ _ _ _ _ _ us hl => match us, hl with | [_], _ => rfl
theorem b_multiplied (T : Txt K mg) : Binds K T.d_multiplied ["numbers"] [] := T.F_multiplied.binds fun _ _ _ _ _ _ us hl => match us, hl with | [_], _ => rfl
theorem b_many_in (T : Txt K mg) : Binds K T.d_many_in ["section"] [] := T.F_many_in.binds fun _ _ _ _ _ _ us hl => match us, hl with | [_], _ => rfl
theorem b_is_section (T : Txt K mg) : Binds K T.d_is_section ["bounds", "value"] [] := T.F_is_section.binds fun _ _ _ _ _ _ us hl => match us, hl with | [_, _], _ => rfl
theorem b_check_bounds (T : Txt K mg) : Binds K T.d_check_bounds ["bounds"] [] := T.F_check_bounds.binds fun _ _ _ _ _ _ us hl => match us, hl with | [_], _ => rfl
theorem b_check_section (T : Txt K mg) : Binds K T.d_check_section ["bounds", "section", "name"] [] := T.F_check_section.binds fun _ _ _ _ _ _ us hl => match us, hl with | [_, _, _], _ => rfl
theorem b_composed (T : Txt K mg) : Binds K T.d_composed ["bounds", "section", "inner"] [] := T.F_composed.binds fun _ _ _ _ _ _ us hl => match us, hl with | [_, _, _], _ => rfl
theorem b_w_mix (T : Txt K mg) : Binds K T.d_w_mix ["_law_cell", "_law_lap"] [] := T.F_w_mix.binds fun _ _ _ _ _ _ us hl => match us, hl with | [_, _], _ => rfl
theorem b_w_draw (T : Txt K mg) : Binds K T.d_w_draw ["_law_well", "_law_many_here"] [] := T.F_w_draw.binds fun _ _ _ _ _ _ us hl => match us, hl with | [_, _], _ => rfl
theorem b_w_pick (T : Txt K mg) : Binds K T.d_w_pick ["_law_well", "_law_some"] [] := T.F_w_pick.binds fun _ _ _ _ _ _ us hl => match us, hl with | [_, _], _ => rfl
theorem b_w_bounds (T : Txt K mg) : Binds K T.d_w_bounds ["_law_well", "_law_most", "_law_size"] [] := T.F_w_bounds.binds fun _ _ _ _ _ _ us hl => match us, hl with | [_, _, _], _ => rfl
theorem b_w_part (T : Txt K mg) : Binds K T.d_w_part ["_law_well", "_law_low", "_law_high"] [] := T.F_w_part.binds fun _ _ _ _ _ _ us hl => match us, hl with | [_, _, _], _ => rfl
theorem b_w_section (T : Txt K mg) : Binds K T.d_w_section ["_law_well", "_law_bounds_so"] [] := T.F_w_section.binds fun _ _ _ _ _ _ us hl => match us, hl with | [_, _], _ => rfl
theorem b_w_subscripts (T : Txt K mg) : Binds K T.d_w_subscripts ["_law_part_here"] [] := T.F_w_subscripts.binds fun _ _ _ _ _ _ us hl => match us, hl with | [_], _ => rfl
theorem b_w_elements (T : Txt K mg) : Binds K T.d_w_elements ["_law_section_so"] [] := T.F_w_elements.binds fun _ _ _ _ _ _ us hl => match us, hl with | [_], _ => rfl
theorem b_w_place (T : Txt K mg) : Binds K T.d_w_place ["_law_bounds_so", "_law_element_so"] [] := T.F_w_place.binds fun _ _ _ _ _ _ us hl => match us, hl with | [_, _], _ => rfl
theorem b_w_many (T : Txt K mg) : Binds K T.d_w_many ["_law_part_here"] [] := T.F_w_many.binds fun _ _ _ _ _ _ us hl => match us, hl with | [_], _ => rfl
theorem b_w_bare_part (T : Txt K mg) : Binds K T.d_w_bare_part ["_law_inner_so"] [] := T.F_w_bare_part.binds fun _ _ _ _ _ _ us hl => match us, hl with | [_], _ => rfl
theorem b_w_part_due (T : Txt K mg) : Binds K T.d_w_part_due ["_law_part_here", "_law_inner_so"] [] := T.F_w_part_due.binds fun _ _ _ _ _ _ us hl => match us, hl with | [_, _], _ => rfl
theorem b_w_due (T : Txt K mg) : Binds K T.d_w_due ["_law_section_so", "_law_inner_so"] [] := T.F_w_due.binds fun _ _ _ _ _ _ us hl => match us, hl with | [_, _], _ => rfl
theorem b_w_right (T : Txt K mg) : Binds K T.d_w_right ["_law_well"] [] := T.F_w_right.binds fun _ _ _ _ _ _ us hl => match us, hl with | [_], _ => rfl
theorem b_w_source (T : Txt K mg) : Binds K T.d_w_source ["_law_script", "_law_k"] [] := T.F_w_source.binds fun _ _ _ _ _ _ us hl => match us, hl with | [_, _], _ => rfl
theorem b_law (T : Txt K mg) : Binds K T.d_law ["_law_script"] [] := T.F_law.binds fun _ _ _ _ _ _ us hl => match us, hl with | [_], _ => rfl
def B_is_number : DS := (sRet (eAnd (eCB fIsi (aCons (eVar 0) (aCons (eC (.ty "int")) aNil))) (eNot (eCB fIsi (aCons (eVar 0) (aCons (eC (.ty "bool")) aNil))))))
def F_is_number : DF := runB 1 1 B_is_number
theorem d_is_number (T : Txt K mg) : FnD P w K mg base 1 T.a_is_number T.d_is_number P_is_number F_is_number := fnD T.F_is_number sc_is_number (by decide) B_is_number (fun cdv A outer s H E hr => (sd_one (sd_ret (pd_and (pd_cb call_isiA cd_isi (by rfl) T.z_isinstance (by decide +kernel) (ad_cons (pd_var 0) (ad_cons (pd_ty (by rfl) T.z_int (by decide +kernel)) ad_nil))) (pd_one (pd_not (pd_cb call_isiA cd_isi (by rfl) T.z_isinstance (by decide +kernel) (ad_cons (pd_var 0) (ad_cons (pd_ty (by rfl) T.z_bool (by decide +kernel)) ad_nil)))))))))
def B_is_far : DS := (sRet (eAnd (eCall 1 F_is_number (aCons (eVar 0) aNil)) (eChain fLe fLe (eUn fNeg (eC (.int 1000000000000000000000000000000))) (eVar 0) (eC (.int 1000000000000000000000000000000)))))
def F_is_far : DF := runB 1 1 B_is_far
theorem d_is_far (T : Txt K mg) : FnD P w K mg base 2 T.a_is_far T.d_is_far P_is_far F_is_far := fnD T.F_is_far sc_is_far (by decide) B_is_far (fun cdv A outer s H E hr => (sd_one (sd_ret (pd_and (by refine pd_call (k := 1) (f := T.a_is_number) (fd := T.d_is_number) (ps := P_is_number) (F := F_is_number) ?_ ?_ ?_ ?_ ?_ ?_ ?_ ?_; exact d_is_number T; exact hr.mono (by decide); exact rfl; exact T.g_is_number; exact T.F_is_number.kp; exact b_is_number T; exact (wok_takes (takes_of rfl rfl rfl rfl)); exact (ad_cons (pd_var 0) ad_nil)) (pd_one (pd_chain op_le op_le opd_cmp opd_cmp (pd_neg (pd_globI (by rfl) T.c_FAR)) (pd_var 0) (pd_globI (by rfl) T.c_FAR)))))))
def B_is_triplet : DS := (sSeq (sIf (tOn (tNo (tTr (eCB fIsi (aCons (eVar 0) (aCons (eC (.ty "tuple")) aNil))))) (tE (eBin fNe (eCB fLen (aCons (eVar 0) aNil)) (eC (.int 3))))) (sRet (eC (.bl false))) sNx) (sRet (eAnd (eCB fAll (aCons (eL (aLc (iSeq (eVar 0)) (gN 1) tYesD (eCall 1 F_is_far (aCons (eVar 1) aNil)) [1])) aNil)) (eBin fNe (eBin fIx (eVar 0) (eC (.int 2))) (eC (.int 0))))))
def F_is_triplet : DF := runB 2 1 B_is_triplet
theorem d_is_triplet (T : Txt K mg) : FnD P w K mg base 3 T.a_is_triplet T.d_is_triplet P_is_triplet F_is_triplet := fnD T.F_is_triplet sc_is_triplet (by decide) B_is_triplet (fun cdv A outer s H E hr => (sd_cons (sd_if (qd_or (qd_not (qd_tr (pd_cb call_isiA cd_isi (by rfl) T.z_isinstance (by decide +kernel) (ad_cons (pd_var 0) (ad_cons (pd_ty (by rfl) T.z_tuple (by decide +kernel)) ad_nil))))) (qd_or1 (qd_ne hr.units (pd_cb call_len cd_len (by rfl) T.z_len (by decide +kernel) (ad_cons (pd_var 0) ad_nil)) pd_int))).pt (sd_one (sd_ret pd_bl)) sd_nil) (sd_one (sd_ret (pd_and (pd_cb (cr_all rfl) cd_all (by rfl) T.z_all (by decide +kernel) (ad_cons (pd_L (pl_lc (own := [("number", 1)]) rfl sc_is_triplet.nd (id_seq (pd_var 0)) (blkOk_by (own := [("number", 1)]) (N := N_is_triplet) (sc := defScope s_is_triplet) (by decide +kernel)) (fun _ _ _ _ _ => (gd_name (i := 1) sc_is_triplet.nd rfl (Or.inl rfl) (by decide))) (fun _ _ _ _ _ => td_nil) (fun _ _ _ _ _ => (by refine pd_call (k := 2) (f := T.a_is_far) (fd := T.d_is_far) (ps := P_is_far) (F := F_is_far) ?_ ?_ ?_ ?_ ?_ ?_ ?_ ?_; exact d_is_far T; exact hr.mono (by decide); exact rfl; exact T.g_is_far; exact T.F_is_far.kp; exact b_is_far T; exact wok0; exact (ad_cons (pd_var 1) ad_nil))))) ad_nil)) (pd_one (pd_ne hr.units (pd_ix (pd_var 0) pd_int) pd_int)))))))
def B_is_part : DS := (sSeq (sIf (tTr (eCB fIsi (aCons (eVar 0) (aCons (eC (.ty "list")) aNil)))) (sRet (eAnd (eBin fLe (eCB fLen (aCons (eVar 0) aNil)) (eC (.int 64))) (eCB fAll (aCons (eL (aLc (iSeq (eVar 0)) (gN 1) tYesD (eCall 1 F_is_far (aCons (eVar 1) aNil)) [1])) aNil)))) sNx) (sRet (eOr (eCall 1 F_is_far (aCons (eVar 0) aNil)) (eCall 1 F_is_triplet (aCons (eVar 0) aNil)))))
def F_is_part : DF := runB 2 1 B_is_part
theorem d_is_part (T : Txt K mg) : FnD P w K mg base 4 T.a_is_part T.d_is_part P_is_part F_is_part := fnD T.F_is_part sc_is_part (by decide) B_is_part (fun cdv A outer s H E hr => (sd_cons (sd_if (qd_tr (pd_cb call_isiA cd_isi (by rfl) T.z_isinstance (by decide +kernel) (ad_cons (pd_var 0) (ad_cons (pd_ty (by rfl) T.z_list (by decide +kernel)) ad_nil)))) (sd_one (sd_ret (pd_and (pd_le (pd_cb call_len cd_len (by rfl) T.z_len (by decide +kernel) (ad_cons (pd_var 0) ad_nil)) (pd_globI (by rfl) T.c_LIST_LIMIT)) (pd_one (pd_cb (cr_all rfl) cd_all (by rfl) T.z_all (by decide +kernel) (ad_cons (pd_L (pl_lc (own := [("number", 1)]) rfl sc_is_part.nd (id_seq (pd_var 0)) (blkOk_by (own := [("number", 1)]) (N := N_is_part) (sc := defScope s_is_part) (by decide +kernel)) (fun _ _ _ _ _ => (gd_name (i := 1) sc_is_part.nd rfl (Or.inl rfl) (by decide))) (fun _ _ _ _ _ => td_nil) (fun _ _ _ _ _ => (by refine pd_call (k := 2) (f := T.a_is_far) (fd := T.d_is_far) (ps := P_is_far) (F := F_is_far) ?_ ?_ ?_ ?_ ?_ ?_ ?_ ?_; exact d_is_far T; exact hr.mono (by decide); exact rfl; exact T.g_is_far; exact T.F_is_far.kp; exact b_is_far T; exact wok0; exact (ad_cons (pd_var 1) ad_nil))))) ad_nil)))))) sd_nil) (sd_one (sd_ret (pd_or (by refine pd_call (k := 2) (f := T.a_is_far) (fd := T.d_is_far) (ps := P_is_far) (F := F_is_far) ?_ ?_ ?_ ?_ ?_ ?_ ?_ ?_; exact d_is_far T; exact hr.mono (by decide); exact rfl; exact T.g_is_far; exact T.F_is_far.kp; exact b_is_far T; exact (wok_takes (takes_of rfl rfl rfl rfl)); exact (ad_cons (pd_var 0) ad_nil)) (pd_one (by refine pd_call (k := 3) (f := T.a_is_triplet) (fd := T.d_is_triplet) (ps := P_is_triplet) (F := F_is_triplet) ?_ ?_ ?_ ?_ ?_ ?_ ?_ ?_; exact d_is_triplet T; exact hr.mono (by decide); exact rfl; exact T.g_is_triplet; exact T.F_is_triplet.kp; exact b_is_triplet T; exact (wok_takes (takes_of rfl rfl rfl rfl)); exact (ad_cons (pd_var 0) ad_nil))))))))
def B_is_kept : DS := (sRet (eNot (eCall 1 F_is_number (aCons (eVar 0) aNil))))
def F_is_kept : DF := runB 1 1 B_is_kept
theorem d_is_kept (T : Txt K mg) : FnD P w K mg base 2 T.a_is_kept T.d_is_kept P_is_kept F_is_kept := fnD T.F_is_kept sc_is_kept (by decide) B_is_kept (fun cdv A outer s H E hr => (sd_one (sd_ret (pd_not (by refine pd_call (k := 1) (f := T.a_is_number) (fd := T.d_is_number) (ps := P_is_number) (F := F_is_number) ?_ ?_ ?_ ?_ ?_ ?_ ?_ ?_; exact d_is_number T; exact hr.mono (by decide); exact rfl; exact T.g_is_number; exact T.F_is_number.kp; exact b_is_number T; exact (wok_takes (takes_of rfl rfl rfl rfl)); exact (ad_cons (pd_var 0) ad_nil))))))
def B_many_of : DS := (sSeq (sIf (tTr (eCB fIsi (aCons (eVar 0) (aCons (eC (.ty "list")) aNil)))) (sRet (eCB fLen (aCons (eVar 0) aNil))) sNx) (sSeq (sIf (tTr (eCB fIsi (aCons (eVar 0) (aCons (eC (.ty "tuple")) aNil)))) (sSeq (sTg (gT (gCons' (gN 1) (gCons' (gN 2) (gCons' (gN 3) gNil'))) 3) (eVar 0)) (sRet (eCB fMax2 (aCons (eC (.int 0)) (aCons (eBin fDiv (eBin fAdd (eBin fSub (eVar 2) (eVar 1)) (eVar 3)) (eVar 3)) aNil))))) sNx) (sRet (eC (.int 1)))))
def F_many_of : DF := runB 4 1 B_many_of
theorem d_many_of (T : Txt K mg) : FnD P w K mg base 1 T.a_many_of T.d_many_of P_many_of F_many_of := fnD T.F_many_of sc_many_of (by decide) B_many_of (fun cdv A outer s H E hr => (sd_cons (sd_if (qd_tr (pd_cb call_isiA cd_isi (by rfl) T.z_isinstance (by decide +kernel) (ad_cons (pd_var 0) (ad_cons (pd_ty (by rfl) T.z_list (by decide +kernel)) ad_nil)))) (sd_one (sd_ret (pd_cb call_len cd_len (by rfl) T.z_len (by decide +kernel) (ad_cons (pd_var 0) ad_nil)))) sd_nil) (sd_cons (sd_if (qd_tr (pd_cb call_isiA cd_isi (by rfl) T.z_isinstance (by decide +kernel) (ad_cons (pd_var 0) (ad_cons (pd_ty (by rfl) T.z_tuple (by decide +kernel)) ad_nil)))) (sd_cons (sd_tg (vs := [1, 2, 3]) (ps_asg (pd_var 0) (gd_tup rfl (gd_cons (gd_name (i := 1) sc_many_of.nd rfl (Or.inl rfl) (by decide)) (gd_cons (gd_name (i := 2) sc_many_of.nd rfl (Or.inl rfl) (by decide)) (gd_cons (gd_name (i := 3) sc_many_of.nd rfl (Or.inl rfl) (by decide)) gd_nil)))))) (sd_one (sd_ret (pd_cb (call_max2 rfl) cd_max2 (by rfl) T.z_max (by decide +kernel) (ad_cons pd_int (ad_cons (pd_div (pd_add (pd_sub (pd_var 2) (pd_var 1)) (pd_var 3)) (pd_var 3)) ad_nil)))))) sd_nil) (sd_one (sd_ret pd_int)))))
def B_subscript_of : DS := (sSeq (sIf (tTr (eCB fIsi (aCons (eVar 0) (aCons (eC (.ty "list")) aNil)))) (sRet (eBin fIx (eVar 0) (eVar 1))) sNx) (sSeq (sIf (tTr (eCB fIsi (aCons (eVar 0) (aCons (eC (.ty "tuple")) aNil)))) (sRet (eBin fAdd (eBin fIx (eVar 0) (eC (.int 0))) (eBin fMul (eVar 1) (eBin fIx (eVar 0) (eC (.int 2)))))) sNx) (sRet (eVar 0))))
def F_subscript_of : DF := runB 2 2 B_subscript_of
theorem d_subscript_of (T : Txt K mg) : FnD P w K mg base 1 T.a_subscript_of T.d_subscript_of P_subscript_of F_subscript_of := fnD T.F_subscript_of sc_subscript_of (by decide) B_subscript_of (fun cdv A outer s H E hr => (sd_cons (sd_if (qd_tr (pd_cb call_isiA cd_isi (by rfl) T.z_isinstance (by decide +kernel) (ad_cons (pd_var 0) (ad_cons (pd_ty (by rfl) T.z_list (by decide +kernel)) ad_nil)))) (sd_one (sd_ret (pd_ix (pd_var 0) (pd_var 1)))) sd_nil) (sd_cons (sd_if (qd_tr (pd_cb call_isiA cd_isi (by rfl) T.z_isinstance (by decide +kernel) (ad_cons (pd_var 0) (ad_cons (pd_ty (by rfl) T.z_tuple (by decide +kernel)) ad_nil)))) (sd_one (sd_ret (pd_add (pd_ix (pd_var 0) pd_int) (pd_mul (pd_var 1) (pd_ix (pd_var 0) pd_int))))) sd_nil) (sd_one (sd_ret (pd_var 0))))))
def B_last_of : DS := (sRet (eCall 2 F_subscript_of (aCons (eVar 0) (aCons (eBin fSub (eCall 1 F_many_of (aCons (eVar 0) aNil)) (eC (.int 1))) aNil))))
def F_last_of : DF := runB 1 1 B_last_of
theorem d_last_of (T : Txt K mg) : FnD P w K mg base 2 T.a_last_of T.d_last_of P_last_of F_last_of := fnD T.F_last_of sc_last_of (by decide) B_last_of (fun cdv A outer s H E hr => (sd_one (sd_ret (by refine pd_call (k := 1) (f := T.a_subscript_of) (fd := T.d_subscript_of) (ps := P_subscript_of) (F := F_subscript_of) ?_ ?_ ?_ ?_ ?_ ?_ ?_ ?_; exact d_subscript_of T; exact hr.mono (by decide); exact rfl; exact T.g_subscript_of; exact T.F_subscript_of.kp; exact b_subscript_of T; exact (wok_takes (takes_of rfl rfl rfl rfl)); exact (ad_cons (pd_var 0) (ad_cons (pd_sub (by refine pd_call (k := 1) (f := T.a_many_of) (fd := T.d_many_of) (ps := P_many_of) (F := F_many_of) ?_ ?_ ?_ ?_ ?_ ?_ ?_ ?_; exact d_many_of T; exact hr.mono (by decide); exact rfl; exact T.g_many_of; exact T.F_many_of.kp; exact b_many_of T; exact (wok_takes (takes_of rfl rfl rfl rfl)); exact (ad_cons (pd_var 0) ad_nil)) pd_int) ad_nil))))))
def B_subscripts : DS := (sRet (eL (aLc (iRng1 (aCons (eCall 1 F_many_of (aCons (eVar 0) aNil)) aNil)) (gN 1) tYesD (eCall 2 F_subscript_of (aCons (eVar 0) (aCons (eVar 1) aNil))) [1])))
def F_subscripts : DF := runB 2 1 B_subscripts
theorem d_subscripts (T : Txt K mg) : FnD P w K mg base 2 T.a_subscripts T.d_subscripts P_subscripts F_subscripts := fnD T.F_subscripts sc_subscripts (by decide) B_subscripts (fun cdv A outer s H E hr => (sd_one (sd_ret (pd_L (pl_lc (own := [("index", 1)]) rfl sc_subscripts.nd (id_rng1 (by rfl) T.z_range (ad_cons (by refine pd_call (k := 1) (f := T.a_many_of) (fd := T.d_many_of) (ps := P_many_of) (F := F_many_of) ?_ ?_ ?_ ?_ ?_ ?_ ?_ ?_; exact d_many_of T; exact hr.mono (by decide); exact rfl; exact T.g_many_of; exact T.F_many_of.kp; exact b_many_of T; exact (wok_takes (takes_of rfl rfl rfl rfl)); exact (ad_cons (pd_var 0) ad_nil)) ad_nil)) (blkOk_by (own := [("index", 1)]) (N := N_subscripts) (sc := defScope s_subscripts) (by decide +kernel)) (fun _ _ _ _ _ => (gd_name (i := 1) sc_subscripts.nd rfl (Or.inl rfl) (by decide))) (fun _ _ _ _ _ => td_nil) (fun _ _ _ _ _ => (by refine pd_call (k := 1) (f := T.a_subscript_of) (fd := T.d_subscript_of) (ps := P_subscript_of) (F := F_subscript_of) ?_ ?_ ?_ ?_ ?_ ?_ ?_ ?_; exact d_subscript_of T; exact hr.mono (by decide); exact rfl; exact T.g_subscript_of; exact T.F_subscript_of.kp; exact b_subscript_of T; exact wok0; exact (ad_cons (pd_var 0) (ad_cons (pd_var 1) ad_nil)))))))))
def B_lies_between : DS := (sSeq (sIf (tTr (eCB fIsi (aCons (eVar 0) (aCons (eC (.ty "tuple")) aNil)))) (sAsg 3 (eL (aLst (aCons (eBin fIx (eVar 0) (eC (.int 0))) (aCons (eCall 1 F_last_of (aCons (eVar 0) aNil)) aNil))))) (sAsg 3 (eCall 1 F_subscripts (aCons (eVar 0) aNil)))) (sRet (eCB fAll (aCons (eL (aLc (iSeq (eVar 3)) (gN 4) tYesD (eChain fLe fLe (eVar 1) (eVar 4) (eVar 2)) [4])) aNil))))
def F_lies_between : DF := runB 5 3 B_lies_between
theorem d_lies_between (T : Txt K mg) : FnD P w K mg base 3 T.a_lies_between T.d_lies_between P_lies_between F_lies_between := fnD T.F_lies_between sc_lies_between (by decide) B_lies_between (fun cdv A outer s H E hr => (sd_cons (sd_if (qd_tr (pd_cb call_isiA cd_isi (by rfl) T.z_isinstance (by decide +kernel) (ad_cons (pd_var 0) (ad_cons (pd_ty (by rfl) T.z_tuple (by decide +kernel)) ad_nil)))) (sd_one (sd_asg (ps_set (i := 3) sc_lies_between.nd rfl (Or.inl rfl) (pd_L (pl_lst (ad_cons (pd_ix (pd_var 0) pd_int) (ad_cons (by refine pd_call (k := 2) (f := T.a_last_of) (fd := T.d_last_of) (ps := P_last_of) (F := F_last_of) ?_ ?_ ?_ ?_ ?_ ?_ ?_ ?_; exact d_last_of T; exact hr.mono (by decide); exact rfl; exact T.g_last_of; exact T.F_last_of.kp; exact b_last_of T; exact (wok_takes (takes_of rfl rfl rfl rfl)); exact (ad_cons (pd_var 0) ad_nil)) ad_nil))))))) (sd_one (sd_asg (ps_set (i := 3) sc_lies_between.nd rfl (Or.inl rfl) (by refine pd_call (k := 2) (f := T.a_subscripts) (fd := T.d_subscripts) (ps := P_subscripts) (F := F_subscripts) ?_ ?_ ?_ ?_ ?_ ?_ ?_ ?_; exact d_subscripts T; exact hr.mono (by decide); exact rfl; exact T.g_subscripts; exact T.F_subscripts.kp; exact b_subscripts T; exact (wok_takes (takes_of rfl rfl rfl rfl)); exact (ad_cons (pd_var 0) ad_nil)))))) (sd_one (sd_ret (pd_cb (cr_all rfl) cd_all (by rfl) T.z_all (by decide +kernel) (ad_cons (pd_L (pl_lc (own := [("number", 4)]) rfl sc_lies_between.nd (id_seq (pd_var 3)) (blkOk_by (own := [("number", 4)]) (N := N_lies_between) (sc := defScope s_lies_between) (by decide +kernel)) (fun _ _ _ _ _ => (gd_name (i := 4) sc_lies_between.nd rfl (Or.inl rfl) (by decide))) (fun _ _ _ _ _ => td_nil) (fun _ _ _ _ _ => (pd_chain op_le op_le opd_cmp opd_cmp (pd_var 1) (pd_var 4) (pd_var 2))))) ad_nil))))))
def B_part_of_part : DS := (sSeq (sIf (tNo (tTr (eCall 1 F_is_kept (aCons (eVar 1) aNil)))) (sRet (eCall 2 F_subscript_of (aCons (eVar 0) (aCons (eBin fSub (eVar 1) (eC (.int 1))) aNil)))) sNx) (sSeq (sIf (tOn (tTr (eCB fIsi (aCons (eVar 0) (aCons (eC (.ty "list")) aNil)))) (tTr (eCB fIsi (aCons (eVar 1) (aCons (eC (.ty "list")) aNil))))) (sRet (eNL (aLc (iSeq (eCall 1 F_subscripts (aCons (eVar 1) aNil))) (gN 4) tYesD (eCall 2 F_subscript_of (aCons (eVar 0) (aCons (eBin fSub (eVar 4) (eC (.int 1))) aNil))) [4]))) sNx) (sSeq (sAsg 2 (eCall 2 F_subscript_of (aCons (eVar 0) (aCons (eBin fSub (eBin fIx (eVar 1) (eC (.int 0))) (eC (.int 1))) aNil)))) (sSeq (sAsg 3 (eCall 2 F_subscript_of (aCons (eVar 0) (aCons (eBin fSub (eCall 1 F_last_of (aCons (eVar 1) aNil)) (eC (.int 1))) aNil)))) (sSeq (sIf (tE (eBin fEq (eCall 1 F_many_of (aCons (eVar 1) aNil)) (eC (.int 1)))) (sRet (eTup (aCons (eVar 2) (aCons (eVar 3) (aCons (eC (.int 1)) aNil))))) sNx) (sRet (eTup (aCons (eVar 2) (aCons (eVar 3) (aCons (eBin fMul (eBin fIx (eVar 0) (eC (.int 2))) (eBin fIx (eVar 1) (eC (.int 2)))) aNil))))))))))
def F_part_of_part : DF := runB 5 2 B_part_of_part
theorem d_part_of_part (T : Txt K mg) : FnD P w K mg base 3 T.a_part_of_part T.d_part_of_part P_part_of_part F_part_of_part := fnD T.F_part_of_part sc_part_of_part (by decide) B_part_of_part (fun cdv A outer s H E hr => (sd_cons (sd_if (qd_not (qd_tr (by refine pd_call (k := 2) (f := T.a_is_kept) (fd := T.d_is_kept) (ps := P_is_kept) (F := F_is_kept) ?_ ?_ ?_ ?_ ?_ ?_ ?_ ?_; exact d_is_kept T; exact hr.mono (by decide); exact rfl; exact T.g_is_kept; exact T.F_is_kept.kp; exact b_is_kept T; exact (wok_takes (takes_of rfl rfl rfl rfl)); exact (ad_cons (pd_var 1) ad_nil)))) (sd_one (sd_ret (by refine pd_call (k := 1) (f := T.a_subscript_of) (fd := T.d_subscript_of) (ps := P_subscript_of) (F := F_subscript_of) ?_ ?_ ?_ ?_ ?_ ?_ ?_ ?_; exact d_subscript_of T; exact hr.mono (by decide); exact rfl; exact T.g_subscript_of; exact T.F_subscript_of.kp; exact b_subscript_of T; exact (wok_takes (takes_of rfl rfl rfl rfl)); exact (ad_cons (pd_var 0) (ad_cons (pd_sub (pd_var 1) pd_int) ad_nil))))) sd_nil) (sd_cons (sd_if (qd_or (qd_tr (pd_cb call_isiA cd_isi (by rfl) T.z_isinstance (by decide +kernel) (ad_cons (pd_var 0) (ad_cons (pd_ty (by rfl) T.z_list (by decide +kernel)) ad_nil)))) (qd_or1 (qd_tr (pd_cb call_isiA cd_isi (by rfl) T.z_isinstance (by decide +kernel) (ad_cons (pd_var 1) (ad_cons (pd_ty (by rfl) T.z_list (by decide +kernel)) ad_nil)))))).pt (sd_one (sd_ret (pd_NL (pl_lc (own := [("number", 4)]) rfl sc_part_of_part.nd (id_seq (by refine pd_call (k := 2) (f := T.a_subscripts) (fd := T.d_subscripts) (ps := P_subscripts) (F := F_subscripts) ?_ ?_ ?_ ?_ ?_ ?_ ?_ ?_; exact d_subscripts T; exact hr.mono (by decide); exact rfl; exact T.g_subscripts; exact T.F_subscripts.kp; exact b_subscripts T; exact (wok_takes (takes_of rfl rfl rfl rfl)); exact (ad_cons (pd_var 1) ad_nil))) (blkOk_by (own := [("number", 4)]) (N := N_part_of_part) (sc := defScope s_part_of_part) (by decide +kernel)) (fun _ _ _ _ _ => (gd_name (i := 4) sc_part_of_part.nd rfl (Or.inl rfl) (by decide))) (fun _ _ _ _ _ => td_nil) (fun _ _ _ _ _ => (by refine pd_call (k := 1) (f := T.a_subscript_of) (fd := T.d_subscript_of) (ps := P_subscript_of) (F := F_subscript_of) ?_ ?_ ?_ ?_ ?_ ?_ ?_ ?_; exact d_subscript_of T; exact hr.mono (by decide); exact rfl; exact T.g_subscript_of; exact T.F_subscript_of.kp; exact b_subscript_of T; exact wok0; exact (ad_cons (pd_var 0) (ad_cons (pd_sub (pd_var 4) pd_int) ad_nil)))))))) sd_nil) (sd_cons (sd_asg (ps_set (i := 2) sc_part_of_part.nd rfl (Or.inl rfl) (by refine pd_call (k := 1) (f := T.a_subscript_of) (fd := T.d_subscript_of) (ps := P_subscript_of) (F := F_subscript_of) ?_ ?_ ?_ ?_ ?_ ?_ ?_ ?_; exact d_subscript_of T; exact hr.mono (by decide); exact rfl; exact T.g_subscript_of; exact T.F_subscript_of.kp; exact b_subscript_of T; exact (wok_takes (takes_of rfl rfl rfl rfl)); exact (ad_cons (pd_var 0) (ad_cons (pd_sub (pd_ix (pd_var 1) pd_int) pd_int) ad_nil))))) (sd_cons (sd_asg (ps_set (i := 3) sc_part_of_part.nd rfl (Or.inl rfl) (by refine pd_call (k := 1) (f := T.a_subscript_of) (fd := T.d_subscript_of) (ps := P_subscript_of) (F := F_subscript_of) ?_ ?_ ?_ ?_ ?_ ?_ ?_ ?_; exact d_subscript_of T; exact hr.mono (by decide); exact rfl; exact T.g_subscript_of; exact T.F_subscript_of.kp; exact b_subscript_of T; exact (wok_takes (takes_of rfl rfl rfl rfl)); exact (ad_cons (pd_var 0) (ad_cons (pd_sub (by refine pd_call (k := 2) (f := T.a_last_of) (fd := T.d_last_of) (ps := P_last_of) (F := F_last_of) ?_ ?_ ?_ ?_ ?_ ?_ ?_ ?_; exact d_last_of T; exact hr.mono (by decide); exact rfl; exact T.g_last_of; exact T.F_last_of.kp; exact b_last_of T; exact (wok_takes (takes_of rfl rfl rfl rfl)); exact (ad_cons (pd_var 1) ad_nil)) pd_int) ad_nil))))) (sd_cons (sd_if (qd_eq hr.units (by refine pd_call (k := 1) (f := T.a_many_of) (fd := T.d_many_of) (ps := P_many_of) (F := F_many_of) ?_ ?_ ?_ ?_ ?_ ?_ ?_ ?_; exact d_many_of T; exact hr.mono (by decide); exact rfl; exact T.g_many_of; exact T.F_many_of.kp; exact b_many_of T; exact (wok_takes (takes_of rfl rfl rfl rfl)); exact (ad_cons (pd_var 1) ad_nil)) pd_int) (sd_one (sd_ret (pd_tup (ad_cons (pd_var 2) (ad_cons (pd_var 3) (ad_cons pd_int ad_nil)))))) sd_nil) (sd_one (sd_ret (pd_tup (ad_cons (pd_var 2) (ad_cons (pd_var 3) (ad_cons (pd_mul (pd_ix (pd_var 0) pd_int) (pd_ix (pd_var 1) pd_int)) ad_nil))))))))))))
def B_is_range : DS := (sSeq (sIf (tOn (tNo (tTr (eCB fIsi (aCons (eVar 0) (aCons (eC (.ty "tuple")) aNil))))) (tE (eBin fNe (eCB fLen (aCons (eVar 0) aNil)) (eC (.int 2))))) (sRet (eC (.bl false))) sNx) (sRet (eCB fAll (aCons (eL (aLc (iSeq (eVar 0)) (gN 1) tYesD (eAnd (eCall 1 F_is_number (aCons (eVar 1) aNil)) (eChain fLe fLe (eUn fNeg (eC (.int 500000000000000000000000000000))) (eVar 1) (eC (.int 500000000000000000000000000000)))) [1])) aNil))))
def F_is_range : DF := runB 2 1 B_is_range
theorem d_is_range (T : Txt K mg) : FnD P w K mg base 2 T.a_is_range T.d_is_range P_is_range F_is_range := fnD T.F_is_range sc_is_range (by decide) B_is_range (fun cdv A outer s H E hr => (sd_cons (sd_if (qd_or (qd_not (qd_tr (pd_cb call_isiA cd_isi (by rfl) T.z_isinstance (by decide +kernel) (ad_cons (pd_var 0) (ad_cons (pd_ty (by rfl) T.z_tuple (by decide +kernel)) ad_nil))))) (qd_or1 (qd_ne hr.units (pd_cb call_len cd_len (by rfl) T.z_len (by decide +kernel) (ad_cons (pd_var 0) ad_nil)) pd_int))).pt (sd_one (sd_ret pd_bl)) sd_nil) (sd_one (sd_ret (pd_cb (cr_all rfl) cd_all (by rfl) T.z_all (by decide +kernel) (ad_cons (pd_L (pl_lc (own := [("number", 1)]) rfl sc_is_range.nd (id_seq (pd_var 0)) (blkOk_by (own := [("number", 1)]) (N := N_is_range) (sc := defScope s_is_range) (by decide +kernel)) (fun _ _ _ _ _ => (gd_name (i := 1) sc_is_range.nd rfl (Or.inl rfl) (by decide))) (fun _ _ _ _ _ => td_nil) (fun _ _ _ _ _ => (pd_and (by refine pd_call (k := 1) (f := T.a_is_number) (fd := T.d_is_number) (ps := P_is_number) (F := F_is_number) ?_ ?_ ?_ ?_ ?_ ?_ ?_ ?_; exact d_is_number T; exact hr.mono (by decide); exact rfl; exact T.g_is_number; exact T.F_is_number.kp; exact b_is_number T; exact wok0; exact (ad_cons (pd_var 1) ad_nil)) (pd_one (pd_chain op_le op_le opd_cmp opd_cmp (pd_neg (pd_globI (by rfl) T.c_FARTHEST)) (pd_var 1) (pd_globI (by rfl) T.c_FARTHEST))))))) ad_nil))))))
def B_is_bounds : DS := (sSeq (sIf (tOn (tNo (tTr (eCB fIsi (aCons (eVar 0) (aCons (eC (.ty "tuple")) aNil))))) (tNo (tE (eChain fLe fLe (eC (.int 1)) (eCB fLen (aCons (eVar 0) aNil)) (eC (.int 7)))))) (sRet (eC (.bl false))) sNx) (sRet (eCB fAll (aCons (eL (aLc (iSeq (eVar 0)) (gN 1) tYesD (eCall 1 F_is_range (aCons (eVar 1) aNil)) [1])) aNil))))
def F_is_bounds : DF := runB 2 1 B_is_bounds
theorem d_is_bounds (T : Txt K mg) : FnD P w K mg base 3 T.a_is_bounds T.d_is_bounds P_is_bounds F_is_bounds := fnD T.F_is_bounds sc_is_bounds (by decide) B_is_bounds (fun cdv A outer s H E hr => (sd_cons (sd_if (qd_or (qd_not (qd_tr (pd_cb call_isiA cd_isi (by rfl) T.z_isinstance (by decide +kernel) (ad_cons (pd_var 0) (ad_cons (pd_ty (by rfl) T.z_tuple (by decide +kernel)) ad_nil))))) (qd_or1 (qd_not (qd_chain op_le op_le opd_cmp opd_cmp pd_int (pd_cb call_len cd_len (by rfl) T.z_len (by decide +kernel) (ad_cons (pd_var 0) ad_nil)) (pd_globI (by rfl) T.c_DIMENSIONS))))).pt (sd_one (sd_ret pd_bl)) sd_nil) (sd_one (sd_ret (pd_cb (cr_all rfl) cd_all (by rfl) T.z_all (by decide +kernel) (ad_cons (pd_L (pl_lc (own := [("pair", 1)]) rfl sc_is_bounds.nd (id_seq (pd_var 0)) (blkOk_by (own := [("pair", 1)]) (N := N_is_bounds) (sc := defScope s_is_bounds) (by decide +kernel)) (fun _ _ _ _ _ => (gd_name (i := 1) sc_is_bounds.nd rfl (Or.inl rfl) (by decide))) (fun _ _ _ _ _ => td_nil) (fun _ _ _ _ _ => (by refine pd_call (k := 2) (f := T.a_is_range) (fd := T.d_is_range) (ps := P_is_range) (F := F_is_range) ?_ ?_ ?_ ?_ ?_ ?_ ?_ ?_; exact d_is_range T; exact hr.mono (by decide); exact rfl; exact T.g_is_range; exact T.F_is_range.kp; exact b_is_range T; exact wok0; exact (ad_cons (pd_var 1) ad_nil))))) ad_nil))))))
def B_multiplied : DS := (sSeq (sAsg 1 (eC (.int 1))) (sSeq (sFor (iSeq (eVar 0)) (gN 2) (sAsg 1 (eBin fMul (eVar 1) (eVar 2)))) (sRet (eVar 1))))
def F_multiplied : DF := runB 3 1 B_multiplied
theorem d_multiplied (T : Txt K mg) : FnD P w K mg base 1 T.a_multiplied T.d_multiplied P_multiplied F_multiplied := fnD T.F_multiplied sc_multiplied (by decide) B_multiplied (fun cdv A outer s H E hr => (sd_cons (sd_asg (ps_set (i := 1) sc_multiplied.nd rfl (Or.inl rfl) pd_int)) (sd_cons (sd_for (vs := [2]) (passes_of rfl) rfl (id_seq (pd_var 0)) (gd_name (i := 2) sc_multiplied.nd rfl (Or.inl rfl) (by decide)) (sd_one (sd_asg (ps_set (i := 1) sc_multiplied.nd rfl (Or.inl rfl) (pd_mul (pd_var 1) (pd_var 2)))))) (sd_one (sd_ret (pd_var 1))))))
def B_many_in : DS := (sRet (eCall 1 F_multiplied (aCons (eL (aLc (iSeq (eVar 0)) (gN 1) tYesD (eCall 1 F_many_of (aCons (eVar 1) aNil)) [1])) aNil)))
def F_many_in : DF := runB 2 1 B_many_in
theorem d_many_in (T : Txt K mg) : FnD P w K mg base 2 T.a_many_in T.d_many_in P_many_in F_many_in := fnD T.F_many_in sc_many_in (by decide) B_many_in (fun cdv A outer s H E hr => (sd_one (sd_ret (by refine pd_call (k := 1) (f := T.a_multiplied) (fd := T.d_multiplied) (ps := P_multiplied) (F := F_multiplied) ?_ ?_ ?_ ?_ ?_ ?_ ?_ ?_; exact d_multiplied T; exact hr.mono (by decide); exact rfl; exact T.g_multiplied; exact T.F_multiplied.kp; exact b_multiplied T; exact (wok_takes (takes_of rfl rfl rfl rfl)); exact (ad_cons (pd_L (pl_lc (own := [("part", 1)]) rfl sc_many_in.nd (id_seq (pd_var 0)) (blkOk_by (own := [("part", 1)]) (N := N_many_in) (sc := defScope s_many_in) (by decide +kernel)) (fun _ _ _ _ _ => (gd_name (i := 1) sc_many_in.nd rfl (Or.inl rfl) (by decide))) (fun _ _ _ _ _ => td_nil) (fun _ _ _ _ _ => (by refine pd_call (k := 1) (f := T.a_many_of) (fd := T.d_many_of) (ps := P_many_of) (F := F_many_of) ?_ ?_ ?_ ?_ ?_ ?_ ?_ ?_; exact d_many_of T; exact hr.mono (by decide); exact rfl; exact T.g_many_of; exact T.F_many_of.kp; exact b_many_of T; exact wok0; exact (ad_cons (pd_var 1) ad_nil))))) ad_nil)))))
def B_is_section : DS := (sSeq (sIf (tOn (tNo (tTr (eCB fIsi (aCons (eVar 1) (aCons (eC (.ty "tuple")) aNil))))) (tE (eBin fNe (eCB fLen (aCons (eVar 1) aNil)) (eCB fLen (aCons (eVar 0) aNil))))) (sRet (eC (.bl false))) sNx) (sSeq (sIf (tNo (tTr (eCB fAll (aCons (eL (aLc (iSeq (eVar 1)) (gN 2) tYesD (eCall 1 F_is_part (aCons (eVar 2) aNil)) [2])) aNil)))) (sRet (eC (.bl false))) sNx) (sSeq (sIf (tE (eBin fEq (eCall 1 F_many_in (aCons (eVar 1) aNil)) (eC (.int 0)))) (sRet (eC (.bl true))) sNx) (sRet (eCB fAll (aCons (eL (aLc (iZip (aCons (eVar 1) (aCons (eVar 0) aNil))) (gT (gCons' (gN 2) (gCons' (gT (gCons' (gN 3) (gCons' (gN 4) gNil')) 2) gNil')) 2) tYesD (eCall 3 F_lies_between (aCons (eVar 2) (aCons (eVar 3) (aCons (eVar 4) aNil)))) [2, 3, 4])) aNil))))))
def F_is_section : DF := runB 5 2 B_is_section
theorem d_is_section (T : Txt K mg) : FnD P w K mg base 5 T.a_is_section T.d_is_section P_is_section F_is_section := fnD T.F_is_section sc_is_section (by decide) B_is_section (fun cdv A outer s H E hr => (sd_cons (sd_if (qd_or (qd_not (qd_tr (pd_cb call_isiA cd_isi (by rfl) T.z_isinstance (by decide +kernel) (ad_cons (pd_var 1) (ad_cons (pd_ty (by rfl) T.z_tuple (by decide +kernel)) ad_nil))))) (qd_or1 (qd_ne hr.units (pd_cb call_len cd_len (by rfl) T.z_len (by decide +kernel) (ad_cons (pd_var 1) ad_nil)) (pd_cb call_len cd_len (by rfl) T.z_len (by decide +kernel) (ad_cons (pd_var 0) ad_nil))))).pt (sd_one (sd_ret pd_bl)) sd_nil) (sd_cons (sd_if (qd_not (qd_tr (pd_cb (cr_all rfl) cd_all (by rfl) T.z_all (by decide +kernel) (ad_cons (pd_L (pl_lc (own := [("part", 2)]) rfl sc_is_section.nd (id_seq (pd_var 1)) (blkOk_by (own := [("part", 2)]) (N := N_is_section) (sc := defScope s_is_section) (by decide +kernel)) (fun _ _ _ _ _ => (gd_name (i := 2) sc_is_section.nd rfl (Or.inl rfl) (by decide))) (fun _ _ _ _ _ => td_nil) (fun _ _ _ _ _ => (by refine pd_call (k := 4) (f := T.a_is_part) (fd := T.d_is_part) (ps := P_is_part) (F := F_is_part) ?_ ?_ ?_ ?_ ?_ ?_ ?_ ?_; exact d_is_part T; exact hr.mono (by decide); exact rfl; exact T.g_is_part; exact T.F_is_part.kp; exact b_is_part T; exact wok0; exact (ad_cons (pd_var 2) ad_nil))))) ad_nil)))) (sd_one (sd_ret pd_bl)) sd_nil) (sd_cons (sd_if (qd_eq hr.units (by refine pd_call (k := 2) (f := T.a_many_in) (fd := T.d_many_in) (ps := P_many_in) (F := F_many_in) ?_ ?_ ?_ ?_ ?_ ?_ ?_ ?_; exact d_many_in T; exact hr.mono (by decide); exact rfl; exact T.g_many_in; exact T.F_many_in.kp; exact b_many_in T; exact (wok_takes (takes_of rfl rfl rfl rfl)); exact (ad_cons (pd_var 1) ad_nil)) pd_int) (sd_one (sd_ret pd_bl)) sd_nil) (sd_one (sd_ret (pd_cb (cr_all rfl) cd_all (by rfl) T.z_all (by decide +kernel) (ad_cons (pd_L (pl_lc (own := [("part", 2), ("low", 3), ("high", 4)]) rfl sc_is_section.nd (id_zip2 (by rfl) T.z_zip (ad_cons (pd_var 1) (ad_cons (pd_var 0) ad_nil)) (aCons_len (aCons_len (fun _ _ _ _ h => aNil_len h)))) (blkOk_by (own := [("part", 2), ("low", 3), ("high", 4)]) (N := N_is_section) (sc := defScope s_is_section) (by decide +kernel)) (fun _ _ _ _ _ => (gd_tup rfl (gd_cons (gd_name (i := 2) sc_is_section.nd rfl (Or.inl rfl) (by decide)) (gd_cons (gd_tup rfl (gd_cons (gd_name (i := 3) sc_is_section.nd rfl (Or.inl rfl) (by decide)) (gd_cons (gd_name (i := 4) sc_is_section.nd rfl (Or.inl rfl) (by decide)) gd_nil))) gd_nil)))) (fun _ _ _ _ _ => td_nil) (fun _ _ _ _ _ => (by refine pd_call (k := 3) (f := T.a_lies_between) (fd := T.d_lies_between) (ps := P_lies_between) (F := F_lies_between) ?_ ?_ ?_ ?_ ?_ ?_ ?_ ?_; exact d_lies_between T; exact hr.mono (by decide); exact rfl; exact T.g_lies_between; exact T.F_lies_between.kp; exact b_lies_between T; exact wok0; exact (ad_cons (pd_var 2) (ad_cons (pd_var 3) (ad_cons (pd_var 4) ad_nil))))))) ad_nil))))))))
def B_check_bounds : DS := (sIf (tNo (tTr (eCall 1 F_is_bounds (aCons (eVar 0) aNil)))) sNever sNx)
def F_check_bounds : DF := runB 1 1 B_check_bounds
theorem d_check_bounds (T : Txt K mg) : FnD P w K mg base 4 T.a_check_bounds T.d_check_bounds P_check_bounds F_check_bounds := fnD T.F_check_bounds sc_check_bounds (by decide) B_check_bounds (fun cdv A outer s H E hr => (sd_one (sd_if (qd_not (qd_tr (by refine pd_call (k := 3) (f := T.a_is_bounds) (fd := T.d_is_bounds) (ps := P_is_bounds) (F := F_is_bounds) ?_ ?_ ?_ ?_ ?_ ?_ ?_ ?_; exact d_is_bounds T; exact hr.mono (by decide); exact rfl; exact T.g_is_bounds; exact T.F_is_bounds.kp; exact b_is_bounds T; exact (wok_takes (takes_of rfl rfl rfl rfl)); exact (ad_cons (pd_var 0) ad_nil)))) (sd_one sd_never) sd_nil)))
def B_check_section : DS := (sSeq (sDrop (eCall 1 F_check_bounds (aCons (eVar 0) aNil))) (sIf (tNo (tTr (eCall 2 F_is_section (aCons (eVar 0) (aCons (eVar 1) aNil))))) sNever sNx))
def F_check_section : DF := runB 3 3 B_check_section
theorem d_check_section (T : Txt K mg) : FnD P w K mg base 6 T.a_check_section T.d_check_section P_check_section F_check_section := fnD T.F_check_section sc_check_section (by decide) B_check_section (fun cdv A outer s H E hr => (sd_cons (sd_expr (by refine pd_call (k := 4) (f := T.a_check_bounds) (fd := T.d_check_bounds) (ps := P_check_bounds) (F := F_check_bounds) ?_ ?_ ?_ ?_ ?_ ?_ ?_ ?_; exact d_check_bounds T; exact hr.mono (by decide); exact rfl; exact T.g_check_bounds; exact T.F_check_bounds.kp; exact b_check_bounds T; exact (wok_takes (takes_of rfl rfl rfl rfl)); exact (ad_cons (pd_var 0) ad_nil))) (sd_one (sd_if (qd_not (qd_tr (by refine pd_call (k := 5) (f := T.a_is_section) (fd := T.d_is_section) (ps := P_is_section) (F := F_is_section) ?_ ?_ ?_ ?_ ?_ ?_ ?_ ?_; exact d_is_section T; exact hr.mono (by decide); exact rfl; exact T.g_is_section; exact T.F_is_section.kp; exact b_is_section T; exact (wok_takes (takes_of rfl rfl rfl rfl)); exact (ad_cons (pd_var 0) (ad_cons (pd_var 1) ad_nil))))) (sd_one sd_never) sd_nil))))
def B_composed : DS := (sSeq (sDrop (eCall 3 F_check_section (aCons (eVar 0) (aCons (eVar 1) (aCons (eC (.str "section")) aNil))))) (sSeq (sAsg 4 (eL (aLc (iSeq (eVar 1)) (gN 3) (tTr (eCall 1 F_is_kept (aCons (eVar 3) aNil))) (eVar 3) [3]))) (sSeq (sIf (tOn (tE (eBin fEq (eCB fLen (aCons (eVar 4) aNil)) (eC (.int 0)))) (tNo (tTr (eCall 2 F_is_section (aCons (eL (aLc (iSeq (eVar 4)) (gN 3) tYesD (eTup (aCons (eC (.int 1)) (aCons (eCall 1 F_many_of (aCons (eVar 3) aNil)) aNil))) [3])) (aCons (eVar 2) aNil)))))) sNever sNx) (sSeq (sIf (tE (eBin fEq (eCall 1 F_many_in (aCons (eVar 2) aNil)) (eC (.int 0)))) (sAsg 5 (eL (aLc (iSeq (eVar 2)) (gN 8) tYesD (eIf (tTr (eCB fIsi (aCons (eVar 8) (aCons (eC (.ty "list")) aNil)))) (eNL (eCBL fList (aCons (eVar 8) aNil))) (eVar 8)) [8]))) (sAsg 5 (eL (aLc (iZip (aCons (eVar 4) (aCons (eVar 2) aNil))) (gT (gCons' (gN 3) (gCons' (gN 8) gNil')) 2) tYesD (eCall 2 F_part_of_part (aCons (eVar 3) (aCons (eVar 8) aNil))) [3, 8])))) (sSeq (sNew 6 (aLst aNil)) (sSeq (sAsg 7 (eC (.int 0))) (sSeq (sFor (iSeq (eVar 1)) (gN 3) (sIf (tTr (eCall 1 F_is_kept (aCons (eVar 3) aNil))) (sSeq (sApp 6 (eBin fIx (eVar 5) (eVar 7))) (sAsg 7 (eBin fAdd (eVar 7) (eC (.int 1))))) (sApp 6 (eVar 3)))) (sFrz 6 (sRet (eCB fTuple (aCons (eVar 6) aNil)))))))))))
def F_composed : DF := runB 9 3 B_composed
theorem d_composed (T : Txt K mg) : FnD P w K mg base 7 T.a_composed T.d_composed P_composed F_composed := fnD T.F_composed sc_composed (by decide) B_composed (fun cdv A outer s H E hr => (sd_cons (sd_expr (by refine pd_call (k := 6) (f := T.a_check_section) (fd := T.d_check_section) (ps := P_check_section) (F := F_check_section) ?_ ?_ ?_ ?_ ?_ ?_ ?_ ?_; exact d_check_section T; exact hr.mono (by decide); exact rfl; exact T.g_check_section; exact T.F_check_section.kp; exact b_check_section T; exact (wok_takes (takes_of rfl rfl rfl rfl)); exact (ad_cons (pd_var 0) (ad_cons (pd_var 1) (ad_cons pd_str ad_nil))))) (sd_cons (by first | exact sd_asg (asg_weak (ps_setLc (own := [("part", 3)]) (i := 4) rfl sc_composed.nd rfl rfl rfl (id_seq (pd_var 1)) (blkOk_by (own := [("part", 3)]) (N := N_composed) (sc := defScope s_composed) (by decide +kernel)) (fun _ _ _ _ _ => (gd_name (i := 3) sc_composed.nd rfl (Or.inl rfl) (by decide))) (fun _ _ _ _ _ => (td_one (qd_tr (by refine pd_call (k := 2) (f := T.a_is_kept) (fd := T.d_is_kept) (ps := P_is_kept) (F := F_is_kept) ?_ ?_ ?_ ?_ ?_ ?_ ?_ ?_; exact d_is_kept T; exact hr.mono (by decide); exact rfl; exact T.g_is_kept; exact T.F_is_kept.kp; exact b_is_kept T; exact wok0; exact (ad_cons (pd_var 3) ad_nil))))) (fun _ _ _ _ _ => (pd_var 3))) (fun _ _ _ h => lc_ok (eL_ok h))) | exact sd_asg (ps_set (i := 4) sc_composed.nd rfl (Or.inl rfl) (pd_L (pl_lc (own := [("part", 3)]) rfl sc_composed.nd (id_seq (pd_var 1)) (blkOk_by (own := [("part", 3)]) (N := N_composed) (sc := defScope s_composed) (by decide +kernel)) (fun _ _ _ _ _ => (gd_name (i := 3) sc_composed.nd rfl (Or.inl rfl) (by decide))) (fun _ _ _ _ _ => (td_one (qd_tr (by refine pd_call (k := 2) (f := T.a_is_kept) (fd := T.d_is_kept) (ps := P_is_kept) (F := F_is_kept) ?_ ?_ ?_ ?_ ?_ ?_ ?_ ?_; exact d_is_kept T; exact hr.mono (by decide); exact rfl; exact T.g_is_kept; exact T.F_is_kept.kp; exact b_is_kept T; exact wok0; exact (ad_cons (pd_var 3) ad_nil))))) (fun _ _ _ _ _ => (pd_var 3)))))) (sd_cons (sd_if (qd_or (qd_eq hr.units (pd_cb call_len cd_len (by rfl) T.z_len (by decide +kernel) (ad_cons (pd_var 4) ad_nil)) pd_int) (qd_or1 (qd_not (qd_tr (by refine pd_call (k := 5) (f := T.a_is_section) (fd := T.d_is_section) (ps := P_is_section) (F := F_is_section) ?_ ?_ ?_ ?_ ?_ ?_ ?_ ?_; exact d_is_section T; exact hr.mono (by decide); exact rfl; exact T.g_is_section; exact T.F_is_section.kp; exact b_is_section T; exact (wok_takes (takes_of rfl rfl rfl rfl)); exact (ad_cons (pd_L (pl_lc (own := [("part", 3)]) rfl sc_composed.nd (id_seq (pd_var 4)) (blkOk_by (own := [("part", 3)]) (N := N_composed) (sc := defScope s_composed) (by decide +kernel)) (fun _ _ _ _ _ => (gd_name (i := 3) sc_composed.nd rfl (Or.inl rfl) (by decide))) (fun _ _ _ _ _ => td_nil) (fun _ _ _ _ _ => (pd_tup (ad_cons pd_int (ad_cons (by refine pd_call (k := 1) (f := T.a_many_of) (fd := T.d_many_of) (ps := P_many_of) (F := F_many_of) ?_ ?_ ?_ ?_ ?_ ?_ ?_ ?_; exact d_many_of T; exact hr.mono (by decide); exact rfl; exact T.g_many_of; exact T.F_many_of.kp; exact b_many_of T; exact wok0; exact (ad_cons (pd_var 3) ad_nil)) ad_nil)))))) (ad_cons (pd_var 2) ad_nil))))))).pt (sd_one sd_never) sd_nil) (sd_cons (sd_if (qd_eq hr.units (by refine pd_call (k := 2) (f := T.a_many_in) (fd := T.d_many_in) (ps := P_many_in) (F := F_many_in) ?_ ?_ ?_ ?_ ?_ ?_ ?_ ?_; exact d_many_in T; exact hr.mono (by decide); exact rfl; exact T.g_many_in; exact T.F_many_in.kp; exact b_many_in T; exact (wok_takes (takes_of rfl rfl rfl rfl)); exact (ad_cons (pd_var 2) ad_nil)) pd_int) (sd_one (by first | exact sd_asg (asg_weak (ps_setLc (own := [("its", 8)]) (i := 5) rfl sc_composed.nd rfl rfl rfl (id_seq (pd_var 2)) (blkOk_by (own := [("its", 8)]) (N := N_composed) (sc := defScope s_composed) (by decide +kernel)) (fun _ _ _ _ _ => (gd_name (i := 8) sc_composed.nd rfl (Or.inl rfl) (by decide))) (fun _ _ _ _ _ => td_nil) (fun _ _ _ _ _ => (pd_if (qd_tr (pd_cb call_isiA cd_isi (by rfl) T.z_isinstance (by decide +kernel) (ad_cons (pd_var 8) (ad_cons (pd_ty (by rfl) T.z_list (by decide +kernel)) ad_nil)))) (pd_NL (pl_ct call_list_of cl_list (by rfl) T.z_list (by decide +kernel) (ad_cons (pd_var 8) ad_nil))) (pd_var 8)))) (fun _ _ _ h => lc_ok (eL_ok h))) | exact sd_asg (ps_set (i := 5) sc_composed.nd rfl (Or.inl rfl) (pd_L (pl_lc (own := [("its", 8)]) rfl sc_composed.nd (id_seq (pd_var 2)) (blkOk_by (own := [("its", 8)]) (N := N_composed) (sc := defScope s_composed) (by decide +kernel)) (fun _ _ _ _ _ => (gd_name (i := 8) sc_composed.nd rfl (Or.inl rfl) (by decide))) (fun _ _ _ _ _ => td_nil) (fun _ _ _ _ _ => (pd_if (qd_tr (pd_cb call_isiA cd_isi (by rfl) T.z_isinstance (by decide +kernel) (ad_cons (pd_var 8) (ad_cons (pd_ty (by rfl) T.z_list (by decide +kernel)) ad_nil)))) (pd_NL (pl_ct call_list_of cl_list (by rfl) T.z_list (by decide +kernel) (ad_cons (pd_var 8) ad_nil))) (pd_var 8)))))))) (sd_one (by first | exact sd_asg (asg_weak (ps_setLc (own := [("part", 3), ("its", 8)]) (i := 5) rfl sc_composed.nd rfl rfl rfl (id_zip2 (by rfl) T.z_zip (ad_cons (pd_var 4) (ad_cons (pd_var 2) ad_nil)) (aCons_len (aCons_len (fun _ _ _ _ h => aNil_len h)))) (blkOk_by (own := [("part", 3), ("its", 8)]) (N := N_composed) (sc := defScope s_composed) (by decide +kernel)) (fun _ _ _ _ _ => (gd_tup rfl (gd_cons (gd_name (i := 3) sc_composed.nd rfl (Or.inl rfl) (by decide)) (gd_cons (gd_name (i := 8) sc_composed.nd rfl (Or.inl rfl) (by decide)) gd_nil)))) (fun _ _ _ _ _ => td_nil) (fun _ _ _ _ _ => (by refine pd_call (k := 3) (f := T.a_part_of_part) (fd := T.d_part_of_part) (ps := P_part_of_part) (F := F_part_of_part) ?_ ?_ ?_ ?_ ?_ ?_ ?_ ?_; exact d_part_of_part T; exact hr.mono (by decide); exact rfl; exact T.g_part_of_part; exact T.F_part_of_part.kp; exact b_part_of_part T; exact wok0; exact (ad_cons (pd_var 3) (ad_cons (pd_var 8) ad_nil))))) (fun _ _ _ h => lc_ok (eL_ok h))) | exact sd_asg (ps_set (i := 5) sc_composed.nd rfl (Or.inl rfl) (pd_L (pl_lc (own := [("part", 3), ("its", 8)]) rfl sc_composed.nd (id_zip2 (by rfl) T.z_zip (ad_cons (pd_var 4) (ad_cons (pd_var 2) ad_nil)) (aCons_len (aCons_len (fun _ _ _ _ h => aNil_len h)))) (blkOk_by (own := [("part", 3), ("its", 8)]) (N := N_composed) (sc := defScope s_composed) (by decide +kernel)) (fun _ _ _ _ _ => (gd_tup rfl (gd_cons (gd_name (i := 3) sc_composed.nd rfl (Or.inl rfl) (by decide)) (gd_cons (gd_name (i := 8) sc_composed.nd rfl (Or.inl rfl) (by decide)) gd_nil)))) (fun _ _ _ _ _ => td_nil) (fun _ _ _ _ _ => (by refine pd_call (k := 3) (f := T.a_part_of_part) (fd := T.d_part_of_part) (ps := P_part_of_part) (F := F_part_of_part) ?_ ?_ ?_ ?_ ?_ ?_ ?_ ?_; exact d_part_of_part T; exact hr.mono (by decide); exact rfl; exact T.g_part_of_part; exact T.F_part_of_part.kp; exact b_part_of_part T; exact wok0; exact (ad_cons (pd_var 3) (ad_cons (pd_var 8) ad_nil)))))))))) (sd_cons (sd_new (ps_set (i := 6) sc_composed.nd rfl (Or.inl rfl) (pl_lst ad_nil))) (sd_cons (sd_asg (ps_set (i := 7) sc_composed.nd rfl (Or.inl rfl) pd_int)) (sd_cons (sd_for (vs := [3]) (passes_of rfl) rfl (id_seq (pd_var 1)) (gd_name (i := 3) sc_composed.nd rfl (Or.inl rfl) (by decide)) (sd_one (sd_if (qd_tr (by refine pd_call (k := 2) (f := T.a_is_kept) (fd := T.d_is_kept) (ps := P_is_kept) (F := F_is_kept) ?_ ?_ ?_ ?_ ?_ ?_ ?_ ?_; exact d_is_kept T; exact hr.mono (by decide); exact rfl; exact T.g_is_kept; exact T.F_is_kept.kp; exact b_is_kept T; exact (wok_takes (takes_of rfl rfl rfl rfl)); exact (ad_cons (pd_var 3) ad_nil))) (sd_cons (sd_app (ps_expr (pe_bm PySem.F.plainAttrs_list PySem.F.slot_list_append PySem.F.type_list_append mt_append (pv 6) (pa_cons (pd_ix (pd_var 5) (pd_var 7)) pa_nil)))) (sd_one (sd_asg (ps_set (i := 7) sc_composed.nd rfl (Or.inl rfl) (pd_add (pd_var 7) pd_int))))) (sd_one (sd_app (ps_expr (pe_bm PySem.F.plainAttrs_list PySem.F.slot_list_append PySem.F.type_list_append mt_append (pv 6) (pa_cons (pd_var 3) pa_nil)))))))) (sd_frz 6 (sd_one (sd_ret (pd_ct call_tuple_of cd_tuple (by rfl) T.z_tuple (by decide +kernel) (ad_cons (pd_var 6) ad_nil)))))))))))))
def B_w_mix : DS := (sSeq (sAsg 2 (eBin fAdd (eBin fAdd (eBin fAdd (eBin fMod (eCB fInt (aCons (eVar 0) aNil)) (eC (.int 2147483629))) (eBin fMul (eC (.int 52391)) (eVar 1))) (eBin fMod (eCB fInt (aCons (eBin fDiv (eVar 0) (eC (.int 2147483629))) aNil)) (eC (.int 1000003)))) (eC (.int 1)))) (sSeq (sAsg 2 (eBin fMod (eCB fInt (aCons (eBin fMul (eVar 2) (eC (.int 48271))) aNil)) (eC (.int 2147483629)))) (sSeq (sAsg 2 (eBin fMod (eCB fInt (aCons (eBin fMul (eVar 2) (eBin fAdd (eBin fAdd (eBin fDiv (eVar 2) (eC (.int 1021))) (eC (.int 65539))) (eVar 1))) aNil)) (eC (.int 2147483587)))) (sRet (eBin fMod (eCB fInt (aCons (eBin fMul (eVar 2) (eBin fAdd (eBin fDiv (eVar 2) (eC (.int 2011))) (eC (.int 40014)))) aNil)) (eC (.int 2147483563)))))))
def F_w_mix : DF := runB 3 2 B_w_mix
theorem d_w_mix (T : Txt K mg) : FnD P w K mg base 1 T.a_w_mix T.d_w_mix P_w_mix F_w_mix := fnD T.F_w_mix sc_w_mix (by decide) B_w_mix (fun cdv A outer s H E hr => (sd_cons (sd_asg (ps_set (i := 2) sc_w_mix.nd rfl (Or.inl rfl) (pd_add (pd_add (pd_add (pd_mod (pd_ct call_int1 cd_int (by rfl) T.z_int (by decide +kernel) (ad_cons (pd_var 0) ad_nil)) pd_int) (pd_mul pd_int (pd_var 1))) (pd_mod (pd_ct call_int1 cd_int (by rfl) T.z_int (by decide +kernel) (ad_cons (pd_div (pd_var 0) pd_int) ad_nil)) pd_int)) pd_int))) (sd_cons (sd_asg (ps_set (i := 2) sc_w_mix.nd rfl (Or.inl rfl) (pd_mod (pd_ct call_int1 cd_int (by rfl) T.z_int (by decide +kernel) (ad_cons (pd_mul (pd_var 2) pd_int) ad_nil)) pd_int))) (sd_cons (sd_asg (ps_set (i := 2) sc_w_mix.nd rfl (Or.inl rfl) (pd_mod (pd_ct call_int1 cd_int (by rfl) T.z_int (by decide +kernel) (ad_cons (pd_mul (pd_var 2) (pd_add (pd_add (pd_div (pd_var 2) pd_int) pd_int) (pd_var 1))) ad_nil)) pd_int))) (sd_one (sd_ret (pd_mod (pd_ct call_int1 cd_int (by rfl) T.z_int (by decide +kernel) (ad_cons (pd_mul (pd_var 2) (pd_add (pd_div (pd_var 2) pd_int) pd_int)) ad_nil)) pd_int)))))))
def B_w_draw : DS := (sSeq (sIf (tE (eBin fGt (eBin fIx (eVar 0) (eC (.int 0))) (eC (.int 0)))) (sSeq (sAsg 2 (eBin fMod (eCB fInt (aCons (eBin fIx (eVar 0) (eC (.int 0))) aNil)) (eVar 1))) (sSeq (sSetW (eVar 0) (eC (.int 0)) (eBin fDiv (eBin fIx (eVar 0) (eC (.int 0))) (eVar 1))) (sRet (eVar 2)))) sNx) (sSeq (sSetW (eVar 0) (eC (.int 2)) (eBin fAdd (eBin fIx (eVar 0) (eC (.int 2))) (eC (.int 1)))) (sRet (eBin fMod (eCB fInt (aCons (eCall 2 F_w_mix (aCons (eBin fIx (eVar 0) (eC (.int 1))) (aCons (eBin fIx (eVar 0) (eC (.int 2))) aNil))) aNil)) (eVar 1)))))
def F_w_draw : DF := runB 3 2 B_w_draw
theorem d_w_draw (T : Txt K mg) : FnD P w K mg base 2 T.a_w_draw T.d_w_draw P_w_draw F_w_draw := fnD T.F_w_draw sc_w_draw (by decide) B_w_draw (fun cdv A outer s H E hr => (sd_cons (sd_if (qd_gt (pd_ix (pd_var 0) pd_int) pd_int) (sd_cons (sd_asg (ps_set (i := 2) sc_w_draw.nd rfl (Or.inl rfl) (pd_mod (pd_ct call_int1 cd_int (by rfl) T.z_int (by decide +kernel) (ad_cons (pd_ix (pd_var 0) pd_int) ad_nil)) (pd_var 1)))) (sd_cons (sd_setW (ps_asg (pd_div (pd_ix (pd_var 0) pd_int) (pd_var 1)) (pg_sub (pd_var 0) pd_int set_list))) (sd_one (sd_ret (pd_var 2))))) sd_nil) (sd_cons (sd_setW (ps_asg (pd_add (pd_ix (pd_var 0) pd_int) pd_int) (pg_sub (pd_var 0) pd_int set_list))) (sd_one (sd_ret (pd_mod (pd_ct call_int1 cd_int (by rfl) T.z_int (by decide +kernel) (ad_cons (by refine pd_call (k := 1) (f := T.a_w_mix) (fd := T.d_w_mix) (ps := P_w_mix) (F := F_w_mix) ?_ ?_ ?_ ?_ ?_ ?_ ?_ ?_; exact d_w_mix T; exact hr.mono (by decide); exact rfl; exact T.g_w_mix; exact T.F_w_mix.kp; exact b_w_mix T; exact (wok_takes (takes_of rfl rfl rfl rfl)); exact (ad_cons (pd_ix (pd_var 0) pd_int) (ad_cons (pd_ix (pd_var 0) pd_int) ad_nil))) ad_nil)) (pd_var 1)))))))
def B_w_pick : DS := (sRet (eBin fIx (eVar 1) (eCall 2 F_w_draw (aCons (eVar 0) (aCons (eCB fLen (aCons (eVar 1) aNil)) aNil)))))
def F_w_pick : DF := runB 2 2 B_w_pick
theorem d_w_pick (T : Txt K mg) : FnD P w K mg base 3 T.a_w_pick T.d_w_pick P_w_pick F_w_pick := fnD T.F_w_pick sc_w_pick (by decide) B_w_pick (fun cdv A outer s H E hr => (sd_one (sd_ret (pd_ix (pd_var 1) (by refine pd_call (k := 2) (f := T.a_w_draw) (fd := T.d_w_draw) (ps := P_w_draw) (F := F_w_draw) ?_ ?_ ?_ ?_ ?_ ?_ ?_ ?_; exact d_w_draw T; exact hr.mono (by decide); exact rfl; exact T.g_w_draw; exact T.F_w_draw.kp; exact b_w_draw T; exact (wok_takes (takes_of rfl rfl rfl rfl)); exact (ad_cons (pd_var 0) (ad_cons (pd_cb call_len cd_len (by rfl) T.z_len (by decide +kernel) (ad_cons (pd_var 1) ad_nil)) ad_nil)))))))
def B_w_bounds : DS := (sSeq (sNew 3 (aLst aNil)) (sSeq (sFor (iRng1 (aCons (eBin fAdd (eC (.int 1)) (eCall 2 F_w_draw (aCons (eVar 0) (aCons (eVar 1) aNil)))) aNil)) (gN 4) (sSeq (sAsg 5 (eCall 2 F_w_pick (aCons (eVar 0) (aCons (eL (aLst (aCons (eC (.int 1)) (aCons (eC (.int 1)) (aCons (eC (.int 0)) (aCons (eUn fNeg (eC (.int 3))) (aCons (eBin fSub (eCall 2 F_w_draw (aCons (eVar 0) (aCons (eC (.int 41)) aNil))) (eC (.int 20))) aNil))))))) aNil)))) (sSeq (sAsg 6 (eBin fAdd (eVar 5) (eCall 2 F_w_draw (aCons (eVar 0) (aCons (eBin fAdd (eVar 2) (eC (.int 1))) aNil))))) (sSeq (sIf (tE (eBin fEq (eCall 2 F_w_draw (aCons (eVar 0) (aCons (eC (.int 9)) aNil))) (eC (.int 0)))) (sAsg 6 (eBin fSub (eBin fSub (eVar 5) (eC (.int 1))) (eBin fMul (eCall 2 F_w_draw (aCons (eVar 0) (aCons (eC (.int 4)) aNil))) (eCall 2 F_w_draw (aCons (eVar 0) (aCons (eC (.int 2)) aNil)))))) sNx) (sApp 3 (eTup (aCons (eVar 5) (aCons (eVar 6) aNil)))))))) (sFrz 3 (sRet (eCB fTuple (aCons (eVar 3) aNil))))))
def F_w_bounds : DF := runB 7 3 B_w_bounds
theorem d_w_bounds (T : Txt K mg) : FnD P w K mg base 4 T.a_w_bounds T.d_w_bounds P_w_bounds F_w_bounds := fnD T.F_w_bounds sc_w_bounds (by decide) B_w_bounds (fun cdv A outer s H E hr => (sd_cons (sd_new (ps_set (i := 3) sc_w_bounds.nd rfl (Or.inl rfl) (pl_lst ad_nil))) (sd_cons (sd_for (vs := [4]) (passes_of rfl) rfl (id_rng1 (by rfl) T.z_range (ad_cons (pd_add pd_int (by refine pd_call (k := 2) (f := T.a_w_draw) (fd := T.d_w_draw) (ps := P_w_draw) (F := F_w_draw) ?_ ?_ ?_ ?_ ?_ ?_ ?_ ?_; exact d_w_draw T; exact hr.mono (by decide); exact rfl; exact T.g_w_draw; exact T.F_w_draw.kp; exact b_w_draw T; exact (wok_takes (takes_of rfl rfl rfl rfl)); exact (ad_cons (pd_var 0) (ad_cons (pd_var 1) ad_nil)))) ad_nil)) (gd_name (i := 4) sc_w_bounds.nd rfl (Or.inl rfl) (by decide)) (sd_cons (sd_asg (ps_set (i := 5) sc_w_bounds.nd rfl (Or.inl rfl) (by refine pd_call (k := 3) (f := T.a_w_pick) (fd := T.d_w_pick) (ps := P_w_pick) (F := F_w_pick) ?_ ?_ ?_ ?_ ?_ ?_ ?_ ?_; exact d_w_pick T; exact hr.mono (by decide); exact rfl; exact T.g_w_pick; exact T.F_w_pick.kp; exact b_w_pick T; exact (wok_takes (takes_of rfl rfl rfl rfl)); exact (ad_cons (pd_var 0) (ad_cons (pd_L (pl_lst (ad_cons pd_int (ad_cons pd_int (ad_cons pd_int (ad_cons (pd_neg pd_int) (ad_cons (pd_sub (by refine pd_call (k := 2) (f := T.a_w_draw) (fd := T.d_w_draw) (ps := P_w_draw) (F := F_w_draw) ?_ ?_ ?_ ?_ ?_ ?_ ?_ ?_; exact d_w_draw T; exact hr.mono (by decide); exact rfl; exact T.g_w_draw; exact T.F_w_draw.kp; exact b_w_draw T; exact (wok_takes (takes_of rfl rfl rfl rfl)); exact (ad_cons (pd_var 0) (ad_cons pd_int ad_nil))) pd_int) ad_nil))))))) ad_nil))))) (sd_cons (sd_asg (ps_set (i := 6) sc_w_bounds.nd rfl (Or.inl rfl) (pd_add (pd_var 5) (by refine pd_call (k := 2) (f := T.a_w_draw) (fd := T.d_w_draw) (ps := P_w_draw) (F := F_w_draw) ?_ ?_ ?_ ?_ ?_ ?_ ?_ ?_; exact d_w_draw T; exact hr.mono (by decide); exact rfl; exact T.g_w_draw; exact T.F_w_draw.kp; exact b_w_draw T; exact (wok_takes (takes_of rfl rfl rfl rfl)); exact (ad_cons (pd_var 0) (ad_cons (pd_add (pd_var 2) pd_int) ad_nil)))))) (sd_cons (sd_if (qd_eq hr.units (by refine pd_call (k := 2) (f := T.a_w_draw) (fd := T.d_w_draw) (ps := P_w_draw) (F := F_w_draw) ?_ ?_ ?_ ?_ ?_ ?_ ?_ ?_; exact d_w_draw T; exact hr.mono (by decide); exact rfl; exact T.g_w_draw; exact T.F_w_draw.kp; exact b_w_draw T; exact (wok_takes (takes_of rfl rfl rfl rfl)); exact (ad_cons (pd_var 0) (ad_cons pd_int ad_nil))) pd_int) (sd_one (sd_asg (ps_set (i := 6) sc_w_bounds.nd rfl (Or.inl rfl) (pd_sub (pd_sub (pd_var 5) pd_int) (pd_mul (by refine pd_call (k := 2) (f := T.a_w_draw) (fd := T.d_w_draw) (ps := P_w_draw) (F := F_w_draw) ?_ ?_ ?_ ?_ ?_ ?_ ?_ ?_; exact d_w_draw T; exact hr.mono (by decide); exact rfl; exact T.g_w_draw; exact T.F_w_draw.kp; exact b_w_draw T; exact (wok_takes (takes_of rfl rfl rfl rfl)); exact (ad_cons (pd_var 0) (ad_cons pd_int ad_nil))) (by refine pd_call (k := 2) (f := T.a_w_draw) (fd := T.d_w_draw) (ps := P_w_draw) (F := F_w_draw) ?_ ?_ ?_ ?_ ?_ ?_ ?_ ?_; exact d_w_draw T; exact hr.mono (by decide); exact rfl; exact T.g_w_draw; exact T.F_w_draw.kp; exact b_w_draw T; exact (wok_takes (takes_of rfl rfl rfl rfl)); exact (ad_cons (pd_var 0) (ad_cons pd_int ad_nil)))))))) sd_nil) (sd_one (sd_app (ps_expr (pe_bm PySem.F.plainAttrs_list PySem.F.slot_list_append PySem.F.type_list_append mt_append (pv 3) (pa_cons (pd_tup (ad_cons (pd_var 5) (ad_cons (pd_var 6) ad_nil))) pa_nil))))))))) (sd_frz 3 (sd_one (sd_ret (pd_ct call_tuple_of cd_tuple (by rfl) T.z_tuple (by decide +kernel) (ad_cons (pd_var 3) ad_nil))))))))
def B_w_part : DS := (sSeq (sAsg 3 (eBin fAdd (eBin fSub (eVar 2) (eVar 1)) (eC (.int 1)))) (sSeq (sIf (tE (eBin fLt (eVar 3) (eC (.int 1)))) (sRet (eCall 2 F_w_pick (aCons (eVar 0) (aCons (eL (aLst (aCons (eTup (aCons (eVar 1) (aCons (eBin fSub (eVar 1) (eC (.int 1))) (aCons (eC (.int 1)) aNil)))) (aCons (eL (aLst aNil)) (aCons (eTup (aCons (eC (.int 1)) (aCons (eC (.int 0)) (aCons (eC (.int 3)) aNil)))) (aCons (eTup (aCons (eVar 1) (aCons (eVar 2) (aCons (eC (.int 1)) aNil)))) (aCons (eTup (aCons (eC (.int 5)) (aCons (eC (.int 6)) (aCons (eUn fNeg (eC (.int 1))) aNil)))) aNil))))))) aNil)))) sNx) (sSeq (sMul [4, 5] (mVal (eBin fAdd (eVar 1) (eCall 2 F_w_draw (aCons (eVar 0) (aCons (eVar 3) aNil)))) (mVal (eBin fAdd (eVar 1) (eCall 2 F_w_draw (aCons (eVar 0) (aCons (eVar 3) aNil)))) aNil))) (sSeq (sMul [6, 7] (mVal (eCall 2 F_w_draw (aCons (eVar 0) (aCons (eC (.int 8)) aNil))) (mVal (eBin fAdd (eC (.int 1)) (eCall 2 F_w_draw (aCons (eVar 0) (aCons (eCall 2 F_w_pick (aCons (eVar 0) (aCons (eL (aLst (aCons (eC (.int 1)) (aCons (eC (.int 3)) (aCons (eVar 3) aNil))))) aNil))) aNil)))) aNil))) (sSeq (sIf (tE (eBin fEq (eVar 6) (eC (.int 0)))) (sRet (eVar 4)) sNx) (sSeq (sIf (tE (eBin fEq (eVar 6) (eC (.int 1)))) (sRet (eL (aLc (iRng1 (aCons (eCall 2 F_w_draw (aCons (eVar 0) (aCons (eC (.int 5)) aNil))) aNil)) (gN 8) tYesD (eBin fAdd (eVar 1) (eCall 2 F_w_draw (aCons (eVar 0) (aCons (eVar 3) aNil)))) [8]))) sNx) (sSeq (sIf (tE (eBin fEq (eVar 6) (eC (.int 2)))) (sRet (eTup (aCons (eVar 1) (aCons (eVar 2) (aCons (eC (.int 1)) aNil))))) sNx) (sSeq (sIf (tE (eBin fEq (eVar 6) (eC (.int 3)))) (sRet (eTup (aCons (eCB fMax2 (aCons (eVar 4) (aCons (eVar 5) aNil))) (aCons (eCB fMin2 (aCons (eVar 4) (aCons (eVar 5) aNil))) (aCons (eBin fSub (eC (.int 0)) (eVar 7)) aNil))))) sNx) (sSeq (sIf (tAn (tE (eBin fEq (eVar 6) (eC (.int 4)))) (tE (eBin fEq (eCall 2 F_w_draw (aCons (eVar 0) (aCons (eC (.int 3)) aNil))) (eC (.int 0))))) (sRet (eTup (aCons (eCB fMin2 (aCons (eVar 4) (aCons (eVar 5) aNil))) (aCons (eCB fMax2 (aCons (eVar 4) (aCons (eVar 5) aNil))) (aCons (eBin fSub (eC (.int 0)) (eVar 7)) aNil))))) sNx) (sRet (eTup (aCons (eCB fMin2 (aCons (eVar 4) (aCons (eVar 5) aNil))) (aCons (eCB fMax2 (aCons (eVar 4) (aCons (eVar 5) aNil))) (aCons (eVar 7) aNil))))))))))))))
def F_w_part : DF := runB 9 3 B_w_part
theorem d_w_part (T : Txt K mg) : FnD P w K mg base 4 T.a_w_part T.d_w_part P_w_part F_w_part := fnD T.F_w_part sc_w_part (by decide) B_w_part (fun cdv A outer s H E hr => (sd_cons (sd_asg (ps_set (i := 3) sc_w_part.nd rfl (Or.inr rfl) (pd_add (pd_sub (pd_var 2) (pd_var 1)) pd_int))) (sd_cons (sd_if (qd_lt (pd_var 3) pd_int) (sd_one (sd_ret (by refine pd_call (k := 3) (f := T.a_w_pick) (fd := T.d_w_pick) (ps := P_w_pick) (F := F_w_pick) ?_ ?_ ?_ ?_ ?_ ?_ ?_ ?_; exact d_w_pick T; exact hr.mono (by decide); exact rfl; exact T.g_w_pick; exact T.F_w_pick.kp; exact b_w_pick T; exact (wok_takes (takes_of rfl rfl rfl rfl)); exact (ad_cons (pd_var 0) (ad_cons (pd_L (pl_lst (ad_cons (pd_tup (ad_cons (pd_var 1) (ad_cons (pd_sub (pd_var 1) pd_int) (ad_cons pd_int ad_nil)))) (ad_cons (pd_L (pl_lst ad_nil)) (ad_cons (pd_tup (ad_cons pd_int (ad_cons pd_int (ad_cons pd_int ad_nil)))) (ad_cons (pd_tup (ad_cons (pd_var 1) (ad_cons (pd_var 2) (ad_cons pd_int ad_nil)))) (ad_cons (pd_tup (ad_cons pd_int (ad_cons pd_int (ad_cons (pd_neg pd_int) ad_nil)))) ad_nil))))))) ad_nil))))) sd_nil) (sd_cons (sd_par2 (ps_par rfl sc_w_part.nd rfl rfl (by decide) rfl rfl (md_val (pd_add (pd_var 1) (by refine pd_call (k := 2) (f := T.a_w_draw) (fd := T.d_w_draw) (ps := P_w_draw) (F := F_w_draw) ?_ ?_ ?_ ?_ ?_ ?_ ?_ ?_; exact d_w_draw T; exact hr.mono (by decide); exact rfl; exact T.g_w_draw; exact T.F_w_draw.kp; exact b_w_draw T; exact (wok_takes (takes_of rfl rfl rfl rfl)); exact (ad_cons (pd_var 0) (ad_cons (pd_var 3) ad_nil)))) (md_val (pd_add (pd_var 1) (by refine pd_call (k := 2) (f := T.a_w_draw) (fd := T.d_w_draw) (ps := P_w_draw) (F := F_w_draw) ?_ ?_ ?_ ?_ ?_ ?_ ?_ ?_; exact d_w_draw T; exact hr.mono (by decide); exact rfl; exact T.g_w_draw; exact T.F_w_draw.kp; exact b_w_draw T; exact (wok_takes (takes_of rfl rfl rfl rfl)); exact (ad_cons (pd_var 0) (ad_cons (pd_var 3) ad_nil)))) md_nil)) rfl)) (sd_cons (sd_par2 (ps_par rfl sc_w_part.nd rfl rfl (by decide) rfl rfl (md_val (by refine pd_call (k := 2) (f := T.a_w_draw) (fd := T.d_w_draw) (ps := P_w_draw) (F := F_w_draw) ?_ ?_ ?_ ?_ ?_ ?_ ?_ ?_; exact d_w_draw T; exact hr.mono (by decide); exact rfl; exact T.g_w_draw; exact T.F_w_draw.kp; exact b_w_draw T; exact (wok_takes (takes_of rfl rfl rfl rfl)); exact (ad_cons (pd_var 0) (ad_cons pd_int ad_nil))) (md_val (pd_add pd_int (by refine pd_call (k := 2) (f := T.a_w_draw) (fd := T.d_w_draw) (ps := P_w_draw) (F := F_w_draw) ?_ ?_ ?_ ?_ ?_ ?_ ?_ ?_; exact d_w_draw T; exact hr.mono (by decide); exact rfl; exact T.g_w_draw; exact T.F_w_draw.kp; exact b_w_draw T; exact (wok_takes (takes_of rfl rfl rfl rfl)); exact (ad_cons (pd_var 0) (ad_cons (by refine pd_call (k := 3) (f := T.a_w_pick) (fd := T.d_w_pick) (ps := P_w_pick) (F := F_w_pick) ?_ ?_ ?_ ?_ ?_ ?_ ?_ ?_; exact d_w_pick T; exact hr.mono (by decide); exact rfl; exact T.g_w_pick; exact T.F_w_pick.kp; exact b_w_pick T; exact (wok_takes (takes_of rfl rfl rfl rfl)); exact (ad_cons (pd_var 0) (ad_cons (pd_L (pl_lst (ad_cons pd_int (ad_cons pd_int (ad_cons (pd_var 3) ad_nil))))) ad_nil))) ad_nil)))) md_nil)) rfl)) (sd_cons (sd_if (qd_eq hr.units (pd_var 6) pd_int) (sd_one (sd_ret (pd_var 4))) sd_nil) (sd_cons (sd_if (qd_eq hr.units (pd_var 6) pd_int) (sd_one (sd_ret (pd_L (pl_lc (own := [("_law_turn", 8)]) rfl sc_w_part.nd (id_rng1 (by rfl) T.z_range (ad_cons (by refine pd_call (k := 2) (f := T.a_w_draw) (fd := T.d_w_draw) (ps := P_w_draw) (F := F_w_draw) ?_ ?_ ?_ ?_ ?_ ?_ ?_ ?_; exact d_w_draw T; exact hr.mono (by decide); exact rfl; exact T.g_w_draw; exact T.F_w_draw.kp; exact b_w_draw T; exact (wok_takes (takes_of rfl rfl rfl rfl)); exact (ad_cons (pd_var 0) (ad_cons pd_int ad_nil))) ad_nil)) (blkOk_by (own := [("_law_turn", 8)]) (N := N_w_part) (sc := defScope s_w_part) (by decide +kernel)) (fun _ _ _ _ _ => (gd_name (i := 8) sc_w_part.nd rfl (Or.inl rfl) (by decide))) (fun _ _ _ _ _ => td_nil) (fun _ _ _ _ _ => (pd_add (pd_var 1) (by refine pd_call (k := 2) (f := T.a_w_draw) (fd := T.d_w_draw) (ps := P_w_draw) (F := F_w_draw) ?_ ?_ ?_ ?_ ?_ ?_ ?_ ?_; exact d_w_draw T; exact hr.mono (by decide); exact rfl; exact T.g_w_draw; exact T.F_w_draw.kp; exact b_w_draw T; exact wok0; exact (ad_cons (pd_var 0) (ad_cons (pd_var 3) ad_nil))))))))) sd_nil) (sd_cons (sd_if (qd_eq hr.units (pd_var 6) pd_int) (sd_one (sd_ret (pd_tup (ad_cons (pd_var 1) (ad_cons (pd_var 2) (ad_cons pd_int ad_nil)))))) sd_nil) (sd_cons (sd_if (qd_eq hr.units (pd_var 6) pd_int) (sd_one (sd_ret (pd_tup (ad_cons (pd_cb (call_max2 rfl) cd_max2 (by rfl) T.z_max (by decide +kernel) (ad_cons (pd_var 4) (ad_cons (pd_var 5) ad_nil))) (ad_cons (pd_cb (call_min2 rfl) cd_min2 (by rfl) T.z_min (by decide +kernel) (ad_cons (pd_var 4) (ad_cons (pd_var 5) ad_nil))) (ad_cons (pd_sub pd_int (pd_var 7)) ad_nil)))))) sd_nil) (sd_cons (sd_if (qd_and (qd_eq hr.units (pd_var 6) pd_int) (qd_and1 (qd_eq hr.units (by refine pd_call (k := 2) (f := T.a_w_draw) (fd := T.d_w_draw) (ps := P_w_draw) (F := F_w_draw) ?_ ?_ ?_ ?_ ?_ ?_ ?_ ?_; exact d_w_draw T; exact hr.mono (by decide); exact rfl; exact T.g_w_draw; exact T.F_w_draw.kp; exact b_w_draw T; exact (wok_takes (takes_of rfl rfl rfl rfl)); exact (ad_cons (pd_var 0) (ad_cons pd_int ad_nil))) pd_int))).pt (sd_one (sd_ret (pd_tup (ad_cons (pd_cb (call_min2 rfl) cd_min2 (by rfl) T.z_min (by decide +kernel) (ad_cons (pd_var 4) (ad_cons (pd_var 5) ad_nil))) (ad_cons (pd_cb (call_max2 rfl) cd_max2 (by rfl) T.z_max (by decide +kernel) (ad_cons (pd_var 4) (ad_cons (pd_var 5) ad_nil))) (ad_cons (pd_sub pd_int (pd_var 7)) ad_nil)))))) sd_nil) (sd_one (sd_ret (pd_tup (ad_cons (pd_cb (call_min2 rfl) cd_min2 (by rfl) T.z_min (by decide +kernel) (ad_cons (pd_var 4) (ad_cons (pd_var 5) ad_nil))) (ad_cons (pd_cb (call_max2 rfl) cd_max2 (by rfl) T.z_max (by decide +kernel) (ad_cons (pd_var 4) (ad_cons (pd_var 5) ad_nil))) (ad_cons (pd_var 7) ad_nil))))))))))))))))
def B_w_section : DS := (sRet (eCB fTuple (aCons (eL (aLc (iSeq (eVar 1)) (gT (gCons' (gN 2) (gCons' (gN 3) gNil')) 2) tYesD (eCall 3 F_w_part (aCons (eVar 0) (aCons (eVar 2) (aCons (eVar 3) aNil)))) [2, 3])) aNil)))
def F_w_section : DF := runB 4 2 B_w_section
theorem d_w_section (T : Txt K mg) : FnD P w K mg base 5 T.a_w_section T.d_w_section P_w_section F_w_section := fnD T.F_w_section sc_w_section (by decide) B_w_section (fun cdv A outer s H E hr => (sd_one (sd_ret (pd_ct call_tuple_of cd_tuple (by rfl) T.z_tuple (by decide +kernel) (ad_cons (pd_L (pl_lc (own := [("_law_low", 2), ("_law_high", 3)]) rfl sc_w_section.nd (id_seq (pd_var 1)) (blkOk_by (own := [("_law_low", 2), ("_law_high", 3)]) (N := N_w_section) (sc := defScope s_w_section) (by decide +kernel)) (fun _ _ _ _ _ => (gd_tup rfl (gd_cons (gd_name (i := 2) sc_w_section.nd rfl (Or.inl rfl) (by decide)) (gd_cons (gd_name (i := 3) sc_w_section.nd rfl (Or.inl rfl) (by decide)) gd_nil)))) (fun _ _ _ _ _ => td_nil) (fun _ _ _ _ _ => (by refine pd_call (k := 4) (f := T.a_w_part) (fd := T.d_w_part) (ps := P_w_part) (F := F_w_part) ?_ ?_ ?_ ?_ ?_ ?_ ?_ ?_; exact d_w_part T; exact hr.mono (by decide); exact rfl; exact T.g_w_part; exact T.F_w_part.kp; exact b_w_part T; exact wok0; exact (ad_cons (pd_var 0) (ad_cons (pd_var 2) (ad_cons (pd_var 3) ad_nil))))))) ad_nil)))))
def B_w_subscripts : DS := (sSeq (sIf (tTr (eCB fIsi (aCons (eVar 0) (aCons (eC (.ty "list")) aNil)))) (sRet (eL (eCBL fList (aCons (eVar 0) aNil)))) sNx) (sSeq (sIf (tNo (tTr (eCB fIsi (aCons (eVar 0) (aCons (eC (.ty "tuple")) aNil))))) (sRet (eL (aLst (aCons (eVar 0) aNil)))) sNx) (sSeq (sMul [1, 2] (mOwn (aLst aNil) (mVal (eBin fIx (eVar 0) (eC (.int 0))) aNil))) (sSeq (whileD (tOn (tAn (tE (eBin fLe (eVar 2) (eBin fIx (eVar 0) (eC (.int 1))))) (tE (eBin fGt (eBin fIx (eVar 0) (eC (.int 2))) (eC (.int 0))))) (tAn (tE (eBin fGe (eVar 2) (eBin fIx (eVar 0) (eC (.int 1))))) (tE (eBin fLt (eBin fIx (eVar 0) (eC (.int 2))) (eC (.int 0)))))) (sSeq (sApp 1 (eVar 2)) (sAsg 2 (eBin fAdd (eVar 2) (eBin fIx (eVar 0) (eC (.int 2)))))) 100000000) (sFrz 1 (sRet (eVar 1)))))))
def F_w_subscripts : DF := runB 3 1 B_w_subscripts
theorem d_w_subscripts (T : Txt K mg) : FnD P w K mg base 1 T.a_w_subscripts T.d_w_subscripts P_w_subscripts F_w_subscripts := fnD T.F_w_subscripts sc_w_subscripts (by decide) B_w_subscripts (fun cdv A outer s H E hr => (sd_cons (sd_if (qd_tr (pd_cb call_isiA cd_isi (by rfl) T.z_isinstance (by decide +kernel) (ad_cons (pd_var 0) (ad_cons (pd_ty (by rfl) T.z_list (by decide +kernel)) ad_nil)))) (sd_one (sd_ret (pd_L (pl_ct call_list_of cl_list (by rfl) T.z_list (by decide +kernel) (ad_cons (pd_var 0) ad_nil))))) sd_nil) (sd_cons (sd_if (qd_not (qd_tr (pd_cb call_isiA cd_isi (by rfl) T.z_isinstance (by decide +kernel) (ad_cons (pd_var 0) (ad_cons (pd_ty (by rfl) T.z_tuple (by decide +kernel)) ad_nil))))) (sd_one (sd_ret (pd_L (pl_lst (ad_cons (pd_var 0) ad_nil))))) sd_nil) (sd_cons (sd_par2 (ps_par rfl sc_w_subscripts.nd rfl rfl (by decide) rfl rfl (md_own (pl_lst ad_nil) (md_val (pd_ix (pd_var 0) pd_int) md_nil)) rfl)) (sd_cons (sd_while 100000000 (passes_of rfl) (qd_or (qd_and (qd_le (pd_var 2) (pd_ix (pd_var 0) pd_int)) (qd_and1 (qd_gt (pd_ix (pd_var 0) pd_int) pd_int))).pt (qd_or1 (qd_and (qd_ge (pd_var 2) (pd_ix (pd_var 0) pd_int)) (qd_and1 (qd_lt (pd_ix (pd_var 0) pd_int) pd_int))).pt)).pt (sd_cons (sd_app (ps_expr (pe_bm PySem.F.plainAttrs_list PySem.F.slot_list_append PySem.F.type_list_append mt_append (pv 1) (pa_cons (pd_var 2) pa_nil)))) (sd_one (sd_asg (ps_set (i := 2) sc_w_subscripts.nd rfl (Or.inl rfl) (pd_add (pd_var 2) (pd_ix (pd_var 0) pd_int))))))) (sd_frz 1 (sd_one (sd_ret (pd_var 1)))))))))
def B_w_elements : DS := (sSeq (sAsg 1 (eL (aLst (aCons (eTup aNil) aNil)))) (sSeq (sFor (iSeq (eRev (eVar 0))) (gN 2) (sSeq (sAsg 3 (eL (aLst aNil))) (sSeq (sFor (iSeq (eVar 1)) (gN 4) (sAsg 3 (eBin fAdd (eVar 3) (eL (aLc (iSeq (eCall 1 F_w_subscripts (aCons (eVar 2) aNil))) (gN 5) tYesD (eBin fAdd (eTup (aCons (eVar 5) aNil)) (eVar 4)) [5]))))) (sAsg 1 (eVar 3))))) (sRet (eVar 1))))
def F_w_elements : DF := runB 6 1 B_w_elements
theorem d_w_elements (T : Txt K mg) : FnD P w K mg base 2 T.a_w_elements T.d_w_elements P_w_elements F_w_elements := fnD T.F_w_elements sc_w_elements (by decide) B_w_elements (fun cdv A outer s H E hr => (sd_cons (sd_asg (ps_set (i := 1) sc_w_elements.nd rfl (Or.inl rfl) (pd_L (pl_lst (ad_cons (pd_tup ad_nil) ad_nil))))) (sd_cons (sd_for (vs := [2]) (passes_of rfl) rfl (id_seq (pd_rev (pd_var 0))) (gd_name (i := 2) sc_w_elements.nd rfl (Or.inl rfl) (by decide)) (sd_cons (sd_asg (ps_set (i := 3) sc_w_elements.nd rfl (Or.inl rfl) (pd_L (pl_lst ad_nil)))) (sd_cons (sd_for (vs := [4]) (passes_of rfl) rfl (id_seq (pd_var 1)) (gd_name (i := 4) sc_w_elements.nd rfl (Or.inr rfl) (by decide)) (sd_one (sd_asg (ps_set (i := 3) sc_w_elements.nd rfl (Or.inl rfl) (pd_add (pd_var 3) (pd_L (pl_lc (own := [("_law_one", 5)]) rfl sc_w_elements.nd (id_seq (by refine pd_call (k := 1) (f := T.a_w_subscripts) (fd := T.d_w_subscripts) (ps := P_w_subscripts) (F := F_w_subscripts) ?_ ?_ ?_ ?_ ?_ ?_ ?_ ?_; exact d_w_subscripts T; exact hr.mono (by decide); exact rfl; exact T.g_w_subscripts; exact T.F_w_subscripts.kp; exact b_w_subscripts T; exact (wok_takes (takes_of rfl rfl rfl rfl)); exact (ad_cons (pd_var 2) ad_nil))) (blkOk_by (own := [("_law_one", 5)]) (N := N_w_elements) (sc := defScope s_w_elements) (by decide +kernel)) (fun _ _ _ _ _ => (gd_name (i := 5) sc_w_elements.nd rfl (Or.inl rfl) (by decide))) (fun _ _ _ _ _ => td_nil) (fun _ _ _ _ _ => (pd_add (pd_tup (ad_cons (pd_var 5) ad_nil)) (pd_var 4)))))))))) (sd_one (sd_asg (ps_set (i := 1) sc_w_elements.nd rfl (Or.inl rfl) (pd_var 3))))))) (sd_one (sd_ret (pd_var 1))))))
def B_w_place : DS := (sSeq (sMul [2, 3] (mVal (eC (.int 0)) (mVal (eC (.int 1)) aNil))) (sSeq (sFor (iZip (aCons (eVar 1) (aCons (eVar 0) aNil))) (gT (gCons' (gN 4) (gCons' (gT (gCons' (gN 5) (gCons' (gN 6) gNil')) 2) gNil')) 2) (sMul [2, 3] (mVal (eBin fAdd (eVar 2) (eBin fMul (eBin fSub (eVar 4) (eVar 5)) (eVar 3))) (mVal (eBin fMul (eVar 3) (eCB fMax2 (aCons (eC (.int 0)) (aCons (eBin fAdd (eBin fSub (eVar 6) (eVar 5)) (eC (.int 1))) aNil)))) aNil)))) (sRet (eVar 2))))
def F_w_place : DF := runB 7 2 B_w_place
theorem d_w_place (T : Txt K mg) : FnD P w K mg base 1 T.a_w_place T.d_w_place P_w_place F_w_place := fnD T.F_w_place sc_w_place (by decide) B_w_place (fun cdv A outer s H E hr => (sd_cons (sd_multi (ps_asg (pe_tup (md_val pd_int (md_val pd_int md_nil))) (pg_tup rfl (pgs_cons (pg_name (i := 2) sc_w_place.nd rfl (Or.inl rfl)) (pgs_cons (pg_name (i := 3) sc_w_place.nd rfl (Or.inl rfl)) pgs_nil)))) rfl (by decide)) (sd_cons (sd_for (vs := [4, 5, 6]) (passes_of rfl) rfl (id_zip2 (by rfl) T.z_zip (ad_cons (pd_var 1) (ad_cons (pd_var 0) ad_nil)) (aCons_len (aCons_len (fun _ _ _ _ h => aNil_len h)))) (gd_tup rfl (gd_cons (gd_name (i := 4) sc_w_place.nd rfl (Or.inl rfl) (by decide)) (gd_cons (gd_tup rfl (gd_cons (gd_name (i := 5) sc_w_place.nd rfl (Or.inl rfl) (by decide)) (gd_cons (gd_name (i := 6) sc_w_place.nd rfl (Or.inl rfl) (by decide)) gd_nil))) gd_nil))) (sd_one (sd_par2 (ps_par rfl sc_w_place.nd rfl rfl (by decide) rfl rfl (md_val (pd_add (pd_var 2) (pd_mul (pd_sub (pd_var 4) (pd_var 5)) (pd_var 3))) (md_val (pd_mul (pd_var 3) (pd_cb (call_max2 rfl) cd_max2 (by rfl) T.z_max (by decide +kernel) (ad_cons pd_int (ad_cons (pd_add (pd_sub (pd_var 6) (pd_var 5)) pd_int) ad_nil)))) md_nil)) rfl)))) (sd_one (sd_ret (pd_var 2))))))
def B_w_many : DS := (sSeq (sIf (tTr (eCB fIsi (aCons (eVar 0) (aCons (eC (.ty "tuple")) aNil)))) (sRet (eCB fMax2 (aCons (eC (.int 0)) (aCons (eBin fAdd (eBin fDiv (eBin fSub (eBin fIx (eVar 0) (eC (.int 1))) (eBin fIx (eVar 0) (eC (.int 0)))) (eBin fIx (eVar 0) (eC (.int 2)))) (eC (.int 1))) aNil)))) sNx) (sRet (eIf (tTr (eCB fIsi (aCons (eVar 0) (aCons (eC (.ty "list")) aNil)))) (eCB fLen (aCons (eVar 0) aNil)) (eC (.int 1)))))
def F_w_many : DF := runB 1 1 B_w_many
theorem d_w_many (T : Txt K mg) : FnD P w K mg base 1 T.a_w_many T.d_w_many P_w_many F_w_many := fnD T.F_w_many sc_w_many (by decide) B_w_many (fun cdv A outer s H E hr => (sd_cons (sd_if (qd_tr (pd_cb call_isiA cd_isi (by rfl) T.z_isinstance (by decide +kernel) (ad_cons (pd_var 0) (ad_cons (pd_ty (by rfl) T.z_tuple (by decide +kernel)) ad_nil)))) (sd_one (sd_ret (pd_cb (call_max2 rfl) cd_max2 (by rfl) T.z_max (by decide +kernel) (ad_cons pd_int (ad_cons (pd_add (pd_div (pd_sub (pd_ix (pd_var 0) pd_int) (pd_ix (pd_var 0) pd_int)) (pd_ix (pd_var 0) pd_int)) pd_int) ad_nil))))) sd_nil) (sd_one (sd_ret (pd_if (qd_tr (pd_cb call_isiA cd_isi (by rfl) T.z_isinstance (by decide +kernel) (ad_cons (pd_var 0) (ad_cons (pd_ty (by rfl) T.z_list (by decide +kernel)) ad_nil)))) (pd_cb call_len cd_len (by rfl) T.z_len (by decide +kernel) (ad_cons (pd_var 0) ad_nil)) pd_int)))))
def B_w_bare_part : DS := (sRet (eIf (tTr (eCB fIsi (aCons (eVar 0) (aCons (eC (.ty "list")) aNil)))) (eL (eCBL fList (aCons (eVar 0) aNil))) (eVar 0)))
def F_w_bare_part : DF := runB 1 1 B_w_bare_part
theorem d_w_bare_part (T : Txt K mg) : FnD P w K mg base 1 T.a_w_bare_part T.d_w_bare_part P_w_bare_part F_w_bare_part := fnD T.F_w_bare_part sc_w_bare_part (by decide) B_w_bare_part (fun cdv A outer s H E hr => (sd_one (sd_ret (pd_if (qd_tr (pd_cb call_isiA cd_isi (by rfl) T.z_isinstance (by decide +kernel) (ad_cons (pd_var 0) (ad_cons (pd_ty (by rfl) T.z_list (by decide +kernel)) ad_nil)))) (pd_L (pl_ct call_list_of cl_list (by rfl) T.z_list (by decide +kernel) (ad_cons (pd_var 0) ad_nil))) (pd_var 0)))))
def B_w_part_due : DS := (sSeq (sAsg 2 (eCall 1 F_w_subscripts (aCons (eVar 0) aNil))) (sSeq (sIf (tNo (tTr (eCB fIsi (aCons (eVar 1) (aCons (eTup (aCons (eC (.ty "list")) (aCons (eC (.ty "tuple")) aNil))) aNil))))) (sRet (eBin fIx (eVar 2) (eBin fSub (eVar 1) (eC (.int 1))))) sNx) (sSeq (sAsg 3 (eL (aLc (iSeq (eCall 1 F_w_subscripts (aCons (eVar 1) aNil))) (gN 4) tYesD (eBin fIx (eVar 2) (eBin fSub (eVar 4) (eC (.int 1)))) [4]))) (sSeq (sIf (tOn (tTr (eCB fIsi (aCons (eVar 0) (aCons (eC (.ty "list")) aNil)))) (tTr (eCB fIsi (aCons (eVar 1) (aCons (eC (.ty "list")) aNil))))) (sRet (eVar 3)) sNx) (sRet (eTup (aCons (eBin fIx (eVar 3) (eC (.int 0))) (aCons (eBin fIx (eVar 3) (eUn fNeg (eC (.int 1)))) (aCons (eIf (tE (eBin fGt (eCB fLen (aCons (eVar 3) aNil)) (eC (.int 1)))) (eBin fMul (eBin fIx (eVar 0) (eC (.int 2))) (eBin fIx (eVar 1) (eC (.int 2)))) (eC (.int 1))) aNil)))))))))
def F_w_part_due : DF := runB 5 2 B_w_part_due
theorem d_w_part_due (T : Txt K mg) : FnD P w K mg base 2 T.a_w_part_due T.d_w_part_due P_w_part_due F_w_part_due := fnD T.F_w_part_due sc_w_part_due (by decide) B_w_part_due (fun cdv A outer s H E hr => (sd_cons (sd_asg (ps_set (i := 2) sc_w_part_due.nd rfl (Or.inr rfl) (by refine pd_call (k := 1) (f := T.a_w_subscripts) (fd := T.d_w_subscripts) (ps := P_w_subscripts) (F := F_w_subscripts) ?_ ?_ ?_ ?_ ?_ ?_ ?_ ?_; exact d_w_subscripts T; exact hr.mono (by decide); exact rfl; exact T.g_w_subscripts; exact T.F_w_subscripts.kp; exact b_w_subscripts T; exact (wok_takes (takes_of rfl rfl rfl rfl)); exact (ad_cons (pd_var 0) ad_nil)))) (sd_cons (sd_if (qd_not (qd_tr (pd_cb call_isiA cd_isi (by rfl) T.z_isinstance (by decide +kernel) (ad_cons (pd_var 1) (ad_cons (pd_tup (ad_cons (pd_ty (by rfl) T.z_list (by decide +kernel)) (ad_cons (pd_ty (by rfl) T.z_tuple (by decide +kernel)) ad_nil))) ad_nil))))) (sd_one (sd_ret (pd_ix (pd_var 2) (pd_sub (pd_var 1) pd_int)))) sd_nil) (sd_cons (by first | exact sd_asg (asg_weak (ps_setLc (own := [("_law_one", 4)]) (i := 3) rfl sc_w_part_due.nd rfl rfl rfl (id_seq (by refine pd_call (k := 1) (f := T.a_w_subscripts) (fd := T.d_w_subscripts) (ps := P_w_subscripts) (F := F_w_subscripts) ?_ ?_ ?_ ?_ ?_ ?_ ?_ ?_; exact d_w_subscripts T; exact hr.mono (by decide); exact rfl; exact T.g_w_subscripts; exact T.F_w_subscripts.kp; exact b_w_subscripts T; exact (wok_takes (takes_of rfl rfl rfl rfl)); exact (ad_cons (pd_var 1) ad_nil))) (blkOk_by (own := [("_law_one", 4)]) (N := N_w_part_due) (sc := defScope s_w_part_due) (by decide +kernel)) (fun _ _ _ _ _ => (gd_name (i := 4) sc_w_part_due.nd rfl (Or.inl rfl) (by decide))) (fun _ _ _ _ _ => td_nil) (fun _ _ _ _ _ => (pd_ix (pd_var 2) (pd_sub (pd_var 4) pd_int)))) (fun _ _ _ h => lc_ok (eL_ok h))) | exact sd_asg (ps_set (i := 3) sc_w_part_due.nd rfl (Or.inl rfl) (pd_L (pl_lc (own := [("_law_one", 4)]) rfl sc_w_part_due.nd (id_seq (by refine pd_call (k := 1) (f := T.a_w_subscripts) (fd := T.d_w_subscripts) (ps := P_w_subscripts) (F := F_w_subscripts) ?_ ?_ ?_ ?_ ?_ ?_ ?_ ?_; exact d_w_subscripts T; exact hr.mono (by decide); exact rfl; exact T.g_w_subscripts; exact T.F_w_subscripts.kp; exact b_w_subscripts T; exact (wok_takes (takes_of rfl rfl rfl rfl)); exact (ad_cons (pd_var 1) ad_nil))) (blkOk_by (own := [("_law_one", 4)]) (N := N_w_part_due) (sc := defScope s_w_part_due) (by decide +kernel)) (fun _ _ _ _ _ => (gd_name (i := 4) sc_w_part_due.nd rfl (Or.inl rfl) (by decide))) (fun _ _ _ _ _ => td_nil) (fun _ _ _ _ _ => (pd_ix (pd_var 2) (pd_sub (pd_var 4) pd_int))))))) (sd_cons (sd_if (qd_or (qd_tr (pd_cb call_isiA cd_isi (by rfl) T.z_isinstance (by decide +kernel) (ad_cons (pd_var 0) (ad_cons (pd_ty (by rfl) T.z_list (by decide +kernel)) ad_nil)))) (qd_or1 (qd_tr (pd_cb call_isiA cd_isi (by rfl) T.z_isinstance (by decide +kernel) (ad_cons (pd_var 1) (ad_cons (pd_ty (by rfl) T.z_list (by decide +kernel)) ad_nil)))))).pt (sd_one (sd_ret (pd_var 3))) sd_nil) (sd_one (sd_ret (pd_tup (ad_cons (pd_ix (pd_var 3) pd_int) (ad_cons (pd_ix (pd_var 3) (pd_neg pd_int)) (ad_cons (pd_if (qd_gt (pd_cb call_len cd_len (by rfl) T.z_len (by decide +kernel) (ad_cons (pd_var 3) ad_nil)) pd_int) (pd_mul (pd_ix (pd_var 0) pd_int) (pd_ix (pd_var 1) pd_int)) pd_int) ad_nil)))))))))))
def B_w_due : DS := (sSeq (sMul [3, 4, 5] (mVal (eBin fIn (eC (.int 0)) (eL (aLc (iSeq (eVar 1)) (gN 2) tYesD (eCall 1 F_w_many (aCons (eVar 2) aNil)) [2]))) (mOwn (aLst aNil) (mVal (eC (.int 0)) aNil)))) (sSeq (sFor (iSeq (eVar 0)) (gN 2) (sIf (tTr (eCB fIsi (aCons (eVar 2) (aCons (eTup (aCons (eC (.ty "list")) (aCons (eC (.ty "tuple")) aNil))) aNil)))) (sSeq (sApp 4 (eIf (tTr (eVar 3)) (eCall 1 F_w_bare_part (aCons (eBin fIx (eVar 1) (eVar 5)) aNil)) (eCall 2 F_w_part_due (aCons (eVar 2) (aCons (eBin fIx (eVar 1) (eVar 5)) aNil))))) (sAsg 5 (eBin fAdd (eVar 5) (eC (.int 1))))) (sApp 4 (eVar 2)))) (sFrz 4 (sRet (eCB fTuple (aCons (eVar 4) aNil))))))
def F_w_due : DF := runB 6 2 B_w_due
theorem d_w_due (T : Txt K mg) : FnD P w K mg base 3 T.a_w_due T.d_w_due P_w_due F_w_due := fnD T.F_w_due sc_w_due (by decide) B_w_due (fun cdv A outer s H E hr => (sd_cons (by first | exact (sd_par3 (ps_par3 rfl sc_w_due.nd rfl rfl rfl (by decide) (by decide) (by decide) rfl rfl rfl (md_val (pd_in (units65 hr) pd_int (pd_L (pl_lc (own := [("_law_part_here", 2)]) rfl sc_w_due.nd (id_seq (pd_var 1)) (blkOk_by (own := [("_law_part_here", 2)]) (N := N_w_due) (sc := defScope s_w_due) (by decide +kernel)) (fun _ _ _ _ _ => (gd_name (i := 2) sc_w_due.nd rfl (Or.inl rfl) (by decide))) (fun _ _ _ _ _ => td_nil) (fun _ _ _ _ _ => (by refine pd_call (k := 1) (f := T.a_w_many) (fd := T.d_w_many) (ps := P_w_many) (F := F_w_many) ?_ ?_ ?_ ?_ ?_ ?_ ?_ ?_; exact d_w_many T; exact hr.mono (by decide); exact rfl; exact T.g_w_many; exact T.F_w_many.kp; exact b_w_many T; exact wok0; exact (ad_cons (pd_var 2) ad_nil)))))) (md_own (pl_lst ad_nil) (md_val pd_int md_nil))) rfl)) | exact (sd_multi (ps_asg (pe_tup (md_val (pd_in (units65 hr) pd_int (pd_L (pl_lc (own := [("_law_part_here", 2)]) rfl sc_w_due.nd (id_seq (pd_var 1)) (blkOk_by (own := [("_law_part_here", 2)]) (N := N_w_due) (sc := defScope s_w_due) (by decide +kernel)) (fun _ _ _ _ _ => (gd_name (i := 2) sc_w_due.nd rfl (Or.inl rfl) (by decide))) (fun _ _ _ _ _ => td_nil) (fun _ _ _ _ _ => (by refine pd_call (k := 1) (f := T.a_w_many) (fd := T.d_w_many) (ps := P_w_many) (F := F_w_many) ?_ ?_ ?_ ?_ ?_ ?_ ?_ ?_; exact d_w_many T; exact hr.mono (by decide); exact rfl; exact T.g_w_many; exact T.F_w_many.kp; exact b_w_many T; exact wok0; exact (ad_cons (pd_var 2) ad_nil)))))) (md_own (pl_lst ad_nil) (md_val pd_int md_nil)))) (pg_tup rfl (pgs_cons (pg_name (i := 3) sc_w_due.nd rfl (Or.inl rfl)) (pgs_cons (pg_name (i := 4) sc_w_due.nd rfl (Or.inl rfl)) (pgs_cons (pg_name (i := 5) sc_w_due.nd rfl (Or.inl rfl)) pgs_nil))))) rfl (by decide))) (sd_cons (sd_for (vs := [2]) (passes_of rfl) rfl (id_seq (pd_var 0)) (gd_name (i := 2) sc_w_due.nd rfl (Or.inl rfl) (by decide)) (sd_one (sd_if (qd_tr (pd_cb call_isiA cd_isi (by rfl) T.z_isinstance (by decide +kernel) (ad_cons (pd_var 2) (ad_cons (pd_tup (ad_cons (pd_ty (by rfl) T.z_list (by decide +kernel)) (ad_cons (pd_ty (by rfl) T.z_tuple (by decide +kernel)) ad_nil))) ad_nil)))) (sd_cons (sd_app (ps_expr (pe_bm PySem.F.plainAttrs_list PySem.F.slot_list_append PySem.F.type_list_append mt_append (pv 4) (pa_cons (pd_if (qd_tr (pd_var 3)) (by refine pd_call (k := 1) (f := T.a_w_bare_part) (fd := T.d_w_bare_part) (ps := P_w_bare_part) (F := F_w_bare_part) ?_ ?_ ?_ ?_ ?_ ?_ ?_ ?_; exact d_w_bare_part T; exact hr.mono (by decide); exact rfl; exact T.g_w_bare_part; exact T.F_w_bare_part.kp; exact b_w_bare_part T; exact (wok_takes (takes_of rfl rfl rfl rfl)); exact (ad_cons (pd_ix (pd_var 1) (pd_var 5)) ad_nil)) (by refine pd_call (k := 2) (f := T.a_w_part_due) (fd := T.d_w_part_due) (ps := P_w_part_due) (F := F_w_part_due) ?_ ?_ ?_ ?_ ?_ ?_ ?_ ?_; exact d_w_part_due T; exact hr.mono (by decide); exact rfl; exact T.g_w_part_due; exact T.F_w_part_due.kp; exact b_w_part_due T; exact (wok_takes (takes_of rfl rfl rfl rfl)); exact (ad_cons (pd_var 2) (ad_cons (pd_ix (pd_var 1) (pd_var 5)) ad_nil)))) pa_nil)))) (sd_one (sd_asg (ps_set (i := 5) sc_w_due.nd rfl (Or.inl rfl) (pd_add (pd_var 5) pd_int))))) (sd_one (sd_app (ps_expr (pe_bm PySem.F.plainAttrs_list PySem.F.slot_list_append PySem.F.type_list_append mt_append (pv 4) (pa_cons (pd_var 2) pa_nil)))))))) (sd_frz 4 (sd_one (sd_ret (pd_ct call_tuple_of cd_tuple (by rfl) T.z_tuple (by decide +kernel) (ad_cons (pd_var 4) ad_nil))))))))
theorem kb_composed_2_1_0 (T : Txt K mg) : KwB T.d_composed ["bounds", "section", "inner"] 0 ["inner", "section", "bounds"] [2, 1, 0] := Fun.kwb T.F_composed fun _ _ _ _ _ _ us ws h1 h2 => match us, ws, h1, h2 with | [], [_, _, _], _, _ => rfl
def B_w_right : DS := (sSeq (sAsg 1 (eCall 3 F_w_bounds (aCons (eVar 0) (aCons (eC (.int 4)) (aCons (eC (.int 6)) aNil))))) (sSeq (sAsg 2 (eCall 2 F_w_section (aCons (eVar 0) (aCons (eVar 1) aNil)))) (sSeq (sAsg 4 (eL (aLc (iSeq (eVar 2)) (gN 3) (tTr (eCB fIsi (aCons (eVar 3) (aCons (eTup (aCons (eC (.ty "list")) (aCons (eC (.ty "tuple")) aNil))) aNil)))) (eVar 3) [3]))) (sSeq (sIf (tE (eBin fEq (eVar 4) (eL (aLst aNil)))) (sRet (eC (.bl true))) sNx) (sSeq (sAsg 5 (eCB fTuple (aCons (eL (aLc (iSeq (eVar 4)) (gN 3) tYesD (eTup (aCons (eC (.int 1)) (aCons (eCall 1 F_w_many (aCons (eVar 3) aNil)) aNil))) [3])) aNil))) (sSeq (sAsg 6 (eCall 2 F_w_section (aCons (eVar 0) (aCons (eVar 5) aNil)))) (sSeq (sAsg 7 (eCall 2 F_w_due (aCons (eVar 2) (aCons (eVar 6) aNil)))) (sSeg 8 3 (eCall 3 F_composed (aCons (eVar 1) (aCons (eVar 2) (aCons (eVar 6) aNil)))) (tE (eBin fNe (eVar 8) (eVar 7))) (sSeq (sIf (tE (eBin fNe (eCall 3 F_composed (aCons (eVar 1) (aCons (eVar 2) (aCons (eVar 6) aNil)))) (eVar 7))) (sRet (eC (.bl false))) sNx) (sSeq (sIf (tE (eBin fNe (eCallK 3 0 3 [2, 1, 0] F_composed aNil (aCons (eVar 6) (aCons (eVar 2) (aCons (eVar 1) aNil)))) (eVar 7))) (sRet (eC (.bl false))) sNx) (sSeq (sIf (tOn (tE (eBin fIn (eC (.int 0)) (eL (aLc (iSeq (eVar 6)) (gN 3) tYesD (eCall 1 F_w_many (aCons (eVar 3) aNil)) [3])))) (tE (eBin fIn (eC (.int 0)) (eL (aLc (iSeq (eVar 2)) (gN 3) tYesD (eCall 1 F_w_many (aCons (eVar 3) aNil)) [3]))))) (sRet (eC (.bl true))) sNx) (sSeq (sAsg 9 (eCall 1 F_w_elements (aCons (eVar 2) aNil))) (sRet (eBin fEq (eL (aLc (iSeq (eCall 1 F_w_elements (aCons (eVar 6) aNil))) (gN 10) tYesD (eBin fIx (eVar 9) (eCall 2 F_w_place (aCons (eVar 5) (aCons (eVar 10) aNil)))) [10])) (eCall 1 F_w_elements (aCons (eVar 7) aNil))))))))))))))))
def F_w_right : DF := runB 11 1 B_w_right
theorem d_w_right (T : Txt K mg) : FnD P w K mg base 8 T.a_w_right T.d_w_right P_w_right F_w_right := fnD T.F_w_right sc_w_right (by decide) B_w_right (fun cdv A outer s H E hr => (sd_cons (sd_asg (ps_set (i := 1) sc_w_right.nd rfl (Or.inl rfl) (by refine pd_call (k := 4) (f := T.a_w_bounds) (fd := T.d_w_bounds) (ps := P_w_bounds) (F := F_w_bounds) ?_ ?_ ?_ ?_ ?_ ?_ ?_ ?_; exact d_w_bounds T; exact hr.mono (by decide); exact rfl; exact T.g_w_bounds; exact T.F_w_bounds.kp; exact b_w_bounds T; exact (wok_takes (takes_of rfl rfl rfl rfl)); exact (ad_cons (pd_var 0) (ad_cons pd_int (ad_cons pd_int ad_nil)))))) (sd_cons (sd_asg (ps_set (i := 2) sc_w_right.nd rfl (Or.inl rfl) (by refine pd_call (k := 5) (f := T.a_w_section) (fd := T.d_w_section) (ps := P_w_section) (F := F_w_section) ?_ ?_ ?_ ?_ ?_ ?_ ?_ ?_; exact d_w_section T; exact hr.mono (by decide); exact rfl; exact T.g_w_section; exact T.F_w_section.kp; exact b_w_section T; exact (wok_takes (takes_of rfl rfl rfl rfl)); exact (ad_cons (pd_var 0) (ad_cons (pd_var 1) ad_nil))))) (sd_cons (by first | exact sd_asg (asg_weak (ps_setLc (own := [("_law_part_here", 3)]) (i := 4) rfl sc_w_right.nd rfl rfl rfl (id_seq (pd_var 2)) (blkOk_by (own := [("_law_part_here", 3)]) (N := N_w_right) (sc := defScope s_w_right) (by decide +kernel)) (fun _ _ _ _ _ => (gd_name (i := 3) sc_w_right.nd rfl (Or.inl rfl) (by decide))) (fun _ _ _ _ _ => (td_one (qd_tr (pd_cb call_isiA cd_isi (by rfl) T.z_isinstance (by decide +kernel) (ad_cons (pd_var 3) (ad_cons (pd_tup (ad_cons (pd_ty (by rfl) T.z_list (by decide +kernel)) (ad_cons (pd_ty (by rfl) T.z_tuple (by decide +kernel)) ad_nil))) ad_nil)))))) (fun _ _ _ _ _ => (pd_var 3))) (fun _ _ _ h => lc_ok (eL_ok h))) | exact sd_asg (ps_set (i := 4) sc_w_right.nd rfl (Or.inl rfl) (pd_L (pl_lc (own := [("_law_part_here", 3)]) rfl sc_w_right.nd (id_seq (pd_var 2)) (blkOk_by (own := [("_law_part_here", 3)]) (N := N_w_right) (sc := defScope s_w_right) (by decide +kernel)) (fun _ _ _ _ _ => (gd_name (i := 3) sc_w_right.nd rfl (Or.inl rfl) (by decide))) (fun _ _ _ _ _ => (td_one (qd_tr (pd_cb call_isiA cd_isi (by rfl) T.z_isinstance (by decide +kernel) (ad_cons (pd_var 3) (ad_cons (pd_tup (ad_cons (pd_ty (by rfl) T.z_list (by decide +kernel)) (ad_cons (pd_ty (by rfl) T.z_tuple (by decide +kernel)) ad_nil))) ad_nil)))))) (fun _ _ _ _ _ => (pd_var 3)))))) (sd_cons (sd_if (qd_eq hr.units (pd_var 4) (pd_L (pl_lst ad_nil))) (sd_one (sd_ret pd_bl)) sd_nil) (sd_cons (sd_asg (ps_set (i := 5) sc_w_right.nd rfl (Or.inr rfl) (pd_ct call_tuple_of cd_tuple (by rfl) T.z_tuple (by decide +kernel) (ad_cons (pd_L (pl_lc (own := [("_law_part_here", 3)]) rfl sc_w_right.nd (id_seq (pd_var 4)) (blkOk_by (own := [("_law_part_here", 3)]) (N := N_w_right) (sc := defScope s_w_right) (by decide +kernel)) (fun _ _ _ _ _ => (gd_name (i := 3) sc_w_right.nd rfl (Or.inl rfl) (by decide))) (fun _ _ _ _ _ => td_nil) (fun _ _ _ _ _ => (pd_tup (ad_cons pd_int (ad_cons (by refine pd_call (k := 1) (f := T.a_w_many) (fd := T.d_w_many) (ps := P_w_many) (F := F_w_many) ?_ ?_ ?_ ?_ ?_ ?_ ?_ ?_; exact d_w_many T; exact hr.mono (by decide); exact rfl; exact T.g_w_many; exact T.F_w_many.kp; exact b_w_many T; exact wok0; exact (ad_cons (pd_var 3) ad_nil)) ad_nil)))))) ad_nil)))) (sd_cons (sd_asg (ps_set (i := 6) sc_w_right.nd rfl (Or.inl rfl) (by refine pd_call (k := 5) (f := T.a_w_section) (fd := T.d_w_section) (ps := P_w_section) (F := F_w_section) ?_ ?_ ?_ ?_ ?_ ?_ ?_ ?_; exact d_w_section T; exact hr.mono (by decide); exact rfl; exact T.g_w_section; exact T.F_w_section.kp; exact b_w_section T; exact (wok_takes (takes_of rfl rfl rfl rfl)); exact (ad_cons (pd_var 0) (ad_cons (pd_var 5) ad_nil))))) (sd_cons (sd_asg (ps_set (i := 7) sc_w_right.nd rfl (Or.inl rfl) (by refine pd_call (k := 3) (f := T.a_w_due) (fd := T.d_w_due) (ps := P_w_due) (F := F_w_due) ?_ ?_ ?_ ?_ ?_ ?_ ?_ ?_; exact d_w_due T; exact hr.mono (by decide); exact rfl; exact T.g_w_due; exact T.F_w_due.kp; exact b_w_due T; exact (wok_takes (takes_of rfl rfl rfl rfl)); exact (ad_cons (pd_var 2) (ad_cons (pd_var 6) ad_nil))))) (sd_seg 8 3 (fun o => ps_set (i := 8) sc_w_right.nd rfl (Or.inl rfl) (by refine pd_call (k := 7) (f := T.a_composed) (fd := T.d_composed) (ps := P_composed) (F := F_composed) ?_ ?_ ?_ ?_ ?_ ?_ ?_ ?_; exact d_composed T; exact hr.mono (by decide); exact rfl; exact T.g_composed; exact T.F_composed.kp; exact b_composed T; exact (wok_takes (takes_of rfl rfl rfl rfl)); exact (ad_cons (pd_var 1) (ad_cons (pd_var 2) (ad_cons (pd_var 6) ad_nil))))) (fun o => ps_if (qd_ne hr.units (pd_var 8) (pd_var 7)) (pss_one (ps_ret pe_bl)) pss_nil) (ps_for (passes_of rfl) rfl (pi_tup (pv 8)) (pg_name (i := 3) sc_w_right.nd rfl (Or.inl rfl)) (pss_one (ps_if (pt_any fun o => (qd_tr (pd_cb call_isiA cd_isi (by rfl) T.z_isinstance (by decide +kernel) (ad_cons (pd_var 3) (ad_cons (pd_ty (by rfl) T.z_list (by decide +kernel)) ad_nil))))) (pss_one (ps_expr (pe_bm PySem.F.plainAttrs_list PySem.F.slot_list_append PySem.F.type_list_append mt_append (pv 3) (pa_cons pe_int pa_nil)))) pss_nil))) (sd_cons (sd_if (qd_ne hr.units (by refine pd_call (k := 7) (f := T.a_composed) (fd := T.d_composed) (ps := P_composed) (F := F_composed) ?_ ?_ ?_ ?_ ?_ ?_ ?_ ?_; exact d_composed T; exact hr.mono (by decide); exact rfl; exact T.g_composed; exact T.F_composed.kp; exact b_composed T; exact (wok_takes (takes_of rfl rfl rfl rfl)); exact (ad_cons (pd_var 1) (ad_cons (pd_var 2) (ad_cons (pd_var 6) ad_nil)))) (pd_var 7)) (sd_one (sd_ret pd_bl)) sd_nil) (sd_cons (sd_if (qd_ne hr.units (by refine pd_callK0 (k := 7) (f := T.a_composed) (fd := T.d_composed) (ps := P_composed) (F := F_composed) (ks := ["inner", "section", "bounds"]) (π := [2, 1, 0]) ?_ ?_ ?_ ?_ ?_ ?_ ?_ ?_; exact d_composed T; exact hr.mono (by decide); exact rfl; exact T.g_composed; exact T.F_composed.kp; exact kb_composed_2_1_0 T; exact (wok_takes (takes_of rfl rfl rfl rfl)); exact (kd_cons (pd_var 6) (kd_cons (pd_var 2) (kd_cons (pd_var 1) kd_nil)))) (pd_var 7)) (sd_one (sd_ret pd_bl)) sd_nil) (sd_cons (sd_if (qd_or (qd_in (units65 hr) pd_int (pd_L (pl_lc (own := [("_law_part_here", 3)]) rfl sc_w_right.nd (id_seq (pd_var 6)) (blkOk_by (own := [("_law_part_here", 3)]) (N := N_w_right) (sc := defScope s_w_right) (by decide +kernel)) (fun _ _ _ _ _ => (gd_name (i := 3) sc_w_right.nd rfl (Or.inl rfl) (by decide))) (fun _ _ _ _ _ => td_nil) (fun _ _ _ _ _ => (by refine pd_call (k := 1) (f := T.a_w_many) (fd := T.d_w_many) (ps := P_w_many) (F := F_w_many) ?_ ?_ ?_ ?_ ?_ ?_ ?_ ?_; exact d_w_many T; exact hr.mono (by decide); exact rfl; exact T.g_w_many; exact T.F_w_many.kp; exact b_w_many T; exact wok0; exact (ad_cons (pd_var 3) ad_nil)))))) (qd_or1 (qd_in (units65 hr) pd_int (pd_L (pl_lc (own := [("_law_part_here", 3)]) rfl sc_w_right.nd (id_seq (pd_var 2)) (blkOk_by (own := [("_law_part_here", 3)]) (N := N_w_right) (sc := defScope s_w_right) (by decide +kernel)) (fun _ _ _ _ _ => (gd_name (i := 3) sc_w_right.nd rfl (Or.inl rfl) (by decide))) (fun _ _ _ _ _ => td_nil) (fun _ _ _ _ _ => (by refine pd_call (k := 1) (f := T.a_w_many) (fd := T.d_w_many) (ps := P_w_many) (F := F_w_many) ?_ ?_ ?_ ?_ ?_ ?_ ?_ ?_; exact d_w_many T; exact hr.mono (by decide); exact rfl; exact T.g_w_many; exact T.F_w_many.kp; exact b_w_many T; exact wok0; exact (ad_cons (pd_var 3) ad_nil)))))))).pt (sd_one (sd_ret pd_bl)) sd_nil) (sd_cons (sd_asg (ps_set (i := 9) sc_w_right.nd rfl (Or.inr rfl) (by refine pd_call (k := 2) (f := T.a_w_elements) (fd := T.d_w_elements) (ps := P_w_elements) (F := F_w_elements) ?_ ?_ ?_ ?_ ?_ ?_ ?_ ?_; exact d_w_elements T; exact hr.mono (by decide); exact rfl; exact T.g_w_elements; exact T.F_w_elements.kp; exact b_w_elements T; exact (wok_takes (takes_of rfl rfl rfl rfl)); exact (ad_cons (pd_var 2) ad_nil)))) (sd_one (sd_ret (pd_eq hr.units (pd_L (pl_lc (own := [("_law_one", 10)]) rfl sc_w_right.nd (id_seq (by refine pd_call (k := 2) (f := T.a_w_elements) (fd := T.d_w_elements) (ps := P_w_elements) (F := F_w_elements) ?_ ?_ ?_ ?_ ?_ ?_ ?_ ?_; exact d_w_elements T; exact hr.mono (by decide); exact rfl; exact T.g_w_elements; exact T.F_w_elements.kp; exact b_w_elements T; exact (wok_takes (takes_of rfl rfl rfl rfl)); exact (ad_cons (pd_var 6) ad_nil))) (blkOk_by (own := [("_law_one", 10)]) (N := N_w_right) (sc := defScope s_w_right) (by decide +kernel)) (fun _ _ _ _ _ => (gd_name (i := 10) sc_w_right.nd rfl (Or.inl rfl) (by decide))) (fun _ _ _ _ _ => td_nil) (fun _ _ _ _ _ => (pd_ix (pd_var 9) (by refine pd_call (k := 1) (f := T.a_w_place) (fd := T.d_w_place) (ps := P_w_place) (F := F_w_place) ?_ ?_ ?_ ?_ ?_ ?_ ?_ ?_; exact d_w_place T; exact hr.mono (by decide); exact rfl; exact T.g_w_place; exact T.F_w_place.kp; exact b_w_place T; exact wok0; exact (ad_cons (pd_var 5) (ad_cons (pd_var 10) ad_nil))))))) (by refine pd_call (k := 2) (f := T.a_w_elements) (fd := T.d_w_elements) (ps := P_w_elements) (F := F_w_elements) ?_ ?_ ?_ ?_ ?_ ?_ ?_ ?_; exact d_w_elements T; exact hr.mono (by decide); exact rfl; exact T.g_w_elements; exact T.F_w_elements.kp; exact b_w_elements T; exact (wok_takes (takes_of rfl rfl rfl rfl)); exact (ad_cons (pd_var 7) ad_nil))))))))))))))))))
end

end DL

namespace DL
open PySem PySem.Spec PyProof.Rows L2
instance noOld : OldT := ⟨fun _ => none⟩

/-! ### the law's own shell: the source of wells, the turns -/
section
variable {X : Cx}
/-- list + list, whatever the first one is -/
theorem op_catS : OpR X (binaryOp .Add) (fun x y H Q => ∃ l b xs zs, x = V.ref l ∧ y = V.ref b ∧ SqL X.K H l xs ∧ SqL X.K H b zs ∧ xs.length + zs.length ≤ sizeLine ∧ ∀ p, H p = none → Q (.ref p) (upd H p (.lst (xs ++ zs)))) := by
  intro pins s σ H x y v u Q I rx ry h
  obtain ⟨l, b, xs, zs, rfl, rfl, hH, hB, hz, q⟩ := h
  cases rx
  cases ry
  obtain ⟨its, r, ⟨⟨cls, dd, data, sl⟩, n, ho, hc, hdn, hd⟩, hl⟩ := I.list hH
  obtain ⟨its2, r2, ⟨⟨cls2, dd2, data2, sl2⟩, n2, ho2, hc2, hdn2, hd2⟩, hl2⟩ := I.list hB
  simp only at hc hd hc2 hd2
  subst hc hd hc2 hd2
  have e : its.toArray ++ its2.toArray = (its ++ its2).toArray := by simp
  refine concat_meets ⟨_, ho, rfl⟩ ⟨_, ho2, rfl⟩ noFill_list_add seq_list_add PySem.F.slot_list_add PySem.F.entry_list_add (PySem.F.args_list_add_2 _ _) (list_addW l b its.toArray its2.toArray n n2 dd dd2 sl sl2 (by rw [List.size_toArray, List.size_toArray, ← r.length, ← r2.length]; exact hz)) ⟨ho, ho2, ?_⟩
  rw [e]
  exact ⟨.ref _, _, I.lnew (t' := s.toks) (r.append r2) (by rw [List.length_append]; exact hz), rfl, q _ I.fresh⟩
end
theorem Rd.keep {H H' : Hp} {a : Addr} {u : HO} (h : Rd H a u) (k : ∀ o, H a = some o → H' a = some o) : Rd H' a u := h.elim (fun e => .inl (k _ e)) fun ⟨o, e⟩ => .inr ⟨o, k _ e⟩
theorem SqL.keep {K : PySem.W.Frag} {H H' : Hp} {a : Addr} {xs : List V} (h : SqL K H a xs) (k : ∀ o, H a = some o → H' a = some o) : SqL K H' a xs := h.elim (fun e => .inl (Rd.keep e k)) .inr
theorem same_upd {H : Hp} {p : Addr} {o : HO} (h : H p = none) : Same H (upd H p o) := fun b x e => by
  rw [upd_ne (ne_of_none e h)]
  exact e
section
variable {P : Program} {w : World} {K : PySem.W.Frag} {mg : Str → Option Value} {base : Heap}
abbrev N_w_source : List Str := ["_law_script", "_law_k", "_law_cell"]
abbrev P_w_source : List Str := ["_law_script", "_law_k"]
theorem sc_w_source : FnScope N_w_source P_w_source (defScope s_w_source) := ⟨rfl, rfl, rfl, by decide +kernel, rfl, by decide +kernel, by decide +kernel⟩
def spSource (K : PySem.W.Frag) : Sp := fun vs H Q _ => ∃ (a : Addr) (ns : List Int) (k : Nat), vs = [.ref a, .int k] ∧ SqL K H a (ns.map V.int) ∧ ns.length ≤ 63 ∧ k < 4 ∧
  ∀ H' p (c d : Int), Same H H' → H p = none → H' p = some (.lst (wl (c, d, 0))) → Q (.ref p) H'
theorem head0 {ns : List Int} : ∃ c, atI (ns.map V.int ++ [V.int 0]) 0 = some (.int c) := by
  cases ns with
  | nil => exact ⟨0, rfl⟩
  | cons c r => exact ⟨c, atI_nat (j := 0) rfl⟩
theorem ok_source (T : Txt K mg) : FnOk P w K mg base (L2.CX P w) 1 T.a_w_source T.d_w_source P_w_source (spSource K) := by
  refine T.F_w_source.okX sc_w_source (fun vs H Q E h => ?_) (fun cdv A outer s H vs Q E hr h => ?_)
  · obtain ⟨a, ns, k, rfl, _⟩ := h
    rfl
  · obtain ⟨a, ns, k, rfl, hS, hlen, hk, q⟩ := h
    refine ⟨_, pss_cons (ps_set (i := 2) sc_w_source.nd rfl (.inl rfl) (pe_op op_add (pe_ix ix_list (pe_op op_catS (pv 0) (pe_lst (pa_cons pe_int pa_nil))) pe_int (fun _ _ => rfl)) (pe_op op_mul pe_int (pv 1))))
      (pss_cons (ps_if (pt_cmpR op_lt (pv 1) (pe_callB call_len_seq (by rfl) T.z_len PySem.boot_len (pa_cons (pv 0) pa_nil)) (nomark _))
        (pss_one (ps_set (i := 2) sc_w_source.nd rfl (.inl rfl) (pe_ix ix_list (pv 0) (pv 1) (fun _ _ => rfl)))) pss_nil)
      (pss_one (ps_ret (pe_lst (pa_cons (pe_op op_mul (pv 2) (pe_callTy call_int1 (by rfl) T.z_int (by decide +kernel) (pa_cons (pe_cmpR op_ge (pv 2) (pe_op op_pow pe_int pe_int) (nomark _)) pa_nil))) (pa_cons (pv 2) (pa_cons pe_int pa_nil))))))), ?_⟩
    obtain ⟨c0, hc0⟩ := head0 (ns := ns)
    refine ⟨.ref a, rfl, by decide, fun p1 n1 => ?_⟩
    have s1 : Same H (upd H p1 (.lst [.int 0])) := same_upd n1
    refine ⟨a, p1, ns.map V.int, [.int 0], rfl, rfl, SqL.keep hS (s1 a), SqL.of upd_same, ?_, fun p2 n2 => ?_⟩
    · rw [List.length_map]
      exact Nat.le_trans (Nat.add_le_add_right hlen 1) (by decide)
    have s2 := s1.trans (same_upd (o := .lst (ns.map V.int ++ [V.int 0])) n2)
    refine ⟨p2, _, 0, .int c0, rfl, rfl, SqL.of upd_same, hc0, .int k, rfl, 7919, k, rfl, rfl, .inl ⟨by decide, by decide⟩, c0, 7919 * k, rfl, rfl, ?_⟩
    -- if k < len(script)
    have fin : ∀ (d : Int) (H1 : Hp), Same H H1 → ∀ p, H1 p = none → ∀ c : Int, Q (.ref p) (upd H1 p (.lst [.int c, .int d, .int 0])) := fun d H1 sm p hp c =>
      q _ p c d (sm.trans (same_upd hp)) (by
        cases e : H p with
        | none => rfl
        | some o => rw [sm _ _ e] at hp; cases hp) upd_same
    refine ⟨.int k, rfl, .ref a, rfl, a, ns.map V.int, rfl, .inl (SqL.keep hS (s2 a)), k, (ns.map V.int).length, rfl, rfl, _, rfl, ite2 (fun e => ?_) (fun e => ?_)⟩
    · have e0 : (k : Int) < ((ns.map V.int).length : Int) := of_decide_eq_true e
      rw [List.length_map] at e0
      have hk2 : k < ns.length := by omega
      refine ⟨.ref a, rfl, .int k, rfl, a, _, k, .int ns[k], rfl, rfl, SqL.keep hS (s2 a), atI_nat (by rw [List.getElem?_map, List.getElem?_eq_getElem hk2]; rfl), ?_⟩
      refine ⟨.int ns[k], rfl, .int ns[k], rfl, 10, 18, rfl, rfl, ⟨by decide, by decide, by decide⟩, _, _, rfl, rfl, .inr ⟨_, rfl, ?_⟩⟩
      refine ⟨_, _, rfl, rfl, .inr ?_, .int ns[k], rfl, (show 3 ≤ sizeLine by decide), fun p hp => fin _ _ s2 p hp _⟩
      split <;> exact ⟨by decide, by decide⟩
    · refine ⟨_, rfl, _, rfl, 10, 18, rfl, rfl, ⟨by decide, by decide, by decide⟩, _, _, rfl, rfl, .inr ⟨_, rfl, ?_⟩⟩
      refine ⟨_, _, rfl, rfl, .inr ?_, _, rfl, (show 3 ≤ sizeLine by decide), fun p hp => fin _ _ s2 p hp _⟩
      split <;> exact ⟨by decide, by decide⟩
abbrev N_law : List Str := ["_law_script", "_law_k", "_law_well", "_law_turn"]
abbrev P_law : List Str := ["_law_script"]
theorem sc_law : FnScope N_law P_law (defScope s_law) := ⟨rfl, rfl, rfl, by decide +kernel, rfl, by decide +kernel, by decide +kernel⟩
def spLaw (K : PySem.W.Frag) : Sp := fun vs H Q _ => ∃ (a : Addr) (ns : List Int), vs = [.ref a] ∧ SqL K H a (ns.map V.int) ∧ ns.length ≤ 63 ∧ ∀ H', Q (.bl true) H'
/-- how far the well's own count has come -/
def Lap (b : Nat) (w : Wl) : Prop := 0 ≤ w.2.2 ∧ w.2.2 ≤ b
theorem ok_law (T : Txt K mg) (hR : ∀ (b : Nat) (w : Wl), b < 1000000 → Lap b w → ∃ w', F_w_right [.well] w = .ok (.bl true) w' ∧ Lap (b + 1000) w') : FnOk P w K mg base (L2.CX P w) (8 + 1) T.a_law T.d_law P_law (spLaw K) := by
  refine T.F_law.okX sc_law (fun vs H Q E h => ?_) (fun cdv A outer s H vs Q E hr h => ?_)
  · obtain ⟨a, ns, rfl, _⟩ := h
    rfl
  · obtain ⟨a, ns, rfl, hS, hlen, q⟩ := h
    refine ⟨_, pss_cons (ps_for (passes_of rfl) rfl (pi_range1 (by rfl) T.z_range (pa_cons (pe_callB (call_max2 rfl) (by rfl) T.z_max (by decide +kernel) (pa_cons pe_int (pa_cons (pe_callB (call_min2 rfl) (by rfl) T.z_min (by decide +kernel) (pa_cons pe_int (pa_cons (pe_callB call_len_seq (by rfl) T.z_len PySem.boot_len (pa_cons (pv 0) pa_nil)) pa_nil))) pa_nil))) pa_nil))
        (pg_name (i := 1) sc_law.nd rfl (.inl rfl))
        (pss_cons (ps_set (i := 2) sc_law.nd rfl (.inl rfl) (by refine pe_callS (CX := L2.CX P w) (k := 1) (f := T.a_w_source) (fd := T.d_w_source) (ps := P_w_source) (sp := spSource K) (E := WE W0) (t := tCons (tVar 0) (tCons (tVar 1) tNil)) ?_ ?_ ?_ ?_ ?_ ?_ ?_ ?_; exact ok_source T; exact hr.mono (by decide); exact rfl; exact T.g_w_source; exact T.F_w_source.kp; exact b_w_source T; exact wok0; exact pa_cons (pv 0) (pa_cons (pv 1) pa_nil)))
          (pss_one (ps_for (passes_of rfl) rfl (pi_range1 (by rfl) T.z_range (pa_cons pe_int pa_nil)) (pg_name (i := 3) sc_law.nd rfl (.inl rfl))
            (pss_one (ps_if (pt_not (pt_truth (by refine pe_callS (CX := L2.CX P w) (k := 8) (f := T.a_w_right) (fd := T.d_w_right) (ps := P_w_right) (sp := spD mg 1 F_w_right) (E := WE W0) (t := tCons (tVar 2) tNil) ?_ ?_ ?_ ?_ ?_ ?_ ?_ ?_; exact d_w_right T; exact hr; exact rfl; exact T.g_w_right; exact T.F_w_right.kp; exact b_w_right T; exact wok0; exact pa_cons (pv 2) pa_nil) (by intro _; rfl)))
              (pss_one (ps_ret pe_bl)) pss_nil))))))
      (pss_one (ps_ret pe_bl)), ?_⟩
    refine ⟨.ref a, rfl, a, _, rfl, .inl hS, _, _, rfl, _, _, rfl, _, rfl, ?_, ?_, ?_⟩
    · split <;> split at * <;> omega
    · split <;> split at * <;> omega
    have hn4 : ∀ z : Int, ((if (if z < 4 then z else 4) > 1 then (if z < 4 then z else 4) else 1) : Int).toNat ≤ 4 := fun z => by
      split <;> split at * <;> omega
    obtain ⟨n, hn⟩ : ∃ n : Nat, n = ((if (if (((ns.map V.int).length : Nat) : Int) < 4 then (((ns.map V.int).length : Nat) : Int) else 4) > 1 then (if (((ns.map V.int).length : Nat) : Int) < 4 then (((ns.map V.int).length : Nat) : Int) else 4) else 1) : Int).toNat := ⟨_, rfl⟩
    have hn5 : n ≤ 4 := by
      rw [hn]
      exact hn4 _
    have kS : ∀ H' : Hp, (∀ o, H a = some o → H' a = some o) → SqL K H' a (ns.map V.int) := fun H' k => SqL.keep hS k
    refine ⟨fun i m σ H1 => m = n - i ∧ i ≤ n ∧ (∀ o, H a = some o → H1 a = some o) ∧ ∃ y1 y2 y3, σ = [some (.ref a), y1, y2, y3], ⟨n, rfl, Nat.zero_le _, fun _ e => e, none, none, none, rfl⟩, ?_⟩
    rintro i m σ H1 ⟨rfl, hi, k1, y1, y2, y3, rfl⟩
    by_cases hlt : i < n
    · refine .inr ⟨show i < Int.toNat _ from hn ▸ hlt, fun σ' H' => (∀ o, H a = some o → H' a = some o) ∧ ∃ y1 y2 y3, σ' = [some (.ref a), y1, y2, y3], fun σ' H' hN => ⟨n - (i + 1), by omega, rfl, hlt, hN⟩, fun x H2 hy => ?_⟩
      obtain ⟨rfl, rfl⟩ := hy
      refine ⟨.ref a, rfl, .int (0 + i), rfl, a, ns, i, by rw [Int.zero_add], kS _ k1, hlen, by omega, fun H3 p c d sm np hp => ?_⟩
      have k3 : ∀ o, H a = some o → H3 a = some o := fun o e => sm _ _ (k1 o e)
      have hap : ∀ o, H a = some o → a ≠ p := fun o e z => by
        have e2 := k1 o e
        rw [z, np] at e2
        cases e2
      refine ⟨6, rfl, by decide, by decide, fun t m σ H4 => m = 6 - t ∧ t ≤ 6 ∧ (∀ o, H a = some o → H4 a = some o) ∧ ∃ y3 w4, σ = [some (.ref a), some (.int (0 + i)), some (.ref p), y3] ∧ Lap (1000 * t) w4 ∧ H4 p = some (.lst (wl w4)), ⟨6, rfl, by decide, k3, _, (c, d, 0), rfl, ⟨Int.le_refl 0, Int.le_refl 0⟩, hp⟩, ?_⟩
      rintro t m σ H4 ⟨rfl, ht, k4, y3, w4, rfl, l4, hp4⟩
      by_cases ht3 : t < 6
      · refine .inr ⟨ht3, fun σ' H' => (∀ o, H a = some o → H' a = some o) ∧ ∃ y3 w4, σ' = [some (.ref a), some (.int (0 + i)), some (.ref p), y3] ∧ Lap (1000 * (t + 1)) w4 ∧ H' p = some (.lst (wl w4)), fun σ' H' hN => ⟨6 - (t + 1), by omega, rfl, ht3, hN⟩, fun x H5 hy => ?_⟩
        obtain ⟨rfl, rfl⟩ := hy
        obtain ⟨w6, e6, l6⟩ := hR (1000 * t) w4 (by omega) l4
        refine ⟨.ref p, rfl, p, fun _ => none, [.well], w4, ⟨fun _ _ z => (by cases z), hp4, rfl, fun _ _ z => (by cases z)⟩, .cons .well .nil, rfl, ?_⟩
        rw [e6]
        intro H6 Hf6 g6 b6 v rv
        cases rv
        refine ⟨true, rfl, iteF ?_⟩
        exact ⟨fun o e => g6.keep a o (hap o e) (k4 o e), _, w6, rfl, l6, b6.well⟩
      · exact .inl ⟨show 6 ≤ t from by omega, k4, _, _, _, rfl⟩
    · exact .inl ⟨show Int.toNat _ ≤ i from hn ▸ by omega, q H1⟩
end
end DL

set_option maxHeartbeats 2000000
namespace DL
open PySem PySem.Spec PyProof.Rows L2
abbrev FAR : Int := 500000000000000000000000000000
def pD (p : Int × Int) : D := .tup [.int p.1, .int p.2]
def bD (bs : List (Int × Int)) : D := .tup (bs.map pD)
def ext (p : Int × Int) : Int := if p.2 - p.1 + 1 > 0 then p.2 - p.1 + 1 else 0
def inR (n : Int) : Bool := decide (-FAR ≤ n) && decide (n ≤ FAR)
structure Bds (bs : List (Int × Int)) : Prop where
  one : 1 ≤ bs.length
  few : bs.length ≤ 7
  near : ∀ p ∈ bs, inR p.1 = true ∧ inR p.2 = true
section
variable {w : Wl} {bs : List (Int × Int)} {xs : List Int}
theorem lim77 {n : Nat} (h : n ≤ 7) : n ≤ lim := Nat.le_trans h (by decide)
theorem e_is_number {n : Int} : F_is_number [.int n] w = .ok (.bl true) w := rfl
theorem e_is_range {p : Int × Int} : F_is_range [pD p] w = .ok (.bl ([p.1, p.2].all inR)) w := by
  apply okE_eq
  have h := lc_all (A := (eAnd (eCall 1 F_is_number (aCons (eVar 1) aNil)) (eChain fLe fLe (eUn fNeg (eC (D.int 500000000000000000000000000000))) (eVar 1) (eC (D.int 500000000000000000000000000000))))) (G := gN 1) D.int (fun n => .bl (inR n)) (s := [some (D.tup [D.int p.fst, D.int p.snd]), none]) (w := w) (xs := [p.1, p.2]) (fun x _ => by
    simp [e_is_number, inR]
    by_cases h : -500000000000000000000000000000 ≤ x <;> simp [h])
  simp only [List.map_cons, List.map_nil] at h
  simp [F_is_range, B_is_range, okE_run, pD, List.replicate, h]
  have h2 : fAll w [.lst [D.bl (inR p.1), D.bl (inR p.2)]] = some (.bl ([p.1, p.2].all inR)) := v_all (f := inR) (l := [p.1, p.2])
  simp [h2]
  decide
theorem e_is_bounds (h : Bds bs) : F_is_bounds [bD bs] w = .ok (.bl true) w := by
  apply okE_eq
  have h1 := h.one
  have h7 := h.few
  simp [F_is_bounds, B_is_bounds, okE_run, bD, List.replicate]
  refine ⟨by omega, by omega, lim77 h7, okE_lcall pD (fun p => .bl ([p.1, p.2].all inR)) (fun x _ => ?_) ?_⟩
  · simp [pD]
    rw [show (D.tup [D.int x.1, D.int x.2]) = pD x from rfl, e_is_range]
    simp
  · simp
    intro a b hab
    simpa using h.near _ hab
theorem e_check (h : Bds bs) : F_check_bounds [bD bs] w = .ok .non w := by
  apply okE_eq
  simp [F_check_bounds, B_check_bounds, okE_run, bD, List.replicate]
  rw [show D.tup (bs.map pD) = bD bs from rfl, e_is_bounds h]
  simp
/-- what the numbers come to, multiplied -/
def prod : List Int → Int
  | [] => 1
  | n :: r => n * prod r
def small (n : Int) : Prop := 0 ≤ n ∧ n ≤ 2 ^ 110
theorem prod_append {ms ns : List Int} : prod (ms ++ ns) = prod ms * prod ns := by
  induction ms with
  | nil => simp [prod]
  | cons m r ih => simp [prod, ih, Int.mul_assoc]
theorem prod_small : ∀ {ns : List Int}, (∀ n ∈ ns, small n) → 0 ≤ prod ns ∧ prod ns ≤ 2 ^ (110 * ns.length)
  | [], _ => ⟨by decide, by decide⟩
  | n :: r, h => by
    have ih := prod_small fun m hm => h m (List.mem_cons_of_mem _ hm)
    have hn := h n List.mem_cons_self
    refine ⟨Int.mul_nonneg hn.1 ih.1, ?_⟩
    have : n * prod r ≤ 2 ^ 110 * 2 ^ (110 * r.length) := Int.mul_le_mul hn.2 ih.2 ih.1 (by decide)
    rw [← Int.pow_add] at this
    rw [List.length_cons, show 110 * (r.length + 1) = 110 + 110 * r.length by omega]
    exact this
theorem mul_small {a b : Int} {i j : Nat} (ha : 0 ≤ a) (ha2 : a ≤ 2 ^ i) (hb : 0 ≤ b) (hb2 : b ≤ 2 ^ j) (h : i + j ≤ 900000) : mulOk a b :=
  mulOk_of (nat_lt_pow ha ha2) (nat_lt_pow hb hb2) (by omega) (by omega) (by omega)
theorem e_multiplied {ns : List Int} (h7 : ns.length ≤ 7) (hs : ∀ n ∈ ns, small n) : F_multiplied [.lst (ns.map .int)] w = .ok (.int (prod ns)) w := by
  apply okE_eq
  simp [F_multiplied, B_multiplied, okE_run, List.replicate]
  refine okS_loop (fun i s w' => w' = w ∧ ∃ t, s = [some (.lst (ns.map .int)), some (.int (prod (ns.take i))), t]) 0 ⟨rfl, none, by simp [prod]⟩ ?_ ?_
  · rintro i d s w' hd ⟨rfl, t, rfl⟩
    rw [List.getElem?_map] at hd
    obtain ⟨n, hn, rfl⟩ := Option.map_eq_some_iff.mp hd
    have hi : i < ns.length := (List.getElem?_eq_some_iff.mp hn).1
    have ps := prod_small (ns := ns.take i) fun m hm => hs m (List.mem_of_mem_take hm)
    have hns := hs n (List.mem_of_getElem? hn)
    simp
    refine ⟨mul_small ps.1 ps.2 hns.1 hns.2 (by rw [List.length_take]; omega), ?_⟩
    rw [List.take_add_one, hn]
    simp [prod_append, prod]
  · rintro s w' ⟨rfl, t, rfl⟩
    simp
/-- wide bounds: none of them beyond some 33 figures -/
structure Bw (bs : List (Int × Int)) : Prop where
  few : bs.length ≤ 7
  near : ∀ p ∈ bs, (-40564819207303340847894502572032 ≤ p.1 ∧ p.1 ≤ 40564819207303340847894502572032) ∧ -40564819207303340847894502572032 ≤ p.2 ∧ p.2 ≤ 40564819207303340847894502572032
theorem inR_iff {n : Int} : inR n = true ↔ -FAR ≤ n ∧ n ≤ FAR := by simp [inR]
theorem Bds.wide {bs : List (Int × Int)} (h : Bds bs) : Bw bs := ⟨h.few, fun p hp => by
  obtain ⟨h1, h2⟩ := h.near p hp
  rw [inR_iff] at h1 h2
  simp only [FAR] at h1 h2
  omega⟩
theorem ext_small {p : Int × Int} (h : (-40564819207303340847894502572032 ≤ p.1 ∧ p.1 ≤ 40564819207303340847894502572032) ∧ -40564819207303340847894502572032 ≤ p.2 ∧ p.2 ≤ 40564819207303340847894502572032) : small (ext p) := by
  obtain ⟨h1, h2⟩ := h
  unfold ext small
  have : (2 : Int) ^ 110 = 1298074214633706907132624082305024 := by decide
  rw [this]
  split <;> omega
theorem exts_small (h : Bw bs) : ∀ n ∈ bs.map ext, small n := fun n hn => by
  obtain ⟨p, hp, rfl⟩ := List.mem_map.mp hn
  exact ext_small (h.near p hp)
def wts : Int → List Int → List Int
  | _, [] => []
  | a, n :: r => a :: wts (a * n) r
theorem wts_get : ∀ {ns : List Int} {a : Int} {i : Nat}, i < ns.length → (wts a ns)[i]? = some (a * prod (ns.take i))
  | n :: r, a, 0, _ => by simp [wts, prod]
  | n :: r, a, i + 1, h => by
    have := wts_get (ns := r) (a := a * n) (i := i) (by simpa using h)
    simp [wts, this, prod, Int.mul_assoc]
theorem wts_len : ∀ {ns : List Int} {a : Int}, (wts a ns).length = ns.length
  | [], _ => rfl
  | n :: r, a => by simp [wts, wts_len (ns := r)]
end
end DL

set_option maxHeartbeats 2000000
namespace DL
open PySem PySem.Spec PyProof.Rows L2
section
variable {w : Wl} {b : Nat}
theorem divOk_small {n : Int} (h0 : 0 < n) (h1 : n ≤ 2 ^ 100) : divOk n :=
  divOk_of (by omega) (Nat.lt_of_lt_of_le (nat_lt_pow (by omega) h1) (Nat.pow_le_pow_right (by decide) (by decide)))
theorem p40 : (2 : Int) ^ 40 = 1099511627776 := by decide
theorem p100 : (2 : Int) ^ 100 = 1267650600228229401496703205376 := by decide
theorem seq_nx {U V : DS} {s s1 : Sl} {w w1 : Wl} (h : U s w = .nx s1 w1) : sSeq U V s w = V s1 w1 := by unfold sSeq; rw [h]
theorem run_rt {n k : Nat} {B : DS} {ds : List D} {d : D} {w w1 : Wl} (hl : ds.length = k) (h : B (ds.map some ++ List.replicate (n - k) none) w = .rt d w1) : runB n k B ds w = .ok d w1 := by unfold runB; rw [if_pos hl, h]
abbrev mE1 (k1 k2 k3 : Int) : DE := eBin fAdd (eBin fAdd (eBin fAdd (eBin fMod (eCB fInt (aCons (eVar 0) aNil)) (eC (.int k1))) (eBin fMul (eC (.int k2)) (eVar 1))) (eBin fMod (eCB fInt (aCons (eBin fDiv (eVar 0) (eC (.int k1))) aNil)) (eC (.int k3)))) (eC (.int 1))
abbrev mE2 (k4 k1 : Int) : DE := eBin fMod (eCB fInt (aCons (eBin fMul (eVar 2) (eC (.int k4))) aNil)) (eC (.int k1))
abbrev mE3 (k6 k7 k5 : Int) : DE := eBin fMod (eCB fInt (aCons (eBin fMul (eVar 2) (eBin fAdd (eBin fAdd (eBin fDiv (eVar 2) (eC (.int k6))) (eC (.int k7))) (eVar 1))) aNil)) (eC (.int k5))
abbrev mE4 (k8 k9 k10 : Int) : DE := eBin fMod (eCB fInt (aCons (eBin fMul (eVar 2) (eBin fAdd (eBin fDiv (eVar 2) (eC (.int k8))) (eC (.int k9)))) aNil)) (eC (.int k10))
theorem mE1_ok {c l k1 k2 k3 : Int} {t : Option D} {w : Wl} (d1 : divOk k1) (m1 : mulOk k2 l) (n1 : k1 ≠ 0) (n3 : k3 ≠ 0) : mE1 k1 k2 k3 [some (.int c), some (.int l), t] w = .ok (.int (c.fmod k1 + k2 * l + (c.fdiv k1).fmod k3 + 1)) w := by
  apply okE_eq
  simp [mE1, d1, m1, n1, n3]
theorem mE2_ok {c l z k4 k1 : Int} {w : Wl} (m : mulOk z k4) (n1 : k1 ≠ 0) : mE2 k4 k1 [some (.int c), some (.int l), some (.int z)] w = .ok (.int ((z * k4).fmod k1)) w := by
  apply okE_eq
  simp [mE2, m, n1]
theorem mE3_ok {c l z k6 k7 k5 : Int} {w : Wl} (d : divOk k6) (m : mulOk z (z.fdiv k6 + k7 + l)) (n : k5 ≠ 0) : mE3 k6 k7 k5 [some (.int c), some (.int l), some (.int z)] w = .ok (.int ((z * (z.fdiv k6 + k7 + l)).fmod k5)) w := by
  apply okE_eq
  simp [mE3, m, n, d]
theorem mE4_ok {c l z k8 k9 k10 : Int} {w : Wl} (d : divOk k8) (m : mulOk z (z.fdiv k8 + k9)) (n : k10 ≠ 0) : mE4 k8 k9 k10 [some (.int c), some (.int l), some (.int z)] w = .ok (.int ((z * (z.fdiv k8 + k9)).fmod k10)) w := by
  apply okE_eq
  simp [mE4, m, n, d]
theorem mix_run {c l k1 k2 k3 k4 k5 k6 k7 k8 k9 k10 z1 z2 z3 : Int} {w : Wl} (hz1 : z1 = c.fmod k1 + k2 * l + (c.fdiv k1).fmod k3 + 1) (hz2 : z2 = (z1 * k4).fmod k1) (hz3 : z3 = (z2 * (z2.fdiv k6 + k7 + l)).fmod k5)
    (d1 : divOk k1) (d2 : divOk k6) (d3 : divOk k8) (m1 : mulOk k2 l) (m2 : mulOk z1 k4) (m3 : mulOk z2 (z2.fdiv k6 + k7 + l)) (m4 : mulOk z3 (z3.fdiv k8 + k9)) (n1 : k1 ≠ 0) (n3 : k3 ≠ 0) (n5 : k5 ≠ 0) (n10 : k10 ≠ 0) :
    runB 3 2 (sSeq (sAsg 2 (mE1 k1 k2 k3)) (sSeq (sAsg 2 (mE2 k4 k1)) (sSeq (sAsg 2 (mE3 k6 k7 k5)) (sRet (mE4 k8 k9 k10))))) [.int c, .int l] w = .ok (.int ((z3 * (z3.fdiv k8 + k9)).fmod k10)) w := by
  have e1 : sAsg 2 (mE1 k1 k2 k3) [some (.int c), some (.int l), none] w = .nx [some (.int c), some (.int l), some (.int z1)] w := by
    unfold sAsg
    rw [mE1_ok d1 m1 n1 n3, ← hz1]
    rfl
  have e2 : sAsg 2 (mE2 k4 k1) [some (.int c), some (.int l), some (.int z1)] w = .nx [some (.int c), some (.int l), some (.int z2)] w := by
    unfold sAsg
    rw [mE2_ok m2 n1, ← hz2]
    rfl
  have e3 : sAsg 2 (mE3 k6 k7 k5) [some (.int c), some (.int l), some (.int z2)] w = .nx [some (.int c), some (.int l), some (.int z3)] w := by
    unfold sAsg
    rw [mE3_ok d2 m3 n5, ← hz3]
    rfl
  have e4 : sRet (mE4 k8 k9 k10) [some (.int c), some (.int l), some (.int z3)] w = .rt (.int ((z3 * (z3.fdiv k8 + k9)).fmod k10)) w := by
    unfold sRet
    rw [mE4_ok d3 m4 n10]
  exact run_rt rfl ((seq_nx e1).trans ((seq_nx e2).trans ((seq_nx e3).trans e4)))
theorem mix_num {c l k1 k2 k3 k4 k5 k6 k7 k8 k9 z1 z2 z3 : Int} (hz1 : z1 = c.fmod k1 + k2 * l + (c.fdiv k1).fmod k3 + 1) (hz2 : z2 = (z1 * k4).fmod k1) (hz3 : z3 = (z2 * (z2.fdiv k6 + k7 + l)).fmod k5) (h0 : 0 ≤ l) (h1 : l ≤ 2000000) (b1 : 0 < k1 ∧ k1 ≤ 4294967296) (b2 : 0 ≤ k2 ∧ k2 ≤ 100000) (b3 : 0 < k3 ∧ k3 ≤ 2000000) (b4 : 0 ≤ k4 ∧ k4 ≤ 100000) (b5 : 0 < k5 ∧ k5 ≤ 4294967296) (b6 : 0 < k6 ∧ k6 ≤ 10000) (b7 : 0 ≤ k7 ∧ k7 ≤ 100000) (b8 : 0 < k8 ∧ k8 ≤ 10000) (b9 : 0 ≤ k9 ∧ k9 ≤ 100000) :
    (0 ≤ z1 ∧ z1 ≤ 1099511627776) ∧ (0 ≤ z2 ∧ z2 < 4294967296) ∧ (0 ≤ z3 ∧ z3 < 4294967296) ∧ (0 ≤ z2.fdiv k6 + k7 + l ∧ z2.fdiv k6 + k7 + l ≤ 1099511627776) ∧ 0 ≤ z3.fdiv k8 + k9 ∧ z3.fdiv k8 + k9 ≤ 1099511627776 := by
  have a1 := fmod_range (a := c) b1.1
  have a2 := fmod_range (a := c.fdiv k1) b3.1
  have a3 : 0 ≤ k2 * l ∧ k2 * l ≤ 200000000000 := ⟨Int.mul_nonneg b2.1 h0, Int.le_trans (Int.mul_le_mul b2.2 h1 h0 (by omega)) (by omega)⟩
  have r2 := fmod_range (a := z1 * k4) b1.1
  rw [← hz2] at r2
  have r3 := fdiv_range (a := z2) b6.1 r2.1
  have r4 := fmod_range (a := z2 * (z2.fdiv k6 + k7 + l)) b5.1
  rw [← hz3] at r4
  have r5 := fdiv_range (a := z3) b8.1 r4.1
  omega
theorem mul_40 {a b : Int} (ha : 0 ≤ a ∧ a ≤ 1099511627776) (hb : 0 ≤ b ∧ b ≤ 1099511627776) : mulOk a b := by
  have e40 := p40
  exact mul_small (i := 40) (j := 40) ha.1 (by rw [e40]; exact ha.2) hb.1 (by rw [e40]; exact hb.2) (by omega)
theorem div_40 {a : Int} (ha : 0 < a ∧ a ≤ 1099511627776) : divOk a := by
  have e100 := p100
  exact divOk_small ha.1 (by rw [e100]; omega)
/-- the mixture, for any constants of the right size -/
theorem mix_gen {c l k1 k2 k3 k4 k5 k6 k7 k8 k9 k10 : Int} {w : Wl} (h0 : 0 ≤ l) (h1 : l ≤ 2000000) (b1 : 0 < k1 ∧ k1 ≤ 4294967296) (b2 : 0 ≤ k2 ∧ k2 ≤ 100000) (b3 : 0 < k3 ∧ k3 ≤ 2000000) (b4 : 0 ≤ k4 ∧ k4 ≤ 100000) (b5 : 0 < k5 ∧ k5 ≤ 4294967296) (b6 : 0 < k6 ∧ k6 ≤ 10000) (b7 : 0 ≤ k7 ∧ k7 ≤ 100000) (b8 : 0 < k8 ∧ k8 ≤ 10000) (b9 : 0 ≤ k9 ∧ k9 ≤ 100000) (b10 : 0 < k10) :
    ∃ m, runB 3 2 (sSeq (sAsg 2 (mE1 k1 k2 k3)) (sSeq (sAsg 2 (mE2 k4 k1)) (sSeq (sAsg 2 (mE3 k6 k7 k5)) (sRet (mE4 k8 k9 k10))))) [.int c, .int l] w = .ok (.int m) w := by
  obtain ⟨z1, hz1⟩ : ∃ z, z = c.fmod k1 + k2 * l + (c.fdiv k1).fmod k3 + 1 := ⟨_, rfl⟩
  obtain ⟨z2, hz2⟩ : ∃ z, z = (z1 * k4).fmod k1 := ⟨_, rfl⟩
  obtain ⟨z3, hz3⟩ : ∃ z, z = (z2 * (z2.fdiv k6 + k7 + l)).fmod k5 := ⟨_, rfl⟩
  obtain ⟨r1, r2, r3, r4, r5⟩ := mix_num hz1 hz2 hz3 h0 h1 b1 b2 b3 b4 b5 b6 b7 b8 b9
  exact ⟨_, mix_run hz1 hz2 hz3 (div_40 ⟨b1.1, by omega⟩) (div_40 ⟨b6.1, by omega⟩) (div_40 ⟨b8.1, by omega⟩) (mul_40 ⟨b2.1, by omega⟩ ⟨h0, by omega⟩) (mul_40 r1 ⟨b4.1, by omega⟩) (mul_40 ⟨r2.1, by omega⟩ r4) (mul_40 ⟨r3.1, by omega⟩ r5) (by omega) (by omega) (by omega) (by omega)⟩
theorem e_mix {c l : Int} (h0 : 0 ≤ l) (h1 : l ≤ 2000000) : ∃ m, F_w_mix [.int c, .int l] w = .ok (.int m) w :=
  mix_gen h0 h1 ⟨by omega, by omega⟩ ⟨by omega, by omega⟩ ⟨by omega, by omega⟩ ⟨by omega, by omega⟩ ⟨by omega, by omega⟩ ⟨by omega, by omega⟩ ⟨by omega, by omega⟩ ⟨by omega, by omega⟩ ⟨by omega, by omega⟩ (by omega)
theorem e_draw {n : Int} (h0 : 0 < n) (h1 : n ≤ 2 ^ 100) (hb : b < 1010000) (hw : Lap b w) : okE (F_w_draw [.well, .int n] w) fun d w' => ∃ k : Int, d = .int k ∧ (0 ≤ k ∧ k < n) ∧ Lap (b + 1) w' := by
  obtain ⟨l0, l1⟩ := hw
  have hn : n ≠ 0 := by omega
  have dn : divOk n := divOk_small h0 h1
  simp [F_w_draw, B_w_draw, okE_run, List.replicate]
  by_cases hp : 0 < w.1
  · simp [hp, hn, dn]
    exact ⟨fmod_range h0, l0, by show w.2.2 ≤ _; omega⟩
  · obtain ⟨m, hm⟩ := e_mix (w := (w.1, w.2.1, w.2.2 + 1)) (c := w.2.1) (l := w.2.2 + 1) (by omega) (by omega)
    simp [hp, hm, hn]
    exact ⟨fmod_range h0, by show 0 ≤ w.2.2 + 1; omega, by show w.2.2 + 1 ≤ _; omega⟩
/-- a draw, and then on -/
theorem draw {n : Int} {Q : D → Wl → Prop} (hw : Lap b w) (h0 : 0 < n) (h1 : n ≤ 2 ^ 100) (hb : b < 1010000) (q : ∀ (k : Int) (w' : Wl), 0 ≤ k → k < n → Lap (b + 1) w' → Q (.int k) w') : okE (F_w_draw [.well, .int n] w) Q :=
  okE_mono (e_draw h0 h1 hb hw) fun d w' ⟨k, e, h, l⟩ => by subst e; exact q k w' h.1 h.2 l
theorem lap_le {c : Nat} (h : Lap b w) (h1 : b ≤ c) : Lap c w := ⟨h.1, by have := h.2; omega⟩
/-- one of some -/
theorem pick {l : List D} {Q : D → Wl → Prop} (hw : Lap b w) (h0 : l ≠ []) (h1 : l.length ≤ 1000) (hb : b < 1010000) (q : ∀ x ∈ l, ∀ (w' : Wl), Lap (b + 1) w' → Q x w') : okE (F_w_pick [.well, .lst l] w) Q := by
  have hl : 0 < l.length := List.length_pos_iff.mpr h0
  have e100 := p100
  simp [F_w_pick, B_w_pick, okE_run, List.replicate]
  refine draw hw (by omega) (by omega) hb fun k w' k0 k1 l1 => ?_
  obtain ⟨x, hx, hm⟩ := atI_of k0 k1
  simp [hx]
  exact q x hm w' l1
theorem pickI {ns : List Int} (P : Int → Prop) (hP : ∀ n ∈ ns, P n) {Q : D → Wl → Prop} (hw : Lap b w) (h0 : ns ≠ []) (h1 : ns.length ≤ 1000) (hb : b < 1010000) (q : ∀ (n : Int) (w' : Wl), P n → Lap (b + 1) w' → Q (.int n) w') : okE (F_w_pick [.well, .lst (ns.map .int)] w) Q :=
  pick hw (by simpa using h0) (by simpa using h1) hb fun x hx w' l => by
    obtain ⟨n, hn, rfl⟩ := List.mem_map.mp hx
    exact q n w' (hP n hn) l
theorem okS_then {U V : DS} {s : Sl} {w : Wl} {N : Sl → Wl → Prop} {Z : D → Wl → Prop} (M : Sl → Wl → Prop) (h : okS (U s w) M Z) (q : ∀ s1 w1, M s1 w1 → okS (V s1 w1) N Z) : okS (sSeq U V s w) N Z := by
  rw [okS_seq]
  exact okS_mono h q fun _ _ z => z
theorem okS_to {U V : DS} {s : Sl} {N : Sl → Wl → Prop} {Z : D → Wl → Prop} (M : Sl → Wl → Prop) (h : ∀ M' : Sl → Wl → Prop, (∀ s1 w1, M s1 w1 → M' s1 w1) → okS (U s w) M' Z) (q : ∀ s1 w1, M s1 w1 → okS (V s1 w1) N Z) : okS (sSeq U V s w) N Z := okS_then M (h M fun _ _ z => z) q
@[simp] theorem seqD_l {xs : List D} : seqD (.lst xs) = some (false, xs) := rfl
end
section
variable {w : Wl} {bs : List (Int × Int)} {xs : List Int}
theorem okE_lcall2 {γ : Type} {A : DE} {G : DG} (g f : γ → D) {s : Sl} {w : Wl} {xs : List γ} {ds : List D} {Q : List D → Wl → Prop} (e : ds = xs.map g) (h : ∀ x ∈ xs, okO (G (g x) s) fun s1 => okE (A s1 w) fun d w1 => d = f x ∧ w1 = w) (q : Q (xs.map f) w) : okE (lcD G tYesD A ds s w) Q := by
  subst e
  exact okE_lcall g f h q
def far (n : Int) : Prop := -1000000000000000000000000000000 ≤ n ∧ n ≤ 1000000000000000000000000000000
theorem e_far1 (h : far n) : F_is_far [.int n] w = .ok (.bl true) w := by
  apply okE_eq
  simp [F_is_far, B_is_far, okE_run, e_is_number, h.1, h.2]
theorem e_far_no {xs : List D} : F_is_far [.tup xs] w = .ok (.bl false) w := by
  apply okE_eq
  have e : F_is_number [.tup xs] w = .ok (.bl false) w := rfl
  simp [F_is_far, B_is_far, okE_run, e]
theorem okS_cons {G : DG} {U : DS} {r : List D} {x : D} {s : Sl} {N : Sl → Wl → Prop} {Z : D → Wl → Prop} (h : okO (G x s) fun s1 => okS (U s1 w) (fun s2 w2 => okS (loopD G U r s2 w2) N Z) Z) : okS (loopD G U (x :: r) s w) N Z := by
  unfold loopD
  cases e : G x s with
  | none => rw [e] at h; exact h.elim
  | some s1 =>
    rw [e] at h
    simp only [okO_some] at h
    dsimp only
    cases e2 : U s1 w <;> (rw [e2] at h; first | exact h | exact h.elim)
@[simp] theorem okS_nil {G : DG} {U : DS} {s : Sl} {N : Sl → Wl → Prop} {Z : D → Wl → Prop} : okS (loopD G U [] s w) N Z = N s w := rfl
/-- an element of the array -/
def El : List (Int × Int) → List Int → Prop
  | [], [] => True
  | p :: bs, x :: xs => (p.1 ≤ x ∧ x ≤ p.2) ∧ El bs xs
  | _, _ => False
theorem El.len : ∀ {bs : List (Int × Int)} {xs : List Int}, El bs xs → xs.length = bs.length
  | [], [], _ => rfl
  | p :: bs, x :: xs, h => by simp [El.len h.2]
  | [], _ :: _, h => h.elim
  | _ :: _, [], h => h.elim
theorem El.zip : ∀ {bs : List (Int × Int)} {xs : List Int}, El bs xs → ∀ t ∈ xs.zip bs, t.2.1 ≤ t.1 ∧ t.1 ≤ t.2.2
  | [], [], _, t, ht => by simp at ht
  | p :: bs, x :: xs, h, t, ht => by
    rcases List.mem_cons.mp ht with e | e
    · subst e; exact h.1
    · exact El.zip h.2 t e
  | [], _ :: _, h, _, _ => h.elim
  | _ :: _, [], h, _, _ => h.elim
/-- the place, the first subscript running fastest -/
def place : List (Int × Int) → List Int → Int
  | p :: bs, x :: xs => (x - p.1) + ext p * place bs xs
  | _, _ => 0
theorem near_diff {p : Int × Int} {x : Int} (h : (-40564819207303340847894502572032 ≤ p.1 ∧ p.1 ≤ 40564819207303340847894502572032) ∧ -40564819207303340847894502572032 ≤ p.2 ∧ p.2 ≤ 40564819207303340847894502572032) (hx : p.1 ≤ x ∧ x ≤ p.2) : 0 ≤ x - p.1 ∧ x - p.1 ≤ 2 ^ 110 := by
  obtain ⟨h1, h2⟩ := h
  have : (2 : Int) ^ 110 = 1298074214633706907132624082305024 := by decide
  rw [this]
  omega
@[simp] theorem getS_bD {bs : List (Int × Int)} {s : Sl} : getS (some (bD bs) :: s) 0 = some (bD bs) := rfl
@[simp] theorem getS_eD {xs : List Int} {s : Sl} : getS (some (eD xs) :: s) 0 = some (eD xs) := rfl
@[simp] theorem seqD_bD : seqD (bD bs) = some (true, bs.map pD) := rfl
@[simp] theorem seqD_eD : seqD (eD xs) = some (true, xs.map .int) := rfl
def PL (A B : D) (v : Int) (s : Sl) : Prop := ∃ (b' : Int) (t4 t5 t6 : Option D), s = [some A, some B, some (.int v), some (.int b'), t4, t5, t6]
theorem ext_max {p : Int × Int} : (if p.2 - p.1 + 1 > 0 then p.2 - p.1 + 1 else 0) = ext p := rfl
theorem ext_max2 {a b : Int} : (if 0 < b - a + 1 then b - a + 1 else 0) = ext (a, b) := rfl
/-- a comprehension, one turn -/
theorem okE_lcC {G : DG} {T : DT} {A : DE} {d : D} {r : List D} {s : Sl} {w : Wl} {Q : List D → Wl → Prop} : okE (lcD G T A (d :: r) s w) Q = okO (G d s) fun s1 => okE (T s1 w).noer fun k w1 => if k = true then okE (A s1 w1).noer fun y w2 => okE (lcD G T A r s w2) fun ys w3 => Q (y :: ys) w3 else okE (lcD G T A r s w1) Q := by
  rw [lcD]
  cases G d s with
  | none => rfl
  | some s1 =>
    show okE ((T s1 w).noer.bind _) Q = okE (T s1 w).noer _
    rw [okE_bind]
    congr
    funext k w1
    cases k
    · rfl
    · show okE ((A s1 w1).noer.bind _) Q = okE (A s1 w1).noer _
      rw [okE_bind]
      congr
      funext y w2
      rw [okE_bind]
      rfl
theorem okE_lcN {G : DG} {T : DT} {A : DE} {s : Sl} {w : Wl} {Q : List D → Wl → Prop} : okE (lcD G T A [] s w) Q = Q [] w := rfl
end
end DL

set_option maxHeartbeats 2000000
namespace DL
open PySem PySem.Spec PyProof.Rows L2
/-! ### parts of sections, as the program has them -/
inductive Pg where
  | num (a : Int) | lst (xs : List Int) | tri (a b c : Int)
namespace Pg
def toD : Pg → D
  | num a => .int a
  | lst xs => .lst (xs.map .int)
  | tri a b c => .tup [.int a, .int b, .int c]
/-- how many subscripts -/
def cn : Pg → Int
  | num _ => 1
  | lst xs => xs.length
  | tri a b c => if (b - a + c).fdiv c > 0 then (b - a + c).fdiv c else 0
/-- the subscript with a number -/
def at' : Pg → Int → Int
  | num a, _ => a
  | lst xs, k => xs.getD k.toNat 0
  | tri a _ c, k => a + k * c
def sb (p : Pg) : List Int := (List.range p.cn.toNat).map fun k => p.at' (k : Nat)
end Pg
/-- numbers that are far at most -/
inductive Gq : Pg → Prop
  | num {a : Int} : far a → Gq (.num a)
  | lst {xs : List Int} : xs.length ≤ 64 → (∀ x ∈ xs, far x) → Gq (.lst xs)
  | tri {a b c : Int} : far a → far b → far c → c ≠ 0 → Gq (.tri a b c)
section
variable {w : Wl} {p : Pg} {bs : List (Int × Int)} {ps : List Pg} {a b c : Int} {xs : List Int}
@[simp] theorem getS_pg {s : Sl} : getS (some p.toD :: s) 0 = some p.toD := by cases p <;> rfl
theorem far_bt (h : far a) : Bt 100 a := by
  have e : (2 : Int) ^ 100 = 1267650600228229401496703205376 := by decide
  unfold far at h
  rw [bt_iff]
  omega
theorem Pg.cn_nonneg : ∀ p : Pg, 0 ≤ p.cn
  | .num _ => by simp [Pg.cn]
  | .lst xs => by simp [Pg.cn]
  | .tri a b c => by unfold Pg.cn; split <;> omega
theorem far_div (ha : far a) (hb : far b) (hc : far c) (h0 : c ≠ 0) : -(2 ^ 103 : Int) < (b - a + c).fdiv c ∧ (b - a + c).fdiv c < 2 ^ 103 := by
  have e : (2 : Int) ^ 103 = 10141204801825835211973625643008 := by decide
  unfold far at *
  rw [e]
  generalize hm : b - a + c = m
  have hb2 : -4000000000000000000000000000000 ≤ m ∧ m ≤ 4000000000000000000000000000000 := by omega
  have h1 := Int.mul_fdiv_add_fmod m c
  rcases Int.lt_or_gt_of_ne h0 with hneg | hpos
  · have h2 : c < m.fmod c ∧ m.fmod c ≤ 0 := by
      rw [Int.fmod_eq_emod]
      have h3 := Int.emod_nonneg m h0
      have h4 := Int.emod_lt m h0
      split
      · rename_i hh
        rcases hh with hh | hh
        · omega
        · have := Int.emod_eq_zero_of_dvd hh
          omega
      · rename_i hh
        have : m % c ≠ 0 := fun z => hh (.inr (Int.dvd_of_emod_eq_zero z))
        omega
    generalize m.fdiv c = q at *
    generalize m.fmod c = r at *
    have h5 : c * q ≤ 4000000000000000000000000000000 := by omega
    have h6 : -5000000000000000000000000000000 ≤ c * q := by omega
    constructor
    · refine Int.lt_of_not_ge fun hq => ?_
      have : c * q ≥ -1 * -(10141204801825835211973625643008) := by
        have h7 : 1 * 10141204801825835211973625643008 ≤ (-c) * (-q) := Int.mul_le_mul (by omega) (by omega) (by decide) (by omega)
        have : (-c) * (-q) = c * q := by rw [Int.neg_mul_neg]
        omega
      omega
    · refine Int.lt_of_not_ge fun hq => ?_
      have h7 : 1 * 10141204801825835211973625643008 ≤ (-c) * q := Int.mul_le_mul (by omega) (by omega) (by decide) (by omega)
      have : (-c) * q = -(c * q) := Int.neg_mul c q
      omega
  · have h2 := fmod_range (a := m) hpos
    generalize m.fdiv c = q at *
    generalize m.fmod c = r at *
    have h5 : c * q ≤ 4000000000000000000000000000000 := by omega
    have h6 : -5000000000000000000000000000000 ≤ c * q := by omega
    constructor
    · refine Int.lt_of_not_ge fun hq => ?_
      have h7 : 1 * 10141204801825835211973625643008 ≤ c * (-q) := Int.mul_le_mul (by omega) (by omega) (by decide) (by omega)
      have : c * (-q) = -(c * q) := Int.mul_neg c q
      omega
    · refine Int.lt_of_not_ge fun hq => ?_
      have h7 : 1 * 10141204801825835211973625643008 ≤ c * q := Int.mul_le_mul (by omega) (by omega) (by decide) (by omega)
      omega
theorem Gq.cn_small (h : Gq p) : small p.cn := by
  have e : (2 : Int) ^ 110 = 1298074214633706907132624082305024 := by decide
  have e3 : (2 : Int) ^ 103 = 10141204801825835211973625643008 := by decide
  unfold small
  cases h with
  | num _ => exact ⟨by show (0 : Int) ≤ 1; decide, by show (1 : Int) ≤ 2 ^ 110; decide⟩
  | lst h _ => simp only [Pg.cn]; omega
  | tri ha hb hc h0 =>
    have := far_div ha hb hc h0
    simp only [Pg.cn]
    split <;> omega
theorem e_tri (ha : far a) (hb : far b) (hc : far c) (h0 : c ≠ 0) : F_is_triplet [.tup [.int a, .int b, .int c]] w = .ok (.bl true) w := by
  apply okE_eq
  have hl : (3 : Nat) ≤ lim := by decide
  simp -implicitDefEqProofs [F_is_triplet, B_is_triplet, okE_run, List.replicate, hl]
  refine okE_lcall (xs := [a, b, c]) D.int (fun n => .bl true) (fun x hx => ?_) ?_
  · have hf : F_is_far [.int x] w = .ok (.bl true) w := e_far1 (by
      simp only [List.mem_cons, List.not_mem_nil, or_false] at hx
      rcases hx with rfl | rfl | rfl <;> assumption)
    simp -implicitDefEqProofs [hf]
  · rw [v_all]
    simp -implicitDefEqProofs [h0]
theorem e_part_pg (h : Gq p) : F_is_part [p.toD] w = .ok (.bl true) w := by
  cases h with
  | num h =>
    apply okE_eq
    simp -implicitDefEqProofs [Pg.toD, F_is_part, B_is_part, okE_run, List.replicate, e_far1 h]
  | lst h1 h2 =>
    apply okE_eq
    rename_i xs
    have hl : xs.length ≤ lim := lim7 (by omega)
    simp -implicitDefEqProofs [Pg.toD, F_is_part, B_is_part, okE_run, List.replicate]
    refine ⟨by omega, hl, okE_lcall (xs := xs) D.int (fun n => .bl true) (fun x hx => ?_) ?_⟩
    · simp -implicitDefEqProofs [e_far1 (h2 x hx)]
    · rw [v_all]
      simp -implicitDefEqProofs
  | tri ha hb hc h0 =>
    apply okE_eq
    simp -implicitDefEqProofs [Pg.toD, F_is_part, B_is_part, okE_run, List.replicate, e_far_no, e_tri ha hb hc h0]
theorem e_many_pg (h : Gq p) : F_many_of [p.toD] w = .ok (.int p.cn) w := by
  cases h with
  | num _ =>
    apply okE_eq
    simp -implicitDefEqProofs [Pg.toD, F_many_of, B_many_of, okE_run, List.replicate, Pg.cn]
  | lst _ _ =>
    apply okE_eq
    simp -implicitDefEqProofs [Pg.toD, F_many_of, B_many_of, okE_run, List.replicate, Pg.cn]
  | tri ha hb hc h0 =>
    apply okE_eq
    have hd := div_bt h0 (far_bt hc) (by decide)
    simp -implicitDefEqProofs [Pg.toD, F_many_of, B_many_of, okE_run, List.replicate, hd, Pg.cn]
/-- the subscript with a number, there or beside -/
theorem e_sub_pg {k : Int} (h : Gq p) (hk : Bt 200 k) (hl : ∀ xs, p = .lst xs → 0 ≤ k ∧ k < xs.length) : F_subscript_of [p.toD, .int k] w = .ok (.int (p.at' k)) w := by
  cases h with
  | num _ =>
    apply okE_eq
    simp -implicitDefEqProofs [Pg.toD, F_subscript_of, B_subscript_of, okE_run, List.replicate, Pg.at']
  | lst _ _ =>
    rename_i xs _ _
    obtain ⟨h1, h2⟩ := hl xs rfl
    obtain ⟨j, rfl⟩ := Int.eq_ofNat_of_zero_le h1
    have hj : j < xs.length := by omega
    have hat : atI (xs.map D.int) (j : Nat) = some (.int (xs.getD j 0)) := atI_nat (by rw [List.getElem?_map, List.getElem?_eq_getElem hj]; simp [List.getD, List.getElem?_eq_getElem hj])
    apply okE_eq
    simp -implicitDefEqProofs [Pg.toD, F_subscript_of, B_subscript_of, okE_run, List.replicate, Pg.at', hat]
  | tri ha hb hc h0 =>
    apply okE_eq
    have hm := mul_bt hk (far_bt hc) (by decide)
    simp -implicitDefEqProofs [Pg.toD, F_subscript_of, B_subscript_of, okE_run, List.replicate, Pg.at', hm]
theorem e_last_pg (h : Gq p) (hl : 0 < p.cn ∨ ∀ xs, p ≠ .lst xs) : F_last_of [p.toD] w = .ok (.int (p.at' (p.cn - 1))) w := by
  have hs := h.cn_small
  unfold small at hs
  have e : (2 : Int) ^ 110 = 1298074214633706907132624082305024 := by decide
  have e2 : (2 : Int) ^ 200 = 1606938044258990275541962092341162602522202993782792835301376 := by decide
  apply okE_eq
  simp -implicitDefEqProofs [F_last_of, B_last_of, okE_run, List.replicate, e_many_pg h]
  rw [e_sub_pg h (by rw [bt_iff]; omega) fun xs z => ?_]
  · exact ⟨rfl, rfl⟩
  · subst z
    rcases hl with hl | hl
    · simp only [Pg.cn] at hl ⊢
      omega
    · exact absurd rfl (hl xs)
theorem e_subs_pg (h : Gq p) (hc : p.cn ≤ 1000) : F_subscripts [p.toD] w = .ok (.lst (p.sb.map .int)) w := by
  have h0 := p.cn_nonneg
  have e2 : (2 : Int) ^ 200 = 1606938044258990275541962092341162602522202993782792835301376 := by decide
  obtain ⟨n, hn⟩ := Int.eq_ofNat_of_zero_le h0
  apply okE_eq
  simp -implicitDefEqProofs [F_subscripts, B_subscripts, okE_run, List.replicate, e_many_pg h]
  rw [hn]
  have hu : upTo 0 ((n : Nat) : Int).toNat = (List.range n).map fun (k : Nat) => D.int (k : Nat) := by
    unfold upTo
    simp
  simp -implicitDefEqProofs only [Int.toNat_natCast] at hu ⊢
  rw [hu]
  refine ⟨⟨by omega, by omega⟩, by rw [List.length_map, List.length_range]; exact lim7 (by omega), okE_lcall (fun (k : Nat) => D.int (k : Nat)) (fun (k : Nat) => .int (p.at' (k : Nat))) (fun k hk => ?_) ?_⟩
  · have hk := List.mem_range.mp hk
    simp -implicitDefEqProofs
    rw [e_sub_pg h (by rw [bt_iff]; omega) fun xs z => ?_]
    · exact ⟨rfl, rfl⟩
    · subst z
      simp only [Pg.cn] at hn
      omega
  · simp -implicitDefEqProofs
    unfold Pg.sb
    rw [hn, Int.toNat_natCast, List.map_map]
    rfl
theorem Pg.sb_lst : (Pg.lst xs).sb = xs := by
  unfold Pg.sb Pg.cn Pg.at'
  rw [Int.toNat_natCast]
  apply List.ext_getElem
  · simp
  · intro i h1 h2
    simp [List.getD, List.getElem?_eq_getElem h2]
theorem Pg.sb_num : (Pg.num a).sb = [a] := rfl
theorem Pg.sb_len : (p.sb.length : Int) = p.cn := by
  unfold Pg.sb
  have := p.cn_nonneg
  rw [List.length_map, List.length_range]
  omega
/-- within a dimension -/
def Inn (d : Int × Int) (p : Pg) : Prop := ∀ x ∈ p.sb, d.1 ≤ x ∧ x ≤ d.2
theorem Inn.at (h : Inn d p) {k : Nat} (hk : (k : Int) < p.cn) : d.1 ≤ p.at' k ∧ p.at' k ≤ d.2 := h _ (by
  unfold Pg.sb
  exact List.mem_map.mpr ⟨k, List.mem_range.mpr (by omega), rfl⟩)
theorem e_lies_pg {d : Int × Int} (h : Gq p) (hp : 0 < p.cn) (hi : Inn d p) : F_lies_between [p.toD, .int d.1, .int d.2] w = .ok (.bl true) w := by
  have key : ∀ (zs : List Int), (∀ z ∈ zs, d.1 ≤ z ∧ z ≤ d.2) → (zs.map fun _ => D.bl true) = zs.map fun z => .bl true := fun _ _ => rfl
  cases h with
  | tri ha hb hc h0 =>
    rename_i a b c
    have hla := e_last_pg (w := w) (Gq.tri ha hb hc h0) (.inl hp)
    have h1 := hi.at (k := 0) (by omega)
    obtain ⟨n, hn⟩ := Int.eq_ofNat_of_zero_le (Int.sub_nonneg_of_le hp)
    have h2 := hi.at (k := n) (by omega)
    have en : (Pg.tri a b c).cn - 1 = (n : Int) := by omega
    rw [en] at hla
    have e0 : (Pg.tri a b c).at' ((0 : Nat) : Int) = a := by simp [Pg.at']
    rw [e0] at h1
    have hl2 : (2 : Nat) ≤ lim := by decide
    apply okE_eq
    simp -implicitDefEqProofs only [Pg.toD] at hla
    simp -implicitDefEqProofs [Pg.toD, F_lies_between, B_lies_between, okE_run, List.replicate, hla, hl2]
    refine okE_lcall (xs := [a, (Pg.tri a b c).at' n]) D.int (fun n => .bl true) (fun x hx => ?_) ?_
    · have hx : d.1 ≤ x ∧ x ≤ d.2 := by
        simp only [List.mem_cons, List.not_mem_nil, or_false] at hx
        rcases hx with rfl | rfl <;> assumption
      simp -implicitDefEqProofs [hx.1, hx.2]
    · rw [v_all]
      simp -implicitDefEqProofs
  | num hf =>
    rename_i a
    have hs := e_subs_pg (w := w) (Gq.num hf) (by show (1 : Int) ≤ 1000; decide)
    have h1 := hi a (by simp [Pg.sb_num])
    have hl1 : (1 : Nat) ≤ lim := by decide
    apply okE_eq
    simp -implicitDefEqProofs only [Pg.toD, Pg.sb_num] at hs
    simp -implicitDefEqProofs [Pg.toD, F_lies_between, B_lies_between, okE_run, List.replicate, hs]
    refine ⟨hl1, okE_lcall (xs := [a]) D.int (fun n => .bl true) (fun x hx => ?_) ?_⟩
    · have e := List.mem_singleton.mp hx
      subst e
      simp -implicitDefEqProofs [h1.1, h1.2]
    · rw [v_all]
      simp -implicitDefEqProofs
  | lst hl hf =>
    rename_i xs
    have hs := e_subs_pg (w := w) (Gq.lst hl hf) (by simp only [Pg.cn]; omega)
    have hi2 : ∀ x ∈ xs, d.1 ≤ x ∧ x ≤ d.2 := fun x hx => hi x (by rw [Pg.sb_lst]; exact hx)
    apply okE_eq
    simp -implicitDefEqProofs only [Pg.toD, Pg.sb_lst] at hs
    simp -implicitDefEqProofs [Pg.toD, F_lies_between, B_lies_between, okE_run, List.replicate, hs]
    refine ⟨lim7 (by omega), okE_lcall (xs := xs) D.int (fun n => .bl true) (fun x hx => ?_) ?_⟩
    · have := hi2 x hx
      simp -implicitDefEqProofs [this.1, this.2]
    · rw [v_all]
      simp -implicitDefEqProofs
end
end DL

set_option maxHeartbeats 2000000
namespace DL
open PySem PySem.Spec PyProof.Rows L2
/-! ### triplets, element by element; the law's own subscripts, numbers, elements -/
theorem fdiv_neg2 {m c : Int} (h : c < 0) : m.fdiv c = (-m) / (-c) := by
  have h1 := Int.mul_fdiv_add_fmod m c
  have h2 : c < m.fmod c ∧ m.fmod c ≤ 0 := by
    rw [Int.fmod_eq_emod]
    have h3 := Int.emod_nonneg m (show c ≠ 0 by omega)
    have h4 := Int.emod_lt m (show c ≠ 0 by omega)
    split
    · rename_i hh
      rcases hh with hh | hh
      · omega
      · have := Int.emod_eq_zero_of_dvd hh
        omega
    · rename_i hh
      have : m % c ≠ 0 := fun z => hh (.inr (Int.dvd_of_emod_eq_zero z))
      omega
  symm
  have e : -m = (-c) * m.fdiv c + (- m.fmod c) := by
    rw [Int.neg_mul]
    omega
  rw [e, Int.mul_add_ediv_left _ _ (show -c ≠ 0 by omega), Int.ediv_eq_zero_of_lt (by omega) (by omega)]
  omega
/-- the k-th number is one of the triplet's -/
theorem tri_lt {a b c k : Int} (h0 : c ≠ 0) (hk : 0 ≤ k) : k < (Pg.tri a b c).cn ↔ (0 < c ∧ a + k * c ≤ b) ∨ (c < 0 ∧ b ≤ a + k * c) := by
  have key : k < (Pg.tri a b c).cn ↔ k < (b - a + c).fdiv c := by
    show k < (if (b - a + c).fdiv c > 0 then (b - a + c).fdiv c else 0) ↔ _
    split <;> omega
  rw [key]
  rcases Int.lt_or_gt_of_ne h0 with hneg | hpos
  · rw [fdiv_neg2 hneg]
    have : k < -(b - a + c) / -c ↔ k + 1 ≤ -(b - a + c) / -c := by omega
    rw [this, Int.le_ediv_iff_mul_le (by omega), Int.add_mul, Int.mul_neg]
    constructor
    · intro h
      right
      omega
    · rintro (h | h) <;> omega
  · rw [Int.fdiv_eq_ediv_of_nonneg _ (by omega)]
    have : k < (b - a + c) / c ↔ k + 1 ≤ (b - a + c) / c := by omega
    rw [this, Int.le_ediv_iff_mul_le hpos, Int.add_mul]
    constructor
    · intro h
      left
      omega
    · rintro (h | h) <;> omega
theorem tri_range {a b c k : Int} (h0 : c ≠ 0) (hk : 0 ≤ k) (h : k < (Pg.tri a b c).cn) : (0 < c → a ≤ a + k * c ∧ a + k * c ≤ b) ∧ (c < 0 → b ≤ a + k * c ∧ a + k * c ≤ a) := by
  have h1 := (tri_lt h0 hk).mp h
  constructor
  · intro hc
    have : 0 ≤ k * c := Int.mul_nonneg hk (by omega)
    omega
  · intro hc
    have : 0 ≤ k * (-c) := Int.mul_nonneg hk (by omega)
    rw [Int.mul_neg] at this
    omega
theorem mem_tri {a b c x : Int} (h0 : c ≠ 0) (h : x ∈ (Pg.tri a b c).sb) : (0 < c → a ≤ x ∧ x ≤ b) ∧ (c < 0 → b ≤ x ∧ x ≤ a) := by
  unfold Pg.sb at h
  obtain ⟨k, hk, rfl⟩ := List.mem_map.mp h
  have hk := List.mem_range.mp hk
  exact tri_range h0 (by omega) (by omega)
/-- no more than there are numbers between the ends -/
theorem tri_few {a b c : Int} (h0 : c ≠ 0) (h : 0 < (Pg.tri a b c).cn) : (Pg.tri a b c).cn ≤ (if a ≤ b then b - a else a - b) + 1 := by
  have h1 := (tri_lt (a := a) (b := b) (k := (Pg.tri a b c).cn - 1) h0 (by omega)).mp (by omega)
  generalize (Pg.tri a b c).cn = n at *
  rcases h1 with ⟨hc, h1⟩ | ⟨hc, h1⟩
  · have : (n - 1) * 1 ≤ (n - 1) * c := Int.mul_le_mul_of_nonneg_left (by omega) (by omega)
    split <;> omega
  · have : (n - 1) * 1 ≤ (n - 1) * (-c) := Int.mul_le_mul_of_nonneg_left (by omega) (by omega)
    rw [Int.mul_neg] at this
    split <;> omega
section
variable {w : Wl} {p : Pg} {bs : List (Int × Int)} {ps : List Pg} {a b c : Int} {xs : List Int}
theorem tri_loop {a b c : Int} {A B : D} {fD : List Int → D} (h0 : c ≠ 0) : True := True.intro
theorem e_w_subs (h : Gq p) (hc : p.cn ≤ 1000) : F_w_subscripts [p.toD] w = .ok (.lst (p.sb.map .int)) w := by
  cases h with
  | num _ =>
    apply okE_eq
    have hl1 : (1 : Nat) ≤ lim := by decide
    simp -implicitDefEqProofs [Pg.toD, F_w_subscripts, B_w_subscripts, okE_run, List.replicate, Pg.sb_num, hl1]
  | lst _ _ =>
    apply okE_eq
    simp -implicitDefEqProofs [Pg.toD, F_w_subscripts, B_w_subscripts, okE_run, List.replicate, Pg.sb_lst]
  | tri ha hb hcf h0 =>
    rename_i a b c
    have hn := (Pg.tri a b c).cn_nonneg
    obtain ⟨n, en⟩ := Int.eq_ofNat_of_zero_le hn
    have hlim : lim = 16000000 := rfl
    have hl0 : (0 : Nat) ≤ lim := by decide
    apply okE_eq
    simp -implicitDefEqProofs [Pg.toD, F_w_subscripts, B_w_subscripts, okE_run, List.replicate, hl0]
    refine okS_while (fun k s w' => w' = w ∧ k ≤ n ∧ s = [some (.tup [.int a, .int b, .int c]), some (.own (((List.range (n - k)).map fun j => (Pg.tri a b c).at' (j : Nat)).map .int)), some (.int (a + ((n - k : Nat) : Int) * c))]) 100000000 n (by omega) ⟨rfl, Nat.le_refl _, by simp⟩ ?_
    rintro k s w' ⟨rfl, hk, rfl⟩
    have ht := tri_lt (a := a) (b := b) (c := c) (k := ((n - k : Nat) : Int)) h0 (by omega)
    rw [en] at ht
    -- the outcome of the test
    have done : ∀ {N : Sl → Wl → Prop}, k = 0 → N [some (.tup [.int a, .int b, .int c]), some (.own (((Pg.tri a b c).sb).map .int)), some (.int (a + ((n - k : Nat) : Int) * c))] w' → N [some (.tup [.int a, .int b, .int c]), some (.own (((List.range (n - k)).map fun j => (Pg.tri a b c).at' (j : Nat)).map .int)), some (.int (a + ((n - k : Nat) : Int) * c))] w' := by
      intro N hk0 hN
      subst hk0
      have : (Pg.tri a b c).sb = (List.range (n - 0)).map fun j => (Pg.tri a b c).at' (j : Nat) := by
        unfold Pg.sb
        rw [en]
        rfl
      rw [this] at hN
      exact hN
    by_cases hk0 : k = 0
    · subst hk0
      have hno : ¬ ((0 < c ∧ a + ((n - 0 : Nat) : Int) * c ≤ b) ∨ (c < 0 ∧ b ≤ a + ((n - 0 : Nat) : Int) * c)) := by
        rw [← ht]
        omega
      have hsb : (List.range (n - 0)).map (fun j => (Pg.tri a b c).at' (j : Nat)) = (Pg.tri a b c).sb := by
        unfold Pg.sb
        rw [en]
        rfl
      rw [hsb]
      generalize a + ((n - 0 : Nat) : Int) * c = z at *
      by_cases h1 : z ≤ b
      · have h2 : ¬ 0 < c := fun q => hno (.inl ⟨q, h1⟩)
        have h3 : c < 0 := by omega
        have h4 : ¬ b ≤ z := fun q => hno (.inr ⟨h3, q⟩)
        simp -implicitDefEqProofs [h1, h2, h4]
      · have h3 : b ≤ z := by omega
        have h4 : ¬ c < 0 := fun q => hno (.inr ⟨q, h3⟩)
        simp -implicitDefEqProofs [h1, h3, h4]
    · have hyes := ht.mp (by omega)
      obtain ⟨j, rfl⟩ : ∃ j, k = j + 1 := ⟨k - 1, by omega⟩
      have next : ∀ P : Prop, (okS ((sSeq (sApp 1 (eVar 2)) (sAsg 2 (eBin fAdd (eVar 2) (eBin fIx (eVar 0) (eC (.int 2)))))) [some (.tup [.int a, .int b, .int c]), some (.own (((List.range (n - (j + 1))).map fun j => (Pg.tri a b c).at' (j : Nat)).map .int)), some (.int (a + ((n - (j + 1) : Nat) : Int) * c))] w') (fun s w'' => w'' = w' ∧ j ≤ n ∧ s = [some (.tup [.int a, .int b, .int c]), some (.own (((List.range (n - j)).map fun j => (Pg.tri a b c).at' (j : Nat)).map .int)), some (.int (a + ((n - j : Nat) : Int) * c))]) (fun d w'' => d = .lst ((Pg.tri a b c).sb.map .int) ∧ w'' = w') → P) → P := by
        intro P hP
        apply hP
        have e1 : n - j = (n - (j + 1)) + 1 := by omega
        simp -implicitDefEqProofs
        refine ⟨by omega, by omega, ?_⟩
        rw [e1, List.range_succ, List.map_append]
        refine ⟨by simp [Pg.at'], ?_⟩
        have e3 : (((n - (j + 1)) + 1 : Nat) : Int) = ((n - (j + 1) : Nat) : Int) + 1 := by omega
        rw [e3, Int.add_mul]
        omega
      refine next _ fun hnx => ?_
      generalize hz : a + ((n - (j + 1) : Nat) : Int) * c = z at *
      rcases hyes with ⟨h1, h2⟩ | ⟨h1, h2⟩
      · simp -implicitDefEqProofs [h1, h2] at hnx ⊢
        exact hnx
      · have h3 : ¬ 0 < c := by omega
        by_cases h4 : z ≤ b
        · simp -implicitDefEqProofs [h1, h2, h3, h4] at hnx ⊢
          exact hnx
        · simp -implicitDefEqProofs [h1, h2, h3, h4] at hnx ⊢
          exact hnx
theorem e_w_many (h : Gq p) : F_w_many [p.toD] w = .ok (.int p.cn) w := by
  cases h with
  | num _ =>
    apply okE_eq
    simp -implicitDefEqProofs [Pg.toD, F_w_many, B_w_many, okE_run, List.replicate, Pg.cn]
  | lst _ _ =>
    apply okE_eq
    simp -implicitDefEqProofs [Pg.toD, F_w_many, B_w_many, okE_run, List.replicate, Pg.cn]
  | tri ha hb hc h0 =>
    rename_i a b c
    apply okE_eq
    have hd := div_bt h0 (far_bt hc) (by decide)
    have e : (b - a + c).fdiv c = (b - a).fdiv c + 1 := by
      have := Int.add_mul_fdiv_right (b - a) 1 h0
      rw [Int.one_mul] at this
      exact this
    simp -implicitDefEqProofs [Pg.toD, F_w_many, B_w_many, okE_run, List.replicate, hd, Pg.cn, e]
end
end DL

set_option maxHeartbeats 2000000
namespace DL
open PySem PySem.Spec PyProof.Rows L2
/-! ### sections: all elements, as the law goes through them; what the program says of them -/
def secG (ps : List Pg) : D := .tup (ps.map Pg.toD)
def rowsD (rs : List (List Int)) : D := .lst (rs.map eD)
def els : List Pg → List (List Int)
  | [] => [[]]
  | p :: ps => (els ps).flatMap fun row => p.sb.map fun x => x :: row
def tot (ps : List Pg) : Int := prod (ps.map Pg.cn)
section
variable {w : Wl} {p : Pg} {bs : List (Int × Int)} {ps : List Pg}
@[simp] theorem getS_sec {s : Sl} : getS (some (secG ps) :: s) 0 = some (secG ps) := rfl
@[simp] theorem seqD_sec : seqD (secG ps) = some (true, ps.map Pg.toD) := rfl
@[simp] theorem getS_rows {rs : List (List Int)} {s : Sl} : getS (some (rowsD rs) :: s) 0 = some (rowsD rs) := rfl
@[simp] theorem seqD_rows {rs : List (List Int)} : seqD (rowsD rs) = some (false, rs.map eD) := rfl
theorem okE_lcall3 {γ : Type} {A : DE} {G : DG} (g f : γ → D) {s : Sl} {w : Wl} {xs : List γ} {ds : List D} {Q : List D → Wl → Prop} (e : ds = xs.map g) (h : ∀ x ∈ xs, okO (G (g x) s) fun s1 => okE (A s1 w) fun d w1 => d = f x ∧ w1 = w) (q : Q (xs.map f) w) : okE (lcD G tYesD A ds s w) Q := okE_lcall2 g f e h q
theorem prod_nonneg : ∀ {ns : List Int}, (∀ n ∈ ns, 0 ≤ n) → 0 ≤ prod ns
  | [], _ => by decide
  | n :: r, h => Int.mul_nonneg (h n List.mem_cons_self) (prod_nonneg fun m hm => h m (List.mem_cons_of_mem _ hm))
theorem tot_nonneg : 0 ≤ tot ps := prod_nonneg fun n hn => by
  obtain ⟨p, _, rfl⟩ := List.mem_map.mp hn
  exact p.cn_nonneg
theorem tot_ne : ∀ {ps : List Pg}, tot ps ≠ 0 → ∀ p ∈ ps, 0 < p.cn
  | [], _, p, hp => by cases hp
  | q :: ps, h, p, hp => by
    have h : q.cn * tot ps ≠ 0 := h
    have hq := q.cn_nonneg
    rcases List.mem_cons.mp hp with rfl | hp
    · rcases Int.lt_or_eq_of_le hq with z | z
      · exact z
      · rw [← z, Int.zero_mul] at h
        exact absurd rfl h
    · exact tot_ne (fun z => h (by rw [z, Int.mul_zero])) p hp
theorem tot_zero : ∀ {ps : List Pg}, tot ps = 0 ↔ ∃ p ∈ ps, p.cn = 0
  | [] => by simp [tot, prod]
  | q :: ps => by
    show q.cn * tot ps = 0 ↔ _
    rw [Int.mul_eq_zero, tot_zero (ps := ps)]
    simp
theorem els_len : ∀ ps : List Pg, ((els ps).length : Int) = tot ps
  | [] => rfl
  | p :: ps => by
    show (((els ps).flatMap fun row => p.sb.map fun x => x :: row).length : Int) = p.cn * tot ps
    rw [List.length_flatMap, ← els_len ps, ← Pg.sb_len]
    have : ((els ps).map fun row => (p.sb.map fun x => x :: row).length) = (els ps).map fun _ => p.sb.length := by simp
    rw [this]
    simp [List.map_const', Int.mul_comm]
theorem els_row : ∀ {ps : List Pg} {row : List Int}, row ∈ els ps → row.length = ps.length
  | [], row, h => by
    have := List.mem_singleton.mp h
    rw [this]
    rfl
  | p :: ps, row, h => by
    obtain ⟨r, hr, h⟩ := List.mem_flatMap.mp h
    obtain ⟨x, _, rfl⟩ := List.mem_map.mp h
    simp [els_row hr]
/-- each part lies within its dimension -/
def InnA : List (Int × Int) → List Pg → Prop
  | [], [] => True
  | d :: ds, p :: ps => Inn d p ∧ InnA ds ps
  | _, _ => False
theorem InnA.len : ∀ {bs : List (Int × Int)} {ps : List Pg}, InnA bs ps → ps.length = bs.length
  | [], [], _ => rfl
  | _ :: _, _ :: _, h => by simp [InnA.len h.2]
theorem InnA.zip : ∀ {bs : List (Int × Int)} {ps : List Pg}, InnA bs ps → ∀ t ∈ ps.zip bs, Inn t.2 t.1
  | [], [], _, t, h => by simp at h
  | d :: ds, p :: ps, h, t, ht => by
    rw [List.zip_cons_cons] at ht
    rcases List.mem_cons.mp ht with rfl | ht
    · exact h.1
    · exact h.2.zip t ht
theorem els_el : ∀ {bs : List (Int × Int)} {ps : List Pg} {row : List Int}, InnA bs ps → row ∈ els ps → El bs row
  | [], [], row, _, hr => by
    have := List.mem_singleton.mp hr
    rw [this]
    exact True.intro
  | d :: ds, p :: ps, row, h, hr => by
    obtain ⟨r, hr2, hm⟩ := List.mem_flatMap.mp hr
    obtain ⟨x, hx2, rfl⟩ := List.mem_map.mp hm
    exact ⟨h.1 x hx2, els_el h.2 hr2⟩
theorem e_w_elements (h7 : ps.length ≤ 7) (h : ∀ p ∈ ps, Gq p ∧ p.cn ≤ 1000) (hl : ∀ k, (els (ps.drop k)).length ≤ 1000000) : F_w_elements [secG ps] w = .ok (rowsD (els ps)) w := by
  apply okE_eq
  have hlim : lim = 16000000 := rfl
  have hl1 : (1 : Nat) ≤ lim := by decide
  have hl0 : (0 : Nat) ≤ lim := by decide
  unfold F_w_elements
  rw [okE_run]
  refine ⟨rfl, ?_⟩
  show okS (B_w_elements [some (secG ps), none, none, none, none, none] w) _ _
  unfold B_w_elements
  refine okS_to (fun s1 w1 => w1 = w ∧ s1 = [some (secG ps), some (rowsD (els [])), none, none, none, none]) ?_ ?_
  · intro M' hM'
    simp -implicitDefEqProofs [hl1]
    exact hM' _ _ ⟨rfl, rfl⟩
  rintro _ w1 ⟨rfl, rfl⟩
  refine okS_to (fun s1 w2 => w2 = w1 ∧ ∃ t2 t3 t4 t5, s1 = [some (secG ps), some (rowsD (els ps)), t2, t3, t4, t5]) ?_ ?_
  · intro M' hM'
    simp -implicitDefEqProofs only [okS_for, okI_seq, okE_rev, okE_var, getS_sec, okO_some]
    show okS (loopD _ _ (ps.map Pg.toD).reverse _ _) _ _
    rw [← List.map_reverse]
    refine okS_loop0 (fun i s' w' => w' = w1 ∧ ∃ t2 t3 t4 t5, s' = [some (secG ps), some (rowsD (els (ps.drop (ps.length - i)))), t2, t3, t4, t5]) ⟨rfl, none, none, none, none, by simp⟩ ?_ ?_
    · rintro i d s' w' hd ⟨rfl, t2, t3, t4, t5, rfl⟩
      rw [List.getElem?_map] at hd
      obtain ⟨p, hp, rfl⟩ := Option.map_eq_some_iff.mp hd
      have hi : i < ps.length := by
        have := (List.getElem?_eq_some_iff.mp hp).1
        simpa using this
      rw [List.getElem?_reverse hi] at hp
      have hdrop : ps.drop (ps.length - (i + 1)) = p :: ps.drop (ps.length - i) := by
        have e1 : ps.length - (i + 1) = ps.length - 1 - i := by omega
        have hlt : ps.length - 1 - i < ps.length := by omega
        rw [e1, List.drop_eq_getElem_cons hlt]
        have : ps[ps.length - 1 - i] = p := by
          rw [List.getElem?_eq_getElem hlt] at hp
          exact Option.some.inj hp
        rw [this]
        congr 2
        omega
      have hcur := hl (ps.length - (i + 1))
      rw [hdrop] at hcur ⊢
      have hg := h p (List.mem_of_getElem? hp)
      have hsub := fun w => e_w_subs (w := w) hg.1 hg.2
      have hql : (ps.drop (ps.length - i)).length ≤ 7 := by rw [List.length_drop]; omega
      generalize ps.drop (ps.length - i) = qs at *
      rw [v_gN, okO_some]
      refine okS_to (fun s1 w2 => w2 = w' ∧ s1 = [some (secG ps), some (rowsD (els qs)), some p.toD, some (.lst []), t4, t5]) ?_ ?_
      · intro M' hM'
        simp -implicitDefEqProofs [hl0]
        exact hM' _ _ ⟨rfl, rfl⟩
      rintro _ w2 ⟨rfl, rfl⟩
      refine okS_to (fun s1 w3 => w3 = w2 ∧ ∃ t4 t5, s1 = [some (secG ps), some (rowsD (els qs)), some p.toD, some (rowsD (els (p :: qs))), t4, t5]) ?_ ?_
      · intro M' hM'
        simp -implicitDefEqProofs only [okS_for, okI_seq, okE_var, getS_succ, getS_rows, seqD_rows, okO_some]
        refine okS_loop0 (fun j s' w' => w' = w2 ∧ ∃ t4 t5, s' = [some (secG ps), some (rowsD (els qs)), some p.toD, some (rowsD (((els qs).take j).flatMap fun row => p.sb.map fun x => x :: row)), t4, t5]) ⟨rfl, t4, t5, by simp [rowsD]⟩ ?_ ?_
        · rintro j d s' w3 hd ⟨rfl, t4, t5, rfl⟩
          rw [List.getElem?_map] at hd
          obtain ⟨row, hrw, rfl⟩ := Option.map_eq_some_iff.mp hd
          have hj : j < (els qs).length := (List.getElem?_eq_some_iff.mp hrw).1
          have hsl : p.sb.length ≤ 1000 := by
            have := Pg.sb_len (p := p)
            have := hg.2
            omega
          have hpl : ((((els qs).take (j + 1)).flatMap fun row => p.sb.map fun x => x :: row).map eD).length ≤ 1000000 := by
            rw [List.length_map]
            refine Nat.le_trans ?_ hcur
            show _ ≤ ((els qs).flatMap fun row => p.sb.map fun x => x :: row).length
            conv => rhs; rw [← List.take_append_drop (j + 1) (els qs), List.flatMap_append, List.length_append]
            omega
          have hnext : ((els qs).take (j + 1)).flatMap (fun row => p.sb.map fun x => x :: row) = ((els qs).take j).flatMap (fun row => p.sb.map fun x => x :: row) ++ p.sb.map fun x => x :: row := by
            rw [List.take_add_one, hrw, List.flatMap_append]
            simp
          rw [hnext] at hpl ⊢
          generalize ((els qs).take j).flatMap (fun row => p.sb.map fun x => x :: row) = F at *
          have hadd : ∀ (ys : List D) (P : D → Prop), okO (fAdd w3 (rowsD F) (.lst ys)) P = ((F.map eD).length + ys.length ≤ lim ∧ P (.lst (F.map eD ++ ys))) := fun ys P => v_addL
          simp -implicitDefEqProofs [hsub, getS_pg]
          refine ⟨by omega, ?_⟩
          refine okE_lcall3 (γ := Int) D.int (fun x => eD (x :: row)) rfl (fun x hx => ?_) ?_
          · have ht : ∀ P : D → Prop, okO (fAdd w3 (.tup [.int x]) (eD row)) P = (1 + (row.map D.int).length ≤ lim ∧ P (.tup ([.int x] ++ row.map D.int))) := fun P => v_addT
            have hrl : row.length ≤ 1000 := by rw [els_row (List.mem_of_getElem? hrw)]; omega
            simp -implicitDefEqProofs [ht, hl1]
            exact ⟨by omega, rfl⟩
          · rw [hadd]
            rw [List.map_append, List.length_append, List.length_map, List.length_map, List.length_map] at hpl
            refine ⟨by rw [List.length_map, List.length_map]; omega, ?_⟩
            refine ⟨rfl, ?_⟩
            unfold rowsD
            rw [List.map_append, List.map_map]
            rfl
        · rintro s' w3 ⟨rfl, t4, t5, rfl⟩
          refine hM' _ _ ⟨rfl, t4, t5, ?_⟩
          rw [List.length_map, List.take_length]
          rfl
      rintro _ w3 ⟨rfl, t4, t5, rfl⟩
      simp -implicitDefEqProofs
    · rintro s' w' ⟨rfl, t2, t3, t4, t5, rfl⟩
      refine hM' _ _ ⟨rfl, t2, t3, t4, t5, ?_⟩
      simp
  rintro _ w1 ⟨rfl, t2, t3, t4, t5, rfl⟩
  simp -implicitDefEqProofs
theorem e_many_in (h7 : ps.length ≤ 7) (h : ∀ p ∈ ps, Gq p) : F_many_in [secG ps] w = .ok (.int (tot ps)) w := by
  apply okE_eq
  have hlim : lim = 16000000 := rfl
  simp -implicitDefEqProofs [F_many_in, B_many_in, okE_run, List.replicate]
  refine ⟨by omega, okE_lcall3 Pg.toD (fun p => .int p.cn) rfl (fun x hx => ?_) ?_⟩
  · simp -implicitDefEqProofs [e_many_pg (h x hx)]
  · have := e_multiplied (w := w) (ns := ps.map Pg.cn) (by simpa using h7) (fun n hn => by
      obtain ⟨p, hp, rfl⟩ := List.mem_map.mp hn
      exact (h p hp).cn_small)
    rw [List.map_map] at this
    rw [show (ps.map fun p => D.int p.cn) = ps.map (D.int ∘ Pg.cn) from rfl, this]
    exact ⟨rfl, rfl⟩
/-- a section of an array: with elements, all within the bounds, or without -/
structure Sec (bs : List (Int × Int)) (ps : List Pg) : Prop where
  len : ps.length = bs.length
  few : bs.length ≤ 7
  ok : ∀ p ∈ ps, Gq p
  inn : tot ps ≠ 0 → InnA bs ps
theorem e_is_section (h : Sec bs ps) : F_is_section [bD bs, secG ps] w = .ok (.bl true) w := by
  apply okE_eq
  have hlim : lim = 16000000 := rfl
  have h1 := h.len
  have h7 := h.few
  have em := e_many_in (w := w) (ps := ps) (by omega) h.ok
  have hT : ∀ w, fIsi w [secG ps, .ty "tuple"] = some (.bl true) := fun w => rfl
  have hL : ∀ w, fLen w [secG ps] = some (.int (ps.map Pg.toD).length) := fun w => rfl
  have hB : ∀ w, fLen w [bD bs] = some (.int (bs.map pD).length) := fun w => rfl
  simp -implicitDefEqProofs [F_is_section, B_is_section, okE_run, List.replicate, hT, hL, hB, h1]
  refine ⟨by omega, okE_lcall3 Pg.toD (fun p => .bl true) rfl (fun x hx => ?_) ?_⟩
  · simp -implicitDefEqProofs [e_part_pg (h.ok x hx)]
  · rw [v_all]
    simp -implicitDefEqProofs [em]
    by_cases ht : tot ps = 0
    · simp -implicitDefEqProofs [ht]
    · have hz : zip2D [secG ps, bD bs] = some (zipD (ps.map Pg.toD) (bs.map pD)) := rfl
      simp -implicitDefEqProofs [ht, hz, zipD_maps]
      refine ⟨by omega, okE_lcall3 (γ := Pg × (Int × Int)) (fun x => .tup [x.1.toD, pD x.2]) (fun p => .bl true) rfl (fun x hx => ?_) ?_⟩
      · have hx1 : x.1 ∈ ps := (List.of_mem_zip hx).1
        have := e_lies_pg (w := w) (h.ok _ hx1) (tot_ne ht _ hx1) ((h.inn ht).zip x hx)
        simp -implicitDefEqProofs [pD, this]
      · rw [v_all]
        simp -implicitDefEqProofs
theorem e_check_section (hb : Bds bs) (h : Sec bs ps) (c : Str) : F_check_section [bD bs, secG ps, .str c] w = .ok .non w := by
  apply okE_eq
  simp -implicitDefEqProofs [F_check_section, B_check_section, okE_run, List.replicate, e_check hb, e_is_section h]
end
end DL

set_option maxHeartbeats 2000000
namespace DL
open PySem PySem.Spec PyProof.Rows L2
/-! ### what is drawn: bounds, parts of all kinds, sections -/
section
variable {w : Wl} {b : Nat} {bs : List (Int × Int)} {ps : List Pg}
/-- near bounds -/
structure Nbm (m z : Int) (bs : List (Int × Int)) : Prop where
  one : 1 ≤ bs.length
  few : (bs.length : Int) ≤ m
  dim : ∀ p ∈ bs, -100 ≤ p.1 ∧ p.1 ≤ 100 ∧ -100 ≤ p.2 ∧ p.2 ≤ p.1 + z
theorem e_bounds {m z : Int} (hm : 1 ≤ m ∧ m ≤ 7) (hz : 0 ≤ z ∧ z ≤ 20) (hb : b < 1002000) (hw : Lap b w) : okE (F_w_bounds [.well, .int m, .int z] w) fun d w' => ∃ bs, d = bD bs ∧ Nbm m z bs ∧ Lap (b + 100) w' := by
  have hlim : lim = 16000000 := rfl
  have e100 := p100
  simp [F_w_bounds, B_w_bounds, okE_run, List.replicate]
  refine draw hw (by omega) (by omega) (by omega) fun k w1 k0 k1 l1 => ?_
  simp
  refine ⟨⟨by omega, by omega⟩, ?_⟩
  have hk : (1 + k).toNat ≤ 7 := by omega
  refine okS_loop0 (fun i s w' => Lap (b + 1 + 10 * i) w' ∧ ∃ bs t4 t5 t6, s = [some .well, some (.int m), some (.int z), some (.own (bs.map pD)), t4, t5, t6] ∧ bs.length = i ∧ ∀ p ∈ bs, -100 ≤ p.1 ∧ p.1 ≤ 100 ∧ -100 ≤ p.2 ∧ p.2 ≤ p.1 + z) ⟨l1, [], none, none, none, rfl, rfl, by simp⟩ ?_ ?_
  · rintro i d s w2 hd ⟨l2, bs, t4, t5, t6, rfl, hbl, hbs⟩
    have hi : i < (1 + k).toNat := by
      have := (List.getElem?_eq_some_iff.mp hd).1
      simpa [upTo] using this
    simp
    refine draw l2 (by decide) (by decide) (by omega) fun k3 w3 a3 b3 l3 => ?_
    simp [hlim]
    refine pick l3 (by simp) (by simp) (by omega) fun x hx w4 l4 => ?_
    obtain ⟨low, rfl, hlow⟩ : ∃ low : Int, x = .int low ∧ -50 ≤ low ∧ low ≤ 50 := by
      simp at hx
      rcases hx with e | e | e | e <;> exact ⟨_, e, by omega, by omega⟩
    simp
    refine draw l4 (by omega) (by omega) (by omega) fun k5 w5 a5 b5 l5 => ?_
    simp
    refine draw l5 (by decide) (by decide) (by omega) fun k6 w6 a6 b6 l6 => ?_
    simp
    split
    · refine draw l6 (by decide) (by decide) (by omega) fun k7 w7 a7 b7 l7 => ?_
      refine draw l7 (by decide) (by decide) (by omega) fun k8 w8 a8 b8 l8 => ?_
      have hm : 0 ≤ k7 * k8 ∧ k7 * k8 ≤ 3 := ⟨Int.mul_nonneg a7 a8, by
        have : k7 * k8 ≤ 3 * 1 := Int.mul_le_mul (by omega) (by omega) a8 (by decide)
        omega⟩
      simp [hlim]
      refine ⟨mul_small (i := 10) (j := 10) a7 (by omega) a8 (by omega) (by decide), by omega, lap_le l8 (by omega), bs ++ [(low, low - 1 - k7 * k8)], by simp [pD], by simp [hbl], ?_⟩
      intro a c hac
      rcases List.mem_append.mp hac with h | h
      · exact hbs _ h
      · have e := List.mem_singleton.mp h
        cases e
        omega
    · refine ⟨by omega, lap_le l6 (by omega), bs ++ [(low, low + k5)], by simp [pD], by simp [hbl], ?_⟩
      intro a c hac
      rcases List.mem_append.mp hac with h | h
      · exact hbs _ h
      · have e := List.mem_singleton.mp h
        cases e
        omega
  · rintro s w2 ⟨l2, bs, t4, t5, t6, rfl, hbl, hbs⟩
    simp [upTo] at hbl l2
    simp
    exact ⟨bs, rfl, ⟨by omega, by omega, hbs⟩, lap_le l2 (by omega)⟩
/-- numbers drawn one by one -/
theorem lc_draw {A : DE} {s : Sl} {i B : Nat} {P : Int → Prop} (h : ∀ d b w, b < B → Lap b w → okE (A (s.set i (some d)) w) fun y w' => ∃ n, y = .int n ∧ P n ∧ Lap (b + 1) w') :
    ∀ (ds : List D) (b : Nat) (w : Wl), b + ds.length ≤ B → Lap b w → okE (lcD (gN i) tYesD A ds s w) fun ys w' => ∃ ns : List Int, ys = ns.map .int ∧ ns.length = ds.length ∧ (∀ n ∈ ns, P n) ∧ Lap (b + ds.length) w'
  | [], b, w, _, hw => by
    rw [okE_lcN]
    exact ⟨[], rfl, rfl, by simp, hw⟩
  | d :: ds, b, w, hB, hw => by
    rw [okE_lcC]
    simp only [v_gN, okO_some, okE_noer, okT_yes, if_true]
    simp only [List.length_cons] at hB
    refine okE_mono (h d b w (by omega) hw) ?_
    rintro y w1 ⟨n, rfl, hn, l1⟩
    refine okE_mono (lc_draw h ds (b + 1) w1 (by omega) l1) ?_
    rintro ys w2 ⟨ns, rfl, hl, hP, l2⟩
    refine ⟨n :: ns, rfl, by simp [hl], ?_, lap_le l2 (by simp only [List.length_cons]; omega)⟩
    intro x hx
    rcases List.mem_cons.mp hx with rfl | hx
    · exact hn
    · exact hP x hx
/-- a part within a dimension; one without subscripts, where the dimension has none -/
structure PartIn (lo hi : Int) (p : Pg) : Prop where
  ok : Gq p
  inn : lo ≤ hi → Inn (lo, hi) p
  few : p.cn ≤ (if hi - lo + 1 < 4 then 4 else hi - lo + 1)
  non : hi < lo → p.cn = 0
theorem tri_in {lo hi a c z : Int} (h1 : -1000 ≤ lo ∧ lo ≤ 1000) (h2 : -1000 ≤ hi ∧ hi ≤ 1000) (hle : lo ≤ hi) (ha : lo ≤ a ∧ a ≤ hi) (hz : lo ≤ z ∧ z ≤ hi) (hc : c ≠ 0) (hc2 : -5000 ≤ c ∧ c ≤ 5000) : PartIn lo hi (.tri a z c) := by
  refine ⟨.tri (by unfold far; omega) (by unfold far; omega) (by unfold far; omega) hc, fun _ x hx => ?_, ?_, fun h => by omega⟩
  · have := mem_tri hc hx
    rcases Int.lt_or_gt_of_ne hc with h | h
    · have := this.2 h
      show lo ≤ x ∧ x ≤ hi
      omega
    · have := this.1 h
      show lo ≤ x ∧ x ≤ hi
      omega
  · by_cases hp : 0 < (Pg.tri a z c).cn
    · have := tri_few hc hp
      split at this <;> split <;> omega
    · have := (Pg.tri a z c).cn_nonneg
      split <;> omega
theorem tri_non {lo hi a z c : Int} (ha : -1000 ≤ a ∧ a ≤ 1000) (hz : -1000 ≤ z ∧ z ≤ 1000) (hc : c ≠ 0) (hc2 : -5000 ≤ c ∧ c ≤ 5000) (hlt : hi < lo) (h : (0 < c ∧ z < a) ∨ (c < 0 ∧ a < z)) : PartIn lo hi (.tri a z c) := by
  have h0 : (Pg.tri a z c).cn = 0 := by
    have h1 := (Pg.tri a z c).cn_nonneg
    have h2 := tri_lt (a := a) (b := z) (k := 0) hc (Int.le_refl 0)
    rw [Int.zero_mul, Int.add_zero] at h2
    omega
  refine ⟨.tri (by unfold far; omega) (by unfold far; omega) (by unfold far; omega) hc, fun h => by omega, ?_, fun _ => h0⟩
  rw [h0]
  split <;> omega
theorem e_w_part {lo hi : Int} (h1 : -1000 ≤ lo ∧ lo ≤ 1000) (h2 : -1000 ≤ hi ∧ hi ≤ 1000) (hb : b < 1002000) (hw : Lap b w) : okE (F_w_part [.well, .int lo, .int hi] w) fun d w' => ∃ p : Pg, d = p.toD ∧ PartIn lo hi p ∧ Lap (b + 12) w' := by
  have hlim : lim = 16000000 := rfl
  have e100 := p100
  have hl3 : (3 : Nat) ≤ lim := by decide
  have hl5 : (5 : Nat) ≤ lim := by decide
  have hl0 : (0 : Nat) ≤ lim := by decide
  simp -implicitDefEqProofs [F_w_part, B_w_part, okE_run, List.replicate, hl3, hl5, hl0]
  by_cases hlt : hi - lo + 1 < 1
  · simp -implicitDefEqProofs [hlt]
    refine pick hw (by simp) (by simp) (by omega) fun x hx w1 l1 => ?_
    simp only [List.mem_cons, List.not_mem_nil, or_false] at hx
    rcases hx with rfl | rfl | rfl | rfl | rfl
    · exact ⟨.tri lo (lo - 1) 1, rfl, tri_non h1 (by omega) (by decide) (by decide) (by omega) (by omega), lap_le l1 (by omega)⟩
    · refine ⟨.lst [], rfl, ⟨.lst (by simp) (by simp), fun h => by omega, ?_, fun _ => rfl⟩, lap_le l1 (by omega)⟩
      show (0 : Int) ≤ _
      split <;> omega
    · exact ⟨.tri 1 0 3, rfl, tri_non (by decide) (by decide) (by decide) (by decide) (by omega) (by omega), lap_le l1 (by omega)⟩
    · exact ⟨.tri lo hi 1, rfl, tri_non h1 h2 (by decide) (by decide) (by omega) (by omega), lap_le l1 (by omega)⟩
    · exact ⟨.tri 5 6 (-1), rfl, tri_non (by decide) (by decide) (by decide) (by decide) (by omega) (by omega), lap_le l1 (by omega)⟩
  · simp -implicitDefEqProofs [hlt]
    refine draw hw (by omega) (by omega) (by omega) fun k2 w2 a2 b2 l2 => ?_
    refine draw l2 (by omega) (by omega) (by omega) fun k3 w3 a3 b3 l3 => ?_
    simp -implicitDefEqProofs
    refine draw l3 (by decide) (by decide) (by omega) fun k4 w4 a4 b4 l4 => ?_
    simp -implicitDefEqProofs [hl3]
    refine pick l4 (by simp) (by simp) (by omega) fun x hx w5 l5 => ?_
    obtain ⟨u, rfl, hu⟩ : ∃ u : Int, x = .int u ∧ 1 ≤ u ∧ u ≤ 2100 := by
      simp only [List.mem_cons, List.not_mem_nil, or_false] at hx
      rcases hx with e | e | e <;> exact ⟨_, e, by omega, by omega⟩
    refine draw l5 (by omega) (by omega) (by omega) fun k6 w6 a6 b6 l6 => ?_
    simp -implicitDefEqProofs
    have hX : lo ≤ (if k2 < k3 then lo + k3 else lo + k2) ∧ (if k2 < k3 then lo + k3 else lo + k2) ≤ hi := by split <;> omega
    have hY : lo ≤ (if k3 < k2 then lo + k3 else lo + k2) ∧ (if k3 < k2 then lo + k3 else lo + k2) ≤ hi := by split <;> omega
    generalize eX : (if k2 < k3 then lo + k3 else lo + k2) = X at hX
    generalize eY : (if k3 < k2 then lo + k3 else lo + k2) = Y at hY
    by_cases c0 : k4 = 0
    · subst c0
      simp -implicitDefEqProofs
      refine ⟨.num (lo + k2), rfl, ⟨.num (by unfold far; omega), fun _ x hx => ?_, ?_, fun h => by omega⟩, lap_le l6 (by omega)⟩
      · rw [Pg.sb_num, List.mem_singleton] at hx
        subst hx
        show lo ≤ lo + k2 ∧ lo + k2 ≤ hi
        omega
      · show (1 : Int) ≤ _
        split <;> omega
    by_cases c1 : k4 = 1
    · subst c1
      simp -implicitDefEqProofs
      refine draw l6 (by decide) (by decide) (by omega) fun k7 w7 a7 b7 l7 => ?_
      simp -implicitDefEqProofs
      refine ⟨⟨by omega, by omega⟩, by simp [upTo]; omega, ?_⟩
      refine okE_mono (lc_draw (B := 1003000) (P := fun n => lo ≤ n ∧ n ≤ hi) (fun d b w hb hw => ?_) _ (b + 1 + 1 + 1 + 1 + 1 + 1) w7 (by simp [upTo]; omega) l7) ?_
      · simp -implicitDefEqProofs
        refine draw hw (by omega) (by omega) (by omega) fun k8 w8 a8 b8 l8 => ?_
        exact ⟨_, rfl, by omega, l8⟩
      · rintro ys w8 ⟨ns, rfl, hl, hP, l8⟩
        have hn : ns.length ≤ 4 := by
          simp [upTo] at hl
          omega
        refine ⟨.lst ns, rfl, ⟨.lst (by omega) (fun x hx => by have := hP x hx; unfold far; omega), fun _ x hx => ?_, ?_, fun h => by omega⟩, lap_le l8 ?_⟩
        · rw [Pg.sb_lst] at hx
          exact hP x hx
        · show (ns.length : Int) ≤ _
          split <;> omega
        · rw [← hl]
          omega
    by_cases c2 : k4 = 2
    · subst c2
      simp -implicitDefEqProofs
      exact ⟨.tri lo hi 1, rfl, tri_in h1 h2 (by omega) (by omega) (by omega) (by decide) (by decide), lap_le l6 (by omega)⟩
    have tri : ∀ u v z : Int, (lo ≤ u ∧ u ≤ hi) → (lo ≤ v ∧ v ≤ hi) → z ≠ 0 → (-5000 ≤ z ∧ z ≤ 5000) → ∀ (k : Nat) (w' : Wl), k ≤ b + 12 → Lap k w' → ∃ p : Pg, D.tup [.int u, .int v, .int z] = p.toD ∧ PartIn lo hi p ∧ Lap (b + 12) w' := fun u v z hu hv hz hz2 k w' hk l' => ⟨.tri u v z, rfl, tri_in h1 h2 (by omega) hu hv hz hz2, lap_le l' hk⟩
    by_cases c3 : k4 = 3
    · subst c3
      simp -implicitDefEqProofs [eX, eY]
      exact tri _ _ _ hX hY (by omega) (by omega) _ _ (by omega) l6
    by_cases c4 : k4 = 4
    · subst c4
      simp -implicitDefEqProofs [eX, eY]
      refine draw l6 (by decide) (by decide) (by omega) fun k7 w7 a7 b7 l7 => ?_
      simp -implicitDefEqProofs [eX, eY]
      split
      · exact tri _ _ _ hY hX (by omega) (by omega) _ _ (by omega) l7
      · exact tri _ _ _ hY hX (by omega) (by omega) _ _ (by omega) l7
    · simp -implicitDefEqProofs [c0, c1, c2, c3, c4, eX, eY]
      exact tri _ _ _ hY hX (by omega) (by omega) _ _ (by omega) l6
/-- parts within bounds, dimension by dimension -/
def PartsIn : List (Int × Int) → List Pg → Prop
  | [], [] => True
  | d :: ds, p :: ps => PartIn d.1 d.2 p ∧ PartsIn ds ps
  | _, _ => False
theorem PartsIn.len : ∀ {bs : List (Int × Int)} {ps : List Pg}, PartsIn bs ps → ps.length = bs.length
  | [], [], _ => rfl
  | _ :: _, _ :: _, h => by simp [PartsIn.len h.2]
theorem PartsIn.ok : ∀ {bs : List (Int × Int)} {ps : List Pg}, PartsIn bs ps → ∀ p ∈ ps, Gq p
  | [], [], _ => by simp
  | _ :: _, _ :: _, h => fun p hp => by
    rcases List.mem_cons.mp hp with rfl | hp
    · exact h.1.ok
    · exact h.2.ok p hp
theorem PartsIn.inn : ∀ {bs : List (Int × Int)} {ps : List Pg}, PartsIn bs ps → tot ps ≠ 0 → InnA bs ps
  | [], [], _, _ => True.intro
  | d :: ds, p :: ps, h, ht => by
    have ht : p.cn * tot ps ≠ 0 := ht
    refine ⟨h.1.inn ?_, h.2.inn fun z => ht (by rw [z, Int.mul_zero])⟩
    refine Int.not_lt.mp fun hlt => ht ?_
    rw [h.1.non hlt, Int.zero_mul]
theorem PartsIn.sec (h : PartsIn bs ps) (h7 : bs.length ≤ 7) : Sec bs ps := ⟨h.len, h7, h.ok, h.inn⟩
theorem sec_go : ∀ (bs : List (Int × Int)) {b : Nat} {w : Wl}, (∀ p ∈ bs, (-1000 ≤ p.1 ∧ p.1 ≤ 1000) ∧ -1000 ≤ p.2 ∧ p.2 ≤ 1000) → b + 12 * bs.length < 1002000 → Lap b w → ∀ (A : D),
    okE (lcD (gT (gCons' (gN 2) (gCons' (gN 3) gNil')) 2) tYesD (eCall 3 F_w_part (aCons (eVar 0) (aCons (eVar 2) (aCons (eVar 3) aNil)))) (bs.map pD) [some .well, some A, none, none] w) fun ys w' => ∃ ps : List Pg, ys = ps.map Pg.toD ∧ PartsIn bs ps ∧ Lap (b + 12 * bs.length) w'
  | [], b, w, _, _, hw, A => by
    rw [List.map_nil, okE_lcN]
    exact ⟨[], rfl, True.intro, hw⟩
  | d :: ds, b, w, hd, hb, hw, A => by
    rw [List.map_cons, okE_lcC]
    have h1 := hd d List.mem_cons_self
    simp only [List.length_cons] at hb
    unfold pD
    simp -implicitDefEqProofs
    refine okE_mono (e_w_part h1.1 h1.2 (by omega) hw) ?_
    rintro y w1 ⟨p, rfl, hp, l1⟩
    refine okE_mono (sec_go ds (fun q hq => hd q (List.mem_cons_of_mem _ hq)) (by omega) l1 A) ?_
    rintro ys w2 ⟨ps, rfl, hps, l2⟩
    exact ⟨p :: ps, rfl, ⟨hp, hps⟩, lap_le l2 (by first | omega | (simp only [List.length_cons]; omega))⟩
theorem e_w_section {m z : Int} (hN : Nbm m z bs) (hm : m ≤ 7) (hz : z ≤ 20) (hb : b < 1001000) (hw : Lap b w) : okE (F_w_section [.well, bD bs] w) fun d w' => ∃ ps : List Pg, d = secG ps ∧ PartsIn bs ps ∧ Lap (b + 84) w' := by
  have hlim : lim = 16000000 := rfl
  have h1 := hN.few
  simp -implicitDefEqProofs [F_w_section, B_w_section, okE_run, List.replicate]
  refine ⟨by omega, okE_mono (sec_go bs (fun p hp => ?_) (by omega) hw _) ?_⟩
  · have := hN.dim p hp
    omega
  · rintro ys w1 ⟨ps, rfl, hps, l1⟩
    exact ⟨ps, rfl, hps, lap_le l1 (by omega)⟩
end
end DL

set_option maxHeartbeats 2000000
namespace DL
open PySem PySem.Spec PyProof.Rows L2
/-! ### sections of sections: a part of a part -/
def isK : Pg → Bool
  | .num _ => false
  | _ => true
/-- as it is told: lists are new -/
def toDn : Pg → D
  | .lst xs => .nl (xs.map .int)
  | p => p.toD
def pd : Pg → Pg → Pg
  | p, .num n => .num (p.at' (n - 1))
  | p, .lst xs => .lst (xs.map fun n => p.at' (n - 1))
  | .tri a b c, .tri a' b' c' => .tri ((Pg.tri a b c).at' (a' - 1)) ((Pg.tri a b c).at' ((Pg.tri a' b' c').at' ((Pg.tri a' b' c').cn - 1) - 1)) (if (Pg.tri a' b' c').cn = 1 then 1 else c * c')
  | p, .tri a' b' c' => .lst ((Pg.tri a' b' c').sb.map fun n => p.at' (n - 1))
theorem pd_tri {a b c a' b' c' : Int} : pd (.tri a b c) (.tri a' b' c') = .tri ((Pg.tri a b c).at' (a' - 1)) ((Pg.tri a b c).at' ((Pg.tri a' b' c').at' ((Pg.tri a' b' c').cn - 1) - 1)) (if (Pg.tri a' b' c').cn = 1 then 1 else c * c') := rfl
section
variable {w : Wl} {p q : Pg} {ps qs : List Pg} {bs : List (Int × Int)}
theorem e_kept : F_is_kept [q.toD] w = .ok (.bl (isK q)) w := by
  cases q <;> rfl
theorem sub_in (hp : Gq p) (hin : Inn (1, p.cn) q) (h : p.cn ≤ 1000) {n : Int} (hn : n ∈ q.sb) : F_subscript_of [p.toD, .int (n - 1)] w = .ok (.int (p.at' (n - 1))) w := by
  have h1 : 1 ≤ n ∧ n ≤ p.cn := hin n hn
  refine e_sub_pg hp ?_ fun xs z => ?_
  · have e2 : (2 : Int) ^ 200 = 1606938044258990275541962092341162602522202993782792835301376 := by decide
    rw [bt_iff]
    omega
  · subst z
    have : (Pg.lst xs).cn = xs.length := rfl
    omega
theorem sb_first (h : 0 < q.cn) : q.at' 0 ∈ q.sb := by
  unfold Pg.sb
  refine List.mem_map.mpr ⟨0, List.mem_range.mpr (by omega), rfl⟩
theorem sb_last (h : 0 < q.cn) : q.at' (q.cn - 1) ∈ q.sb := by
  unfold Pg.sb
  refine List.mem_map.mpr ⟨(q.cn - 1).toNat, List.mem_range.mpr (by omega), ?_⟩
  congr 1
  omega
theorem e_pop (hp : Gq p) (hq : Gq q) (hk : isK p = true) (hin : Inn (1, p.cn) q) (hc : p.cn ≤ 1000) (hc2 : q.cn ≤ 1000) (h0 : 0 < q.cn) : F_part_of_part [p.toD, q.toD] w = .ok (toDn (pd p q)) w := by
  apply okE_eq
  have hlim : lim = 16000000 := rfl
  have ek := e_kept (w := w) (q := q)
  have g0 : ∀ (s : Sl), getS (some p.toD :: s) 0 = some p.toD := fun s => by cases p <;> rfl
  have g1 : ∀ (x : Option D) (s : Sl), getS (x :: some q.toD :: s) 1 = some q.toD := fun x s => by cases q <;> rfl
  have row : isK q = true → ((∃ xs, p = .lst xs) ∨ ∃ xs, q = .lst xs) → okE (F_part_of_part [p.toD, q.toD] w) fun d w' => d = .nl ((q.sb.map fun n => p.at' (n - 1)).map .int) ∧ w' = w := fun kq hl => by
    have hs := e_subs_pg (w := w) hq hc2
    have hsl := q.sb_len
    have hb : ∃ b1 b2, fIsi w [p.toD, .ty "list"] = some (.bl b1) ∧ fIsi w [q.toD, .ty "list"] = some (.bl b2) ∧ (b1 || b2) = true := by
      rcases hl with ⟨xs, rfl⟩ | ⟨xs, rfl⟩
      · cases q with
        | num a => exact ⟨_, _, rfl, rfl, rfl⟩
        | lst ys => exact ⟨_, _, rfl, rfl, rfl⟩
        | tri a b c => exact ⟨_, _, rfl, rfl, rfl⟩
      · cases p with
        | num a => exact ⟨_, _, rfl, rfl, rfl⟩
        | lst ys => exact ⟨_, _, rfl, rfl, rfl⟩
        | tri a b c => exact ⟨_, _, rfl, rfl, rfl⟩
    obtain ⟨b1, b2, e1, e2, e3⟩ := hb
    simp -implicitDefEqProofs [F_part_of_part, B_part_of_part, okE_run, List.replicate, ek, kq, e1, e2, g0, g1, hs]
    have fin : q.sb.length ≤ lim ∧ okE (lcD (gN 4) tYesD (eCall 2 F_subscript_of (aCons (eVar 0) (aCons (eBin fSub (eVar 4) (eC (.int 1))) aNil))) (q.sb.map .int) [some p.toD, some q.toD, none, none, none] w) fun x w1 => x = List.map (D.int ∘ fun n => p.at' (n - 1)) q.sb ∧ w1 = w := by
      refine ⟨by rw [hlim]; omega, okE_lcall3 D.int (fun n => .int (p.at' (n - 1))) rfl (fun n hn => ?_) ⟨rfl, rfl⟩⟩
      simp -implicitDefEqProofs [g0, sub_in (w := w) hp hin hc hn]
    cases b1 with
    | true => exact fin
    | false =>
      cases b2 with
      | true => simpa -implicitDefEqProofs using fin
      | false => cases e3
  cases q with
  | num n =>
    have hs := sub_in (w := w) (n := n) hp hin hc (by rw [Pg.sb_num]; exact List.mem_singleton.mpr rfl)
    have e1 : (Pg.num n).toD = .int n := rfl
    rw [e1] at ek ⊢
    simp -implicitDefEqProofs [F_part_of_part, B_part_of_part, okE_run, List.replicate, ek, isK, g0, hs]
    rfl
  | lst xs =>
    refine okE_mono (row rfl (.inr ⟨xs, rfl⟩)) ?_
    rintro d w' ⟨rfl, rfl⟩
    rw [Pg.sb_lst]
    exact ⟨rfl, rfl⟩
  | tri a' b' c' =>
    cases p with
    | num a => cases hk
    | lst xs =>
      refine okE_mono (row rfl (.inl ⟨xs, rfl⟩)) ?_
      rintro d w' ⟨rfl, rfl⟩
      exact ⟨rfl, rfl⟩
    | tri a b c =>
      have m1 := sub_in (w := w) hp hin hc (sb_first h0)
      have m2 := sub_in (w := w) hp hin hc (sb_last h0)
      have hm := e_many_pg (w := w) hq
      have hla := e_last_pg (w := w) hq (.inl h0)
      have e1 : (Pg.tri a' b' c').at' 0 = a' := by show a' + 0 * c' = a'; omega
      rw [e1] at m1
      have m3 : mulOk c c' := by
        cases hp with
        | tri _ _ hc1 _ => cases hq with | tri _ _ hc2 _ => exact mul_bt (far_bt hc1) (far_bt hc2) (by omega)
      have t1 : (Pg.tri a b c).toD = .tup [.int a, .int b, .int c] := rfl
      have t2 : (Pg.tri a' b' c').toD = .tup [.int a', .int b', .int c'] := rfl
      rw [t1] at m1 m2 ⊢
      rw [t2] at ek hm hla ⊢
      by_cases h1 : (Pg.tri a' b' c').cn = 1
      · have z0 : (1 : Int) - 1 = 0 := rfl
        rw [h1, z0] at hla m2
        rw [h1] at hm
        simp -implicitDefEqProofs [F_part_of_part, B_part_of_part, okE_run, List.replicate, ek, isK, m1, m2, hm, hla, hlim]
        rw [pd_tri, if_pos h1, h1, z0]
        rfl
      · simp -implicitDefEqProofs [F_part_of_part, B_part_of_part, okE_run, List.replicate, ek, isK, m1, m2, hm, hla, hlim, h1, m3]
        rw [pd_tri, if_neg h1]
        rfl
end
end DL

set_option maxHeartbeats 2000000
namespace DL
open PySem PySem.Spec PyProof.Rows L2
/-! ### composed -/
theorem okE_lcf {γ : Type} {A : DE} {G : DG} {T : DT} (g f : γ → D) (c : γ → Bool) {s : Sl} {w : Wl} {xs : List γ} {ds : List D} {Q : List D → Wl → Prop} (e : ds = xs.map g)
    (h : ∀ x ∈ xs, okO (G (g x) s) fun s1 => okE (T s1 w) fun k w1 => k = c x ∧ w1 = w ∧ (c x = true → okE (A s1 w) fun d w1 => d = f x ∧ w1 = w)) (q : Q ((xs.filter c).map f) w) : okE (lcD G T A ds s w) Q := by
  subst e
  have := lc_map (T := T) (A := A) (G := G) g f c (s := s) (w := w) (xs := xs) fun x hx => by
    have h1 := h x hx
    cases e : G (g x) s with
    | none => rw [e] at h1; exact h1.elim
    | some s1 =>
      rw [e] at h1
      have h2 : okE (T s1 w) fun k w1 => k = c x ∧ w1 = w ∧ (c x = true → okE (A s1 w) fun d w1 => d = f x ∧ w1 = w) := h1
      obtain ⟨k, w1, e1, rfl, rfl, e4⟩ := okE_ex h2
      exact ⟨e1, fun hc => okE_eq (e4 hc)⟩
  rw [this]
  exact q
def ibs (kp : List Pg) : List (Int × Int) := kp.map fun p => (1, p.cn)
def kps (ps : List Pg) : List Pg := ps.filter isK
def mks (kp qs : List Pg) : List Pg := if tot qs = 0 then qs else (kp.zip qs).map fun x => pd x.1 x.2
def fillL : List Pg → List Pg → List Pg
  | [], _ => []
  | .num a :: ps, ms => .num a :: fillL ps ms
  | _ :: ps, m :: ms => m :: fillL ps ms
  | _ :: _, [] => []
theorem fill_num {a : Int} {ps ms : List Pg} : fillL (.num a :: ps) ms = .num a :: fillL ps ms := by cases ms <;> rfl
theorem fill_k {p m : Pg} {ps ms : List Pg} (h : isK p = true) : fillL (p :: ps) (m :: ms) = m :: fillL ps ms := by
  cases p with
  | num a => cases h
  | lst xs => simp [fillL]
  | tri a b c => simp [fillL]
section
variable {w : Wl} {p q : Pg} {ps qs ms : List Pg} {bs : List (Int × Int)}
theorem atI_at {α : Type} {l : List α} {k : Nat} {x : α} (h : l[k]? = some x) : atI l (k : Nat) = some x := atI_nat h
@[simp] theorem getS_pg3 {a b c : Option D} {s : Sl} : getS (a :: b :: c :: some p.toD :: s) 3 = some p.toD := by cases p <;> rfl
@[simp] theorem getS_pg8 {a0 a1 a2 a3 a4 a5 a6 a7 : Option D} {s : Sl} : getS (a0 :: a1 :: a2 :: a3 :: a4 :: a5 :: a6 :: a7 :: some p.toD :: s) 8 = some p.toD := by cases p <;> rfl
theorem e_is_sectionL (h : Sec bs ps) : F_is_section [.lst (bs.map pD), secG ps] w = .ok (.bl true) w := by
  apply okE_eq
  have hlim : lim = 16000000 := rfl
  have h1 := h.len
  have h7 := h.few
  have em := e_many_in (w := w) (ps := ps) (by omega) h.ok
  have hT : ∀ w, fIsi w [secG ps, .ty "tuple"] = some (.bl true) := fun w => rfl
  have hL : ∀ w, fLen w [secG ps] = some (.int (ps.map Pg.toD).length) := fun w => rfl
  simp -implicitDefEqProofs [F_is_section, B_is_section, okE_run, List.replicate, hT, hL, h1]
  refine ⟨by omega, okE_lcall3 Pg.toD (fun p => .bl true) rfl (fun x hx => ?_) ?_⟩
  · simp -implicitDefEqProofs [e_part_pg (h.ok x hx)]
  · rw [v_all]
    simp -implicitDefEqProofs [em]
    by_cases ht : tot ps = 0
    · simp -implicitDefEqProofs [ht]
    · have hz : zip2D [secG ps, .lst (bs.map pD)] = some (zipD (ps.map Pg.toD) (bs.map pD)) := rfl
      simp -implicitDefEqProofs [ht, hz, zipD_maps]
      refine ⟨by omega, okE_lcall3 (γ := Pg × (Int × Int)) (fun x => .tup [x.1.toD, pD x.2]) (fun p => .bl true) rfl (fun x hx => ?_) ?_⟩
      · have hx1 : x.1 ∈ ps := (List.of_mem_zip hx).1
        have := e_lies_pg (w := w) (h.ok _ hx1) (tot_ne ht _ hx1) ((h.inn ht).zip x hx)
        simp -implicitDefEqProofs [pD, this]
      · rw [v_all]
        simp -implicitDefEqProofs
/-- the last loop of composed -/
theorem fill_go {A B C Kd : D} {t8 : Option D} {N : Sl → Wl → Prop} {Z : D → Wl → Prop} : ∀ (ps : List Pg) (acc : List D) (k : Nat) (t3 : Option D), (kps ps).length ≤ (ms.drop k).length → acc.length + ps.length ≤ 100 → (∀ t3 k', N [some A, some B, some C, t3, some Kd, some (.lst (ms.map toDn)), some (.own (acc ++ (fillL ps (ms.drop k)).map toDn)), some (.int (k' : Nat)), t8] w) →
    okS (loopD (gN 3) (sIf (tTr (eCall 1 F_is_kept (aCons (eVar 3) aNil))) (sSeq (sApp 6 (eBin fIx (eVar 5) (eVar 7))) (sAsg 7 (eBin fAdd (eVar 7) (eC (.int 1))))) (sApp 6 (eVar 3))) (ps.map Pg.toD) [some A, some B, some C, t3, some Kd, some (.lst (ms.map toDn)), some (.own acc), some (.int (k : Nat)), t8] w) N Z
  | [], acc, k, t3, _, _, q => by
    have := q t3 k
    simp only [fillL, List.map_nil, List.append_nil] at this
    exact this
  | p :: ps, acc, k, t3, hk, hl, q => by
    rw [List.map_cons]
    refine okS_cons ?_
    have hlim : lim = 16000000 := rfl
    have ek := e_kept (w := w) (q := p)
    simp only [List.length_cons] at hl
    simp -implicitDefEqProofs [ek]
    cases hp : isK p with
    | false =>
      have hpn : ∃ a, p = .num a := by cases p with | num a => exact ⟨a, rfl⟩ | lst _ => cases hp | tri _ _ _ => cases hp
      obtain ⟨a, rfl⟩ := hpn
      simp -implicitDefEqProofs
      refine ⟨by omega, fill_go ps (acc ++ [(Pg.num a).toD]) k _ hk (by simp; omega) fun t3 k' => ?_⟩
      have := q t3 k'
      rw [fill_num, List.map_cons] at this
      rw [List.append_assoc]
      exact this
    | true =>
      have hk2 : (kps (p :: ps)).length = (kps ps).length + 1 := by unfold kps; rw [List.filter_cons_of_pos hp]; rfl
      rw [hk2] at hk
      cases hd : ms.drop k with
      | nil => rw [hd] at hk; simp at hk
      | cons m r =>
        have hm : ms[k]? = some m := by rw [← List.head?_drop, hd]; rfl
        have hr : ms.drop (k + 1) = r := by rw [← List.tail_drop, hd]; rfl
        have ha : atI (ms.map toDn) (k : Nat) = some (toDn m) := atI_at (by rw [List.getElem?_map, hm]; rfl)
        simp -implicitDefEqProofs [ha]
        refine ⟨by omega, ?_⟩
        have := fill_go ps (acc ++ [toDn m]) (k + 1) (some p.toD) (by rw [hr]; rw [hd] at hk; simpa using hk) (by simp; omega) (N := N) (Z := Z) fun t3 k' => by
          have := q t3 k'
          rw [hd, fill_k hp, List.map_cons] at this
          rw [hr, List.append_assoc]
          exact this
        simpa using this
end
end DL

set_option maxHeartbeats 2000000
namespace DL
open PySem PySem.Spec PyProof.Rows L2
section
variable {w : Wl} {p q : Pg} {ps qs ms : List Pg} {bs : List (Int × Int)}
theorem ibs_len : (ibs ps).length = ps.length := by unfold ibs; rw [List.length_map]
theorem kps_k {p : Pg} (h : p ∈ kps ps) : p ∈ ps ∧ isK p = true := List.mem_filter.mp h
theorem zip_inn : ∀ {kp qs : List Pg}, InnA (ibs kp) qs → ∀ x ∈ kp.zip qs, Inn (1, x.1.cn) x.2
  | [], [], _, x, hx => by simp at hx
  | p :: kp, q :: qs, h, x, hx => by
    rw [List.zip_cons_cons] at hx
    rcases List.mem_cons.mp hx with rfl | hx
    · exact h.1
    · exact zip_inn h.2 x hx
theorem e_composed (hb : Bds bs) (h1 : Sec bs ps) (hk : kps ps ≠ []) (h2 : Sec (ibs (kps ps)) qs) (hc : ∀ p ∈ ps, p.cn ≤ 1000) (hc2 : ∀ q ∈ qs, q.cn ≤ 1000) : F_composed [bD bs, secG ps, secG qs] w = .ok (.tup ((fillL ps (mks (kps ps) qs)).map toDn)) w := by
  apply okE_eq
  have hlim : lim = 16000000 := rfl
  have e1 := h1.len
  have e2 := h2.len
  have e7 := h1.few
  rw [ibs_len] at e2
  have hkl : (kps ps).length ≤ ps.length := List.length_filter_le _ _
  have hk0 : 0 < (kps ps).length := by
    rcases Nat.eq_zero_or_pos (kps ps).length with z | z
    · exact absurd (List.eq_nil_of_length_eq_zero z) hk
    · exact z
  have g0 : ∀ (s : Sl), getS (some (bD bs) :: s) 0 = some (bD bs) := fun s => rfl
  have g1 : ∀ (x : Option D) (s : Sl), getS (x :: some (secG ps) :: s) 1 = some (secG ps) := fun x s => rfl
  have g2 : ∀ (x y : Option D) (s : Sl), getS (x :: y :: some (secG qs) :: s) 2 = some (secG qs) := fun x y s => rfl
  have em := e_many_in (w := w) (ps := qs) (by omega) h2.ok
  have es := e_is_sectionL (w := w) h2
  have eb : (ibs (kps ps)).map pD = (kps ps).map fun p => D.tup [.int 1, .int p.cn] := by unfold ibs; rw [List.map_map]; rfl
  rw [eb] at es
  unfold F_composed
  rw [okE_run]
  refine ⟨rfl, ?_⟩
  show okS (B_composed [some (bD bs), some (secG ps), some (secG qs), none, none, none, none, none, none] w) _ _
  unfold B_composed
  refine okS_then (fun s1 w1 => w1 = w ∧ s1 = [some (bD bs), some (secG ps), some (secG qs), none, none, none, none, none, none]) ?_ ?_
  · simp -implicitDefEqProofs [g0, g1, e_check_section hb h1]
  rintro _ w1 ⟨rfl, rfl⟩
  refine okS_then (fun s1 w2 => w2 = w1 ∧ s1 = [some (bD bs), some (secG ps), some (secG qs), none, some (.lst ((kps ps).map Pg.toD)), none, none, none, none]) ?_ ?_
  · simp -implicitDefEqProofs [g1]
    refine ⟨by omega, okE_lcf (xs := ps) Pg.toD Pg.toD isK rfl (fun p hp => ?_) ?_⟩
    · simp -implicitDefEqProofs [wipeS, e_kept (w := w1) (q := p)]
    · exact ⟨rfl, rfl⟩
  rintro _ w2 ⟨rfl, rfl⟩
  refine okS_then (fun s1 w1 => w1 = w2 ∧ s1 = [some (bD bs), some (secG ps), some (secG qs), none, some (.lst ((kps ps).map Pg.toD)), none, none, none, none]) ?_ ?_
  · have hne : ¬ ((kps ps).length : Int) = 0 := by omega
    simp -implicitDefEqProofs [g2, hk]
    refine ⟨by omega, okE_lcall3 Pg.toD (fun p => .tup [.int 1, .int p.cn]) rfl (fun p hp => ?_) ?_⟩
    · have := e_many_pg (w := w2) (h1.ok p (kps_k hp).1)
      simp -implicitDefEqProofs [wipeS, this, hlim]
    · simp -implicitDefEqProofs [es]
  rintro _ w1 ⟨rfl, rfl⟩
  refine okS_then (fun s1 w2 => w2 = w1 ∧ s1 = [some (bD bs), some (secG ps), some (secG qs), none, some (.lst ((kps ps).map Pg.toD)), some (.lst ((mks (kps ps) qs).map toDn)), none, none, none]) ?_ ?_
  · by_cases ht : tot qs = 0
    · have em' : mks (kps ps) qs = qs := by unfold mks; rw [if_pos ht]
      rw [em']
      simp -implicitDefEqProofs [g2, em, ht]
      refine ⟨by omega, okE_lcall3 Pg.toD toDn rfl (fun p hp => ?_) ?_⟩
      · cases p with
        | num a =>
          have t1 : (Pg.num a).toD = .int a := rfl
          simp -implicitDefEqProofs [wipeS, t1]
          rfl
        | lst xs =>
          have t1 : (Pg.lst xs).toD = .lst (xs.map .int) := rfl
          simp -implicitDefEqProofs [wipeS, t1]
          rfl
        | tri a b c =>
          have t1 : (Pg.tri a b c).toD = .tup [.int a, .int b, .int c] := rfl
          simp -implicitDefEqProofs [wipeS, t1]
          rfl
      · exact ⟨rfl, rfl⟩
    · have em' : mks (kps ps) qs = ((kps ps).zip qs).map fun x => pd x.1 x.2 := by unfold mks; rw [if_neg ht]
      rw [em']
      have hz : zip2D [.lst ((kps ps).map Pg.toD), secG qs] = some (zipD ((kps ps).map Pg.toD) (qs.map Pg.toD)) := rfl
      simp -implicitDefEqProofs [g2, em, ht, hz, zipD_maps]
      refine ⟨by omega, okE_lcall3 (γ := Pg × Pg) (fun x => .tup [x.1.toD, x.2.toD]) (fun x => toDn (pd x.1 x.2)) rfl (fun x hx => ?_) ?_⟩
      · have hm := List.of_mem_zip hx
        have hin := zip_inn (h2.inn ht) x hx
        have := e_pop (w := w1) (h1.ok _ (kps_k hm.1).1) (h2.ok _ hm.2) (kps_k hm.1).2 hin (hc _ (kps_k hm.1).1) (hc2 _ hm.2) (tot_ne ht _ hm.2)
        simp -implicitDefEqProofs [wipeS, this]
      · refine ⟨?_, rfl⟩
        rfl
  rintro _ w2 ⟨rfl, rfl⟩
  refine okS_then (fun s1 w1 => w1 = w2 ∧ s1 = [some (bD bs), some (secG ps), some (secG qs), none, some (.lst ((kps ps).map Pg.toD)), some (.lst ((mks (kps ps) qs).map toDn)), some (.own []), none, none]) ?_ ?_
  · simp -implicitDefEqProofs
  rintro _ w1 ⟨rfl, rfl⟩
  refine okS_then (fun s1 w2 => w2 = w1 ∧ s1 = [some (bD bs), some (secG ps), some (secG qs), none, some (.lst ((kps ps).map Pg.toD)), some (.lst ((mks (kps ps) qs).map toDn)), some (.own []), some (.int (0 : Nat)), none]) ?_ ?_
  · simp -implicitDefEqProofs
  rintro _ w2 ⟨rfl, rfl⟩
  have hml : (mks (kps ps) qs).length = (kps ps).length := by
    unfold mks
    split
    · exact e2
    · rw [List.length_map, List.length_zip]; omega
  refine okS_then (fun s1 w1 => w1 = w2 ∧ ∃ t3 t7 t8, s1 = [some (bD bs), some (secG ps), some (secG qs), t3, some (.lst ((kps ps).map Pg.toD)), some (.lst ((mks (kps ps) qs).map toDn)), some (.own ((fillL ps (mks (kps ps) qs)).map toDn)), t7, t8]) ?_ ?_
  · rw [okS_for]
    have hI : ∀ {Q : List D → Wl → Prop} {s : Sl} {w : Wl}, Q (ps.map Pg.toD) w → okE (iSeq (eVar 1) (some (bD bs) :: some (secG ps) :: s) w) Q := fun {Q s w} z => by
      simp -implicitDefEqProofs [g1]
      exact z
    refine hI (fill_go ps [] 0 none (by rw [List.drop_zero, hml]; exact Nat.le_refl _) (by simp; omega) fun t3 k' => ?_)
    exact ⟨rfl, t3, some (.int (k' : Nat)), none, by rw [List.drop_zero, List.nil_append]⟩
  rintro s1 w3 ⟨rfl, t3, t7, t8, rfl⟩
  simp -implicitDefEqProofs
end
end DL

set_option maxHeartbeats 2000000
namespace DL
open PySem PySem.Spec PyProof.Rows L2
/-! ### the law's own section of a section -/
theorem atI_snocD {l : List D} {x : D} : atI (l ++ [x]) (-1) = some x := by
  have e : ixN (l ++ [x]).length (-1) = some l.length := by
    rw [List.length_append, List.length_singleton]
    unfold ixN
    rw [if_neg (by omega), if_pos (by omega)]
    congr 1
    omega
  unfold atI
  rw [e]
  simp
section
variable {w : Wl} {p q : Pg} {ps qs ms : List Pg} {bs : List (Int × Int)}
theorem if_lt : fIsi w [p.toD, .tup [.ty "list", .ty "tuple"]] = some (.bl (isK p)) := by cases p <;> rfl
theorem sb_at {n : Int} (h : 1 ≤ n ∧ n ≤ p.cn) : atI (p.sb.map D.int) (n - 1) = some (.int (p.at' (n - 1))) := by
  obtain ⟨k, hk⟩ := Int.eq_ofNat_of_zero_le (show 0 ≤ n - 1 by omega)
  rw [hk]
  refine atI_at ?_
  unfold Pg.sb
  rw [List.getElem?_map, List.getElem?_map, List.getElem?_range (by omega)]
  rfl
theorem sb_ends {f : Int → Int} (h : 0 < q.cn) : atI ((q.sb.map f).map D.int) 0 = some (.int (f (q.at' 0))) ∧ atI ((q.sb.map f).map D.int) (-1) = some (.int (f (q.at' (q.cn - 1)))) := by
  obtain ⟨n, hn⟩ : ∃ n : Nat, q.cn = (n + 1 : Nat) := ⟨(q.cn - 1).toNat, by omega⟩
  have hs : q.sb = (List.range (n + 1)).map fun k => q.at' (k : Nat) := by unfold Pg.sb; rw [hn]; rfl
  constructor
  · rw [hs, List.range_succ_eq_map]
    exact atI_nat (j := 0) rfl
  · rw [hs, List.range_succ, List.map_append, List.map_append, List.map_append]
    have : q.cn - 1 = (n : Nat) := by omega
    rw [this]
    exact atI_snocD
theorem e_part_due (hp : Gq p) (hq : Gq q) (hk : isK p = true) (hin : Inn (1, p.cn) q) (hc : p.cn ≤ 1000) (hc2 : q.cn ≤ 1000) (h0 : 0 < q.cn) : F_w_part_due [p.toD, q.toD] w = .ok (pd p q).toD w := by
  apply okE_eq
  have hlim : lim = 16000000 := rfl
  have g0 : ∀ (s : Sl), getS (some p.toD :: s) 0 = some p.toD := fun s => by cases p <;> rfl
  have g1 : ∀ (x : Option D) (s : Sl), getS (x :: some q.toD :: s) 1 = some q.toD := fun x s => by cases q <;> rfl
  have s1 := e_w_subs (w := w) hp hc
  have s2 := e_w_subs (w := w) hq hc2
  have l2 := q.sb_len
  have l1 := p.sb_len
  have hT := if_lt (w := w) (p := q)
  have pre : ∀ {N : Sl → Wl → Prop} {Z : D → Wl → Prop}, okS (B_w_part_due [some p.toD, some q.toD, none, none, none] w) N Z → okS (B_w_part_due [some p.toD, some q.toD, none, none, none] w) N Z := fun h => h
  have fin : okE (lcD (gN 4) tYesD (eBin fIx (eVar 2) (eBin fSub (eVar 4) (eC (.int 1)))) (q.sb.map .int) [some p.toD, some q.toD, some (.lst (p.sb.map .int)), none, none] w) fun x w1 => x = (q.sb.map fun n => p.at' (n - 1)).map .int ∧ w1 = w := by
    refine okE_lcall3 D.int (fun n => .int (p.at' (n - 1))) rfl (fun n hn => ?_) ?_
    · simp -implicitDefEqProofs [sb_at (p := p) (hin n hn)]
    · rw [List.map_map]
      exact ⟨rfl, rfl⟩
  unfold F_w_part_due
  rw [okE_run]
  refine ⟨rfl, ?_⟩
  show okS (B_w_part_due [some p.toD, some q.toD, none, none, none] w) _ _
  unfold B_w_part_due
  refine okS_then (fun s1 w1 => w1 = w ∧ s1 = [some p.toD, some q.toD, some (.lst (p.sb.map .int)), none, none]) ?_ ?_
  · simp -implicitDefEqProofs [g0, s1]
  rintro _ w1 ⟨rfl, rfl⟩
  cases hkq : isK q with
  | false =>
    have hqn : ∃ a, q = .num a := by cases q with | num a => exact ⟨a, rfl⟩ | lst _ => cases hkq | tri _ _ _ => cases hkq
    obtain ⟨a, rfl⟩ := hqn
    have hin1 := sb_at (p := p) (hin a (by rw [Pg.sb_num]; exact List.mem_singleton.mpr rfl))
    have t1 : (Pg.num a).toD = .int a := rfl
    rw [hkq] at hT
    rw [t1] at hT ⊢
    simp -implicitDefEqProofs [hT, hin1, hlim]
    rfl
  | true =>
    rw [hkq] at hT
    refine okS_then (fun s1 w2 => w2 = w1 ∧ s1 = [some p.toD, some q.toD, some (.lst (p.sb.map .int)), none, none]) ?_ ?_
    · simp -implicitDefEqProofs [g1, hT, hlim]
    rintro _ w2 ⟨rfl, rfl⟩
    refine okS_then (fun s1 w1 => w1 = w2 ∧ s1 = [some p.toD, some q.toD, some (.lst (p.sb.map .int)), some (.lst ((q.sb.map fun n => p.at' (n - 1)).map .int)), none]) ?_ ?_
    · simp -implicitDefEqProofs [g1, s2]
      refine ⟨by omega, okE_mono fin ?_⟩
      rintro x w3 ⟨rfl, rfl⟩
      rw [List.map_map]
      exact ⟨rfl, rfl⟩
    rintro _ w1 ⟨rfl, rfl⟩
    have he := sb_ends (q := q) (f := fun n => p.at' (n - 1)) h0
    have hlen : (((q.sb.map fun n => p.at' (n - 1)).map D.int).length : Int) = q.cn := by rw [List.length_map, List.length_map]; exact l2
    generalize hL : (q.sb.map fun n => p.at' (n - 1)).map D.int = L at *
    cases q with
    | num a => cases hkq
    | lst xs =>
      have t1 : (Pg.lst xs).toD = .lst (xs.map .int) := rfl
      have b2 : fIsi w1 [(Pg.lst xs).toD, .ty "list"] = some (.bl true) := rfl
      have b1 : ∃ b, fIsi w1 [p.toD, .ty "list"] = some (.bl b) := by cases p <;> exact ⟨_, rfl⟩
      obtain ⟨b, b1⟩ := b1
      have hr : D.lst L = (pd p (.lst xs)).toD := by rw [← hL, Pg.sb_lst]; cases p <;> rfl
      simp -implicitDefEqProofs [g0, g1, b1, b2, hr]
    | tri a' b' c' =>
      cases p with
      | num a => cases hk
      | lst xs =>
        have b1 : fIsi w1 [(Pg.lst xs).toD, .ty "list"] = some (.bl true) := rfl
        have hr : D.lst L = (pd (.lst xs) (.tri a' b' c')).toD := by rw [← hL]; rfl
        simp -implicitDefEqProofs [g0, g1, b1, hr]
      | tri a b c =>
        have b1 : fIsi w1 [(Pg.tri a b c).toD, .ty "list"] = some (.bl false) := rfl
        have b2 : fIsi w1 [(Pg.tri a' b' c').toD, .ty "list"] = some (.bl false) := rfl
        have m3 : mulOk c c' := by
          cases hp with
          | tri _ _ hc1 _ => cases hq with | tri _ _ hc2 _ => exact mul_bt (far_bt hc1) (far_bt hc2) (by omega)
        have e1 : (Pg.tri a' b' c').at' 0 = a' := by show a' + 0 * c' = a'; omega
        rw [e1] at he
        have x1 : ∀ w, fIx w (Pg.tri a b c).toD (.int 2) = some (.int c) := fun w => rfl
        have x2 : ∀ w, fIx w (Pg.tri a' b' c').toD (.int 2) = some (.int c') := fun w => rfl
        rw [pd_tri]
        by_cases h1 : (Pg.tri a' b' c').cn = 1
        · have h2 : ¬ (1 : Int) < L.length := by omega
          simp -implicitDefEqProofs [g0, g1, b1, b2, he.1, he.2, h2, hlim, h1]
          rfl
        · have h2 : (1 : Int) < L.length := by omega
          simp -implicitDefEqProofs [g0, g1, b1, b2, he.1, he.2, h2, hlim, h1, x1, x2, m3]
          rfl
end
end DL

set_option maxHeartbeats 2000000
namespace DL
open PySem PySem.Spec PyProof.Rows L2
section
variable {w : Wl} {p q : Pg} {ps qs ms kp : List Pg} {bs : List (Int × Int)}
@[simp] theorem getS_pg2 {a b : Option D} {s : Sl} : getS (a :: b :: some p.toD :: s) 2 = some p.toD := by cases p <;> rfl
theorem any0 : (qs.map fun q => D.int q.cn).any (fun d => eqD d (.int 0)) = decide (tot qs = 0) := by
  rw [Bool.eq_iff_iff, List.any_eq_true, decide_eq_true_eq, tot_zero]
  constructor
  · rintro ⟨d, hd, e⟩
    obtain ⟨q, hq, rfl⟩ := List.mem_map.mp hd
    rw [eqD_int, decide_eq_true_eq] at e
    exact ⟨q, hq, e⟩
  · rintro ⟨q, hq, e⟩
    exact ⟨_, List.mem_map.mpr ⟨q, hq, rfl⟩, by rw [eqD_int, e]; rfl⟩
theorem e_bare : F_w_bare_part [q.toD] w = .ok q.toD w := by
  apply okE_eq
  cases q with
  | num a =>
    have t1 : (Pg.num a).toD = .int a := rfl
    simp -implicitDefEqProofs [F_w_bare_part, B_w_bare_part, okE_run, t1]
  | lst xs =>
    have t1 : (Pg.lst xs).toD = .lst (xs.map .int) := rfl
    simp -implicitDefEqProofs [F_w_bare_part, B_w_bare_part, okE_run, t1]
  | tri a b c =>
    have t1 : (Pg.tri a b c).toD = .tup [.int a, .int b, .int c] := rfl
    simp -implicitDefEqProofs [F_w_bare_part, B_w_bare_part, okE_run, t1]
theorem due_go {A : D} {N : Sl → Wl → Prop} {Z : D → Wl → Prop} (hl : qs.length = kp.length) (hP : ∀ x ∈ kp.zip qs, tot qs ≠ 0 → ∀ w, F_w_part_due [x.1.toD, x.2.toD] w = .ok (pd x.1 x.2).toD w) :
    ∀ (ps : List Pg) (acc : List D) (k : Nat) (t2 : Option D), kps ps = kp.drop k → acc.length + ps.length ≤ 100 → (∀ t2 k', N [some A, some (secG qs), t2, some (.bl (decide (tot qs = 0))), some (.own (acc ++ (fillL ps ((mks kp qs).drop k)).map Pg.toD)), some (.int (k' : Nat))] w) →
    okS (loopD (gN 2) (sIf (tTr (eCB fIsi (aCons (eVar 2) (aCons (eTup (aCons (eC (.ty "list")) (aCons (eC (.ty "tuple")) aNil))) aNil)))) (sSeq (sApp 4 (eIf (tTr (eVar 3)) (eCall 1 F_w_bare_part (aCons (eBin fIx (eVar 1) (eVar 5)) aNil)) (eCall 2 F_w_part_due (aCons (eVar 2) (aCons (eBin fIx (eVar 1) (eVar 5)) aNil))))) (sAsg 5 (eBin fAdd (eVar 5) (eC (.int 1))))) (sApp 4 (eVar 2))) (ps.map Pg.toD) [some A, some (secG qs), t2, some (.bl (decide (tot qs = 0))), some (.own acc), some (.int (k : Nat))] w) N Z
  | [], acc, k, t2, _, _, q => by
    have := q t2 k
    simp only [fillL, List.map_nil, List.append_nil] at this
    exact this
  | p :: ps, acc, k, t2, hk, hlen, q => by
    rw [List.map_cons]
    refine okS_cons ?_
    have hlim : lim = 16000000 := rfl
    have hl2 : (2 : Nat) ≤ lim := by decide
    have hT := if_lt (w := w) (p := p)
    simp only [List.length_cons] at hlen
    simp -implicitDefEqProofs [hl2, hT]
    cases hp : isK p with
    | false =>
      have hpn : ∃ a, p = .num a := by cases p with | num a => exact ⟨a, rfl⟩ | lst _ => cases hp | tri _ _ _ => cases hp
      obtain ⟨a, rfl⟩ := hpn
      simp -implicitDefEqProofs
      refine ⟨by omega, due_go hl hP ps (acc ++ [(Pg.num a).toD]) k _ hk (by simp; omega) fun t3 k' => ?_⟩
      have := q t3 k'
      rw [fill_num, List.map_cons] at this
      rw [List.append_assoc]
      exact this
    | true =>
      have hk2 : kps (p :: ps) = p :: kps ps := by unfold kps; rw [List.filter_cons_of_pos hp]
      rw [hk2] at hk
      have hpk : kp[k]? = some p := by rw [← List.head?_drop, ← hk]; rfl
      have hk3 : kps ps = kp.drop (k + 1) := by rw [← List.tail_drop, ← hk]; rfl
      have hlt : k < qs.length := by rw [hl]; exact (List.getElem?_eq_some_iff.mp hpk).1
      have hq : qs[k]? = some qs[k] := List.getElem?_eq_getElem hlt
      have ha : atI (qs.map Pg.toD) (k : Nat) = some qs[k].toD := atI_at (by rw [List.getElem?_map, hq]; rfl)
      have hz : (kp.zip qs)[k]? = some (p, qs[k]) := by rw [List.getElem?_zip_eq_some]; exact ⟨hpk, hq⟩
      have hx : ∀ w, fIx w (secG qs) (.int (k : Nat)) = some qs[k].toD := fun w => ha
      have g1 : ∀ (x : Option D) (s : Sl), getS (x :: some (secG qs) :: s) 1 = some (secG qs) := fun x s => rfl
      have hm : (mks kp qs)[k]? = some (if tot qs = 0 then qs[k] else pd p qs[k]) := by
        unfold mks
        split
        · exact hq
        · rw [List.getElem?_map, hz]; rfl
      have hd : ((mks kp qs).drop k) = (if tot qs = 0 then qs[k] else pd p qs[k]) :: (mks kp qs).drop (k + 1) := by
        have h1 := (List.getElem?_eq_some_iff.mp hm).1
        rw [List.drop_eq_getElem_cons h1]
        congr 1
        exact Option.some.inj ((List.getElem?_eq_getElem h1).symm.trans hm)
      have next := fun (d : D) (hd' : d = (if tot qs = 0 then qs[k] else pd p qs[k]).toD) => due_go hl hP ps (acc ++ [d]) (k + 1) (some p.toD) hk3 (by simp; omega) (A := A) (N := N) (Z := Z) fun t3 k' => by
          subst hd'
          have := q t3 k'
          rw [hd, fill_k hp, List.map_cons] at this
          rw [List.append_assoc]
          exact this
      by_cases ht : tot qs = 0
      · have nx := next qs[k].toD (by rw [if_pos ht])
        simp -implicitDefEqProofs [ht, g1, hx, e_bare] at nx ⊢
        exact ⟨by omega, nx⟩
      · have hpd := hP _ (List.mem_of_getElem? hz) ht w
        have nx := next (pd p qs[k]).toD (by rw [if_neg ht])
        simp -implicitDefEqProofs [ht, g1, hx, hpd] at nx ⊢
        exact ⟨by omega, nx⟩
theorem e_w_due (h7 : ps.length ≤ 7) (hl : qs.length = (kps ps).length) (hg : ∀ q ∈ qs, Gq q) (hP : ∀ x ∈ (kps ps).zip qs, tot qs ≠ 0 → ∀ w, F_w_part_due [x.1.toD, x.2.toD] w = .ok (pd x.1 x.2).toD w) :
    F_w_due [secG ps, secG qs] w = .ok (secG (fillL ps (mks (kps ps) qs))) w := by
  apply okE_eq
  have hlim : lim = 16000000 := rfl
  have hkl : (kps ps).length ≤ ps.length := List.length_filter_le _ _
  have g0 : ∀ (s : Sl), getS (some (secG ps) :: s) 0 = some (secG ps) := fun s => rfl
  have g1 : ∀ (x : Option D) (s : Sl), getS (x :: some (secG qs) :: s) 1 = some (secG qs) := fun x s => rfl
  unfold F_w_due
  rw [okE_run]
  refine ⟨rfl, ?_⟩
  show okS (B_w_due [some (secG ps), some (secG qs), none, none, none, none] w) _ _
  unfold B_w_due
  refine okS_then (fun s1 w1 => w1 = w ∧ s1 = [some (secG ps), some (secG qs), none, some (.bl (decide (tot qs = 0))), some (.own []), some (.int (0 : Nat))]) ?_ ?_
  · simp -implicitDefEqProofs [g1]
    refine ⟨by omega, okE_lcall3 Pg.toD (fun q => .int q.cn) rfl (fun q hq => ?_) ?_⟩
    · have := e_w_many (w := w) (hg q hq)
      simp -implicitDefEqProofs [wipeS, this]
    · have h1 : okD (.lst (qs.map fun q => D.int q.cn)) = true := by
        have := okD_lints (xs := qs.map Pg.cn)
        rw [List.map_map] at this
        exact this
      have h2 := any0 (qs := qs)
      rw [List.any_map] at h2
      simp -implicitDefEqProofs [h1, h2]
  rintro _ w1 ⟨rfl, rfl⟩
  refine okS_then (fun s1 w2 => w2 = w1 ∧ ∃ t2 t3 t5, s1 = [some (secG ps), some (secG qs), t2, t3, some (.own ((fillL ps (mks (kps ps) qs)).map Pg.toD)), t5]) ?_ ?_
  · rw [okS_for]
    have hI : ∀ {Q : List D → Wl → Prop} {s : Sl} {w : Wl}, Q (ps.map Pg.toD) w → okE (iSeq (eVar 0) (some (secG ps) :: s) w) Q := fun {Q s w} z => by
      simp -implicitDefEqProofs [g0]
      exact z
    refine hI (due_go hl hP ps [] 0 none (by rw [List.drop_zero]) (by simp; omega) fun t2 k' => ?_)
    exact ⟨rfl, t2, _, some (.int (k' : Nat)), by rw [List.drop_zero, List.nil_append]⟩
  rintro s1 w3 ⟨rfl, t2, t3, t5, rfl⟩
  simp -implicitDefEqProofs
  rfl
end
end DL

set_option maxHeartbeats 2000000
namespace DL
open PySem PySem.Spec PyProof.Rows L2
/-! ### the elements of a section of a section -/
def duL : List Pg → List Pg → List Pg
  | [], _ => []
  | .num a :: ps, qs => .num a :: duL ps qs
  | p :: ps, q :: qs => pd p q :: duL ps qs
  | _ :: _, [] => []
theorem du_num {a : Int} {ps qs : List Pg} : duL (.num a :: ps) qs = .num a :: duL ps qs := by cases qs <;> simp [duL]
theorem du_k {p q : Pg} {ps qs : List Pg} (h : isK p = true) : duL (p :: ps) (q :: qs) = pd p q :: duL ps qs := by
  cases p with
  | num a => cases h
  | lst xs => simp [duL]
  | tri a b c => simp [duL]
theorem num_of {p : Pg} (h : isK p = false) : ∃ a, p = .num a := by cases p with | num a => exact ⟨a, rfl⟩ | lst _ => cases h | tri _ _ _ => cases h
theorem kps_num {a : Int} {ps : List Pg} : kps (.num a :: ps) = kps ps := rfl
theorem kps_cons {p : Pg} {ps : List Pg} (h : isK p = true) : kps (p :: ps) = p :: kps ps := by unfold kps; rw [List.filter_cons_of_pos h]
theorem fill_du : ∀ {ps qs : List Pg}, fillL ps (((kps ps).zip qs).map fun x => pd x.1 x.2) = duL ps qs
  | [], qs => by simp [fillL, duL]
  | p :: ps, qs => by
    cases hp : isK p with
    | false =>
      obtain ⟨a, rfl⟩ := num_of hp
      rw [fill_num, du_num, kps_num, fill_du]
    | true =>
      rw [kps_cons hp]
      cases qs with
      | nil =>
        rw [List.zip_nil_right]
        cases p with
        | num a => cases hp
        | lst xs => simp [fillL, duL]
        | tri a b c => simp [fillL, duL]
      | cons q qs => rw [List.zip_cons_cons, List.map_cons, fill_k hp, du_k hp, fill_du]
/-- what is known of the parts, pair by pair -/
def DuOk : List Pg → List Pg → Prop
  | [], qs => qs = []
  | .num _ :: ps, qs => DuOk ps qs
  | p :: ps, q :: qs => ((pd p q).sb = q.sb.map (fun n => p.at' (n - 1)) ∧ Inn (1, p.cn) q ∧ Gq (pd p q) ∧ (pd p q).cn ≤ 1000) ∧ DuOk ps qs
  | _ :: _, [] => False
theorem ok_num {a : Int} {ps qs : List Pg} : DuOk (.num a :: ps) qs ↔ DuOk ps qs := by cases qs <;> simp [DuOk]
theorem ok_k {p q : Pg} {ps qs : List Pg} (h : isK p = true) : DuOk (p :: ps) (q :: qs) ↔ ((pd p q).sb = q.sb.map (fun n => p.at' (n - 1)) ∧ Inn (1, p.cn) q ∧ Gq (pd p q) ∧ (pd p q).cn ≤ 1000) ∧ DuOk ps qs := by
  cases p with
  | num a => cases h
  | lst xs => simp [DuOk]
  | tri a b c => simp [DuOk]
theorem ok_nil {p : Pg} {ps : List Pg} (h : isK p = true) : ¬ DuOk (p :: ps) [] := by
  cases p with
  | num a => cases h
  | lst xs => simp [DuOk]
  | tri a b c => simp [DuOk]
def rowOf : List Pg → List Int → List Int
  | [], _ => []
  | .num a :: ps, r => a :: rowOf ps r
  | p :: ps, n :: r => p.at' (n - 1) :: rowOf ps r
  | _ :: _, [] => []
theorem row_num {a : Int} {ps : List Pg} {r : List Int} : rowOf (.num a :: ps) r = a :: rowOf ps r := by cases r <;> simp [rowOf]
theorem row_k {p : Pg} {ps : List Pg} {n : Int} {r : List Int} (h : isK p = true) : rowOf (p :: ps) (n :: r) = p.at' (n - 1) :: rowOf ps r := by
  cases p with
  | num a => cases h
  | lst xs => simp [rowOf]
  | tri a b c => simp [rowOf]
theorem els_num {a : Int} {ps : List Pg} : els (.num a :: ps) = (els ps).map (a :: ·) := by
  show (els ps).flatMap _ = _
  rw [Pg.sb_num]
  induction els ps with
  | nil => rfl
  | cons r t ih => rw [List.flatMap_cons, ih]; rfl
theorem els_rows : ∀ {ps qs : List Pg}, DuOk ps qs → (els qs).map (rowOf ps) = els (duL ps qs)
  | [], qs, h => by
    have h : qs = [] := h
    subst h
    rfl
  | p :: ps, qs, h => by
    cases hp : isK p with
    | false =>
      obtain ⟨a, rfl⟩ := num_of hp
      rw [ok_num] at h
      rw [du_num, els_num, ← els_rows h, List.map_map]
      exact List.map_congr_left fun r _ => row_num
    | true =>
      cases qs with
      | nil => exact absurd h (ok_nil hp)
      | cons q qs =>
        rw [ok_k hp] at h
        rw [du_k hp]
        show ((els qs).flatMap fun row => q.sb.map fun x => x :: row).map (rowOf (p :: ps)) = (els (duL ps qs)).flatMap fun row => (pd p q).sb.map fun x => x :: row
        rw [← els_rows h.2, h.1.1, List.map_flatMap, List.flatMap_map]
        congr 1
        funext row
        rw [List.map_map, List.map_map]
        exact List.map_congr_left fun n _ => row_k hp
theorem flat_at {α β : Type} {f : α → List β} {c : Nat} : ∀ {L : List α} {i j : Nat} {x : α}, (∀ x ∈ L, (f x).length = c) → L[i]? = some x → j < c → (L.flatMap f)[c * i + j]? = (f x)[j]?
  | [], i, j, x, _, h, _ => by simp at h
  | y :: L, 0, j, x, hc, h, hj => by
    have e : y = x := by simpa using h
    subst e
    rw [List.flatMap_cons, Nat.mul_zero, Nat.zero_add, List.getElem?_append_left (by rw [hc y List.mem_cons_self]; exact hj)]
  | y :: L, i + 1, j, x, hc, h, hj => by
    have h1 : L[i]? = some x := by simpa using h
    have hy := hc y List.mem_cons_self
    rw [List.flatMap_cons, List.getElem?_append_right (by rw [hy, Nat.mul_succ]; omega), hy]
    have : c * (i + 1) + j - c = c * i + j := by rw [Nat.mul_succ]; omega
    rw [this]
    exact flat_at (fun x hx => hc x (List.mem_cons_of_mem _ hx)) h1 hj
theorem row_at : ∀ {ps qs : List Pg} {r : List Int}, DuOk ps qs → r ∈ els qs → ∃ k : Nat, place (ibs (kps ps)) r = (k : Nat) ∧ (els ps)[k]? = some (rowOf ps r)
  | [], qs, r, h, hr => by
    have h : qs = [] := h
    subst h
    have hr : r = [] := List.mem_singleton.mp hr
    subst hr
    exact ⟨0, rfl, rfl⟩
  | p :: ps, qs, r, h, hr => by
    cases hp : isK p with
    | false =>
      obtain ⟨a, rfl⟩ := num_of hp
      rw [ok_num] at h
      obtain ⟨k, h1, h2⟩ := row_at h hr
      refine ⟨k, by rw [kps_num]; exact h1, ?_⟩
      rw [els_num, List.getElem?_map, h2, row_num]
      rfl
    | true =>
      cases qs with
      | nil => exact absurd h (ok_nil hp)
      | cons q qs =>
        rw [ok_k hp] at h
        obtain ⟨row, hrow, hr⟩ := List.mem_flatMap.mp hr
        obtain ⟨n, hn, rfl⟩ := List.mem_map.mp hr
        obtain ⟨k, h1, h2⟩ := row_at h.2 hrow
        have hin : 1 ≤ n ∧ n ≤ p.cn := h.1.2.1 n hn
        obtain ⟨j, hj⟩ := Int.eq_ofNat_of_zero_le (show 0 ≤ n - 1 by omega)
        obtain ⟨c, hc⟩ := Int.eq_ofNat_of_zero_le p.cn_nonneg
        refine ⟨c * k + j, ?_, ?_⟩
        · rw [kps_cons hp]
          show (n - 1) + ext (1, p.cn) * place (ibs (kps ps)) row = _
          rw [h1, hj]
          have he : ext (1, p.cn) = (c : Nat) := by
            unfold ext
            dsimp only
            rw [if_pos (by omega), hc]
            omega
          rw [he]
          push_cast
          omega
        · rw [row_k hp]
          show ((els ps).flatMap fun row => p.sb.map fun x => x :: row)[c * k + j]? = _
          have hl : ∀ row ∈ els ps, (p.sb.map fun x => x :: row).length = c := fun row _ => by
            have := p.sb_len
            rw [List.length_map]
            omega
          rw [flat_at hl h2 (by omega), List.getElem?_map]
          have : p.sb[j]? = some (p.at' (n - 1)) := by
            unfold Pg.sb
            rw [List.getElem?_map, List.getElem?_range (by omega), hj]
            rfl
          rw [this]
          rfl
end DL

set_option maxHeartbeats 2000000
namespace DL
open PySem PySem.Spec PyProof.Rows L2
section
variable {w : Wl} {b : Nat} {bs : List (Int × Int)} {xs : List Int} {ps qs : List Pg} {p q : Pg}
theorem e_w_place (h : Bw bs) (he : El bs xs) : F_w_place [bD bs, eD xs] w = .ok (.int (place bs xs)) w := by
  apply okE_eq
  have hlen := he.len
  simp -implicitDefEqProofs [F_w_place, B_w_place, okE_run, List.replicate]
  rw [zip2_two seqD_eD seqD_bD]
  simp only [okO_some]
  rw [zipD_maps]
  have key : ∀ (bs : List (Int × Int)) (xs : List Int) (f b : Int) (k : Nat) (t4 t5 t6 : Option D) (A B : D), El bs xs → (∀ p ∈ bs, (-40564819207303340847894502572032 ≤ p.1 ∧ p.1 ≤ 40564819207303340847894502572032) ∧ -40564819207303340847894502572032 ≤ p.2 ∧ p.2 ≤ 40564819207303340847894502572032) → (0 ≤ b ∧ b ≤ 2 ^ k) → k + 110 * bs.length ≤ 1000 →
      okS (loopD (gT (gCons' (gN 4) (gCons' (gT (gCons' (gN 5) (gCons' (gN 6) gNil')) 2) gNil')) 2) (sMul [2, 3] (mVal (eBin fAdd (eVar 2) (eBin fMul (eBin fSub (eVar 4) (eVar 5)) (eVar 3))) (mVal (eBin fMul (eVar 3) (eCB fMax2 (aCons (eC (.int 0)) (aCons (eBin fAdd (eBin fSub (eVar 6) (eVar 5)) (eC (.int 1))) aNil)))) aNil)))
        ((xs.zip bs).map fun x => .tup [.int x.1, pD x.2]) [some A, some B, some (.int f), some (.int b), t4, t5, t6] w)
        (fun s w' => w' = w ∧ PL A B (f + b * place bs xs) s) (fun _ _ => False) := by
    intro bs
    induction bs with
    | nil =>
      intro xs f b k t4 t5 t6 A B he hn hb hk
      cases xs with
      | nil => exact ⟨rfl, b, t4, t5, t6, by unfold place; rw [Int.mul_zero, Int.add_zero]⟩
      | cons x r => exact he.elim
    | cons p r ih =>
      intro xs f b k t4 t5 t6 A B he hn hb hk
      cases xs with
      | nil => exact he.elim
      | cons x xr =>
        obtain ⟨hx, he⟩ := he
        have hp := hn p List.mem_cons_self
        have hd := near_diff hp hx
        have hs := ext_small hp
        have m1 : mulOk (x - p.1) b := mul_small hd.1 hd.2 hb.1 hb.2 (by simp at hk; omega)
        have m2 : mulOk b (ext p) := mul_small hb.1 hb.2 hs.1 hs.2 (by simp at hk; omega)
        have hb2 : 0 ≤ b * ext p ∧ b * ext p ≤ 2 ^ (k + 110) := ⟨Int.mul_nonneg hb.1 hs.1, by
          rw [Int.pow_add]
          exact Int.mul_le_mul hb.2 hs.2 hs.1 (Int.le_trans hb.1 hb.2)⟩
        have := ih xr (f + (x - p.1) * b) (b * ext p) (k + 110) (some (.int x)) (some (.int p.1)) (some (.int p.2)) A B he (fun q hq => hn q (List.mem_cons_of_mem _ hq)) hb2 (by simp at hk; omega)
        rw [List.zip_cons_cons, List.map_cons]
        refine okS_cons ?_
        unfold pD
        simp -implicitDefEqProofs [ext_max2, m1, m2]
        refine okS_mono this (fun s w' hh => ?_) (fun _ _ hh => hh)
        obtain ⟨rfl, hh⟩ := hh
        refine ⟨rfl, ?_⟩
        have e : f + b * place (p :: r) (x :: xr) = f + (x - p.1) * b + b * ext p * place r xr := by
          show f + b * ((x - p.1) + ext p * place r xr) = _
          rw [Int.mul_add, Int.mul_comm (x - p.1) b, Int.mul_assoc]
          omega
        rw [e]
        exact hh
  refine okS_mono (key bs xs 0 1 0 none none none _ _ he h.near ⟨by decide, by decide⟩ (by have := h.few; omega)) (fun s w' hh => ?_) (fun _ _ hh => hh.elim)
  obtain ⟨rfl, b', t4, t5, t6, rfl⟩ := hh
  simp -implicitDefEqProofs
/-- a comprehension, one turn -/
theorem lay_rows : ∀ rs : List (List Int), PyData.canLayAll0 (toPDs (rs.map eD)) = true ∧ PyData.depthAll (toPDs (rs.map eD)) ≤ 1
  | [] => by simp [toPDs, PyData.canLayAll0, PyData.depthAll]
  | r :: rs => by
    have h1 := lay_rows rs
    have h2 := lay_ints r
    simp [toPDs, eD, toPD, toPDs_ints, PyData.canLayAll0, PyData.depthAll, PyData.canLay0, PyData.depth, h2]
    exact ⟨h1.1, by omega⟩
theorem okD_rows {rs : List (List Int)} : okD (rowsD rs) = true := by
  have h := lay_rows rs
  simp [okD, rowsD, toPD, SeqAt.shaped, PyData.canLay0, PyData.depth, h.1]
  omega
theorem eqv_rows : ∀ as bs : List (List Int), PyData.eqvAll (toPDs (as.map eD)) (toPDs (bs.map eD)) = decide (as = bs)
  | [], [] => by simp [PyData.eqvAll, toPDs]
  | [], y :: ys => by simp [PyData.eqvAll, toPDs]
  | x :: xs, [] => by simp [PyData.eqvAll, toPDs]
  | x :: xs, y :: ys => by
    have ih := eqv_rows xs ys
    have e : PyData.eqv (toPD (eD x)) (toPD (eD y)) = decide (x = y) := eqD_ints
    simp [PyData.eqvAll, toPDs, e, ih]
theorem eqD_rows {as bs : List (List Int)} : eqD (rowsD as) (rowsD bs) = decide (as = bs) := by
  show PyData.eqv (.list (toPDs (as.map eD))) (.list (toPDs (bs.map eD))) = _
  rw [show PyData.eqv (.list (toPDs (as.map eD))) (.list (toPDs (bs.map eD))) = PyData.eqvAll (toPDs (as.map eD)) (toPDs (bs.map eD)) by unfold PyData.eqv; rfl]
  exact eqv_rows as bs
/-! a part of a part, by value -/
theorem far_sb (hp : Gq p) {x : Int} (hx : x ∈ p.sb) : far x := by
  cases hp with
  | num h => rw [Pg.sb_num] at hx; rw [List.mem_singleton.mp hx]; exact h
  | lst _ h => rw [Pg.sb_lst] at hx; exact h x hx
  | tri ha hb hc h0 =>
    have h := mem_tri h0 hx
    unfold far at *
    rcases Int.lt_or_gt_of_ne h0 with hn | hpp
    · have := h.2 hn; omega
    · have := h.1 hpp; omega
theorem at_mem {n : Int} (h : 1 ≤ n ∧ n ≤ p.cn) : p.at' (n - 1) ∈ p.sb := by
  unfold Pg.sb
  refine List.mem_map.mpr ⟨(n - 1).toNat, List.mem_range.mpr (by omega), ?_⟩
  congr 1
  omega
theorem cn_mk {f s n : Int} (hs : s ≠ 0) (hn : 0 < n) : (Pg.tri f (f + (n - 1) * s) s).cn = n := by
  show (if (f + (n - 1) * s - f + s).fdiv s > 0 then _ else _) = n
  have e : f + (n - 1) * s - f + s = n * s := by rw [Int.sub_mul]; omega
  rw [e, Int.mul_fdiv_cancel _ hs, if_pos hn]
theorem pd_ok (hp : Gq p) (hq : Gq q) (hk : isK p = true) (hin : Inn (1, p.cn) q) (hf : ∀ x ∈ p.sb, -1000 ≤ x ∧ x ≤ 1000) (hc2 : q.cn ≤ 64) (h0 : 0 < q.cn) :
    (pd p q).sb = q.sb.map (fun n => p.at' (n - 1)) ∧ Inn (1, p.cn) q ∧ Gq (pd p q) ∧ (pd p q).cn ≤ 1000 := by
  have l2 := q.sb_len
  have fr : ∀ n ∈ q.sb, far (p.at' (n - 1)) := fun n hn => far_sb hp (at_mem (hin n hn))
  have row : ∀ L : List Int, L = q.sb.map (fun n => p.at' (n - 1)) → (Pg.lst L).sb = q.sb.map (fun n => p.at' (n - 1)) ∧ Inn (1, p.cn) q ∧ Gq (.lst L) ∧ (Pg.lst L).cn ≤ 1000 := fun L e => by
    have hl : L.length = q.sb.length := by rw [e, List.length_map]
    refine ⟨by rw [Pg.sb_lst, e], hin, .lst (by omega) fun x hx => ?_, by show (L.length : Int) ≤ 1000; omega⟩
    rw [e] at hx
    obtain ⟨n, hn, rfl⟩ := List.mem_map.mp hx
    exact fr n hn
  cases q with
  | num n =>
    have hn := fr n (by rw [Pg.sb_num]; exact List.mem_singleton.mpr rfl)
    refine ⟨?_, hin, ?_, ?_⟩
    · rw [Pg.sb_num]; cases p <;> rfl
    · have : pd p (.num n) = .num (p.at' (n - 1)) := by cases p <;> rfl
      rw [this]; exact .num hn
    · have : pd p (.num n) = .num (p.at' (n - 1)) := by cases p <;> rfl
      rw [this]; show (1 : Int) ≤ 1000; decide
  | lst xs =>
    have : pd p (.lst xs) = .lst (xs.map fun n => p.at' (n - 1)) := by cases p <;> rfl
    rw [this]
    exact row _ (by rw [Pg.sb_lst])
  | tri a' b' c' =>
    cases p with
    | num a => cases hk
    | lst xs => exact row _ rfl
    | tri a b c =>
      rw [pd_tri]
      have m1 := sb_first h0
      have m2 := sb_last h0
      have e1 : (Pg.tri a' b' c').at' 0 = a' := by show a' + 0 * c' = a'; omega
      rw [e1] at m1
      have f1 := fr _ m1
      have f2 := fr _ m2
      have c0 : c ≠ 0 := by cases hp with | tri _ _ _ h => exact h
      have c0' : c' ≠ 0 := by cases hq with | tri _ _ _ h => exact h
      by_cases h1 : (Pg.tri a' b' c').cn = 1
      · rw [if_pos h1, h1]
        have z0 : (1 : Int) - 1 = 0 := rfl
        rw [z0, e1]
        have hs : (Pg.tri a' b' c').sb = [a'] := by
          unfold Pg.sb
          rw [h1]
          show [(Pg.tri a' b' c').at' ((0 : Nat) : Int)] = [a']
          rw [show ((0 : Nat) : Int) = 0 from rfl, e1]
        generalize hx : (Pg.tri a b c).at' (a' - 1) = x at *
        have hc1 : (Pg.tri x x 1).cn = 1 := by
          have := cn_mk (f := x) (s := 1) (n := 1) (by decide) (by decide)
          simpa using this
        refine ⟨?_, hin, .tri f1 f1 (by unfold far; omega) (by decide), by rw [hc1]; decide⟩
        rw [hs]
        unfold Pg.sb
        rw [hc1]
        show [x + ((0 : Nat) : Int) * 1] = [(Pg.tri a b c).at' (a' - 1)]
        rw [hx]
        simp
      · rw [if_neg h1]
        obtain ⟨n, hn⟩ : ∃ n : Nat, (Pg.tri a' b' c').cn = n := Int.eq_ofNat_of_zero_le (by omega)
        have e2 : (Pg.tri a' b' c').at' ((Pg.tri a' b' c').cn - 1) = a' + ((n : Int) - 1) * c' := by rw [hn]; rfl
        have e3 : (Pg.tri a b c).at' (a' + ((n : Int) - 1) * c' - 1) = (Pg.tri a b c).at' (a' - 1) + ((n : Int) - 1) * (c * c') := by
          show a + (a' + ((n : Int) - 1) * c' - 1) * c = a + (a' - 1) * c + ((n : Int) - 1) * (c * c')
          have : (a' + ((n : Int) - 1) * c' - 1) * c = (a' - 1) * c + ((n : Int) - 1) * (c * c') := by
            have e : a' + ((n : Int) - 1) * c' - 1 = (a' - 1) + ((n : Int) - 1) * c' := by omega
            rw [e, Int.add_mul, Int.mul_assoc, Int.mul_comm c' c]
          omega
        have cs : c * c' ≠ 0 := Int.mul_ne_zero c0 c0'
        have hcn := cn_mk (f := (Pg.tri a b c).at' (a' - 1)) (s := c * c') (n := (n : Int)) cs (by omega)
        rw [e2, e3]
        -- the second one shows the step
        have m3 : a' + 1 * c' ∈ (Pg.tri a' b' c').sb := by
          unfold Pg.sb
          exact List.mem_map.mpr ⟨1, List.mem_range.mpr (by omega), rfl⟩
        have b1 := hf _ (at_mem (hin _ m1))
        have b3 := hf _ (at_mem (hin _ m3))
        have e5 : (Pg.tri a b c).at' (a' + 1 * c' - 1) = (Pg.tri a b c).at' (a' - 1) + c * c' := by
          show a + (a' + 1 * c' - 1) * c = a + (a' - 1) * c + c * c'
          have e : a' + 1 * c' - 1 = (a' - 1) + c' := by omega
          rw [e, Int.add_mul, Int.mul_comm c' c]
          omega
        rw [e5] at b3
        rw [e2, e3] at f2
        refine ⟨?_, hin, .tri f1 f2 (by unfold far; omega) cs, by rw [hcn]; omega⟩
        unfold Pg.sb
        rw [hcn, hn, List.map_map]
        refine List.map_congr_left fun k _ => ?_
        show (Pg.tri a b c).at' (a' - 1) + (k : Int) * (c * c') = a + (a' + (k : Int) * c' - 1) * c
        have e : a' + (k : Int) * c' - 1 = (a' - 1) + (k : Int) * c' := by omega
        rw [e, Int.add_mul, Int.mul_assoc, Int.mul_comm c' c]
        show a + (a' - 1) * c + _ = _
        omega
end
end DL

set_option maxHeartbeats 2000000
namespace DL
open PySem PySem.Spec PyProof.Rows L2
section
variable {w : Wl} {b : Nat} {bs : List (Int × Int)} {ps qs ms : List Pg} {p q : Pg}
theorem tot_le {c : Nat} : ∀ {ps : List Pg}, (∀ p ∈ ps, p.cn ≤ c) → tot ps ≤ ((c ^ ps.length : Nat) : Int)
  | [], _ => by simp [tot, prod]
  | q :: ps, h => by
    have ih := tot_le (c := c) (ps := ps) fun p hp => h p (List.mem_cons_of_mem _ hp)
    have hq := h q List.mem_cons_self
    show q.cn * tot ps ≤ _
    rw [List.length_cons, Nat.pow_succ, Nat.mul_comm, Int.natCast_mul]
    exact Int.mul_le_mul hq ih tot_nonneg (by omega)
theorem Nbm.bds {m z : Int} {bs : List (Int × Int)} (h : Nbm m z bs) (hm : m ≤ 7) (hz : z ≤ 20) : Bds bs := ⟨h.one, by have := h.few; omega, fun p hp => by
  have := h.dim p hp
  rw [inR_iff, inR_iff]
  simp only [FAR]
  omega⟩
theorem seven : ∀ {bs : List (Int × Int)} {ps : List Pg}, PartsIn bs ps → (∀ d ∈ bs, -100 ≤ d.1 ∧ d.1 ≤ 100 ∧ -100 ≤ d.2 ∧ d.2 ≤ d.1 + 6) → ∀ p ∈ ps, p.cn ≤ 7 ∧ ∀ x ∈ p.sb, -1000 ≤ x ∧ x ≤ 1000
  | [], [], _, _, p, hp => by cases hp
  | d :: ds, q :: qs, h, hd, p, hp => by
    rcases List.mem_cons.mp hp with rfl | hp
    · have h1 := h.1.few
      have h2 := hd d List.mem_cons_self
      refine ⟨by split at h1 <;> omega, fun x hx => ?_⟩
      rcases Int.lt_or_le d.2 d.1 with z | z
      · have h3 := h.1.non z
        have h4 := List.length_pos_of_mem hx
        have h5 := Pg.sb_len (p := p)
        omega
      · have h3 : d.1 ≤ x ∧ x ≤ d.2 := h.1.inn z x hx
        omega
    · exact seven h.2 (fun d hd' => hd d (List.mem_cons_of_mem _ hd')) p hp
theorem els_seven (h4 : ps.length ≤ 4) (h : ∀ p ∈ ps, p.cn ≤ 7) : ∀ k, (els (ps.drop k)).length ≤ 1000000 := fun k => by
  have h1 := tot_le (c := 7) (ps := ps.drop k) fun p hp => h p (List.mem_of_mem_drop hp)
  have h2 := els_len (ps.drop k)
  have h3 : 7 ^ (ps.drop k).length ≤ 7 ^ 4 := Nat.pow_le_pow_right (by decide) (by rw [List.length_drop]; omega)
  omega
theorem du_ok : ∀ {ps qs : List Pg}, (∀ p ∈ ps, Gq p ∧ ∀ x ∈ p.sb, -1000 ≤ x ∧ x ≤ 1000) → InnA (ibs (kps ps)) qs → (∀ q ∈ qs, Gq q ∧ q.cn ≤ 64 ∧ 0 < q.cn) → DuOk ps qs
  | [], qs, _, hi, _ => by
    cases qs with
    | nil => rfl
    | cons q qs => exact hi.elim
  | p :: ps, qs, hp, hi, hq => by
    cases hk : isK p with
    | false =>
      obtain ⟨a, rfl⟩ := num_of hk
      rw [ok_num]
      exact du_ok (fun x hx => hp x (List.mem_cons_of_mem _ hx)) hi hq
    | true =>
      rw [kps_cons hk] at hi
      cases qs with
      | nil => exact hi.elim
      | cons q qs =>
        have hi : Inn (1, p.cn) q ∧ InnA (ibs (kps ps)) qs := hi
        have h1 := hp p List.mem_cons_self
        have h2 := hq q List.mem_cons_self
        rw [ok_k hk]
        exact ⟨pd_ok h1.1 h2.1 hk hi.1 h1.2 h2.2.1 h2.2.2, du_ok (fun x hx => hp x (List.mem_cons_of_mem _ hx)) hi.2 fun x hx => hq x (List.mem_cons_of_mem _ hx)⟩
theorem du_gq : ∀ {ps qs : List Pg}, DuOk ps qs → (∀ p ∈ ps, Gq p) → (∀ q ∈ qs, q.cn ≤ 7) → (∀ d ∈ duL ps qs, Gq d ∧ d.cn ≤ 7) ∧ (duL ps qs).length = ps.length
  | [], qs, _, _, _ => by simp [duL]
  | p :: ps, qs, h, hp, hq => by
    cases hk : isK p with
    | false =>
      obtain ⟨a, rfl⟩ := num_of hk
      rw [ok_num] at h
      have ih := du_gq h (fun x hx => hp x (List.mem_cons_of_mem _ hx)) hq
      rw [du_num]
      refine ⟨fun d hd => ?_, by simp [ih.2]⟩
      rcases List.mem_cons.mp hd with rfl | hd
      · exact ⟨hp _ List.mem_cons_self, by show (1 : Int) ≤ 7; decide⟩
      · exact ih.1 d hd
    | true =>
      cases qs with
      | nil => exact absurd h (ok_nil hk)
      | cons q qs =>
        rw [ok_k hk] at h
        have ih := du_gq h.2 (fun x hx => hp x (List.mem_cons_of_mem _ hx)) fun x hx => hq x (List.mem_cons_of_mem _ hx)
        rw [du_k hk]
        refine ⟨fun d hd => ?_, by simp [ih.2]⟩
        rcases List.mem_cons.mp hd with rfl | hd
        · have l1 := Pg.sb_len (p := pd p q)
          have l2 := q.sb_len
          have := hq q List.mem_cons_self
          rw [h.1.1, List.length_map] at l1
          exact ⟨h.1.2.2.1, by omega⟩
        · exact ih.1 d hd
/-! equality of what is told with what is due -/
theorem pd_toDn (p : Pg) : toPD (toDn p) = toPD p.toD := by cases p <;> simp [toDn, Pg.toD, toPD]
theorem pds_toDn : ∀ ms : List Pg, toPDs (ms.map toDn) = toPDs (ms.map Pg.toD)
  | [] => rfl
  | m :: ms => by rw [List.map_cons, List.map_cons, toPDs, toPDs, pd_toDn, pds_toDn ms]
theorem lay_parts : ∀ ms : List Pg, PyData.canLayAll0 (toPDs (ms.map Pg.toD)) = true ∧ PyData.depthAll (toPDs (ms.map Pg.toD)) ≤ 1
  | [] => by simp [toPDs, PyData.canLayAll0, PyData.depthAll]
  | m :: ms => by
    have h1 := lay_parts ms
    have hm : (toPD m.toD).canLay0 = true ∧ (toPD m.toD).depth ≤ 1 := by
      cases m with
      | num a => simp [Pg.toD, toPD, PyData.canLay0, PyData.depth]
      | lst xs =>
        have h2 := lay_ints xs
        simp [Pg.toD, toPD, toPDs_ints, PyData.canLay0, PyData.depth, h2]
      | tri a b c =>
        have h2 := lay_ints [a, b, c]
        have e : toPD (Pg.tri a b c).toD = .tuple ([a, b, c].map PyData.int) := by simp [Pg.toD, toPD, toPDs]
        rw [e]
        simp only [PyData.canLay0, PyData.depth]
        exact ⟨h2.1, by rw [h2.2]; omega⟩
    rw [List.map_cons]
    simp only [toPDs, PyData.canLayAll0, PyData.depthAll, Bool.and_eq_true]
    exact ⟨⟨hm.1, h1.1⟩, by have := h1.2; have := hm.2; omega⟩
theorem okD_parts : okD (.lst (ms.map Pg.toD)) = true ∧ okD (.tup (ms.map Pg.toD)) = true ∧ okD (.tup (ms.map toDn)) = true := by
  have h := lay_parts ms
  have e := pds_toDn ms
  refine ⟨?_, ?_, ?_⟩
  · simp [okD, toPD, SeqAt.shaped, PyData.canLay0, PyData.depth, h.1]; omega
  · simp [okD, toPD, SeqAt.shaped, PyData.canLay0, PyData.depth, h.1]; omega
  · simp [okD, toPD, e, SeqAt.shaped, PyData.canLay0, PyData.depth, h.1]; omega
theorem eqv_part (m : Pg) : PyData.eqv (toPD m.toD) (toPD m.toD) = true := by
  cases m with
  | num a => simp [Pg.toD, toPD, PyData.eqv]
  | lst xs =>
    have := eqvAll_ints xs xs
    simp [Pg.toD, toPD, toPDs_ints, PyData.eqv, this]
  | tri a b c =>
    have := eqvAll_ints [a, b, c] [a, b, c]
    have e : toPD (Pg.tri a b c).toD = .tuple ([a, b, c].map PyData.int) := by simp [Pg.toD, toPD, toPDs]
    rw [e]
    simp only [PyData.eqv]
    rw [this]
    simp
theorem eqv_parts : ∀ ms : List Pg, PyData.eqvAll (toPDs (ms.map Pg.toD)) (toPDs (ms.map Pg.toD)) = true
  | [] => by simp [toPDs, PyData.eqvAll]
  | m :: ms => by
    rw [List.map_cons]
    simp only [toPDs, PyData.eqvAll, eqv_part, eqv_parts ms, Bool.and_true]
theorem eqD_told : eqD (.tup (ms.map toDn)) (secG ms) = true := by
  show PyData.eqv (.tuple (toPDs (ms.map toDn))) (.tuple (toPDs (ms.map Pg.toD))) = true
  rw [pds_toDn]
  have := eqv_parts ms
  simp only [PyData.eqv]
  exact this
theorem eqD_empty : eqD (.lst (ms.map Pg.toD)) (.lst []) = decide (ms = []) := by
  cases ms with
  | nil => rfl
  | cons m r =>
    show PyData.eqv (.list (toPDs ((m :: r).map Pg.toD))) (.list []) = _
    simp [toPDs, PyData.eqv, PyData.eqvAll]
/-! what is told may be changed -/
theorem part_free (m : Pg) : nlFree m.toD = true := by
  cases m with
  | num a => rfl
  | lst xs =>
    show nlFrees (xs.map .int) = true
    induction xs with
    | nil => rfl
    | cons x r ih => simpa [nlFrees, nlFree] using ih
  | tri a b c => rfl
theorem parts_free : ∀ ms : List Pg, nlFrees (ms.map Pg.toD) = true
  | [] => rfl
  | m :: ms => by rw [List.map_cons, nlFrees, part_free, parts_free ms]; rfl
theorem bds_free : ∀ bs : List (Int × Int), nlFrees (bs.map pD) = true
  | [] => rfl
  | d :: bs => by rw [List.map_cons, nlFrees, bds_free bs]; rfl
theorem told_ok (h : ∀ m ∈ ms, Gq m) : (ms.map toDn).all nlPart = true := by
  rw [List.all_eq_true]
  intro d hd
  obtain ⟨m, hm, rfl⟩ := List.mem_map.mp hd
  cases m with
  | num a => rfl
  | lst xs =>
    have := h _ hm
    cases this with
    | lst hl _ => simp [toDn, nlPart]; omega
  | tri a b c => rfl
theorem okS_seg {i j : Nat} {E : DE} {T : DT} {R : DS} {s : Sl} {w w1 w2 : Wl} {ds : List D} {N : Sl → Wl → Prop} {Z : D → Wl → Prop} (h1 : s.all nlFreeO = true) (h2 : i ≠ j) (h3 : i < s.length) (h4 : j < s.length) (hE : E s w = .ok (.tup ds) w1) (h5 : ds.all nlPart = true) (h6 : ds.length ≤ 1000)
    (hT : T (s.set i (some (.tup ds))) w1 = .ok false w2) (z : okS (R ((s.set i none).set j none) w2) N Z) : okS (sSeg i j E T R s w) N Z := by
  unfold sSeg
  rw [if_pos ⟨h1, h2, h3, h4⟩, hE]
  dsimp only
  rw [if_pos ⟨h5, h6⟩, hT]
  exact z
end
end DL

set_option maxHeartbeats 2000000
namespace DL
open PySem PySem.Spec PyProof.Rows L2
theorem mem_fill : ∀ {ps ms : List Pg} {m : Pg}, m ∈ fillL ps ms → m ∈ ps ∨ m ∈ ms
  | [], _, m, h => by simp [fillL] at h
  | p :: ps, ms, m, h => by
    cases hk : isK p with
    | false =>
      obtain ⟨a, rfl⟩ := num_of hk
      rw [fill_num] at h
      rcases List.mem_cons.mp h with rfl | h
      · exact .inl List.mem_cons_self
      · rcases mem_fill h with z | z
        · exact .inl (List.mem_cons_of_mem _ z)
        · exact .inr z
    | true =>
      cases ms with
      | nil => cases p with
        | num a => cases hk
        | lst xs => simp [fillL] at h
        | tri a b c => simp [fillL] at h
      | cons m' ms =>
        rw [fill_k hk] at h
        rcases List.mem_cons.mp h with rfl | h
        · exact .inr List.mem_cons_self
        · rcases mem_fill h with z | z
          · exact .inl (List.mem_cons_of_mem _ z)
          · exact .inr (List.mem_cons_of_mem _ z)
theorem fill_len : ∀ {ps ms : List Pg}, (fillL ps ms).length ≤ ps.length
  | [], _ => by simp [fillL]
  | p :: ps, ms => by
    cases hk : isK p with
    | false =>
      obtain ⟨a, rfl⟩ := num_of hk
      rw [fill_num]
      have := fill_len (ps := ps) (ms := ms)
      simp only [List.length_cons]
      omega
    | true =>
      cases ms with
      | nil => cases p with
        | num a => cases hk
        | lst xs => simp [fillL]
        | tri a b c => simp [fillL]
      | cons m' ms =>
        rw [fill_k hk]
        have := fill_len (ps := ps) (ms := ms)
        simp only [List.length_cons]
        omega
theorem if_lt' {w : Wl} {p : Pg} : fIsi w [p.toD, .tup [.ty "list", .ty "tuple"]] = some (.bl (isK p)) := if_lt
/-- all that the law asks of a section and one of its sections -/
structure Two (bs : List (Int × Int)) (ps qs : List Pg) : Prop where
  hb : Bds bs
  s1 : Sec bs ps
  ne : kps ps ≠ []
  s2 : Sec (ibs (kps ps)) qs
  f1 : ∀ p ∈ ps, p.cn ≤ 7 ∧ ∀ x ∈ p.sb, -1000 ≤ x ∧ x ≤ 1000
  f2 : ∀ q ∈ qs, q.cn ≤ 7
  l4 : ps.length ≤ 4
section
variable {w : Wl} {b : Nat} {bs : List (Int × Int)} {ps qs ms : List Pg} {p q : Pg}
theorem Two.ql (T : Two bs ps qs) : qs.length = (kps ps).length := by have := T.s2.len; rwa [ibs_len] at this
theorem Two.kl (T : Two bs ps qs) : (kps ps).length ≤ 4 := Nat.le_trans (List.length_filter_le _ _) T.l4
theorem Two.comp (T : Two bs ps qs) (w : Wl) : F_composed [bD bs, secG ps, secG qs] w = .ok (.tup ((fillL ps (mks (kps ps) qs)).map toDn)) w :=
  e_composed T.hb T.s1 T.ne T.s2 (fun p hp => by have := (T.f1 p hp).1; omega) fun q hq => by have := T.f2 q hq; omega
theorem Two.due (T : Two bs ps qs) (w : Wl) : F_w_due [secG ps, secG qs] w = .ok (secG (fillL ps (mks (kps ps) qs))) w :=
  e_w_due (by have := T.l4; omega) T.ql T.s2.ok fun x hx ht w => by
    have hm := List.of_mem_zip hx
    exact e_part_due (T.s1.ok _ (kps_k hm.1).1) (T.s2.ok _ hm.2) (kps_k hm.1).2 (zip_inn (T.s2.inn ht) x hx) (by have := (T.f1 _ (kps_k hm.1).1).1; omega) (by have := T.f2 _ hm.2; omega) (tot_ne ht _ hm.2)
theorem Two.ok (T : Two bs ps qs) (ht : tot qs ≠ 0) : DuOk ps qs := du_ok (fun p hp => ⟨T.s1.ok p hp, (T.f1 p hp).2⟩) (T.s2.inn ht) fun q hq => ⟨T.s2.ok q hq, by have := T.f2 q hq; omega, tot_ne ht q hq⟩
theorem Two.gq (T : Two bs ps qs) : ∀ m ∈ fillL ps (mks (kps ps) qs), Gq m := fun m hm => by
  by_cases ht : tot qs = 0
  · unfold mks at hm
    rw [if_pos ht] at hm
    rcases mem_fill hm with z | z
    · exact T.s1.ok m z
    · exact T.s2.ok m z
  · unfold mks at hm
    rw [if_neg ht, fill_du] at hm
    exact ((du_gq (T.ok ht) T.s1.ok T.f2).1 m hm).1
theorem anyE {L : List Pg} : (∃ x, x ∈ L.map (fun q => D.int q.cn) ∧ eqD x (.int 0) = true) ↔ tot L = 0 := by
  have h := any0 (qs := L)
  rw [Bool.eq_iff_iff, List.any_eq_true, decide_eq_true_eq] at h
  exact h
/-- the end of the law's turn -/
def tailB : DS := (sSeq (sIf (tE (eBin fNe (eCall 3 F_composed (aCons (eVar 1) (aCons (eVar 2) (aCons (eVar 6) aNil)))) (eVar 7))) (sRet (eC (.bl false))) sNx) (sSeq (sIf (tE (eBin fNe (eCallK 3 0 3 [2, 1, 0] F_composed aNil (aCons (eVar 6) (aCons (eVar 2) (aCons (eVar 1) aNil)))) (eVar 7))) (sRet (eC (.bl false))) sNx) (sSeq (sIf (tOn (tE (eBin fIn (eC (.int 0)) (eL (aLc (iSeq (eVar 6)) (gN 3) tYesD (eCall 1 F_w_many (aCons (eVar 3) aNil)) [3])))) (tE (eBin fIn (eC (.int 0)) (eL (aLc (iSeq (eVar 2)) (gN 3) tYesD (eCall 1 F_w_many (aCons (eVar 3) aNil)) [3]))))) (sRet (eC (.bl true))) sNx) (sSeq (sAsg 9 (eCall 1 F_w_elements (aCons (eVar 2) aNil))) (sRet (eBin fEq (eL (aLc (iSeq (eCall 1 F_w_elements (aCons (eVar 6) aNil))) (gN 10) tYesD (eBin fIx (eVar 9) (eCall 2 F_w_place (aCons (eVar 5) (aCons (eVar 10) aNil)))) [10])) (eCall 1 F_w_elements (aCons (eVar 7) aNil))))))))
theorem tail_ok (T : Two bs ps qs) {t4 : Option D} {N : Sl → Wl → Prop} {Z : D → Wl → Prop} (z : Z (.bl true) w) :
    okS (tailB [some .well, some (bD bs), some (secG ps), none, t4, some (bD (ibs (kps ps))), some (secG qs), some (secG (fillL ps (mks (kps ps) qs))), none, none, none] w) N Z := by
  have hlim : lim = 16000000 := rfl
  have hc := T.comp w
  have l4 := T.l4
  have ql := T.ql
  have kl := T.kl
  have hnl := okD_parts (ms := fillL ps (mks (kps ps) qs))
  have heq := eqD_told (ms := fillL ps (mks (kps ps) qs))
  have hsd : okD (secG (fillL ps (mks (kps ps) qs))) = true := hnl.2.1
  have g1 : ∀ (x : Option D) (s : Sl), getS (x :: some (bD bs) :: s) 1 = some (bD bs) := fun x s => rfl
  have g2 : ∀ (x y : Option D) (s : Sl), getS (x :: y :: some (secG ps) :: s) 2 = some (secG ps) := fun x y s => rfl
  have g5 : ∀ (a b c d e : Option D) (s : Sl), getS (a :: b :: c :: d :: e :: some (bD (ibs (kps ps))) :: s) 5 = some (bD (ibs (kps ps))) := fun a b c d e s => rfl
  have g6 : ∀ (a b c d e f : Option D) (s : Sl), getS (a :: b :: c :: d :: e :: f :: some (secG qs) :: s) 6 = some (secG qs) := fun a b c d e f s => rfl
  generalize hF : fillL ps (mks (kps ps) qs) = Fl at *
  have g7 : ∀ (a b c d e f g : Option D) (s : Sl), getS (a :: b :: c :: d :: e :: f :: g :: some (secG Fl) :: s) 7 = some (secG Fl) := fun a b c d e f g s => rfl
  unfold tailB
  refine okS_then (fun s1 w1 => w1 = w ∧ s1 = [some .well, some (bD bs), some (secG ps), none, t4, some (bD (ibs (kps ps))), some (secG qs), some (secG Fl), none, none, none]) ?_ ?_
  · simp -implicitDefEqProofs [g1, g2, g6, g7, hc, hnl.2.2, hsd, heq]
  rintro _ w1 ⟨rfl, rfl⟩
  refine okS_then (fun s1 w2 => w2 = w1 ∧ s1 = [some .well, some (bD bs), some (secG ps), none, t4, some (bD (ibs (kps ps))), some (secG qs), some (secG Fl), none, none, none]) ?_ ?_
  · have hpm : permute [2, 1, 0] [secG qs, secG ps, bD bs] = [bD bs, secG ps, secG qs] := rfl
    simp -implicitDefEqProofs [g1, g2, g6, g7, hc, hnl.2.2, hsd, heq, hpm]
  rintro _ w2 ⟨rfl, rfl⟩
  have hm1 : okE (lcD (gN 3) tYesD (eCall 1 F_w_many (aCons (eVar 3) aNil)) (qs.map Pg.toD) [some .well, some (bD bs), some (secG ps), none, t4, some (bD (ibs (kps ps))), some (secG qs), some (secG Fl), none, none, none] w2) fun x w' => x = qs.map (fun q => D.int q.cn) ∧ w' = w2 := by
    refine okE_lcall3 Pg.toD (fun q => .int q.cn) rfl (fun q hq => ?_) ⟨rfl, rfl⟩
    have := e_w_many (w := w2) (T.s2.ok q hq)
    simp -implicitDefEqProofs [wipeS, this]
  have hm2 : okE (lcD (gN 3) tYesD (eCall 1 F_w_many (aCons (eVar 3) aNil)) (ps.map Pg.toD) [some .well, some (bD bs), some (secG ps), none, t4, some (bD (ibs (kps ps))), some (secG qs), some (secG Fl), none, none, none] w2) fun x w' => x = ps.map (fun q => D.int q.cn) ∧ w' = w2 := by
    refine okE_lcall3 Pg.toD (fun q => .int q.cn) rfl (fun q hq => ?_) ⟨rfl, rfl⟩
    have := e_w_many (w := w2) (T.s1.ok q hq)
    simp -implicitDefEqProofs [wipeS, this]
  have k1 : ∀ L : List Pg, okD (.lst (L.map fun q => D.int q.cn)) = true := fun L => by
    have := okD_lints (xs := L.map Pg.cn)
    rw [List.map_map] at this
    exact this
  have a1 := any0 (qs := qs)
  have a2 := any0 (qs := ps)
  rw [List.any_map] at a1 a2
  by_cases ht : tot qs = 0
  · rw [okS_seq]
    simp -implicitDefEqProofs [g6]
    refine ⟨by omega, okE_mono hm1 ?_⟩
    rintro x w3 ⟨rfl, rfl⟩
    refine ⟨k1 _, ?_⟩
    rw [if_pos (anyE.mpr ht)]
    exact z
  have nt : ¬ ∃ x, x ∈ qs.map (fun q => D.int q.cn) ∧ eqD x (.int 0) = true := fun h => ht (anyE.mp h)
  by_cases ht2 : tot ps = 0
  · rw [okS_seq]
    simp -implicitDefEqProofs [g6, g2]
    refine ⟨by omega, okE_mono hm1 ?_⟩
    rintro x w3 ⟨rfl, rfl⟩
    refine ⟨k1 _, ?_⟩
    rw [if_neg nt]
    refine ⟨by omega, okE_mono hm2 ?_⟩
    rintro x w4 ⟨rfl, rfl⟩
    refine ⟨k1 _, ?_⟩
    rw [if_pos (anyE.mpr ht2)]
    exact z
  have nt2 : ¬ ∃ x, x ∈ ps.map (fun q => D.int q.cn) ∧ eqD x (.int 0) = true := fun h => ht2 (anyE.mp h)
  refine okS_then (fun s1 w1 => w1 = w2 ∧ s1 = [some .well, some (bD bs), some (secG ps), none, t4, some (bD (ibs (kps ps))), some (secG qs), some (secG Fl), none, none, none]) ?_ ?_
  · simp -implicitDefEqProofs [g6, g2]
    refine ⟨by omega, okE_mono hm1 ?_⟩
    rintro x w3 ⟨rfl, rfl⟩
    refine ⟨k1 _, ?_⟩
    rw [if_neg nt]
    refine ⟨by omega, okE_mono hm2 ?_⟩
    rintro x w4 ⟨rfl, rfl⟩
    refine ⟨k1 _, ?_⟩
    rw [if_neg nt2]
  rintro _ w1 ⟨rfl, rfl⟩
  have D0 := T.ok ht
  have hFl : Fl = duL ps qs := by rw [← hF]; unfold mks; rw [if_neg ht, fill_du]
  have dg := du_gq D0 T.s1.ok T.f2
  rw [← hFl] at dg
  have x1 := e_w_elements (w := w1) (ps := ps) (by omega) (fun p hp => ⟨T.s1.ok p hp, by have := (T.f1 p hp).1; omega⟩) (els_seven l4 fun p hp => (T.f1 p hp).1)
  have x2 := e_w_elements (w := w1) (ps := qs) (by omega) (fun p hp => ⟨T.s2.ok p hp, by have := T.f2 p hp; omega⟩) (els_seven (by omega) T.f2)
  have x3 := e_w_elements (w := w1) (ps := Fl) (by omega) (fun p hp => ⟨(dg.1 p hp).1, by have := (dg.1 p hp).2; omega⟩) (els_seven (by omega) fun p hp => (dg.1 p hp).2)
  have hw : Bw (ibs (kps ps)) := ⟨by rw [ibs_len]; omega, fun d hd => by
    unfold ibs at hd
    obtain ⟨p, hp, rfl⟩ := List.mem_map.mp hd
    have h1 := (T.f1 p (kps_k hp).1).1
    have h2 := p.cn_nonneg
    dsimp only
    omega⟩
  have hrows : (els qs).map (rowOf ps) = els Fl := by rw [hFl]; exact els_rows D0
  have hq7 : (els qs).length ≤ 1000000 := by have := els_seven (ps := qs) (by omega) T.f2 0; rwa [List.drop_zero] at this
  simp -implicitDefEqProofs [g2, g5, g6, g7, x1, x2]
  have g10 : ∀ (r : List Int) (a b c d e f g h i j : Option D), getS [a, b, c, d, e, f, g, h, i, j, some (eD r)] 10 = some (eD r) := fun r a b c d e f g h i j => rfl
  have g5' : ∀ (r : D) (a b c d e f g h i : Option D), getS [a, b, c, d, e, some (bD (ibs (kps ps))), f, g, h, i, some r] 5 = some (bD (ibs (kps ps))) := fun r a b c d e f g h i => rfl
  have g9 : ∀ (r : D) (a b c d e f g h i : Option D), getS [a, b, c, d, e, f, g, h, i, some (rowsD (els ps)), some r] 9 = some (rowsD (els ps)) := fun r a b c d e f g h i => rfl
  refine ⟨by omega, okE_lcall3 (γ := List Int) eD (fun r => eD (rowOf ps r)) rfl (fun r hr => ?_) ?_⟩
  · obtain ⟨k, h1, h2⟩ := row_at D0 hr
    have hp := e_w_place (w := w1) hw (els_el (T.s2.inn ht) hr)
    rw [h1] at hp
    have hi : ∀ w, fIx w (rowsD (els ps)) (.int (k : Nat)) = some (eD (rowOf ps r)) := fun w => atI_at (by rw [List.getElem?_map, h2]; rfl)
    simp -implicitDefEqProofs [g10, g5', g9, hp, hi]
  · have e : D.lst ((els qs).map fun r => eD (rowOf ps r)) = rowsD (els Fl) := by
      rw [← hrows]
      show _ = D.lst (((els qs).map (rowOf ps)).map eD)
      rw [List.map_map]
      rfl
    rw [e]
    simp -implicitDefEqProofs [x3, okD_rows, eqD_rows]
    exact z
end

theorem e_right {b : Nat} {w : Wl} (hb : b < 1000000) (hw : Lap b w) : okE (F_w_right [.well] w) fun d w' => d = .bl true ∧ Lap (b + 1000) w' := by
  have hlim : lim = 16000000 := rfl
  unfold F_w_right
  rw [okE_run]
  refine ⟨rfl, ?_⟩
  show okS (B_w_right [some .well, none, none, none, none, none, none, none, none, none, none] w) _ _
  unfold B_w_right
  refine okS_to (fun s1 w1 => Lap (b + 100) w1 ∧ ∃ bs, Nbm 4 6 bs ∧ s1 = [some .well, some (bD bs), none, none, none, none, none, none, none, none, none]) (fun M' hM => ?_) ?_
  · simp -implicitDefEqProofs
    refine okE_mono (e_bounds (m := 4) (z := 6) (by decide) (by decide) (by omega) hw) ?_
    rintro d w1 ⟨bs, rfl, hN, l1⟩
    exact hM _ _ ⟨l1, bs, hN, rfl⟩
  rintro s1 w1 ⟨l1, bs, hN, rfl⟩
  refine okS_to (fun s1 w2 => Lap (b + 184) w2 ∧ ∃ ps, PartsIn bs ps ∧ s1 = [some .well, some (bD bs), some (secG ps), none, none, none, none, none, none, none, none]) (fun M' hM => ?_) ?_
  · have g1 : ∀ (x : Option D) (s : Sl), getS (x :: some (bD bs) :: s) 1 = some (bD bs) := fun x s => rfl
    simp -implicitDefEqProofs [g1]
    refine okE_mono (e_w_section hN (by decide) (by decide) (by omega) l1) ?_
    rintro d w2 ⟨ps, rfl, hP, l2⟩
    exact hM _ _ ⟨lap_le l2 (by omega), ps, hP, rfl⟩
  rintro s1 w2 ⟨l2, ps, hP, rfl⟩
  have hpl := hP.len
  have hfew := hN.few
  have f1 := seven hP fun d hd => hN.dim d hd
  have hkl : (kps ps).length ≤ ps.length := List.length_filter_le _ _
  have g2 : ∀ (x y : Option D) (s : Sl), getS (x :: y :: some (secG ps) :: s) 2 = some (secG ps) := fun x y s => rfl
  have hl2 : (2 : Nat) ≤ lim := by decide
  refine okS_to (fun s1 w1 => w1 = w2 ∧ s1 = [some .well, some (bD bs), some (secG ps), none, some (.lst ((kps ps).map Pg.toD)), none, none, none, none, none, none]) (fun M' hM => ?_) ?_
  · simp -implicitDefEqProofs [g2]
    refine ⟨by omega, okE_lcf (xs := ps) Pg.toD Pg.toD isK rfl (fun p hp => ?_) (hM _ _ ⟨rfl, rfl⟩)⟩
    have hT := if_lt (w := w2) (p := p)
    simp -implicitDefEqProofs [wipeS, hT, hl2]
  rintro s1 w3 ⟨rfl, rfl⟩
  by_cases hne : kps ps = []
  · rw [okS_seq]
    simp -implicitDefEqProofs [hne, okD_lints (xs := [])]
    have e0 : eqD (.lst []) (.lst []) = true := rfl
    refine ⟨okD_lints (xs := []), ?_⟩
    rw [if_pos e0]
    exact lap_le l2 (by omega)
  refine okS_to (fun s1 w1 => w1 = w3 ∧ s1 = [some .well, some (bD bs), some (secG ps), none, some (.lst ((kps ps).map Pg.toD)), none, none, none, none, none, none]) (fun M' hM => ?_) ?_
  · have e1 := eqD_empty (ms := kps ps)
    have e2 := (okD_parts (ms := kps ps)).1
    have e3 : okD (.lst []) = true := okD_lints (xs := [])
    simp -implicitDefEqProofs [e1, e2, e3, hne]
    exact hM _ _ ⟨rfl, rfl⟩
  rintro s1 w4 ⟨rfl, rfl⟩
  refine okS_to (fun s1 w1 => w1 = w4 ∧ s1 = [some .well, some (bD bs), some (secG ps), none, some (.lst ((kps ps).map Pg.toD)), some (bD (ibs (kps ps))), none, none, none, none, none]) (fun M' hM => ?_) ?_
  · simp -implicitDefEqProofs
    refine ⟨by omega, okE_lcall3 Pg.toD (fun p => .tup [.int 1, .int p.cn]) rfl (fun p hp => ?_) ?_⟩
    · have := e_w_many (w := w4) (hP.ok p (kps_k hp).1)
      simp -implicitDefEqProofs [wipeS, this, hl2]
    · refine hM _ _ ⟨rfl, ?_⟩
      have eb : (ibs (kps ps)).map pD = (kps ps).map fun p => D.tup [.int 1, .int p.cn] := by unfold ibs; rw [List.map_map]; rfl
      show _ = [some D.well, some (bD bs), some (secG ps), none, some (.lst ((kps ps).map Pg.toD)), some (.tup ((ibs (kps ps)).map pD)), none, none, none, none, none]
      rw [eb]
  rintro s1 w5 ⟨rfl, rfl⟩
  have hk0 : 0 < (kps ps).length := by
    rcases Nat.eq_zero_or_pos (kps ps).length with z | z
    · exact absurd (List.eq_nil_of_length_eq_zero z) hne
    · exact z
  have hdim : ∀ d ∈ ibs (kps ps), -100 ≤ d.1 ∧ d.1 ≤ 100 ∧ -100 ≤ d.2 ∧ d.2 ≤ d.1 + 6 := fun d hd => by
    unfold ibs at hd
    obtain ⟨p, hp, rfl⟩ := List.mem_map.mp hd
    have h1 := (f1 p (kps_k hp).1).1
    have h2 := p.cn_nonneg
    dsimp only
    omega
  have hNi : Nbm 4 6 (ibs (kps ps)) := ⟨by rw [ibs_len]; omega, by rw [ibs_len]; omega, hdim⟩
  refine okS_to (fun s1 w1 => Lap (b + 268) w1 ∧ ∃ qs, PartsIn (ibs (kps ps)) qs ∧ s1 = [some .well, some (bD bs), some (secG ps), none, some (.lst ((kps ps).map Pg.toD)), some (bD (ibs (kps ps))), some (secG qs), none, none, none, none]) (fun M' hM => ?_) ?_
  · have g5 : ∀ (a b c d e : Option D) (s : Sl), getS (a :: b :: c :: d :: e :: some (bD (ibs (kps ps))) :: s) 5 = some (bD (ibs (kps ps))) := fun a b c d e s => rfl
    simp -implicitDefEqProofs [g5]
    refine okE_mono (e_w_section hNi (by decide) (by decide) (by omega) l2) ?_
    rintro d w6 ⟨qs, rfl, hQ, l6⟩
    exact hM _ _ ⟨lap_le l6 (by omega), qs, hQ, rfl⟩
  rintro s1 w6 ⟨l6, qs, hQ, rfl⟩
  have T : Two bs ps qs := ⟨hN.bds (by decide) (by decide), hP.sec (by omega), hne, hQ.sec (by rw [ibs_len]; omega), f1, fun q hq => (seven hQ hdim q hq).1, by omega⟩
  have g6 : ∀ (a b c d e f : Option D) (s : Sl), getS (a :: b :: c :: d :: e :: f :: some (secG qs) :: s) 6 = some (secG qs) := fun a b c d e f s => rfl
  have g1 : ∀ (x : Option D) (s : Sl), getS (x :: some (bD bs) :: s) 1 = some (bD bs) := fun x s => rfl
  refine okS_to (fun s1 w1 => w1 = w6 ∧ s1 = [some .well, some (bD bs), some (secG ps), none, some (.lst ((kps ps).map Pg.toD)), some (bD (ibs (kps ps))), some (secG qs), some (secG (fillL ps (mks (kps ps) qs))), none, none, none]) (fun M' hM => ?_) ?_
  · simp -implicitDefEqProofs [g2, g6, T.due w6]
    exact hM _ _ ⟨rfl, rfl⟩
  rintro s1 w7 ⟨rfl, rfl⟩
  have hfl : (fillL ps (mks (kps ps) qs)).length ≤ ps.length := fill_len
  have hnl := okD_parts (ms := fillL ps (mks (kps ps) qs))
  have heq := eqD_told (ms := fillL ps (mks (kps ps) qs))
  have hsd : okD (secG (fillL ps (mks (kps ps) qs))) = true := hnl.2.1
  have htold := told_ok T.gq
  have hc := T.comp w7
  have htail : okS (tailB [some .well, some (bD bs), some (secG ps), none, some (.lst ((kps ps).map Pg.toD)), some (bD (ibs (kps ps))), some (secG qs), some (secG (fillL ps (mks (kps ps) qs))), none, none, none] w7) (fun _ w1 => D.non = .bl true ∧ Lap (b + 1000) w1) (fun d w' => d = .bl true ∧ Lap (b + 1000) w') := tail_ok T ⟨rfl, lap_le l6 (by omega)⟩
  have p1 := parts_free ps
  have p2 := parts_free qs
  have p3 := parts_free (kps ps)
  have p4 := parts_free (fillL ps (mks (kps ps) qs))
  generalize hF : fillL ps (mks (kps ps) qs) = Fl at *
  have g7 : ∀ (a b c d e f g : Option D) (s : Sl), getS (a :: b :: c :: d :: e :: f :: g :: some (secG Fl) :: s) 7 = some (secG Fl) := fun a b c d e f g s => rfl
  refine okS_seg (ds := Fl.map toDn) (w1 := w7) (w2 := w7) ?_ (by decide) (by simp) (by simp) ?_ htold (by rw [List.length_map]; omega) ?_ htail
  · simp only [List.all_cons, List.all_nil, nlFreeO, Bool.and_true, Bool.and_eq_true]
    exact ⟨rfl, bds_free bs, p1, trivial, p3, bds_free _, p2, p4⟩
  · apply okE_eq
    simp -implicitDefEqProofs [g1, g2, g6, hc]
  · apply okE_eq
    simp -implicitDefEqProofs [g7, hnl.2.2, hsd, heq]
theorem right_ok (b : Nat) (w : Wl) (hb : b < 1000000) (hw : Lap b w) : ∃ w', F_w_right [.well] w = .ok (.bl true) w' ∧ Lap (b + 1000) w' := by
  obtain ⟨d, w', e, rfl, l⟩ := okE_ex (e_right hb hw)
  exact ⟨w', e, l⟩
end DL

set_option maxHeartbeats 2000000
namespace DL
open PySem PySem.Spec PyProof.Rows L2
open Evl (Ex)

/-! ### what the top has written; the law's own head -/
theorem all_mk {l : PySem.W.OpenLaw} {w : World} {K : PySem.W.Frag} {h : Heap} {mg : Str → Option Value} {fa f0 f1 f2 f3 f4 f5 f6 f7 f8 f9 f10 f11 f12 f13 f14 f15 f16 f17 f18 f19 f20 f21 f22 f23 f24 f25 f26 f27 f28 f29 f30 f31 f32 f33 f34 : Addr} (X : K.In h) (G : h.Ns mainGlobals mg) (hfa : mg "law" = some (.ref fa))
    {od0 an0 od1 an1 od2 an2 od3 an3 od4 an4 od5 an5 od6 an6 od7 an7 od8 an8 od9 an9 od10 an10 od11 an11 od12 an12 od13 an13 od14 an14 od15 an15 od16 an16 od17 an17 od18 an18 od19 an19 od20 an20 od21 an21 od22 an22 od23 an23 od24 an24 od25 an25 od26 an26 od27 an27 od28 an28 od29 an29 od30 an30 od31 an31 od32 an32 od33 an33 od34 an34 : Option Addr} {sl0 sl1 sl2 sl3 sl4 sl5 sl6 sl7 sl8 sl9 sl10 sl11 sl12 sl13 sl14 sl15 sl16 sl17 sl18 sl19 sl20 sl21 sl22 sl23 sl24 sl25 sl26 sl27 sl28 sl29 sl30 sl31 sl32 sl33 sl34 : Array (Option Value)} {oc0 kV0 dc0 pm0 cd0 ct0 oc1 kV1 dc1 pm1 cd1 ct1 oc2 kV2 dc2 pm2 cd2 ct2 oc3 kV3 dc3 pm3 cd3 ct3 oc4 kV4 dc4 pm4 cd4 ct4 oc5 kV5 dc5 pm5 cd5 ct5 oc6 kV6 dc6 pm6 cd6 ct6 oc7 kV7 dc7 pm7 cd7 ct7 oc8 kV8 dc8 pm8 cd8 ct8 oc9 kV9 dc9 pm9 cd9 ct9 oc10 kV10 dc10 pm10 cd10 ct10 oc11 kV11 dc11 pm11 cd11 ct11 oc12 kV12 dc12 pm12 cd12 ct12 oc13 kV13 dc13 pm13 cd13 ct13 oc14 kV14 dc14 pm14 cd14 ct14 oc15 kV15 dc15 pm15 cd15 ct15 oc16 kV16 dc16 pm16 cd16 ct16 oc17 kV17 dc17 pm17 cd17 ct17 oc18 kV18 dc18 pm18 cd18 ct18 oc19 kV19 dc19 pm19 cd19 ct19 oc20 kV20 dc20 pm20 cd20 ct20 oc21 kV21 dc21 pm21 cd21 ct21 oc22 kV22 dc22 pm22 cd22 ct22 oc23 kV23 dc23 pm23 cd23 ct23 oc24 kV24 dc24 pm24 cd24 ct24 oc25 kV25 dc25 pm25 cd25 ct25 oc26 kV26 dc26 pm26 cd26 ct26 oc27 kV27 dc27 pm27 cd27 ct27 oc28 kV28 dc28 pm28 cd28 ct28 oc29 kV29 dc29 pm29 cd29 ct29 oc30 kV30 dc30 pm30 cd30 ct30 oc31 kV31 dc31 pm31 cd31 ct31 oc32 kV32 dc32 pm32 cd32 ct32 oc33 kV33 dc33 pm33 cd33 ct33 oc34 kV34 dc34 pm34 cd34 ct34 : Value} {t_FAR t_LIST_LIMIT t_FARTHEST t_DIMENSIONS : Tok}
    (a0 : PySem.W.nsIn K mainGlobals "is_number" = some (some (.ref f0)))
    (l0 : K.lookup f0 = some ⟨oc0, od0, .func (PySem.W.fnOf "is_number" "is_number" (defArgs s_is_number) (defBody s_is_number) (defScope s_is_number) .none kV0 dc0 pm0 an0 cd0 ct0), sl0⟩)
    (c0 : PySem.W.codeIn K cd0 "is_number" = true)
    (k0 : PySem.W.keepIn K (.ref f0) = true)
    (a1 : PySem.W.nsIn K mainGlobals "is_far" = some (some (.ref f1)))
    (l1 : K.lookup f1 = some ⟨oc1, od1, .func (PySem.W.fnOf "is_far" "is_far" (defArgs s_is_far) (defBody s_is_far) (defScope s_is_far) .none kV1 dc1 pm1 an1 cd1 ct1), sl1⟩)
    (c1 : PySem.W.codeIn K cd1 "is_far" = true)
    (k1 : PySem.W.keepIn K (.ref f1) = true)
    (a2 : PySem.W.nsIn K mainGlobals "is_triplet" = some (some (.ref f2)))
    (l2 : K.lookup f2 = some ⟨oc2, od2, .func (PySem.W.fnOf "is_triplet" "is_triplet" (defArgs s_is_triplet) (defBody s_is_triplet) (defScope s_is_triplet) .none kV2 dc2 pm2 an2 cd2 ct2), sl2⟩)
    (c2 : PySem.W.codeIn K cd2 "is_triplet" = true)
    (k2 : PySem.W.keepIn K (.ref f2) = true)
    (a3 : PySem.W.nsIn K mainGlobals "is_part" = some (some (.ref f3)))
    (l3 : K.lookup f3 = some ⟨oc3, od3, .func (PySem.W.fnOf "is_part" "is_part" (defArgs s_is_part) (defBody s_is_part) (defScope s_is_part) .none kV3 dc3 pm3 an3 cd3 ct3), sl3⟩)
    (c3 : PySem.W.codeIn K cd3 "is_part" = true)
    (k3 : PySem.W.keepIn K (.ref f3) = true)
    (a4 : PySem.W.nsIn K mainGlobals "is_kept" = some (some (.ref f4)))
    (l4 : K.lookup f4 = some ⟨oc4, od4, .func (PySem.W.fnOf "is_kept" "is_kept" (defArgs s_is_kept) (defBody s_is_kept) (defScope s_is_kept) .none kV4 dc4 pm4 an4 cd4 ct4), sl4⟩)
    (c4 : PySem.W.codeIn K cd4 "is_kept" = true)
    (k4 : PySem.W.keepIn K (.ref f4) = true)
    (a5 : PySem.W.nsIn K mainGlobals "many_of" = some (some (.ref f5)))
    (l5 : K.lookup f5 = some ⟨oc5, od5, .func (PySem.W.fnOf "many_of" "many_of" (defArgs s_many_of) (defBody s_many_of) (defScope s_many_of) .none kV5 dc5 pm5 an5 cd5 ct5), sl5⟩)
    (c5 : PySem.W.codeIn K cd5 "many_of" = true)
    (k5 : PySem.W.keepIn K (.ref f5) = true)
    (a6 : PySem.W.nsIn K mainGlobals "subscript_of" = some (some (.ref f6)))
    (l6 : K.lookup f6 = some ⟨oc6, od6, .func (PySem.W.fnOf "subscript_of" "subscript_of" (defArgs s_subscript_of) (defBody s_subscript_of) (defScope s_subscript_of) .none kV6 dc6 pm6 an6 cd6 ct6), sl6⟩)
    (c6 : PySem.W.codeIn K cd6 "subscript_of" = true)
    (k6 : PySem.W.keepIn K (.ref f6) = true)
    (a7 : PySem.W.nsIn K mainGlobals "last_of" = some (some (.ref f7)))
    (l7 : K.lookup f7 = some ⟨oc7, od7, .func (PySem.W.fnOf "last_of" "last_of" (defArgs s_last_of) (defBody s_last_of) (defScope s_last_of) .none kV7 dc7 pm7 an7 cd7 ct7), sl7⟩)
    (c7 : PySem.W.codeIn K cd7 "last_of" = true)
    (k7 : PySem.W.keepIn K (.ref f7) = true)
    (a8 : PySem.W.nsIn K mainGlobals "subscripts" = some (some (.ref f8)))
    (l8 : K.lookup f8 = some ⟨oc8, od8, .func (PySem.W.fnOf "subscripts" "subscripts" (defArgs s_subscripts) (defBody s_subscripts) (defScope s_subscripts) .none kV8 dc8 pm8 an8 cd8 ct8), sl8⟩)
    (c8 : PySem.W.codeIn K cd8 "subscripts" = true)
    (k8 : PySem.W.keepIn K (.ref f8) = true)
    (a9 : PySem.W.nsIn K mainGlobals "lies_between" = some (some (.ref f9)))
    (l9 : K.lookup f9 = some ⟨oc9, od9, .func (PySem.W.fnOf "lies_between" "lies_between" (defArgs s_lies_between) (defBody s_lies_between) (defScope s_lies_between) .none kV9 dc9 pm9 an9 cd9 ct9), sl9⟩)
    (c9 : PySem.W.codeIn K cd9 "lies_between" = true)
    (k9 : PySem.W.keepIn K (.ref f9) = true)
    (a10 : PySem.W.nsIn K mainGlobals "part_of_part" = some (some (.ref f10)))
    (l10 : K.lookup f10 = some ⟨oc10, od10, .func (PySem.W.fnOf "part_of_part" "part_of_part" (defArgs s_part_of_part) (defBody s_part_of_part) (defScope s_part_of_part) .none kV10 dc10 pm10 an10 cd10 ct10), sl10⟩)
    (c10 : PySem.W.codeIn K cd10 "part_of_part" = true)
    (k10 : PySem.W.keepIn K (.ref f10) = true)
    (a11 : PySem.W.nsIn K mainGlobals "is_range" = some (some (.ref f11)))
    (l11 : K.lookup f11 = some ⟨oc11, od11, .func (PySem.W.fnOf "is_range" "is_range" (defArgs s_is_range) (defBody s_is_range) (defScope s_is_range) .none kV11 dc11 pm11 an11 cd11 ct11), sl11⟩)
    (c11 : PySem.W.codeIn K cd11 "is_range" = true)
    (k11 : PySem.W.keepIn K (.ref f11) = true)
    (a12 : PySem.W.nsIn K mainGlobals "is_bounds" = some (some (.ref f12)))
    (l12 : K.lookup f12 = some ⟨oc12, od12, .func (PySem.W.fnOf "is_bounds" "is_bounds" (defArgs s_is_bounds) (defBody s_is_bounds) (defScope s_is_bounds) .none kV12 dc12 pm12 an12 cd12 ct12), sl12⟩)
    (c12 : PySem.W.codeIn K cd12 "is_bounds" = true)
    (k12 : PySem.W.keepIn K (.ref f12) = true)
    (a13 : PySem.W.nsIn K mainGlobals "multiplied" = some (some (.ref f13)))
    (l13 : K.lookup f13 = some ⟨oc13, od13, .func (PySem.W.fnOf "multiplied" "multiplied" (defArgs s_multiplied) (defBody s_multiplied) (defScope s_multiplied) .none kV13 dc13 pm13 an13 cd13 ct13), sl13⟩)
    (c13 : PySem.W.codeIn K cd13 "multiplied" = true)
    (k13 : PySem.W.keepIn K (.ref f13) = true)
    (a14 : PySem.W.nsIn K mainGlobals "many_in" = some (some (.ref f14)))
    (l14 : K.lookup f14 = some ⟨oc14, od14, .func (PySem.W.fnOf "many_in" "many_in" (defArgs s_many_in) (defBody s_many_in) (defScope s_many_in) .none kV14 dc14 pm14 an14 cd14 ct14), sl14⟩)
    (c14 : PySem.W.codeIn K cd14 "many_in" = true)
    (k14 : PySem.W.keepIn K (.ref f14) = true)
    (a15 : PySem.W.nsIn K mainGlobals "is_section" = some (some (.ref f15)))
    (l15 : K.lookup f15 = some ⟨oc15, od15, .func (PySem.W.fnOf "is_section" "is_section" (defArgs s_is_section) (defBody s_is_section) (defScope s_is_section) .none kV15 dc15 pm15 an15 cd15 ct15), sl15⟩)
    (c15 : PySem.W.codeIn K cd15 "is_section" = true)
    (k15 : PySem.W.keepIn K (.ref f15) = true)
    (a16 : PySem.W.nsIn K mainGlobals "check_bounds" = some (some (.ref f16)))
    (l16 : K.lookup f16 = some ⟨oc16, od16, .func (PySem.W.fnOf "check_bounds" "check_bounds" (defArgs s_check_bounds) (defBody s_check_bounds) (defScope s_check_bounds) .none kV16 dc16 pm16 an16 cd16 ct16), sl16⟩)
    (c16 : PySem.W.codeIn K cd16 "check_bounds" = true)
    (k16 : PySem.W.keepIn K (.ref f16) = true)
    (a17 : PySem.W.nsIn K mainGlobals "check_section" = some (some (.ref f17)))
    (l17 : K.lookup f17 = some ⟨oc17, od17, .func (PySem.W.fnOf "check_section" "check_section" (defArgs s_check_section) (defBody s_check_section) (defScope s_check_section) .none kV17 dc17 pm17 an17 cd17 ct17), sl17⟩)
    (c17 : PySem.W.codeIn K cd17 "check_section" = true)
    (k17 : PySem.W.keepIn K (.ref f17) = true)
    (a18 : PySem.W.nsIn K mainGlobals "composed" = some (some (.ref f18)))
    (l18 : K.lookup f18 = some ⟨oc18, od18, .func (PySem.W.fnOf "composed" "composed" (defArgs s_composed) (defBody s_composed) (defScope s_composed) .none kV18 dc18 pm18 an18 cd18 ct18), sl18⟩)
    (c18 : PySem.W.codeIn K cd18 "composed" = true)
    (k18 : PySem.W.keepIn K (.ref f18) = true)
    (a19 : PySem.W.nsIn K mainGlobals "_law_mix" = some (some (.ref f19)))
    (l19 : K.lookup f19 = some ⟨oc19, od19, .func (PySem.W.fnOf "_law_mix" "_law_mix" (defArgs s_w_mix) (defBody s_w_mix) (defScope s_w_mix) .none kV19 dc19 pm19 an19 cd19 ct19), sl19⟩)
    (c19 : PySem.W.codeIn K cd19 "_law_mix" = true)
    (k19 : PySem.W.keepIn K (.ref f19) = true)
    (a20 : PySem.W.nsIn K mainGlobals "_law_draw" = some (some (.ref f20)))
    (l20 : K.lookup f20 = some ⟨oc20, od20, .func (PySem.W.fnOf "_law_draw" "_law_draw" (defArgs s_w_draw) (defBody s_w_draw) (defScope s_w_draw) .none kV20 dc20 pm20 an20 cd20 ct20), sl20⟩)
    (c20 : PySem.W.codeIn K cd20 "_law_draw" = true)
    (k20 : PySem.W.keepIn K (.ref f20) = true)
    (a21 : PySem.W.nsIn K mainGlobals "_law_pick" = some (some (.ref f21)))
    (l21 : K.lookup f21 = some ⟨oc21, od21, .func (PySem.W.fnOf "_law_pick" "_law_pick" (defArgs s_w_pick) (defBody s_w_pick) (defScope s_w_pick) .none kV21 dc21 pm21 an21 cd21 ct21), sl21⟩)
    (c21 : PySem.W.codeIn K cd21 "_law_pick" = true)
    (k21 : PySem.W.keepIn K (.ref f21) = true)
    (a22 : PySem.W.nsIn K mainGlobals "_law_bounds" = some (some (.ref f22)))
    (l22 : K.lookup f22 = some ⟨oc22, od22, .func (PySem.W.fnOf "_law_bounds" "_law_bounds" (defArgs s_w_bounds) (defBody s_w_bounds) (defScope s_w_bounds) .none kV22 dc22 pm22 an22 cd22 ct22), sl22⟩)
    (c22 : PySem.W.codeIn K cd22 "_law_bounds" = true)
    (k22 : PySem.W.keepIn K (.ref f22) = true)
    (a23 : PySem.W.nsIn K mainGlobals "_law_part" = some (some (.ref f23)))
    (l23 : K.lookup f23 = some ⟨oc23, od23, .func (PySem.W.fnOf "_law_part" "_law_part" (defArgs s_w_part) (defBody s_w_part) (defScope s_w_part) .none kV23 dc23 pm23 an23 cd23 ct23), sl23⟩)
    (c23 : PySem.W.codeIn K cd23 "_law_part" = true)
    (k23 : PySem.W.keepIn K (.ref f23) = true)
    (a24 : PySem.W.nsIn K mainGlobals "_law_section" = some (some (.ref f24)))
    (l24 : K.lookup f24 = some ⟨oc24, od24, .func (PySem.W.fnOf "_law_section" "_law_section" (defArgs s_w_section) (defBody s_w_section) (defScope s_w_section) .none kV24 dc24 pm24 an24 cd24 ct24), sl24⟩)
    (c24 : PySem.W.codeIn K cd24 "_law_section" = true)
    (k24 : PySem.W.keepIn K (.ref f24) = true)
    (a25 : PySem.W.nsIn K mainGlobals "_law_subscripts" = some (some (.ref f25)))
    (l25 : K.lookup f25 = some ⟨oc25, od25, .func (PySem.W.fnOf "_law_subscripts" "_law_subscripts" (defArgs s_w_subscripts) (defBody s_w_subscripts) (defScope s_w_subscripts) .none kV25 dc25 pm25 an25 cd25 ct25), sl25⟩)
    (c25 : PySem.W.codeIn K cd25 "_law_subscripts" = true)
    (k25 : PySem.W.keepIn K (.ref f25) = true)
    (a26 : PySem.W.nsIn K mainGlobals "_law_elements" = some (some (.ref f26)))
    (l26 : K.lookup f26 = some ⟨oc26, od26, .func (PySem.W.fnOf "_law_elements" "_law_elements" (defArgs s_w_elements) (defBody s_w_elements) (defScope s_w_elements) .none kV26 dc26 pm26 an26 cd26 ct26), sl26⟩)
    (c26 : PySem.W.codeIn K cd26 "_law_elements" = true)
    (k26 : PySem.W.keepIn K (.ref f26) = true)
    (a27 : PySem.W.nsIn K mainGlobals "_law_place" = some (some (.ref f27)))
    (l27 : K.lookup f27 = some ⟨oc27, od27, .func (PySem.W.fnOf "_law_place" "_law_place" (defArgs s_w_place) (defBody s_w_place) (defScope s_w_place) .none kV27 dc27 pm27 an27 cd27 ct27), sl27⟩)
    (c27 : PySem.W.codeIn K cd27 "_law_place" = true)
    (k27 : PySem.W.keepIn K (.ref f27) = true)
    (a28 : PySem.W.nsIn K mainGlobals "_law_many" = some (some (.ref f28)))
    (l28 : K.lookup f28 = some ⟨oc28, od28, .func (PySem.W.fnOf "_law_many" "_law_many" (defArgs s_w_many) (defBody s_w_many) (defScope s_w_many) .none kV28 dc28 pm28 an28 cd28 ct28), sl28⟩)
    (c28 : PySem.W.codeIn K cd28 "_law_many" = true)
    (k28 : PySem.W.keepIn K (.ref f28) = true)
    (a29 : PySem.W.nsIn K mainGlobals "_law_bare_part" = some (some (.ref f29)))
    (l29 : K.lookup f29 = some ⟨oc29, od29, .func (PySem.W.fnOf "_law_bare_part" "_law_bare_part" (defArgs s_w_bare_part) (defBody s_w_bare_part) (defScope s_w_bare_part) .none kV29 dc29 pm29 an29 cd29 ct29), sl29⟩)
    (c29 : PySem.W.codeIn K cd29 "_law_bare_part" = true)
    (k29 : PySem.W.keepIn K (.ref f29) = true)
    (a30 : PySem.W.nsIn K mainGlobals "_law_part_due" = some (some (.ref f30)))
    (l30 : K.lookup f30 = some ⟨oc30, od30, .func (PySem.W.fnOf "_law_part_due" "_law_part_due" (defArgs s_w_part_due) (defBody s_w_part_due) (defScope s_w_part_due) .none kV30 dc30 pm30 an30 cd30 ct30), sl30⟩)
    (c30 : PySem.W.codeIn K cd30 "_law_part_due" = true)
    (k30 : PySem.W.keepIn K (.ref f30) = true)
    (a31 : PySem.W.nsIn K mainGlobals "_law_due" = some (some (.ref f31)))
    (l31 : K.lookup f31 = some ⟨oc31, od31, .func (PySem.W.fnOf "_law_due" "_law_due" (defArgs s_w_due) (defBody s_w_due) (defScope s_w_due) .none kV31 dc31 pm31 an31 cd31 ct31), sl31⟩)
    (c31 : PySem.W.codeIn K cd31 "_law_due" = true)
    (k31 : PySem.W.keepIn K (.ref f31) = true)
    (a32 : PySem.W.nsIn K mainGlobals "_law_right" = some (some (.ref f32)))
    (l32 : K.lookup f32 = some ⟨oc32, od32, .func (PySem.W.fnOf "_law_right" "_law_right" (defArgs s_w_right) (defBody s_w_right) (defScope s_w_right) .none kV32 dc32 pm32 an32 cd32 ct32), sl32⟩)
    (c32 : PySem.W.codeIn K cd32 "_law_right" = true)
    (k32 : PySem.W.keepIn K (.ref f32) = true)
    (a33 : PySem.W.nsIn K mainGlobals "_law_source" = some (some (.ref f33)))
    (l33 : K.lookup f33 = some ⟨oc33, od33, .func (PySem.W.fnOf "_law_source" "_law_source" (defArgs s_w_source) (defBody s_w_source) (defScope s_w_source) .none kV33 dc33 pm33 an33 cd33 ct33), sl33⟩)
    (c33 : PySem.W.codeIn K cd33 "_law_source" = true)
    (k33 : PySem.W.keepIn K (.ref f33) = true)
    (a34 : PySem.W.nsIn K mainGlobals "law" = some (some (.ref f34)))
    (l34 : K.lookup f34 = some ⟨oc34, od34, .func (PySem.W.fnOf "law" "law" (defArgs s_law) (defBody s_law) (defScope s_law) .none kV34 dc34 pm34 an34 cd34 ct34), sl34⟩)
    (c34 : PySem.W.codeIn K cd34 "law" = true)
    (k34 : PySem.W.keepIn K (.ref f34) = true)
    (z_int : PySem.W.nsIn K mainGlobals "int" = some none)
    (z_isinstance : PySem.W.nsIn K mainGlobals "isinstance" = some none)
    (z_bool : PySem.W.nsIn K mainGlobals "bool" = some none)
    (z_tuple : PySem.W.nsIn K mainGlobals "tuple" = some none)
    (z_len : PySem.W.nsIn K mainGlobals "len" = some none)
    (z_all : PySem.W.nsIn K mainGlobals "all" = some none)
    (z_list : PySem.W.nsIn K mainGlobals "list" = some none)
    (z_max : PySem.W.nsIn K mainGlobals "max" = some none)
    (z_range : PySem.W.nsIn K mainGlobals "range" = some none)
    (z_zip : PySem.W.nsIn K mainGlobals "zip" = some none)
    (z_min : PySem.W.nsIn K mainGlobals "min" = some none)
    (z_abs : PySem.W.nsIn K mainGlobals "abs" = some none)
    (v_FAR : PySem.W.nsIn K mainGlobals "FAR" = some (some (.int 1000000000000000000000000000000 t_FAR)))
    (v_LIST_LIMIT : PySem.W.nsIn K mainGlobals "LIST_LIMIT" = some (some (.int 64 t_LIST_LIMIT)))
    (v_FARTHEST : PySem.W.nsIn K mainGlobals "FARTHEST" = some (some (.int 500000000000000000000000000000 t_FARTHEST)))
    (v_DIMENSIONS : PySem.W.nsIn K mainGlobals "DIMENSIONS" = some (some (.int 7 t_DIMENSIONS)))
    : ∃ fd : FuncData, (∀ (s : Shared) (v : Value), BindsTo s fd ⟨[v], []⟩ [("_law_script", v)]) ∧ ∀ base : Heap, K.In base → base.Ns mainGlobals mg → FnOk l.prog w K mg base (L2.CX l.prog w) 9 fa fd ["_law_script"] (spLaw K) := by
  have e := hfa.symm.trans (PySem.W.mg_of X G a34)
  cases e
  exact ⟨PySem.W.fnOf "law" "law" (defArgs s_law) (defBody s_law) (defScope s_law) .none kV34 dc34 pm34 an34 cd34 ct34, fun s v => .of_eq rfl, fun base _ _ => ok_law (P := l.prog) (w := w) (K := K) (mg := mg) (base := base) {
      a_is_number := f0,
      d_is_number := _,
      F_is_number := fun_mk (st := s_is_number) l0 c0 k0,
      g_is_number := PySem.W.mg_of X G a0,
      a_is_far := f1,
      d_is_far := _,
      F_is_far := fun_mk (st := s_is_far) l1 c1 k1,
      g_is_far := PySem.W.mg_of X G a1,
      a_is_triplet := f2,
      d_is_triplet := _,
      F_is_triplet := fun_mk (st := s_is_triplet) l2 c2 k2,
      g_is_triplet := PySem.W.mg_of X G a2,
      a_is_part := f3,
      d_is_part := _,
      F_is_part := fun_mk (st := s_is_part) l3 c3 k3,
      g_is_part := PySem.W.mg_of X G a3,
      a_is_kept := f4,
      d_is_kept := _,
      F_is_kept := fun_mk (st := s_is_kept) l4 c4 k4,
      g_is_kept := PySem.W.mg_of X G a4,
      a_many_of := f5,
      d_many_of := _,
      F_many_of := fun_mk (st := s_many_of) l5 c5 k5,
      g_many_of := PySem.W.mg_of X G a5,
      a_subscript_of := f6,
      d_subscript_of := _,
      F_subscript_of := fun_mk (st := s_subscript_of) l6 c6 k6,
      g_subscript_of := PySem.W.mg_of X G a6,
      a_last_of := f7,
      d_last_of := _,
      F_last_of := fun_mk (st := s_last_of) l7 c7 k7,
      g_last_of := PySem.W.mg_of X G a7,
      a_subscripts := f8,
      d_subscripts := _,
      F_subscripts := fun_mk (st := s_subscripts) l8 c8 k8,
      g_subscripts := PySem.W.mg_of X G a8,
      a_lies_between := f9,
      d_lies_between := _,
      F_lies_between := fun_mk (st := s_lies_between) l9 c9 k9,
      g_lies_between := PySem.W.mg_of X G a9,
      a_part_of_part := f10,
      d_part_of_part := _,
      F_part_of_part := fun_mk (st := s_part_of_part) l10 c10 k10,
      g_part_of_part := PySem.W.mg_of X G a10,
      a_is_range := f11,
      d_is_range := _,
      F_is_range := fun_mk (st := s_is_range) l11 c11 k11,
      g_is_range := PySem.W.mg_of X G a11,
      a_is_bounds := f12,
      d_is_bounds := _,
      F_is_bounds := fun_mk (st := s_is_bounds) l12 c12 k12,
      g_is_bounds := PySem.W.mg_of X G a12,
      a_multiplied := f13,
      d_multiplied := _,
      F_multiplied := fun_mk (st := s_multiplied) l13 c13 k13,
      g_multiplied := PySem.W.mg_of X G a13,
      a_many_in := f14,
      d_many_in := _,
      F_many_in := fun_mk (st := s_many_in) l14 c14 k14,
      g_many_in := PySem.W.mg_of X G a14,
      a_is_section := f15,
      d_is_section := _,
      F_is_section := fun_mk (st := s_is_section) l15 c15 k15,
      g_is_section := PySem.W.mg_of X G a15,
      a_check_bounds := f16,
      d_check_bounds := _,
      F_check_bounds := fun_mk (st := s_check_bounds) l16 c16 k16,
      g_check_bounds := PySem.W.mg_of X G a16,
      a_check_section := f17,
      d_check_section := _,
      F_check_section := fun_mk (st := s_check_section) l17 c17 k17,
      g_check_section := PySem.W.mg_of X G a17,
      a_composed := f18,
      d_composed := _,
      F_composed := fun_mk (st := s_composed) l18 c18 k18,
      g_composed := PySem.W.mg_of X G a18,
      a_w_mix := f19,
      d_w_mix := _,
      F_w_mix := fun_mk (st := s_w_mix) l19 c19 k19,
      g_w_mix := PySem.W.mg_of X G a19,
      a_w_draw := f20,
      d_w_draw := _,
      F_w_draw := fun_mk (st := s_w_draw) l20 c20 k20,
      g_w_draw := PySem.W.mg_of X G a20,
      a_w_pick := f21,
      d_w_pick := _,
      F_w_pick := fun_mk (st := s_w_pick) l21 c21 k21,
      g_w_pick := PySem.W.mg_of X G a21,
      a_w_bounds := f22,
      d_w_bounds := _,
      F_w_bounds := fun_mk (st := s_w_bounds) l22 c22 k22,
      g_w_bounds := PySem.W.mg_of X G a22,
      a_w_part := f23,
      d_w_part := _,
      F_w_part := fun_mk (st := s_w_part) l23 c23 k23,
      g_w_part := PySem.W.mg_of X G a23,
      a_w_section := f24,
      d_w_section := _,
      F_w_section := fun_mk (st := s_w_section) l24 c24 k24,
      g_w_section := PySem.W.mg_of X G a24,
      a_w_subscripts := f25,
      d_w_subscripts := _,
      F_w_subscripts := fun_mk (st := s_w_subscripts) l25 c25 k25,
      g_w_subscripts := PySem.W.mg_of X G a25,
      a_w_elements := f26,
      d_w_elements := _,
      F_w_elements := fun_mk (st := s_w_elements) l26 c26 k26,
      g_w_elements := PySem.W.mg_of X G a26,
      a_w_place := f27,
      d_w_place := _,
      F_w_place := fun_mk (st := s_w_place) l27 c27 k27,
      g_w_place := PySem.W.mg_of X G a27,
      a_w_many := f28,
      d_w_many := _,
      F_w_many := fun_mk (st := s_w_many) l28 c28 k28,
      g_w_many := PySem.W.mg_of X G a28,
      a_w_bare_part := f29,
      d_w_bare_part := _,
      F_w_bare_part := fun_mk (st := s_w_bare_part) l29 c29 k29,
      g_w_bare_part := PySem.W.mg_of X G a29,
      a_w_part_due := f30,
      d_w_part_due := _,
      F_w_part_due := fun_mk (st := s_w_part_due) l30 c30 k30,
      g_w_part_due := PySem.W.mg_of X G a30,
      a_w_due := f31,
      d_w_due := _,
      F_w_due := fun_mk (st := s_w_due) l31 c31 k31,
      g_w_due := PySem.W.mg_of X G a31,
      a_w_right := f32,
      d_w_right := _,
      F_w_right := fun_mk (st := s_w_right) l32 c32 k32,
      g_w_right := PySem.W.mg_of X G a32,
      a_w_source := f33,
      d_w_source := _,
      F_w_source := fun_mk (st := s_w_source) l33 c33 k33,
      g_w_source := PySem.W.mg_of X G a33,
      a_law := fa,
      d_law := _,
      F_law := fun_mk (st := s_law) l34 c34 k34,
      g_law := PySem.W.mg_of X G a34,
      z_int := PySem.W.mg_none_of X G z_int,
      z_isinstance := PySem.W.mg_none_of X G z_isinstance,
      z_bool := PySem.W.mg_none_of X G z_bool,
      z_tuple := PySem.W.mg_none_of X G z_tuple,
      z_len := PySem.W.mg_none_of X G z_len,
      z_all := PySem.W.mg_none_of X G z_all,
      z_list := PySem.W.mg_none_of X G z_list,
      z_max := PySem.W.mg_none_of X G z_max,
      z_range := PySem.W.mg_none_of X G z_range,
      z_zip := PySem.W.mg_none_of X G z_zip,
      z_min := PySem.W.mg_none_of X G z_min,
      z_abs := PySem.W.mg_none_of X G z_abs,
      t_FAR := t_FAR,
      c_FAR := PySem.W.mg_of X G v_FAR,
      t_LIST_LIMIT := t_LIST_LIMIT,
      c_LIST_LIMIT := PySem.W.mg_of X G v_LIST_LIMIT,
      t_FARTHEST := t_FARTHEST,
      c_FARTHEST := PySem.W.mg_of X G v_FARTHEST,
      t_DIMENSIONS := t_DIMENSIONS,
      c_DIMENSIONS := PySem.W.mg_of X G v_DIMENSIONS } right_ok⟩
end DL
open PySem PySem.W PyProof.Rows
set_option maxHeartbeats 0 in
theorem PySem.Challenge.cw_sectionwise_k10_whole_sections_of_sectio_holds : PySem.Challenge.rw_sectionwise_k10_whole_sections_of_sectio.Holds := by
  w_on; o_law; k_head; (case hw => w_witness2)
  k_fill
  refine L2.walk_of (l := PySem.Challenge.rw_sectionwise_k10_whole_sections_of_sectio) (n := 63) (k := 9) (x := "_law_script") (CX := fun w => L2.CX PySem.Challenge.pw_sectionwise_k10_whole_sections_of_sectio w) (sp := fun w => DL.spLaw _) rfl (by decide) rfl ⟨rfl, by decide, by decide⟩ (fun w h Y => PySem.W.kIn_of Y) ?F (fun _ _ a ns hl _ hS => ⟨a, ns, rfl, hS, hl, fun _ => rfl⟩) (fun _ _ _ _ _ h => by obtain ⟨_, _, _, _, _, _, _, _, _, _, _, _, z⟩ := h; exact z)
  case F =>
    intro w mg fa h KX G hmg
    refine' DL.all_mk KX G hmg ?a0 ?l0 ?c0 ?k0 ?a1 ?l1 ?c1 ?k1 ?a2 ?l2 ?c2 ?k2 ?a3 ?l3 ?c3 ?k3 ?a4 ?l4 ?c4 ?k4 ?a5 ?l5 ?c5 ?k5 ?a6 ?l6 ?c6 ?k6 ?a7 ?l7 ?c7 ?k7 ?a8 ?l8 ?c8 ?k8 ?a9 ?l9 ?c9 ?k9 ?a10 ?l10 ?c10 ?k10 ?a11 ?l11 ?c11 ?k11 ?a12 ?l12 ?c12 ?k12 ?a13 ?l13 ?c13 ?k13 ?a14 ?l14 ?c14 ?k14 ?a15 ?l15 ?c15 ?k15 ?a16 ?l16 ?c16 ?k16 ?a17 ?l17 ?c17 ?k17 ?a18 ?l18 ?c18 ?k18 ?a19 ?l19 ?c19 ?k19 ?a20 ?l20 ?c20 ?k20 ?a21 ?l21 ?c21 ?k21 ?a22 ?l22 ?c22 ?k22 ?a23 ?l23 ?c23 ?k23 ?a24 ?l24 ?c24 ?k24 ?a25 ?l25 ?c25 ?k25 ?a26 ?l26 ?c26 ?k26 ?a27 ?l27 ?c27 ?k27 ?a28 ?l28 ?c28 ?k28 ?a29 ?l29 ?c29 ?k29 ?a30 ?l30 ?c30 ?k30 ?a31 ?l31 ?c31 ?k31 ?a32 ?l32 ?c32 ?k32 ?a33 ?l33 ?c33 ?k33 ?a34 ?l34 ?c34 ?k34 ?z_int ?z_isinstance ?z_bool ?z_tuple ?z_len ?z_all ?z_list ?z_max ?z_range ?z_zip ?z_min ?z_abs ?v_FAR ?v_LIST_LIMIT ?v_FARTHEST ?v_DIMENSIONS
    (case a0 => k_is); (case l0 => k_is); (case c0 => k_is); (case k0 => k_is); (case a1 => k_is); (case l1 => k_is); (case c1 => k_is); (case k1 => k_is); (case a2 => k_is); (case l2 => k_is); (case c2 => k_is); (case k2 => k_is); (case a3 => k_is); (case l3 => k_is); (case c3 => k_is); (case k3 => k_is); (case a4 => k_is); (case l4 => k_is); (case c4 => k_is); (case k4 => k_is); (case a5 => k_is); (case l5 => k_is); (case c5 => k_is); (case k5 => k_is); (case a6 => k_is); (case l6 => k_is); (case c6 => k_is); (case k6 => k_is); (case a7 => k_is); (case l7 => k_is); (case c7 => k_is); (case k7 => k_is); (case a8 => k_is); (case l8 => k_is); (case c8 => k_is); (case k8 => k_is); (case a9 => k_is); (case l9 => k_is); (case c9 => k_is); (case k9 => k_is); (case a10 => k_is); (case l10 => k_is); (case c10 => k_is); (case k10 => k_is); (case a11 => k_is); (case l11 => k_is); (case c11 => k_is); (case k11 => k_is); (case a12 => k_is); (case l12 => k_is); (case c12 => k_is); (case k12 => k_is); (case a13 => k_is); (case l13 => k_is); (case c13 => k_is); (case k13 => k_is); (case a14 => k_is); (case l14 => k_is); (case c14 => k_is); (case k14 => k_is); (case a15 => k_is); (case l15 => k_is); (case c15 => k_is); (case k15 => k_is); (case a16 => k_is); (case l16 => k_is); (case c16 => k_is); (case k16 => k_is); (case a17 => k_is); (case l17 => k_is); (case c17 => k_is); (case k17 => k_is); (case a18 => k_is); (case l18 => k_is); (case c18 => k_is); (case k18 => k_is); (case a19 => k_is); (case l19 => k_is); (case c19 => k_is); (case k19 => k_is); (case a20 => k_is); (case l20 => k_is); (case c20 => k_is); (case k20 => k_is); (case a21 => k_is); (case l21 => k_is); (case c21 => k_is); (case k21 => k_is); (case a22 => k_is); (case l22 => k_is); (case c22 => k_is); (case k22 => k_is); (case a23 => k_is); (case l23 => k_is); (case c23 => k_is); (case k23 => k_is); (case a24 => k_is); (case l24 => k_is); (case c24 => k_is); (case k24 => k_is); (case a25 => k_is); (case l25 => k_is); (case c25 => k_is); (case k25 => k_is); (case a26 => k_is); (case l26 => k_is); (case c26 => k_is); (case k26 => k_is); (case a27 => k_is); (case l27 => k_is); (case c27 => k_is); (case k27 => k_is); (case a28 => k_is); (case l28 => k_is); (case c28 => k_is); (case k28 => k_is); (case a29 => k_is); (case l29 => k_is); (case c29 => k_is); (case k29 => k_is); (case a30 => k_is); (case l30 => k_is); (case c30 => k_is); (case k30 => k_is); (case a31 => k_is); (case l31 => k_is); (case c31 => k_is); (case k31 => k_is); (case a32 => k_is); (case l32 => k_is); (case c32 => k_is); (case k32 => k_is); (case a33 => k_is); (case l33 => k_is); (case c33 => k_is); (case k33 => k_is); (case a34 => k_is); (case l34 => k_is); (case c34 => k_is); (case k34 => k_is); (case z_int => k_is); (case z_isinstance => k_is); (case z_bool => k_is); (case z_tuple => k_is); (case z_len => k_is); (case z_all => k_is); (case z_list => k_is); (case z_max => k_is); (case z_range => k_is); (case z_zip => k_is); (case z_min => k_is); (case z_abs => k_is); (case v_FAR => k_is); (case v_LIST_LIMIT => k_is); (case v_FARTHEST => k_is); (case v_DIMENSIONS => k_is)
