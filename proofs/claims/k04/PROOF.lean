import PyProof.Rows.All
import HandS.ForMost
import HandS.ForExc
import HandS.Style
import HandS.Wide
import HandS.Zip
import HandS.Defaults
import HandS.IsInst
import HandS.Walk
import HandS.Evl
import HandS.TupAny
import HandS.TupMul
import KE.GoesNew
import KE.KExcLine
import HandS.Deep
import HandS.SortInts
import HandS.Conv
import KE.GoesEnum
import PyProof.SumWalkG
import PyProof.ListOps
import HandS.ExcValue
import PySem.Challenge.RW_sectionwise_k04_whole_what_triplets_have
set_option Elab.async false
set_option linter.all false
set_option maxRecDepth 100000

set_option maxHeartbeats 2000000
namespace DL
open PySem PySem.Spec PyProof.Rows L2
open Evl (Ex)

/-! ### data, and how it stands in the heap -/
/-- what a program's value is, without addresses: lists that nobody writes any more are trees -/
inductive D where
  | non | bl (b : Bool) | int (i : Int) | str (x : Str) | lst (xs : List D) | tup (xs : List D)
  /-- a list that only its own slot knows -/
  | own (xs : List D)
  /-- the list of three numbers that draws change -/
  | well
  | ref (a : Addr)
  /-- a built-in class -/
  | ty (n : String)
  /-- a list that is new -/
  | nl (xs : List D)
/-- the objects that were there before -/
class OldT where
  old : Hp
variable [OldT]
abbrev Wl := Int × Int × Int
def wl (w : Wl) : List V := [.int w.1, .int w.2.1, .int w.2.2]
mutual
inductive Rep (wa : Addr) (Hf : Hp) : V → D → Prop
  | non : Rep wa Hf .non .non
  | bl (b : Bool) : Rep wa Hf (.bl b) (.bl b)
  | int (i : Int) : Rep wa Hf (.int i) (.int i)
  | str (x : Str) : Rep wa Hf (.str x) (.str x)
  | lst {a : Addr} {xs : List V} {ds : List D} : Hf a = some (.lst xs) → Reps wa Hf xs ds → Rep wa Hf (.ref a) (.lst ds)
  | tup {a : Addr} {xs : List V} {ds : List D} : Hf a = some (.tup xs) → Reps wa Hf xs ds → Rep wa Hf (.ref a) (.tup ds)
  | well : Rep wa Hf (.ref wa) .well
  | ref (a : Addr) : Rep wa Hf (.ref a) (.ref a)
  | ty (n : String) : Rep wa Hf (.ty n) (.ty n)
  | nl {a : Addr} {xs : List V} {ds : List D} : Hf a = some (.lst xs) → OldT.old a = none → Reps wa Hf xs ds → Rep wa Hf (.ref a) (.nl ds)
inductive Reps (wa : Addr) (Hf : Hp) : List V → List D → Prop
  | nil : Reps wa Hf [] []
  | cons {v : V} {vs : List V} {d : D} {ds : List D} : Rep wa Hf v d → Reps wa Hf vs ds → Reps wa Hf (v :: vs) (d :: ds)
end
section
variable {wa : Addr} {Hf Hf' Hf1 H H' H1 : Hp}
mutual
theorem Rep.mono (e : Ex Hf Hf') : ∀ {v : V} {d : D}, Rep wa Hf v d → Rep wa Hf' v d
  | _, _, .non => .non
  | _, _, .bl b => .bl b
  | _, _, .int i => .int i
  | _, _, .str x => .str x
  | _, _, .lst h r => .lst (e _ _ h) (Reps.mono e r)
  | _, _, .tup h r => .tup (e _ _ h) (Reps.mono e r)
  | _, _, .well => .well
  | _, _, .ref a => .ref a
  | _, _, .ty a => .ty a
  | _, _, .nl h o r => .nl (e _ _ h) o (Reps.mono e r)
theorem Reps.mono (e : Ex Hf Hf') : ∀ {vs : List V} {ds : List D}, Reps wa Hf vs ds → Reps wa Hf' vs ds
  | _, _, .nil => .nil
  | _, _, .cons h r => .cons (Rep.mono e h) (Reps.mono e r)
end
theorem Reps.length : ∀ {vs : List V} {ds : List D}, Reps wa Hf vs ds → vs.length = ds.length
  | _, _, .nil => rfl
  | _, _, .cons _ r => by simp [Reps.length r]
theorem Reps.get : ∀ {vs : List V} {ds : List D} {i : Nat} {d : D}, Reps wa Hf vs ds → ds[i]? = some d → ∃ v, vs[i]? = some v ∧ Rep wa Hf v d
  | _, _, _, _, .nil, e => by simp at e
  | _, _, 0, _, .cons r _, e => by simp at e; subst e; exact ⟨_, rfl, r⟩
  | _, _, i + 1, d, .cons _ t, e => by
    obtain ⟨v, h1, h2⟩ := Reps.get (i := i) (d := d) t (by simpa using e)
    exact ⟨v, by simpa using h1, h2⟩
theorem Reps.getV : ∀ {vs : List V} {ds : List D} {i : Nat} {v : V}, Reps wa Hf vs ds → vs[i]? = some v → ∃ d, ds[i]? = some d ∧ Rep wa Hf v d
  | _, _, _, _, .nil, e => by simp at e
  | _, _, 0, _, .cons r _, e => by simp at e; subst e; exact ⟨_, rfl, r⟩
  | _, _, i + 1, d, .cons _ t, e => by
    obtain ⟨v, h1, h2⟩ := Reps.getV (i := i) (v := d) t (by simpa using e)
    exact ⟨v, by simpa using h1, h2⟩
theorem Reps.append : ∀ {vs ws : List V} {ds es : List D}, Reps wa Hf vs ds → Reps wa Hf ws es → Reps wa Hf (vs ++ ws) (ds ++ es)
  | _, _, _, _, .nil, s => s
  | _, _, _, _, .cons r t, s => .cons r (Reps.append t s)
theorem Reps.take : ∀ {vs : List V} {ds : List D} (n : Nat), Reps wa Hf vs ds → Reps wa Hf (vs.take n) (ds.take n)
  | _, _, 0, _ => .nil
  | _, _, _ + 1, .nil => .nil
  | _, _, n + 1, .cons r t => .cons r (Reps.take n t)
theorem Reps.drop : ∀ {vs : List V} {ds : List D} (n : Nat), Reps wa Hf vs ds → Reps wa Hf (vs.drop n) (ds.drop n)
  | _, _, 0, r => r
  | _, _, _ + 1, .nil => .nil
  | _, _, n + 1, .cons _ t => Reps.drop n t
theorem Reps.reverse : ∀ {vs : List V} {ds : List D}, Reps wa Hf vs ds → Reps wa Hf vs.reverse ds.reverse
  | _, _, .nil => .nil
  | _, _, .cons r t => by
    rw [List.reverse_cons, List.reverse_cons]
    exact (Reps.reverse t).append (.cons r .nil)
theorem Reps.rep {vs : List V} {ds : List D} (h : Reps wa Hf vs ds) : ∀ k : Nat, Reps wa Hf (List.replicate k vs).flatten (List.replicate k ds).flatten
  | 0 => .nil
  | k + 1 => by
    rw [List.replicate_succ, List.replicate_succ, List.flatten_cons, List.flatten_cons]
    exact h.append (h.rep k)
theorem Reps.ints : ∀ {vs : List V} {ns : List Int}, Reps wa Hf vs (ns.map D.int) → vs = ns.map V.int
  | _, [], h => by cases h; rfl
  | _, n :: ns, h => by
    cases h with
    | cons h1 h2 =>
      cases h1
      rw [Reps.ints h2]
      rfl
theorem Reps.bls : ∀ {vs : List V} {ns : List Bool}, Reps wa Hf vs (ns.map D.bl) → vs = ns.map V.bl
  | _, [], h => by cases h; rfl
  | _, n :: ns, h => by
    cases h with
    | cons h1 h2 =>
      cases h1
      rw [Reps.bls h2]
      rfl
theorem Reps.of_ints : ∀ {ns : List Int}, Reps wa Hf (ns.map V.int) (ns.map D.int)
  | [] => .nil
  | n :: ns => .cons (.int n) Reps.of_ints

/-- the frozen part is there, and the well -/
structure Base (wa : Addr) (Hf H : Hp) (w : Wl) : Prop where
  ex : Ex Hf H
  well : H wa = some (.lst (wl w))
  nw : Hf wa = none
  od : Ex OldT.old Hf
/-- from a heap to a later one -/
structure Go (wa : Addr) (H Hf H' Hf' : Hp) : Prop where
  keep : ∀ a o, a ≠ wa → H a = some o → H' a = some o
  ex : Ex Hf Hf'
  new : ∀ a o, H a = some o → Hf' a = Hf a
  there : ∀ a o, H a = some o → ∃ o', H' a = some o'
theorem Go.refl : Go wa H Hf H Hf := ⟨fun _ _ _ h => h, Ex.refl _, fun _ _ _ => rfl, fun _ o h => ⟨o, h⟩⟩
theorem Go.trans (a : Go wa H Hf H1 Hf1) (b : Go wa H1 Hf1 H' Hf') : Go wa H Hf H' Hf' :=
  ⟨fun x o n h => b.keep x o n (a.keep x o n h), a.ex.trans b.ex, fun x o h => by
    obtain ⟨o', h'⟩ := a.there x o h
    rw [b.new x o' h', a.new x o h], fun x o h => by
    obtain ⟨o', h'⟩ := a.there x o h
    exact b.there x o' h'⟩
theorem Go.free (g : Go wa H Hf H' Hf') {p : Addr} (h : H' p = none) : H p = none := by
  cases q : H p with
  | none => rfl
  | some o =>
    obtain ⟨o', e⟩ := g.there p o q
    rw [h] at e
    cases e
/-- a new object, not frozen -/
theorem Go.new1 {p : Addr} {o : HO} (h : H p = none) : Go wa H Hf (upd H p o) Hf :=
  ⟨fun a u _ e => by rw [upd_ne (ne_of_none e h)]; exact e, Ex.refl _, fun _ _ _ => rfl, fun a u e => ⟨u, by rw [upd_ne (ne_of_none e h)]; exact e⟩⟩
/-- a new object, frozen at once -/
theorem Go.newF {p : Addr} {o : HO} (x : Ex Hf H) (h : H p = none) : Go wa H Hf (upd H p o) (upd Hf p o) :=
  have hf : Hf p = none := Evl.fresh_back x h
  ⟨fun a u _ e => by rw [upd_ne (ne_of_none e h)]; exact e, Ex.new hf, fun a u e => by rw [upd_ne (ne_of_none e h)], fun a u e => ⟨u, by rw [upd_ne (ne_of_none e h)]; exact e⟩⟩
theorem Base.new1 {w : Wl} {p : Addr} {o : HO} (b : Base wa Hf H w) (h : H p = none) : Base wa Hf (upd H p o) w :=
  ⟨b.ex.trans (Ex.new h), by rw [upd_ne (ne_of_none b.well h)]; exact b.well, b.nw, b.od⟩
theorem ex_upd2 {p : Addr} {o : HO} (x : Ex Hf H) : Ex (upd Hf p o) (upd H p o) := fun a u e => by
  by_cases hp : a = p
  · subst hp; rw [upd_same] at e ⊢; exact e
  · rw [upd_ne hp] at e ⊢; exact x a u e
theorem Base.newF {w : Wl} {p : Addr} {o : HO} (b : Base wa Hf H w) (h : H p = none) : Base wa (upd Hf p o) (upd H p o) w :=
  ⟨ex_upd2 b.ex, by rw [upd_ne (ne_of_none b.well h)]; exact b.well, by rw [upd_ne (ne_of_none b.well h)]; exact b.nw, b.od.trans (Ex.new (Evl.fresh_back b.ex h))⟩
end

/-! ### what comes of a piece of code -/
structure Exn where
  name : Str
  fs : List (Str × D)
inductive R (α : Type) where
  | ok (a : α) (w : Wl) | er (x : Exn) (w : Wl) | no
def R.bind {α β : Type} (r : R α) (k : α → Wl → R β) : R β := match r with
  | .ok a w => k a w
  | .er x w => .er x w
  | .no => .no
def R.noer {α : Type} (r : R α) : R α := match r with
  | .ok a w => .ok a w
  | _ => .no
@[simp] theorem R.bind_ok {α β : Type} {a : α} {w : Wl} {k : α → Wl → R β} : (R.ok a w).bind k = k a w := rfl
@[simp] theorem R.bind_er {α β : Type} {x : Exn} {w : Wl} {k : α → Wl → R β} : (R.er x w).bind k = .er x w := rfl
@[simp] theorem R.bind_no {α β : Type} {k : α → Wl → R β} : (R.no).bind k = .no := rfl
@[simp] theorem R.noer_ok {α : Type} {a : α} {w : Wl} : (R.ok a w).noer = .ok a w := rfl
abbrev Sl := List (Option D)
abbrev DE := Sl → Wl → R D
abbrev DT := Sl → Wl → R Bool
abbrev DA := Sl → Wl → R (List D)
abbrev DG := D → Sl → Option Sl
inductive RS where
  | nx (s : Sl) (w : Wl) | rt (d : D) (w : Wl) | bk (s : Sl) (w : Wl) | ct (s : Sl) (w : Wl) | er (x : Exn) (s : Sl) (w : Wl) | no
abbrev DS := Sl → Wl → RS
abbrev DF := List D → Wl → R D

/-- what an exception is -/
def ErrV (mg : Str → Option Value) (wa : Addr) (Hf : Hp) (x : Exn) (cls : Value) (dx : Option Addr) : Prop :=
  ∃ (C d : Addr) (vs : List (Str × V)), mg x.name = some (.ref C) ∧ cls = .ref C ∧ dx = some d ∧ Hf d = some (.xd vs) ∧ vs.map (·.1) = x.fs.map (·.1) ∧ Reps wa Hf (vs.map (·.2)) (x.fs.map (·.2))
def Fin {α : Type} (wa : Addr) (Hf H : Hp) (r : R α) (Ok : α → Wl → Hp → Hp → Prop) (Er : Exn → Wl → Hp → Hp → Prop) : Prop := match r with
  | .ok a w' => ∀ H' Hf', Go wa H Hf H' Hf' → Base wa Hf' H' w' → Ok a w' H' Hf'
  | .er x w' => ∀ H' Hf', Go wa H Hf H' Hf' → Base wa Hf' H' w' → Er x w' H' Hf'
  | .no => False
section
variable {wa : Addr} {Hf H : Hp} {α β : Type}
theorem Fin.bind {r : R α} {k : α → Wl → R β} {Ok : β → Wl → Hp → Hp → Prop} {Er : Exn → Wl → Hp → Hp → Prop} (h : Fin wa Hf H (r.bind k) Ok Er) :
    Fin wa Hf H r (fun a w1 H1 Hf1 => Fin wa Hf1 H1 (k a w1) Ok Er) Er := by
  cases r with
  | ok a w1 =>
    intro H1 Hf1 g b
    have h : Fin wa Hf H (k a w1) Ok Er := h
    cases e : k a w1 with
    | ok a2 w2 => rw [e] at h; exact fun H2 Hf2 g2 b2 => h H2 Hf2 (g.trans g2) b2
    | er x w2 => rw [e] at h; exact fun H2 Hf2 g2 b2 => h H2 Hf2 (g.trans g2) b2
    | no => rw [e] at h; exact h
  | er x w1 => exact h
  | no => exact h
theorem Fin.mono {r : R α} {Ok Ok' : α → Wl → Hp → Hp → Prop} {Er Er' : Exn → Wl → Hp → Hp → Prop} (h : Fin wa Hf H r Ok Er)
    (ho : ∀ a w' H' Hf', Go wa H Hf H' Hf' → Base wa Hf' H' w' → Ok a w' H' Hf' → Ok' a w' H' Hf') (he : ∀ x w' H' Hf', Go wa H Hf H' Hf' → Base wa Hf' H' w' → Er x w' H' Hf' → Er' x w' H' Hf') : Fin wa Hf H r Ok' Er' := by
  cases r with
  | ok a w1 => exact fun H1 Hf1 g b => ho _ _ _ _ g b (h H1 Hf1 g b)
  | er x w1 => exact fun H1 Hf1 g b => he _ _ _ _ g b (h H1 Hf1 g b)
  | no => exact h
theorem Fin.here {a : α} {w : Wl} {Ok : α → Wl → Hp → Hp → Prop} {Er : Exn → Wl → Hp → Hp → Prop} (h : Fin wa Hf H (.ok a w) Ok Er) (b : Base wa Hf H w) : Ok a w H Hf := h H Hf Go.refl b
theorem Fin.noer {r : R α} {Ok : α → Wl → Hp → Hp → Prop} {Er Er' : Exn → Wl → Hp → Hp → Prop} (h : Fin wa Hf H r.noer Ok Er) : Fin wa Hf H r Ok Er' := by
  cases r with
  | ok a w1 => exact h
  | er x w1 => exact False.elim h
  | no => exact h
end

/-! ### slots -/
structure Slots (wa : Addr) (Hf H : Hp) (σ : L2.St) (s : Sl) : Prop where
  len : σ.length = s.length
  val : ∀ (i : Nat) (d : D), s[i]? = some (some d) → (∀ xs, d ≠ D.own xs) → ∃ v, σ[i]? = some (some v) ∧ Rep wa Hf v d
  own : ∀ (i : Nat) (xs : List D), s[i]? = some (some (.own xs)) → ∃ p vs, σ[i]? = some (some (.ref p)) ∧ H p = some (.lst vs) ∧ Hf p = none ∧ p ≠ wa ∧ Reps wa Hf vs xs
  inj : ∀ (i j : Nat) (xs ys : List D) (p : Addr), s[i]? = some (some (.own xs)) → s[j]? = some (some (.own ys)) → σ[i]? = some (some (.ref p)) → σ[j]? = some (some (.ref p)) → i = j
def OwnNew (H0 : Hp) (σ : L2.St) (s : Sl) : Prop := ∀ (i : Nat) (xs : List D) (p : Addr), s[i]? = some (some (.own xs)) → σ[i]? = some (some (.ref p)) → H0 p = none
theorem rep_own {wa : Addr} {Hf : Hp} {v : V} {xs : List D} : ¬ Rep wa Hf v (.own xs) := fun h => nomatch h
section
variable {wa : Addr} {Hf Hf' H H' H0 : Hp} {σ : L2.St} {s : Sl}
theorem Slots.go (x : Slots wa Hf H σ s) (g : Go wa H Hf H' Hf') : Slots wa Hf' H' σ s :=
  ⟨x.len, fun i d e n => let ⟨v, h1, h2⟩ := x.val i d e n; ⟨v, h1, h2.mono g.ex⟩, fun i xs e => by
    obtain ⟨p, vs, h1, h2, h3, h4, h5⟩ := x.own i xs e
    exact ⟨p, vs, h1, g.keep p _ h4 h2, (g.new p _ h2).trans h3, h4, h5.mono g.ex⟩, x.inj⟩
theorem Slots.set (x : Slots wa Hf H σ s) {i : Nat} {v : V} {d : D} (r : Rep wa Hf v d) : Slots wa Hf H (σ.set i (some v)) (s.set i (some d)) := by
  have nd : ∀ xs, d ≠ .own xs := fun xs z => by subst z; exact rep_own r
  have key : ∀ (j : Nat) (e : Option D), (s.set i (some d))[j]? = some e → (j = i ∧ e = some d ∧ (σ.set i (some v))[j]? = some (some v)) ∨ (j ≠ i ∧ s[j]? = some e ∧ (σ.set i (some v))[j]? = σ[j]?) := fun j e h => by
    by_cases hj : j = i
    · subst hj
      rw [List.getElem?_set] at h
      split at h
      · split at h
        · rename_i h1 h2
          refine .inl ⟨rfl, (Option.some.inj h).symm, ?_⟩
          rw [List.getElem?_set_self (by rw [x.len]; exact h2)]
        · cases h
      · rename_i h1
        exact absurd rfl h1
    · refine .inr ⟨hj, ?_, List.getElem?_set_ne (Ne.symm hj)⟩
      rw [List.getElem?_set_ne (Ne.symm hj)] at h
      exact h
  refine ⟨by simp [x.len], fun j e h n => ?_, fun j xs h => ?_, fun j k xs ys p h1 h2 h3 h4 => ?_⟩
  · rcases key j _ h with ⟨rfl, e1, e2⟩ | ⟨_, e1, e2⟩
    · cases e1
      exact ⟨v, e2, r⟩
    · rw [e2]
      exact x.val j e e1 n
  · rcases key j _ h with ⟨rfl, e1, e2⟩ | ⟨_, e1, e2⟩
    · cases e1
      exact absurd rfl (nd xs)
    · rw [e2]
      exact x.own j xs e1
  · rcases key j _ h1 with ⟨_, e1, _⟩ | ⟨_, e1, e2⟩
    · cases e1
      exact absurd rfl (nd xs)
    · rcases key k _ h2 with ⟨_, f1, _⟩ | ⟨_, f1, f2⟩
      · cases f1
        exact absurd rfl (nd ys)
      · rw [e2] at h3
        rw [f2] at h4
        exact x.inj j k xs ys p e1 f1 h3 h4
theorem OwnNew.set (x : OwnNew H0 σ s) {i : Nat} {v : V} {d : D} (nd : ∀ xs, d ≠ .own xs) : OwnNew H0 (σ.set i (some v)) (s.set i (some d)) := fun j xs p h1 h2 => by
  by_cases hj : j = i
  · subst hj
    rw [List.getElem?_set] at h1
    split at h1
    · split at h1
      · cases h1
        exact absurd rfl (nd xs)
      · cases h1
    · rename_i hne
      exact absurd rfl hne
  · rw [List.getElem?_set_ne (Ne.symm hj)] at h1 h2
    exact x j xs p h1 h2
/-- a new list into a slot -/
theorem Slots.setOwn (x : Slots wa Hf H σ s) {i : Nat} {p : Addr} {vs : List V} {xs : List D} (hp : H p = some (.lst vs)) (hf : Hf p = none) (hw : p ≠ wa) (r : Reps wa Hf vs xs)
    (hn : ∀ (j : Nat) (ys : List D), s[j]? = some (some (.own ys)) → σ[j]? ≠ some (some (.ref p))) : Slots wa Hf H (σ.set i (some (.ref p))) (s.set i (some (.own xs))) := by
  have key : ∀ (j : Nat) (e : Option D), (s.set i (some (.own xs)))[j]? = some e → (j = i ∧ e = some (.own xs) ∧ (σ.set i (some (.ref p)))[j]? = some (some (.ref p))) ∨ (j ≠ i ∧ s[j]? = some e ∧ (σ.set i (some (.ref p)))[j]? = σ[j]?) := fun j e h => by
    by_cases hj : j = i
    · subst hj
      rw [List.getElem?_set] at h
      split at h
      · split at h
        · rename_i h1 h2
          refine .inl ⟨rfl, (Option.some.inj h).symm, ?_⟩
          rw [List.getElem?_set_self (by rw [x.len]; exact h2)]
        · cases h
      · rename_i h1
        exact absurd rfl h1
    · refine .inr ⟨hj, ?_, List.getElem?_set_ne (Ne.symm hj)⟩
      rw [List.getElem?_set_ne (Ne.symm hj)] at h
      exact h
  refine ⟨by simp [x.len], fun j e h n => ?_, fun j ys h => ?_, fun j k ys zs q h1 h2 h3 h4 => ?_⟩
  · rcases key j _ h with ⟨rfl, e1, e2⟩ | ⟨_, e1, e2⟩
    · cases e1
      exact absurd rfl (n xs)
    · rw [e2]
      exact x.val j e e1 n
  · rcases key j _ h with ⟨rfl, e1, e2⟩ | ⟨_, e1, e2⟩
    · cases e1
      exact ⟨p, vs, e2, hp, hf, hw, r⟩
    · rw [e2]
      exact x.own j ys e1
  · rcases key j _ h1 with ⟨hji, e1, e2⟩ | ⟨hji, e1, e2⟩
    · rcases key k _ h2 with ⟨hki, f1, f2⟩ | ⟨_, f1, f2⟩
      · rw [hji, hki]
      · rw [e2] at h3
        cases h3
        rw [f2] at h4
        exact absurd h4 (hn k zs f1)
    · rcases key k _ h2 with ⟨_, f1, f2⟩ | ⟨_, f1, f2⟩
      · rw [f2] at h4
        cases h4
        rw [e2] at h3
        exact absurd h3 (hn j ys e1)
      · rw [e2] at h3
        rw [f2] at h4
        exact x.inj j k ys zs q e1 f1 h3 h4
theorem OwnNew.setOwn (x : OwnNew H0 σ s) {i : Nat} {p : Addr} {xs : List D} (hl : σ.length = s.length) (h0 : H0 p = none) : OwnNew H0 (σ.set i (some (.ref p))) (s.set i (some (.own xs))) := fun j ys q h1 h2 => by
  by_cases hj : j = i
  · subst hj
    rw [List.getElem?_set] at h1
    split at h1
    · split at h1
      · rename_i _ hlt
        rw [List.getElem?_set_self (by rw [hl]; exact hlt)] at h2
        cases h2
        exact h0
      · cases h1
    · rename_i hne
      exact absurd rfl hne
  · rw [List.getElem?_set_ne (Ne.symm hj)] at h1 h2
    exact x j ys q h1 h2
/-- a slot's own list is written -/
theorem Slots.write (x : Slots wa Hf H σ s) {i : Nat} {xs ys : List D} {p : Addr} {ws : List V} (hi : s[i]? = some (some (.own xs))) (hp : σ[i]? = some (some (.ref p))) (r : Reps wa Hf ws ys) :
    Slots wa Hf (upd H p (.lst ws)) σ (s.set i (some (.own ys))) := by
  have hlt : i < s.length := (List.getElem?_eq_some_iff.mp hi).1
  have key : ∀ (j : Nat) (e : Option D), (s.set i (some (.own ys)))[j]? = some e → (j = i ∧ e = some (.own ys)) ∨ (j ≠ i ∧ s[j]? = some e) := fun j e h => by
    by_cases hj : j = i
    · subst hj
      rw [List.getElem?_set_self hlt] at h
      exact .inl ⟨rfl, (Option.some.inj h).symm⟩
    · rw [List.getElem?_set_ne (Ne.symm hj)] at h
      exact .inr ⟨hj, h⟩
  obtain ⟨p', vs, h1, h2, h3, h4, h5⟩ := x.own i xs hi
  rw [hp] at h1
  cases h1
  refine ⟨by simp [x.len], fun j e h n => ?_, fun j zs h => ?_, fun j k zs us q e1 e2 e3 e4 => ?_⟩
  · rcases key j _ h with ⟨_, e1⟩ | ⟨_, e1⟩
    · cases e1
      exact absurd rfl (n ys)
    · exact x.val j e e1 n
  · rcases key j _ h with ⟨rfl, e1⟩ | ⟨hj, e1⟩
    · cases e1
      exact ⟨p, ws, hp, upd_same, h3, h4, r⟩
    · obtain ⟨q, us, k1, k2, k3, k4, k5⟩ := x.own j zs e1
      have hne : q ≠ p := fun z => by
        subst z
        exact hj (x.inj j i zs xs q e1 hi k1 hp)
      exact ⟨q, us, k1, by rw [upd_ne hne]; exact k2, k3, k4, k5⟩
  · have o1 : ∃ z, s[j]? = some (some (.own z)) := by
      rcases key j _ e1 with ⟨rfl, _⟩ | ⟨_, f⟩
      · exact ⟨xs, hi⟩
      · exact ⟨zs, f⟩
    have o2 : ∃ z, s[k]? = some (some (.own z)) := by
      rcases key k _ e2 with ⟨rfl, _⟩ | ⟨_, f⟩
      · exact ⟨xs, hi⟩
      · exact ⟨us, f⟩
    obtain ⟨z1, o1⟩ := o1
    obtain ⟨z2, o2⟩ := o2
    exact x.inj j k z1 z2 q o1 o2 e3 e4
/-- a slot's own list is read from now on -/
theorem Slots.frz (x : Slots wa Hf H σ s) {i : Nat} {xs : List D} {p : Addr} {vs : List V} (hi : s[i]? = some (some (.own xs))) (hp : σ[i]? = some (some (.ref p))) (hv : H p = some (.lst vs)) :
    Slots wa (upd Hf p (.lst vs)) H σ (s.set i (some (.lst xs))) := by
  have hlt : i < s.length := (List.getElem?_eq_some_iff.mp hi).1
  obtain ⟨p', vs', h1, h2, h3, h4, h5⟩ := x.own i xs hi
  rw [hp] at h1
  cases h1
  rw [hv] at h2
  cases h2
  have e0 : Ex Hf (upd Hf p (.lst vs)) := Ex.new h3
  have key : ∀ (j : Nat) (e : Option D), (s.set i (some (.lst xs)))[j]? = some e → (j = i ∧ e = some (.lst xs)) ∨ (j ≠ i ∧ s[j]? = some e) := fun j e h => by
    by_cases hj : j = i
    · subst hj
      rw [List.getElem?_set_self hlt] at h
      exact .inl ⟨rfl, (Option.some.inj h).symm⟩
    · rw [List.getElem?_set_ne (Ne.symm hj)] at h
      exact .inr ⟨hj, h⟩
  refine ⟨by simp [x.len], fun j e h n => ?_, fun j zs h => ?_, fun j k zs us q e1 e2 e3 e4 => ?_⟩
  · rcases key j _ h with ⟨rfl, e1⟩ | ⟨_, e1⟩
    · cases e1
      exact ⟨_, hp, .lst upd_same (h5.mono e0)⟩
    · obtain ⟨v, k1, k2⟩ := x.val j e e1 n
      exact ⟨v, k1, k2.mono e0⟩
  · rcases key j _ h with ⟨_, e1⟩ | ⟨hj, e1⟩
    · cases e1
    · obtain ⟨q, us, k1, k2, k3, k4, k5⟩ := x.own j zs e1
      have hne : q ≠ p := fun z => by
        subst z
        exact hj (x.inj j i zs xs q e1 hi k1 hp)
      exact ⟨q, us, k1, k2, by rw [upd_ne hne]; exact k3, k4, k5.mono e0⟩
  · rcases key j _ e1 with ⟨_, f⟩ | ⟨_, f⟩
    · cases f
    · rcases key k _ e2 with ⟨_, f2⟩ | ⟨_, f2⟩
      · cases f2
      · exact x.inj j k zs us q f f2 e3 e4
theorem OwnNew.sub {s' : Sl} (x : OwnNew H0 σ s) (h : ∀ (i : Nat) xs, s'[i]? = some (some (.own xs)) → ∃ ys, s[i]? = some (some (.own ys))) : OwnNew H0 σ s' := fun i xs p h1 h2 => by
  obtain ⟨ys, e⟩ := h i xs h1
  exact x i ys p e h2
end
end DL

set_option maxHeartbeats 2000000
namespace DL
open PySem PySem.Spec PyProof.Rows L2
variable [OldT]
open Evl (Ex)
abbrev Rl (β α : Type) := Addr → Hp → β → α → Prop
abbrev rD : Rl V D := Rep
abbrev rAs : Rl (List V) (List D) := Reps
abbrev rB : Rl Bool Bool := fun _ _ b c => b = c
abbrev rO : Rl (Option Int) (Option Int) := fun _ _ b c => b = c
/-- a fresh list -/
abbrev Er (mg : Str → Option Value) (W : WX) (wa : Addr) (σ : L2.St) : Exn → Wl → Hp → Hp → Prop := fun x _ H' Hf' => ∀ cls dx, ErrV mg wa Hf' x cls dx → W cls dx σ H'
def lf {α β : Type} (rel : Rl β α) (mg : Str → Option Value) (W : WX) (E : Sl → Wl → R α) : L2.St → Hp → (β → Hp → Prop) → Prop := fun σ H Q =>
  ∃ wa Hf sD w, Base wa Hf H w ∧ Slots wa Hf H σ sD ∧ Fin wa Hf H (E sD w) (fun d _ H' Hf' => ∀ v, rel wa Hf' v d → Q v H') (Er mg W wa σ)
/-- the same, the value a list that is new -/
def lfL (mg : Str → Option Value) (W : WX) (E : Sl → Wl → R (List D)) : TE := fun σ H Q =>
  ∃ wa Hf sD w, Base wa Hf H w ∧ Slots wa Hf H σ sD ∧ Fin wa Hf H (E sD w) (fun ds _ H' Hf' => ∀ p vs, H p = none → H' p = some (.lst vs) → Hf' p = none → p ≠ wa → Reps wa Hf' vs ds → Q (.ref p) H') (Er mg W wa σ)
abbrev lE := lf rD
abbrev lA := lf rAs
abbrev lT := lf rB
abbrev lO := lf rO
section
variable {α β γ δ : Type} {X : Cx} {mg : Str → Option Value} {W : WX} {e a b c : Expr} {pos : Pos} {σ : L2.St} {H : Hp}
theorem weakE {t t' : TE} (h : PE X e t) (i : ∀ σ H Q, t' σ H Q → t σ H Q) : PE X e t' := ⟨fun pins s σ H Q I q => h.run pins s σ H Q I (i σ H Q q)⟩
theorem weakT {t t' : TT} (h : PT X e t) (i : ∀ σ H Q, t' σ H Q → t σ H Q) : PT X e t' := ⟨fun pins s σ H Q I q => h.run pins s σ H Q I (i σ H Q q)⟩
theorem weakW {t t' : TT} (h : PW X e t) (i : ∀ σ H Q, t' σ H Q → t σ H Q) : PW X e t' := ⟨fun wh pins s σ H Q I q => h.run wh pins s σ H Q I (i σ H Q q)⟩
theorem weakA {es : List Expr} {t t' : TA} (h : PA X es t) (i : ∀ σ H Q, t' σ H Q → t σ H Q) : PA X es t' := ⟨fun p pins s σ H Q I q => h.run p pins s σ H Q I (i σ H Q q)⟩
theorem weakO {o : Option Expr} {t t' : TO} (h : PO X o t) (i : ∀ σ H Q, t' σ H Q → t σ H Q) : PO X o t' := ⟨fun pins s σ H Q I q => h.run pins s σ H Q I (i σ H Q q)⟩
theorem orE {t t' : TE} (h : PE X e t) (h' : PE X e t') : PE X e (fun σ H Q => t σ H Q ∨ t' σ H Q) := ⟨fun pins s σ H Q I q => q.elim (fun q => h.run pins s σ H Q I q) fun q => h'.run pins s σ H Q I q⟩
theorem orT {t t' : TT} (h : PT X e t) (h' : PT X e t') : PT X e (fun σ H Q => t σ H Q ∨ t' σ H Q) := ⟨fun pins s σ H Q I q => q.elim (fun q => h.run pins s σ H Q I q) fun q => h'.run pins s σ H Q I q⟩
/-! ### names, constants -/
def getS (s : Sl) (i : Nat) : Option D := match s[i]? with
  | some (some (.own _)) => none
  | some (some d) => some d
  | _ => none
def eVar (i : Nat) : DE := fun s w => match getS s i with
  | some d => .ok d w
  | none => .no
def eC (d : D) : DE := fun _ w => .ok d w
theorem getS_some {wa : Addr} {Hf : Hp} {s : Sl} {i : Nat} {d : D} (x : Slots wa Hf H σ s) (h : getS s i = some d) : ∃ v, σ[i]? = some (some v) ∧ Rep wa Hf v d := by
  unfold getS at h
  split at h
  · cases h
  · rename_i d' hn hi
    cases h
    exact x.val i d hi fun xs z => hn xs z
  · cases h
theorem pd_var (i : Nat) {x : Str} (hN : X.N[i]? = some x := by rfl) (hv : Vis X.env.scope x := by first | exact Or.inl rfl | exact Or.inr (Or.inl rfl) | exact Or.inr (Or.inr rfl)) (hd : (x == ("__debug__" : Str)) = false := by decide)
    (hcd : (x == ("__classdict__" : Str)) = false := by decide) : PE X (.Name x pos) (lE mg W (eVar i)) := weakE (pe_var hN hv hd hcd) fun σ H Q h => by
  obtain ⟨wa, Hf, sD, w, hb, hs, hf⟩ := h
  unfold eVar at hf
  split at hf
  · rename_i d hi
    obtain ⟨v, h1, h2⟩ := getS_some hs hi
    exact ⟨v, h1, hf.here hb v h2⟩
  · exact hf.elim
theorem pd_c {v : V} {d : D} (h : PE X e (tC v)) (r : ∀ wa Hf, Rep wa Hf v d) : PE X e (lE mg W (eC d)) := weakE h fun σ H Q h => by
  obtain ⟨wa, Hf, sD, w, hb, hs, hf⟩ := h
  exact hf.here hb v (r _ _)
theorem pd_int {i j} : PE X (.Constant (.int i) j pos) (lE mg W (eC (.int i))) := pd_c pe_int fun _ _ => .int i
theorem pd_bl {i j} : PE X (.Constant (.bool i) j pos) (lE mg W (eC (.bl i))) := pd_c pe_bl fun _ _ => .bl i
theorem pd_non {j} : PE X (.Constant .none j pos) (lE mg W (eC .non)) := pd_c pe_non fun _ _ => .non
theorem pd_str {i j} : PE X (.Constant (.str i) j pos) (lE mg W (eC (.str i))) := pd_c pe_str fun _ _ => .str i
theorem pd_globI {x : Str} {i : Int} {t : Tok} (hg : Gl X x) (hm : X.mg x = some (.int i t)) (hd : (x == ("__debug__" : Str)) = false := by decide) : PE X (.Name x pos) (lE mg W (eC (.int i))) := pd_c (pe_glob hg hm (v := .int i) ⟨t, rfl⟩ hd) fun _ _ => .int i
theorem pd_ty {x : Str} {n : String} (hg : Gl X x) (hm : X.mg x = none) (hv : bootBuiltins x = some (.type n)) (hn : x ≠ "__name__" := by decide) (hd : (x == ("__debug__" : Str)) = false := by decide) : PE X (.Name x pos) (lE mg W (eC (.ty n))) :=
  pd_c (pe_bltn (v := .ty n) hg hm hv rfl hn hd) fun _ _ => .ty n

/-! ### operations on values -/
/-- a two-place rule does what f tells -/
def OpD (r : R2) (f : Wl → D → D → Option D) : Prop := ∀ wa Hf H w x y u v z Q, Base wa Hf H w → Rep wa Hf u x → Rep wa Hf v y → f w x y = some z →
  (∀ H' Hf', Go wa H Hf H' Hf' → Base wa Hf' H' w → ∀ v', Rep wa Hf' v' z → Q v' H') → r u v H Q
def UnD (r : V → Hp → VK → Prop) (f : Wl → D → Option D) : Prop := ∀ wa Hf H w x u z Q, Base wa Hf H w → Rep wa Hf u x → f w x = some z →
  (∀ H' Hf', Go wa H Hf H' Hf' → Base wa Hf' H' w → ∀ v', Rep wa Hf' v' z → Q v' H') → r u H Q
def CaD (r : List V → Hp → VK → Prop) (f : Wl → List D → Option D) : Prop := ∀ wa Hf H w ds us z Q, Base wa Hf H w → Reps wa Hf us ds → f w ds = some z →
  (∀ H' Hf', Go wa H Hf H' Hf' → Base wa Hf' H' w → ∀ v', Rep wa Hf' v' z → Q v' H') → r us H Q
/-- a call that makes a list -/
def CaL (r : List V → Hp → VK → Prop) (f : Wl → List D → Option (List D)) : Prop := ∀ wa Hf H w ds us zs Q, Base wa Hf H w → Reps wa Hf us ds → f w ds = some zs →
  (∀ H' Hf' p vs, Go wa H Hf H' Hf' → Base wa Hf' H' w → H p = none → H' p = some (.lst vs) → Hf' p = none → p ≠ wa → Reps wa Hf' vs zs → Q (.ref p) H') → r us H Q
def OpL (r : R2) (f : Wl → D → D → Option (List D)) : Prop := ∀ wa Hf H w x y u v zs Q, Base wa Hf H w → Rep wa Hf u x → Rep wa Hf v y → f w x y = some zs →
  (∀ H' Hf' p vs, Go wa H Hf H' Hf' → Base wa Hf' H' w → H p = none → H' p = some (.lst vs) → Hf' p = none → p ≠ wa → Reps wa Hf' vs zs → Q (.ref p) H') → r u v H Q
def opt {α : Type} (o : Option α) (w : Wl) : R α := match o with
  | some z => .ok z w
  | none => .no
@[simp] theorem opt_some {α : Type} {z : α} {w : Wl} : opt (some z) w = .ok z w := rfl
@[simp] theorem opt_none {α : Type} {w : Wl} : opt (none : Option α) w = .no := rfl
theorem Fin.opt {α : Type} {wa : Addr} {Hf H : Hp} {o : Option α} {w : Wl} {Ok : α → Wl → Hp → Hp → Prop} {Er : Exn → Wl → Hp → Hp → Prop} (h : Fin wa Hf H (opt o w) Ok Er) : ∃ z, o = some z ∧ ∀ H' Hf', Go wa H Hf H' Hf' → Base wa Hf' H' w → Ok z w H' Hf' := by
  cases o with
  | none => exact h.elim
  | some z => exact ⟨z, rfl, h⟩
def eBin (f : Wl → D → D → Option D) (A B : DE) : DE := fun s w => (A s w).bind fun x w1 => (B s w1).bind fun y w2 => opt (f w2 x y) w2
def eUn (f : Wl → D → Option D) (A : DE) : DE := fun s w => (A s w).bind fun x w1 => opt (f w1 x) w1
def eCB (f : Wl → List D → Option D) (A : DA) : DE := fun s w => (A s w).bind fun x w1 => opt (f w1 x) w1
variable {A B C : DE} {r r' : R2} {f g : Wl → D → D → Option D}

theorem bin_ok {Q : VK} (hf : OpD r f) (h : lE mg W (eBin f A B) σ H Q) : tOp r (lE mg W A) (lE mg W B) σ H Q := by
  obtain ⟨wa, Hf, sD, w, hb, hs, h⟩ := h
  refine ⟨wa, Hf, sD, w, hb, hs, h.bind.mono (fun x w1 H1 Hf1 g1 b1 q v rv => ?_) (fun _ _ _ _ _ _ q => q)⟩
  refine ⟨wa, Hf1, sD, w1, b1, hs.go g1, q.bind.mono (fun y w2 H2 Hf2 g2 b2 q2 v2 rv2 => ?_) (fun _ _ _ _ _ _ q => q)⟩
  obtain ⟨z, e, q3⟩ := q2.opt
  exact hf wa Hf2 H2 w2 x y v v2 z Q b2 (rv.mono g2.ex) rv2 e q3
theorem un_ok {Q : VK} {r : V → Hp → VK → Prop} {f : Wl → D → Option D} (hf : UnD r f) (h : lE mg W (eUn f A) σ H Q) : tUn r (lE mg W A) σ H Q := by
  obtain ⟨wa, Hf, sD, w, hb, hs, h⟩ := h
  refine ⟨wa, Hf, sD, w, hb, hs, h.bind.mono (fun x w1 H1 Hf1 g1 b1 q v rv => ?_) (fun _ _ _ _ _ _ q => q)⟩
  obtain ⟨z, e, q3⟩ := q.opt
  exact hf wa Hf1 H1 w1 x v z Q b1 rv e q3
theorem cb_ok {Q : VK} {r : List V → Hp → VK → Prop} {f : Wl → List D → Option D} {A : DA} (hf : CaD r f) (h : lE mg W (eCB f A) σ H Q) : tCB r (lA mg W A) σ H Q := by
  obtain ⟨wa, Hf, sD, w, hb, hs, h⟩ := h
  refine ⟨wa, Hf, sD, w, hb, hs, h.bind.mono (fun x w1 H1 Hf1 g1 b1 q v rv => ?_) (fun _ _ _ _ _ _ q => q)⟩
  obtain ⟨z, e, q3⟩ := q.opt
  exact hf wa Hf1 H1 w1 x v z Q b1 rv e q3
def eCBL (f : Wl → List D → Option (List D)) (A : DA) : DA := fun s w => (A s w).bind fun x w1 => opt (f w1 x) w1
def eBinL (f : Wl → D → D → Option (List D)) (A B : DE) : DA := fun s w => (A s w).bind fun x w1 => (B s w1).bind fun y w2 => opt (f w2 x y) w2
theorem cbL_ok {Q : VK} {r : List V → Hp → VK → Prop} {f : Wl → List D → Option (List D)} {A : DA} (hf : CaL r f) (h : lfL mg W (eCBL f A) σ H Q) : tCB r (lA mg W A) σ H Q := by
  obtain ⟨wa, Hf, sD, w, hb, hs, h⟩ := h
  refine ⟨wa, Hf, sD, w, hb, hs, h.bind.mono (fun x w1 H1 Hf1 g1 b1 q v rv => ?_) (fun _ _ _ _ _ _ q => q)⟩
  obtain ⟨z, e, q3⟩ := q.opt
  exact hf wa Hf1 H1 w1 x v z Q b1 rv e fun H' Hf' p vs g b n e1 e2 e3 r => q3 H' Hf' g b p vs (g1.free n) e1 e2 e3 r
theorem binL_ok {Q : VK} {f : Wl → D → D → Option (List D)} (hf : OpL r f) (h : lfL mg W (eBinL f A B) σ H Q) : tOp r (lE mg W A) (lE mg W B) σ H Q := by
  obtain ⟨wa, Hf, sD, w, hb, hs, h⟩ := h
  refine ⟨wa, Hf, sD, w, hb, hs, h.bind.mono (fun x w1 H1 Hf1 g1 b1 q v rv => ?_) (fun _ _ _ _ _ _ q => q)⟩
  refine ⟨wa, Hf1, sD, w1, b1, hs.go g1, q.bind.mono (fun y w2 H2 Hf2 g2 b2 q2 v2 rv2 => ?_) (fun _ _ _ _ _ _ q => q)⟩
  obtain ⟨z, e, q3⟩ := q2.opt
  exact hf wa Hf2 H2 w2 x y v v2 z Q b2 (rv.mono g2.ex) rv2 e fun H' Hf' p vs g b n e1 e2 e3 r => q3 H' Hf' g b p vs ((g1.trans g2).free n) e1 e2 e3 r
/-- a new list, read from now on -/
def eL (A : DA) : DE := fun s w => (A s w).bind fun ds w1 => .ok (.lst ds) w1
theorem eL_ok {Q : VK} {A : DA} (h : lE mg W (eL A) σ H Q) : lfL mg W A σ H Q := by
  obtain ⟨wa, Hf, sD, w, hb, hs, h⟩ := h
  refine ⟨wa, Hf, sD, w, hb, hs, ?_⟩
  unfold eL at h
  cases ea : A sD w with
  | ok ds w1 =>
    rw [ea] at h
    intro H1 Hf1 g1 b1 p vs n e1 e2 e3 rv
    have ex : Ex Hf1 (upd Hf1 p (.lst vs)) := Ex.new e2
    have g2 : Go wa H Hf H1 (upd Hf1 p (.lst vs)) := ⟨g1.keep, g1.ex.trans ex, fun a o h => by rw [upd_ne (ne_of_none h n)]; exact g1.new a o h, g1.there⟩
    have b2 : Base wa (upd Hf1 p (.lst vs)) H1 w1 := ⟨fun a u h => by
      by_cases hp : a = p
      · subst hp; rw [upd_same] at h; rw [← h]; exact e1
      · rw [upd_ne hp] at h; exact b1.ex a u h, b1.well, by rw [upd_ne (Ne.symm e3)]; exact b1.nw, b1.od.trans ex⟩
    exact h H1 _ g2 b2 (.ref p) (.lst upd_same (rv.mono ex))
  | er x w1 => rw [ea] at h; exact h
  | no => rw [ea] at h; exact h
theorem pd_L {A : DA} (h : PE X e (lfL mg W A)) : PE X e (lE mg W (eL A)) := weakE h fun _ _ _ q => eL_ok q
end
end DL

set_option maxHeartbeats 2000000
namespace DL
open PySem PySem.Spec PyProof.Rows L2
variable [OldT]
open Evl (Ex)
section
variable {α β γ δ : Type} {X : Cx} {mg : Str → Option Value} {W : WX} {e a b c : Expr} {pos : Pos} {σ : L2.St} {H : Hp} {A B C : DE} {r r' : R2} {f g : Wl → D → D → Option D}
theorem frzL {wa : Addr} {Hf H : Hp} {w : Wl} {Q : VK} {z : D} {vs : List V} {ds : List D} (hb : Base wa Hf H w) (rv : Reps wa Hf vs ds) (q : ∀ H' Hf', Go wa H Hf H' Hf' → Base wa Hf' H' w → ∀ v', Rep wa Hf' v' (.lst ds) → Q v' H') : ∀ p, H p = none → Q (.ref p) (upd H p (.lst vs)) := fun p hp =>
  q _ _ (Go.newF hb.ex hp) (hb.newF hp) _ (.lst upd_same (rv.mono (Ex.new (Evl.fresh_back hb.ex hp))))
theorem frzT {wa : Addr} {Hf H : Hp} {w : Wl} {Q : VK} {z : D} {vs : List V} {ds : List D} (hb : Base wa Hf H w) (rv : Reps wa Hf vs ds) (q : ∀ H' Hf', Go wa H Hf H' Hf' → Base wa Hf' H' w → ∀ v', Rep wa Hf' v' (.tup ds) → Q v' H') : ∀ p, H p = none → Q (.ref p) (upd H p (.tup vs)) := fun p hp =>
  q _ _ (Go.newF hb.ex hp) (hb.newF hp) _ (.tup upd_same (rv.mono (Ex.new (Evl.fresh_back hb.ex hp))))
/-! ### two-place operators -/
theorem pd_bin {op : Operator} (ho : OpR X (binaryOp op) r) (hf : OpD r f) (ha : PE X a (lE mg W A)) (hb : PE X b (lE mg W B)) : PE X (.BinOp a op b pos) (lE mg W (eBin f A B)) := weakE (pe_op ho ha hb) fun _ _ _ q => bin_ok hf q
theorem pd_un {op : UnaryOp} {r : V → Hp → VK → Prop} {f : Wl → D → Option D} (ho : UnR X (unaryOp op) r) (hf : UnD r f) (ha : PE X a (lE mg W A)) : PE X (.UnaryOp op a pos) (lE mg W (eUn f A)) := weakE (pe_un ho ha) fun _ _ _ q => un_ok hf q
def lim : Nat := 16000000
theorem lim_le {n : Nat} (h : n ≤ lim) : n ≤ sizeLine := by
  rw [sizeLine_eq]
  have : lim = 16000000 := rfl
  omega
def fAdd : Wl → D → D → Option D := fun _ x y => match x, y with
  | .int i, .int j => some (.int (i + j))
  | .tup xs, .tup ys => if xs.length + ys.length ≤ lim then some (.tup (xs ++ ys)) else none
  | .lst xs, .lst ys => if xs.length + ys.length ≤ lim then some (.lst (xs ++ ys)) else none
  | .str x, .str y => if x.length + y.length ≤ lim then some (.str (x ++ y)) else none
  | _, _ => none
def rAddS : R2 := fun x y H Q => ∃ i j, x = .str i ∧ y = .str j ∧ i.length + j.length ≤ sizeLine ∧ Q (.str (i ++ j)) H
def rAddA (K : PySem.W.Frag) : R2 := fun x y H Q => (rI0 (fun i j => .int (i + j)) x y H Q ∨ rCatA K x y H Q) ∨ rCat x y H Q ∨ rAddS x y H Q
theorem op_addA : OpR X (binaryOp .Add) (rAddA X.K) := (op_add.or op_catA).or (op_cat.or op_add_str)
theorem opd_add {K : PySem.W.Frag} : OpD (rAddA K) fAdd := by
  intro wa Hf H w x y u v z Q hb ru rv h q
  unfold fAdd at h
  split at h
  · cases h
    cases ru
    cases rv
    exact .inl (.inl ⟨_, _, rfl, rfl, q _ _ Go.refl hb _ (.int _)⟩)
  · split at h
    · rename_i hz
      cases h
      cases ru with
      | tup h1 r1 =>
        cases rv with
        | tup h2 r2 =>
          have l1 := r1.length
          have l2 := r2.length
          refine .inl (.inr ⟨_, _, _, _, rfl, rfl, SqT.of (hb.ex _ _ h1), SqT.of (hb.ex _ _ h2), lim_le (by omega), fun e => ?_, fun _ e => ?_, fun _ _ => frzT (z := .non) hb (r1.append r2) q⟩)
          · subst e
            cases r1
            exact q _ _ Go.refl hb _ (.tup h2 (by simpa using r2))
          · subst e
            cases r2
            exact q _ _ Go.refl hb _ (.tup h1 (by simpa using r1))
    · cases h
  · split at h
    · rename_i hz
      cases h
      cases ru with
      | lst h1 r1 =>
        cases rv with
        | lst h2 r2 =>
          have l1 := r1.length
          have l2 := r2.length
          exact .inr (.inl ⟨_, _, _, _, rfl, rfl, hb.ex _ _ h1, hb.ex _ _ h2, lim_le (by omega), frzL (z := .non) hb (r1.append r2) q⟩)
    · cases h
  · split at h
    · rename_i hz
      cases h
      cases ru
      cases rv
      exact .inr (.inr ⟨_, _, rfl, rfl, lim_le hz, q _ _ Go.refl hb _ (.str _)⟩)
    · cases h
  · cases h
theorem pd_add (ha : PE X a (lE mg W A)) (hb : PE X b (lE mg W B)) : PE X (.BinOp a .Add b pos) (lE mg W (eBin fAdd A B)) := pd_bin op_addA opd_add ha hb
def fSub : Wl → D → D → Option D := fun _ x y => match x, y with
  | .int i, .int j => some (.int (i - j))
  | _, _ => none
theorem pd_sub (ha : PE X a (lE mg W A)) (hb : PE X b (lE mg W B)) : PE X (.BinOp a .Sub b pos) (lE mg W (eBin fSub A B)) := pd_bin op_sub (fun wa Hf H w x y u v z Q hb ru rv h q => by
  unfold fSub at h
  split at h
  · cases h
    cases ru
    cases rv
    exact ⟨_, _, rfl, rfl, q _ _ Go.refl hb _ (.int _)⟩
  · cases h) ha hb
/-- factors that the model multiplies: together below a million bits -/
def mulOk (i j : Int) : Prop := i.natAbs.log2 + j.natAbs.log2 < 1000000
instance (i j : Int) : Decidable (mulOk i j) := by unfold mulOk; infer_instance
def fMul : Wl → D → D → Option D := fun _ x y => match x, y with
  | .int i, .int j => if mulOk i j then some (.int (i * j)) else none
  | .lst xs, .int k => if 0 ≤ k ∧ k ≤ 1000000 ∧ xs.length * k.toNat ≤ lim then some (.lst (List.replicate k.toNat xs).flatten) else none
  | .tup xs, .int k => if xs ≠ [] ∧ 2 ≤ k ∧ k ≤ 1000 ∧ xs.length ≤ 1000 then some (.tup (List.replicate k.toNat xs).flatten) else none
  | _, _ => none
def rMulA (K : PySem.W.Frag) : R2 := fun x y H Q => rI CMulW (fun i j => .int (i * j)) x y H Q ∨ rRep x y H Q ∨ rRepT K x y H Q
theorem op_mulA : OpR X (binaryOp .Mult) (rMulA X.K) := op_mulW.or (op_rep.or op_repT)
theorem opd_mul {K : PySem.W.Frag} : OpD (rMulA K) fMul := by
  intro wa Hf H w x y u v z Q hb ru rv h q
  unfold fMul at h
  split at h
  · split at h
    · rename_i hm
      cases h
      cases ru
      cases rv
      exact .inl ⟨_, _, rfl, rfl, hm, q _ _ Go.refl hb _ (.int _)⟩
    · cases h
  · split at h
    · rename_i hm
      cases h
      cases rv
      cases ru with
      | lst h1 r1 =>
        have l1 := r1.length
        exact .inr (.inl ⟨_, _, _, rfl, rfl, hb.ex _ _ h1, by omega, by omega, by rw [l1]; exact lim_le hm.2.2, frzL (z := .non) hb (r1.rep _) q⟩)
    · cases h
  · split at h
    · rename_i hm
      cases h
      cases rv
      cases ru with
      | tup h1 r1 =>
        have l1 := r1.length
        refine .inr (.inr ⟨_, _, _, rfl, rfl, SqT.of (hb.ex _ _ h1), fun e => ?_, hm.2.1, hm.2.2.1, by omega, frzT (z := .non) hb (r1.rep _) q⟩)
        subst e
        cases r1
        exact hm.1 rfl
    · cases h
  · cases h
theorem pd_mul (ha : PE X a (lE mg W A)) (hb : PE X b (lE mg W B)) : PE X (.BinOp a .Mult b pos) (lE mg W (eBin fMul A B)) := pd_bin op_mulA opd_mul ha hb
def divOk (j : Int) : Prop := j ≠ 0 ∧ j.natAbs.log2 < 9000
instance (j : Int) : Decidable (divOk j) := by unfold divOk; infer_instance
def fDiv : Wl → D → D → Option D := fun _ x y => match x, y with
  | .int i, .int j => if divOk j then some (.int (i.fdiv j)) else none
  | _, _ => none
theorem op_divA : OpR X (binaryOp .FloorDiv) (rI (fun _ j => divOk j) fun i j => .int (i.fdiv j)) := opI fun i j _ _ _ _ _ hc q => floordiv_int hc.1 q (.inl (PyProof.noPylong_of_log2 hc.2))
theorem pd_div (ha : PE X a (lE mg W A)) (hb : PE X b (lE mg W B)) : PE X (.BinOp a .FloorDiv b pos) (lE mg W (eBin fDiv A B)) := pd_bin op_divA (fun wa Hf H w x y u v z Q hb ru rv h q => by
  unfold fDiv at h
  split at h
  · split at h
    · rename_i hm
      cases h
      cases ru
      cases rv
      exact ⟨_, _, rfl, rfl, hm, q _ _ Go.refl hb _ (.int _)⟩
    · cases h
  · cases h) ha hb
def fMod : Wl → D → D → Option D := fun _ x y => match x, y with
  | .int i, .int j => if j ≠ 0 then some (.int (i.fmod j)) else none
  | _, _ => none
theorem pd_mod (ha : PE X a (lE mg W A)) (hb : PE X b (lE mg W B)) : PE X (.BinOp a .Mod b pos) (lE mg W (eBin fMod A B)) := pd_bin op_modN (fun wa Hf H w x y u v z Q hb ru rv h q => by
  unfold fMod at h
  split at h
  · split at h
    · rename_i hm
      cases h
      cases ru
      cases rv
      exact ⟨_, _, rfl, rfl, hm, q _ _ Go.refl hb _ (.int _)⟩
    · cases h
  · cases h) ha hb
def fPow : Wl → D → D → Option D := fun _ x y => match x, y with
  | .int i, .int j => if 0 ≤ j ∧ j ≤ 1000000 ∧ i.natAbs < 18446744073709551616 then some (.int (i ^ j.toNat)) else none
  | _, _ => none
theorem pd_pow (ha : PE X a (lE mg W A)) (hb : PE X b (lE mg W B)) : PE X (.BinOp a .Pow b pos) (lE mg W (eBin fPow A B)) := pd_bin op_pow (fun wa Hf H w x y u v z Q hb ru rv h q => by
  unfold fPow at h
  split at h
  · split at h
    · rename_i hm
      cases h
      cases ru
      cases rv
      exact ⟨_, _, rfl, rfl, ⟨hm.1, hm.2.1, hm.2.2⟩, q _ _ Go.refl hb _ (.int _)⟩
    · cases h
  · cases h) ha hb
def fNeg : Wl → D → Option D := fun _ x => match x with
  | .int i => some (.int (-i))
  | _ => none
theorem pd_neg (ha : PE X a (lE mg W A)) : PE X (.UnaryOp .USub a pos) (lE mg W (eUn fNeg A)) := pd_un un_neg (fun wa Hf H w x u z Q hb ru h q => by
  unfold fNeg at h
  split at h
  · cases h
    cases ru
    exact ⟨_, rfl, q _ _ Go.refl hb _ (.int _)⟩
  · cases h) ha

/-! ### comparisons -/
def fCmp (p : Int → Int → Bool) : Wl → D → D → Option D := fun _ x y => match x, y with
  | .int i, .int j => some (.bl (p i j))
  | _, _ => none
theorem opd_cmp {p : Int → Int → Bool} : OpD (rI0 fun i j => .bl (p i j)) (fCmp p) := by
  intro wa Hf H w x y u v z Q hb ru rv h q
  unfold fCmp at h
  split at h
  · cases h
    cases ru
    cases rv
    exact ⟨_, _, rfl, rfl, q _ _ Go.refl hb _ (.bl _)⟩
  · cases h
abbrev fLt := fCmp fun i j => decide (i < j)
abbrev fLe := fCmp fun i j => decide (i ≤ j)
abbrev fGt := fCmp fun i j => decide (j < i)
abbrev fGe := fCmp fun i j => decide (j ≤ i)
/-- a comparison, by its operator's rule -/
theorem pd_cmp {op : CmpOp} (ho : OpR X (compareOp op) r) (hf : OpD r f) (ha : PE X a (lE mg W A)) (hb : PE X b (lE mg W B)) (hm : behindInMarks op b = false) : PE X (.Compare a [op] [b] pos) (lE mg W (eBin f A B)) := weakE (pe_cmpR ho ha hb hm) fun _ _ _ q => bin_ok hf q
theorem pd_lt (ha : PE X a (lE mg W A)) (hb : PE X b (lE mg W B)) : PE X (.Compare a [.Lt] [b] pos) (lE mg W (eBin fLt A B)) := pd_cmp op_lt opd_cmp ha hb (nomark _)
theorem pd_le (ha : PE X a (lE mg W A)) (hb : PE X b (lE mg W B)) : PE X (.Compare a [.LtE] [b] pos) (lE mg W (eBin fLe A B)) := pd_cmp op_le opd_cmp ha hb (nomark _)
theorem pd_gt (ha : PE X a (lE mg W A)) (hb : PE X b (lE mg W B)) : PE X (.Compare a [.Gt] [b] pos) (lE mg W (eBin fGt A B)) := pd_cmp op_gt opd_cmp ha hb (nomark _)
theorem pd_ge (ha : PE X a (lE mg W A)) (hb : PE X b (lE mg W B)) : PE X (.Compare a [.GtE] [b] pos) (lE mg W (eBin fGe A B)) := pd_cmp op_ge opd_cmp ha hb (nomark _)
mutual
def toPD : D → PyData
  | .non => .none
  | .bl b => .bool b
  | .int i => .int i
  | .str x => .str x
  | .lst xs => .list (toPDs xs)
  | .nl xs => .list (toPDs xs)
  | .tup xs => .tuple (toPDs xs)
  | _ => .dict []
def toPDs : List D → List PyData
  | [] => []
  | x :: xs => toPD x :: toPDs xs
end
section
variable {K : PySem.W.Frag} {wa : Addr} {Hf : Hp} {w : Wl}
mutual
theorem Rep.dp (hb : Base wa Hf H w) : ∀ {v : V} {d : D}, Rep wa Hf v d → (toPD d).canLay0 = true → Dp K H v (toPD d)
  | _, _, .non, _ => .non
  | _, _, .bl b, _ => .bl b
  | _, _, .int b, _ => .int b
  | _, _, .str b, _ => .str b
  | _, _, .lst h r, c => .lst (SqL.of (hb.ex _ _ h)) (Reps.dp hb r (by simpa [toPD, PyData.canLay0] using c))
  | _, _, .nl h o r, c => .lst (SqL.of (hb.ex _ _ h)) (Reps.dp hb r (by simpa [toPD, PyData.canLay0] using c))
  | _, _, .tup h r, c => .tup (SqT.of (hb.ex _ _ h)) (Reps.dp hb r (by simpa [toPD, PyData.canLay0] using c))
  | _, _, .well, c => by simp [toPD, PyData.canLay0] at c
  | _, _, .ref a, c => by simp [toPD, PyData.canLay0] at c
  | _, _, .ty a, c => by simp [toPD, PyData.canLay0] at c
theorem Reps.dp (hb : Base wa Hf H w) : ∀ {vs : List V} {ds : List D}, Reps wa Hf vs ds → PyData.canLayAll0 (toPDs ds) = true → DpAll K H vs (toPDs ds)
  | _, _, .nil, _ => .nil
  | _, d :: ds, .cons h r, c => by
    have c' : (toPD d).canLay0 = true ∧ PyData.canLayAll0 (toPDs ds) = true := by simpa [toPDs, PyData.canLayAll0] using c
    exact .cons (Rep.dp hb h c'.1) (Reps.dp hb r c'.2)
end
theorem shaped_lay {d : PyData} (h : SeqAt.shaped d = true) : d.canLay0 = true := by
  unfold SeqAt.shaped at h
  rw [Bool.and_eq_true] at h
  exact h.1
end
def okD (x : D) : Bool := SeqAt.shaped (toPD x)
def eqD (x y : D) : Bool := PyData.eqv (toPD x) (toPD y)
def fEq : Wl → D → D → Option D := fun _ x y => if okD x && okD y then some (.bl (eqD x y)) else none
def fNe : Wl → D → D → Option D := fun _ x y => if okD x && okD y then some (.bl (!eqD x y)) else none
theorem opd_eq {K : PySem.W.Frag} : OpD (rEqD K) fEq := by
  intro wa Hf H w x y u v z Q hb ru rv h q
  unfold fEq at h
  split at h
  · rename_i hc
    rw [Bool.and_eq_true] at hc
    cases h
    exact ⟨_, _, ru.dp hb (shaped_lay hc.1), rv.dp hb (shaped_lay hc.2), hc.1, hc.2, q _ _ Go.refl hb _ (.bl _)⟩
  · cases h
theorem opd_ne {K : PySem.W.Frag} : OpD (rNeD K) fNe := by
  intro wa Hf H w x y u v z Q hb ru rv h q
  unfold fNe at h
  split at h
  · rename_i hc
    rw [Bool.and_eq_true] at hc
    cases h
    exact ⟨_, _, ru.dp hb (shaped_lay hc.1), rv.dp hb (shaped_lay hc.2), hc.1, hc.2, q _ _ Go.refl hb _ (.bl _)⟩
  · cases h
theorem pd_eq (hu : X.A.units + 64 < cLine) (ha : PE X a (lE mg W A)) (hb : PE X b (lE mg W B)) : PE X (.Compare a [.Eq] [b] pos) (lE mg W (eBin fEq A B)) := pd_cmp (op_eqD hu) opd_eq ha hb (nomark _)
theorem pd_ne (hu : X.A.units + 64 < cLine) (ha : PE X a (lE mg W A)) (hb : PE X b (lE mg W B)) : PE X (.Compare a [.NotEq] [b] pos) (lE mg W (eBin fNe A B)) := pd_cmp (op_neD hu) opd_ne ha hb (nomark _)
def fIsN : Wl → D → D → Option D := fun _ x y => match x, y with
  | .non, .non => some (.bl true)
  | .well, .non | .ref _, .non | .ty _, .non | .bl _, .non | .int _, .non | .str _, .non | .lst _, .non | .tup _, .non => some (.bl false)
  | _, _ => none
def fNotN : Wl → D → D → Option D := fun w x y => match fIsN w x y with
  | some (.bl k) => some (.bl (!k))
  | _ => none
theorem isN_of {wa : Addr} {Hf : Hp} {w : Wl} {x y z : D} {u v : V} (ru : Rep wa Hf u x) (rv : Rep wa Hf v y) (h : fIsN w x y = some z) : v = .non ∧ z = .bl (decide (u = .non)) := by
  unfold fIsN at h
  split at h <;> first
    | (cases h; cases ru; cases rv; exact ⟨rfl, rfl⟩)
    | cases h
theorem pd_isN (ha : PE X a (lE mg W A)) (hb : PE X b (lE mg W B)) : PE X (.Compare a [.Is] [b] pos) (lE mg W (eBin fIsN A B)) := pd_cmp op_isN (fun wa Hf H w x y u v z Q hb ru rv h q => by
  obtain ⟨e1, e2⟩ := isN_of ru rv h
  subst e2
  exact ⟨e1, q _ _ Go.refl hb _ (.bl _)⟩) ha hb (nomark _)
theorem pd_notN (ha : PE X a (lE mg W A)) (hb : PE X b (lE mg W B)) : PE X (.Compare a [.IsNot] [b] pos) (lE mg W (eBin fNotN A B)) := pd_cmp op_notN (fun wa Hf H w x y u v z Q hb ru rv h q => by
  unfold fNotN at h
  split at h
  · rename_i k hk
    cases h
    obtain ⟨e1, e2⟩ := isN_of ru rv hk
    cases e2
    exact ⟨e1, q _ _ Go.refl hb _ (.bl _)⟩
  · cases h) ha hb (nomark _)
/-- a op1 b op2 c -/
def eChain (f g : Wl → D → D → Option D) (A B C : DE) : DE := fun s w => (A s w).bind fun x w1 => (B s w1).bind fun y w2 => (opt (f w2 x y) w2).bind fun z w3 => match z with
  | .bl true => (C s w3).bind fun u w4 => opt (g w4 y u) w4
  | .bl false => .ok (.bl false) w3
  | _ => .no
theorem chain_ok {Q : VK} (hf : OpD r f) (hg : OpD r' g) (h : lE mg W (eChain f g A B C) σ H Q) : tChain r r' (lE mg W A) (lE mg W B) (lE mg W C) σ H Q := by
  obtain ⟨wa, Hf, sD, w, hb, hs, h⟩ := h
  refine ⟨wa, Hf, sD, w, hb, hs, h.bind.mono (fun x w1 H1 Hf1 g1 b1 q v rv => ?_) (fun _ _ _ _ _ _ q => q)⟩
  refine ⟨wa, Hf1, sD, w1, b1, hs.go g1, q.bind.mono (fun y w2 H2 Hf2 g2 b2 q2 v2 rv2 => ?_) (fun _ _ _ _ _ _ q => q)⟩
  obtain ⟨z, e, q3⟩ := q2.bind.opt
  refine hf wa Hf2 H2 w2 x y v v2 z _ b2 (rv.mono g2.ex) rv2 e fun H3 Hf3 g3 b3 v3 r3 => ?_
  have q4 := q3 H3 Hf3 g3 b3
  split at q4
  · cases r3
    refine ⟨true, rfl, iteT ?_⟩
    refine ⟨wa, Hf3, sD, _, b3, (hs.go g1).go (g2.trans g3), q4.bind.mono (fun u w4 H4 Hf4 g4 b4 q5 v4 r4 => ?_) (fun _ _ _ _ _ _ q => q)⟩
    obtain ⟨z2, e2, q6⟩ := q5.opt
    exact hg wa Hf4 H4 _ _ _ v2 v4 z2 Q b4 (rv2.mono (g3.trans g4).ex) r4 e2 q6
  · cases r3
    exact ⟨false, rfl, iteF (q4.here b3 _ (.bl false))⟩
  · exact q4.elim
theorem pd_chain {op op' : CmpOp} (ho : OpR X (compareOp op) r) (ho' : OpR X (compareOp op') r') (hf : OpD r f) (hg : OpD r' g) (ha : PE X a (lE mg W A)) (hb : PE X b (lE mg W B)) (hc : PE X c (lE mg W C))
    (hm : lastMarks [op, op'] [b, c] = false := by with_unfolding_all rfl) : PE X (.Compare a [op, op'] [b, c] pos) (lE mg W (eChain f g A B C)) := weakE (pe_chain ho ho' ha hb hc hm) fun _ _ _ q => chain_ok hf hg q

/-! ### and, or, not as values -/
def eAnd (A B : DE) : DE := fun s w => (A s w).bind fun x w1 => match x with
  | .bl true => B s w1
  | .bl false => .ok (.bl false) w1
  | _ => .no
def eOr (A B : DE) : DE := fun s w => (A s w).bind fun x w1 => match x with
  | .bl true => .ok (.bl true) w1
  | .bl false => B s w1
  | _ => .no
def eNot (A : DE) : DE := fun s w => (A s w).bind fun x w1 => match x with
  | .bl k => .ok (.bl (!k)) w1
  | _ => .no
variable {rest : List Expr}
theorem pd_one {op} (h : PE X a (lE mg W A)) : PE X (.BoolOp op [a] pos) (lE mg W A) := pe_one h
theorem pd_and (ha : PE X a (lE mg W A)) (hb : PE X (.BoolOp .And (b :: rest) pos) (lE mg W B)) : PE X (.BoolOp .And (a :: b :: rest) pos) (lE mg W (eAnd A B)) := weakE (pe_and ha hb) fun σ H Q h => by
  obtain ⟨wa, Hf, sD, w, hb, hs, h⟩ := h
  refine ⟨wa, Hf, sD, w, hb, hs, h.bind.mono (fun x w1 H1 Hf1 g1 b1 q v rv => ?_) (fun _ _ _ _ _ _ q => q)⟩
  split at q
  · cases rv
    exact ⟨true, rfl, iteT ⟨wa, Hf1, sD, w1, b1, hs.go g1, q⟩⟩
  · cases rv
    exact ⟨false, rfl, iteF (q.here b1 _ (.bl false))⟩
  · exact q.elim
theorem pd_or (ha : PE X a (lE mg W A)) (hb : PE X (.BoolOp .Or (b :: rest) pos) (lE mg W B)) : PE X (.BoolOp .Or (a :: b :: rest) pos) (lE mg W (eOr A B)) := weakE (pe_or ha hb) fun σ H Q h => by
  obtain ⟨wa, Hf, sD, w, hb, hs, h⟩ := h
  refine ⟨wa, Hf, sD, w, hb, hs, h.bind.mono (fun x w1 H1 Hf1 g1 b1 q v rv => ?_) (fun _ _ _ _ _ _ q => q)⟩
  split at q
  · cases rv
    exact ⟨true, rfl, iteT (q.here b1 _ (.bl true))⟩
  · cases rv
    exact ⟨false, rfl, iteF ⟨wa, Hf1, sD, w1, b1, hs.go g1, q⟩⟩
  · exact q.elim
theorem pd_not (ha : PE X a (lE mg W A)) : PE X (.UnaryOp .Not a pos) (lE mg W (eNot A)) := weakE (pe_not ha) fun σ H Q h => by
  obtain ⟨wa, Hf, sD, w, hb, hs, h⟩ := h
  refine ⟨wa, Hf, sD, w, hb, hs, h.bind.mono (fun x w1 H1 Hf1 g1 b1 q v rv => ?_) (fun _ _ _ _ _ _ q => q)⟩
  split at q
  · cases rv
    exact ⟨_, rfl, q.here b1 _ (.bl _)⟩
  · exact q.elim

/-! ### tests -/
def tE (A : DE) : DT := fun s w => (A s w).bind fun x w1 => match x with
  | .bl k => .ok k w1
  | _ => .no
def tAn (A B : DT) : DT := fun s w => (A s w).bind fun k w1 => if k then B s w1 else .ok false w1
def tOn (A B : DT) : DT := fun s w => (A s w).bind fun k w1 => if k then .ok true w1 else B s w1
def tNo (A : DT) : DT := fun s w => (A s w).bind fun k w1 => .ok (!k) w1
def truD : D → Option Bool
  | .non => some false
  | .bl b => some b
  | .int i => some (i != 0)
  | .str y => if y.length ≤ lim then some ((y.length : Int) != 0) else none
  | .lst xs => some (!xs.isEmpty)
  | .tup xs => some (!xs.isEmpty)
  | _ => none
def tTr (A : DE) : DT := fun s w => (A s w).bind fun x w1 => opt (truD x) w1
variable {S T : DT}
theorem tE_ok {Q : Bool → Hp → Prop} (h : lT mg W (tE A) σ H Q) : tTest (lE mg W A) σ H Q := by
  obtain ⟨wa, Hf, sD, w, hb, hs, h⟩ := h
  refine ⟨wa, Hf, sD, w, hb, hs, h.bind.mono (fun x w1 H1 Hf1 g1 b1 q v rv => ?_) (fun _ _ _ _ _ _ q => q)⟩
  split at q
  · cases rv
    exact ⟨_, rfl, q.here b1 _ rfl⟩
  · exact q.elim
/-- a comparison as a test -/
theorem qd_cmp {op : CmpOp} (ho : OpR X (compareOp op) r) (hf : OpD r f) (ha : PE X a (lE mg W A)) (hb : PE X b (lE mg W B)) (hm : behindInMarks op b = false) : PT X (.Compare a [op] [b] pos) (lT mg W (tE (eBin f A B))) := weakT (pt_cmpR ho ha hb hm) fun σ H Q h => by
  have q := tE_ok h
  exact bin_ok hf q
theorem qd_lt (ha : PE X a (lE mg W A)) (hb : PE X b (lE mg W B)) : PT X (.Compare a [.Lt] [b] pos) (lT mg W (tE (eBin fLt A B))) := qd_cmp op_lt opd_cmp ha hb (nomark _)
theorem qd_le (ha : PE X a (lE mg W A)) (hb : PE X b (lE mg W B)) : PT X (.Compare a [.LtE] [b] pos) (lT mg W (tE (eBin fLe A B))) := qd_cmp op_le opd_cmp ha hb (nomark _)
theorem qd_gt (ha : PE X a (lE mg W A)) (hb : PE X b (lE mg W B)) : PT X (.Compare a [.Gt] [b] pos) (lT mg W (tE (eBin fGt A B))) := qd_cmp op_gt opd_cmp ha hb (nomark _)
theorem qd_ge (ha : PE X a (lE mg W A)) (hb : PE X b (lE mg W B)) : PT X (.Compare a [.GtE] [b] pos) (lT mg W (tE (eBin fGe A B))) := qd_cmp op_ge opd_cmp ha hb (nomark _)
theorem qd_eq (hu : X.A.units + 64 < cLine) (ha : PE X a (lE mg W A)) (hb : PE X b (lE mg W B)) : PT X (.Compare a [.Eq] [b] pos) (lT mg W (tE (eBin fEq A B))) := qd_cmp (op_eqD hu) opd_eq ha hb (nomark _)
theorem qd_ne (hu : X.A.units + 64 < cLine) (ha : PE X a (lE mg W A)) (hb : PE X b (lE mg W B)) : PT X (.Compare a [.NotEq] [b] pos) (lT mg W (tE (eBin fNe A B))) := qd_cmp (op_neD hu) opd_ne ha hb (nomark _)
theorem qd_isN (ha : PE X a (lE mg W A)) (hb : PE X b (lE mg W B)) : PT X (.Compare a [.Is] [b] pos) (lT mg W (tE (eBin fIsN A B))) := qd_cmp op_isN (fun wa Hf H w x y u v z Q hb ru rv h q => by
  obtain ⟨e1, e2⟩ := isN_of ru rv h
  subst e2
  exact ⟨e1, q _ _ Go.refl hb _ (.bl _)⟩) ha hb (nomark _)
theorem qd_notN (ha : PE X a (lE mg W A)) (hb : PE X b (lE mg W B)) : PT X (.Compare a [.IsNot] [b] pos) (lT mg W (tE (eBin fNotN A B))) := qd_cmp op_notN (fun wa Hf H w x y u v z Q hb ru rv h q => by
  unfold fNotN at h
  split at h
  · rename_i k hk
    cases h
    obtain ⟨e1, e2⟩ := isN_of ru rv hk
    cases e2
    exact ⟨e1, q _ _ Go.refl hb _ (.bl _)⟩
  · cases h) ha hb (nomark _)
theorem qd_chain {op op' : CmpOp} (ho : OpR X (compareOp op) r) (ho' : OpR X (compareOp op') r') (hf : OpD r f) (hg : OpD r' g) (ha : PE X a (lE mg W A)) (hb : PE X b (lE mg W B)) (hc : PE X c (lE mg W C))
    (hm : lastMarks [op, op'] [b, c] = false := by with_unfolding_all rfl) : PT X (.Compare a [op, op'] [b, c] pos) (lT mg W (tE (eChain f g A B C))) := weakT (pt_chain ho ho' ha hb hc hm) fun σ H Q h => by
  have q := tE_ok h
  exact chain_ok hf hg q
/-- any other expression as a test: its truth -/
theorem qd_tr (ha : PE X a (lE mg W A)) (he : ∀ whole, isTrue a X.env whole = (do let v ← whole; standAt a.pos; holding [v] (truthy v)) := by intro _; rfl) : PT X a (lT mg W (tTr A)) := weakT (pt_truth ha he) fun σ H Q h => by
  obtain ⟨wa, Hf, sD, w, hb, hs, h⟩ := h
  refine ⟨wa, Hf, sD, w, hb, hs, h.bind.mono (fun x w1 H1 Hf1 g1 b1 q v rv => ?_) (fun _ _ _ _ _ _ q => q)⟩
  obtain ⟨z, e, q3⟩ := q.opt
  refine ⟨z, ?_, q3 _ _ Go.refl b1 _ rfl⟩
  unfold truD at e
  split at e
  · cases e; cases rv; rfl
  · cases e; cases rv; rfl
  · cases e; cases rv; rfl
  · split at e
    · rename_i hz
      cases e
      cases rv
      exact ⟨lim_le hz, rfl⟩
    · cases e
  · cases e
    cases rv with
    | lst h1 r1 =>
      refine .inl ⟨_, SqL.of (b1.ex _ _ h1), ?_⟩
      cases r1 <;> rfl
  · cases e
    cases rv with
    | tup h1 r1 =>
      refine .inr (.inl ⟨_, SqT.of (b1.ex _ _ h1), ?_⟩)
      cases r1 <;> rfl
  · cases e
theorem qd_and1 (ha : PT X a (lT mg W S)) : PW X (.BoolOp .And [a] pos) (lT mg W S) := pw_and1 ha
theorem qd_or1 (ha : PT X a (lT mg W S)) : PW X (.BoolOp .Or [a] pos) (lT mg W S) := pw_or1 ha
theorem qd_and (ha : PT X a (lT mg W S)) (hb : PW X (.BoolOp .And (b :: rest) pos) (lT mg W T)) : PW X (.BoolOp .And (a :: b :: rest) pos) (lT mg W (tAn S T)) := weakW (pw_and ha hb) fun σ H Q h => by
  obtain ⟨wa, Hf, sD, w, hb, hs, h⟩ := h
  refine ⟨wa, Hf, sD, w, hb, hs, h.bind.mono (fun x w1 H1 Hf1 g1 b1 q v rv => ?_) (fun _ _ _ _ _ _ q => q)⟩
  cases rv
  cases x with
  | true => exact iteT ⟨wa, Hf1, sD, w1, b1, hs.go g1, q⟩
  | false => exact iteF (q.here b1 _ rfl)
theorem qd_or (ha : PT X a (lT mg W S)) (hb : PW X (.BoolOp .Or (b :: rest) pos) (lT mg W T)) : PW X (.BoolOp .Or (a :: b :: rest) pos) (lT mg W (tOn S T)) := weakW (pw_or ha hb) fun σ H Q h => by
  obtain ⟨wa, Hf, sD, w, hb, hs, h⟩ := h
  refine ⟨wa, Hf, sD, w, hb, hs, h.bind.mono (fun x w1 H1 Hf1 g1 b1 q v rv => ?_) (fun _ _ _ _ _ _ q => q)⟩
  cases rv
  cases x with
  | true => exact iteT (q.here b1 _ rfl)
  | false => exact iteF ⟨wa, Hf1, sD, w1, b1, hs.go g1, q⟩
theorem qd_not (ha : PT X a (lT mg W S)) : PT X (.UnaryOp .Not a pos) (lT mg W (tNo S)) := weakT (pt_not ha) fun σ H Q h => by
  obtain ⟨wa, Hf, sD, w, hb, hs, h⟩ := h
  refine ⟨wa, Hf, sD, w, hb, hs, h.bind.mono (fun x w1 H1 Hf1 g1 b1 q v rv => ?_) (fun _ _ _ _ _ _ q => q)⟩
  cases rv
  exact q.here b1 _ rfl
/-- a if t else b -/
def eIf (T : DT) (A B : DE) : DE := fun s w => (T s w).bind fun k w1 => if k then A s w1 else B s w1
theorem pd_if (hc : PT X c (lT mg W T)) (ha : PE X a (lE mg W A)) (hb : PE X b (lE mg W B)) : PE X (.IfExp c a b pos) (lE mg W (eIf T A B)) := weakE (pe_ifExp hc ha hb) fun σ H Q h => by
  obtain ⟨wa, Hf, sD, w, hb, hs, h⟩ := h
  refine ⟨wa, Hf, sD, w, hb, hs, h.bind.mono (fun x w1 H1 Hf1 g1 b1 q v rv => ?_) (fun _ _ _ _ _ _ q => q)⟩
  cases rv
  cases x with
  | true => exact iteT ⟨wa, Hf1, sD, w1, b1, hs.go g1, q⟩
  | false => exact iteF ⟨wa, Hf1, sD, w1, b1, hs.go g1, q⟩

/-! ### argument lists, displays -/
def aNil : DA := fun _ w => .ok [] w
def aCons (A : DE) (As : DA) : DA := fun s w => (A s w).bind fun x w1 => (As s w1).bind fun xs w2 => .ok (x :: xs) w2
variable {As : DA} {es : List Expr}
theorem ad_nil : PA X [] (lA mg W aNil) := weakA pa_nil fun σ H Q h => by
  obtain ⟨wa, Hf, sD, w, hb, hs, h⟩ := h
  exact h.here hb _ .nil
theorem ad_cons (ha : PE X a (lE mg W A)) (hr : PA X es (lA mg W As)) (hs : starEach (a :: es) X.env = (false, eval a X.env) :: starEach es X.env := by rfl) : PA X (a :: es) (lA mg W (aCons A As)) := weakA (pa_cons ha hr hs) fun σ H Q h => by
  obtain ⟨wa, Hf, sD, w, hb, hs, h⟩ := h
  refine ⟨wa, Hf, sD, w, hb, hs, h.bind.mono (fun x w1 H1 Hf1 g1 b1 q v rv => ?_) (fun _ _ _ _ _ _ q => q)⟩
  refine ⟨wa, Hf1, sD, w1, b1, hs.go g1, q.bind.mono (fun y w2 H2 Hf2 g2 b2 q2 v2 rv2 => ?_) (fun _ _ _ _ _ _ q => q)⟩
  exact q2.here b2 _ (.cons (rv.mono g2.ex) rv2)
def eTup (As : DA) : DE := fun s w => (As s w).bind fun xs w1 => if xs.length ≤ lim then .ok (.tup xs) w1 else .no
def aLst (As : DA) : DA := fun s w => (As s w).bind fun xs w1 => if xs.length ≤ lim then .ok xs w1 else .no
theorem pd_tup {k} (ha : PA X es (lA mg W As)) : PE X (.Tuple es k pos) (lE mg W (eTup As)) := weakE (pe_tup ha) fun σ H Q h => by
  obtain ⟨wa, Hf, sD, w, hb, hs, h⟩ := h
  refine ⟨wa, Hf, sD, w, hb, hs, h.bind.mono (fun x w1 H1 Hf1 g1 b1 q v rv => ?_) (fun _ _ _ _ _ _ q => q)⟩
  split at q
  · rename_i hz
    refine ⟨by rw [rv.length]; exact lim_le hz, fun p hp => ?_⟩
    exact q _ _ (Go.newF b1.ex hp) (b1.newF hp) _ (.tup upd_same (rv.mono (Ex.new (Evl.fresh_back b1.ex hp))))
  · exact q.elim
theorem pl_lst (ha : PA X es (lA mg W As)) : PE X (.List es pos) (lfL mg W (aLst As)) := weakE (pe_lst ha) fun σ H Q h => by
  obtain ⟨wa, Hf, sD, w, hb, hs, h⟩ := h
  refine ⟨wa, Hf, sD, w, hb, hs, h.bind.mono (fun x w1 H1 Hf1 g1 b1 q v rv => ?_) (fun _ _ _ _ _ _ q => q)⟩
  split at q
  · rename_i hz
    refine ⟨by rw [rv.length]; exact lim_le hz, fun p hp => ?_⟩
    exact q _ _ (Go.new1 hp) (b1.new1 hp) p v (g1.free hp) upd_same (Evl.fresh_back b1.ex hp) (fun z => by rw [z, b1.well] at hp; cases hp) rv
  · exact q.elim

/-! ### subscripts -/
def atD (w : Wl) (x : D) (i : Int) : Option D := match x with
  | .lst xs => atI xs i
  | .tup xs => atI xs i
  | .well => atI [.int w.1, .int w.2.1, .int w.2.2] i
  | _ => none
def fIx : Wl → D → D → Option D := fun w x y => match y with
  | .int i => atD w x i
  | _ => none
theorem atI_rep {wa : Addr} {Hf : Hp} {vs : List V} {ds : List D} {i : Int} {d : D} (r : Reps wa Hf vs ds) (h : atI ds i = some d) : ∃ v, atI vs i = some v ∧ Rep wa Hf v d := by
  unfold atI at h ⊢
  rw [r.length]
  cases e : ixN ds.length i with
  | none => rw [e] at h; cases h
  | some j =>
    rw [e] at h
    exact r.get h
theorem opd_ix {K : PySem.W.Frag} : OpD (rIx K) fIx := by
  intro wa Hf H w x y u v z Q hb ru rv h q
  unfold fIx at h
  split at h
  · cases rv
    unfold atD at h
    split at h
    · cases ru with
      | lst h1 r1 =>
        obtain ⟨v', e, r'⟩ := atI_rep r1 h
        exact .inl ⟨_, _, _, _, rfl, rfl, SqL.of (hb.ex _ _ h1), e, q _ _ Go.refl hb _ r'⟩
    · cases ru with
      | tup h1 r1 =>
        obtain ⟨v', e, r'⟩ := atI_rep r1 h
        exact .inr (.inl ⟨_, _, _, _, rfl, rfl, SqT.of (hb.ex _ _ h1), e, q _ _ Go.refl hb _ r'⟩)
    · cases ru
      obtain ⟨v', e, r'⟩ := atI_rep (wa := wa) (Hf := Hf) (vs := wl w) (.cons (.int _) (.cons (.int _) (.cons (.int _) .nil))) h
      exact .inl ⟨_, _, _, _, rfl, rfl, SqL.of hb.well, e, q _ _ Go.refl hb _ r'⟩
    · cases h
  · cases h
theorem pd_ix (ha : PE X a (lE mg W A)) (hb : PE X b (lE mg W B)) (hs : PlainIx b := by exact fun _ _ => rfl) : PE X (.Subscript a b pos) (lE mg W (eBin fIx A B)) := weakE (pe_ix ix_seq ha hb hs) fun _ _ _ q => bin_ok opd_ix q
/-- a part of a slice -/
def oNone : Sl → Wl → R (Option Int) := fun _ w => .ok none w
def oSome (A : DE) : Sl → Wl → R (Option Int) := fun s w => (A s w).bind fun x w1 => match x with
  | .int i => .ok (some i) w1
  | _ => .no
theorem od_none : PO X none (lO mg W oNone) := weakO po_none fun σ H Q h => by
  obtain ⟨wa, Hf, sD, w, hb, hs, h⟩ := h
  exact h.here hb _ rfl
theorem od_some (ha : PE X a (lE mg W A)) : PO X (some a) (lO mg W (oSome A)) := weakO (po_some ha) fun σ H Q h => by
  obtain ⟨wa, Hf, sD, w, hb, hs, h⟩ := h
  refine ⟨wa, Hf, sD, w, hb, hs, h.bind.mono (fun x w1 H1 Hf1 g1 b1 q v rv => ?_) (fun _ _ _ _ _ _ q => q)⟩
  split at q
  · cases rv
    exact ⟨_, rfl, q.here b1 _ rfl⟩
  · exact q.elim
def cutD {α : Type} (xs : List α) (lo hi : Option Int) : List α := (xs.drop (HT.sIx xs.length 0 lo)).take (HT.sIx xs.length xs.length hi - HT.sIx xs.length 0 lo)
theorem cut_rep {wa : Addr} {Hf : Hp} {vs : List V} {ds : List D} {lo hi : Option Int} (r : Reps wa Hf vs ds) : Reps wa Hf (cutV vs lo hi) (cutD ds lo hi) := by
  unfold cutV cutD
  rw [r.length]
  exact (r.drop _).take _
theorem cutD_whole {α : Type} {xs : List α} {lo hi : Option Int} (h : HT.sIx xs.length 0 lo = 0 ∧ HT.sIx xs.length xs.length hi = xs.length) : cutD xs lo hi = xs := by
  unfold cutD
  rw [h.1, h.2]
  simp
def eSl (A : DE) (L M : Sl → Wl → R (Option Int)) : DE := fun s w => (A s w).bind fun x w1 => (L s w1).bind fun l w2 => (M s w2).bind fun m w3 => match x with
  | .lst xs => .ok (.lst (cutD xs l m)) w3
  | .tup xs => .ok (.tup (cutD xs l m)) w3
  | _ => .no
theorem pd_sl {lo hi : Option Expr} {p2 : Pos} {L M : Sl → Wl → R (Option Int)} (ha : PE X a (lE mg W A)) (hl : PO X lo (lO mg W L)) (hm : PO X hi (lO mg W M)) : PE X (.Subscript a (.Slice lo hi none p2) pos) (lE mg W (eSl A L M)) :=
  weakE (pe_slice (sl_list.or sl_tupA) ha hl hm) fun σ H Q h => by
  obtain ⟨wa, Hf, sD, w, hb, hs, h⟩ := h
  refine ⟨wa, Hf, sD, w, hb, hs, h.bind.mono (fun x w1 H1 Hf1 g1 b1 q v rv => ?_) (fun _ _ _ _ _ _ q => q)⟩
  refine ⟨wa, Hf1, sD, w1, b1, hs.go g1, q.bind.mono (fun y w2 H2 Hf2 g2 b2 q2 v2 rv2 => ?_) (fun _ _ _ _ _ _ q => q)⟩
  refine ⟨wa, Hf2, sD, w2, b2, (hs.go g1).go g2, q2.bind.mono (fun z w3 H3 Hf3 g3 b3 q3 v3 rv3 => ?_) (fun _ _ _ _ _ _ q => q)⟩
  cases rv2
  cases rv3
  split at q3
  · cases rv with
    | lst h1 r1 =>
      refine .inl ⟨_, _, rfl, SqL.of (b3.ex _ _ (g3.ex _ _ (g2.ex _ _ h1))), ?_⟩
      exact frzL (z := .non) b3 (cut_rep ((r1.mono g2.ex).mono g3.ex)) q3
  · cases rv with
    | tup h1 r1 =>
      have h3 := g3.ex _ _ (g2.ex _ _ h1)
      have r3 := (r1.mono g2.ex).mono g3.ex
      refine .inr ⟨_, _, rfl, SqT.of (b3.ex _ _ h3), fun hw => ?_, fun _ => frzT (z := .non) b3 (cut_rep r3) q3⟩
      rw [r3.length] at hw
      refine q3 _ _ Go.refl b3 _ ?_
      rw [cutD_whole hw]
      exact .tup h3 r3
  · exact q3.elim

/-! ### calls of built-ins by values -/
theorem pd_cb {x : Str} {id : String} {r : List V → Hp → VK → Prop} {f : Wl → List D → Option D} {p : Pos} (hc : CallR X (.builtin id) r) (hf : CaD r f) (hg : Gl X x) (hm : X.mg x = none) (hv : bootBuiltins x = some (.builtin id)) (ha : PA X (a :: es) (lA mg W As)) (hn : x ≠ "__name__" := by decide) (hdb : (x == ("__debug__" : Str)) = false := by decide)
    (he : starEach (a :: es) X.env = (false, eval a X.env) :: starEach es X.env := by rfl) (hpl : (backTo pos (starEach es X.env)).any (·.1) = false := by rfl) : PE X (.Call (.Name x p) (a :: es) [] pos) (lE mg W (eCB f As)) :=
  weakE (pe_callB hc hg hm hv ha hn hdb he hpl) fun _ _ _ q => cb_ok hf q
theorem pd_ct {x : Str} {id : String} {r : List V → Hp → VK → Prop} {f : Wl → List D → Option D} {p : Pos} (hc : CallR X (.type id) r) (hf : CaD r f) (hg : Gl X x) (hm : X.mg x = none) (hv : bootBuiltins x = some (.type id)) (ha : PA X (a :: es) (lA mg W As)) (hn : x ≠ "__name__" := by decide) (hdb : (x == ("__debug__" : Str)) = false := by decide)
    (he : starEach (a :: es) X.env = (false, eval a X.env) :: starEach es X.env := by rfl) (hpl : (backTo pos (starEach es X.env)).any (·.1) = false := by rfl) : PE X (.Call (.Name x p) (a :: es) [] pos) (lE mg W (eCB f As)) :=
  weakE (pe_callTy hc hg hm hv ha hn hdb he hpl) fun _ _ _ q => cb_ok hf q
theorem pl_ct {x : Str} {id : String} {r : List V → Hp → VK → Prop} {f : Wl → List D → Option (List D)} {p : Pos} (hc : CallR X (.type id) r) (hf : CaL r f) (hg : Gl X x) (hm : X.mg x = none) (hv : bootBuiltins x = some (.type id)) (ha : PA X (a :: es) (lA mg W As)) (hn : x ≠ "__name__" := by decide) (hdb : (x == ("__debug__" : Str)) = false := by decide)
    (he : starEach (a :: es) X.env = (false, eval a X.env) :: starEach es X.env := by rfl) (hpl : (backTo pos (starEach es X.env)).any (·.1) = false := by rfl) : PE X (.Call (.Name x p) (a :: es) [] pos) (lfL mg W (eCBL f As)) :=
  weakE (pe_callTy hc hg hm hv ha hn hdb he hpl) fun _ _ _ q => cbL_ok hf q
end
end DL

set_option maxHeartbeats 2000000
namespace DL
open PySem PySem.Spec PyProof.Rows L2
variable [OldT]
open Evl (Ex)
/-! ### built-ins by values -/
def ints? : List D → Option (List Int)
  | [] => some []
  | .int i :: r => (ints? r).map (i :: ·)
  | _ => none
def bls? : List D → Option (List Bool)
  | [] => some []
  | .bl i :: r => (bls? r).map (i :: ·)
  | _ => none
@[simp] theorem ints?_map : ∀ ns : List Int, ints? (ns.map .int) = some ns
  | [] => rfl
  | n :: r => by simp [ints?, ints?_map r]
@[simp] theorem bls?_map : ∀ ns : List Bool, bls? (ns.map .bl) = some ns
  | [] => rfl
  | n :: r => by simp [bls?, bls?_map r]
theorem ints?_some : ∀ {ds : List D} {ns : List Int}, ints? ds = some ns → ds = ns.map .int
  | [], ns, h => by cases h; rfl
  | .int i :: r, ns, h => by
    unfold ints? at h
    cases e : ints? r with
    | none => rw [e] at h; cases h
    | some ms =>
      rw [e] at h
      cases h
      rw [ints?_some e]
      rfl
  | .non :: _, _, h | .bl _ :: _, _, h | .str _ :: _, _, h | .lst _ :: _, _, h | .tup _ :: _, _, h | .own _ :: _, _, h | .well :: _, _, h | .ref _ :: _, _, h | .ty _ :: _, _, h => by cases h
theorem bls?_some : ∀ {ds : List D} {ns : List Bool}, bls? ds = some ns → ds = ns.map .bl
  | [], ns, h => by cases h; rfl
  | .bl i :: r, ns, h => by
    unfold bls? at h
    cases e : bls? r with
    | none => rw [e] at h; cases h
    | some ms =>
      rw [e] at h
      cases h
      rw [bls?_some e]
      rfl
  | .non :: _, _, h | .int _ :: _, _, h | .str _ :: _, _, h | .lst _ :: _, _, h | .tup _ :: _, _, h | .own _ :: _, _, h | .well :: _, _, h | .ref _ :: _, _, h | .ty _ :: _, _, h => by cases h
section
variable {X : Cx} {H : Hp}
def fLen : Wl → List D → Option D := fun _ ds => match ds with
  | [.lst xs] => some (.int xs.length)
  | [.tup xs] => some (.int xs.length)
  | [.str x] => if x.length ≤ lim then some (.int x.length) else none
  | _ => none
theorem cd_len {K : PySem.W.Frag} : CaD (fun xs H Q => ∃ x n, xs = [x] ∧ LenV K x H n ∧ Q (.int n) H) fLen := by
  intro wa Hf H w ds us z Q hb rs h q
  unfold fLen at h
  split at h
  · cases h
    cases rs with
    | cons r1 r2 =>
      cases r2
      cases r1 with
      | lst h1 r1 => exact ⟨_, _, rfl, .inl ⟨_, SqL.of (hb.ex _ _ h1), rfl⟩, by rw [r1.length]; exact q _ _ Go.refl hb _ (.int _)⟩
  · cases h
    cases rs with
    | cons r1 r2 =>
      cases r2
      cases r1 with
      | tup h1 r1 => exact ⟨_, _, rfl, .inr ⟨_, SqT.of (hb.ex _ _ h1), rfl⟩, by rw [r1.length]; exact q _ _ Go.refl hb _ (.int _)⟩
  · split at h
    · rename_i hz
      cases h
      cases rs with
      | cons r1 r2 =>
        cases r2
        cases r1
        exact ⟨_, _, rfl, ⟨lim_le hz, rfl⟩, q _ _ Go.refl hb _ (.int _)⟩
    · cases h
  · cases h
def fMax2 : Wl → List D → Option D := fun _ ds => match ds with
  | [.int i, .int j] => some (.int (if j > i then j else i))
  | _ => none
def fMin2 : Wl → List D → Option D := fun _ ds => match ds with
  | [.int i, .int j] => some (.int (if j < i then j else i))
  | _ => none
theorem cd_max2 : CaD (fun xs H Q => ∃ i j, xs = [.int i, .int j] ∧ Q (.int (if j > i then j else i)) H) fMax2 := by
  intro wa Hf H w ds us z Q hb rs h q
  unfold fMax2 at h
  split at h
  · cases h
    cases rs with
    | cons r1 r2 =>
      cases r1
      cases r2 with
      | cons r1 r2 =>
        cases r1
        cases r2
        exact ⟨_, _, rfl, q _ _ Go.refl hb _ (.int _)⟩
  · cases h
theorem cd_min2 : CaD (fun xs H Q => ∃ i j, xs = [.int i, .int j] ∧ Q (.int (if j < i then j else i)) H) fMin2 := by
  intro wa Hf H w ds us z Q hb rs h q
  unfold fMin2 at h
  split at h
  · cases h
    cases rs with
    | cons r1 r2 =>
      cases r1
      cases r2 with
      | cons r1 r2 =>
        cases r1
        cases r2
        exact ⟨_, _, rfl, q _ _ Go.refl hb _ (.int _)⟩
  · cases h
def fAbs : Wl → List D → Option D := fun _ ds => match ds with
  | [.int i] => some (.int (if i < 0 then -i else i))
  | _ => none
theorem cd_abs : CaD (fun xs H Q => ∃ i, xs = [.int i] ∧ Q (.int (if i < 0 then -i else i)) H) fAbs := by
  intro wa Hf H w ds us z Q hb rs h q
  unfold fAbs at h
  split at h
  · cases h
    cases rs with
    | cons r1 r2 =>
      cases r1
      cases r2
      exact ⟨_, rfl, q _ _ Go.refl hb _ (.int _)⟩
  · cases h
def fInt : Wl → List D → Option D := fun _ ds => match ds with
  | [.int i] => some (.int i)
  | [.bl k] => some (.int (if k then 1 else 0))
  | _ => none
theorem cd_int : CaD (fun xs H Q => (∃ i, xs = [.int i] ∧ Q (.int i) H) ∨ ∃ k, xs = [.bl k] ∧ Q (.int (if k then 1 else 0)) H) fInt := by
  intro wa Hf H w ds us z Q hb rs h q
  unfold fInt at h
  split at h
  · cases h
    cases rs with
    | cons r1 r2 =>
      cases r1
      cases r2
      exact .inl ⟨_, rfl, q _ _ Go.refl hb _ (.int _)⟩
  · cases h
    cases rs with
    | cons r1 r2 =>
      cases r1
      cases r2
      exact .inr ⟨_, rfl, q _ _ Go.refl hb _ (.int _)⟩
  · cases h
def fSum : Wl → List D → Option D := fun _ ds => match ds with
  | [.lst xs] => (ints? xs).map fun ns => .int ns.sum
  | _ => none
theorem one_lst {wa : Addr} {Hf : Hp} {us : List V} {xs : List D} (r : Reps wa Hf us [.lst xs]) : ∃ a vs, us = [.ref a] ∧ Hf a = some (.lst vs) ∧ Reps wa Hf vs xs := by
  cases r with
  | cons r1 r2 =>
    cases r2
    cases r1 with
    | lst h1 r1 => exact ⟨_, _, rfl, h1, r1⟩
theorem cd_sum {K : PySem.W.Frag} : CaD (rSum K) fSum := by
  intro wa Hf H w ds us z Q hb rs h q
  unfold fSum at h
  split at h
  · rename_i xs
    cases e : ints? xs with
    | none => rw [e] at h; cases h
    | some ns =>
      rw [e] at h
      cases h
      obtain ⟨a, vs, rfl, h1, r1⟩ := one_lst rs
      rw [ints?_some e] at r1
      have e2 := r1.ints
      subst e2
      exact ⟨a, ns, rfl, SqL.of (hb.ex _ _ h1), q _ _ Go.refl hb _ (.int _)⟩
  · cases h
def fAll : Wl → List D → Option D := fun _ ds => match ds with
  | [.lst xs] => (bls? xs).map fun ns => .bl (ns.all id)
  | _ => none
def fAny : Wl → List D → Option D := fun _ ds => match ds with
  | [.lst xs] => (bls? xs).map fun ns => .bl (ns.any id)
  | _ => none
theorem cd_all {K : PySem.W.Frag} : CaD (rAll K) fAll := by
  intro wa Hf H w ds us z Q hb rs h q
  unfold fAll at h
  split at h
  · rename_i xs
    cases e : bls? xs with
    | none => rw [e] at h; cases h
    | some ns =>
      rw [e] at h
      cases h
      obtain ⟨a, vs, rfl, h1, r1⟩ := one_lst rs
      rw [bls?_some e] at r1
      have e2 := r1.bls
      subst e2
      exact ⟨a, ns, rfl, SqL.of (hb.ex _ _ h1), q _ _ Go.refl hb _ (.bl _)⟩
  · cases h
theorem cd_any {K : PySem.W.Frag} : CaD (rAny K) fAny := by
  intro wa Hf H w ds us z Q hb rs h q
  unfold fAny at h
  split at h
  · rename_i xs
    cases e : bls? xs with
    | none => rw [e] at h; cases h
    | some ns =>
      rw [e] at h
      cases h
      obtain ⟨a, vs, rfl, h1, r1⟩ := one_lst rs
      rw [bls?_some e] at r1
      have e2 := r1.bls
      subst e2
      exact ⟨a, ns, rfl, SqL.of (hb.ex _ _ h1), q _ _ Go.refl hb _ (.bl _)⟩
  · cases h
def fTuple : Wl → List D → Option D := fun _ ds => match ds with
  | [.lst xs] => some (.tup xs)
  | [.tup xs] => some (.tup xs)
  | _ => none
theorem cd_tuple {K : PySem.W.Frag} : CaD (fun xs H Q => ∃ p ys, xs = [.ref p] ∧ ((SqL K H p ys ∧ ∀ l, H l = none → Q (.ref l) (upd H l (.tup ys))) ∨ (SqT K H p ys ∧ Q (.ref p) H))) fTuple := by
  intro wa Hf H w ds us z Q hb rs h q
  unfold fTuple at h
  split at h
  · cases h
    obtain ⟨a, vs, rfl, h1, r1⟩ := one_lst rs
    exact ⟨a, vs, rfl, .inl ⟨SqL.of (hb.ex _ _ h1), frzT (z := .non) hb r1 q⟩⟩
  · cases h
    cases rs with
    | cons r1 r2 =>
      cases r2
      cases r1 with
      | tup h1 r1 => exact ⟨_, _, rfl, .inr ⟨SqT.of (hb.ex _ _ h1), q _ _ Go.refl hb _ (.tup h1 r1)⟩⟩
  · cases h
/-- list(x): a new list -/
def fList : Wl → List D → Option (List D) := fun _ ds => match ds with
  | [.lst xs] => some xs
  | [.tup xs] => some xs
  | _ => none
theorem newL {wa : Addr} {Hf H : Hp} {w : Wl} {Q : VK} {vs : List V} {ds : List D} (hb : Base wa Hf H w) (rv : Reps wa Hf vs ds) (q : ∀ H' Hf' p vs, Go wa H Hf H' Hf' → Base wa Hf' H' w → H p = none → H' p = some (.lst vs) → Hf' p = none → p ≠ wa → Reps wa Hf' vs ds → Q (.ref p) H') : ∀ p, H p = none → Q (.ref p) (upd H p (.lst vs)) := fun p hp =>
  q _ _ p vs (Go.new1 hp) (hb.new1 hp) hp upd_same (Evl.fresh_back hb.ex hp) (fun z => by rw [z, hb.well] at hp; cases hp) rv
theorem cl_list {K : PySem.W.Frag} : CaL (fun xs H Q => ∃ p ys, xs = [.ref p] ∧ (SqL K H p ys ∨ SqT K H p ys) ∧ ∀ l, H l = none → Q (.ref l) (upd H l (.lst ys))) fList := by
  intro wa Hf H w ds us z Q hb rs h q
  unfold fList at h
  split at h
  · cases h
    obtain ⟨a, vs, rfl, h1, r1⟩ := one_lst rs
    exact ⟨a, vs, rfl, .inl (SqL.of (hb.ex _ _ h1)), newL hb r1 q⟩
  · cases h
    cases rs with
    | cons r1 r2 =>
      cases r2
      cases r1 with
      | tup h1 r1 => exact ⟨_, _, rfl, .inr (SqT.of (hb.ex _ _ h1)), newL hb r1 q⟩
  · cases h
/-- isinstance -/
def tyD : D → Option String
  | .non => some "NoneType"
  | .bl _ => some "bool"
  | .int _ => some "int"
  | .str _ => some "str"
  | .lst _ => some "list"
  | .nl _ => some "list"
  | .tup _ => some "tuple"
  | _ => none
theorem tyD_ok {wa : Addr} {Hf : Hp} {K : PySem.W.Frag} {w : Wl} {x : D} {v : V} {t : String} (hb : Base wa Hf H w) (r : Rep wa Hf v x) (h : tyD x = some t) : TyX K H v (.type t) := by
  cases r with
  | non => cases h; exact .base .non
  | bl b => cases h; exact .base (.bl b)
  | int b => cases h; exact .base (.int b)
  | str b => cases h; exact .base (.str b)
  | lst h1 r1 => cases h; exact .base (.lst (hb.ex _ _ h1))
  | nl h1 o r1 => cases h; exact .base (.lst (hb.ex _ _ h1))
  | tup h1 r1 => cases h; exact .base (.tup (hb.ex _ _ h1))
  | well => cases h
  | ref a => cases h
  | ty a => cases h
def isB (t : String) (n : String) : Option Bool := if t = n then some true else match n with
  | "int" => if t = "bool" then some true else if t = "NoneType" ∨ t = "str" ∨ t = "list" ∨ t = "tuple" then some false else none
  | "bool" | "str" | "list" | "tuple" => if t = "NoneType" ∨ t = "str" ∨ t = "list" ∨ t = "tuple" ∨ t = "bool" ∨ t = "int" then some false else none
  | _ => none
theorem kitB_all : ∀ t ∈ ["NoneType", "bool", "int", "str", "list", "tuple"], ∀ n ∈ ["bool", "int", "str", "list", "tuple"], kitB t n = isB t n := by decide +kernel
theorem isB_kit {K : PySem.W.Frag} {t n : String} {b : Bool} {x : D} (ht : tyD x = some t) (h : isB t n = some b) : PySem.W.kitOne K (.type t) (.type n) = some b := by
  have mt : t ∈ ["NoneType", "bool", "int", "str", "list", "tuple"] := by
    cases x <;> first | (cases ht; decide) | cases ht
  have mn : n ∈ ["bool", "int", "str", "list", "tuple"] ∨ n = "NoneType" := by
    unfold isB at h
    split at h
    · rename_i e
      subst e
      revert mt
      intro mt
      simp only [List.mem_cons, List.not_mem_nil, or_false] at mt ⊢
      rcases mt with h | h | h | h | h | h <;> simp [h]
    · split at h <;> first | (left; decide) | cases h
  rcases mn with mn | mn
  · exact kit_ty (by rw [kitB_all t mt n mn]; exact h)
  · subst mn
    unfold isB at h
    split at h
    · rename_i e
      subst e
      cases h
      exact kit_ty (by decide +kernel)
    · simp at h
def fIsi : Wl → List D → Option D := fun _ ds => match ds with
  | [x, .ty n] => (tyD x).bind fun t => (isB t n).map .bl
  | [x, .tup [.ty n, .ty m]] => (tyD x).bind fun t => (isB t n).bind fun b => if b then some (.bl true) else (isB t m).map .bl
  | _ => none
theorem cd_isi {K : PySem.W.Frag} : CaD (fun xs H Q => rIsi K xs H Q ∨ rIsiT K xs H Q) fIsi := by
  intro wa Hf H w ds us z Q hb rs h q
  unfold fIsi at h
  split at h
  · rename_i x n
    cases e : tyD x with
    | none => rw [e] at h; cases h
    | some t =>
      rw [e] at h
      cases e2 : isB t n with
      | none => simp [e2] at h
      | some b =>
        simp only [Option.bind_some, e2, Option.map_some, Option.some.injEq] at h
        subst h
        cases rs with
        | cons r1 r2 =>
          cases r2 with
          | cons r2 r3 =>
            cases r2
            cases r3
            exact .inl ⟨_, _, _, _, b, rfl, .ty n, tyD_ok hb r1 e, isB_kit e e2, q _ _ Go.refl hb _ (.bl _)⟩
  · rename_i x n m
    cases e : tyD x with
    | none => rw [e] at h; cases h
    | some t =>
      rw [e] at h
      cases e2 : isB t n with
      | none => simp [e2] at h
      | some b =>
        simp only [Option.bind_some, e2] at h
        cases rs with
        | cons r1 r2 =>
          cases r2 with
          | cons r2 r3 =>
            cases r3
            cases r2 with
            | tup h1 r2 =>
              cases r2 with
              | cons ra rb =>
                cases ra
                cases rb with
                | cons rb rc =>
                  cases rb
                  cases rc
                  have pc : Paired ClsV [V.ty n, V.ty m] [Value.type n, Value.type m] := .cons (.ty n) (.cons (.ty m) .nil)
                  cases b with
                  | true =>
                    simp only [if_true, Option.some.injEq] at h
                    subst h
                    refine .inr ⟨_, _, _, _, _, true, rfl, hb.ex _ _ h1, pc, tyD_ok hb r1 e, ?_, q _ _ Go.refl hb _ (.bl _)⟩
                    unfold PySem.W.kitAny
                    rw [isB_kit e e2]
                  | false =>
                    simp only [Bool.false_eq_true, if_false] at h
                    cases e3 : isB t m with
                    | none => rw [e3] at h; cases h
                    | some b2 =>
                      rw [e3] at h
                      cases h
                      refine .inr ⟨_, _, _, _, _, b2, rfl, hb.ex _ _ h1, pc, tyD_ok hb r1 e, ?_, q _ _ Go.refl hb _ (.bl _)⟩
                      unfold PySem.W.kitAny
                      rw [isB_kit e e2]
                      show PySem.W.kitAny K (.type t) [.type m] = some b2
                      unfold PySem.W.kitAny
                      rw [isB_kit e e3]
                      cases b2 <;> rfl
  · cases h
theorem call_isiA : CallR X (.builtin "isinstance") (fun xs H Q => rIsi X.K xs H Q ∨ rIsiT X.K xs H Q) := call_isi.or call_isiT
/-- divmod -/
def fDivmod : Wl → List D → Option D := fun _ ds => match ds with
  | [.int i, .int j] => if divOk j then some (.tup [.int (i.fdiv j), .int (i.fmod j)]) else none
  | _ => none
def rDivmod : List V → Hp → VK → Prop := fun xs H Q => ∃ i j, xs = [.int i, .int j] ∧ divOk j ∧ ∀ p, H p = none → Q (.ref p) (upd H p (.tup [.int (i.fdiv j), .int (i.fmod j)]))
theorem call_divmodA : CallR X (.builtin "divmod") rDivmod := by
  intro pins s σ H xs us Q I r h
  obtain ⟨i, j, rfl, ⟨h1, h2⟩, q⟩ := h
  obtain ⟨u, w', rfl, ⟨t, rfl⟩, ⟨t', rfl⟩⟩ := vals2 r
  refine divmod_int h1 ?_ (.inl (PyProof.noPylong_of_log2 h2))
  have hn : H s.heap.objs.size = none := I.hok.fresh (Nat.le_refl _)
  refine ⟨.ref s.heap.objs.size, _, ?_, rfl, q _ hn⟩
  refine I.laid (fun b o e => Heap.get?_push_of_some _ e) (Nat.le_refl _) ⟨by simp only [List.length_cons, List.length_nil]; rw [sizeLine_eq]; decide, [.int (i.fdiv j) s.toks, .int (i.fmod j) (s.toks + 1)], .cons ⟨_, rfl⟩ (.cons ⟨_, rfl⟩ .nil), ?_⟩
  exact ⟨_, Heap.get?_push_size s.heap rfl, rfl, 0, rfl⟩
theorem cd_divmod : CaD rDivmod fDivmod := by
  intro wa Hf H w ds us z Q hb rs h q
  unfold fDivmod at h
  split at h
  · split at h
    · rename_i hd
      cases h
      cases rs with
      | cons r1 r2 =>
        cases r1
        cases r2 with
        | cons r1 r2 =>
          cases r1
          cases r2
          exact ⟨_, _, rfl, hd, frzT (z := .non) hb (.cons (.int _) (.cons (.int _) .nil)) q⟩
    · cases h
  · cases h
end
end DL

set_option maxHeartbeats 2000000
namespace DL
open PySem PySem.Spec PyProof.Rows L2
variable [OldT]
open Evl (Ex)
/-! ### what is walked -/
structure WalkD (wa : Addr) (Hf : Hp) (J : It) (ds : List D) : Prop where
  goes : ∀ i H, i < ds.length → Ex Hf H → J.go i H
  stops : ∀ H, Ex Hf H → J.stop ds.length H
  yields : ∀ i H Hf1 w x H' d, ds[i]? = some d → Ex Hf Hf1 → Base wa Hf1 H w → J.yld i H x H' → ∃ Hf2, Go wa H Hf1 H' Hf2 ∧ Base wa Hf2 H' w ∧ Rep wa Hf2 x d
abbrev DI := Sl → Wl → R (List D)
def lI (mg : Str → Option Value) (W : WX) (I : DI) : TI := fun σ H R =>
  ∃ wa Hf sD w, Base wa Hf H w ∧ Slots wa Hf H σ sD ∧ Fin wa Hf H (I sD w) (fun ds _ H' Hf' => ∀ J, WalkD wa Hf' J ds → R J H') (Er mg W wa σ)
section
variable {X : Cx} {mg : Str → Option Value} {W : WX} {tg it a b e : Expr} {es : List Expr} {pos : Pos} {σ : L2.St} {H : Hp} {wa : Addr} {Hf : Hp}
theorem weakI {t t' : TI} (h : PI X tg it t) (i : ∀ σ H Q, t' σ H Q → t σ H Q) : PI X tg it t' := ⟨fun pins s σ H Q I q => h.run pins s σ H Q I (i σ H Q q)⟩
theorem orI {t t' : TI} (h : PI X tg it t) (h' : PI X tg it t') : PI X tg it (fun σ H Q => t σ H Q ∨ t' σ H Q) := ⟨fun pins s σ H Q I q => q.elim (fun q => h.run pins s σ H Q I q) fun q => h'.run pins s σ H Q I q⟩
theorem walkD_list {K : PySem.W.Frag} {p : Addr} {vs : List V} {ds : List D} (h : Hf p = some (.lst vs)) (r : Reps wa Hf vs ds) : WalkD wa Hf (Itl K p) ds :=
  ⟨fun i H hi x => by
    have hi' : i < vs.length := by rw [r.length]; exact hi
    exact ⟨vs, vs[i], SqL.of (x _ _ h), by simp [hi']⟩, fun H x => ⟨vs, SqL.of (x _ _ h), Nat.le_of_eq r.length⟩, fun i H Hf1 w y H' d hd x b q => by
    obtain ⟨rfl, q⟩ := q
    obtain ⟨v, e1, r1⟩ := (r.mono x).get hd
    have e2 := q vs (SqL.of (b.ex _ _ (x _ _ h)))
    rw [e1] at e2
    cases e2
    exact ⟨Hf1, Go.refl, b, r1⟩⟩
theorem walkD_tup {K : PySem.W.Frag} {p : Addr} {vs : List V} {ds : List D} (h : Hf p = some (.tup vs)) (r : Reps wa Hf vs ds) : WalkD wa Hf (Itt K p) ds :=
  ⟨fun i H hi x => by
    have hi' : i < vs.length := by rw [r.length]; exact hi
    exact ⟨vs, vs[i], SqT.of (x _ _ h), by simp [hi']⟩, fun H x => ⟨vs, SqT.of (x _ _ h), Nat.le_of_eq r.length⟩, fun i H Hf1 w y H' d hd x b q => by
    obtain ⟨rfl, q⟩ := q
    obtain ⟨v, e1, r1⟩ := (r.mono x).get hd
    have e2 := q vs (SqT.of (b.ex _ _ (x _ _ h)))
    rw [e1] at e2
    cases e2
    exact ⟨Hf1, Go.refl, b, r1⟩⟩
def upTo (lo : Int) (n : Nat) : List D := (List.range n).map fun i => .int (lo + (i : Nat))
theorem walkD_range {lo : Int} {n : Nat} : WalkD wa Hf (Itr lo n) (upTo lo n) :=
  ⟨fun i H hi x => by
    have h : i < n := by simpa [upTo] using hi
    exact h, fun H x => by
    have h : n ≤ (upTo lo n).length := by simp [upTo]
    exact h, fun i H Hf1 w y H' d hd x b q => by
    obtain ⟨rfl, q⟩ := q
    unfold upTo at hd
    rw [List.getElem?_map] at hd
    cases e : (List.range n)[i]? with
    | none => rw [e] at hd; cases hd
    | some j =>
      rw [e] at hd
      have ej : j = i := by
        rw [List.getElem?_range] at e
        · exact (Option.some.inj e).symm
        · have := (List.getElem?_eq_some_iff.mp e).1
          simpa using this
      subst ej
      cases hd
      rw [q]
      exact ⟨Hf1, Go.refl, b, .int _⟩⟩
def enumD (xs : List D) : List D := xs.zipIdx.map fun p => .tup [.int (p.2 : Nat), p.1]
theorem walkD_enum {K : PySem.W.Frag} {p : Addr} {vs : List V} {ds : List D} (h : Hf p = some (.lst vs)) (r : Reps wa Hf vs ds) : WalkD wa Hf (Ite K p) (enumD ds) :=
  ⟨fun i H hi x => by
    have hi' : i < vs.length := by rw [r.length]; simpa [enumD] using hi
    exact ⟨vs, vs[i], SqL.of (x _ _ h), by simp [hi']⟩, fun H x => ⟨vs, SqL.of (x _ _ h), by simp [enumD, r.length]⟩, fun i H Hf1 w y H' d hd x b q => by
    obtain ⟨T, z, rfl, hT, rfl, q⟩ := q
    unfold enumD at hd
    rw [List.getElem?_map, List.getElem?_zipIdx] at hd
    cases e : ds[i]? with
    | none => rw [e] at hd; cases hd
    | some d1 =>
      rw [e] at hd
      cases hd
      obtain ⟨v, e1, r1⟩ := (r.mono x).get e
      have e2 := q vs (SqL.of (b.ex _ _ (x _ _ h)))
      rw [e1] at e2
      cases e2
      rw [Nat.zero_add]
      exact ⟨_, Go.newF b.ex hT, b.newF hT, .tup upd_same (.cons (.int _) (.cons (r1.mono (Ex.new (Evl.fresh_back b.ex hT))) .nil))⟩⟩
/-- over a list or a tuple -/
def iSeq (A : DE) : DI := fun s w => (A s w).bind fun x w1 => match x with
  | .lst xs => .ok xs w1
  | .tup xs => .ok xs w1
  | _ => .no
theorem id_seq {A : DE} (ha : PE X a (lE mg W A)) : PI X tg a (lI mg W (iSeq A)) := weakI (orI (pi_list ha) (pi_tup ha)) fun σ H Q h => by
  obtain ⟨wa, Hf, sD, w, hb, hs, h⟩ := h
  unfold iSeq at h
  cases ea : A sD w with
  | ok x w1 =>
    rw [ea, R.bind_ok] at h
    cases x with
    | lst xs =>
      refine .inl ⟨wa, Hf, sD, w, hb, hs, ?_⟩
      rw [ea]
      intro H1 Hf1 g b v rv
      cases rv with
      | lst h1 r1 => exact ⟨_, rfl, ⟨_, SqL.of (b.ex _ _ h1)⟩, h H1 Hf1 g b _ (walkD_list h1 r1)⟩
    | tup xs =>
      refine .inr ⟨wa, Hf, sD, w, hb, hs, ?_⟩
      rw [ea]
      intro H1 Hf1 g b v rv
      cases rv with
      | tup h1 r1 => exact ⟨_, rfl, ⟨_, SqT.of (b.ex _ _ h1)⟩, h H1 Hf1 g b _ (walkD_tup h1 r1)⟩
    | _ => exact h.elim
  | er x w1 =>
    rw [ea] at h
    refine .inl ⟨wa, Hf, sD, w, hb, hs, ?_⟩
    rw [ea]
    exact h
  | no => rw [ea] at h; exact h.elim
/-- over a new list -/
def iRng1 (As : DA) : DI := fun s w => (As s w).bind fun xs w1 => match xs with
  | [.int j] => if -4611686018427387904 ≤ j ∧ j < 4611686018427387904 then .ok (upTo 0 j.toNat) w1 else .no
  | _ => .no
def iRng2 (As : DA) : DI := fun s w => (As s w).bind fun xs w1 => match xs with
  | [.int i, .int j] => if (-4611686018427387904 ≤ i ∧ i < 4611686018427387904) ∧ -4611686018427387904 ≤ j ∧ j < 4611686018427387904 then .ok (upTo i (j - i).toNat) w1 else .no
  | _ => .no
theorem id_rng1 {As : DA} {p : Pos} (hg : Gl X "range") (hm : X.mg "range" = none) (ha : PA X [a] (lA mg W As)) (hs : starEach [a] X.env = [(false, eval a X.env)] := by rfl) : PI X tg (.Call (.Name "range" p) [a] [] pos) (lI mg W (iRng1 As)) := weakI (pi_range1 hg hm ha hs) fun σ H Q h => by
  obtain ⟨wa, Hf, sD, w, hb, hs, h⟩ := h
  refine ⟨wa, Hf, sD, w, hb, hs, h.bind.mono (fun x w1 H1 Hf1 g1 b1 q v rv => ?_) (fun _ _ _ _ _ _ q => q)⟩
  split at q
  · split at q
    · rename_i hz
      cases rv with
      | cons r1 r2 =>
        cases r1
        cases r2
        exact ⟨_, rfl, by omega, by omega, q.here b1 _ walkD_range⟩
    · exact q.elim
  · exact q.elim
theorem id_rng2 {As : DA} {p : Pos} (hg : Gl X "range") (hm : X.mg "range" = none) (ha : PA X [a, b] (lA mg W As)) (hs : starEach [a, b] X.env = [(false, eval a X.env), (false, eval b X.env)] := by rfl) (hs2 : starEach [b] X.env = [(false, eval b X.env)] := by rfl) : PI X tg (.Call (.Name "range" p) [a, b] [] pos) (lI mg W (iRng2 As)) := weakI (pi_range2 hg hm ha hs hs2) fun σ H Q h => by
  obtain ⟨wa, Hf, sD, w, hb, hs, h⟩ := h
  refine ⟨wa, Hf, sD, w, hb, hs, h.bind.mono (fun x w1 H1 Hf1 g1 b1 q v rv => ?_) (fun _ _ _ _ _ _ q => q)⟩
  split at q
  · split at q
    · rename_i hz
      cases rv with
      | cons r1 r2 =>
        cases r1
        cases r2 with
        | cons r1 r2 =>
          cases r1
          cases r2
          exact ⟨_, _, rfl, ⟨by omega, by omega, by omega, by omega⟩, q.here b1 _ walkD_range⟩
    · exact q.elim
  · exact q.elim
def iEnum (As : DA) : DI := fun s w => (As s w).bind fun xs w1 => match xs with
  | [.lst ds] => .ok (enumD ds) w1
  | _ => .no
theorem id_enum {As : DA} {p tpos : Pos} {elts : List Expr} {kk : Nat} (hg : Gl X "enumerate") (hm : X.mg "enumerate" = none) (ha : PA X [a] (lA mg W As)) (hs : starEach [a] X.env = [(false, eval a X.env)] := by rfl) : PI X (.Tuple elts kk tpos) (.Call (.Name "enumerate" p) [a] [] pos) (lI mg W (iEnum As)) := weakI (pi_enum hg hm ha hs) fun σ H Q h => by
  obtain ⟨wa, Hf, sD, w, hb, hs, h⟩ := h
  refine ⟨wa, Hf, sD, w, hb, hs, h.bind.mono (fun x w1 H1 Hf1 g1 b1 q v rv => ?_) (fun _ _ _ _ _ _ q => q)⟩
  split at q
  · obtain ⟨p, vs, rfl, h1, r1⟩ := one_lst rv
    exact ⟨p, vs, rfl, SqL.of (b1.ex _ _ h1), q.here b1 _ (walkD_enum h1 r1)⟩
  · exact q.elim

/-! ### targets -/
def lG (vs : List Nat) (G : DG) : TG := fun v σ H Q => ∃ wa Hf H0 w sD d s', Base wa Hf H w ∧ Rep wa Hf v d ∧ Slots wa Hf H σ sD ∧ OwnNew H0 σ sD ∧ G d sD = some s' ∧
  ∀ σ', Slots wa Hf H σ' s' → OwnNew H0 σ' s' → wipe σ' vs = wipe σ vs → Q σ' H
def lGs (vs : List Nat) (G : List D → Sl → Option Sl) : TGs := fun v σ H Q => ∃ wa Hf H0 w sD d s', Base wa Hf H w ∧ Reps wa Hf v d ∧ Slots wa Hf H σ sD ∧ OwnNew H0 σ sD ∧ G d sD = some s' ∧
  ∀ σ', Slots wa Hf H σ' s' → OwnNew H0 σ' s' → wipe σ' vs = wipe σ vs → Q σ' H
theorem weakG {t t' : TG} (h : PG X tg t) (i : ∀ v σ H Q, t' v σ H Q → t v σ H Q) : PG X tg t' := ⟨fun pins s σ H v u Q I r q => h.run pins s σ H v u Q I r (i v σ H Q q)⟩
theorem weakGs {t t' : TGs} (h : PGs X es t) (i : ∀ v σ H Q, t' v σ H Q → t v σ H Q) : PGs X es t' := ⟨fun pins s σ H v u Q I r q => h.run pins s σ H v u Q I r (i v σ H Q q)⟩
theorem wipe_set {σ : L2.St} {i : Nat} {x : Option V} : ∀ {vs : List Nat}, i ∈ vs → wipe (σ.set i x) vs = wipe σ vs
  | v :: vs, h => by
    unfold wipe
    by_cases hi : i ∈ vs
    · rw [wipe_set hi]
    · have e : i = v := by
        rcases List.mem_cons.mp h with e | e
        · exact e
        · exact absurd e hi
      subst e
      have key : ∀ (ws : List Nat), i ∉ ws → wipe (σ.set i x) ws = (wipe σ ws).set i x := by
        intro ws
        induction ws with
        | nil => intro _; rfl
        | cons u us ih =>
          intro hu
          have h1 : i ∉ us := fun m => hu (List.mem_cons_of_mem _ m)
          have h2 : i ≠ u := fun e => hu (by rw [e]; exact List.mem_cons_self)
          unfold wipe
          rw [ih h1, List.set_comm _ _ h2]
      rw [key vs hi, List.set_set]
def gN (i : Nat) : DG := fun d s => some (s.set i (some d))
theorem gd_name {i : Nat} {x : Str} {vs : List Nat} (hN : X.N.Nodup) (hi : X.N[i]? = some x) (hx : Loc X.env.scope x) (hv : i ∈ vs) (hf : X.fn x = true ∨ X.env.scope.names.lookup x = some .local := by first | exact .inl rfl | exact .inr rfl | assumption) : PG X (.Name x pos) (lG vs (gN i)) := weakG (pg_name hN hi hx hf) fun v σ H Q h => by
  obtain ⟨wa, Hf, H0, w, sD, d, s', hb, rv, hs, ho, e, q⟩ := h
  cases e
  exact q _ (hs.set rv) (ho.set fun xs z => by subst z; exact rep_own rv) (wipe_set hv)
def gNil' : List D → Sl → Option Sl := fun ds s => match ds with
  | [] => some s
  | _ => none
def gCons' (G : DG) (Gs : List D → Sl → Option Sl) : List D → Sl → Option Sl := fun ds s => match ds with
  | d :: r => (G d s).bind fun s1 => Gs r s1
  | _ => none
def gT (Gs : List D → Sl → Option Sl) (n : Nat) : DG := fun d s => match d with
  | .tup ds => if ds.length = n then Gs ds s else none
  | _ => none
theorem gd_nil {vs : List Nat} : PGs X [] (lGs vs gNil') := weakGs pgs_nil fun v σ H Q h => by
  obtain ⟨wa, Hf, H0, w, sD, d, s', hb, rv, hs, ho, e, q⟩ := h
  unfold gNil' at e
  split at e
  · cases e
    cases rv
    exact ⟨rfl, q _ hs ho rfl⟩
  · cases e
theorem gd_cons {G : DG} {Gs : List D → Sl → Option Sl} {vs : List Nat} (h1 : PG X a (lG vs G)) (h2 : PGs X es (lGs vs Gs)) (hs : (assignEach (a :: es) X.env).map (·.2) = assign a X.env :: (assignEach es X.env).map (·.2) := by rfl) : PGs X (a :: es) (lGs vs (gCons' G Gs)) := weakGs (pgs_cons h1 h2 hs) fun v σ H Q h => by
  obtain ⟨wa, Hf, H0, w, sD, d, s', hb, rv, hs, ho, e, q⟩ := h
  unfold gCons' at e
  split at e
  · rename_i d r
    cases rv with
    | cons r1 r2 =>
      cases e1 : G d sD with
      | none => rw [e1] at e; cases e
      | some s1 =>
        rw [e1] at e
        exact ⟨_, _, rfl, wa, Hf, H0, w, sD, d, s1, hb, r1, hs, ho, e1, fun σ1 hs1 ho1 hw1 => ⟨wa, Hf, H0, w, s1, r, s', hb, r2, hs1, ho1, e, fun σ2 hs2 ho2 hw2 => q σ2 hs2 ho2 (hw2.trans hw1)⟩⟩
  · cases e
theorem gd_tup {k : Nat} {Gs : List D → Sl → Option Sl} {n : Nat} {vs : List Nat} (hc : X.calm = true) (h : PGs X es (lGs vs Gs)) (hn : (assignEach es X.env).length = n := by rfl) (hst : (assignEach es X.env).findIdx? (·.1) = none := by rfl) : PG X (.Tuple es k pos) (lG vs (gT Gs n)) := weakG (pg_tup hc h hn hst) fun v σ H Q h => by
  obtain ⟨wa, Hf, H0, w, sD, d, s', hb, rv, hs, ho, e, q⟩ := h
  unfold gT at e
  split at e
  · split at e
    · rename_i hl
      cases rv with
      | tup h1 r1 => exact ⟨_, _, rfl, SqT.of (hb.ex _ _ h1), by rw [r1.length]; exact hl, wa, Hf, H0, w, sD, _, s', hb, r1, hs, ho, e, q⟩
    · cases e
  · cases e
end

/-! ### calls of the program's own functions -/
def spD (mg : Str → Option Value) (n : Nat) (F : DF) : Sp := fun vs H Q E => ∃ wa Hf ds w, Base wa Hf H w ∧ Reps wa Hf vs ds ∧ ds.length = n ∧
  Fin wa Hf H (F ds w) (fun d _ H' Hf' => ∀ v, Rep wa Hf' v d → Q v H') (fun x _ H' Hf' => ∀ cls dx, ErrV mg wa Hf' x cls dx → E cls dx H')
abbrev FnD (P : Program) (w : World) (K : PySem.W.Frag) (mg : Str → Option Value) (base : Heap) (k : Nat) (f : Addr) (fd : FuncData) (ps : List Str) (F : DF) : Prop := FnOk P w K mg base (L2.CX P w) k f fd ps (spD mg ps.length F)
/-- less is promised, or the same -/
def Less {α β : Type} (F G : α → β → R D) : Prop := ∀ a b, F a b = .no ∨ F a b = G a b
theorem FnD.less {P : Program} {w : World} {K : PySem.W.Frag} {mg : Str → Option Value} {base : Heap} {k : Nat} {f : Addr} {fd : FuncData} {ps : List Str} {F G : DF} (h : FnD P w K mg base k f fd ps G) (l : ∀ ds w, ds.length = ps.length → F ds w = .no ∨ F ds w = G ds w) : FnD P w K mg base k f fd ps F :=
  FnOk.imp h fun vs H Q E ⟨wa, Hf, ds, w, hb, r, hl, q⟩ => ⟨wa, Hf, ds, w, hb, r, hl, by
    rcases l ds w hl with e | e
    · rw [e] at q; exact q.elim
    · rw [e] at q; exact q⟩
def eCall (n : Nat) (F : DF) (As : DA) : DE := fun s w => (As s w).bind fun ds w1 => if ds.length = n then F ds w1 else .no
/-- what is raised in a callee reaches what is wished here -/
def Wok (X : Cx) (W : WX) : Prop := ∀ σ, PassesAt (L2.CX X.prog X.w) X σ (WE W σ)
theorem wok_takes {X : Cx} {W : WX} (t : Takes X W) : Wok X W := fun σ => passAt t σ
abbrev W0 : WX := fun _ _ _ _ => False
theorem wok0 {X : Cx} : Wok X W0 := fun σ pins H s e s' I c => by
  obtain ⟨_, _, _, _, _, _, _, _, _, _, _, _, z⟩ := c
  exact z.elim
section
variable {X : Cx} {W : WX} {tg it a b e : Expr} {es : List Expr} {pos : Pos} {σ : L2.St} {H : Hp} {wa : Addr} {Hf : Hp}
theorem fin_call {mg : Str → Option Value} {w : Wl} {n : Nat} {F : DF} {ds : List D} {vs : List V} {Q : VK} {W : WX} (hb : Base wa Hf H w) (rv : Reps wa Hf vs ds) (q : Fin wa Hf H (if ds.length = n then F ds w else .no) (fun d _ H' Hf' => ∀ v, Rep wa Hf' v d → Q v H') (Er mg W wa σ)) : spD mg n F vs H Q (WE W σ) := by
  split at q
  · rename_i hl
    exact ⟨wa, Hf, ds, w, hb, rv, hl, q⟩
  · exact q.elim
theorem pd_call {k : Nat} {f : Addr} {fd : FuncData} {ps : List Str} {F : DF} {x : Str} {p : Pos} {As : DA} (G : FnD X.prog X.w X.K X.mg X.base k f fd ps F) (hr : Room k X.A) (hg : Gl X x) (hm : X.mg x = some (.ref f)) (hk : PySem.W.keepIn X.K (.ref f) = true) (hb : Binds X.K fd ps []) (hx : Wok X W)
    (ha : PA X (e :: es) (lA X.mg W As)) (hdb : (x == ("__debug__" : Str)) = false := by decide) (he : starEach (e :: es) X.env = (false, eval e X.env) :: starEach es X.env := by rfl) (hpl : (backTo pos (starEach es X.env)).any (·.1) = false := by rfl) :
    PE X (.Call (.Name x p) (e :: es) [] pos) (lE X.mg W (eCall ps.length F As)) := weakE (pe_callS G hr hg hm hk hb hx ha hdb he hpl) fun σ H Q h => by
  obtain ⟨wa, Hf, sD, w, hb, hs, h⟩ := h
  refine ⟨wa, Hf, sD, w, hb, hs, h.bind.mono (fun x w1 H1 Hf1 g1 b1 q v rv => ?_) (fun _ _ _ _ _ _ q => q)⟩
  exact fin_call b1 rv q
end
end DL

set_option maxHeartbeats 2000000
namespace DL
open PySem PySem.Spec PyProof.Rows L2
variable [OldT]
open Evl (Ex)
/-! ### comprehensions -/
def lcD (G : DG) (T : DT) (E : DE) : List D → Sl → Wl → R (List D)
  | [], _, w => .ok [] w
  | d :: r, s, w => match G d s with
    | none => .no
    | some s1 => (T s1 w).noer.bind fun b w1 => if b = true then (E s1 w1).noer.bind fun y w2 => (lcD G T E r s w2).bind fun ys w3 => .ok (y :: ys) w3 else lcD G T E r s w1
def wipeS (s : Sl) : List Nat → Sl
  | [] => s
  | v :: vs => (wipeS s vs).set v none
def aLc (I : DI) (G : DG) (T : DT) (E : DE) (vs : List Nat) : DA := fun s w => (I s w).bind fun ds w1 => if ds.length ≤ lim then (lcD G T E ds (wipeS s vs) w1).noer else .no
def tYesD : DT := fun _ w => .ok true w
section
variable {X : Cx} {mg : Str → Option Value} {W : WX} {tg it a b e elt iter : Expr} {es ifs : List Expr} {pos : Pos} {σ : L2.St} {H : Hp} {wa : Addr} {Hf : Hp}
theorem Slots.setNone {s : Sl} (x : Slots wa Hf H σ s) (i : Nat) : Slots wa Hf H (σ.set i none) (s.set i none) := by
  have key : ∀ (j : Nat) (d : D), (s.set i none)[j]? = some (some d) → j ≠ i ∧ s[j]? = some (some d) := fun j d h => by
    by_cases hj : j = i
    · subst hj
      rw [List.getElem?_set] at h
      split at h
      · split at h <;> cases h
      · rename_i hne
        exact absurd rfl hne
    · rw [List.getElem?_set_ne (Ne.symm hj)] at h
      exact ⟨hj, h⟩
  have keyσ : ∀ (j : Nat), j ≠ i → (σ.set i none)[j]? = σ[j]? := fun j hj => List.getElem?_set_ne (Ne.symm hj)
  refine ⟨by simp [x.len], fun j d h n => ?_, fun j xs h => ?_, fun j k xs ys p h1 h2 h3 h4 => ?_⟩
  · obtain ⟨hj, h'⟩ := key j d h
    rw [keyσ j hj]
    exact x.val j d h' n
  · obtain ⟨hj, h'⟩ := key j _ h
    rw [keyσ j hj]
    exact x.own j xs h'
  · obtain ⟨hj, h1'⟩ := key j _ h1
    obtain ⟨hk, h2'⟩ := key k _ h2
    rw [keyσ j hj] at h3
    rw [keyσ k hk] at h4
    exact x.inj j k xs ys p h1' h2' h3 h4
theorem Slots.wipe {s : Sl} (x : Slots wa Hf H σ s) : ∀ vs : List Nat, Slots wa Hf H (L2.wipe σ vs) (wipeS s vs)
  | [] => x
  | v :: vs => (x.wipe vs).setNone v
theorem wipe_none {σ : L2.St} {i : Nat} : ∀ {vs : List Nat}, i ∈ vs → (L2.wipe σ vs).set i none = L2.wipe σ vs
  | v :: vs, h => by
    unfold L2.wipe
    by_cases hv : v = i
    · subst hv
      rw [List.set_set]
    · rw [List.set_comm _ _ hv]
      rcases List.mem_cons.mp h with e | e
      · exact absurd e.symm hv
      · rw [wipe_none e]
theorem wipe_wipe {σ : L2.St} : ∀ vs : List Nat, L2.wipe (L2.wipe σ vs) vs = L2.wipe σ vs := by
  have key : ∀ us vs : List Nat, (∀ i ∈ us, i ∈ vs) → L2.wipe (L2.wipe σ vs) us = L2.wipe σ vs := by
    intro us
    induction us with
    | nil => intro vs _; rfl
    | cons u us ih =>
      intro vs h
      show (L2.wipe (L2.wipe σ vs) us).set u none = L2.wipe σ vs
      rw [ih vs fun i hi => h i (List.mem_cons_of_mem _ hi)]
      exact wipe_none (h u List.mem_cons_self)
  exact fun vs => key vs vs fun _ h => h
theorem weakTs {t t' : TT} (h : PTs X ifs t) (i : ∀ σ H Q, t' σ H Q → t σ H Q) : PTs X ifs t' := ⟨fun pins s σ H Q I q => h.run pins s σ H Q I (i σ H Q q)⟩
theorem td_nil : PTs X [] (lT mg W tYesD) := weakTs pts_nil fun σ H Q h => by
  obtain ⟨wa, Hf, sD, w, hb, hs, h⟩ := h
  exact h.here hb _ rfl
theorem td_one {T : DT} (h : PT X a (lT mg W T)) : PTs X [a] (lT mg W T) := pts_one h
theorem lc_ok {I : DI} {G : DG} {T : DT} {E : DE} {vs : List Nat} {Q : VK} (h : lfL mg W (aLc I G T E vs) σ H Q) : tLc (lI mg W I) (lG vs G) (lT mg W0 T) (lE mg W0 E) vs σ H Q := by
  obtain ⟨wa, Hf, sD, w, hb, hs, h⟩ := h
  refine ⟨wa, Hf, sD, w, hb, hs, h.bind.mono (fun ds w1 H1 Hf1 g1 b1 q J wk D hD => ?_) (fun _ _ _ _ _ _ q => q)⟩
  have hs1 := (hs.go g1).wipe vs
  split at q
  · rename_i hz
    cases el : lcD G T E ds (wipeS sD vs) w1 with
    | er x w2 => rw [el] at q; exact q.elim
    | no => rw [el] at q; exact q.elim
    | ok total wF =>
      rw [el] at q
      have hDw : D ≠ wa := fun z => by rw [z, b1.well] at hD; cases hD
      have hDf : Hf1 D = none := Evl.fresh_back b1.ex hD
      refine ⟨fun i m H2 => m = ds.length - i ∧ i ≤ ds.length ∧ ∃ Hf2 w2 accV acc ys, Go wa H1 Hf1 H2 Hf2 ∧ Base wa Hf2 H2 w2 ∧ H2 D = some (.lst accV) ∧ Hf2 D = none ∧ Reps wa Hf2 accV acc ∧ acc.length ≤ i ∧ lcD G T E (ds.drop i) (wipeS sD vs) w2 = .ok ys wF ∧ acc ++ ys = total,
        ⟨ds.length, by simp, Nat.zero_le _, Hf1, w1, [], [], total, Go.new1 hD, b1.new1 hD, upd_same, hDf, .nil, Nat.le_refl _, el, rfl⟩, ?_⟩
      rintro i m H2 ⟨rfl, hi, Hf2, w2, accV, acc, ys, g2, b2, hD2, hDf2, ra, hal, e2, rfl⟩
      by_cases hlt : i < ds.length
      · have ed : ds.drop i = ds[i] :: ds.drop (i + 1) := List.drop_eq_getElem_cons hlt
        rw [ed] at e2
        have gi : ds[i]? = some ds[i] := by simp [hlt]
        refine .inr ⟨wk.goes i H2 hlt (g2.ex.trans b2.ex), fun H' => ∃ Hf2 w2 accV acc' ys', Go wa H1 Hf1 H' Hf2 ∧ Base wa Hf2 H' w2 ∧ H' D = some (.lst accV) ∧ Hf2 D = none ∧ Reps wa Hf2 accV acc' ∧ acc'.length ≤ i + 1 ∧ lcD G T E (ds.drop (i + 1)) (wipeS sD vs) w2 = .ok ys' wF ∧ acc' ++ ys' = acc ++ ys,
          fun H' hN => ⟨ds.length - (i + 1), by omega, rfl, hlt, hN⟩, fun x H3 hy => ?_⟩
        obtain ⟨Hf3, g3, b3, r3⟩ := wk.yields i H2 Hf2 w2 x H3 _ gi g2.ex b2 hy
        have hD3 : H3 D = some (.lst accV) := g3.keep D _ hDw hD2
        have hDf3 : Hf3 D = none := (g3.new D _ hD2).trans hDf2
        unfold lcD at e2
        cases eg : G ds[i] (wipeS sD vs) with
        | none => rw [eg] at e2; cases e2
        | some s1 =>
          rw [eg] at e2
          dsimp only at e2
          refine ⟨wa, Hf3, fun _ => none, w2, wipeS sD vs, ds[i], s1, b3, r3, (hs1.go g2).go g3, fun _ _ _ _ _ => rfl, eg, fun σ4 hs4 _ hw4 => ⟨hw4.trans (wipe_wipe vs), ?_⟩⟩
          cases et : T s1 w2 with
          | er y u => rw [et] at e2; cases e2
          | no => rw [et] at e2; cases e2
          | ok bb w5 =>
            rw [et] at e2
            refine ⟨wa, Hf3, s1, w2, b3, hs4, ?_⟩
            rw [et]
            intro H5 Hf5 g5 b5 v5 rv5
            have ev5 : v5 = bb := rv5
            subst ev5
            have hD5 : H5 D = some (.lst accV) := g5.keep D _ hDw hD3
            have hDf5 : Hf5 D = none := (g5.new D _ hD3).trans hDf3
            cases v5 with
            | false =>
              refine iteF ?_
              have e3 : lcD G T E (ds.drop (i + 1)) (wipeS sD vs) w5 = .ok ys wF := by simpa [R.noer, R.bind] using e2
              exact ⟨Hf5, w5, accV, acc, ys, (g2.trans g3).trans g5, b5, hD5, hDf5, (ra.mono g3.ex).mono g5.ex, by omega, e3, rfl⟩
            | true =>
              refine iteT ?_
              have e3 : ((E s1 w5).noer.bind fun y w2 => (lcD G T E (ds.drop (i + 1)) (wipeS sD vs) w2).bind fun ys w3 => .ok (y :: ys) w3) = R.ok ys wF := by simpa [R.noer, R.bind] using e2
              cases ee : E s1 w5 with
              | er y u => rw [ee] at e3; cases e3
              | no => rw [ee] at e3; cases e3
              | ok y w6 =>
                rw [ee] at e3
                refine ⟨wa, Hf5, s1, w5, b5, hs4.go g5, ?_⟩
                rw [ee]
                intro H6 Hf6 g6 b6 v6 r6
                have hD6 : H6 D = some (.lst accV) := g6.keep D _ hDw hD5
                have hDf6 : Hf6 D = none := (g6.new D _ hD5).trans hDf5
                have e4 : ((lcD G T E (ds.drop (i + 1)) (wipeS sD vs) w6).bind fun ys w3 => .ok (y :: ys) w3) = R.ok ys wF := by simpa [R.noer, R.bind] using e3
                cases er : lcD G T E (ds.drop (i + 1)) (wipeS sD vs) w6 with
                | er y u => rw [er] at e4; cases e4
                | no => rw [er] at e4; cases e4
                | ok zs w7 =>
                  rw [er] at e4
                  cases e4
                  have ra6 := ((ra.mono g3.ex).mono g5.ex).mono g6.ex
                  have hlen : accV.length = acc.length := ra.length
                  refine ⟨accV, hD6, Nat.lt_of_lt_of_le (by omega : accV.length < lim) (lim_le (Nat.le_refl _)), Hf6, w6, accV ++ [v6], acc ++ [y], zs, ?_, ?_, upd_same, hDf6, ra6.append (.cons r6 .nil), by simp; omega, er, by simp⟩
                  · have gg := ((g2.trans g3).trans g5).trans g6
                    refine ⟨fun a o n h => ?_, gg.ex, gg.new, fun a o h => ?_⟩
                    · rw [upd_ne (ne_of_none h hD)]
                      exact gg.keep a o n h
                    · rw [upd_ne (ne_of_none h hD)]
                      exact gg.there a o h
                  · exact ⟨Evl.Ex.mut b6.ex hDf6, by rw [upd_ne (Ne.symm hDw)]; exact b6.well, b6.nw, b6.od⟩
      · have ei : i = ds.length := by omega
        subst ei
        rw [List.drop_length] at e2
        cases e2
        refine .inl ⟨wk.stops H2 (g2.ex.trans b2.ex), ?_⟩
        rw [List.append_nil] at q
        exact q H2 Hf2 g2 b2 D accV (g1.free hD) hD2 hDf2 hDw ra
  · exact q.elim
/-- [elt for tg in iter if ..]: a new list -/
theorem pl_lc {scope : Scope} {own : List (Str × Nat)} {I : DI} {G : DG} {T : DT} {E : DE} (hc : X.calm = true) (hN : X.N.Nodup) (hi : PI X tg iter (lI mg W I)) (ok : BlkOk X.N X.env.scope scope own)
    (hg : ∀ (s : Shared) (H : Hp) (C : Addr) (cl : List (Str × Addr)) (fp : List Addr), PG (X.blk s H scope (compEnvC scope cl C X.env) fp) tg (lG (own.map (·.2)) G)) (ht : ∀ (s : Shared) (H : Hp) (C : Addr) (cl : List (Str × Addr)) (fp : List Addr), PTs (X.blk s H scope (compEnvC scope cl C X.env) fp) ifs (lT mg W0 T))
    (he : ∀ (s : Shared) (H : Hp) (C : Addr) (cl : List (Str × Addr)) (fp : List Addr), PE (X.blk s H scope (compEnvC scope cl C X.env) fp) elt (lE mg W0 E)) (hs : ∀ x, foldedSetIterable iter X.env x = pure x := by intro _; rfl) :
    PE X (.ListComp elt [⟨tg, iter, ifs, 0⟩] scope pos) (lfL mg W (aLc I G T E (own.map (·.2)))) := weakE (pe_lc hc hN hi ok hg ht he hs) fun _ _ _ q => lc_ok q

/-! ### statements -/
def FinS (mg : Str → Option Value) (W : WX) (wa : Addr) (H0 Hf0 Hf : Hp) (r : RS) (D : Ends) : Prop := match r with
  | .nx s w => ∀ σ H' Hf', Go wa H0 Hf0 H' Hf' → Ex Hf Hf' → Base wa Hf' H' w → Slots wa Hf' H' σ s → OwnNew H0 σ s → D.nx σ H'
  | .bk s w => ∀ σ H' Hf', Go wa H0 Hf0 H' Hf' → Ex Hf Hf' → Base wa Hf' H' w → Slots wa Hf' H' σ s → OwnNew H0 σ s → D.bk σ H'
  | .ct s w => ∀ σ H' Hf', Go wa H0 Hf0 H' Hf' → Ex Hf Hf' → Base wa Hf' H' w → Slots wa Hf' H' σ s → OwnNew H0 σ s → D.ct σ H'
  | .rt d w => ∀ H' Hf' v, Go wa H0 Hf0 H' Hf' → Base wa Hf' H' w → Rep wa Hf' v d → D.rt v H'
  | .er x s w => ∀ σ H' Hf' cls dx, Go wa H0 Hf0 H' Hf' → Ex Hf Hf' → Base wa Hf' H' w → Slots wa Hf' H' σ s → OwnNew H0 σ s → ErrV mg wa Hf' x cls dx → W cls dx σ H'
  | .no => False
def lS (mg : Str → Option Value) (W : WX) (S : DS) : TS := fun D σ H => ∃ wa Hf sD w H0 Hf0, Go wa H0 Hf0 H Hf ∧ Base wa Hf H w ∧ Slots wa Hf H σ sD ∧ OwnNew H0 σ sD ∧ FinS mg W wa H0 Hf0 Hf (S sD w) D
theorem FinS.shift {H0 Hf0 Hf Hf1 : Hp} {r : RS} {D : Ends} (h : FinS mg W wa H0 Hf0 Hf r D) (x : Ex Hf Hf1) : FinS mg W wa H0 Hf0 Hf1 r D := by
  cases r with
  | nx s w => exact fun σ H' Hf' g e => h σ H' Hf' g (x.trans e)
  | bk s w => exact fun σ H' Hf' g e => h σ H' Hf' g (x.trans e)
  | ct s w => exact fun σ H' Hf' g e => h σ H' Hf' g (x.trans e)
  | rt d w => exact h
  | er y s w => exact fun σ H' Hf' cls dx g e => h σ H' Hf' cls dx g (x.trans e)
  | no => exact h
theorem weakS {st : Stmt} {t t' : TS} (h : PS X st t) (i : ∀ D σ H, t' D σ H → t D σ H) : PS X st t' := ⟨fun pins s σ H D I q => h.run pins s σ H D I (i D σ H q)⟩
theorem weakSs {st : List Stmt} {t t' : TS} (h : PSs X st t) (i : ∀ D σ H, t' D σ H → t D σ H) : PSs X st t' := ⟨fun pins s σ H D I q => h.run pins s σ H D I (i D σ H q)⟩
def sNx : DS := fun s w => .nx s w
def sSeq (S T : DS) : DS := fun s w => match S s w with
  | .nx s1 w1 => T s1 w1
  | o => o
variable {st : Stmt} {rest sts : List Stmt} {S T U : DS} {A B E : DE} {As : DA}
theorem sd_nil : PSs X [] (lS mg W sNx) := weakSs pss_nil fun D σ H h => by
  obtain ⟨wa, Hf, sD, w, H0, Hf0, g, b, hs, ho, h⟩ := h
  exact h σ H Hf g (Ex.refl _) b hs ho
theorem sd_cons (h1 : PS X st (lS mg W S)) (h2 : PSs X rest (lS mg W T)) : PSs X (st :: rest) (lS mg W (sSeq S T)) := weakSs (pss_cons h1 h2) fun D σ H h => by
  obtain ⟨wa, Hf, sD, w, H0, Hf0, g, b, hs, ho, h⟩ := h
  refine ⟨wa, Hf, sD, w, H0, Hf0, g, b, hs, ho, ?_⟩
  unfold sSeq at h
  cases e : S sD w with
  | nx s1 w1 =>
    rw [e] at h
    exact fun σ' H' Hf' g' x' b' hs' ho' => ⟨wa, Hf', s1, w1, H0, Hf0, g', b', hs', ho', h.shift x'⟩
  | bk s1 w1 => rw [e] at h; exact h
  | ct s1 w1 => rw [e] at h; exact h
  | rt d w1 => rw [e] at h; exact h
  | er x s1 w1 => rw [e] at h; exact h
  | no => rw [e] at h; exact h
theorem sd_one (h1 : PS X st (lS mg W S)) : PSs X [st] (lS mg W S) := pss_one h1
def sAsg (i : Nat) (E : DE) : DS := fun s w => match E s w with
  | .ok d w1 => .nx (s.set i (some d)) w1
  | .er x w1 => .er x s w1
  | .no => .no
theorem sd_asg {i : Nat} (h : PS X st (tAsg (lE mg W E) (gName i))) : PS X st (lS mg W (sAsg i E)) := weakS h fun D σ H h => by
  obtain ⟨wa, Hf, sD, w, H0, Hf0, g, b, hs, ho, h⟩ := h
  refine ⟨wa, Hf, sD, w, b, hs, ?_⟩
  unfold sAsg at h
  cases e : E sD w with
  | ok d w1 =>
    rw [e] at h
    exact fun H1 Hf1 g1 b1 v rv => h (σ.set i (some v)) H1 Hf1 (g.trans g1) g1.ex b1 ((hs.go g1).set rv) (ho.set fun xs z => by subst z; exact rep_own rv)
  | er x w1 =>
    rw [e] at h
    exact fun H1 Hf1 g1 b1 cls dx ev => h σ H1 Hf1 cls dx (g.trans g1) g1.ex b1 (hs.go g1) ho ev
  | no => rw [e] at h; exact h
/-- a new list that its slot owns -/
def sNew (i : Nat) (E : DA) : DS := fun s w => match E s w with
  | .ok d w1 => .nx (s.set i (some (.own d))) w1
  | .er x w1 => .er x s w1
  | .no => .no
theorem sd_new {i : Nat} (h : PS X st (tAsg (lfL mg W As) (gName i))) : PS X st (lS mg W (sNew i As)) := weakS h fun D σ H h => by
  obtain ⟨wa, Hf, sD, w, H0, Hf0, g, b, hs, ho, h⟩ := h
  refine ⟨wa, Hf, sD, w, b, hs, ?_⟩
  unfold sNew at h
  cases e : As sD w with
  | ok d w1 =>
    rw [e] at h
    refine fun H1 Hf1 g1 b1 p vs hp e1 e2 e3 rv => h (σ.set i (some (.ref p))) H1 Hf1 (g.trans g1) g1.ex b1 ((hs.go g1).setOwn e1 e2 e3 rv fun j ys hj hp' => ?_) (ho.setOwn hs.len (g.free hp))
    obtain ⟨q, us, k1, k2, _⟩ := hs.own j ys hj
    rw [hp'] at k1
    cases k1
    rw [hp] at k2
    cases k2
  | er x w1 =>
    rw [e] at h
    exact fun H1 Hf1 g1 b1 cls dx ev => h σ H1 Hf1 cls dx (g.trans g1) g1.ex b1 (hs.go g1) ho ev
  | no => rw [e] at h; exact h
theorem asg_weak {te te' : TE} {i : Nat} (h : PS X st (tAsg te (gName i))) (w : ∀ σ H Q, te' σ H Q → te σ H Q) : PS X st (tAsg te' (gName i)) := weakS h fun D σ H q => w σ H _ q
/-- any target -/
def sTg (G : DG) (E : DE) : DS := fun s w => match E s w with
  | .ok d w1 => match G d s with
    | some s1 => .nx s1 w1
    | none => .no
  | .er x w1 => .er x s w1
  | .no => .no
theorem sd_tg {G : DG} {vs : List Nat} (h : PS X st (tAsg (lE mg W E) (lG vs G))) : PS X st (lS mg W (sTg G E)) := weakS h fun D σ H h => by
  obtain ⟨wa, Hf, sD, w, H0, Hf0, g, b, hs, ho, h⟩ := h
  refine ⟨wa, Hf, sD, w, b, hs, ?_⟩
  unfold sTg at h
  cases e : E sD w with
  | ok d w1 =>
    rw [e] at h
    dsimp only at h
    cases eg : G d sD with
    | none => rw [eg] at h; exact h.elim
    | some s1 =>
      rw [eg] at h
      exact fun H1 Hf1 g1 b1 v rv => ⟨wa, Hf1, H0, w1, sD, d, s1, b1, rv, hs.go g1, ho, eg, fun σ' hs' ho' _ => h σ' H1 Hf1 (g.trans g1) g1.ex b1 hs' ho'⟩
  | er x w1 =>
    rw [e] at h
    exact fun H1 Hf1 g1 b1 cls dx ev => h σ H1 Hf1 cls dx (g.trans g1) g1.ex b1 (hs.go g1) ho ev
  | no => rw [e] at h; exact h
def sDrop (E : DE) : DS := fun s w => match E s w with
  | .ok _ w1 => .nx s w1
  | .er x w1 => .er x s w1
  | .no => .no
theorem sd_expr (he : PE X e (lE mg W E)) (hsw : swapsWith e none pos.line X.env = pure false := by rfl) : PS X (.Expr e pos) (lS mg W (sDrop E)) := weakS (ps_expr he hsw) fun D σ H h => by
  obtain ⟨wa, Hf, sD, w, H0, Hf0, g, b, hs, ho, h⟩ := h
  refine ⟨wa, Hf, sD, w, b, hs, ?_⟩
  unfold sDrop at h
  cases e : E sD w with
  | ok d w1 =>
    rw [e] at h
    exact fun H1 Hf1 g1 b1 v rv => h σ H1 Hf1 (g.trans g1) g1.ex b1 (hs.go g1) ho
  | er x w1 =>
    rw [e] at h
    exact fun H1 Hf1 g1 b1 cls dx ev => h σ H1 Hf1 cls dx (g.trans g1) g1.ex b1 (hs.go g1) ho ev
  | no => rw [e] at h; exact h
/-- x.append(e), x the slot's own list -/
def sApp (i : Nat) (E : DE) : DS := fun s w => match s[i]? with
  | some (some (.own xs)) => match E s w with
    | .ok d w1 => if xs.length < lim then .nx (s.set i (some (.own (xs ++ [d])))) w1 else .no
    | .er x w1 => .er x s w1
    | .no => .no
  | _ => .no
theorem sd_app {i : Nat} (h : PS X st (tDrop (tBM X.K "list" rAppend (tVar i) (tCons (lE mg W E) tNil)))) : PS X st (lS mg W (sApp i E)) := weakS h fun D σ H h => by
  obtain ⟨wa, Hf, sD, w, H0, Hf0, g, b, hs, ho, h⟩ := h
  unfold sApp at h
  split at h
  · rename_i xs hi
    obtain ⟨p, vs, k1, k2, k3, k4, k5⟩ := hs.own i xs hi
    refine ⟨.ref p, k1, .inl ⟨rfl, vs, SqL.of k2⟩, wa, Hf, sD, w, b, hs, ?_⟩
    cases e : E sD w with
    | ok d w1 =>
      rw [e] at h
      dsimp only at h
      split at h
      · rename_i hz
        intro H1 Hf1 g1 b1 v rv
        have hs1 := hs.go g1
        have kp : H1 p = some (.lst vs) := g1.keep p _ k4 k2
        have kf : Hf1 p = none := (g1.new p _ k2).trans k3
        have h0 : H0 p = none := ho i xs p hi k1
        have r1 : Reps wa Hf1 (vs ++ [v]) (xs ++ [d]) := (k5.mono g1.ex).append (.cons rv .nil)
        refine ⟨p, vs, v, rfl, rfl, kp, Nat.lt_of_lt_of_le (by rw [k5.length]; exact hz) (lim_le (Nat.le_refl _)), ?_⟩
        refine h σ _ Hf1 ?_ g1.ex ?_ (hs1.write hi k1 r1) (ho.sub fun j ys hj => ?_)
        · have gg := g.trans g1
          exact ⟨fun a o n q => by rw [upd_ne (ne_of_none q h0)]; exact gg.keep a o n q, gg.ex, gg.new, fun a o q => by rw [upd_ne (ne_of_none q h0)]; exact gg.there a o q⟩
        · exact ⟨Evl.Ex.mut b1.ex kf, by rw [upd_ne (Ne.symm k4)]; exact b1.well, b1.nw, b1.od⟩
        · by_cases hji : j = i
          · subst hji
            exact ⟨xs, hi⟩
          · rw [List.getElem?_set_ne (Ne.symm hji)] at hj
            exact ⟨ys, hj⟩
      · exact h.elim
    | er x w1 =>
      rw [e] at h
      exact fun H1 Hf1 g1 b1 cls dx ev => h σ H1 Hf1 cls dx (g.trans g1) g1.ex b1 (hs.go g1) ho ev
    | no => rw [e] at h; exact h
  · exact h.elim
/-- the well's k-th number stored -/
def setW (w : Wl) (k : Int) (z : Int) : Option Wl := if k = 0 then some (z, w.2.1, w.2.2) else if k = 1 then some (w.1, z, w.2.2) else if k = 2 then some (w.1, w.2.1, z) else none
def sSetW (A B E : DE) : DS := fun s w => match (E s w).bind fun d w1 => (A s w1).bind fun x w2 => (B s w2).bind fun k w3 => .ok [d, x, k] w3 with
  | .ok [.int z, .well, .int k] w3 => match setW w3 k z with
    | some w4 => .nx s w4
    | none => .no
  | .er x w3 => .er x s w3
  | _ => .no
theorem sd_setW (h : PS X st (tAsg (lE mg W E) (gSub (lE mg W A) (lE mg W B) rSetL))) : PS X st (lS mg W (sSetW A B E)) := weakS h fun D σ H h => by
  obtain ⟨wa, Hf, sD, w, H0, Hf0, g, b, hs, ho, h⟩ := h
  refine ⟨wa, Hf, sD, w, b, hs, ?_⟩
  unfold sSetW at h
  cases e : E sD w with
  | no => rw [e] at h; exact h
  | er x w1 =>
    rw [e] at h
    exact fun H1 Hf1 g1 b1 cls dx ev => h σ H1 Hf1 cls dx (g.trans g1) g1.ex b1 (hs.go g1) ho ev
  | ok d w1 =>
    rw [e, R.bind_ok] at h
    intro H1 Hf1 g1 b1 v rv
    refine ⟨wa, Hf1, sD, w1, b1, hs.go g1, ?_⟩
    cases e2 : A sD w1 with
    | no => rw [e2] at h; exact h
    | er x w2 =>
      rw [e2] at h
      exact fun H2 Hf2 g2 b2 cls dx ev => h σ H2 Hf2 cls dx ((g.trans g1).trans g2) (g1.ex.trans g2.ex) b2 ((hs.go g1).go g2) ho ev
    | ok x w2 =>
      rw [e2, R.bind_ok] at h
      intro H2 Hf2 g2 b2 v2 rv2
      refine ⟨wa, Hf2, sD, w2, b2, (hs.go g1).go g2, ?_⟩
      cases e3 : B sD w2 with
      | no => rw [e3] at h; exact h
      | er x w3 =>
        rw [e3] at h
        exact fun H3 Hf3 g3 b3 cls dx ev => h σ H3 Hf3 cls dx (((g.trans g1).trans g2).trans g3) ((g1.ex.trans g2.ex).trans g3.ex) b3 (((hs.go g1).go g2).go g3) ho ev
      | ok k w3 =>
        rw [e3, R.bind_ok] at h
        intro H3 Hf3 g3 b3 v3 rv3
        split at h
        · rename_i z k' w3' heq
          cases heq
          cases rv3
          cases rv2
          cases rv
          split at h
          · rename_i w4 hw
            have fin : ∀ j, ixN (wl w3).length k' = some j → wl w4 = (wl w3).set j (.int z) → rSetL (.ref wa) (.int k') (.int z) H3 fun H4 => D.nx σ H4 := fun j hj he => by
              refine ⟨wa, wl w3, k', j, rfl, rfl, b3.well, hj, ?_⟩
              rw [← he]
              have gg := (((g.trans g1).trans g2).trans g3)
              have hs3 := ((hs.go g1).go g2).go g3
              have g4 : Go wa H3 Hf3 (upd H3 wa (.lst (wl w4))) Hf3 := ⟨fun a o n q => by rw [upd_ne n]; exact q, Ex.refl _, fun _ _ _ => rfl, fun a o q => by
                by_cases ha : a = wa
                · exact ⟨_, by rw [ha]; exact upd_same⟩
                · exact ⟨o, by rw [upd_ne ha]; exact q⟩⟩
              exact h σ _ Hf3 (gg.trans g4) ((g1.ex.trans g2.ex).trans g3.ex) ⟨Evl.Ex.mut b3.ex b3.nw, upd_same, b3.nw, b3.od⟩ (hs3.go g4) ho
            unfold setW at hw
            split at hw
            · rename_i h0
              cases hw
              subst h0
              exact fin 0 rfl rfl
            · split at hw
              · rename_i h0
                cases hw
                subst h0
                exact fin 1 rfl rfl
              · split at hw
                · rename_i h0
                  cases hw
                  subst h0
                  exact fin 2 rfl rfl
                · cases hw
          · exact h.elim
        · rename_i heq
          cases heq
        · exact h.elim
def sIf (C : DT) (S T : DS) : DS := fun s w => match C s w with
  | .ok k w1 => if k then S s w1 else T s w1
  | .er x w1 => .er x s w1
  | .no => .no
theorem sd_if {c : Expr} {a b : List Stmt} {C : DT} (hc : PT X c (lT mg W C)) (ha : PSs X a (lS mg W S)) (hb : PSs X b (lS mg W T)) : PS X (.If c a b pos) (lS mg W (sIf C S T)) := weakS (ps_if hc ha hb) fun D σ H h => by
  obtain ⟨wa, Hf, sD, w, H0, Hf0, g, b, hs, ho, h⟩ := h
  refine ⟨wa, Hf, sD, w, b, hs, ?_⟩
  unfold sIf at h
  cases e : C sD w with
  | no => rw [e] at h; exact h
  | er x w1 =>
    rw [e] at h
    exact fun H1 Hf1 g1 b1 cls dx ev => h σ H1 Hf1 cls dx (g.trans g1) g1.ex b1 (hs.go g1) ho ev
  | ok k w1 =>
    rw [e] at h
    intro H1 Hf1 g1 b1 v rv
    have ev : v = k := rv
    subst ev
    cases v with
    | true => exact iteT ⟨wa, Hf1, sD, w1, H0, Hf0, g.trans g1, b1, hs.go g1, ho, FinS.shift h g1.ex⟩
    | false => exact iteF ⟨wa, Hf1, sD, w1, H0, Hf0, g.trans g1, b1, hs.go g1, ho, FinS.shift h g1.ex⟩
def sRet (E : DE) : DS := fun s w => match E s w with
  | .ok d w1 => .rt d w1
  | .er x w1 => .er x s w1
  | .no => .no
theorem sd_ret (he : PE X e (lE mg W E)) : PS X (.Return (some e) pos) (lS mg W (sRet E)) := weakS (ps_ret he) fun D σ H h => by
  obtain ⟨wa, Hf, sD, w, H0, Hf0, g, b, hs, ho, h⟩ := h
  refine ⟨wa, Hf, sD, w, b, hs, ?_⟩
  unfold sRet at h
  cases e : E sD w with
  | ok d w1 =>
    rw [e] at h
    exact fun H1 Hf1 g1 b1 v rv => h H1 Hf1 v (g.trans g1) b1 rv
  | er x w1 =>
    rw [e] at h
    exact fun H1 Hf1 g1 b1 cls dx ev => h σ H1 Hf1 cls dx (g.trans g1) g1.ex b1 (hs.go g1) ho ev
  | no => rw [e] at h; exact h
/-- a, b = e1, e2 -/
def sPar (i j : Nat) (As : DA) : DS := fun s w => match As s w with
  | .ok [x, y] w1 => .nx ((s.set i (some x)).set j (some y)) w1
  | .er x w1 => .er x s w1
  | _ => .no
theorem sd_par {i j : Nat} (h : PS X st (tPar i j (lA mg W As))) : PS X st (lS mg W (sPar i j As)) := weakS h fun D σ H h => by
  obtain ⟨wa, Hf, sD, w, H0, Hf0, g, b, hs, ho, h⟩ := h
  refine ⟨wa, Hf, sD, w, b, hs, ?_⟩
  unfold sPar at h
  cases e : As sD w with
  | ok d w1 =>
    rw [e] at h
    intro H1 Hf1 g1 b1 v rv
    split at h
    · rename_i x y w1' heq
      cases heq
      cases rv with
      | cons r1 r2 =>
        cases r2 with
        | cons r2 r3 =>
          cases r3
          have n1 : ∀ xs, x ≠ .own xs := fun xs z => by subst z; exact rep_own r1
          have n2 : ∀ xs, y ≠ .own xs := fun xs z => by subst z; exact rep_own r2
          exact ⟨_, _, rfl, h _ H1 Hf1 (g.trans g1) g1.ex b1 (((hs.go g1).set r1).set r2) ((ho.set n1).set n2)⟩
    · rename_i heq
      cases heq
    · exact h.elim
  | er x w1 =>
    rw [e] at h
    exact fun H1 Hf1 g1 b1 cls dx ev => h σ H1 Hf1 cls dx (g.trans g1) g1.ex b1 (hs.go g1) ho ev
  | no => rw [e] at h; exact h
/-- from here on the slot's own list is only read -/
def frzS (i : Nat) (s : Sl) : Sl := match s[i]? with
  | some (some (.own xs)) => s.set i (some (.lst xs))
  | _ => s
def sFrz (i : Nat) (S : DS) : DS := fun s w => S (frzS i s) w
theorem frz_ok {i : Nat} {D : Ends} (h : lS mg W (sFrz i S) D σ H) : lS mg W S D σ H := by
  obtain ⟨wa, Hf, sD, w, H0, Hf0, g, b, hs, ho, h⟩ := h
  unfold sFrz frzS at h
  split at h
  · rename_i xs hi
    obtain ⟨p, vs, k1, k2, k3, k4, k5⟩ := hs.own i xs hi
    have h0 : H0 p = none := ho i xs p hi k1
    have x1 : Ex Hf (upd Hf p (.lst vs)) := Ex.new k3
    refine ⟨wa, upd Hf p (.lst vs), _, w, H0, Hf0, ⟨g.keep, g.ex.trans x1, fun a o q => by rw [upd_ne (ne_of_none q h0)]; exact g.new a o q, g.there⟩, ⟨fun a u q => ?_, b.well, by rw [upd_ne (Ne.symm k4)]; exact b.nw, b.od.trans x1⟩, hs.frz hi k1 k2, ho.sub fun j ys hj => ?_, FinS.shift h x1⟩
    · by_cases ha : a = p
      · subst ha; rw [upd_same] at q; rw [← q]; exact k2
      · rw [upd_ne ha] at q; exact b.ex a u q
    · by_cases hji : j = i
      · subst hji
        rw [List.getElem?_set_self (List.getElem?_eq_some_iff.mp hi).1] at hj
        cases hj
      · rw [List.getElem?_set_ne (Ne.symm hji)] at hj
        exact ⟨ys, hj⟩
  · exact ⟨wa, Hf, sD, w, H0, Hf0, g, b, hs, ho, h⟩
theorem sd_frz (i : Nat) (h : PSs X sts (lS mg W S)) : PSs X sts (lS mg W (sFrz i S)) := weakSs h fun _ _ _ q => frz_ok q
theorem sd_frz1 (i : Nat) (h : PS X st (lS mg W S)) : PS X st (lS mg W (sFrz i S)) := weakS h fun _ _ _ q => frz_ok q
/-! ### loops -/
def loopD (G : DG) (B : DS) : List D → DS
  | [], s, w => .nx s w
  | d :: r, s, w => match G d s with
    | none => .no
    | some s1 => match B s1 w with
      | .nx s2 w2 => loopD G B r s2 w2
      | .ct s2 w2 => loopD G B r s2 w2
      | .bk s2 w2 => .nx s2 w2
      | o => o
def sFor (I : DI) (G : DG) (B : DS) : DS := fun s w => match I s w with
  | .ok ds w1 => loopD G B ds s w1
  | .er x w1 => .er x s w1
  | .no => .no
theorem sd_for {I : DI} {G : DG} {S : DS} {vs : List Nat} {body : List Stmt} (hp : PassesOwn (model X.prog X.w) X.A X.env X.xe) (hc : X.calm = true) (hi : PI X tg iter (lI mg W I)) (hg : PG X tg (lG vs G)) (hb : PSs X body (lS mg W S))
    (hfs : ∀ x, foldedSetIterable iter X.env x = pure x := by intro _; rfl) : PS X (.For tg iter body [] pos) (lS mg W (sFor I G S)) := weakS (ps_for hp hc hi hg hb hfs) fun D σ H h => by
  obtain ⟨wa, Hf, sD, w, H0, Hf0, g, b, hs, ho, h⟩ := h
  refine ⟨wa, Hf, sD, w, b, hs, ?_⟩
  unfold sFor at h
  cases e : I sD w with
  | no => rw [e] at h; exact h
  | er x w1 =>
    rw [e] at h
    exact fun H1 Hf1 g1 b1 cls dx ev => h σ H1 Hf1 cls dx (g.trans g1) g1.ex b1 (hs.go g1) ho ev
  | ok ds w1 =>
    rw [e] at h
    intro H1 Hf1 g1 b1 J wk
    have h1 := FinS.shift h g1.ex
    refine ⟨fun i m σ2 H2 => m = ds.length - i ∧ i ≤ ds.length ∧ ∃ Hf2 s2 w2, Go wa H0 Hf0 H2 Hf2 ∧ Ex Hf1 Hf2 ∧ Base wa Hf2 H2 w2 ∧ Slots wa Hf2 H2 σ2 s2 ∧ OwnNew H0 σ2 s2 ∧ FinS mg W wa H0 Hf0 Hf2 (loopD G S (ds.drop i) s2 w2) D,
      ⟨ds.length, by simp, Nat.zero_le _, Hf1, sD, w1, g.trans g1, Ex.refl _, b1, hs.go g1, ho, h1⟩, ?_⟩
    rintro i m σ2 H2 ⟨rfl, hle, Hf2, s2, w2, g2, x2, b2, hs2, ho2, h2⟩
    by_cases hlt : i < ds.length
    · have ed : ds.drop i = ds[i] :: ds.drop (i + 1) := List.drop_eq_getElem_cons hlt
      rw [ed] at h2
      have gi : ds[i]? = some ds[i] := by simp [hlt]
      refine .inr ⟨wk.goes i H2 hlt (x2.trans b2.ex), fun σ' H' => ∃ Hf2 s2 w2, Go wa H0 Hf0 H' Hf2 ∧ Ex Hf1 Hf2 ∧ Base wa Hf2 H' w2 ∧ Slots wa Hf2 H' σ' s2 ∧ OwnNew H0 σ' s2 ∧ FinS mg W wa H0 Hf0 Hf2 (loopD G S (ds.drop (i + 1)) s2 w2) D,
        fun σ' H' hN => ⟨ds.length - (i + 1), by omega, rfl, hlt, hN⟩, fun x H3 hy => ?_⟩
      obtain ⟨Hf3, g3, b3, r3⟩ := wk.yields i H2 Hf2 w2 x H3 _ gi x2 b2 hy
      unfold loopD at h2
      cases eg : G ds[i] s2 with
      | none => rw [eg] at h2; exact h2.elim
      | some s3 =>
        rw [eg] at h2
        dsimp only at h2
        refine ⟨wa, Hf3, H0, w2, s2, ds[i], s3, b3, r3, hs2.go g3, ho2, eg, fun σ4 hs4 ho4 _ => ⟨wa, Hf3, s3, w2, H0, Hf0, g2.trans g3, b3, hs4, ho4, ?_⟩⟩
        cases eb : S s3 w2 with
        | nx s5 w5 =>
          rw [eb] at h2
          exact fun σ5 H5 Hf5 g5 x5 b5 hs5 ho5 => ⟨Hf5, s5, w5, g5, (x2.trans g3.ex).trans x5, b5, hs5, ho5, FinS.shift h2 (g3.ex.trans x5)⟩
        | ct s5 w5 =>
          rw [eb] at h2
          exact fun σ5 H5 Hf5 g5 x5 b5 hs5 ho5 => ⟨Hf5, s5, w5, g5, (x2.trans g3.ex).trans x5, b5, hs5, ho5, FinS.shift h2 (g3.ex.trans x5)⟩
        | bk s5 w5 =>
          rw [eb] at h2
          exact fun σ5 H5 Hf5 g5 x5 b5 hs5 ho5 => h2 σ5 H5 Hf5 g5 (g3.ex.trans x5) b5 hs5 ho5
        | rt d w5 => rw [eb] at h2; exact h2
        | er y s5 w5 => rw [eb] at h2; exact FinS.shift (r := .er y s5 w5) h2 g3.ex
        | no => rw [eb] at h2; exact h2
    · have ei : i = ds.length := by omega
      subst ei
      rw [List.drop_length] at h2
      exact .inl ⟨wk.stops H2 (x2.trans b2.ex), h2 σ2 H2 Hf2 g2 (Ex.refl _) b2 hs2 ho2⟩
/-- at most n turns -/
def whileD (C : DT) (B : DS) : Nat → DS
  | 0, _, _ => .no
  | n + 1, s, w => match C s w with
    | .ok true w1 => match B s w1 with
      | .nx s2 w2 => whileD C B n s2 w2
      | .ct s2 w2 => whileD C B n s2 w2
      | .bk s2 w2 => .nx s2 w2
      | o => o
    | .ok false w1 => .nx s w1
    | .er x w1 => .er x s w1
    | .no => .no
theorem sd_while {c : Expr} {C : DT} {S : DS} {body : List Stmt} (n : Nat) (hp : PassesOwn (model X.prog X.w) X.A X.env X.xe) (hc : PT X c (lT mg W C)) (hb : PSs X body (lS mg W S)) : PS X (.While c body [] pos) (lS mg W (whileD C S n)) := weakS (ps_while hp hc hb) fun D σ H h => by
  obtain ⟨wa, Hf, sD, w, H0, Hf0, g, b, hs, ho, h⟩ := h
  refine ⟨fun m σ2 H2 => ∃ Hf2 s2 w2, Go wa H0 Hf0 H2 Hf2 ∧ Base wa Hf2 H2 w2 ∧ Slots wa Hf2 H2 σ2 s2 ∧ OwnNew H0 σ2 s2 ∧ Ex Hf Hf2 ∧ FinS mg W wa H0 Hf0 Hf2 (whileD C S m s2 w2) D, ⟨n, Hf, sD, w, g, b, hs, ho, Ex.refl _, h⟩, ?_⟩
  rintro m σ2 H2 ⟨Hf2, s2, w2, g2, b2, hs2, ho2, x2, h2⟩
  cases m with
  | zero => exact h2.elim
  | succ m =>
    unfold whileD at h2
    refine ⟨wa, Hf2, s2, w2, b2, hs2, ?_⟩
    cases ec : C s2 w2 with
    | no => rw [ec] at h2; exact h2
    | er x w3 =>
      rw [ec] at h2
      exact fun H1 Hf1 g1 b1 cls dx ev => h2 σ2 H1 Hf1 cls dx (g2.trans g1) g1.ex b1 (hs2.go g1) ho2 ev
    | ok k w3 =>
      rw [ec] at h2
      intro H3 Hf3 g3 b3 v rv
      have ev : v = k := rv
      subst ev
      cases v with
      | false => exact iteF (h2 σ2 H3 Hf3 (g2.trans g3) g3.ex b3 (hs2.go g3) ho2)
      | true =>
        dsimp only at h2
        refine iteT ⟨fun σ' H' => ∃ Hf2 s2 w2, Go wa H0 Hf0 H' Hf2 ∧ Base wa Hf2 H' w2 ∧ Slots wa Hf2 H' σ' s2 ∧ OwnNew H0 σ' s2 ∧ Ex Hf Hf2 ∧ FinS mg W wa H0 Hf0 Hf2 (whileD C S m s2 w2) D, fun σ' H' hN => ⟨m, Nat.lt_succ_self m, hN⟩,
          wa, Hf3, s2, w3, H0, Hf0, g2.trans g3, b3, hs2.go g3, ho2, ?_⟩
        cases eb : S s2 w3 with
        | nx s5 w5 =>
          rw [eb] at h2
          exact fun σ5 H5 Hf5 g5 x5 b5 hs5 ho5 => ⟨Hf5, s5, w5, g5, b5, hs5, ho5, (x2.trans g3.ex).trans x5, FinS.shift h2 (g3.ex.trans x5)⟩
        | ct s5 w5 =>
          rw [eb] at h2
          exact fun σ5 H5 Hf5 g5 x5 b5 hs5 ho5 => ⟨Hf5, s5, w5, g5, b5, hs5, ho5, (x2.trans g3.ex).trans x5, FinS.shift h2 (g3.ex.trans x5)⟩
        | bk s5 w5 =>
          rw [eb] at h2
          exact fun σ5 H5 Hf5 g5 x5 b5 hs5 ho5 => h2 σ5 H5 Hf5 g5 (g3.ex.trans x5) b5 hs5 ho5
        | rt d w5 => rw [eb] at h2; exact h2
        | er y s5 w5 => rw [eb] at h2; exact FinS.shift (r := .er y s5 w5) h2 g3.ex
        | no => rw [eb] at h2; exact h2
end
/-! ### a def -/
def runB (n k : Nat) (B : DS) : DF := fun ds w => if ds.length = k then match B (ds.map some ++ List.replicate (n - k) none) w with
    | .nx _ w1 => .ok .non w1
    | .rt d w1 => .ok d w1
    | .er x _ w1 => .er x w1
    | _ => .no
  else .no
section
variable {P : Program} {w : World} {K : PySem.W.Frag} {mg : Str → Option Value} {base : Heap}
theorem slots_start {wa : Addr} {Hf H : Hp} {vs : List V} {ds : List D} {N : List Str} (hl : vs.length ≤ N.length) (r : Reps wa Hf vs ds) : Slots wa Hf H (L2.start N vs) (ds.map some ++ List.replicate (N.length - ds.length) none) := by
  have e := r.length
  have key : ∀ (i : Nat) (d : D), (ds.map some ++ List.replicate (N.length - ds.length) none)[i]? = some (some d) → ds[i]? = some d := fun i d h => by
    rw [List.getElem?_append] at h
    split at h
    · rw [List.getElem?_map] at h
      cases q : ds[i]? with
      | none => rw [q] at h; cases h
      | some z => rw [q] at h; cases h; rfl
    · rw [List.getElem?_replicate] at h
      split at h <;> cases h
  have nown : ∀ (i : Nat) (xs : List D), ds[i]? ≠ some (.own xs) := fun i xs h => by
    obtain ⟨v, _, r'⟩ := r.get h
    exact rep_own r'
  refine ⟨by unfold L2.start; simp [e], fun i d h n => ?_, fun i xs h => absurd (key i _ h) (nown i xs), fun i j xs ys p h _ _ _ => absurd (key i _ h) (nown i xs)⟩
  obtain ⟨v, h1, h2⟩ := r.get (key i d h)
  refine ⟨v, ?_, h2⟩
  unfold L2.start
  have hi : i < vs.length := (List.getElem?_eq_some_iff.mp h1).1
  rw [List.getElem?_append_left (by simpa using hi), List.getElem?_map, h1]
  rfl
theorem fnD {x qual : Str} {st : Stmt} {f : Addr} {fd : FuncData} {N ps : List Str} {k : Nat} (F : Fun K x qual st f fd) (S : FnScope N ps (defScope st)) (hN : ps.length ≤ N.length) (B : DS)
    (h : ∀ (cdv : Value) (A : Around) (outer : List Env) (s : Shared) (H : Hp) (E : XK), Room k (A.deeper (envOfC qual (defScope st) s.heap.objs.size f cdv)) →
      PSs (cxOf (L2.CX P w) P w K mg base N qual (defScope st) f cdv A outer s H E) (defBody st) (lS mg (fun cls d _ H => E cls d H) B)) : FnD P w K mg base (k + 1) f fd ps (runB N.length ps.length B) := by
  refine F.okX S (fun vs H Q E ⟨wa, Hf, ds, w, hb, r, hl, _⟩ => by rw [r.length]; exact hl) fun cdv A outer s H vs Q E hr ⟨wa, Hf, ds, w, hb, r, hl, q⟩ => ⟨_, h cdv A outer s H E hr, ?_⟩
  have hvl : vs.length ≤ N.length := by rw [r.length, hl]; exact hN
  have hst := slots_start (H := H) hvl r
  refine ⟨wa, Hf, _, w, H, Hf, Go.refl, hb, hst, fun i xs p h1 _ => ?_, ?_⟩
  · obtain ⟨q1, us, k1, k2, k3, k4, k5⟩ := hst.own i xs h1
    exfalso
    rw [List.getElem?_append] at h1
    split at h1
    · rw [List.getElem?_map] at h1
      cases e : ds[i]? with
      | none => rw [e] at h1; cases h1
      | some z =>
        rw [e] at h1
        cases h1
        obtain ⟨v, _, r'⟩ := r.get e
        exact rep_own r'
    · rw [List.getElem?_replicate] at h1
      split at h1 <;> cases h1
  · unfold runB at q
    rw [if_pos hl, ← hl] at q
    cases eB : B (ds.map some ++ List.replicate (N.length - ds.length) none) w with
    | nx s1 w1 => rw [eB] at q; exact fun σ H' Hf' g _ b _ _ => q H' Hf' g b _ .non
    | rt d w1 => rw [eB] at q; exact fun H' Hf' v g b r' => q H' Hf' g b v r'
    | er y s1 w1 => rw [eB] at q; exact fun σ H' Hf' cls dx g _ b _ _ ev => q H' Hf' g b cls dx ev
    | bk s1 w1 => rw [eB] at q; exact q.elim
    | ct s1 w1 => rw [eB] at q; exact q.elim
    | no => rw [eB] at q; exact q.elim
end
end DL

set_option maxHeartbeats 4000000
namespace DL
open PySem PySem.Spec PyProof.Rows L2
variable [OldT]
open Evl (Ex)
/-! ### zip of two, of three, each a list or a tuple -/
def hoK (k : Bool) (xs : List V) : HO := match k with | true => .tup xs | false => .lst xs
def SI (k : Bool) (h : Heap) (it l : Addr) (i : Nat) : Prop := match k with | true => h.IsTupleIter it l i | false => h.IsListIter it l i
def SQ (k : Bool) (h : Heap) (l : Addr) (xs : Array Value) : Prop := match k with | true => h.IsTuple l xs | false => h.IsList l xs
def itO (k : Bool) (l : Addr) : Obj := match k with
  | true => { cls := .type "tuple_iterator", data := .fields #[.ref l, .int 0 0] }
  | false => { cls := .type "list_iterator", data := .fields #[.ref l, .int 0 0] }
theorem SI.at {k : Bool} {h h' : Heap} {it l : Addr} {i : Nat} (x : SI k h it l i) (e : ∀ o, h.get? it = some o → h'.get? it = some o) : SI k h' it l i := by
  cases k with
  | true => exact Heap.IsTupleIter.at x e
  | false => exact Heap.IsListIter.at x e
theorem SI.obj {k : Bool} {h : Heap} {it l : Addr} {i : Nat} (x : SI k h it l i) : ∃ o, h.get? it = some o ∧ ∀ v, o.data ≠ .cell v := by
  cases k with
  | true => obtain ⟨o, e, _, d⟩ := x; exact ⟨o, e, fun v z => by rw [d] at z; cases z⟩
  | false => obtain ⟨o, e, _, d⟩ := x; exact ⟨o, e, fun v z => by rw [d] at z; cases z⟩
theorem SI.new {k : Bool} {h : Heap} {it l : Addr} (x : h.get? it = some (itO k l)) : SI k h it l 0 := by
  cases k with
  | true => exact ⟨_, x, rfl, rfl⟩
  | false => exact ⟨_, x, rfl, rfl⟩
theorem draws_SI {prog : Program} {w : World} {A : Around} (k : Bool) (hh : A.handled = none) (it l : Addr) (hne : l ≠ it) (items : Array Value) :
    Draws prog w A it [it, l] items.size (fun i v => items[i]? = some v) (fun i h => SI k h it l i ∧ SQ k h l items) := by
  cases k with
  | true => exact Draws.tuple hh it l hne items
  | false => exact Draws.list hh it l hne items
theorem begins_SI (k : Bool) (l : Addr) (items : Array Value) : Begins (.ref l) (itO k l) fun h => SQ k h l items := by
  cases k with
  | true => exact begins_tuple l items
  | false => exact begins_list l items
section
variable {X : Cx} {pins : List (Addr × Obj)} {σ : L2.St} {H : Hp} {s : Shared}
theorem seqAt (I : Inv X pins σ H s) {k : Bool} {a : Addr} {xs : List V} (h : H a = some (hoK k xs)) : ∃ its : List Value, Vals xs its ∧ SQ k s.heap a its.toArray ∧ a < s.heap.objs.size := by
  cases k with
  | true =>
    obtain ⟨its, r, p, _⟩ := I.tuple (SqT.of h)
    obtain ⟨o, e, _⟩ := id p
    exact ⟨its, r, p, Heap.lt_size e⟩
  | false =>
    obtain ⟨its, r, p, _⟩ := I.list (SqL.of h)
    exact ⟨its, r, p.isList, p.lt⟩
theorem hoK_inj {k : Bool} {xs ys : List V} (h : hoK k xs = hoK k ys) : xs = ys := by
  cases k <;> (cases h; rfl)
def ItZ2 (k1 k2 : Bool) (a b : Addr) : It :=
  ⟨fun i H => ∃ xs ys : List V, H a = some (hoK k1 xs) ∧ H b = some (hoK k2 ys) ∧ i < xs.length ∧ i < ys.length,
    fun i H v H' => ∃ T x y, v = .ref T ∧ H T = none ∧ H' = upd H T (.tup [x, y]) ∧ (∀ xs, H a = some (hoK k1 xs) → xs[i]? = some x) ∧ ∀ ys, H b = some (hoK k2 ys) → ys[i]? = some y,
    fun i H => ∃ xs ys : List V, H a = some (hoK k1 xs) ∧ H b = some (hoK k2 ys) ∧ i = min xs.length ys.length⟩
theorem turn_z2 {P : Program} {w : World} {K : PySem.W.Frag} {elts : List Expr} {kk : Nat} {tpos : Pos} {k1 k2 : Bool} {a b z TI TO i1 i2 : Addr} (D : ZipApart z TI TO i1 i2 a b) :
    Turn P w K (.Tuple elts kk tpos) (ItZ2 k1 k2 a b) [z, TI, TO, i1, i2] z (fun i h => IsZip h z TI TO .none ∧ IsTupOf2 h TI (.ref i1) (.ref i2) ∧ (∃ x y, IsTupOf2 h TO x y) ∧ SI k1 h i1 a i ∧ SI k2 h i2 b i) where
  mem := by simp
  obj := fun i h st c hc => by
    obtain ⟨hz, hTI, ⟨x, y, hTO⟩, h1, h2⟩ := st
    have e' : c = z ∨ c = TI ∨ c = TO ∨ c = i1 ∨ c = i2 := by simpa using hc
    rcases e' with q | q | q | q | q
    · rw [q]; exact ⟨_, hz, fun v q => nomatch q⟩
    · rw [q]; exact ⟨_, hTI, fun v q => nomatch q⟩
    · rw [q]; exact ⟨_, hTO, fun v q => nomatch q⟩
    · rw [q]; exact h1.obj
    · rw [q]; exact h2.obj
  keep := fun i h h' st k => by
    obtain ⟨hz, hTI, ⟨x, y, hTO⟩, h1, h2⟩ := st
    exact ⟨k z (by simp) _ hz, k TI (by simp) _ hTI, ⟨x, y, k TO (by simp) _ hTO⟩, h1.at fun o q => k i1 (by simp) o q, h2.at fun o q => k i2 (by simp) o q⟩
  item := by
    intro X hP hw hK hc i pins s σ H E I hf st hg
    subst hP hw hK
    obtain ⟨hz, hTI, hTO, h1, h2⟩ := st
    obtain ⟨xs, ys, ha, hb, hx, hy⟩ := hg
    obtain ⟨its, rv, p, la⟩ := seqAt I ha
    obtain ⟨its2, rv2, p2, lb⟩ := seqAt I hb
    have hh := I.ok.hd hc
    have W := GoesN.zip2 (elts := elts) (x1 := kk) (pos := tpos) (z := z) (TI := TI) (TO := TO) (ZipSep2.mk (fp1 := [i1, a]) (fp2 := [i2, b]) D.TIz D.TOz D.TITO D.TIi1 (by simp) (by simp [D.i1z.symm, D.l1z.symm]) (by simp [D.TOi1, D.l1TO.symm]) D.TIi2 (by simp) (by simp [D.i2z.symm, D.l2z.symm]) (by simp [D.TOi2, D.l2TO.symm]) (by simp [D.i12, D.l2i1.symm]) (by simp [D.i12.symm, D.l1i2.symm]))
      (draws_SI (prog := X.prog) (w := X.w) (A := X.A.in1) k1 hh i1 a D.l1i1 its.toArray) (draws_SI (prog := X.prog) (w := X.w) (A := X.A.in1) k2 hh i2 b D.l2i2 its2.toArray)
    have l1 := rv.length
    have l2 := rv2.length
    refine thn (W.goes i s (fun v s2 => ∃ x H', Inv X pins σ H' s2 ∧ RelV x v ∧ (ItZ2 k1 k2 a b).yld i H x H' ∧ (IsZip s2.heap z TI TO .none ∧ IsTupOf2 s2.heap TI (.ref i1) (.ref i2) ∧ (∃ x y, IsTupOf2 s2.heap TO x y) ∧ SI k1 s2.heap i1 a (i + 1) ∧ SI k2 s2.heap i2 b (i + 1)) ∧ ∀ c ∈ [z, TI, TO, i1, i2], H' c = none) E (by simp; omega) ⟨hz, hTI, hTO, ⟨h1, p⟩, ⟨h2, p2⟩⟩ fun v h' tk hY st' hk _ => ?_) fun r s1 q => q
    obtain ⟨T, u1, u2, rfl, hT, e1, e2, hTup⟩ := hY
    obtain ⟨hz', hTI', hTO', ⟨h1', _⟩, ⟨h2', _⟩⟩ := st'
    have e1 : its[i]? = some u1 := by simpa using e1
    have e2 : its2[i]? = some u2 := by simpa using e2
    have gx : xs[i]? = some xs[i] := by simp [hx]
    have gy : ys[i]? = some ys[i] := by simp [hy]
    obtain ⟨u1', f1, r1⟩ := rv.get gx
    obtain ⟨u2', f2, r2⟩ := rv2.get gy
    rw [e1] at f1
    cases f1
    rw [e2] at f2
    cases f2
    have new : ObjOk X.prog X.w (upd H T (.tup [xs[i], ys[i]])) h' T (.tup [xs[i], ys[i]]) := ⟨by show 2 ≤ sizeLine; decide, [u1, u2], .cons r1 (.cons r2 .nil), hTup⟩
    have I1 : Inv X pins σ (upd H T (.tup [xs[i], ys[i]])) { s with heap := h', toks := tk } := I.turnedNew (ch := [z, TI, TO, i1, i2]) (fun c o hcm q => hk c o (fun m => hcm (by simp at m ⊢; rcases m with m | m | m | m <;> simp [m])) q) hf hT new
    refine ⟨.ref T, _, I1, rfl, ⟨T, _, _, rfl, I.hok.fresh hT, rfl, fun l hl => ?_, fun l hl => ?_⟩, ⟨hz', hTI', hTO', h1', h2'⟩, fun c hcm => ?_⟩
    · rw [ha] at hl
      rw [← hoK_inj (Option.some.inj hl)]
      exact gx
    · rw [hb] at hl
      rw [← hoK_inj (Option.some.inj hl)]
      exact gy
    · have hlt : c < s.heap.objs.size := by
        have e' : c = z ∨ c = TI ∨ c = TO ∨ c = i1 ∨ c = i2 := by simpa using hcm
        rcases e' with q | q | q | q | q
        · rw [q]; exact Heap.lt_size hz
        · rw [q]; exact Heap.lt_size hTI
        · obtain ⟨_, _, hTO⟩ := hTO; rw [q]; exact Heap.lt_size hTO
        · rw [q]; obtain ⟨_, e, _⟩ := h1.obj; exact Heap.lt_size e
        · rw [q]; obtain ⟨_, e, _⟩ := h2.obj; exact Heap.lt_size e
      rw [upd_ne (Nat.ne_of_lt (Nat.lt_of_lt_of_le hlt hT))]
      exact (hf c hcm).1
  done := by
    intro X hP hw hK hc i pins s σ H E I hf st hg
    subst hP hw hK
    obtain ⟨hz, hTI, hTO, h1, h2⟩ := st
    obtain ⟨xs, ys, ha, hb, hi⟩ := hg
    obtain ⟨its, rv, p, la⟩ := seqAt I ha
    obtain ⟨its2, rv2, p2, lb⟩ := seqAt I hb
    have hh := I.ok.hd hc
    have l1 := rv.length
    have l2 := rv2.length
    have W := GoesN.zip2 (elts := elts) (x1 := kk) (pos := tpos) (z := z) (TI := TI) (TO := TO) (ZipSep2.mk (fp1 := [i1, a]) (fp2 := [i2, b]) D.TIz D.TOz D.TITO D.TIi1 (by simp) (by simp [D.i1z.symm, D.l1z.symm]) (by simp [D.TOi1, D.l1TO.symm]) D.TIi2 (by simp) (by simp [D.i2z.symm, D.l2z.symm]) (by simp [D.TOi2, D.l2TO.symm]) (by simp [D.i12, D.l2i1.symm]) (by simp [D.i12.symm, D.l1i2.symm]))
      (draws_SI (prog := X.prog) (w := X.w) (A := X.A.in1) k1 hh i1 a D.l1i1 its.toArray) (draws_SI (prog := X.prog) (w := X.w) (A := X.A.in1) k2 hh i2 b D.l2i2 its2.toArray)
    have ei : i = min its.toArray.size its2.toArray.size := by simp; omega
    rw [ei] at h1 h2
    refine W.stops s _ E ⟨hz, hTI, hTO, ⟨h1, p⟩, ⟨h2, p2⟩⟩ fun h' tk hk _ => I.turnedL (ch := [z, TI, TO, i1, i2]) (fun c o hcm q => hk c o (fun m => hcm (by simp at m ⊢; rcases m with m | m | m | m <;> simp [m])) q) hf
  self := fun A i s Q E st h => wpAny_pyIter_zip st.1 h
def iZ2 (k1 k2 : Bool) (ta : TA) : TI := fun σ H R => ta σ H fun vs H1 => ∃ a b xs ys, vs = [.ref a, .ref b] ∧ H1 a = some (hoK k1 xs) ∧ H1 b = some (hoK k2 ys) ∧ R (ItZ2 k1 k2 a b) H1
theorem pi_z2 {e e2 : Expr} {ta : TA} {p pos tpos : Pos} {elts : List Expr} {kk : Nat} (k1 k2 : Bool) (hg : Gl X "zip") (hm : X.mg "zip" = none) (ha : PA X [e, e2] ta)
    (hs : starEach [e, e2] X.env = (false, eval e X.env) :: starEach [e2] X.env := by rfl) (hpl : (backTo pos (starEach [e2] X.env)).any (·.1) = false := by rfl) :
    PI X (.Tuple elts kk tpos) (.Call (.Name "zip" p) [e, e2] [] pos) (iZ2 k1 k2 ta) := by
  refine ⟨fun pins s σ H R I h => ?_⟩
  refine Call_ (ld_blt I hg hm PyProof.Rows.boot_zip (PyProof.Rows.callWith_type1 (thn (ha.run pos pins s σ H _ I h) fun us s1 ⟨vs, H1, I1, r1, q1⟩ => ?_) hs hpl))
  obtain ⟨a, b, xs, ys, ex, hx, hy, q⟩ := q1
  subst ex
  cases r1 with
  | cons r rr =>
    cases rr with
    | cons r' rr =>
      cases rr
      cases r
      cases r'
      obtain ⟨its, rv, p1, la⟩ := seqAt I1 hx
      obtain ⟨its2, rv2, p2, lb⟩ := seqAt I1 hy
      refine zip_begins2 (begins_SI k1 a its.toArray) (begins_SI k2 b its2.toArray) p1 p2 fun h' hz hTI hTO h1 h2 hsz hk => wpAny_pyIter_zip hz ?_
      have I2 : Inv X pins σ H1 { s1 with heap := h' } := I1.kept (t' := s1.toks) hk
      refine ⟨s1.heap.objs.size + 4, [s1.heap.objs.size + 4, s1.heap.objs.size + 2, s1.heap.objs.size + 3, s1.heap.objs.size, s1.heap.objs.size + 1], _, _, H1, rfl, I2, turn_z2 (PySem.W.ktu_apart s1.heap.objs.size a b la lb), ⟨hz, hTI, ⟨_, _, hTO⟩, SI.new h1, SI.new h2⟩, fun c hcm => ?_, q⟩
      have e' : c = s1.heap.objs.size + 4 ∨ c = s1.heap.objs.size + 2 ∨ c = s1.heap.objs.size + 3 ∨ c = s1.heap.objs.size ∨ c = s1.heap.objs.size + 1 := by simpa using hcm
      have hle : s1.heap.objs.size ≤ c := by
        rcases e' with z | z | z | z | z <;> (rw [z]; first | exact Nat.le_add_right _ _ | exact Nat.le_refl _)
      exact I1.fpOk hle (I1.hok.fresh hle)

def ItZ3 (k1 k2 k3 : Bool) (a b c : Addr) : It :=
  ⟨fun i H => ∃ xs ys zs : List V, H a = some (hoK k1 xs) ∧ H b = some (hoK k2 ys) ∧ H c = some (hoK k3 zs) ∧ i < xs.length ∧ i < ys.length ∧ i < zs.length,
    fun i H v H' => ∃ T x y z, v = .ref T ∧ H T = none ∧ H' = upd H T (.tup [x, y, z]) ∧ (∀ xs, H a = some (hoK k1 xs) → xs[i]? = some x) ∧ (∀ ys, H b = some (hoK k2 ys) → ys[i]? = some y) ∧ ∀ zs, H c = some (hoK k3 zs) → zs[i]? = some z,
    fun i H => ∃ xs ys zs : List V, H a = some (hoK k1 xs) ∧ H b = some (hoK k2 ys) ∧ H c = some (hoK k3 zs) ∧ i = min (min xs.length ys.length) zs.length⟩
structure Apart3 (n : Nat) (a b c : Addr) : Prop where
  la : a < n
  lb : b < n
  lc : c < n
theorem mem2 {x y z : Nat} (h1 : x ≠ y) (h2 : x ≠ z) : (x : Addr) ∉ ([y, z] : List Addr) := fun m => by
  rcases List.mem_cons.mp m with e | m
  · exact h1 e
  · rcases List.mem_cons.mp m with e | m
    · exact h2 e
    · cases m
theorem Apart3.sep {n a b c : Nat} (D : Apart3 n a b c) : ZipSep3 (n + 5) (n + 3) (n + 4) n (n + 1) (n + 2) [n, a] [n + 1, b] [n + 2, c] := by
  have la : @LT.lt Nat _ a n := D.la
  have lb : @LT.lt Nat _ b n := D.lb
  have lc : @LT.lt Nat _ c n := D.lc
  constructor <;> first
    | exact List.mem_cons_self
    | exact mem2 (by omega) (by omega)
    | (refine PySem.W.neN ?_; omega)
theorem turn_z3 {P : Program} {w : World} {K : PySem.W.Frag} {elts : List Expr} {kk : Nat} {tpos : Pos} {k1 k2 k3 : Bool} {n a b c : Addr} (D : Apart3 n a b c) :
    Turn P w K (.Tuple elts kk tpos) (ItZ3 k1 k2 k3 a b c) [n + 5, n + 3, n + 4, n, n + 1, n + 2] (n + 5) (fun i h => IsZip h (n + 5) (n + 3) (n + 4) .none ∧ IsTupOf3 h (n + 3) (.ref n) (.ref (n + 1)) (.ref (n + 2)) ∧ (∃ x y z, IsTupOf3 h (n + 4) x y z) ∧ SI k1 h n a i ∧ SI k2 h (n + 1) b i ∧ SI k3 h (n + 2) c i) where
  mem := by simp
  obj := fun i h st d hd => by
    obtain ⟨hz, hTI, ⟨x, y, z, hTO⟩, h1, h2, h3⟩ := st
    have e' : d = n + 5 ∨ d = n + 3 ∨ d = n + 4 ∨ d = n ∨ d = n + 1 ∨ d = n + 2 := by simpa using hd
    rcases e' with q | q | q | q | q | q
    · rw [q]; exact ⟨_, hz, fun v q => nomatch q⟩
    · rw [q]; exact ⟨_, hTI, fun v q => nomatch q⟩
    · rw [q]; exact ⟨_, hTO, fun v q => nomatch q⟩
    · rw [q]; exact h1.obj
    · rw [q]; exact h2.obj
    · rw [q]; exact h3.obj
  keep := fun i h h' st k => by
    obtain ⟨hz, hTI, ⟨x, y, z, hTO⟩, h1, h2, h3⟩ := st
    exact ⟨k _ (by simp) _ hz, k _ (by simp) _ hTI, ⟨x, y, z, k _ (by simp) _ hTO⟩, h1.at fun o q => k _ (by simp) o q, h2.at fun o q => k _ (by simp) o q, h3.at fun o q => k _ (by simp) o q⟩
  item := by
    intro X hP hw hK hc i pins s σ H E I hf st hg
    subst hP hw hK
    obtain ⟨hz, hTI, hTO, h1, h2, h3⟩ := st
    obtain ⟨xs, ys, zs, ha, hb, hcc, hx, hy, hzz⟩ := hg
    obtain ⟨its, rv, p, la⟩ := seqAt I ha
    obtain ⟨its2, rv2, p2, lb⟩ := seqAt I hb
    obtain ⟨its3, rv3, p3, lc⟩ := seqAt I hcc
    have hh := I.ok.hd hc
    have W := GoesN.zip3 (elts := elts) (x1 := kk) (pos := tpos) D.sep
      (draws_SI (prog := X.prog) (w := X.w) (A := X.A.in1) k1 hh n a (Nat.ne_of_lt D.la) its.toArray) (draws_SI (prog := X.prog) (w := X.w) (A := X.A.in1) k2 hh (n + 1) b (Nat.ne_of_lt (Nat.lt_succ_of_lt D.lb)) its2.toArray) (draws_SI (prog := X.prog) (w := X.w) (A := X.A.in1) k3 hh (n + 2) c (Nat.ne_of_lt (Nat.lt_succ_of_lt (Nat.lt_succ_of_lt D.lc))) its3.toArray)
    have l1 := rv.length
    have l2 := rv2.length
    have l3 := rv3.length
    refine thn (W.goes i s (fun v s2 => ∃ x H', Inv X pins σ H' s2 ∧ RelV x v ∧ (ItZ3 k1 k2 k3 a b c).yld i H x H' ∧ (IsZip s2.heap (n + 5) (n + 3) (n + 4) .none ∧ IsTupOf3 s2.heap (n + 3) (.ref n) (.ref (n + 1)) (.ref (n + 2)) ∧ (∃ x y z, IsTupOf3 s2.heap (n + 4) x y z) ∧ SI k1 s2.heap n a (i + 1) ∧ SI k2 s2.heap (n + 1) b (i + 1) ∧ SI k3 s2.heap (n + 2) c (i + 1)) ∧ ∀ c ∈ [n + 5, n + 3, n + 4, n, n + 1, n + 2], H' c = none) E (by simp; omega) ⟨hz, hTI, hTO, ⟨h1, p⟩, ⟨h2, p2⟩, ⟨h3, p3⟩⟩ fun v h' tk hY st' hk _ => ?_) fun r s1 q => q
    obtain ⟨T, u1, u2, u3, rfl, hT, e1, e2, e3, hTup⟩ := hY
    obtain ⟨hz', hTI', hTO', ⟨h1', _⟩, ⟨h2', _⟩, ⟨h3', _⟩⟩ := st'
    have e1 : its[i]? = some u1 := by simpa using e1
    have e2 : its2[i]? = some u2 := by simpa using e2
    have e3 : its3[i]? = some u3 := by simpa using e3
    have gx : xs[i]? = some xs[i] := by simp [hx]
    have gy : ys[i]? = some ys[i] := by simp [hy]
    have gz : zs[i]? = some zs[i] := by simp [hzz]
    obtain ⟨u1', f1, r1⟩ := rv.get gx
    obtain ⟨u2', f2, r2⟩ := rv2.get gy
    obtain ⟨u3', f3, r3⟩ := rv3.get gz
    rw [e1] at f1
    cases f1
    rw [e2] at f2
    cases f2
    rw [e3] at f3
    cases f3
    have new : ObjOk X.prog X.w (upd H T (.tup [xs[i], ys[i], zs[i]])) h' T (.tup [xs[i], ys[i], zs[i]]) := ⟨by show 3 ≤ sizeLine; decide, [u1, u2, u3], .cons r1 (.cons r2 (.cons r3 .nil)), hTup⟩
    have I1 : Inv X pins σ (upd H T (.tup [xs[i], ys[i], zs[i]])) { s with heap := h', toks := tk } := I.turnedNew (ch := [n + 5, n + 3, n + 4, n, n + 1, n + 2]) (fun c o hcm q => hk c o (fun m => hcm (by simp at m ⊢; rcases m with m | m | m | m | m <;> simp [m])) q) hf hT new
    refine ⟨.ref T, _, I1, rfl, ⟨T, _, _, _, rfl, I.hok.fresh hT, rfl, fun l hl => ?_, fun l hl => ?_, fun l hl => ?_⟩, ⟨hz', hTI', hTO', h1', h2', h3'⟩, fun c hcm => ?_⟩
    · rw [ha] at hl
      rw [← hoK_inj (Option.some.inj hl)]
      exact gx
    · rw [hb] at hl
      rw [← hoK_inj (Option.some.inj hl)]
      exact gy
    · rw [hcc] at hl
      rw [← hoK_inj (Option.some.inj hl)]
      exact gz
    · have hlt : c < s.heap.objs.size := by
        have e' : c = n + 5 ∨ c = n + 3 ∨ c = n + 4 ∨ c = n ∨ c = n + 1 ∨ c = n + 2 := by simpa using hcm
        rcases e' with q | q | q | q | q | q
        · rw [q]; exact Heap.lt_size hz
        · rw [q]; exact Heap.lt_size hTI
        · obtain ⟨_, _, _, hTO⟩ := hTO; rw [q]; exact Heap.lt_size hTO
        · rw [q]; obtain ⟨_, e, _⟩ := h1.obj; exact Heap.lt_size e
        · rw [q]; obtain ⟨_, e, _⟩ := h2.obj; exact Heap.lt_size e
        · rw [q]; obtain ⟨_, e, _⟩ := h3.obj; exact Heap.lt_size e
      rw [upd_ne (Nat.ne_of_lt (Nat.lt_of_lt_of_le hlt hT))]
      exact (hf c hcm).1
  done := by
    intro X hP hw hK hc i pins s σ H E I hf st hg
    subst hP hw hK
    obtain ⟨hz, hTI, hTO, h1, h2, h3⟩ := st
    obtain ⟨xs, ys, zs, ha, hb, hcc, hi⟩ := hg
    obtain ⟨its, rv, p, la⟩ := seqAt I ha
    obtain ⟨its2, rv2, p2, lb⟩ := seqAt I hb
    obtain ⟨its3, rv3, p3, lc⟩ := seqAt I hcc
    have hh := I.ok.hd hc
    have l1 := rv.length
    have l2 := rv2.length
    have l3 := rv3.length
    have W := GoesN.zip3 (elts := elts) (x1 := kk) (pos := tpos) D.sep
      (draws_SI (prog := X.prog) (w := X.w) (A := X.A.in1) k1 hh n a (Nat.ne_of_lt D.la) its.toArray) (draws_SI (prog := X.prog) (w := X.w) (A := X.A.in1) k2 hh (n + 1) b (Nat.ne_of_lt (Nat.lt_succ_of_lt D.lb)) its2.toArray) (draws_SI (prog := X.prog) (w := X.w) (A := X.A.in1) k3 hh (n + 2) c (Nat.ne_of_lt (Nat.lt_succ_of_lt (Nat.lt_succ_of_lt D.lc))) its3.toArray)
    have ei : i = min (min its.toArray.size its2.toArray.size) its3.toArray.size := by simp; omega
    rw [ei] at h1 h2 h3
    refine W.stops s _ E ⟨hz, hTI, hTO, ⟨h1, p⟩, ⟨h2, p2⟩, ⟨h3, p3⟩⟩ fun h' tk hk _ => I.turnedL (ch := [n + 5, n + 3, n + 4, n, n + 1, n + 2]) (fun c o hcm q => hk c o (fun m => hcm (by simp at m ⊢; rcases m with m | m | m | m | m <;> simp [m])) q) hf
  self := fun A i s Q E st h => wpAny_pyIter_zip st.1 h
def iZ3 (k1 k2 k3 : Bool) (ta : TA) : TI := fun σ H R => ta σ H fun vs H1 => ∃ a b c xs ys zs, vs = [.ref a, .ref b, .ref c] ∧ H1 a = some (hoK k1 xs) ∧ H1 b = some (hoK k2 ys) ∧ H1 c = some (hoK k3 zs) ∧ R (ItZ3 k1 k2 k3 a b c) H1
theorem pi_z3 {e e2 e3 : Expr} {ta : TA} {p pos tpos : Pos} {elts : List Expr} {kk : Nat} (k1 k2 k3 : Bool) (hg : Gl X "zip") (hm : X.mg "zip" = none) (ha : PA X [e, e2, e3] ta)
    (hs : starEach [e, e2, e3] X.env = (false, eval e X.env) :: starEach [e2, e3] X.env := by rfl) (hpl : (backTo pos (starEach [e2, e3] X.env)).any (·.1) = false := by rfl) :
    PI X (.Tuple elts kk tpos) (.Call (.Name "zip" p) [e, e2, e3] [] pos) (iZ3 k1 k2 k3 ta) := by
  refine ⟨fun pins s σ H R I h => ?_⟩
  refine Call_ (ld_blt I hg hm PyProof.Rows.boot_zip (PyProof.Rows.callWith_type1 (thn (ha.run pos pins s σ H _ I h) fun us s1 ⟨vs, H1, I1, r1, q1⟩ => ?_) hs hpl))
  obtain ⟨a, b, c, xs, ys, zs, ex, hx, hy, hz0, q⟩ := q1
  subst ex
  cases r1 with
  | cons r rr =>
    cases rr with
    | cons r' rr =>
      cases rr with
      | cons r'' rr =>
        cases rr
        cases r
        cases r'
        cases r''
        obtain ⟨its, rv, p1, la⟩ := seqAt I1 hx
        obtain ⟨its2, rv2, p2, lb⟩ := seqAt I1 hy
        obtain ⟨its3, rv3, p3, lc⟩ := seqAt I1 hz0
        refine zip_begins3 (begins_SI k1 a its.toArray) (begins_SI k2 b its2.toArray) (begins_SI k3 c its3.toArray) p1 p2 p3 fun h' hz hTI hTO h1 h2 h3 hsz hk => wpAny_pyIter_zip hz ?_
        have I2 : Inv X pins σ H1 { s1 with heap := h' } := I1.kept (t' := s1.toks) hk
        refine ⟨s1.heap.objs.size + 5, [s1.heap.objs.size + 5, s1.heap.objs.size + 3, s1.heap.objs.size + 4, s1.heap.objs.size, s1.heap.objs.size + 1, s1.heap.objs.size + 2], _, _, H1, rfl, I2, turn_z3 ⟨la, lb, lc⟩, ⟨hz, hTI, ⟨_, _, _, hTO⟩, SI.new h1, SI.new h2, SI.new h3⟩, fun d hdm => ?_, q⟩
        have e' : d = s1.heap.objs.size + 5 ∨ d = s1.heap.objs.size + 3 ∨ d = s1.heap.objs.size + 4 ∨ d = s1.heap.objs.size ∨ d = s1.heap.objs.size + 1 ∨ d = s1.heap.objs.size + 2 := by simpa using hdm
        have hle : s1.heap.objs.size ≤ d := by
          rcases e' with z | z | z | z | z | z <;> (rw [z]; first | exact Nat.le_add_right _ _ | exact Nat.le_refl _)
        exact I1.fpOk hle (I1.hok.fresh hle)
end
end DL

set_option maxHeartbeats 4000000
namespace DL
open PySem PySem.Spec PyProof.Rows L2
variable [OldT]
open Evl (Ex)
/-! ### t[::-1] of a tuple -/
section
variable {prog : Program} {w : World} {A : Around} {E : Value → Shared → Prop} {s : Shared}
theorem sliceApplied_rev {sl : Addr} {vl vu vs : Value} {n : Nat} {Q : Int × Int × Nat → Shared → Prop} (hs : s.heap.IsSliceOf sl vl vu vs) (pl : IsPart vl none) (pu : IsPart vu none) (ps : IsPart vs (some (-1)))
    (h : Q ((n : Int) - 1, -1, n) s) : wpAny (model prog w) A (Builtin.Slice.sliceApplied (.ref sl) (pure (n : Int))) Q E s := by
  obtain ⟨os, hos, hcs, hds⟩ := id hs
  unfold Builtin.Slice.sliceApplied Builtin.Slice.sliceFields
  refine wpAny_bind (wpAny_bind (wpAny_field hos hds (x := vl) rfl (wpAny_bind (wpAny_field hos hds (x := vu) rfl (wpAny_bind (wpAny_field hos hds (x := vs) rfl (wpAny_pure ?_)))))))
  refine wpAny_bind (HT.slicePart_ ps ?_)
  show wpAny _ _ (if ((-1 : Int) == 0) = true then _ else _) _ _ s
  rw [if_neg (by decide)]
  refine wpAny_bind (HT.slicePart_ pl (wpAny_bind (HT.slicePart_ pu (wpAny_bind (wpAny_pure ?_)))))
  show wpAny _ _ (match Builtin.Slice.sliceAdjust none none (-1) (n : Int) with | (lo, hi) => pure (lo, (-1 : Int), Builtin.Slice.slicePlaces lo hi (-1))) _ _ s
  have e1 : Builtin.Slice.sliceAdjust none none (-1) (n : Int) = ((n : Int) - 1, -1) := by
    unfold Builtin.Slice.sliceAdjust
    simp
  rw [e1]
  have e2 : Builtin.Slice.slicePlaces ((n : Int) - 1) (-1) (-1) = n := by
    unfold Builtin.Slice.slicePlaces
    simp
    split <;> omega
  show wpAny _ _ (pure ((n : Int) - 1, (-1 : Int), Builtin.Slice.slicePlaces ((n : Int) - 1) (-1) (-1))) _ _ s
  rw [e2]
  exact wpAny_pure h
theorem pick_rev (xs : Array Value) : ((List.range xs.size).filterMap fun (m : Nat) => xs[(((xs.size : Int) - 1) + (m : Int) * (-1)).toNat]?).toArray = xs.toList.reverse.toArray := by
  congr 1
  have e : (List.range xs.size).filterMap (fun (m : Nat) => xs[(((xs.size : Int) - 1) + (m : Int) * (-1)).toNat]?) = ((List.range xs.size).map fun k => xs.size - 1 - k).filterMap (xs[·]?) := by
    rw [List.filterMap_map]
    have key : ∀ l : List Nat, (∀ m ∈ l, m < xs.size) → l.filterMap (fun (m : Nat) => xs[(((xs.size : Int) - 1) + (m : Int) * (-1)).toNat]?) = l.filterMap ((xs[·]?) ∘ fun k => xs.size - 1 - k) := by
      intro l
      induction l with
      | nil => intro _; rfl
      | cons m l ih =>
        intro hl
        have hm := hl m List.mem_cons_self
        have e2 : (((xs.size : Int) - 1) + (m : Int) * (-1)).toNat = xs.size - 1 - m := by omega
        rw [List.filterMap_cons, List.filterMap_cons, ih fun k hk => hl k (List.mem_cons_of_mem _ hk), e2]
        rfl
    exact key _ fun m hm => List.mem_range.mp hm
  rw [e, PySem.W.krv_range, List.filterMap_reverse, PySem.W.krv_all]
theorem getItem_tuple_rev {t sl : Addr} {items : Array Value} {vl vu vs : Value} {Q : Value → Shared → Prop} (ht : IsTup s.heap t items) (hs : s.heap.IsSliceOf sl vl vu vs) (pl : IsPart vl none) (pu : IsPart vu none) (ps : IsPart vs (some (-1)))
    (h : Q (.ref s.heap.objs.size) { s with heap := s.heap.push { cls := .type "tuple", data := .seq items.toList.reverse.toArray } })
    (hsz : items.size ≤ sizeLine) : wpAny (model prog w) A (getItem (.ref t) (.ref sl)) Q E s := by
  have htake : sizeOk (.seq items.toList.reverse.toArray) := by
    show items.toList.reverse.toArray.size ≤ sizeLine
    rw [List.size_toArray, List.length_reverse, Array.length_toList]
    exact hsz
  obtain ⟨os, hos, hcs, hds⟩ := id hs
  have hTs : s.TypeIs (.ref sl) "slice" := ⟨os, hos, hcs⟩
  unfold getItem
  try with_reducible refine wpAny_holding ?_
  first | refine wpAny_bind (wpAny_pure ?_) | skip
  refine wpAny_bind (wpAny_sequenceKey ht.typeIs (by decide) ?_)
  refine wpAny_bind (wpAny_callSpecial?_slot (name := Str.ofString "__getitem__") ht.typeIs PyProof.Rows.slot_tuple_getitem
    (wpAny_call_entry PyProof.Rows.slot_tuple_getitem ht.typeIs entry_tuple_getitem ?_ (args_tuple_getitem _ _)))
  show wpAny _ _ (Builtin.Tuple.tupleItemsOf (.ref t) >>= _) _ _ s
  refine wpAny_bind (tupleItemsOf_ ht ?_)
  refine wpAny_bind (wpAny_typeOf hTs ?_)
  rw [if_pos (by decide)]
  refine wpAny_bind (sliceApplied_rev hs pl pu ps ?_)
  have hno : ¬ ((((items.size : Int) - 1) == 0 && (-1 : Int) == 1 && items.size == items.size) = true) := by
    intro q
    rw [Bool.and_eq_true, Bool.and_eq_true] at q
    have q1 := q.1.2
    revert q1
    decide
  show wpAny _ _ (if (((items.size : Int) - 1) == 0 && (-1 : Int) == 1 && items.size == items.size) = true then _ else _) _ _ s
  rw [if_neg hno, pick_rev]
  first
    | exact wpAny_bind (m := Builtin.Tuple.tupleExact _) (wpAny_newObj_type (wpAny_pure ⟨_, rfl, wpAny_pure h⟩) htake)
    | exact wpAny_bind (m := Builtin.Tuple.tupleExact _) (wpAny_newObj_type (wpAny_bind (wpAny_pure (wpAny_pure ⟨_, rfl, wpAny_pure h⟩))) htake)
    | exact wpAny_bind (wpAny_bind (m := Builtin.Tuple.tupleExact _) (wpAny_newObj_type (wpAny_pure (wpAny_pure ⟨_, rfl, wpAny_pure h⟩)) htake))
    | exact wpAny_bind (wpAny_bind (m := Builtin.Tuple.tupleExact _) (wpAny_newObj_type (wpAny_pure ⟨_, rfl, wpAny_pure h⟩) htake))
end
def tRevT (K : PySem.W.Frag) (te : TE) : TE := fun σ H Q => te σ H fun x H1 => ∃ a xs, x = .ref a ∧ SqT K H1 a xs ∧ ∀ p, H1 p = none → Q (.ref p) (upd H1 p (.tup xs.reverse))
theorem pe_revT {X : Cx} {e : Expr} {te : TE} {k : Nat} {p1 p2 p3 pos : Pos} (he : PE X e te) : PE X (.Subscript e (.Slice none none (some (.UnaryOp .USub (.Constant (.int 1) k p1) p2)) p3) pos) (tRevT X.K te) := by
  refine ⟨fun pins s σ H Q I h => ?_⟩
  refine Subscript_ (thn (he.run pins s σ H _ I h) fun v s1 ⟨x, H1, I1, r1, q1⟩ => ?_)
  obtain ⟨a, xs, ex, hx, q⟩ := q1
  subst ex
  cases r1
  have hst : PO X (some (.UnaryOp .USub (.Constant (.int 1) k p1) p2)) (tPart (tUn (rU fun i => .int (-i)) (tC (.int 1)))) := po_some (pe_un un_neg pe_int)
  refine wpAny_Slice (thn (po_none.run pins s1 σ H1 (fun o H2 => o = none ∧ H2 = H1) I1 ⟨rfl, rfl⟩) fun vl s2 ⟨l, H2, I2, pl, el, e2⟩ => ?_)
  subst el e2
  refine thn (po_none.run pins s2 σ H2 (fun o H3 => o = none ∧ H3 = H2) I2 ⟨rfl, rfl⟩) fun vu s3 ⟨u, H3, I3, pu, eu, e3⟩ => ?_
  subst eu e3
  refine thn (hst.run pins s3 σ H3 (fun o H4 => o = some (-1) ∧ H4 = H3) I3 ⟨1, rfl, -1, rfl, rfl, rfl⟩) fun vs s4 ⟨o, H4, I4, ps, eo, e4⟩ => ?_
  subst eo e4
  have I5 : Inv X pins σ H4 { s4 with heap := s4.heap.push { cls := .type "slice", data := .fields #[vl, vu, vs] } } := I4.kept (t' := s4.toks) fun b ob q => Heap.get?_push_of_some _ q
  obtain ⟨its, r, ht, hz⟩ := I5.tuple hx
  have hlen := r.length
  show wpAny (model X.prog X.w) X.A (subscriptTail e (.Slice none none (some (.UnaryOp .USub (.Constant (.int 1) k p1) p2)) p3) (.ref a) (.ref s4.heap.objs.size)) (EP X pins σ Q) X.xe { s4 with heap := s4.heap.push { cls := .type "slice", data := .fields #[vl, vu, vs] } }
  refine tail_any (ops := [.ref a, .ref s4.heap.objs.size]) ht.typeIs (PyProof.Rows.slot_tuple_getitem.lookup) ?_ (by with_unfolding_all rfl)
  refine getItem_tuple_rev ht (Heap.IsSliceOf.new _ vl vu vs) pl pu ps ?_ (by rw [List.size_toArray]; omega)
  refine ⟨.ref _, _, I5.laid (t' := s4.toks) (o := .tup xs.reverse) (fun b ob q => Heap.get?_push_of_some _ q) (Nat.le_refl _) ?_, rfl, q _ (I5.hok.fresh (Nat.le_refl _))⟩
  exact ⟨by rw [List.length_reverse]; exact hz, its.reverse, r.reverse, IsTup.new _ _⟩
section
variable {X : Cx} {mg : Str → Option Value} {W : WX} {tg it a b c e : Expr} {es : List Expr} {pos : Pos} {σ : L2.St} {H : Hp} {wa : Addr} {Hf : Hp} {A : DE}
def eRev (A : DE) : DE := fun s w => (A s w).bind fun x w1 => match x with
  | .lst xs => .ok (.lst xs.reverse) w1
  | .tup xs => .ok (.tup xs.reverse) w1
  | _ => .no
theorem pd_rev {k : Nat} {p1 p2 p3 : Pos} (ha : PE X a (lE mg W A)) : PE X (.Subscript a (.Slice none none (some (.UnaryOp .USub (.Constant (.int 1) k p1) p2)) p3) pos) (lE mg W (eRev A)) := weakE (orE (pe_revL ha) (pe_revT ha)) fun σ H Q h => by
  obtain ⟨wa, Hf, sD, w, hb, hs, h⟩ := h
  unfold eRev at h
  cases ea : A sD w with
  | ok x w1 =>
    rw [ea, R.bind_ok] at h
    cases x with
    | lst xs =>
      refine .inl ⟨wa, Hf, sD, w, hb, hs, ?_⟩
      rw [ea]
      intro H1 Hf1 g b v rv
      cases rv with
      | lst h1 r1 =>
        refine ⟨_, _, rfl, SqL.of (b.ex _ _ h1), fun p hp => ?_⟩
        exact h _ _ (g.trans (Go.newF b.ex hp)) (b.newF hp) _ (.lst upd_same (r1.reverse.mono (Ex.new (Evl.fresh_back b.ex hp))))
    | tup xs =>
      refine .inr ⟨wa, Hf, sD, w, hb, hs, ?_⟩
      rw [ea]
      intro H1 Hf1 g b v rv
      cases rv with
      | tup h1 r1 =>
        refine ⟨_, _, rfl, SqT.of (b.ex _ _ h1), fun p hp => ?_⟩
        exact h _ _ (g.trans (Go.newF b.ex hp)) (b.newF hp) _ (.tup upd_same (r1.reverse.mono (Ex.new (Evl.fresh_back b.ex hp))))
    | _ => exact h.elim
  | er x w1 =>
    rw [ea] at h
    refine .inl ⟨wa, Hf, sD, w, hb, hs, ?_⟩
    rw [ea]
    exact h
  | no => rw [ea] at h; exact h.elim

/-! ### zip -/
def seqD : D → Option (Bool × List D)
  | .lst xs => some (false, xs)
  | .tup xs => some (true, xs)
  | _ => none
theorem seqD_rep {v : V} {d : D} {k : Bool} {xs : List D} (r : Rep wa Hf v d) (h : seqD d = some (k, xs)) : ∃ a vs, v = .ref a ∧ Hf a = some (hoK k vs) ∧ Reps wa Hf vs xs := by
  unfold seqD at h
  split at h
  · cases h
    cases r with
    | lst h1 r1 => exact ⟨_, _, rfl, h1, r1⟩
  · cases h
    cases r with
    | tup h1 r1 => exact ⟨_, _, rfl, h1, r1⟩
  · cases h
def zipD (xs ys : List D) : List D := (xs.zip ys).map fun p => .tup [p.1, p.2]
def zip3D (xs ys zs : List D) : List D := (xs.zip (ys.zip zs)).map fun p => .tup [p.1, p.2.1, p.2.2]
theorem walkD_z2 {k1 k2 : Bool} {p q : Addr} {vs us : List V} {ds es : List D} (h1 : Hf p = some (hoK k1 vs)) (h2 : Hf q = some (hoK k2 us)) (r1 : Reps wa Hf vs ds) (r2 : Reps wa Hf us es) : WalkD wa Hf (ItZ2 k1 k2 p q) (zipD ds es) := by
  have l1 := r1.length
  have l2 := r2.length
  refine ⟨fun i H hi x => ⟨vs, us, x _ _ h1, x _ _ h2, ?_, ?_⟩, fun H x => ⟨vs, us, x _ _ h1, x _ _ h2, by simp [zipD]; omega⟩, fun i H Hf1 w y H' d hd x b z => ?_⟩
  · simp [zipD] at hi; omega
  · simp [zipD] at hi; omega
  · obtain ⟨T, u, v, rfl, hT, rfl, q1, q2⟩ := z
    unfold zipD at hd
    rw [List.getElem?_map] at hd
    cases e : (ds.zip es)[i]? with
    | none => rw [e] at hd; cases hd
    | some pr =>
      rw [e] at hd
      cases hd
      rw [List.getElem?_zip_eq_some] at e
      obtain ⟨u1, f1, s1⟩ := (r1.mono x).get e.1
      obtain ⟨u2, f2, s2⟩ := (r2.mono x).get e.2
      have g1 := q1 vs (b.ex _ _ (x _ _ h1))
      have g2 := q2 us (b.ex _ _ (x _ _ h2))
      rw [f1] at g1
      rw [f2] at g2
      cases g1
      cases g2
      have nx := Ex.new (o := HO.tup [u, v]) (Evl.fresh_back b.ex hT)
      exact ⟨_, Go.newF b.ex hT, b.newF hT, .tup upd_same (.cons (s1.mono nx) (.cons (s2.mono nx) .nil))⟩
theorem walkD_z3 {k1 k2 k3 : Bool} {p q o : Addr} {vs us ts : List V} {ds es fs : List D} (h1 : Hf p = some (hoK k1 vs)) (h2 : Hf q = some (hoK k2 us)) (h3 : Hf o = some (hoK k3 ts)) (r1 : Reps wa Hf vs ds) (r2 : Reps wa Hf us es) (r3 : Reps wa Hf ts fs) : WalkD wa Hf (ItZ3 k1 k2 k3 p q o) (zip3D ds es fs) := by
  have l1 := r1.length
  have l2 := r2.length
  have l3 := r3.length
  refine ⟨fun i H hi x => ⟨vs, us, ts, x _ _ h1, x _ _ h2, x _ _ h3, ?_, ?_, ?_⟩, fun H x => ⟨vs, us, ts, x _ _ h1, x _ _ h2, x _ _ h3, by simp [zip3D]; omega⟩, fun i H Hf1 w y H' d hd x b z => ?_⟩
  · simp [zip3D] at hi; omega
  · simp [zip3D] at hi; omega
  · simp [zip3D] at hi; omega
  · obtain ⟨T, u, v, t, rfl, hT, rfl, q1, q2, q3⟩ := z
    unfold zip3D at hd
    rw [List.getElem?_map] at hd
    cases e : (ds.zip (es.zip fs))[i]? with
    | none => rw [e] at hd; cases hd
    | some pr =>
      rw [e] at hd
      cases hd
      rw [List.getElem?_zip_eq_some, List.getElem?_zip_eq_some] at e
      obtain ⟨u1, f1, s1⟩ := (r1.mono x).get e.1
      obtain ⟨u2, f2, s2⟩ := (r2.mono x).get e.2.1
      obtain ⟨u3, f3, s3⟩ := (r3.mono x).get e.2.2
      have g1 := q1 vs (b.ex _ _ (x _ _ h1))
      have g2 := q2 us (b.ex _ _ (x _ _ h2))
      have g3 := q3 ts (b.ex _ _ (x _ _ h3))
      rw [f1] at g1
      rw [f2] at g2
      rw [f3] at g3
      cases g1
      cases g2
      cases g3
      have nx := Ex.new (o := HO.tup [u, v, t]) (Evl.fresh_back b.ex hT)
      exact ⟨_, Go.newF b.ex hT, b.newF hT, .tup upd_same (.cons (s1.mono nx) (.cons (s2.mono nx) (.cons (s3.mono nx) .nil)))⟩
theorem anyI {κ : Type} {t : κ → TI} (h : ∀ k, PI X tg it (t k)) : PI X tg it (fun σ H R => ∃ k, t k σ H R) := ⟨fun pins s σ H R I ⟨k, q⟩ => (h k).run pins s σ H R I q⟩
def iZip (As : DA) : DI := fun s w => (As s w).bind fun xs w1 => match xs with
  | [x, y] => match seqD x, seqD y with
    | some (_, ds), some (_, es) => .ok (zipD ds es) w1
    | _, _ => .no
  | [x, y, z] => match seqD x, seqD y, seqD z with
    | some (_, ds), some (_, es), some (_, fs) => .ok (zip3D ds es fs) w1
    | _, _, _ => .no
  | _ => .no
theorem id_zip2 {As : DA} {p tpos : Pos} {elts : List Expr} {kk : Nat} (hg : Gl X "zip") (hm : X.mg "zip" = none) (ha : PA X [a, b] (lA mg W (aCons A As))) (hl : ∀ s w x w1, (aCons A As s w) = .ok x w1 → x.length = 2)
    (hs : starEach [a, b] X.env = (false, eval a X.env) :: starEach [b] X.env := by rfl) (hpl : (backTo pos (starEach [b] X.env)).any (·.1) = false := by rfl) : PI X (.Tuple elts kk tpos) (.Call (.Name "zip" p) [a, b] [] pos) (lI mg W (iZip (aCons A As))) :=
  weakI (anyI fun k : Bool × Bool => pi_z2 k.1 k.2 hg hm ha hs hpl) fun σ H Q h => by
  obtain ⟨wa, Hf, sD, w, hb, hs, h⟩ := h
  unfold iZip at h
  cases ea : aCons A As sD w with
  | ok ds w1 =>
    rw [ea, R.bind_ok] at h
    have h2 := hl _ _ _ _ ea
    obtain ⟨x, y, rfl⟩ : ∃ x y, ds = [x, y] := by
      match ds, h2 with
      | [x, y], _ => exact ⟨x, y, rfl⟩
    dsimp only at h
    split at h
    · rename_i k1 ds k2 es e1 e2
      refine ⟨(k1, k2), wa, Hf, sD, w, hb, hs, ?_⟩
      rw [ea]
      intro H1 Hf1 g b v rv
      cases rv with
      | cons r1 r2 =>
        cases r2 with
        | cons r2 r3 =>
          cases r3
          obtain ⟨p1, vs, rfl, h1, s1⟩ := seqD_rep r1 e1
          obtain ⟨p2, us, rfl, h2, s2⟩ := seqD_rep r2 e2
          exact ⟨p1, p2, vs, us, rfl, b.ex _ _ h1, b.ex _ _ h2, h H1 Hf1 g b _ (walkD_z2 h1 h2 s1 s2)⟩
    · exact h.elim
  | er x w1 =>
    rw [ea] at h
    refine ⟨(true, true), wa, Hf, sD, w, hb, hs, ?_⟩
    rw [ea]
    exact h
  | no => rw [ea] at h; exact h.elim
theorem id_zip3 {As : DA} {p tpos : Pos} {elts : List Expr} {kk : Nat} (hg : Gl X "zip") (hm : X.mg "zip" = none) (ha : PA X [a, b, c] (lA mg W (aCons A As))) (hl : ∀ s w x w1, (aCons A As s w) = .ok x w1 → x.length = 3)
    (hs : starEach [a, b, c] X.env = (false, eval a X.env) :: starEach [b, c] X.env := by rfl) (hpl : (backTo pos (starEach [b, c] X.env)).any (·.1) = false := by rfl) : PI X (.Tuple elts kk tpos) (.Call (.Name "zip" p) [a, b, c] [] pos) (lI mg W (iZip (aCons A As))) :=
  weakI (anyI fun k : Bool × Bool × Bool => pi_z3 k.1 k.2.1 k.2.2 hg hm ha hs hpl) fun σ H Q h => by
  obtain ⟨wa, Hf, sD, w, hb, hs, h⟩ := h
  unfold iZip at h
  cases ea : aCons A As sD w with
  | ok ds w1 =>
    rw [ea, R.bind_ok] at h
    have h2 := hl _ _ _ _ ea
    obtain ⟨x, y, z, rfl⟩ : ∃ x y z, ds = [x, y, z] := by
      match ds, h2 with
      | [x, y, z], _ => exact ⟨x, y, z, rfl⟩
    dsimp only at h
    split at h
    · rename_i k1 ds k2 es k3 fs e1 e2 e3
      refine ⟨(k1, k2, k3), wa, Hf, sD, w, hb, hs, ?_⟩
      rw [ea]
      intro H1 Hf1 g b v rv
      cases rv with
      | cons r1 r2 =>
        cases r2 with
        | cons r2 r3 =>
          cases r3 with
          | cons r3 r4 =>
            cases r4
            obtain ⟨p1, vs, rfl, h1, s1⟩ := seqD_rep r1 e1
            obtain ⟨p2, us, rfl, h2, s2⟩ := seqD_rep r2 e2
            obtain ⟨p3, ts, rfl, h3, s3⟩ := seqD_rep r3 e3
            exact ⟨p1, p2, p3, vs, us, ts, rfl, b.ex _ _ h1, b.ex _ _ h2, b.ex _ _ h3, h H1 Hf1 g b _ (walkD_z3 h1 h2 h3 s1 s2 s3)⟩
    · exact h.elim
  | er x w1 =>
    rw [ea] at h
    refine ⟨(true, true, true), wa, Hf, sD, w, hb, hs, ?_⟩
    rw [ea]
    exact h
  | no => rw [ea] at h; exact h.elim
/-- an argument list has so many values -/
theorem aNil_len {s : Sl} {w w1 : Wl} {x : List D} (h : aNil s w = .ok x w1) : x.length = 0 := by cases h; rfl
theorem aCons_len {n : Nat} {As : DA} (hr : ∀ s w x w1, As s w = .ok x w1 → x.length = n) : ∀ s w x w1, (aCons A As s w) = .ok x w1 → x.length = n + 1 := fun s w x w1 h => by
  unfold aCons at h
  cases e : A s w with
  | ok d w2 =>
    rw [e, R.bind_ok] at h
    cases e2 : As s w2 with
    | ok ds w3 =>
      rw [e2, R.bind_ok] at h
      cases h
      simp [hr _ _ _ _ e2]
    | er y w3 => rw [e2] at h; cases h
    | no => rw [e2] at h; cases h
  | er y w2 => rw [e] at h; cases h
  | no => rw [e] at h; cases h

/-! ### calls by names -/
def permute {α : Type} (π : List Nat) (xs : List α) : List α := π.filterMap fun i => xs[i]?
theorem permute_reps {vs : List V} {ds : List D} (r : Reps wa Hf vs ds) : ∀ π : List Nat, Reps wa Hf (permute π vs) (permute π ds)
  | [] => .nil
  | i :: π => by
    have ih := permute_reps r π
    unfold permute at ih ⊢
    rw [List.filterMap_cons, List.filterMap_cons]
    cases e : ds[i]? with
    | none =>
      have e2 : vs[i]? = none := by
        rw [List.getElem?_eq_none_iff] at e ⊢
        rw [r.length]; exact e
      rw [e2]
      exact ih
    | some d =>
      obtain ⟨v, e2, r2⟩ := r.get e
      rw [e2]
      exact .cons r2 ih
theorem permute_vals {vs : List V} {us : List Value} (r : Vals vs us) : ∀ π : List Nat, Vals (permute π vs) (permute π us)
  | [] => .nil
  | i :: π => by
    have ih := permute_vals r π
    unfold permute at ih ⊢
    rw [List.filterMap_cons, List.filterMap_cons]
    cases e : vs[i]? with
    | none =>
      rw [r.none_of e]
      exact ih
    | some d =>
      obtain ⟨v, e2, r2⟩ := r.get e
      rw [e2]
      exact .cons r2 ih
/-- how keywords bind: all the n positional values, then those of the names ks, put in order by π -/
def KwB (fd : FuncData) (ps : List Str) (n : Nat) (ks : List Str) (π : List Nat) : Prop := ∀ us ws : List Value, us.length = n → ws.length = ks.length → bindArgs fd ⟨us, ks.zip ws⟩ = pure (ps.zip (permute π (us ++ ws)))
theorem KwB.kbn {K : PySem.W.Frag} {fd : FuncData} {ps ks : List Str} {n : Nat} {π : List Nat} (h : KwB fd ps n ks π) : KBn K fd ps n ks (fun us ws => permute π (us ++ ws)) (fun us ws => permute π (us ++ ws)) :=
  ⟨fun s us ws _ h1 h2 => .of_eq (h us ws h1 h2), fun r1 r2 => permute_vals (r1.append r2) π⟩
def eCallK (m n k : Nat) (π : List Nat) (F : DF) (As Ks : DA) : DE := fun s w => (As s w).bind fun ds w1 => (Ks s w1).bind fun zs w2 => if ds.length = n ∧ zs.length = k ∧ (permute π (ds ++ zs)).length = m then F (permute π (ds ++ zs)) w2 else .no
theorem kd_nil : PK X [] (lA mg W aNil) := ⟨fun pos pins s σ H Q I h => (pk_nil (X := X)).run pos pins s σ H Q I (by
  obtain ⟨wa, Hf, sD, w, hb, hs, h⟩ := h
  exact h.here hb _ .nil)⟩
theorem kd_cons {kws : List Keyword} {nm kpos} {As : DA} (ha : PE X e (lE mg W A)) (hr : PK X kws (lA mg W As)) : PK X (⟨nm, e, kpos⟩ :: kws) (lA mg W (aCons A As)) := ⟨fun pos pins s σ H Q I h => (pk_cons ha hr).run pos pins s σ H Q I (by
  obtain ⟨wa, Hf, sD, w, hb, hs, h⟩ := h
  refine ⟨wa, Hf, sD, w, hb, hs, h.bind.mono (fun x w1 H1 Hf1 g1 b1 q v rv => ?_) (fun _ _ _ _ _ _ q => q)⟩
  refine ⟨wa, Hf1, sD, w1, b1, hs.go g1, q.bind.mono (fun y w2 H2 Hf2 g2 b2 q2 v2 rv2 => ?_) (fun _ _ _ _ _ _ q => q)⟩
  exact q2.here b2 _ (.cons (rv.mono g2.ex) rv2))⟩
/-- f(k = v, ..), no positional values; what is raised goes to the wish -/
theorem run_fnW {k : Nat} {f : Addr} {fd : FuncData} {ps ks : List Str} {n : Nat} {F : DF} {W : WX} {pins : List (Addr × Obj)} {s : Shared} {Q : VK} {us ws : List Value} {vs zs : List V} {π : List Nat} (G : FnD X.prog X.w X.K X.mg X.base k f fd ps F) (hr : Room k X.A) (hb : KwB fd ps n ks π) (hx : Wok X W)
    (I : Inv X pins σ H s) (r : Vals vs us) (rz : Vals zs ws) (l1 : vs.length = n) (l2 : zs.length = ks.length) (h : spD X.mg ps.length F (permute π (vs ++ zs)) H Q (WE W σ)) : wpAny (model X.prog X.w) X.A (call (.ref f) us (ks.zip ws)) (EP X pins σ Q) X.xe s := by
  have r2 := (hb.kbn (K := X.K)).rel r rz
  refine wpAny_call (codeAny_mono (G.run X.A X.stack s H ⟨us, ks.zip ws⟩ (permute π (us ++ ws)) (permute π (vs ++ zs)) Q (WE W σ) hr I.env0 ((hb.kbn (K := X.K)).to s us ws I.kIn (r.length.symm.trans l1) (rz.length.symm.trans l2)) r2 h) fun r s' hq => ?_)
  cases r with
  | error e => exact hx σ pins H s e s' I hq
  | ok fl =>
    cases fl with
    | ret u => exact I.after hq
    | next => exact False.elim hq
    | brk => exact False.elim hq
    | cont => exact False.elim hq
theorem pd_callK0 {k : Nat} {f : Addr} {fd : FuncData} {ps ks : List Str} {F : DF} {W : WX} {x : Str} {p : Pos} {Ks : DA} {kws : List Keyword} {π : List Nat} (G : FnD X.prog X.w X.K X.mg X.base k f fd ps F) (hr : Room k X.A) (hg : Gl X x) (hm : X.mg x = some (.ref f)) (hk : PySem.W.keepIn X.K (.ref f) = true) (hb : KwB fd ps 0 ks π) (hx : Wok X W)
    (hkw : PK X kws (lA X.mg W Ks)) (hall : (backToKw pos (keywordEach kws X.env)).all (·.1.isSome) = true := by rfl) (hks : (backToKw pos (keywordEach kws X.env)).filterMap (·.1) = ks := by rfl) (hdb : (x == ("__debug__" : Str)) = false := by decide)
    (hpl : ((backTo pos (starEach [] X.env)).any (·.1) || (backToKw pos (keywordEach kws X.env)).any (·.1.isNone)) = false := by rfl) :
    PE X (.Call (.Name x p) [] kws pos) (lE X.mg W (eCallK ps.length 0 ks.length π F aNil Ks)) := by
  refine ⟨fun pins s σ H Q I h => ?_⟩
  obtain ⟨wa, Hf, sD, w, hb0, hs, h⟩ := h
  refine wpAny_Call_Name_kw (ld_glob I hg hm ?_ hdb)
  refine PySem.W.callWith_KW0 (h₀ := X.base) I.ok.mod.kin hk hall ?_ hpl
  refine thn (hkw.run pos pins s σ H (fun zs H1 => zs.length = ks.length ∧ spD X.mg ps.length F (permute π ([] ++ zs)) H1 Q (WE W σ)) I ⟨wa, Hf, sD, w, hb0, hs, ?_⟩) fun ws s2 ⟨zs, H2, I2, rz, l2, q2⟩ => ⟨I2.kIn, ?_⟩
  · refine Fin.mono (Fin.bind (r := Ks sD w) (k := fun zs w2 => if ([] : List D).length = 0 ∧ zs.length = ks.length ∧ (permute π ([] ++ zs)).length = ps.length then F (permute π ([] ++ zs)) w2 else .no) h) (fun zs w1 H1 Hf1 g1 b1 q v rv => ?_) (fun _ _ _ _ _ _ q => q)
    split at q
    · rename_i hl
      refine ⟨by rw [rv.length]; exact hl.2.1, wa, Hf1, _, w1, b1, permute_reps (Reps.append .nil rv) π, hl.2.2, q⟩
    · exact q.elim
  · rw [hks]
    exact run_fnW G hr hb hx I2 .nil rz rfl l2 q2
end
end DL

set_option maxHeartbeats 4000000
namespace DL
open PySem PySem.Spec PyProof.Rows L2
variable [OldT]
open Evl (Ex)
/-! ### values side by side, some of them new lists that a slot will own -/
inductive RepsO (wa : Addr) (Hf H : Hp) : List V → List D → List Addr → Prop
  | nil : RepsO wa Hf H [] [] []
  | val {v : V} {d : D} {vs : List V} {ds : List D} {ps : List Addr} : Rep wa Hf v d → RepsO wa Hf H vs ds ps → RepsO wa Hf H (v :: vs) (d :: ds) ps
  | own {p : Addr} {xs : List V} {es : List D} {vs : List V} {ds : List D} {ps : List Addr} : H p = some (.lst xs) → Hf p = none → p ≠ wa → Reps wa Hf xs es → p ∉ ps → RepsO wa Hf H vs ds ps → RepsO wa Hf H (.ref p :: vs) (.own es :: ds) (p :: ps)
def lM (mg : Str → Option Value) (W : WX) (E : Sl → Wl → R (List D)) : TA := fun σ H Q =>
  ∃ wa Hf sD w, Base wa Hf H w ∧ Slots wa Hf H σ sD ∧ Fin wa Hf H (E sD w) (fun ds _ H' Hf' => ∀ vs ps, RepsO wa Hf' H' vs ds ps → (∀ p ∈ ps, H p = none) → Q vs H') (Er mg W wa σ)
section
variable {X : Cx} {mg : Str → Option Value} {W : WX} {tg it a b c e : Expr} {es : List Expr} {pos : Pos} {σ : L2.St} {H H' H0 : Hp} {wa : Addr} {Hf Hf' : Hp} {A : DE} {As M : DA}
theorem RepsO.length : ∀ {vs : List V} {ds : List D} {ps : List Addr}, RepsO wa Hf H vs ds ps → vs.length = ds.length
  | _, _, _, .nil => rfl
  | _, _, _, .val _ r => by simp [RepsO.length r]
  | _, _, _, .own _ _ _ _ _ r => by simp [RepsO.length r]
theorem RepsO.go (g : Go wa H Hf H' Hf') : ∀ {vs : List V} {ds : List D} {ps : List Addr}, RepsO wa Hf H vs ds ps → RepsO wa Hf' H' vs ds ps
  | _, _, _, .nil => .nil
  | _, _, _, .val h r => .val (h.mono g.ex) (RepsO.go g r)
  | _, _, _, .own h1 h2 h3 h4 h5 r => .own (g.keep _ _ h3 h1) ((g.new _ _ h1).trans h2) h3 (h4.mono g.ex) h5 (RepsO.go g r)
def mVal (A : DE) (As : DA) : DA := fun s w => (A s w).bind fun x w1 => (As s w1).bind fun xs w2 => .ok (x :: xs) w2
def mOwn (A : DA) (As : DA) : DA := fun s w => (A s w).bind fun x w1 => (As s w1).bind fun xs w2 => .ok (.own x :: xs) w2
theorem md_nil : PA X [] (lM mg W aNil) := weakA pa_nil fun σ H Q h => by
  obtain ⟨wa, Hf, sD, w, hb, hs, h⟩ := h
  exact h.here hb _ [] .nil fun _ m => nomatch m
theorem md_val (ha : PE X a (lE mg W A)) (hr : PA X es (lM mg W As)) (hs : starEach (a :: es) X.env = (false, eval a X.env) :: starEach es X.env := by rfl) : PA X (a :: es) (lM mg W (mVal A As)) := weakA (pa_cons ha hr hs) fun σ H Q h => by
  obtain ⟨wa, Hf, sD, w, hb, hs, h⟩ := h
  refine ⟨wa, Hf, sD, w, hb, hs, h.bind.mono (fun x w1 H1 Hf1 g1 b1 q v rv => ?_) (fun _ _ _ _ _ _ q => q)⟩
  refine ⟨wa, Hf1, sD, w1, b1, hs.go g1, q.bind.mono (fun y w2 H2 Hf2 g2 b2 q2 v2 ps rv2 hn => ?_) (fun _ _ _ _ _ _ q => q)⟩
  exact q2.here b2 _ ps (.val (rv.mono g2.ex) rv2) fun p m => g1.free (hn p m)
theorem md_own {B : DA} (ha : PE X a (lfL mg W B)) (hr : PA X es (lM mg W As)) (hs : starEach (a :: es) X.env = (false, eval a X.env) :: starEach es X.env := by rfl) : PA X (a :: es) (lM mg W (mOwn B As)) := weakA (pa_cons ha hr hs) fun σ H Q h => by
  obtain ⟨wa, Hf, sD, w, hb, hs, h⟩ := h
  refine ⟨wa, Hf, sD, w, hb, hs, h.bind.mono (fun x w1 H1 Hf1 g1 b1 q p vs hp e1 e2 e3 rv => ?_) (fun _ _ _ _ _ _ q => q)⟩
  refine ⟨wa, Hf1, sD, w1, b1, hs.go g1, q.bind.mono (fun y w2 H2 Hf2 g2 b2 q2 v2 ps rv2 hn => ?_) (fun _ _ _ _ _ _ q => q)⟩
  have hpp : p ∉ ps := fun m => by
    have := hn p m
    rw [e1] at this
    cases this
  refine q2.here b2 _ (p :: ps) (.own (g2.keep _ _ e3 e1) ((g2.new _ _ e1).trans e2) e3 (rv.mono g2.ex) hpp rv2) fun z m => ?_
  rcases List.mem_cons.mp m with e | m
  · rw [e]; exact hp
  · exact g1.free (hn z m)
/-- into slots, one after another -/
def putS (s : Sl) : List Nat → List D → Option Sl
  | [], [] => some s
  | i :: is, d :: ds => putS (s.set i (some d)) is ds
  | _, _ => none
def putV (σ : L2.St) : List Nat → List V → Option L2.St
  | [], [] => some σ
  | i :: is, v :: vs => putV (σ.set i (some v)) is vs
  | _, _ => none
/-- who owns p already is none of these -/
def Apart (s : Sl) (σ : L2.St) (ps : List Addr) : Prop := ∀ p ∈ ps, ∀ (j : Nat) (ys : List D), s[j]? = some (some (.own ys)) → σ[j]? ≠ some (some (.ref p))
theorem put_ok : ∀ {is : List Nat} {vs : List V} {ds : List D} {ps : List Addr} {σ : L2.St} {s s' : Sl}, RepsO wa Hf H vs ds ps → (∀ p ∈ ps, H0 p = none) → Slots wa Hf H σ s → OwnNew H0 σ s → Apart s σ ps → putS s is ds = some s' →
    ∃ σ', putV σ is vs = some σ' ∧ Slots wa Hf H σ' s' ∧ OwnNew H0 σ' s'
  | [], _, _, _, σ, s, s', .nil, _, hs, ho, _, h => by cases h; exact ⟨σ, rfl, hs, ho⟩
  | i :: is, _, _, _, σ, s, s', .val r rr, hp, hs, ho, ha, h => by
    refine put_ok (is := is) rr hp (hs.set r) (ho.set fun xs z => by subst z; exact rep_own r) (fun p m j ys h1 h2 => ?_) h
    by_cases hj : j = i
    · subst hj
      rw [List.getElem?_set] at h1
      split at h1
      · split at h1
        · cases h1
          exact rep_own r
        · cases h1
      · rename_i hne
        exact absurd rfl hne
    · rw [List.getElem?_set_ne (Ne.symm hj)] at h1 h2
      exact ha p m j ys h1 h2
  | i :: is, _, _, _, σ, s, s', .own (p := p) h1 h2 h3 h4 h5 rr, hp, hs, ho, ha, h => by
    refine put_ok (is := is) rr (fun q m => hp q (List.mem_cons_of_mem _ m)) (hs.setOwn h1 h2 h3 h4 fun j ys k1 => ha p List.mem_cons_self j ys k1) (ho.setOwn hs.len (hp p List.mem_cons_self)) (fun q m j ys k1 k2 => ?_) h
    by_cases hj : j = i
    · subst hj
      rw [List.getElem?_set] at k2
      split at k2
      · split at k2
        · cases k2
          exact h5 m
        · cases k2
      · rename_i hne
        exact absurd rfl hne
    · rw [List.getElem?_set_ne (Ne.symm hj)] at k1 k2
      exact ha q (List.mem_cons_of_mem _ m) j ys k1 k2
  | [], _, _, _, _, _, _, .val _ _, _, _, _, _, h => by cases h
  | [], _, _, _, _, _, _, .own _ _ _ _ _ _, _, _, _, _, h => by cases h
  | _ :: _, _, _, _, _, _, _, .nil, _, _, _, _, h => by cases h
def sMul (is : List Nat) (M : DA) : DS := fun s w => match M s w with
  | .ok ds w1 => match putS s is ds with
    | some s1 => .nx s1 w1
    | none => .no
  | .er x w1 => .er x s w1
  | .no => .no
theorem apart_new {s : Sl} {H1 : Hp} {ps : List Addr} (hs : Slots wa Hf H1 σ s) (hn : ∀ p ∈ ps, H1 p = none) : Apart s σ ps := fun p m j ys h1 h2 => by
  obtain ⟨q, us, k1, k2, _⟩ := hs.own j ys h1
  rw [h2] at k1
  cases k1
  rw [hn p m] at k2
  cases k2
variable {st : Stmt}
/-- a, b = e1, e2: two local names -/
theorem sd_par2 {i j : Nat} (h : PS X st (tPar i j (lM mg W M))) : PS X st (lS mg W (sMul [i, j] M)) := weakS h fun D σ H h => by
  obtain ⟨wa, Hf, sD, w, H0, Hf0, g, b, hs, ho, h⟩ := h
  refine ⟨wa, Hf, sD, w, b, hs, ?_⟩
  unfold sMul at h
  cases e : M sD w with
  | ok ds w1 =>
    rw [e] at h
    dsimp only at h
    intro H1 Hf1 g1 b1 vs ps rv hn
    split at h
    · rename_i s1 hp
      obtain ⟨σ1, e1, hs1, ho1⟩ := put_ok (H0 := H0) rv (fun p m => g.free (hn p m)) (hs.go g1) ho (apart_new hs hn) hp
      match ds, vs, hp, e1 with
      | [x, y], [u, v], hp, e1 =>
        cases e1
        exact ⟨u, v, rfl, h _ H1 Hf1 (g.trans g1) g1.ex b1 hs1 ho1⟩
    · exact h.elim
  | er x w1 =>
    rw [e] at h
    exact fun H1 Hf1 g1 b1 cls dx ev => h σ H1 Hf1 cls dx (g.trans g1) g1.ex b1 (hs.go g1) ho ev
  | no => rw [e] at h; exact h
theorem sd_par3 {i j k : Nat} (h : PS X st (tPar3 i j k (lM mg W M))) : PS X st (lS mg W (sMul [i, j, k] M)) := weakS h fun D σ H h => by
  obtain ⟨wa, Hf, sD, w, H0, Hf0, g, b, hs, ho, h⟩ := h
  refine ⟨wa, Hf, sD, w, b, hs, ?_⟩
  unfold sMul at h
  cases e : M sD w with
  | ok ds w1 =>
    rw [e] at h
    dsimp only at h
    intro H1 Hf1 g1 b1 vs ps rv hn
    split at h
    · rename_i s1 hp
      obtain ⟨σ1, e1, hs1, ho1⟩ := put_ok (H0 := H0) rv (fun p m => g.free (hn p m)) (hs.go g1) ho (apart_new hs hn) hp
      match ds, vs, hp, e1 with
      | [x, y, z], [u, v, t], hp, e1 =>
        cases e1
        exact ⟨u, v, t, rfl, h _ H1 Hf1 (g.trans g1) g1.ex b1 hs1 ho1⟩
    · exact h.elim
  | er x w1 =>
    rw [e] at h
    exact fun H1 Hf1 g1 b1 cls dx ev => h σ H1 Hf1 cls dx (g.trans g1) g1.ex b1 (hs.go g1) ho ev
  | no => rw [e] at h; exact h
/-- names, as targets -/
def gNames : List Nat → TGs
  | [] => gNil
  | i :: is => gCons (gName i) (gNames is)
theorem gNames_of {H : Hp} {Q : L2.St → Hp → Prop} : ∀ {is : List Nat} {vs : List V} {σ σ' : L2.St}, putV σ is vs = some σ' → Q σ' H → gNames is vs σ H Q
  | [], [], _, _, h, q => by cases h; exact ⟨rfl, q⟩
  | i :: is, v :: vs, _, _, h, q => ⟨v, vs, rfl, gNames_of (is := is) h q⟩
  | [], _ :: _, _, _, h, _ => by cases h
  | _ :: _, [], _, _, h, _ => by cases h
/-- a, b, .. = a written tuple -/
theorem sd_multi {is : List Nat} {n : Nat} (h : PS X st (tAsg (tTup (lM mg W M)) (gTup X.K n (gNames is)))) (hn : is.length = n) (hz : n ≤ 1000) : PS X st (lS mg W (sMul is M)) := weakS h fun D σ H h => by
  obtain ⟨wa, Hf, sD, w, H0, Hf0, g, b, hs, ho, h⟩ := h
  refine ⟨wa, Hf, sD, w, b, hs, ?_⟩
  unfold sMul at h
  cases e : M sD w with
  | ok ds w1 =>
    rw [e] at h
    dsimp only at h
    intro H1 Hf1 g1 b1 vs ps rv hnew
    split at h
    · rename_i s1 hp
      obtain ⟨σ1, e1, hs1, ho1⟩ := put_ok (H0 := H0) rv (fun p m => g.free (hnew p m)) (hs.go g1) ho (apart_new hs hnew) hp
      have len : ∀ (is : List Nat) (vs : List V) (σ σ' : L2.St), putV σ is vs = some σ' → vs.length = is.length := by
        intro is
        induction is with
        | nil => intro vs σ σ' h; cases vs with
          | nil => rfl
          | cons _ _ => cases h
        | cons i is ih => intro vs σ σ' h; cases vs with
          | nil => cases h
          | cons v vs => simp [ih _ _ _ h]
      have hvl := len _ _ _ _ e1
      refine ⟨by rw [hvl, hn, sizeLine_eq]; omega, fun t ht => ⟨t, vs, rfl, SqT.of upd_same, by rw [hvl, hn], gNames_of e1 ?_⟩⟩
      exact h _ _ Hf1 ((g.trans g1).trans (Go.new1 ht)) g1.ex (b1.new1 ht) (hs1.go (Go.new1 ht)) ho1
    · exact h.elim
  | er x w1 =>
    rw [e] at h
    exact fun H1 Hf1 g1 b1 cls dx ev => h σ H1 Hf1 cls dx (g.trans g1) g1.ex b1 (hs.go g1) ho ev
  | no => rw [e] at h; exact h
/-- what the proof never comes to -/
def sNever : DS := fun _ _ => .no
theorem sd_never : PS X st (lS mg W sNever) := weakS ps_never fun D σ H h => by
  obtain ⟨wa, Hf, sD, w, H0, Hf0, g, b, hs, ho, h⟩ := h
  exact h
end
theorem Fun.kwb {K : PySem.W.Frag} {x qual : Str} {st : Stmt} {f : Addr} {fd : FuncData} {ps ks : List Str} {n : Nat} {π : List Nat} (F : Fun K x qual st f fd)
    (h : ∀ (kV doc pm : Value) (an : Option Addr) (cdv ct : Value) (us ws : List Value), us.length = n → ws.length = ks.length → bindArgs (PySem.W.fnOf x qual (defArgs st) (defBody st) (defScope st) .none kV doc pm an cdv ct) ⟨us, ks.zip ws⟩ = pure (ps.zip (permute π (us ++ ws)))) : KwB fd ps n ks π := by
  obtain ⟨oc, od, kV, doc, pm, an, cdv, ct, osl, rfl, lk, hcd⟩ := F.ex
  exact fun us ws h1 h2 => h kV doc pm an cdv ct us ws h1 h2
end DL

set_option maxHeartbeats 2000000
namespace DL
open PySem PySem.Spec PyProof.Rows L2
variable [OldT]
open Evl (Ex)
/-! ### in, index, sorted, max and min of a list, break, continue -/
theorem units65 {k : Nat} {A : Around} (r : Room k A) : A.units + 65 < cLine := by have := r.un; omega
/-- is an integer among integers -/
def hasI (i : Int) (ns : List Int) : Bool := ns.any fun j => decide (j = i)
def fInG (neg : Bool) : Wl → D → D → Option D := fun _ x y => match y with
  | .lst ds => if okD x && okD (.lst ds) then some (.bl (if neg then !ds.any fun d => eqD d x else ds.any fun d => eqD d x)) else none
  | .tup ds => match x, ints? ds with
    | .int i, some ns => some (.bl (if neg then !hasI i ns else hasI i ns))
    | _, _ => none
  | _ => none
abbrev fIn := fInG false
abbrev fNin := fInG true
theorem toPDs_map (ds : List D) : toPDs ds = ds.map toPD := by
  induction ds with
  | nil => rfl
  | cons d r ih => rw [List.map_cons, ← ih]; rfl
theorem anyPD (x : D) (ds : List D) : ((toPDs ds).any fun z => PyData.eqv z (toPD x)) = ds.any fun d => eqD d x := by
  rw [toPDs_map, List.any_map]
  rfl
theorem inV_ints (i : Int) (ns : List Int) : inV (.int i) (ns.map V.int) = hasI i ns := by
  unfold inV hasI
  rw [List.any_map]
  congr 1
theorem flat_ints (ns : List Int) : (ns.map V.int).all flatV = true := by
  rw [List.all_map]
  exact List.all_eq_true.mpr fun _ _ => rfl
theorem opd_in {K : PySem.W.Frag} : OpD (fun x y H Q => rInD K x y H Q ∨ rIn K false x y H Q) fIn := by
  intro wa Hf H w x y u v z Q hb ru rv h q
  unfold fIn fInG at h
  split at h
  · split at h
    · rename_i ds hc
      rw [Bool.and_eq_true] at hc
      cases h
      refine .inl ⟨_, _, ru.dp hb (shaped_lay hc.1), rv.dp hb (shaped_lay hc.2), hc.1, hc.2, ?_⟩
      rw [anyPD]
      exact q _ _ Go.refl hb _ (.bl _)
    · cases h
  · rename_i ds
    split at h
    · rename_i i ns e
      cases h
      cases ru
      cases rv with
      | tup h1 r1 =>
        rw [ints?_some e] at r1
        have e2 := r1.ints
        subst e2
        refine .inr ⟨_, _, rfl, .inr (SqT.of (hb.ex _ _ h1)), rfl, flat_ints _, ?_⟩
        rw [inV_ints]
        exact q _ _ Go.refl hb _ (.bl _)
    · cases h
  · cases h
theorem opd_nin {K : PySem.W.Frag} : OpD (fun x y H Q => rNotInD K x y H Q ∨ rIn K true x y H Q) fNin := by
  intro wa Hf H w x y u v z Q hb ru rv h q
  unfold fNin fInG at h
  split at h
  · split at h
    · rename_i ds hc
      rw [Bool.and_eq_true] at hc
      cases h
      refine .inl ⟨_, _, ru.dp hb (shaped_lay hc.1), rv.dp hb (shaped_lay hc.2), hc.1, hc.2, ?_⟩
      rw [anyPD]
      exact q _ _ Go.refl hb _ (.bl _)
    · cases h
  · rename_i ds
    split at h
    · rename_i i ns e
      cases h
      cases ru
      cases rv with
      | tup h1 r1 =>
        rw [ints?_some e] at r1
        have e2 := r1.ints
        subst e2
        refine .inr ⟨_, _, rfl, .inr (SqT.of (hb.ex _ _ h1)), rfl, flat_ints _, ?_⟩
        rw [inV_ints]
        exact q _ _ Go.refl hb _ (.bl _)
    · cases h
  · cases h
section
variable {X : Cx} {mg : Str → Option Value} {W : WX} {a b : Expr} {pos : Pos} {A B : DE}
theorem pd_in (hu : X.A.units + 65 < cLine) (ha : PE X a (lE mg W A)) (hb : PE X b (lE mg W B)) (hm : behindInMarks .In b = false := by first | rfl | exact nomark _) : PE X (.Compare a [.In] [b] pos) (lE mg W (eBin fIn A B)) := pd_cmp ((op_inD hu).or op_in_seq) opd_in ha hb hm
theorem pd_nin (hu : X.A.units + 65 < cLine) (ha : PE X a (lE mg W A)) (hb : PE X b (lE mg W B)) (hm : behindInMarks .NotIn b = false := by first | rfl | exact nomark _) : PE X (.Compare a [.NotIn] [b] pos) (lE mg W (eBin fNin A B)) := pd_cmp ((op_notInD hu).or op_notIn_seq) opd_nin ha hb hm
theorem qd_in (hu : X.A.units + 65 < cLine) (ha : PE X a (lE mg W A)) (hb : PE X b (lE mg W B)) (hm : behindInMarks .In b = false := by first | rfl | exact nomark _) : PT X (.Compare a [.In] [b] pos) (lT mg W (tE (eBin fIn A B))) := qd_cmp ((op_inD hu).or op_in_seq) opd_in ha hb hm
theorem qd_nin (hu : X.A.units + 65 < cLine) (ha : PE X a (lE mg W A)) (hb : PE X b (lE mg W B)) (hm : behindInMarks .NotIn b = false := by first | rfl | exact nomark _) : PT X (.Compare a [.NotIn] [b] pos) (lT mg W (tE (eBin fNin A B))) := qd_cmp ((op_notInD hu).or op_notIn_seq) opd_nin ha hb hm
end
/-! sorted, max, min -/
def sortI (ns : List Int) : List Int := ns.mergeSort fun a b => decide (a ≤ b)
theorem sortI_perm (ns : List Int) : (sortI ns).Perm ns := List.mergeSort_perm _ _
theorem sortI_le (ns : List Int) : (sortI ns).Pairwise (· ≤ ·) := by
  have := List.pairwise_mergeSort (le := fun a b : Int => decide (a ≤ b)) (fun a b c h1 h2 => by simp at *; omega) (fun a b => by simp; omega) ns
  exact this.imp fun h => of_decide_eq_true h
theorem sorted_unique : ∀ {xs ys : List Int}, xs.Perm ys → xs.Pairwise (· ≤ ·) → ys.Pairwise (· ≤ ·) → xs = ys := fun p h1 h2 => p.eq_of_pairwise (fun a b _ _ h3 h4 => Int.le_antisymm h3 h4) h1 h2
def fSorted : Wl → List D → Option (List D) := fun _ ds => match ds with
  | [.lst xs] => (ints? xs).map fun ns => (sortI ns).map .int
  | _ => none
theorem cl_sorted {K : PySem.W.Frag} : CaL (rSortedI K) fSorted := by
  intro wa Hf H w ds us zs Q hb rs h q
  unfold fSorted at h
  split at h
  · rename_i xs
    cases e : ints? xs with
    | none => rw [e] at h; cases h
    | some ns =>
      rw [e] at h
      cases h
      obtain ⟨a, vs, rfl, h1, r1⟩ := one_lst rs
      rw [ints?_some e] at r1
      have e2 := r1.ints
      subst e2
      refine ⟨a, ns, rfl, SqL.of (hb.ex _ _ h1), fun ns' p hp hs hn => ?_⟩
      have e3 : ns' = sortI ns := sorted_unique (hp.trans (sortI_perm ns).symm) hs (sortI_le ns)
      subst e3
      exact newL hb Reps.of_ints q p hn
  · cases h
def maxI : List Int → Option Int
  | [] => none
  | i :: r => some (r.foldl max i)
def minI : List Int → Option Int
  | [] => none
  | i :: r => some (r.foldl min i)
theorem foldl_max_le : ∀ (r : List Int) (i : Int), i ≤ r.foldl max i ∧ (∀ y ∈ r, y ≤ r.foldl max i) ∧ (r.foldl max i = i ∨ r.foldl max i ∈ r)
  | [], i => ⟨Int.le_refl _, by simp, .inl rfl⟩
  | j :: r, i => by
    obtain ⟨h1, h2, h3⟩ := foldl_max_le r (max i j)
    refine ⟨?_, ?_, ?_⟩
    · simp only [List.foldl_cons]; omega
    · intro y hy
      simp only [List.foldl_cons]
      rcases List.mem_cons.mp hy with rfl | hy
      · omega
      · exact h2 y hy
    · simp only [List.foldl_cons, List.mem_cons]
      rcases h3 with h3 | h3
      · omega
      · exact .inr (.inr h3)
theorem foldl_min_le : ∀ (r : List Int) (i : Int), r.foldl min i ≤ i ∧ (∀ y ∈ r, r.foldl min i ≤ y) ∧ (r.foldl min i = i ∨ r.foldl min i ∈ r)
  | [], i => ⟨Int.le_refl _, by simp, .inl rfl⟩
  | j :: r, i => by
    obtain ⟨h1, h2, h3⟩ := foldl_min_le r (min i j)
    refine ⟨?_, ?_, ?_⟩
    · simp only [List.foldl_cons]; omega
    · intro y hy
      simp only [List.foldl_cons]
      rcases List.mem_cons.mp hy with rfl | hy
      · omega
      · exact h2 y hy
    · simp only [List.foldl_cons, List.mem_cons]
      rcases h3 with h3 | h3
      · omega
      · exact .inr (.inr h3)
theorem maxI_of {ns : List Int} {m : Int} (h : maxI ns = some m) : m ∈ ns ∧ ∀ y ∈ ns, y ≤ m := by
  cases ns with
  | nil => cases h
  | cons i r =>
    cases h
    obtain ⟨h1, h2, h3⟩ := foldl_max_le r i
    refine ⟨?_, fun y hy => ?_⟩
    · rcases h3 with h3 | h3
      · rw [h3]; exact List.mem_cons_self
      · exact List.mem_cons_of_mem _ h3
    · rcases List.mem_cons.mp hy with rfl | hy
      · exact h1
      · exact h2 y hy
theorem minI_of {ns : List Int} {m : Int} (h : minI ns = some m) : m ∈ ns ∧ ∀ y ∈ ns, m ≤ y := by
  cases ns with
  | nil => cases h
  | cons i r =>
    cases h
    obtain ⟨h1, h2, h3⟩ := foldl_min_le r i
    refine ⟨?_, fun y hy => ?_⟩
    · rcases h3 with h3 | h3
      · rw [h3]; exact List.mem_cons_self
      · exact List.mem_cons_of_mem _ h3
    · rcases List.mem_cons.mp hy with rfl | hy
      · exact h1
      · exact h2 y hy
def fMaxL : Wl → List D → Option D := fun _ ds => match ds with
  | [.lst xs] => (ints? xs).bind fun ns => (maxI ns).map .int
  | _ => none
def fMinL : Wl → List D → Option D := fun _ ds => match ds with
  | [.lst xs] => (ints? xs).bind fun ns => (minI ns).map .int
  | _ => none
theorem cd_maxL {K : PySem.W.Frag} : CaD (rMax K) fMaxL := by
  intro wa Hf H w ds us z Q hb rs h q
  unfold fMaxL at h
  split at h
  · rename_i xs
    cases e : ints? xs with
    | none => rw [e] at h; cases h
    | some ns =>
      rw [e, Option.bind_some] at h
      cases e1 : maxI ns with
      | none => rw [e1] at h; cases h
      | some m =>
        rw [e1] at h
        cases h
        obtain ⟨a, vs, rfl, h1, r1⟩ := one_lst rs
        rw [ints?_some e] at r1
        have e2 := r1.ints
        subst e2
        obtain ⟨g1, g2⟩ := maxI_of e1
        refine ⟨a, ns, rfl, SqL.of (hb.ex _ _ h1), List.length_pos_of_mem g1, fun m' h3 h4 => ?_⟩
        have : m' = m := Int.le_antisymm (g2 m' h3) (h4 m g1)
        subst this
        exact q _ _ Go.refl hb _ (.int _)
  · cases h
theorem cd_minL {K : PySem.W.Frag} : CaD (rMin K) fMinL := by
  intro wa Hf H w ds us z Q hb rs h q
  unfold fMinL at h
  split at h
  · rename_i xs
    cases e : ints? xs with
    | none => rw [e] at h; cases h
    | some ns =>
      rw [e, Option.bind_some] at h
      cases e1 : minI ns with
      | none => rw [e1] at h; cases h
      | some m =>
        rw [e1] at h
        cases h
        obtain ⟨a, vs, rfl, h1, r1⟩ := one_lst rs
        rw [ints?_some e] at r1
        have e2 := r1.ints
        subst e2
        obtain ⟨g1, g2⟩ := minI_of e1
        refine ⟨a, ns, rfl, SqL.of (hb.ex _ _ h1), List.length_pos_of_mem g1, fun m' h3 h4 => ?_⟩
        have : m' = m := Int.le_antisymm (h4 m g1) (g2 m' h3)
        subst this
        exact q _ _ Go.refl hb _ (.int _)
  · cases h
/-! xs.index(y) -/
def idxD (ds : List D) (y : D) : Option D := if okD y && okD (.lst ds) then (ds.findIdx? fun d => eqD d y).map fun j => .int (j : Nat) else none
def eIdx (A B : DE) : DE := fun s w => (A s w).bind fun x w1 => match x with
  | .lst ds => (B s w1).bind fun y w2 => opt (idxD ds y) w2
  | _ => .no
section
variable {X : Cx} {mg : Str → Option Value} {W : WX} {o e : Expr} {apos cpos : Pos} {A B : DE}
theorem pd_index (hu : X.A.units + 65 < cLine) (ha : PE X o (lE mg W A)) (hb : PE X e (lE mg W B))
    (hbase : attributeBase o "index" X.env (eval o X.env) = eval o X.env := by rfl)
    (hfew : ((backTo cpos (starEach (e :: []) X.env)).all (fun x => !x.1) && (backToKw cpos (keywordEach [] X.env)).all (fun x => x.1.isSome)
      && decide ((e :: []).length + ([] : List Keyword).length + (if ([] : List Keyword).isEmpty then 0 else 1) < 30)) = true := by rfl)
    (hline : (apos.endLine == cpos.line) = true := by rfl) (hs : starEach (e :: []) X.env = (false, eval e X.env) :: starEach [] X.env := by rfl) (hplain : (backTo cpos (starEach [] X.env)).any (·.1) = false := by rfl) :
    PE X (.Call (.Attribute o "index" apos) [e] [] cpos) (lE mg W (eIdx A B)) := weakE (pe_bm PySem.F.plainAttrs_list PySem.F.slot_list_index PySem.F.type_list_index (mt_indexD hu) ha (pa_cons hb pa_nil hs) hbase hfew hline hs hplain) fun σ H Q h => by
  obtain ⟨wa, Hf, sD, w, hb, hs, h⟩ := h
  refine ⟨wa, Hf, sD, w, hb, hs, h.bind.mono (fun x w1 H1 Hf1 g1 b1 q v rv => ?_) (fun _ _ _ _ _ _ q => q)⟩
  have hx : ∃ xs, x = .lst xs := by
    cases x with
    | lst xs => exact ⟨xs, rfl⟩
    | _ => exact q.elim
  obtain ⟨ds, rfl⟩ := hx
  cases rv with
  | lst h1 r1 =>
    refine ⟨.inl ⟨rfl, _, SqL.of (b1.ex _ _ h1)⟩, wa, Hf1, sD, w1, b1, hs.go g1, q.bind.mono (fun y w2 H2 Hf2 g2 b2 q2 v2 rv2 => ?_) (fun _ _ _ _ _ _ q => q)⟩
    unfold idxD at q2
    split at q2
    · rename_i hc
      rw [Bool.and_eq_true] at hc
      cases e1 : ds.findIdx? (fun d => eqD d y) with
      | none => rw [e1] at q2; exact q2.elim
      | some j =>
        rw [e1] at q2
        obtain ⟨hj, h3, h4⟩ := List.findIdx?_eq_some_iff_getElem.mp e1
        have hl := (Rep.lst h1 r1).mono g2.ex
        refine ⟨_, v2, toPD y, toPDs ds, j, toPD ds[j], rfl, rfl, hl.dp b2 (shaped_lay hc.2), rv2.dp b2 (shaped_lay hc.1), hc.2, hc.1, ?_, h3, fun m z' hm hz => ?_, q2 H2 Hf2 Go.refl b2 _ (.int _)⟩
        · rw [toPDs_map, List.getElem?_map, List.getElem?_eq_getElem hj]; rfl
        · rw [toPDs_map, List.getElem?_map, List.getElem?_eq_getElem (by omega)] at hz
          cases hz
          have := h4 m hm
          exact (Bool.not_eq_true _).mp this
    · exact q2.elim
theorem pl_cb {es : List Expr} {a : Expr} {As : DA} {x : Str} {id : String} {r : List V → Hp → VK → Prop} {f : Wl → List D → Option (List D)} {p : Pos} {pos : Pos} (hc : CallR X (.builtin id) r) (hf : CaL r f) (hg : Gl X x) (hm : X.mg x = none) (hv : bootBuiltins x = some (.builtin id)) (ha : PA X (a :: es) (lA mg W As)) (hn : x ≠ "__name__" := by decide) (hdb : (x == ("__debug__" : Str)) = false := by decide)
    (he : starEach (a :: es) X.env = (false, eval a X.env) :: starEach es X.env := by rfl) (hpl : (backTo pos (starEach es X.env)).any (·.1) = false := by rfl) : PE X (.Call (.Name x p) (a :: es) [] pos) (lfL mg W (eCBL f As)) :=
  weakE (pe_callB hc hg hm hv ha hn hdb he hpl) fun _ _ _ q => cbL_ok hf q
end
/-! break, continue -/
section
variable {X : Cx} {mg : Str → Option Value} {W : WX} {pos : Pos}
def sBrk : DS := fun s w => .bk s w
def sCnt : DS := fun s w => .ct s w
theorem sd_brk : PS X (.Break pos) (lS mg W sBrk) := weakS ps_break fun D σ H h => by
  obtain ⟨wa, Hf, sD, w, H0, Hf0, g, b, hs, ho, h⟩ := h
  exact h σ H Hf g (Ex.refl _) b hs ho
theorem sd_cnt : PS X (.Continue pos) (lS mg W sCnt) := weakS ps_continue fun D σ H h => by
  obtain ⟨wa, Hf, sD, w, H0, Hf0, g, b, hs, ho, h⟩ := h
  exact h σ H Hf g (Ex.refl _) b hs ho
end
end DL

set_option maxHeartbeats 2000000
namespace DL
open PySem PySem.Spec PyProof.Rows L2
variable [OldT]
open Evl (Ex)
/-! ### list(range(..)) -/
def rgOk (a b : Int) : Prop := -4611686018427387904 ≤ a ∧ a < 4611686018427387904 ∧ -4611686018427387904 ≤ b ∧ b < 4611686018427387904 ∧ (b - a).toNat ≤ lim
instance (a b : Int) : Decidable (rgOk a b) := by unfold rgOk; infer_instance
theorem rgOk_of {a b : Int} (h : rgOk a b) : RgOk a b := by
  obtain ⟨h1, h2, h3, h4, h5⟩ := h
  have : lim = 16000000 := rfl
  exact ⟨by omega, by omega, by omega, by omega, by omega⟩
def aRg1 (A : DE) : DA := fun s w => (A s w).bind fun x w1 => match x with
  | .int j => if rgOk 0 j then .ok (upTo 0 (j - 0).toNat) w1 else .no
  | _ => .no
def aRg2 (A B : DE) : DA := fun s w => (A s w).bind fun x w1 => (B s w1).bind fun y w2 => match x, y with
  | .int i, .int j => if rgOk i j then .ok (upTo i (j - i).toNat) w2 else .no
  | _, _ => .no
section
variable {X : Cx} {mg : Str → Option Value} {W : WX} {a b : Expr} {p p2 pos pos2 : Pos} {A B : DE}
theorem rg_reps {wa : Addr} {Hf : Hp} {i j : Int} : Reps wa Hf (rgV i j) (upTo i (j - i).toNat) := by
  have e : ∀ l : List Nat, Reps wa Hf (l.map fun (k : Nat) => V.int (i + (k : Nat))) (l.map fun (k : Nat) => D.int (i + (k : Nat))) := by
    intro l
    induction l with
    | nil => exact .nil
    | cons k r ih => exact .cons (.int _) ih
  exact e _
theorem pl_rg1 (hc : X.calm = true) (hg : Gl X "list") (hm : X.mg "list" = none) (hg2 : Gl X "range") (hm2 : X.mg "range" = none) (ha : PE X a (lE mg W A))
    (na : starEach [a] X.env = (false, eval a X.env) :: starEach [] X.env := by rfl)
    (ne : starEach [Expr.Call (.Name "range" p2) [a] [] pos2] X.env = (false, eval (Expr.Call (.Name "range" p2) [a] [] pos2) X.env) :: starEach [] X.env := by rfl) :
    PE X (.Call (.Name "list" p) [.Call (.Name "range" p2) [a] [] pos2] [] pos) (lfL mg W (aRg1 A)) := weakE (pe_listRg hc hg hm (prg_1 hg2 hm2 ha na) ne) fun σ H Q h => by
  obtain ⟨wa, Hf, sD, w, hb, hs, h⟩ := h
  refine ⟨wa, Hf, sD, w, hb, hs, h.bind.mono (fun x w1 H1 Hf1 g1 b1 q v rv => ?_) (fun _ _ _ _ _ _ q => q)⟩
  split at q
  · split at q
    · rename_i hr
      cases rv
      refine ⟨_, rfl, rgOk_of hr, fun l hl => ?_⟩
      exact newL b1 rg_reps (fun H' Hf' l2 vs g b n e1 e2 e3 r => q H' Hf' g b l2 vs (g1.free n) e1 e2 e3 r) l hl
    · exact q.elim
  · exact q.elim
theorem pl_rg2 (hc : X.calm = true) (hg : Gl X "list") (hm : X.mg "list" = none) (hg2 : Gl X "range") (hm2 : X.mg "range" = none) (ha : PE X a (lE mg W A)) (hb : PE X b (lE mg W B))
    (na : starEach [a, b] X.env = (false, eval a X.env) :: starEach [b] X.env := by rfl) (nb : starEach [b] X.env = (false, eval b X.env) :: starEach [] X.env := by rfl) (hp : (backTo pos2 (starEach [b] X.env)).any (·.1) = false := by rfl)
    (ne : starEach [Expr.Call (.Name "range" p2) [a, b] [] pos2] X.env = (false, eval (Expr.Call (.Name "range" p2) [a, b] [] pos2) X.env) :: starEach [] X.env := by rfl) :
    PE X (.Call (.Name "list" p) [.Call (.Name "range" p2) [a, b] [] pos2] [] pos) (lfL mg W (aRg2 A B)) := weakE (pe_listRg hc hg hm (prg_2 hg2 hm2 ha hb na nb hp) ne) fun σ H Q h => by
  obtain ⟨wa, Hf, sD, w, hb, hs, h⟩ := h
  refine ⟨wa, Hf, sD, w, hb, hs, h.bind.mono (fun x w1 H1 Hf1 g1 b1 q v rv => ?_) (fun _ _ _ _ _ _ q => q)⟩
  refine ⟨wa, Hf1, sD, w1, b1, hs.go g1, q.bind.mono (fun y w2 H2 Hf2 g2 b2 q2 v2 rv2 => ?_) (fun _ _ _ _ _ _ q => q)⟩
  split at q2
  · split at q2
    · rename_i hr
      cases rv
      cases rv2
      refine ⟨_, _, rfl, rfl, rgOk_of hr, fun l hl => ?_⟩
      exact newL b2 rg_reps (fun H' Hf' l2 vs g b n e1 e2 e3 r => q2 H' Hf' g b l2 vs ((g1.trans g2).free n) e1 e2 e3 r) l hl
    · exact q2.elim
  · exact q2.elim
end
/-! ### a test that is `x if c else y` -/
section
variable {X : Cx} {mg : Str → Option Value} {W : WX} {a b c : Expr} {pos : Pos} {C S T : DT} {tC tA tB : TT}
theorem pt_ifx (hc : PT X c tC) (ha : PT X a tA) (hb : PT X b tB) : PT X (.IfExp c a b pos) (fun σ H Q => tC σ H fun k H1 => if k = true then tA σ H1 Q else tB σ H1 Q) := ⟨fun pins s σ H Q I h =>
  PyProof.Rows.isTrue_IfExp (thn (hc.run pins s σ H _ I h) fun d s1 ⟨H1, I1, q1⟩ => by
    cases d with
    | true => exact ha.run pins s1 σ H1 Q I1 q1
    | false => exact hb.run pins s1 σ H1 Q I1 q1)⟩
def tIfD (C S T : DT) : DT := fun s w => (C s w).bind fun k w1 => if k then S s w1 else T s w1
theorem qd_ifx (hc : PT X c (lT mg W C)) (ha : PT X a (lT mg W S)) (hb : PT X b (lT mg W T)) : PT X (.IfExp c a b pos) (lT mg W (tIfD C S T)) := weakT (pt_ifx hc ha hb) fun σ H Q h => by
  obtain ⟨wa, Hf, sD, w, hb, hs, h⟩ := h
  refine ⟨wa, Hf, sD, w, hb, hs, h.bind.mono (fun x w1 H1 Hf1 g1 b1 q v rv => ?_) (fun _ _ _ _ _ _ q => q)⟩
  cases rv
  cases x with
  | true => exact iteT ⟨wa, Hf1, sD, w1, b1, hs.go g1, q⟩
  | false => exact iteF ⟨wa, Hf1, sD, w1, b1, hs.go g1, q⟩
end
end DL

set_option maxHeartbeats 2000000
namespace DL
open PySem PySem.Spec PyProof.Rows L2
variable [OldT]
/-! ### what a piece of code comes to, as a plain proposition -/
section
variable {α β : Type} {a : α} {w : Wl} {Q P : α → Wl → Prop} {s : Sl} {A B C : DE} {As Bs : DA} {S T : DT} {f g : Wl → D → D → Option D} {U V : DS} {N N' : Sl → Wl → Prop} {Z Z' : D → Wl → Prop} {i n k : Nat}
def okE (r : R α) (Q : α → Wl → Prop) : Prop := match r with
  | .ok a w => Q a w
  | _ => False
def okO (o : Option α) (P : α → Prop) : Prop := match o with
  | some z => P z
  | none => False
def okB (d : D) (P : Bool → Prop) : Prop := match d with
  | .bl k => P k
  | _ => False
@[simp] theorem okE_ok : okE (.ok a w) Q = Q a w := rfl
@[simp] theorem okE_no : okE (.no) Q = False := rfl
@[simp] theorem okE_er {x : Exn} : okE (.er x w) Q = False := rfl
@[simp] theorem okO_some {P : α → Prop} : okO (some a) P = P a := rfl
@[simp] theorem okO_none {P : α → Prop} : okO none P = False := rfl
@[simp] theorem okB_bl {P : Bool → Prop} {k : Bool} : okB (.bl k) P = P k := rfl
theorem okE_bind {r : R α} {k : α → Wl → R β} {Q : β → Wl → Prop} : okE (r.bind k) Q = okE r (fun a w => okE (k a w) Q) := by cases r <;> rfl
@[simp] theorem okE_noer {r : R α} : okE r.noer Q = okE r Q := by cases r <;> rfl
@[simp] theorem okE_opt {o : Option α} : okE (opt o w) Q = okO o fun z => Q z w := by cases o <;> rfl
@[simp] theorem okE_ite {c : Prop} [Decidable c] {r r' : R α} : okE (if c then r else r') Q = if c then okE r Q else okE r' Q := by split <;> rfl
@[simp] theorem okO_ite {c : Prop} [Decidable c] {o : Option α} {P : α → Prop} : okO (if c then o else none) P = (c ∧ okO o P) := by
  by_cases h : c
  · simp [h]
  · simp [h]
theorem okE_mono {r : R α} (h : okE r P) (i : ∀ a w, P a w → Q a w) : okE r Q := by
  cases r with
  | ok a w => exact i _ _ h
  | er _ _ => exact h
  | no => exact h
theorem okE_eq {r : R α} (h : okE r fun d w' => d = a ∧ w' = w) : r = .ok a w := by
  cases r with
  | ok b v => obtain ⟨rfl, rfl⟩ := h; rfl
  | er _ _ => exact h.elim
  | no => exact h.elim
theorem okE_ex {r : R α} (h : okE r P) : ∃ a w, r = .ok a w ∧ P a w := by
  cases r with
  | ok b v => exact ⟨b, v, rfl, h⟩
  | er _ _ => exact h.elim
  | no => exact h.elim
variable {Q : D → Wl → Prop} {QA : List D → Wl → Prop} {QT : Bool → Wl → Prop}
@[simp] theorem okE_var : okE (eVar i s w) Q = okO (getS s i) fun d => Q d w := by unfold eVar; cases getS s i <;> rfl
@[simp] theorem okE_c {d : D} : okE (eC d s w) Q = Q d w := rfl
@[simp] theorem okE_bin : okE (eBin f A B s w) Q = okE (A s w) fun x w1 => okE (B s w1) fun y w2 => okO (f w2 x y) fun z => Q z w2 := by unfold eBin; simp only [okE_bind, okE_opt]
@[simp] theorem okE_un {f : Wl → D → Option D} : okE (eUn f A s w) Q = okE (A s w) fun x w1 => okO (f w1 x) fun z => Q z w1 := by unfold eUn; simp only [okE_bind, okE_opt]
@[simp] theorem okE_cb {f : Wl → List D → Option D} : okE (eCB f As s w) Q = okE (As s w) fun x w1 => okO (f w1 x) fun z => Q z w1 := by unfold eCB; simp only [okE_bind, okE_opt]
@[simp] theorem okE_cbl {f : Wl → List D → Option (List D)} : okE (eCBL f As s w) QA = okE (As s w) fun x w1 => okO (f w1 x) fun z => QA z w1 := by unfold eCBL; simp only [okE_bind, okE_opt]
@[simp] theorem okE_l : okE (eL As s w) Q = okE (As s w) fun x w1 => Q (.lst x) w1 := by unfold eL; simp only [okE_bind, okE_ok]
@[simp] theorem okE_nil : okE (aNil s w) QA = QA [] w := rfl
@[simp] theorem okE_cons : okE (aCons A As s w) QA = okE (A s w) fun x w1 => okE (As s w1) fun xs w2 => QA (x :: xs) w2 := by unfold aCons; simp only [okE_bind, okE_ok]
@[simp] theorem okE_tup : okE (eTup As s w) Q = okE (As s w) fun xs w1 => xs.length ≤ lim ∧ Q (.tup xs) w1 := by
  unfold eTup; simp only [okE_bind]; congr; funext xs w1; split <;> simp [*]
@[simp] theorem okE_lst : okE (aLst As s w) QA = okE (As s w) fun xs w1 => xs.length ≤ lim ∧ QA xs w1 := by
  unfold aLst; simp only [okE_bind]; congr; funext xs w1; split <;> simp [*]
@[simp] theorem okE_call {F : DF} : okE (eCall n F As s w) Q = okE (As s w) fun ds w1 => ds.length = n ∧ okE (F ds w1) Q := by
  unfold eCall; simp only [okE_bind]; congr; funext xs w1; split <;> simp [*]
@[simp] theorem okE_callK {F : DF} {m : Nat} {π : List Nat} : okE (eCallK m n k π F As Bs s w) Q = okE (As s w) fun ds w1 => okE (Bs s w1) fun zs w2 => (ds.length = n ∧ zs.length = k ∧ (permute π (ds ++ zs)).length = m) ∧ okE (F (permute π (ds ++ zs)) w2) Q := by
  unfold eCallK; simp only [okE_bind]; congr; funext xs w1; congr; funext ys w2; split <;> simp [*]
@[simp] theorem okE_if : okE (eIf T A B s w) Q = okE (T s w) fun k w1 => if k = true then okE (A s w1) Q else okE (B s w1) Q := by
  unfold eIf; simp only [okE_bind]; congr; funext k w1; cases k <;> rfl
@[simp] theorem okE_and : okE (eAnd A B s w) Q = okE (A s w) fun x w1 => okB x fun k => if k = true then okE (B s w1) Q else Q (.bl false) w1 := by
  unfold eAnd; simp only [okE_bind]; congr; funext x w1; cases x <;> try rfl
  rename_i b; cases b <;> rfl
@[simp] theorem okE_or : okE (eOr A B s w) Q = okE (A s w) fun x w1 => okB x fun k => if k = true then Q (.bl true) w1 else okE (B s w1) Q := by
  unfold eOr; simp only [okE_bind]; congr; funext x w1; cases x <;> try rfl
  rename_i b; cases b <;> rfl
@[simp] theorem okE_not : okE (eNot A s w) Q = okE (A s w) fun x w1 => okB x fun k => Q (.bl (!k)) w1 := by
  unfold eNot; simp only [okE_bind]; congr; funext x w1; cases x <;> rfl
@[simp] theorem okE_chain : okE (eChain f g A B C s w) Q = okE (A s w) fun x w1 => okE (B s w1) fun y w2 => okO (f w2 x y) fun z => okB z fun k => if k = true then okE (C s w2) fun u w4 => okO (g w4 y u) fun v => Q v w4 else Q (.bl false) w2 := by
  unfold eChain; simp only [okE_bind, okE_opt]; congr; funext x w1; congr; funext y w2; congr; funext z; cases z <;> try rfl
  rename_i b; cases b
  · rfl
  · simp only [okE_bind, okE_opt]; rfl
@[simp] theorem okT_e : okE (tE A s w) QT = okE (A s w) fun x w1 => okB x fun k => QT k w1 := by
  unfold tE; simp only [okE_bind]; congr; funext x w1; cases x <;> rfl
@[simp] theorem okT_an : okE (tAn S T s w) QT = okE (S s w) fun k w1 => if k = true then okE (T s w1) QT else QT false w1 := by
  unfold tAn; simp only [okE_bind]; congr; funext k w1; cases k <;> rfl
@[simp] theorem okT_on : okE (tOn S T s w) QT = okE (S s w) fun k w1 => if k = true then QT true w1 else okE (T s w1) QT := by
  unfold tOn; simp only [okE_bind]; congr; funext k w1; cases k <;> rfl
@[simp] theorem okT_no : okE (tNo S s w) QT = okE (S s w) fun k w1 => QT (!k) w1 := by unfold tNo; simp only [okE_bind, okE_ok]
@[simp] theorem okT_tr : okE (tTr A s w) QT = okE (A s w) fun x w1 => okO (truD x) fun k => QT k w1 := by unfold tTr; simp only [okE_bind, okE_opt]
@[simp] theorem okT_yes : okE (tYesD s w) QT = QT true w := rfl
@[simp] theorem okE_rev : okE (eRev A s w) Q = okE (A s w) fun x w1 => match x with
    | .lst xs => Q (.lst xs.reverse) w1
    | .tup xs => Q (.tup xs.reverse) w1
    | _ => False := by unfold eRev; simp only [okE_bind]; congr; funext x w1; cases x <;> rfl
@[simp] theorem okI_seq : okE (iSeq A s w) QA = okE (A s w) fun x w1 => okO (seqD x) fun p => QA p.2 w1 := by unfold iSeq; simp only [okE_bind]; congr; funext x w1; cases x <;> rfl
def rng1D : List D → Option (List D)
  | [.int j] => if -4611686018427387904 ≤ j ∧ j < 4611686018427387904 then some (upTo 0 j.toNat) else none
  | _ => none
def rng2D : List D → Option (List D)
  | [.int i, .int j] => if (-4611686018427387904 ≤ i ∧ i < 4611686018427387904) ∧ -4611686018427387904 ≤ j ∧ j < 4611686018427387904 then some (upTo i (j - i).toNat) else none
  | _ => none
def enm1D : List D → Option (List D)
  | [.lst ds] => some (enumD ds)
  | _ => none
def zip2D : List D → Option (List D)
  | [x, y] => (seqD x).bind fun p => (seqD y).bind fun q => some (zipD p.2 q.2)
  | [x, y, z] => (seqD x).bind fun p => (seqD y).bind fun q => (seqD z).bind fun r => some (zip3D p.2 q.2 r.2)
  | _ => none
@[simp] theorem okI_rng1 : okE (iRng1 As s w) QA = okE (As s w) fun xs w1 => okO (rng1D xs) fun ds => QA ds w1 := by
  unfold iRng1; simp only [okE_bind]; congr; funext xs w1
  rcases xs with _ | ⟨x, _ | ⟨y, xs⟩⟩ <;> try rfl
  · cases x <;> try rfl
    simp only [rng1D, okE_ite, okO_ite, okE_ok, okE_no, okO_some]
    split <;> simp [*]
  · cases x <;> rfl
@[simp] theorem okI_rng2 : okE (iRng2 As s w) QA = okE (As s w) fun xs w1 => okO (rng2D xs) fun ds => QA ds w1 := by
  unfold iRng2; simp only [okE_bind]; congr; funext xs w1
  rcases xs with _ | ⟨x, _ | ⟨y, _ | ⟨z, xs⟩⟩⟩ <;> try rfl
  · cases x <;> rfl
  · cases x <;> try rfl
    cases y <;> try rfl
    simp only [rng2D, okE_ite, okO_ite, okE_ok, okE_no, okO_some]
    split <;> simp [*]
  · cases x <;> try rfl
    cases y <;> rfl
@[simp] theorem okI_enum : okE (iEnum As s w) QA = okE (As s w) fun xs w1 => okO (enm1D xs) fun ds => QA ds w1 := by
  unfold iEnum; simp only [okE_bind]; congr; funext xs w1
  rcases xs with _ | ⟨x, _ | ⟨y, xs⟩⟩ <;> try rfl
  · cases x <;> rfl
  · cases x <;> rfl
@[simp] theorem okI_zip : okE (iZip As s w) QA = okE (As s w) fun xs w1 => okO (zip2D xs) fun ds => QA ds w1 := by
  unfold iZip; simp only [okE_bind]; congr; funext xs w1
  rcases xs with _ | ⟨x, _ | ⟨y, _ | ⟨z, _ | ⟨u, xs⟩⟩⟩⟩ <;> try rfl
  · show okE (match seqD x, seqD y with | some (_, ds), some (_, es) => R.ok (zipD ds es) w1 | _, _ => R.no) QA = okO ((seqD x).bind fun p => (seqD y).bind fun q => some (zipD p.2 q.2)) _
    cases seqD x <;> cases seqD y <;> rfl
  · show okE (match seqD x, seqD y, seqD z with | some (_, ds), some (_, es), some (_, fs) => R.ok (zip3D ds es fs) w1 | _, _, _ => R.no) QA = okO ((seqD x).bind fun p => (seqD y).bind fun q => (seqD z).bind fun r => some (zip3D p.2 q.2 r.2)) _
    cases seqD x <;> cases seqD y <;> cases seqD z <;> rfl
@[simp] theorem okE_lc {I : DI} {G : DG} {vs : List Nat} : okE (aLc I G T A vs s w) QA = okE (I s w) fun ds w1 => ds.length ≤ lim ∧ okE (lcD G T A ds (wipeS s vs) w1) QA := by
  unfold aLc; simp only [okE_bind]; congr; funext xs w1; split <;> simp [*]
/-! statements -/
def okS (r : RS) (N : Sl → Wl → Prop) (Z : D → Wl → Prop) : Prop := match r with
  | .nx s w => N s w
  | .rt d w => Z d w
  | _ => False
@[simp] theorem okS_nx : okS (.nx s w) N Z = N s w := rfl
@[simp] theorem okS_rt {d : D} : okS (.rt d w) N Z = Z d w := rfl
@[simp] theorem okS_no : okS .no N Z = False := rfl
@[simp] theorem okS_sNx : okS (sNx s w) N Z = N s w := rfl
@[simp] theorem okS_never : okS (sNever s w) N Z = False := rfl
@[simp] theorem okS_seq : okS (sSeq U V s w) N Z = okS (U s w) (fun s1 w1 => okS (V s1 w1) N Z) Z := by unfold sSeq; cases U s w <;> rfl
@[simp] theorem okS_asg : okS (sAsg i A s w) N Z = okE (A s w) fun d w1 => N (s.set i (some d)) w1 := by unfold sAsg; cases A s w <;> rfl
@[simp] theorem okS_new : okS (sNew i As s w) N Z = okE (As s w) fun d w1 => N (s.set i (some (.own d))) w1 := by unfold sNew; cases As s w <;> rfl
@[simp] theorem okS_tg {G : DG} : okS (sTg G A s w) N Z = okE (A s w) fun d w1 => okO (G d s) fun s1 => N s1 w1 := by
  unfold sTg
  cases A s w with
  | ok d w1 => simp only [okE_ok]; cases G d s <;> rfl
  | er _ _ => rfl
  | no => rfl
@[simp] theorem okS_drop : okS (sDrop A s w) N Z = okE (A s w) fun _ w1 => N s w1 := by unfold sDrop; cases A s w <;> rfl
@[simp] theorem okS_if : okS (sIf T U V s w) N Z = okE (T s w) fun k w1 => if k = true then okS (U s w1) N Z else okS (V s w1) N Z := by
  unfold sIf
  cases T s w with
  | ok k w1 => cases k <;> rfl
  | er _ _ => rfl
  | no => rfl
@[simp] theorem okS_ret : okS (sRet A s w) N Z = okE (A s w) Z := by unfold sRet; cases A s w <;> rfl
def okOwn (o : Option (Option D)) (P : List D → Prop) : Prop := match o with
  | some (some (.own xs)) => P xs
  | _ => False
@[simp] theorem okOwn_own {xs : List D} {P : List D → Prop} : okOwn (some (some (.own xs))) P = P xs := rfl
@[simp] theorem okS_app : okS (sApp i A s w) N Z = okOwn s[i]? fun xs => okE (A s w) fun d w1 => xs.length < lim ∧ N (s.set i (some (.own (xs ++ [d])))) w1 := by
  unfold sApp
  cases h : s[i]? with
  | none => rfl
  | some o =>
    cases o with
    | none => rfl
    | some d =>
      cases d <;> try rfl
      rename_i xs
      simp only [okOwn_own]
      cases A s w with
      | ok d w1 => simp only [okE_ok]; split <;> simp [*]
      | er _ _ => rfl
      | no => rfl
@[simp] theorem okS_frz : okS (sFrz i U s w) N Z = okS (U (frzS i s) w) N Z := rfl
@[simp] theorem okS_setW : okS (sSetW A B C s w) N Z = okE (C s w) fun d w1 => okE (A s w1) fun x w2 => okE (B s w2) fun k w3 => match d, x, k with
    | .int z, .well, .int k => okO (setW w3 k z) fun w4 => N s w4
    | _, _, _ => False := by
  unfold sSetW
  cases C s w with
  | er _ _ => rfl
  | no => rfl
  | ok d w1 =>
    simp only [R.bind_ok, okE_ok]
    cases A s w1 with
    | er _ _ => rfl
    | no => rfl
    | ok x w2 =>
      simp only [R.bind_ok, okE_ok]
      cases B s w2 with
      | er _ _ => rfl
      | no => rfl
      | ok k w3 =>
        simp only [R.bind_ok, okE_ok]
        cases d <;> try rfl
        cases x <;> try rfl
        cases k <;> try rfl
        rename_i z k
        cases h : setW w3 k z <;> simp [h] <;> rfl
@[simp] theorem okE_mval : okE (mVal A As s w) QA = okE (A s w) fun x w1 => okE (As s w1) fun xs w2 => QA (x :: xs) w2 := by unfold mVal; simp only [okE_bind, okE_ok]
@[simp] theorem okE_mown : okE (mOwn Bs As s w) QA = okE (Bs s w) fun x w1 => okE (As s w1) fun xs w2 => QA (.own x :: xs) w2 := by unfold mOwn; simp only [okE_bind, okE_ok]
@[simp] theorem okS_mul {is : List Nat} : okS (sMul is As s w) N Z = okE (As s w) fun ds w1 => okO (putS s is ds) fun s1 => N s1 w1 := by
  unfold sMul
  cases As s w with
  | ok d w1 => simp only [okE_ok]; cases putS s is d <;> rfl
  | er _ _ => rfl
  | no => rfl
@[simp] theorem okS_for {I : DI} {G : DG} : okS (sFor I G U s w) N Z = okE (I s w) fun ds w1 => okS (loopD G U ds s w1) N Z := by unfold sFor; cases I s w <;> rfl
theorem okS_mono {r : RS} (h : okS r N Z) (i : ∀ s w, N s w → N' s w) (j : ∀ d w, Z d w → Z' d w) : okS r N' Z' := by
  cases r with
  | nx s w => exact i _ _ h
  | rt d w => exact j _ _ h
  | _ => exact h
theorem okE_run {B : DS} {ds : List D} : okE (runB n k B ds w) Q = (ds.length = k ∧ okS (B (ds.map some ++ List.replicate (n - k) none) w) (fun _ w1 => Q .non w1) Q) := by
  unfold runB
  by_cases h : ds.length = k
  · rw [if_pos h]
    simp only [h, true_and]
    cases B (ds.map some ++ List.replicate (n - k) none) w <;> rfl
  · rw [if_neg h]
    simp [h]
/-- a comprehension, element by element -/
theorem lc_map {γ : Type} {G : DG} (g f : γ → D) (p : γ → Bool) {s : Sl} {w : Wl} : ∀ {xs : List γ}, (∀ x ∈ xs, okO (G (g x) s) fun s1 => T s1 w = .ok (p x) w ∧ (p x = true → A s1 w = .ok (f x) w)) → lcD G T A (xs.map g) s w = .ok ((xs.filter p).map f) w
  | [], _ => rfl
  | x :: xs, h => by
    have h1 := h x List.mem_cons_self
    have ih := lc_map g f p (xs := xs) fun y hy => h y (List.mem_cons_of_mem _ hy)
    rw [List.map_cons]
    unfold lcD
    cases e : G (g x) s with
    | none => rw [e] at h1; exact h1.elim
    | some s1 =>
      rw [e] at h1
      obtain ⟨h2, h3⟩ := h1
      simp only [h2, R.noer_ok, R.bind_ok]
      by_cases hp : p x = true
      · rw [if_pos hp, h3 hp, List.filter_cons_of_pos hp]
        simp [ih]
      · rw [if_neg hp, List.filter_cons_of_neg hp]
        exact ih
/-- .. no condition -/
theorem lc_all {γ : Type} {G : DG} (g f : γ → D) {s : Sl} {w : Wl} {xs : List γ} (h : ∀ x ∈ xs, okO (G (g x) s) fun s1 => okE (A s1 w) fun d w1 => d = f x ∧ w1 = w) : lcD G tYesD A (xs.map g) s w = .ok (xs.map f) w := by
  have := lc_map (T := tYesD) (A := A) (G := G) g f (fun _ => true) (s := s) (w := w) (xs := xs) fun x hx => by
    have h1 := h x hx
    cases e : G (g x) s with
    | none => rw [e] at h1; exact h1.elim
    | some s1 =>
      rw [e] at h1
      exact ⟨rfl, fun _ => okE_eq h1⟩
  rw [List.filter_eq_self.mpr (by simp)] at this
  exact this
theorem okE_lcall {γ : Type} {G : DG} (g f : γ → D) {s : Sl} {w : Wl} {xs : List γ} {Q : List D → Wl → Prop} (h : ∀ x ∈ xs, okO (G (g x) s) fun s1 => okE (A s1 w) fun d w1 => d = f x ∧ w1 = w) (q : Q (xs.map f) w) : okE (lcD G tYesD A (xs.map g) s w) Q := by
  rw [lc_all g f h]
  exact q
/-- a loop by its invariant -/
theorem okS_loop {G : DG} (I : Nat → Sl → Wl → Prop) : ∀ {ds : List D} {s : Sl} {w : Wl} (m : Nat), I m s w → (∀ i d s w, ds[i]? = some d → I (m + i) s w → okO (G d s) fun s1 => okS (U s1 w) (I (m + i + 1)) Z) → (∀ s w, I (m + ds.length) s w → N s w) → okS (loopD G U ds s w) N Z
  | [], s, w, m, h0, _, he => he s w h0
  | d :: ds, s, w, m, h0, hs, he => by
    have h1 := hs 0 d s w rfl h0
    unfold loopD
    cases e : G d s with
    | none => rw [e] at h1; exact h1.elim
    | some s1 =>
      rw [e] at h1
      simp only [okO_some] at h1
      dsimp only
      cases e2 : U s1 w with
      | nx s2 w2 =>
        rw [e2] at h1
        exact okS_loop I (m + 1) h1 (fun i d' s' w' hd hI => by
          have := hs (i + 1) d' s' w' (by simpa using hd) (by rw [show m + (i + 1) = m + 1 + i by omega]; exact hI)
          rw [show m + (i + 1) + 1 = m + 1 + i + 1 by omega] at this
          exact this) (fun s' w' hI => he s' w' (by rw [List.length_cons, show m + (ds.length + 1) = m + 1 + ds.length by omega]; exact hI))
      | rt d' w2 => rw [e2] at h1; exact h1
      | bk _ _ => rw [e2] at h1; exact h1.elim
      | ct _ _ => rw [e2] at h1; exact h1.elim
      | er _ _ _ => rw [e2] at h1; exact h1.elim
      | no => rw [e2] at h1; exact h1.elim
theorem okS_loop0 {G : DG} (I : Nat → Sl → Wl → Prop) {ds : List D} {s : Sl} {w : Wl} (h0 : I 0 s w) (hs : ∀ i d s w, ds[i]? = some d → I i s w → okO (G d s) fun s1 => okS (U s1 w) (I (i + 1)) Z) (he : ∀ s w, I ds.length s w → N s w) : okS (loopD G U ds s w) N Z :=
  okS_loop I 0 h0 (fun i d s w hd hI => by
    rw [Nat.zero_add] at hI ⊢
    exact hs i d s w hd hI) (fun s w hI => he s w (by rw [Nat.zero_add] at hI; exact hI))
end
end DL

set_option maxHeartbeats 2000000
namespace DL
open PySem PySem.Spec PyProof.Rows L2
variable [OldT]
/-! ### what the operations make of plain values -/
section
variable {w : Wl} {i j k n m : Nat} {a b : Int} {xs ys : List D} {s : Sl} {d x y : D} {P : D → Prop} {PA : List D → Prop} {PS : Sl → Prop}
@[simp] theorem v_add : fAdd w (.int a) (.int b) = some (.int (a + b)) := rfl
@[simp] theorem v_addT : okO (fAdd w (.tup xs) (.tup ys)) P = (xs.length + ys.length ≤ lim ∧ P (.tup (xs ++ ys))) := by unfold fAdd; simp
@[simp] theorem v_addL : okO (fAdd w (.lst xs) (.lst ys)) P = (xs.length + ys.length ≤ lim ∧ P (.lst (xs ++ ys))) := by unfold fAdd; simp
@[simp] theorem v_sub : fSub w (.int a) (.int b) = some (.int (a - b)) := rfl
@[simp] theorem v_mul : okO (fMul w (.int a) (.int b)) P = (mulOk a b ∧ P (.int (a * b))) := by unfold fMul; simp
@[simp] theorem v_div : okO (fDiv w (.int a) (.int b)) P = (divOk b ∧ P (.int (a.fdiv b))) := by unfold fDiv; simp
@[simp] theorem v_mod : okO (fMod w (.int a) (.int b)) P = (b ≠ 0 ∧ P (.int (a.fmod b))) := by unfold fMod; by_cases h : b = 0 <;> simp [h]
@[simp] theorem v_pow : okO (fPow w (.int a) (.int b)) P = ((0 ≤ b ∧ b ≤ 1000000 ∧ a.natAbs < 18446744073709551616) ∧ P (.int (a ^ b.toNat))) := by unfold fPow; simp
@[simp] theorem v_neg : fNeg w (.int a) = some (.int (-a)) := rfl
@[simp] theorem v_cmp {p : Int → Int → Bool} : fCmp p w (.int a) (.int b) = some (.bl (p a b)) := rfl
@[simp] theorem v_eq : okO (fEq w x y) P = ((okD x && okD y) = true ∧ P (.bl (eqD x y))) := by unfold fEq; simp
@[simp] theorem v_ne : okO (fNe w x y) P = ((okD x && okD y) = true ∧ P (.bl (!eqD x y))) := by unfold fNe; simp
@[simp] theorem v_lenL : fLen w [.lst xs] = some (.int xs.length) := rfl
@[simp] theorem v_lenT : fLen w [.tup xs] = some (.int xs.length) := rfl
@[simp] theorem v_max : fMax2 w [.int a, .int b] = some (.int (if b > a then b else a)) := rfl
@[simp] theorem v_min : fMin2 w [.int a, .int b] = some (.int (if b < a then b else a)) := rfl
@[simp] theorem v_abs : fAbs w [.int a] = some (.int (if a < 0 then -a else a)) := rfl
@[simp] theorem v_int : fInt w [.int a] = some (.int a) := rfl
@[simp] theorem v_intB {c : Bool} : fInt w [.bl c] = some (.int (if c then 1 else 0)) := rfl
@[simp] theorem v_sum {α : Type} {f : α → Int} {l : List α} : fSum w [.lst (l.map fun x => .int (f x))] = some (.int (l.map f).sum) := by
  have : l.map (fun x => D.int (f x)) = (l.map f).map D.int := by simp
  show ((ints? (l.map fun x => D.int (f x))).map fun ns => D.int ns.sum) = _
  rw [this, ints?_map]
  rfl
@[simp] theorem v_all {α : Type} {f : α → Bool} {l : List α} : fAll w [.lst (l.map fun x => .bl (f x))] = some (.bl (l.all f)) := by
  have : l.map (fun x => D.bl (f x)) = (l.map f).map D.bl := by simp
  show ((bls? (l.map fun x => D.bl (f x))).map fun ns => D.bl (ns.all id)) = _
  rw [this, bls?_map]
  simp
@[simp] theorem v_any {α : Type} {f : α → Bool} {l : List α} : fAny w [.lst (l.map fun x => .bl (f x))] = some (.bl (l.any f)) := by
  have : l.map (fun x => D.bl (f x)) = (l.map f).map D.bl := by simp
  show ((bls? (l.map fun x => D.bl (f x))).map fun ns => D.bl (ns.any id)) = _
  rw [this, bls?_map]
  simp
@[simp] theorem v_tupL : fTuple w [.lst xs] = some (.tup xs) := rfl
@[simp] theorem v_tupT : fTuple w [.tup xs] = some (.tup xs) := rfl
@[simp] theorem v_lstL : fList w [.lst xs] = some xs := rfl
@[simp] theorem v_lstT : fList w [.tup xs] = some xs := rfl
@[simp] theorem v_isi1 : fIsi w [.int a, .ty "int"] = some (.bl true) := rfl
@[simp] theorem v_isi2 : fIsi w [.int a, .ty "bool"] = some (.bl false) := rfl
@[simp] theorem v_isi3 : fIsi w [.int a, .ty "tuple"] = some (.bl false) := rfl
@[simp] theorem v_isi4 : fIsi w [.int a, .ty "list"] = some (.bl false) := rfl
@[simp] theorem v_isi5 : fIsi w [.tup xs, .ty "int"] = some (.bl false) := rfl
@[simp] theorem v_isi6 : fIsi w [.tup xs, .ty "tuple"] = some (.bl true) := rfl
@[simp] theorem v_isi7 : fIsi w [.tup xs, .ty "list"] = some (.bl false) := rfl
@[simp] theorem v_isi8 : fIsi w [.lst xs, .ty "int"] = some (.bl false) := rfl
@[simp] theorem v_isi9 : fIsi w [.lst xs, .ty "tuple"] = some (.bl false) := rfl
@[simp] theorem v_isi10 : fIsi w [.lst xs, .ty "list"] = some (.bl true) := rfl
@[simp] theorem v_truB {c : Bool} : truD (.bl c) = some c := rfl
@[simp] theorem v_truI : truD (.int a) = some (a != 0) := rfl
@[simp] theorem v_truL : truD (.lst xs) = some (!xs.isEmpty) := rfl
@[simp] theorem v_truT : truD (.tup xs) = some (!xs.isEmpty) := rfl
@[simp] theorem v_gN : gN i d s = some (s.set i (some d)) := rfl
@[simp] theorem v_gNil : gNil' [] s = some s := rfl
@[simp] theorem v_gCons {G : DG} {Gs : List D → Sl → Option Sl} : okO (gCons' G Gs (d :: xs) s) PS = okO (G d s) fun s1 => okO (Gs xs s1) PS := by
  show okO ((G d s).bind fun s1 => Gs xs s1) PS = _
  cases G d s <;> rfl
@[simp] theorem v_gT {Gs : List D → Sl → Option Sl} : okO (gT Gs n (.tup xs) s) PS = (xs.length = n ∧ okO (Gs xs s) PS) := by
  show okO (if xs.length = n then Gs xs s else none) PS = _
  simp
@[simp] theorem v_ixL : fIx w (.lst xs) (.int a) = atI xs a := rfl
@[simp] theorem v_ixT : fIx w (.tup xs) (.int a) = atI xs a := rfl
@[simp] theorem v_ix0 : fIx w .well (.int 0) = some (.int w.1) := rfl
@[simp] theorem v_ix1 : fIx w .well (.int 1) = some (.int w.2.1) := rfl
@[simp] theorem v_ix2 : fIx w .well (.int 2) = some (.int w.2.2) := rfl
@[simp] theorem v_set0 : setW w 0 a = some (a, w.2.1, w.2.2) := rfl
@[simp] theorem v_set1 : setW w 1 a = some (w.1, a, w.2.2) := rfl
@[simp] theorem v_set2 : setW w 2 a = some (w.1, w.2.1, a) := rfl
theorem getS_eq : getS s i = match s[i]? with
  | some (some (.own _)) => none
  | some (some d) => some d
  | _ => none := rfl
@[simp] theorem getS_succ {o : Option D} : getS (o :: s) (i + 1) = getS s i := rfl
@[simp] theorem getS_int : getS (some (.int a) :: s) 0 = some (.int a) := rfl
@[simp] theorem getS_bl {c : Bool} : getS (some (.bl c) :: s) 0 = some (.bl c) := rfl
@[simp] theorem getS_str {c : Str} : getS (some (.str c) :: s) 0 = some (.str c) := rfl
@[simp] theorem getS_non : getS (some .non :: s) 0 = some .non := rfl
@[simp] theorem getS_lst : getS (some (.lst xs) :: s) 0 = some (.lst xs) := rfl
@[simp] theorem getS_tup : getS (some (.tup xs) :: s) 0 = some (.tup xs) := rfl
@[simp] theorem getS_well : getS (some .well :: s) 0 = some .well := rfl
@[simp] theorem wipeS_nil : wipeS s [] = s := rfl
@[simp] theorem wipeS_cons {vs : List Nat} : wipeS s (i :: vs) = (wipeS s vs).set i none := rfl
@[simp] theorem frzS_zero : frzS 0 (some (.own xs) :: s) = some (.lst xs) :: s := rfl
@[simp] theorem frzS_lst : frzS 0 (some (.lst xs) :: s) = some (.lst xs) :: s := rfl
@[simp] theorem frzS_tup : frzS 0 (some (.tup xs) :: s) = some (.tup xs) :: s := rfl
@[simp] theorem frzS_succ {o : Option D} : frzS (i + 1) (o :: s) = o :: frzS i s := by
  unfold frzS
  rw [List.getElem?_cons_succ]
  cases s[i]? with
  | none => rfl
  | some q =>
    cases q with
    | none => rfl
    | some d => cases d <;> rfl
@[simp] theorem seqD_lst : seqD (.lst xs) = some (false, xs) := rfl
@[simp] theorem seqD_tup : seqD (.tup xs) = some (true, xs) := rfl
@[simp] theorem putS_nil : putS s [] [] = some s := rfl
@[simp] theorem putS_cons {is : List Nat} : putS s (i :: is) (d :: xs) = putS (s.set i (some d)) is xs := rfl
@[simp] theorem rng1_int : okO (rng1D [.int a]) PA = ((-4611686018427387904 ≤ a ∧ a < 4611686018427387904) ∧ PA (upTo 0 a.toNat)) := by unfold rng1D; simp
@[simp] theorem rng2_int : okO (rng2D [.int a, .int b]) PA = (((-4611686018427387904 ≤ a ∧ a < 4611686018427387904) ∧ -4611686018427387904 ≤ b ∧ b < 4611686018427387904) ∧ PA (upTo a (b - a).toNat)) := by unfold rng2D; simp
@[simp] theorem enm1_lst : enm1D [.lst xs] = some (enumD xs) := rfl
theorem zip2_two {p q : Bool} (h1 : seqD x = some (p, xs)) (h2 : seqD y = some (q, ys)) : zip2D [x, y] = some (zipD xs ys) := by simp [zip2D, h1, h2]
@[simp] theorem zip2_tt : zip2D [.tup xs, .tup ys] = some (zipD xs ys) := rfl
@[simp] theorem zip2_tl : zip2D [.tup xs, .lst ys] = some (zipD xs ys) := rfl
@[simp] theorem zip2_lt : zip2D [.lst xs, .tup ys] = some (zipD xs ys) := rfl
@[simp] theorem zip2_ll : zip2D [.lst xs, .lst ys] = some (zipD xs ys) := rfl
@[simp] theorem zip3_ttl {zs : List D} : zip2D [.tup xs, .tup ys, .lst zs] = some (zip3D xs ys zs) := rfl
theorem mulOk_of {a b : Int} {i j : Nat} (ha : a.natAbs < 2 ^ i) (hb : b.natAbs < 2 ^ j) (hi : 0 < i) (hj : 0 < j) (h : i + j ≤ 1000000) : mulOk a b := by
  have x := PySem.Flt.log2_lt_of hi ha
  have y := PySem.Flt.log2_lt_of hj hb
  unfold mulOk
  omega
theorem divOk_of {b : Int} (h0 : b ≠ 0) (hb : b.natAbs < 2 ^ 9000) : divOk b := ⟨h0, PySem.Flt.log2_lt_of (by decide) hb⟩
/-- two lists by one of pairs -/
theorem zipD_map {α : Type} {f g : α → D} {l : List α} : zipD (l.map f) (l.map g) = l.map fun x => .tup [f x, g x] := by
  unfold zipD
  rw [List.zip_map', List.map_map]
  rfl
theorem zipD_maps {α β : Type} {f : α → D} {g : β → D} {l : List α} {m : List β} : zipD (l.map f) (m.map g) = (l.zip m).map fun x => .tup [f x.1, g x.2] := by
  unfold zipD
  rw [List.zip_map, List.map_map]
  rfl
theorem zip3D_maps {α β γ : Type} {f : α → D} {g : β → D} {h : γ → D} {l : List α} {m : List β} {n : List γ} : zip3D (l.map f) (m.map g) (n.map h) = (l.zip (m.zip n)).map fun x => .tup [f x.1, g x.2.1, h x.2.2] := by
  unfold zip3D
  rw [List.zip_map, List.zip_map, List.map_map]
  rfl
theorem zip3D_map {α : Type} {f g h : α → D} {l : List α} : zip3D (l.map f) (l.map g) (l.map h) = l.map fun x => .tup [f x, g x, h x] := by
  unfold zip3D
  rw [List.zip_map', List.zip_map', List.map_map]
  rfl
end
end DL

set_option maxHeartbeats 2000000
namespace DL
open PySem PySem.Spec PyProof.Rows L2
variable [OldT]
/-! ### in, index, sorted, divmod, while by value -/
section
variable {w : Wl} {i j k n m : Nat} {a b : Int} {xs ys : List D} {s : Sl} {d x y : D} {P : D → Prop} {A B C : DE} {Q : D → Wl → Prop} {U V : DS} {N : Sl → Wl → Prop} {Z : D → Wl → Prop} {T : DT}
@[simp] theorem v_divmod : okO (fDivmod w [.int a, .int b]) P = (divOk b ∧ P (.tup [.int (a.fdiv b), .int (a.fmod b)])) := by
  show okO (if divOk b then some _ else none) P = _
  simp
@[simp] theorem v_inL : okO (fInG false w x (.lst xs)) P = ((okD x && okD (.lst xs)) = true ∧ P (.bl (xs.any fun d => eqD d x))) := by
  show okO (if _ then some _ else none) P = _
  simp
@[simp] theorem v_ninL : okO (fInG true w x (.lst xs)) P = ((okD x && okD (.lst xs)) = true ∧ P (.bl (!xs.any fun d => eqD d x))) := by
  show okO (if _ then some _ else none) P = _
  simp
theorem v_inT {ns : List Int} : fInG false w (.int a) (.tup (ns.map .int)) = some (.bl (hasI a ns)) := by
  unfold fInG
  simp
theorem v_ninT {ns : List Int} : fInG true w (.int a) (.tup (ns.map .int)) = some (.bl (!hasI a ns)) := by
  unfold fInG
  simp
@[simp] theorem okE_idx : okE (eIdx A B s w) Q = okE (A s w) fun x w1 => match x with
    | .lst ds => okE (B s w1) fun y w2 => okO (idxD ds y) fun z => Q z w2
    | _ => False := by
  unfold eIdx
  simp only [okE_bind]
  congr
  funext x w1
  cases x <;> try rfl
  simp only [okE_bind, okE_opt]
@[simp] theorem v_sorted {ns : List Int} : fSorted w [.lst (ns.map .int)] = some ((sortI ns).map .int) := by
  unfold fSorted
  simp
@[simp] theorem v_maxL {ns : List Int} : fMaxL w [.lst (ns.map .int)] = (maxI ns).map .int := by
  unfold fMaxL
  simp
@[simp] theorem v_minL {ns : List Int} : fMinL w [.lst (ns.map .int)] = (minI ns).map .int := by
  unfold fMinL
  simp
/-- a while loop: I k: at most k turns are left -/
theorem okS_while (I : Nat → Sl → Wl → Prop) : ∀ (n k : Nat) {s : Sl} {w : Wl}, k < n → I k s w → (∀ k s w, I k s w → okE (T s w) fun c w1 => if c = true then ∃ j, k = j + 1 ∧ okS (U s w1) (I j) Z else N s w1) → okS (whileD T U n s w) N Z
  | 0, k, s, w, hk, _, _ => by omega
  | n + 1, k, s, w, hk, h, hs => by
    have h1 := hs k s w h
    unfold whileD
    cases e : T s w with
    | no => rw [e] at h1; exact h1
    | er x w1 => rw [e] at h1; exact h1
    | ok c w1 =>
      rw [e] at h1
      simp only [okE_ok] at h1
      cases c with
      | false => exact h1
      | true =>
        rw [if_pos rfl] at h1
        obtain ⟨j, rfl, h2⟩ := h1
        dsimp only
        cases e2 : U s w1 with
        | nx s2 w2 => rw [e2] at h2; exact okS_while I n j (by omega) h2 hs
        | rt d w2 => rw [e2] at h2; exact h2
        | bk _ _ => rw [e2] at h2; exact h2.elim
        | ct _ _ => rw [e2] at h2; exact h2.elim
        | er _ _ _ => rw [e2] at h2; exact h2.elim
        | no => rw [e2] at h2; exact h2.elim
end
@[simp] theorem atI_0 {α : Type} {x : α} {r : List α} : atI (x :: r) 0 = some x := atI_nat (j := 0) rfl
@[simp] theorem atI_1 {α : Type} {x y : α} {r : List α} : atI (x :: y :: r) 1 = some y := atI_nat (j := 1) rfl
@[simp] theorem atI_2 {α : Type} {x y z : α} {r : List α} : atI (x :: y :: z :: r) 2 = some z := atI_nat (j := 2) rfl
/-! ### equality of plain values -/
@[simp] theorem okD_int {a : Int} : okD (.int a) = true := rfl
@[simp] theorem okD_non : okD .non = true := rfl
@[simp] theorem eqD_int {a b : Int} : eqD (.int a) (.int b) = decide (a = b) := by
  show (PyData.eqv (.int a) (.int b)) = _
  unfold PyData.eqv
  rfl
@[simp] theorem eqD_non : eqD .non .non = true := by
  show (PyData.eqv .none .none) = _
  unfold PyData.eqv
  rfl
@[simp] theorem eqD_ni {a : Int} : eqD .non (.int a) = false := by
  show (PyData.eqv .none (.int a)) = _
  unfold PyData.eqv
  rfl
@[simp] theorem eqD_in {a : Int} : eqD (.int a) .non = false := by
  show (PyData.eqv (.int a) .none) = _
  unfold PyData.eqv
  rfl
/-- tuples of ints -/
def eD (xs : List Int) : D := .tup (xs.map .int)
theorem toPDs_ints : ∀ xs : List Int, toPDs (xs.map D.int) = xs.map PyData.int
  | [] => by simp [toPDs]
  | x :: xs => by simp [toPDs, toPD, toPDs_ints xs]
theorem lay_ints : ∀ xs : List Int, PyData.canLayAll0 (xs.map PyData.int) = true ∧ PyData.depthAll (xs.map PyData.int) = 0
  | [] => by simp [PyData.canLayAll0, PyData.depthAll]
  | x :: xs => by
    have := lay_ints xs
    simp [PyData.canLayAll0, PyData.depthAll, PyData.canLay0, PyData.depth, this]
@[simp] theorem okD_ints {xs : List Int} : okD (eD xs) = true := by
  have := lay_ints xs
  simp [okD, eD, toPD, toPDs_ints, SeqAt.shaped, PyData.canLay0, PyData.depth, this]
@[simp] theorem okD_lints {xs : List Int} : okD (.lst (xs.map .int)) = true := by
  have := lay_ints xs
  simp [okD, toPD, toPDs_ints, SeqAt.shaped, PyData.canLay0, PyData.depth, this]
theorem eqvAll_ints : ∀ xs ys : List Int, PyData.eqvAll (xs.map PyData.int) (ys.map PyData.int) = decide (xs = ys)
  | [], [] => by simp [PyData.eqvAll]
  | [], y :: ys => by simp [PyData.eqvAll]
  | x :: xs, [] => by simp [PyData.eqvAll]
  | x :: xs, y :: ys => by
    have := eqvAll_ints xs ys
    have e : PyData.eqv (.int x) (.int y) = decide (x = y) := by unfold PyData.eqv; rfl
    simp [PyData.eqvAll, e, this]
@[simp] theorem eqD_ints {xs ys : List Int} : eqD (eD xs) (eD ys) = decide (xs = ys) := by
  show PyData.eqv (toPD (eD xs)) (toPD (eD ys)) = _
  simp only [eD, toPD, toPDs_ints]
  rw [show PyData.eqv (.tuple (xs.map PyData.int)) (.tuple (ys.map PyData.int)) = PyData.eqvAll (xs.map PyData.int) (ys.map PyData.int) by unfold PyData.eqv; rfl]
  exact eqvAll_ints xs ys
@[simp] theorem eqD_lints {xs ys : List Int} : eqD (.lst (xs.map .int)) (.lst (ys.map .int)) = decide (xs = ys) := by
  show PyData.eqv (toPD (.lst (xs.map .int))) (toPD (.lst (ys.map .int))) = _
  simp only [toPD, toPDs_ints]
  rw [show PyData.eqv (.list (xs.map PyData.int)) (.list (ys.map PyData.int)) = PyData.eqvAll (xs.map PyData.int) (ys.map PyData.int) by unfold PyData.eqv; rfl]
  exact eqvAll_ints xs ys
theorem any_ints {a : Int} {xs : List Int} : ((xs.map D.int).any fun d => eqD d (.int a)) = hasI a xs := by
  rw [List.any_map]
  unfold hasI
  congr 1
theorem hasI_iff {a : Int} {xs : List Int} : hasI a xs = true ↔ a ∈ xs := by
  unfold hasI
  simp
theorem idx_ints {a : Int} {xs : List Int} : idxD (xs.map .int) (.int a) = (xs.findIdx? fun b => decide (b = a)).map fun j => .int (j : Nat) := by
  unfold idxD
  simp only [okD_int, okD_lints, Bool.and_self, if_true, List.findIdx?_map]
  congr 2
/-! ### sizes of numbers -/
theorem nat_lt_pow {a : Int} {k : Nat} (h0 : 0 ≤ a) (h : a ≤ 2 ^ k) : a.natAbs < 2 ^ (k + 1) := by
  have e : (a.natAbs : Int) = a := Int.natAbs_of_nonneg h0
  have : (a.natAbs : Int) ≤ ((2 ^ k : Nat) : Int) := by rw [e]; simpa using h
  have h2 : a.natAbs ≤ 2 ^ k := by exact_mod_cast this
  have h3 : 2 ^ k < 2 ^ (k + 1) := Nat.pow_lt_pow_right (by decide) (by omega)
  omega
/-- below two to the k, either way -/
def Bt (k : Nat) (a : Int) : Prop := a.natAbs < 2 ^ k
theorem Bt.mono {i j : Nat} {a : Int} (h : Bt i a) (hij : i ≤ j) : Bt j a := Nat.lt_of_lt_of_le h (Nat.pow_le_pow_right (by decide) hij)
theorem bt_mul {i j : Nat} {a b : Int} (ha : Bt i a) (hb : Bt j b) : Bt (i + j) (a * b) := by
  unfold Bt at *
  rw [Int.natAbs_mul, Nat.pow_add]
  exact Nat.mul_lt_mul'' ha hb
theorem bt_add {i : Nat} {a b : Int} (ha : Bt i a) (hb : Bt i b) : Bt (i + 1) (a + b) := by
  unfold Bt at *
  rw [Nat.pow_succ]
  omega
theorem bt_neg {i : Nat} {a : Int} (ha : Bt i a) : Bt i (-a) := by
  unfold Bt at *
  omega
theorem bt_sub {i : Nat} {a b : Int} (ha : Bt i a) (hb : Bt i b) : Bt (i + 1) (a - b) := by
  unfold Bt at *
  rw [Nat.pow_succ]
  omega
theorem bt_of {i : Nat} {a : Int} (h1 : -(2 ^ i : Int) < a) (h2 : a < 2 ^ i) : Bt i a := by
  unfold Bt
  have : ((2 ^ i : Nat) : Int) = (2 : Int) ^ i := by simp
  omega
theorem bt_iff {i : Nat} {a : Int} : Bt i a ↔ -(2 ^ i : Int) < a ∧ a < 2 ^ i := by
  unfold Bt
  have : ((2 ^ i : Nat) : Int) = (2 : Int) ^ i := by simp
  omega
theorem mul_bt {i j : Nat} {a b : Int} (ha : Bt i a) (hb : Bt j b) (h : i + j ≤ 900000) : mulOk a b :=
  mulOk_of (i := i + 1) (j := j + 1) (Bt.mono ha (by omega)) (Bt.mono hb (by omega)) (by omega) (by omega) (by omega)
theorem div_bt {i : Nat} {b : Int} (h0 : b ≠ 0) (hb : Bt i b) (h : i ≤ 9000) : divOk b := divOk_of h0 (Bt.mono hb h)
theorem fmod_range {a n : Int} (h : 0 < n) : 0 ≤ a.fmod n ∧ a.fmod n < n := by
  rw [Int.fmod_eq_emod_of_nonneg _ (by omega)]
  exact ⟨Int.emod_nonneg _ (by omega), Int.emod_lt_of_pos _ h⟩
theorem fdiv_range {a n : Int} (h : 0 < n) (h0 : 0 ≤ a) : 0 ≤ a.fdiv n ∧ a.fdiv n ≤ a := by
  rw [Int.fdiv_eq_ediv_of_nonneg _ (by omega)]
  exact ⟨Int.ediv_nonneg h0 (by omega), Int.ediv_le_self _ h0⟩
theorem atI_of {α : Type} {l : List α} {k : Int} (h0 : 0 ≤ k) (h1 : k < l.length) : ∃ x, atI l k = some x ∧ x ∈ l := by
  obtain ⟨j, rfl⟩ := Int.eq_ofNat_of_zero_le h0
  have hj : j < l.length := by omega
  exact ⟨l[j], atI_nat (by simp [hj]), by simp⟩
theorem lim7 {n : Nat} (h : n ≤ 1000000) : n ≤ lim := Nat.le_trans h (by decide)
end DL

set_option maxHeartbeats 4000000
namespace DL
open PySem PySem.Spec PyProof.Rows L2
variable [OldT]
open Evl (Ex)
/-! ### enumerate, of a list or a tuple -/
theorem enum_new {v : Value} {o : Obj} {G : Heap → Prop} (B : Begins v o G) :
    Meets (Builtin.«enumerate.__new__» ⟨[.type "enumerate", v], []⟩) (fun _ R s => G s.heap ∧
      R (.ok (.ret (.ref (s.heap.push o).objs.size))) { s with heap := (s.heap.push o).push { cls := .type "enumerate", data := .fields #[.none, .bool false, .ref s.heap.objs.size, rawInt 0, .none, .none] } }) :=
  .of_wp fun prog w A R s hh => by
    obtain ⟨hp, ge, dr, tk, os⟩ := s
    obtain ⟨g1, hh⟩ := hh
    have sub := sub_enumerate
    have begun : ∀ {A' : Around} {E : Value → Shared → Prop} {Q : Value → Shared → Prop}, Q (.ref hp.objs.size) ⟨hp.push o, ge, dr, tk, os⟩ → wpAny (model prog w) A' (pyIter v) Q E ⟨hp, ge, dr, tk, os⟩ :=
      fun z => B.iter prog w _ _ ⟨hp, ge, dr, tk, os⟩ _ g1 z
    wp_walk using begun
    refine wpAny_stack_any fun st => wpAny_pure ?_
    split
    · rename_i c _ _ _ _ _
      cases (c == Value.type "enumerate") <;> (wp_walk using begun; exact ⟨_, rfl, hh⟩)
    · wp_walk using begun
      exact ⟨_, rfl, hh⟩
theorem enum_call {prog : Program} {w : World} {A : Around} {E : Value → Shared → Prop} {s : Shared} {v : Value} {o : Obj} {G : Heap → Prop} {Q : Value → Shared → Prop} (B : Begins v o G) (g1 : G s.heap)
    (q : ∀ h', IsEnum h' (s.heap.objs.size + 1) s.heap.objs.size 0 .none → h'.get? s.heap.objs.size = some o → (∀ b u, s.heap.get? b = some u → h'.get? b = some u) → Q (.ref (s.heap.objs.size + 1)) { s with heap := h' }) :
    wpAny (model prog w) A (call (.type "enumerate") [v]) Q E s := by
  refine callType_new F.called_enumerate (by decide) (F.typeCall_enumerate_1 _) (F.newCall_enumerate_1 _) (fun obj => F.args_object_init_2 obj _) F.entry_enumerate_new (enum_new B) ⟨g1, ?_⟩
  have sz : (s.heap.push o).objs.size = s.heap.objs.size + 1 := Heap.size_push ..
  show _ ∧ _
  rw [sz]
  have en : IsEnum ((s.heap.push o).push { cls := .type "enumerate", data := .fields #[.none, .bool false, .ref s.heap.objs.size, rawInt 0, .none, .none] }) (s.heap.objs.size + 1) s.heap.objs.size 0 .none := by
    have z := Heap.get?_push_size (s.heap.push o) (o := { cls := .type "enumerate", data := .fields #[.none, .bool false, .ref s.heap.objs.size, rawInt 0, .none, .none] }) rfl
    rw [sz] at z
    exact z
  exact ⟨⟨_, en, rfl⟩, q _ en (Heap.get?_push_of_some _ (Heap.get?_push_size _ B.free)) fun b u y => Heap.get?_push_of_some _ (Heap.get?_push_of_some _ y)⟩
section
variable {X : Cx} {pins : List (Addr × Obj)} {σ : L2.St} {H : Hp} {s : Shared}
def ItE (k : Bool) (a : Addr) : It :=
  ⟨fun i H => ∃ xs : List V, H a = some (hoK k xs) ∧ i < xs.length,
    fun i H v H' => ∃ T x, v = .ref T ∧ H T = none ∧ H' = upd H T (.tup [.int (i : Nat), x]) ∧ ∀ xs, H a = some (hoK k xs) → xs[i]? = some x,
    fun i H => ∃ xs : List V, H a = some (hoK k xs) ∧ i = xs.length⟩
theorem turn_e {P : Program} {w : World} {K : PySem.W.Frag} {elts : List Expr} {kk : Nat} {tpos : Pos} {k : Bool} {n a : Addr} (la : a < n) :
    Turn P w K (.Tuple elts kk tpos) (ItE k a) [n + 1, n] (n + 1) (fun i h => (∃ old, IsEnum h (n + 1) n (0 + (i : Int)) old) ∧ SI k h n a i) where
  mem := by simp
  obj := fun i h st c hc => by
    obtain ⟨⟨old, he⟩, h1⟩ := st
    rcases List.mem_cons.mp hc with q | q
    · rw [q]; exact ⟨_, he, fun v z => nomatch z⟩
    · rw [List.mem_singleton.mp q]; exact h1.obj
  keep := fun i h h' st k => by
    obtain ⟨⟨old, he⟩, h1⟩ := st
    exact ⟨⟨old, k _ (by simp) _ he⟩, h1.at fun o q => k _ (by simp) o q⟩
  item := by
    intro X hP hw hK hc i pins s σ H E I hf st hg
    subst hP hw hK
    obtain ⟨he, h1⟩ := st
    obtain ⟨xs, ha, hx⟩ := hg
    obtain ⟨its, rv, p, _⟩ := seqAt I ha
    have hh := I.ok.hd hc
    have na : (n + 1 : Addr) ∉ ([n, a] : List Addr) := mem2 (Nat.succ_ne_self _) (Nat.ne_of_gt (Nat.lt_succ_of_lt la))
    have W := GoesN.enumFrom (elts := elts) (x1 := kk) (pos := tpos) 0 (draws_SI (prog := X.prog) (w := X.w) (A := X.A.in1) k hh n a (Nat.ne_of_lt la) its.toArray) (n + 1) (Nat.succ_ne_self _) na List.mem_cons_self
    have l1 := rv.length
    refine thn (W.goes i s (fun v s2 => ∃ x H', Inv X pins σ H' s2 ∧ RelV x v ∧ (ItE k a).yld i H x H' ∧ ((∃ old, IsEnum s2.heap (n + 1) n (0 + ((i + 1 : Nat) : Int)) old) ∧ SI k s2.heap n a (i + 1)) ∧ ∀ c ∈ [n + 1, n], H' c = none) E (by simp; omega) ⟨he, h1, p⟩ fun v h' tk hY st' hk _ => ?_) fun r s1 q => q
    obtain ⟨T, t, u, rfl, hT, e1, hTup⟩ := hY
    obtain ⟨he', h1', _⟩ := st'
    have e1 : its[i]? = some u := by simpa using e1
    have gx : xs[i]? = some xs[i] := by simp [hx]
    obtain ⟨u', f1, r1⟩ := rv.get gx
    rw [e1] at f1
    cases f1
    have new : ObjOk X.prog X.w (upd H T (.tup [.int (i : Nat), xs[i]])) h' T (.tup [.int (i : Nat), xs[i]]) := ⟨by show 2 ≤ sizeLine; decide, [_, u], .cons ⟨t, by rw [Int.zero_add]⟩ (.cons r1 .nil), hTup⟩
    have I1 : Inv X pins σ (upd H T (.tup [.int (i : Nat), xs[i]])) { s with heap := h', toks := tk } := I.turnedNew (ch := [n + 1, n]) (fun c o hcm q => hk c o (fun m => hcm (by simpa using m)) q) hf hT new
    refine ⟨.ref T, _, I1, rfl, ⟨T, _, rfl, I.hok.fresh hT, rfl, fun l hl => ?_⟩, ⟨he', h1'⟩, fun c hcm => ?_⟩
    · rw [ha] at hl
      rw [← hoK_inj (Option.some.inj hl)]
      exact gx
    · have hlt : c < s.heap.objs.size := by
        rcases List.mem_cons.mp hcm with q | q
        · obtain ⟨old, he⟩ := he
          rw [q]; exact Heap.lt_size he
        · rw [List.mem_singleton.mp q]; obtain ⟨_, e, _⟩ := h1.obj; exact Heap.lt_size e
      rw [upd_ne (Nat.ne_of_lt (Nat.lt_of_lt_of_le hlt hT))]
      exact (hf c hcm).1
  done := by
    intro X hP hw hK hc i pins s σ H E I hf st hg
    subst hP hw hK
    obtain ⟨he, h1⟩ := st
    obtain ⟨xs, ha, hi⟩ := hg
    obtain ⟨its, rv, p, _⟩ := seqAt I ha
    have hh := I.ok.hd hc
    have na : (n + 1 : Addr) ∉ ([n, a] : List Addr) := mem2 (Nat.succ_ne_self _) (Nat.ne_of_gt (Nat.lt_succ_of_lt la))
    have W := GoesN.enumFrom (elts := elts) (x1 := kk) (pos := tpos) 0 (draws_SI (prog := X.prog) (w := X.w) (A := X.A.in1) k hh n a (Nat.ne_of_lt la) its.toArray) (n + 1) (Nat.succ_ne_self _) na List.mem_cons_self
    have l1 := rv.length
    have ei : i = its.toArray.size := by simp; omega
    rw [ei] at he h1
    exact W.stops s _ E ⟨he, h1, p⟩ fun h' tk hk _ => I.turnedL (ch := [n + 1, n]) (fun c o hcm q => hk c o (fun m => hcm (by simpa using m)) q) hf
  self := fun A i s Q E st h => by
    obtain ⟨⟨old, he⟩, _⟩ := st
    exact wpAny_pyIter_enum he h
def iE (k : Bool) (ta : TA) : TI := fun σ H R => ta σ H fun vs H1 => ∃ a xs, vs = [.ref a] ∧ H1 a = some (hoK k xs) ∧ R (ItE k a) H1
theorem pi_e {e : Expr} {ta : TA} {p pos tpos : Pos} {elts : List Expr} {kk : Nat} (k : Bool) (hg : Gl X "enumerate") (hm : X.mg "enumerate" = none) (ha : PA X [e] ta) (hs : starEach [e] X.env = [(false, eval e X.env)] := by rfl) :
    PI X (.Tuple elts kk tpos) (.Call (.Name "enumerate" p) [e] [] pos) (iE k ta) := by
  refine ⟨fun pins s σ H R I h => ?_⟩
  refine Call_ (ld_blt I hg hm boot_enumerate (PyProof.Rows.callWith_type1 (thn (ha.run pos pins s σ H _ I h) fun us s1 z => ?_) hs rfl))
  obtain ⟨vs, H1, I1, r1, a, xs, ex, hx, q⟩ := z
  subst ex
  cases r1 with
  | cons r rr =>
    cases rr
    cases r
    obtain ⟨its, rv, p', la⟩ := seqAt I1 hx
    refine enum_call (begins_SI k a its.toArray) p' fun h' he hit hk => wpAny_pyIter_enum he ?_
    have I2 : Inv X pins σ H1 { s1 with heap := h' } := I1.kept (t' := s1.toks) hk
    refine ⟨s1.heap.objs.size + 1, [s1.heap.objs.size + 1, s1.heap.objs.size], _, _, H1, rfl, I2, turn_e la, ⟨⟨.none, he⟩, SI.new hit⟩, fun b hb => ?_, q⟩
    have hle : s1.heap.objs.size ≤ b := by
      rcases List.mem_cons.mp hb with z | z
      · rw [z]; exact Nat.le_succ _
      · rw [List.mem_singleton.mp z]; exact Nat.le_refl _
    exact I1.fpOk hle (I1.hok.fresh hle)
end
section
variable {X : Cx} {W : WX} {tg a : Expr} {pos : Pos} {wa : Addr} {Hf : Hp} {mg : Str → Option Value}
theorem walkD_e {k : Bool} {p : Addr} {vs : List V} {ds : List D} (h : Hf p = some (hoK k vs)) (r : Reps wa Hf vs ds) : WalkD wa Hf (ItE k p) (enumD ds) :=
  ⟨fun i H hi x => by
    have hi' : i < vs.length := by rw [r.length]; simpa [enumD] using hi
    exact ⟨vs, x _ _ h, hi'⟩, fun H x => ⟨vs, x _ _ h, by simp [enumD, r.length]⟩, fun i H Hf1 w y H' d hd x b q => by
    obtain ⟨T, z, rfl, hT, rfl, q⟩ := q
    unfold enumD at hd
    rw [List.getElem?_map, List.getElem?_zipIdx] at hd
    cases e : ds[i]? with
    | none => rw [e] at hd; cases hd
    | some d1 =>
      rw [e] at hd
      cases hd
      obtain ⟨v, e1, r1⟩ := (r.mono x).get e
      have e2 := q vs (b.ex _ _ (x _ _ h))
      rw [e1] at e2
      cases e2
      rw [Nat.zero_add]
      exact ⟨_, Go.newF b.ex hT, b.newF hT, .tup upd_same (.cons (.int _) (.cons (r1.mono (Ex.new (Evl.fresh_back b.ex hT))) .nil))⟩⟩
def iEnumS (As : DA) : DI := fun s w => (As s w).bind fun xs w1 => match xs with
  | [x] => match seqD x with
    | some (_, ds) => .ok (enumD ds) w1
    | none => .no
  | _ => .no
theorem id_enumS {As : DA} {p tpos : Pos} {elts : List Expr} {kk : Nat} (hg : Gl X "enumerate") (hm : X.mg "enumerate" = none) (ha : PA X [a] (lA mg W As)) (hs : starEach [a] X.env = [(false, eval a X.env)] := by rfl) : PI X (.Tuple elts kk tpos) (.Call (.Name "enumerate" p) [a] [] pos) (lI mg W (iEnumS As)) := weakI (anyI fun k : Bool => pi_e k hg hm ha hs) fun σ H Q h => by
  obtain ⟨wa, Hf, sD, w, hb, hs, h⟩ := h
  unfold iEnumS at h
  cases ea : As sD w with
  | ok xs w1 =>
    rw [ea, R.bind_ok] at h
    split at h
    · rename_i x
      split at h
      · rename_i k ds e1
        refine ⟨k, wa, Hf, sD, w, hb, hs, ?_⟩
        rw [ea]
        intro H1 Hf1 g b v rv
        cases rv with
        | cons r1 r2 =>
          cases r2
          obtain ⟨p1, vs, rfl, h1, s1⟩ := seqD_rep r1 e1
          exact ⟨p1, vs, rfl, b.ex _ _ h1, h H1 Hf1 g b _ (walkD_e h1 s1)⟩
      · exact h.elim
    · exact h.elim
  | er x w1 =>
    rw [ea] at h
    refine ⟨true, wa, Hf, sD, w, hb, hs, ?_⟩
    rw [ea]
    exact h
  | no => rw [ea] at h; exact h.elim
def enmSD : List D → Option (List D)
  | [x] => (seqD x).map fun p => enumD p.2
  | _ => none
@[simp] theorem okI_enumS {As : DA} {s : Sl} {w : Wl} {QA : List D → Wl → Prop} : okE (iEnumS As s w) QA = okE (As s w) fun xs w1 => okO (enmSD xs) fun ds => QA ds w1 := by
  unfold iEnumS; simp only [okE_bind]; congr; funext xs w1
  rcases xs with _ | ⟨x, _ | ⟨y, xs⟩⟩ <;> try rfl
  show okE (match seqD x with | some (_, ds) => R.ok (enumD ds) w1 | none => R.no) QA = okO ((seqD x).map fun p => enumD p.2) _
  cases seqD x <;> rfl
end
end DL

set_option maxHeartbeats 2000000
namespace DL
open PySem PySem.Spec PyProof.Rows L2
variable [OldT]
open Evl (Ex)
/-! ### a slice of a list from a number on, by steps -/
/-- the numbers that are taken of so many -/
def stepI (n : Nat) (lo k : Int) : List Nat := sliceRange (sliceBounds (some lo) none (some k) n).1 (sliceBounds (some lo) none (some k) n).2.1 (sliceBounds (some lo) none (some k) n).2.2
def stepL {α : Type} (xs : List α) (lo k : Int) : List α := (stepI xs.length lo k).filterMap fun i => xs[i]?
theorem vals_pick {xs : List V} {us : List Value} (r : Vals xs us) : ∀ ix : List Nat, Vals (ix.filterMap fun i => xs[i]?) (ix.filterMap fun i => us[i]?)
  | [] => .nil
  | i :: ix => by
    cases e : xs[i]? with
    | none =>
      rw [List.filterMap_cons_none e, List.filterMap_cons_none (r.none_of e)]
      exact vals_pick r ix
    | some x =>
      obtain ⟨u, h1, h2⟩ := r.get e
      rw [List.filterMap_cons_some e, List.filterMap_cons_some h1]
      exact .cons h2 (vals_pick r ix)
theorem reps_pick {wa : Addr} {Hf : Hp} {vs : List V} {ds : List D} (r : Reps wa Hf vs ds) : ∀ ix : List Nat, Reps wa Hf (ix.filterMap fun i => vs[i]?) (ix.filterMap fun i => ds[i]?)
  | [] => .nil
  | i :: ix => by
    have hl := r.length
    cases e : ds[i]? with
    | none =>
      have e2 : vs[i]? = none := by
        rw [List.getElem?_eq_none_iff] at e ⊢
        omega
      rw [List.filterMap_cons_none e, List.filterMap_cons_none e2]
      exact reps_pick r ix
    | some x =>
      obtain ⟨u, h1, h2⟩ := r.get e
      rw [List.filterMap_cons_some e, List.filterMap_cons_some h1]
      exact .cons h2 (reps_pick r ix)
theorem stepI_le {n : Nat} {lo k : Int} (hk : 0 < k) : (stepI n lo k).length ≤ n := by
  unfold stepI
  refine sliceRange_length_le _ _ _ n (fun _ => ?_) (fun h => ?_)
  · unfold sliceBounds
    simp only [Option.getD_some, if_pos hk]
    exact ⟨Int.le_max_left _ _, Int.le_refl _⟩
  · exfalso
    apply h
    unfold sliceBounds
    simp only [Option.getD_some]
    exact hk
theorem stepL_le {α : Type} {xs : List α} {lo k : Int} (hk : 0 < k) : (stepL xs lo k).length ≤ xs.length := Nat.le_trans (List.length_filterMap_le _ _) (stepI_le hk)
def tStepL (K : PySem.W.Frag) (te : TE) (tl tm : TO) : TE := fun σ H Q => te σ H fun x H1 => tl σ H1 fun l H2 => tm σ H2 fun m H3 => ∃ a xs i k, x = .ref a ∧ SqL K H3 a xs ∧ l = some i ∧ m = some k ∧ 0 < k ∧ ∀ p, H3 p = none → Q (.ref p) (upd H3 p (.lst (stepL xs i k)))
section
variable {X : Cx} {mg : Str → Option Value} {W : WX} {a e : Expr} {pos : Pos} {σ : L2.St} {H : Hp} {wa : Addr} {Hf : Hp} {A : DE}
theorem pe_stepL {te : TE} {tl tm : TO} {lo st : Expr} {p3 : Pos} (he : PE X e te) (hl : PO X (some lo) tl) (hm : PO X (some st) tm) : PE X (.Subscript e (.Slice (some lo) none (some st) p3) pos) (tStepL X.K te tl tm) := by
  refine ⟨fun pins s σ H Q I h => ?_⟩
  refine Subscript_ (thn (he.run pins s σ H _ I h) fun v s1 ⟨x, H1, I1, r1, q1⟩ => ?_)
  refine wpAny_Slice (thn (hl.run pins s1 σ H1 _ I1 q1) fun vl s2 ⟨l, H2, I2, pl, q2⟩ => ?_)
  refine thn (po_none.run pins s2 σ H2 (fun o H3 => o = none ∧ H3 = H2) I2 ⟨rfl, rfl⟩) fun vu s3 ⟨u, H3, I3, pu, eu, e3⟩ => ?_
  subst eu e3
  refine thn (hm.run pins s3 σ _ _ I3 q2) fun vs s4 ⟨o, H4, I4, ps, q4⟩ => ?_
  obtain ⟨a, xs, i, k, ex, hx, el, em, hk, q⟩ := q4
  subst ex el em
  cases r1
  have I5 : Inv X pins σ H4 { s4 with heap := s4.heap.push { cls := .type "slice", data := .fields #[vl, vu, vs] } } := I4.kept (t' := s4.toks) fun b ob q => Heap.get?_push_of_some _ q
  obtain ⟨its, r, ht, hz⟩ := I5.list hx
  have hlen := r.length
  show wpAny (model X.prog X.w) X.A (subscriptTail e (.Slice (some lo) none (some st) p3) (.ref a) (.ref s4.heap.objs.size)) (EP X pins σ Q) X.xe { s4 with heap := s4.heap.push { cls := .type "slice", data := .fields #[vl, vu, vs] } }
  refine tail_any (ops := [.ref a, .ref s4.heap.objs.size]) ht.isList.typeIs (PySem.slot_list_getitem.lookup) ?_ (by with_unfolding_all rfl)
  refine wpAny_getItem_list_slice ht.isList (Heap.IsSliceOf.new _ vl vu vs) pl pu ps (fun z => by cases z; omega) ?_ (by rw [List.size_toArray]; omega)
  have hp : slicePick its.toArray (some i) none (some k) = (stepL its i k).toArray := by
    unfold slicePick stepL stepI
    simp
  rw [hp]
  refine ⟨.ref _, _, I5.laid (t' := s4.toks) (o := .lst (stepL xs i k)) (fun b ob q => Heap.get?_push_of_some _ q) (Nat.le_refl _) ?_, rfl, q _ (I5.hok.fresh (Nat.le_refl _))⟩
  refine ⟨Nat.le_trans (stepL_le hk) hz, stepL its i k, 0, ?_, Heap.get?_push_size _ rfl⟩
  unfold stepL
  rw [hlen]
  exact vals_pick r _
def eSt (A : DE) (L M : Sl → Wl → R (Option Int)) : DE := fun s w => (A s w).bind fun x w1 => (L s w1).bind fun l w2 => (M s w2).bind fun m w3 => match x, l, m with
  | .lst xs, some i, some k => if 0 < k then .ok (.lst (stepL xs i k)) w3 else .no
  | _, _, _ => .no
theorem pd_st {lo st : Expr} {p2 : Pos} {L M : Sl → Wl → R (Option Int)} (ha : PE X a (lE mg W A)) (hl : PO X (some lo) (lO mg W L)) (hm : PO X (some st) (lO mg W M)) : PE X (.Subscript a (.Slice (some lo) none (some st) p2) pos) (lE mg W (eSt A L M)) :=
  weakE (pe_stepL ha hl hm) fun σ H Q h => by
  obtain ⟨wa, Hf, sD, w, hb, hs, h⟩ := h
  refine ⟨wa, Hf, sD, w, hb, hs, h.bind.mono (fun x w1 H1 Hf1 g1 b1 q v rv => ?_) (fun _ _ _ _ _ _ q => q)⟩
  refine ⟨wa, Hf1, sD, w1, b1, hs.go g1, q.bind.mono (fun y w2 H2 Hf2 g2 b2 q2 v2 rv2 => ?_) (fun _ _ _ _ _ _ q => q)⟩
  refine ⟨wa, Hf2, sD, w2, b2, (hs.go g1).go g2, q2.bind.mono (fun z w3 H3 Hf3 g3 b3 q3 v3 rv3 => ?_) (fun _ _ _ _ _ _ q => q)⟩
  cases rv2
  cases rv3
  split at q3
  · split at q3
    · rename_i hk
      cases rv with
      | lst h1 r1 =>
        refine ⟨_, _, _, _, rfl, SqL.of (b3.ex _ _ (g3.ex _ _ (g2.ex _ _ h1))), rfl, rfl, hk, fun p hp => ?_⟩
        have r3 := (r1.mono g2.ex).mono g3.ex
        have e1 := Evl.fresh_back b3.ex hp
        refine q3 _ _ (Go.newF b3.ex hp) (b3.newF hp) _ (.lst upd_same ?_)
        unfold stepL
        rw [r3.length]
        exact (reps_pick r3 _).mono (Ex.new e1)
    · exact q3.elim
  · exact q3.elim
end
@[simp] theorem okE_st {A : DE} {L M : Sl → Wl → R (Option Int)} {s : Sl} {w : Wl} {Q : D → Wl → Prop} : okE (eSt A L M s w) Q = okE (A s w) fun x w1 => okE (L s w1) fun l w2 => okE (M s w2) fun m w3 => match x, l, m with
    | .lst xs, some i, some k => 0 < k ∧ Q (.lst (stepL xs i k)) w3
    | _, _, _ => False := by
  unfold eSt
  simp only [okE_bind]
  congr; funext x w1; congr; funext l w2; congr; funext m w3
  cases x <;> cases l <;> cases m <;> try rfl
  rename_i xs i k
  show okE (if 0 < k then R.ok (D.lst (stepL xs i k)) w3 else .no) Q = _
  by_cases h : 0 < k
  · rw [if_pos h]; simp [okE, h]
  · rw [if_neg h]; simp [okE, h]
end DL

set_option maxHeartbeats 2000000
namespace DL
open PySem PySem.Spec PyProof.Rows L2
variable [OldT]
open Evl (Ex)
/-! ### sum(lists, a list) -/
theorem args_sum2 (a b : Value) : argsOk "sum" ⟨[a, b], []⟩ := by unfold argsOk; kernel_rfl
theorem sub_lbs : isSubtype (.type "list") (.type "bytes") = pure false := by rw [isSubtype_type]; kernel_rfl
theorem sub_lba : isSubtype (.type "list") (.type "bytearray") = pure false := by rw [isSubtype_type]; kernel_rfl
theorem sub_lst : isSubtype (.type "list") (.type "str") = pure false := by rw [isSubtype_type]; kernel_rfl
/-- what is summed of so many -/
def accL (start : List Value) (its : Nat → List Value) (i : Nat) : List Value := start ++ (List.range i).flatMap its
theorem accL_succ {start : List Value} {its : Nat → List Value} {i : Nat} : accL start its (i + 1) = accL start its i ++ its i := by
  unfold accL
  rw [List.range_succ, List.flatMap_append, List.append_assoc]
  simp
section
variable {prog : Program} {w : World} {A : Around} {R : Result → Shared → Prop}
theorem sum_loopL (hh : A.in1.handled = none) {I l S : Addr} (hne : l ≠ I) (hSI : S ≠ I) (hSl : S ≠ l) (items : Array Value) {start : List Value} {its : Nat → List Value} {h0 : Heap}
    (hval : ∀ i v, items[i]? = some v → ∃ b c, v = .ref b ∧ b ≠ I ∧ b ≠ S ∧ IsL h0 b (its i).toArray c) (hz : ∀ i, i ≤ items.size → (accL start its i).length ≤ sizeLine) :
    ∀ (k i : Nat) (s : Shared) (T : Addr) (c cT : Nat), items.size - i = k → i ≤ items.size → s.heap.IsListIter I l i → s.heap.IsList l items → (∀ b o, b ≠ I → b ≠ S → h0.get? b = some o → s.heap.get? b = some o) →
    s.heap.get? S = some { cls := .type "list", dict := none, data := .seq #[.ref T] c, slots := #[] } → T ≠ I → T ≠ S → IsL s.heap T (accL start its i).toArray cT →
    (∀ h' tk T' c', (∀ b o, b ≠ I → b ≠ S → s.heap.get? b = some o → h'.get? b = some o) → IsL h' T' (accL start its items.size).toArray c' → (T' = T ∧ i = items.size ∨ s.heap.get? T' = none) → R (.ok (.ret (.ref T'))) { s with heap := h', toks := tk }) →
    codeAny (model prog w) A (.builtin "sum.loop" ⟨[.ref I, .ref S, rawInt 2, rawInt 0], []⟩) R s := by
  have W := Walks.list (prog := prog) (w := w) (A := A.in1) hh I l hne items
  intro k
  induction k with
  | zero =>
    intro i s T c cT hk hi hit hl hkp hS hTI hTS hT hR
    have hin : i = items.size := by omega
    subst hin
    refine codeAny_builtin F.entry_sum_loop ?_
    rw [Around.under_plainId F.plain_sum_loop _]
    show wpAny _ A.in1 (seqItems? (.ref S) >>= _) _ _ s
    refine wpAny_bind (wpAny_seqItems hS rfl ?_)
    show wpAny _ A.in1 (tryCatch (pyNext (.ref I)) _ >>= _) _ _ s
    refine wpAny_bind (wpAny_tryCatch (W.done s _ _ ⟨hit, hl⟩ fun h' tk hk' => ?_))
    have hk2 : ∀ b o, b ≠ I → s.heap.get? b = some o → h'.get? b = some o := fun b o hb e => hk' b o (fun z => hb (List.mem_singleton.mp z)) e
    exact wpAny_pure (hR h' tk T cT (fun b o hb _ e => hk2 b o hb e) (hk2 T _ hTI hT) (.inl ⟨rfl, rfl⟩))
  | succ k ih =>
    intro i s T c cT hk hi hit hl hkp hS hTI hTS hT hR
    have hlt : i < items.size := by omega
    refine codeAny_builtin F.entry_sum_loop ?_
    rw [Around.under_plainId F.plain_sum_loop _]
    show wpAny _ A.in1 (seqItems? (.ref S) >>= _) _ _ s
    refine wpAny_bind (wpAny_seqItems hS rfl ?_)
    show wpAny _ A.in1 (tryCatch (pyNext (.ref I)) _ >>= _) _ _ s
    refine wpAny_bind (wpAny_tryCatch (W.item i s _ _ hlt ⟨hit, hl⟩ fun v h' tk hP hst' hk' => ?_))
    have hk2 : ∀ b o, b ≠ I → s.heap.get? b = some o → h'.get? b = some o := fun b o hb e => hk' b o (fun z => hb (List.mem_singleton.mp z)) e
    obtain ⟨b, cb, rfl, hbI, hbS, hb⟩ := hval i v hP
    have hS' := hk2 S _ hSI hS
    have hT' := hk2 T _ hTI hT
    have hb' := hk2 b _ hbI (hkp b _ hbI hbS hb)
    have hacc : (accL start its i).toArray ++ (its i).toArray = (accL start its (i + 1)).toArray := by rw [accL_succ]; simp
    have hzz : (accL start its i).toArray.size + (its i).toArray.size ≤ sizeLine := by
      have := hz (i + 1) hlt
      rw [accL_succ, List.length_append] at this
      simpa using this
    show wpAny _ A.in1 ((holding [Value.ref b] (binaryOp .Add (.ref T) (.ref b))).attempt >>= _) _ _ _
    refine wpAny_bind (wpAny_attempt (wpAny_holding (PySem.P.add_list (s := { s with heap := h', toks := tk }) hT' hb' ?_ hzz)))
    rw [hacc]
    obtain ⟨h1, hh1⟩ : ∃ h1, h1 = h'.push { cls := .type "list", data := .seq (accL start its (i + 1)).toArray } := ⟨_, rfl⟩
    have k1 : ∀ b o, h'.get? b = some o → h1.get? b = some o := fun b o e => by rw [hh1]; exact Heap.get?_push_of_some _ e
    have hN : h1.get? h'.objs.size = some { cls := .type "list", data := .seq (accL start its (i + 1)).toArray } := by rw [hh1]; exact Heap.get?_push_size _ rfl
    have hNI : h'.objs.size ≠ I := by
      obtain ⟨o, ho, _⟩ := hst'.1
      exact Ne.symm (Nat.ne_of_lt (Heap.lt_size ho))
    have hNS : h'.objs.size ≠ S := Ne.symm (Nat.ne_of_lt (Heap.lt_size hS'))
    have hS1 := k1 S _ hS'
    show wpAny _ A.in1 (updateSeq S (fun _ => #[.ref h'.objs.size]) >>= _) _ _ { s with heap := h'.push { cls := .type "list", data := .seq (accL start its (i + 1)).toArray }, toks := tk }
    rw [← hh1]
    refine wpAny_bind ?_
    refine wpAny_updateSeq hS1 rfl ?_
    have hS2 := Heap.get?_update_self (Obj.mapSeq fun _ => #[Value.ref h'.objs.size]) hS1 rfl
    refine wpAny_bind (wpAny_letGo ?_)
    refine wpAny_bind ?_
    have k2 : ∀ b o, b ≠ S → h1.get? b = some o → ((h1.update S (Obj.mapSeq fun _ => #[Value.ref h'.objs.size])).update S (Obj.mapSeq fun _ => #[Value.ref h'.objs.size])).get? b = some o := fun b o hb e =>
      (Heap.get?_update_other _ _ (Ne.symm hb)).trans ((Heap.get?_update_other _ _ (Ne.symm hb)).trans e)
    have key : ∀ (b o), b ≠ I → b ≠ S → s.heap.get? b = some o → ((h1.update S (Obj.mapSeq fun _ => #[Value.ref h'.objs.size])).update S (Obj.mapSeq fun _ => #[Value.ref h'.objs.size])).get? b = some o := fun b o b1 b2 e => k2 b o b2 (k1 b o (hk2 b o b1 e))
    refine wpAny_updateSeq hS2 rfl (wpAny_pure ⟨plainId_quiet F.plain_sum_loop _, ih (i + 1) _ h'.objs.size _ 0 (by omega) hlt (hst'.1.at fun o e => k2 I o (Ne.symm hSI) (k1 I o e)) (hst'.2.at fun o e => k2 l o (Ne.symm hSl) (k1 l o e)) (fun b o b1 b2 e => key b o b1 b2 (hkp b o b1 b2 e)) (Heap.get?_update_self _ hS2 rfl) hNI hNS (k2 _ _ hNS hN) fun h'' tk'' T'' c'' hk'' hT'' hn'' => ?_⟩)
    refine hR h'' tk'' T'' c'' (fun b o b1 b2 e => hk'' b o b1 b2 (key b o b1 b2 e)) hT'' (.inr ?_)
    have hnone : ∀ z : Addr, h'.get? z = none → z ≠ I → s.heap.get? z = none := fun z hz2 hzI => by
      cases e : s.heap.get? z with
      | none => rfl
      | some o =>
        have := hk2 z o hzI e
        rw [hz2] at this
        cases this
    rcases hn'' with ⟨e1, _⟩ | e1
    · rw [e1]
      refine hnone _ ?_ hNI
      cases e : h'.get? h'.objs.size with
      | none => rfl
      | some o => exact absurd (Heap.lt_size e) (Nat.lt_irrefl _)
    · cases e : s.heap.get? T'' with
      | none => rfl
      | some o =>
        exfalso
        have e1' : ((h1.update S (Obj.mapSeq fun _ => #[Value.ref h'.objs.size])).update S (Obj.mapSeq fun _ => #[Value.ref h'.objs.size])).get? T'' = none := e1
        by_cases hTI' : T'' = I
        · obtain ⟨o', ho', _⟩ := hst'.1
          have := k2 I o' (Ne.symm hSI) (k1 I o' ho')
          rw [← hTI', e1'] at this
          cases this
        · by_cases hTS' : T'' = S
          · have := Heap.get?_update_self (Obj.mapSeq fun _ => #[Value.ref h'.objs.size]) hS2 rfl
            rw [hTS', this] at e1'
            cases e1'
          · have := key T'' o hTI' hTS' e
            rw [e1'] at this
            cases this
end
theorem ltn {h : Heap} {a : Addr} {o : Obj} (e : h.get? a = some o) : @LT.lt Nat instLTNat a h.objs.size := Heap.lt_size e
section
variable {prog : Program} {w : World} {A : Around} {E : Value → Shared → Prop} {s : Shared}
theorem call_sum_lists (hh : A.in1.handled = none) {l b : Addr} {items : Array Value} {start : List Value} {cb : Nat} {its : Nat → List Value} {Q : Value → Shared → Prop} (hl : s.heap.IsList l items) (hb : IsL s.heap b start.toArray cb)
    (hval : ∀ i v, items[i]? = some v → ∃ b c, v = .ref b ∧ IsL s.heap b (its i).toArray c) (hz : ∀ i, i ≤ items.size → (accL start its i).length ≤ sizeLine)
    (h : ∀ h' tk T c, (∀ a o, s.heap.get? a = some o → h'.get? a = some o) → IsL h' T (accL start its items.size).toArray c → (T = b ∧ items.size = 0 ∨ s.heap.get? T = none) → Q (.ref T) { s with heap := h', toks := tk }) :
    wpAny (model prog w) A (call (.builtin "sum") [.ref l, .ref b]) Q E s := by
  refine call_function_tree F.kind_sum F.plain_sum F.entry_sum (args_sum2 _ _) ?_
  unfold Builtin.«sum»
  simp only [List.length_cons, List.length_nil]
  rw [if_neg (by decide)]
  refine wpAny_bind (wpAny_of_eq (show Builtin.Builtins.bindParams "sum" ["start"] 0 ⟨[.ref b], []⟩ = pure [some (.ref b)] from rfl) ?_)
  refine wpAny_bind (wpAny_pyIter_list hl ?_)
  refine wpAny_bind (wpAny_pure ?_)
  have hlt : @LT.lt Nat instLTNat l s.heap.objs.size := by obtain ⟨o, e, _⟩ := hl; exact Heap.lt_size e
  have hbt := ltn hb
  obtain ⟨h1, hh1⟩ : ∃ h1, h1 = s.heap.push { cls := .type "list_iterator", data := .fields #[.ref l, .int 0 0] } := ⟨_, rfl⟩
  have k1 : ∀ a o, s.heap.get? a = some o → h1.get? a = some o := fun a o e => by rw [hh1]; exact Heap.get?_push_of_some _ e
  have z1 : h1.objs.size = s.heap.objs.size + 1 := by rw [hh1]; exact Heap.size_push ..
  have hit : h1.IsListIter s.heap.objs.size l 0 := by rw [hh1]; exact ⟨_, Heap.get?_push_size _ rfl, rfl, rfl⟩
  have hb1 := k1 b _ hb
  have hTy : ({ s with heap := h1 } : Shared).TypeIs (.ref b) "list" := ⟨_, hb1, rfl⟩
  rw [← hh1]
  simp only [List.forIn_cons, List.forIn_nil]
  refine wpAny_bind (wpAny_bind (wpAny_bind (wpAny_isInstance (T := "list") (b := false) hTy sub_lst ?_)))
  simp only [Bool.false_eq_true, if_false]
  refine wpAny_pure (wpAny_bind (wpAny_bind (wpAny_isInstance (T := "list") (b := false) hTy sub_lbs ?_)))
  simp only [Bool.false_eq_true, if_false]
  refine wpAny_pure (wpAny_bind (wpAny_bind (wpAny_isInstance (T := "list") (b := false) hTy sub_lba ?_)))
  simp only [Bool.false_eq_true, if_false]
  refine wpAny_pure (wpAny_pure ?_)
  refine wpAny_bind (wpAny_newObj_type ?_)
  have hS9 : ∀ a : Addr, @LT.lt Nat instLTNat a s.heap.objs.size → a ≠ h1.objs.size := fun a q => by rw [z1]; exact Nat.ne_of_lt (Nat.lt_succ_of_lt q)
  have hSI : h1.objs.size ≠ s.heap.objs.size := by rw [z1]; exact Nat.succ_ne_self _
  have hSl : h1.objs.size ≠ l := Ne.symm (hS9 l hlt)
  refine wpAny_pure ⟨plainId_quiet F.plain_sum_loop _, sum_loopL hh (I := s.heap.objs.size) (l := l) (S := h1.objs.size) (Nat.ne_of_lt hlt) hSI hSl items (start := start) (its := its) (h0 := s.heap) (fun i v hv => ?_) hz items.size 0 _ b 0 cb rfl (Nat.zero_le _)
    (hit.at fun o e => Heap.get?_push_of_some _ e) (hl.at fun o e => Heap.get?_push_of_some _ (k1 _ o e)) (fun a o _ _ e => Heap.get?_push_of_some _ (k1 a o e)) (Heap.get?_push_size _ rfl) (Nat.ne_of_lt hbt) (hS9 b hbt) ?_ fun h' tk T' c' hk hT' hn => ?_⟩
  · obtain ⟨b', c, e1, e2⟩ := hval i v hv
    have := ltn e2
    exact ⟨b', c, e1, Nat.ne_of_lt this, hS9 b' this, e2⟩
  · show IsL _ b (accL start its 0).toArray cb
    have : accL start its 0 = start := by simp [accL]
    rw [this]
    exact Heap.get?_push_of_some _ hb1
  · refine h h' tk T' c' (fun a o e => hk a o (Nat.ne_of_lt (Heap.lt_size e)) (hS9 a (ltn e)) (Heap.get?_push_of_some _ (k1 a o e))) hT' ?_
    rcases hn with ⟨e1, e2⟩ | e
    · exact .inl ⟨e1, e2.symm⟩
    · refine .inr ?_
      cases e3 : s.heap.get? T' with
      | none => rfl
      | some o =>
        have := Heap.get?_push_of_some { cls := .type "list", data := .seq #[.ref b] } (k1 T' o e3)
        rw [this] at e
        cases e
end
/-! ### the rule -/
theorem objok_some {P : Program} {w : World} {H : Hp} {h : Heap} {a : Addr} {o : HO} (x : ObjOk P w H h a o) : ∃ u, h.get? a = some u := by
  cases o with
  | lst xs => obtain ⟨_, _, _, _, e⟩ := x; exact ⟨_, e⟩
  | tup xs => obtain ⟨_, _, _, p⟩ := x; exact ⟨_, p.choose_spec.1⟩
  | dK kvs => obtain ⟨_, _, _, _, o, _, _, e, _⟩ := x; exact ⟨_, e⟩
  | dT kvs => obtain ⟨_, _, _, _, o, _, _, e, _⟩ := x; exact ⟨_, e⟩
  | set S n => obtain ⟨o, _, _, _, e, _⟩ := x; exact ⟨_, e⟩
  | ins C dx fs => obtain ⟨_, _, _, e, _⟩ := x; exact ⟨_, e⟩
  | own y => obtain ⟨_, e⟩ := x; exact ⟨_, e⟩
  | xd fs => obtain ⟨_, ⟨_, _, _, e, _⟩, _⟩ := x; exact ⟨_, e⟩
  | rng lo hi => obtain ⟨_, _, _, e⟩ := x; exact ⟨_, e⟩
  | frz ob u => obtain ⟨e, _⟩ := x; exact ⟨_, e⟩
  | tbl ps => exact ⟨_, show h.get? a = some _ from x⟩
  | met f y => exact ⟨_, show h.get? a = some _ from x⟩
  | ext φ => obtain ⟨_, ⟨_, e⟩, _⟩ := x; exact ⟨_, e⟩
def rSumL : List V → Hp → VK → Prop := fun vs H Q => ∃ (a b : Addr) (ps : List V) (zss : List (List V)), vs = [.ref a, .ref b] ∧ H a = some (.lst ps) ∧ H b = some (.lst []) ∧ ps.length = zss.length ∧ (∀ (i : Nat) (v : V), ps[i]? = some v → ∃ p, v = .ref p ∧ H p = some (.lst (zss.getD i []))) ∧ zss.flatten.length ≤ sizeLine ∧
  (ps = [] → Q (.ref b) H) ∧ ∀ p, H p = none → Q (.ref p) (upd H p (.lst zss.flatten))
theorem vals_acc {f : Nat → List Value} {zss : List (List V)} (h : ∀ i, i < zss.length → Vals (zss.getD i []) (f i)) : ∀ n, n ≤ zss.length → Vals ((zss.take n).flatten) (accL [] f n)
  | 0, _ => .nil
  | n + 1, hn => by
    have hlt : n < zss.length := hn
    rw [accL_succ, List.take_succ, List.getElem?_eq_getElem hlt, List.flatten_append]
    refine (vals_acc h n (Nat.le_of_succ_le hn)).append ?_
    have := h n hlt
    rw [List.getD_eq_getElem?_getD, List.getElem?_eq_getElem hlt] at this
    simpa using this
theorem take_len {zss : List (List V)} (n : Nat) : (zss.take n).flatten.length ≤ zss.flatten.length := by
  conv => rhs; rw [← List.take_append_drop n zss, List.flatten_append, List.length_append]
  omega
theorem cr_sumL {X : Cx} (hc : X.calm = true) : CallR X (.builtin "sum") rSumL := by
  intro pins s σ H vs us Q I r h
  obtain ⟨a, b, ps, zss, rfl, ha, hb, hlen, hps, hz, q0, q⟩ := h
  obtain ⟨za, its, na, ra, hla, ea⟩ := I.lstM ha
  obtain ⟨zb, itb, nb, rb, hlb, eb⟩ := I.lstM hb
  have hb0 : itb = [] := by cases rb; rfl
  subst hb0
  have hus : us = [.ref a, .ref b] := by
    cases r with
    | cons r1 t =>
      cases t with
      | cons r2 t2 =>
        cases t2
        cases r1
        cases r2
        rfl
  subst hus
  have hch : ∀ i : Nat, ∃ w : List Value, ∀ v, its[i]? = some v → Vals (zss.getD i []) w ∧ ∃ p c, v = .ref p ∧ IsL s.heap p w.toArray c := fun i => by
    cases e : ps[i]? with
    | none =>
      have := ra.none_of e
      exact ⟨[], fun v hv => by rw [this] at hv; cases hv⟩
    | some v =>
      obtain ⟨p, rfl, hp⟩ := hps i v e
      obtain ⟨zp, w, np, rp, hlp, ep⟩ := I.lstM hp
      obtain ⟨u, hu, ru⟩ := ra.get e
      refine ⟨w, fun v' hv' => ?_⟩
      rw [hu] at hv'
      cases hv'
      cases ru
      exact ⟨rp, p, np, rfl, ep⟩
  obtain ⟨f, hf⟩ := Classical.axiomOfChoice hch
  have hn : its.length = zss.length := hla.symm.trans hlen
  have hv : ∀ i, i < zss.length → Vals (zss.getD i []) (f i) := fun i hi => (hf i its[i] (List.getElem?_eq_getElem (by omega))).1
  have hacc := fun n hn => vals_acc hv n hn
  refine call_sum_lists (s := s) (I.ok.hd hc) (items := its.toArray) (start := []) (cb := nb) (its := f) ⟨_, ea, rfl, na, rfl⟩ eb (fun i v hvi => ?_) (fun i hi => ?_) fun h' tk T c hk hT hd => ?_
  · have hvi' : its[i]? = some v := by simpa using hvi
    obtain ⟨_, p, c, e1, e2⟩ := hf i v hvi'
    exact ⟨p, c, e1, e2⟩
  · have hi' : i ≤ zss.length := by rw [← hn]; simpa using hi
    rw [← (hacc i hi').length]
    exact Nat.le_trans (take_len i) hz
  · have hT' : IsL h' T (accL [] f zss.length).toArray c := by
      have : its.toArray.size = zss.length := by simpa using hn
      rw [this] at hT
      exact hT
    have hfl := hacc zss.length (Nat.le_refl _)
    rw [List.take_length] at hfl
    rcases hd with ⟨rfl, e⟩ | e
    · have he : ps = [] := by
        have : its.length = 0 := by simpa using e
        exact List.length_eq_zero_iff.mp (by omega)
      exact ⟨.ref T, H, I.kept hk, rfl, q0 he⟩
    · have hHn : H T = none := by
        cases e2 : H T with
        | none => rfl
        | some o =>
          obtain ⟨u, hu⟩ := objok_some (I.hok T o e2)
          rw [e] at hu
          cases hu
      exact ⟨.ref T, _, I.laidN (t' := tk) hk e hHn (show ObjOk X.prog X.w _ h' T (.lst zss.flatten) from ⟨hz, _, c, hfl, hT'⟩), rfl, q T hHn⟩
/-! ### by value -/
def lsts? : List D → Option (List (List D))
  | [] => some []
  | .lst xs :: r => (lsts? r).map fun z => xs :: z
  | _ :: _ => none
def fSumL : Wl → List D → Option D := fun _ ds => match ds with
  | [.lst xs, .lst []] => match lsts? xs with
    | some yss => if yss.flatten.length ≤ lim then some (.lst yss.flatten) else none
    | none => none
  | _ => none
theorem lsts_rep {wa : Addr} {Hf : Hp} : ∀ {vs : List V} {ds : List D} {yss : List (List D)}, Reps wa Hf vs ds → lsts? ds = some yss → ∃ zss : List (List V), zss.length = yss.length ∧ vs.length = zss.length ∧ (∀ (i : Nat) (v : V), vs[i]? = some v → ∃ p, v = .ref p ∧ Hf p = some (.lst (zss.getD i []))) ∧ Reps wa Hf zss.flatten yss.flatten
  | [], [], _, _, h => by cases h; exact ⟨[], rfl, rfl, fun i v e => by simp at e, .nil⟩
  | v :: vs, d :: ds, yss, .cons r rs, h => by
    cases d with
    | lst xs =>
      simp only [lsts?] at h
      cases e : lsts? ds with
      | none => rw [e] at h; cases h
      | some z =>
        rw [e] at h
        cases h
        obtain ⟨zss, h1, h2, h3, h4⟩ := lsts_rep rs e
        cases r with
        | lst hp rp =>
          rename_i p us
          refine ⟨us :: zss, by simp [h1], by simp [h2], fun i v e => ?_, ?_⟩
          · cases i with
            | zero => cases e; exact ⟨p, rfl, hp⟩
            | succ i => obtain ⟨p', e1, e2⟩ := h3 i v (by simpa using e); exact ⟨p', e1, by simpa using e2⟩
          · rw [List.flatten_cons, List.flatten_cons]
            exact rp.append h4
    | _ => cases h
theorem cd_sumL : CaD rSumL fSumL := by
  intro wa Hf H w ds us z Q hb rs h q
  unfold fSumL at h
  split at h
  · rename_i xs
    split at h
    · rename_i yss e
      split at h
      · rename_i hz
        cases h
        cases rs with
        | cons r1 r2 =>
          cases r2 with
          | cons r2 r3 =>
            cases r3
            cases r1 with
            | lst h1 p1 =>
              cases r2 with
              | lst h2 p2 =>
                cases p2
                obtain ⟨zss, e1, e2, e3, e4⟩ := lsts_rep p1 e
                refine ⟨_, _, _, zss, rfl, hb.ex _ _ h1, hb.ex _ _ h2, e2, fun i v ev => ?_, by rw [e4.length]; exact lim_le hz, fun e0 => ?_, fun p hp => ?_⟩
                · obtain ⟨p, e5, e6⟩ := e3 i v ev
                  exact ⟨p, e5, hb.ex _ _ e6⟩
                · have hy : yss = [] := by
                    subst e0
                    exact List.length_eq_zero_iff.mp (by simp at e2; omega)
                  subst hy
                  exact q _ _ Go.refl hb _ (.lst h2 .nil)
                · exact q _ _ (Go.newF hb.ex hp) (hb.newF hp) _ (.lst upd_same (e4.mono (Ex.new (Evl.fresh_back hb.ex hp))))
      · cases h
    · cases h
  · cases h
end DL

set_option maxHeartbeats 2000000
namespace DL
open PySem PySem.Spec PyProof.Rows L2
variable [OldT]
open Evl (Ex)
/-! ### new lists that defs tell -/
section
variable {X : Cx} {mg : Str → Option Value} {W : WX} {e a b : Expr} {pos : Pos} {A B E : DE} {As : DA} {σ : L2.St} {H : Hp} {st : Stmt}
/-- a new list, known as such -/
def eNL (A : DA) : DE := fun s w => (A s w).bind fun ds w1 => .ok (.nl ds) w1
theorem eNL_ok {Q : VK} (h : lE mg W (eNL As) σ H Q) : lfL mg W As σ H Q := by
  obtain ⟨wa, Hf, sD, w, hb, hs, h⟩ := h
  refine ⟨wa, Hf, sD, w, hb, hs, ?_⟩
  unfold eNL at h
  cases ea : As sD w with
  | ok ds w1 =>
    rw [ea] at h
    intro H1 Hf1 g1 b1 p vs n e1 e2 e3 rv
    have ex : Ex Hf1 (upd Hf1 p (.lst vs)) := Ex.new e2
    have g2 : Go wa H Hf H1 (upd Hf1 p (.lst vs)) := ⟨g1.keep, g1.ex.trans ex, fun a o h => by rw [upd_ne (ne_of_none h n)]; exact g1.new a o h, g1.there⟩
    have b2 : Base wa (upd Hf1 p (.lst vs)) H1 w1 := ⟨fun a u h => by
      by_cases hp : a = p
      · subst hp; rw [upd_same] at h; rw [← h]; exact e1
      · rw [upd_ne hp] at h; exact b1.ex a u h, b1.well, by rw [upd_ne (Ne.symm e3)]; exact b1.nw, b1.od.trans ex⟩
    have po : OldT.old p = none := Evl.fresh_back b1.od e2
    exact h H1 _ g2 b2 (.ref p) (.nl upd_same po (rv.mono ex))
  | er x w1 => rw [ea] at h; exact h
  | no => rw [ea] at h; exact h
theorem pd_NL (h : PE X e (lfL mg W As)) : PE X e (lE mg W (eNL As)) := weakE h fun _ _ _ q => eNL_ok q
/-- the same, that it is new is forgotten -/
def eWk (E : DE) : DE := fun s w => match E s w with
  | .ok (.nl xs) w1 => .ok (.lst xs) w1
  | r => r
theorem pd_wk (h : PE X e (lE mg W E)) : PE X e (lE mg W (eWk E)) := weakE h fun σ H Q q => by
  obtain ⟨wa, Hf, sD, w, hb, hs, q⟩ := q
  refine ⟨wa, Hf, sD, w, hb, hs, ?_⟩
  unfold eWk at q
  cases e : E sD w with
  | ok d w1 =>
    rw [e] at q
    cases d with
    | nl xs => exact fun H1 Hf1 g b v rv => q H1 Hf1 g b v (by cases rv with | nl h1 o r => exact .lst h1 r)
    | _ => exact q
  | er x w1 => rw [e] at q; exact q
  | no => rw [e] at q; exact q
/-- a list, or a new one -/
def lst? : D → Option (List D)
  | .lst xs => some xs
  | .nl xs => some xs
  | _ => none
theorem lst?_rep {wa : Addr} {Hf : Hp} {v : V} {d : D} {xs : List D} (r : Rep wa Hf v d) (h : lst? d = some xs) : ∃ p vs, v = .ref p ∧ Hf p = some (.lst vs) ∧ Reps wa Hf vs xs := by
  cases d with
  | lst ys => cases h; cases r with | lst h1 r1 => exact ⟨_, _, rfl, h1, r1⟩
  | nl ys => cases h; cases r with | nl h1 o r1 => exact ⟨_, _, rfl, h1, r1⟩
  | _ => cases h
def aCat (A B : DE) : DA := fun s w => (A s w).bind fun x w1 => (B s w1).bind fun y w2 => match lst? x, lst? y with
  | some xs, some ys => if xs.length + ys.length ≤ lim then .ok (xs ++ ys) w2 else .no
  | _, _ => .no
theorem pl_cat (ha : PE X a (lE mg W A)) (hb : PE X b (lE mg W B)) : PE X (.BinOp a .Add b pos) (lfL mg W (aCat A B)) := weakE (pe_op op_cat ha hb) fun σ H Q h => by
  obtain ⟨wa, Hf, sD, w, hb, hs, h⟩ := h
  refine ⟨wa, Hf, sD, w, hb, hs, h.bind.mono (fun x w1 H1 Hf1 g1 b1 q v rv => ?_) (fun _ _ _ _ _ _ q => q)⟩
  refine ⟨wa, Hf1, sD, w1, b1, hs.go g1, q.bind.mono (fun y w2 H2 Hf2 g2 b2 q2 v2 rv2 => ?_) (fun _ _ _ _ _ _ q => q)⟩
  split at q2
  · rename_i xs ys hx hy
    split at q2
    · rename_i hz
      obtain ⟨p, vs, rfl, h1, r1⟩ := lst?_rep rv hx
      obtain ⟨p2, vs2, rfl, h2, r2⟩ := lst?_rep rv2 hy
      have r1' := r1.mono g2.ex
      refine ⟨p, p2, vs, vs2, rfl, rfl, b2.ex _ _ (g2.ex _ _ h1), b2.ex _ _ h2, by rw [r1.length, r2.length]; exact lim_le hz, fun q hq => ?_⟩
      exact q2 _ _ (Go.new1 hq) (b2.new1 hq) q _ ((g1.trans g2).free hq) upd_same (Evl.fresh_back b2.ex hq) (fun z => by rw [z, b2.well] at hq; cases hq) (r1'.append r2)
    · exact q2.elim
  · exact q2.elim
end
mutual
def nlFree : D → Bool
  | .nl _ => false
  | .own _ => false
  | .lst ds => nlFrees ds
  | .tup ds => nlFrees ds
  | _ => true
def nlFrees : List D → Bool
  | [] => true
  | d :: r => nlFree d && nlFrees r
end
def nlFreeO : Option D → Bool
  | some d => nlFree d
  | none => true
section
variable [OldT] {h' : Hp} {wa : Addr} {Hf H : Hp}
mutual
theorem Rep.turn : ∀ {v : V} {d : D}, Rep wa Hf v d → nlFree d = true → @Rep ⟨h'⟩ wa Hf v d
  | _, _, .non, _ => @Rep.non ⟨h'⟩ wa Hf
  | _, _, .bl b, _ => @Rep.bl ⟨h'⟩ wa Hf b
  | _, _, .int b, _ => @Rep.int ⟨h'⟩ wa Hf b
  | _, _, .str b, _ => @Rep.str ⟨h'⟩ wa Hf b
  | _, _, .lst h r, n => @Rep.lst ⟨h'⟩ wa Hf _ _ _ h (Reps.turn r (by simpa [nlFree] using n))
  | _, _, .tup h r, n => @Rep.tup ⟨h'⟩ wa Hf _ _ _ h (Reps.turn r (by simpa [nlFree] using n))
  | _, _, .well, _ => @Rep.well ⟨h'⟩ wa Hf
  | _, _, .ref a, _ => @Rep.ref ⟨h'⟩ wa Hf a
  | _, _, .ty a, _ => @Rep.ty ⟨h'⟩ wa Hf a
  | _, _, .nl _ _ _, n => by simp [nlFree] at n
theorem Reps.turn : ∀ {vs : List V} {ds : List D}, Reps wa Hf vs ds → nlFrees ds = true → @Reps ⟨h'⟩ wa Hf vs ds
  | _, _, .nil, _ => @Reps.nil ⟨h'⟩ wa Hf
  | _, _, .cons h r, n => by
    have n' := n
    simp only [nlFrees, Bool.and_eq_true] at n'
    exact @Reps.cons ⟨h'⟩ wa Hf _ _ _ _ (Rep.turn h n'.1) (Reps.turn r n'.2)
end
theorem free_own {s : Sl} (h : s.all nlFreeO = true) {i : Nat} {xs : List D} : s[i]? ≠ some (some (.own xs)) := fun z => by
  have h1 := List.all_eq_true.mp h _ (List.mem_of_getElem? z)
  simp [nlFreeO, nlFree] at h1
theorem Slots.turn {σ : L2.St} {s : Sl} (x : Slots wa Hf H σ s) (h : s.all nlFreeO = true) : @Slots ⟨h'⟩ wa Hf H σ s := by
  refine @Slots.mk ⟨h'⟩ wa Hf H σ s x.len (fun i d e n => ?_) (fun i xs e => absurd e (free_own h)) fun i j xs ys p e _ _ _ => absurd e (free_own h)
  obtain ⟨v, h1, h2⟩ := x.val i d e n
  have h3 := List.all_eq_true.mp h _ (List.mem_of_getElem? e)
  exact ⟨v, h1, h2.turn h3⟩
end
/-- what may stand in a told list: a tuple of ints -/
def plainT : D → Bool
  | .tup ds => (ints? ds).isSome
  | _ => false
theorem ints_stay {o o' : OldT} {wa : Addr} {Hf Hf' : Hp} : ∀ {ns : List Int} {vs : List V}, @Reps o wa Hf vs (ns.map D.int) → @Reps o' wa Hf' vs (ns.map D.int) := by
  intro ns
  induction ns with
  | nil => intro vs h; cases h; exact @Reps.nil o' wa Hf'
  | cons n ns ih =>
    intro vs h
    cases h with
    | cons r rs => exact @Reps.cons o' wa Hf' _ _ _ _ (by cases r; exact @Rep.int o' wa Hf' n) (ih rs)
/-- without one address -/
def delH (Hf : Hp) (p : Addr) : Hp := fun a => if a = p then none else Hf a
theorem delH_same {Hf : Hp} {p : Addr} : delH Hf p p = none := by unfold delH; rw [if_pos rfl]
theorem delH_ne {Hf : Hp} {p a : Addr} (h : a ≠ p) : delH Hf p a = Hf a := by unfold delH; rw [if_neg h]
theorem plain_stay {o o' : OldT} {wa p : Addr} {Hf Hf' : Hp} {us : List V} (hp : Hf p = some (.lst us)) (k : ∀ a u, a ≠ p → Hf a = some u → Hf' a = some u) : ∀ {ds : List D} {vs : List V}, ds.all plainT = true → @Reps o wa Hf vs ds → @Reps o' wa Hf' vs ds := by
  intro ds
  induction ds with
  | nil => intro vs _ h; cases h; exact @Reps.nil o' wa Hf'
  | cons d ds ih =>
    intro vs h hr
    cases hr with
    | cons r rs =>
      rw [List.all_cons, Bool.and_eq_true] at h
      refine @Reps.cons o' wa Hf' _ _ _ _ ?_ (ih h.2 rs)
      cases d with
      | tup ys =>
        have h1 : (ints? ys).isSome = true := h.1
        cases e : ints? ys with
        | none => rw [e] at h1; cases h1
        | some ns =>
          have := ints?_some e
          subst this
          cases r with
          | tup ht rt =>
            refine @Rep.tup o' wa Hf' _ _ _ (k _ _ (fun z => ?_) ht) (ints_stay rt)
            rw [z, hp] at ht
            cases ht
      | _ => exact absurd h.1 (by simp [plainT])
section
variable {X : Cx} {mg : Str → Option Value} {W : WX} {e : Expr} {E : DE} {st : Stmt}
/-- what a def tells as a new list: such a one -/
def aNew (E : DE) : DA := fun s w => if s.all nlFreeO = true then match E s w with
  | .ok (.nl xs) w1 => if xs.all plainT = true then .ok xs w1 else .no
  | _ => .no
  else .no
theorem pl_new (h : ∀ o : OldT, PE X e (@lE o mg W E)) : PE X e (lfL mg W (aNew E)) := by
  refine weakE (⟨fun pins s σ H Q I ⟨o, q⟩ => (h o).run pins s σ H Q I q⟩ : PE X e fun σ H Q => ∃ o : OldT, @lE o mg W E σ H Q) fun σ H Q q => ?_
  obtain ⟨wa, Hf, sD, w, hb, hs, q⟩ := q
  unfold aNew at q
  split at q
  · rename_i hfree
    refine ⟨⟨Hf⟩, wa, Hf, sD, w, @Base.mk ⟨Hf⟩ wa Hf H w hb.ex hb.well hb.nw (Ex.refl _), hs.turn hfree, ?_⟩
    split at q
    · rename_i xs w1 e1
      split at q
      · rename_i hpl
        rw [e1]
        intro H1 Hf1 g1 b1 v rv
        obtain ⟨bex, bwell, bnw, _⟩ := b1
        obtain ⟨p, vs, rfl, h1, ho, r1⟩ : ∃ p vs, v = V.ref p ∧ Hf1 p = some (.lst vs) ∧ Hf p = none ∧ @Reps ⟨Hf⟩ wa Hf1 vs xs := by
          cases rv with
          | nl h1 o r1 => exact ⟨_, _, rfl, h1, o, r1⟩
        have hpw : p ≠ wa := fun z => by rw [z, bnw] at h1; cases h1
        have hHp : H p = none := by
          cases e2 : H p with
          | none => rfl
          | some o =>
            have := g1.new p o e2
            rw [h1, ho] at this
            cases this
        have ex' : Ex Hf (delH Hf1 p) := fun a u ha => by
          have : a ≠ p := fun z => by rw [z, ho] at ha; cases ha
          rw [delH_ne this]
          exact g1.ex a u ha
        have go : Go wa H Hf H1 (delH Hf1 p) := ⟨g1.keep, ex', fun a o ha => by
          have : a ≠ p := fun z => by rw [z, hHp] at ha; cases ha
          rw [delH_ne this]
          exact g1.new a o ha, g1.there⟩
        have b' : Base wa (delH Hf1 p) H1 w1 := ⟨fun a u ha => by
          by_cases hp : a = p
          · subst hp; rw [delH_same] at ha; cases ha
          · rw [delH_ne hp] at ha; exact bex a u ha, bwell, by rw [delH_ne (Ne.symm hpw)]; exact bnw, hb.od.trans ex'⟩
        exact q H1 _ go b' p vs hHp (bex _ _ h1) (delH_same) hpw (plain_stay h1 (fun a u n ha => by rw [delH_ne n]; exact ha) hpl r1)
      · exact q.elim
    · exact q.elim
  · exact q.elim
/-- x.clear() -/
def sClr (i : Nat) : DS := fun s w => match s[i]? with
  | some (some (.own _)) => .nx (s.set i (some (.own []))) w
  | _ => .no
theorem sd_clr {i : Nat} (h : PS X st (tDrop (tBM0 X.K "list" rClear (tVar i)))) : PS X st (lS mg W (sClr i)) := weakS h fun D σ H h => by
  obtain ⟨wa, Hf, sD, w, H0, Hf0, g, b, hs, ho, h⟩ := h
  unfold sClr at h
  split at h
  · rename_i xs hi
    obtain ⟨p, vs, k1, k2, k3, k4, k5⟩ := hs.own i xs hi
    refine ⟨.ref p, k1, .inl ⟨rfl, vs, SqL.of k2⟩, p, vs, rfl, rfl, k2, ?_⟩
    have h0 : H0 p = none := ho i xs p hi k1
    refine h σ _ Hf ?_ (Ex.refl _) ?_ (hs.write hi k1 .nil) (ho.sub fun j ys hj => ?_)
    · exact ⟨fun a o n q => by rw [upd_ne (ne_of_none q h0)]; exact g.keep a o n q, g.ex, g.new, fun a o q => by rw [upd_ne (ne_of_none q h0)]; exact g.there a o q⟩
    · exact ⟨Evl.Ex.mut b.ex k3, by rw [upd_ne (Ne.symm k4)]; exact b.well, b.nw, b.od⟩
    · by_cases hji : j = i
      · subst hji
        exact ⟨xs, hi⟩
      · rw [List.getElem?_set_ne (Ne.symm hji)] at hj
        exact ⟨ys, hj⟩
  · exact h.elim
end
@[simp] theorem okE_nl {A : DA} {s : Sl} {w : Wl} {Q : D → Wl → Prop} : okE (eNL A s w) Q = okE (A s w) fun x w1 => Q (.nl x) w1 := by unfold eNL; cases A s w <;> rfl
@[simp] theorem okE_aCat {A B : DE} {s : Sl} {w : Wl} {Q : List D → Wl → Prop} : okE (aCat A B s w) Q = okE (A s w) fun x w1 => okE (B s w1) fun y w2 => match lst? x, lst? y with
    | some xs, some ys => xs.length + ys.length ≤ lim ∧ Q (xs ++ ys) w2
    | _, _ => False := by
  unfold aCat
  simp only [okE_bind]
  congr; funext x w1; congr; funext y w2
  cases lst? x <;> cases lst? y <;> try rfl
  rename_i xs ys
  show okE (if xs.length + ys.length ≤ lim then R.ok (xs ++ ys) w2 else .no) Q = _
  by_cases h : xs.length + ys.length ≤ lim
  · rw [if_pos h]; simp [okE, h]
  · rw [if_neg h]; simp [okE, h]
theorem wk_ok {E : DE} {s : Sl} {w w1 : Wl} {xs : List D} (h : E s w = .ok (.nl xs) w1) : eWk E s w = .ok (.lst xs) w1 := by unfold eWk; rw [h]
@[simp] theorem okS_clr {i : Nat} {s : Sl} {w : Wl} {N : Sl → Wl → Prop} {Z : D → Wl → Prop} : okS (sClr i s w) N Z = match s[i]? with
    | some (some (.own _)) => N (s.set i (some (.own []))) w
    | _ => False := by unfold sClr; split <;> rfl
end DL

set_option maxHeartbeats 2000000
namespace DL
open PySem PySem.Spec PyProof.Rows L2
open Evl (Ex)

/-! ### the text -/
variable [OldT]
def topS (i : Nat) : Stmt := PySem.Challenge.pw_sectionwise_k04_whole_what_triplets_have.main.body.getD i (.Pass ⟨0, 0, 0, 0⟩)
abbrev s_is_number : Stmt := topS 6
abbrev s_is_far : Stmt := topS 7
abbrev s_is_triplet : Stmt := topS 8
abbrev s_many_of : Stmt := topS 9
abbrev s_subscript_of : Stmt := topS 10
abbrev s_last_of : Stmt := topS 11
abbrev s_upward : Stmt := topS 14
abbrev s_normal_of : Stmt := topS 12
abbrev s_divisor_and_factor : Stmt := topS 15
abbrev s_met_of : Stmt := topS 13
abbrev s_check_triplet : Stmt := topS 19
abbrev s_check_two : Stmt := topS 20
abbrev s_check_triplets : Stmt := topS 21
abbrev s_pieces_of : Stmt := topS 22
abbrev s_pieces_beyond : Stmt := topS 23
abbrev s_triplet_size : Stmt := topS 24
abbrev s_met : Stmt := topS 25
abbrev s_less : Stmt := topS 26
abbrev s_apart : Stmt := topS 27
abbrev s_w_draw : Stmt := topS 30
abbrev s_w_pick : Stmt := topS 31
abbrev s_w_members : Stmt := topS 32
abbrev s_w_near : Stmt := topS 33
abbrev s_w_shown : Stmt := topS 34
abbrev s_w_far : Stmt := topS 35
abbrev s_w_count : Stmt := topS 36
abbrev s_w_cut : Stmt := topS 37
abbrev s_w_near_right : Stmt := topS 38
abbrev s_w_far_right : Stmt := topS 39
abbrev s_w_well : Stmt := topS 29
abbrev s_law : Stmt := topS 40
abbrev N_is_number : List Str := ["value"]
abbrev P_is_number : List Str := ["value"]
theorem sc_is_number : FnScope N_is_number P_is_number (defScope s_is_number) := ⟨rfl, rfl, rfl, by decide +kernel, rfl, by decide +kernel, by decide +kernel⟩
abbrev N_is_far : List Str := ["value"]
abbrev P_is_far : List Str := ["value"]
theorem sc_is_far : FnScope N_is_far P_is_far (defScope s_is_far) := ⟨rfl, rfl, rfl, by decide +kernel, rfl, by decide +kernel, by decide +kernel⟩
abbrev N_is_triplet : List Str := ["value", "number"]
abbrev P_is_triplet : List Str := ["value"]
theorem sc_is_triplet : FnScope N_is_triplet P_is_triplet (defScope s_is_triplet) := ⟨rfl, rfl, rfl, by decide +kernel, rfl, by decide +kernel, by decide +kernel⟩
abbrev N_many_of : List Str := ["part", "first", "last", "step"]
abbrev P_many_of : List Str := ["part"]
theorem sc_many_of : FnScope N_many_of P_many_of (defScope s_many_of) := ⟨rfl, rfl, rfl, by decide +kernel, rfl, by decide +kernel, by decide +kernel⟩
abbrev N_subscript_of : List Str := ["part", "index"]
abbrev P_subscript_of : List Str := ["part", "index"]
theorem sc_subscript_of : FnScope N_subscript_of P_subscript_of (defScope s_subscript_of) := ⟨rfl, rfl, rfl, by decide +kernel, rfl, by decide +kernel, by decide +kernel⟩
abbrev N_last_of : List Str := ["part"]
abbrev P_last_of : List Str := ["part"]
theorem sc_last_of : FnScope N_last_of P_last_of (defScope s_last_of) := ⟨rfl, rfl, rfl, by decide +kernel, rfl, by decide +kernel, by decide +kernel⟩
abbrev N_upward : List Str := ["triplet"]
abbrev P_upward : List Str := ["triplet"]
theorem sc_upward : FnScope N_upward P_upward (defScope s_upward) := ⟨rfl, rfl, rfl, by decide +kernel, rfl, by decide +kernel, by decide +kernel⟩
abbrev N_normal_of : List Str := ["triplet", "many"]
abbrev P_normal_of : List Str := ["triplet"]
theorem sc_normal_of : FnScope N_normal_of P_normal_of (defScope s_normal_of) := ⟨rfl, rfl, rfl, by decide +kernel, rfl, by decide +kernel, by decide +kernel⟩
abbrev N_divisor_and_factor : List Str := ["number", "modulus", "divisor", "rest", "factor", "next_factor", "times"]
abbrev P_divisor_and_factor : List Str := ["number", "modulus"]
theorem sc_divisor_and_factor : FnScope N_divisor_and_factor P_divisor_and_factor (defScope s_divisor_and_factor) := ⟨rfl, rfl, rfl, by decide +kernel, rfl, by decide +kernel, by decide +kernel⟩
abbrev N_met_of : List Str := ["triplet", "other", "low", "high", "step", "other_low", "other_high", "other_step", "divisor", "factor", "turns", "period", "start", "least"]
abbrev P_met_of : List Str := ["triplet", "other"]
theorem sc_met_of : FnScope N_met_of P_met_of (defScope s_met_of) := ⟨rfl, rfl, rfl, by decide +kernel, rfl, by decide +kernel, by decide +kernel⟩
abbrev N_check_triplet : List Str := ["value", "name"]
abbrev P_check_triplet : List Str := ["value", "name"]
theorem sc_check_triplet : FnScope N_check_triplet P_check_triplet (defScope s_check_triplet) := ⟨rfl, rfl, rfl, by decide +kernel, rfl, by decide +kernel, by decide +kernel⟩
abbrev N_check_two : List Str := ["one", "other"]
abbrev P_check_two : List Str := ["one", "other"]
theorem sc_check_two : FnScope N_check_two P_check_two (defScope s_check_two) := ⟨rfl, rfl, rfl, by decide +kernel, rfl, by decide +kernel, by decide +kernel⟩
abbrev N_check_triplets : List Str := ["value", "triplet"]
abbrev P_check_triplets : List Str := ["value"]
theorem sc_check_triplets : FnScope N_check_triplets P_check_triplets (defScope s_check_triplets) := ⟨rfl, rfl, rfl, by decide +kernel, rfl, by decide +kernel, by decide +kernel⟩
abbrev N_pieces_of : List Str := ["one", "other", "low", "high", "step", "start", "end", "period", "told", "turns", "between", "piece", "turn"]
abbrev P_pieces_of : List Str := ["one", "other"]
theorem sc_pieces_of : FnScope N_pieces_of P_pieces_of (defScope s_pieces_of) := ⟨rfl, rfl, rfl, by decide +kernel, rfl, by decide +kernel, by decide +kernel⟩
abbrev N_pieces_beyond : List Str := ["triplet", "others", "room", "pieces", "other", "left", "piece"]
abbrev P_pieces_beyond : List Str := ["triplet", "others", "room"]
theorem sc_pieces_beyond : FnScope N_pieces_beyond P_pieces_beyond (defScope s_pieces_beyond) := ⟨rfl, rfl, rfl, by decide +kernel, rfl, by decide +kernel, by decide +kernel⟩
abbrev N_triplet_size : List Str := ["triplet"]
abbrev P_triplet_size : List Str := ["triplet"]
theorem sc_triplet_size : FnScope N_triplet_size P_triplet_size (defScope s_triplet_size) := ⟨rfl, rfl, rfl, by decide +kernel, rfl, by decide +kernel, by decide +kernel⟩
abbrev N_met : List Str := ["one", "other"]
abbrev P_met : List Str := ["one", "other"]
theorem sc_met : FnScope N_met P_met (defScope s_met) := ⟨rfl, rfl, rfl, by decide +kernel, rfl, by decide +kernel, by decide +kernel⟩
abbrev N_less : List Str := ["one", "other"]
abbrev P_less : List Str := ["one", "other"]
theorem sc_less : FnScope N_less P_less (defScope s_less) := ⟨rfl, rfl, rfl, by decide +kernel, rfl, by decide +kernel, by decide +kernel⟩
abbrev N_apart : List Str := ["triplets", "told", "at", "triplet"]
abbrev P_apart : List Str := ["triplets"]
theorem sc_apart : FnScope N_apart P_apart (defScope s_apart) := ⟨rfl, rfl, rfl, by decide +kernel, rfl, by decide +kernel, by decide +kernel⟩
abbrev N_w_draw : List Str := ["_law_well_here", "_law_many", "_law_digit", "_law_drawn"]
abbrev P_w_draw : List Str := ["_law_well_here", "_law_many"]
theorem sc_w_draw : FnScope N_w_draw P_w_draw (defScope s_w_draw) := ⟨rfl, rfl, rfl, by decide +kernel, rfl, by decide +kernel, by decide +kernel⟩
abbrev N_w_pick : List Str := ["_law_well_here", "_law_some"]
abbrev P_w_pick : List Str := ["_law_well_here", "_law_some"]
theorem sc_w_pick : FnScope N_w_pick P_w_pick (defScope s_w_pick) := ⟨rfl, rfl, rfl, by decide +kernel, rfl, by decide +kernel, by decide +kernel⟩
abbrev N_w_members : List Str := ["_law_trio", "_law_found", "_law_k", "_law_number"]
abbrev P_w_members : List Str := ["_law_trio"]
theorem sc_w_members : FnScope N_w_members P_w_members (defScope s_w_members) := ⟨rfl, rfl, rfl, by decide +kernel, rfl, by decide +kernel, by decide +kernel⟩
abbrev N_w_near : List Str := ["_law_well_here", "_law_step", "_law_first", "_law_last"]
abbrev P_w_near : List Str := ["_law_well_here"]
theorem sc_w_near : FnScope N_w_near P_w_near (defScope s_w_near) := ⟨rfl, rfl, rfl, by decide +kernel, rfl, by decide +kernel, by decide +kernel⟩
abbrev N_w_shown : List Str := ["_law_some"]
abbrev P_w_shown : List Str := ["_law_some"]
theorem sc_w_shown : FnScope N_w_shown P_w_shown (defScope s_w_shown) := ⟨rfl, rfl, rfl, by decide +kernel, rfl, by decide +kernel, by decide +kernel⟩
abbrev N_w_far : List Str := ["_law_well_here", "_law_ends", "_law_first", "_law_last", "_law_step"]
abbrev P_w_far : List Str := ["_law_well_here"]
theorem sc_w_far : FnScope N_w_far P_w_far (defScope s_w_far) := ⟨rfl, rfl, rfl, by decide +kernel, rfl, by decide +kernel, by decide +kernel⟩
abbrev N_w_count : List Str := ["_law_trio", "_law_far_here"]
abbrev P_w_count : List Str := ["_law_trio"]
theorem sc_w_count : FnScope N_w_count P_w_count (defScope s_w_count) := ⟨rfl, rfl, rfl, by decide +kernel, rfl, by decide +kernel, by decide +kernel⟩
abbrev N_w_cut : List Str := ["_law_some", "_law_others", "_law_both", "_law_found", "_law_first", "_law_second", "_law_start", "_law_number", "_law_piece"]
abbrev P_w_cut : List Str := ["_law_some", "_law_others"]
theorem sc_w_cut : FnScope N_w_cut P_w_cut (defScope s_w_cut) := ⟨rfl, rfl, rfl, by decide +kernel, rfl, by decide +kernel, by decide +kernel⟩
abbrev N_w_near_right : List Str := ["_law_well_here", "_law_rows", "_law_trio", "_law_twin", "_law_some", "_law_others", "_law_found", "_law_at", "_law_row", "_law_pieces", "_law_ahead", "_law_told", "_law_more", "_law_turn", "_law_piece"]
abbrev P_w_near_right : List Str := ["_law_well_here"]
theorem sc_w_near_right : FnScope N_w_near_right P_w_near_right (defScope s_w_near_right) := ⟨rfl, rfl, rfl, by decide +kernel, rfl, by decide +kernel, by decide +kernel⟩
abbrev N_w_far_right : List Str := ["_law_well_here", "_law_trio", "_law_step", "_law_twin", "_law_pieces", "_law_both", "_law_piece", "_law_at", "_law_other_piece"]
abbrev P_w_far_right : List Str := ["_law_well_here"]
theorem sc_w_far_right : FnScope N_w_far_right P_w_far_right (defScope s_w_far_right) := ⟨rfl, rfl, rfl, by decide +kernel, rfl, by decide +kernel, by decide +kernel⟩
/-- what the top has written -/
structure Txt (K : PySem.W.Frag) (mg : Str → Option Value) where
  a_is_number : Addr
  d_is_number : FuncData
  F_is_number : Fun K "is_number" "is_number" s_is_number a_is_number d_is_number
  g_is_number : mg "is_number" = some (.ref a_is_number)
  a_is_far : Addr
  d_is_far : FuncData
  F_is_far : Fun K "is_far" "is_far" s_is_far a_is_far d_is_far
  g_is_far : mg "is_far" = some (.ref a_is_far)
  a_is_triplet : Addr
  d_is_triplet : FuncData
  F_is_triplet : Fun K "is_triplet" "is_triplet" s_is_triplet a_is_triplet d_is_triplet
  g_is_triplet : mg "is_triplet" = some (.ref a_is_triplet)
  a_many_of : Addr
  d_many_of : FuncData
  F_many_of : Fun K "many_of" "many_of" s_many_of a_many_of d_many_of
  g_many_of : mg "many_of" = some (.ref a_many_of)
  a_subscript_of : Addr
  d_subscript_of : FuncData
  F_subscript_of : Fun K "subscript_of" "subscript_of" s_subscript_of a_subscript_of d_subscript_of
  g_subscript_of : mg "subscript_of" = some (.ref a_subscript_of)
  a_last_of : Addr
  d_last_of : FuncData
  F_last_of : Fun K "last_of" "last_of" s_last_of a_last_of d_last_of
  g_last_of : mg "last_of" = some (.ref a_last_of)
  a_upward : Addr
  d_upward : FuncData
  F_upward : Fun K "upward" "upward" s_upward a_upward d_upward
  g_upward : mg "upward" = some (.ref a_upward)
  a_normal_of : Addr
  d_normal_of : FuncData
  F_normal_of : Fun K "normal_of" "normal_of" s_normal_of a_normal_of d_normal_of
  g_normal_of : mg "normal_of" = some (.ref a_normal_of)
  a_divisor_and_factor : Addr
  d_divisor_and_factor : FuncData
  F_divisor_and_factor : Fun K "divisor_and_factor" "divisor_and_factor" s_divisor_and_factor a_divisor_and_factor d_divisor_and_factor
  g_divisor_and_factor : mg "divisor_and_factor" = some (.ref a_divisor_and_factor)
  a_met_of : Addr
  d_met_of : FuncData
  F_met_of : Fun K "met_of" "met_of" s_met_of a_met_of d_met_of
  g_met_of : mg "met_of" = some (.ref a_met_of)
  a_check_triplet : Addr
  d_check_triplet : FuncData
  F_check_triplet : Fun K "check_triplet" "check_triplet" s_check_triplet a_check_triplet d_check_triplet
  g_check_triplet : mg "check_triplet" = some (.ref a_check_triplet)
  a_check_two : Addr
  d_check_two : FuncData
  F_check_two : Fun K "check_two" "check_two" s_check_two a_check_two d_check_two
  g_check_two : mg "check_two" = some (.ref a_check_two)
  a_check_triplets : Addr
  d_check_triplets : FuncData
  F_check_triplets : Fun K "check_triplets" "check_triplets" s_check_triplets a_check_triplets d_check_triplets
  g_check_triplets : mg "check_triplets" = some (.ref a_check_triplets)
  a_pieces_of : Addr
  d_pieces_of : FuncData
  F_pieces_of : Fun K "pieces_of" "pieces_of" s_pieces_of a_pieces_of d_pieces_of
  g_pieces_of : mg "pieces_of" = some (.ref a_pieces_of)
  a_pieces_beyond : Addr
  d_pieces_beyond : FuncData
  F_pieces_beyond : Fun K "pieces_beyond" "pieces_beyond" s_pieces_beyond a_pieces_beyond d_pieces_beyond
  g_pieces_beyond : mg "pieces_beyond" = some (.ref a_pieces_beyond)
  a_triplet_size : Addr
  d_triplet_size : FuncData
  F_triplet_size : Fun K "triplet_size" "triplet_size" s_triplet_size a_triplet_size d_triplet_size
  g_triplet_size : mg "triplet_size" = some (.ref a_triplet_size)
  a_met : Addr
  d_met : FuncData
  F_met : Fun K "met" "met" s_met a_met d_met
  g_met : mg "met" = some (.ref a_met)
  a_less : Addr
  d_less : FuncData
  F_less : Fun K "less" "less" s_less a_less d_less
  g_less : mg "less" = some (.ref a_less)
  a_apart : Addr
  d_apart : FuncData
  F_apart : Fun K "apart" "apart" s_apart a_apart d_apart
  g_apart : mg "apart" = some (.ref a_apart)
  a_w_draw : Addr
  d_w_draw : FuncData
  F_w_draw : Fun K "_law_draw" "_law_draw" s_w_draw a_w_draw d_w_draw
  g_w_draw : mg "_law_draw" = some (.ref a_w_draw)
  a_w_pick : Addr
  d_w_pick : FuncData
  F_w_pick : Fun K "_law_pick" "_law_pick" s_w_pick a_w_pick d_w_pick
  g_w_pick : mg "_law_pick" = some (.ref a_w_pick)
  a_w_members : Addr
  d_w_members : FuncData
  F_w_members : Fun K "_law_members" "_law_members" s_w_members a_w_members d_w_members
  g_w_members : mg "_law_members" = some (.ref a_w_members)
  a_w_near : Addr
  d_w_near : FuncData
  F_w_near : Fun K "_law_near" "_law_near" s_w_near a_w_near d_w_near
  g_w_near : mg "_law_near" = some (.ref a_w_near)
  a_w_shown : Addr
  d_w_shown : FuncData
  F_w_shown : Fun K "_law_shown" "_law_shown" s_w_shown a_w_shown d_w_shown
  g_w_shown : mg "_law_shown" = some (.ref a_w_shown)
  a_w_far : Addr
  d_w_far : FuncData
  F_w_far : Fun K "_law_far" "_law_far" s_w_far a_w_far d_w_far
  g_w_far : mg "_law_far" = some (.ref a_w_far)
  a_w_count : Addr
  d_w_count : FuncData
  F_w_count : Fun K "_law_count" "_law_count" s_w_count a_w_count d_w_count
  g_w_count : mg "_law_count" = some (.ref a_w_count)
  a_w_cut : Addr
  d_w_cut : FuncData
  F_w_cut : Fun K "_law_cut" "_law_cut" s_w_cut a_w_cut d_w_cut
  g_w_cut : mg "_law_cut" = some (.ref a_w_cut)
  a_w_near_right : Addr
  d_w_near_right : FuncData
  F_w_near_right : Fun K "_law_near_right" "_law_near_right" s_w_near_right a_w_near_right d_w_near_right
  g_w_near_right : mg "_law_near_right" = some (.ref a_w_near_right)
  a_w_far_right : Addr
  d_w_far_right : FuncData
  F_w_far_right : Fun K "_law_far_right" "_law_far_right" s_w_far_right a_w_far_right d_w_far_right
  g_w_far_right : mg "_law_far_right" = some (.ref a_w_far_right)
  a_w_well : Addr
  d_w_well : FuncData
  F_w_well : Fun K "_law_well" "_law_well" s_w_well a_w_well d_w_well
  g_w_well : mg "_law_well" = some (.ref a_w_well)
  a_law : Addr
  d_law : FuncData
  F_law : Fun K "law" "law" s_law a_law d_law
  g_law : mg "law" = some (.ref a_law)
  z_int : mg "int" = none
  z_isinstance : mg "isinstance" = none
  z_bool : mg "bool" = none
  z_tuple : mg "tuple" = none
  z_len : mg "len" = none
  z_all : mg "all" = none
  z_list : mg "list" = none
  z_max : mg "max" = none
  z_min : mg "min" = none
  z_range : mg "range" = none
  z_enumerate : mg "enumerate" = none
  z_abs : mg "abs" = none
  z_sorted : mg "sorted" = none
  z_sum : mg "sum" = none
  t_FAR : Tok
  c_FAR : mg "FAR" = some (.int 1000000000000000000000000000000 t_FAR)
  t_TRIPLETS : Tok
  c_TRIPLETS : mg "TRIPLETS" = some (.int 8 t_TRIPLETS)
  t_PIECES : Tok
  c_PIECES : mg "PIECES" = some (.int 300 t_PIECES)
section
variable {P : Program} {w : World} {K : PySem.W.Frag} {mg : Str → Option Value} {base : Heap}
theorem b_is_number (T : Txt K mg) : Binds K T.d_is_number ["value"] [] := T.F_is_number.binds fun _ _ _ _ _ _ us hl => match us, hl with | [_], _ => rfl
theorem b_is_far (T : Txt K mg) : Binds K T.d_is_far ["value"] [] := T.F_is_far.binds fun _ _ _ _ _ _ us hl => match us, hl with | [_], _ => rfl
theorem b_is_triplet (T : Txt K mg) : Binds K T.d_is_triplet ["value"] [] := T.F_is_triplet.binds fun _ _ _ _ _ _ us hl => match us, hl with | [_], _ => rfl
theorem b_many_of (T : Txt K mg) : Binds K T.d_many_of ["part"] [] := T.F_many_of.binds fun _ _ _ _ _ _ us hl => match us, hl with | [_], _ => rfl
theorem b_subscript_of (T : Txt K mg) : Binds K T.d_subscript_of ["part", "index"] [] := T.F_subscript_of.binds fun _ _ _ _ _ _ us hl => match us, hl with | [_, _], _ => rfl
theorem b_last_of (T : Txt K mg) : Binds K T.d_last_of ["part"] [] := T.F_last_of.binds fun _ _ _ _ _ _ us hl => match us, hl with | [_], _ => rfl
theorem b_upward (T : Txt K mg) : Binds K T.d_upward ["triplet"] [] := T.F_upward.binds fun _ _ _ _ _ _ us hl => match us, hl with | [_], _ => rfl
theorem b_normal_of (T : Txt K mg) : Binds K T.d_normal_of ["triplet"] [] := T.F_normal_of.binds fun _ _ _ _ _ _ us hl => match us, hl with | [_], _ => rfl
theorem b_divisor_and_factor (T : Txt K mg) : Binds K T.d_divisor_and_factor ["number", "modulus"] [] := T.F_divisor_and_factor.binds fun _ _ _ _ _ _ us hl => match us, hl with | [_, _], _ => rfl
theorem b_met_of (T : Txt K mg) : Binds K T.d_met_of ["triplet", "other"] [] := T.F_met_of.binds fun _ _ _ _ _ _ us hl => match us, hl with | [_, _], _ => rfl
theorem b_check_triplet (T : Txt K mg) : Binds K T.d_check_triplet ["value", "name"] [] := T.F_check_triplet.binds fun _ _ _ _ _ _ us hl => match us, hl with | [_, _], _ => rfl
theorem b_check_two (T : Txt K mg) : Binds K T.d_check_two ["one", "other"] [] := T.F_check_two.binds fun _ _ _ _ _ _ us hl => match us, hl with | [_, _], _ => rfl
theorem b_check_triplets (T : Txt K mg) : Binds K T.d_check_triplets ["value"] [] := T.F_check_triplets.binds fun _ _ _ _ _ _ us hl => match us, hl with | [_], _ => rfl
theorem b_pieces_of (T : Txt K mg) : Binds K T.d_pieces_of ["one", "other"] [] := T.F_pieces_of.binds fun _ _ _ _ _ _ us hl => match us, hl with | [_, _], _ => rfl
theorem b_pieces_beyond (T : Txt K mg) : Binds K T.d_pieces_beyond ["triplet", "others", "room"] [] := T.F_pieces_beyond.binds fun _ _ _ _ _ _ us hl => match us, hl with | [_, _, _], _ => rfl
theorem b_triplet_size (T : Txt K mg) : Binds K T.d_triplet_size ["triplet"] [] := T.F_triplet_size.binds fun _ _ _ _ _ _ us hl => match us, hl with | [_], _ => rfl
theorem b_met (T : Txt K mg) : Binds K T.d_met ["one", "other"] [] := T.F_met.binds fun _ _ _ _ _ _ us hl => match us, hl with | [_, _], _ => rfl
theorem b_less (T : Txt K mg) : Binds K T.d_less ["one", "other"] [] := T.F_less.binds fun _ _ _ _ _ _ us hl => match us, hl with | [_, _], _ => rfl
theorem b_apart (T : Txt K mg) : Binds K T.d_apart ["triplets"] [] := T.F_apart.binds fun _ _ _ _ _ _ us hl => match us, hl with | [_], _ => rfl
theorem b_w_draw (T : Txt K mg) : Binds K T.d_w_draw ["_law_well_here", "_law_many"] [] := T.F_w_draw.binds fun _ _ _ _ _ _ us hl => match us, hl with | [_, _], _ => rfl
theorem b_w_pick (T : Txt K mg) : Binds K T.d_w_pick ["_law_well_here", "_law_some"] [] := T.F_w_pick.binds fun _ _ _ _ _ _ us hl => match us, hl with | [_, _], _ => rfl
theorem b_w_members (T : Txt K mg) : Binds K T.d_w_members ["_law_trio"] [] := T.F_w_members.binds fun _ _ _ _ _ _ us hl => match us, hl with | [_], _ => rfl
theorem b_w_near (T : Txt K mg) : Binds K T.d_w_near ["_law_well_here"] [] := T.F_w_near.binds fun _ _ _ _ _ _ us hl => match us, hl with | [_], _ => rfl
theorem b_w_shown (T : Txt K mg) : Binds K T.d_w_shown ["_law_some"] [] := T.F_w_shown.binds fun _ _ _ _ _ _ us hl => match us, hl with | [_], _ => rfl
theorem b_w_far (T : Txt K mg) : Binds K T.d_w_far ["_law_well_here"] [] := T.F_w_far.binds fun _ _ _ _ _ _ us hl => match us, hl with | [_], _ => rfl
theorem b_w_count (T : Txt K mg) : Binds K T.d_w_count ["_law_trio"] [] := T.F_w_count.binds fun _ _ _ _ _ _ us hl => match us, hl with | [_], _ => rfl
theorem b_w_cut (T : Txt K mg) : Binds K T.d_w_cut ["_law_some", "_law_others"] [] := T.F_w_cut.binds fun _ _ _ _ _ _ us hl => match us, hl with | [_, _], _ => rfl
theorem b_w_near_right (T : Txt K mg) : Binds K T.d_w_near_right ["_law_well_here"] [] := T.F_w_near_right.binds fun _ _ _ _ _ _ us hl => match us, hl with | [_], _ => rfl
theorem b_w_far_right (T : Txt K mg) : Binds K T.d_w_far_right ["_law_well_here"] [] := T.F_w_far_right.binds fun _ _ _ _ _ _ us hl => match us, hl with | [_], _ => rfl
theorem b_w_well (T : Txt K mg) : Binds K T.d_w_well ["_law_cell"] [] := T.F_w_well.binds fun _ _ _ _ _ _ us hl => match us, hl with | [_], _ => rfl
theorem b_law (T : Txt K mg) : Binds K T.d_law ["_law_script"] [] := T.F_law.binds fun _ _ _ _ _ _ us hl => match us, hl with | [_], _ => rfl
def B_is_number : DS := (sRet (eAnd (eCB fIsi (aCons (eVar 0) (aCons (eC (.ty "int")) aNil))) (eNot (eCB fIsi (aCons (eVar 0) (aCons (eC (.ty "bool")) aNil))))))
def F_is_number : DF := runB 1 1 B_is_number
theorem d_is_number (T : Txt K mg) : FnD P w K mg base 1 T.a_is_number T.d_is_number P_is_number F_is_number := fnD T.F_is_number sc_is_number (by decide) B_is_number (fun cdv A outer s H E hr => (sd_one (sd_ret (pd_and (pd_cb call_isiA cd_isi (by rfl) T.z_isinstance (by decide +kernel) (ad_cons (pd_var 0) (ad_cons (pd_ty (by rfl) T.z_int (by decide +kernel)) ad_nil))) (pd_one (pd_not (pd_cb call_isiA cd_isi (by rfl) T.z_isinstance (by decide +kernel) (ad_cons (pd_var 0) (ad_cons (pd_ty (by rfl) T.z_bool (by decide +kernel)) ad_nil)))))))))
def B_is_far : DS := (sRet (eAnd (eCall 1 F_is_number (aCons (eVar 0) aNil)) (eChain fLe fLe (eUn fNeg (eC (.int 1000000000000000000000000000000))) (eVar 0) (eC (.int 1000000000000000000000000000000)))))
def F_is_far : DF := runB 1 1 B_is_far
theorem d_is_far (T : Txt K mg) : FnD P w K mg base 2 T.a_is_far T.d_is_far P_is_far F_is_far := fnD T.F_is_far sc_is_far (by decide) B_is_far (fun cdv A outer s H E hr => (sd_one (sd_ret (pd_and (by refine pd_call (k := 1) (f := T.a_is_number) (fd := T.d_is_number) (ps := P_is_number) (F := F_is_number) ?_ ?_ ?_ ?_ ?_ ?_ ?_ ?_; exact d_is_number T; exact hr.mono (by decide); exact rfl; exact T.g_is_number; exact T.F_is_number.kp; exact b_is_number T; exact (wok_takes (takes_of rfl rfl rfl rfl)); exact (ad_cons (pd_var 0) ad_nil)) (pd_one (pd_chain op_le op_le opd_cmp opd_cmp (pd_neg (pd_globI (by rfl) T.c_FAR)) (pd_var 0) (pd_globI (by rfl) T.c_FAR)))))))
def B_is_triplet : DS := (sSeq (sIf (tOn (tNo (tTr (eCB fIsi (aCons (eVar 0) (aCons (eC (.ty "tuple")) aNil))))) (tE (eBin fNe (eCB fLen (aCons (eVar 0) aNil)) (eC (.int 3))))) (sRet (eC (.bl false))) sNx) (sRet (eAnd (eCB fAll (aCons (eL (aLc (iSeq (eVar 0)) (gN 1) tYesD (eCall 1 F_is_far (aCons (eVar 1) aNil)) [1])) aNil)) (eBin fNe (eBin fIx (eVar 0) (eC (.int 2))) (eC (.int 0))))))
def F_is_triplet : DF := runB 2 1 B_is_triplet
theorem d_is_triplet (T : Txt K mg) : FnD P w K mg base 3 T.a_is_triplet T.d_is_triplet P_is_triplet F_is_triplet := fnD T.F_is_triplet sc_is_triplet (by decide) B_is_triplet (fun cdv A outer s H E hr => (sd_cons (sd_if (qd_or (qd_not (qd_tr (pd_cb call_isiA cd_isi (by rfl) T.z_isinstance (by decide +kernel) (ad_cons (pd_var 0) (ad_cons (pd_ty (by rfl) T.z_tuple (by decide +kernel)) ad_nil))))) (qd_or1 (qd_ne hr.units (pd_cb call_len cd_len (by rfl) T.z_len (by decide +kernel) (ad_cons (pd_var 0) ad_nil)) pd_int))).pt (sd_one (sd_ret pd_bl)) sd_nil) (sd_one (sd_ret (pd_and (pd_cb (cr_all rfl) cd_all (by rfl) T.z_all (by decide +kernel) (ad_cons (pd_L (pl_lc (own := [("number", 1)]) rfl sc_is_triplet.nd (id_seq (pd_var 0)) (blkOk_by (own := [("number", 1)]) (N := N_is_triplet) (sc := defScope s_is_triplet) (by decide +kernel)) (fun _ _ _ _ _ => (gd_name (i := 1) sc_is_triplet.nd rfl (Or.inl rfl) (by decide))) (fun _ _ _ _ _ => td_nil) (fun _ _ _ _ _ => (by refine pd_call (k := 2) (f := T.a_is_far) (fd := T.d_is_far) (ps := P_is_far) (F := F_is_far) ?_ ?_ ?_ ?_ ?_ ?_ ?_ ?_; exact d_is_far T; exact hr.mono (by decide); exact rfl; exact T.g_is_far; exact T.F_is_far.kp; exact b_is_far T; exact wok0; exact (ad_cons (pd_var 1) ad_nil))))) ad_nil)) (pd_one (pd_ne hr.units (pd_ix (pd_var 0) pd_int) pd_int)))))))
def B_many_of : DS := (sSeq (sIf (tTr (eCB fIsi (aCons (eVar 0) (aCons (eC (.ty "list")) aNil)))) (sRet (eCB fLen (aCons (eVar 0) aNil))) sNx) (sSeq (sIf (tTr (eCB fIsi (aCons (eVar 0) (aCons (eC (.ty "tuple")) aNil)))) (sSeq (sTg (gT (gCons' (gN 1) (gCons' (gN 2) (gCons' (gN 3) gNil'))) 3) (eVar 0)) (sRet (eCB fMax2 (aCons (eC (.int 0)) (aCons (eBin fDiv (eBin fAdd (eBin fSub (eVar 2) (eVar 1)) (eVar 3)) (eVar 3)) aNil))))) sNx) (sRet (eC (.int 1)))))
def F_many_of : DF := runB 4 1 B_many_of
theorem d_many_of (T : Txt K mg) : FnD P w K mg base 1 T.a_many_of T.d_many_of P_many_of F_many_of := fnD T.F_many_of sc_many_of (by decide) B_many_of (fun cdv A outer s H E hr => (sd_cons (sd_if (qd_tr (pd_cb call_isiA cd_isi (by rfl) T.z_isinstance (by decide +kernel) (ad_cons (pd_var 0) (ad_cons (pd_ty (by rfl) T.z_list (by decide +kernel)) ad_nil)))) (sd_one (sd_ret (pd_cb call_len cd_len (by rfl) T.z_len (by decide +kernel) (ad_cons (pd_var 0) ad_nil)))) sd_nil) (sd_cons (sd_if (qd_tr (pd_cb call_isiA cd_isi (by rfl) T.z_isinstance (by decide +kernel) (ad_cons (pd_var 0) (ad_cons (pd_ty (by rfl) T.z_tuple (by decide +kernel)) ad_nil)))) (sd_cons (sd_tg (vs := [1, 2, 3]) (ps_asg (pd_var 0) (gd_tup rfl (gd_cons (gd_name (i := 1) sc_many_of.nd rfl (Or.inl rfl) (by decide)) (gd_cons (gd_name (i := 2) sc_many_of.nd rfl (Or.inl rfl) (by decide)) (gd_cons (gd_name (i := 3) sc_many_of.nd rfl (Or.inl rfl) (by decide)) gd_nil)))))) (sd_one (sd_ret (pd_cb (call_max2 rfl) cd_max2 (by rfl) T.z_max (by decide +kernel) (ad_cons pd_int (ad_cons (pd_div (pd_add (pd_sub (pd_var 2) (pd_var 1)) (pd_var 3)) (pd_var 3)) ad_nil)))))) sd_nil) (sd_one (sd_ret pd_int)))))
def B_subscript_of : DS := (sSeq (sIf (tTr (eCB fIsi (aCons (eVar 0) (aCons (eC (.ty "list")) aNil)))) (sRet (eBin fIx (eVar 0) (eVar 1))) sNx) (sSeq (sIf (tTr (eCB fIsi (aCons (eVar 0) (aCons (eC (.ty "tuple")) aNil)))) (sRet (eBin fAdd (eBin fIx (eVar 0) (eC (.int 0))) (eBin fMul (eVar 1) (eBin fIx (eVar 0) (eC (.int 2)))))) sNx) (sRet (eVar 0))))
def F_subscript_of : DF := runB 2 2 B_subscript_of
theorem d_subscript_of (T : Txt K mg) : FnD P w K mg base 1 T.a_subscript_of T.d_subscript_of P_subscript_of F_subscript_of := fnD T.F_subscript_of sc_subscript_of (by decide) B_subscript_of (fun cdv A outer s H E hr => (sd_cons (sd_if (qd_tr (pd_cb call_isiA cd_isi (by rfl) T.z_isinstance (by decide +kernel) (ad_cons (pd_var 0) (ad_cons (pd_ty (by rfl) T.z_list (by decide +kernel)) ad_nil)))) (sd_one (sd_ret (pd_ix (pd_var 0) (pd_var 1)))) sd_nil) (sd_cons (sd_if (qd_tr (pd_cb call_isiA cd_isi (by rfl) T.z_isinstance (by decide +kernel) (ad_cons (pd_var 0) (ad_cons (pd_ty (by rfl) T.z_tuple (by decide +kernel)) ad_nil)))) (sd_one (sd_ret (pd_add (pd_ix (pd_var 0) pd_int) (pd_mul (pd_var 1) (pd_ix (pd_var 0) pd_int))))) sd_nil) (sd_one (sd_ret (pd_var 0))))))
def B_last_of : DS := (sRet (eCall 2 F_subscript_of (aCons (eVar 0) (aCons (eBin fSub (eCall 1 F_many_of (aCons (eVar 0) aNil)) (eC (.int 1))) aNil))))
def F_last_of : DF := runB 1 1 B_last_of
theorem d_last_of (T : Txt K mg) : FnD P w K mg base 2 T.a_last_of T.d_last_of P_last_of F_last_of := fnD T.F_last_of sc_last_of (by decide) B_last_of (fun cdv A outer s H E hr => (sd_one (sd_ret (by refine pd_call (k := 1) (f := T.a_subscript_of) (fd := T.d_subscript_of) (ps := P_subscript_of) (F := F_subscript_of) ?_ ?_ ?_ ?_ ?_ ?_ ?_ ?_; exact d_subscript_of T; exact hr.mono (by decide); exact rfl; exact T.g_subscript_of; exact T.F_subscript_of.kp; exact b_subscript_of T; exact (wok_takes (takes_of rfl rfl rfl rfl)); exact (ad_cons (pd_var 0) (ad_cons (pd_sub (by refine pd_call (k := 1) (f := T.a_many_of) (fd := T.d_many_of) (ps := P_many_of) (F := F_many_of) ?_ ?_ ?_ ?_ ?_ ?_ ?_ ?_; exact d_many_of T; exact hr.mono (by decide); exact rfl; exact T.g_many_of; exact T.F_many_of.kp; exact b_many_of T; exact (wok_takes (takes_of rfl rfl rfl rfl)); exact (ad_cons (pd_var 0) ad_nil)) pd_int) ad_nil))))))
def B_upward : DS := (sSeq (sIf (tE (eBin fGt (eBin fIx (eVar 0) (eC (.int 2))) (eC (.int 0)))) (sRet (eTup (aCons (eBin fIx (eVar 0) (eC (.int 0))) (aCons (eCall 1 F_last_of (aCons (eVar 0) aNil)) (aCons (eBin fIx (eVar 0) (eC (.int 2))) aNil))))) sNx) (sRet (eTup (aCons (eCall 1 F_last_of (aCons (eVar 0) aNil)) (aCons (eBin fIx (eVar 0) (eC (.int 0))) (aCons (eUn fNeg (eBin fIx (eVar 0) (eC (.int 2)))) aNil))))))
def F_upward : DF := runB 1 1 B_upward
theorem d_upward (T : Txt K mg) : FnD P w K mg base 3 T.a_upward T.d_upward P_upward F_upward := fnD T.F_upward sc_upward (by decide) B_upward (fun cdv A outer s H E hr => (sd_cons (sd_if (qd_gt (pd_ix (pd_var 0) pd_int) pd_int) (sd_one (sd_ret (pd_tup (ad_cons (pd_ix (pd_var 0) pd_int) (ad_cons (by refine pd_call (k := 2) (f := T.a_last_of) (fd := T.d_last_of) (ps := P_last_of) (F := F_last_of) ?_ ?_ ?_ ?_ ?_ ?_ ?_ ?_; exact d_last_of T; exact hr.mono (by decide); exact rfl; exact T.g_last_of; exact T.F_last_of.kp; exact b_last_of T; exact (wok_takes (takes_of rfl rfl rfl rfl)); exact (ad_cons (pd_var 0) ad_nil)) (ad_cons (pd_ix (pd_var 0) pd_int) ad_nil)))))) sd_nil) (sd_one (sd_ret (pd_tup (ad_cons (by refine pd_call (k := 2) (f := T.a_last_of) (fd := T.d_last_of) (ps := P_last_of) (F := F_last_of) ?_ ?_ ?_ ?_ ?_ ?_ ?_ ?_; exact d_last_of T; exact hr.mono (by decide); exact rfl; exact T.g_last_of; exact T.F_last_of.kp; exact b_last_of T; exact (wok_takes (takes_of rfl rfl rfl rfl)); exact (ad_cons (pd_var 0) ad_nil)) (ad_cons (pd_ix (pd_var 0) pd_int) (ad_cons (pd_neg (pd_ix (pd_var 0) pd_int)) ad_nil))))))))
def B_normal_of : DS := (sSeq (sAsg 1 (eCall 1 F_many_of (aCons (eVar 0) aNil))) (sSeq (sIf (tE (eBin fEq (eVar 1) (eC (.int 0)))) (sRet (eTup (aCons (eC (.int 0)) (aCons (eUn fNeg (eC (.int 1))) (aCons (eC (.int 1)) aNil))))) sNx) (sSeq (sIf (tE (eBin fEq (eVar 1) (eC (.int 1)))) (sRet (eTup (aCons (eBin fIx (eVar 0) (eC (.int 0))) (aCons (eBin fIx (eVar 0) (eC (.int 0))) (aCons (eC (.int 1)) aNil))))) sNx) (sRet (eCall 1 F_upward (aCons (eVar 0) aNil))))))
def F_normal_of : DF := runB 2 1 B_normal_of
theorem d_normal_of (T : Txt K mg) : FnD P w K mg base 4 T.a_normal_of T.d_normal_of P_normal_of F_normal_of := fnD T.F_normal_of sc_normal_of (by decide) B_normal_of (fun cdv A outer s H E hr => (sd_cons (sd_asg (ps_set (i := 1) sc_normal_of.nd rfl (Or.inl rfl) (by refine pd_call (k := 1) (f := T.a_many_of) (fd := T.d_many_of) (ps := P_many_of) (F := F_many_of) ?_ ?_ ?_ ?_ ?_ ?_ ?_ ?_; exact d_many_of T; exact hr.mono (by decide); exact rfl; exact T.g_many_of; exact T.F_many_of.kp; exact b_many_of T; exact (wok_takes (takes_of rfl rfl rfl rfl)); exact (ad_cons (pd_var 0) ad_nil)))) (sd_cons (sd_if (qd_eq hr.units (pd_var 1) pd_int) (sd_one (sd_ret (pd_tup (ad_cons pd_int (ad_cons (pd_neg pd_int) (ad_cons pd_int ad_nil)))))) sd_nil) (sd_cons (sd_if (qd_eq hr.units (pd_var 1) pd_int) (sd_one (sd_ret (pd_tup (ad_cons (pd_ix (pd_var 0) pd_int) (ad_cons (pd_ix (pd_var 0) pd_int) (ad_cons pd_int ad_nil)))))) sd_nil) (sd_one (sd_ret (by refine pd_call (k := 3) (f := T.a_upward) (fd := T.d_upward) (ps := P_upward) (F := F_upward) ?_ ?_ ?_ ?_ ?_ ?_ ?_ ?_; exact d_upward T; exact hr.mono (by decide); exact rfl; exact T.g_upward; exact T.F_upward.kp; exact b_upward T; exact (wok_takes (takes_of rfl rfl rfl rfl)); exact (ad_cons (pd_var 0) ad_nil))))))))
def B_divisor_and_factor : DS := (sSeq (sMul [2, 3] (mVal (eVar 0) (mVal (eVar 1) aNil))) (sSeq (sMul [4, 5] (mVal (eC (.int 1)) (mVal (eC (.int 0)) aNil))) (sSeq (whileD (tE (eBin fNe (eVar 3) (eC (.int 0)))) (sSeq (sAsg 6 (eBin fDiv (eVar 2) (eVar 3))) (sSeq (sMul [2, 3] (mVal (eVar 3) (mVal (eBin fSub (eVar 2) (eBin fMul (eVar 6) (eVar 3))) aNil))) (sMul [4, 5] (mVal (eVar 5) (mVal (eBin fSub (eVar 4) (eBin fMul (eVar 6) (eVar 5))) aNil))))) 100000000) (sRet (eTup (aCons (eVar 2) (aCons (eVar 4) aNil)))))))
def F_divisor_and_factor : DF := runB 7 2 B_divisor_and_factor
theorem d_divisor_and_factor (T : Txt K mg) : FnD P w K mg base 1 T.a_divisor_and_factor T.d_divisor_and_factor P_divisor_and_factor F_divisor_and_factor := fnD T.F_divisor_and_factor sc_divisor_and_factor (by decide) B_divisor_and_factor (fun cdv A outer s H E hr => (sd_cons (sd_par2 (ps_par rfl sc_divisor_and_factor.nd rfl rfl (by decide) rfl rfl (md_val (pd_var 0) (md_val (pd_var 1) md_nil)) rfl)) (sd_cons (sd_multi (ps_asg (pe_tup (md_val pd_int (md_val pd_int md_nil))) (pg_tup rfl (pgs_cons (pg_name (i := 4) sc_divisor_and_factor.nd rfl (Or.inl rfl)) (pgs_cons (pg_name (i := 5) sc_divisor_and_factor.nd rfl (Or.inl rfl)) pgs_nil)))) rfl (by decide)) (sd_cons (sd_while 100000000 (passes_of rfl) (qd_ne hr.units (pd_var 3) pd_int) (sd_cons (sd_asg (ps_set (i := 6) sc_divisor_and_factor.nd rfl (Or.inl rfl) (pd_div (pd_var 2) (pd_var 3)))) (sd_cons (sd_par2 (ps_par rfl sc_divisor_and_factor.nd rfl rfl (by decide) rfl rfl (md_val (pd_var 3) (md_val (pd_sub (pd_var 2) (pd_mul (pd_var 6) (pd_var 3))) md_nil)) rfl)) (sd_one (sd_par2 (ps_par rfl sc_divisor_and_factor.nd rfl rfl (by decide) rfl rfl (md_val (pd_var 5) (md_val (pd_sub (pd_var 4) (pd_mul (pd_var 6) (pd_var 5))) md_nil)) rfl)))))) (sd_one (sd_ret (pd_tup (ad_cons (pd_var 2) (ad_cons (pd_var 4) ad_nil)))))))))
def B_met_of : DS := (sSeq (sTg (gT (gCons' (gN 2) (gCons' (gN 3) (gCons' (gN 4) gNil'))) 3) (eCall 1 F_upward (aCons (eVar 0) aNil))) (sSeq (sTg (gT (gCons' (gN 5) (gCons' (gN 6) (gCons' (gN 7) gNil'))) 3) (eCall 1 F_upward (aCons (eVar 1) aNil))) (sSeq (sTg (gT (gCons' (gN 8) (gCons' (gN 9) gNil')) 2) (eCall 2 F_divisor_and_factor (aCons (eVar 4) (aCons (eVar 7) aNil)))) (sSeq (sIf (tE (eBin fNe (eBin fMod (eBin fSub (eVar 5) (eVar 2)) (eVar 8)) (eC (.int 0)))) (sRet (eTup (aCons (eC (.int 0)) (aCons (eUn fNeg (eC (.int 1))) (aCons (eC (.int 1)) aNil))))) sNx) (sSeq (sAsg 10 (eBin fMul (eBin fDiv (eBin fSub (eVar 5) (eVar 2)) (eVar 8)) (eVar 9))) (sSeq (sAsg 11 (eBin fMul (eVar 4) (eBin fDiv (eVar 7) (eVar 8)))) (sSeq (sAsg 12 (eCB fMax2 (aCons (eVar 2) (aCons (eVar 5) aNil)))) (sSeq (sAsg 13 (eBin fAdd (eVar 12) (eBin fMod (eBin fSub (eBin fAdd (eVar 2) (eBin fMul (eVar 4) (eVar 10))) (eVar 12)) (eVar 11)))) (sRet (eCall 1 F_normal_of (aCons (eTup (aCons (eVar 13) (aCons (eCB fMin2 (aCons (eVar 3) (aCons (eVar 6) aNil))) (aCons (eVar 11) aNil)))) aNil)))))))))))
def F_met_of : DF := runB 14 2 B_met_of
theorem d_met_of (T : Txt K mg) : FnD P w K mg base 5 T.a_met_of T.d_met_of P_met_of F_met_of := fnD T.F_met_of sc_met_of (by decide) B_met_of (fun cdv A outer s H E hr => (sd_cons (sd_tg (vs := [2, 3, 4]) (ps_asg (by refine pd_call (k := 3) (f := T.a_upward) (fd := T.d_upward) (ps := P_upward) (F := F_upward) ?_ ?_ ?_ ?_ ?_ ?_ ?_ ?_; exact d_upward T; exact hr.mono (by decide); exact rfl; exact T.g_upward; exact T.F_upward.kp; exact b_upward T; exact (wok_takes (takes_of rfl rfl rfl rfl)); exact (ad_cons (pd_var 0) ad_nil)) (gd_tup rfl (gd_cons (gd_name (i := 2) sc_met_of.nd rfl (Or.inl rfl) (by decide)) (gd_cons (gd_name (i := 3) sc_met_of.nd rfl (Or.inl rfl) (by decide)) (gd_cons (gd_name (i := 4) sc_met_of.nd rfl (Or.inl rfl) (by decide)) gd_nil)))))) (sd_cons (sd_tg (vs := [5, 6, 7]) (ps_asg (by refine pd_call (k := 3) (f := T.a_upward) (fd := T.d_upward) (ps := P_upward) (F := F_upward) ?_ ?_ ?_ ?_ ?_ ?_ ?_ ?_; exact d_upward T; exact hr.mono (by decide); exact rfl; exact T.g_upward; exact T.F_upward.kp; exact b_upward T; exact (wok_takes (takes_of rfl rfl rfl rfl)); exact (ad_cons (pd_var 1) ad_nil)) (gd_tup rfl (gd_cons (gd_name (i := 5) sc_met_of.nd rfl (Or.inl rfl) (by decide)) (gd_cons (gd_name (i := 6) sc_met_of.nd rfl (Or.inl rfl) (by decide)) (gd_cons (gd_name (i := 7) sc_met_of.nd rfl (Or.inl rfl) (by decide)) gd_nil)))))) (sd_cons (sd_tg (vs := [8, 9]) (ps_asg (by refine pd_call (k := 1) (f := T.a_divisor_and_factor) (fd := T.d_divisor_and_factor) (ps := P_divisor_and_factor) (F := F_divisor_and_factor) ?_ ?_ ?_ ?_ ?_ ?_ ?_ ?_; exact d_divisor_and_factor T; exact hr.mono (by decide); exact rfl; exact T.g_divisor_and_factor; exact T.F_divisor_and_factor.kp; exact b_divisor_and_factor T; exact (wok_takes (takes_of rfl rfl rfl rfl)); exact (ad_cons (pd_var 4) (ad_cons (pd_var 7) ad_nil))) (gd_tup rfl (gd_cons (gd_name (i := 8) sc_met_of.nd rfl (Or.inl rfl) (by decide)) (gd_cons (gd_name (i := 9) sc_met_of.nd rfl (Or.inl rfl) (by decide)) gd_nil))))) (sd_cons (sd_if (qd_ne hr.units (pd_mod (pd_sub (pd_var 5) (pd_var 2)) (pd_var 8)) pd_int) (sd_one (sd_ret (pd_tup (ad_cons pd_int (ad_cons (pd_neg pd_int) (ad_cons pd_int ad_nil)))))) sd_nil) (sd_cons (sd_asg (ps_set (i := 10) sc_met_of.nd rfl (Or.inl rfl) (pd_mul (pd_div (pd_sub (pd_var 5) (pd_var 2)) (pd_var 8)) (pd_var 9)))) (sd_cons (sd_asg (ps_set (i := 11) sc_met_of.nd rfl (Or.inl rfl) (pd_mul (pd_var 4) (pd_div (pd_var 7) (pd_var 8))))) (sd_cons (sd_asg (ps_set (i := 12) sc_met_of.nd rfl (Or.inl rfl) (pd_cb (call_max2 rfl) cd_max2 (by rfl) T.z_max (by decide +kernel) (ad_cons (pd_var 2) (ad_cons (pd_var 5) ad_nil))))) (sd_cons (sd_asg (ps_set (i := 13) sc_met_of.nd rfl (Or.inl rfl) (pd_add (pd_var 12) (pd_mod (pd_sub (pd_add (pd_var 2) (pd_mul (pd_var 4) (pd_var 10))) (pd_var 12)) (pd_var 11))))) (sd_one (sd_ret (by refine pd_call (k := 4) (f := T.a_normal_of) (fd := T.d_normal_of) (ps := P_normal_of) (F := F_normal_of) ?_ ?_ ?_ ?_ ?_ ?_ ?_ ?_; exact d_normal_of T; exact hr.mono (by decide); exact rfl; exact T.g_normal_of; exact T.F_normal_of.kp; exact b_normal_of T; exact (wok_takes (takes_of rfl rfl rfl rfl)); exact (ad_cons (pd_tup (ad_cons (pd_var 13) (ad_cons (pd_cb (call_min2 rfl) cd_min2 (by rfl) T.z_min (by decide +kernel) (ad_cons (pd_var 3) (ad_cons (pd_var 6) ad_nil))) (ad_cons (pd_var 11) ad_nil)))) ad_nil)))))))))))))
def B_check_triplet : DS := (sIf (tNo (tTr (eCall 1 F_is_triplet (aCons (eVar 0) aNil)))) sNever sNx)
def F_check_triplet : DF := runB 2 2 B_check_triplet
theorem d_check_triplet (T : Txt K mg) : FnD P w K mg base 4 T.a_check_triplet T.d_check_triplet P_check_triplet F_check_triplet := fnD T.F_check_triplet sc_check_triplet (by decide) B_check_triplet (fun cdv A outer s H E hr => (sd_one (sd_if (qd_not (qd_tr (by refine pd_call (k := 3) (f := T.a_is_triplet) (fd := T.d_is_triplet) (ps := P_is_triplet) (F := F_is_triplet) ?_ ?_ ?_ ?_ ?_ ?_ ?_ ?_; exact d_is_triplet T; exact hr.mono (by decide); exact rfl; exact T.g_is_triplet; exact T.F_is_triplet.kp; exact b_is_triplet T; exact (wok_takes (takes_of rfl rfl rfl rfl)); exact (ad_cons (pd_var 0) ad_nil)))) (sd_one sd_never) sd_nil)))
def B_check_two : DS := (sSeq (sDrop (eCall 2 F_check_triplet (aCons (eVar 0) (aCons (eC (.str "one")) aNil)))) (sDrop (eCall 2 F_check_triplet (aCons (eVar 1) (aCons (eC (.str "other")) aNil)))))
def F_check_two : DF := runB 2 2 B_check_two
theorem d_check_two (T : Txt K mg) : FnD P w K mg base 5 T.a_check_two T.d_check_two P_check_two F_check_two := fnD T.F_check_two sc_check_two (by decide) B_check_two (fun cdv A outer s H E hr => (sd_cons (sd_expr (by refine pd_call (k := 4) (f := T.a_check_triplet) (fd := T.d_check_triplet) (ps := P_check_triplet) (F := F_check_triplet) ?_ ?_ ?_ ?_ ?_ ?_ ?_ ?_; exact d_check_triplet T; exact hr.mono (by decide); exact rfl; exact T.g_check_triplet; exact T.F_check_triplet.kp; exact b_check_triplet T; exact (wok_takes (takes_of rfl rfl rfl rfl)); exact (ad_cons (pd_var 0) (ad_cons pd_str ad_nil)))) (sd_one (sd_expr (by refine pd_call (k := 4) (f := T.a_check_triplet) (fd := T.d_check_triplet) (ps := P_check_triplet) (F := F_check_triplet) ?_ ?_ ?_ ?_ ?_ ?_ ?_ ?_; exact d_check_triplet T; exact hr.mono (by decide); exact rfl; exact T.g_check_triplet; exact T.F_check_triplet.kp; exact b_check_triplet T; exact (wok_takes (takes_of rfl rfl rfl rfl)); exact (ad_cons (pd_var 1) (ad_cons pd_str ad_nil)))))))
def B_check_triplets : DS := (sSeq (sIf (tOn (tNo (tTr (eCB fIsi (aCons (eVar 0) (aCons (eTup (aCons (eC (.ty "list")) (aCons (eC (.ty "tuple")) aNil))) aNil))))) (tE (eBin fGt (eCB fLen (aCons (eVar 0) aNil)) (eC (.int 8))))) sNever sNx) (sIf (tNo (tTr (eCB fAll (aCons (eL (aLc (iSeq (eVar 0)) (gN 1) tYesD (eCall 1 F_is_triplet (aCons (eVar 1) aNil)) [1])) aNil)))) sNever sNx))
def F_check_triplets : DF := runB 2 1 B_check_triplets
theorem d_check_triplets (T : Txt K mg) : FnD P w K mg base 4 T.a_check_triplets T.d_check_triplets P_check_triplets F_check_triplets := fnD T.F_check_triplets sc_check_triplets (by decide) B_check_triplets (fun cdv A outer s H E hr => (sd_cons (sd_if (qd_or (qd_not (qd_tr (pd_cb call_isiA cd_isi (by rfl) T.z_isinstance (by decide +kernel) (ad_cons (pd_var 0) (ad_cons (pd_tup (ad_cons (pd_ty (by rfl) T.z_list (by decide +kernel)) (ad_cons (pd_ty (by rfl) T.z_tuple (by decide +kernel)) ad_nil))) ad_nil))))) (qd_or1 (qd_gt (pd_cb call_len cd_len (by rfl) T.z_len (by decide +kernel) (ad_cons (pd_var 0) ad_nil)) (pd_globI (by rfl) T.c_TRIPLETS)))).pt (sd_one sd_never) sd_nil) (sd_one (sd_if (qd_not (qd_tr (pd_cb (cr_all rfl) cd_all (by rfl) T.z_all (by decide +kernel) (ad_cons (pd_L (pl_lc (own := [("triplet", 1)]) rfl sc_check_triplets.nd (id_seq (pd_var 0)) (blkOk_by (own := [("triplet", 1)]) (N := N_check_triplets) (sc := defScope s_check_triplets) (by decide +kernel)) (fun _ _ _ _ _ => (gd_name (i := 1) sc_check_triplets.nd rfl (Or.inl rfl) (by decide))) (fun _ _ _ _ _ => td_nil) (fun _ _ _ _ _ => (by refine pd_call (k := 3) (f := T.a_is_triplet) (fd := T.d_is_triplet) (ps := P_is_triplet) (F := F_is_triplet) ?_ ?_ ?_ ?_ ?_ ?_ ?_ ?_; exact d_is_triplet T; exact hr.mono (by decide); exact rfl; exact T.g_is_triplet; exact T.F_is_triplet.kp; exact b_is_triplet T; exact wok0; exact (ad_cons (pd_var 1) ad_nil))))) ad_nil)))) (sd_one sd_never) sd_nil))))
def B_pieces_of : DS := (sSeq (sTg (gT (gCons' (gN 2) (gCons' (gN 3) (gCons' (gN 4) gNil'))) 3) (eCall 1 F_normal_of (aCons (eVar 0) aNil))) (sSeq (sTg (gT (gCons' (gN 5) (gCons' (gN 6) (gCons' (gN 7) gNil'))) 3) (eCall 2 F_met_of (aCons (eVar 0) (aCons (eVar 1) aNil)))) (sSeq (sIf (tE (eBin fEq (eCall 1 F_many_of (aCons (eTup (aCons (eVar 5) (aCons (eVar 6) (aCons (eVar 7) aNil)))) aNil)) (eC (.int 0)))) (sAsg 8 (eL (aLst (aCons (eTup (aCons (eVar 2) (aCons (eVar 3) (aCons (eVar 4) aNil)))) aNil)))) (sSeq (sAsg 9 (eBin fDiv (eVar 7) (eVar 4))) (sSeq (sIf (tE (eBin fGt (eVar 9) (eC (.int 300)))) sNever sNx) (sSeq (sAsg 10 (eL (aLc (iRng2 (aCons (eC (.int 1)) (aCons (eVar 9) aNil))) (gN 12) tYesD (eTup (aCons (eBin fAdd (eVar 5) (eBin fMul (eVar 12) (eVar 4))) (aCons (eVar 6) (aCons (eVar 7) aNil)))) [12]))) (sAsg 8 (eBin fAdd (eBin fAdd (eL (aLst (aCons (eTup (aCons (eVar 2) (aCons (eBin fSub (eVar 5) (eVar 4)) (aCons (eVar 4) aNil)))) aNil))) (eVar 10)) (eL (aLst (aCons (eTup (aCons (eBin fAdd (eVar 6) (eVar 4)) (aCons (eVar 3) (aCons (eVar 4) aNil)))) aNil))))))))) (sRet (eNL (aLc (iSeq (eVar 8)) (gN 11) (tE (eBin fGt (eCall 1 F_many_of (aCons (eVar 11) aNil)) (eC (.int 0)))) (eCall 1 F_normal_of (aCons (eVar 11) aNil)) [11]))))))
def F_pieces_of : DF := runB 13 2 B_pieces_of
theorem d_pieces_of (T : Txt K mg) : FnD P w K mg base 6 T.a_pieces_of T.d_pieces_of P_pieces_of F_pieces_of := fnD T.F_pieces_of sc_pieces_of (by decide) B_pieces_of (fun cdv A outer s H E hr => (sd_cons (sd_tg (vs := [2, 3, 4]) (ps_asg (by refine pd_call (k := 4) (f := T.a_normal_of) (fd := T.d_normal_of) (ps := P_normal_of) (F := F_normal_of) ?_ ?_ ?_ ?_ ?_ ?_ ?_ ?_; exact d_normal_of T; exact hr.mono (by decide); exact rfl; exact T.g_normal_of; exact T.F_normal_of.kp; exact b_normal_of T; exact (wok_takes (takes_of rfl rfl rfl rfl)); exact (ad_cons (pd_var 0) ad_nil)) (gd_tup rfl (gd_cons (gd_name (i := 2) sc_pieces_of.nd rfl (Or.inl rfl) (by decide)) (gd_cons (gd_name (i := 3) sc_pieces_of.nd rfl (Or.inl rfl) (by decide)) (gd_cons (gd_name (i := 4) sc_pieces_of.nd rfl (Or.inr rfl) (by decide)) gd_nil)))))) (sd_cons (sd_tg (vs := [5, 6, 7]) (ps_asg (by refine pd_call (k := 5) (f := T.a_met_of) (fd := T.d_met_of) (ps := P_met_of) (F := F_met_of) ?_ ?_ ?_ ?_ ?_ ?_ ?_ ?_; exact d_met_of T; exact hr.mono (by decide); exact rfl; exact T.g_met_of; exact T.F_met_of.kp; exact b_met_of T; exact (wok_takes (takes_of rfl rfl rfl rfl)); exact (ad_cons (pd_var 0) (ad_cons (pd_var 1) ad_nil))) (gd_tup rfl (gd_cons (gd_name (i := 5) sc_pieces_of.nd rfl (Or.inr rfl) (by decide)) (gd_cons (gd_name (i := 6) sc_pieces_of.nd rfl (Or.inr rfl) (by decide)) (gd_cons (gd_name (i := 7) sc_pieces_of.nd rfl (Or.inr rfl) (by decide)) gd_nil)))))) (sd_cons (sd_if (qd_eq hr.units (by refine pd_call (k := 1) (f := T.a_many_of) (fd := T.d_many_of) (ps := P_many_of) (F := F_many_of) ?_ ?_ ?_ ?_ ?_ ?_ ?_ ?_; exact d_many_of T; exact hr.mono (by decide); exact rfl; exact T.g_many_of; exact T.F_many_of.kp; exact b_many_of T; exact (wok_takes (takes_of rfl rfl rfl rfl)); exact (ad_cons (pd_tup (ad_cons (pd_var 5) (ad_cons (pd_var 6) (ad_cons (pd_var 7) ad_nil)))) ad_nil)) pd_int) (sd_one (sd_asg (ps_set (i := 8) sc_pieces_of.nd rfl (Or.inl rfl) (pd_L (pl_lst (ad_cons (pd_tup (ad_cons (pd_var 2) (ad_cons (pd_var 3) (ad_cons (pd_var 4) ad_nil)))) ad_nil)))))) (sd_cons (sd_asg (ps_set (i := 9) sc_pieces_of.nd rfl (Or.inl rfl) (pd_div (pd_var 7) (pd_var 4)))) (sd_cons (sd_if (qd_gt (pd_var 9) (pd_globI (by rfl) T.c_PIECES)) (sd_one sd_never) sd_nil) (sd_cons (by first | exact sd_asg (asg_weak (ps_setLc (own := [("turn", 12)]) (i := 10) rfl sc_pieces_of.nd rfl rfl rfl (id_rng2 (by rfl) T.z_range (ad_cons pd_int (ad_cons (pd_var 9) ad_nil))) (blkOk_by (own := [("turn", 12)]) (N := N_pieces_of) (sc := defScope s_pieces_of) (by decide +kernel)) (fun _ _ _ _ _ => (gd_name (i := 12) sc_pieces_of.nd rfl (Or.inl rfl) (by decide))) (fun _ _ _ _ _ => td_nil) (fun _ _ _ _ _ => (pd_tup (ad_cons (pd_add (pd_var 5) (pd_mul (pd_var 12) (pd_var 4))) (ad_cons (pd_var 6) (ad_cons (pd_var 7) ad_nil)))))) (fun _ _ _ h => lc_ok (eL_ok h))) | exact sd_asg (ps_set (i := 10) sc_pieces_of.nd rfl (Or.inl rfl) (pd_L (pl_lc (own := [("turn", 12)]) rfl sc_pieces_of.nd (id_rng2 (by rfl) T.z_range (ad_cons pd_int (ad_cons (pd_var 9) ad_nil))) (blkOk_by (own := [("turn", 12)]) (N := N_pieces_of) (sc := defScope s_pieces_of) (by decide +kernel)) (fun _ _ _ _ _ => (gd_name (i := 12) sc_pieces_of.nd rfl (Or.inl rfl) (by decide))) (fun _ _ _ _ _ => td_nil) (fun _ _ _ _ _ => (pd_tup (ad_cons (pd_add (pd_var 5) (pd_mul (pd_var 12) (pd_var 4))) (ad_cons (pd_var 6) (ad_cons (pd_var 7) ad_nil))))))))) (sd_one (sd_asg (ps_set (i := 8) sc_pieces_of.nd rfl (Or.inl rfl) (pd_add (pd_add (pd_L (pl_lst (ad_cons (pd_tup (ad_cons (pd_var 2) (ad_cons (pd_sub (pd_var 5) (pd_var 4)) (ad_cons (pd_var 4) ad_nil)))) ad_nil))) (pd_var 10)) (pd_L (pl_lst (ad_cons (pd_tup (ad_cons (pd_add (pd_var 6) (pd_var 4)) (ad_cons (pd_var 3) (ad_cons (pd_var 4) ad_nil)))) ad_nil))))))))))) (sd_one (sd_ret (pd_NL (pl_lc (own := [("piece", 11)]) rfl sc_pieces_of.nd (id_seq (pd_var 8)) (blkOk_by (own := [("piece", 11)]) (N := N_pieces_of) (sc := defScope s_pieces_of) (by decide +kernel)) (fun _ _ _ _ _ => (gd_name (i := 11) sc_pieces_of.nd rfl (Or.inl rfl) (by decide))) (fun _ _ _ _ _ => (td_one (qd_gt (by refine pd_call (k := 1) (f := T.a_many_of) (fd := T.d_many_of) (ps := P_many_of) (F := F_many_of) ?_ ?_ ?_ ?_ ?_ ?_ ?_ ?_; exact d_many_of T; exact hr.mono (by decide); exact rfl; exact T.g_many_of; exact T.F_many_of.kp; exact b_many_of T; exact wok0; exact (ad_cons (pd_var 11) ad_nil)) pd_int))) (fun _ _ _ _ _ => (by refine pd_call (k := 4) (f := T.a_normal_of) (fd := T.d_normal_of) (ps := P_normal_of) (F := F_normal_of) ?_ ?_ ?_ ?_ ?_ ?_ ?_ ?_; exact d_normal_of T; exact hr.mono (by decide); exact rfl; exact T.g_normal_of; exact T.F_normal_of.kp; exact b_normal_of T; exact wok0; exact (ad_cons (pd_var 11) ad_nil)))))))))))
def B_pieces_beyond : DS := (sSeq (sAsg 3 (eL (aLst (aCons (eCall 1 F_normal_of (aCons (eVar 0) aNil)) aNil)))) (sSeq (sFor (iSeq (eVar 1)) (gN 4) (sSeq (sAsg 5 (eL (aLst aNil))) (sSeq (sFor (iSeq (eVar 3)) (gN 6) (sSeq (sAsg 5 (eBin fAdd (eVar 5) (eWk (eCall 2 F_pieces_of (aCons (eVar 6) (aCons (eVar 4) aNil)))))) (sIf (tE (eBin fGt (eCB fLen (aCons (eVar 5) aNil)) (eVar 2))) sNever sNx))) (sAsg 3 (eVar 5))))) (sRet (eL (aLc (iSeq (eVar 3)) (gN 6) (tE (eBin fGt (eCall 1 F_many_of (aCons (eVar 6) aNil)) (eC (.int 0)))) (eVar 6) [6])))))
def F_pieces_beyond : DF := runB 7 3 B_pieces_beyond
theorem d_pieces_beyond (T : Txt K mg) : FnD P w K mg base 7 T.a_pieces_beyond T.d_pieces_beyond P_pieces_beyond F_pieces_beyond := fnD T.F_pieces_beyond sc_pieces_beyond (by decide) B_pieces_beyond (fun cdv A outer s H E hr => (sd_cons (sd_asg (ps_set (i := 3) sc_pieces_beyond.nd rfl (Or.inl rfl) (pd_L (pl_lst (ad_cons (by refine pd_call (k := 4) (f := T.a_normal_of) (fd := T.d_normal_of) (ps := P_normal_of) (F := F_normal_of) ?_ ?_ ?_ ?_ ?_ ?_ ?_ ?_; exact d_normal_of T; exact hr.mono (by decide); exact rfl; exact T.g_normal_of; exact T.F_normal_of.kp; exact b_normal_of T; exact (wok_takes (takes_of rfl rfl rfl rfl)); exact (ad_cons (pd_var 0) ad_nil)) ad_nil))))) (sd_cons (sd_for (vs := [4]) (passes_of rfl) rfl (id_seq (pd_var 1)) (gd_name (i := 4) sc_pieces_beyond.nd rfl (Or.inl rfl) (by decide)) (sd_cons (sd_asg (ps_set (i := 5) sc_pieces_beyond.nd rfl (Or.inl rfl) (pd_L (pl_lst ad_nil)))) (sd_cons (sd_for (vs := [6]) (passes_of rfl) rfl (id_seq (pd_var 3)) (gd_name (i := 6) sc_pieces_beyond.nd rfl (Or.inl rfl) (by decide)) (sd_cons (sd_asg (ps_set (i := 5) sc_pieces_beyond.nd rfl (Or.inl rfl) (pd_add (pd_var 5) (pd_wk (by refine pd_call (k := 6) (f := T.a_pieces_of) (fd := T.d_pieces_of) (ps := P_pieces_of) (F := F_pieces_of) ?_ ?_ ?_ ?_ ?_ ?_ ?_ ?_; exact d_pieces_of T; exact hr.mono (by decide); exact rfl; exact T.g_pieces_of; exact T.F_pieces_of.kp; exact b_pieces_of T; exact (wok_takes (takes_of rfl rfl rfl rfl)); exact (ad_cons (pd_var 6) (ad_cons (pd_var 4) ad_nil))))))) (sd_one (sd_if (qd_gt (pd_cb call_len cd_len (by rfl) T.z_len (by decide +kernel) (ad_cons (pd_var 5) ad_nil)) (pd_var 2)) (sd_one sd_never) sd_nil)))) (sd_one (sd_asg (ps_set (i := 3) sc_pieces_beyond.nd rfl (Or.inl rfl) (pd_var 5))))))) (sd_one (sd_ret (pd_L (pl_lc (own := [("piece", 6)]) rfl sc_pieces_beyond.nd (id_seq (pd_var 3)) (blkOk_by (own := [("piece", 6)]) (N := N_pieces_beyond) (sc := defScope s_pieces_beyond) (by decide +kernel)) (fun _ _ _ _ _ => (gd_name (i := 6) sc_pieces_beyond.nd rfl (Or.inl rfl) (by decide))) (fun _ _ _ _ _ => (td_one (qd_gt (by refine pd_call (k := 1) (f := T.a_many_of) (fd := T.d_many_of) (ps := P_many_of) (F := F_many_of) ?_ ?_ ?_ ?_ ?_ ?_ ?_ ?_; exact d_many_of T; exact hr.mono (by decide); exact rfl; exact T.g_many_of; exact T.F_many_of.kp; exact b_many_of T; exact wok0; exact (ad_cons (pd_var 6) ad_nil)) pd_int))) (fun _ _ _ _ _ => (pd_var 6)))))))))
def B_triplet_size : DS := (sSeq (sDrop (eCall 2 F_check_triplet (aCons (eVar 0) (aCons (eC (.str "triplet")) aNil)))) (sRet (eCall 1 F_many_of (aCons (eVar 0) aNil))))
def F_triplet_size : DF := runB 1 1 B_triplet_size
theorem d_triplet_size (T : Txt K mg) : FnD P w K mg base 5 T.a_triplet_size T.d_triplet_size P_triplet_size F_triplet_size := fnD T.F_triplet_size sc_triplet_size (by decide) B_triplet_size (fun cdv A outer s H E hr => (sd_cons (sd_expr (by refine pd_call (k := 4) (f := T.a_check_triplet) (fd := T.d_check_triplet) (ps := P_check_triplet) (F := F_check_triplet) ?_ ?_ ?_ ?_ ?_ ?_ ?_ ?_; exact d_check_triplet T; exact hr.mono (by decide); exact rfl; exact T.g_check_triplet; exact T.F_check_triplet.kp; exact b_check_triplet T; exact (wok_takes (takes_of rfl rfl rfl rfl)); exact (ad_cons (pd_var 0) (ad_cons pd_str ad_nil)))) (sd_one (sd_ret (by refine pd_call (k := 1) (f := T.a_many_of) (fd := T.d_many_of) (ps := P_many_of) (F := F_many_of) ?_ ?_ ?_ ?_ ?_ ?_ ?_ ?_; exact d_many_of T; exact hr.mono (by decide); exact rfl; exact T.g_many_of; exact T.F_many_of.kp; exact b_many_of T; exact (wok_takes (takes_of rfl rfl rfl rfl)); exact (ad_cons (pd_var 0) ad_nil))))))
def B_met : DS := (sSeq (sDrop (eCall 2 F_check_two (aCons (eVar 0) (aCons (eVar 1) aNil)))) (sRet (eCall 2 F_met_of (aCons (eVar 0) (aCons (eVar 1) aNil)))))
def F_met : DF := runB 2 2 B_met
theorem d_met (T : Txt K mg) : FnD P w K mg base 6 T.a_met T.d_met P_met F_met := fnD T.F_met sc_met (by decide) B_met (fun cdv A outer s H E hr => (sd_cons (sd_expr (by refine pd_call (k := 5) (f := T.a_check_two) (fd := T.d_check_two) (ps := P_check_two) (F := F_check_two) ?_ ?_ ?_ ?_ ?_ ?_ ?_ ?_; exact d_check_two T; exact hr.mono (by decide); exact rfl; exact T.g_check_two; exact T.F_check_two.kp; exact b_check_two T; exact (wok_takes (takes_of rfl rfl rfl rfl)); exact (ad_cons (pd_var 0) (ad_cons (pd_var 1) ad_nil)))) (sd_one (sd_ret (by refine pd_call (k := 5) (f := T.a_met_of) (fd := T.d_met_of) (ps := P_met_of) (F := F_met_of) ?_ ?_ ?_ ?_ ?_ ?_ ?_ ?_; exact d_met_of T; exact hr.mono (by decide); exact rfl; exact T.g_met_of; exact T.F_met_of.kp; exact b_met_of T; exact (wok_takes (takes_of rfl rfl rfl rfl)); exact (ad_cons (pd_var 0) (ad_cons (pd_var 1) ad_nil)))))))
def B_less : DS := (sSeq (sDrop (eCall 2 F_check_two (aCons (eVar 0) (aCons (eVar 1) aNil)))) (sRet (eCall 2 F_pieces_of (aCons (eVar 0) (aCons (eVar 1) aNil)))))
def F_less : DF := runB 2 2 B_less
theorem d_less (T : Txt K mg) : FnD P w K mg base 7 T.a_less T.d_less P_less F_less := fnD T.F_less sc_less (by decide) B_less (fun cdv A outer s H E hr => (sd_cons (sd_expr (by refine pd_call (k := 5) (f := T.a_check_two) (fd := T.d_check_two) (ps := P_check_two) (F := F_check_two) ?_ ?_ ?_ ?_ ?_ ?_ ?_ ?_; exact d_check_two T; exact hr.mono (by decide); exact rfl; exact T.g_check_two; exact T.F_check_two.kp; exact b_check_two T; exact (wok_takes (takes_of rfl rfl rfl rfl)); exact (ad_cons (pd_var 0) (ad_cons (pd_var 1) ad_nil)))) (sd_one (sd_ret (by refine pd_call (k := 6) (f := T.a_pieces_of) (fd := T.d_pieces_of) (ps := P_pieces_of) (F := F_pieces_of) ?_ ?_ ?_ ?_ ?_ ?_ ?_ ?_; exact d_pieces_of T; exact hr.mono (by decide); exact rfl; exact T.g_pieces_of; exact T.F_pieces_of.kp; exact b_pieces_of T; exact (wok_takes (takes_of rfl rfl rfl rfl)); exact (ad_cons (pd_var 0) (ad_cons (pd_var 1) ad_nil)))))))
def B_apart : DS := (sSeq (sDrop (eCall 1 F_check_triplets (aCons (eVar 0) aNil))) (sSeq (sAsg 1 (eNL (aLst aNil))) (sSeq (sFor (iEnumS (aCons (eVar 0) aNil)) (gT (gCons' (gN 2) (gCons' (gN 3) gNil')) 2) (sAsg 1 (eNL (aCat (eVar 1) (eCall 3 F_pieces_beyond (aCons (eVar 3) (aCons (eSl (eVar 0) oNone (oSome (eVar 2))) (aCons (eBin fSub (eC (.int 300)) (eCB fLen (aCons (eWk (eVar 1)) aNil))) aNil)))))))) (sRet (eVar 1)))))
def F_apart : DF := runB 4 1 B_apart
theorem d_apart (T : Txt K mg) : FnD P w K mg base 8 T.a_apart T.d_apart P_apart F_apart := fnD T.F_apart sc_apart (by decide) B_apart (fun cdv A outer s H E hr => (sd_cons (sd_expr (by refine pd_call (k := 4) (f := T.a_check_triplets) (fd := T.d_check_triplets) (ps := P_check_triplets) (F := F_check_triplets) ?_ ?_ ?_ ?_ ?_ ?_ ?_ ?_; exact d_check_triplets T; exact hr.mono (by decide); exact rfl; exact T.g_check_triplets; exact T.F_check_triplets.kp; exact b_check_triplets T; exact (wok_takes (takes_of rfl rfl rfl rfl)); exact (ad_cons (pd_var 0) ad_nil))) (sd_cons (sd_asg (ps_set (i := 1) sc_apart.nd rfl (Or.inl rfl) (pd_NL (pl_lst ad_nil)))) (sd_cons (sd_for (vs := [2, 3]) (passes_of rfl) rfl (id_enumS (by rfl) T.z_enumerate (ad_cons (pd_var 0) ad_nil)) (gd_tup rfl (gd_cons (gd_name (i := 2) sc_apart.nd rfl (Or.inl rfl) (by decide)) (gd_cons (gd_name (i := 3) sc_apart.nd rfl (Or.inl rfl) (by decide)) gd_nil))) (sd_one (sd_asg (ps_set (i := 1) sc_apart.nd rfl (Or.inl rfl) (pd_NL (pl_cat (pd_var 1) (by refine pd_call (k := 7) (f := T.a_pieces_beyond) (fd := T.d_pieces_beyond) (ps := P_pieces_beyond) (F := F_pieces_beyond) ?_ ?_ ?_ ?_ ?_ ?_ ?_ ?_; exact d_pieces_beyond T; exact hr.mono (by decide); exact rfl; exact T.g_pieces_beyond; exact T.F_pieces_beyond.kp; exact b_pieces_beyond T; exact (wok_takes (takes_of rfl rfl rfl rfl)); exact (ad_cons (pd_var 3) (ad_cons (pd_sl (pd_var 0) od_none (od_some (pd_var 2))) (ad_cons (pd_sub (pd_globI (by rfl) T.c_PIECES) (pd_cb call_len cd_len (by rfl) T.z_len (by decide +kernel) (ad_cons (pd_wk (pd_var 1)) ad_nil))) ad_nil)))))))))) (sd_one (sd_ret (pd_var 1)))))))
def B_w_draw : DS := (sSeq (sIf (tE (eBin fGt (eBin fIx (eVar 0) (eC (.int 0))) (eC (.int 0)))) (sSeq (sAsg 2 (eBin fMod (eCB fInt (aCons (eBin fIx (eVar 0) (eC (.int 0))) aNil)) (eVar 1))) (sSeq (sSetW (eVar 0) (eC (.int 0)) (eBin fDiv (eBin fIx (eVar 0) (eC (.int 0))) (eVar 1))) (sRet (eVar 2)))) sNx) (sSeq (sSetW (eVar 0) (eC (.int 2)) (eBin fAdd (eBin fIx (eVar 0) (eC (.int 2))) (eC (.int 1)))) (sSeq (sAsg 3 (eBin fMod (eCB fInt (aCons (eBin fMul (eBin fAdd (eBin fAdd (eBin fIx (eVar 0) (eC (.int 1))) (eBin fMul (eC (.int 50021)) (eBin fIx (eVar 0) (eC (.int 2))))) (eC (.int 73))) (eC (.int 40692))) aNil)) (eC (.int 2147483629)))) (sSeq (sAsg 3 (eBin fMod (eCB fInt (aCons (eBin fMul (eVar 3) (eBin fAdd (eBin fDiv (eVar 3) (eC (.int 1031))) (eC (.int 69621)))) aNil)) (eC (.int 2147483579)))) (sRet (eBin fMod (eCB fInt (aCons (eBin fDiv (eBin fMod (eCB fInt (aCons (eBin fMul (eVar 3) (eBin fAdd (eBin fDiv (eVar 3) (eC (.int 2017))) (eC (.int 48271)))) aNil)) (eC (.int 2147483549))) (eC (.int 13))) aNil)) (eVar 1)))))))
def F_w_draw : DF := runB 4 2 B_w_draw
theorem d_w_draw (T : Txt K mg) : FnD P w K mg base 1 T.a_w_draw T.d_w_draw P_w_draw F_w_draw := fnD T.F_w_draw sc_w_draw (by decide) B_w_draw (fun cdv A outer s H E hr => (sd_cons (sd_if (qd_gt (pd_ix (pd_var 0) pd_int) pd_int) (sd_cons (sd_asg (ps_set (i := 2) sc_w_draw.nd rfl (Or.inl rfl) (pd_mod (pd_ct call_int1 cd_int (by rfl) T.z_int (by decide +kernel) (ad_cons (pd_ix (pd_var 0) pd_int) ad_nil)) (pd_var 1)))) (sd_cons (sd_setW (ps_asg (pd_div (pd_ix (pd_var 0) pd_int) (pd_var 1)) (pg_sub (pd_var 0) pd_int set_list))) (sd_one (sd_ret (pd_var 2))))) sd_nil) (sd_cons (sd_setW (ps_asg (pd_add (pd_ix (pd_var 0) pd_int) pd_int) (pg_sub (pd_var 0) pd_int set_list))) (sd_cons (sd_asg (ps_set (i := 3) sc_w_draw.nd rfl (Or.inl rfl) (pd_mod (pd_ct call_int1 cd_int (by rfl) T.z_int (by decide +kernel) (ad_cons (pd_mul (pd_add (pd_add (pd_ix (pd_var 0) pd_int) (pd_mul pd_int (pd_ix (pd_var 0) pd_int))) pd_int) pd_int) ad_nil)) pd_int))) (sd_cons (sd_asg (ps_set (i := 3) sc_w_draw.nd rfl (Or.inl rfl) (pd_mod (pd_ct call_int1 cd_int (by rfl) T.z_int (by decide +kernel) (ad_cons (pd_mul (pd_var 3) (pd_add (pd_div (pd_var 3) pd_int) pd_int)) ad_nil)) pd_int))) (sd_one (sd_ret (pd_mod (pd_ct call_int1 cd_int (by rfl) T.z_int (by decide +kernel) (ad_cons (pd_div (pd_mod (pd_ct call_int1 cd_int (by rfl) T.z_int (by decide +kernel) (ad_cons (pd_mul (pd_var 3) (pd_add (pd_div (pd_var 3) pd_int) pd_int)) ad_nil)) pd_int) pd_int) ad_nil)) (pd_var 1)))))))))
def B_w_pick : DS := (sRet (eBin fIx (eVar 1) (eCall 2 F_w_draw (aCons (eVar 0) (aCons (eCB fLen (aCons (eVar 1) aNil)) aNil)))))
def F_w_pick : DF := runB 2 2 B_w_pick
theorem d_w_pick (T : Txt K mg) : FnD P w K mg base 2 T.a_w_pick T.d_w_pick P_w_pick F_w_pick := fnD T.F_w_pick sc_w_pick (by decide) B_w_pick (fun cdv A outer s H E hr => (sd_one (sd_ret (pd_ix (pd_var 1) (by refine pd_call (k := 1) (f := T.a_w_draw) (fd := T.d_w_draw) (ps := P_w_draw) (F := F_w_draw) ?_ ?_ ?_ ?_ ?_ ?_ ?_ ?_; exact d_w_draw T; exact hr.mono (by decide); exact rfl; exact T.g_w_draw; exact T.F_w_draw.kp; exact b_w_draw T; exact (wok_takes (takes_of rfl rfl rfl rfl)); exact (ad_cons (pd_var 0) (ad_cons (pd_cb call_len cd_len (by rfl) T.z_len (by decide +kernel) (ad_cons (pd_var 1) ad_nil)) ad_nil)))))))
def B_w_members : DS := (sSeq (sNew 1 (aLst aNil)) (sSeq (sFor (iRng1 (aCons (eC (.int 200)) aNil)) (gN 2) (sSeq (sAsg 3 (eBin fAdd (eBin fIx (eVar 0) (eC (.int 0))) (eBin fMul (eVar 2) (eBin fIx (eVar 0) (eC (.int 2)))))) (sSeq (sIf (tOn (tAn (tE (eBin fGt (eBin fIx (eVar 0) (eC (.int 2))) (eC (.int 0)))) (tE (eBin fGt (eVar 3) (eBin fIx (eVar 0) (eC (.int 1)))))) (tAn (tE (eBin fLt (eBin fIx (eVar 0) (eC (.int 2))) (eC (.int 0)))) (tE (eBin fLt (eVar 3) (eBin fIx (eVar 0) (eC (.int 1))))))) (sFrz 1 (sRet (eVar 1))) sNx) (sApp 1 (eVar 3))))) (sFrz 1 (sRet (eVar 1)))))
def F_w_members : DF := runB 4 1 B_w_members
theorem d_w_members (T : Txt K mg) : FnD P w K mg base 1 T.a_w_members T.d_w_members P_w_members F_w_members := fnD T.F_w_members sc_w_members (by decide) B_w_members (fun cdv A outer s H E hr => (sd_cons (sd_new (ps_set (i := 1) sc_w_members.nd rfl (Or.inl rfl) (pl_lst ad_nil))) (sd_cons (sd_for (vs := [2]) (passes_of rfl) rfl (id_rng1 (by rfl) T.z_range (ad_cons pd_int ad_nil)) (gd_name (i := 2) sc_w_members.nd rfl (Or.inl rfl) (by decide)) (sd_cons (sd_asg (ps_set (i := 3) sc_w_members.nd rfl (Or.inl rfl) (pd_add (pd_ix (pd_var 0) pd_int) (pd_mul (pd_var 2) (pd_ix (pd_var 0) pd_int))))) (sd_cons (sd_if (qd_or (qd_and (qd_gt (pd_ix (pd_var 0) pd_int) pd_int) (qd_and1 (qd_gt (pd_var 3) (pd_ix (pd_var 0) pd_int)))).pt (qd_or1 (qd_and (qd_lt (pd_ix (pd_var 0) pd_int) pd_int) (qd_and1 (qd_lt (pd_var 3) (pd_ix (pd_var 0) pd_int)))).pt)).pt (sd_frz 1 (sd_one (sd_ret (pd_var 1)))) sd_nil) (sd_one (sd_app (ps_expr (pe_bm PySem.F.plainAttrs_list PySem.F.slot_list_append PySem.F.type_list_append mt_append (pv 1) (pa_cons (pd_var 3) pa_nil)))))))) (sd_frz 1 (sd_one (sd_ret (pd_var 1)))))))
def B_w_near : DS := (sSeq (sAsg 1 (eBin fAdd (eC (.int 1)) (eCall 2 F_w_pick (aCons (eVar 0) (aCons (eL (aLst (aCons (eC (.int 0)) (aCons (eC (.int 0)) (aCons (eC (.int 1)) (aCons (eC (.int 2)) (aCons (eC (.int 3)) (aCons (eC (.int 4)) (aCons (eC (.int 5)) (aCons (eC (.int 8)) aNil)))))))))) aNil))))) (sSeq (sAsg 2 (eBin fSub (eCall 2 F_w_draw (aCons (eVar 0) (aCons (eC (.int 41)) aNil))) (eC (.int 20)))) (sSeq (sAsg 3 (eBin fSub (eBin fAdd (eVar 2) (eCall 2 F_w_draw (aCons (eVar 0) (aCons (eC (.int 61)) aNil)))) (eC (.int 20)))) (sRet (eIf (tE (eBin fEq (eCall 2 F_w_draw (aCons (eVar 0) (aCons (eC (.int 2)) aNil))) (eC (.int 0)))) (eTup (aCons (eVar 2) (aCons (eVar 3) (aCons (eVar 1) aNil)))) (eTup (aCons (eVar 3) (aCons (eVar 2) (aCons (eBin fSub (eC (.int 0)) (eVar 1)) aNil)))))))))
def F_w_near : DF := runB 4 1 B_w_near
theorem d_w_near (T : Txt K mg) : FnD P w K mg base 3 T.a_w_near T.d_w_near P_w_near F_w_near := fnD T.F_w_near sc_w_near (by decide) B_w_near (fun cdv A outer s H E hr => (sd_cons (sd_asg (ps_set (i := 1) sc_w_near.nd rfl (Or.inl rfl) (pd_add pd_int (by refine pd_call (k := 2) (f := T.a_w_pick) (fd := T.d_w_pick) (ps := P_w_pick) (F := F_w_pick) ?_ ?_ ?_ ?_ ?_ ?_ ?_ ?_; exact d_w_pick T; exact hr.mono (by decide); exact rfl; exact T.g_w_pick; exact T.F_w_pick.kp; exact b_w_pick T; exact (wok_takes (takes_of rfl rfl rfl rfl)); exact (ad_cons (pd_var 0) (ad_cons (pd_L (pl_lst (ad_cons pd_int (ad_cons pd_int (ad_cons pd_int (ad_cons pd_int (ad_cons pd_int (ad_cons pd_int (ad_cons pd_int (ad_cons pd_int ad_nil)))))))))) ad_nil)))))) (sd_cons (sd_asg (ps_set (i := 2) sc_w_near.nd rfl (Or.inl rfl) (pd_sub (by refine pd_call (k := 1) (f := T.a_w_draw) (fd := T.d_w_draw) (ps := P_w_draw) (F := F_w_draw) ?_ ?_ ?_ ?_ ?_ ?_ ?_ ?_; exact d_w_draw T; exact hr.mono (by decide); exact rfl; exact T.g_w_draw; exact T.F_w_draw.kp; exact b_w_draw T; exact (wok_takes (takes_of rfl rfl rfl rfl)); exact (ad_cons (pd_var 0) (ad_cons pd_int ad_nil))) pd_int))) (sd_cons (sd_asg (ps_set (i := 3) sc_w_near.nd rfl (Or.inl rfl) (pd_sub (pd_add (pd_var 2) (by refine pd_call (k := 1) (f := T.a_w_draw) (fd := T.d_w_draw) (ps := P_w_draw) (F := F_w_draw) ?_ ?_ ?_ ?_ ?_ ?_ ?_ ?_; exact d_w_draw T; exact hr.mono (by decide); exact rfl; exact T.g_w_draw; exact T.F_w_draw.kp; exact b_w_draw T; exact (wok_takes (takes_of rfl rfl rfl rfl)); exact (ad_cons (pd_var 0) (ad_cons pd_int ad_nil)))) pd_int))) (sd_one (sd_ret (pd_if (qd_eq hr.units (by refine pd_call (k := 1) (f := T.a_w_draw) (fd := T.d_w_draw) (ps := P_w_draw) (F := F_w_draw) ?_ ?_ ?_ ?_ ?_ ?_ ?_ ?_; exact d_w_draw T; exact hr.mono (by decide); exact rfl; exact T.g_w_draw; exact T.F_w_draw.kp; exact b_w_draw T; exact (wok_takes (takes_of rfl rfl rfl rfl)); exact (ad_cons (pd_var 0) (ad_cons pd_int ad_nil))) pd_int) (pd_tup (ad_cons (pd_var 2) (ad_cons (pd_var 3) (ad_cons (pd_var 1) ad_nil)))) (pd_tup (ad_cons (pd_var 3) (ad_cons (pd_var 2) (ad_cons (pd_sub pd_int (pd_var 1)) ad_nil)))))))))))
def B_w_shown : DS := (sSeq (sIf (tE (eBin fEq (eVar 0) (eL (aLst aNil)))) (sRet (eTup (aCons (eC (.int 0)) (aCons (eUn fNeg (eC (.int 1))) (aCons (eC (.int 1)) aNil))))) sNx) (sRet (eTup (aCons (eBin fIx (eVar 0) (eC (.int 0))) (aCons (eBin fIx (eVar 0) (eUn fNeg (eC (.int 1)))) (aCons (eIf (tE (eBin fGt (eCB fLen (aCons (eVar 0) aNil)) (eC (.int 1)))) (eBin fSub (eBin fIx (eVar 0) (eC (.int 1))) (eBin fIx (eVar 0) (eC (.int 0)))) (eC (.int 1))) aNil))))))
def F_w_shown : DF := runB 1 1 B_w_shown
theorem d_w_shown (T : Txt K mg) : FnD P w K mg base 1 T.a_w_shown T.d_w_shown P_w_shown F_w_shown := fnD T.F_w_shown sc_w_shown (by decide) B_w_shown (fun cdv A outer s H E hr => (sd_cons (sd_if (qd_eq hr.units (pd_var 0) (pd_L (pl_lst ad_nil))) (sd_one (sd_ret (pd_tup (ad_cons pd_int (ad_cons (pd_neg pd_int) (ad_cons pd_int ad_nil)))))) sd_nil) (sd_one (sd_ret (pd_tup (ad_cons (pd_ix (pd_var 0) pd_int) (ad_cons (pd_ix (pd_var 0) (pd_neg pd_int)) (ad_cons (pd_if (qd_gt (pd_cb call_len cd_len (by rfl) T.z_len (by decide +kernel) (ad_cons (pd_var 0) ad_nil)) pd_int) (pd_sub (pd_ix (pd_var 0) pd_int) (pd_ix (pd_var 0) pd_int)) pd_int) ad_nil))))))))
def B_w_far : DS := (sSeq (sAsg 1 (eL (aLst (aCons (eBin fPow (eC (.int 10)) (eC (.int 30))) (aCons (eBin fSub (eBin fPow (eC (.int 10)) (eC (.int 30))) (eC (.int 1))) (aCons (eBin fPow (eC (.int 10)) (eC (.int 20))) (aCons (eBin fMul (eC (.int 3)) (eBin fPow (eC (.int 10)) (eC (.int 18)))) (aCons (eC (.int 0)) (aCons (eBin fMul (eCall 2 F_w_draw (aCons (eVar 0) (aCons (eBin fPow (eC (.int 10)) (eC (.int 9))) aNil))) (eBin fPow (eC (.int 10)) (eC (.int 20)))) (aCons (eCall 2 F_w_draw (aCons (eVar 0) (aCons (eC (.int 99)) aNil))) aNil)))))))))) (sSeq (sMul [2, 3] (mVal (eCall 2 F_w_pick (aCons (eVar 0) (aCons (eVar 1) aNil))) (mVal (eCall 2 F_w_pick (aCons (eVar 0) (aCons (eVar 1) aNil))) aNil))) (sSeq (sMul [2, 3] (mVal (eBin fMul (eVar 2) (eBin fSub (eC (.int 1)) (eBin fMul (eC (.int 2)) (eCall 2 F_w_draw (aCons (eVar 0) (aCons (eC (.int 2)) aNil)))))) (mVal (eBin fMul (eVar 3) (eBin fSub (eC (.int 1)) (eBin fMul (eC (.int 2)) (eCall 2 F_w_draw (aCons (eVar 0) (aCons (eC (.int 2)) aNil)))))) aNil))) (sSeq (sAsg 4 (eCall 2 F_w_pick (aCons (eVar 0) (aCons (eL (aLst (aCons (eC (.int 1)) (aCons (eC (.int 1)) (aCons (eC (.int 2)) (aCons (eC (.int 3)) (aCons (eC (.int 7)) (aCons (eC (.int 60)) (aCons (eBin fPow (eC (.int 10)) (eC (.int 15))) (aCons (eBin fPow (eC (.int 10)) (eC (.int 30))) (aCons (eBin fAdd (eC (.int 1)) (eCall 2 F_w_draw (aCons (eVar 0) (aCons (eBin fPow (eC (.int 10)) (eC (.int 9))) aNil)))) aNil))))))))))) aNil)))) (sRet (eTup (aCons (eVar 2) (aCons (eVar 3) (aCons (eBin fMul (eVar 4) (eBin fSub (eC (.int 1)) (eBin fMul (eC (.int 2)) (eCall 2 F_w_draw (aCons (eVar 0) (aCons (eC (.int 2)) aNil)))))) aNil)))))))))
def F_w_far : DF := runB 5 1 B_w_far
theorem d_w_far (T : Txt K mg) : FnD P w K mg base 3 T.a_w_far T.d_w_far P_w_far F_w_far := fnD T.F_w_far sc_w_far (by decide) B_w_far (fun cdv A outer s H E hr => (sd_cons (sd_asg (ps_set (i := 1) sc_w_far.nd rfl (Or.inl rfl) (pd_L (pl_lst (ad_cons (pd_pow pd_int pd_int) (ad_cons (pd_sub (pd_pow pd_int pd_int) pd_int) (ad_cons (pd_pow pd_int pd_int) (ad_cons (pd_mul pd_int (pd_pow pd_int pd_int)) (ad_cons pd_int (ad_cons (pd_mul (by refine pd_call (k := 1) (f := T.a_w_draw) (fd := T.d_w_draw) (ps := P_w_draw) (F := F_w_draw) ?_ ?_ ?_ ?_ ?_ ?_ ?_ ?_; exact d_w_draw T; exact hr.mono (by decide); exact rfl; exact T.g_w_draw; exact T.F_w_draw.kp; exact b_w_draw T; exact (wok_takes (takes_of rfl rfl rfl rfl)); exact (ad_cons (pd_var 0) (ad_cons (pd_pow pd_int pd_int) ad_nil))) (pd_pow pd_int pd_int)) (ad_cons (by refine pd_call (k := 1) (f := T.a_w_draw) (fd := T.d_w_draw) (ps := P_w_draw) (F := F_w_draw) ?_ ?_ ?_ ?_ ?_ ?_ ?_ ?_; exact d_w_draw T; exact hr.mono (by decide); exact rfl; exact T.g_w_draw; exact T.F_w_draw.kp; exact b_w_draw T; exact (wok_takes (takes_of rfl rfl rfl rfl)); exact (ad_cons (pd_var 0) (ad_cons pd_int ad_nil))) ad_nil))))))))))) (sd_cons (sd_par2 (ps_par rfl sc_w_far.nd rfl rfl (by decide) rfl rfl (md_val (by refine pd_call (k := 2) (f := T.a_w_pick) (fd := T.d_w_pick) (ps := P_w_pick) (F := F_w_pick) ?_ ?_ ?_ ?_ ?_ ?_ ?_ ?_; exact d_w_pick T; exact hr.mono (by decide); exact rfl; exact T.g_w_pick; exact T.F_w_pick.kp; exact b_w_pick T; exact (wok_takes (takes_of rfl rfl rfl rfl)); exact (ad_cons (pd_var 0) (ad_cons (pd_var 1) ad_nil))) (md_val (by refine pd_call (k := 2) (f := T.a_w_pick) (fd := T.d_w_pick) (ps := P_w_pick) (F := F_w_pick) ?_ ?_ ?_ ?_ ?_ ?_ ?_ ?_; exact d_w_pick T; exact hr.mono (by decide); exact rfl; exact T.g_w_pick; exact T.F_w_pick.kp; exact b_w_pick T; exact (wok_takes (takes_of rfl rfl rfl rfl)); exact (ad_cons (pd_var 0) (ad_cons (pd_var 1) ad_nil))) md_nil)) rfl)) (sd_cons (sd_par2 (ps_par rfl sc_w_far.nd rfl rfl (by decide) rfl rfl (md_val (pd_mul (pd_var 2) (pd_sub pd_int (pd_mul pd_int (by refine pd_call (k := 1) (f := T.a_w_draw) (fd := T.d_w_draw) (ps := P_w_draw) (F := F_w_draw) ?_ ?_ ?_ ?_ ?_ ?_ ?_ ?_; exact d_w_draw T; exact hr.mono (by decide); exact rfl; exact T.g_w_draw; exact T.F_w_draw.kp; exact b_w_draw T; exact (wok_takes (takes_of rfl rfl rfl rfl)); exact (ad_cons (pd_var 0) (ad_cons pd_int ad_nil)))))) (md_val (pd_mul (pd_var 3) (pd_sub pd_int (pd_mul pd_int (by refine pd_call (k := 1) (f := T.a_w_draw) (fd := T.d_w_draw) (ps := P_w_draw) (F := F_w_draw) ?_ ?_ ?_ ?_ ?_ ?_ ?_ ?_; exact d_w_draw T; exact hr.mono (by decide); exact rfl; exact T.g_w_draw; exact T.F_w_draw.kp; exact b_w_draw T; exact (wok_takes (takes_of rfl rfl rfl rfl)); exact (ad_cons (pd_var 0) (ad_cons pd_int ad_nil)))))) md_nil)) rfl)) (sd_cons (sd_asg (ps_set (i := 4) sc_w_far.nd rfl (Or.inl rfl) (by refine pd_call (k := 2) (f := T.a_w_pick) (fd := T.d_w_pick) (ps := P_w_pick) (F := F_w_pick) ?_ ?_ ?_ ?_ ?_ ?_ ?_ ?_; exact d_w_pick T; exact hr.mono (by decide); exact rfl; exact T.g_w_pick; exact T.F_w_pick.kp; exact b_w_pick T; exact (wok_takes (takes_of rfl rfl rfl rfl)); exact (ad_cons (pd_var 0) (ad_cons (pd_L (pl_lst (ad_cons pd_int (ad_cons pd_int (ad_cons pd_int (ad_cons pd_int (ad_cons pd_int (ad_cons pd_int (ad_cons (pd_pow pd_int pd_int) (ad_cons (pd_pow pd_int pd_int) (ad_cons (pd_add pd_int (by refine pd_call (k := 1) (f := T.a_w_draw) (fd := T.d_w_draw) (ps := P_w_draw) (F := F_w_draw) ?_ ?_ ?_ ?_ ?_ ?_ ?_ ?_; exact d_w_draw T; exact hr.mono (by decide); exact rfl; exact T.g_w_draw; exact T.F_w_draw.kp; exact b_w_draw T; exact (wok_takes (takes_of rfl rfl rfl rfl)); exact (ad_cons (pd_var 0) (ad_cons (pd_pow pd_int pd_int) ad_nil)))) ad_nil))))))))))) ad_nil))))) (sd_one (sd_ret (pd_tup (ad_cons (pd_var 2) (ad_cons (pd_var 3) (ad_cons (pd_mul (pd_var 4) (pd_sub pd_int (pd_mul pd_int (by refine pd_call (k := 1) (f := T.a_w_draw) (fd := T.d_w_draw) (ps := P_w_draw) (F := F_w_draw) ?_ ?_ ?_ ?_ ?_ ?_ ?_ ?_; exact d_w_draw T; exact hr.mono (by decide); exact rfl; exact T.g_w_draw; exact T.F_w_draw.kp; exact b_w_draw T; exact (wok_takes (takes_of rfl rfl rfl rfl)); exact (ad_cons (pd_var 0) (ad_cons pd_int ad_nil)))))) ad_nil)))))))))))
def B_w_count : DS := (sSeq (sAsg 1 (eIf (tE (eBin fGt (eBin fIx (eVar 0) (eC (.int 2))) (eC (.int 0)))) (eBin fSub (eBin fIx (eVar 0) (eC (.int 1))) (eBin fIx (eVar 0) (eC (.int 0)))) (eBin fSub (eBin fIx (eVar 0) (eC (.int 0))) (eBin fIx (eVar 0) (eC (.int 1)))))) (sRet (eIf (tE (eBin fGe (eVar 1) (eC (.int 0)))) (eBin fAdd (eBin fDiv (eVar 1) (eCB fAbs (aCons (eBin fIx (eVar 0) (eC (.int 2))) aNil))) (eC (.int 1))) (eC (.int 0)))))
def F_w_count : DF := runB 2 1 B_w_count
theorem d_w_count (T : Txt K mg) : FnD P w K mg base 1 T.a_w_count T.d_w_count P_w_count F_w_count := fnD T.F_w_count sc_w_count (by decide) B_w_count (fun cdv A outer s H E hr => (sd_cons (sd_asg (ps_set (i := 1) sc_w_count.nd rfl (Or.inl rfl) (pd_if (qd_gt (pd_ix (pd_var 0) pd_int) pd_int) (pd_sub (pd_ix (pd_var 0) pd_int) (pd_ix (pd_var 0) pd_int)) (pd_sub (pd_ix (pd_var 0) pd_int) (pd_ix (pd_var 0) pd_int))))) (sd_one (sd_ret (pd_if (qd_ge (pd_var 1) pd_int) (pd_add (pd_div (pd_var 1) (pd_cb call_abs cd_abs (by rfl) T.z_abs (by decide +kernel) (ad_cons (pd_ix (pd_var 0) pd_int) ad_nil))) pd_int) pd_int)))))
def B_w_cut : DS := (sSeq (sAsg 2 (eL (aLc (iSeq (eVar 0)) (gN 7) (tE (eBin fIn (eVar 7) (eVar 1))) (eVar 7) [7]))) (sSeq (sIf (tE (eBin fEq (eVar 2) (eL (aLst aNil)))) (sRet (eIf (tE (eBin fNe (eVar 0) (eL (aLst aNil)))) (eL (aLst (aCons (eVar 0) aNil))) (eL (aLst aNil)))) sNx) (sSeq (sNew 3 (aLst (aCons (eL (aLc (iSeq (eVar 0)) (gN 7) (tE (eBin fLt (eVar 7) (eBin fIx (eVar 2) (eC (.int 0))))) (eVar 7) [7])) aNil))) (sSeq (sMul [4, 5] (mVal (eIdx (eVar 0) (eBin fIx (eVar 2) (eC (.int 0)))) (mVal (eIf (tE (eBin fGt (eCB fLen (aCons (eVar 2) aNil)) (eC (.int 1)))) (eIdx (eVar 0) (eBin fIx (eVar 2) (eC (.int 1)))) (eC (.int 0))) aNil))) (sSeq (sFor (iRng2 (aCons (eBin fAdd (eVar 4) (eC (.int 1))) (aCons (eVar 5) aNil))) (gN 6) (sApp 3 (eL (aLc (iSeq (eSt (eVar 0) (oSome (eVar 6)) (oSome (eBin fSub (eVar 5) (eVar 4))))) (gN 7) (tE (eBin fLt (eVar 7) (eBin fIx (eVar 2) (eUn fNeg (eC (.int 1)))))) (eVar 7) [7])))) (sSeq (sApp 3 (eL (aLc (iSeq (eVar 0)) (gN 7) (tE (eBin fGt (eVar 7) (eBin fIx (eVar 2) (eUn fNeg (eC (.int 1)))))) (eVar 7) [7]))) (sFrz 3 (sRet (eL (aLc (iSeq (eVar 3)) (gN 8) (tE (eBin fNe (eVar 8) (eL (aLst aNil)))) (eVar 8) [8]))))))))))
def F_w_cut : DF := runB 9 2 B_w_cut
theorem d_w_cut (T : Txt K mg) : FnD P w K mg base 1 T.a_w_cut T.d_w_cut P_w_cut F_w_cut := fnD T.F_w_cut sc_w_cut (by decide) B_w_cut (fun cdv A outer s H E hr => (sd_cons (by first | exact sd_asg (asg_weak (ps_setLc (own := [("_law_number", 7)]) (i := 2) rfl sc_w_cut.nd rfl rfl rfl (id_seq (pd_var 0)) (blkOk_by (own := [("_law_number", 7)]) (N := N_w_cut) (sc := defScope s_w_cut) (by decide +kernel)) (fun _ _ _ _ _ => (gd_name (i := 7) sc_w_cut.nd rfl (Or.inl rfl) (by decide))) (fun _ _ _ _ _ => (td_one (qd_in (units65 hr) (pd_var 7) (pd_var 1)))) (fun _ _ _ _ _ => (pd_var 7))) (fun _ _ _ h => lc_ok (eL_ok h))) | exact sd_asg (ps_set (i := 2) sc_w_cut.nd rfl (Or.inr rfl) (pd_L (pl_lc (own := [("_law_number", 7)]) rfl sc_w_cut.nd (id_seq (pd_var 0)) (blkOk_by (own := [("_law_number", 7)]) (N := N_w_cut) (sc := defScope s_w_cut) (by decide +kernel)) (fun _ _ _ _ _ => (gd_name (i := 7) sc_w_cut.nd rfl (Or.inl rfl) (by decide))) (fun _ _ _ _ _ => (td_one (qd_in (units65 hr) (pd_var 7) (pd_var 1)))) (fun _ _ _ _ _ => (pd_var 7)))))) (sd_cons (sd_if (qd_eq hr.units (pd_var 2) (pd_L (pl_lst ad_nil))) (sd_one (sd_ret (pd_if (qd_ne hr.units (pd_var 0) (pd_L (pl_lst ad_nil))) (pd_L (pl_lst (ad_cons (pd_var 0) ad_nil))) (pd_L (pl_lst ad_nil))))) sd_nil) (sd_cons (sd_new (ps_set (i := 3) sc_w_cut.nd rfl (Or.inl rfl) (pl_lst (ad_cons (pd_L (pl_lc (own := [("_law_number", 7)]) rfl sc_w_cut.nd (id_seq (pd_var 0)) (blkOk_by (own := [("_law_number", 7)]) (N := N_w_cut) (sc := defScope s_w_cut) (by decide +kernel)) (fun _ _ _ _ _ => (gd_name (i := 7) sc_w_cut.nd rfl (Or.inl rfl) (by decide))) (fun _ _ _ _ _ => (td_one (qd_lt (pd_var 7) (pd_ix (pd_var 2) pd_int)))) (fun _ _ _ _ _ => (pd_var 7)))) ad_nil)))) (sd_cons (sd_par2 (ps_par rfl sc_w_cut.nd rfl rfl (by decide) rfl rfl (md_val (pd_index (units65 hr) (pd_var 0) (pd_ix (pd_var 2) pd_int)) (md_val (pd_if (qd_gt (pd_cb call_len cd_len (by rfl) T.z_len (by decide +kernel) (ad_cons (pd_var 2) ad_nil)) pd_int) (pd_index (units65 hr) (pd_var 0) (pd_ix (pd_var 2) pd_int)) pd_int) md_nil)) rfl)) (sd_cons (sd_for (vs := [6]) (passes_of rfl) rfl (id_rng2 (by rfl) T.z_range (ad_cons (pd_add (pd_var 4) pd_int) (ad_cons (pd_var 5) ad_nil))) (gd_name (i := 6) sc_w_cut.nd rfl (Or.inl rfl) (by decide)) (sd_one (sd_app (ps_expr (pe_bm PySem.F.plainAttrs_list PySem.F.slot_list_append PySem.F.type_list_append mt_append (pv 3) (pa_cons (pd_L (pl_lc (own := [("_law_number", 7)]) rfl sc_w_cut.nd (id_seq (pd_st (pd_var 0) (od_some (pd_var 6)) (od_some (pd_sub (pd_var 5) (pd_var 4))))) (blkOk_by (own := [("_law_number", 7)]) (N := N_w_cut) (sc := defScope s_w_cut) (by decide +kernel)) (fun _ _ _ _ _ => (gd_name (i := 7) sc_w_cut.nd rfl (Or.inl rfl) (by decide))) (fun _ _ _ _ _ => (td_one (qd_lt (pd_var 7) (pd_ix (pd_var 2) (pd_neg pd_int))))) (fun _ _ _ _ _ => (pd_var 7)))) pa_nil)))))) (sd_cons (sd_app (ps_expr (pe_bm PySem.F.plainAttrs_list PySem.F.slot_list_append PySem.F.type_list_append mt_append (pv 3) (pa_cons (pd_L (pl_lc (own := [("_law_number", 7)]) rfl sc_w_cut.nd (id_seq (pd_var 0)) (blkOk_by (own := [("_law_number", 7)]) (N := N_w_cut) (sc := defScope s_w_cut) (by decide +kernel)) (fun _ _ _ _ _ => (gd_name (i := 7) sc_w_cut.nd rfl (Or.inl rfl) (by decide))) (fun _ _ _ _ _ => (td_one (qd_gt (pd_var 7) (pd_ix (pd_var 2) (pd_neg pd_int))))) (fun _ _ _ _ _ => (pd_var 7)))) pa_nil)))) (sd_frz 3 (sd_one (sd_ret (pd_L (pl_lc (own := [("_law_piece", 8)]) rfl sc_w_cut.nd (id_seq (pd_var 3)) (blkOk_by (own := [("_law_piece", 8)]) (N := N_w_cut) (sc := defScope s_w_cut) (by decide +kernel)) (fun _ _ _ _ _ => (gd_name (i := 8) sc_w_cut.nd rfl (Or.inl rfl) (by decide))) (fun _ _ _ _ _ => (td_one (qd_ne hr.units (pd_var 8) (pd_L (pl_lst ad_nil))))) (fun _ _ _ _ _ => (pd_var 8))))))))))))))
def B_w_near_right : DS := (sSeq (sAsg 1 (eBin fAdd (eL (aLc (iRng1 (aCons (eBin fAdd (eC (.int 1)) (eCall 2 F_w_draw (aCons (eVar 0) (aCons (eC (.int 7)) aNil)))) aNil)) (gN 13) tYesD (eCall 1 F_w_near (aCons (eVar 0) aNil)) [13])) (eL (aLst (aCons (eCall 1 F_w_near (aCons (eVar 0) aNil)) aNil))))) (sSeq (sMul [2, 3] (mVal (eBin fIx (eVar 1) (eC (.int 0))) (mVal (eBin fIx (eVar 1) (eUn fNeg (eC (.int 1)))) aNil))) (sSeq (sMul [4, 5] (mVal (eL (eCBL fSorted (aCons (eCall 1 F_w_members (aCons (eVar 2) aNil)) aNil))) (mVal (eCall 1 F_w_members (aCons (eVar 3) aNil)) aNil))) (sSeq (sIf (tE (eBin fNe (eWk (eCall 2 F_less (aCons (eVar 2) (aCons (eVar 3) aNil)))) (eL (aLc (iSeq (eCall 2 F_w_cut (aCons (eVar 4) (aCons (eVar 5) aNil)))) (gN 14) tYesD (eCall 1 F_w_shown (aCons (eVar 14) aNil)) [14])))) (sRet (eC (.bl false))) sNx) (sSeq (sAsg 6 (eL (aLst aNil))) (sSeq (sFor (iEnumS (aCons (eVar 1) aNil)) (gT (gCons' (gN 7) (gCons' (gN 8) gNil')) 2) (sSeq (sAsg 9 (eL (aLst (aCons (eL (eCBL fSorted (aCons (eCall 1 F_w_members (aCons (eVar 8) aNil)) aNil))) aNil)))) (sSeq (sFor (iSeq (eSl (eVar 1) oNone (oSome (eVar 7)))) (gN 10) (sAsg 9 (eCB fSumL (aCons (eL (aLc (iSeq (eVar 9)) (gN 14) tYesD (eCall 2 F_w_cut (aCons (eVar 14) (aCons (eCall 1 F_w_members (aCons (eVar 10) aNil)) aNil))) [14])) (aCons (eL (aLst aNil)) aNil))))) (sAsg 6 (eBin fAdd (eVar 6) (eL (aLc (iSeq (eVar 9)) (gN 14) (tE (eBin fNe (eVar 14) (eL (aLst aNil)))) (eCall 1 F_w_shown (aCons (eVar 14) aNil)) [14]))))))) (sSeq (sIf (tOn (tE (eBin fNe (eWk (eCall 1 F_apart (aCons (eL (aLst (aCons (eVar 2) (aCons (eVar 2) aNil)))) aNil))) (eBin fMul (eL (aLst (aCons (eCall 1 F_w_shown (aCons (eVar 4) aNil)) aNil))) (eCB fInt (aCons (eBin fNe (eVar 4) (eL (aLst aNil))) aNil))))) (tE (eBin fNe (eWk (eCall 2 F_less (aCons (eVar 2) (aCons (eVar 2) aNil)))) (eL (aLst aNil))))) (sRet (eC (.bl false))) sNx) (sSeq (sMul [11, 12] (mOwn (aNew (eCall 1 F_apart (aCons (eVar 1) aNil))) (mOwn (aNew (eCall 2 F_less (aCons (eVar 2) (aCons (eVar 3) aNil)))) aNil))) (sSeq (sApp 11 (eC .non)) (sSeq (sClr 12) (sSeq (sIf (tE (eBin fNe (eWk (eCall 2 F_less (aCons (eVar 2) (aCons (eVar 3) aNil)))) (eL (aLc (iSeq (eCall 2 F_w_cut (aCons (eVar 4) (aCons (eVar 5) aNil)))) (gN 14) tYesD (eCall 1 F_w_shown (aCons (eVar 14) aNil)) [14])))) (sRet (eC (.bl false))) sNx) (sFrz 11 (sRet (eAnd (eBin fEq (eWk (eCall 1 F_apart (aCons (eVar 1) aNil))) (eVar 6)) (eAnd (eBin fEq (eWk (eCall 1 F_apart (aCons (eCB fTuple (aCons (eVar 1) aNil)) aNil))) (eVar 6)) (eBin fEq (eVar 11) (eBin fAdd (eVar 6) (eL (aLst (aCons (eC .non) aNil))))))))))))))))))))
def F_w_near_right : DF := runB 15 1 B_w_near_right
theorem d_w_near_right (T : Txt K mg) : FnD P w K mg base 9 T.a_w_near_right T.d_w_near_right P_w_near_right F_w_near_right := fnD T.F_w_near_right sc_w_near_right (by decide) B_w_near_right (fun cdv A outer s H E hr => (sd_cons (sd_asg (ps_set (i := 1) sc_w_near_right.nd rfl (Or.inl rfl) (pd_add (pd_L (pl_lc (own := [("_law_turn", 13)]) rfl sc_w_near_right.nd (id_rng1 (by rfl) T.z_range (ad_cons (pd_add pd_int (by refine pd_call (k := 1) (f := T.a_w_draw) (fd := T.d_w_draw) (ps := P_w_draw) (F := F_w_draw) ?_ ?_ ?_ ?_ ?_ ?_ ?_ ?_; exact d_w_draw T; exact hr.mono (by decide); exact rfl; exact T.g_w_draw; exact T.F_w_draw.kp; exact b_w_draw T; exact (wok_takes (takes_of rfl rfl rfl rfl)); exact (ad_cons (pd_var 0) (ad_cons pd_int ad_nil)))) ad_nil)) (blkOk_by (own := [("_law_turn", 13)]) (N := N_w_near_right) (sc := defScope s_w_near_right) (by decide +kernel)) (fun _ _ _ _ _ => (gd_name (i := 13) sc_w_near_right.nd rfl (Or.inl rfl) (by decide))) (fun _ _ _ _ _ => td_nil) (fun _ _ _ _ _ => (by refine pd_call (k := 3) (f := T.a_w_near) (fd := T.d_w_near) (ps := P_w_near) (F := F_w_near) ?_ ?_ ?_ ?_ ?_ ?_ ?_ ?_; exact d_w_near T; exact hr.mono (by decide); exact rfl; exact T.g_w_near; exact T.F_w_near.kp; exact b_w_near T; exact wok0; exact (ad_cons (pd_var 0) ad_nil))))) (pd_L (pl_lst (ad_cons (by refine pd_call (k := 3) (f := T.a_w_near) (fd := T.d_w_near) (ps := P_w_near) (F := F_w_near) ?_ ?_ ?_ ?_ ?_ ?_ ?_ ?_; exact d_w_near T; exact hr.mono (by decide); exact rfl; exact T.g_w_near; exact T.F_w_near.kp; exact b_w_near T; exact (wok_takes (takes_of rfl rfl rfl rfl)); exact (ad_cons (pd_var 0) ad_nil)) ad_nil)))))) (sd_cons (sd_par2 (ps_par rfl sc_w_near_right.nd rfl rfl (by decide) rfl rfl (md_val (pd_ix (pd_var 1) pd_int) (md_val (pd_ix (pd_var 1) (pd_neg pd_int)) md_nil)) rfl)) (sd_cons (sd_par2 (ps_par rfl sc_w_near_right.nd rfl rfl (by decide) rfl rfl (md_val (pd_L (pl_cb cr_sortedI cl_sorted (by rfl) T.z_sorted (by decide +kernel) (ad_cons (by refine pd_call (k := 1) (f := T.a_w_members) (fd := T.d_w_members) (ps := P_w_members) (F := F_w_members) ?_ ?_ ?_ ?_ ?_ ?_ ?_ ?_; exact d_w_members T; exact hr.mono (by decide); exact rfl; exact T.g_w_members; exact T.F_w_members.kp; exact b_w_members T; exact (wok_takes (takes_of rfl rfl rfl rfl)); exact (ad_cons (pd_var 2) ad_nil)) ad_nil))) (md_val (by refine pd_call (k := 1) (f := T.a_w_members) (fd := T.d_w_members) (ps := P_w_members) (F := F_w_members) ?_ ?_ ?_ ?_ ?_ ?_ ?_ ?_; exact d_w_members T; exact hr.mono (by decide); exact rfl; exact T.g_w_members; exact T.F_w_members.kp; exact b_w_members T; exact (wok_takes (takes_of rfl rfl rfl rfl)); exact (ad_cons (pd_var 3) ad_nil)) md_nil)) rfl)) (sd_cons (sd_if (qd_ne hr.units (pd_wk (by refine pd_call (k := 7) (f := T.a_less) (fd := T.d_less) (ps := P_less) (F := F_less) ?_ ?_ ?_ ?_ ?_ ?_ ?_ ?_; exact d_less T; exact hr.mono (by decide); exact rfl; exact T.g_less; exact T.F_less.kp; exact b_less T; exact (wok_takes (takes_of rfl rfl rfl rfl)); exact (ad_cons (pd_var 2) (ad_cons (pd_var 3) ad_nil)))) (pd_L (pl_lc (own := [("_law_piece", 14)]) rfl sc_w_near_right.nd (id_seq (by refine pd_call (k := 1) (f := T.a_w_cut) (fd := T.d_w_cut) (ps := P_w_cut) (F := F_w_cut) ?_ ?_ ?_ ?_ ?_ ?_ ?_ ?_; exact d_w_cut T; exact hr.mono (by decide); exact rfl; exact T.g_w_cut; exact T.F_w_cut.kp; exact b_w_cut T; exact (wok_takes (takes_of rfl rfl rfl rfl)); exact (ad_cons (pd_var 4) (ad_cons (pd_var 5) ad_nil)))) (blkOk_by (own := [("_law_piece", 14)]) (N := N_w_near_right) (sc := defScope s_w_near_right) (by decide +kernel)) (fun _ _ _ _ _ => (gd_name (i := 14) sc_w_near_right.nd rfl (Or.inl rfl) (by decide))) (fun _ _ _ _ _ => td_nil) (fun _ _ _ _ _ => (by refine pd_call (k := 1) (f := T.a_w_shown) (fd := T.d_w_shown) (ps := P_w_shown) (F := F_w_shown) ?_ ?_ ?_ ?_ ?_ ?_ ?_ ?_; exact d_w_shown T; exact hr.mono (by decide); exact rfl; exact T.g_w_shown; exact T.F_w_shown.kp; exact b_w_shown T; exact wok0; exact (ad_cons (pd_var 14) ad_nil)))))) (sd_one (sd_ret pd_bl)) sd_nil) (sd_cons (sd_asg (ps_set (i := 6) sc_w_near_right.nd rfl (Or.inl rfl) (pd_L (pl_lst ad_nil)))) (sd_cons (sd_for (vs := [7, 8]) (passes_of rfl) rfl (id_enumS (by rfl) T.z_enumerate (ad_cons (pd_var 1) ad_nil)) (gd_tup rfl (gd_cons (gd_name (i := 7) sc_w_near_right.nd rfl (Or.inl rfl) (by decide)) (gd_cons (gd_name (i := 8) sc_w_near_right.nd rfl (Or.inl rfl) (by decide)) gd_nil))) (sd_cons (sd_asg (ps_set (i := 9) sc_w_near_right.nd rfl (Or.inl rfl) (pd_L (pl_lst (ad_cons (pd_L (pl_cb cr_sortedI cl_sorted (by rfl) T.z_sorted (by decide +kernel) (ad_cons (by refine pd_call (k := 1) (f := T.a_w_members) (fd := T.d_w_members) (ps := P_w_members) (F := F_w_members) ?_ ?_ ?_ ?_ ?_ ?_ ?_ ?_; exact d_w_members T; exact hr.mono (by decide); exact rfl; exact T.g_w_members; exact T.F_w_members.kp; exact b_w_members T; exact (wok_takes (takes_of rfl rfl rfl rfl)); exact (ad_cons (pd_var 8) ad_nil)) ad_nil))) ad_nil))))) (sd_cons (sd_for (vs := [10]) (passes_of rfl) rfl (id_seq (pd_sl (pd_var 1) od_none (od_some (pd_var 7)))) (gd_name (i := 10) sc_w_near_right.nd rfl (Or.inr rfl) (by decide)) (sd_one (sd_asg (ps_set (i := 9) sc_w_near_right.nd rfl (Or.inl rfl) (pd_cb (cr_sumL rfl) cd_sumL (by rfl) T.z_sum (by decide +kernel) (ad_cons (pd_L (pl_lc (own := [("_law_piece", 14)]) rfl sc_w_near_right.nd (id_seq (pd_var 9)) (blkOk_by (own := [("_law_piece", 14)]) (N := N_w_near_right) (sc := defScope s_w_near_right) (by decide +kernel)) (fun _ _ _ _ _ => (gd_name (i := 14) sc_w_near_right.nd rfl (Or.inl rfl) (by decide))) (fun _ _ _ _ _ => td_nil) (fun _ _ _ _ _ => (by refine pd_call (k := 1) (f := T.a_w_cut) (fd := T.d_w_cut) (ps := P_w_cut) (F := F_w_cut) ?_ ?_ ?_ ?_ ?_ ?_ ?_ ?_; exact d_w_cut T; exact hr.mono (by decide); exact rfl; exact T.g_w_cut; exact T.F_w_cut.kp; exact b_w_cut T; exact wok0; exact (ad_cons (pd_var 14) (ad_cons (by refine pd_call (k := 1) (f := T.a_w_members) (fd := T.d_w_members) (ps := P_w_members) (F := F_w_members) ?_ ?_ ?_ ?_ ?_ ?_ ?_ ?_; exact d_w_members T; exact hr.mono (by decide); exact rfl; exact T.g_w_members; exact T.F_w_members.kp; exact b_w_members T; exact wok0; exact (ad_cons (pd_var 10) ad_nil)) ad_nil)))))) (ad_cons (pd_L (pl_lst ad_nil)) ad_nil))))))) (sd_one (sd_asg (ps_set (i := 6) sc_w_near_right.nd rfl (Or.inl rfl) (pd_add (pd_var 6) (pd_L (pl_lc (own := [("_law_piece", 14)]) rfl sc_w_near_right.nd (id_seq (pd_var 9)) (blkOk_by (own := [("_law_piece", 14)]) (N := N_w_near_right) (sc := defScope s_w_near_right) (by decide +kernel)) (fun _ _ _ _ _ => (gd_name (i := 14) sc_w_near_right.nd rfl (Or.inl rfl) (by decide))) (fun _ _ _ _ _ => (td_one (qd_ne hr.units (pd_var 14) (pd_L (pl_lst ad_nil))))) (fun _ _ _ _ _ => (by refine pd_call (k := 1) (f := T.a_w_shown) (fd := T.d_w_shown) (ps := P_w_shown) (F := F_w_shown) ?_ ?_ ?_ ?_ ?_ ?_ ?_ ?_; exact d_w_shown T; exact hr.mono (by decide); exact rfl; exact T.g_w_shown; exact T.F_w_shown.kp; exact b_w_shown T; exact wok0; exact (ad_cons (pd_var 14) ad_nil)))))))))))) (sd_cons (sd_if (qd_or (qd_ne hr.units (pd_wk (by refine pd_call (k := 8) (f := T.a_apart) (fd := T.d_apart) (ps := P_apart) (F := F_apart) ?_ ?_ ?_ ?_ ?_ ?_ ?_ ?_; exact d_apart T; exact hr.mono (by decide); exact rfl; exact T.g_apart; exact T.F_apart.kp; exact b_apart T; exact (wok_takes (takes_of rfl rfl rfl rfl)); exact (ad_cons (pd_L (pl_lst (ad_cons (pd_var 2) (ad_cons (pd_var 2) ad_nil)))) ad_nil))) (pd_mul (pd_L (pl_lst (ad_cons (by refine pd_call (k := 1) (f := T.a_w_shown) (fd := T.d_w_shown) (ps := P_w_shown) (F := F_w_shown) ?_ ?_ ?_ ?_ ?_ ?_ ?_ ?_; exact d_w_shown T; exact hr.mono (by decide); exact rfl; exact T.g_w_shown; exact T.F_w_shown.kp; exact b_w_shown T; exact (wok_takes (takes_of rfl rfl rfl rfl)); exact (ad_cons (pd_var 4) ad_nil)) ad_nil))) (pd_ct call_int1 cd_int (by rfl) T.z_int (by decide +kernel) (ad_cons (pd_ne hr.units (pd_var 4) (pd_L (pl_lst ad_nil))) ad_nil)))) (qd_or1 (qd_ne hr.units (pd_wk (by refine pd_call (k := 7) (f := T.a_less) (fd := T.d_less) (ps := P_less) (F := F_less) ?_ ?_ ?_ ?_ ?_ ?_ ?_ ?_; exact d_less T; exact hr.mono (by decide); exact rfl; exact T.g_less; exact T.F_less.kp; exact b_less T; exact (wok_takes (takes_of rfl rfl rfl rfl)); exact (ad_cons (pd_var 2) (ad_cons (pd_var 2) ad_nil)))) (pd_L (pl_lst ad_nil))))).pt (sd_one (sd_ret pd_bl)) sd_nil) (sd_cons (sd_par2 (ps_par rfl sc_w_near_right.nd rfl rfl (by decide) rfl rfl (md_own (pl_new (fun _ => (by refine pd_call (k := 8) (f := T.a_apart) (fd := T.d_apart) (ps := P_apart) (F := F_apart) ?_ ?_ ?_ ?_ ?_ ?_ ?_ ?_; exact d_apart T; exact hr.mono (by decide); exact rfl; exact T.g_apart; exact T.F_apart.kp; exact b_apart T; exact (wok_takes (takes_of rfl rfl rfl rfl)); exact (ad_cons (pd_var 1) ad_nil)))) (md_own (pl_new (fun _ => (by refine pd_call (k := 7) (f := T.a_less) (fd := T.d_less) (ps := P_less) (F := F_less) ?_ ?_ ?_ ?_ ?_ ?_ ?_ ?_; exact d_less T; exact hr.mono (by decide); exact rfl; exact T.g_less; exact T.F_less.kp; exact b_less T; exact (wok_takes (takes_of rfl rfl rfl rfl)); exact (ad_cons (pd_var 2) (ad_cons (pd_var 3) ad_nil))))) md_nil)) rfl)) (sd_cons (sd_app (ps_expr (pe_bm PySem.F.plainAttrs_list PySem.F.slot_list_append PySem.F.type_list_append mt_append (pv 11) (pa_cons pd_non pa_nil)))) (sd_cons (sd_clr (ps_expr (pe_bm0 PySem.F.plainAttrs_list PySem.F.slot_list_clear PySem.F.type_list_clear mt_clear (pv 12)))) (sd_cons (sd_if (qd_ne hr.units (pd_wk (by refine pd_call (k := 7) (f := T.a_less) (fd := T.d_less) (ps := P_less) (F := F_less) ?_ ?_ ?_ ?_ ?_ ?_ ?_ ?_; exact d_less T; exact hr.mono (by decide); exact rfl; exact T.g_less; exact T.F_less.kp; exact b_less T; exact (wok_takes (takes_of rfl rfl rfl rfl)); exact (ad_cons (pd_var 2) (ad_cons (pd_var 3) ad_nil)))) (pd_L (pl_lc (own := [("_law_piece", 14)]) rfl sc_w_near_right.nd (id_seq (by refine pd_call (k := 1) (f := T.a_w_cut) (fd := T.d_w_cut) (ps := P_w_cut) (F := F_w_cut) ?_ ?_ ?_ ?_ ?_ ?_ ?_ ?_; exact d_w_cut T; exact hr.mono (by decide); exact rfl; exact T.g_w_cut; exact T.F_w_cut.kp; exact b_w_cut T; exact (wok_takes (takes_of rfl rfl rfl rfl)); exact (ad_cons (pd_var 4) (ad_cons (pd_var 5) ad_nil)))) (blkOk_by (own := [("_law_piece", 14)]) (N := N_w_near_right) (sc := defScope s_w_near_right) (by decide +kernel)) (fun _ _ _ _ _ => (gd_name (i := 14) sc_w_near_right.nd rfl (Or.inl rfl) (by decide))) (fun _ _ _ _ _ => td_nil) (fun _ _ _ _ _ => (by refine pd_call (k := 1) (f := T.a_w_shown) (fd := T.d_w_shown) (ps := P_w_shown) (F := F_w_shown) ?_ ?_ ?_ ?_ ?_ ?_ ?_ ?_; exact d_w_shown T; exact hr.mono (by decide); exact rfl; exact T.g_w_shown; exact T.F_w_shown.kp; exact b_w_shown T; exact wok0; exact (ad_cons (pd_var 14) ad_nil)))))) (sd_one (sd_ret pd_bl)) sd_nil) (sd_frz 11 (sd_one (sd_ret (pd_and (pd_eq hr.units (pd_wk (by refine pd_call (k := 8) (f := T.a_apart) (fd := T.d_apart) (ps := P_apart) (F := F_apart) ?_ ?_ ?_ ?_ ?_ ?_ ?_ ?_; exact d_apart T; exact hr.mono (by decide); exact rfl; exact T.g_apart; exact T.F_apart.kp; exact b_apart T; exact (wok_takes (takes_of rfl rfl rfl rfl)); exact (ad_cons (pd_var 1) ad_nil))) (pd_var 6)) (pd_and (pd_eq hr.units (pd_wk (by refine pd_call (k := 8) (f := T.a_apart) (fd := T.d_apart) (ps := P_apart) (F := F_apart) ?_ ?_ ?_ ?_ ?_ ?_ ?_ ?_; exact d_apart T; exact hr.mono (by decide); exact rfl; exact T.g_apart; exact T.F_apart.kp; exact b_apart T; exact (wok_takes (takes_of rfl rfl rfl rfl)); exact (ad_cons (pd_ct call_tuple_of cd_tuple (by rfl) T.z_tuple (by decide +kernel) (ad_cons (pd_var 1) ad_nil)) ad_nil))) (pd_var 6)) (pd_one (pd_eq hr.units (pd_var 11) (pd_add (pd_var 6) (pd_L (pl_lst (ad_cons pd_non ad_nil)))))))))))))))))))))))
def B_w_far_right : DS := (sSeq (sAsg 1 (eCall 1 F_w_far (aCons (eVar 0) aNil))) (sSeq (sAsg 2 (eCB fAbs (aCons (eBin fIx (eVar 1) (eC (.int 2))) aNil))) (sSeq (sAsg 3 (eTup (aCons (eBin fAdd (eBin fIx (eVar 1) (eC (.int 0))) (eBin fMul (eVar 2) (eBin fSub (eCall 2 F_w_draw (aCons (eVar 0) (aCons (eC (.int 9)) aNil))) (eC (.int 4))))) (aCons (eBin fIx (eVar 1) (eC (.int 1))) (aCons (eBin fMul (eBin fIx (eVar 1) (eC (.int 2))) (eBin fAdd (eC (.int 1)) (eCall 2 F_w_draw (aCons (eVar 0) (aCons (eC (.int 40)) aNil))))) aNil))))) (sSeq (sIf (tOn (tE (eBin fGt (eCB fAbs (aCons (eBin fIx (eVar 3) (eC (.int 0))) aNil)) (eBin fPow (eC (.int 10)) (eC (.int 30))))) (tE (eBin fGt (eCB fAbs (aCons (eBin fIx (eVar 3) (eC (.int 2))) aNil)) (eBin fPow (eC (.int 10)) (eC (.int 30)))))) (sRet (eC (.bl true))) sNx) (sSeq (sMul [4, 5] (mVal (eWk (eCall 2 F_less (aCons (eVar 1) (aCons (eVar 3) aNil)))) (mVal (eCall 2 F_met (aCons (eVar 1) (aCons (eVar 3) aNil))) aNil))) (sSeq (sIf (tE (eBin fNe (eBin fAdd (eCB fSum (aCons (eL (aLc (iSeq (eVar 4)) (gN 6) tYesD (eCall 1 F_triplet_size (aCons (eVar 6) aNil)) [6])) aNil)) (eCall 1 F_triplet_size (aCons (eVar 5) aNil))) (eCall 1 F_w_count (aCons (eVar 1) aNil)))) (sRet (eC (.bl false))) sNx) (sSeq (sFor (iEnumS (aCons (eVar 4) aNil)) (gT (gCons' (gN 7) (gCons' (gN 6) gNil')) 2) (sSeq (sIf (tOn (tE (eBin fNe (eL (aLst (aCons (eCall 2 F_met (aCons (eVar 6) (aCons (eVar 3) aNil))) (aCons (eCall 2 F_met (aCons (eVar 6) (aCons (eVar 5) aNil))) aNil)))) (eBin fMul (eL (aLst (aCons (eTup (aCons (eC (.int 0)) (aCons (eUn fNeg (eC (.int 1))) (aCons (eC (.int 1)) aNil)))) aNil))) (eC (.int 2))))) (tE (eBin fNe (eCall 2 F_met (aCons (eVar 6) (aCons (eVar 1) aNil))) (eVar 6)))) (sRet (eC (.bl false))) sNx) (sIf (tE (eBin fNe (eL (aLc (iSeq (eSl (eVar 4) oNone (oSome (eVar 7)))) (gN 8) (tE (eBin fNe (eCall 2 F_met (aCons (eVar 6) (aCons (eVar 8) aNil))) (eTup (aCons (eC (.int 0)) (aCons (eUn fNeg (eC (.int 1))) (aCons (eC (.int 1)) aNil)))))) (eC (.int 1)) [8])) (eL (aLst aNil)))) (sRet (eC (.bl false))) sNx))) (sRet (eC (.bl true))))))))))
def F_w_far_right : DF := runB 9 1 B_w_far_right
theorem d_w_far_right (T : Txt K mg) : FnD P w K mg base 8 T.a_w_far_right T.d_w_far_right P_w_far_right F_w_far_right := fnD T.F_w_far_right sc_w_far_right (by decide) B_w_far_right (fun cdv A outer s H E hr => (sd_cons (sd_asg (ps_set (i := 1) sc_w_far_right.nd rfl (Or.inl rfl) (by refine pd_call (k := 3) (f := T.a_w_far) (fd := T.d_w_far) (ps := P_w_far) (F := F_w_far) ?_ ?_ ?_ ?_ ?_ ?_ ?_ ?_; exact d_w_far T; exact hr.mono (by decide); exact rfl; exact T.g_w_far; exact T.F_w_far.kp; exact b_w_far T; exact (wok_takes (takes_of rfl rfl rfl rfl)); exact (ad_cons (pd_var 0) ad_nil)))) (sd_cons (sd_asg (ps_set (i := 2) sc_w_far_right.nd rfl (Or.inl rfl) (pd_cb call_abs cd_abs (by rfl) T.z_abs (by decide +kernel) (ad_cons (pd_ix (pd_var 1) pd_int) ad_nil)))) (sd_cons (sd_asg (ps_set (i := 3) sc_w_far_right.nd rfl (Or.inl rfl) (pd_tup (ad_cons (pd_add (pd_ix (pd_var 1) pd_int) (pd_mul (pd_var 2) (pd_sub (by refine pd_call (k := 1) (f := T.a_w_draw) (fd := T.d_w_draw) (ps := P_w_draw) (F := F_w_draw) ?_ ?_ ?_ ?_ ?_ ?_ ?_ ?_; exact d_w_draw T; exact hr.mono (by decide); exact rfl; exact T.g_w_draw; exact T.F_w_draw.kp; exact b_w_draw T; exact (wok_takes (takes_of rfl rfl rfl rfl)); exact (ad_cons (pd_var 0) (ad_cons pd_int ad_nil))) pd_int))) (ad_cons (pd_ix (pd_var 1) pd_int) (ad_cons (pd_mul (pd_ix (pd_var 1) pd_int) (pd_add pd_int (by refine pd_call (k := 1) (f := T.a_w_draw) (fd := T.d_w_draw) (ps := P_w_draw) (F := F_w_draw) ?_ ?_ ?_ ?_ ?_ ?_ ?_ ?_; exact d_w_draw T; exact hr.mono (by decide); exact rfl; exact T.g_w_draw; exact T.F_w_draw.kp; exact b_w_draw T; exact (wok_takes (takes_of rfl rfl rfl rfl)); exact (ad_cons (pd_var 0) (ad_cons pd_int ad_nil))))) ad_nil)))))) (sd_cons (sd_if (qd_or (qd_gt (pd_cb call_abs cd_abs (by rfl) T.z_abs (by decide +kernel) (ad_cons (pd_ix (pd_var 3) pd_int) ad_nil)) (pd_pow pd_int pd_int)) (qd_or1 (qd_gt (pd_cb call_abs cd_abs (by rfl) T.z_abs (by decide +kernel) (ad_cons (pd_ix (pd_var 3) pd_int) ad_nil)) (pd_pow pd_int pd_int)))).pt (sd_one (sd_ret pd_bl)) sd_nil) (sd_cons (sd_par2 (ps_par rfl sc_w_far_right.nd rfl rfl (by decide) rfl rfl (md_val (pd_wk (by refine pd_call (k := 7) (f := T.a_less) (fd := T.d_less) (ps := P_less) (F := F_less) ?_ ?_ ?_ ?_ ?_ ?_ ?_ ?_; exact d_less T; exact hr.mono (by decide); exact rfl; exact T.g_less; exact T.F_less.kp; exact b_less T; exact (wok_takes (takes_of rfl rfl rfl rfl)); exact (ad_cons (pd_var 1) (ad_cons (pd_var 3) ad_nil)))) (md_val (by refine pd_call (k := 6) (f := T.a_met) (fd := T.d_met) (ps := P_met) (F := F_met) ?_ ?_ ?_ ?_ ?_ ?_ ?_ ?_; exact d_met T; exact hr.mono (by decide); exact rfl; exact T.g_met; exact T.F_met.kp; exact b_met T; exact (wok_takes (takes_of rfl rfl rfl rfl)); exact (ad_cons (pd_var 1) (ad_cons (pd_var 3) ad_nil))) md_nil)) rfl)) (sd_cons (sd_if (qd_ne hr.units (pd_add (pd_cb (cr_sum rfl) cd_sum (by rfl) T.z_sum (by decide +kernel) (ad_cons (pd_L (pl_lc (own := [("_law_piece", 6)]) rfl sc_w_far_right.nd (id_seq (pd_var 4)) (blkOk_by (own := [("_law_piece", 6)]) (N := N_w_far_right) (sc := defScope s_w_far_right) (by decide +kernel)) (fun _ _ _ _ _ => (gd_name (i := 6) sc_w_far_right.nd rfl (Or.inl rfl) (by decide))) (fun _ _ _ _ _ => td_nil) (fun _ _ _ _ _ => (by refine pd_call (k := 5) (f := T.a_triplet_size) (fd := T.d_triplet_size) (ps := P_triplet_size) (F := F_triplet_size) ?_ ?_ ?_ ?_ ?_ ?_ ?_ ?_; exact d_triplet_size T; exact hr.mono (by decide); exact rfl; exact T.g_triplet_size; exact T.F_triplet_size.kp; exact b_triplet_size T; exact wok0; exact (ad_cons (pd_var 6) ad_nil))))) ad_nil)) (by refine pd_call (k := 5) (f := T.a_triplet_size) (fd := T.d_triplet_size) (ps := P_triplet_size) (F := F_triplet_size) ?_ ?_ ?_ ?_ ?_ ?_ ?_ ?_; exact d_triplet_size T; exact hr.mono (by decide); exact rfl; exact T.g_triplet_size; exact T.F_triplet_size.kp; exact b_triplet_size T; exact (wok_takes (takes_of rfl rfl rfl rfl)); exact (ad_cons (pd_var 5) ad_nil))) (by refine pd_call (k := 1) (f := T.a_w_count) (fd := T.d_w_count) (ps := P_w_count) (F := F_w_count) ?_ ?_ ?_ ?_ ?_ ?_ ?_ ?_; exact d_w_count T; exact hr.mono (by decide); exact rfl; exact T.g_w_count; exact T.F_w_count.kp; exact b_w_count T; exact (wok_takes (takes_of rfl rfl rfl rfl)); exact (ad_cons (pd_var 1) ad_nil))) (sd_one (sd_ret pd_bl)) sd_nil) (sd_cons (sd_for (vs := [7, 6]) (passes_of rfl) rfl (id_enumS (by rfl) T.z_enumerate (ad_cons (pd_var 4) ad_nil)) (gd_tup rfl (gd_cons (gd_name (i := 7) sc_w_far_right.nd rfl (Or.inl rfl) (by decide)) (gd_cons (gd_name (i := 6) sc_w_far_right.nd rfl (Or.inr rfl) (by decide)) gd_nil))) (sd_cons (sd_if (qd_or (qd_ne hr.units (pd_L (pl_lst (ad_cons (by refine pd_call (k := 6) (f := T.a_met) (fd := T.d_met) (ps := P_met) (F := F_met) ?_ ?_ ?_ ?_ ?_ ?_ ?_ ?_; exact d_met T; exact hr.mono (by decide); exact rfl; exact T.g_met; exact T.F_met.kp; exact b_met T; exact (wok_takes (takes_of rfl rfl rfl rfl)); exact (ad_cons (pd_var 6) (ad_cons (pd_var 3) ad_nil))) (ad_cons (by refine pd_call (k := 6) (f := T.a_met) (fd := T.d_met) (ps := P_met) (F := F_met) ?_ ?_ ?_ ?_ ?_ ?_ ?_ ?_; exact d_met T; exact hr.mono (by decide); exact rfl; exact T.g_met; exact T.F_met.kp; exact b_met T; exact (wok_takes (takes_of rfl rfl rfl rfl)); exact (ad_cons (pd_var 6) (ad_cons (pd_var 5) ad_nil))) ad_nil)))) (pd_mul (pd_L (pl_lst (ad_cons (pd_tup (ad_cons pd_int (ad_cons (pd_neg pd_int) (ad_cons pd_int ad_nil)))) ad_nil))) pd_int)) (qd_or1 (qd_ne hr.units (by refine pd_call (k := 6) (f := T.a_met) (fd := T.d_met) (ps := P_met) (F := F_met) ?_ ?_ ?_ ?_ ?_ ?_ ?_ ?_; exact d_met T; exact hr.mono (by decide); exact rfl; exact T.g_met; exact T.F_met.kp; exact b_met T; exact (wok_takes (takes_of rfl rfl rfl rfl)); exact (ad_cons (pd_var 6) (ad_cons (pd_var 1) ad_nil))) (pd_var 6)))).pt (sd_one (sd_ret pd_bl)) sd_nil) (sd_one (sd_if (qd_ne hr.units (pd_L (pl_lc (own := [("_law_other_piece", 8)]) rfl sc_w_far_right.nd (id_seq (pd_sl (pd_var 4) od_none (od_some (pd_var 7)))) (blkOk_by (own := [("_law_other_piece", 8)]) (N := N_w_far_right) (sc := defScope s_w_far_right) (by decide +kernel)) (fun _ _ _ _ _ => (gd_name (i := 8) sc_w_far_right.nd rfl (Or.inl rfl) (by decide))) (fun _ _ _ _ _ => (td_one (qd_ne hr.units (by refine pd_call (k := 6) (f := T.a_met) (fd := T.d_met) (ps := P_met) (F := F_met) ?_ ?_ ?_ ?_ ?_ ?_ ?_ ?_; exact d_met T; exact hr.mono (by decide); exact rfl; exact T.g_met; exact T.F_met.kp; exact b_met T; exact wok0; exact (ad_cons (pd_var 6) (ad_cons (pd_var 8) ad_nil))) (pd_tup (ad_cons pd_int (ad_cons (pd_neg pd_int) (ad_cons pd_int ad_nil))))))) (fun _ _ _ _ _ => pd_int))) (pd_L (pl_lst ad_nil))) (sd_one (sd_ret pd_bl)) sd_nil)))) (sd_one (sd_ret pd_bl))))))))))
end

end DL

set_option maxHeartbeats 2000000
namespace DL
open PySem PySem.Spec PyProof.Rows L2
open Evl (Ex)
instance noOld : OldT := ⟨fun _ => none⟩

/-! ### the law's own shell: the wells, the turns -/
theorem Rd.keep {H H' : Hp} {a : Addr} {u : HO} (h : Rd H a u) (k : ∀ o, H a = some o → H' a = some o) : Rd H' a u := h.elim (fun e => .inl (k _ e)) fun ⟨o, e⟩ => .inr ⟨o, k _ e⟩
theorem SqL.keep {K : PySem.W.Frag} {H H' : Hp} {a : Addr} {xs : List V} (h : SqL K H a xs) (k : ∀ o, H a = some o → H' a = some o) : SqL K H' a xs := h.elim (fun e => .inl (Rd.keep e k)) .inr
theorem same_upd {H : Hp} {p : Addr} {o : HO} (h : H p = none) : Same H (upd H p o) := fun b x e => by
  rw [upd_ne (ne_of_none e h)]
  exact e
section
variable {P : Program} {w : World} {K : PySem.W.Frag} {mg : Str → Option Value} {base : Heap}
abbrev N_w_well : List Str := ["_law_cell"]
abbrev P_w_well : List Str := ["_law_cell"]
theorem sc_w_well : FnScope N_w_well P_w_well (defScope s_w_well) := ⟨rfl, rfl, rfl, by decide +kernel, rfl, by decide +kernel, by decide +kernel⟩
def spWell : Sp := fun vs H Q _ => ∃ (c : Int), vs = [.int c] ∧
  ∀ H' p (c d : Int), 0 ≤ d ∧ d < 2147483563 → Same H H' → H p = none → H' p = some (.lst (wl (c, d, 0))) → Q (.ref p) H'
theorem mod_rng {a n : Int} (h : 0 < n) : 0 ≤ a.fmod n ∧ a.fmod n < n := by
  rw [Int.fmod_eq_emod_of_nonneg _ (by omega)]
  exact ⟨Int.emod_nonneg _ (by omega), Int.emod_lt_of_pos _ h⟩
theorem ok_well (T : Txt K mg) : FnOk P w K mg base (L2.CX P w) 1 T.a_w_well T.d_w_well P_w_well spWell := by
  refine T.F_w_well.okX sc_w_well (fun vs H Q E h => ?_) (fun cdv A outer s H vs Q E hr h => ?_)
  · obtain ⟨c, rfl, _⟩ := h
    rfl
  · obtain ⟨c, rfl, q⟩ := h
    refine ⟨_, pss_one (ps_ret (pe_lst (pa_cons (pe_op op_mul (pe_callB call_abs (by rfl) T.z_abs (by decide +kernel) (pa_cons (pv 0) pa_nil)) (pe_callTy call_int1 (by rfl) T.z_int (by decide +kernel) (pa_cons (pe_cmpR op_ge (pe_callB call_abs (by rfl) T.z_abs (by decide +kernel) (pa_cons (pv 0) pa_nil)) (pe_op op_pow pe_int pe_int) (nomark _)) pa_nil)))
      (pa_cons (pe_op op_modN (pe_callTy call_int1 (by rfl) T.z_int (by decide +kernel) (pa_cons (pe_callB call_abs (by rfl) T.z_abs (by decide +kernel) (pa_cons (pv 0) pa_nil)) pa_nil)) pe_int)
      (pa_cons pe_int pa_nil))))), ?_⟩
    refine ⟨.int c, rfl, c, rfl, .int c, rfl, c, rfl, 10, 18, rfl, rfl, ⟨by decide, by decide, by decide⟩, _, _, rfl, rfl, .inr ⟨_, rfl, _, _, rfl, rfl, .inr ?_, ?_⟩⟩
    · exact (fun b : Bool => by cases b <;> exact ⟨by decide, by decide⟩ : ∀ b : Bool, (-2 ^ 64 : Int) < (if b = true then 1 else 0) ∧ ((if b = true then 1 else 0) : Int) < 2 ^ 64) _
    refine ⟨.int c, rfl, c, rfl, .inl ⟨_, rfl, _, _, rfl, rfl, (show (2147483563 : Int) ≠ 0 by decide), (show 3 ≤ sizeLine by decide), fun p hp => ?_⟩⟩
    exact q _ p _ ((if c < 0 then -c else c).fmod 2147483563) (mod_rng (by omega)) (same_upd hp) hp upd_same
abbrev N_law : List Str := ["_law_script", "_law_k", "_law_well_here", "_law_turn"]
abbrev P_law : List Str := ["_law_script"]
theorem sc_law : FnScope N_law P_law (defScope s_law) := ⟨rfl, rfl, rfl, by decide +kernel, rfl, by decide +kernel, by decide +kernel⟩
def spLaw (K : PySem.W.Frag) : Sp := fun vs H Q _ => ∃ (a : Addr) (ns : List Int), vs = [.ref a] ∧ SqL K H a (ns.map V.int) ∧ ns.length ≤ 63 ∧ ∀ H', Q (.bl true) H'
/-- how far the well's own count has come -/
def Lap (b : Nat) (w : Wl) : Prop := 0 ≤ w.2.2 ∧ w.2.2 ≤ b ∧ 0 ≤ w.2.1 ∧ w.2.1 < 2147483563
def T_law : DT := (tOn (tNo (tTr (eCall 1 F_w_near_right (aCons (eVar 2) aNil)))) (tNo (tTr (eCall 1 F_w_far_right (aCons (eVar 2) aNil)))))
theorem well_slots {wa p : Addr} {H : Hp} {x y z : Option V} : Slots p (fun _ => none) H [x, y, some (.ref p), z] [none, none, some .well, none] := by
  refine ⟨rfl, fun i d e n => ?_, fun i xs e => ?_, fun i j xs ys q e1 e2 e3 e4 => ?_⟩
  · match i, e with
    | 2, e => cases e; exact ⟨_, rfl, .well⟩
    | n + 4, e => cases e
  · match i, e with
    | n + 4, e => cases e
  · match i, e1 with
    | n + 4, e => cases e
theorem turns_ok {D : Ends} {a p : Addr} {i : Nat} {H H3 : Hp} {c d : Int} {y3 : Option V} (hR : ∀ (b : Nat) (w : Wl), b < 1000000 → Lap b w → ∃ w', T_law [none, none, some .well, none] w = .ok false w' ∧ Lap (b + 1000) w')
    (k3 : ∀ o, H a = some o → H3 a = some o) (hap : ∀ o, H a = some o → a ≠ p) (hd : 0 ≤ d ∧ d < 2147483563) (hp : H3 p = some (.lst (wl (c, d, 0))))
    (nx : ∀ H', (∀ o, H a = some o → H' a = some o) → D.nx [some (.ref a), some (.int (0 + i)), some (.ref p), y3] H' ∧ ∀ y, D.nx [some (.ref a), some (.int (0 + i)), some (.ref p), some y] H') :
    tFor (L2.iRng1 (tCons (tC (V.int 5)) tNil)) (gName 3) (tIfS (lT mg W0 T_law) (tRet (tC (V.bl false))) tNext) D [some (.ref a), some (.int (0 + i)), some (.ref p), y3] H3 := by
  refine ⟨5, rfl, by decide, by decide, fun t m σ H4 => m = 5 - t ∧ t ≤ 5 ∧ (∀ o, H a = some o → H4 a = some o) ∧ ∃ z3 w4, σ = [some (.ref a), some (.int (0 + i)), some (.ref p), z3] ∧ (z3 = y3 ∨ ∃ y, z3 = some y) ∧ Lap (1000 * t) w4 ∧ H4 p = some (.lst (wl w4)), ⟨5, rfl, by decide, k3, _, (c, d, 0), rfl, .inl rfl, ⟨Int.le_refl 0, Int.le_refl 0, hd.1, hd.2⟩, hp⟩, ?_⟩
  rintro t m σ H4 ⟨rfl, ht, k4, y3, w4, rfl, hy3, l4, hp4⟩
  by_cases ht3 : t < 5
  · refine .inr ⟨ht3, fun σ' H' => (∀ o, H a = some o → H' a = some o) ∧ ∃ z3 w4, σ' = [some (.ref a), some (.int (0 + i)), some (.ref p), z3] ∧ (z3 = y3 ∨ ∃ y, z3 = some y) ∧ Lap (1000 * (t + 1)) w4 ∧ H' p = some (.lst (wl w4)), fun σ' H' hN => ?_, fun x H5 hy => ?_⟩
    · obtain ⟨k5, z3, w5, rfl, hz, l5, hp5⟩ := hN
      refine ⟨5 - (t + 1), by omega, rfl, ht3, k5, z3, w5, rfl, ?_, l5, hp5⟩
      rcases hz with rfl | hz
      · exact hy3
      · exact .inr hz
    obtain ⟨rfl, rfl⟩ := hy
    obtain ⟨w6, e6, l6⟩ := hR (1000 * t) w4 (by omega) l4
    refine ⟨p, fun _ => none, _, w4, ⟨fun _ _ z => (by cases z), hp4, rfl, fun _ _ z => (by cases z)⟩, well_slots (wa := p), ?_⟩
    rw [e6]
    intro H6 Hf6 g6 b6 v rv
    cases rv
    exact iteF ⟨fun o e => g6.keep a o (hap o e) (k4 o e), _, w6, rfl, .inr ⟨_, rfl⟩, l6, b6.well⟩
  · refine .inl ⟨show 5 ≤ t from by omega, ?_⟩
    rcases hy3 with rfl | ⟨y, rfl⟩
    · exact (nx _ k4).1
    · exact (nx _ k4).2 y
theorem ok_law (T : Txt K mg) (hR : ∀ (b : Nat) (w : Wl), b < 1000000 → Lap b w → ∃ w', T_law [none, none, some .well, none] w = .ok false w' ∧ Lap (b + 1000) w') : FnOk P w K mg base (L2.CX P w) (9 + 1) T.a_law T.d_law P_law (spLaw K) := by
  refine T.F_law.okX sc_law (fun vs H Q E h => ?_) (fun cdv A outer s H vs Q E hr h => ?_)
  · obtain ⟨a, ns, rfl, _⟩ := h
    rfl
  · obtain ⟨a, ns, rfl, hS, hlen, q⟩ := h
    refine ⟨_, pss_cons (ps_for (passes_of rfl) rfl (pi_range1 (by rfl) T.z_range (pa_cons (pe_op op_add (pe_callB (call_max2 rfl) (by rfl) T.z_max (by decide +kernel) (pa_cons pe_int (pa_cons (pe_callB (call_min2 rfl) (by rfl) T.z_min (by decide +kernel) (pa_cons pe_int (pa_cons (pe_callB call_len_seq (by rfl) T.z_len PySem.boot_len (pa_cons (pv 0) pa_nil)) pa_nil))) pa_nil))) pe_int) pa_nil))
        (pg_name (i := 1) sc_law.nd rfl (.inl rfl))
        (pss_cons (ps_set (i := 2) sc_law.nd rfl (.inl rfl) (pe_callS (CX := L2.CX P w) (k := 1) (f := T.a_w_well) (fd := T.d_w_well) (ps := P_w_well) (sp := spWell) (E := WE W0) (ok_well T) (hr.mono (by decide)) rfl T.g_w_well T.F_w_well.kp (b_w_well T) wok0 (pa_cons (pe_ifExp (pt_cmpR op_lt (pv 1) (pe_callB call_len_seq (by rfl) T.z_len PySem.boot_len (pa_cons (pv 0) pa_nil)) (nomark _)) (pe_ix ix_list (pv 0) (pv 1) (fun _ _ => rfl)) pe_int) pa_nil)))
          (pss_one (ps_for (passes_of rfl) rfl (pi_range1 (by rfl) T.z_range (pa_cons pe_int pa_nil)) (pg_name (i := 3) sc_law.nd rfl (.inl rfl))
            (pss_one (ps_if (show PT _ _ (lT mg W0 T_law) from (qd_or (qd_not (qd_tr (by refine pd_call (k := 9) (f := T.a_w_near_right) (fd := T.d_w_near_right) (ps := P_w_near_right) (F := F_w_near_right) ?_ ?_ ?_ ?_ ?_ ?_ ?_ ?_; exact d_w_near_right T; exact hr.mono (by decide); exact rfl; exact T.g_w_near_right; exact T.F_w_near_right.kp; exact b_w_near_right T; exact wok0; exact (ad_cons (pd_var 2) ad_nil)))) (qd_or1 (qd_not (qd_tr (by refine pd_call (k := 8) (f := T.a_w_far_right) (fd := T.d_w_far_right) (ps := P_w_far_right) (F := F_w_far_right) ?_ ?_ ?_ ?_ ?_ ?_ ?_ ?_; exact d_w_far_right T; exact hr.mono (by decide); exact rfl; exact T.g_w_far_right; exact T.F_w_far_right.kp; exact b_w_far_right T; exact wok0; exact (ad_cons (pd_var 2) ad_nil)))))).pt)
              (pss_one (ps_ret pe_bl)) pss_nil))))))
      (pss_one (ps_ret pe_bl)), ?_⟩
    refine ⟨.ref a, rfl, a, _, rfl, .inl hS, _, _, rfl, _, _, rfl, _, _, rfl, rfl, _, rfl, ?_, ?_, ?_⟩
    · split <;> split at * <;> omega
    · split <;> split at * <;> omega
    have hn4 : ∀ z : Int, ((if (if z < 5 then z else 5) > 1 then (if z < 5 then z else 5) else 1) + 1 : Int).toNat ≤ 6 := fun z => by
      split <;> split at * <;> omega
    obtain ⟨n, hn⟩ : ∃ n : Nat, n = ((if (if (((ns.map V.int).length : Nat) : Int) < 5 then (((ns.map V.int).length : Nat) : Int) else 5) > 1 then (if (((ns.map V.int).length : Nat) : Int) < 5 then (((ns.map V.int).length : Nat) : Int) else 5) else 1) + 1 : Int).toNat := ⟨_, rfl⟩
    have hn5 : n ≤ 6 := by
      rw [hn]
      exact hn4 _
    have kS : ∀ H' : Hp, (∀ o, H a = some o → H' a = some o) → SqL K H' a (ns.map V.int) := fun H' k => SqL.keep hS k
    refine ⟨fun i m σ H1 => m = n - i ∧ i ≤ n ∧ (∀ o, H a = some o → H1 a = some o) ∧ ∃ y1 y2 y3, σ = [some (.ref a), y1, y2, y3], ⟨n, rfl, Nat.zero_le _, fun _ e => e, none, none, none, rfl⟩, ?_⟩
    rintro i m σ H1 ⟨rfl, hi, k1, y1, y2, y3, rfl⟩
    by_cases hlt : i < n
    · refine .inr ⟨show i < Int.toNat _ from hn ▸ hlt, fun σ' H' => (∀ o, H a = some o → H' a = some o) ∧ ∃ y1 y2 y3, σ' = [some (.ref a), y1, y2, y3], fun σ' H' hN => ⟨n - (i + 1), by omega, rfl, hlt, hN⟩, fun x H2 hy => ?_⟩
      obtain ⟨rfl, rfl⟩ := hy
      have hap : ∀ (p : Addr), H2 p = none → ∀ o, H a = some o → a ≠ p := fun p np o e z => by
        have e2 := k1 o e
        rw [z, np] at e2
        cases e2
      refine ⟨.int (0 + i), rfl, .ref a, rfl, a, ns.map V.int, rfl, .inl (kS _ k1), 0 + i, (ns.map V.int).length, rfl, rfl, _, rfl, ite2 (fun e => ?_) (fun e => ?_)⟩
      · have e0 : 0 + (i : Int) < ((ns.map V.int).length : Int) := of_decide_eq_true e
        rw [List.length_map] at e0
        have hk2 : i < ns.length := by omega
        refine ⟨.ref a, rfl, .int (0 + i), rfl, a, _, 0 + i, .int ns[i], rfl, rfl, kS _ k1, by rw [Int.zero_add]; exact atI_nat (by rw [List.getElem?_map, List.getElem?_eq_getElem hk2]; rfl), ns[i], rfl, fun H3 p c d hd sm np hp => ?_⟩
        exact turns_ok hR (fun o e => sm _ _ (k1 o e)) (hap p np) hd hp fun H' k => ⟨⟨k, _, _, _, rfl⟩, fun y => ⟨k, _, _, _, rfl⟩⟩
      · refine ⟨0, rfl, fun H3 p c d hd sm np hp => ?_⟩
        exact turns_ok hR (fun o e => sm _ _ (k1 o e)) (hap p np) hd hp fun H' k => ⟨⟨k, _, _, _, rfl⟩, fun y => ⟨k, _, _, _, rfl⟩⟩
    · exact .inl ⟨show Int.toNat _ ≤ i from hn ▸ by omega, q H1⟩
end
end DL

set_option maxHeartbeats 2000000
namespace DL
open PySem PySem.Spec PyProof.Rows L2
/-! ### triplets by value -/
abbrev Tr := Int × Int × Int
def tD (t : Tr) : D := .tup [.int t.1, .int t.2.1, .int t.2.2]
theorem tD_e {a b c : Int} : D.tup [.int a, .int b, .int c] = tD (a, b, c) := rfl
def cnt (t : Tr) : Int := if (t.2.1 - t.1 + t.2.2).fdiv t.2.2 > 0 then (t.2.1 - t.1 + t.2.2).fdiv t.2.2 else 0
def at1 (t : Tr) (i : Int) : Int := t.1 + i * t.2.2
abbrev FARn : Int := 1000000000000000000000000000000
def inF (n : Int) : Bool := decide (-FARn ≤ n) && decide (n ≤ FARn)
theorem inF_iff {n : Int} : inF n = true ↔ -FARn ≤ n ∧ n ≤ FARn := by simp [inF]
/-- a triplet -/
structure Tri (t : Tr) : Prop where
  a : inF t.1 = true
  b : inF t.2.1 = true
  c : inF t.2.2 = true
  s : t.2.2 ≠ 0
theorem bt100 {n : Int} (h : inF n = true) : Bt 100 n := by
  rw [inF_iff] at h
  exact bt_of (Int.lt_of_lt_of_le (by decide) h.1) (Int.lt_of_le_of_lt h.2 (by decide))
section
variable {w : Wl} {t : Tr} {i n : Int}
@[simp] theorem getS_tD {s : Sl} : getS (some (tD t) :: s) 0 = some (tD t) := rfl
@[simp] theorem v_ixtD0 : fIx w (tD t) (.int 0) = some (.int t.1) := (v_ixT (xs := [.int t.1, .int t.2.1, .int t.2.2]) (a := 0)).trans atI_0
@[simp] theorem v_ixtD1 : fIx w (tD t) (.int 1) = some (.int t.2.1) := (v_ixT (xs := [.int t.1, .int t.2.1, .int t.2.2]) (a := 1)).trans atI_1
@[simp] theorem v_ixtD2 : fIx w (tD t) (.int 2) = some (.int t.2.2) := (v_ixT (xs := [.int t.1, .int t.2.1, .int t.2.2]) (a := 2)).trans atI_2
theorem e_is_number : F_is_number [.int n] w = .ok (.bl true) w := rfl
theorem e_is_far : F_is_far [.int n] w = .ok (.bl (inF n)) w := by
  apply okE_eq
  simp [F_is_far, B_is_far, okE_run, e_is_number, inF]
  by_cases h : -1000000000000000000000000000000 ≤ n <;> simp [h]
theorem e_is_triplet (h : Tri t) : F_is_triplet [tD t] w = .ok (.bl true) w := by
  apply okE_eq
  simp [F_is_triplet, B_is_triplet, okE_run, tD, List.replicate]
  refine ⟨lim7 (by decide), ?_⟩
  refine okE_lcall (xs := [t.1, t.2.1, t.2.2]) D.int (fun n => .bl (inF n)) (fun x _ => by simp [e_is_far]) ?_
  have h2 : fAll w [.lst ([t.1, t.2.1, t.2.2].map fun n => D.bl (inF n))] = some (.bl ([t.1, t.2.1, t.2.2].all inF)) := v_all (f := inF) (l := [t.1, t.2.1, t.2.2])
  rw [h2]
  simp [h.a, h.b, h.c, h.s]
theorem e_many (h0 : t.2.2 ≠ 0) (h1 : Bt 8000 t.2.2) : F_many_of [tD t] w = .ok (.int (cnt t)) w := by
  apply okE_eq
  have hd := div_bt h0 h1 (by omega)
  simp [F_many_of, B_many_of, okE_run, tD, List.replicate, hd, cnt]
theorem e_sub (h1 : Bt 8000 i) (h2 : Bt 8000 t.2.2) : F_subscript_of [tD t, .int i] w = .ok (.int (at1 t i)) w := by
  apply okE_eq
  have hd := mul_bt h1 h2 (by omega)
  simp [F_subscript_of, B_subscript_of, okE_run, tD, List.replicate, hd, at1]
/-- the number of an element -/
def idx (t : Tr) (n : Int) : Option Int := if (n - t.1).fmod t.2.2 = 0 ∧ 0 ≤ (n - t.1).fdiv t.2.2 ∧ (n - t.1).fdiv t.2.2 < cnt t then some ((n - t.1).fdiv t.2.2) else none
def oD : Option Int → D
  | none => .non
  | some i => .int i
@[simp] theorem v_isNi {x : Int} : fIsN w (.int x) .non = some (.bl false) := rfl
@[simp] theorem v_isNn : fIsN w .non .non = some (.bl true) := rfl
@[simp] theorem v_notNi {x : Int} : fNotN w (.int x) .non = some (.bl true) := rfl
@[simp] theorem v_notNn : fNotN w .non .non = some (.bl false) := rfl
end

/-! ### draws -/
section
variable {w : Wl} {b : Nat}
theorem seq_nx {U V : DS} {s s1 : Sl} {w w1 : Wl} (h : U s w = .nx s1 w1) : sSeq U V s w = V s1 w1 := by unfold sSeq; rw [h]
abbrev mX1 (k1 k2 k3 k4 : Int) : DE := eBin fMod (eCB fInt (aCons (eBin fMul (eBin fAdd (eBin fAdd (eBin fIx (eVar 0) (eC (.int 1))) (eBin fMul (eC (.int k1)) (eBin fIx (eVar 0) (eC (.int 2))))) (eC (.int k2))) (eC (.int k3))) aNil)) (eC (.int k4))
abbrev mX2 (k1 k2 k3 : Int) : DE := eBin fMod (eCB fInt (aCons (eBin fMul (eVar 3) (eBin fAdd (eBin fDiv (eVar 3) (eC (.int k1))) (eC (.int k2)))) aNil)) (eC (.int k3))
abbrev mX3 (k1 k2 k3 k4 : Int) : DE := eBin fMod (eCB fInt (aCons (eBin fDiv (eBin fMod (eCB fInt (aCons (eBin fMul (eVar 3) (eBin fAdd (eBin fDiv (eVar 3) (eC (.int k1))) (eC (.int k2)))) aNil)) (eC (.int k3))) (eC (.int k4))) aNil)) (eVar 1)
theorem mX1_ok {k1 k2 k3 k4 n : Int} {t2 t3 : Option D} (m1 : mulOk k1 w.2.2) (m2 : mulOk (w.2.1 + k1 * w.2.2 + k2) k3) (n4 : k4 ≠ 0) : mX1 k1 k2 k3 k4 [some .well, some (.int n), t2, t3] w = .ok (.int (((w.2.1 + k1 * w.2.2 + k2) * k3).fmod k4)) w := by
  apply okE_eq
  simp [mX1, m1, m2, n4]
theorem mX2_ok {k1 k2 k3 n z : Int} {t2 : Option D} (d1 : divOk k1) (m : mulOk z (z.fdiv k1 + k2)) (n3 : k3 ≠ 0) : mX2 k1 k2 k3 [some .well, some (.int n), t2, some (.int z)] w = .ok (.int ((z * (z.fdiv k1 + k2)).fmod k3)) w := by
  apply okE_eq
  simp [mX2, d1, m, n3]
theorem mX3_ok {k1 k2 k3 k4 n z : Int} {t2 : Option D} (d1 : divOk k1) (m : mulOk z (z.fdiv k1 + k2)) (n3 : k3 ≠ 0) (d4 : divOk k4) (nn : n ≠ 0) : mX3 k1 k2 k3 k4 [some .well, some (.int n), t2, some (.int z)] w = .ok (.int ((((z * (z.fdiv k1 + k2)).fmod k3).fdiv k4).fmod n)) w := by
  apply okE_eq
  simp [mX3, d1, m, n3, d4, nn]
theorem mix_run {k1 k2 k3 k4 k5 k6 k7 k8 k9 k10 k11 n z1 z2 : Int} {t2 : Option D} (hz1 : z1 = ((w.2.1 + k1 * w.2.2 + k2) * k3).fmod k4) (hz2 : z2 = (z1 * (z1.fdiv k5 + k6)).fmod k7)
    (m1 : mulOk k1 w.2.2) (m2 : mulOk (w.2.1 + k1 * w.2.2 + k2) k3) (n4 : k4 ≠ 0) (d5 : divOk k5) (m3 : mulOk z1 (z1.fdiv k5 + k6)) (n7 : k7 ≠ 0) (d8 : divOk k8) (m4 : mulOk z2 (z2.fdiv k8 + k9)) (n10 : k10 ≠ 0) (d11 : divOk k11) (nn : n ≠ 0) :
    sSeq (sAsg 3 (mX1 k1 k2 k3 k4)) (sSeq (sAsg 3 (mX2 k5 k6 k7)) (sRet (mX3 k8 k9 k10 k11))) [some .well, some (.int n), t2, none] w = .rt (.int ((((z2 * (z2.fdiv k8 + k9)).fmod k10).fdiv k11).fmod n)) w := by
  have e1 : sAsg 3 (mX1 k1 k2 k3 k4) [some .well, some (.int n), t2, none] w = .nx [some .well, some (.int n), t2, some (.int z1)] w := by
    unfold sAsg
    rw [mX1_ok m1 m2 n4, ← hz1]
    rfl
  have e2 : sAsg 3 (mX2 k5 k6 k7) [some .well, some (.int n), t2, some (.int z1)] w = .nx [some .well, some (.int n), t2, some (.int z2)] w := by
    unfold sAsg
    rw [mX2_ok d5 m3 n7, ← hz2]
    rfl
  have e3 : sRet (mX3 k8 k9 k10 k11) [some .well, some (.int n), t2, some (.int z2)] w = .rt (.int ((((z2 * (z2.fdiv k8 + k9)).fmod k10).fdiv k11).fmod n)) w := by
    unfold sRet
    rw [mX3_ok d8 m4 n10 d11 nn]
  exact (seq_nx e1).trans ((seq_nx e2).trans e3)
theorem btn {a : Int} {k : Nat} (h0 : 0 ≤ a) (h : a < 2 ^ k) : Bt k a := bt_of (by
  have : (0 : Int) < 2 ^ k := Int.pow_pos (by decide)
  omega) h
theorem bt50 {a : Int} (h0 : 0 ≤ a) (h : a < 1125899906842624) : Bt 50 a := btn h0 (by
  have : (2 : Int) ^ 50 = 1125899906842624 := by decide
  omega)
theorem mix_ok {n : Int} {t2 : Option D} (hw : 0 ≤ w.2.2 ∧ w.2.2 ≤ 2000000 ∧ 0 ≤ w.2.1 ∧ w.2.1 < 2147483563) (hn : 0 < n) {k1 k2 k3 k4 k5 k6 k7 k8 k9 k10 k11 : Int}
    (b1 : 0 ≤ k1 ∧ k1 ≤ 100000) (b2 : 0 ≤ k2 ∧ k2 ≤ 100000) (b3 : 0 ≤ k3 ∧ k3 ≤ 100000) (b4 : 0 < k4 ∧ k4 ≤ 4294967296) (b5 : 0 < k5 ∧ k5 ≤ 100000) (b6 : 0 ≤ k6 ∧ k6 ≤ 100000) (b7 : 0 < k7 ∧ k7 ≤ 4294967296) (b8 : 0 < k8 ∧ k8 ≤ 100000) (b9 : 0 ≤ k9 ∧ k9 ≤ 100000) (b10 : 0 < k10 ∧ k10 ≤ 4294967296) (b11 : 0 < k11 ∧ k11 ≤ 100000) :
    ∃ m : Int, (0 ≤ m ∧ m < n) ∧ sSeq (sAsg 3 (mX1 k1 k2 k3 k4)) (sSeq (sAsg 3 (mX2 k5 k6 k7)) (sRet (mX3 k8 k9 k10 k11))) [some .well, some (.int n), t2, none] w = .rt (.int m) w := by
  obtain ⟨z1, hz1⟩ : ∃ z, z = ((w.2.1 + k1 * w.2.2 + k2) * k3).fmod k4 := ⟨_, rfl⟩
  obtain ⟨z2, hz2⟩ : ∃ z, z = (z1 * (z1.fdiv k5 + k6)).fmod k7 := ⟨_, rfl⟩
  have a1 := fmod_range (a := (w.2.1 + k1 * w.2.2 + k2) * k3) b4.1
  rw [← hz1] at a1
  have a2 := fmod_range (a := z1 * (z1.fdiv k5 + k6)) b7.1
  rw [← hz2] at a2
  have a3 := fdiv_range (a := z1) b5.1 a1.1
  have a4 := fdiv_range (a := z2) b8.1 a2.1
  have p1 : 0 ≤ k1 * w.2.2 ∧ k1 * w.2.2 ≤ 200000000000 := ⟨Int.mul_nonneg b1.1 hw.1, Int.le_trans (Int.mul_le_mul b1.2 hw.2.1 hw.1 (by omega)) (by omega)⟩
  obtain ⟨y, hy⟩ : ∃ y, y = k1 * w.2.2 := ⟨_, rfl⟩
  rw [← hy] at p1
  refine ⟨_, fmod_range hn, mix_run hz1 hz2 ?_ ?_ (by omega) ?_ ?_ (by omega) ?_ ?_ (by omega) ?_ (by omega)⟩
  · exact mul_bt (bt50 b1.1 (by omega)) (bt50 hw.1 (by omega)) (by omega)
  · rw [← hy]
    exact mul_bt (bt50 (by omega) (by omega)) (bt50 b3.1 (by omega)) (by omega)
  · exact div_bt (by omega) (bt50 (by omega) (by omega)) (by omega)
  · exact mul_bt (bt50 a1.1 (by omega)) (bt50 (by omega) (by omega)) (by omega)
  · exact div_bt (by omega) (bt50 (by omega) (by omega)) (by omega)
  · exact mul_bt (bt50 a2.1 (by omega)) (bt50 (by omega) (by omega)) (by omega)
  · exact div_bt (by omega) (bt50 (by omega) (by omega)) (by omega)
theorem pp110 : (2 : Int) ^ 110 = 1298074214633706907132624082305024 := by decide
theorem divOk_small {n : Int} (h0 : 0 < n) (h1 : n ≤ 2 ^ 110) : divOk n :=
  div_bt (i := 111) (by omega) (nat_lt_pow (by omega) h1) (by omega)
def drawB (R : DS) : DS := (sSeq (sIf (tE (eBin fGt (eBin fIx (eVar 0) (eC (.int 0))) (eC (.int 0)))) (sSeq (sAsg 2 (eBin fMod (eCB fInt (aCons (eBin fIx (eVar 0) (eC (.int 0))) aNil)) (eVar 1))) (sSeq (sSetW (eVar 0) (eC (.int 0)) (eBin fDiv (eBin fIx (eVar 0) (eC (.int 0))) (eVar 1))) (sRet (eVar 2)))) sNx) (sSeq (sSetW (eVar 0) (eC (.int 2)) (eBin fAdd (eBin fIx (eVar 0) (eC (.int 2))) (eC (.int 1)))) R))
theorem draw_shape : F_w_draw = runB 4 2 (drawB (sSeq (sAsg 3 (mX1 50021 73 40692 2147483629)) (sSeq (sAsg 3 (mX2 1031 69621 2147483579)) (sRet (mX3 2017 48271 2147483549 13))))) := rfl
theorem drawB_run {n : Int} {R : DS} {Q : D → Wl → Prop} (hn : n ≠ 0) (dn : divOk n) (h1 : 0 < w.1 → Q (.int (w.1.fmod n)) (w.1.fdiv n, w.2.1, w.2.2)) (h2 : ¬ 0 < w.1 → ∃ d, R [some .well, some (.int n), none, none] (w.1, w.2.1, w.2.2 + 1) = .rt d (w.1, w.2.1, w.2.2 + 1) ∧ Q d (w.1, w.2.1, w.2.2 + 1)) :
    okE (runB 4 2 (drawB R) [.well, .int n] w) Q := by
  by_cases hp : 0 < w.1
  · simp [drawB, okE_run, List.replicate, hp, hn, dn]
    exact h1 hp
  · obtain ⟨d, e, q⟩ := h2 hp
    simp [drawB, okE_run, List.replicate, hp, e]
    exact q
theorem e_draw {n : Int} (h0 : 0 < n) (h1 : n ≤ 2 ^ 110) (hb : b < 1010000) (hw : Lap b w) : okE (F_w_draw [.well, .int n] w) fun d w' => ∃ k : Int, d = .int k ∧ (0 ≤ k ∧ k < n) ∧ Lap (b + 1) w' := by
  obtain ⟨l0, l1, l2, l3⟩ := hw
  rw [draw_shape]
  refine drawB_run (by omega) (divOk_small h0 h1) (fun hp => ⟨_, rfl, fmod_range h0, l0, by show w.2.2 ≤ _; omega, l2, l3⟩) fun hp => ?_
  obtain ⟨m, hm, e⟩ := mix_ok (w := (w.1, w.2.1, w.2.2 + 1)) (t2 := none) (n := n) (k1 := 50021) (k2 := 73) (k3 := 40692) (k4 := 2147483629) (k5 := 1031) (k6 := 69621) (k7 := 2147483579) (k8 := 2017) (k9 := 48271) (k10 := 2147483549) (k11 := 13) ⟨by show 0 ≤ w.2.2 + 1; omega, by show w.2.2 + 1 ≤ _; omega, l2, l3⟩ h0 ⟨by omega, by omega⟩ ⟨by omega, by omega⟩ ⟨by omega, by omega⟩ ⟨by omega, by omega⟩ ⟨by omega, by omega⟩ ⟨by omega, by omega⟩ ⟨by omega, by omega⟩ ⟨by omega, by omega⟩ ⟨by omega, by omega⟩ ⟨by omega, by omega⟩ ⟨by omega, by omega⟩
  exact ⟨_, e, _, rfl, hm, by show 0 ≤ w.2.2 + 1; omega, by show w.2.2 + 1 ≤ _; omega, l2, l3⟩
/-- a draw, and then on -/
theorem draw {n : Int} {Q : D → Wl → Prop} (hw : Lap b w) (h0 : 0 < n) (h1 : n ≤ 2 ^ 110) (hb : b < 1010000) (q : ∀ (k : Int) (w' : Wl), 0 ≤ k → k < n → Lap (b + 1) w' → Q (.int k) w') : okE (F_w_draw [.well, .int n] w) Q :=
  okE_mono (e_draw h0 h1 hb hw) fun d w' ⟨k, e, h, l⟩ => by subst e; exact q k w' h.1 h.2 l
/-- one of some -/
theorem pick {l : List D} {Q : D → Wl → Prop} (hw : Lap b w) (h0 : l ≠ []) (h1 : l.length ≤ 1000) (hb : b < 1010000) (q : ∀ x ∈ l, ∀ (w' : Wl), Lap (b + 1) w' → Q x w') : okE (F_w_pick [.well, .lst l] w) Q := by
  have hl : 0 < l.length := List.length_pos_iff.mpr h0
  have e100 := pp110
  simp [F_w_pick, B_w_pick, okE_run, List.replicate]
  refine draw hw (by omega) (by omega) hb fun k w' k0 k1 l1 => ?_
  obtain ⟨x, hx, hm⟩ := atI_of k0 k1
  simp [hx]
  exact q x hm w' l1
theorem lap_le {c : Nat} (h : Lap b w) (h1 : b ≤ c) : Lap c w := ⟨h.1, by have := h.2.1; omega, h.2.2⟩
end

/-! ### how many elements a triplet has -/
theorem fdiv_neg2 (a b : Int) : (-a).fdiv (-b) = a.fdiv b := by
  exact Int.neg_fdiv_neg a b
theorem cnt_iff {t : Tr} (h : t.2.2 ≠ 0) {i : Int} (hi : 0 ≤ i) : i < cnt t ↔ (0 < t.2.2 ∧ at1 t i ≤ t.2.1) ∨ (t.2.2 < 0 ∧ t.2.1 ≤ at1 t i) := by
  obtain ⟨a, b, s⟩ := t
  unfold cnt at1
  simp only at h ⊢
  have hq : (i < if (b - a + s).fdiv s > 0 then (b - a + s).fdiv s else 0) ↔ i + 1 ≤ (b - a + s).fdiv s := by
    split <;> omega
  rw [hq]
  rcases Int.lt_or_gt_of_ne h with hs | hs
  · rw [← fdiv_neg2, Int.fdiv_eq_ediv_of_nonneg _ (by omega), Int.le_ediv_iff_mul_le (by omega)]
    have : (i + 1) * -s = -(i * s) - s := by rw [Int.add_mul, Int.mul_neg]; omega
    rw [this]
    omega
  · rw [Int.fdiv_eq_ediv_of_nonneg _ (by omega), Int.le_ediv_iff_mul_le (by omega)]
    have : (i + 1) * s = i * s + s := by rw [Int.add_mul]; omega
    rw [this]
    omega
theorem cnt_nonneg {t : Tr} : 0 ≤ cnt t := by
  unfold cnt
  split <;> omega
theorem mul_ge {i s : Int} (hi : 0 ≤ i) (hs : 0 < s) : i ≤ i * s := by
  have := Int.mul_le_mul_of_nonneg_left (show 1 ≤ s by omega) hi
  omega
/-- no more elements than numbers between the bounds -/
theorem cnt_le {t : Tr} (h : t.2.2 ≠ 0) {n : Int} (hn : 0 ≤ n) (h1 : 0 < t.2.2 → t.2.1 - t.1 < n) (h2 : t.2.2 < 0 → t.1 - t.2.1 < n) : cnt t ≤ n := by
  by_cases hc : cnt t ≤ n
  · exact hc
  · have := (cnt_iff h hn).mp (by omega)
    unfold at1 at this
    rcases this with ⟨hs, h3⟩ | ⟨hs, h3⟩
    · have := mul_ge hn hs
      have := h1 hs
      omega
    · have := mul_ge hn (show 0 < -t.2.2 by omega)
      rw [Int.mul_neg] at this
      have := h2 hs
      omega
/-- an element lies between the bounds -/
theorem at1_in {t : Tr} (h : t.2.2 ≠ 0) {i : Int} (hi : 0 ≤ i) (hc : i < cnt t) : (t.1 ≤ at1 t i ∧ at1 t i ≤ t.2.1) ∨ (t.2.1 ≤ at1 t i ∧ at1 t i ≤ t.1) := by
  rcases (cnt_iff h hi).mp hc with ⟨hs, h3⟩ | ⟨hs, h3⟩
  · left
    have : 0 ≤ i * t.2.2 := Int.mul_nonneg hi (by omega)
    unfold at1 at *
    omega
  · right
    have : 0 ≤ i * -t.2.2 := Int.mul_nonneg hi (by omega)
    rw [Int.mul_neg] at this
    unfold at1 at *
    omega
theorem at1_far {t : Tr} (h : Tri t) {i : Int} (hi : 0 ≤ i) (hc : i < cnt t) : inF (at1 t i) = true := by
  have ha := h.a
  have hb := h.b
  rw [inF_iff] at *
  rcases at1_in h.s hi hc with h1 | h1 <;> omega
theorem at1_inj {t : Tr} (h : t.2.2 ≠ 0) {i j : Int} (e : at1 t i = at1 t j) : i = j := by
  unfold at1 at e
  exact Int.eq_of_mul_eq_mul_right h (by omega)
theorem idx_at {t : Tr} (h : t.2.2 ≠ 0) {i : Int} (hi : 0 ≤ i) (hc : i < cnt t) : idx t (at1 t i) = some i := by
  unfold idx
  have e : at1 t i - t.1 = i * t.2.2 := by unfold at1; omega
  rw [e, Int.mul_fdiv_cancel _ h, Int.mul_fmod_left, if_pos ⟨rfl, hi, hc⟩]
theorem idx_some {t : Tr} (h : t.2.2 ≠ 0) {n j : Int} (e : idx t n = some j) : 0 ≤ j ∧ j < cnt t ∧ at1 t j = n := by
  unfold idx at e
  split at e
  · rename_i hc
    cases e
    refine ⟨hc.2.1, hc.2.2, ?_⟩
    have := Int.fmod_def (n - t.1) t.2.2
    unfold at1
    rw [hc.1] at this
    rw [Int.mul_comm] at this
    omega
  · cases e
theorem cnt_bt {t : Tr} (h : Tri t) : cnt t ≤ 2000000000000000000000000000001 := by
  have ha := h.a
  have hb := h.b
  rw [inF_iff] at ha hb
  exact cnt_le h.s (by omega) (fun _ => by simp only [FARn] at ha hb; omega) (fun _ => by simp only [FARn] at ha hb; omega)
theorem p110 : (2 : Int) ^ 110 = 1298074214633706907132624082305024 := by decide
section
variable {w : Wl} {t : Tr} {i n : Int}
theorem e_check_triplet (h : Tri t) {s : Str} : F_check_triplet [tD t, .str s] w = .ok .non w := by
  apply okE_eq
  have := e_is_triplet (w := w) h
  simp [F_check_triplet, B_check_triplet, okE_run, List.replicate, this]
theorem e_triplet_size (h : Tri t) : F_triplet_size [tD t] w = .ok (.int (cnt t)) w := by
  apply okE_eq
  have hm := e_many (w := w) h.s ((bt100 h.c).mono (by omega))
  simp [F_triplet_size, B_triplet_size, okE_run, e_check_triplet h, hm]
end

/-! ### what the law draws -/
structure NearT (t : Tr) : Prop where
  a : -100 ≤ t.1 ∧ t.1 ≤ 100
  b : -100 ≤ t.2.1 ∧ t.2.1 ≤ 100
  c : -9 ≤ t.2.2 ∧ t.2.2 ≤ 9
  s : t.2.2 ≠ 0
  up : 0 < t.2.2 → t.2.1 - t.1 < 101
  dn : t.2.2 < 0 → t.1 - t.2.1 < 101
theorem NearT.tri {t : Tr} (h : NearT t) : Tri t := by
  have h1 := h.a
  have h2 := h.b
  have h3 := h.c
  refine ⟨?_, ?_, ?_, h.s⟩ <;> rw [inF_iff] <;> simp only [FARn] <;> omega
theorem NearT.few {t : Tr} (h : NearT t) : cnt t ≤ 101 := cnt_le h.s (by omega) h.up h.dn
def mem (t : Tr) : List Int := (List.range (cnt t).toNat).map fun k => at1 t (k : Nat)
section
variable {w : Wl} {b : Nat} {t : Tr}
theorem near0 (hw : Lap b w) (hb : b < 1009000) {Q : D → Wl → Prop} (q : ∀ t w', (NearT t ∧ -60 ≤ t.1 ∧ t.1 ≤ 60 ∧ -60 ≤ t.2.1 ∧ t.2.1 ≤ 60 ∧ (0 < t.2.2 → t.2.1 - t.1 < 61) ∧ (t.2.2 < 0 → t.1 - t.2.1 < 61)) → Lap (b + 4) w' → Q (tD t) w') : okE (F_w_near [.well] w) Q := by
  have hl : (8 : Nat) ≤ lim := by decide
  have hl3 : (3 : Nat) ≤ lim := by decide
  simp [F_w_near, B_w_near, okE_run, List.replicate, hl]
  refine pick hw (by simp) (by simp) (by omega) fun x hx w1 l1 => ?_
  obtain ⟨e, rfl, he⟩ : ∃ e : Int, x = .int e ∧ 0 ≤ e ∧ e ≤ 8 := by
    simp at hx
    rcases hx with h | h | h | h | h | h | h <;> exact ⟨_, h, by omega, by omega⟩
  simp
  refine draw l1 (by omega) (by decide) (by omega) fun f w2 f0 f1 l2 => ?_
  simp
  refine draw l2 (by omega) (by decide) (by omega) fun g w3 g0 g1 l3 => ?_
  simp
  refine draw l3 (by omega) (by decide) (by omega) fun c w4 c0 c1 l4 => ?_
  simp [hl3]
  split
  · exact q (f - 20, f - 20 + g - 20, 1 + e) w4 ⟨⟨⟨by show _ ≤ f - 20; omega, by show f - 20 ≤ _; omega⟩, ⟨by show _ ≤ f - 20 + g - 20; omega, by show f - 20 + g - 20 ≤ _; omega⟩, ⟨by show _ ≤ 1 + e; omega, by show 1 + e ≤ _; omega⟩, by show 1 + e ≠ 0; omega, fun _ => by show f - 20 + g - 20 - (f - 20) < _; omega, fun h => by have h : 1 + e < 0 := h; omega⟩, by show _ ≤ f - 20; omega, by show f - 20 ≤ _; omega, by show _ ≤ f - 20 + g - 20; omega, by show f - 20 + g - 20 ≤ _; omega, fun _ => by show f - 20 + g - 20 - (f - 20) < _; omega, fun h => by have h : 1 + e < 0 := h; omega⟩ l4
  · have e1 : -(1 + e) = 0 - (1 + e) := by omega
    rw [e1]
    exact q (f - 20 + g - 20, f - 20, 0 - (1 + e)) w4 ⟨⟨⟨by show _ ≤ f - 20 + g - 20; omega, by show f - 20 + g - 20 ≤ _; omega⟩, ⟨by show _ ≤ f - 20; omega, by show f - 20 ≤ _; omega⟩, ⟨by show _ ≤ 0 - (1 + e); omega, by show 0 - (1 + e) ≤ _; omega⟩, by show 0 - (1 + e) ≠ 0; omega, fun h => by have h : 0 < 0 - (1 + e) := h; omega, fun _ => by show f - 20 + g - 20 - (f - 20) < _; omega⟩, by show _ ≤ f - 20 + g - 20; omega, by show f - 20 + g - 20 ≤ _; omega, by show _ ≤ f - 20; omega, by show f - 20 ≤ _; omega, fun h => by have h : 0 < 0 - (1 + e) := h; omega, fun _ => by show f - 20 + g - 20 - (f - 20) < _; omega⟩ l4
theorem near (hw : Lap b w) (hb : b < 1009000) {Q : D → Wl → Prop} (q : ∀ t w', NearT t → Lap (b + 4) w' → Q (tD t) w') : okE (F_w_near [.well] w) Q := near0 hw hb fun t w' h l => q t w' h.1 l
theorem mem_len : (mem t).length = (cnt t).toNat := by simp [mem]
theorem e_members (h : NearT t) : F_w_members [tD t] w = .ok (.lst ((mem t).map .int)) w := by
  apply okE_eq
  have hl : (1 : Nat) ≤ lim := by decide
  have hf := h.few
  have hn := cnt_nonneg (t := t)
  obtain ⟨N, hN⟩ : ∃ N : Nat, (N : Int) = cnt t := ⟨(cnt t).toNat, by omega⟩
  simp [F_w_members, B_w_members, okE_run, List.replicate]
  refine okS_loop0 (fun i s w' => w' = w ∧ i ≤ N ∧ ∃ a b, s = [some (tD t), some (.own (((mem t).take i).map .int)), a, b]) ⟨rfl, by omega, none, none, rfl⟩ ?_ ?_
  · rintro i d s w2 hd ⟨rfl, hi, a, b, rfl⟩
    have hd2 : d = .int i := by
      unfold upTo at hd
      rw [List.getElem?_map] at hd
      obtain ⟨j, hj, rfl⟩ := Option.map_eq_some_iff.mp hd
      rw [List.getElem?_range (by have := (List.getElem?_eq_some_iff.mp hj).1; simpa using this)] at hj
      cases hj
      simp
    subst hd2
    have hx := cnt_iff h.s (i := i) (by omega)
    have hm : mulOk (i : Int) t.2.2 := by
      have h3 := h.c
      exact mul_bt (i := 50) (j := 50) (bt50 (by omega) (by omega)) (bt_of (by omega) (by omega)) (by omega)
    have hlen := mem_len (t := t)
    have hml : min i (mem t).length < lim := Nat.lt_of_le_of_lt (Nat.min_le_left _ _) (Nat.lt_of_lt_of_le (show i < 200 by omega) (by decide))
    have G1 : i < N → min i (mem t).length < lim ∧ i + 1 ≤ N ∧ List.take i (List.map D.int (mem t)) ++ [D.int (t.1 + ↑i * t.2.2)] = List.take (i + 1) (List.map D.int (mem t)) := fun h1 => by
      refine ⟨hml, h1, ?_⟩
      rw [List.take_add_one]
      congr 1
      have h2 : i < (cnt t).toNat := by omega
      simp [mem, at1, h2]
    have G2 : ¬ i < N → List.take i (List.map D.int (mem t)) = List.map D.int (mem t) := fun h1 => by
      rw [List.take_of_length_le]
      rw [List.length_map]
      omega
    simp [tD]
    refine ⟨hm, ?_⟩
    unfold at1 at hx
    have hs := h.s
    split <;> (try split) <;> (try split) <;> (try split) <;> first | exact G2 (by omega) | exact G1 (by omega)
  · rintro s w2 ⟨rfl, hi, a, b, rfl⟩
    simp [upTo] at hi
    omega
/-! far ones -/
theorem i30 : (10 : Int) ^ 30 = 1000000000000000000000000000000 := by decide
theorem e_count (h : Tri t) : F_w_count [tD t] w = .ok (.int (cnt t)) w := by
  apply okE_eq
  have hb := bt100 h.c
  have ha : (if t.2.2 < 0 then -t.2.2 else t.2.2) ≠ 0 ∧ Bt 100 (if t.2.2 < 0 then -t.2.2 else t.2.2) := by
    have := h.s
    split
    · exact ⟨by omega, bt_neg hb⟩
    · exact ⟨this, hb⟩
  have hd := div_bt ha.1 ha.2 (by omega)
  have uniq : ∀ c : Int, 0 ≤ c → (∀ i : Int, 0 ≤ i → (i < c ↔ i < cnt t)) → c = cnt t := fun c h0 hc => by
    have h1 := hc c h0
    have h2 := hc (cnt t) cnt_nonneg
    omega
  have hs := h.s
  have key : ∀ (A L : Int), 0 < A → (∀ i : Int, 0 ≤ i → (i * A ≤ L ↔ i < cnt t)) → (0 ≤ L → L.fdiv A + 1 = cnt t) ∧ (¬ 0 ≤ L → 0 = cnt t) := fun A L hA hc => by
    refine ⟨fun hL => ?_, fun hL => ?_⟩
    · have hq := fdiv_range hA hL
      refine uniq _ (by omega) fun i hi => ?_
      rw [← hc i hi, Int.fdiv_eq_ediv_of_nonneg _ (by omega), ← Int.le_ediv_iff_mul_le hA]
      omega
    · refine uniq _ (by omega) fun i hi => ?_
      rw [← hc i hi]
      have := Int.mul_nonneg hi (Int.le_of_lt hA)
      omega
  simp [F_w_count, B_w_count, okE_run, List.replicate, tD, hd]
  by_cases hp : 0 < t.2.2
  · rw [if_pos hp, if_neg (show ¬ t.2.2 < 0 by omega)]
    obtain ⟨k1, k2⟩ := key t.2.2 (t.2.1 - t.1) hp (fun i hi => by
      rw [cnt_iff hs hi]
      unfold at1
      omega)
    split
    · exact k1 (by omega)
    · exact k2 (by omega)
  · rw [if_neg hp, if_pos (show t.2.2 < 0 by omega)]
    obtain ⟨k1, k2⟩ := key (-t.2.2) (t.1 - t.2.1) (by omega) (fun i hi => by
      rw [cnt_iff hs hi, Int.mul_neg]
      unfold at1
      omega)
    split
    · exact k1 (by omega)
    · exact k2 (by omega)
theorem sgn {k : Int} (h0 : 0 ≤ k) (h1 : k < 2) : 1 - 2 * k = 1 ∨ 1 - 2 * k = -1 := by omega
theorem bt101 {n : Int} (h0 : -1000000000000000000000000000000 ≤ n) (h1 : n ≤ 1000000000000000000000000000000) : Bt 101 n := bt_of (Int.lt_of_lt_of_le (by decide) h0) (Int.lt_of_le_of_lt h1 (by decide))
theorem pickI {ns : List Int} (P : Int → Prop) (hP : ∀ n ∈ ns, P n) {Q : D → Wl → Prop} (hw : Lap b w) (h0 : ns ≠ []) (h1 : ns.length ≤ 1000) (hb : b < 1010000) (q : ∀ (n : Int) (w' : Wl), P n → Lap (b + 1) w' → Q (.int n) w') : okE (F_w_pick [.well, .lst (ns.map .int)] w) Q :=
  pick hw (by simpa using h0) (by simpa using h1) hb fun x hx w' l => by
    obtain ⟨n, hn, rfl⟩ := List.mem_map.mp hx
    exact q n w' (hP n hn) l
def P30 (n : Int) : Prop := 0 ≤ n ∧ n ≤ 1000000000000000000000000000000
theorem mulS {n k : Int} (hn : P30 n) (h0 : 0 ≤ k) (h1 : k < 2) : mulOk 2 k ∧ mulOk n (1 - 2 * k) ∧ -1000000000000000000000000000000 ≤ n * (1 - 2 * k) ∧ n * (1 - 2 * k) ≤ 1000000000000000000000000000000 ∧ (n ≠ 0 → n * (1 - 2 * k) ≠ 0) := by
  unfold P30 at hn
  refine ⟨mul_bt (bt50 (by omega) (by omega)) (bt50 h0 (by omega)) (by omega), mul_bt (i := 101) (j := 101) (bt101 (by omega) (by omega)) (bt101 (by omega) (by omega)) (by omega), ?_⟩
  rcases sgn h0 h1 with e | e <;> rw [e] <;> omega
theorem far (hw : Lap b w) (hb : b < 1009000) {Q : D → Wl → Prop} (q : ∀ t w', Tri t → Lap (b + 10) w' → Q (tD t) w') : okE (F_w_far [.well] w) Q := by
  have hl : (7 : Nat) ≤ lim := by decide
  have hl3 : (3 : Nat) ≤ lim := by decide
  have hl9 : (9 : Nat) ≤ lim := by decide
  have m1 : mulOk 3 (10 ^ 18) := mul_bt (i := 100) (j := 100) (bt_of (by decide) (by decide)) (bt_of (by decide) (by decide)) (by omega)
  simp [F_w_far, B_w_far, okE_run, List.replicate, hl]
  refine ⟨m1, ?_⟩
  refine draw hw (by omega) (by decide) (by omega) fun z w1 z0 z1 l1 => ?_
  have m2 : mulOk z 100000000000000000000 := mul_bt (i := 101) (j := 101) (bt101 (by omega) (by omega)) (bt101 (by omega) (by omega)) (by omega)
  have hz : P30 (z * 100000000000000000000) := by unfold P30; omega
  generalize hzz : z * 100000000000000000000 = zz at hz
  simp [m2, hzz]
  refine draw l1 (by omega) (by decide) (by omega) fun y w2 y0 y1 l2 => ?_
  have ha : ∀ n ∈ [1000000000000000000000000000000, 999999999999999999999999999999, 100000000000000000000, 3000000000000000000, 0, zz, y], P30 n := by
    intro n hn
    simp only [List.mem_cons, List.not_mem_nil, or_false] at hn
    unfold P30 at *
    omega
  refine pickI (ns := [1000000000000000000000000000000, 999999999999999999999999999999, 100000000000000000000, 3000000000000000000, 0, zz, y]) P30 ha l2 (by simp) (by simp) (by omega) fun f w3 hf l3 => ?_
  refine pickI (ns := [1000000000000000000000000000000, 999999999999999999999999999999, 100000000000000000000, 3000000000000000000, 0, zz, y]) P30 ha l3 (by simp) (by simp) (by omega) fun g w4 hg l4 => ?_
  simp
  refine draw l4 (by omega) (by decide) (by omega) fun s1 w5 s10 s11 l5 => ?_
  obtain ⟨n1, n2, n3, n4, _⟩ := mulS hf s10 s11
  simp [n1, n2]
  refine draw l5 (by omega) (by decide) (by omega) fun s2 w6 s20 s21 l6 => ?_
  obtain ⟨n5, n6, n7, n8, _⟩ := mulS hg s20 s21
  simp [n5, n6]
  refine draw l6 (by omega) (by decide) (by omega) fun s3 w7 s30 s31 l7 => ?_
  simp [hl9]
  have hc : ∀ n ∈ [1, 1, 2, 3, 7, 60, 1000000000000000, 1000000000000000000000000000000, 1 + s3], P30 n ∧ n ≠ 0 := by
    intro n hn
    simp only [List.mem_cons, List.not_mem_nil, or_false] at hn
    unfold P30
    omega
  refine pickI (ns := [1, 1, 2, 3, 7, 60, 1000000000000000, 1000000000000000000000000000000, 1 + s3]) (fun n => P30 n ∧ n ≠ 0) hc l7 (by simp) (by simp) (by omega) fun c w8 hc l8 => ?_
  simp
  refine draw l8 (by omega) (by decide) (by omega) fun s4 w9 s40 s41 l9 => ?_
  obtain ⟨n9, n10, n11, n12, n13⟩ := mulS hc.1 s40 s41
  simp [n9, n10, hl3]
  exact q (f * (1 - 2 * s1), g * (1 - 2 * s2), c * (1 - 2 * s4)) w9 ⟨inF_iff.mpr ⟨n3, n4⟩, inF_iff.mpr ⟨n7, n8⟩, inF_iff.mpr ⟨n11, n12⟩, n13 hc.2⟩ (lap_le l9 (by omega))
end

/-! ### the law's own -/
section
variable {w : Wl} {b : Nat} {t : Tr}
theorem upTo_get {lo : Int} {n i : Nat} {d : D} (h : (upTo lo n)[i]? = some d) : i < n ∧ d = .int (lo + (i : Nat)) := by
  unfold upTo at h
  rw [List.getElem?_map] at h
  obtain ⟨j, hj, rfl⟩ := Option.map_eq_some_iff.mp h
  have hi : i < n := by
    have := (List.getElem?_eq_some_iff.mp hj).1
    simpa using this
  rw [List.getElem?_range hi] at hj
  cases hj
  exact ⟨hi, rfl⟩
theorem mem_get {j : Nat} : (mem t)[j]? = if j < (cnt t).toNat then some (at1 t (j : Nat)) else none := by
  unfold mem
  rw [List.getElem?_map]
  split
  · rename_i h
    rw [List.getElem?_range h]
    rfl
  · rename_i h
    rw [List.getElem?_eq_none (by simpa using h)]
    rfl
theorem mem_iff {n : Int} (h : t.2.2 ≠ 0) : n ∈ mem t ↔ ∃ j, idx t n = some j := by
  constructor
  · intro hm
    unfold mem at hm
    obtain ⟨k, hk, rfl⟩ := List.mem_map.mp hm
    have hk := List.mem_range.mp hk
    exact ⟨_, idx_at h (by omega) (by omega)⟩
  · rintro ⟨j, hj⟩
    obtain ⟨h0, h1, h2⟩ := idx_some h hj
    unfold mem
    exact List.mem_map.mpr ⟨j.toNat, List.mem_range.mpr (by omega), by rw [← h2, Int.toNat_of_nonneg h0]⟩
theorem find_mem {n j : Int} (h : t.2.2 ≠ 0) (hj : idx t n = some j) : ((mem t).findIdx? fun b => decide (b = n)) = some j.toNat := by
  obtain ⟨h0, h1, h2⟩ := idx_some h hj
  rw [List.findIdx?_eq_some_iff_getElem]
  have hl := mem_len (t := t)
  have hlt : j.toNat < (mem t).length := by omega
  have ge : ∀ (k : Nat) (hk : k < (mem t).length), (mem t)[k] = at1 t (k : Nat) := fun k hk => by
    have := mem_get (t := t) (j := k)
    rw [if_pos (by omega), List.getElem?_eq_getElem hk] at this
    exact Option.some.inj this
  refine ⟨hlt, ?_, fun k hk => ?_⟩
  · rw [ge _ hlt, Int.toNat_of_nonneg h0, h2]
    simp
  · rw [ge _ (by omega), ← h2]
    simp only [decide_eq_true_eq, Bool.not_eq_true', decide_eq_false_iff_not]
    intro e
    have := at1_inj h e
    omega
theorem okS_then {U V : DS} {s : Sl} {w : Wl} {N : Sl → Wl → Prop} {Z : D → Wl → Prop} (M : Sl → Wl → Prop) (h : okS (U s w) M Z) (q : ∀ s1 w1, M s1 w1 → okS (V s1 w1) N Z) : okS (sSeq U V s w) N Z := by
  rw [okS_seq]
  exact okS_mono h q fun _ _ z => z
end

/-! ### normal and turned triplets -/
section
variable {w : Wl} {b : Nat} {t u : Tr}
def up (t : Tr) : Tr := if 0 < t.2.2 then (t.1, at1 t (cnt t - 1), t.2.2) else (at1 t (cnt t - 1), t.1, -t.2.2)
def nrm (t : Tr) : Tr := if cnt t = 0 then (0, -1, 1) else if cnt t = 1 then (t.1, t.1, 1) else up t
/-- wide: what is reckoned with -/
structure Wd (t : Tr) : Prop where
  s : t.2.2 ≠ 0
  bs : Bt 4000 t.2.2
  bc : Bt 4000 (cnt t)
theorem Tri.wd (h : Tri t) : Wd t := ⟨h.s, (bt100 h.c).mono (by omega), by
  have := cnt_bt h
  have := cnt_nonneg (t := t)
  exact (bt_of (i := 110) (by omega) (by have := p110; omega)).mono (by omega)⟩
theorem bt1 {n : Nat} (h : 1 ≤ n) : Bt n 1 := by
  unfold Bt
  exact Nat.lt_of_lt_of_le (by decide) (Nat.pow_le_pow_right (by decide) h)
theorem e_last (h : Wd t) : F_last_of [tD t] w = .ok (.int (at1 t (cnt t - 1))) w := by
  apply okE_eq
  have hm := e_many (w := w) h.s (h.bs.mono (by omega))
  have hs := e_sub (w := w) (t := t) (i := cnt t - 1) ((bt_sub h.bc (bt1 (by omega))).mono (by omega)) (h.bs.mono (by omega))
  simp -implicitDefEqProofs [F_last_of, B_last_of, okE_run, hm, hs]
theorem e_upward (h : Wd t) : F_upward [tD t] w = .ok (tD (up t)) w := by
  apply okE_eq
  have hl : (3 : Nat) ≤ lim := by decide
  simp -implicitDefEqProofs [F_upward, B_upward, okE_run, e_last h, hl, up]
  split <;> rfl
theorem e_normal_of (h : Wd t) : F_normal_of [tD t] w = .ok (tD (nrm t)) w := by
  apply okE_eq
  have hm := e_many (w := w) h.s (h.bs.mono (by omega))
  have hl : (3 : Nat) ≤ lim := by decide
  simp -implicitDefEqProofs [F_normal_of, B_normal_of, okE_run, List.replicate, hm, hl, e_upward h, nrm]
  by_cases h0 : cnt t = 0
  · simp -implicitDefEqProofs [h0, tD]
  · by_cases h1 : cnt t = 1
    · simp -implicitDefEqProofs [h1, tD]
    · simp -implicitDefEqProofs [h0, h1]
/-- the same elements in the same order, as the program tells it -/
def runB2 (t u : Tr) : Bool := if cnt t ≠ cnt u then false else if 1 < cnt t then decide (t.1 = u.1) && decide (t.2.2 = u.2.2) else decide (mem t = mem u)
end

/-! ### what normal triplets are -/
section
variable {t u : Tr}
theorem cnt_uniq {t : Tr} {c : Int} (h : t.2.2 ≠ 0) (h0 : 0 ≤ c) (hc : ∀ i : Int, 0 ≤ i → (i < c ↔ (0 < t.2.2 ∧ at1 t i ≤ t.2.1) ∨ (t.2.2 < 0 ∧ t.2.1 ≤ at1 t i))) : cnt t = c := by
  have h1 := hc c h0
  have h2 := hc (cnt t) cnt_nonneg
  rw [← cnt_iff h h0] at h1
  rw [← cnt_iff h cnt_nonneg] at h2
  omega
/-- a triplet by its first element, its step and how many -/
def mk3 (a s c : Int) : Tr := (a, a + (c - 1) * s, s)
theorem cnt_mk3 {a s c : Int} (hs : s ≠ 0) (hc : 0 ≤ c) : cnt (mk3 a s c) = c := by
  refine cnt_uniq hs hc fun i hi => ?_
  show i < c ↔ (0 < s ∧ a + i * s ≤ a + (c - 1) * s) ∨ (s < 0 ∧ a + (c - 1) * s ≤ a + i * s)
  have e : a + (c - 1) * s - (a + i * s) = (c - 1 - i) * s := by rw [Int.sub_mul (c - 1) i s]; omega
  rcases Int.lt_or_gt_of_ne hs with hs | hs
  · by_cases hlt : i < c
    · have : 0 ≤ (c - 1 - i) * -s := Int.mul_nonneg (by omega) (by omega)
      rw [Int.mul_neg] at this
      omega
    · have : 0 < (i - (c - 1)) * -s := Int.mul_pos (by omega) (by omega)
      have e2 : (i - (c - 1)) * -s = (c - 1 - i) * s := by rw [← Int.neg_mul_neg]; congr 1 <;> omega
      omega
  · by_cases hlt : i < c
    · have : 0 ≤ (c - 1 - i) * s := Int.mul_nonneg (by omega) (by omega)
      omega
    · have : 0 < (i - (c - 1)) * s := Int.mul_pos (by omega) (by omega)
      have e2 : (i - (c - 1)) * s = -((c - 1 - i) * s) := by rw [← Int.neg_mul]; congr 1; omega
      omega
theorem mem_mk3 {a s c : Int} (hs : s ≠ 0) (hc : 0 ≤ c) : mem (mk3 a s c) = (List.range c.toNat).map fun k => a + (k : Nat) * s := by
  unfold mem
  rw [cnt_mk3 hs hc]
  rfl
/-- the same elements, told by how many -/
theorem mem_same (h : t.2.2 ≠ 0) : mem t = mem (mk3 t.1 t.2.2 (cnt t)) := by
  rw [mem_mk3 h cnt_nonneg]
  rfl
theorem mem_rev {a s c : Int} (hs : s ≠ 0) (hc : 0 ≤ c) : (mem (mk3 a s c)).reverse = mem (mk3 (a + (c - 1) * s) (-s) c) := by
  rw [mem_mk3 hs hc, mem_mk3 (by omega) hc]
  apply List.ext_getElem?
  intro i
  by_cases hi : i < c.toNat
  · rw [List.getElem?_reverse (by simpa using hi)]
    simp only [List.length_map, List.length_range]
    rw [List.getElem?_map, List.getElem?_map, List.getElem?_range hi, List.getElem?_range (by omega)]
    simp only [Option.map_some, Option.some.injEq]
    have e : ((c.toNat - 1 - i : Nat) : Int) = c - 1 - i := by omega
    rw [e, Int.sub_mul (c - 1) i s, Int.mul_neg]
    omega
  · rw [List.getElem?_eq_none (by simpa using hi), List.getElem?_eq_none (by simpa using hi)]
/-- ascending: the least one, the step, how many -/
def lo (t : Tr) : Int := if 0 < t.2.2 then t.1 else at1 t (cnt t - 1)
def stp (t : Tr) : Int := if 0 < t.2.2 then t.2.2 else -t.2.2
theorem up_mk3 : up t = mk3 (lo t) (stp t) (cnt t) := by
  unfold up lo stp mk3
  split
  · rfl
  · congr 1
    congr 1
    unfold at1
    rw [Int.mul_neg]
    omega
theorem stp_pos (h : t.2.2 ≠ 0) : 0 < stp t := by
  unfold stp
  split <;> omega
theorem cnt_up (h : t.2.2 ≠ 0) : cnt (up t) = cnt t := by
  rw [up_mk3, cnt_mk3 (by have := stp_pos h; omega) cnt_nonneg]
theorem mem_up (h : t.2.2 ≠ 0) : mem (up t) = if 0 < t.2.2 then mem t else (mem t).reverse := by
  rw [up_mk3, mem_same h]
  split
  · rename_i hp
    unfold lo stp
    rw [if_pos hp, if_pos hp]
  · rename_i hp
    unfold lo stp
    rw [if_neg hp, if_neg hp, mem_rev h cnt_nonneg]
    rfl
theorem nrm_s (h : t.2.2 ≠ 0) : 0 < (nrm t).2.2 := by
  unfold nrm
  split
  · decide
  · split
    · show (0 : Int) < 1
      decide
    · rw [up_mk3]
      exact stp_pos h
theorem at1_zero : at1 t 0 = t.1 := by unfold at1; omega
theorem cnt_nrm (h : t.2.2 ≠ 0) : cnt (nrm t) = cnt t := by
  unfold nrm
  split
  · rename_i h0
    rw [h0]
    decide
  · split
    · rename_i h1
      rw [h1]
      have := cnt_mk3 (a := t.1) (s := 1) (c := 1) (by omega) (by omega)
      simpa [mk3] using this
    · exact cnt_up h
theorem mem_zero (h : cnt t = 0) : mem t = [] := by unfold mem; rw [h]; rfl
theorem mem_one (h : cnt t = 1) : mem t = [t.1] := by
  unfold mem
  rw [h]
  show [at1 t 0] = _
  rw [at1_zero]
theorem mem_nrm (h : t.2.2 ≠ 0) : mem (nrm t) = if 0 < t.2.2 then mem t else (mem t).reverse := by
  have hc := cnt_nrm h
  by_cases h0 : cnt t = 0
  · rw [mem_zero (hc.trans h0), mem_zero h0]
    simp
  · by_cases h1 : cnt t = 1
    · rw [mem_one (hc.trans h1), mem_one h1]
      have : (nrm t).1 = t.1 := by unfold nrm; rw [if_neg h0, if_pos h1]
      rw [this]
      simp
    · have : nrm t = up t := by unfold nrm; rw [if_neg h0, if_neg h1]
      rw [this, mem_up h]
theorem mem_up_le {a s c : Int} (hs : 0 < s) (hc : 0 ≤ c) : (mem (mk3 a s c)).Pairwise (· ≤ ·) := by
  rw [mem_mk3 (by omega) hc, List.pairwise_map]
  refine List.Pairwise.imp ?_ (List.pairwise_lt_range (n := c.toNat))
  intro i j hij
  have : 0 ≤ ((j : Int) - i) * s := Int.mul_nonneg (by omega) (by omega)
  rw [Int.sub_mul] at this
  omega
theorem nrm_le (h : t.2.2 ≠ 0) : (mem (nrm t)).Pairwise (· ≤ ·) := by
  have hs := nrm_s h
  rw [mem_same (by omega)]
  exact mem_up_le hs cnt_nonneg
theorem sort_mem (h : t.2.2 ≠ 0) : sortI (mem t) = mem (nrm t) := by
  refine sorted_unique ((sortI_perm _).trans ?_) (sortI_le _) (nrm_le h)
  rw [mem_nrm h]
  split
  · exact List.Perm.refl _
  · exact (List.reverse_perm _).symm
theorem sort_rev (l : List Int) : sortI l.reverse = sortI l := sorted_unique ((sortI_perm _).trans ((List.reverse_perm l).trans (sortI_perm l).symm)) (sortI_le _) (sortI_le _)
/-- the triplet that ascending numbers by equal steps make -/
def shown : List Int → Tr
  | [] => (0, -1, 1)
  | [a] => (a, a, 1)
  | a :: b :: r => (a, (a :: b :: r).getLast?.getD 0, b - a)
theorem shown_nrm (h : t.2.2 ≠ 0) : shown (mem (nrm t)) = nrm t := by
  by_cases h0 : cnt t = 0
  · rw [mem_zero ((cnt_nrm h).trans h0)]
    unfold nrm
    rw [if_pos h0]
    rfl
  · by_cases h1 : cnt t = 1
    · rw [mem_one ((cnt_nrm h).trans h1)]
      unfold nrm
      rw [if_neg h0, if_pos h1]
      rfl
    · have hn := cnt_nonneg (t := t)
      have e : nrm t = mk3 (lo t) (stp t) (cnt t) := by rw [← up_mk3]; unfold nrm; rw [if_neg h0, if_neg h1]
      have hs := stp_pos h
      rw [e]
      generalize lo t = a
      generalize stp t = s at *
      obtain ⟨n, hc⟩ : ∃ n : Nat, cnt t = (n : Int) + 2 := ⟨(cnt t - 2).toNat, by omega⟩
      rw [hc, mem_mk3 (by omega) (by omega)]
      have hr : ((n : Int) + 2).toNat = n + 2 := by omega
      rw [hr]
      have hl : ((List.range (n + 2)).map fun k => a + (k : Nat) * s).getLast? = some (a + ((n : Int) + 1) * s) := by
        rw [List.getLast?_eq_getElem?]
        simp
      have h2 : ((List.range (n + 2)).map fun k => a + (k : Nat) * s) = a :: (a + s) :: ((List.range n).map fun k => a + ((k + 2 : Nat) : Int) * s) := by
        rw [List.range_succ_eq_map, List.range_succ_eq_map]
        simp
        intro k _
        congr 1
      rw [h2] at hl ⊢
      show (a, Option.getD (List.getLast? (a :: (a + s) :: _)) 0, a + s - a) = mk3 a s _
      rw [hl]
      unfold mk3
      simp
      constructor
      · congr 1
        omega
      · omega
/-- triplets with the same normal one have the same elements, and the other way about -/
theorem nrm_iff (h : t.2.2 ≠ 0) (h2 : u.2.2 ≠ 0) : nrm t = nrm u ↔ sortI (mem t) = sortI (mem u) := by
  rw [sort_mem h, sort_mem h2]
  constructor
  · intro e
    rw [e]
  · intro e
    rw [← shown_nrm h, ← shown_nrm h2, e]
end

/-! ### turned triplets, the same sets and runs -/
section
variable {w : Wl} {b : Nat} {t u : Tr}
def trn (t : Tr) : Tr := if t.2.2 < 0 ∨ cnt t < 2 then nrm t else ((nrm t).2.1, (nrm t).1, -(nrm t).2.2)
theorem trn_mk3 (h : 2 ≤ cnt t) : trn t = mk3 (at1 t (cnt t - 1)) (-t.2.2) (cnt t) := by
  have hn : nrm t = up t := by unfold nrm; rw [if_neg (by omega), if_neg (by omega)]
  have e : at1 t (cnt t - 1) + (cnt t - 1) * -t.2.2 = t.1 := by unfold at1; rw [Int.mul_neg]; omega
  unfold trn mk3
  rw [e, hn]
  unfold up
  by_cases hs : t.2.2 < 0
  · rw [if_pos (.inl hs), if_neg (by omega)]
  · rw [if_neg (by omega)]
    by_cases hp : 0 < t.2.2
    · rw [if_pos hp]
    · have h0 : t.2.2 = 0 := by omega
      rw [if_neg hp, h0]
      simp [at1, h0]
theorem trn_s (h : t.2.2 ≠ 0) : (trn t).2.2 ≠ 0 := by
  have := nrm_s h
  unfold trn
  split
  · omega
  · show -(nrm t).2.2 ≠ 0
    omega
theorem mem_trn (h : t.2.2 ≠ 0) : mem (trn t) = (mem t).reverse := by
  by_cases h2 : 2 ≤ cnt t
  · rw [trn_mk3 h2, mem_same h, mem_rev h cnt_nonneg]
    rfl
  · have hn := cnt_nonneg (t := t)
    have e : trn t = nrm t := by unfold trn; rw [if_pos (by omega)]
    rw [e, mem_nrm h]
    split
    · by_cases h0 : cnt t = 0
      · rw [mem_zero h0]; rfl
      · rw [mem_one (by omega)]; rfl
    · rfl
theorem cnt_trn (h : t.2.2 ≠ 0) : cnt (trn t) = cnt t := by
  have e := congrArg List.length (mem_trn h)
  rw [List.length_reverse, mem_len, mem_len] at e
  have h1 := cnt_nonneg (t := t)
  have h2 := cnt_nonneg (t := trn t)
  omega
theorem nrm_trn (h : t.2.2 ≠ 0) : nrm (trn t) = nrm t := by
  rw [nrm_iff (trn_s h) h, mem_trn h, sort_rev]
theorem nrm_nrm (h : t.2.2 ≠ 0) : nrm (nrm t) = nrm t := by
  have := nrm_s h
  rw [nrm_iff (by omega) h, mem_nrm h]
  split
  · rfl
  · rw [sort_rev]
theorem inF_neg {n : Int} (h : inF n = true) : inF (-n) = true := by
  rw [inF_iff] at *
  omega
theorem Tri.nrm (h : Tri t) : Tri (nrm t) := by
  have hn := cnt_nonneg (t := t)
  unfold DL.nrm
  split
  · exact ⟨by decide, by decide, by decide, by decide⟩
  · split
    · exact ⟨h.a, h.a, rfl, by show (1 : Int) ≠ 0; decide⟩
    · have hl := at1_far h (i := cnt t - 1) (by omega) (by omega)
      unfold up
      have hs := h.s
      split
      · exact ⟨h.a, hl, h.c, h.s⟩
      · exact ⟨hl, h.a, inF_neg h.c, by show -t.2.2 ≠ 0; omega⟩
theorem Tri.trn (h : Tri t) : Tri (trn t) := by
  have hn := h.nrm
  have hs := hn.s
  unfold DL.trn
  split
  · exact hn
  · exact ⟨hn.b, hn.a, inF_neg hn.c, by show -(DL.nrm t).2.2 ≠ 0; omega⟩
theorem mem_first (h : 0 < cnt t) : (mem t)[0]? = some t.1 := by
  rw [mem_get, if_pos (by omega)]
  show some (at1 t 0) = _
  rw [at1_zero]
theorem mem_eq (hc : cnt t = cnt u) (h1 : t.1 = u.1) (h2 : t.2.2 = u.2.2) : mem t = mem u := by
  unfold mem
  rw [hc]
  apply List.map_congr_left
  intro k _
  unfold at1
  rw [h1, h2]
theorem cnt_of_mem (h : mem t = mem u) : cnt t = cnt u := by
  have e := congrArg List.length h
  rw [mem_len, mem_len] at e
  have h1 := cnt_nonneg (t := t)
  have h2 := cnt_nonneg (t := u)
  omega
theorem run_iff : runB2 t u = decide (mem t = mem u) := by
  unfold runB2
  by_cases hc : cnt t = cnt u
  · rw [if_neg (by simp [hc])]
    split
    rotate_left
    · rfl
    · rename_i hk
      rw [← Bool.decide_and]
      congr 1
      apply propext
      constructor
      · rintro ⟨h1, h2⟩
        exact mem_eq hc h1 h2
      · intro e
        have g0 := congrArg (·[0]?) e
        have g1 := congrArg (·[1]?) e
        simp only [mem_get] at g0 g1
        rw [if_pos (by omega), if_pos (by omega)] at g0 g1
        have g0 := Option.some.inj g0
        have g1 := Option.some.inj g1
        unfold at1 at g0 g1
        omega
  · rw [if_pos hc]
    symm
    rw [decide_eq_false_iff_not]
    exact fun e => hc (cnt_of_mem e)
/-- by the normal ones and the first elements -/
theorem mem_iff_nrm (h : t.2.2 ≠ 0) (h2 : u.2.2 ≠ 0) : mem t = mem u ↔ nrm t = nrm u ∧ (cnt u = 0 ∨ t.1 = u.1) := by
  constructor
  · intro e
    refine ⟨(nrm_iff h h2).mpr (by rw [e]), ?_⟩
    by_cases h0 : cnt u = 0
    · exact .inl h0
    · right
      have hu := cnt_nonneg (t := u)
      have hc := cnt_of_mem e
      have g := congrArg (·[0]?) e
      simp only [mem_first (t := t) (by omega), mem_first (t := u) (by omega), Option.some.injEq] at g
      exact g
  · rintro ⟨e, h1⟩
    have hc : cnt t = cnt u := by rw [← cnt_nrm h, ← cnt_nrm h2, e]
    have hm : mem (nrm t) = mem (nrm u) := by rw [e]
    rw [mem_nrm h, mem_nrm h2] at hm
    by_cases hc2 : cnt u < 2
    · by_cases h0 : cnt u = 0
      · rw [mem_zero (hc.trans h0), mem_zero h0]
      · have hu := cnt_nonneg (t := u)
        rw [mem_one (t := t) (by omega), mem_one (t := u) (by omega)]
        rcases h1 with h1 | h1
        · omega
        · rw [h1]
    · have h1 : t.1 = u.1 := by omega
      split at hm
      · split at hm
        · exact hm
        · exfalso
          have g := congrArg (·[0]?) hm
          simp only [mem_first (t := t) (by omega)] at g
          rw [List.getElem?_reverse (by rw [mem_len]; omega), mem_len, mem_get, if_pos (by omega)] at g
          have g := Option.some.inj g
          have e2 : (((cnt u).toNat - 1 - 0 : Nat) : Int) = cnt u - 1 := by omega
          rw [e2, h1, ← at1_zero (t := u)] at g
          have := at1_inj h2 g
          omega
      · split at hm
        · exfalso
          have g := congrArg (·[0]?) hm
          simp only [mem_first (t := u) (by omega)] at g
          rw [List.getElem?_reverse (by rw [mem_len]; omega), mem_len, mem_get, if_pos (by omega)] at g
          have g := Option.some.inj g
          have e2 : (((cnt t).toNat - 1 - 0 : Nat) : Int) = cnt t - 1 := by omega
          rw [e2, ← h1, ← at1_zero (t := t)] at g
          have := at1_inj h g
          omega
        · exact List.reverse_inj.mp hm
@[simp] theorem eqD_tD : eqD (tD t) (tD u) = decide (t = u) := by
  have := eqD_ints (xs := [t.1, t.2.1, t.2.2]) (ys := [u.1, u.2.1, u.2.2])
  show eqD (eD [t.1, t.2.1, t.2.2]) (eD [u.1, u.2.1, u.2.2]) = _
  rw [this]
  congr 1
  apply propext
  constructor
  · intro h
    simp only [List.cons.injEq, and_true] at h
    exact Prod.ext h.1 (Prod.ext h.2.1 h.2.2)
  · rintro rfl
    rfl
@[simp] theorem okD_tD : okD (tD t) = true := okD_ints (xs := [t.1, t.2.1, t.2.2])
theorem e_check_two (h : Tri t) (h2 : Tri u) : F_check_two [tD t, tD u] w = .ok .non w := by
  apply okE_eq
  simp -implicitDefEqProofs [F_check_two, B_check_two, okE_run, e_check_triplet h, e_check_triplet h2]
end

/-! ### lists of a few things -/
section
variable {w : Wl} {b : Nat} {t u : Tr}
theorem toPDs_bls : ∀ xs : List Bool, toPDs (xs.map D.bl) = xs.map PyData.bool
  | [] => by simp [toPDs]
  | x :: xs => by simp [toPDs, toPD, toPDs_bls xs]
theorem lay_bls : ∀ xs : List Bool, PyData.canLayAll0 (xs.map PyData.bool) = true ∧ PyData.depthAll (xs.map PyData.bool) = 0
  | [] => by simp [PyData.canLayAll0, PyData.depthAll]
  | x :: xs => by
    have := lay_bls xs
    simp [PyData.canLayAll0, PyData.depthAll, PyData.canLay0, PyData.depth, this]
theorem okD_lbls {xs : List Bool} : okD (.lst (xs.map .bl)) = true := by
  have := lay_bls xs
  simp [okD, toPD, toPDs_bls, SeqAt.shaped, PyData.canLay0, PyData.depth, this]
@[simp] theorem eqD_bl {a b : Bool} : eqD (.bl a) (.bl b) = (a == b) := by
  show (PyData.eqv (.bool a) (.bool b)) = _
  unfold PyData.eqv
  rfl
@[simp] theorem okD_bl {a : Bool} : okD (.bl a) = true := rfl
@[simp] theorem eqD_lcons {x y : D} {xs ys : List D} : eqD (.lst (x :: xs)) (.lst (y :: ys)) = (eqD x y && eqD (.lst xs) (.lst ys)) := by
  show PyData.eqv (.list (toPDs (x :: xs))) (.list (toPDs (y :: ys))) = (PyData.eqv (toPD x) (toPD y) && PyData.eqv (.list (toPDs xs)) (.list (toPDs ys)))
  have e : ∀ a b : List PyData, PyData.eqv (.list a) (.list b) = PyData.eqvAll a b := fun a b => by unfold PyData.eqv; rfl
  rw [e, e]
  rfl
@[simp] theorem eqD_lnil : eqD (.lst []) (.lst []) = true := by
  show PyData.eqv (.list []) (.list []) = true
  unfold PyData.eqv
  rfl
@[simp] theorem okD_b1 {a : Bool} : okD (.lst [.bl a]) = true := okD_lbls (xs := [a])
@[simp] theorem okD_b2 {a c : Bool} : okD (.lst [.bl a, .bl c]) = true := okD_lbls (xs := [a, c])
@[simp] theorem okD_i2 {a c : Int} : okD (.lst [.int a, .int c]) = true := okD_lints (xs := [a, c])
@[simp] theorem okD_t2 : okD (.lst [tD t, tD u]) = true := rfl
@[simp] theorem v_mulL {xs : List D} {k : Int} {P : D → Prop} : okO (fMul w (.lst xs) (.int k)) P = ((0 ≤ k ∧ k ≤ 1000000 ∧ xs.length * k.toNat ≤ lim) ∧ P (.lst (List.replicate k.toNat xs).flatten)) := by
  show okO (if _ then some _ else none) P = _
  simp
theorem twice {x : D} : (List.replicate (2 : Int).toNat [x]).flatten = [x, x] := rfl
end

/-! ### membership -/
section
variable {w : Wl} {b : Nat} {t u : Tr}
/-- an element -/
def In (t : Tr) (x : Int) : Prop := ∃ i : Int, 0 ≤ i ∧ i < cnt t ∧ at1 t i = x
theorem in_mem {x : Int} : x ∈ mem t ↔ In t x := by
  unfold mem In
  rw [List.mem_map]
  constructor
  · rintro ⟨k, hk, rfl⟩
    have hk := List.mem_range.mp hk
    exact ⟨k, by omega, by omega, rfl⟩
  · rintro ⟨i, h0, h1, rfl⟩
    exact ⟨i.toNat, List.mem_range.mpr (by omega), by rw [Int.toNat_of_nonneg h0]⟩
theorem in_idx {x : Int} (h : t.2.2 ≠ 0) : In t x ↔ ∃ j, idx t x = some j := by rw [← in_mem, mem_iff h]
theorem in_mk3 {a s c x : Int} (hs : 0 < s) (hc : 0 ≤ c) : In (mk3 a s c) x ↔ a ≤ x ∧ x ≤ a + (c - 1) * s ∧ s ∣ x - a := by
  unfold In
  rw [cnt_mk3 (by omega) hc]
  constructor
  · rintro ⟨i, h0, h1, rfl⟩
    have e : at1 (mk3 a s c) i = a + i * s := rfl
    have p1 : 0 ≤ i * s := Int.mul_nonneg h0 (by omega)
    have p2 : 0 ≤ (c - 1 - i) * s := Int.mul_nonneg (by omega) (by omega)
    rw [Int.sub_mul (c - 1) i s] at p2
    rw [e]
    exact ⟨by omega, by omega, ⟨i, by rw [Int.mul_comm]; omega⟩⟩
  · rintro ⟨h1, h2, i, hi⟩
    have e : at1 (mk3 a s c) i = x := by
      show a + i * s = x
      rw [Int.mul_comm]
      omega
    refine ⟨i, ?_, ?_, e⟩
    · apply Int.not_lt.mp
      intro hn
      have := Int.mul_pos_of_neg_of_neg hn (show -s < 0 by omega)
      rw [Int.mul_neg, Int.mul_comm] at this
      omega
    · apply Int.not_le.mp
      intro hn
      have : 0 < (i - (c - 1)) * s := Int.mul_pos (by omega) hs
      rw [Int.sub_mul, Int.mul_comm i] at this
      omega
theorem in_up {x : Int} (h : t.2.2 ≠ 0) : In t x ↔ (up t).1 ≤ x ∧ x ≤ (up t).2.1 ∧ (up t).2.2 ∣ x - (up t).1 := by
  have e : In t x ↔ In (up t) x := by
    rw [← in_mem, ← in_mem, mem_up h]
    split
    · exact Iff.rfl
    · rw [List.mem_reverse]
  rw [e, up_mk3, in_mk3 (stp_pos h) cnt_nonneg]
  rfl
theorem in_nrm {x : Int} (h : t.2.2 ≠ 0) : In (nrm t) x ↔ In t x := by
  rw [← in_mem, ← in_mem, mem_nrm h]
  split
  · exact Iff.rfl
  · rw [List.mem_reverse]
theorem nodup_mem (h : t.2.2 ≠ 0) : (mem t).Nodup := by
  unfold mem
  rw [List.Nodup, List.pairwise_map]
  refine List.Pairwise.imp ?_ (List.pairwise_lt_range (n := (cnt t).toNat))
  intro i j hij e
  have := at1_inj h e
  omega
/-- normal triplets of the same elements are the same -/
theorem nrm_ext (h : t.2.2 ≠ 0) (h2 : u.2.2 ≠ 0) (e : ∀ x, In t x ↔ In u x) : nrm t = nrm u := by
  rw [nrm_iff h h2]
  refine sorted_unique ((sortI_perm _).trans ?_) (sortI_le _) (sortI_le _)
  refine List.Perm.trans ?_ (sortI_perm _).symm
  rw [List.perm_ext_iff_of_nodup (nodup_mem h) (nodup_mem h2)]
  intro x
  rw [in_mem, in_mem]
  exact e x
/-- ascending by a period, from a number to a number -/
theorem in_asc {a z s x : Int} (hs : 0 < s) : In (a, z, s) x ↔ a ≤ x ∧ x ≤ z ∧ s ∣ x - a := by
  have hs0 : s ≠ 0 := by omega
  unfold In
  constructor
  · rintro ⟨i, h0, h1, rfl⟩
    have := (cnt_iff (t := (a, z, s)) hs0 h0).mp h1
    have p1 : 0 ≤ i * s := Int.mul_nonneg h0 (by omega)
    have e : at1 (a, z, s) i = a + i * s := rfl
    rw [e] at this ⊢
    simp only at this
    exact ⟨by omega, by omega, ⟨i, by rw [Int.mul_comm]; omega⟩⟩
  · rintro ⟨h1, h2, i, hi⟩
    have e : at1 (a, z, s) i = x := by
      show a + i * s = x
      rw [Int.mul_comm]
      omega
    have h0 : 0 ≤ i := by
      apply Int.not_lt.mp
      intro hn
      have := Int.mul_pos_of_neg_of_neg hn (show -s < 0 by omega)
      rw [Int.mul_neg, Int.mul_comm] at this
      omega
    refine ⟨i, h0, ?_, e⟩
    rw [cnt_iff (t := (a, z, s)) hs0 h0, e]
    exact .inl ⟨hs, h2⟩
end
/-! ### the greatest common divisor, and a factor -/
section
variable {w : Wl}
/-- what the loop keeps -/
structure Gc (N M a r f g : Int) : Prop where
  a0 : 0 < a
  r0 : 0 ≤ r
  ca : M ∣ N * f - a
  cr : M ∣ N * g - r
  dv : ∀ d : Int, d ∣ a → d ∣ r → d ∣ N ∧ d ∣ M
  sg : (0 ≤ f ∧ g ≤ 0 ∧ f * r - g * a = M) ∨ (f ≤ 0 ∧ 0 ≤ g ∧ g * a - f * r = M)
  fb : -M ≤ f ∧ f ≤ M
  ab : a ≤ N + M
theorem Gc.first {N M : Int} (hN : 0 < N) (hM : 0 < M) : Gc N M N M 1 0 :=
  ⟨hN, by omega, ⟨0, by omega⟩, ⟨-1, by omega⟩, fun d h1 h2 => ⟨h1, h2⟩, .inl ⟨by omega, by omega, by omega⟩, ⟨by omega, by omega⟩, by omega⟩
theorem Gc.gb {N M a r f g : Int} (h : Gc N M a r f g) : -M ≤ g ∧ g ≤ M := by
  have ha := h.a0
  have hr := h.r0
  rcases h.sg with ⟨h1, h2, h3⟩ | ⟨h1, h2, h3⟩
  · have p1 : 0 ≤ f * r := Int.mul_nonneg h1 hr
    have p2 : -g ≤ -g * a := mul_ge (by omega) ha
    rw [Int.neg_mul] at p2
    omega
  · have p1 : 0 ≤ -f * r := Int.mul_nonneg (by omega) hr
    have p2 : g ≤ g * a := mul_ge (by omega) ha
    rw [Int.neg_mul] at p1
    omega
theorem Gc.next {N M a r f g : Int} (h : Gc N M a r f g) (hr : r ≠ 0) (hN : 0 < N) (hM : 0 < M) (hrb : r ≤ N + M) : Gc N M r (a - a.fdiv r * r) g (f - a.fdiv r * g) := by
  have ha := h.a0
  have hr0 := h.r0
  have hq := fdiv_range (a := a) (n := r) (by omega) (by omega)
  have hm := fmod_range (a := a) (n := r) (by omega)
  have hmd := Int.fmod_def a r
  rw [Int.mul_comm] at hmd
  generalize a.fdiv r = q at *
  rw [hmd] at hm
  refine ⟨by omega, hm.1, h.cr, ?_, ?_, ?_, h.gb, hrb⟩
  · have := Int.dvd_sub h.ca (Int.dvd_mul_of_dvd_right (b := q) h.cr)
    have e : N * f - a - q * (N * g - r) = N * (f - q * g) - (a - q * r) := by
      rw [Int.mul_sub, Int.mul_sub, Int.mul_left_comm q N g]
      omega
    rw [e] at this
    exact this
  · intro d h1 h2
    refine h.dv d ?_ h1
    have := Int.dvd_add h2 (Int.dvd_mul_of_dvd_right (b := q) h1)
    have e : a - q * r + q * r = a := by omega
    rwa [e] at this
  · have e1 : g * (a - q * r) = g * a - q * (g * r) := by rw [Int.mul_sub, Int.mul_left_comm g q r]
    have e2 : (f - q * g) * r = f * r - q * (g * r) := by rw [Int.sub_mul, Int.mul_assoc]
    rcases h.sg with ⟨h1, h2, h3⟩ | ⟨h1, h2, h3⟩
    · right
      have : 0 ≤ q * -g := Int.mul_nonneg hq.1 (by omega)
      rw [Int.mul_neg] at this
      refine ⟨h2, by omega, ?_⟩
      rw [e1, e2]
      omega
    · left
      have : 0 ≤ q * g := Int.mul_nonneg hq.1 h2
      refine ⟨h2, by omega, ?_⟩
      rw [e1, e2]
      omega
end

/-! ### the loop -/
section
variable {w : Wl}
def GS (N M : Int) (m : Nat) (s : Sl) : Prop := ∃ a r f g : Int, ∃ t, s = [some (.int N), some (.int M), some (.int a), some (.int r), some (.int f), some (.int g), t] ∧ Gc N M a r f g ∧ r ≤ N + M ∧ ((r ≤ a ∧ a * r < 2 ^ m) ∨ (a < r ∧ 1 ≤ m ∧ a * r < 2 ^ (m - 1)))
def GE (N M : Int) (s : Sl) : Prop := ∃ g f h : Int, ∃ t, s = [some (.int N), some (.int M), some (.int g), some (.int 0), some (.int f), some (.int h), t] ∧ Gc N M g 0 f h
def GD (N M : Int) (d : D) : Prop := ∃ g f h : Int, d = .tup [.int g, .int f] ∧ Gc N M g 0 f h
theorem pow_up {i j : Nat} (h : i ≤ j) : (2 : Int) ^ i ≤ 2 ^ j := by
  have := Nat.pow_le_pow_right (n := 2) (by decide) h
  exact_mod_cast this
theorem e_gcd {N M : Int} (hN : 0 < N) (hM : 0 < M) (bN : Bt 4000 N) (bM : Bt 4000 M) : ∃ g f : Int, F_divisor_and_factor [.int N, .int M] w = .ok (.tup [.int g, .int f]) w ∧ 0 < g ∧ g ∣ N ∧ g ∣ M ∧ M ∣ N * f - g ∧ -M ≤ f ∧ f ≤ M := by
  have hl2 : (2 : Nat) ≤ lim := by decide
  have bNM : ∀ x : Int, 0 ≤ x → x ≤ N + M → Bt 4001 x := fun x h0 h1 => by
    have := bt_iff.mp (bt_add bN bM)
    exact bt_iff.mpr ⟨by omega, by omega⟩
  have bMM : ∀ x : Int, -M ≤ x → x ≤ M → Bt 4000 x := fun x h0 h1 => by
    have := bt_iff.mp bM
    exact bt_iff.mpr ⟨by omega, by omega⟩
  have key : okE (F_divisor_and_factor [.int N, .int M] w) fun d w' => w' = w ∧ GD N M d := by
    unfold F_divisor_and_factor
    rw [okE_run]
    refine ⟨rfl, ?_⟩
    show okS (B_divisor_and_factor [some (.int N), some (.int M), none, none, none, none, none] w) _ _
    unfold B_divisor_and_factor
    refine okS_then (fun s1 w1 => w1 = w ∧ s1 = [some (.int N), some (.int M), some (.int N), some (.int M), none, none, none]) ?_ ?_
    · simp -implicitDefEqProofs
    rintro _ w1 ⟨rfl, rfl⟩
    refine okS_then (fun s1 w2 => w2 = w1 ∧ s1 = [some (.int N), some (.int M), some (.int N), some (.int M), some (.int 1), some (.int 0), none]) ?_ ?_
    · simp -implicitDefEqProofs
    rintro _ w1 ⟨rfl, rfl⟩
    refine okS_then (fun s1 w2 => w2 = w1 ∧ GE N M s1) ?_ ?_
    · refine okS_while (fun m s w' => w' = w1 ∧ GS N M m s) 100000000 8001 (by decide) ?_ ?_
      · refine ⟨rfl, N, M, 1, 0, none, rfl, Gc.first hN hM, by omega, ?_⟩
        have hp := (bt_iff.mp (bt_mul bN bM)).2
        by_cases hc : M ≤ N
        · left
          refine ⟨hc, Int.lt_of_lt_of_le hp (pow_up (by omega))⟩
        · right
          exact ⟨by omega, by omega, hp⟩
      · rintro m s w' ⟨rfl, a, r, f, g, t, rfl, G, hrb, hm⟩
        have ha := G.a0
        have hr0 := G.r0
        simp -implicitDefEqProofs
        by_cases hr : r = 0
        · rw [if_pos hr]
          subst hr
          exact ⟨a, f, g, t, rfl, G⟩
        · rw [if_neg hr]
          have hrp : 0 < r := by omega
          have hq := fdiv_range (a := a) (n := r) hrp (by omega)
          have hmd := Int.fmod_def a r
          have hmr := fmod_range (a := a) (n := r) hrp
          rw [Int.mul_comm] at hmd
          rw [hmd] at hmr
          have G2 := G.next hr hN hM hrb
          have ar1 : 1 ≤ a * r := Int.mul_pos ha hrp
          have d1 : divOk r := div_bt hr (bNM r hr0 hrb) (by omega)
          have hgb := G.gb
          have hab := G.ab
          have m1 : mulOk (a.fdiv r) r := mul_bt (bNM _ hq.1 (by omega)) (bNM _ hr0 hrb) (by omega)
          have m2 : mulOk (a.fdiv r) g := mul_bt (bNM _ hq.1 (by omega)) (bMM _ hgb.1 hgb.2) (by omega)
          have q1 : r ≤ a → 1 ≤ a.fdiv r := fun h => by
            rw [Int.fdiv_eq_ediv_of_nonneg _ (by omega)]
            exact (Int.le_ediv_iff_mul_le hrp).mpr (by omega)
          have q0 : a < r → a.fdiv r = 0 := fun h => by
            rw [Int.fdiv_eq_ediv_of_nonneg _ (by omega)]
            exact Int.ediv_eq_zero_of_lt (by omega) h
          generalize a.fdiv r = q at *
          simp -implicitDefEqProofs [d1, m1, m2]
          have m0 : m ≠ 0 := by
            rintro rfl
            rcases hm with ⟨_, h⟩ | ⟨_, h, _⟩
            · simp at h
              omega
            · omega
          obtain ⟨j, rfl⟩ : ∃ j, m = j + 1 := ⟨m - 1, by omega⟩
          refine ⟨j, rfl, r, a - q * r, g, f - q * g, _, rfl, G2, by omega, .inl ⟨by omega, ?_⟩⟩
          rcases hm with ⟨h1, h2⟩ | ⟨h1, _, h2⟩
          · have hq1 := q1 h1
            have hqr : r ≤ q * r := by
              have := Int.mul_le_mul_of_nonneg_right hq1 (show 0 ≤ r by omega)
              omega
            have e2 : 2 * (a - q * r) ≤ a := by omega
            have e3 := Int.mul_le_mul_of_nonneg_left e2 (show 0 ≤ r by omega)
            rw [Int.pow_succ, Int.mul_comm a r] at h2
            rw [Int.mul_left_comm r 2] at e3
            omega
          · have := q0 h1
            rw [this]
            have e : r * (a - 0 * r) = a * r := by rw [Int.zero_mul, Int.sub_zero, Int.mul_comm]
            rw [e]
            exact h2
    rintro s1 w2 ⟨rfl, g, f, h, t, rfl, G⟩
    simp -implicitDefEqProofs [hl2]
    exact ⟨g, f, h, rfl, G⟩
  obtain ⟨d, w', e, rfl, g, f, h, rfl, G⟩ := okE_ex key
  have fin : ∀ g f h : Int, Gc N M g 0 f h → 0 < g ∧ g ∣ N ∧ g ∣ M ∧ M ∣ N * f - g ∧ -M ≤ f ∧ f ≤ M := fun g f h G =>
    ⟨G.a0, (G.dv g (Int.dvd_refl g) (Int.dvd_zero g)).1, (G.dv g (Int.dvd_refl g) (Int.dvd_zero g)).2, G.ca, G.fb.1, G.fb.2⟩
  exact ⟨g, f, e, fin _ _ _ G⟩
end

/-! ### what two triplets share -/
theorem crt_no {lo s l2 s2 g x : Int} (gs : g ∣ s) (gs2 : g ∣ s2) (h : ¬ g ∣ l2 - lo) : ¬ (s ∣ x - lo ∧ s2 ∣ x - l2) := by
  rintro ⟨h1, h2⟩
  apply h
  have := Int.dvd_sub (Int.dvd_trans gs h1) (Int.dvd_trans gs2 h2)
  have e : x - lo - (x - l2) = l2 - lo := by omega
  rwa [e] at this
theorem crt_yes {lo s l2 s2 g f x : Int} (g0 : 0 < g) (gs : g ∣ s) (gs2 : g ∣ s2) (hf : s2 ∣ s * f - g) (h : g ∣ l2 - lo) :
    (s ∣ x - lo ∧ s2 ∣ x - l2) ↔ s * (s2 / g) ∣ x - (lo + s * ((l2 - lo) / g * f)) := by
  obtain ⟨a, rfl⟩ := gs
  obtain ⟨b, rfl⟩ := gs2
  obtain ⟨d, hd⟩ := h
  have g1 : g ≠ 0 := by omega
  rw [hd, Int.mul_ediv_cancel_left _ g1, Int.mul_ediv_cancel_left _ g1]
  have hb : b ∣ a * f - 1 := by
    have e : g * a * f - g = g * (a * f - 1) := by rw [Int.mul_sub, Int.mul_one, Int.mul_assoc]
    rw [e] at hf
    exact Int.dvd_of_mul_dvd_mul_left g1 hf
  have x0 : g * b ∣ lo + g * a * (d * f) - l2 := by
    have e : lo + g * a * (d * f) - l2 = (g * a * f - g) * d := by
      rw [Int.sub_mul, ← hd, Int.mul_assoc (g * a) f d, Int.mul_comm f d]
      omega
    rw [e]
    exact Int.dvd_mul_of_dvd_left hf
  constructor
  · rintro ⟨h1, h2⟩
    have y1 : g * a ∣ x - (lo + g * a * (d * f)) := by
      have := Int.dvd_sub h1 (Int.dvd_mul_right (g * a) (d * f))
      have e : x - lo - g * a * (d * f) = x - (lo + g * a * (d * f)) := by omega
      rwa [e] at this
    have y2 : g * b ∣ x - (lo + g * a * (d * f)) := by
      have := Int.dvd_sub h2 x0
      have e : x - l2 - (lo + g * a * (d * f) - l2) = x - (lo + g * a * (d * f)) := by omega
      rwa [e] at this
    obtain ⟨m, hm⟩ := y1
    rw [hm] at y2 ⊢
    have h3 : b ∣ a * m := by
      rw [Int.mul_assoc] at y2
      exact Int.dvd_of_mul_dvd_mul_left g1 y2
    have h4 : b ∣ m := by
      have := Int.dvd_sub (Int.dvd_mul_of_dvd_right (b := f) h3) (Int.dvd_mul_of_dvd_left (c := m) hb)
      have e : f * (a * m) - (a * f - 1) * m = m := by
        rw [Int.sub_mul, Int.one_mul, Int.mul_comm f, Int.mul_assoc a m f, Int.mul_assoc a f m, Int.mul_comm m f]
        omega
      rwa [e] at this
    exact Int.mul_dvd_mul (Int.dvd_refl _) h4
  · intro h1
    have y1 := Int.dvd_trans (Int.dvd_mul_right (g * a) b) h1
    have y2 : g * b ∣ x - (lo + g * a * (d * f)) := by
      refine Int.dvd_trans ⟨a, ?_⟩ h1
      rw [Int.mul_assoc, Int.mul_assoc, Int.mul_comm a b]
    refine ⟨?_, ?_⟩
    · have := Int.dvd_add y1 (Int.dvd_mul_right (g * a) (d * f))
      have e : x - (lo + g * a * (d * f)) + g * a * (d * f) = x - lo := by omega
      rwa [e] at this
    · have := Int.dvd_add y2 x0
      have e : x - (lo + g * a * (d * f)) + (lo + g * a * (d * f) - l2) = x - l2 := by omega
      rwa [e] at this
section
variable {w : Wl} {t u : Tr}
structure WD (t : Tr) : Prop where
  s : t.2.2 ≠ 0
  ba : Bt 1000 t.1
  bs : Bt 1000 t.2.2
  bc : Bt 1000 (cnt t)
theorem WD.wd (h : WD t) : Wd t := ⟨h.s, h.bs.mono (by omega), h.bc.mono (by omega)⟩
theorem Tri.WD (h : Tri t) : WD t := ⟨h.s, (bt100 h.a).mono (by omega), (bt100 h.c).mono (by omega), by
  have := cnt_bt h
  have := cnt_nonneg (t := t)
  exact (bt_of (i := 110) (by omega) (by have := p110; omega)).mono (by omega)⟩
theorem WD.ends (h : WD t) : Bt 2002 (up t).1 ∧ Bt 2002 (up t).2.1 ∧ 0 < (up t).2.2 ∧ Bt 1000 (up t).2.2 := by
  have hl : Bt 2002 (at1 t (cnt t - 1)) := by
    unfold at1
    exact bt_add (i := 2001) (h.ba.mono (by omega)) ((bt_mul (bt_sub h.bc (bt1 (by omega))) h.bs).mono (by omega))
  have hs := h.s
  unfold up
  split
  · rename_i hp
    exact ⟨h.ba.mono (by omega), hl, hp, h.bs⟩
  · exact ⟨hl, h.ba.mono (by omega), by show 0 < -t.2.2; omega, bt_neg h.bs⟩
theorem in_empty {x : Int} : ¬ In (0, -1, 1) x := by
  rw [in_asc (by decide)]
  omega
theorem nrm_empty : nrm (0, -1, 1) = (0, -1, 1) := rfl
theorem fmod_dvd {a g : Int} (hg : 0 < g) : a.fmod g = 0 ↔ g ∣ a := by
  rw [Int.fmod_eq_emod_of_nonneg _ (by omega)]
  exact ⟨Int.dvd_of_emod_eq_zero, Int.emod_eq_zero_of_dvd⟩
theorem e_met_w (h : WD t) (h2 : WD u) (w : Wl) : ∃ v : Tr, v.2.2 ≠ 0 ∧ (∀ x, In v x ↔ In t x ∧ In u x) ∧ F_met_of [tD t, tD u] w = .ok (tD (nrm v)) w := by
  have hl3 : (3 : Nat) ≤ lim := by decide
  obtain ⟨b1, b2, s0, b3⟩ := h.ends
  obtain ⟨c1, c2, r0, c3⟩ := h2.ends
  have it := fun x => in_up (t := t) (x := x) h.s
  have iu := fun x => in_up (t := u) (x := x) h2.s
  have eu1 := e_upward (w := w) h.wd
  have eu2 := e_upward (w := w) h2.wd
  obtain ⟨g, f, eg, g0, gs, gs2, hf, f1, f2⟩ := e_gcd (w := w) s0 r0 (b3.mono (by omega)) (c3.mono (by omega))
  generalize up t = T at *
  generalize up u = U at *
  obtain ⟨lo, hi, s⟩ := T
  obtain ⟨l2, h2', r⟩ := U
  simp only at b1 b2 s0 b3 c1 c2 r0 c3 it iu eg gs gs2 hf f1 f2
  have hT : tD (lo, hi, s) = .tup [.int lo, .int hi, .int s] := rfl
  have hU : tD (l2, h2', r) = .tup [.int l2, .int h2', .int r] := rfl
  rw [hT] at eu1
  rw [hU] at eu2
  have bg : Bt 1000 g := by
    have := Int.le_of_dvd s0 gs
    have := bt_iff.mp b3
    exact bt_iff.mpr ⟨by omega, by omega⟩
  have bf : Bt 1000 f := by
    have := bt_iff.mp c3
    exact bt_iff.mpr ⟨by omega, by omega⟩
  have dg : divOk g := div_bt (by omega) bg (by omega)
  by_cases hd : g ∣ l2 - lo
  · have hd0 : (l2 - lo).fmod g = 0 := (fmod_dvd g0).mpr hd
    have crt := fun x => crt_yes (lo := lo) (s := s) (l2 := l2) (s2 := r) (x := x) g0 gs gs2 hf hd
    rw [← Int.fdiv_eq_ediv_of_nonneg _ (by omega), ← Int.fdiv_eq_ediv_of_nonneg _ (by omega)] at crt
    have hq2 : 0 < r.fdiv g ∧ r.fdiv g ≤ r := by
      refine ⟨?_, (fdiv_range g0 (by omega)).2⟩
      rw [Int.fdiv_eq_ediv_of_nonneg _ (by omega)]
      exact Int.ediv_pos_of_pos_of_dvd r0 (by omega) gs2
    have bq1 : Bt 2003 ((l2 - lo).fdiv g) := by
      obtain ⟨d, hd⟩ := hd
      rw [hd, Int.mul_comm, Int.mul_fdiv_cancel _ (by omega)]
      have hb := bt_sub c1 b1
      rw [hd] at hb
      unfold Bt at *
      rw [Int.natAbs_mul] at hb
      have : 1 ≤ g.natAbs := by omega
      have := Nat.mul_le_mul_right d.natAbs this
      omega
    generalize hq1 : (l2 - lo).fdiv g = q1 at *
    generalize hq2' : r.fdiv g = q2 at *
    have bq2 : Bt 1000 q2 := by
      have := bt_iff.mp c3
      exact bt_iff.mpr ⟨by omega, by omega⟩
    have m1 : mulOk q1 f := mul_bt bq1 bf (by omega)
    have m2 : mulOk s q2 := mul_bt b3 bq2 (by omega)
    have bT := bt_mul bq1 bf
    have m3 : mulOk s (q1 * f) := mul_bt b3 bT (by omega)
    have bP := bt_mul b3 bq2
    have hP : 0 < s * q2 := Int.mul_pos s0 hq2.1
    generalize hT0 : q1 * f = T0 at *
    generalize hPP : s * q2 = P at *
    have hst : (if l2 > lo then l2 else lo) = max lo l2 := by split <;> omega
    have hmn : (if h2' < hi then h2' else hi) = min hi h2' := by split <;> omega
    have hm := fmod_range (a := lo + s * T0 - max lo l2) hP
    have hmd := Int.fmod_def (lo + s * T0 - max lo l2) P
    generalize hx0 : lo + s * T0 = x0 at *
    have hls : P ∣ (x0 - max lo l2).fmod P - (x0 - max lo l2) := ⟨-(x0 - max lo l2).fdiv P, by rw [hmd, Int.mul_neg]; omega⟩
    generalize hy : (x0 - max lo l2).fmod P = y at *
    have bmax : Bt 2002 (max lo l2) := by
      rw [Int.max_def]
      split
      · exact c1
      · exact b1
    have bmin : Bt 2002 (min hi h2') := by
      rw [Int.min_def]
      split
      · exact b2
      · exact c2
    generalize hM : max lo l2 = M at *
    generalize hN : min hi h2' = N at *
    have hv : Wd (M + y, N, P) := by
      refine ⟨by show P ≠ 0; omega, bP.mono (by omega), ?_⟩
      have hn := cnt_nonneg (t := (M + y, N, P))
      have h3 := bt_iff.mp bmax
      have h4 := bt_iff.mp bmin
      have e2 : (2 : Int) ^ 2003 = 2 ^ 2002 * 2 := Int.pow_succ 2 2002
      generalize (2 : Int) ^ 2002 = Z at h3 h4 e2
      have hle := cnt_le (t := (M + y, N, P)) (n := 2 ^ 2003) (by show P ≠ 0; omega) (by omega) (fun _ => by show N - (M + y) < _; omega) (fun hp => by have hp : P < 0 := hp; omega)
      have e3 := pow_up (show 2004 ≤ 4000 by omega)
      have e4 : (2 : Int) ^ 2004 = 2 ^ 2003 * 2 := Int.pow_succ 2 2003
      exact bt_iff.mpr ⟨by omega, by omega⟩
    refine ⟨(M + y, N, P), hv.s, fun x => ?_, okE_eq ?_⟩
    · rw [in_asc hP, it, iu]
      have hcx := crt x
      constructor
      · rintro ⟨k1, k2, k3⟩
        have hk : P ∣ x - x0 := by
          have := Int.dvd_add k3 hls
          have e : x - (M + y) + (y - (x0 - M)) = x - x0 := by omega
          rwa [e] at this
        have := hcx.mpr hk
        exact ⟨⟨by omega, by omega, this.1⟩, by omega, by omega, this.2⟩
      · rintro ⟨⟨k1, k2, k3⟩, k4, k5, k6⟩
        have hk := hcx.mp ⟨k3, k6⟩
        have hk2 : P ∣ x - (M + y) := by
          have := Int.dvd_sub hk hls
          have e : x - x0 - (y - (x0 - M)) = x - (M + y) := by omega
          rwa [e] at this
        refine ⟨?_, by omega, hk2⟩
        apply Int.not_lt.mp
        intro hlt
        have := Int.le_of_dvd (show 0 < M + y - x by omega) (by
          have := Int.dvd_neg.mpr hk2
          have e : -(x - (M + y)) = M + y - x := by omega
          rwa [e] at this)
        omega
    · have en := e_normal_of (w := w) hv
      have g1 : g ≠ 0 := by omega
      have P1 : P ≠ 0 := by omega
      simp -implicitDefEqProofs [F_met_of, B_met_of, okE_run, List.replicate, eu1, eu2, eg, hd0, hl3, dg, m1, m2, m3, g1, P1, hPP, hst, hmn, hx0, hM, hN, hq1, hq2', hT0, hy]
      rw [tD_e, en]
      exact ⟨rfl, rfl⟩
  · have hd2 : (l2 - lo).fmod g ≠ 0 := fun e => hd ((fmod_dvd g0).mp e)
    refine ⟨(0, -1, 1), by decide, fun x => ⟨fun hx => (in_empty hx).elim, fun hx => ?_⟩, okE_eq ?_⟩
    · rw [it, iu] at hx
      exact (crt_no gs gs2 hd ⟨hx.1.2.2, hx.2.2.2⟩).elim
    · rw [nrm_empty]
      simp -implicitDefEqProofs [F_met_of, B_met_of, okE_run, List.replicate, eu1, eu2, eg, hd2, hl3]
      exact ⟨by omega, rfl⟩
theorem e_met_of (h : WD t) (h2 : WD u) : ∃ v : Tr, v.2.2 ≠ 0 ∧ (∀ x, In v x ↔ In t x ∧ In u x) ∧ ∀ w, F_met_of [tD t, tD u] w = .ok (tD (nrm v)) w := by
  obtain ⟨v, hv, hi, _⟩ := e_met_w h h2 (0, 0, 0)
  refine ⟨v, hv, hi, fun w => ?_⟩
  obtain ⟨v2, hv2, hi2, e⟩ := e_met_w h h2 w
  rw [e, nrm_ext hv2 hv fun x => (hi2 x).trans (hi x).symm]
theorem e_met (h : Tri t) (h2 : Tri u) : ∃ v : Tr, v.2.2 ≠ 0 ∧ (∀ x, In v x ↔ In t x ∧ In u x) ∧ ∀ w, F_met [tD t, tD u] w = .ok (tD (nrm v)) w := by
  obtain ⟨v, hv, hi, e⟩ := e_met_of h.WD h2.WD
  refine ⟨v, hv, hi, fun w => okE_eq ?_⟩
  simp -implicitDefEqProofs [F_met, B_met, okE_run, e_check_two h h2, e]
end

/-! ### whether one has all of the other one -/
section
variable {w : Wl} {t u : Tr} {x : Int}
def hasB (u : Tr) (x : Int) : Bool := (idx u x).isSome
theorem hasB_iff (h : u.2.2 ≠ 0) : hasB u x = true ↔ In u x := by
  rw [in_idx h]
  unfold hasB
  cases idx u x <;> simp
theorem at1_btw (h : t.2.2 ≠ 0) {i : Int} (hi : 0 ≤ i) (hc : i < cnt t) : (t.1 ≤ at1 t i ∧ at1 t i ≤ at1 t (cnt t - 1)) ∨ (at1 t (cnt t - 1) ≤ at1 t i ∧ at1 t i ≤ t.1) := by
  unfold at1
  rcases Int.lt_or_gt_of_ne h with hs | hs
  · have p1 : 0 ≤ i * -t.2.2 := Int.mul_nonneg hi (by omega)
    have p2 : 0 ≤ (cnt t - 1 - i) * -t.2.2 := Int.mul_nonneg (by omega) (by omega)
    rw [Int.sub_mul (cnt t - 1) i, Int.mul_neg, Int.mul_neg] at p2
    rw [Int.mul_neg] at p1
    right
    omega
  · have p1 : 0 ≤ i * t.2.2 := Int.mul_nonneg hi (by omega)
    have p2 : 0 ≤ (cnt t - 1 - i) * t.2.2 := Int.mul_nonneg (by omega) (by omega)
    rw [Int.sub_mul (cnt t - 1) i] at p2
    left
    omega
end

end DL

set_option maxHeartbeats 2000000
namespace DL
open PySem PySem.Spec PyProof.Rows L2
/-! ### what a triplet has beyond another one: the pieces -/
section
variable {t u v : Tr} {a s c i0 q m x : Int}
def bothL (t u : Tr) : List Int := (sortI (mem t)).filter fun x => hasI x (mem u)
theorem asc_eq {xs ys : List Int} (h1 : xs.Pairwise (· ≤ ·)) (h2 : ys.Pairwise (· ≤ ·)) (n1 : xs.Nodup) (n2 : ys.Nodup) (e : ∀ x, x ∈ xs ↔ x ∈ ys) : xs = ys :=
  sorted_unique ((List.perm_ext_iff_of_nodup n1 n2).mpr e) h1 h2
theorem both_eq (h : t.2.2 ≠ 0) (hv : v.2.2 ≠ 0) (e : ∀ x, In v x ↔ In t x ∧ In u x) : bothL t u = mem (nrm v) := by
  have hs := nrm_s hv
  refine asc_eq ((sortI_le _).filter _) (nrm_le hv) (((sortI_perm _).nodup_iff.mpr (nodup_mem h)).filter _) (nodup_mem (by omega)) fun x => ?_
  unfold bothL
  rw [List.mem_filter, (sortI_perm _).mem_iff, in_mem, hasI_iff, in_mem, in_mem, in_nrm hv]
  exact (e x).symm
theorem le_can {x y : Int} (hs : 0 < s) : x * s ≤ y * s ↔ x ≤ y := ⟨fun h => Int.le_of_mul_le_mul_right h hs, fun h => Int.mul_le_mul_of_nonneg_right h (Int.le_of_lt hs)⟩
theorem eq_can {x y : Int} (hs : 0 < s) : a + x * s = a + y * s ↔ x = y := ⟨fun h => Int.eq_of_mul_eq_mul_right (by omega) (by omega : x * s = y * s), fun h => by rw [h]⟩
theorem nrm_form (h : t.2.2 ≠ 0) (hc : 0 < cnt t) : ∃ a s : Int, 0 < s ∧ nrm t = mk3 a s (cnt t) ∧ (cnt t = 1 → s = 1) := by
  unfold nrm
  rw [if_neg (by omega)]
  by_cases h1 : cnt t = 1
  · rw [if_pos h1, h1]
    exact ⟨t.1, 1, by decide, by unfold mk3; simp, fun _ => rfl⟩
  · rw [if_neg h1]
    exact ⟨lo t, stp t, stp_pos h, up_mk3, fun z => absurd z h1⟩
/-- a triplet, and what it shares: so many of its elements, each a number of steps behind the other -/
structure Cm3 (t v : Tr) (a s c i0 q m : Int) : Prop where
  hs : 0 < s
  hi : 0 ≤ i0
  hq : 1 ≤ q
  hm : 1 ≤ m
  hle : i0 + (m - 1) * q < c
  ht : nrm t = mk3 a s c
  hct : cnt t = c
  hcv : cnt v = m
  hv : nrm v = mk3 (a + i0 * s) (if m = 1 then 1 else q * s) m
  hq1 : m = 1 → q = 1
theorem cm3 (h : t.2.2 ≠ 0) (hv : v.2.2 ≠ 0) (e : ∀ x, In v x → In t x) (hm : 0 < cnt v) : ∃ a s c i0 q m, Cm3 t v a s c i0 q m := by
  obtain ⟨b, r, hr, ev, hr1⟩ := nrm_form hv hm
  have key : ∀ j, 0 ≤ j → j < cnt v → In t (b + j * r) := fun j h0 h1 => e _ ((in_nrm hv).mp (by
    rw [ev]
    exact ⟨j, h0, by rw [cnt_mk3 (by omega) (by omega)]; exact h1, rfl⟩))
  have hc : 0 < cnt t := by
    obtain ⟨i, h0, h1, _⟩ := key 0 (by omega) hm
    omega
  obtain ⟨a, s, hs, et, hs1⟩ := nrm_form h hc
  have key2 : ∀ j, 0 ≤ j → j < cnt v → ∃ i, 0 ≤ i ∧ i < cnt t ∧ a + i * s = b + j * r := fun j h0 h1 => by
    have := (in_nrm h).mpr (key j h0 h1)
    rw [et] at this
    obtain ⟨i, k0, k1, k2⟩ := this
    rw [cnt_mk3 (by omega) (by omega)] at k1
    exact ⟨i, k0, k1, k2⟩
  obtain ⟨i0, a0, a1, a2⟩ := key2 0 (by omega) hm
  rw [Int.zero_mul, Int.add_zero] at a2
  by_cases h1 : cnt v = 1
  · refine ⟨a, s, cnt t, i0, 1, 1, hs, a0, by decide, by decide, by omega, et, rfl, h1, ?_, fun _ => rfl⟩
    rw [ev, h1, hr1 h1, a2]
    rfl
  · obtain ⟨i1, b0, b1, b2⟩ := key2 1 (by omega) (by omega)
    rw [Int.one_mul] at b2
    have er : r = (i1 - i0) * s := by rw [Int.sub_mul]; omega
    have hq : 1 ≤ i1 - i0 := by
      rcases (by omega : 1 ≤ i1 - i0 ∨ i1 - i0 ≤ 0) with z | z
      · exact z
      · have := (le_can (s := s) hs).mpr z
        rw [Int.zero_mul] at this
        omega
    obtain ⟨il, c0, c1, c2⟩ := key2 (cnt v - 1) (by omega) (by omega)
    have el : il = i0 + (cnt v - 1) * (i1 - i0) := by
      refine (eq_can (a := a) hs).mp ?_
      rw [c2, er, ← a2, Int.add_mul, Int.mul_assoc, Int.add_assoc]
    refine ⟨a, s, cnt t, i0, i1 - i0, cnt v, hs, a0, hq, by omega, by rw [← el]; exact c1, et, rfl, rfl, ?_, fun z => absurd z h1⟩
    rw [ev, if_neg h1, er, a2]
theorem in3 {b r k : Int} (hr : r ≠ 0) (hk : 0 ≤ k) : In (mk3 b r k) x ↔ ∃ j : Int, 0 ≤ j ∧ j < k ∧ b + j * r = x := by
  unfold In
  rw [cnt_mk3 hr hk]
  rfl
theorem Cm3.c0 (h : Cm3 t v a s c i0 q m) : 0 ≤ (m - 1) * q := Int.mul_nonneg (by have := h.hm; omega) (by have := h.hq; omega)
theorem Cm3.c1 (h : Cm3 t v a s c i0 q m) : 0 < c := by
  have := h.c0
  have := h.hle
  have := h.hi
  omega
theorem Cm3.int (h : Cm3 t v a s c i0 q m) (ht : t.2.2 ≠ 0) : In t x ↔ ∃ i : Int, 0 ≤ i ∧ i < c ∧ a + i * s = x := by
  have := h.hs
  have := h.c1
  rw [← in_nrm ht, h.ht, in3 (by omega) (by omega)]
theorem Cm3.inv (h : Cm3 t v a s c i0 q m) (hv : v.2.2 ≠ 0) : In v x ↔ ∃ j : Int, 0 ≤ j ∧ j < m ∧ a + (i0 + j * q) * s = x := by
  have h1 := h.hm
  have h2 := h.hs
  have h3 := h.hq
  have h4 := h.hq1
  have hqs : 0 < q * s := Int.mul_pos (by omega) h2
  rw [← in_nrm hv, h.hv, in3 (by split <;> omega) (by omega)]
  constructor
  · rintro ⟨j, j0, j1, rfl⟩
    refine ⟨j, j0, j1, ?_⟩
    split
    · have : j = 0 := by omega
      subst this
      simp
    · rw [Int.add_mul, Int.mul_assoc, Int.add_assoc]
  · rintro ⟨j, j0, j1, rfl⟩
    refine ⟨j, j0, j1, ?_⟩
    split
    · have : j = 0 := by omega
      subst this
      simp
    · rw [Int.add_mul, Int.mul_assoc, Int.add_assoc]
/-- the pieces, with those that are empty, by numbers of elements -/
def mid3 (a s i0 q m : Int) (k : Nat) : Tr := mk3 (a + (i0 + (1 + (k : Int))) * s) (q * s) (m - 1)
def end3 (a s c i0 q m : Int) : Tr := mk3 (a + (i0 + (m - 1) * q + 1) * s) s (c - 1 - (i0 + (m - 1) * q))
def pcL (a s c i0 q m : Int) : List Tr := mk3 a s i0 :: ((List.range (q - 1).toNat).map (mid3 a s i0 q m)) ++ [end3 a s c i0 q m]
def pcN (L : List Tr) : List Tr := (L.filter fun p => decide (0 < cnt p)).map nrm
/-- what is told first: the pieces, with those that are empty -/
def told (n v : Tr) : List Tr := if cnt v = 0 then [n] else (n.1, v.1 - n.2.2, n.2.2) :: ((List.range (v.2.2.fdiv n.2.2 - 1).toNat).map fun k : Nat => (v.1 + (1 + (k : Int)) * n.2.2, v.2.1, v.2.2)) ++ [(v.2.1 + n.2.2, n.2.1, n.2.2)]
theorem pcN_map {α : Type} {f g : α → Tr} : ∀ {l : List α}, (∀ k ∈ l, cnt (f k) = cnt (g k) ∧ nrm (f k) = nrm (g k)) → pcN (l.map f) = pcN (l.map g)
  | [], _ => rfl
  | k :: l, h => by
    have h1 := h k List.mem_cons_self
    have ih := pcN_map fun j hj => h j (List.mem_cons_of_mem _ hj)
    unfold pcN at ih ⊢
    rw [List.map_cons, List.map_cons, List.filter_cons, List.filter_cons, h1.1]
    by_cases hc : 0 < cnt (g k)
    · rw [if_pos (decide_eq_true hc), if_pos (decide_eq_true hc), List.map_cons, List.map_cons, h1.2, ih]
    · rw [if_neg (by simpa using hc), if_neg (by simpa using hc), ih]
theorem pcN_app {l r : List Tr} : pcN (l ++ r) = pcN l ++ pcN r := by unfold pcN; rw [List.filter_append, List.map_append]
theorem nrm_mk (h : t.2.2 ≠ 0) : nrm t = nrm (mk3 t.1 t.2.2 (cnt t)) := by
  have hs : (mk3 t.1 t.2.2 (cnt t)).2.2 ≠ 0 := h
  rw [nrm_iff h hs, ← mem_same h]
theorem mid_cnt {k : Nat} (hs : 0 < s) (hq : 1 ≤ q) (hm : 2 ≤ m) (hk : (k : Int) + 1 < q) : cnt (a + i0 * s + (1 + (k : Int)) * s, a + (i0 + (m - 1) * q) * s, q * s) = m - 1 := by
  have hqs : 0 < q * s := Int.mul_pos (by omega) hs
  refine cnt_uniq (by show q * s ≠ 0; omega) (by omega) fun i hi => ?_
  have e : at1 (a + i0 * s + (1 + (k : Int)) * s, a + (i0 + (m - 1) * q) * s, q * s) i = a + (i0 + (1 + (k : Int)) + i * q) * s := by
    show a + i0 * s + (1 + (k : Int)) * s + i * (q * s) = _
    rw [Int.add_mul (i0 + _), Int.add_mul i0, Int.mul_assoc]
    omega
  rw [e]
  show i < m - 1 ↔ (0 < q * s ∧ a + (i0 + (1 + (k : Int)) + i * q) * s ≤ a + (i0 + (m - 1) * q) * s) ∨ _
  have hle : a + (i0 + (1 + (k : Int)) + i * q) * s ≤ a + (i0 + (m - 1) * q) * s ↔ (1 + (k : Int)) + i * q ≤ (m - 1) * q := by
    have := le_can (s := s) (x := i0 + (1 + (k : Int)) + i * q) (y := i0 + (m - 1) * q) hs
    constructor
    · intro h
      have := this.mp (by omega)
      omega
    · intro h
      have := this.mpr (by omega)
      omega
  have hn : ¬ q * s < 0 := by omega
  constructor
  · intro h
    refine .inl ⟨hqs, hle.mpr ?_⟩
    have h1 : i * q ≤ (m - 2) * q := (le_can (by omega)).mpr (by omega)
    have h2 : (m - 1) * q = (m - 2) * q + q := by rw [show m - 1 = (m - 2) + 1 by omega, Int.add_mul, Int.one_mul]
    omega
  · rintro (⟨_, h⟩ | ⟨h, _⟩)
    · have h := hle.mp h
      rcases (by omega : i < m - 1 ∨ m - 1 ≤ i) with z | z
      · exact z
      · have : (m - 1) * q ≤ i * q := (le_can (by omega)).mpr z
        omega
    · exact absurd h hn
theorem told_pc (h : Cm3 t v a s c i0 q m) : pcN (told (nrm t) (nrm v)) = pcN (pcL a s c i0 q m) := by
  have hs := h.hs
  have hm := h.hm
  have hq := h.hq
  have hq1 := h.hq1
  have hc0 := h.c0
  have hcv : cnt (nrm v) ≠ 0 := by
    rw [h.hv, cnt_mk3 (by split <;> (try have := Int.mul_pos (by omega : 0 < q) hs) <;> omega) (by omega)]
    omega
  unfold told
  rw [if_neg hcv, h.ht, h.hv]
  have e1 : (a, a + i0 * s - s, s) = mk3 a s i0 := by
    unfold mk3
    rw [Int.sub_mul, Int.one_mul]
    congr 2
    omega
  have hr : (m - 1) * (if m = 1 then 1 else q * s) = (m - 1) * q * s := by
    split
    · rename_i z
      rw [z, hq1 z]
      simp
    · rw [Int.mul_assoc]
  have e2 : (a + i0 * s + (m - 1) * (if m = 1 then 1 else q * s) + s, a + (c - 1) * s, s) = end3 a s c i0 q m := by
    unfold end3 mk3
    rw [hr]
    generalize (m - 1) * q = z
    have h1 : a + i0 * s + z * s + s = a + (i0 + z + 1) * s := by rw [Int.add_mul, Int.add_mul, Int.one_mul]; omega
    have h2 : a + (c - 1) * s = a + (i0 + z + 1) * s + (c - 1 - (i0 + z) - 1) * s := by
      rw [Int.add_assoc, ← Int.add_mul]
      congr 2
      omega
    rw [h1, h2]
  show pcN ((a, a + i0 * s - s, s) :: ((List.range ((if m = 1 then 1 else q * s).fdiv s - 1).toNat).map fun k : Nat => (a + i0 * s + (1 + (k : Int)) * s, a + i0 * s + (m - 1) * (if m = 1 then 1 else q * s), if m = 1 then 1 else q * s)) ++ [(a + i0 * s + (m - 1) * (if m = 1 then 1 else q * s) + s, a + (c - 1) * s, s)]) = _
  rw [e1, e2]
  unfold pcL
  rw [pcN_app, pcN_app, ← List.singleton_append, ← List.singleton_append (l := List.map (mid3 a s i0 q m) _), pcN_app, pcN_app]
  congr 2
  by_cases h1 : m = 1
  · rw [if_pos h1, hq1 h1]
    have : ((1 : Int).fdiv s - 1).toNat = 0 := by
      have : (1 : Int).fdiv s ≤ 1 := by
        rw [Int.fdiv_eq_ediv_of_nonneg _ (by omega)]
        exact Int.ediv_le_self _ (by decide)
      omega
    rw [this]
    rfl
  · rw [if_neg h1]
    have hd : (q * s).fdiv s = q := by rw [Int.fdiv_eq_ediv_of_nonneg _ (by omega)]; exact Int.mul_ediv_cancel _ (by omega)
    rw [hd]
    refine pcN_map fun k hk => ?_
    have hk := List.mem_range.mp hk
    have hz : a + i0 * s + (m - 1) * (q * s) = a + (i0 + (m - 1) * q) * s := by rw [Int.add_mul, Int.mul_assoc, Int.add_assoc]
    rw [hz]
    have hqs : 0 < q * s := Int.mul_pos (by omega) hs
    have hcn := mid_cnt (a := a) (i0 := i0) (k := k) hs hq (m := m) (by omega) (by omega)
    have hx : a + i0 * s + (1 + (k : Int)) * s = a + (i0 + (1 + (k : Int))) * s := by rw [Int.add_mul i0, Int.add_assoc]
    refine ⟨?_, ?_⟩
    · rw [hcn]
      unfold mid3
      rw [cnt_mk3 (by omega) (by omega)]
    · rw [nrm_mk (show (a + i0 * s + (1 + (k : Int)) * s, a + (i0 + (m - 1) * q) * s, q * s).2.2 ≠ 0 from by show q * s ≠ 0; omega), hcn]
      unfold mid3
      rw [← hx]
end
end DL

set_option maxHeartbeats 2000000
namespace DL
open PySem PySem.Spec PyProof.Rows L2
/-! ### what the pieces have -/
section
variable {t u v p : Tr} {a s c i0 q m x : Int}
theorem no_mult {d q r : Int} (h0 : 0 < r) (h1 : r < q) (e : d * q = r) : False := by
  rcases (by omega : d ≤ 0 ∨ 1 ≤ d) with z | z
  · have := (le_can (s := q) (by omega)).mpr z
    rw [Int.zero_mul] at this
    omega
  · have := (le_can (s := q) (by omega)).mpr z
    rw [Int.one_mul] at this
    omega
theorem pcN_mem {L : List Tr} : p ∈ pcN L ↔ ∃ p0 ∈ L, 0 < cnt p0 ∧ nrm p0 = p := by
  unfold pcN
  rw [List.mem_map]
  constructor
  · rintro ⟨p0, h, e⟩
    rw [List.mem_filter] at h
    exact ⟨p0, h.1, of_decide_eq_true h.2, e⟩
  · rintro ⟨p0, h, hc, e⟩
    exact ⟨p0, List.mem_filter.mpr ⟨h, decide_eq_true hc⟩, e⟩
theorem sum_const {z : Int} : ∀ n : Nat, ((List.range n).map fun _ => z).sum = n * z
  | 0 => by simp
  | n + 1 => by
    rw [List.range_succ, List.map_append, List.sum_append, sum_const n]
    simp
    rw [Int.add_mul, Int.one_mul]
theorem pcN_sum : ∀ {L : List Tr}, (∀ p ∈ L, p.2.2 ≠ 0) → ((pcN L).map cnt).sum = (L.map cnt).sum
  | [], _ => rfl
  | p :: L, h => by
    have ih := pcN_sum fun r hr => h r (List.mem_cons_of_mem _ hr)
    have hp := h p List.mem_cons_self
    have hn := cnt_nonneg (t := p)
    unfold pcN at ih ⊢
    rw [List.filter_cons]
    by_cases hc : 0 < cnt p
    · rw [if_pos (decide_eq_true hc), List.map_cons, List.map_cons, List.sum_cons, ih, cnt_nrm hp]
      rfl
    · rw [if_neg (by simpa using hc), ih, List.map_cons, List.sum_cons]
      omega
/-- by numbers of elements -/
theorem in_mid {k : Nat} (hs : 0 < s) (hq : 1 ≤ q) (hm : 1 ≤ m) : In (mid3 a s i0 q m k) x ↔ ∃ j : Int, 0 ≤ j ∧ j < m - 1 ∧ a + (i0 + (1 + (k : Int)) + j * q) * s = x := by
  have hqs : 0 < q * s := Int.mul_pos (by omega) hs
  unfold mid3
  rw [in3 (by omega) (by omega)]
  constructor
  · rintro ⟨j, h0, h1, rfl⟩
    exact ⟨j, h0, h1, by rw [Int.add_mul (i0 + _), Int.mul_assoc, Int.add_assoc]⟩
  · rintro ⟨j, h0, h1, rfl⟩
    exact ⟨j, h0, h1, by rw [Int.add_mul (i0 + _), Int.mul_assoc, Int.add_assoc]⟩
theorem in_end (hs : 0 < s) (hz : 0 ≤ c - 1 - (i0 + (m - 1) * q)) : In (end3 a s c i0 q m) x ↔ ∃ j : Int, 0 ≤ j ∧ j < c - 1 - (i0 + (m - 1) * q) ∧ a + (i0 + (m - 1) * q + 1 + j) * s = x := by
  unfold end3
  rw [in3 (by omega) hz]
  constructor
  · rintro ⟨j, h0, h1, rfl⟩
    exact ⟨j, h0, h1, by rw [Int.add_mul (i0 + (m - 1) * q + 1) j s]; omega⟩
  · rintro ⟨j, h0, h1, rfl⟩
    exact ⟨j, h0, h1, by rw [Int.add_mul (i0 + (m - 1) * q + 1) j s]; omega⟩
theorem pcL_cases {P : Tr → Prop} (h1 : P (mk3 a s i0)) (h2 : ∀ k : Nat, (k : Int) + 1 < q → P (mid3 a s i0 q m k)) (h3 : P (end3 a s c i0 q m)) : ∀ p ∈ pcL a s c i0 q m, P p := fun p hp => by
  unfold pcL at hp
  rcases List.mem_append.mp hp with hp | hp
  · rcases List.mem_cons.mp hp with rfl | hp
    · exact h1
    · obtain ⟨k, hk, rfl⟩ := List.mem_map.mp hp
      have := List.mem_range.mp hk
      exact h2 k (by omega)
  · rw [List.mem_singleton.mp hp]
    exact h3
theorem Cm3.stp (h : Cm3 t v a s c i0 q m) : ∀ p ∈ pcL a s c i0 q m, 0 < p.2.2 := by
  have hs := h.hs
  have hq := h.hq
  exact pcL_cases hs (fun k _ => Int.mul_pos (by omega) hs) hs
/-- numbers of elements of pieces: those of no shared element -/
theorem Cm3.idx (h : Cm3 t v a s c i0 q m) : ∀ p ∈ pcL a s c i0 q m, ∀ x, In p x → ∃ i : Int, 0 ≤ i ∧ i < c ∧ a + i * s = x ∧ ∀ j : Int, 0 ≤ j → j < m → i ≠ i0 + j * q := by
  have hs := h.hs
  have hq := h.hq
  have hm := h.hm
  have hi := h.hi
  have hle := h.hle
  have hc0 := h.c0
  refine pcL_cases (fun x hx => ?_) (fun k hk x hx => ?_) (fun x hx => ?_)
  · rw [in3 (by omega) hi] at hx
    obtain ⟨j, j0, j1, rfl⟩ := hx
    refine ⟨j, j0, by omega, rfl, fun j' h0 h1 e => ?_⟩
    have := Int.mul_nonneg h0 (by omega : 0 ≤ q)
    omega
  · rw [in_mid hs hq hm] at hx
    obtain ⟨j, j0, j1, rfl⟩ := hx
    have hjq := Int.mul_nonneg j0 (by omega : 0 ≤ q)
    have h1 : j * q ≤ (m - 2) * q := (le_can (by omega)).mpr (by omega)
    have h2 : (m - 1) * q = (m - 2) * q + q := by rw [show m - 1 = (m - 2) + 1 by omega, Int.add_mul, Int.one_mul]
    refine ⟨_, by omega, by omega, rfl, fun j' h0 h1' e => ?_⟩
    exact no_mult (d := j' - j) (q := q) (r := 1 + (k : Int)) (by omega) (by omega) (by rw [Int.sub_mul]; omega)
  · rw [in_end hs (by omega)] at hx
    obtain ⟨j, j0, j1, rfl⟩ := hx
    refine ⟨_, by omega, by omega, rfl, fun j' h0 h1 e => ?_⟩
    have : j' * q ≤ (m - 1) * q := (le_can (by omega)).mpr (by omega)
    omega
/-- no element twice -/
def Apt (p r : Tr) : Prop := ∀ x, ¬ (In p x ∧ In r x)
theorem Cm3.apart (h : Cm3 t v a s c i0 q m) : (pcL a s c i0 q m).Pairwise Apt := by
  have hs := h.hs
  have hq := h.hq
  have hm := h.hm
  have hi := h.hi
  have hle := h.hle
  have hc0 := h.c0
  have f1 : ∀ x, In (mk3 a s i0) x → ∃ i : Int, i < i0 ∧ a + i * s = x := fun x hx => by
    rw [in3 (by omega) hi] at hx
    obtain ⟨j, j0, j1, e⟩ := hx
    exact ⟨j, j1, e⟩
  have f2 : ∀ (k : Nat) x, (k : Int) + 1 < q → In (mid3 a s i0 q m k) x → ∃ i : Int, i0 < i ∧ i < i0 + (m - 1) * q ∧ a + i * s = x := fun k x hk hx => by
    rw [in_mid hs hq hm] at hx
    obtain ⟨j, j0, j1, e⟩ := hx
    have hjq := Int.mul_nonneg j0 (by omega : 0 ≤ q)
    have h1 : j * q ≤ (m - 2) * q := (le_can (by omega)).mpr (by omega)
    have h2 : (m - 1) * q = (m - 2) * q + q := by rw [show m - 1 = (m - 2) + 1 by omega, Int.add_mul, Int.one_mul]
    exact ⟨_, by omega, by omega, e⟩
  have f3 : ∀ x, In (end3 a s c i0 q m) x → ∃ i : Int, i0 + (m - 1) * q < i ∧ a + i * s = x := fun x hx => by
    rw [in_end hs (by omega)] at hx
    obtain ⟨j, j0, j1, e⟩ := hx
    exact ⟨_, by omega, e⟩
  unfold pcL
  rw [List.pairwise_append]
  refine ⟨List.pairwise_cons.mpr ⟨fun p hp x hx => ?_, ?_⟩, List.pairwise_singleton _ _, fun p hp r hr x hx => ?_⟩
  · obtain ⟨k, hk, rfl⟩ := List.mem_map.mp hp
    have := List.mem_range.mp hk
    obtain ⟨i, k1, e1⟩ := f1 x hx.1
    obtain ⟨i', k2, k3, e2⟩ := f2 k x (by omega) hx.2
    have := (eq_can (a := a) hs).mp (e1.trans e2.symm)
    omega
  · rw [List.pairwise_map]
    refine List.Pairwise.imp_of_mem (fun {k k'} hk hk' hkk x hx => ?_) (List.pairwise_lt_range (n := (q - 1).toNat))
    have hk := List.mem_range.mp hk
    have hk' := List.mem_range.mp hk'
    obtain ⟨j, j0, j1, e1⟩ := (in_mid hs hq hm).mp hx.1
    obtain ⟨j', j0', j1', e2⟩ := (in_mid hs hq hm).mp hx.2
    have := (eq_can (a := a) hs).mp (e1.trans e2.symm)
    exact no_mult (d := j - j') (q := q) (r := (k' : Int) - k) (by omega) (by omega) (by rw [Int.sub_mul]; omega)
  · rw [List.mem_singleton.mp hr] at hx
    obtain ⟨i', k2, e2⟩ := f3 x hx.2
    rcases List.mem_cons.mp hp with rfl | hp
    · obtain ⟨i, k1, e1⟩ := f1 x hx.1
      have := (eq_can (a := a) hs).mp (e1.trans e2.symm)
      omega
    · obtain ⟨k, hk, rfl⟩ := List.mem_map.mp hp
      have := List.mem_range.mp hk
      obtain ⟨i, k3, k4, e1⟩ := f2 k x (by omega) hx.1
      have := (eq_can (a := a) hs).mp (e1.trans e2.symm)
      omega
theorem Cm3.sum (h : Cm3 t v a s c i0 q m) : ((pcL a s c i0 q m).map cnt).sum + m = c := by
  have hs := h.hs
  have hq := h.hq
  have hm := h.hm
  have hle := h.hle
  have hqs : 0 < q * s := Int.mul_pos (by omega) hs
  unfold pcL
  rw [List.map_append, List.map_cons, List.map_map, List.sum_append, List.sum_cons]
  have e1 : ((List.range (q - 1).toNat).map (cnt ∘ mid3 a s i0 q m)) = (List.range (q - 1).toNat).map fun _ => m - 1 := by
    apply List.map_congr_left
    intro k _
    show cnt (mk3 _ _ _) = _
    rw [cnt_mk3 (by omega) (by omega)]
  rw [e1, sum_const, cnt_mk3 (by omega) h.hi]
  have e2 : cnt (end3 a s c i0 q m) = c - 1 - (i0 + (m - 1) * q) := by
    unfold end3
    rw [cnt_mk3 (by omega) (by omega)]
  show i0 + (((q - 1).toNat : Nat) : Int) * (m - 1) + ([cnt (end3 a s c i0 q m)]).sum + m = c
  rw [e2, show (((q - 1).toNat : Nat) : Int) = q - 1 by omega, Int.sub_mul, Int.one_mul, Int.mul_comm q]
  simp
  omega
/-- the pieces of what t has beyond u, v what they share -/
structure Pcs (t u v : Tr) (P : List Tr) : Prop where
  nm : ∀ p ∈ P, nrm p = p ∧ 0 < cnt p ∧ 0 < p.2.2
  sub : ∀ p ∈ P, ∀ x, In p x → In t x ∧ ¬ In u x
  dj : P.Pairwise Apt
  sm : (P.map cnt).sum + cnt v = cnt t
theorem pcs (h : t.2.2 ≠ 0) (hv : v.2.2 ≠ 0) (e : ∀ x, In v x ↔ In t x ∧ In u x) : Pcs t u v (pcN (told (nrm t) (nrm v))) := by
  have hvn := cnt_nonneg (t := v)
  have hnt := nrm_s h
  by_cases h0 : cnt v = 0
  · have e1 : told (nrm t) (nrm v) = [nrm t] := by
      unfold told
      rw [if_pos (by rw [cnt_nrm hv]; exact h0)]
    have hno : ∀ x, In t x → ¬ In u x := fun x h1 h2 => by
      obtain ⟨i, k0, k1, _⟩ := (e x).mpr ⟨h1, h2⟩
      omega
    rw [e1]
    have htn := cnt_nonneg (t := t)
    refine ⟨fun p hp => ?_, fun p hp x hx => ?_, ?_, ?_⟩
    · obtain ⟨p0, k1, k2, k3⟩ := pcN_mem.mp hp
      rw [List.mem_singleton.mp k1, nrm_nrm h] at k3
      rw [List.mem_singleton.mp k1] at k2
      rw [← k3]
      exact ⟨nrm_nrm h, k2, hnt⟩
    · obtain ⟨p0, k1, k2, k3⟩ := pcN_mem.mp hp
      rw [List.mem_singleton.mp k1, nrm_nrm h] at k3
      rw [← k3, in_nrm h] at hx
      exact ⟨hx, hno x hx⟩
    · unfold pcN
      exact List.Pairwise.map _ (fun _ _ q => q) (((List.pairwise_singleton (fun a b => Apt (nrm a) (nrm b)) _)).filter _)
    · rw [pcN_sum (fun p hp => by rw [List.mem_singleton.mp hp]; omega)]
      show ([cnt (nrm t)]).sum + cnt v = cnt t
      rw [cnt_nrm h]
      simp
      omega
  · obtain ⟨a, s, c, i0, q, m, H⟩ := cm3 h hv (fun x hx => ((e x).mp hx).1) (by omega)
    rw [told_pc H]
    have hstp := H.stp
    refine ⟨fun p hp => ?_, fun p hp x hx => ?_, ?_, ?_⟩
    · obtain ⟨p0, k1, k2, k3⟩ := pcN_mem.mp hp
      have := hstp p0 k1
      have hn := nrm_s (t := p0) (by omega)
      rw [← k3]
      exact ⟨nrm_nrm (by omega), by rw [cnt_nrm (by omega)]; exact k2, hn⟩
    · obtain ⟨p0, k1, k2, k3⟩ := pcN_mem.mp hp
      have := hstp p0 k1
      rw [← k3, in_nrm (by omega)] at hx
      obtain ⟨i, i1, i2, i3, i4⟩ := H.idx p0 k1 x hx
      have ht : In t x := (H.int h).mpr ⟨i, i1, i2, i3⟩
      refine ⟨ht, fun hu => ?_⟩
      obtain ⟨j, j0, j1, j2⟩ := (H.inv hv).mp ((e x).mpr ⟨ht, hu⟩)
      exact i4 j j0 j1 ((eq_can (a := a) H.hs).mp (i3.trans j2.symm))
    · unfold pcN
      rw [List.pairwise_map]
      refine (List.Pairwise.imp_of_mem (fun {p r} hp hr hpr x hx => ?_) H.apart).filter _
      have h1 := hstp p hp
      have h2 := hstp r hr
      rw [in_nrm (by omega), in_nrm (by omega)] at hx
      exact hpr x hx
    · rw [pcN_sum (fun p hp => by have := hstp p hp; omega), H.hcv, H.hct]
      exact H.sum
end
end DL

set_option maxHeartbeats 2000000
namespace DL
open PySem PySem.Spec PyProof.Rows L2
/-! ### pieces_of, less -/
theorem okS_to {U V : DS} {s : Sl} {w : Wl} {N : Sl → Wl → Prop} {Z : D → Wl → Prop} (M : Sl → Wl → Prop) (h : ∀ M' : Sl → Wl → Prop, (∀ s1 w1, M s1 w1 → M' s1 w1) → okS (U s w) M' Z) (q : ∀ s1 w1, M s1 w1 → okS (V s1 w1) N Z) : okS (sSeq U V s w) N Z := okS_then M (h M fun _ _ z => z) q
section
variable {t u v p : Tr} {x : Int} {w : Wl}
theorem bt_btw {k : Nat} {l h x : Int} (hl : Bt k l) (hh : Bt k h) (h1 : l ≤ x) (h2 : x ≤ h) : Bt k x := by
  unfold Bt at *
  omega
theorem nrm_bt (h : WD t) : Bt 2002 (nrm t).1 ∧ Bt 2002 (nrm t).2.1 ∧ Bt 1000 (nrm t).2.2 := by
  obtain ⟨e1, e2, e3, e4⟩ := h.ends
  have b1 : ∀ k : Nat, 1 ≤ k → Bt k 1 := fun k hk => bt1 hk
  have b0 : Bt 2002 0 := by unfold Bt; exact Nat.pos_of_ne_zero (by simp)
  unfold nrm
  split
  · exact ⟨b0, by have := bt_neg (b1 2002 (by omega)); exact this, b1 1000 (by omega)⟩
  · split
    · exact ⟨h.ba.mono (by omega), h.ba.mono (by omega), b1 1000 (by omega)⟩
    · exact ⟨e1, e2, e4⟩
theorem in_bt (h : WD t) (hx : In t x) : Bt 2002 x := by
  obtain ⟨e1, e2, e3, e4⟩ := h.ends
  have := (in_up h.s).mp hx
  exact bt_btw e1 e2 this.1 this.2.1
/-- the ends of what is shared are elements -/
theorem v_ends (hv : v.2.2 ≠ 0) (h0 : 0 < cnt v) : In v (nrm v).1 ∧ In v (nrm v).2.1 := by
  obtain ⟨b, r, hr, ev, _⟩ := nrm_form hv h0
  have e : ∀ j, 0 ≤ j → j < cnt v → In v (b + j * r) := fun j k0 k1 => (in_nrm hv).mp (by rw [ev, in3 (by omega) (by omega)]; exact ⟨j, k0, k1, rfl⟩)
  rw [ev]
  refine ⟨?_, e (cnt v - 1) (by omega) (by omega)⟩
  have := e 0 (by omega) h0
  rw [Int.zero_mul, Int.add_zero] at this
  exact this
theorem v_step (h : WD t) (hv : v.2.2 ≠ 0) (e : ∀ x, In v x → In t x) : Bt 2000 (nrm v).2.2 := by
  have b1 : Bt 2000 1 := bt1 (by omega)
  have hn := cnt_nonneg (t := v)
  by_cases h0 : cnt v = 0
  · unfold nrm
    rw [if_pos h0]
    exact b1
  · obtain ⟨a, s, c, i0, q, m, H⟩ := cm3 h.s hv e (by omega)
    have hs := H.hs
    have hq := H.hq
    have hm := H.hm
    have hi := H.hi
    have hle := H.hle
    rw [H.hv]
    show Bt 2000 (if m = 1 then 1 else q * s)
    split
    · exact b1
    · have hb := (nrm_bt h).2.2
      rw [H.ht] at hb
      have hb : Bt 1000 s := hb
      have hcq : q ≤ c := by
        have : 1 * q ≤ (m - 1) * q := (le_can (by omega)).mpr (by omega)
        omega
      have hc := h.bc
      rw [H.hct] at hc
      have hb2 := bt_mul hc hb
      have h1 : q * s ≤ c * s := (le_can hs).mpr hcq
      have h2 : 0 < q * s := Int.mul_pos (by omega) hs
      refine bt_btw (l := 0) (h := c * s) ?_ hb2 (by omega) h1
      unfold Bt
      exact Nat.pos_of_ne_zero (by simp)
/-- what is told first is good to reckon with -/
theorem cnt_bt2 {x z r : Int} {k : Nat} (hk : k ≤ 3000) (hr : r ≠ 0) (hx : Bt k x) (hz : Bt k z) : Bt 4000 (cnt (x, z, r)) := by
  have h0 := cnt_nonneg (t := (x, z, r))
  have hb : (0 : Int) < 2 ^ (k + 2) := Int.pow_pos (by decide)
  have hx' := bt_iff.mp hx
  have hz' := bt_iff.mp hz
  have e : (2 : Int) ^ (k + 2) = 4 * 2 ^ k := by rw [Int.pow_succ, Int.pow_succ]; omega
  have := cnt_le (t := (x, z, r)) (n := 2 ^ (k + 2)) hr (by omega) (fun _ => by show z - x < _; omega) (fun _ => by show x - z < _; omega)
  refine (bt_iff (i := k + 3)).mpr ⟨?_, ?_⟩ |>.mono (by omega)
  · have : (0 : Int) < 2 ^ (k + 3) := Int.pow_pos (by decide)
    omega
  · have : (2 : Int) ^ (k + 3) = 2 * 2 ^ (k + 2) := by rw [Int.pow_succ _ (k + 2)]; omega
    omega
/-- few pieces: the shared elements are not so far from one another -/
def Few (t v : Tr) : Prop := cnt v = 0 ∨ (nrm v).2.2.fdiv (nrm t).2.2 ≤ 300
theorem e_pieces_of (h : WD t) (h2 : WD u) : ∃ v : Tr, v.2.2 ≠ 0 ∧ (∀ x, In v x ↔ In t x ∧ In u x) ∧ (Few t v → ∀ w, F_pieces_of [tD t, tD u] w = .ok (.nl ((pcN (told (nrm t) (nrm v))).map tD)) w) := by
  obtain ⟨v, hv, hi, em⟩ := e_met_of h h2
  refine ⟨v, hv, hi, fun hfew w => okE_eq ?_⟩
  have hlim : lim = 16000000 := rfl
  have en := e_normal_of (w := w) h.wd
  have em := em w
  have hnb := nrm_bt h
  have hns := nrm_s h.s
  have hvb := v_step h hv fun x hx => ((hi x).mp hx).1
  have hvs := nrm_s hv
  have hvc := cnt_nrm hv
  have hvn := cnt_nonneg (t := v)
  have hve : 0 < cnt v → Bt 2002 (nrm v).1 ∧ Bt 2002 (nrm v).2.1 := fun h0 => by
    obtain ⟨e1, e2⟩ := v_ends hv h0
    exact ⟨in_bt h ((hi _).mp e1).1, in_bt h ((hi _).mp e2).1⟩
  have hmv := e_many (w := w) (t := nrm v) (by omega) (hvb.mono (by omega))
  rw [hvc] at hmv
  have hcz : cnt (nrm v) = 0 ↔ cnt v = 0 := by rw [hvc]
  obtain ⟨n, hn⟩ : ∃ n, nrm t = n := ⟨_, rfl⟩
  obtain ⟨V, hV⟩ : ∃ V, nrm v = V := ⟨_, rfl⟩
  rw [hn] at en hnb hns ⊢
  rw [hV] at em hvb hvs hve hmv hcz ⊢
  have hfw : cnt v = 0 ∨ V.2.2.fdiv n.2.2 ≤ 300 := by
    have := hfew
    unfold Few at this
    rw [hn, hV] at this
    exact this
  obtain ⟨l, hh, s⟩ := n
  obtain ⟨x, y, r⟩ := V
  simp only at hnb hns hvb hvs hve hfw
  have en : F_normal_of [tD t] w = .ok (.tup [.int l, .int hh, .int s]) w := en
  have em : F_met_of [tD t, tD u] w = .ok (.tup [.int x, .int y, .int r]) w := em
  have hmv : F_many_of [.tup [.int x, .int y, .int r]] w = .ok (.int (cnt v)) w := hmv
  -- the last row: those that are not empty, normal
  have last : ∀ (L : List Tr) (t9 t10 : Option D), (∀ p ∈ L, p.2.2 ≠ 0 ∧ Bt 2000 p.2.2 ∧ Bt 4000 (cnt p)) → L.length ≤ 1000 → okS (sRet (eNL (aLc (iSeq (eVar 8)) (gN 11) (tE (eBin fGt (eCall 1 F_many_of (aCons (eVar 11) aNil)) (eC (.int 0)))) (eCall 1 F_normal_of (aCons (eVar 11) aNil)) [11])) [some (tD t), some (tD u), some (.int l), some (.int hh), some (.int s), some (.int x), some (.int y), some (.int r), some (.lst (L.map tD)), t9, t10, none, none] w) (fun _ _ => False) (fun d w' => d = .nl ((pcN L).map tD) ∧ w' = w) := fun L t9 t10 hL hlen => by
    have := lc_map (T := tE (eBin fGt (eCall 1 F_many_of (aCons (eVar 11) aNil)) (eC (.int 0)))) (A := eCall 1 F_normal_of (aCons (eVar 11) aNil)) (G := gN 11) tD (fun p => tD (nrm p)) (fun p => decide (0 < cnt p)) (s := [some (tD t), some (tD u), some (.int l), some (.int hh), some (.int s), some (.int x), some (.int y), some (.int r), some (.lst (L.map tD)), t9, t10, none, none]) (w := w) (xs := L) fun p hp => by
      obtain ⟨k1, k2, k3⟩ := hL p hp
      have e1 := e_many (w := w) (t := p) k1 (k2.mono (by omega))
      have e2 := e_normal_of (w := w) (t := p) ⟨k1, k2.mono (by omega), k3⟩
      rw [v_gN, okO_some]
      refine ⟨okE_eq ?_, fun _ => okE_eq ?_⟩
      · simp -implicitDefEqProofs [e1]
      · simp -implicitDefEqProofs [e2]
    simp -implicitDefEqProofs
    refine ⟨by omega, ?_⟩
    rw [this]
    simp -implicitDefEqProofs [pcN]
  have z0 : Bt 2002 0 := by unfold Bt; exact Nat.pos_of_ne_zero (by simp)
  show okE (F_pieces_of [tD t, tD u] w) _
  unfold F_pieces_of
  rw [okE_run]
  refine ⟨rfl, ?_⟩
  show okS (B_pieces_of [some (tD t), some (tD u), none, none, none, none, none, none, none, none, none, none, none] w) _ _
  unfold B_pieces_of
  refine okS_to (fun s1 w1 => w1 = w ∧ s1 = [some (tD t), some (tD u), some (.int l), some (.int hh), some (.int s), none, none, none, none, none, none, none, none]) ?_ ?_
  · intro M' hM'
    have hm' := hM' _ _ ⟨rfl, rfl⟩
    simp -implicitDefEqProofs [en]
    exact hm'
  rintro _ w1 ⟨rfl, rfl⟩
  refine okS_to (fun s1 w2 => w2 = w1 ∧ s1 = [some (tD t), some (tD u), some (.int l), some (.int hh), some (.int s), some (.int x), some (.int y), some (.int r), none, none, none, none, none]) ?_ ?_
  · intro M' hM'
    have hm' := hM' _ _ ⟨rfl, rfl⟩
    simp -implicitDefEqProofs [em]
    exact hm'
  rintro _ w2 ⟨rfl, rfl⟩
  refine okS_to (fun s1 w3 => w3 = w2 ∧ ∃ t9 t10, s1 = [some (tD t), some (tD u), some (.int l), some (.int hh), some (.int s), some (.int x), some (.int y), some (.int r), some (.lst ((told (l, hh, s) (x, y, r)).map tD)), t9, t10, none, none]) ?_ ?_
  · intro M' hM'
    by_cases h0 : cnt v = 0
    · have ht : (told (l, hh, s) (x, y, r)).map tD = [.tup [.int l, .int hh, .int s]] := by
        unfold told
        rw [if_pos (hcz.mpr h0)]
        rfl
      rw [ht] at hM'
      have hm' := hM' _ _ ⟨rfl, none, none, rfl⟩
      have hl1 : (1 : Nat) ≤ lim := by decide
      have hl3 : (3 : Nat) ≤ lim := by decide
      simp -implicitDefEqProofs [hmv, h0, hl1, hl3]
      exact hm'
    · have hd : divOk s := div_bt (by omega) hnb.2.2 (by omega)
      have hf : r.fdiv s ≤ 300 := by omega
      have hf0 : 0 ≤ r.fdiv s := by
        rw [Int.fdiv_eq_ediv_of_nonneg _ (by omega)]
        exact Int.ediv_nonneg (by omega) (by omega)
      have hl1 : (1 : Nat) ≤ lim := by decide
      have hl3 : (3 : Nat) ≤ lim := by decide
      have hn0 : ¬ 300 < r.fdiv s := by omega
      generalize hk : r.fdiv s = k at *
      have ht : (told (l, hh, s) (x, y, r)).map tD = [D.tup [.int l, .int (x - s), .int s]] ++ ((List.range (k - 1).toNat).map fun j : Nat => tD (x + (1 + (j : Int)) * s, y, r)) ++ [D.tup [.int (y + s), .int hh, .int s]] := by
        unfold told
        rw [if_neg (fun z => h0 (hcz.mp z))]
        show ((l, x - s, s) :: ((List.range (r.fdiv s - 1).toNat).map fun k : Nat => (x + (1 + (k : Int)) * s, y, r)) ++ [(y + s, hh, s)]).map tD = _
        rw [hk]
        simp
        exact ⟨rfl, rfl⟩
      rw [ht] at hM'
      simp -implicitDefEqProofs [hmv, h0, hl1, hl3, hd, hk, hn0]
      have hkn : k.toNat - 1 = (k - 1).toNat := by omega
      rw [hkn]
      have hul : (upTo 1 (k - 1).toNat).length = (k - 1).toNat := by simp [upTo]
      refine ⟨⟨by omega, by omega⟩, by rw [hul]; omega, ?_⟩
      refine okE_lcall (γ := Nat) (fun j => D.int (1 + (j : Nat))) (fun j => tD (x + (1 + (j : Int)) * s, y, r)) (xs := List.range (k - 1).toNat) (fun j hj => ?_) ?_
      · have hj := List.mem_range.mp hj
        have hm : mulOk (1 + (j : Int)) s := mul_bt (i := 20) (bt_of (by omega) (by omega)) hnb.2.2 (by omega)
        simp -implicitDefEqProofs [hm, hl3]
        rfl
      · refine ⟨by simp; omega, by simp; omega, ?_⟩
        have hm' := hM' _ _ ⟨rfl, some (.int k), some (.lst ((List.range (k - 1).toNat).map fun j : Nat => tD (x + (1 + (j : Int)) * s, y, r))), rfl⟩
        simp only [List.append_assoc, List.singleton_append] at hm'
        exact hm'
  rintro _ w3 ⟨rfl, t9, t10, rfl⟩
  refine okS_mono (last (told (l, hh, s) (x, y, r)) t9 t10 ?_ ?_) (fun _ _ q => q.elim) (fun _ _ q => q)
  · intro p hp
    have hs0 : s ≠ 0 := by omega
    have hr0 : r ≠ 0 := by omega
    have hs2 : Bt 2000 s := hnb.2.2.mono (by omega)
    unfold told at hp
    split at hp
    · rw [List.mem_singleton.mp hp]
      exact ⟨hs0, hs2, cnt_bt2 (k := 2002) (by omega) hs0 hnb.1 hnb.2.1⟩
    · rename_i hc
      have hcv : 0 < cnt v := by
        have : cnt v ≠ 0 := fun z => hc (hcz.mpr z)
        omega
      obtain ⟨bx, by'⟩ := hve hcv
      have hsm : Bt 2002 s := hs2.mono (by omega)
      rcases List.mem_append.mp hp with hp | hp
      · rcases List.mem_cons.mp hp with rfl | hp
        · exact ⟨hs0, hs2, cnt_bt2 (k := 2003) (by omega) hs0 (hnb.1.mono (by omega)) (bt_sub bx hsm)⟩
        · obtain ⟨j, hj, rfl⟩ := List.mem_map.mp hp
          have hj := List.mem_range.mp hj
          have hj : j < (r.fdiv s - 1).toNat := hj
          have bj : Bt 20 (1 + (j : Int)) := bt_of (by omega) (by omega)
          exact ⟨hr0, hvb, cnt_bt2 (k := 2003) (by omega) hr0 (bt_add bx ((bt_mul bj hnb.2.2).mono (by omega))) (by'.mono (by omega))⟩
      · rw [List.mem_singleton.mp hp]
        exact ⟨hs0, hs2, cnt_bt2 (k := 2003) (by omega) hs0 (bt_add by' hsm) (hnb.2.1.mono (by omega))⟩
  · unfold told
    split
    · simp
    · rename_i hc
      have : cnt v ≠ 0 := fun z => hc (hcz.mpr z)
      show ((_ :: _) ++ [_]).length ≤ 1000
      simp
      have hf : r.fdiv s ≤ 300 := by omega
      omega
theorem e_less (h : Tri t) (h2 : Tri u) {L : List Tr} (e : ∀ w, F_pieces_of [tD t, tD u] w = .ok (.nl (L.map tD)) w) : ∀ w, F_less [tD t, tD u] w = .ok (.nl (L.map tD)) w := fun w => by
  apply okE_eq
  simp -implicitDefEqProofs [F_less, B_less, okE_run, e_check_two h h2, e]
end
end DL

set_option maxHeartbeats 2000000
namespace DL
open PySem PySem.Spec PyProof.Rows L2
/-! ### pieces are triplets; what they share -/
section
variable {t u v p r : Tr} {x : Int} {w : Wl} {b : Nat}
theorem nrm_st (h : 0 < t.2.2) : (nrm t).2.2 = 1 ∨ (nrm t).2.2 = t.2.2 := by
  unfold nrm
  split
  · exact .inl rfl
  · split
    · exact .inl rfl
    · unfold up
      rw [if_pos h]
      exact .inr rfl
theorem told_st {n v : Tr} (hp : p ∈ told n v) : p.2.2 = n.2.2 ∨ p.2.2 = v.2.2 := by
  unfold told at hp
  split at hp
  · rw [List.mem_singleton.mp hp]
    exact .inl rfl
  · rcases List.mem_append.mp hp with hp | hp
    · rcases List.mem_cons.mp hp with rfl | hp
      · exact .inl rfl
      · obtain ⟨k, _, rfl⟩ := List.mem_map.mp hp
        exact .inr rfl
    · rw [List.mem_singleton.mp hp]
      exact .inl rfl
theorem pc_st (ht : t.2.2 ≠ 0) (hv : v.2.2 ≠ 0) (hp : p ∈ pcN (told (nrm t) (nrm v))) : p.2.2 = 1 ∨ p.2.2 = (nrm t).2.2 ∨ p.2.2 = (nrm v).2.2 := by
  obtain ⟨p0, k1, k2, k3⟩ := pcN_mem.mp hp
  have h1 := nrm_s ht
  have h2 := nrm_s hv
  rcases told_st k1 with e | e
  · rcases nrm_st (t := p0) (by omega) with z | z
    · exact .inl (by rw [← k3]; exact z)
    · exact .inr (.inl (by rw [← k3, z, e]))
  · rcases nrm_st (t := p0) (by omega) with z | z
    · exact .inl (by rw [← k3]; exact z)
    · exact .inr (.inr (by rw [← k3, z, e]))
theorem nrm_stp_le (h : Tri t) : (nrm t).2.2 ≤ FARn := by
  have hc := inF_iff.mp h.c
  unfold nrm
  split
  · show (1 : Int) ≤ FARn
    decide
  · split
    · show (1 : Int) ≤ FARn
      decide
    · unfold up
      split
      · exact hc.2
      · show -t.2.2 ≤ FARn
        simp only [FARn] at hc ⊢
        omega
theorem in_far (h : Tri t) (hx : In t x) : inF x = true := by
  obtain ⟨i, h0, h1, rfl⟩ := hx
  exact at1_far h h0 h1
/-- a normal triplet of elements of a triplet -/
theorem tri_of (h : Tri t) (hn : nrm p = p) (hs : 0 < p.2.2) (hf : p.2.2 ≤ FARn) (hc : 0 < cnt p) (e : ∀ x, In p x → In t x) : Tri p := by
  obtain ⟨e1, e2⟩ := v_ends (v := p) (by omega) hc
  rw [hn] at e1 e2
  refine ⟨in_far h (e _ e1), in_far h (e _ e2), inF_iff.mpr ⟨?_, hf⟩, by omega⟩
  simp only [FARn]
  omega
theorem tri_empty : Tri (0, -1, 1) := ⟨by decide, by decide, by decide, by decide⟩
theorem tri_both (h : Tri t) (hv : v.2.2 ≠ 0) (hf : (nrm v).2.2 ≤ FARn) (e : ∀ x, In v x → In t x) : Tri (nrm v) := by
  have hn := cnt_nonneg (t := v)
  by_cases h0 : cnt v = 0
  · unfold nrm
    rw [if_pos h0]
    exact tri_empty
  · exact tri_of h (nrm_nrm hv) (nrm_s hv) hf (by rw [cnt_nrm hv]; omega) fun x hx => e x ((in_nrm hv).mp hx)
theorem met_none (h : Tri p) (h2 : Tri r) (no : ∀ x, ¬ (In p x ∧ In r x)) : ∀ w, F_met [tD p, tD r] w = .ok (tD (0, -1, 1)) w := by
  obtain ⟨v, hv, hi, e⟩ := e_met h h2
  have hn := cnt_nonneg (t := v)
  have h0 : cnt v = 0 := by
    rcases (by omega : cnt v = 0 ∨ 0 < cnt v) with z | z
    · exact z
    · exact absurd ((hi _).mp ⟨0, by omega, z, rfl⟩) (no _)
  have : nrm v = (0, -1, 1) := by unfold nrm; rw [if_pos h0]
  rw [this] at e
  exact e
theorem met_self (h : Tri p) (h2 : Tri r) (hn : nrm p = p) (e : ∀ x, In p x → In r x) : ∀ w, F_met [tD p, tD r] w = .ok (tD p) w := by
  obtain ⟨v, hv, hi, em⟩ := e_met h h2
  have : nrm v = p := by
    rw [← hn]
    exact nrm_ext hv h.s fun x => by rw [hi]; exact ⟨fun z => z.1, fun z => ⟨z, e x z⟩⟩
  rw [this] at em
  exact em
/-- the shared elements of a triplet and one with so many times its step -/
theorem few_times {K : Int} (hu : u.2.2 ≠ 0) (ht : t.2.2 ≠ 0) (hv : v.2.2 ≠ 0) (hi : ∀ x, In v x ↔ In t x ∧ In u x) (hK : 1 ≤ K) (e : (up u).2.2 = (up t).2.2 * K) : cnt v = 0 ∨ (nrm v).2.2.fdiv (nrm t).2.2 ≤ K ∧ (nrm v).2.2 ≤ (up u).2.2 := by
  have hn := cnt_nonneg (t := v)
  by_cases h0 : cnt v = 0
  · exact .inl h0
  · refine .inr ?_
    obtain ⟨a, s, c, i0, q, m, H⟩ := cm3 ht hv (fun x hx => ((hi x).mp hx).1) (by omega)
    have hs := H.hs
    have hq := H.hq
    have hm := H.hm
    have hi0 := H.hi
    have hle := H.hle
    have hc0 := H.c0
    have hups : 0 < (up t).2.2 := by
      unfold up
      split
      · rename_i z
        exact z
      · show 0 < -t.2.2
        omega
    have huu : 0 < (up u).2.2 := by rw [e]; exact Int.mul_pos hups (by omega)
    rw [H.hv, H.ht]
    show (if m = 1 then 1 else q * s).fdiv s ≤ K ∧ (if m = 1 then 1 else q * s) ≤ (up u).2.2
    by_cases h1 : m = 1
    · rw [if_pos h1]
      refine ⟨?_, by omega⟩
      have : (1 : Int).fdiv s ≤ 1 := by
        rw [Int.fdiv_eq_ediv_of_nonneg _ (by omega)]
        exact Int.ediv_le_self _ (by decide)
      omega
    · rw [if_neg h1]
      have hd : (q * s).fdiv s = q := by rw [Int.fdiv_eq_ediv_of_nonneg _ (by omega)]; exact Int.mul_ediv_cancel _ (by omega)
      rw [hd]
      -- two elements or more: the step of the normal one is that of the upward one
      have hss : s = (up t).2.2 := by
        have h2 : (nrm t).2.2 = s := by rw [H.ht]; rfl
        have hq1 : 1 * q ≤ (m - 1) * q := (le_can (by omega)).mpr (by omega)
        have hct := H.hct
        unfold nrm at h2
        rw [if_neg (by omega), if_neg (by omega)] at h2
        exact h2.symm
      have hqK : q ≤ K := by
        rcases (by omega : q ≤ K ∨ K < q) with z | z
        · exact z
        · exfalso
          have hq1 : 1 * q ≤ (m - 1) * q := (le_can (by omega)).mpr (by omega)
          have x0 := (H.inv hv (x := a + i0 * s)).mpr ⟨0, by omega, by omega, by rw [Int.zero_mul, Int.add_zero]⟩
          have x1 := (H.inv hv (x := a + (i0 + q) * s)).mpr ⟨1, by omega, by omega, by rw [Int.one_mul]⟩
          have u0 := (in_up hu).mp ((hi _).mp x0).2
          have u1 := (in_up hu).mp ((hi _).mp x1).2
          have hmid : In t (a + (i0 + K) * s) := (H.int ht).mpr ⟨i0 + K, by omega, by omega, rfl⟩
          have l1 : i0 * s ≤ (i0 + K) * s := (le_can hs).mpr (by omega)
          have l2 : (i0 + K) * s ≤ (i0 + q) * s := (le_can hs).mpr (by omega)
          have hdv : (up u).2.2 ∣ a + (i0 + K) * s - (up u).1 := by
            have e3 : a + (i0 + K) * s - (up u).1 = (a + i0 * s - (up u).1) + (up u).2.2 := by
              rw [e, ← hss, Int.add_mul, Int.mul_comm s K]
              omega
            rw [e3]
            exact Int.dvd_add u0.2.2 (Int.dvd_refl _)
          have hmu : In u (a + (i0 + K) * s) := (in_up hu).mpr ⟨by omega, by omega, hdv⟩
          obtain ⟨j, j0, j1, j2⟩ := (H.inv hv).mp ((hi _).mpr ⟨hmid, hmu⟩)
          have := (eq_can (a := a) hs).mp j2
          exact no_mult (d := j) (q := q) (r := K) (by omega) z (by omega)
      refine ⟨hqK, ?_⟩
      rw [e, ← hss, Int.mul_comm s K]
      exact (le_can hs).mpr hqK
end
end DL

set_option maxHeartbeats 2000000
namespace DL
open PySem PySem.Spec PyProof.Rows L2
/-! ### slices -/
@[simp] theorem okE_sl {A : DE} {L M : Sl → Wl → R (Option Int)} {s : Sl} {w : Wl} {Q : D → Wl → Prop} : okE (eSl A L M s w) Q = okE (A s w) fun x w1 => okE (L s w1) fun l w2 => okE (M s w2) fun m w3 => match x with
    | .lst xs => Q (.lst (cutD xs l m)) w3
    | .tup xs => Q (.tup (cutD xs l m)) w3
    | _ => False := by
  unfold eSl; simp only [okE_bind]; congr; funext x w1; congr; funext l w2; congr; funext m w3; cases x <;> rfl
@[simp] theorem okE_oNone {s : Sl} {w : Wl} {Q : Option Int → Wl → Prop} : okE (oNone s w) Q = Q none w := rfl
@[simp] theorem okE_oSome {A : DE} {s : Sl} {w : Wl} {Q : Option Int → Wl → Prop} : okE (oSome A s w) Q = okE (A s w) fun x w1 => match x with
    | .int i => Q (some i) w1
    | _ => False := by unfold oSome; simp only [okE_bind]; congr; funext x w1; cases x <;> rfl
/-! ### far triplets -/
section
variable {t u v p r : Tr} {x : Int} {w : Wl} {b : Nat}
theorem twice' {x : D} : (List.replicate (2 : Int).toNat [x]).flatten = [x, x] := rfl
theorem lay_trs : ∀ L : List Tr, PyData.canLayAll0 (toPDs (L.map tD)) = true ∧ PyData.depthAll (toPDs (L.map tD)) ≤ 1
  | [] => by simp [toPDs, PyData.canLayAll0, PyData.depthAll]
  | r :: rs => by
    have h1 := lay_trs rs
    have h2 := lay_ints [r.1, r.2.1, r.2.2]
    simp only [List.map_cons, List.map_nil] at h2
    simp [toPDs, tD, toPD, PyData.canLayAll0, PyData.depthAll, PyData.canLay0, PyData.depth, h2]
    exact ⟨h1.1, by have := h1.2; omega⟩
theorem okD_ltD {L : List Tr} : okD (.lst (L.map tD)) = true := by
  have h := lay_trs L
  simp [okD, toPD, SeqAt.shaped, PyData.canLay0, PyData.depth, h.1]
  omega
theorem eqD_lc {d : D} {xs : List D} : eqD (.lst (d :: xs)) (.lst []) = false ∧ eqD (.lst []) (.lst (d :: xs)) = false := by
  have e : ∀ a b : List PyData, PyData.eqv (.list a) (.list b) = PyData.eqvAll a b := fun a b => by unfold PyData.eqv; rfl
  constructor
  · show PyData.eqv (.list _) (.list _) = false
    rw [e]
    rfl
  · show PyData.eqv (.list _) (.list _) = false
    rw [e]
    rfl
theorem eqD_ltD : ∀ {L M : List Tr}, eqD (.lst (L.map tD)) (.lst (M.map tD)) = decide (L = M)
  | [], [] => by simp
  | [], m :: M => by simp [eqD_lc.2]
  | l :: L, [] => by simp [eqD_lc.1]
  | l :: L, m :: M => by
    rw [List.map_cons, List.map_cons, eqD_lcons, eqD_tD, eqD_ltD]
    by_cases h1 : l = m <;> by_cases h2 : L = M <;> simp [h1, h2]
theorem cut_take {α : Type} {l : List α} {n : Nat} : cutD l none (some (n : Int)) = l.take n := by
  unfold cutD
  rw [HT.sIx_none, HT.sIx_nat]
  simp
theorem pc_len (h : t.2.2 ≠ 0) (hv : v.2.2 ≠ 0) (hf : Few t v) : (pcN (told (nrm t) (nrm v))).length ≤ 400 := by
  unfold pcN
  rw [List.length_map]
  refine Nat.le_trans (List.length_filter_le _ _) ?_
  unfold told
  split
  · simp
  · rename_i hc
    rw [cnt_nrm hv] at hc
    have := hf.resolve_left hc
    show ((_ :: _) ++ [_]).length ≤ 400
    simp
    omega
theorem far_law (hw : Lap b w) (hb : b < 1007000) : okE (F_w_far_right [.well] w) fun d w' => d = .bl true ∧ Lap (b + 12) w' := by
  have hlim : lim = 16000000 := rfl
  have hl1 : (1 : Nat) ≤ lim := by decide
  have hl2 : (2 : Nat) ≤ lim := by decide
  have hl3 : (3 : Nat) ≤ lim := by decide
  have hl0 : (0 : Nat) ≤ lim := by decide
  unfold F_w_far_right
  rw [okE_run]
  refine ⟨rfl, ?_⟩
  show okS (B_w_far_right [some .well, none, none, none, none, none, none, none, none] w) _ _
  unfold B_w_far_right
  refine okS_to (fun s1 w1 => ∃ t, Tri t ∧ Lap (b + 10) w1 ∧ s1 = [some .well, some (tD t), none, none, none, none, none, none, none]) ?_ ?_
  · intro M' hM'
    simp -implicitDefEqProofs
    exact far hw (by omega) fun t w' ht l => hM' _ _ ⟨t, ht, l, rfl⟩
  rintro _ w1 ⟨t, ht, l1, rfl⟩
  obtain ⟨S, hS⟩ : ∃ S : Int, S = (up t).2.2 := ⟨_, rfl⟩
  have hts := ht.s
  have hS2 : S = if 0 < t.2.2 then t.2.2 else -t.2.2 := by
    rw [hS]
    unfold up
    split <;> rfl
  have hc := inF_iff.mp ht.c
  have hSp : 0 < S ∧ S ≤ FARn := by
    rw [hS2]
    simp only [FARn] at hc ⊢
    split <;> omega
  refine okS_to (fun s1 w2 => w2 = w1 ∧ s1 = [some .well, some (tD t), some (.int S), none, none, none, none, none, none]) ?_ ?_
  · intro M' hM'
    have hm' := hM' _ _ ⟨rfl, rfl⟩
    simp -implicitDefEqProofs
    have : (if t.2.2 < 0 then -t.2.2 else t.2.2) = S := by
      rw [hS2]
      split <;> split <;> omega
    rw [this]
    exact hm'
  rintro _ w2 ⟨rfl, rfl⟩
  refine okS_to (fun s1 w3 => ∃ (d k : Int), (0 ≤ d ∧ d < 9) ∧ (0 ≤ k ∧ k < 40) ∧ Lap (b + 12) w3 ∧ s1 = [some .well, some (tD t), some (.int S), some (tD (t.1 + S * (d - 4), t.2.1, t.2.2 * (1 + k))), none, none, none, none, none]) ?_ ?_
  · intro M' hM'
    simp -implicitDefEqProofs
    refine draw l1 (by decide) (by decide) (by omega) fun d w3 d0 d1 l3 => ?_
    have hmd : mulOk S (d - 4) := mul_bt (i := 110) (bt_of (by have := p110; simp only [FARn] at hSp; omega) (by have := p110; simp only [FARn] at hSp; omega)) (bt_of (i := 10) (by omega) (by omega)) (by omega)
    simp -implicitDefEqProofs [hmd]
    refine draw l3 (by decide) (by decide) (by omega) fun k w4 k0 k1 l4 => ?_
    have hmk : mulOk t.2.2 (1 + k) := mul_bt (i := 110) ((bt100 ht.c).mono (by omega)) (bt_of (i := 10) (by omega) (by omega)) (by omega)
    simp -implicitDefEqProofs [hmk, hl3]
    exact hM' _ _ ⟨d, k, ⟨d0, d1⟩, ⟨k0, k1⟩, l4, rfl⟩
  rintro _ w3 ⟨d, k, hd, hk, l3, rfl⟩
  obtain ⟨u, hu⟩ : ∃ u : Tr, u = (t.1 + S * (d - 4), t.2.1, t.2.2 * (1 + k)) := ⟨_, rfl⟩
  rw [← hu]
  by_cases hbig : 1000000000000000000000000000000 < (if u.1 < 0 then -u.1 else u.1) ∨ 1000000000000000000000000000000 < (if u.2.2 < 0 then -u.2.2 else u.2.2)
  · refine okS_to (fun _ _ => False) ?_ (fun _ _ q => q.elim)
    intro M' hM'
    by_cases h1 : 1000000000000000000000000000000 < (if u.1 < 0 then -u.1 else u.1)
    · simp -implicitDefEqProofs [h1]
      exact l3
    · have h2 := hbig.resolve_left h1
      simp -implicitDefEqProofs [h1, h2]
      exact l3
  have hb1 : ¬ 1000000000000000000000000000000 < (if u.1 < 0 then -u.1 else u.1) := fun z => hbig (.inl z)
  have hb2 : ¬ 1000000000000000000000000000000 < (if u.2.2 < 0 then -u.2.2 else u.2.2) := fun z => hbig (.inr z)
  have hK : 0 < 1 + k := by omega
  have hus : u.2.2 ≠ 0 := by
    rw [hu]
    show t.2.2 * (1 + k) ≠ 0
    exact Int.mul_ne_zero hts (by omega)
  have hTu : Tri u := by
    refine ⟨inF_iff.mpr ?_, ?_, inF_iff.mpr ?_, hus⟩
    · simp only [FARn]
      split at hb1 <;> omega
    · rw [hu]
      exact ht.b
    · simp only [FARn]
      split at hb2 <;> omega
  have hup : (up u).2.2 = (up t).2.2 * (1 + k) := by
    rw [← hS, hS2]
    have e1 : (up u).2.2 = if 0 < u.2.2 then u.2.2 else -u.2.2 := by
      unfold up
      split <;> rfl
    have e2 : u.2.2 = t.2.2 * (1 + k) := by rw [hu]
    rw [e1, e2]
    by_cases hp : 0 < t.2.2
    · rw [if_pos hp, if_pos (Int.mul_pos hp hK)]
    · have : t.2.2 * (1 + k) < 0 := Int.mul_neg_of_neg_of_pos (by omega) hK
      rw [if_neg hp, if_neg (by omega), Int.neg_mul]
  refine okS_to (fun s1 w4 => w4 = w3 ∧ s1 = [some .well, some (tD t), some (.int S), some (tD u), none, none, none, none, none]) ?_ ?_
  · intro M' hM'
    have hm' := hM' _ _ ⟨rfl, rfl⟩
    simp -implicitDefEqProofs [hb1, hb2]
    exact hm'
  rintro _ w4 ⟨rfl, rfl⟩
  obtain ⟨v, hv, hi, hpc⟩ := e_pieces_of ht.WD hTu.WD
  have hft := few_times hus hts hv hi (by omega) hup
  have hfew : Few t v := hft.imp id fun z => by have := z.1; omega
  have hls := e_less ht hTu (hpc hfew)
  have hP := pcs hts hv hi
  have hst := fun p (hp : p ∈ pcN (told (nrm t) (nrm v))) => pc_st hts hv hp
  have hLn := pc_len hts hv hfew
  generalize pcN (told (nrm t) (nrm v)) = L at *
  have hvF : (nrm v).2.2 ≤ FARn := by
    rcases hft with z | z
    · unfold nrm
      rw [if_pos z]
      decide
    · have h2 := z.2
      have h3 := inF_iff.mp hTu.c
      have : (up u).2.2 = if 0 < u.2.2 then u.2.2 else -u.2.2 := by
        unfold up
        split <;> rfl
      rw [this] at h2
      simp only [FARn] at h3 ⊢
      split at h2 <;> omega
  have hT : ∀ p ∈ L, Tri p := fun p hp => by
    obtain ⟨n1, n2, n3⟩ := hP.nm p hp
    refine tri_of ht n1 n3 ?_ n2 fun x hx => (hP.sub p hp x hx).1
    rcases hst p hp with e | e | e
    · rw [e]
      decide
    · rw [e]
      exact nrm_stp_le ht
    · rw [e]
      exact hvF
  have hTv := tri_both ht hv hvF fun x hx => ((hi x).mp hx).1
  have hem : ∀ w, F_met [tD t, tD u] w = .ok (tD (nrm v)) w := by
    obtain ⟨v2, k1, k2, k3⟩ := e_met ht hTu
    have : nrm v2 = nrm v := nrm_ext k1 hv fun x => by rw [k2, hi]
    rw [this] at k3
    exact k3
  have hcv := cnt_nrm hv
  have hsum : (L.map cnt).sum + cnt v = cnt t := hP.sm
  refine okS_to (fun s1 w5 => w5 = w4 ∧ s1 = [some .well, some (tD t), some (.int S), some (tD u), some (.lst (L.map tD)), some (tD (nrm v)), none, none, none]) ?_ ?_
  · intro M' hM'
    have hm' := hM' _ _ ⟨rfl, rfl⟩
    have e1 : ∀ w, (eCall 2 F_less (aCons (eVar 1) (aCons (eVar 3) aNil))) [some .well, some (tD t), some (.int S), some (tD u), none, none, none, none, none] w = .ok (.nl (L.map tD)) w := fun w => by
      apply okE_eq
      simp -implicitDefEqProofs [hls]
    have e2 := fun w => wk_ok (e1 w)
    simp -implicitDefEqProofs [e2, hem]
    exact hm'
  rintro _ w5 ⟨rfl, rfl⟩
  refine okS_to (fun s1 w6 => w6 = w5 ∧ s1 = [some .well, some (tD t), some (.int S), some (tD u), some (.lst (L.map tD)), some (tD (nrm v)), none, none, none]) ?_ ?_
  · intro M' hM'
    have hm' := hM' _ _ ⟨rfl, rfl⟩
    have hec := e_count (w := w5) ht
    have hev := e_triplet_size (w := w5) hTv
    rw [hcv] at hev
    simp -implicitDefEqProofs
    refine ⟨by omega, okE_lcall tD (fun p => .int (cnt p)) (fun p hp => ?_) ?_⟩
    · simp -implicitDefEqProofs [e_triplet_size (hT p hp)]
    · simp -implicitDefEqProofs [hec, hev, hsum]
      exact hm'
  rintro _ w6 ⟨rfl, rfl⟩
  refine okS_to (fun s1 w7 => w7 = w6 ∧ ∃ t6 t7, s1 = [some .well, some (tD t), some (.int S), some (tD u), some (.lst (L.map tD)), some (tD (nrm v)), t6, t7, none]) ?_ ?_
  · intro M' hM'
    have hes : enmSD [.lst (L.map tD)] = some ((L.map tD).zipIdx.map fun t => D.tup [.int (t.2 : Nat), t.1]) := rfl
    simp -implicitDefEqProofs only [okS_for, okI_enumS, okE_cons, okE_nil, okE_var]
    simp -implicitDefEqProofs [hes]
    refine okS_loop0 (fun i s w7 => w7 = w6 ∧ ∃ t6 t7, s = [some .well, some (tD t), some (.int S), some (tD u), some (.lst (L.map tD)), some (tD (nrm v)), t6, t7, none]) ⟨rfl, none, none, rfl⟩ ?_ (fun s w7 h => hM' _ _ h)
    rintro i d s w7 hd' ⟨rfl, t6, t7, rfl⟩
    rw [List.getElem?_map, List.getElem?_zipIdx, List.getElem?_map] at hd'
    cases hLi : L[i]? with
    | none => rw [hLi] at hd'; cases hd'
    | some p =>
      rw [hLi] at hd'
      have hd' : D.tup [.int ((0 + i : Nat) : Int), tD p] = d := Option.some.inj hd'
      rw [Nat.zero_add] at hd'
      subst hd'
      have hp : p ∈ L := List.mem_of_getElem? hLi
      have hTp := hT p hp
      have hsub := hP.sub p hp
      have hn := (hP.nm p hp).1
      have m1 := met_none hTp hTu fun x hx => (hsub x hx.1).2 hx.2
      have m2 := met_none hTp hTv fun x hx => (hsub x hx.1).2 ((hi x).mp ((in_nrm hv).mp hx.2)).2
      have m3 := met_self hTp ht hn fun x hx => (hsub x hx).1
      have hil : i < L.length := (List.getElem?_eq_some_iff.mp hLi).1
      have m4 : ∀ r ∈ L.take i, ∀ w, F_met [tD p, tD r] w = .ok (tD (0, -1, 1)) w := fun r hr => by
        obtain ⟨j, hj, rfl⟩ := List.mem_iff_getElem.mp hr
        rw [List.length_take] at hj
        rw [List.getElem_take]
        refine met_none hTp (hT _ (List.getElem_mem _)) fun x hx => ?_
        have hpw := List.pairwise_iff_getElem.mp hP.dj j i (by omega) hil (by omega)
        have hpi : L[i] = p := (List.getElem?_eq_some_iff.mp hLi).2
        rw [hpi] at hpw
        exact hpw x ⟨hx.2, hx.1⟩
      simp only [v_gT, v_gCons, v_gN, v_gNil, okO_some, List.set]
      have e0 : D.tup [.int 0, .int (-1), .int 1] = tD (0, -1, 1) := rfl
      refine ⟨rfl, okS_to (fun s1 w8 => w8 = w7 ∧ s1 = [some .well, some (tD t), some (.int S), some (tD u), some (.lst (L.map tD)), some (tD (nrm v)), some (tD p), some (.int (i : Int)), none]) ?_ ?_⟩
      · intro M' hM'
        have hm' := hM' _ _ ⟨rfl, rfl⟩
        simp -implicitDefEqProofs [m1, m2, m3, hl1, hl2, hl3, e0, twice']
        exact hm'
      rintro _ w8 ⟨rfl, rfl⟩
      have hlc := lc_map (T := tE (eBin fNe (eCall 2 F_met (aCons (eVar 6) (aCons (eVar 8) aNil))) (eTup (aCons (eC (.int 0)) (aCons (eUn fNeg (eC (.int 1))) (aCons (eC (.int 1)) aNil)))))) (A := eC (.int 1)) (G := gN 8) tD (fun _ => D.int 1) (fun _ => false) (s := [some .well, some (tD t), some (.int S), some (tD u), some (.lst (L.map tD)), some (tD (nrm v)), some (tD p), some (.int (i : Int)), none]) (w := w8) (xs := L.take i) fun r hr => by
        rw [v_gN, okO_some]
        refine ⟨okE_eq ?_, fun z => by cases z⟩
        simp -implicitDefEqProofs [m4 r hr, hl3, e0]
      have hcut : cutD (L.map tD) none (some (i : Int)) = (L.map tD).take i := cut_take
      rw [List.map_take] at hlc
      rw [show (L.take i).filter (fun _ => false) = [] from by simp] at hlc
      have o0 : okD (.lst []) = true := rfl
      simp -implicitDefEqProofs [hcut, hlc, hl0, o0]
      omega
  rintro _ w7 ⟨rfl, t6, t7, rfl⟩
  simp -implicitDefEqProofs
  exact l3
end
end DL

set_option maxHeartbeats 2000000
namespace DL
open PySem PySem.Spec PyProof.Rows L2
/-! ### shown -/
section
variable {w : Wl} {b : Nat} {t u : Tr}
theorem atI_last {α : Type} {l : List α} : atI l (-1) = l.getLast? := by
  rw [List.getLast?_eq_getElem?]
  cases l with
  | nil => rfl
  | cons a r =>
    have h : ixN (a :: r).length (-1) = some r.length := by
      unfold ixN
      rw [if_neg (by decide), List.length_cons]
      have e : ((r.length + 1 : Nat) : Int) + -1 = (r.length : Int) := by omega
      simp
      omega
    unfold atI
    rw [h]
    simp
theorem e_shown (l : List Int) : F_w_shown [.lst (l.map .int)] w = .ok (tD (shown l)) w := by
  apply okE_eq
  have hl : (3 : Nat) ≤ lim := by decide
  have ok0 : okD (.lst []) = true := okD_lints (xs := [])
  match l with
  | [] => simp -implicitDefEqProofs [F_w_shown, B_w_shown, okE_run, hl, shown, ok0]; rfl
  | [a] => 
    have e : eqD (.lst ([a].map .int)) (.lst []) = false := (eqD_lints (xs := [a]) (ys := [])).trans (by simp)
    have hlast : atI [D.int a] (-1) = some (.int a) := atI_last
    have ok1 : okD (.lst [.int a]) = true := okD_lints (xs := [a])
    simp only [List.map_cons, List.map_nil] at e
    simp -implicitDefEqProofs [F_w_shown, B_w_shown, okE_run, hl, shown, e, hlast, ok0, ok1]
    rfl
  | a :: c :: r =>
    have e : eqD (.lst ((a :: c :: r).map .int)) (.lst []) = false := (eqD_lints (xs := a :: c :: r) (ys := [])).trans (by simp)
    obtain ⟨z, hz⟩ : ∃ z, (a :: c :: r).getLast? = some z := ⟨_, List.getLast?_eq_some_getLast (by simp)⟩
    have hlast : atI ((a :: c :: r).map D.int) (-1) = some (.int z) := by rw [atI_last, List.getLast?_map, hz]; rfl
    have ok1 : okD (.lst ((a :: c :: r).map .int)) = true := okD_lints (xs := a :: c :: r)
    simp only [List.map_cons, List.map_nil] at e hlast ok1
    have hlen : (0 : Int) < (r.length : Int) + 1 := by omega
    simp -implicitDefEqProofs [F_w_shown, B_w_shown, okE_run, hl, e, hlast, ok0, ok1, hlen]
    rw [if_pos (by omega)]
    show _ = tD (a, Option.getD ((a :: c :: r).getLast?) 0, c - a)
    rw [hz]
    rfl
theorem last_mem (h : 0 < cnt t) : (mem t).getLast? = some (at1 t (cnt t - 1)) := by
  rw [List.getLast?_eq_getElem?, mem_len, mem_get, if_pos (by omega)]
  congr 2
  omega
end
end DL

set_option maxHeartbeats 2000000
namespace DL
open PySem PySem.Spec PyProof.Rows L2
/-! ### what the law cuts -/
section
variable {t u v p r : Tr} {a s c i0 q m x : Int} {w : Wl} {b : Nat}
theorem stepI_eq {n : Nat} {lo k : Int} (h0 : 0 ≤ lo) (h1 : lo ≤ n) (hk : 0 < k) : stepI n lo k = (List.range (if lo < n then ((n : Int) - lo + k - 1) / k else 0).toNat).map fun j : Nat => (lo + k * (j : Int)).toNat := by
  have e : sliceBounds (some lo) none (some k) n = (lo, (n : Int), k) := by
    unfold sliceBounds
    simp only [Option.getD_some]
    rw [if_pos hk, if_pos hk]
    simp
    rw [if_neg (by omega)]
    omega
  unfold stepI sliceRange
  rw [e]
  simp only
  rw [if_pos hk]
theorem fm_map {α β : Type} {f : α → Option β} {g : α → β} : ∀ {l : List α}, (∀ x ∈ l, f x = some (g x)) → l.filterMap f = l.map g
  | [], _ => rfl
  | x :: l, h => by
    rw [List.filterMap_cons_some (h x List.mem_cons_self), List.map_cons, fm_map fun y hy => h y (List.mem_cons_of_mem _ hy)]
theorem stepL_mk {lo : Int} {n : Nat} (h0 : 0 ≤ lo) (h1 : lo ≤ n) (hq : 0 < q) : ∃ k : Int, 0 ≤ k ∧ (∀ j : Int, 0 ≤ j → (j < k ↔ lo + j * q < n)) ∧ ∀ {α : Type} (g : Nat → α), stepL ((List.range n).map g) lo q = (List.range k.toNat).map fun j : Nat => g (lo + (j : Int) * q).toNat := by
  obtain ⟨k, hk⟩ : ∃ k : Int, k = if lo < n then ((n : Int) - lo + q - 1) / q else 0 := ⟨_, rfl⟩
  have hk0 : 0 ≤ k := by
    rw [hk]
    split
    · exact Int.ediv_nonneg (by omega) (by omega)
    · omega
  have hkj : ∀ j : Int, 0 ≤ j → (j < k ↔ lo + j * q < n) := fun j hj => by
    have hjq := Int.mul_nonneg hj (by omega : 0 ≤ q)
    rw [hk]
    split
    · constructor
      · intro h
        have h2 : (j + 1) * q ≤ (n : Int) - lo + q - 1 := by
          have := Int.mul_le_of_le_ediv hq (show j + 1 ≤ ((n : Int) - lo + q - 1) / q by omega)
          exact this
        rw [Int.add_mul, Int.one_mul] at h2
        omega
      · intro h
        have : j + 1 ≤ ((n : Int) - lo + q - 1) / q := by
          refine Int.le_ediv_of_mul_le hq ?_
          rw [Int.add_mul, Int.one_mul]
          omega
        omega
    · omega
  refine ⟨k, hk0, hkj, fun {α} g => ?_⟩
  unfold stepL
  rw [List.length_map, List.length_range, stepI_eq h0 h1 hq, ← hk, List.filterMap_map]
  refine fm_map fun j hj => ?_
  have hj := List.mem_range.mp hj
  have hlt := (hkj (j : Int) (by omega)).mp (by omega)
  have hjq := Int.mul_nonneg (show (0 : Int) ≤ (j : Int) by omega) (by omega : 0 ≤ q)
  show ((List.range n).map g)[(lo + q * (j : Int)).toNat]? = some (g (lo + (j : Int) * q).toNat)
  rw [Int.mul_comm q, List.getElem?_map, List.getElem?_range (by omega)]
  rfl
theorem mem_pw (hs : 0 < s) (hc : 0 ≤ c) : (mem (mk3 a s c)).Pairwise (· ≤ ·) ∧ (mem (mk3 a s c)).Nodup := ⟨mem_up_le hs hc, nodup_mem (by show s ≠ 0; omega)⟩
theorem lt_can {x y : Int} (hs : 0 < s) : a + x * s < a + y * s ↔ x < y := by
  have h1 := le_can (s := s) (x := y) (y := x) hs
  constructor
  · intro h
    rcases (by omega : x < y ∨ y ≤ x) with z | z
    · exact z
    · have := h1.mpr z
      omega
  · intro h
    rcases (by omega : a + x * s < a + y * s ∨ y * s ≤ x * s) with z | z
    · exact z
    · have := h1.mp z
      omega
theorem cut_first (hs : 0 < s) (hi : 0 ≤ i0) (hc : i0 < c) : (mem (mk3 a s c)).filter (fun x => decide (x < a + i0 * s)) = mem (mk3 a s i0) := by
  obtain ⟨p1, n1⟩ := mem_pw (a := a) hs (show 0 ≤ c by omega)
  obtain ⟨p2, n2⟩ := mem_pw (a := a) hs hi
  refine asc_eq (p1.filter _) p2 (n1.filter _) n2 fun x => ?_
  rw [List.mem_filter, in_mem, in_mem, in3 (by omega) (by omega), in3 (by omega) hi, decide_eq_true_eq]
  constructor
  · rintro ⟨⟨j, j0, j1, rfl⟩, h⟩
    exact ⟨j, j0, (lt_can hs).mp h, rfl⟩
  · rintro ⟨j, j0, j1, rfl⟩
    exact ⟨⟨j, j0, by omega, rfl⟩, (lt_can hs).mpr j1⟩
theorem Cm3.cut_end (h : Cm3 t v a s c i0 q m) : (mem (mk3 a s c)).filter (fun x => decide (a + (i0 + (m - 1) * q) * s < x)) = mem (end3 a s c i0 q m) := by
  have hs := h.hs
  have hi := h.hi
  have hle := h.hle
  have hc0 := h.c0
  obtain ⟨p1, n1⟩ := mem_pw (a := a) hs (show 0 ≤ c by omega)
  obtain ⟨p2, n2⟩ := mem_pw (a := a + (i0 + (m - 1) * q + 1) * s) hs (show 0 ≤ c - 1 - (i0 + (m - 1) * q) by omega)
  refine asc_eq (p1.filter _) p2 (n1.filter _) n2 fun x => ?_
  rw [List.mem_filter, in_mem, in_mem, in3 (by omega) (by omega), decide_eq_true_eq]
  show _ ↔ In (end3 a s c i0 q m) x
  rw [in_end hs (by omega)]
  constructor
  · rintro ⟨⟨j, j0, j1, rfl⟩, hh⟩
    have := (lt_can hs).mp hh
    exact ⟨j - (i0 + (m - 1) * q) - 1, by omega, by omega, by rw [show i0 + (m - 1) * q + 1 + (j - (i0 + (m - 1) * q) - 1) = j by omega]⟩
  · rintro ⟨j, j0, j1, rfl⟩
    exact ⟨⟨_, by omega, by omega, rfl⟩, (lt_can hs).mpr (by omega)⟩
theorem Cm3.cut_mid (h : Cm3 t v a s c i0 q m) {k : Nat} (hm2 : 2 ≤ m) (hk : (k : Int) + 1 < q) : (stepL (mem (mk3 a s c)) (i0 + 1 + (k : Int)) q).filter (fun x => decide (x < a + (i0 + (m - 1) * q) * s)) = mem (mid3 a s i0 q m k) := by
  have hs := h.hs
  have hi := h.hi
  have hle := h.hle
  have hq := h.hq
  have hqs : 0 < q * s := Int.mul_pos (by omega) hs
  have hq2 : 1 * q ≤ (m - 1) * q := (le_can (by omega)).mpr (by omega)
  have hc : 0 ≤ c := by omega
  obtain ⟨K, hK0, hK, hst⟩ := stepL_mk (q := q) (lo := i0 + 1 + (k : Int)) (n := c.toNat) (by omega) (by omega) (by omega)
  have hcc : ((c.toNat : Nat) : Int) = c := by omega
  rw [hcc] at hK
  have e1 : stepL (mem (mk3 a s c)) (i0 + 1 + (k : Int)) q = mem (mk3 (a + (i0 + 1 + (k : Int)) * s) (q * s) K) := by
    rw [mem_mk3 (by omega) hc, mem_mk3 (by omega) hK0, hst]
    apply List.map_congr_left
    intro j hj
    have hjq := Int.mul_nonneg (show (0 : Int) ≤ (j : Int) by omega) (by omega : 0 ≤ q)
    show a + ((i0 + 1 + (k : Int) + (j : Int) * q).toNat : Int) * s = a + (i0 + 1 + (k : Int)) * s + (j : Int) * (q * s)
    rw [show ((i0 + 1 + (k : Int) + (j : Int) * q).toNat : Int) = i0 + 1 + (k : Int) + (j : Int) * q by omega, Int.add_mul (i0 + 1 + (k : Int)), Int.mul_assoc]
    omega
  rw [e1]
  obtain ⟨p1, n1⟩ := mem_pw (a := a + (i0 + 1 + (k : Int)) * s) hqs hK0
  obtain ⟨p2, n2⟩ := mem_pw (a := a + (i0 + (1 + (k : Int))) * s) hqs (show 0 ≤ m - 1 by omega)
  refine asc_eq (p1.filter _) p2 (n1.filter _) n2 fun x => ?_
  rw [List.mem_filter, in_mem, in_mem, in3 (by omega) hK0, decide_eq_true_eq]
  show _ ↔ In (mid3 a s i0 q m k) x
  rw [in_mid hs hq (by omega)]
  have hx : ∀ j : Int, a + (i0 + 1 + (k : Int)) * s + j * (q * s) = a + (i0 + (1 + (k : Int)) + j * q) * s := fun j => by rw [Int.add_mul (i0 + (1 + (k : Int))), Int.mul_assoc, Int.add_assoc i0, Int.add_assoc]
  constructor
  · rintro ⟨⟨j, j0, j1, rfl⟩, hh⟩
    rw [hx] at hh ⊢
    have hlt := (lt_can hs).mp hh
    refine ⟨j, j0, ?_, rfl⟩
    rcases (by omega : j < m - 1 ∨ m - 1 ≤ j) with z | z
    · exact z
    · have := (le_can (s := q) (by omega)).mpr z
      omega
  · rintro ⟨j, j0, j1, rfl⟩
    have h1 : j * q ≤ (m - 2) * q := (le_can (by omega)).mpr (by omega)
    have h2 : (m - 1) * q = (m - 2) * q + q := by rw [show m - 1 = (m - 2) + 1 by omega, Int.add_mul, Int.one_mul]
    exact ⟨⟨j, j0, (hK j j0).mpr (by omega), hx j⟩, (lt_can hs).mpr (by omega)⟩
end
end DL

set_option maxHeartbeats 2000000
namespace DL
open PySem PySem.Spec PyProof.Rows L2
/-! ### _law_cut -/
section
variable {t u v p r : Tr} {a s c i0 q m x : Int} {w : Wl} {b : Nat}
abbrev lD (l : List Int) : D := .lst (l.map .int)
theorem okD_lD {l : List Int} : okD (lD l) = true := okD_lints
theorem eqD_lD {l : List Int} : eqD (lD l) (.lst []) = decide (l = []) := eqD_lints (xs := l) (ys := [])
theorem both_eq2 (h : t.2.2 ≠ 0) (hv : v.2.2 ≠ 0) (e : ∀ x, In v x ↔ In t x ∧ In u x) : (mem (nrm t)).filter (fun x => hasI x (mem u)) = mem (nrm v) := by
  have := both_eq h hv e
  unfold bothL at this
  rw [sort_mem h] at this
  exact this
theorem mem_nil (p : Tr) : mem p = [] ↔ ¬ 0 < cnt p := by
  have := cnt_nonneg (t := p)
  rw [← List.length_eq_zero_iff, mem_len]
  omega
theorem pcN_lists {L : List Tr} (h : ∀ p ∈ L, 0 < p.2.2) : (L.map mem).filter (fun l => !(decide (l = []))) = (pcN L).map mem := by
  induction L with
  | nil => rfl
  | cons p L ih =>
    have hp := h p List.mem_cons_self
    have ih := ih fun r hr => h r (List.mem_cons_of_mem _ hr)
    unfold pcN at ih ⊢
    rw [List.map_cons, List.filter_cons, List.filter_cons, ih]
    by_cases hc : 0 < cnt p
    · have h1 : ¬ mem p = [] := fun z => (mem_nil p).mp z hc
      rw [if_pos (by simp [h1]), if_pos (decide_eq_true hc), List.map_cons, List.map_cons, mem_nrm (by omega), if_pos hp]
    · have h1 : mem p = [] := (mem_nil p).mpr hc
      rw [if_neg (by simp [h1]), if_neg (by simpa using hc)]
theorem e_cut (h : t.2.2 ≠ 0) (hv : v.2.2 ≠ 0) (hi : ∀ x, In v x ↔ In t x ∧ In u x) (hc : cnt t ≤ 1000) (hq : Few t v) : F_w_cut [lD (mem (nrm t)), lD (mem u)] w = .ok (.lst ((pcN (told (nrm t) (nrm v))).map fun p => lD (mem p))) w := by
  apply okE_eq
  have hlim : lim = 16000000 := rfl
  have hl0 : (0 : Nat) ≤ lim := by decide
  have hl1 : (1 : Nat) ≤ lim := by decide
  have hb := both_eq2 h hv hi
  have hnn := nrm_s h
  have hcn := cnt_nrm h
  have hcv := cnt_nrm hv
  have hvn := cnt_nonneg (t := v)
  have htn := cnt_nonneg (t := t)
  have hX : (mem (nrm t)).length ≤ 1000 := by rw [mem_len, hcn]; omega
  have o0 : okD (.lst []) = true := rfl
  unfold F_w_cut
  rw [okE_run]
  refine ⟨rfl, ?_⟩
  show okS (B_w_cut [some (lD (mem (nrm t))), some (lD (mem u)), none, none, none, none, none, none, none] w) _ _
  unfold B_w_cut
  obtain ⟨X, hXe⟩ : ∃ X, X = mem (nrm t) := ⟨_, rfl⟩
  rw [← hXe] at hb hX ⊢
  -- comprehensions over numbers
  have lc : ∀ (T : DT) (P : Int → Bool) (Y : List Int) (s1 : Sl), s1.length = 9 → (∀ y ∈ Y, T (s1.set 7 (some (.int y))) w = .ok (P y) w) → lcD (gN 7) T (eVar 7) (Y.map .int) s1 w = .ok ((Y.filter P).map .int) w := fun T P Y s1 hs1 hT => by
    have := lc_map (T := T) (A := eVar 7) (G := gN 7) D.int D.int P (s := s1) (w := w) (xs := Y) fun y hy => by
      rw [v_gN, okO_some]
      refine ⟨hT y hy, fun _ => okE_eq ?_⟩
      simp -implicitDefEqProofs [getS, hs1]
    exact this
  refine okS_to (fun s1 w1 => w1 = w ∧ s1 = [some (lD X), some (lD (mem u)), some (lD (mem (nrm v))), none, none, none, none, none, none]) ?_ ?_
  · intro M' hM'
    have hm' := hM' _ _ ⟨rfl, rfl⟩
    simp -implicitDefEqProofs
    refine ⟨by omega, ?_⟩
    rw [lc (tE (eBin fIn (eVar 7) (eVar 1))) (fun x => hasI x (mem u)) X _ rfl fun y hy => okE_eq (by
      have ha := any_ints (a := y) (xs := mem u)
      rw [List.any_map] at ha
      simp -implicitDefEqProofs
      exact ha), hb]
    exact hm'
  rintro _ w1 ⟨rfl, rfl⟩
  by_cases h0 : cnt v = 0
  · -- nothing shared
    have hB : mem (nrm v) = [] := mem_zero (by rw [hcv]; exact h0)
    have hpc : (pcN (told (nrm t) (nrm v))).map (fun p => lD (mem p)) = if X = [] then [] else [lD X] := by
      have e1 : told (nrm t) (nrm v) = [nrm t] := by
        unfold told
        rw [if_pos (by rw [hcv]; exact h0)]
      rw [e1, hXe]
      unfold pcN
      rw [List.filter_cons]
      by_cases hc0 : 0 < cnt (nrm t)
      · rw [if_pos (decide_eq_true hc0), if_neg (fun z => (mem_nil _).mp z hc0)]
        simp [nrm_nrm h]
      · rw [if_neg (by simpa using hc0), if_pos ((mem_nil _).mpr hc0)]
        rfl
    rw [hpc, hB]
    refine okS_to (fun _ _ => False) ?_ (fun _ _ q => q.elim)
    intro M' hM'
    by_cases hx : X = []
    · rw [hx]
      simp -implicitDefEqProofs [o0, hl0]
    · have hxe := eqD_lD (l := X)
      simp -implicitDefEqProofs [o0, hl0, hl1, hx, hxe]
  obtain ⟨a, s, c, i0, q, m, H⟩ := cm3 h hv (fun x hx => ((hi x).mp hx).1) (by omega)
  have hs := H.hs
  have hm := H.hm
  have hq1 := H.hq
  have hi0 := H.hi
  have hle := H.hle
  have hc0 := H.c0
  have hct := H.hct
  have hpcl : (pcN (told (nrm t) (nrm v))).map (fun p => lD (mem p)) = (((pcL a s c i0 q m).map mem).filter (fun l => !(decide (l = [])))).map lD := by
    rw [told_pc H, pcN_lists H.stp, List.map_map]
    rfl
  rw [hpcl]
  have hXm : X = mem (mk3 a s c) := by rw [hXe, H.ht]
  obtain ⟨B, hB⟩ : ∃ B, B = mem (nrm v) := ⟨_, rfl⟩
  have hqs : 0 < q * s := Int.mul_pos (by omega) hs
  obtain ⟨e, he, he1⟩ : ∃ r : Int, 0 < r ∧ B = (List.range m.toNat).map fun k : Nat => a + i0 * s + (k : Int) * r := by
    refine ⟨if m = 1 then 1 else q * s, by split <;> omega, ?_⟩
    rw [hB, H.hv, mem_mk3 (by split <;> omega) (by omega)]
  have hBk : ∀ k : Nat, (k : Int) < m → (m = 1 ∨ e = q * s) → B[k]? = some (a + (i0 + (k : Int) * q) * s) := fun k hk hor => by
    rw [he1, List.getElem?_map, List.getElem?_range (by omega)]
    rcases hor with z | z
    · have : k = 0 := by omega
      subst this
      simp
    · rw [z]
      show some (a + i0 * s + (k : Int) * (q * s)) = _
      rw [Int.add_mul i0, Int.mul_assoc, Int.add_assoc]
  have hor : m = 1 ∨ e = q * s := by
    by_cases z : m = 1
    · exact .inl z
    · refine .inr ?_
      have h2 : B = (List.range m.toNat).map fun k : Nat => a + i0 * s + (k : Int) * (q * s) := by
        rw [hB, H.hv, if_neg z, mem_mk3 (by omega) (by omega)]
      have h3 := congrArg (fun l : List Int => l[1]?) (he1.symm.trans h2)
      simp only [List.getElem?_map] at h3
      rw [List.getElem?_range (by omega)] at h3
      have h3 := Option.some.inj h3
      have h3 : a + i0 * s + ((1 : Nat) : Int) * e = a + i0 * s + ((1 : Nat) : Int) * (q * s) := h3
      omega
  have hBl : (B.length : Int) = m := by rw [he1]; simp; omega
  have hBne : ¬ B = [] := fun z => by rw [z] at hBl; simp at hBl; omega
  have hB0 : atI (B.map D.int) 0 = some (.int (a + i0 * s)) := atI_nat (j := 0) (by rw [List.getElem?_map, hBk 0 (by omega) hor]; simp)
  have hBe : atI (B.map D.int) (-1) = some (.int (a + (i0 + (m - 1) * q) * s)) := by
    rw [atI_last, List.getLast?_eq_getElem?, List.length_map, List.getElem?_map, hBk (B.length - 1) (by omega) hor, show ((B.length - 1 : Nat) : Int) = m - 1 by omega]
    rfl
  have hB1 : 1 < m → atI (B.map D.int) 1 = some (.int (a + (i0 + q) * s)) := fun z => atI_nat (j := 1) (by rw [List.getElem?_map, hBk 1 (by omega) hor]; simp)
  have hidx : ∀ i, 0 ≤ i → i < c → idxD (X.map .int) (.int (a + i * s)) = some (.int i) := fun i k0 k1 => by
    have hs3 : (mk3 a s c).2.2 ≠ 0 := by show s ≠ 0; omega
    have := find_mem hs3 (idx_at hs3 k0 (by rw [cnt_mk3 (by omega) (by omega)]; exact k1))
    rw [idx_ints, hXm]
    have this : (mem (mk3 a s c)).findIdx? (fun b => decide (b = a + i * s)) = some i.toNat := this
    rw [this]
    show some (D.int (i.toNat : Nat)) = _
    rw [show ((i.toNat : Nat) : Int) = i by omega]
  have hXl : X.length ≤ lim := by omega
  have hqc : q ≤ c := by
    by_cases z : m = 1
    · have := H.hq1 z
      omega
    · have h1q : 1 * q ≤ (m - 1) * q := (le_can (by omega)).mpr (by omega)
      omega
  have hf1 : X.filter (fun x => decide (x < a + i0 * s)) = mem (mk3 a s i0) := by rw [hXm]; exact cut_first hs hi0 (by omega)
  have hf2 : X.filter (fun x => decide (a + (i0 + (m - 1) * q) * s < x)) = mem (end3 a s c i0 q m) := by rw [hXm]; exact H.cut_end
  rw [← hB]
  have hBnil := eqD_lD (l := B)
  refine okS_to (fun s1 w2 => w2 = w1 ∧ s1 = [some (lD X), some (lD (mem u)), some (lD B), none, none, none, none, none, none]) ?_ ?_
  · intro M' hM'
    have hm' := hM' _ _ ⟨rfl, rfl⟩
    simp -implicitDefEqProofs [o0, hl0, hBnil, hBne]
    exact hm'
  rintro _ w2 ⟨rfl, rfl⟩
  refine okS_to (fun s1 w3 => w3 = w2 ∧ s1 = [some (lD X), some (lD (mem u)), some (lD B), some (.own [lD (mem (mk3 a s i0))]), none, none, none, none, none]) ?_ ?_
  · intro M' hM'
    have hm' := hM' _ _ ⟨rfl, rfl⟩
    simp -implicitDefEqProofs
    refine ⟨hXl, ?_⟩
    rw [lc (tE (eBin fLt (eVar 7) (eBin fIx (eVar 2) (eC (.int 0))))) (fun x => decide (x < a + i0 * s)) X _ rfl fun y hy => okE_eq (by
      simp -implicitDefEqProofs [hB0]), hf1]
    simp -implicitDefEqProofs [hl1]
    exact hm'
  rintro _ w3 ⟨rfl, rfl⟩
  obtain ⟨S2, hS2⟩ : ∃ S2 : Int, S2 = if m = 1 then 0 else i0 + q := ⟨_, rfl⟩
  refine okS_to (fun s1 w4 => w4 = w3 ∧ s1 = [some (lD X), some (lD (mem u)), some (lD B), some (.own [lD (mem (mk3 a s i0))]), some (.int i0), some (.int S2), none, none, none]) ?_ ?_
  · intro M' hM'
    have hm' := hM' _ _ ⟨rfl, rfl⟩
    have hi1 := hidx i0 hi0 (by omega)
    by_cases z : m = 1
    · rw [hS2, if_pos z] at hm'
      have hb1 : ¬ (1 : Int) < (B.length : Int) := by omega
      simp -implicitDefEqProofs [hB0, hi1, hb1]
      exact hm'
    · rw [hS2, if_neg z] at hm'
      have hb1 : (1 : Int) < (B.length : Int) := by omega
      have h1q : 1 * q ≤ (m - 1) * q := (le_can (by omega)).mpr (by omega)
      have hi2 := hidx (i0 + q) (by omega) (by omega)
      simp -implicitDefEqProofs [hB0, hi1, hb1, hB1 (by omega), hi2]
      exact hm'
  rintro _ w4 ⟨rfl, rfl⟩
  refine okS_to (fun s1 w5 => w5 = w4 ∧ ∃ t6, s1 = [some (lD X), some (lD (mem u)), some (lD B), some (.own (lD (mem (mk3 a s i0)) :: (List.range (q - 1).toNat).map fun k => lD (mem (mid3 a s i0 q m k)))), some (.int i0), some (.int S2), t6, none, none]) ?_ ?_
  · intro M' hM'
    have hcnt : (S2 - (i0 + 1)).toNat = (q - 1).toNat := by
      rw [hS2]
      split
      · rename_i z
        have := H.hq1 z
        omega
      · omega
    have hS2b : -4611686018427387904 ≤ S2 ∧ S2 < 4611686018427387904 := by
      rw [hS2]
      split
      · omega
      · have z : ¬ m = 1 := by assumption
        have h1q : 1 * q ≤ (m - 1) * q := (le_can (by omega)).mpr (by omega)
        omega
    simp -implicitDefEqProofs only [okS_for, okI_rng2, okE_cons, okE_nil, okE_c, okE_var, okE_bin]
    simp -implicitDefEqProofs [hcnt]
    refine ⟨⟨by omega, by omega⟩, ?_⟩
    refine okS_loop0 (fun i s1 w5 => w5 = w4 ∧ ∃ t6, s1 = [some (lD X), some (lD (mem u)), some (lD B), some (.own (lD (mem (mk3 a s i0)) :: (List.range i).map fun k => lD (mem (mid3 a s i0 q m k)))), some (.int i0), some (.int S2), t6, none, none]) ⟨rfl, none, rfl⟩ ?_ ?_
    · rintro i d s1 w5 hd ⟨rfl, t6, rfl⟩
      have hiq : i < (q - 1).toNat := by
        have := (List.getElem?_eq_some_iff.mp hd).1
        simpa [upTo] using this
      have hdi : d = .int (i0 + 1 + (i : Nat)) := by
        have := (List.getElem?_eq_some_iff.mp hd).2
        simpa [upTo] using this.symm
      subst hdi
      have hm2 : 2 ≤ m := by
        rcases (by omega : m = 1 ∨ 2 ≤ m) with z | z
        · have := H.hq1 z
          omega
        · exact z
      have hS2q : S2 - i0 = q := by
        rw [hS2, if_neg (by omega)]
        omega
      have hf3 : (stepL X (i0 + 1 + (i : Int)) q).filter (fun x => decide (x < a + (i0 + (m - 1) * q) * s)) = mem (mid3 a s i0 q m i) := by
        rw [hXm]
        exact H.cut_mid hm2 (by omega)
      have hsl : (stepL X (i0 + 1 + (i : Int)) q).length ≤ lim := Nat.le_trans (stepL_le (by omega)) hXl
      have hsm : stepL (X.map D.int) (i0 + 1 + (i : Int)) q = (stepL X (i0 + 1 + (i : Int)) q).map D.int := by
        unfold stepL
        rw [List.length_map, List.map_filterMap]
        congr
        funext j
        rw [List.getElem?_map]
      rw [v_gN, okO_some]
      simp -implicitDefEqProofs [hS2q, hsm]
      refine ⟨by omega, hsl, ?_⟩
      rw [lc (tE (eBin fLt (eVar 7) (eBin fIx (eVar 2) (eUn fNeg (eC (.int 1)))))) (fun x => decide (x < a + (i0 + (m - 1) * q) * s)) (stepL X (i0 + 1 + (i : Int)) q) _ rfl fun y hy => okE_eq (by
        simp -implicitDefEqProofs [hBe]), hf3]
      simp -implicitDefEqProofs
      refine ⟨by omega, ?_⟩
      rw [List.range_succ, List.map_append]
      rfl
    · rintro s1 w5 ⟨rfl, t6, rfl⟩
      refine hM' _ _ ⟨rfl, t6, ?_⟩
      simp [upTo]
  rintro _ w5 ⟨rfl, t6, rfl⟩
  refine okS_to (fun s1 w6 => w6 = w5 ∧ s1 = [some (lD X), some (lD (mem u)), some (lD B), some (.own (((pcL a s c i0 q m).map mem).map lD)), some (.int i0), some (.int S2), t6, none, none]) ?_ ?_
  · intro M' hM'
    have hm' := hM' _ _ ⟨rfl, rfl⟩
    simp -implicitDefEqProofs
    refine ⟨hXl, ?_⟩
    rw [lc (tE (eBin fGt (eVar 7) (eBin fIx (eVar 2) (eUn fNeg (eC (.int 1)))))) (fun x => decide (a + (i0 + (m - 1) * q) * s < x)) X _ rfl fun y hy => okE_eq (by
      simp -implicitDefEqProofs [hBe]), hf2]
    simp -implicitDefEqProofs
    refine ⟨by omega, ?_⟩
    have e1 : ((pcL a s c i0 q m).map mem).map lD = lD (mem (mk3 a s i0)) :: ((List.range (q.toNat - 1)).map (fun k => lD (mem (mid3 a s i0 q m k))) ++ [D.lst ((mem (end3 a s c i0 q m)).map .int)]) := by
      unfold pcL
      rw [show (q - 1).toNat = q.toNat - 1 by omega]
      simp
    rw [e1] at hm'
    exact hm'
  rintro _ w6 ⟨rfl, rfl⟩
  obtain ⟨FL, hFL⟩ : ∃ FL, FL = (pcL a s c i0 q m).map mem := ⟨_, rfl⟩
  have hFn : FL.length ≤ 2000 := by
    rw [hFL]
    unfold pcL
    simp
    omega
  rw [← hFL]
  have lc8 := lc_map (T := tE (eBin fNe (eVar 8) (eL (aLst aNil)))) (A := eVar 8) (G := gN 8) lD lD (fun l => !(decide (l = []))) (s := [some (lD X), some (lD (mem u)), some (lD B), some (.lst (FL.map lD)), some (.int i0), some (.int S2), t6, none, none]) (w := w6) (xs := FL) fun l hl => by
    rw [v_gN, okO_some]
    have hn := eqD_lD (l := l)
    refine ⟨okE_eq ?_, fun _ => okE_eq ?_⟩
    · simp -implicitDefEqProofs [o0, hl0, hn]
    · simp -implicitDefEqProofs
  rw [okS_frz]
  show okS (sRet _ [some (lD X), some (lD (mem u)), some (lD B), some (.lst (FL.map lD)), some (.int i0), some (.int S2), t6, none, none] w6) _ _
  simp -implicitDefEqProofs
  refine ⟨by omega, ?_⟩
  rw [lc8]
  exact ⟨rfl, rfl⟩
end
end DL

set_option maxHeartbeats 2000000
namespace DL
open PySem PySem.Spec PyProof.Rows L2
/-! ### near pieces -/
section
variable {t u v p r : Tr} {x : Int} {w : Wl} {b : Nat}
/-- the pieces of what t has beyond u -/
def PC (t u : Tr) : List Tr := pcN (told (nrm t) (shown (bothL t u)))
theorem pc_eq (h : t.2.2 ≠ 0) (hv : v.2.2 ≠ 0) (e : ∀ x, In v x ↔ In t x ∧ In u x) : pcN (told (nrm t) (nrm v)) = PC t u := by
  unfold PC
  rw [both_eq h hv e, shown_nrm hv]
/-- a normal triplet of near numbers -/
structure Nr (p : Tr) : Prop where
  s : p.2.2 ≠ 0
  n : nrm p = p
  e : ∀ x, In p x → -100 ≤ x ∧ x ≤ 100
theorem Nr.bd (h : Nr p) : 0 < p.2.2 ∧ p.2.2 ≤ 200 ∧ cnt p ≤ 201 ∧ Tri p := by
  have hn := cnt_nonneg (t := p)
  have hs := nrm_s h.s
  rw [h.n] at hs
  by_cases h0 : cnt p = 0
  · have : nrm p = (0, -1, 1) := by unfold nrm; rw [if_pos h0]
    rw [h.n] at this
    rw [this]
    exact ⟨by decide, by decide, by decide, tri_empty⟩
  · obtain ⟨a, s, hs0, e, h1⟩ := nrm_form h.s (by omega)
    rw [h.n] at e
    have key : ∀ j, 0 ≤ j → j < cnt p → -100 ≤ a + j * s ∧ a + j * s ≤ 100 := fun j j0 j1 => h.e _ (by
      have := (in3 (b := a) (r := s) (k := cnt p) (x := a + j * s) (by omega) hn).mpr ⟨j, j0, j1, rfl⟩
      rw [← e] at this
      exact this)
    have k0 := key 0 (by omega) (by omega)
    have kl := key (cnt p - 1) (by omega) (by omega)
    have hm : cnt p - 1 ≤ (cnt p - 1) * s := by
      have := Int.mul_le_mul_of_nonneg_left (show 1 ≤ s by omega) (show 0 ≤ cnt p - 1 by omega)
      rw [Int.mul_one] at this
      exact this
    have hs2 : s ≤ 200 := by
      by_cases h2 : cnt p = 1
      · rw [h1 h2]
        decide
      · have := key 1 (by omega) (by omega)
        omega
    rw [Int.zero_mul, Int.add_zero] at k0
    have hp1 : p.1 = a := by rw [e]; rfl
    have hp2 : p.2.1 = a + (cnt p - 1) * s := by
      have := congrArg (fun z : Tr => z.2.1) e
      exact this
    have hp3 : p.2.2 = s := by rw [e]; rfl
    refine ⟨hs, by omega, by omega, inF_iff.mpr ?_, inF_iff.mpr ?_, inF_iff.mpr ?_, h.s⟩ <;> simp only [FARn] <;> omega
theorem len_sum : ∀ {L : List Tr}, (∀ p ∈ L, 0 < cnt p) → (L.length : Int) ≤ (L.map cnt).sum
  | [], _ => by simp
  | p :: L, h => by
    have h1 := h p List.mem_cons_self
    have ih := len_sum fun r hr => h r (List.mem_cons_of_mem _ hr)
    rw [List.map_cons, List.sum_cons, List.length_cons]
    omega
/-- one piece, what another triplet leaves of it: as the program tells it, as the law cuts it -/
theorem near_step (h : Nr p) (h2 : Tri u) : (∀ w, F_pieces_of [tD p, tD u] w = .ok (.nl ((PC p u).map tD)) w) ∧ (∀ w, F_w_cut [lD (mem p), lD (mem u)] w = .ok (.lst ((PC p u).map fun r => lD (mem r))) w) ∧ (∀ r ∈ PC p u, Nr r ∧ 0 < cnt r) ∧ ((PC p u).map cnt).sum ≤ cnt p := by
  obtain ⟨b1, b2, b3, b4⟩ := h.bd
  obtain ⟨v, hv, hi, e1⟩ := e_pieces_of b4.WD h2.WD
  have hP := pcs h.s hv hi
  have hvn := cnt_nonneg (t := v)
  have hfew : Few p v := by
    refine .inr ?_
    have hnv : Nr (nrm v) := ⟨by have := nrm_s hv; omega, nrm_nrm hv, fun x hx => h.e x ((hi x).mp ((in_nrm hv).mp hx)).1⟩
    obtain ⟨c1, c2, _, _⟩ := hnv.bd
    rw [h.n]
    rw [Int.fdiv_eq_ediv_of_nonneg _ (by omega)]
    have := Int.ediv_le_self (p.2.2) (show 0 ≤ (nrm v).2.2 by omega)
    omega
  have e1 := e1 hfew
  have e2 := fun w => e_cut (w := w) h.s hv hi (by omega) hfew
  rw [pc_eq h.s hv hi] at e1 hP
  rw [h.n] at e2
  have hpe : pcN (told p (nrm v)) = PC p u := by
    have := pc_eq h.s hv hi
    rw [h.n] at this
    exact this
  rw [hpe] at e2
  refine ⟨e1, e2, fun r hr => ?_, by have := hP.sm; omega⟩
  obtain ⟨n1, n2, n3⟩ := hP.nm r hr
  exact ⟨⟨by omega, n1, fun x hx => h.e x (hP.sub r hr x hx).1⟩, n2⟩
/-- all pieces, what another triplet leaves of them -/
def stp2 (P : List Tr) (u : Tr) : List Tr := P.flatMap fun p => PC p u
/-- good pieces: near, of so few elements -/
structure Gd (P : List Tr) : Prop where
  nr : ∀ p ∈ P, Nr p
  sm : (P.map cnt).sum ≤ 41
  ln : P.length ≤ 41
theorem flat_sum (f : Tr → List Tr) : ∀ {P : List Tr}, (∀ p ∈ P, ((f p).map cnt).sum ≤ cnt p) → ((P.flatMap f).map cnt).sum ≤ (P.map cnt).sum
  | [], _ => Int.le_refl _
  | p :: P, h => by
    have h1 := h p List.mem_cons_self
    have ih := flat_sum f fun r hr => h r (List.mem_cons_of_mem _ hr)
    rw [List.flatMap_cons, List.map_append, List.sum_append, List.map_cons, List.sum_cons]
    omega
theorem Gd.stp (h : Gd P) (h2 : Tri u) : Gd (stp2 P u) ∧ ∀ r ∈ stp2 P u, 0 < cnt r := by
  have hs := flat_sum (fun p => PC p u) (P := P) fun p hp => (near_step (h.nr p hp) h2).2.2.2
  have hp : ∀ r ∈ stp2 P u, Nr r ∧ 0 < cnt r := fun r hr => by
    obtain ⟨p, hp, hr⟩ := List.mem_flatMap.mp hr
    exact (near_step (h.nr p hp) h2).2.2.1 r hr
  have hsm := h.sm
  have hs' : ((stp2 P u).map cnt).sum ≤ 41 := by unfold stp2; omega
  have hl := len_sum fun r hr => (hp r hr).2
  exact ⟨⟨fun r hr => (hp r hr).1, hs', by omega⟩, fun r hr => (hp r hr).2⟩
/-- what a triplet has beyond others, one after the other -/
def bey (t : Tr) (us : List Tr) : List Tr := us.foldl stp2 [nrm t]
theorem bey_snoc {us : List Tr} : bey t (us ++ [u]) = stp2 (bey t us) u := by unfold bey; rw [List.foldl_append]; rfl
/-- a row: near, of few elements -/
structure Row (t : Tr) : Prop where
  nt : NearT t
  few : cnt t ≤ 41
theorem Row.nr (h : Row t) : Nr (nrm t) := by
  have ht := h.nt
  have hs := nrm_s ht.s
  refine ⟨by omega, nrm_nrm ht.s, fun x hx => ?_⟩
  obtain ⟨i, h0, h1, rfl⟩ := (in_nrm ht.s).mp hx
  have := at1_in ht.s h0 h1
  have := ht.a
  have := ht.b
  omega
theorem bey_gd (h : Row t) {us : List Tr} (hu : ∀ u ∈ us, Row u) : Gd (bey t us) := by
  have key : ∀ (us : List Tr) (P : List Tr), Gd P → (∀ u ∈ us, Row u) → Gd (us.foldl stp2 P) := by
    intro us
    induction us with
    | nil => exact fun P h _ => h
    | cons u us ih => exact fun P h hu => ih _ (h.stp (hu u List.mem_cons_self).nt.tri).1 fun r hr => hu r (List.mem_cons_of_mem _ hr)
  refine key us _ ⟨fun p hp => by rw [List.mem_singleton.mp hp]; exact h.nr, ?_, by simp⟩ hu
  have := cnt_nrm h.nt.s
  have := h.few
  simp
  omega
def beyF (t : Tr) (us : List Tr) : List Tr := (bey t us).filter fun p => decide (0 < cnt p)
theorem beyF_len (h : Row t) {us : List Tr} (hu : ∀ u ∈ us, Row u) : (beyF t us).length ≤ 41 ∧ (us = [] → (beyF t us).length ≤ 1) := by
  refine ⟨Nat.le_trans (List.length_filter_le _ _) (bey_gd h hu).ln, fun z => ?_⟩
  rw [z]
  exact Nat.le_trans (List.length_filter_le _ _) (by simp [bey])
end
end DL

set_option maxHeartbeats 2000000
namespace DL
open PySem PySem.Spec PyProof.Rows L2
/-! ### pieces_beyond, apart -/
section
variable {t u v p r : Tr} {x : Int} {w : Wl} {b : Nat} {us : List Tr} {d : D}
theorem pc_few (h : Nr p) (h2 : Tri u) : (PC p u).length ≤ 201 := by
  have hs := near_step h h2
  have := len_sum fun r hr => (hs.2.2.1 r hr).2
  have := hs.2.2.2
  have := h.bd
  omega
theorem stp2_take {P : List Tr} {j : Nat} {p : Tr} (hj : P[j]? = some p) : stp2 (P.take (j + 1)) u = stp2 (P.take j) u ++ PC p u := by
  unfold stp2
  rw [List.take_add_one, hj, List.flatMap_append]
  simp
theorem stp2_le {P : List Tr} {j : Nat} : (stp2 (P.take j) u).length ≤ (stp2 P u).length := by
  conv => rhs; rw [← List.take_append_drop j P]
  unfold stp2
  rw [List.flatMap_append, List.length_append]
  omega
theorem e_beyond (h : Row t) (hu : ∀ u ∈ us, Row u) {k : Bool} (hd : seqD d = some (k, us.map tD)) (gd : ∀ s, getS (some d :: s) 0 = some d) {room : Int} (hr : 41 ≤ room) : F_pieces_beyond [tD t, d, .int room] w = .ok (.lst ((beyF t us).map tD)) w := by
  apply okE_eq
  have hlim : lim = 16000000 := rfl
  have hl0 : (0 : Nat) ≤ lim := by decide
  have hl1 : (1 : Nat) ≤ lim := by decide
  have ht := h.nt.tri
  unfold F_pieces_beyond
  rw [okE_run]
  refine ⟨rfl, ?_⟩
  show okS (B_pieces_beyond [some (tD t), some d, some (.int room), none, none, none, none] w) _ _
  unfold B_pieces_beyond
  refine okS_to (fun s1 w1 => w1 = w ∧ s1 = [some (tD t), some d, some (.int room), some (.lst ((bey t []).map tD)), none, none, none]) ?_ ?_
  · intro M' hM'
    have hm' := hM' _ _ ⟨rfl, rfl⟩
    have en := e_normal_of (w := w) ht.wd
    simp -implicitDefEqProofs [en, hl1]
    exact hm'
  rintro _ w1 ⟨rfl, rfl⟩
  refine okS_to (fun s1 w2 => w2 = w1 ∧ ∃ t4 t5 t6, s1 = [some (tD t), some d, some (.int room), some (.lst ((bey t us).map tD)), t4, t5, t6]) ?_ ?_
  · intro M' hM'
    simp -implicitDefEqProofs only [okS_for, okI_seq, okE_var]
    simp -implicitDefEqProofs [gd, hd]
    refine okS_loop0 (fun i s1 w2 => w2 = w1 ∧ ∃ t4 t5 t6, s1 = [some (tD t), some d, some (.int room), some (.lst ((bey t (us.take i)).map tD)), t4, t5, t6]) ⟨rfl, none, none, none, by simp⟩ ?_ ?_
    · rintro i d2 s1 w2 hd2 ⟨rfl, t4, t5, t6, rfl⟩
      rw [List.getElem?_map] at hd2
      cases hui : us[i]? with
      | none => rw [hui] at hd2; cases hd2
      | some u =>
        rw [hui] at hd2
        cases hd2
        have hum : u ∈ us := List.mem_of_getElem? hui
        have hTu := (hu u hum).nt.tri
        have hG := bey_gd h (us := us.take i) fun r hr => hu r (List.mem_of_mem_take hr)
        have hnx : bey t (us.take (i + 1)) = stp2 (bey t (us.take i)) u := by
          rw [List.take_add_one, hui]
          exact bey_snoc
        rw [hnx]
        generalize bey t (us.take i) = P at *
        simp only [v_gN, okO_some, List.set]
        refine okS_to (fun s1 w3 => w3 = w2 ∧ s1 = [some (tD t), some d, some (.int room), some (.lst (P.map tD)), some (tD u), some (.lst []), t6]) ?_ ?_
        · intro M' hM'
          have hm' := hM' _ _ ⟨rfl, rfl⟩
          simp -implicitDefEqProofs [hl0]
          exact hm'
        rintro _ w3 ⟨rfl, rfl⟩
        refine okS_to (fun s1 w4 => w4 = w3 ∧ ∃ t6, s1 = [some (tD t), some d, some (.int room), some (.lst (P.map tD)), some (tD u), some (.lst ((stp2 P u).map tD)), t6]) ?_ ?_
        · intro M' hM'
          simp -implicitDefEqProofs only [okS_for, okI_seq, okE_var]
          simp -implicitDefEqProofs
          refine okS_loop0 (fun j s1 w4 => w4 = w3 ∧ ∃ t6, s1 = [some (tD t), some d, some (.int room), some (.lst (P.map tD)), some (tD u), some (.lst ((stp2 (P.take j) u).map tD)), t6]) ⟨rfl, t6, by simp [stp2]⟩ ?_ ?_
          · rintro j d3 s1 w4 hd3 ⟨rfl, t6, rfl⟩
            rw [List.getElem?_map] at hd3
            cases hpj : P[j]? with
            | none => rw [hpj] at hd3; cases hd3
            | some p =>
              rw [hpj] at hd3
              cases hd3
              have hpm : p ∈ P := List.mem_of_getElem? hpj
              have hst := near_step (hG.nr p hpm) hTu
              have hGs := (hG.stp hTu).1.ln
              have hle := stp2_le (P := P) (u := u) (j := j + 1)
              rw [stp2_take hpj] at hle ⊢
              have hlen : (stp2 (P.take j) u).length + (PC p u).length ≤ 41 := by
                rw [List.length_append] at hle
                omega
              have e1 : ∀ w, (eCall 2 F_pieces_of (aCons (eVar 6) (aCons (eVar 4) aNil))) [some (tD t), some d, some (.int room), some (.lst (P.map tD)), some (tD u), some (.lst ((stp2 (P.take j) u).map tD)), some (tD p)] w = .ok (.nl ((PC p u).map tD)) w := fun w => by
                apply okE_eq
                simp -implicitDefEqProofs [hst.1]
              have e2 := fun w => wk_ok (e1 w)
              rw [v_gN, okO_some]
              have hng : ¬ room < ((stp2 (P.take j) u).length : Int) + (PC p u).length := by omega
              simp -implicitDefEqProofs [e2, hng]
              omega
          · rintro s1 w4 ⟨rfl, t6, rfl⟩
            refine hM' _ _ ⟨rfl, t6, ?_⟩
            rw [List.length_map, List.take_length]
        rintro _ w4 ⟨rfl, t6, rfl⟩
        simp -implicitDefEqProofs
    · rintro s1 w2 ⟨rfl, t4, t5, t6, rfl⟩
      refine hM' _ _ ⟨rfl, t4, t5, t6, ?_⟩
      rw [List.length_map, List.take_length]
  rintro _ w2 ⟨rfl, t4, t5, t6, rfl⟩
  have hG := bey_gd h hu
  have hln := hG.ln
  have lc := lc_map (T := tE (eBin fGt (eCall 1 F_many_of (aCons (eVar 6) aNil)) (eC (.int 0)))) (A := eVar 6) (G := gN 6) tD tD (fun p => decide (0 < cnt p)) (s := [some (tD t), some d, some (.int room), some (.lst ((bey t us).map tD)), t4, t5, none]) (w := w2) (xs := bey t us) fun p hp => by
    have hT := (hG.nr p hp).bd.2.2.2
    have em := e_many (w := w2) (t := p) hT.s ((bt100 hT.c).mono (by omega))
    rw [v_gN, okO_some]
    refine ⟨okE_eq ?_, fun _ => okE_eq ?_⟩
    · simp -implicitDefEqProofs [em]
    · simp -implicitDefEqProofs
  simp -implicitDefEqProofs
  refine ⟨by omega, ?_⟩
  rw [lc]
  exact ⟨rfl, rfl⟩
end
end DL

set_option maxHeartbeats 2000000
namespace DL
open PySem PySem.Spec PyProof.Rows L2
/-! ### apart -/
section
variable {t u v p r : Tr} {x : Int} {w : Wl} {b : Nat} {us : List Tr} {d : D}
theorem e_check_triplets (hd : d = .lst (us.map tD) ∨ d = .tup (us.map tD)) (h8 : us.length ≤ 8) (hT : ∀ u ∈ us, Tri u) : F_check_triplets [d] w = .ok .non w := by
  apply okE_eq
  have hlim : lim = 16000000 := rfl
  have i1 : fIsi w [.lst (us.map tD), .tup [.ty "list", .ty "tuple"]] = some (.bl true) := rfl
  have i2 : fIsi w [.tup (us.map tD), .tup [.ty "list", .ty "tuple"]] = some (.bl true) := rfl
  have hl2 : (2 : Nat) ≤ lim := by decide
  have hn : ¬ (8 : Int) < (us.length : Int) := by omega
  have ha : fAll w [.lst (us.map fun _ => D.bl true)] = some (.bl (us.all fun _ => true)) := v_all (w := w) (f := fun _ : Tr => true) (l := us)
  rcases hd with rfl | rfl
  · simp -implicitDefEqProofs [F_check_triplets, B_check_triplets, okE_run, List.replicate, i1, hl2, hn]
    refine ⟨by omega, okE_lcall tD (fun _ => .bl true) (fun p hp => ?_) ?_⟩
    · simp -implicitDefEqProofs [e_is_triplet (hT p hp)]
    · rw [ha]
      simp -implicitDefEqProofs
  · simp -implicitDefEqProofs [F_check_triplets, B_check_triplets, okE_run, List.replicate, i2, hl2, hn]
    refine ⟨by omega, okE_lcall tD (fun _ => .bl true) (fun p hp => ?_) ?_⟩
    · simp -implicitDefEqProofs [e_is_triplet (hT p hp)]
    · rw [ha]
      simp -implicitDefEqProofs
/-- what each of several has beyond those ahead of it, of so many -/
def aptN (us : List Tr) (i : Nat) : List Tr := (List.range i).flatMap fun j => match us[j]? with
  | some t => beyF t (us.take j)
  | none => []
theorem aptN_succ {i : Nat} (h : us[i]? = some t) : aptN us (i + 1) = aptN us i ++ beyF t (us.take i) := by
  unfold aptN
  rw [List.range_succ, List.flatMap_append]
  simp [h]
theorem aptN_len (hu : ∀ u ∈ us, Row u) : ∀ i, i ≤ us.length → (i = 0 → (aptN us i).length = 0) ∧ (1 ≤ i → (aptN us i).length + 40 ≤ 41 * i)
  | 0, _ => ⟨fun _ => rfl, fun h => by omega⟩
  | i + 1, hi => by
    have ih := aptN_len hu i (by omega)
    have e : us[i]? = some us[i] := List.getElem?_eq_getElem hi
    have hl := beyF_len (hu us[i] (List.getElem_mem _)) (us := us.take i) fun r hr => hu r (List.mem_of_mem_take hr)
    rw [aptN_succ e, List.length_append]
    refine ⟨fun z => by omega, fun _ => ?_⟩
    by_cases h0 : i = 0
    · have := ih.1 h0
      have := hl.2 (by rw [h0]; rfl)
      omega
    · have := ih.2 (by omega)
      omega
theorem e_apart (hd : d = .lst (us.map tD) ∨ d = .tup (us.map tD)) (h8 : us.length ≤ 8) (hu : ∀ u ∈ us, Row u) : ∀ w, F_apart [d] w = .ok (.nl ((aptN us us.length).map tD)) w := fun w => by
  apply okE_eq
  have hlim : lim = 16000000 := rfl
  have hl0 : (0 : Nat) ≤ lim := by decide
  have hck := e_check_triplets (w := w) hd h8 fun u hm => (hu u hm).nt.tri
  have gd : ∀ s, getS (some d :: s) 0 = some d := fun s => by rcases hd with rfl | rfl <;> rfl
  obtain ⟨k, hk⟩ : ∃ k, seqD d = some (k, us.map tD) := by rcases hd with rfl | rfl <;> exact ⟨_, rfl⟩
  have gn : ∀ (L : List D) (s : Sl), getS (some (.nl L) :: s) 0 = some (.nl L) := fun _ _ => rfl
  unfold F_apart
  rw [okE_run]
  refine ⟨rfl, ?_⟩
  show okS (B_apart [some d, none, none, none] w) _ _
  unfold B_apart
  refine okS_to (fun s1 w1 => w1 = w ∧ s1 = [some d, none, none, none]) ?_ ?_
  · intro M' hM'
    have hm' := hM' _ _ ⟨rfl, rfl⟩
    simp -implicitDefEqProofs [gd, hck]
    exact hm'
  rintro _ w1 ⟨rfl, rfl⟩
  refine okS_to (fun s1 w2 => w2 = w1 ∧ s1 = [some d, some (.nl []), none, none]) ?_ ?_
  · intro M' hM'
    have hm' := hM' _ _ ⟨rfl, rfl⟩
    simp -implicitDefEqProofs [hl0]
    exact hm'
  rintro _ w2 ⟨rfl, rfl⟩
  refine okS_to (fun s1 w3 => w3 = w2 ∧ ∃ t2 t3, s1 = [some d, some (.nl ((aptN us us.length).map tD)), t2, t3]) ?_ ?_
  · intro M' hM'
    have hes : enmSD [d] = some ((us.map tD).zipIdx.map fun t => D.tup [.int (t.2 : Nat), t.1]) := by
      show (seqD d).map _ = _
      rw [hk]
      rfl
    simp -implicitDefEqProofs only [okS_for, okI_enumS, okE_cons, okE_nil, okE_var]
    simp -implicitDefEqProofs [gd, hes]
    refine okS_loop0 (fun i s1 w3 => w3 = w2 ∧ ∃ t2 t3, s1 = [some d, some (.nl ((aptN us i).map tD)), t2, t3]) ⟨rfl, none, none, rfl⟩ ?_ ?_
    · rintro i d2 s1 w3 hd2 ⟨rfl, t2, t3, rfl⟩
      rw [List.getElem?_map, List.getElem?_zipIdx, List.getElem?_map] at hd2
      cases hui : us[i]? with
      | none => rw [hui] at hd2; cases hd2
      | some t =>
        rw [hui] at hd2
        have hd2 : D.tup [.int ((0 + i : Nat) : Int), tD t] = d2 := Option.some.inj hd2
        rw [Nat.zero_add] at hd2
        subst hd2
        have htm : t ∈ us := List.mem_of_getElem? hui
        have hil : i < us.length := (List.getElem?_eq_some_iff.mp hui).1
        have hlen := aptN_len hu i (by omega)
        have hroom : (41 : Int) ≤ 300 - ((aptN us i).length : Int) := by
          by_cases h0 : i = 0
          · have := hlen.1 h0
            omega
          · have := hlen.2 (by omega)
            omega
        have hbl := (beyF_len (hu t htm) (us := us.take i) fun r hr => hu r (List.mem_of_mem_take hr)).1
        rw [aptN_succ hui, List.map_append]
        simp only [v_gT, v_gCons, v_gN, v_gNil, okO_some, List.set]
        refine ⟨rfl, ?_⟩
        have e1 : ∀ w, eWk (eVar 1) [some d, some (.nl ((aptN us i).map tD)), some (.int (i : Int)), some (tD t)] w = .ok (.lst ((aptN us i).map tD)) w := fun w => wk_ok rfl
        have hcut : cutD (us.map tD) none (some (i : Int)) = (us.take i).map tD := by rw [cut_take, List.map_take]
        have hut : ∀ r ∈ us.take i, Row r := fun r hr => hu r (List.mem_of_mem_take hr)
        have hal : (aptN us i).length ≤ 400 := by omega
        rcases hd with rfl | rfl
        · have hb := e_beyond (w := w3) (t := t) (us := us.take i) (d := .lst ((us.take i).map tD)) (k := false) (hu t htm) hut rfl (fun _ => rfl) hroom
          simp only [← hcut] at hb
          simp -implicitDefEqProofs [e1, hb, gn, lst?]
          omega
        · have hb := e_beyond (w := w3) (t := t) (us := us.take i) (d := .tup ((us.take i).map tD)) (k := true) (hu t htm) hut rfl (fun _ => rfl) hroom
          simp only [← hcut] at hb
          simp -implicitDefEqProofs [e1, hb, gn, lst?]
          omega
    · rintro s1 w3 ⟨rfl, t2, t3, rfl⟩
      refine hM' _ _ ⟨rfl, t2, t3, ?_⟩
      simp
  rintro _ w3 ⟨rfl, t2, t3, rfl⟩
  simp -implicitDefEqProofs [gn]
end
end DL

set_option maxHeartbeats 2000000
namespace DL
open PySem PySem.Spec PyProof.Rows L2
/-! ### near triplets: what is drawn, what is told, what is cut -/
section
/-- a comprehension, one turn -/
theorem okE_lcC {G : DG} {T : DT} {A : DE} {d : D} {r : List D} {s : Sl} {w : Wl} {Q : List D → Wl → Prop} : okE (lcD G T A (d :: r) s w) Q = okO (G d s) fun s1 => okE (T s1 w).noer fun k w1 => if k = true then okE (A s1 w1).noer fun y w2 => okE (lcD G T A r s w2) fun ys w3 => Q (y :: ys) w3 else okE (lcD G T A r s w1) Q := by
  rw [lcD]
  cases G d s with
  | none => rfl
  | some s1 =>
    show okE ((T s1 w).noer.bind _) Q = okE (T s1 w).noer _
    rw [okE_bind]
    congr
    funext k w1
    cases k
    · rfl
    · show okE ((A s1 w1).noer.bind _) Q = okE (A s1 w1).noer _
      rw [okE_bind]
      congr
      funext y w2
      rw [okE_bind]
      rfl
theorem okE_lcN {G : DG} {T : DT} {A : DE} {s : Sl} {w : Wl} {Q : List D → Wl → Prop} : okE (lcD G T A [] s w) Q = Q [] w := rfl
end
section
variable {t u v p r : Tr} {x : Int} {w : Wl} {b : Nat} {us : List Tr} {d : D}
theorem near41 (hw : Lap b w) (hb : b < 1009000) {Q : D → Wl → Prop} (q : ∀ t w', (NearT t ∧ -60 ≤ t.1 ∧ t.1 ≤ 60 ∧ -60 ≤ t.2.1 ∧ t.2.1 ≤ 60 ∧ (0 < t.2.2 → t.2.1 - t.1 < 41) ∧ (t.2.2 < 0 → t.1 - t.2.1 < 41)) → Lap (b + 4) w' → Q (tD t) w') : okE (F_w_near [.well] w) Q := by
  have hl : (8 : Nat) ≤ lim := by decide
  have hl3 : (3 : Nat) ≤ lim := by decide
  simp [F_w_near, B_w_near, okE_run, List.replicate, hl]
  refine pick hw (by simp) (by simp) (by omega) fun x hx w1 l1 => ?_
  obtain ⟨e, rfl, he⟩ : ∃ e : Int, x = .int e ∧ 0 ≤ e ∧ e ≤ 8 := by
    simp at hx
    rcases hx with h | h | h | h | h | h | h <;> exact ⟨_, h, by omega, by omega⟩
  simp
  refine draw l1 (by omega) (by decide) (by omega) fun f w2 f0 f1 l2 => ?_
  simp
  refine draw l2 (by omega) (by decide) (by omega) fun g w3 g0 g1 l3 => ?_
  simp
  refine draw l3 (by omega) (by decide) (by omega) fun c w4 c0 c1 l4 => ?_
  simp [hl3]
  split
  · exact q (f - 20, f - 20 + g - 20, 1 + e) w4 ⟨⟨⟨by show _ ≤ f - 20; omega, by show f - 20 ≤ _; omega⟩, ⟨by show _ ≤ f - 20 + g - 20; omega, by show f - 20 + g - 20 ≤ _; omega⟩, ⟨by show _ ≤ 1 + e; omega, by show 1 + e ≤ _; omega⟩, by show 1 + e ≠ 0; omega, fun _ => by show f - 20 + g - 20 - (f - 20) < _; omega, fun h => by have h : 1 + e < 0 := h; omega⟩, by show _ ≤ f - 20; omega, by show f - 20 ≤ _; omega, by show _ ≤ f - 20 + g - 20; omega, by show f - 20 + g - 20 ≤ _; omega, fun _ => by show f - 20 + g - 20 - (f - 20) < _; omega, fun h => by have h : 1 + e < 0 := h; omega⟩ l4
  · have e1 : -(1 + e) = 0 - (1 + e) := by omega
    rw [e1]
    exact q (f - 20 + g - 20, f - 20, 0 - (1 + e)) w4 ⟨⟨⟨by show _ ≤ f - 20 + g - 20; omega, by show f - 20 + g - 20 ≤ _; omega⟩, ⟨by show _ ≤ f - 20; omega, by show f - 20 ≤ _; omega⟩, ⟨by show _ ≤ 0 - (1 + e); omega, by show 0 - (1 + e) ≤ _; omega⟩, by show 0 - (1 + e) ≠ 0; omega, fun h => by have h : 0 < 0 - (1 + e) := h; omega, fun _ => by show f - 20 + g - 20 - (f - 20) < _; omega⟩, by show _ ≤ f - 20 + g - 20; omega, by show f - 20 + g - 20 ≤ _; omega, by show _ ≤ f - 20; omega, by show f - 20 ≤ _; omega, fun h => by have h : 0 < 0 - (1 + e) := h; omega, fun _ => by show f - 20 + g - 20 - (f - 20) < _; omega⟩ l4
theorem near_row (hw : Lap b w) (hb : b < 1009000) {Q : D → Wl → Prop} (q : ∀ t w', Row t → Lap (b + 4) w' → Q (tD t) w') : okE (F_w_near [.well] w) Q := near41 hw hb fun t w' h l => q t w' ⟨h.1, cnt_le h.1.s (by omega) h.2.2.2.2.2.1 h.2.2.2.2.2.2⟩ l
theorem lc_rows {t1 t2 t3 t4 t5 t6 t7 t8 t9 t10 t11 t12 t13 t14 : Option D} : ∀ (L : List D) (c : Nat) (w : Wl), c + 4 * L.length ≤ 1005000 → Lap c w →
    okE (lcD (gN 13) tYesD (eCall 1 F_w_near (aCons (eVar 0) aNil)) L [some .well, t1, t2, t3, t4, t5, t6, t7, t8, t9, t10, t11, t12, t13, t14] w) fun zs w' => ∃ us : List Tr, zs = us.map tD ∧ us.length = L.length ∧ (∀ u ∈ us, Row u) ∧ Lap (c + 4 * L.length) w'
  | [], c, w, _, l => ⟨[], rfl, rfl, by simp, l⟩
  | d :: L, c, w, hc, l => by
    rw [okE_lcC]
    simp only [v_gN, okO_some, List.set]
    rw [List.length_cons] at hc
    simp -implicitDefEqProofs
    refine near_row l (by omega) fun t w1 ht l1 => ?_
    refine okE_mono (lc_rows L (c + 4) w1 (by omega) l1) ?_
    rintro zs w2 ⟨us, rfl, hl, hu, l2⟩
    exact ⟨t :: us, rfl, by simp [hl], fun r1 r2 r3 hr => by
      rcases List.mem_cons.mp hr with e | hr
      · rw [e]
        exact ht
      · exact hu _ hr, by rw [show c + 4 * (L.length + 1) = c + 4 + 4 * L.length by omega]; exact l2⟩
theorem pc_none (h : t.2.2 ≠ 0) (hu : u.2.2 ≠ 0) (h1 : WD t) (h2 : WD u) (e : ∀ x, In t x → In u x) : PC t u = [] := by
  obtain ⟨v, hv, hi, _⟩ := e_met_of h1 h2
  have hP := pcs h hv hi
  rw [pc_eq h hv hi] at hP
  have e1 : nrm v = nrm t := nrm_ext hv h fun x => by rw [hi]; exact ⟨fun z => z.1, fun z => ⟨z, e x z⟩⟩
  have e2 : cnt v = cnt t := by rw [← cnt_nrm hv, e1, cnt_nrm h]
  have hl := len_sum fun r hr => (hP.nm r hr).2.1
  have := hP.sm
  exact List.length_eq_zero_iff.mp (by omega)
/-- less of two rows -/
theorem less_near (h : Row t) (h2 : Row u) : (∀ w, F_less [tD t, tD u] w = .ok (.nl ((PC t u).map tD)) w) ∧ (∀ w, F_w_cut [lD (mem (nrm t)), lD (mem u)] w = .ok (.lst ((PC t u).map fun r => lD (mem r))) w) ∧ (∀ r ∈ PC t u, nrm r = r ∧ r.2.2 ≠ 0) ∧ (PC t u).length ≤ 41 := by
  have ht := h.nt.tri
  have hu := h2.nt.tri
  obtain ⟨v, hv, hi, e1⟩ := e_pieces_of ht.WD hu.WD
  have hP := pcs ht.s hv hi
  have hvn := cnt_nonneg (t := v)
  have hns := nrm_s ht.s
  have hfew : Few t v := by
    refine .inr ?_
    have hnv : Nr (nrm v) := ⟨by have := nrm_s hv; omega, nrm_nrm hv, fun x hx => h.nr.e x ((in_nrm ht.s).mpr ((hi x).mp ((in_nrm hv).mp hx)).1)⟩
    obtain ⟨c1, c2, _, _⟩ := hnv.bd
    rw [Int.fdiv_eq_ediv_of_nonneg _ (by omega)]
    have := Int.ediv_le_self ((nrm t).2.2) (show 0 ≤ (nrm v).2.2 by omega)
    omega
  have e1 := e1 hfew
  have e2 := fun w => e_cut (w := w) ht.s hv hi (by have := h.few; omega) hfew
  rw [pc_eq ht.s hv hi] at e1 hP
  have e3 : ∀ w, F_w_cut [lD (mem (nrm t)), lD (mem u)] w = .ok (.lst ((PC t u).map fun r => lD (mem r))) w := fun w => by
    have := e2 w
    rw [pc_eq ht.s hv hi] at this
    exact this
  have hl := len_sum fun r hr => (hP.nm r hr).2.1
  have := hP.sm
  have := h.few
  exact ⟨e_less ht hu e1, e3, fun r hr => ⟨(hP.nm r hr).1, by have := (hP.nm r hr).2.2; omega⟩, by omega⟩
theorem shown_self (h : p.2.2 ≠ 0) (hn : nrm p = p) : shown (mem p) = p := by
  have := shown_nrm h
  rw [hn] at this
  exact this
/-- a list and None behind -/
theorem lay_trsN : ∀ L : List Tr, PyData.canLayAll0 (toPDs (L.map tD ++ [.non])) = true ∧ PyData.depthAll (toPDs (L.map tD ++ [.non])) ≤ 1
  | [] => by simp [toPDs, toPD, PyData.canLayAll0, PyData.depthAll, PyData.canLay0, PyData.depth]
  | r :: rs => by
    have h1 := lay_trsN rs
    have h2 := lay_ints [r.1, r.2.1, r.2.2]
    simp only [List.map_cons, List.map_nil] at h2
    simp [toPDs, tD, toPD, PyData.canLayAll0, PyData.depthAll, PyData.canLay0, PyData.depth, h2]
    exact ⟨h1.1, by have := h1.2; omega⟩
theorem okD_ltN {L : List Tr} : okD (.lst (L.map tD ++ [.non])) = true := by
  have h := lay_trsN L
  simp [okD, toPD, SeqAt.shaped, PyData.canLay0, PyData.depth, h.1]
  omega
theorem eqD_ltN : ∀ {L : List Tr}, eqD (.lst (L.map tD ++ [.non])) (.lst (L.map tD ++ [.non])) = true
  | [] => by
    show eqD (.lst [.non]) (.lst [.non]) = true
    rw [eqD_lcons, eqD_non, eqD_lnil]
    rfl
  | r :: L => by
    rw [List.map_cons, List.cons_append, eqD_lcons, eqD_tD, eqD_ltN]
    simp
theorem free_trs : ∀ L : List Tr, nlFrees (L.map tD) = true
  | [] => rfl
  | r :: L => by
    rw [List.map_cons]
    unfold nlFrees
    rw [free_trs L]
    rfl
theorem free_ints : ∀ L : List Int, nlFrees (L.map D.int) = true
  | [] => rfl
  | r :: L => by
    rw [List.map_cons]
    unfold nlFrees
    rw [free_ints L]
    rfl
theorem free_lists : ∀ L : List Tr, nlFrees (L.map fun p => lD (mem p)) = true
  | [] => rfl
  | r :: L => by
    rw [List.map_cons]
    unfold nlFrees
    rw [free_lists L]
    show nlFrees ((mem r).map D.int) && true = true
    rw [free_ints]
    rfl
theorem plain_trs : ∀ L : List Tr, (L.map tD).all plainT = true
  | [] => rfl
  | r :: L => by
    rw [List.map_cons, List.all_cons, plain_trs L]
    rfl
end
end DL

set_option maxHeartbeats 4000000
namespace DL
open PySem PySem.Spec PyProof.Rows L2
/-! ### the law of near triplets -/
section
variable {t u v p r z : Tr} {x : Int} {w : Wl} {b : Nat} {us : List Tr} {d : D}
def lessC : DS := (sIf (tE (eBin fNe (eWk (eCall 2 F_less (aCons (eVar 2) (aCons (eVar 3) aNil)))) (eL (aLc (iSeq (eCall 2 F_w_cut (aCons (eVar 4) (aCons (eVar 5) aNil)))) (gN 14) tYesD (eCall 1 F_w_shown (aCons (eVar 14) aNil)) [14])))) (sRet (eC (.bl false))) sNx)
theorem less_chk (ht : Row t) (hz : Row z) {t1 t6 t7 t8 t9 t10 t11 t12 : Option D} : okS (lessC [some .well, t1, some (tD t), some (tD z), some (lD (mem (nrm t))), some (lD (mem z)), t6, t7, t8, t9, t10, t11, t12, none, none] w) (fun s1 w1 => w1 = w ∧ s1 = [some .well, t1, some (tD t), some (tD z), some (lD (mem (nrm t))), some (lD (mem z)), t6, t7, t8, t9, t10, t11, t12, none, none]) (fun _ _ => False) := by
  have hlim : lim = 16000000 := rfl
  obtain ⟨l1, l2, l3, l4⟩ := less_near ht hz
  have l2 := l2 w
  have e1 : ∀ w, (eCall 2 F_less (aCons (eVar 2) (aCons (eVar 3) aNil))) [some .well, t1, some (tD t), some (tD z), some (lD (mem (nrm t))), some (lD (mem z)), t6, t7, t8, t9, t10, t11, t12, none, none] w = .ok (.nl ((PC t z).map tD)) w := fun w => by
    apply okE_eq
    simp -implicitDefEqProofs [l1]
  have e2 := fun w => wk_ok (e1 w)
  unfold lessC
  generalize PC t z = P at *
  simp -implicitDefEqProofs [e2, l2]
  refine ⟨by omega, okE_lcall (fun r => lD (mem r)) (fun r => tD r) (fun r hr => ?_) ?_⟩
  · have hs := l3 r hr
    have := e_shown (w := w) (mem r)
    rw [shown_self hs.2 hs.1] at this
    simp -implicitDefEqProofs [this]
  · simp -implicitDefEqProofs [okD_ltD, eqD_ltD]
def aheadB : DS := (sAsg 9 (eCB fSumL (aCons (eL (aLc (iSeq (eVar 9)) (gN 14) tYesD (eCall 2 F_w_cut (aCons (eVar 14) (aCons (eCall 1 F_w_members (aCons (eVar 10) aNil)) aNil))) [14])) (aCons (eL (aLst aNil)) aNil))))
def foundB : DS := (sSeq (sAsg 9 (eL (aLst (aCons (eL (eCBL fSorted (aCons (eCall 1 F_w_members (aCons (eVar 8) aNil)) aNil))) aNil)))) (sSeq (sFor (iSeq (eSl (eVar 1) oNone (oSome (eVar 7)))) (gN 10) aheadB) (sAsg 6 (eBin fAdd (eVar 6) (eL (aLc (iSeq (eVar 9)) (gN 14) (tE (eBin fNe (eVar 14) (eL (aLst aNil)))) (eCall 1 F_w_shown (aCons (eVar 14) aNil)) [14]))))))
theorem lsts_map {P : List Tr} {f : Tr → List D} : lsts? (P.map fun p => D.lst (f p)) = some (P.map f) := by
  induction P with
  | nil => rfl
  | cons p P ih =>
    rw [List.map_cons, List.map_cons]
    show (lsts? _).map _ = _
    rw [ih]
    rfl
theorem flat_map2 {P : List Tr} : (P.map fun p => (PC p u).map fun r => lD (mem r)).flatten = (stp2 P u).map fun r => lD (mem r) := by
  unfold stp2
  rw [List.map_flatMap, List.flatMap_def]
/-- one turn of the loop over rows -/
theorem found_turn {i : Nat} (hu : ∀ u ∈ us, Row u) (h8 : us.length ≤ 8) (hr : us[i]? = some r) {t2 t3 t4 t5 t9 t10 : Option D} {L : List Tr} (hL : L.length ≤ 1000) (hfree : nlFreeO t10 = true) : okS (foundB [some .well, some (.lst (us.map tD)), t2, t3, t4, t5, some (.lst (L.map tD)), some (.int (i : Int)), some (tD r), t9, t10, none, none, none, none] w) (fun s1 w1 => w1 = w ∧ ∃ (P : List Tr) (t10 : Option D), nlFreeO t10 = true ∧ s1 = [some .well, some (.lst (us.map tD)), t2, t3, t4, t5, some (.lst ((L ++ beyF r (us.take i)).map tD)), some (.int (i : Int)), some (tD r), some (.lst (P.map fun p => lD (mem p))), t10, none, none, none, none]) (fun _ _ => False) := by
  have hlim : lim = 16000000 := rfl
  have hl0 : (0 : Nat) ≤ lim := by decide
  have hl1 : (1 : Nat) ≤ lim := by decide
  have hrr := hu r (List.mem_of_getElem? hr)
  have hut : ∀ q ∈ us.take i, Row q := fun q hq => hu q (List.mem_of_mem_take hq)
  have hmr := e_members (w := w) hrr.nt
  have hml : (mem r).length ≤ 101 := by
    rw [mem_len]
    have := hrr.few
    omega
  unfold foundB
  refine okS_to (fun s1 w1 => w1 = w ∧ s1 = [some .well, some (.lst (us.map tD)), t2, t3, t4, t5, some (.lst (L.map tD)), some (.int (i : Int)), some (tD r), some (.lst ((bey r []).map fun p => lD (mem p))), t10, none, none, none, none]) ?_ ?_
  · intro M' hM'
    have hm' := hM' _ _ ⟨rfl, rfl⟩
    simp -implicitDefEqProofs [hmr, sort_mem hrr.nt.s, hl1]
    exact hm'
  rintro _ w1 ⟨rfl, rfl⟩
  refine okS_to (fun s1 w2 => w2 = w1 ∧ ∃ t10, nlFreeO t10 = true ∧ s1 = [some .well, some (.lst (us.map tD)), t2, t3, t4, t5, some (.lst (L.map tD)), some (.int (i : Int)), some (tD r), some (.lst ((bey r (us.take i)).map fun p => lD (mem p))), t10, none, none, none, none]) ?_ ?_
  · intro M' hM'
    have hcut : cutD (us.map tD) none (some (i : Int)) = (us.take i).map tD := by rw [cut_take, List.map_take]
    simp -implicitDefEqProofs only [okS_for, okI_seq, okE_sl, okE_var, okE_oNone, okE_oSome]
    simp -implicitDefEqProofs [hcut]
    rw [← List.map_take]
    refine okS_loop0 (fun j s1 w2 => w2 = w1 ∧ ∃ t10, nlFreeO t10 = true ∧ s1 = [some .well, some (.lst (us.map tD)), t2, t3, t4, t5, some (.lst (L.map tD)), some (.int (i : Int)), some (tD r), some (.lst ((bey r ((us.take i).take j)).map fun p => lD (mem p))), t10, none, none, none, none]) ⟨rfl, t10, hfree, by simp⟩ ?_ ?_
    · rintro j d2 s1 w2 hd2 ⟨rfl, t10, hf, rfl⟩
      rw [List.getElem?_map] at hd2
      cases huj : (us.take i)[j]? with
      | none => rw [huj] at hd2; cases hd2
      | some u =>
        rw [huj] at hd2
        cases hd2
        have hum := hut u (List.mem_of_getElem? huj)
        have hG := bey_gd hrr (us := (us.take i).take j) fun q hq => hut q (List.mem_of_mem_take hq)
        have hnx : bey r ((us.take i).take (j + 1)) = stp2 (bey r ((us.take i).take j)) u := by
          rw [List.take_add_one, huj]
          exact bey_snoc
        rw [hnx]
        have hGs := (hG.stp hum.nt.tri).1.ln
        have hGl := hG.ln
        generalize bey r ((us.take i).take j) = P at *
        have hmu := e_members (w := w2) hum.nt
        simp only [v_gN, okO_some, List.set]
        unfold aheadB
        simp -implicitDefEqProofs
        refine ⟨by omega, okE_lcall (fun p => lD (mem p)) (fun p => D.lst ((PC p u).map fun r => lD (mem r))) (fun p hp => ?_) ?_⟩
        · have := (near_step (hG.nr p hp) hum.nt.tri).2.1 w2
          simp -implicitDefEqProofs [hmu, this]
        · have hsum : fSumL w2 [.lst (P.map fun p => D.lst ((PC p u).map fun r => lD (mem r))), .lst []] = some (.lst ((stp2 P u).map fun r => lD (mem r))) := by
            unfold fSumL
            simp only [lsts_map, flat_map2]
            rw [if_pos (by rw [List.length_map]; omega)]
          simp -implicitDefEqProofs [hl0, hsum]
          rfl
    · rintro s1 w2 ⟨rfl, t10, hf, rfl⟩
      refine hM' _ _ ⟨rfl, t10, hf, ?_⟩
      rw [List.length_map, List.take_length]
  rintro _ w2 ⟨rfl, t10, hf, rfl⟩
  have hG := bey_gd hrr hut
  have hGl := hG.ln
  have hbl := (beyF_len hrr hut).1
  have o0 : okD (.lst []) = true := rfl
  have lc := lc_map (T := tE (eBin fNe (eVar 14) (eL (aLst aNil)))) (A := eCall 1 F_w_shown (aCons (eVar 14) aNil)) (G := gN 14) (fun p => lD (mem p)) tD (fun p => decide (0 < cnt p)) (s := [some .well, some (.lst (us.map tD)), t2, t3, t4, t5, some (.lst (L.map tD)), some (.int (i : Int)), some (tD r), some (.lst ((bey r (us.take i)).map fun p => lD (mem p))), t10, none, none, none, none]) (w := w2) (xs := bey r (us.take i)) fun p hp => by
    have hn := hG.nr p hp
    have hsh := e_shown (w := w2) (mem p)
    rw [shown_self hn.s hn.n] at hsh
    have he := eqD_lD (l := mem p)
    have hm : (mem p = []) ↔ ¬ 0 < cnt p := mem_nil p
    rw [v_gN, okO_some]
    refine ⟨okE_eq ?_, fun _ => okE_eq ?_⟩
    · simp -implicitDefEqProofs [o0, hl0, he, hm]
      by_cases hc : 0 < cnt p
      · rw [decide_eq_true hc, decide_eq_false (by omega)]
        rfl
      · rw [decide_eq_false hc, decide_eq_true (by omega)]
        rfl
    · simp -implicitDefEqProofs [hsh]
  have hbf : (bey r (us.take i)).filter (fun p => decide (0 < cnt p)) = beyF r (us.take i) := rfl
  rw [hbf] at lc
  simp -implicitDefEqProofs
  refine ⟨by omega, ?_⟩
  rw [lc]
  simp -implicitDefEqProofs
  exact ⟨by omega, hf, _, rfl⟩
end
end DL

set_option maxHeartbeats 4000000
namespace DL
open PySem PySem.Spec PyProof.Rows L2
section
variable {t u v p r z : Tr} {x : Int} {w : Wl} {b : Nat} {us : List Tr} {d : D}
theorem near_law (hw : Lap b w) (hb : b < 1004000) : okE (F_w_near_right [.well] w) fun d w' => d = .bl true ∧ Lap (b + 40) w' := by
  have hlim : lim = 16000000 := rfl
  have hl0 : (0 : Nat) ≤ lim := by decide
  have hl1 : (1 : Nat) ≤ lim := by decide
  have hl2 : (2 : Nat) ≤ lim := by decide
  have o0 : okD (.lst []) = true := rfl
  unfold F_w_near_right
  rw [okE_run]
  refine ⟨rfl, ?_⟩
  show okS (B_w_near_right [some .well, none, none, none, none, none, none, none, none, none, none, none, none, none, none] w) _ _
  unfold B_w_near_right
  refine okS_to (fun s1 w1 => ∃ us : List Tr, (2 ≤ us.length ∧ us.length ≤ 8) ∧ (∀ u ∈ us, Row u) ∧ Lap (b + 40) w1 ∧ s1 = [some .well, some (.lst (us.map tD)), none, none, none, none, none, none, none, none, none, none, none, none, none]) ?_ ?_
  · intro M' hM'
    simp -implicitDefEqProofs
    refine draw hw (by decide) (by decide) (by omega) fun k w1 k0 k1 l1 => ?_
    simp -implicitDefEqProofs
    refine ⟨⟨by omega, by omega⟩, ?_⟩
    have hul : (upTo 0 (1 + k).toNat).length = (1 + k).toNat := by simp [upTo]
    refine ⟨by rw [hul]; omega, okE_mono (lc_rows _ (b + 1) w1 (by rw [hul]; omega) l1) ?_⟩
    rintro zs w2 ⟨us, rfl, hl, hu, l2⟩
    rw [hul] at hl l2
    simp -implicitDefEqProofs
    refine near_row l2 (by omega) fun z w3 hz l3 => ?_
    simp -implicitDefEqProofs [hl1]
    refine ⟨by omega, ?_⟩
    have := hM' [some .well, some (.lst ((us ++ [z]).map tD)), none, none, none, none, none, none, none, none, none, none, none, none, none] w3 ⟨us ++ [z], by simp; omega, fun r hr => by
      rcases List.mem_append.mp hr with h | h
      · exact hu r h
      · rw [List.mem_singleton.mp h]
        exact hz, lap_le l3 (by omega), rfl⟩
    rw [List.map_append] at this
    exact this
  rintro _ w1 ⟨us, hul, hu, l1, rfl⟩
  obtain ⟨t, r, hus⟩ : ∃ t r, us = t :: r := by
    cases us with
    | nil => simp at hul
    | cons t r => exact ⟨t, r, rfl⟩
  obtain ⟨z, hzl⟩ : ∃ z, us.getLast? = some z := ⟨_, List.getLast?_eq_some_getLast (by rw [hus]; simp)⟩
  have ht : Row t := hu t (by rw [hus]; exact List.mem_cons_self)
  have hz : Row z := hu z (List.mem_of_getLast? hzl)
  have a0 : atI (us.map tD) 0 = some (tD t) := by rw [hus]; exact atI_nat (j := 0) rfl
  have a1 : atI (us.map tD) (-1) = some (tD z) := by rw [atI_last, List.getLast?_map, hzl]; rfl
  have hap := e_apart (us := us) (d := .lst (us.map tD)) (.inl rfl) hul.2 hu
  have hap2 := e_apart (us := us) (d := .tup (us.map tD)) (.inr rfl) hul.2 hu
  have hAl := aptN_len hu us.length (Nat.le_refl _)
  refine okS_to (fun s1 w2 => w2 = w1 ∧ s1 = [some .well, some (.lst (us.map tD)), some (tD t), some (tD z), none, none, none, none, none, none, none, none, none, none, none]) ?_ ?_
  · intro M' hM'
    have hm' := hM' _ _ ⟨rfl, rfl⟩
    simp -implicitDefEqProofs [a0, a1]
    exact hm'
  rintro _ w2 ⟨rfl, rfl⟩
  refine okS_to (fun s1 w3 => w3 = w2 ∧ s1 = [some .well, some (.lst (us.map tD)), some (tD t), some (tD z), some (lD (mem (nrm t))), some (lD (mem z)), none, none, none, none, none, none, none, none, none]) ?_ ?_
  · intro M' hM'
    have hm' := hM' _ _ ⟨rfl, rfl⟩
    have m1 := e_members (w := w2) ht.nt
    have m2 := e_members (w := w2) hz.nt
    simp -implicitDefEqProofs [m1, m2, sort_mem ht.nt.s]
    exact hm'
  rintro _ w3 ⟨rfl, rfl⟩
  refine okS_to (fun s1 w4 => w4 = w3 ∧ s1 = [some .well, some (.lst (us.map tD)), some (tD t), some (tD z), some (lD (mem (nrm t))), some (lD (mem z)), none, none, none, none, none, none, none, none, none]) (fun M' hM' => okS_mono (less_chk ht hz) (fun _ _ q => hM' _ _ q) (fun _ _ q => q.elim)) ?_
  rintro _ w4 ⟨rfl, rfl⟩
  refine okS_to (fun s1 w5 => w5 = w4 ∧ s1 = [some .well, some (.lst (us.map tD)), some (tD t), some (tD z), some (lD (mem (nrm t))), some (lD (mem z)), some (.lst []), none, none, none, none, none, none, none, none]) ?_ ?_
  · intro M' hM'
    have hm' := hM' _ _ ⟨rfl, rfl⟩
    simp -implicitDefEqProofs [hl0]
    exact hm'
  rintro _ w5 ⟨rfl, rfl⟩
  refine okS_to (fun s1 w6 => w6 = w5 ∧ ∃ (t7 t8 t9 t10 : Option D), (nlFreeO t7 = true ∧ nlFreeO t8 = true ∧ nlFreeO t9 = true ∧ nlFreeO t10 = true) ∧ s1 = [some .well, some (.lst (us.map tD)), some (tD t), some (tD z), some (lD (mem (nrm t))), some (lD (mem z)), some (.lst ((aptN us us.length).map tD)), t7, t8, t9, t10, none, none, none, none]) ?_ ?_
  · intro M' hM'
    have hes : enmSD [.lst (us.map tD)] = some ((us.map tD).zipIdx.map fun t => D.tup [.int (t.2 : Nat), t.1]) := rfl
    show okS (sFor (iEnumS (aCons (eVar 1) aNil)) (gT (gCons' (gN 7) (gCons' (gN 8) gNil')) 2) foundB _ _) _ _
    simp -implicitDefEqProofs only [okS_for, okI_enumS, okE_cons, okE_nil, okE_var]
    simp -implicitDefEqProofs [hes]
    refine okS_loop0 (fun i s1 w6 => w6 = w5 ∧ ∃ (t7 t8 t9 t10 : Option D), (nlFreeO t7 = true ∧ nlFreeO t8 = true ∧ nlFreeO t9 = true ∧ nlFreeO t10 = true) ∧ s1 = [some .well, some (.lst (us.map tD)), some (tD t), some (tD z), some (lD (mem (nrm t))), some (lD (mem z)), some (.lst ((aptN us i).map tD)), t7, t8, t9, t10, none, none, none, none]) ⟨rfl, none, none, none, none, ⟨rfl, rfl, rfl, rfl⟩, rfl⟩ ?_ ?_
    · rintro i d2 s1 w6 hd2 ⟨rfl, t7, t8, t9, t10, ⟨f7, f8, f9, f10⟩, rfl⟩
      rw [List.getElem?_map, List.getElem?_zipIdx, List.getElem?_map] at hd2
      cases hui : us[i]? with
      | none => rw [hui] at hd2; cases hd2
      | some r =>
        rw [hui] at hd2
        have hd2 : D.tup [.int ((0 + i : Nat) : Int), tD r] = d2 := Option.some.inj hd2
        rw [Nat.zero_add] at hd2
        subst hd2
        have hil : i < us.length := (List.getElem?_eq_some_iff.mp hui).1
        have hln := aptN_len hu i (by omega)
        have hl1000 : (aptN us i).length ≤ 1000 := by
          by_cases h0 : i = 0
          · have := hln.1 h0
            omega
          · have := hln.2 (by omega)
            omega
        rw [aptN_succ hui]
        simp only [v_gT, v_gCons, v_gN, v_gNil, okO_some, List.set]
        refine ⟨rfl, okS_mono (found_turn hu hul.2 hui hl1000 f10) ?_ (fun _ _ q => q.elim)⟩
        rintro s2 w7 ⟨rfl, P, t10', f10', rfl⟩
        exact ⟨rfl, _, _, _, _, ⟨rfl, rfl, show nlFreeO (some (.lst (P.map fun p => lD (mem p)))) = true from free_lists P, f10'⟩, rfl⟩
    · rintro s1 w6 ⟨rfl, t7, t8, t9, t10, hf, rfl⟩
      refine hM' _ _ ⟨rfl, t7, t8, t9, t10, hf, ?_⟩
      simp
  rintro _ w6 ⟨rfl, t7, t8, t9, t10, ⟨f7, f8, f9, f10⟩, rfl⟩
  obtain ⟨A, hA⟩ : ∃ A, A = aptN us us.length := ⟨_, rfl⟩
  have hAn : A.length ≤ 400 := by
    rw [hA]
    have := hAl.2 (by omega)
    omega
  rw [← hA] at hap hap2 ⊢
  have htt : ∀ u ∈ [t, t], Row u := fun u hm => by
    rcases List.mem_cons.mp hm with e | hm
    · rw [e]; exact ht
    · rw [List.mem_singleton.mp hm]; exact ht
  have hap3 := e_apart (us := [t, t]) (d := .lst [tD t, tD t]) (.inl rfl) (by simp) htt
  obtain ⟨lt1, _, _, _⟩ := less_near ht ht
  have hTt := ht.nt.tri
  have hself : PC t t = [] := pc_none hTt.s hTt.s hTt.WD hTt.WD fun x hx => hx
  have hself2 : PC (nrm t) t = [] := pc_none ht.nr.s hTt.s ht.nr.bd.2.2.2.WD hTt.WD fun x hx => (in_nrm hTt.s).mp hx
  rw [hself] at lt1
  have hA2 : aptN [t, t] 2 = if mem (nrm t) = [] then [] else [nrm t] := by
    have e1 : beyF t [] = if mem (nrm t) = [] then [] else [nrm t] := by
      unfold beyF bey
      show [nrm t].filter _ = _
      rw [List.filter_cons]
      by_cases hc : 0 < cnt (nrm t)
      · rw [if_pos (decide_eq_true hc), if_neg (fun z => (mem_nil _).mp z hc)]
        rfl
      · rw [if_neg (by simpa using hc), if_pos ((mem_nil _).mpr hc)]
        rfl
    have e2 : beyF t [t] = [] := by
      unfold beyF bey
      show ((PC (nrm t) t) ++ []).filter _ = []
      rw [hself2]
      rfl
    unfold aptN
    show beyF t [] ++ (beyF t [t] ++ []) = _
    rw [e1, e2]
    simp
  have hap3 : ∀ w, F_apart [.lst [tD t, tD t]] w = .ok (.nl ((if mem (nrm t) = [] then [] else [nrm t]).map tD)) w := fun w => by
    have := hap3 w
    rw [show [t, t].length = 2 from rfl, hA2] at this
    exact this
  have hsh := fun w => e_shown (w := w) (mem (nrm t))
  rw [shown_nrm hTt.s] at hsh
  have hXn := eqD_lD (l := mem (nrm t))
  -- the same one twice
  refine okS_to (fun s1 w7 => w7 = w6 ∧ s1 = [some .well, some (.lst (us.map tD)), some (tD t), some (tD z), some (lD (mem (nrm t))), some (lD (mem z)), some (.lst (A.map tD)), t7, t8, t9, t10, none, none, none, none]) ?_ ?_
  · intro M' hM'
    have hm' := hM' _ _ ⟨rfl, rfl⟩
    have e1 : ∀ w, (eCall 1 F_apart (aCons (eL (aLst (aCons (eVar 2) (aCons (eVar 2) aNil)))) aNil)) [some .well, some (.lst (us.map tD)), some (tD t), some (tD z), some (lD (mem (nrm t))), some (lD (mem z)), some (.lst (A.map tD)), t7, t8, t9, t10, none, none, none, none] w = .ok (.nl ((if mem (nrm t) = [] then [] else [nrm t]).map tD)) w := fun w => by
      apply okE_eq
      simp -implicitDefEqProofs [hap3, hl2]
    have e2 := fun w => wk_ok (e1 w)
    have e3 : ∀ w, (eCall 2 F_less (aCons (eVar 2) (aCons (eVar 2) aNil))) [some .well, some (.lst (us.map tD)), some (tD t), some (tD z), some (lD (mem (nrm t))), some (lD (mem z)), some (.lst (A.map tD)), t7, t8, t9, t10, none, none, none, none] w = .ok (.nl []) w := fun w => by
      apply okE_eq
      simp -implicitDefEqProofs [lt1]
    have e4 := fun w => wk_ok (e3 w)
    have ok1 : okD (.lst [tD (nrm t)]) = true := okD_ltD (L := [nrm t])
    by_cases hx : mem (nrm t) = []
    · simp only [if_pos hx] at e2
      have hsh2 : F_w_shown [.lst []] w6 = .ok (tD (nrm t)) w6 := by
        have := hsh w6
        rw [hx] at this
        exact this
      rw [hx] at hm' hXn ⊢
      simp only [hx] at e2 e4
      simp -implicitDefEqProofs [e2, e4, hsh2, hXn, o0, hl0, hl1]
      exact hm'
    · simp only [if_neg hx] at e2
      simp -implicitDefEqProofs [e2, e4, hsh, hXn, hx, o0, hl0, hl1, ok1]
      exact hm'
  rintro _ w7 ⟨rfl, rfl⟩
  obtain ⟨B, hB⟩ : ∃ B, B = PC t z := ⟨_, rfl⟩
  obtain ⟨lz, _, _, lzn⟩ := less_near ht hz
  rw [← hB] at lz
  have hfree : List.all [some .well, some (.lst (us.map tD)), some (tD t), some (tD z), some (lD (mem (nrm t))), some (lD (mem z)), some (.lst (A.map tD)), t7, t8, t9, t10, none, none, none, none] nlFreeO = true := by
    have g1 : nlFreeO (some (.lst (us.map tD))) = true := free_trs us
    have g2 : nlFreeO (some (.lst (A.map tD))) = true := free_trs A
    have g3 : nlFreeO (some (lD (mem (nrm t)))) = true := free_ints _
    have g4 : nlFreeO (some (lD (mem z))) = true := free_ints _
    have g5 : ∀ q : Tr, nlFreeO (some (tD q)) = true := fun q => rfl
    have g6 : nlFreeO (some .well) = true := rfl
    have g7 : nlFreeO none = true := rfl
    simp only [List.all_cons, List.all_nil, g1, g2, g3, g4, g5, g6, g7, f7, f8, f9, f10, Bool.and_self]
  refine okS_to (fun s1 w8 => w8 = w7 ∧ s1 = [some .well, some (.lst (us.map tD)), some (tD t), some (tD z), some (lD (mem (nrm t))), some (lD (mem z)), some (.lst (A.map tD)), t7, t8, t9, t10, some (.own (A.map tD)), some (.own (B.map tD)), none, none]) ?_ ?_
  · intro M' hM'
    have hm' := hM' _ _ ⟨rfl, rfl⟩
    have e1 : aNew (eCall 1 F_apart (aCons (eVar 1) aNil)) [some .well, some (.lst (us.map tD)), some (tD t), some (tD z), some (lD (mem (nrm t))), some (lD (mem z)), some (.lst (A.map tD)), t7, t8, t9, t10, none, none, none, none] w7 = .ok (A.map tD) w7 := by
      have : (eCall 1 F_apart (aCons (eVar 1) aNil)) [some .well, some (.lst (us.map tD)), some (tD t), some (tD z), some (lD (mem (nrm t))), some (lD (mem z)), some (.lst (A.map tD)), t7, t8, t9, t10, none, none, none, none] w7 = .ok (.nl (A.map tD)) w7 := by
        apply okE_eq
        simp -implicitDefEqProofs [hap]
      unfold aNew
      rw [if_pos hfree, this]
      simp only
      rw [if_pos (plain_trs A)]
    have e2 : aNew (eCall 2 F_less (aCons (eVar 2) (aCons (eVar 3) aNil))) [some .well, some (.lst (us.map tD)), some (tD t), some (tD z), some (lD (mem (nrm t))), some (lD (mem z)), some (.lst (A.map tD)), t7, t8, t9, t10, none, none, none, none] w7 = .ok (B.map tD) w7 := by
      have : (eCall 2 F_less (aCons (eVar 2) (aCons (eVar 3) aNil))) [some .well, some (.lst (us.map tD)), some (tD t), some (tD z), some (lD (mem (nrm t))), some (lD (mem z)), some (.lst (A.map tD)), t7, t8, t9, t10, none, none, none, none] w7 = .ok (.nl (B.map tD)) w7 := by
        apply okE_eq
        simp -implicitDefEqProofs [lz]
      unfold aNew
      rw [if_pos hfree, this]
      simp only
      rw [if_pos (plain_trs B)]
    rw [okS_mul, okE_mown, e1]
    simp only [okE_ok]
    rw [okE_mown, e2]
    simp only [okE_ok]
    simp -implicitDefEqProofs [putS]
    exact hm'
  rintro _ w8 ⟨rfl, rfl⟩
  refine okS_to (fun s1 w9 => w9 = w8 ∧ s1 = [some .well, some (.lst (us.map tD)), some (tD t), some (tD z), some (lD (mem (nrm t))), some (lD (mem z)), some (.lst (A.map tD)), t7, t8, t9, t10, some (.own (A.map tD ++ [.non])), some (.own (B.map tD)), none, none]) ?_ ?_
  · intro M' hM'
    have hm' := hM' _ _ ⟨rfl, rfl⟩
    simp -implicitDefEqProofs
    exact ⟨by omega, hm'⟩
  rintro _ w9 ⟨rfl, rfl⟩
  refine okS_to (fun s1 w10 => w10 = w9 ∧ s1 = [some .well, some (.lst (us.map tD)), some (tD t), some (tD z), some (lD (mem (nrm t))), some (lD (mem z)), some (.lst (A.map tD)), t7, t8, t9, t10, some (.own (A.map tD ++ [.non])), some (.own []), none, none]) ?_ ?_
  · intro M' hM'
    have hm' := hM' _ _ ⟨rfl, rfl⟩
    simp -implicitDefEqProofs
    exact hm'
  rintro _ w10 ⟨rfl, rfl⟩
  refine okS_to (fun s1 w11 => w11 = w10 ∧ s1 = [some .well, some (.lst (us.map tD)), some (tD t), some (tD z), some (lD (mem (nrm t))), some (lD (mem z)), some (.lst (A.map tD)), t7, t8, t9, t10, some (.own (A.map tD ++ [.non])), some (.own []), none, none]) (fun M' hM' => okS_mono (less_chk ht hz) (fun _ _ q => hM' _ _ q) (fun _ _ q => q.elim)) ?_
  rintro _ w11 ⟨rfl, rfl⟩
  rw [okS_frz]
  show okS (sRet _ [some .well, some (.lst (us.map tD)), some (tD t), some (tD z), some (lD (mem (nrm t))), some (lD (mem z)), some (.lst (A.map tD)), t7, t8, t9, t10, some (.lst (A.map tD ++ [.non])), some (.own []), none, none] w11) _ _
  have e1 : ∀ w, (eCall 1 F_apart (aCons (eVar 1) aNil)) [some .well, some (.lst (us.map tD)), some (tD t), some (tD z), some (lD (mem (nrm t))), some (lD (mem z)), some (.lst (A.map tD)), t7, t8, t9, t10, some (.lst (A.map tD ++ [.non])), some (.own []), none, none] w = .ok (.nl (A.map tD)) w := fun w => by
    apply okE_eq
    simp -implicitDefEqProofs [hap]
  have e2 : ∀ w, (eCall 1 F_apart (aCons (eCB fTuple (aCons (eVar 1) aNil)) aNil)) [some .well, some (.lst (us.map tD)), some (tD t), some (tD z), some (lD (mem (nrm t))), some (lD (mem z)), some (.lst (A.map tD)), t7, t8, t9, t10, some (.lst (A.map tD ++ [.non])), some (.own []), none, none] w = .ok (.nl (A.map tD)) w := fun w => by
    apply okE_eq
    simp -implicitDefEqProofs [hap2]
  have e3 := fun w => wk_ok (e1 w)
  have e4 := fun w => wk_ok (e2 w)
  have q1 := okD_ltD (L := A)
  have q2 := eqD_ltD (L := A) (M := A)
  have q3 := okD_ltN (L := A)
  have q4 := eqD_ltN (L := A)
  simp -implicitDefEqProofs [e3, e4, q1, q2, q3, q4, hl1]
  exact ⟨by omega, l1⟩
end
section
theorem right_ok (b : Nat) (w : Wl) (hb : b < 1000000) (hw : Lap b w) : ∃ w', T_law [none, none, some .well, none] w = .ok false w' ∧ Lap (b + 1000) w' := by
  have h : okE (T_law [none, none, some .well, none] w) fun k w' => k = false ∧ Lap (b + 1000) w' := by
    unfold T_law
    simp -implicitDefEqProofs
    refine okE_mono (near_law hw (by omega)) ?_
    rintro d w1 ⟨rfl, l1⟩
    simp -implicitDefEqProofs
    refine okE_mono (far_law l1 (by omega)) ?_
    rintro d w2 ⟨rfl, l2⟩
    simp -implicitDefEqProofs
    exact lap_le l2 (by omega)
  obtain ⟨k, w', e, rfl, l⟩ := okE_ex h
  exact ⟨w', e, l⟩
end
end DL

set_option maxHeartbeats 2000000
namespace DL
open PySem PySem.Spec PyProof.Rows L2
open Evl (Ex)

/-! ### what the top has written; the law's own head -/
theorem all_mk {l : PySem.W.OpenLaw} {w : World} {K : PySem.W.Frag} {h : Heap} {mg : Str → Option Value} {fa f0 f1 f2 f3 f4 f5 f6 f7 f8 f9 f10 f11 f12 f13 f14 f15 f16 f17 f18 f19 f20 f21 f22 f23 f24 f25 f26 f27 f28 f29 f30 : Addr} (X : K.In h) (G : h.Ns mainGlobals mg) (hfa : mg "law" = some (.ref fa))
    {od0 an0 od1 an1 od2 an2 od3 an3 od4 an4 od5 an5 od6 an6 od7 an7 od8 an8 od9 an9 od10 an10 od11 an11 od12 an12 od13 an13 od14 an14 od15 an15 od16 an16 od17 an17 od18 an18 od19 an19 od20 an20 od21 an21 od22 an22 od23 an23 od24 an24 od25 an25 od26 an26 od27 an27 od28 an28 od29 an29 od30 an30 : Option Addr} {sl0 sl1 sl2 sl3 sl4 sl5 sl6 sl7 sl8 sl9 sl10 sl11 sl12 sl13 sl14 sl15 sl16 sl17 sl18 sl19 sl20 sl21 sl22 sl23 sl24 sl25 sl26 sl27 sl28 sl29 sl30 : Array (Option Value)} {oc0 kV0 dc0 pm0 cd0 ct0 oc1 kV1 dc1 pm1 cd1 ct1 oc2 kV2 dc2 pm2 cd2 ct2 oc3 kV3 dc3 pm3 cd3 ct3 oc4 kV4 dc4 pm4 cd4 ct4 oc5 kV5 dc5 pm5 cd5 ct5 oc6 kV6 dc6 pm6 cd6 ct6 oc7 kV7 dc7 pm7 cd7 ct7 oc8 kV8 dc8 pm8 cd8 ct8 oc9 kV9 dc9 pm9 cd9 ct9 oc10 kV10 dc10 pm10 cd10 ct10 oc11 kV11 dc11 pm11 cd11 ct11 oc12 kV12 dc12 pm12 cd12 ct12 oc13 kV13 dc13 pm13 cd13 ct13 oc14 kV14 dc14 pm14 cd14 ct14 oc15 kV15 dc15 pm15 cd15 ct15 oc16 kV16 dc16 pm16 cd16 ct16 oc17 kV17 dc17 pm17 cd17 ct17 oc18 kV18 dc18 pm18 cd18 ct18 oc19 kV19 dc19 pm19 cd19 ct19 oc20 kV20 dc20 pm20 cd20 ct20 oc21 kV21 dc21 pm21 cd21 ct21 oc22 kV22 dc22 pm22 cd22 ct22 oc23 kV23 dc23 pm23 cd23 ct23 oc24 kV24 dc24 pm24 cd24 ct24 oc25 kV25 dc25 pm25 cd25 ct25 oc26 kV26 dc26 pm26 cd26 ct26 oc27 kV27 dc27 pm27 cd27 ct27 oc28 kV28 dc28 pm28 cd28 ct28 oc29 kV29 dc29 pm29 cd29 ct29 oc30 kV30 dc30 pm30 cd30 ct30 : Value} {t_FAR t_TRIPLETS t_PIECES : Tok}
    (a0 : PySem.W.nsIn K mainGlobals "is_number" = some (some (.ref f0)))
    (l0 : K.lookup f0 = some ⟨oc0, od0, .func (PySem.W.fnOf "is_number" "is_number" (defArgs s_is_number) (defBody s_is_number) (defScope s_is_number) .none kV0 dc0 pm0 an0 cd0 ct0), sl0⟩)
    (c0 : PySem.W.codeIn K cd0 "is_number" = true)
    (k0 : PySem.W.keepIn K (.ref f0) = true)
    (a1 : PySem.W.nsIn K mainGlobals "is_far" = some (some (.ref f1)))
    (l1 : K.lookup f1 = some ⟨oc1, od1, .func (PySem.W.fnOf "is_far" "is_far" (defArgs s_is_far) (defBody s_is_far) (defScope s_is_far) .none kV1 dc1 pm1 an1 cd1 ct1), sl1⟩)
    (c1 : PySem.W.codeIn K cd1 "is_far" = true)
    (k1 : PySem.W.keepIn K (.ref f1) = true)
    (a2 : PySem.W.nsIn K mainGlobals "is_triplet" = some (some (.ref f2)))
    (l2 : K.lookup f2 = some ⟨oc2, od2, .func (PySem.W.fnOf "is_triplet" "is_triplet" (defArgs s_is_triplet) (defBody s_is_triplet) (defScope s_is_triplet) .none kV2 dc2 pm2 an2 cd2 ct2), sl2⟩)
    (c2 : PySem.W.codeIn K cd2 "is_triplet" = true)
    (k2 : PySem.W.keepIn K (.ref f2) = true)
    (a3 : PySem.W.nsIn K mainGlobals "many_of" = some (some (.ref f3)))
    (l3 : K.lookup f3 = some ⟨oc3, od3, .func (PySem.W.fnOf "many_of" "many_of" (defArgs s_many_of) (defBody s_many_of) (defScope s_many_of) .none kV3 dc3 pm3 an3 cd3 ct3), sl3⟩)
    (c3 : PySem.W.codeIn K cd3 "many_of" = true)
    (k3 : PySem.W.keepIn K (.ref f3) = true)
    (a4 : PySem.W.nsIn K mainGlobals "subscript_of" = some (some (.ref f4)))
    (l4 : K.lookup f4 = some ⟨oc4, od4, .func (PySem.W.fnOf "subscript_of" "subscript_of" (defArgs s_subscript_of) (defBody s_subscript_of) (defScope s_subscript_of) .none kV4 dc4 pm4 an4 cd4 ct4), sl4⟩)
    (c4 : PySem.W.codeIn K cd4 "subscript_of" = true)
    (k4 : PySem.W.keepIn K (.ref f4) = true)
    (a5 : PySem.W.nsIn K mainGlobals "last_of" = some (some (.ref f5)))
    (l5 : K.lookup f5 = some ⟨oc5, od5, .func (PySem.W.fnOf "last_of" "last_of" (defArgs s_last_of) (defBody s_last_of) (defScope s_last_of) .none kV5 dc5 pm5 an5 cd5 ct5), sl5⟩)
    (c5 : PySem.W.codeIn K cd5 "last_of" = true)
    (k5 : PySem.W.keepIn K (.ref f5) = true)
    (a6 : PySem.W.nsIn K mainGlobals "upward" = some (some (.ref f6)))
    (l6 : K.lookup f6 = some ⟨oc6, od6, .func (PySem.W.fnOf "upward" "upward" (defArgs s_upward) (defBody s_upward) (defScope s_upward) .none kV6 dc6 pm6 an6 cd6 ct6), sl6⟩)
    (c6 : PySem.W.codeIn K cd6 "upward" = true)
    (k6 : PySem.W.keepIn K (.ref f6) = true)
    (a7 : PySem.W.nsIn K mainGlobals "normal_of" = some (some (.ref f7)))
    (l7 : K.lookup f7 = some ⟨oc7, od7, .func (PySem.W.fnOf "normal_of" "normal_of" (defArgs s_normal_of) (defBody s_normal_of) (defScope s_normal_of) .none kV7 dc7 pm7 an7 cd7 ct7), sl7⟩)
    (c7 : PySem.W.codeIn K cd7 "normal_of" = true)
    (k7 : PySem.W.keepIn K (.ref f7) = true)
    (a8 : PySem.W.nsIn K mainGlobals "divisor_and_factor" = some (some (.ref f8)))
    (l8 : K.lookup f8 = some ⟨oc8, od8, .func (PySem.W.fnOf "divisor_and_factor" "divisor_and_factor" (defArgs s_divisor_and_factor) (defBody s_divisor_and_factor) (defScope s_divisor_and_factor) .none kV8 dc8 pm8 an8 cd8 ct8), sl8⟩)
    (c8 : PySem.W.codeIn K cd8 "divisor_and_factor" = true)
    (k8 : PySem.W.keepIn K (.ref f8) = true)
    (a9 : PySem.W.nsIn K mainGlobals "met_of" = some (some (.ref f9)))
    (l9 : K.lookup f9 = some ⟨oc9, od9, .func (PySem.W.fnOf "met_of" "met_of" (defArgs s_met_of) (defBody s_met_of) (defScope s_met_of) .none kV9 dc9 pm9 an9 cd9 ct9), sl9⟩)
    (c9 : PySem.W.codeIn K cd9 "met_of" = true)
    (k9 : PySem.W.keepIn K (.ref f9) = true)
    (a10 : PySem.W.nsIn K mainGlobals "check_triplet" = some (some (.ref f10)))
    (l10 : K.lookup f10 = some ⟨oc10, od10, .func (PySem.W.fnOf "check_triplet" "check_triplet" (defArgs s_check_triplet) (defBody s_check_triplet) (defScope s_check_triplet) .none kV10 dc10 pm10 an10 cd10 ct10), sl10⟩)
    (c10 : PySem.W.codeIn K cd10 "check_triplet" = true)
    (k10 : PySem.W.keepIn K (.ref f10) = true)
    (a11 : PySem.W.nsIn K mainGlobals "check_two" = some (some (.ref f11)))
    (l11 : K.lookup f11 = some ⟨oc11, od11, .func (PySem.W.fnOf "check_two" "check_two" (defArgs s_check_two) (defBody s_check_two) (defScope s_check_two) .none kV11 dc11 pm11 an11 cd11 ct11), sl11⟩)
    (c11 : PySem.W.codeIn K cd11 "check_two" = true)
    (k11 : PySem.W.keepIn K (.ref f11) = true)
    (a12 : PySem.W.nsIn K mainGlobals "check_triplets" = some (some (.ref f12)))
    (l12 : K.lookup f12 = some ⟨oc12, od12, .func (PySem.W.fnOf "check_triplets" "check_triplets" (defArgs s_check_triplets) (defBody s_check_triplets) (defScope s_check_triplets) .none kV12 dc12 pm12 an12 cd12 ct12), sl12⟩)
    (c12 : PySem.W.codeIn K cd12 "check_triplets" = true)
    (k12 : PySem.W.keepIn K (.ref f12) = true)
    (a13 : PySem.W.nsIn K mainGlobals "pieces_of" = some (some (.ref f13)))
    (l13 : K.lookup f13 = some ⟨oc13, od13, .func (PySem.W.fnOf "pieces_of" "pieces_of" (defArgs s_pieces_of) (defBody s_pieces_of) (defScope s_pieces_of) .none kV13 dc13 pm13 an13 cd13 ct13), sl13⟩)
    (c13 : PySem.W.codeIn K cd13 "pieces_of" = true)
    (k13 : PySem.W.keepIn K (.ref f13) = true)
    (a14 : PySem.W.nsIn K mainGlobals "pieces_beyond" = some (some (.ref f14)))
    (l14 : K.lookup f14 = some ⟨oc14, od14, .func (PySem.W.fnOf "pieces_beyond" "pieces_beyond" (defArgs s_pieces_beyond) (defBody s_pieces_beyond) (defScope s_pieces_beyond) .none kV14 dc14 pm14 an14 cd14 ct14), sl14⟩)
    (c14 : PySem.W.codeIn K cd14 "pieces_beyond" = true)
    (k14 : PySem.W.keepIn K (.ref f14) = true)
    (a15 : PySem.W.nsIn K mainGlobals "triplet_size" = some (some (.ref f15)))
    (l15 : K.lookup f15 = some ⟨oc15, od15, .func (PySem.W.fnOf "triplet_size" "triplet_size" (defArgs s_triplet_size) (defBody s_triplet_size) (defScope s_triplet_size) .none kV15 dc15 pm15 an15 cd15 ct15), sl15⟩)
    (c15 : PySem.W.codeIn K cd15 "triplet_size" = true)
    (k15 : PySem.W.keepIn K (.ref f15) = true)
    (a16 : PySem.W.nsIn K mainGlobals "met" = some (some (.ref f16)))
    (l16 : K.lookup f16 = some ⟨oc16, od16, .func (PySem.W.fnOf "met" "met" (defArgs s_met) (defBody s_met) (defScope s_met) .none kV16 dc16 pm16 an16 cd16 ct16), sl16⟩)
    (c16 : PySem.W.codeIn K cd16 "met" = true)
    (k16 : PySem.W.keepIn K (.ref f16) = true)
    (a17 : PySem.W.nsIn K mainGlobals "less" = some (some (.ref f17)))
    (l17 : K.lookup f17 = some ⟨oc17, od17, .func (PySem.W.fnOf "less" "less" (defArgs s_less) (defBody s_less) (defScope s_less) .none kV17 dc17 pm17 an17 cd17 ct17), sl17⟩)
    (c17 : PySem.W.codeIn K cd17 "less" = true)
    (k17 : PySem.W.keepIn K (.ref f17) = true)
    (a18 : PySem.W.nsIn K mainGlobals "apart" = some (some (.ref f18)))
    (l18 : K.lookup f18 = some ⟨oc18, od18, .func (PySem.W.fnOf "apart" "apart" (defArgs s_apart) (defBody s_apart) (defScope s_apart) .none kV18 dc18 pm18 an18 cd18 ct18), sl18⟩)
    (c18 : PySem.W.codeIn K cd18 "apart" = true)
    (k18 : PySem.W.keepIn K (.ref f18) = true)
    (a19 : PySem.W.nsIn K mainGlobals "_law_draw" = some (some (.ref f19)))
    (l19 : K.lookup f19 = some ⟨oc19, od19, .func (PySem.W.fnOf "_law_draw" "_law_draw" (defArgs s_w_draw) (defBody s_w_draw) (defScope s_w_draw) .none kV19 dc19 pm19 an19 cd19 ct19), sl19⟩)
    (c19 : PySem.W.codeIn K cd19 "_law_draw" = true)
    (k19 : PySem.W.keepIn K (.ref f19) = true)
    (a20 : PySem.W.nsIn K mainGlobals "_law_pick" = some (some (.ref f20)))
    (l20 : K.lookup f20 = some ⟨oc20, od20, .func (PySem.W.fnOf "_law_pick" "_law_pick" (defArgs s_w_pick) (defBody s_w_pick) (defScope s_w_pick) .none kV20 dc20 pm20 an20 cd20 ct20), sl20⟩)
    (c20 : PySem.W.codeIn K cd20 "_law_pick" = true)
    (k20 : PySem.W.keepIn K (.ref f20) = true)
    (a21 : PySem.W.nsIn K mainGlobals "_law_members" = some (some (.ref f21)))
    (l21 : K.lookup f21 = some ⟨oc21, od21, .func (PySem.W.fnOf "_law_members" "_law_members" (defArgs s_w_members) (defBody s_w_members) (defScope s_w_members) .none kV21 dc21 pm21 an21 cd21 ct21), sl21⟩)
    (c21 : PySem.W.codeIn K cd21 "_law_members" = true)
    (k21 : PySem.W.keepIn K (.ref f21) = true)
    (a22 : PySem.W.nsIn K mainGlobals "_law_near" = some (some (.ref f22)))
    (l22 : K.lookup f22 = some ⟨oc22, od22, .func (PySem.W.fnOf "_law_near" "_law_near" (defArgs s_w_near) (defBody s_w_near) (defScope s_w_near) .none kV22 dc22 pm22 an22 cd22 ct22), sl22⟩)
    (c22 : PySem.W.codeIn K cd22 "_law_near" = true)
    (k22 : PySem.W.keepIn K (.ref f22) = true)
    (a23 : PySem.W.nsIn K mainGlobals "_law_shown" = some (some (.ref f23)))
    (l23 : K.lookup f23 = some ⟨oc23, od23, .func (PySem.W.fnOf "_law_shown" "_law_shown" (defArgs s_w_shown) (defBody s_w_shown) (defScope s_w_shown) .none kV23 dc23 pm23 an23 cd23 ct23), sl23⟩)
    (c23 : PySem.W.codeIn K cd23 "_law_shown" = true)
    (k23 : PySem.W.keepIn K (.ref f23) = true)
    (a24 : PySem.W.nsIn K mainGlobals "_law_far" = some (some (.ref f24)))
    (l24 : K.lookup f24 = some ⟨oc24, od24, .func (PySem.W.fnOf "_law_far" "_law_far" (defArgs s_w_far) (defBody s_w_far) (defScope s_w_far) .none kV24 dc24 pm24 an24 cd24 ct24), sl24⟩)
    (c24 : PySem.W.codeIn K cd24 "_law_far" = true)
    (k24 : PySem.W.keepIn K (.ref f24) = true)
    (a25 : PySem.W.nsIn K mainGlobals "_law_count" = some (some (.ref f25)))
    (l25 : K.lookup f25 = some ⟨oc25, od25, .func (PySem.W.fnOf "_law_count" "_law_count" (defArgs s_w_count) (defBody s_w_count) (defScope s_w_count) .none kV25 dc25 pm25 an25 cd25 ct25), sl25⟩)
    (c25 : PySem.W.codeIn K cd25 "_law_count" = true)
    (k25 : PySem.W.keepIn K (.ref f25) = true)
    (a26 : PySem.W.nsIn K mainGlobals "_law_cut" = some (some (.ref f26)))
    (l26 : K.lookup f26 = some ⟨oc26, od26, .func (PySem.W.fnOf "_law_cut" "_law_cut" (defArgs s_w_cut) (defBody s_w_cut) (defScope s_w_cut) .none kV26 dc26 pm26 an26 cd26 ct26), sl26⟩)
    (c26 : PySem.W.codeIn K cd26 "_law_cut" = true)
    (k26 : PySem.W.keepIn K (.ref f26) = true)
    (a27 : PySem.W.nsIn K mainGlobals "_law_near_right" = some (some (.ref f27)))
    (l27 : K.lookup f27 = some ⟨oc27, od27, .func (PySem.W.fnOf "_law_near_right" "_law_near_right" (defArgs s_w_near_right) (defBody s_w_near_right) (defScope s_w_near_right) .none kV27 dc27 pm27 an27 cd27 ct27), sl27⟩)
    (c27 : PySem.W.codeIn K cd27 "_law_near_right" = true)
    (k27 : PySem.W.keepIn K (.ref f27) = true)
    (a28 : PySem.W.nsIn K mainGlobals "_law_far_right" = some (some (.ref f28)))
    (l28 : K.lookup f28 = some ⟨oc28, od28, .func (PySem.W.fnOf "_law_far_right" "_law_far_right" (defArgs s_w_far_right) (defBody s_w_far_right) (defScope s_w_far_right) .none kV28 dc28 pm28 an28 cd28 ct28), sl28⟩)
    (c28 : PySem.W.codeIn K cd28 "_law_far_right" = true)
    (k28 : PySem.W.keepIn K (.ref f28) = true)
    (a29 : PySem.W.nsIn K mainGlobals "_law_well" = some (some (.ref f29)))
    (l29 : K.lookup f29 = some ⟨oc29, od29, .func (PySem.W.fnOf "_law_well" "_law_well" (defArgs s_w_well) (defBody s_w_well) (defScope s_w_well) .none kV29 dc29 pm29 an29 cd29 ct29), sl29⟩)
    (c29 : PySem.W.codeIn K cd29 "_law_well" = true)
    (k29 : PySem.W.keepIn K (.ref f29) = true)
    (a30 : PySem.W.nsIn K mainGlobals "law" = some (some (.ref f30)))
    (l30 : K.lookup f30 = some ⟨oc30, od30, .func (PySem.W.fnOf "law" "law" (defArgs s_law) (defBody s_law) (defScope s_law) .none kV30 dc30 pm30 an30 cd30 ct30), sl30⟩)
    (c30 : PySem.W.codeIn K cd30 "law" = true)
    (k30 : PySem.W.keepIn K (.ref f30) = true)
    (z_int : PySem.W.nsIn K mainGlobals "int" = some none)
    (z_isinstance : PySem.W.nsIn K mainGlobals "isinstance" = some none)
    (z_bool : PySem.W.nsIn K mainGlobals "bool" = some none)
    (z_tuple : PySem.W.nsIn K mainGlobals "tuple" = some none)
    (z_len : PySem.W.nsIn K mainGlobals "len" = some none)
    (z_all : PySem.W.nsIn K mainGlobals "all" = some none)
    (z_list : PySem.W.nsIn K mainGlobals "list" = some none)
    (z_max : PySem.W.nsIn K mainGlobals "max" = some none)
    (z_min : PySem.W.nsIn K mainGlobals "min" = some none)
    (z_range : PySem.W.nsIn K mainGlobals "range" = some none)
    (z_enumerate : PySem.W.nsIn K mainGlobals "enumerate" = some none)
    (z_abs : PySem.W.nsIn K mainGlobals "abs" = some none)
    (z_sorted : PySem.W.nsIn K mainGlobals "sorted" = some none)
    (z_sum : PySem.W.nsIn K mainGlobals "sum" = some none)
    (v_FAR : PySem.W.nsIn K mainGlobals "FAR" = some (some (.int 1000000000000000000000000000000 t_FAR)))
    (v_TRIPLETS : PySem.W.nsIn K mainGlobals "TRIPLETS" = some (some (.int 8 t_TRIPLETS)))
    (v_PIECES : PySem.W.nsIn K mainGlobals "PIECES" = some (some (.int 300 t_PIECES)))
    : ∃ fd : FuncData, (∀ (s : Shared) (v : Value), BindsTo s fd ⟨[v], []⟩ [("_law_script", v)]) ∧ ∀ base : Heap, K.In base → base.Ns mainGlobals mg → FnOk l.prog w K mg base (L2.CX l.prog w) 10 fa fd ["_law_script"] (spLaw K) := by
  have e := hfa.symm.trans (PySem.W.mg_of X G a30)
  cases e
  exact ⟨PySem.W.fnOf "law" "law" (defArgs s_law) (defBody s_law) (defScope s_law) .none kV30 dc30 pm30 an30 cd30 ct30, fun s v => .of_eq rfl, fun base _ _ => ok_law (P := l.prog) (w := w) (K := K) (mg := mg) (base := base) {
      a_is_number := f0,
      d_is_number := _,
      F_is_number := fun_mk (st := s_is_number) l0 c0 k0,
      g_is_number := PySem.W.mg_of X G a0,
      a_is_far := f1,
      d_is_far := _,
      F_is_far := fun_mk (st := s_is_far) l1 c1 k1,
      g_is_far := PySem.W.mg_of X G a1,
      a_is_triplet := f2,
      d_is_triplet := _,
      F_is_triplet := fun_mk (st := s_is_triplet) l2 c2 k2,
      g_is_triplet := PySem.W.mg_of X G a2,
      a_many_of := f3,
      d_many_of := _,
      F_many_of := fun_mk (st := s_many_of) l3 c3 k3,
      g_many_of := PySem.W.mg_of X G a3,
      a_subscript_of := f4,
      d_subscript_of := _,
      F_subscript_of := fun_mk (st := s_subscript_of) l4 c4 k4,
      g_subscript_of := PySem.W.mg_of X G a4,
      a_last_of := f5,
      d_last_of := _,
      F_last_of := fun_mk (st := s_last_of) l5 c5 k5,
      g_last_of := PySem.W.mg_of X G a5,
      a_upward := f6,
      d_upward := _,
      F_upward := fun_mk (st := s_upward) l6 c6 k6,
      g_upward := PySem.W.mg_of X G a6,
      a_normal_of := f7,
      d_normal_of := _,
      F_normal_of := fun_mk (st := s_normal_of) l7 c7 k7,
      g_normal_of := PySem.W.mg_of X G a7,
      a_divisor_and_factor := f8,
      d_divisor_and_factor := _,
      F_divisor_and_factor := fun_mk (st := s_divisor_and_factor) l8 c8 k8,
      g_divisor_and_factor := PySem.W.mg_of X G a8,
      a_met_of := f9,
      d_met_of := _,
      F_met_of := fun_mk (st := s_met_of) l9 c9 k9,
      g_met_of := PySem.W.mg_of X G a9,
      a_check_triplet := f10,
      d_check_triplet := _,
      F_check_triplet := fun_mk (st := s_check_triplet) l10 c10 k10,
      g_check_triplet := PySem.W.mg_of X G a10,
      a_check_two := f11,
      d_check_two := _,
      F_check_two := fun_mk (st := s_check_two) l11 c11 k11,
      g_check_two := PySem.W.mg_of X G a11,
      a_check_triplets := f12,
      d_check_triplets := _,
      F_check_triplets := fun_mk (st := s_check_triplets) l12 c12 k12,
      g_check_triplets := PySem.W.mg_of X G a12,
      a_pieces_of := f13,
      d_pieces_of := _,
      F_pieces_of := fun_mk (st := s_pieces_of) l13 c13 k13,
      g_pieces_of := PySem.W.mg_of X G a13,
      a_pieces_beyond := f14,
      d_pieces_beyond := _,
      F_pieces_beyond := fun_mk (st := s_pieces_beyond) l14 c14 k14,
      g_pieces_beyond := PySem.W.mg_of X G a14,
      a_triplet_size := f15,
      d_triplet_size := _,
      F_triplet_size := fun_mk (st := s_triplet_size) l15 c15 k15,
      g_triplet_size := PySem.W.mg_of X G a15,
      a_met := f16,
      d_met := _,
      F_met := fun_mk (st := s_met) l16 c16 k16,
      g_met := PySem.W.mg_of X G a16,
      a_less := f17,
      d_less := _,
      F_less := fun_mk (st := s_less) l17 c17 k17,
      g_less := PySem.W.mg_of X G a17,
      a_apart := f18,
      d_apart := _,
      F_apart := fun_mk (st := s_apart) l18 c18 k18,
      g_apart := PySem.W.mg_of X G a18,
      a_w_draw := f19,
      d_w_draw := _,
      F_w_draw := fun_mk (st := s_w_draw) l19 c19 k19,
      g_w_draw := PySem.W.mg_of X G a19,
      a_w_pick := f20,
      d_w_pick := _,
      F_w_pick := fun_mk (st := s_w_pick) l20 c20 k20,
      g_w_pick := PySem.W.mg_of X G a20,
      a_w_members := f21,
      d_w_members := _,
      F_w_members := fun_mk (st := s_w_members) l21 c21 k21,
      g_w_members := PySem.W.mg_of X G a21,
      a_w_near := f22,
      d_w_near := _,
      F_w_near := fun_mk (st := s_w_near) l22 c22 k22,
      g_w_near := PySem.W.mg_of X G a22,
      a_w_shown := f23,
      d_w_shown := _,
      F_w_shown := fun_mk (st := s_w_shown) l23 c23 k23,
      g_w_shown := PySem.W.mg_of X G a23,
      a_w_far := f24,
      d_w_far := _,
      F_w_far := fun_mk (st := s_w_far) l24 c24 k24,
      g_w_far := PySem.W.mg_of X G a24,
      a_w_count := f25,
      d_w_count := _,
      F_w_count := fun_mk (st := s_w_count) l25 c25 k25,
      g_w_count := PySem.W.mg_of X G a25,
      a_w_cut := f26,
      d_w_cut := _,
      F_w_cut := fun_mk (st := s_w_cut) l26 c26 k26,
      g_w_cut := PySem.W.mg_of X G a26,
      a_w_near_right := f27,
      d_w_near_right := _,
      F_w_near_right := fun_mk (st := s_w_near_right) l27 c27 k27,
      g_w_near_right := PySem.W.mg_of X G a27,
      a_w_far_right := f28,
      d_w_far_right := _,
      F_w_far_right := fun_mk (st := s_w_far_right) l28 c28 k28,
      g_w_far_right := PySem.W.mg_of X G a28,
      a_w_well := f29,
      d_w_well := _,
      F_w_well := fun_mk (st := s_w_well) l29 c29 k29,
      g_w_well := PySem.W.mg_of X G a29,
      a_law := fa,
      d_law := _,
      F_law := fun_mk (st := s_law) l30 c30 k30,
      g_law := PySem.W.mg_of X G a30,
      z_int := PySem.W.mg_none_of X G z_int,
      z_isinstance := PySem.W.mg_none_of X G z_isinstance,
      z_bool := PySem.W.mg_none_of X G z_bool,
      z_tuple := PySem.W.mg_none_of X G z_tuple,
      z_len := PySem.W.mg_none_of X G z_len,
      z_all := PySem.W.mg_none_of X G z_all,
      z_list := PySem.W.mg_none_of X G z_list,
      z_max := PySem.W.mg_none_of X G z_max,
      z_min := PySem.W.mg_none_of X G z_min,
      z_range := PySem.W.mg_none_of X G z_range,
      z_enumerate := PySem.W.mg_none_of X G z_enumerate,
      z_abs := PySem.W.mg_none_of X G z_abs,
      z_sorted := PySem.W.mg_none_of X G z_sorted,
      z_sum := PySem.W.mg_none_of X G z_sum,
      t_FAR := t_FAR,
      c_FAR := PySem.W.mg_of X G v_FAR,
      t_TRIPLETS := t_TRIPLETS,
      c_TRIPLETS := PySem.W.mg_of X G v_TRIPLETS,
      t_PIECES := t_PIECES,
      c_PIECES := PySem.W.mg_of X G v_PIECES } right_ok⟩
end DL
open PySem PySem.W PyProof.Rows
set_option maxHeartbeats 0 in
theorem PySem.Challenge.cw_sectionwise_k04_whole_what_triplets_have_holds : PySem.Challenge.rw_sectionwise_k04_whole_what_triplets_have.Holds := by
  w_on; o_law; k_head; (case hw => w_witness2)
  k_fill
  refine L2.walk_of (l := PySem.Challenge.rw_sectionwise_k04_whole_what_triplets_have) (n := 63) (k := 10) (x := "_law_script") (CX := fun w => L2.CX PySem.Challenge.pw_sectionwise_k04_whole_what_triplets_have w) (sp := fun w => DL.spLaw _) rfl (by decide) rfl ⟨rfl, by decide, by decide⟩ (fun w h Y => PySem.W.kIn_of Y) ?F (fun _ _ a ns hl _ hS => ⟨a, ns, rfl, hS, hl, fun _ => rfl⟩) (fun _ _ _ _ _ h => by obtain ⟨_, _, _, _, _, _, _, _, _, _, _, _, z⟩ := h; exact z)
  case F =>
    intro w mg fa h KX G hmg
    refine' DL.all_mk KX G hmg ?a0 ?l0 ?c0 ?k0 ?a1 ?l1 ?c1 ?k1 ?a2 ?l2 ?c2 ?k2 ?a3 ?l3 ?c3 ?k3 ?a4 ?l4 ?c4 ?k4 ?a5 ?l5 ?c5 ?k5 ?a6 ?l6 ?c6 ?k6 ?a7 ?l7 ?c7 ?k7 ?a8 ?l8 ?c8 ?k8 ?a9 ?l9 ?c9 ?k9 ?a10 ?l10 ?c10 ?k10 ?a11 ?l11 ?c11 ?k11 ?a12 ?l12 ?c12 ?k12 ?a13 ?l13 ?c13 ?k13 ?a14 ?l14 ?c14 ?k14 ?a15 ?l15 ?c15 ?k15 ?a16 ?l16 ?c16 ?k16 ?a17 ?l17 ?c17 ?k17 ?a18 ?l18 ?c18 ?k18 ?a19 ?l19 ?c19 ?k19 ?a20 ?l20 ?c20 ?k20 ?a21 ?l21 ?c21 ?k21 ?a22 ?l22 ?c22 ?k22 ?a23 ?l23 ?c23 ?k23 ?a24 ?l24 ?c24 ?k24 ?a25 ?l25 ?c25 ?k25 ?a26 ?l26 ?c26 ?k26 ?a27 ?l27 ?c27 ?k27 ?a28 ?l28 ?c28 ?k28 ?a29 ?l29 ?c29 ?k29 ?a30 ?l30 ?c30 ?k30 ?z_int ?z_isinstance ?z_bool ?z_tuple ?z_len ?z_all ?z_list ?z_max ?z_min ?z_range ?z_enumerate ?z_abs ?z_sorted ?z_sum ?v_FAR ?v_TRIPLETS ?v_PIECES
    (case a0 => k_is); (case l0 => k_is); (case c0 => k_is); (case k0 => k_is); (case a1 => k_is); (case l1 => k_is); (case c1 => k_is); (case k1 => k_is); (case a2 => k_is); (case l2 => k_is); (case c2 => k_is); (case k2 => k_is); (case a3 => k_is); (case l3 => k_is); (case c3 => k_is); (case k3 => k_is); (case a4 => k_is); (case l4 => k_is); (case c4 => k_is); (case k4 => k_is); (case a5 => k_is); (case l5 => k_is); (case c5 => k_is); (case k5 => k_is); (case a6 => k_is); (case l6 => k_is); (case c6 => k_is); (case k6 => k_is); (case a7 => k_is); (case l7 => k_is); (case c7 => k_is); (case k7 => k_is); (case a8 => k_is); (case l8 => k_is); (case c8 => k_is); (case k8 => k_is); (case a9 => k_is); (case l9 => k_is); (case c9 => k_is); (case k9 => k_is); (case a10 => k_is); (case l10 => k_is); (case c10 => k_is); (case k10 => k_is); (case a11 => k_is); (case l11 => k_is); (case c11 => k_is); (case k11 => k_is); (case a12 => k_is); (case l12 => k_is); (case c12 => k_is); (case k12 => k_is); (case a13 => k_is); (case l13 => k_is); (case c13 => k_is); (case k13 => k_is); (case a14 => k_is); (case l14 => k_is); (case c14 => k_is); (case k14 => k_is); (case a15 => k_is); (case l15 => k_is); (case c15 => k_is); (case k15 => k_is); (case a16 => k_is); (case l16 => k_is); (case c16 => k_is); (case k16 => k_is); (case a17 => k_is); (case l17 => k_is); (case c17 => k_is); (case k17 => k_is); (case a18 => k_is); (case l18 => k_is); (case c18 => k_is); (case k18 => k_is); (case a19 => k_is); (case l19 => k_is); (case c19 => k_is); (case k19 => k_is); (case a20 => k_is); (case l20 => k_is); (case c20 => k_is); (case k20 => k_is); (case a21 => k_is); (case l21 => k_is); (case c21 => k_is); (case k21 => k_is); (case a22 => k_is); (case l22 => k_is); (case c22 => k_is); (case k22 => k_is); (case a23 => k_is); (case l23 => k_is); (case c23 => k_is); (case k23 => k_is); (case a24 => k_is); (case l24 => k_is); (case c24 => k_is); (case k24 => k_is); (case a25 => k_is); (case l25 => k_is); (case c25 => k_is); (case k25 => k_is); (case a26 => k_is); (case l26 => k_is); (case c26 => k_is); (case k26 => k_is); (case a27 => k_is); (case l27 => k_is); (case c27 => k_is); (case k27 => k_is); (case a28 => k_is); (case l28 => k_is); (case c28 => k_is); (case k28 => k_is); (case a29 => k_is); (case l29 => k_is); (case c29 => k_is); (case k29 => k_is); (case a30 => k_is); (case l30 => k_is); (case c30 => k_is); (case k30 => k_is); (case z_int => k_is); (case z_isinstance => k_is); (case z_bool => k_is); (case z_tuple => k_is); (case z_len => k_is); (case z_all => k_is); (case z_list => k_is); (case z_max => k_is); (case z_min => k_is); (case z_range => k_is); (case z_enumerate => k_is); (case z_abs => k_is); (case z_sorted => k_is); (case z_sum => k_is); (case v_FAR => k_is); (case v_TRIPLETS => k_is); (case v_PIECES => k_is)
