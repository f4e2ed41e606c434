import PyProof.Rows.All
import HandS.ForMost
import HandS.ForExc
import HandS.Style
import HandS.Wide
import HandS.Zip
import HandS.Defaults
import HandS.IsInst
import HandS.Walk
import HandS.Evl
import HandS.TupAny
import HandS.TupMul
import KE.GoesNew
import HandS.Deep
import HandS.SortInts
import PySem.Challenge.RW_sectionwise_k03_whole_elements_that_trip
set_option Elab.async false
set_option linter.all false
set_option maxRecDepth 100000
set_option maxHeartbeats 2000000
namespace DL
open PySem PySem.Spec PyProof.Rows L2
open Evl (Ex)

/-! ### data, and how it stands in the heap -/
/-- what a program's value is, without addresses: lists that nobody writes any more are trees -/
inductive D where
  | non | bl (b : Bool) | int (i : Int) | str (x : Str) | lst (xs : List D) | tup (xs : List D)
  /-- a list that only its own slot knows -/
  | own (xs : List D)
  /-- the list of three numbers that draws change -/
  | well
  | ref (a : Addr)
  /-- a built-in class -/
  | ty (n : String)
abbrev Wl := Int × Int × Int
def wl (w : Wl) : List V := [.int w.1, .int w.2.1, .int w.2.2]
mutual
inductive Rep (wa : Addr) (Hf : Hp) : V → D → Prop
  | non : Rep wa Hf .non .non
  | bl (b : Bool) : Rep wa Hf (.bl b) (.bl b)
  | int (i : Int) : Rep wa Hf (.int i) (.int i)
  | str (x : Str) : Rep wa Hf (.str x) (.str x)
  | lst {a : Addr} {xs : List V} {ds : List D} : Hf a = some (.lst xs) → Reps wa Hf xs ds → Rep wa Hf (.ref a) (.lst ds)
  | tup {a : Addr} {xs : List V} {ds : List D} : Hf a = some (.tup xs) → Reps wa Hf xs ds → Rep wa Hf (.ref a) (.tup ds)
  | well : Rep wa Hf (.ref wa) .well
  | ref (a : Addr) : Rep wa Hf (.ref a) (.ref a)
  | ty (n : String) : Rep wa Hf (.ty n) (.ty n)
inductive Reps (wa : Addr) (Hf : Hp) : List V → List D → Prop
  | nil : Reps wa Hf [] []
  | cons {v : V} {vs : List V} {d : D} {ds : List D} : Rep wa Hf v d → Reps wa Hf vs ds → Reps wa Hf (v :: vs) (d :: ds)
end
section
variable {wa : Addr} {Hf Hf' Hf1 H H' H1 : Hp}
mutual
theorem Rep.mono (e : Ex Hf Hf') : ∀ {v : V} {d : D}, Rep wa Hf v d → Rep wa Hf' v d
  | _, _, .non => .non
  | _, _, .bl b => .bl b
  | _, _, .int i => .int i
  | _, _, .str x => .str x
  | _, _, .lst h r => .lst (e _ _ h) (Reps.mono e r)
  | _, _, .tup h r => .tup (e _ _ h) (Reps.mono e r)
  | _, _, .well => .well
  | _, _, .ref a => .ref a
  | _, _, .ty a => .ty a
theorem Reps.mono (e : Ex Hf Hf') : ∀ {vs : List V} {ds : List D}, Reps wa Hf vs ds → Reps wa Hf' vs ds
  | _, _, .nil => .nil
  | _, _, .cons h r => .cons (Rep.mono e h) (Reps.mono e r)
end
theorem Reps.length : ∀ {vs : List V} {ds : List D}, Reps wa Hf vs ds → vs.length = ds.length
  | _, _, .nil => rfl
  | _, _, .cons _ r => by simp [Reps.length r]
theorem Reps.get : ∀ {vs : List V} {ds : List D} {i : Nat} {d : D}, Reps wa Hf vs ds → ds[i]? = some d → ∃ v, vs[i]? = some v ∧ Rep wa Hf v d
  | _, _, _, _, .nil, e => by simp at e
  | _, _, 0, _, .cons r _, e => by simp at e; subst e; exact ⟨_, rfl, r⟩
  | _, _, i + 1, d, .cons _ t, e => by
    obtain ⟨v, h1, h2⟩ := Reps.get (i := i) (d := d) t (by simpa using e)
    exact ⟨v, by simpa using h1, h2⟩
theorem Reps.getV : ∀ {vs : List V} {ds : List D} {i : Nat} {v : V}, Reps wa Hf vs ds → vs[i]? = some v → ∃ d, ds[i]? = some d ∧ Rep wa Hf v d
  | _, _, _, _, .nil, e => by simp at e
  | _, _, 0, _, .cons r _, e => by simp at e; subst e; exact ⟨_, rfl, r⟩
  | _, _, i + 1, d, .cons _ t, e => by
    obtain ⟨v, h1, h2⟩ := Reps.getV (i := i) (v := d) t (by simpa using e)
    exact ⟨v, by simpa using h1, h2⟩
theorem Reps.append : ∀ {vs ws : List V} {ds es : List D}, Reps wa Hf vs ds → Reps wa Hf ws es → Reps wa Hf (vs ++ ws) (ds ++ es)
  | _, _, _, _, .nil, s => s
  | _, _, _, _, .cons r t, s => .cons r (Reps.append t s)
theorem Reps.take : ∀ {vs : List V} {ds : List D} (n : Nat), Reps wa Hf vs ds → Reps wa Hf (vs.take n) (ds.take n)
  | _, _, 0, _ => .nil
  | _, _, _ + 1, .nil => .nil
  | _, _, n + 1, .cons r t => .cons r (Reps.take n t)
theorem Reps.drop : ∀ {vs : List V} {ds : List D} (n : Nat), Reps wa Hf vs ds → Reps wa Hf (vs.drop n) (ds.drop n)
  | _, _, 0, r => r
  | _, _, _ + 1, .nil => .nil
  | _, _, n + 1, .cons _ t => Reps.drop n t
theorem Reps.reverse : ∀ {vs : List V} {ds : List D}, Reps wa Hf vs ds → Reps wa Hf vs.reverse ds.reverse
  | _, _, .nil => .nil
  | _, _, .cons r t => by
    rw [List.reverse_cons, List.reverse_cons]
    exact (Reps.reverse t).append (.cons r .nil)
theorem Reps.rep {vs : List V} {ds : List D} (h : Reps wa Hf vs ds) : ∀ k : Nat, Reps wa Hf (List.replicate k vs).flatten (List.replicate k ds).flatten
  | 0 => .nil
  | k + 1 => by
    rw [List.replicate_succ, List.replicate_succ, List.flatten_cons, List.flatten_cons]
    exact h.append (h.rep k)
theorem Reps.ints : ∀ {vs : List V} {ns : List Int}, Reps wa Hf vs (ns.map D.int) → vs = ns.map V.int
  | _, [], h => by cases h; rfl
  | _, n :: ns, h => by
    cases h with
    | cons h1 h2 =>
      cases h1
      rw [Reps.ints h2]
      rfl
theorem Reps.bls : ∀ {vs : List V} {ns : List Bool}, Reps wa Hf vs (ns.map D.bl) → vs = ns.map V.bl
  | _, [], h => by cases h; rfl
  | _, n :: ns, h => by
    cases h with
    | cons h1 h2 =>
      cases h1
      rw [Reps.bls h2]
      rfl
theorem Reps.of_ints : ∀ {ns : List Int}, Reps wa Hf (ns.map V.int) (ns.map D.int)
  | [] => .nil
  | n :: ns => .cons (.int n) Reps.of_ints

/-- the frozen part is there, and the well -/
structure Base (wa : Addr) (Hf H : Hp) (w : Wl) : Prop where
  ex : Ex Hf H
  well : H wa = some (.lst (wl w))
  nw : Hf wa = none
/-- from a heap to a later one -/
structure Go (wa : Addr) (H Hf H' Hf' : Hp) : Prop where
  keep : ∀ a o, a ≠ wa → H a = some o → H' a = some o
  ex : Ex Hf Hf'
  new : ∀ a o, H a = some o → Hf' a = Hf a
  there : ∀ a o, H a = some o → ∃ o', H' a = some o'
theorem Go.refl : Go wa H Hf H Hf := ⟨fun _ _ _ h => h, Ex.refl _, fun _ _ _ => rfl, fun _ o h => ⟨o, h⟩⟩
theorem Go.trans (a : Go wa H Hf H1 Hf1) (b : Go wa H1 Hf1 H' Hf') : Go wa H Hf H' Hf' :=
  ⟨fun x o n h => b.keep x o n (a.keep x o n h), a.ex.trans b.ex, fun x o h => by
    obtain ⟨o', h'⟩ := a.there x o h
    rw [b.new x o' h', a.new x o h], fun x o h => by
    obtain ⟨o', h'⟩ := a.there x o h
    exact b.there x o' h'⟩
theorem Go.free (g : Go wa H Hf H' Hf') {p : Addr} (h : H' p = none) : H p = none := by
  cases q : H p with
  | none => rfl
  | some o =>
    obtain ⟨o', e⟩ := g.there p o q
    rw [h] at e
    cases e
/-- a new object, not frozen -/
theorem Go.new1 {p : Addr} {o : HO} (h : H p = none) : Go wa H Hf (upd H p o) Hf :=
  ⟨fun a u _ e => by rw [upd_ne (ne_of_none e h)]; exact e, Ex.refl _, fun _ _ _ => rfl, fun a u e => ⟨u, by rw [upd_ne (ne_of_none e h)]; exact e⟩⟩
/-- a new object, frozen at once -/
theorem Go.newF {p : Addr} {o : HO} (x : Ex Hf H) (h : H p = none) : Go wa H Hf (upd H p o) (upd Hf p o) :=
  have hf : Hf p = none := Evl.fresh_back x h
  ⟨fun a u _ e => by rw [upd_ne (ne_of_none e h)]; exact e, Ex.new hf, fun a u e => by rw [upd_ne (ne_of_none e h)], fun a u e => ⟨u, by rw [upd_ne (ne_of_none e h)]; exact e⟩⟩
theorem Base.new1 {w : Wl} {p : Addr} {o : HO} (b : Base wa Hf H w) (h : H p = none) : Base wa Hf (upd H p o) w :=
  ⟨b.ex.trans (Ex.new h), by rw [upd_ne (ne_of_none b.well h)]; exact b.well, b.nw⟩
theorem ex_upd2 {p : Addr} {o : HO} (x : Ex Hf H) : Ex (upd Hf p o) (upd H p o) := fun a u e => by
  by_cases hp : a = p
  · subst hp; rw [upd_same] at e ⊢; exact e
  · rw [upd_ne hp] at e ⊢; exact x a u e
theorem Base.newF {w : Wl} {p : Addr} {o : HO} (b : Base wa Hf H w) (h : H p = none) : Base wa (upd Hf p o) (upd H p o) w :=
  ⟨ex_upd2 b.ex, by rw [upd_ne (ne_of_none b.well h)]; exact b.well, by rw [upd_ne (ne_of_none b.well h)]; exact b.nw⟩
end

/-! ### what comes of a piece of code -/
structure Exn where
  name : Str
  fs : List (Str × D)
inductive R (α : Type) where
  | ok (a : α) (w : Wl) | er (x : Exn) (w : Wl) | no
def R.bind {α β : Type} (r : R α) (k : α → Wl → R β) : R β := match r with
  | .ok a w => k a w
  | .er x w => .er x w
  | .no => .no
def R.noer {α : Type} (r : R α) : R α := match r with
  | .ok a w => .ok a w
  | _ => .no
@[simp] theorem R.bind_ok {α β : Type} {a : α} {w : Wl} {k : α → Wl → R β} : (R.ok a w).bind k = k a w := rfl
@[simp] theorem R.bind_er {α β : Type} {x : Exn} {w : Wl} {k : α → Wl → R β} : (R.er x w).bind k = .er x w := rfl
@[simp] theorem R.bind_no {α β : Type} {k : α → Wl → R β} : (R.no).bind k = .no := rfl
@[simp] theorem R.noer_ok {α : Type} {a : α} {w : Wl} : (R.ok a w).noer = .ok a w := rfl
abbrev Sl := List (Option D)
abbrev DE := Sl → Wl → R D
abbrev DT := Sl → Wl → R Bool
abbrev DA := Sl → Wl → R (List D)
abbrev DG := D → Sl → Option Sl
inductive RS where
  | nx (s : Sl) (w : Wl) | rt (d : D) (w : Wl) | bk (s : Sl) (w : Wl) | ct (s : Sl) (w : Wl) | er (x : Exn) (s : Sl) (w : Wl) | no
abbrev DS := Sl → Wl → RS
abbrev DF := List D → Wl → R D

/-- what an exception is -/
def ErrV (mg : Str → Option Value) (wa : Addr) (Hf : Hp) (x : Exn) (cls : Value) (dx : Option Addr) : Prop :=
  ∃ (C d : Addr) (vs : List (Str × V)), mg x.name = some (.ref C) ∧ cls = .ref C ∧ dx = some d ∧ Hf d = some (.xd vs) ∧ vs.map (·.1) = x.fs.map (·.1) ∧ Reps wa Hf (vs.map (·.2)) (x.fs.map (·.2))
def Fin {α : Type} (wa : Addr) (Hf H : Hp) (r : R α) (Ok : α → Wl → Hp → Hp → Prop) (Er : Exn → Wl → Hp → Hp → Prop) : Prop := match r with
  | .ok a w' => ∀ H' Hf', Go wa H Hf H' Hf' → Base wa Hf' H' w' → Ok a w' H' Hf'
  | .er x w' => ∀ H' Hf', Go wa H Hf H' Hf' → Base wa Hf' H' w' → Er x w' H' Hf'
  | .no => False
section
variable {wa : Addr} {Hf H : Hp} {α β : Type}
theorem Fin.bind {r : R α} {k : α → Wl → R β} {Ok : β → Wl → Hp → Hp → Prop} {Er : Exn → Wl → Hp → Hp → Prop} (h : Fin wa Hf H (r.bind k) Ok Er) :
    Fin wa Hf H r (fun a w1 H1 Hf1 => Fin wa Hf1 H1 (k a w1) Ok Er) Er := by
  cases r with
  | ok a w1 =>
    intro H1 Hf1 g b
    have h : Fin wa Hf H (k a w1) Ok Er := h
    cases e : k a w1 with
    | ok a2 w2 => rw [e] at h; exact fun H2 Hf2 g2 b2 => h H2 Hf2 (g.trans g2) b2
    | er x w2 => rw [e] at h; exact fun H2 Hf2 g2 b2 => h H2 Hf2 (g.trans g2) b2
    | no => rw [e] at h; exact h
  | er x w1 => exact h
  | no => exact h
theorem Fin.mono {r : R α} {Ok Ok' : α → Wl → Hp → Hp → Prop} {Er Er' : Exn → Wl → Hp → Hp → Prop} (h : Fin wa Hf H r Ok Er)
    (ho : ∀ a w' H' Hf', Go wa H Hf H' Hf' → Base wa Hf' H' w' → Ok a w' H' Hf' → Ok' a w' H' Hf') (he : ∀ x w' H' Hf', Go wa H Hf H' Hf' → Base wa Hf' H' w' → Er x w' H' Hf' → Er' x w' H' Hf') : Fin wa Hf H r Ok' Er' := by
  cases r with
  | ok a w1 => exact fun H1 Hf1 g b => ho _ _ _ _ g b (h H1 Hf1 g b)
  | er x w1 => exact fun H1 Hf1 g b => he _ _ _ _ g b (h H1 Hf1 g b)
  | no => exact h
theorem Fin.here {a : α} {w : Wl} {Ok : α → Wl → Hp → Hp → Prop} {Er : Exn → Wl → Hp → Hp → Prop} (h : Fin wa Hf H (.ok a w) Ok Er) (b : Base wa Hf H w) : Ok a w H Hf := h H Hf Go.refl b
theorem Fin.noer {r : R α} {Ok : α → Wl → Hp → Hp → Prop} {Er Er' : Exn → Wl → Hp → Hp → Prop} (h : Fin wa Hf H r.noer Ok Er) : Fin wa Hf H r Ok Er' := by
  cases r with
  | ok a w1 => exact h
  | er x w1 => exact False.elim h
  | no => exact h
end

/-! ### slots -/
structure Slots (wa : Addr) (Hf H : Hp) (σ : L2.St) (s : Sl) : Prop where
  len : σ.length = s.length
  val : ∀ (i : Nat) (d : D), s[i]? = some (some d) → (∀ xs, d ≠ D.own xs) → ∃ v, σ[i]? = some (some v) ∧ Rep wa Hf v d
  own : ∀ (i : Nat) (xs : List D), s[i]? = some (some (.own xs)) → ∃ p vs, σ[i]? = some (some (.ref p)) ∧ H p = some (.lst vs) ∧ Hf p = none ∧ p ≠ wa ∧ Reps wa Hf vs xs
  inj : ∀ (i j : Nat) (xs ys : List D) (p : Addr), s[i]? = some (some (.own xs)) → s[j]? = some (some (.own ys)) → σ[i]? = some (some (.ref p)) → σ[j]? = some (some (.ref p)) → i = j
def OwnNew (H0 : Hp) (σ : L2.St) (s : Sl) : Prop := ∀ (i : Nat) (xs : List D) (p : Addr), s[i]? = some (some (.own xs)) → σ[i]? = some (some (.ref p)) → H0 p = none
theorem rep_own {wa : Addr} {Hf : Hp} {v : V} {xs : List D} : ¬ Rep wa Hf v (.own xs) := fun h => nomatch h
section
variable {wa : Addr} {Hf Hf' H H' H0 : Hp} {σ : L2.St} {s : Sl}
theorem Slots.go (x : Slots wa Hf H σ s) (g : Go wa H Hf H' Hf') : Slots wa Hf' H' σ s :=
  ⟨x.len, fun i d e n => let ⟨v, h1, h2⟩ := x.val i d e n; ⟨v, h1, h2.mono g.ex⟩, fun i xs e => by
    obtain ⟨p, vs, h1, h2, h3, h4, h5⟩ := x.own i xs e
    exact ⟨p, vs, h1, g.keep p _ h4 h2, (g.new p _ h2).trans h3, h4, h5.mono g.ex⟩, x.inj⟩
theorem Slots.set (x : Slots wa Hf H σ s) {i : Nat} {v : V} {d : D} (r : Rep wa Hf v d) : Slots wa Hf H (σ.set i (some v)) (s.set i (some d)) := by
  have nd : ∀ xs, d ≠ .own xs := fun xs z => by subst z; exact rep_own r
  have key : ∀ (j : Nat) (e : Option D), (s.set i (some d))[j]? = some e → (j = i ∧ e = some d ∧ (σ.set i (some v))[j]? = some (some v)) ∨ (j ≠ i ∧ s[j]? = some e ∧ (σ.set i (some v))[j]? = σ[j]?) := fun j e h => by
    by_cases hj : j = i
    · subst hj
      rw [List.getElem?_set] at h
      split at h
      · split at h
        · rename_i h1 h2
          refine .inl ⟨rfl, (Option.some.inj h).symm, ?_⟩
          rw [List.getElem?_set_self (by rw [x.len]; exact h2)]
        · cases h
      · rename_i h1
        exact absurd rfl h1
    · refine .inr ⟨hj, ?_, List.getElem?_set_ne (Ne.symm hj)⟩
      rw [List.getElem?_set_ne (Ne.symm hj)] at h
      exact h
  refine ⟨by simp [x.len], fun j e h n => ?_, fun j xs h => ?_, fun j k xs ys p h1 h2 h3 h4 => ?_⟩
  · rcases key j _ h with ⟨rfl, e1, e2⟩ | ⟨_, e1, e2⟩
    · cases e1
      exact ⟨v, e2, r⟩
    · rw [e2]
      exact x.val j e e1 n
  · rcases key j _ h with ⟨rfl, e1, e2⟩ | ⟨_, e1, e2⟩
    · cases e1
      exact absurd rfl (nd xs)
    · rw [e2]
      exact x.own j xs e1
  · rcases key j _ h1 with ⟨_, e1, _⟩ | ⟨_, e1, e2⟩
    · cases e1
      exact absurd rfl (nd xs)
    · rcases key k _ h2 with ⟨_, f1, _⟩ | ⟨_, f1, f2⟩
      · cases f1
        exact absurd rfl (nd ys)
      · rw [e2] at h3
        rw [f2] at h4
        exact x.inj j k xs ys p e1 f1 h3 h4
theorem OwnNew.set (x : OwnNew H0 σ s) {i : Nat} {v : V} {d : D} (nd : ∀ xs, d ≠ .own xs) : OwnNew H0 (σ.set i (some v)) (s.set i (some d)) := fun j xs p h1 h2 => by
  by_cases hj : j = i
  · subst hj
    rw [List.getElem?_set] at h1
    split at h1
    · split at h1
      · cases h1
        exact absurd rfl (nd xs)
      · cases h1
    · rename_i hne
      exact absurd rfl hne
  · rw [List.getElem?_set_ne (Ne.symm hj)] at h1 h2
    exact x j xs p h1 h2
/-- a new list into a slot -/
theorem Slots.setOwn (x : Slots wa Hf H σ s) {i : Nat} {p : Addr} {vs : List V} {xs : List D} (hp : H p = some (.lst vs)) (hf : Hf p = none) (hw : p ≠ wa) (r : Reps wa Hf vs xs)
    (hn : ∀ (j : Nat) (ys : List D), s[j]? = some (some (.own ys)) → σ[j]? ≠ some (some (.ref p))) : Slots wa Hf H (σ.set i (some (.ref p))) (s.set i (some (.own xs))) := by
  have key : ∀ (j : Nat) (e : Option D), (s.set i (some (.own xs)))[j]? = some e → (j = i ∧ e = some (.own xs) ∧ (σ.set i (some (.ref p)))[j]? = some (some (.ref p))) ∨ (j ≠ i ∧ s[j]? = some e ∧ (σ.set i (some (.ref p)))[j]? = σ[j]?) := fun j e h => by
    by_cases hj : j = i
    · subst hj
      rw [List.getElem?_set] at h
      split at h
      · split at h
        · rename_i h1 h2
          refine .inl ⟨rfl, (Option.some.inj h).symm, ?_⟩
          rw [List.getElem?_set_self (by rw [x.len]; exact h2)]
        · cases h
      · rename_i h1
        exact absurd rfl h1
    · refine .inr ⟨hj, ?_, List.getElem?_set_ne (Ne.symm hj)⟩
      rw [List.getElem?_set_ne (Ne.symm hj)] at h
      exact h
  refine ⟨by simp [x.len], fun j e h n => ?_, fun j ys h => ?_, fun j k ys zs q h1 h2 h3 h4 => ?_⟩
  · rcases key j _ h with ⟨rfl, e1, e2⟩ | ⟨_, e1, e2⟩
    · cases e1
      exact absurd rfl (n xs)
    · rw [e2]
      exact x.val j e e1 n
  · rcases key j _ h with ⟨rfl, e1, e2⟩ | ⟨_, e1, e2⟩
    · cases e1
      exact ⟨p, vs, e2, hp, hf, hw, r⟩
    · rw [e2]
      exact x.own j ys e1
  · rcases key j _ h1 with ⟨hji, e1, e2⟩ | ⟨hji, e1, e2⟩
    · rcases key k _ h2 with ⟨hki, f1, f2⟩ | ⟨_, f1, f2⟩
      · rw [hji, hki]
      · rw [e2] at h3
        cases h3
        rw [f2] at h4
        exact absurd h4 (hn k zs f1)
    · rcases key k _ h2 with ⟨_, f1, f2⟩ | ⟨_, f1, f2⟩
      · rw [f2] at h4
        cases h4
        rw [e2] at h3
        exact absurd h3 (hn j ys e1)
      · rw [e2] at h3
        rw [f2] at h4
        exact x.inj j k ys zs q e1 f1 h3 h4
theorem OwnNew.setOwn (x : OwnNew H0 σ s) {i : Nat} {p : Addr} {xs : List D} (hl : σ.length = s.length) (h0 : H0 p = none) : OwnNew H0 (σ.set i (some (.ref p))) (s.set i (some (.own xs))) := fun j ys q h1 h2 => by
  by_cases hj : j = i
  · subst hj
    rw [List.getElem?_set] at h1
    split at h1
    · split at h1
      · rename_i _ hlt
        rw [List.getElem?_set_self (by rw [hl]; exact hlt)] at h2
        cases h2
        exact h0
      · cases h1
    · rename_i hne
      exact absurd rfl hne
  · rw [List.getElem?_set_ne (Ne.symm hj)] at h1 h2
    exact x j ys q h1 h2
/-- a slot's own list is written -/
theorem Slots.write (x : Slots wa Hf H σ s) {i : Nat} {xs ys : List D} {p : Addr} {ws : List V} (hi : s[i]? = some (some (.own xs))) (hp : σ[i]? = some (some (.ref p))) (r : Reps wa Hf ws ys) :
    Slots wa Hf (upd H p (.lst ws)) σ (s.set i (some (.own ys))) := by
  have hlt : i < s.length := (List.getElem?_eq_some_iff.mp hi).1
  have key : ∀ (j : Nat) (e : Option D), (s.set i (some (.own ys)))[j]? = some e → (j = i ∧ e = some (.own ys)) ∨ (j ≠ i ∧ s[j]? = some e) := fun j e h => by
    by_cases hj : j = i
    · subst hj
      rw [List.getElem?_set_self hlt] at h
      exact .inl ⟨rfl, (Option.some.inj h).symm⟩
    · rw [List.getElem?_set_ne (Ne.symm hj)] at h
      exact .inr ⟨hj, h⟩
  obtain ⟨p', vs, h1, h2, h3, h4, h5⟩ := x.own i xs hi
  rw [hp] at h1
  cases h1
  refine ⟨by simp [x.len], fun j e h n => ?_, fun j zs h => ?_, fun j k zs us q e1 e2 e3 e4 => ?_⟩
  · rcases key j _ h with ⟨_, e1⟩ | ⟨_, e1⟩
    · cases e1
      exact absurd rfl (n ys)
    · exact x.val j e e1 n
  · rcases key j _ h with ⟨rfl, e1⟩ | ⟨hj, e1⟩
    · cases e1
      exact ⟨p, ws, hp, upd_same, h3, h4, r⟩
    · obtain ⟨q, us, k1, k2, k3, k4, k5⟩ := x.own j zs e1
      have hne : q ≠ p := fun z => by
        subst z
        exact hj (x.inj j i zs xs q e1 hi k1 hp)
      exact ⟨q, us, k1, by rw [upd_ne hne]; exact k2, k3, k4, k5⟩
  · have o1 : ∃ z, s[j]? = some (some (.own z)) := by
      rcases key j _ e1 with ⟨rfl, _⟩ | ⟨_, f⟩
      · exact ⟨xs, hi⟩
      · exact ⟨zs, f⟩
    have o2 : ∃ z, s[k]? = some (some (.own z)) := by
      rcases key k _ e2 with ⟨rfl, _⟩ | ⟨_, f⟩
      · exact ⟨xs, hi⟩
      · exact ⟨us, f⟩
    obtain ⟨z1, o1⟩ := o1
    obtain ⟨z2, o2⟩ := o2
    exact x.inj j k z1 z2 q o1 o2 e3 e4
/-- a slot's own list is read from now on -/
theorem Slots.frz (x : Slots wa Hf H σ s) {i : Nat} {xs : List D} {p : Addr} {vs : List V} (hi : s[i]? = some (some (.own xs))) (hp : σ[i]? = some (some (.ref p))) (hv : H p = some (.lst vs)) :
    Slots wa (upd Hf p (.lst vs)) H σ (s.set i (some (.lst xs))) := by
  have hlt : i < s.length := (List.getElem?_eq_some_iff.mp hi).1
  obtain ⟨p', vs', h1, h2, h3, h4, h5⟩ := x.own i xs hi
  rw [hp] at h1
  cases h1
  rw [hv] at h2
  cases h2
  have e0 : Ex Hf (upd Hf p (.lst vs)) := Ex.new h3
  have key : ∀ (j : Nat) (e : Option D), (s.set i (some (.lst xs)))[j]? = some e → (j = i ∧ e = some (.lst xs)) ∨ (j ≠ i ∧ s[j]? = some e) := fun j e h => by
    by_cases hj : j = i
    · subst hj
      rw [List.getElem?_set_self hlt] at h
      exact .inl ⟨rfl, (Option.some.inj h).symm⟩
    · rw [List.getElem?_set_ne (Ne.symm hj)] at h
      exact .inr ⟨hj, h⟩
  refine ⟨by simp [x.len], fun j e h n => ?_, fun j zs h => ?_, fun j k zs us q e1 e2 e3 e4 => ?_⟩
  · rcases key j _ h with ⟨rfl, e1⟩ | ⟨_, e1⟩
    · cases e1
      exact ⟨_, hp, .lst upd_same (h5.mono e0)⟩
    · obtain ⟨v, k1, k2⟩ := x.val j e e1 n
      exact ⟨v, k1, k2.mono e0⟩
  · rcases key j _ h with ⟨_, e1⟩ | ⟨hj, e1⟩
    · cases e1
    · obtain ⟨q, us, k1, k2, k3, k4, k5⟩ := x.own j zs e1
      have hne : q ≠ p := fun z => by
        subst z
        exact hj (x.inj j i zs xs q e1 hi k1 hp)
      exact ⟨q, us, k1, k2, by rw [upd_ne hne]; exact k3, k4, k5.mono e0⟩
  · rcases key j _ e1 with ⟨_, f⟩ | ⟨_, f⟩
    · cases f
    · rcases key k _ e2 with ⟨_, f2⟩ | ⟨_, f2⟩
      · cases f2
      · exact x.inj j k zs us q f f2 e3 e4
theorem OwnNew.sub {s' : Sl} (x : OwnNew H0 σ s) (h : ∀ (i : Nat) xs, s'[i]? = some (some (.own xs)) → ∃ ys, s[i]? = some (some (.own ys))) : OwnNew H0 σ s' := fun i xs p h1 h2 => by
  obtain ⟨ys, e⟩ := h i xs h1
  exact x i ys p e h2
end
end DL

set_option maxHeartbeats 2000000
namespace DL
open PySem PySem.Spec PyProof.Rows L2
open Evl (Ex)
abbrev Rl (β α : Type) := Addr → Hp → β → α → Prop
abbrev rD : Rl V D := Rep
abbrev rAs : Rl (List V) (List D) := Reps
abbrev rB : Rl Bool Bool := fun _ _ b c => b = c
abbrev rO : Rl (Option Int) (Option Int) := fun _ _ b c => b = c
/-- a fresh list -/
abbrev Er (mg : Str → Option Value) (W : WX) (wa : Addr) (σ : L2.St) : Exn → Wl → Hp → Hp → Prop := fun x _ H' Hf' => ∀ cls dx, ErrV mg wa Hf' x cls dx → W cls dx σ H'
def lf {α β : Type} (rel : Rl β α) (mg : Str → Option Value) (W : WX) (E : Sl → Wl → R α) : L2.St → Hp → (β → Hp → Prop) → Prop := fun σ H Q =>
  ∃ wa Hf sD w, Base wa Hf H w ∧ Slots wa Hf H σ sD ∧ Fin wa Hf H (E sD w) (fun d _ H' Hf' => ∀ v, rel wa Hf' v d → Q v H') (Er mg W wa σ)
/-- the same, the value a list that is new -/
def lfL (mg : Str → Option Value) (W : WX) (E : Sl → Wl → R (List D)) : TE := fun σ H Q =>
  ∃ wa Hf sD w, Base wa Hf H w ∧ Slots wa Hf H σ sD ∧ Fin wa Hf H (E sD w) (fun ds _ H' Hf' => ∀ p vs, H p = none → H' p = some (.lst vs) → Hf' p = none → p ≠ wa → Reps wa Hf' vs ds → Q (.ref p) H') (Er mg W wa σ)
abbrev lE := lf rD
abbrev lA := lf rAs
abbrev lT := lf rB
abbrev lO := lf rO
section
variable {α β γ δ : Type} {X : Cx} {mg : Str → Option Value} {W : WX} {e a b c : Expr} {pos : Pos} {σ : L2.St} {H : Hp}
theorem weakE {t t' : TE} (h : PE X e t) (i : ∀ σ H Q, t' σ H Q → t σ H Q) : PE X e t' := ⟨fun pins s σ H Q I q => h.run pins s σ H Q I (i σ H Q q)⟩
theorem weakT {t t' : TT} (h : PT X e t) (i : ∀ σ H Q, t' σ H Q → t σ H Q) : PT X e t' := ⟨fun pins s σ H Q I q => h.run pins s σ H Q I (i σ H Q q)⟩
theorem weakW {t t' : TT} (h : PW X e t) (i : ∀ σ H Q, t' σ H Q → t σ H Q) : PW X e t' := ⟨fun wh pins s σ H Q I q => h.run wh pins s σ H Q I (i σ H Q q)⟩
theorem weakA {es : List Expr} {t t' : TA} (h : PA X es t) (i : ∀ σ H Q, t' σ H Q → t σ H Q) : PA X es t' := ⟨fun p pins s σ H Q I q => h.run p pins s σ H Q I (i σ H Q q)⟩
theorem weakO {o : Option Expr} {t t' : TO} (h : PO X o t) (i : ∀ σ H Q, t' σ H Q → t σ H Q) : PO X o t' := ⟨fun pins s σ H Q I q => h.run pins s σ H Q I (i σ H Q q)⟩
theorem orE {t t' : TE} (h : PE X e t) (h' : PE X e t') : PE X e (fun σ H Q => t σ H Q ∨ t' σ H Q) := ⟨fun pins s σ H Q I q => q.elim (fun q => h.run pins s σ H Q I q) fun q => h'.run pins s σ H Q I q⟩
theorem orT {t t' : TT} (h : PT X e t) (h' : PT X e t') : PT X e (fun σ H Q => t σ H Q ∨ t' σ H Q) := ⟨fun pins s σ H Q I q => q.elim (fun q => h.run pins s σ H Q I q) fun q => h'.run pins s σ H Q I q⟩
/-! ### names, constants -/
def getS (s : Sl) (i : Nat) : Option D := match s[i]? with
  | some (some (.own _)) => none
  | some (some d) => some d
  | _ => none
def eVar (i : Nat) : DE := fun s w => match getS s i with
  | some d => .ok d w
  | none => .no
def eC (d : D) : DE := fun _ w => .ok d w
theorem getS_some {wa : Addr} {Hf : Hp} {s : Sl} {i : Nat} {d : D} (x : Slots wa Hf H σ s) (h : getS s i = some d) : ∃ v, σ[i]? = some (some v) ∧ Rep wa Hf v d := by
  unfold getS at h
  split at h
  · cases h
  · rename_i d' hn hi
    cases h
    exact x.val i d hi fun xs z => hn xs z
  · cases h
theorem pd_var (i : Nat) {x : Str} (hN : X.N[i]? = some x := by rfl) (hv : Vis X.env.scope x := by first | exact Or.inl rfl | exact Or.inr (Or.inl rfl) | exact Or.inr (Or.inr rfl)) (hd : (x == ("__debug__" : Str)) = false := by decide)
    (hcd : (x == ("__classdict__" : Str)) = false := by decide) : PE X (.Name x pos) (lE mg W (eVar i)) := weakE (pe_var hN hv hd hcd) fun σ H Q h => by
  obtain ⟨wa, Hf, sD, w, hb, hs, hf⟩ := h
  unfold eVar at hf
  split at hf
  · rename_i d hi
    obtain ⟨v, h1, h2⟩ := getS_some hs hi
    exact ⟨v, h1, hf.here hb v h2⟩
  · exact hf.elim
theorem pd_c {v : V} {d : D} (h : PE X e (tC v)) (r : ∀ wa Hf, Rep wa Hf v d) : PE X e (lE mg W (eC d)) := weakE h fun σ H Q h => by
  obtain ⟨wa, Hf, sD, w, hb, hs, hf⟩ := h
  exact hf.here hb v (r _ _)
theorem pd_int {i j} : PE X (.Constant (.int i) j pos) (lE mg W (eC (.int i))) := pd_c pe_int fun _ _ => .int i
theorem pd_bl {i j} : PE X (.Constant (.bool i) j pos) (lE mg W (eC (.bl i))) := pd_c pe_bl fun _ _ => .bl i
theorem pd_non {j} : PE X (.Constant .none j pos) (lE mg W (eC .non)) := pd_c pe_non fun _ _ => .non
theorem pd_str {i j} : PE X (.Constant (.str i) j pos) (lE mg W (eC (.str i))) := pd_c pe_str fun _ _ => .str i
theorem pd_globI {x : Str} {i : Int} {t : Tok} (hg : Gl X x) (hm : X.mg x = some (.int i t)) (hd : (x == ("__debug__" : Str)) = false := by decide) : PE X (.Name x pos) (lE mg W (eC (.int i))) := pd_c (pe_glob hg hm (v := .int i) ⟨t, rfl⟩ hd) fun _ _ => .int i
theorem pd_ty {x : Str} {n : String} (hg : Gl X x) (hm : X.mg x = none) (hv : bootBuiltins x = some (.type n)) (hn : x ≠ "__name__" := by decide) (hd : (x == ("__debug__" : Str)) = false := by decide) : PE X (.Name x pos) (lE mg W (eC (.ty n))) :=
  pd_c (pe_bltn (v := .ty n) hg hm hv rfl hn hd) fun _ _ => .ty n

/-! ### operations on values -/
/-- a two-place rule does what f tells -/
def OpD (r : R2) (f : Wl → D → D → Option D) : Prop := ∀ wa Hf H w x y u v z Q, Base wa Hf H w → Rep wa Hf u x → Rep wa Hf v y → f w x y = some z →
  (∀ H' Hf', Go wa H Hf H' Hf' → Base wa Hf' H' w → ∀ v', Rep wa Hf' v' z → Q v' H') → r u v H Q
def UnD (r : V → Hp → VK → Prop) (f : Wl → D → Option D) : Prop := ∀ wa Hf H w x u z Q, Base wa Hf H w → Rep wa Hf u x → f w x = some z →
  (∀ H' Hf', Go wa H Hf H' Hf' → Base wa Hf' H' w → ∀ v', Rep wa Hf' v' z → Q v' H') → r u H Q
def CaD (r : List V → Hp → VK → Prop) (f : Wl → List D → Option D) : Prop := ∀ wa Hf H w ds us z Q, Base wa Hf H w → Reps wa Hf us ds → f w ds = some z →
  (∀ H' Hf', Go wa H Hf H' Hf' → Base wa Hf' H' w → ∀ v', Rep wa Hf' v' z → Q v' H') → r us H Q
/-- a call that makes a list -/
def CaL (r : List V → Hp → VK → Prop) (f : Wl → List D → Option (List D)) : Prop := ∀ wa Hf H w ds us zs Q, Base wa Hf H w → Reps wa Hf us ds → f w ds = some zs →
  (∀ H' Hf' p vs, Go wa H Hf H' Hf' → Base wa Hf' H' w → H p = none → H' p = some (.lst vs) → Hf' p = none → p ≠ wa → Reps wa Hf' vs zs → Q (.ref p) H') → r us H Q
def OpL (r : R2) (f : Wl → D → D → Option (List D)) : Prop := ∀ wa Hf H w x y u v zs Q, Base wa Hf H w → Rep wa Hf u x → Rep wa Hf v y → f w x y = some zs →
  (∀ H' Hf' p vs, Go wa H Hf H' Hf' → Base wa Hf' H' w → H p = none → H' p = some (.lst vs) → Hf' p = none → p ≠ wa → Reps wa Hf' vs zs → Q (.ref p) H') → r u v H Q
def opt {α : Type} (o : Option α) (w : Wl) : R α := match o with
  | some z => .ok z w
  | none => .no
@[simp] theorem opt_some {α : Type} {z : α} {w : Wl} : opt (some z) w = .ok z w := rfl
@[simp] theorem opt_none {α : Type} {w : Wl} : opt (none : Option α) w = .no := rfl
theorem Fin.opt {α : Type} {wa : Addr} {Hf H : Hp} {o : Option α} {w : Wl} {Ok : α → Wl → Hp → Hp → Prop} {Er : Exn → Wl → Hp → Hp → Prop} (h : Fin wa Hf H (opt o w) Ok Er) : ∃ z, o = some z ∧ ∀ H' Hf', Go wa H Hf H' Hf' → Base wa Hf' H' w → Ok z w H' Hf' := by
  cases o with
  | none => exact h.elim
  | some z => exact ⟨z, rfl, h⟩
def eBin (f : Wl → D → D → Option D) (A B : DE) : DE := fun s w => (A s w).bind fun x w1 => (B s w1).bind fun y w2 => opt (f w2 x y) w2
def eUn (f : Wl → D → Option D) (A : DE) : DE := fun s w => (A s w).bind fun x w1 => opt (f w1 x) w1
def eCB (f : Wl → List D → Option D) (A : DA) : DE := fun s w => (A s w).bind fun x w1 => opt (f w1 x) w1
variable {A B C : DE} {r r' : R2} {f g : Wl → D → D → Option D}

theorem bin_ok {Q : VK} (hf : OpD r f) (h : lE mg W (eBin f A B) σ H Q) : tOp r (lE mg W A) (lE mg W B) σ H Q := by
  obtain ⟨wa, Hf, sD, w, hb, hs, h⟩ := h
  refine ⟨wa, Hf, sD, w, hb, hs, h.bind.mono (fun x w1 H1 Hf1 g1 b1 q v rv => ?_) (fun _ _ _ _ _ _ q => q)⟩
  refine ⟨wa, Hf1, sD, w1, b1, hs.go g1, q.bind.mono (fun y w2 H2 Hf2 g2 b2 q2 v2 rv2 => ?_) (fun _ _ _ _ _ _ q => q)⟩
  obtain ⟨z, e, q3⟩ := q2.opt
  exact hf wa Hf2 H2 w2 x y v v2 z Q b2 (rv.mono g2.ex) rv2 e q3
theorem un_ok {Q : VK} {r : V → Hp → VK → Prop} {f : Wl → D → Option D} (hf : UnD r f) (h : lE mg W (eUn f A) σ H Q) : tUn r (lE mg W A) σ H Q := by
  obtain ⟨wa, Hf, sD, w, hb, hs, h⟩ := h
  refine ⟨wa, Hf, sD, w, hb, hs, h.bind.mono (fun x w1 H1 Hf1 g1 b1 q v rv => ?_) (fun _ _ _ _ _ _ q => q)⟩
  obtain ⟨z, e, q3⟩ := q.opt
  exact hf wa Hf1 H1 w1 x v z Q b1 rv e q3
theorem cb_ok {Q : VK} {r : List V → Hp → VK → Prop} {f : Wl → List D → Option D} {A : DA} (hf : CaD r f) (h : lE mg W (eCB f A) σ H Q) : tCB r (lA mg W A) σ H Q := by
  obtain ⟨wa, Hf, sD, w, hb, hs, h⟩ := h
  refine ⟨wa, Hf, sD, w, hb, hs, h.bind.mono (fun x w1 H1 Hf1 g1 b1 q v rv => ?_) (fun _ _ _ _ _ _ q => q)⟩
  obtain ⟨z, e, q3⟩ := q.opt
  exact hf wa Hf1 H1 w1 x v z Q b1 rv e q3
def eCBL (f : Wl → List D → Option (List D)) (A : DA) : DA := fun s w => (A s w).bind fun x w1 => opt (f w1 x) w1
def eBinL (f : Wl → D → D → Option (List D)) (A B : DE) : DA := fun s w => (A s w).bind fun x w1 => (B s w1).bind fun y w2 => opt (f w2 x y) w2
theorem cbL_ok {Q : VK} {r : List V → Hp → VK → Prop} {f : Wl → List D → Option (List D)} {A : DA} (hf : CaL r f) (h : lfL mg W (eCBL f A) σ H Q) : tCB r (lA mg W A) σ H Q := by
  obtain ⟨wa, Hf, sD, w, hb, hs, h⟩ := h
  refine ⟨wa, Hf, sD, w, hb, hs, h.bind.mono (fun x w1 H1 Hf1 g1 b1 q v rv => ?_) (fun _ _ _ _ _ _ q => q)⟩
  obtain ⟨z, e, q3⟩ := q.opt
  exact hf wa Hf1 H1 w1 x v z Q b1 rv e fun H' Hf' p vs g b n e1 e2 e3 r => q3 H' Hf' g b p vs (g1.free n) e1 e2 e3 r
theorem binL_ok {Q : VK} {f : Wl → D → D → Option (List D)} (hf : OpL r f) (h : lfL mg W (eBinL f A B) σ H Q) : tOp r (lE mg W A) (lE mg W B) σ H Q := by
  obtain ⟨wa, Hf, sD, w, hb, hs, h⟩ := h
  refine ⟨wa, Hf, sD, w, hb, hs, h.bind.mono (fun x w1 H1 Hf1 g1 b1 q v rv => ?_) (fun _ _ _ _ _ _ q => q)⟩
  refine ⟨wa, Hf1, sD, w1, b1, hs.go g1, q.bind.mono (fun y w2 H2 Hf2 g2 b2 q2 v2 rv2 => ?_) (fun _ _ _ _ _ _ q => q)⟩
  obtain ⟨z, e, q3⟩ := q2.opt
  exact hf wa Hf2 H2 w2 x y v v2 z Q b2 (rv.mono g2.ex) rv2 e fun H' Hf' p vs g b n e1 e2 e3 r => q3 H' Hf' g b p vs ((g1.trans g2).free n) e1 e2 e3 r
/-- a new list, read from now on -/
def eL (A : DA) : DE := fun s w => (A s w).bind fun ds w1 => .ok (.lst ds) w1
theorem eL_ok {Q : VK} {A : DA} (h : lE mg W (eL A) σ H Q) : lfL mg W A σ H Q := by
  obtain ⟨wa, Hf, sD, w, hb, hs, h⟩ := h
  refine ⟨wa, Hf, sD, w, hb, hs, ?_⟩
  unfold eL at h
  cases ea : A sD w with
  | ok ds w1 =>
    rw [ea] at h
    intro H1 Hf1 g1 b1 p vs n e1 e2 e3 rv
    have ex : Ex Hf1 (upd Hf1 p (.lst vs)) := Ex.new e2
    have g2 : Go wa H Hf H1 (upd Hf1 p (.lst vs)) := ⟨g1.keep, g1.ex.trans ex, fun a o h => by rw [upd_ne (ne_of_none h n)]; exact g1.new a o h, g1.there⟩
    have b2 : Base wa (upd Hf1 p (.lst vs)) H1 w1 := ⟨fun a u h => by
      by_cases hp : a = p
      · subst hp; rw [upd_same] at h; rw [← h]; exact e1
      · rw [upd_ne hp] at h; exact b1.ex a u h, b1.well, by rw [upd_ne (Ne.symm e3)]; exact b1.nw⟩
    exact h H1 _ g2 b2 (.ref p) (.lst upd_same (rv.mono ex))
  | er x w1 => rw [ea] at h; exact h
  | no => rw [ea] at h; exact h
theorem pd_L {A : DA} (h : PE X e (lfL mg W A)) : PE X e (lE mg W (eL A)) := weakE h fun _ _ _ q => eL_ok q
end
end DL

set_option maxHeartbeats 2000000
namespace DL
open PySem PySem.Spec PyProof.Rows L2
open Evl (Ex)
section
variable {α β γ δ : Type} {X : Cx} {mg : Str → Option Value} {W : WX} {e a b c : Expr} {pos : Pos} {σ : L2.St} {H : Hp} {A B C : DE} {r r' : R2} {f g : Wl → D → D → Option D}
theorem frzL {wa : Addr} {Hf H : Hp} {w : Wl} {Q : VK} {z : D} {vs : List V} {ds : List D} (hb : Base wa Hf H w) (rv : Reps wa Hf vs ds) (q : ∀ H' Hf', Go wa H Hf H' Hf' → Base wa Hf' H' w → ∀ v', Rep wa Hf' v' (.lst ds) → Q v' H') : ∀ p, H p = none → Q (.ref p) (upd H p (.lst vs)) := fun p hp =>
  q _ _ (Go.newF hb.ex hp) (hb.newF hp) _ (.lst upd_same (rv.mono (Ex.new (Evl.fresh_back hb.ex hp))))
theorem frzT {wa : Addr} {Hf H : Hp} {w : Wl} {Q : VK} {z : D} {vs : List V} {ds : List D} (hb : Base wa Hf H w) (rv : Reps wa Hf vs ds) (q : ∀ H' Hf', Go wa H Hf H' Hf' → Base wa Hf' H' w → ∀ v', Rep wa Hf' v' (.tup ds) → Q v' H') : ∀ p, H p = none → Q (.ref p) (upd H p (.tup vs)) := fun p hp =>
  q _ _ (Go.newF hb.ex hp) (hb.newF hp) _ (.tup upd_same (rv.mono (Ex.new (Evl.fresh_back hb.ex hp))))
/-! ### two-place operators -/
theorem pd_bin {op : Operator} (ho : OpR X (binaryOp op) r) (hf : OpD r f) (ha : PE X a (lE mg W A)) (hb : PE X b (lE mg W B)) : PE X (.BinOp a op b pos) (lE mg W (eBin f A B)) := weakE (pe_op ho ha hb) fun _ _ _ q => bin_ok hf q
theorem pd_un {op : UnaryOp} {r : V → Hp → VK → Prop} {f : Wl → D → Option D} (ho : UnR X (unaryOp op) r) (hf : UnD r f) (ha : PE X a (lE mg W A)) : PE X (.UnaryOp op a pos) (lE mg W (eUn f A)) := weakE (pe_un ho ha) fun _ _ _ q => un_ok hf q
def lim : Nat := 16000000
theorem lim_le {n : Nat} (h : n ≤ lim) : n ≤ sizeLine := by
  rw [sizeLine_eq]
  have : lim = 16000000 := rfl
  omega
def fAdd : Wl → D → D → Option D := fun _ x y => match x, y with
  | .int i, .int j => some (.int (i + j))
  | .tup xs, .tup ys => if xs.length + ys.length ≤ lim then some (.tup (xs ++ ys)) else none
  | .lst xs, .lst ys => if xs.length + ys.length ≤ lim then some (.lst (xs ++ ys)) else none
  | .str x, .str y => if x.length + y.length ≤ lim then some (.str (x ++ y)) else none
  | _, _ => none
def rAddS : R2 := fun x y H Q => ∃ i j, x = .str i ∧ y = .str j ∧ i.length + j.length ≤ sizeLine ∧ Q (.str (i ++ j)) H
def rAddA (K : PySem.W.Frag) : R2 := fun x y H Q => (rI0 (fun i j => .int (i + j)) x y H Q ∨ rCatA K x y H Q) ∨ rCat x y H Q ∨ rAddS x y H Q
theorem op_addA : OpR X (binaryOp .Add) (rAddA X.K) := (op_add.or op_catA).or (op_cat.or op_add_str)
theorem opd_add {K : PySem.W.Frag} : OpD (rAddA K) fAdd := by
  intro wa Hf H w x y u v z Q hb ru rv h q
  unfold fAdd at h
  split at h
  · cases h
    cases ru
    cases rv
    exact .inl (.inl ⟨_, _, rfl, rfl, q _ _ Go.refl hb _ (.int _)⟩)
  · split at h
    · rename_i hz
      cases h
      cases ru with
      | tup h1 r1 =>
        cases rv with
        | tup h2 r2 =>
          have l1 := r1.length
          have l2 := r2.length
          refine .inl (.inr ⟨_, _, _, _, rfl, rfl, SqT.of (hb.ex _ _ h1), SqT.of (hb.ex _ _ h2), lim_le (by omega), fun e => ?_, fun _ e => ?_, fun _ _ => frzT (z := .non) hb (r1.append r2) q⟩)
          · subst e
            cases r1
            exact q _ _ Go.refl hb _ (.tup h2 (by simpa using r2))
          · subst e
            cases r2
            exact q _ _ Go.refl hb _ (.tup h1 (by simpa using r1))
    · cases h
  · split at h
    · rename_i hz
      cases h
      cases ru with
      | lst h1 r1 =>
        cases rv with
        | lst h2 r2 =>
          have l1 := r1.length
          have l2 := r2.length
          exact .inr (.inl ⟨_, _, _, _, rfl, rfl, hb.ex _ _ h1, hb.ex _ _ h2, lim_le (by omega), frzL (z := .non) hb (r1.append r2) q⟩)
    · cases h
  · split at h
    · rename_i hz
      cases h
      cases ru
      cases rv
      exact .inr (.inr ⟨_, _, rfl, rfl, lim_le hz, q _ _ Go.refl hb _ (.str _)⟩)
    · cases h
  · cases h
theorem pd_add (ha : PE X a (lE mg W A)) (hb : PE X b (lE mg W B)) : PE X (.BinOp a .Add b pos) (lE mg W (eBin fAdd A B)) := pd_bin op_addA opd_add ha hb
def fSub : Wl → D → D → Option D := fun _ x y => match x, y with
  | .int i, .int j => some (.int (i - j))
  | _, _ => none
theorem pd_sub (ha : PE X a (lE mg W A)) (hb : PE X b (lE mg W B)) : PE X (.BinOp a .Sub b pos) (lE mg W (eBin fSub A B)) := pd_bin op_sub (fun wa Hf H w x y u v z Q hb ru rv h q => by
  unfold fSub at h
  split at h
  · cases h
    cases ru
    cases rv
    exact ⟨_, _, rfl, rfl, q _ _ Go.refl hb _ (.int _)⟩
  · cases h) ha hb
/-- factors that the model multiplies: together below a million bits -/
def mulOk (i j : Int) : Prop := i.natAbs.log2 + j.natAbs.log2 < 1000000
instance (i j : Int) : Decidable (mulOk i j) := by unfold mulOk; infer_instance
def fMul : Wl → D → D → Option D := fun _ x y => match x, y with
  | .int i, .int j => if mulOk i j then some (.int (i * j)) else none
  | .lst xs, .int k => if 0 ≤ k ∧ k ≤ 1000000 ∧ xs.length * k.toNat ≤ lim then some (.lst (List.replicate k.toNat xs).flatten) else none
  | .tup xs, .int k => if xs ≠ [] ∧ 2 ≤ k ∧ k ≤ 1000 ∧ xs.length ≤ 1000 then some (.tup (List.replicate k.toNat xs).flatten) else none
  | _, _ => none
def rMulA (K : PySem.W.Frag) : R2 := fun x y H Q => rI CMulW (fun i j => .int (i * j)) x y H Q ∨ rRep x y H Q ∨ rRepT K x y H Q
theorem op_mulA : OpR X (binaryOp .Mult) (rMulA X.K) := op_mulW.or (op_rep.or op_repT)
theorem opd_mul {K : PySem.W.Frag} : OpD (rMulA K) fMul := by
  intro wa Hf H w x y u v z Q hb ru rv h q
  unfold fMul at h
  split at h
  · split at h
    · rename_i hm
      cases h
      cases ru
      cases rv
      exact .inl ⟨_, _, rfl, rfl, hm, q _ _ Go.refl hb _ (.int _)⟩
    · cases h
  · split at h
    · rename_i hm
      cases h
      cases rv
      cases ru with
      | lst h1 r1 =>
        have l1 := r1.length
        exact .inr (.inl ⟨_, _, _, rfl, rfl, hb.ex _ _ h1, by omega, by omega, by rw [l1]; exact lim_le hm.2.2, frzL (z := .non) hb (r1.rep _) q⟩)
    · cases h
  · split at h
    · rename_i hm
      cases h
      cases rv
      cases ru with
      | tup h1 r1 =>
        have l1 := r1.length
        refine .inr (.inr ⟨_, _, _, rfl, rfl, SqT.of (hb.ex _ _ h1), fun e => ?_, hm.2.1, hm.2.2.1, by omega, frzT (z := .non) hb (r1.rep _) q⟩)
        subst e
        cases r1
        exact hm.1 rfl
    · cases h
  · cases h
theorem pd_mul (ha : PE X a (lE mg W A)) (hb : PE X b (lE mg W B)) : PE X (.BinOp a .Mult b pos) (lE mg W (eBin fMul A B)) := pd_bin op_mulA opd_mul ha hb
def divOk (j : Int) : Prop := j ≠ 0 ∧ j.natAbs.log2 < 9000
instance (j : Int) : Decidable (divOk j) := by unfold divOk; infer_instance
def fDiv : Wl → D → D → Option D := fun _ x y => match x, y with
  | .int i, .int j => if divOk j then some (.int (i.fdiv j)) else none
  | _, _ => none
theorem op_divA : OpR X (binaryOp .FloorDiv) (rI (fun _ j => divOk j) fun i j => .int (i.fdiv j)) := opI fun i j _ _ _ _ _ hc q => floordiv_int hc.1 q (.inl (PyProof.noPylong_of_log2 hc.2))
theorem pd_div (ha : PE X a (lE mg W A)) (hb : PE X b (lE mg W B)) : PE X (.BinOp a .FloorDiv b pos) (lE mg W (eBin fDiv A B)) := pd_bin op_divA (fun wa Hf H w x y u v z Q hb ru rv h q => by
  unfold fDiv at h
  split at h
  · split at h
    · rename_i hm
      cases h
      cases ru
      cases rv
      exact ⟨_, _, rfl, rfl, hm, q _ _ Go.refl hb _ (.int _)⟩
    · cases h
  · cases h) ha hb
def fMod : Wl → D → D → Option D := fun _ x y => match x, y with
  | .int i, .int j => if j ≠ 0 then some (.int (i.fmod j)) else none
  | _, _ => none
theorem pd_mod (ha : PE X a (lE mg W A)) (hb : PE X b (lE mg W B)) : PE X (.BinOp a .Mod b pos) (lE mg W (eBin fMod A B)) := pd_bin op_modN (fun wa Hf H w x y u v z Q hb ru rv h q => by
  unfold fMod at h
  split at h
  · split at h
    · rename_i hm
      cases h
      cases ru
      cases rv
      exact ⟨_, _, rfl, rfl, hm, q _ _ Go.refl hb _ (.int _)⟩
    · cases h
  · cases h) ha hb
def fPow : Wl → D → D → Option D := fun _ x y => match x, y with
  | .int i, .int j => if 0 ≤ j ∧ j ≤ 1000000 ∧ i.natAbs < 18446744073709551616 then some (.int (i ^ j.toNat)) else none
  | _, _ => none
theorem pd_pow (ha : PE X a (lE mg W A)) (hb : PE X b (lE mg W B)) : PE X (.BinOp a .Pow b pos) (lE mg W (eBin fPow A B)) := pd_bin op_pow (fun wa Hf H w x y u v z Q hb ru rv h q => by
  unfold fPow at h
  split at h
  · split at h
    · rename_i hm
      cases h
      cases ru
      cases rv
      exact ⟨_, _, rfl, rfl, ⟨hm.1, hm.2.1, hm.2.2⟩, q _ _ Go.refl hb _ (.int _)⟩
    · cases h
  · cases h) ha hb
def fNeg : Wl → D → Option D := fun _ x => match x with
  | .int i => some (.int (-i))
  | _ => none
theorem pd_neg (ha : PE X a (lE mg W A)) : PE X (.UnaryOp .USub a pos) (lE mg W (eUn fNeg A)) := pd_un un_neg (fun wa Hf H w x u z Q hb ru h q => by
  unfold fNeg at h
  split at h
  · cases h
    cases ru
    exact ⟨_, rfl, q _ _ Go.refl hb _ (.int _)⟩
  · cases h) ha

/-! ### comparisons -/
def fCmp (p : Int → Int → Bool) : Wl → D → D → Option D := fun _ x y => match x, y with
  | .int i, .int j => some (.bl (p i j))
  | _, _ => none
theorem opd_cmp {p : Int → Int → Bool} : OpD (rI0 fun i j => .bl (p i j)) (fCmp p) := by
  intro wa Hf H w x y u v z Q hb ru rv h q
  unfold fCmp at h
  split at h
  · cases h
    cases ru
    cases rv
    exact ⟨_, _, rfl, rfl, q _ _ Go.refl hb _ (.bl _)⟩
  · cases h
abbrev fLt := fCmp fun i j => decide (i < j)
abbrev fLe := fCmp fun i j => decide (i ≤ j)
abbrev fGt := fCmp fun i j => decide (j < i)
abbrev fGe := fCmp fun i j => decide (j ≤ i)
/-- a comparison, by its operator's rule -/
theorem pd_cmp {op : CmpOp} (ho : OpR X (compareOp op) r) (hf : OpD r f) (ha : PE X a (lE mg W A)) (hb : PE X b (lE mg W B)) (hm : behindInMarks op b = false) : PE X (.Compare a [op] [b] pos) (lE mg W (eBin f A B)) := weakE (pe_cmpR ho ha hb hm) fun _ _ _ q => bin_ok hf q
theorem pd_lt (ha : PE X a (lE mg W A)) (hb : PE X b (lE mg W B)) : PE X (.Compare a [.Lt] [b] pos) (lE mg W (eBin fLt A B)) := pd_cmp op_lt opd_cmp ha hb (nomark _)
theorem pd_le (ha : PE X a (lE mg W A)) (hb : PE X b (lE mg W B)) : PE X (.Compare a [.LtE] [b] pos) (lE mg W (eBin fLe A B)) := pd_cmp op_le opd_cmp ha hb (nomark _)
theorem pd_gt (ha : PE X a (lE mg W A)) (hb : PE X b (lE mg W B)) : PE X (.Compare a [.Gt] [b] pos) (lE mg W (eBin fGt A B)) := pd_cmp op_gt opd_cmp ha hb (nomark _)
theorem pd_ge (ha : PE X a (lE mg W A)) (hb : PE X b (lE mg W B)) : PE X (.Compare a [.GtE] [b] pos) (lE mg W (eBin fGe A B)) := pd_cmp op_ge opd_cmp ha hb (nomark _)
mutual
def toPD : D → PyData
  | .non => .none
  | .bl b => .bool b
  | .int i => .int i
  | .str x => .str x
  | .lst xs => .list (toPDs xs)
  | .tup xs => .tuple (toPDs xs)
  | _ => .dict []
def toPDs : List D → List PyData
  | [] => []
  | x :: xs => toPD x :: toPDs xs
end
section
variable {K : PySem.W.Frag} {wa : Addr} {Hf : Hp} {w : Wl}
mutual
theorem Rep.dp (hb : Base wa Hf H w) : ∀ {v : V} {d : D}, Rep wa Hf v d → (toPD d).canLay0 = true → Dp K H v (toPD d)
  | _, _, .non, _ => .non
  | _, _, .bl b, _ => .bl b
  | _, _, .int b, _ => .int b
  | _, _, .str b, _ => .str b
  | _, _, .lst h r, c => .lst (SqL.of (hb.ex _ _ h)) (Reps.dp hb r (by simpa [toPD, PyData.canLay0] using c))
  | _, _, .tup h r, c => .tup (SqT.of (hb.ex _ _ h)) (Reps.dp hb r (by simpa [toPD, PyData.canLay0] using c))
  | _, _, .well, c => by simp [toPD, PyData.canLay0] at c
  | _, _, .ref a, c => by simp [toPD, PyData.canLay0] at c
  | _, _, .ty a, c => by simp [toPD, PyData.canLay0] at c
theorem Reps.dp (hb : Base wa Hf H w) : ∀ {vs : List V} {ds : List D}, Reps wa Hf vs ds → PyData.canLayAll0 (toPDs ds) = true → DpAll K H vs (toPDs ds)
  | _, _, .nil, _ => .nil
  | _, d :: ds, .cons h r, c => by
    have c' : (toPD d).canLay0 = true ∧ PyData.canLayAll0 (toPDs ds) = true := by simpa [toPDs, PyData.canLayAll0] using c
    exact .cons (Rep.dp hb h c'.1) (Reps.dp hb r c'.2)
end
theorem shaped_lay {d : PyData} (h : SeqAt.shaped d = true) : d.canLay0 = true := by
  unfold SeqAt.shaped at h
  rw [Bool.and_eq_true] at h
  exact h.1
end
def okD (x : D) : Bool := SeqAt.shaped (toPD x)
def eqD (x y : D) : Bool := PyData.eqv (toPD x) (toPD y)
def fEq : Wl → D → D → Option D := fun _ x y => if okD x && okD y then some (.bl (eqD x y)) else none
def fNe : Wl → D → D → Option D := fun _ x y => if okD x && okD y then some (.bl (!eqD x y)) else none
theorem opd_eq {K : PySem.W.Frag} : OpD (rEqD K) fEq := by
  intro wa Hf H w x y u v z Q hb ru rv h q
  unfold fEq at h
  split at h
  · rename_i hc
    rw [Bool.and_eq_true] at hc
    cases h
    exact ⟨_, _, ru.dp hb (shaped_lay hc.1), rv.dp hb (shaped_lay hc.2), hc.1, hc.2, q _ _ Go.refl hb _ (.bl _)⟩
  · cases h
theorem opd_ne {K : PySem.W.Frag} : OpD (rNeD K) fNe := by
  intro wa Hf H w x y u v z Q hb ru rv h q
  unfold fNe at h
  split at h
  · rename_i hc
    rw [Bool.and_eq_true] at hc
    cases h
    exact ⟨_, _, ru.dp hb (shaped_lay hc.1), rv.dp hb (shaped_lay hc.2), hc.1, hc.2, q _ _ Go.refl hb _ (.bl _)⟩
  · cases h
theorem pd_eq (hu : X.A.units + 64 < cLine) (ha : PE X a (lE mg W A)) (hb : PE X b (lE mg W B)) : PE X (.Compare a [.Eq] [b] pos) (lE mg W (eBin fEq A B)) := pd_cmp (op_eqD hu) opd_eq ha hb (nomark _)
theorem pd_ne (hu : X.A.units + 64 < cLine) (ha : PE X a (lE mg W A)) (hb : PE X b (lE mg W B)) : PE X (.Compare a [.NotEq] [b] pos) (lE mg W (eBin fNe A B)) := pd_cmp (op_neD hu) opd_ne ha hb (nomark _)
def fIsN : Wl → D → D → Option D := fun _ x y => match x, y with
  | .non, .non => some (.bl true)
  | .well, .non | .ref _, .non | .ty _, .non | .bl _, .non | .int _, .non | .str _, .non | .lst _, .non | .tup _, .non => some (.bl false)
  | _, _ => none
def fNotN : Wl → D → D → Option D := fun w x y => match fIsN w x y with
  | some (.bl k) => some (.bl (!k))
  | _ => none
theorem isN_of {wa : Addr} {Hf : Hp} {w : Wl} {x y z : D} {u v : V} (ru : Rep wa Hf u x) (rv : Rep wa Hf v y) (h : fIsN w x y = some z) : v = .non ∧ z = .bl (decide (u = .non)) := by
  unfold fIsN at h
  split at h <;> first
    | (cases h; cases ru; cases rv; exact ⟨rfl, rfl⟩)
    | cases h
theorem pd_isN (ha : PE X a (lE mg W A)) (hb : PE X b (lE mg W B)) : PE X (.Compare a [.Is] [b] pos) (lE mg W (eBin fIsN A B)) := pd_cmp op_isN (fun wa Hf H w x y u v z Q hb ru rv h q => by
  obtain ⟨e1, e2⟩ := isN_of ru rv h
  subst e2
  exact ⟨e1, q _ _ Go.refl hb _ (.bl _)⟩) ha hb (nomark _)
theorem pd_notN (ha : PE X a (lE mg W A)) (hb : PE X b (lE mg W B)) : PE X (.Compare a [.IsNot] [b] pos) (lE mg W (eBin fNotN A B)) := pd_cmp op_notN (fun wa Hf H w x y u v z Q hb ru rv h q => by
  unfold fNotN at h
  split at h
  · rename_i k hk
    cases h
    obtain ⟨e1, e2⟩ := isN_of ru rv hk
    cases e2
    exact ⟨e1, q _ _ Go.refl hb _ (.bl _)⟩
  · cases h) ha hb (nomark _)
/-- a op1 b op2 c -/
def eChain (f g : Wl → D → D → Option D) (A B C : DE) : DE := fun s w => (A s w).bind fun x w1 => (B s w1).bind fun y w2 => (opt (f w2 x y) w2).bind fun z w3 => match z with
  | .bl true => (C s w3).bind fun u w4 => opt (g w4 y u) w4
  | .bl false => .ok (.bl false) w3
  | _ => .no
theorem chain_ok {Q : VK} (hf : OpD r f) (hg : OpD r' g) (h : lE mg W (eChain f g A B C) σ H Q) : tChain r r' (lE mg W A) (lE mg W B) (lE mg W C) σ H Q := by
  obtain ⟨wa, Hf, sD, w, hb, hs, h⟩ := h
  refine ⟨wa, Hf, sD, w, hb, hs, h.bind.mono (fun x w1 H1 Hf1 g1 b1 q v rv => ?_) (fun _ _ _ _ _ _ q => q)⟩
  refine ⟨wa, Hf1, sD, w1, b1, hs.go g1, q.bind.mono (fun y w2 H2 Hf2 g2 b2 q2 v2 rv2 => ?_) (fun _ _ _ _ _ _ q => q)⟩
  obtain ⟨z, e, q3⟩ := q2.bind.opt
  refine hf wa Hf2 H2 w2 x y v v2 z _ b2 (rv.mono g2.ex) rv2 e fun H3 Hf3 g3 b3 v3 r3 => ?_
  have q4 := q3 H3 Hf3 g3 b3
  split at q4
  · cases r3
    refine ⟨true, rfl, iteT ?_⟩
    refine ⟨wa, Hf3, sD, _, b3, (hs.go g1).go (g2.trans g3), q4.bind.mono (fun u w4 H4 Hf4 g4 b4 q5 v4 r4 => ?_) (fun _ _ _ _ _ _ q => q)⟩
    obtain ⟨z2, e2, q6⟩ := q5.opt
    exact hg wa Hf4 H4 _ _ _ v2 v4 z2 Q b4 (rv2.mono (g3.trans g4).ex) r4 e2 q6
  · cases r3
    exact ⟨false, rfl, iteF (q4.here b3 _ (.bl false))⟩
  · exact q4.elim
theorem pd_chain {op op' : CmpOp} (ho : OpR X (compareOp op) r) (ho' : OpR X (compareOp op') r') (hf : OpD r f) (hg : OpD r' g) (ha : PE X a (lE mg W A)) (hb : PE X b (lE mg W B)) (hc : PE X c (lE mg W C))
    (hm : lastMarks [op, op'] [b, c] = false := by with_unfolding_all rfl) : PE X (.Compare a [op, op'] [b, c] pos) (lE mg W (eChain f g A B C)) := weakE (pe_chain ho ho' ha hb hc hm) fun _ _ _ q => chain_ok hf hg q

/-! ### and, or, not as values -/
def eAnd (A B : DE) : DE := fun s w => (A s w).bind fun x w1 => match x with
  | .bl true => B s w1
  | .bl false => .ok (.bl false) w1
  | _ => .no
def eOr (A B : DE) : DE := fun s w => (A s w).bind fun x w1 => match x with
  | .bl true => .ok (.bl true) w1
  | .bl false => B s w1
  | _ => .no
def eNot (A : DE) : DE := fun s w => (A s w).bind fun x w1 => match x with
  | .bl k => .ok (.bl (!k)) w1
  | _ => .no
variable {rest : List Expr}
theorem pd_one {op} (h : PE X a (lE mg W A)) : PE X (.BoolOp op [a] pos) (lE mg W A) := pe_one h
theorem pd_and (ha : PE X a (lE mg W A)) (hb : PE X (.BoolOp .And (b :: rest) pos) (lE mg W B)) : PE X (.BoolOp .And (a :: b :: rest) pos) (lE mg W (eAnd A B)) := weakE (pe_and ha hb) fun σ H Q h => by
  obtain ⟨wa, Hf, sD, w, hb, hs, h⟩ := h
  refine ⟨wa, Hf, sD, w, hb, hs, h.bind.mono (fun x w1 H1 Hf1 g1 b1 q v rv => ?_) (fun _ _ _ _ _ _ q => q)⟩
  split at q
  · cases rv
    exact ⟨true, rfl, iteT ⟨wa, Hf1, sD, w1, b1, hs.go g1, q⟩⟩
  · cases rv
    exact ⟨false, rfl, iteF (q.here b1 _ (.bl false))⟩
  · exact q.elim
theorem pd_or (ha : PE X a (lE mg W A)) (hb : PE X (.BoolOp .Or (b :: rest) pos) (lE mg W B)) : PE X (.BoolOp .Or (a :: b :: rest) pos) (lE mg W (eOr A B)) := weakE (pe_or ha hb) fun σ H Q h => by
  obtain ⟨wa, Hf, sD, w, hb, hs, h⟩ := h
  refine ⟨wa, Hf, sD, w, hb, hs, h.bind.mono (fun x w1 H1 Hf1 g1 b1 q v rv => ?_) (fun _ _ _ _ _ _ q => q)⟩
  split at q
  · cases rv
    exact ⟨true, rfl, iteT (q.here b1 _ (.bl true))⟩
  · cases rv
    exact ⟨false, rfl, iteF ⟨wa, Hf1, sD, w1, b1, hs.go g1, q⟩⟩
  · exact q.elim
theorem pd_not (ha : PE X a (lE mg W A)) : PE X (.UnaryOp .Not a pos) (lE mg W (eNot A)) := weakE (pe_not ha) fun σ H Q h => by
  obtain ⟨wa, Hf, sD, w, hb, hs, h⟩ := h
  refine ⟨wa, Hf, sD, w, hb, hs, h.bind.mono (fun x w1 H1 Hf1 g1 b1 q v rv => ?_) (fun _ _ _ _ _ _ q => q)⟩
  split at q
  · cases rv
    exact ⟨_, rfl, q.here b1 _ (.bl _)⟩
  · exact q.elim

/-! ### tests -/
def tE (A : DE) : DT := fun s w => (A s w).bind fun x w1 => match x with
  | .bl k => .ok k w1
  | _ => .no
def tAn (A B : DT) : DT := fun s w => (A s w).bind fun k w1 => if k then B s w1 else .ok false w1
def tOn (A B : DT) : DT := fun s w => (A s w).bind fun k w1 => if k then .ok true w1 else B s w1
def tNo (A : DT) : DT := fun s w => (A s w).bind fun k w1 => .ok (!k) w1
def truD : D → Option Bool
  | .non => some false
  | .bl b => some b
  | .int i => some (i != 0)
  | .str y => if y.length ≤ lim then some ((y.length : Int) != 0) else none
  | .lst xs => some (!xs.isEmpty)
  | .tup xs => some (!xs.isEmpty)
  | _ => none
def tTr (A : DE) : DT := fun s w => (A s w).bind fun x w1 => opt (truD x) w1
variable {S T : DT}
theorem tE_ok {Q : Bool → Hp → Prop} (h : lT mg W (tE A) σ H Q) : tTest (lE mg W A) σ H Q := by
  obtain ⟨wa, Hf, sD, w, hb, hs, h⟩ := h
  refine ⟨wa, Hf, sD, w, hb, hs, h.bind.mono (fun x w1 H1 Hf1 g1 b1 q v rv => ?_) (fun _ _ _ _ _ _ q => q)⟩
  split at q
  · cases rv
    exact ⟨_, rfl, q.here b1 _ rfl⟩
  · exact q.elim
/-- a comparison as a test -/
theorem qd_cmp {op : CmpOp} (ho : OpR X (compareOp op) r) (hf : OpD r f) (ha : PE X a (lE mg W A)) (hb : PE X b (lE mg W B)) (hm : behindInMarks op b = false) : PT X (.Compare a [op] [b] pos) (lT mg W (tE (eBin f A B))) := weakT (pt_cmpR ho ha hb hm) fun σ H Q h => by
  have q := tE_ok h
  exact bin_ok hf q
theorem qd_lt (ha : PE X a (lE mg W A)) (hb : PE X b (lE mg W B)) : PT X (.Compare a [.Lt] [b] pos) (lT mg W (tE (eBin fLt A B))) := qd_cmp op_lt opd_cmp ha hb (nomark _)
theorem qd_le (ha : PE X a (lE mg W A)) (hb : PE X b (lE mg W B)) : PT X (.Compare a [.LtE] [b] pos) (lT mg W (tE (eBin fLe A B))) := qd_cmp op_le opd_cmp ha hb (nomark _)
theorem qd_gt (ha : PE X a (lE mg W A)) (hb : PE X b (lE mg W B)) : PT X (.Compare a [.Gt] [b] pos) (lT mg W (tE (eBin fGt A B))) := qd_cmp op_gt opd_cmp ha hb (nomark _)
theorem qd_ge (ha : PE X a (lE mg W A)) (hb : PE X b (lE mg W B)) : PT X (.Compare a [.GtE] [b] pos) (lT mg W (tE (eBin fGe A B))) := qd_cmp op_ge opd_cmp ha hb (nomark _)
theorem qd_eq (hu : X.A.units + 64 < cLine) (ha : PE X a (lE mg W A)) (hb : PE X b (lE mg W B)) : PT X (.Compare a [.Eq] [b] pos) (lT mg W (tE (eBin fEq A B))) := qd_cmp (op_eqD hu) opd_eq ha hb (nomark _)
theorem qd_ne (hu : X.A.units + 64 < cLine) (ha : PE X a (lE mg W A)) (hb : PE X b (lE mg W B)) : PT X (.Compare a [.NotEq] [b] pos) (lT mg W (tE (eBin fNe A B))) := qd_cmp (op_neD hu) opd_ne ha hb (nomark _)
theorem qd_isN (ha : PE X a (lE mg W A)) (hb : PE X b (lE mg W B)) : PT X (.Compare a [.Is] [b] pos) (lT mg W (tE (eBin fIsN A B))) := qd_cmp op_isN (fun wa Hf H w x y u v z Q hb ru rv h q => by
  obtain ⟨e1, e2⟩ := isN_of ru rv h
  subst e2
  exact ⟨e1, q _ _ Go.refl hb _ (.bl _)⟩) ha hb (nomark _)
theorem qd_notN (ha : PE X a (lE mg W A)) (hb : PE X b (lE mg W B)) : PT X (.Compare a [.IsNot] [b] pos) (lT mg W (tE (eBin fNotN A B))) := qd_cmp op_notN (fun wa Hf H w x y u v z Q hb ru rv h q => by
  unfold fNotN at h
  split at h
  · rename_i k hk
    cases h
    obtain ⟨e1, e2⟩ := isN_of ru rv hk
    cases e2
    exact ⟨e1, q _ _ Go.refl hb _ (.bl _)⟩
  · cases h) ha hb (nomark _)
theorem qd_chain {op op' : CmpOp} (ho : OpR X (compareOp op) r) (ho' : OpR X (compareOp op') r') (hf : OpD r f) (hg : OpD r' g) (ha : PE X a (lE mg W A)) (hb : PE X b (lE mg W B)) (hc : PE X c (lE mg W C))
    (hm : lastMarks [op, op'] [b, c] = false := by with_unfolding_all rfl) : PT X (.Compare a [op, op'] [b, c] pos) (lT mg W (tE (eChain f g A B C))) := weakT (pt_chain ho ho' ha hb hc hm) fun σ H Q h => by
  have q := tE_ok h
  exact chain_ok hf hg q
/-- any other expression as a test: its truth -/
theorem qd_tr (ha : PE X a (lE mg W A)) (he : ∀ whole, isTrue a X.env whole = (do let v ← whole; standAt a.pos; holding [v] (truthy v)) := by intro _; rfl) : PT X a (lT mg W (tTr A)) := weakT (pt_truth ha he) fun σ H Q h => by
  obtain ⟨wa, Hf, sD, w, hb, hs, h⟩ := h
  refine ⟨wa, Hf, sD, w, hb, hs, h.bind.mono (fun x w1 H1 Hf1 g1 b1 q v rv => ?_) (fun _ _ _ _ _ _ q => q)⟩
  obtain ⟨z, e, q3⟩ := q.opt
  refine ⟨z, ?_, q3 _ _ Go.refl b1 _ rfl⟩
  unfold truD at e
  split at e
  · cases e; cases rv; rfl
  · cases e; cases rv; rfl
  · cases e; cases rv; rfl
  · split at e
    · rename_i hz
      cases e
      cases rv
      exact ⟨lim_le hz, rfl⟩
    · cases e
  · cases e
    cases rv with
    | lst h1 r1 =>
      refine .inl ⟨_, SqL.of (b1.ex _ _ h1), ?_⟩
      cases r1 <;> rfl
  · cases e
    cases rv with
    | tup h1 r1 =>
      refine .inr (.inl ⟨_, SqT.of (b1.ex _ _ h1), ?_⟩)
      cases r1 <;> rfl
  · cases e
theorem qd_and1 (ha : PT X a (lT mg W S)) : PW X (.BoolOp .And [a] pos) (lT mg W S) := pw_and1 ha
theorem qd_or1 (ha : PT X a (lT mg W S)) : PW X (.BoolOp .Or [a] pos) (lT mg W S) := pw_or1 ha
theorem qd_and (ha : PT X a (lT mg W S)) (hb : PW X (.BoolOp .And (b :: rest) pos) (lT mg W T)) : PW X (.BoolOp .And (a :: b :: rest) pos) (lT mg W (tAn S T)) := weakW (pw_and ha hb) fun σ H Q h => by
  obtain ⟨wa, Hf, sD, w, hb, hs, h⟩ := h
  refine ⟨wa, Hf, sD, w, hb, hs, h.bind.mono (fun x w1 H1 Hf1 g1 b1 q v rv => ?_) (fun _ _ _ _ _ _ q => q)⟩
  cases rv
  cases x with
  | true => exact iteT ⟨wa, Hf1, sD, w1, b1, hs.go g1, q⟩
  | false => exact iteF (q.here b1 _ rfl)
theorem qd_or (ha : PT X a (lT mg W S)) (hb : PW X (.BoolOp .Or (b :: rest) pos) (lT mg W T)) : PW X (.BoolOp .Or (a :: b :: rest) pos) (lT mg W (tOn S T)) := weakW (pw_or ha hb) fun σ H Q h => by
  obtain ⟨wa, Hf, sD, w, hb, hs, h⟩ := h
  refine ⟨wa, Hf, sD, w, hb, hs, h.bind.mono (fun x w1 H1 Hf1 g1 b1 q v rv => ?_) (fun _ _ _ _ _ _ q => q)⟩
  cases rv
  cases x with
  | true => exact iteT (q.here b1 _ rfl)
  | false => exact iteF ⟨wa, Hf1, sD, w1, b1, hs.go g1, q⟩
theorem qd_not (ha : PT X a (lT mg W S)) : PT X (.UnaryOp .Not a pos) (lT mg W (tNo S)) := weakT (pt_not ha) fun σ H Q h => by
  obtain ⟨wa, Hf, sD, w, hb, hs, h⟩ := h
  refine ⟨wa, Hf, sD, w, hb, hs, h.bind.mono (fun x w1 H1 Hf1 g1 b1 q v rv => ?_) (fun _ _ _ _ _ _ q => q)⟩
  cases rv
  exact q.here b1 _ rfl
/-- a if t else b -/
def eIf (T : DT) (A B : DE) : DE := fun s w => (T s w).bind fun k w1 => if k then A s w1 else B s w1
theorem pd_if (hc : PT X c (lT mg W T)) (ha : PE X a (lE mg W A)) (hb : PE X b (lE mg W B)) : PE X (.IfExp c a b pos) (lE mg W (eIf T A B)) := weakE (pe_ifExp hc ha hb) fun σ H Q h => by
  obtain ⟨wa, Hf, sD, w, hb, hs, h⟩ := h
  refine ⟨wa, Hf, sD, w, hb, hs, h.bind.mono (fun x w1 H1 Hf1 g1 b1 q v rv => ?_) (fun _ _ _ _ _ _ q => q)⟩
  cases rv
  cases x with
  | true => exact iteT ⟨wa, Hf1, sD, w1, b1, hs.go g1, q⟩
  | false => exact iteF ⟨wa, Hf1, sD, w1, b1, hs.go g1, q⟩

/-! ### argument lists, displays -/
def aNil : DA := fun _ w => .ok [] w
def aCons (A : DE) (As : DA) : DA := fun s w => (A s w).bind fun x w1 => (As s w1).bind fun xs w2 => .ok (x :: xs) w2
variable {As : DA} {es : List Expr}
theorem ad_nil : PA X [] (lA mg W aNil) := weakA pa_nil fun σ H Q h => by
  obtain ⟨wa, Hf, sD, w, hb, hs, h⟩ := h
  exact h.here hb _ .nil
theorem ad_cons (ha : PE X a (lE mg W A)) (hr : PA X es (lA mg W As)) (hs : starEach (a :: es) X.env = (false, eval a X.env) :: starEach es X.env := by rfl) : PA X (a :: es) (lA mg W (aCons A As)) := weakA (pa_cons ha hr hs) fun σ H Q h => by
  obtain ⟨wa, Hf, sD, w, hb, hs, h⟩ := h
  refine ⟨wa, Hf, sD, w, hb, hs, h.bind.mono (fun x w1 H1 Hf1 g1 b1 q v rv => ?_) (fun _ _ _ _ _ _ q => q)⟩
  refine ⟨wa, Hf1, sD, w1, b1, hs.go g1, q.bind.mono (fun y w2 H2 Hf2 g2 b2 q2 v2 rv2 => ?_) (fun _ _ _ _ _ _ q => q)⟩
  exact q2.here b2 _ (.cons (rv.mono g2.ex) rv2)
def eTup (As : DA) : DE := fun s w => (As s w).bind fun xs w1 => if xs.length ≤ lim then .ok (.tup xs) w1 else .no
def aLst (As : DA) : DA := fun s w => (As s w).bind fun xs w1 => if xs.length ≤ lim then .ok xs w1 else .no
theorem pd_tup {k} (ha : PA X es (lA mg W As)) : PE X (.Tuple es k pos) (lE mg W (eTup As)) := weakE (pe_tup ha) fun σ H Q h => by
  obtain ⟨wa, Hf, sD, w, hb, hs, h⟩ := h
  refine ⟨wa, Hf, sD, w, hb, hs, h.bind.mono (fun x w1 H1 Hf1 g1 b1 q v rv => ?_) (fun _ _ _ _ _ _ q => q)⟩
  split at q
  · rename_i hz
    refine ⟨by rw [rv.length]; exact lim_le hz, fun p hp => ?_⟩
    exact q _ _ (Go.newF b1.ex hp) (b1.newF hp) _ (.tup upd_same (rv.mono (Ex.new (Evl.fresh_back b1.ex hp))))
  · exact q.elim
theorem pl_lst (ha : PA X es (lA mg W As)) : PE X (.List es pos) (lfL mg W (aLst As)) := weakE (pe_lst ha) fun σ H Q h => by
  obtain ⟨wa, Hf, sD, w, hb, hs, h⟩ := h
  refine ⟨wa, Hf, sD, w, hb, hs, h.bind.mono (fun x w1 H1 Hf1 g1 b1 q v rv => ?_) (fun _ _ _ _ _ _ q => q)⟩
  split at q
  · rename_i hz
    refine ⟨by rw [rv.length]; exact lim_le hz, fun p hp => ?_⟩
    exact q _ _ (Go.new1 hp) (b1.new1 hp) p v (g1.free hp) upd_same (Evl.fresh_back b1.ex hp) (fun z => by rw [z, b1.well] at hp; cases hp) rv
  · exact q.elim

/-! ### subscripts -/
def atD (w : Wl) (x : D) (i : Int) : Option D := match x with
  | .lst xs => atI xs i
  | .tup xs => atI xs i
  | .well => atI [.int w.1, .int w.2.1, .int w.2.2] i
  | _ => none
def fIx : Wl → D → D → Option D := fun w x y => match y with
  | .int i => atD w x i
  | _ => none
theorem atI_rep {wa : Addr} {Hf : Hp} {vs : List V} {ds : List D} {i : Int} {d : D} (r : Reps wa Hf vs ds) (h : atI ds i = some d) : ∃ v, atI vs i = some v ∧ Rep wa Hf v d := by
  unfold atI at h ⊢
  rw [r.length]
  cases e : ixN ds.length i with
  | none => rw [e] at h; cases h
  | some j =>
    rw [e] at h
    exact r.get h
theorem opd_ix {K : PySem.W.Frag} : OpD (rIx K) fIx := by
  intro wa Hf H w x y u v z Q hb ru rv h q
  unfold fIx at h
  split at h
  · cases rv
    unfold atD at h
    split at h
    · cases ru with
      | lst h1 r1 =>
        obtain ⟨v', e, r'⟩ := atI_rep r1 h
        exact .inl ⟨_, _, _, _, rfl, rfl, SqL.of (hb.ex _ _ h1), e, q _ _ Go.refl hb _ r'⟩
    · cases ru with
      | tup h1 r1 =>
        obtain ⟨v', e, r'⟩ := atI_rep r1 h
        exact .inr (.inl ⟨_, _, _, _, rfl, rfl, SqT.of (hb.ex _ _ h1), e, q _ _ Go.refl hb _ r'⟩)
    · cases ru
      obtain ⟨v', e, r'⟩ := atI_rep (wa := wa) (Hf := Hf) (vs := wl w) (.cons (.int _) (.cons (.int _) (.cons (.int _) .nil))) h
      exact .inl ⟨_, _, _, _, rfl, rfl, SqL.of hb.well, e, q _ _ Go.refl hb _ r'⟩
    · cases h
  · cases h
theorem pd_ix (ha : PE X a (lE mg W A)) (hb : PE X b (lE mg W B)) (hs : PlainIx b := by exact fun _ _ => rfl) : PE X (.Subscript a b pos) (lE mg W (eBin fIx A B)) := weakE (pe_ix ix_seq ha hb hs) fun _ _ _ q => bin_ok opd_ix q
/-- a part of a slice -/
def oNone : Sl → Wl → R (Option Int) := fun _ w => .ok none w
def oSome (A : DE) : Sl → Wl → R (Option Int) := fun s w => (A s w).bind fun x w1 => match x with
  | .int i => .ok (some i) w1
  | _ => .no
theorem od_none : PO X none (lO mg W oNone) := weakO po_none fun σ H Q h => by
  obtain ⟨wa, Hf, sD, w, hb, hs, h⟩ := h
  exact h.here hb _ rfl
theorem od_some (ha : PE X a (lE mg W A)) : PO X (some a) (lO mg W (oSome A)) := weakO (po_some ha) fun σ H Q h => by
  obtain ⟨wa, Hf, sD, w, hb, hs, h⟩ := h
  refine ⟨wa, Hf, sD, w, hb, hs, h.bind.mono (fun x w1 H1 Hf1 g1 b1 q v rv => ?_) (fun _ _ _ _ _ _ q => q)⟩
  split at q
  · cases rv
    exact ⟨_, rfl, q.here b1 _ rfl⟩
  · exact q.elim
def cutD {α : Type} (xs : List α) (lo hi : Option Int) : List α := (xs.drop (HT.sIx xs.length 0 lo)).take (HT.sIx xs.length xs.length hi - HT.sIx xs.length 0 lo)
theorem cut_rep {wa : Addr} {Hf : Hp} {vs : List V} {ds : List D} {lo hi : Option Int} (r : Reps wa Hf vs ds) : Reps wa Hf (cutV vs lo hi) (cutD ds lo hi) := by
  unfold cutV cutD
  rw [r.length]
  exact (r.drop _).take _
theorem cutD_whole {α : Type} {xs : List α} {lo hi : Option Int} (h : HT.sIx xs.length 0 lo = 0 ∧ HT.sIx xs.length xs.length hi = xs.length) : cutD xs lo hi = xs := by
  unfold cutD
  rw [h.1, h.2]
  simp
def eSl (A : DE) (L M : Sl → Wl → R (Option Int)) : DE := fun s w => (A s w).bind fun x w1 => (L s w1).bind fun l w2 => (M s w2).bind fun m w3 => match x with
  | .lst xs => .ok (.lst (cutD xs l m)) w3
  | .tup xs => .ok (.tup (cutD xs l m)) w3
  | _ => .no
theorem pd_sl {lo hi : Option Expr} {p2 : Pos} {L M : Sl → Wl → R (Option Int)} (ha : PE X a (lE mg W A)) (hl : PO X lo (lO mg W L)) (hm : PO X hi (lO mg W M)) : PE X (.Subscript a (.Slice lo hi none p2) pos) (lE mg W (eSl A L M)) :=
  weakE (pe_slice (sl_list.or sl_tupA) ha hl hm) fun σ H Q h => by
  obtain ⟨wa, Hf, sD, w, hb, hs, h⟩ := h
  refine ⟨wa, Hf, sD, w, hb, hs, h.bind.mono (fun x w1 H1 Hf1 g1 b1 q v rv => ?_) (fun _ _ _ _ _ _ q => q)⟩
  refine ⟨wa, Hf1, sD, w1, b1, hs.go g1, q.bind.mono (fun y w2 H2 Hf2 g2 b2 q2 v2 rv2 => ?_) (fun _ _ _ _ _ _ q => q)⟩
  refine ⟨wa, Hf2, sD, w2, b2, (hs.go g1).go g2, q2.bind.mono (fun z w3 H3 Hf3 g3 b3 q3 v3 rv3 => ?_) (fun _ _ _ _ _ _ q => q)⟩
  cases rv2
  cases rv3
  split at q3
  · cases rv with
    | lst h1 r1 =>
      refine .inl ⟨_, _, rfl, SqL.of (b3.ex _ _ (g3.ex _ _ (g2.ex _ _ h1))), ?_⟩
      exact frzL (z := .non) b3 (cut_rep ((r1.mono g2.ex).mono g3.ex)) q3
  · cases rv with
    | tup h1 r1 =>
      have h3 := g3.ex _ _ (g2.ex _ _ h1)
      have r3 := (r1.mono g2.ex).mono g3.ex
      refine .inr ⟨_, _, rfl, SqT.of (b3.ex _ _ h3), fun hw => ?_, fun _ => frzT (z := .non) b3 (cut_rep r3) q3⟩
      rw [r3.length] at hw
      refine q3 _ _ Go.refl b3 _ ?_
      rw [cutD_whole hw]
      exact .tup h3 r3
  · exact q3.elim

/-! ### calls of built-ins by values -/
theorem pd_cb {x : Str} {id : String} {r : List V → Hp → VK → Prop} {f : Wl → List D → Option D} {p : Pos} (hc : CallR X (.builtin id) r) (hf : CaD r f) (hg : Gl X x) (hm : X.mg x = none) (hv : bootBuiltins x = some (.builtin id)) (ha : PA X (a :: es) (lA mg W As)) (hn : x ≠ "__name__" := by decide) (hdb : (x == ("__debug__" : Str)) = false := by decide)
    (he : starEach (a :: es) X.env = (false, eval a X.env) :: starEach es X.env := by rfl) (hpl : (backTo pos (starEach es X.env)).any (·.1) = false := by rfl) : PE X (.Call (.Name x p) (a :: es) [] pos) (lE mg W (eCB f As)) :=
  weakE (pe_callB hc hg hm hv ha hn hdb he hpl) fun _ _ _ q => cb_ok hf q
theorem pd_ct {x : Str} {id : String} {r : List V → Hp → VK → Prop} {f : Wl → List D → Option D} {p : Pos} (hc : CallR X (.type id) r) (hf : CaD r f) (hg : Gl X x) (hm : X.mg x = none) (hv : bootBuiltins x = some (.type id)) (ha : PA X (a :: es) (lA mg W As)) (hn : x ≠ "__name__" := by decide) (hdb : (x == ("__debug__" : Str)) = false := by decide)
    (he : starEach (a :: es) X.env = (false, eval a X.env) :: starEach es X.env := by rfl) (hpl : (backTo pos (starEach es X.env)).any (·.1) = false := by rfl) : PE X (.Call (.Name x p) (a :: es) [] pos) (lE mg W (eCB f As)) :=
  weakE (pe_callTy hc hg hm hv ha hn hdb he hpl) fun _ _ _ q => cb_ok hf q
theorem pl_ct {x : Str} {id : String} {r : List V → Hp → VK → Prop} {f : Wl → List D → Option (List D)} {p : Pos} (hc : CallR X (.type id) r) (hf : CaL r f) (hg : Gl X x) (hm : X.mg x = none) (hv : bootBuiltins x = some (.type id)) (ha : PA X (a :: es) (lA mg W As)) (hn : x ≠ "__name__" := by decide) (hdb : (x == ("__debug__" : Str)) = false := by decide)
    (he : starEach (a :: es) X.env = (false, eval a X.env) :: starEach es X.env := by rfl) (hpl : (backTo pos (starEach es X.env)).any (·.1) = false := by rfl) : PE X (.Call (.Name x p) (a :: es) [] pos) (lfL mg W (eCBL f As)) :=
  weakE (pe_callTy hc hg hm hv ha hn hdb he hpl) fun _ _ _ q => cbL_ok hf q
end
end DL

set_option maxHeartbeats 2000000
namespace DL
open PySem PySem.Spec PyProof.Rows L2
open Evl (Ex)
/-! ### built-ins by values -/
def ints? : List D → Option (List Int)
  | [] => some []
  | .int i :: r => (ints? r).map (i :: ·)
  | _ => none
def bls? : List D → Option (List Bool)
  | [] => some []
  | .bl i :: r => (bls? r).map (i :: ·)
  | _ => none
@[simp] theorem ints?_map : ∀ ns : List Int, ints? (ns.map .int) = some ns
  | [] => rfl
  | n :: r => by simp [ints?, ints?_map r]
@[simp] theorem bls?_map : ∀ ns : List Bool, bls? (ns.map .bl) = some ns
  | [] => rfl
  | n :: r => by simp [bls?, bls?_map r]
theorem ints?_some : ∀ {ds : List D} {ns : List Int}, ints? ds = some ns → ds = ns.map .int
  | [], ns, h => by cases h; rfl
  | .int i :: r, ns, h => by
    unfold ints? at h
    cases e : ints? r with
    | none => rw [e] at h; cases h
    | some ms =>
      rw [e] at h
      cases h
      rw [ints?_some e]
      rfl
  | .non :: _, _, h | .bl _ :: _, _, h | .str _ :: _, _, h | .lst _ :: _, _, h | .tup _ :: _, _, h | .own _ :: _, _, h | .well :: _, _, h | .ref _ :: _, _, h | .ty _ :: _, _, h => by cases h
theorem bls?_some : ∀ {ds : List D} {ns : List Bool}, bls? ds = some ns → ds = ns.map .bl
  | [], ns, h => by cases h; rfl
  | .bl i :: r, ns, h => by
    unfold bls? at h
    cases e : bls? r with
    | none => rw [e] at h; cases h
    | some ms =>
      rw [e] at h
      cases h
      rw [bls?_some e]
      rfl
  | .non :: _, _, h | .int _ :: _, _, h | .str _ :: _, _, h | .lst _ :: _, _, h | .tup _ :: _, _, h | .own _ :: _, _, h | .well :: _, _, h | .ref _ :: _, _, h | .ty _ :: _, _, h => by cases h
section
variable {X : Cx} {H : Hp}
def fLen : Wl → List D → Option D := fun _ ds => match ds with
  | [.lst xs] => some (.int xs.length)
  | [.tup xs] => some (.int xs.length)
  | [.str x] => if x.length ≤ lim then some (.int x.length) else none
  | _ => none
theorem cd_len {K : PySem.W.Frag} : CaD (fun xs H Q => ∃ x n, xs = [x] ∧ LenV K x H n ∧ Q (.int n) H) fLen := by
  intro wa Hf H w ds us z Q hb rs h q
  unfold fLen at h
  split at h
  · cases h
    cases rs with
    | cons r1 r2 =>
      cases r2
      cases r1 with
      | lst h1 r1 => exact ⟨_, _, rfl, .inl ⟨_, SqL.of (hb.ex _ _ h1), rfl⟩, by rw [r1.length]; exact q _ _ Go.refl hb _ (.int _)⟩
  · cases h
    cases rs with
    | cons r1 r2 =>
      cases r2
      cases r1 with
      | tup h1 r1 => exact ⟨_, _, rfl, .inr ⟨_, SqT.of (hb.ex _ _ h1), rfl⟩, by rw [r1.length]; exact q _ _ Go.refl hb _ (.int _)⟩
  · split at h
    · rename_i hz
      cases h
      cases rs with
      | cons r1 r2 =>
        cases r2
        cases r1
        exact ⟨_, _, rfl, ⟨lim_le hz, rfl⟩, q _ _ Go.refl hb _ (.int _)⟩
    · cases h
  · cases h
def fMax2 : Wl → List D → Option D := fun _ ds => match ds with
  | [.int i, .int j] => some (.int (if j > i then j else i))
  | _ => none
def fMin2 : Wl → List D → Option D := fun _ ds => match ds with
  | [.int i, .int j] => some (.int (if j < i then j else i))
  | _ => none
theorem cd_max2 : CaD (fun xs H Q => ∃ i j, xs = [.int i, .int j] ∧ Q (.int (if j > i then j else i)) H) fMax2 := by
  intro wa Hf H w ds us z Q hb rs h q
  unfold fMax2 at h
  split at h
  · cases h
    cases rs with
    | cons r1 r2 =>
      cases r1
      cases r2 with
      | cons r1 r2 =>
        cases r1
        cases r2
        exact ⟨_, _, rfl, q _ _ Go.refl hb _ (.int _)⟩
  · cases h
theorem cd_min2 : CaD (fun xs H Q => ∃ i j, xs = [.int i, .int j] ∧ Q (.int (if j < i then j else i)) H) fMin2 := by
  intro wa Hf H w ds us z Q hb rs h q
  unfold fMin2 at h
  split at h
  · cases h
    cases rs with
    | cons r1 r2 =>
      cases r1
      cases r2 with
      | cons r1 r2 =>
        cases r1
        cases r2
        exact ⟨_, _, rfl, q _ _ Go.refl hb _ (.int _)⟩
  · cases h
def fAbs : Wl → List D → Option D := fun _ ds => match ds with
  | [.int i] => some (.int (if i < 0 then -i else i))
  | _ => none
theorem cd_abs : CaD (fun xs H Q => ∃ i, xs = [.int i] ∧ Q (.int (if i < 0 then -i else i)) H) fAbs := by
  intro wa Hf H w ds us z Q hb rs h q
  unfold fAbs at h
  split at h
  · cases h
    cases rs with
    | cons r1 r2 =>
      cases r1
      cases r2
      exact ⟨_, rfl, q _ _ Go.refl hb _ (.int _)⟩
  · cases h
def fInt : Wl → List D → Option D := fun _ ds => match ds with
  | [.int i] => some (.int i)
  | [.bl k] => some (.int (if k then 1 else 0))
  | _ => none
theorem cd_int : CaD (fun xs H Q => (∃ i, xs = [.int i] ∧ Q (.int i) H) ∨ ∃ k, xs = [.bl k] ∧ Q (.int (if k then 1 else 0)) H) fInt := by
  intro wa Hf H w ds us z Q hb rs h q
  unfold fInt at h
  split at h
  · cases h
    cases rs with
    | cons r1 r2 =>
      cases r1
      cases r2
      exact .inl ⟨_, rfl, q _ _ Go.refl hb _ (.int _)⟩
  · cases h
    cases rs with
    | cons r1 r2 =>
      cases r1
      cases r2
      exact .inr ⟨_, rfl, q _ _ Go.refl hb _ (.int _)⟩
  · cases h
def fSum : Wl → List D → Option D := fun _ ds => match ds with
  | [.lst xs] => (ints? xs).map fun ns => .int ns.sum
  | _ => none
theorem one_lst {wa : Addr} {Hf : Hp} {us : List V} {xs : List D} (r : Reps wa Hf us [.lst xs]) : ∃ a vs, us = [.ref a] ∧ Hf a = some (.lst vs) ∧ Reps wa Hf vs xs := by
  cases r with
  | cons r1 r2 =>
    cases r2
    cases r1 with
    | lst h1 r1 => exact ⟨_, _, rfl, h1, r1⟩
theorem cd_sum {K : PySem.W.Frag} : CaD (rSum K) fSum := by
  intro wa Hf H w ds us z Q hb rs h q
  unfold fSum at h
  split at h
  · rename_i xs
    cases e : ints? xs with
    | none => rw [e] at h; cases h
    | some ns =>
      rw [e] at h
      cases h
      obtain ⟨a, vs, rfl, h1, r1⟩ := one_lst rs
      rw [ints?_some e] at r1
      have e2 := r1.ints
      subst e2
      exact ⟨a, ns, rfl, SqL.of (hb.ex _ _ h1), q _ _ Go.refl hb _ (.int _)⟩
  · cases h
def fAll : Wl → List D → Option D := fun _ ds => match ds with
  | [.lst xs] => (bls? xs).map fun ns => .bl (ns.all id)
  | _ => none
def fAny : Wl → List D → Option D := fun _ ds => match ds with
  | [.lst xs] => (bls? xs).map fun ns => .bl (ns.any id)
  | _ => none
theorem cd_all {K : PySem.W.Frag} : CaD (rAll K) fAll := by
  intro wa Hf H w ds us z Q hb rs h q
  unfold fAll at h
  split at h
  · rename_i xs
    cases e : bls? xs with
    | none => rw [e] at h; cases h
    | some ns =>
      rw [e] at h
      cases h
      obtain ⟨a, vs, rfl, h1, r1⟩ := one_lst rs
      rw [bls?_some e] at r1
      have e2 := r1.bls
      subst e2
      exact ⟨a, ns, rfl, SqL.of (hb.ex _ _ h1), q _ _ Go.refl hb _ (.bl _)⟩
  · cases h
theorem cd_any {K : PySem.W.Frag} : CaD (rAny K) fAny := by
  intro wa Hf H w ds us z Q hb rs h q
  unfold fAny at h
  split at h
  · rename_i xs
    cases e : bls? xs with
    | none => rw [e] at h; cases h
    | some ns =>
      rw [e] at h
      cases h
      obtain ⟨a, vs, rfl, h1, r1⟩ := one_lst rs
      rw [bls?_some e] at r1
      have e2 := r1.bls
      subst e2
      exact ⟨a, ns, rfl, SqL.of (hb.ex _ _ h1), q _ _ Go.refl hb _ (.bl _)⟩
  · cases h
def fTuple : Wl → List D → Option D := fun _ ds => match ds with
  | [.lst xs] => some (.tup xs)
  | [.tup xs] => some (.tup xs)
  | _ => none
theorem cd_tuple {K : PySem.W.Frag} : CaD (fun xs H Q => ∃ p ys, xs = [.ref p] ∧ ((SqL K H p ys ∧ ∀ l, H l = none → Q (.ref l) (upd H l (.tup ys))) ∨ (SqT K H p ys ∧ Q (.ref p) H))) fTuple := by
  intro wa Hf H w ds us z Q hb rs h q
  unfold fTuple at h
  split at h
  · cases h
    obtain ⟨a, vs, rfl, h1, r1⟩ := one_lst rs
    exact ⟨a, vs, rfl, .inl ⟨SqL.of (hb.ex _ _ h1), frzT (z := .non) hb r1 q⟩⟩
  · cases h
    cases rs with
    | cons r1 r2 =>
      cases r2
      cases r1 with
      | tup h1 r1 => exact ⟨_, _, rfl, .inr ⟨SqT.of (hb.ex _ _ h1), q _ _ Go.refl hb _ (.tup h1 r1)⟩⟩
  · cases h
/-- list(x): a new list -/
def fList : Wl → List D → Option (List D) := fun _ ds => match ds with
  | [.lst xs] => some xs
  | [.tup xs] => some xs
  | _ => none
theorem newL {wa : Addr} {Hf H : Hp} {w : Wl} {Q : VK} {vs : List V} {ds : List D} (hb : Base wa Hf H w) (rv : Reps wa Hf vs ds) (q : ∀ H' Hf' p vs, Go wa H Hf H' Hf' → Base wa Hf' H' w → H p = none → H' p = some (.lst vs) → Hf' p = none → p ≠ wa → Reps wa Hf' vs ds → Q (.ref p) H') : ∀ p, H p = none → Q (.ref p) (upd H p (.lst vs)) := fun p hp =>
  q _ _ p vs (Go.new1 hp) (hb.new1 hp) hp upd_same (Evl.fresh_back hb.ex hp) (fun z => by rw [z, hb.well] at hp; cases hp) rv
theorem cl_list {K : PySem.W.Frag} : CaL (fun xs H Q => ∃ p ys, xs = [.ref p] ∧ (SqL K H p ys ∨ SqT K H p ys) ∧ ∀ l, H l = none → Q (.ref l) (upd H l (.lst ys))) fList := by
  intro wa Hf H w ds us z Q hb rs h q
  unfold fList at h
  split at h
  · cases h
    obtain ⟨a, vs, rfl, h1, r1⟩ := one_lst rs
    exact ⟨a, vs, rfl, .inl (SqL.of (hb.ex _ _ h1)), newL hb r1 q⟩
  · cases h
    cases rs with
    | cons r1 r2 =>
      cases r2
      cases r1 with
      | tup h1 r1 => exact ⟨_, _, rfl, .inr (SqT.of (hb.ex _ _ h1)), newL hb r1 q⟩
  · cases h
/-- isinstance -/
def tyD : D → Option String
  | .non => some "NoneType"
  | .bl _ => some "bool"
  | .int _ => some "int"
  | .str _ => some "str"
  | .lst _ => some "list"
  | .tup _ => some "tuple"
  | _ => none
theorem tyD_ok {wa : Addr} {Hf : Hp} {K : PySem.W.Frag} {w : Wl} {x : D} {v : V} {t : String} (hb : Base wa Hf H w) (r : Rep wa Hf v x) (h : tyD x = some t) : TyX K H v (.type t) := by
  cases r with
  | non => cases h; exact .base .non
  | bl b => cases h; exact .base (.bl b)
  | int b => cases h; exact .base (.int b)
  | str b => cases h; exact .base (.str b)
  | lst h1 r1 => cases h; exact .base (.lst (hb.ex _ _ h1))
  | tup h1 r1 => cases h; exact .base (.tup (hb.ex _ _ h1))
  | well => cases h
  | ref a => cases h
  | ty a => cases h
def isB (t : String) (n : String) : Option Bool := if t = n then some true else match n with
  | "int" => if t = "bool" then some true else if t = "NoneType" ∨ t = "str" ∨ t = "list" ∨ t = "tuple" then some false else none
  | "bool" | "str" | "list" | "tuple" => if t = "NoneType" ∨ t = "str" ∨ t = "list" ∨ t = "tuple" ∨ t = "bool" ∨ t = "int" then some false else none
  | _ => none
theorem kitB_all : ∀ t ∈ ["NoneType", "bool", "int", "str", "list", "tuple"], ∀ n ∈ ["bool", "int", "str", "list", "tuple"], kitB t n = isB t n := by decide +kernel
theorem isB_kit {K : PySem.W.Frag} {t n : String} {b : Bool} {x : D} (ht : tyD x = some t) (h : isB t n = some b) : PySem.W.kitOne K (.type t) (.type n) = some b := by
  have mt : t ∈ ["NoneType", "bool", "int", "str", "list", "tuple"] := by
    cases x <;> first | (cases ht; decide) | cases ht
  have mn : n ∈ ["bool", "int", "str", "list", "tuple"] ∨ n = "NoneType" := by
    unfold isB at h
    split at h
    · rename_i e
      subst e
      revert mt
      intro mt
      simp only [List.mem_cons, List.not_mem_nil, or_false] at mt ⊢
      rcases mt with h | h | h | h | h | h <;> simp [h]
    · split at h <;> first | (left; decide) | cases h
  rcases mn with mn | mn
  · exact kit_ty (by rw [kitB_all t mt n mn]; exact h)
  · subst mn
    unfold isB at h
    split at h
    · rename_i e
      subst e
      cases h
      exact kit_ty (by decide +kernel)
    · simp at h
def fIsi : Wl → List D → Option D := fun _ ds => match ds with
  | [x, .ty n] => (tyD x).bind fun t => (isB t n).map .bl
  | [x, .tup [.ty n, .ty m]] => (tyD x).bind fun t => (isB t n).bind fun b => if b then some (.bl true) else (isB t m).map .bl
  | _ => none
theorem cd_isi {K : PySem.W.Frag} : CaD (fun xs H Q => rIsi K xs H Q ∨ rIsiT K xs H Q) fIsi := by
  intro wa Hf H w ds us z Q hb rs h q
  unfold fIsi at h
  split at h
  · rename_i x n
    cases e : tyD x with
    | none => rw [e] at h; cases h
    | some t =>
      rw [e] at h
      cases e2 : isB t n with
      | none => simp [e2] at h
      | some b =>
        simp only [Option.bind_some, e2, Option.map_some, Option.some.injEq] at h
        subst h
        cases rs with
        | cons r1 r2 =>
          cases r2 with
          | cons r2 r3 =>
            cases r2
            cases r3
            exact .inl ⟨_, _, _, _, b, rfl, .ty n, tyD_ok hb r1 e, isB_kit e e2, q _ _ Go.refl hb _ (.bl _)⟩
  · rename_i x n m
    cases e : tyD x with
    | none => rw [e] at h; cases h
    | some t =>
      rw [e] at h
      cases e2 : isB t n with
      | none => simp [e2] at h
      | some b =>
        simp only [Option.bind_some, e2] at h
        cases rs with
        | cons r1 r2 =>
          cases r2 with
          | cons r2 r3 =>
            cases r3
            cases r2 with
            | tup h1 r2 =>
              cases r2 with
              | cons ra rb =>
                cases ra
                cases rb with
                | cons rb rc =>
                  cases rb
                  cases rc
                  have pc : Paired ClsV [V.ty n, V.ty m] [Value.type n, Value.type m] := .cons (.ty n) (.cons (.ty m) .nil)
                  cases b with
                  | true =>
                    simp only [if_true, Option.some.injEq] at h
                    subst h
                    refine .inr ⟨_, _, _, _, _, true, rfl, hb.ex _ _ h1, pc, tyD_ok hb r1 e, ?_, q _ _ Go.refl hb _ (.bl _)⟩
                    unfold PySem.W.kitAny
                    rw [isB_kit e e2]
                  | false =>
                    simp only [Bool.false_eq_true, if_false] at h
                    cases e3 : isB t m with
                    | none => rw [e3] at h; cases h
                    | some b2 =>
                      rw [e3] at h
                      cases h
                      refine .inr ⟨_, _, _, _, _, b2, rfl, hb.ex _ _ h1, pc, tyD_ok hb r1 e, ?_, q _ _ Go.refl hb _ (.bl _)⟩
                      unfold PySem.W.kitAny
                      rw [isB_kit e e2]
                      show PySem.W.kitAny K (.type t) [.type m] = some b2
                      unfold PySem.W.kitAny
                      rw [isB_kit e e3]
                      cases b2 <;> rfl
  · cases h
theorem call_isiA : CallR X (.builtin "isinstance") (fun xs H Q => rIsi X.K xs H Q ∨ rIsiT X.K xs H Q) := call_isi.or call_isiT
/-- divmod -/
def fDivmod : Wl → List D → Option D := fun _ ds => match ds with
  | [.int i, .int j] => if divOk j then some (.tup [.int (i.fdiv j), .int (i.fmod j)]) else none
  | _ => none
def rDivmod : List V → Hp → VK → Prop := fun xs H Q => ∃ i j, xs = [.int i, .int j] ∧ divOk j ∧ ∀ p, H p = none → Q (.ref p) (upd H p (.tup [.int (i.fdiv j), .int (i.fmod j)]))
theorem call_divmodA : CallR X (.builtin "divmod") rDivmod := by
  intro pins s σ H xs us Q I r h
  obtain ⟨i, j, rfl, ⟨h1, h2⟩, q⟩ := h
  obtain ⟨u, w', rfl, ⟨t, rfl⟩, ⟨t', rfl⟩⟩ := vals2 r
  refine divmod_int h1 ?_ (.inl (PyProof.noPylong_of_log2 h2))
  have hn : H s.heap.objs.size = none := I.hok.fresh (Nat.le_refl _)
  refine ⟨.ref s.heap.objs.size, _, ?_, rfl, q _ hn⟩
  refine I.laid (fun b o e => Heap.get?_push_of_some _ e) (Nat.le_refl _) ⟨by simp only [List.length_cons, List.length_nil]; rw [sizeLine_eq]; decide, [.int (i.fdiv j) s.toks, .int (i.fmod j) (s.toks + 1)], .cons ⟨_, rfl⟩ (.cons ⟨_, rfl⟩ .nil), ?_⟩
  exact ⟨_, Heap.get?_push_size s.heap rfl, rfl, 0, rfl⟩
theorem cd_divmod : CaD rDivmod fDivmod := by
  intro wa Hf H w ds us z Q hb rs h q
  unfold fDivmod at h
  split at h
  · split at h
    · rename_i hd
      cases h
      cases rs with
      | cons r1 r2 =>
        cases r1
        cases r2 with
        | cons r1 r2 =>
          cases r1
          cases r2
          exact ⟨_, _, rfl, hd, frzT (z := .non) hb (.cons (.int _) (.cons (.int _) .nil)) q⟩
    · cases h
  · cases h
end
end DL

set_option maxHeartbeats 2000000
namespace DL
open PySem PySem.Spec PyProof.Rows L2
open Evl (Ex)
/-! ### what is walked -/
structure WalkD (wa : Addr) (Hf : Hp) (J : It) (ds : List D) : Prop where
  goes : ∀ i H, i < ds.length → Ex Hf H → J.go i H
  stops : ∀ H, Ex Hf H → J.stop ds.length H
  yields : ∀ i H Hf1 w x H' d, ds[i]? = some d → Ex Hf Hf1 → Base wa Hf1 H w → J.yld i H x H' → ∃ Hf2, Go wa H Hf1 H' Hf2 ∧ Base wa Hf2 H' w ∧ Rep wa Hf2 x d
abbrev DI := Sl → Wl → R (List D)
def lI (mg : Str → Option Value) (W : WX) (I : DI) : TI := fun σ H R =>
  ∃ wa Hf sD w, Base wa Hf H w ∧ Slots wa Hf H σ sD ∧ Fin wa Hf H (I sD w) (fun ds _ H' Hf' => ∀ J, WalkD wa Hf' J ds → R J H') (Er mg W wa σ)
section
variable {X : Cx} {mg : Str → Option Value} {W : WX} {tg it a b e : Expr} {es : List Expr} {pos : Pos} {σ : L2.St} {H : Hp} {wa : Addr} {Hf : Hp}
theorem weakI {t t' : TI} (h : PI X tg it t) (i : ∀ σ H Q, t' σ H Q → t σ H Q) : PI X tg it t' := ⟨fun pins s σ H Q I q => h.run pins s σ H Q I (i σ H Q q)⟩
theorem orI {t t' : TI} (h : PI X tg it t) (h' : PI X tg it t') : PI X tg it (fun σ H Q => t σ H Q ∨ t' σ H Q) := ⟨fun pins s σ H Q I q => q.elim (fun q => h.run pins s σ H Q I q) fun q => h'.run pins s σ H Q I q⟩
theorem walkD_list {K : PySem.W.Frag} {p : Addr} {vs : List V} {ds : List D} (h : Hf p = some (.lst vs)) (r : Reps wa Hf vs ds) : WalkD wa Hf (Itl K p) ds :=
  ⟨fun i H hi x => by
    have hi' : i < vs.length := by rw [r.length]; exact hi
    exact ⟨vs, vs[i], SqL.of (x _ _ h), by simp [hi']⟩, fun H x => ⟨vs, SqL.of (x _ _ h), Nat.le_of_eq r.length⟩, fun i H Hf1 w y H' d hd x b q => by
    obtain ⟨rfl, q⟩ := q
    obtain ⟨v, e1, r1⟩ := (r.mono x).get hd
    have e2 := q vs (SqL.of (b.ex _ _ (x _ _ h)))
    rw [e1] at e2
    cases e2
    exact ⟨Hf1, Go.refl, b, r1⟩⟩
theorem walkD_tup {K : PySem.W.Frag} {p : Addr} {vs : List V} {ds : List D} (h : Hf p = some (.tup vs)) (r : Reps wa Hf vs ds) : WalkD wa Hf (Itt K p) ds :=
  ⟨fun i H hi x => by
    have hi' : i < vs.length := by rw [r.length]; exact hi
    exact ⟨vs, vs[i], SqT.of (x _ _ h), by simp [hi']⟩, fun H x => ⟨vs, SqT.of (x _ _ h), Nat.le_of_eq r.length⟩, fun i H Hf1 w y H' d hd x b q => by
    obtain ⟨rfl, q⟩ := q
    obtain ⟨v, e1, r1⟩ := (r.mono x).get hd
    have e2 := q vs (SqT.of (b.ex _ _ (x _ _ h)))
    rw [e1] at e2
    cases e2
    exact ⟨Hf1, Go.refl, b, r1⟩⟩
def upTo (lo : Int) (n : Nat) : List D := (List.range n).map fun i => .int (lo + (i : Nat))
theorem walkD_range {lo : Int} {n : Nat} : WalkD wa Hf (Itr lo n) (upTo lo n) :=
  ⟨fun i H hi x => by
    have h : i < n := by simpa [upTo] using hi
    exact h, fun H x => by
    have h : n ≤ (upTo lo n).length := by simp [upTo]
    exact h, fun i H Hf1 w y H' d hd x b q => by
    obtain ⟨rfl, q⟩ := q
    unfold upTo at hd
    rw [List.getElem?_map] at hd
    cases e : (List.range n)[i]? with
    | none => rw [e] at hd; cases hd
    | some j =>
      rw [e] at hd
      have ej : j = i := by
        rw [List.getElem?_range] at e
        · exact (Option.some.inj e).symm
        · have := (List.getElem?_eq_some_iff.mp e).1
          simpa using this
      subst ej
      cases hd
      rw [q]
      exact ⟨Hf1, Go.refl, b, .int _⟩⟩
def enumD (xs : List D) : List D := xs.zipIdx.map fun p => .tup [.int (p.2 : Nat), p.1]
theorem walkD_enum {K : PySem.W.Frag} {p : Addr} {vs : List V} {ds : List D} (h : Hf p = some (.lst vs)) (r : Reps wa Hf vs ds) : WalkD wa Hf (Ite K p) (enumD ds) :=
  ⟨fun i H hi x => by
    have hi' : i < vs.length := by rw [r.length]; simpa [enumD] using hi
    exact ⟨vs, vs[i], SqL.of (x _ _ h), by simp [hi']⟩, fun H x => ⟨vs, SqL.of (x _ _ h), by simp [enumD, r.length]⟩, fun i H Hf1 w y H' d hd x b q => by
    obtain ⟨T, z, rfl, hT, rfl, q⟩ := q
    unfold enumD at hd
    rw [List.getElem?_map, List.getElem?_zipIdx] at hd
    cases e : ds[i]? with
    | none => rw [e] at hd; cases hd
    | some d1 =>
      rw [e] at hd
      cases hd
      obtain ⟨v, e1, r1⟩ := (r.mono x).get e
      have e2 := q vs (SqL.of (b.ex _ _ (x _ _ h)))
      rw [e1] at e2
      cases e2
      rw [Nat.zero_add]
      exact ⟨_, Go.newF b.ex hT, b.newF hT, .tup upd_same (.cons (.int _) (.cons (r1.mono (Ex.new (Evl.fresh_back b.ex hT))) .nil))⟩⟩
/-- over a list or a tuple -/
def iSeq (A : DE) : DI := fun s w => (A s w).bind fun x w1 => match x with
  | .lst xs => .ok xs w1
  | .tup xs => .ok xs w1
  | _ => .no
theorem id_seq {A : DE} (ha : PE X a (lE mg W A)) : PI X tg a (lI mg W (iSeq A)) := weakI (orI (pi_list ha) (pi_tup ha)) fun σ H Q h => by
  obtain ⟨wa, Hf, sD, w, hb, hs, h⟩ := h
  unfold iSeq at h
  cases ea : A sD w with
  | ok x w1 =>
    rw [ea, R.bind_ok] at h
    cases x with
    | lst xs =>
      refine .inl ⟨wa, Hf, sD, w, hb, hs, ?_⟩
      rw [ea]
      intro H1 Hf1 g b v rv
      cases rv with
      | lst h1 r1 => exact ⟨_, rfl, ⟨_, SqL.of (b.ex _ _ h1)⟩, h H1 Hf1 g b _ (walkD_list h1 r1)⟩
    | tup xs =>
      refine .inr ⟨wa, Hf, sD, w, hb, hs, ?_⟩
      rw [ea]
      intro H1 Hf1 g b v rv
      cases rv with
      | tup h1 r1 => exact ⟨_, rfl, ⟨_, SqT.of (b.ex _ _ h1)⟩, h H1 Hf1 g b _ (walkD_tup h1 r1)⟩
    | _ => exact h.elim
  | er x w1 =>
    rw [ea] at h
    refine .inl ⟨wa, Hf, sD, w, hb, hs, ?_⟩
    rw [ea]
    exact h
  | no => rw [ea] at h; exact h.elim
/-- over a new list -/
def iRng1 (As : DA) : DI := fun s w => (As s w).bind fun xs w1 => match xs with
  | [.int j] => if -4611686018427387904 ≤ j ∧ j < 4611686018427387904 then .ok (upTo 0 j.toNat) w1 else .no
  | _ => .no
def iRng2 (As : DA) : DI := fun s w => (As s w).bind fun xs w1 => match xs with
  | [.int i, .int j] => if (-4611686018427387904 ≤ i ∧ i < 4611686018427387904) ∧ -4611686018427387904 ≤ j ∧ j < 4611686018427387904 then .ok (upTo i (j - i).toNat) w1 else .no
  | _ => .no
theorem id_rng1 {As : DA} {p : Pos} (hg : Gl X "range") (hm : X.mg "range" = none) (ha : PA X [a] (lA mg W As)) (hs : starEach [a] X.env = [(false, eval a X.env)] := by rfl) : PI X tg (.Call (.Name "range" p) [a] [] pos) (lI mg W (iRng1 As)) := weakI (pi_range1 hg hm ha hs) fun σ H Q h => by
  obtain ⟨wa, Hf, sD, w, hb, hs, h⟩ := h
  refine ⟨wa, Hf, sD, w, hb, hs, h.bind.mono (fun x w1 H1 Hf1 g1 b1 q v rv => ?_) (fun _ _ _ _ _ _ q => q)⟩
  split at q
  · split at q
    · rename_i hz
      cases rv with
      | cons r1 r2 =>
        cases r1
        cases r2
        exact ⟨_, rfl, by omega, by omega, q.here b1 _ walkD_range⟩
    · exact q.elim
  · exact q.elim
theorem id_rng2 {As : DA} {p : Pos} (hg : Gl X "range") (hm : X.mg "range" = none) (ha : PA X [a, b] (lA mg W As)) (hs : starEach [a, b] X.env = [(false, eval a X.env), (false, eval b X.env)] := by rfl) (hs2 : starEach [b] X.env = [(false, eval b X.env)] := by rfl) : PI X tg (.Call (.Name "range" p) [a, b] [] pos) (lI mg W (iRng2 As)) := weakI (pi_range2 hg hm ha hs hs2) fun σ H Q h => by
  obtain ⟨wa, Hf, sD, w, hb, hs, h⟩ := h
  refine ⟨wa, Hf, sD, w, hb, hs, h.bind.mono (fun x w1 H1 Hf1 g1 b1 q v rv => ?_) (fun _ _ _ _ _ _ q => q)⟩
  split at q
  · split at q
    · rename_i hz
      cases rv with
      | cons r1 r2 =>
        cases r1
        cases r2 with
        | cons r1 r2 =>
          cases r1
          cases r2
          exact ⟨_, _, rfl, ⟨by omega, by omega, by omega, by omega⟩, q.here b1 _ walkD_range⟩
    · exact q.elim
  · exact q.elim
def iEnum (As : DA) : DI := fun s w => (As s w).bind fun xs w1 => match xs with
  | [.lst ds] => .ok (enumD ds) w1
  | _ => .no
theorem id_enum {As : DA} {p tpos : Pos} {elts : List Expr} {kk : Nat} (hg : Gl X "enumerate") (hm : X.mg "enumerate" = none) (ha : PA X [a] (lA mg W As)) (hs : starEach [a] X.env = [(false, eval a X.env)] := by rfl) : PI X (.Tuple elts kk tpos) (.Call (.Name "enumerate" p) [a] [] pos) (lI mg W (iEnum As)) := weakI (pi_enum hg hm ha hs) fun σ H Q h => by
  obtain ⟨wa, Hf, sD, w, hb, hs, h⟩ := h
  refine ⟨wa, Hf, sD, w, hb, hs, h.bind.mono (fun x w1 H1 Hf1 g1 b1 q v rv => ?_) (fun _ _ _ _ _ _ q => q)⟩
  split at q
  · obtain ⟨p, vs, rfl, h1, r1⟩ := one_lst rv
    exact ⟨p, vs, rfl, SqL.of (b1.ex _ _ h1), q.here b1 _ (walkD_enum h1 r1)⟩
  · exact q.elim

/-! ### targets -/
def lG (vs : List Nat) (G : DG) : TG := fun v σ H Q => ∃ wa Hf H0 w sD d s', Base wa Hf H w ∧ Rep wa Hf v d ∧ Slots wa Hf H σ sD ∧ OwnNew H0 σ sD ∧ G d sD = some s' ∧
  ∀ σ', Slots wa Hf H σ' s' → OwnNew H0 σ' s' → wipe σ' vs = wipe σ vs → Q σ' H
def lGs (vs : List Nat) (G : List D → Sl → Option Sl) : TGs := fun v σ H Q => ∃ wa Hf H0 w sD d s', Base wa Hf H w ∧ Reps wa Hf v d ∧ Slots wa Hf H σ sD ∧ OwnNew H0 σ sD ∧ G d sD = some s' ∧
  ∀ σ', Slots wa Hf H σ' s' → OwnNew H0 σ' s' → wipe σ' vs = wipe σ vs → Q σ' H
theorem weakG {t t' : TG} (h : PG X tg t) (i : ∀ v σ H Q, t' v σ H Q → t v σ H Q) : PG X tg t' := ⟨fun pins s σ H v u Q I r q => h.run pins s σ H v u Q I r (i v σ H Q q)⟩
theorem weakGs {t t' : TGs} (h : PGs X es t) (i : ∀ v σ H Q, t' v σ H Q → t v σ H Q) : PGs X es t' := ⟨fun pins s σ H v u Q I r q => h.run pins s σ H v u Q I r (i v σ H Q q)⟩
theorem wipe_set {σ : L2.St} {i : Nat} {x : Option V} : ∀ {vs : List Nat}, i ∈ vs → wipe (σ.set i x) vs = wipe σ vs
  | v :: vs, h => by
    unfold wipe
    by_cases hi : i ∈ vs
    · rw [wipe_set hi]
    · have e : i = v := by
        rcases List.mem_cons.mp h with e | e
        · exact e
        · exact absurd e hi
      subst e
      have key : ∀ (ws : List Nat), i ∉ ws → wipe (σ.set i x) ws = (wipe σ ws).set i x := by
        intro ws
        induction ws with
        | nil => intro _; rfl
        | cons u us ih =>
          intro hu
          have h1 : i ∉ us := fun m => hu (List.mem_cons_of_mem _ m)
          have h2 : i ≠ u := fun e => hu (by rw [e]; exact List.mem_cons_self)
          unfold wipe
          rw [ih h1, List.set_comm _ _ h2]
      rw [key vs hi, List.set_set]
def gN (i : Nat) : DG := fun d s => some (s.set i (some d))
theorem gd_name {i : Nat} {x : Str} {vs : List Nat} (hN : X.N.Nodup) (hi : X.N[i]? = some x) (hx : Loc X.env.scope x) (hv : i ∈ vs) (hf : X.fn x = true ∨ X.env.scope.names.lookup x = some .local := by first | exact .inl rfl | exact .inr rfl | assumption) : PG X (.Name x pos) (lG vs (gN i)) := weakG (pg_name hN hi hx hf) fun v σ H Q h => by
  obtain ⟨wa, Hf, H0, w, sD, d, s', hb, rv, hs, ho, e, q⟩ := h
  cases e
  exact q _ (hs.set rv) (ho.set fun xs z => by subst z; exact rep_own rv) (wipe_set hv)
def gNil' : List D → Sl → Option Sl := fun ds s => match ds with
  | [] => some s
  | _ => none
def gCons' (G : DG) (Gs : List D → Sl → Option Sl) : List D → Sl → Option Sl := fun ds s => match ds with
  | d :: r => (G d s).bind fun s1 => Gs r s1
  | _ => none
def gT (Gs : List D → Sl → Option Sl) (n : Nat) : DG := fun d s => match d with
  | .tup ds => if ds.length = n then Gs ds s else none
  | _ => none
theorem gd_nil {vs : List Nat} : PGs X [] (lGs vs gNil') := weakGs pgs_nil fun v σ H Q h => by
  obtain ⟨wa, Hf, H0, w, sD, d, s', hb, rv, hs, ho, e, q⟩ := h
  unfold gNil' at e
  split at e
  · cases e
    cases rv
    exact ⟨rfl, q _ hs ho rfl⟩
  · cases e
theorem gd_cons {G : DG} {Gs : List D → Sl → Option Sl} {vs : List Nat} (h1 : PG X a (lG vs G)) (h2 : PGs X es (lGs vs Gs)) (hs : (assignEach (a :: es) X.env).map (·.2) = assign a X.env :: (assignEach es X.env).map (·.2) := by rfl) : PGs X (a :: es) (lGs vs (gCons' G Gs)) := weakGs (pgs_cons h1 h2 hs) fun v σ H Q h => by
  obtain ⟨wa, Hf, H0, w, sD, d, s', hb, rv, hs, ho, e, q⟩ := h
  unfold gCons' at e
  split at e
  · rename_i d r
    cases rv with
    | cons r1 r2 =>
      cases e1 : G d sD with
      | none => rw [e1] at e; cases e
      | some s1 =>
        rw [e1] at e
        exact ⟨_, _, rfl, wa, Hf, H0, w, sD, d, s1, hb, r1, hs, ho, e1, fun σ1 hs1 ho1 hw1 => ⟨wa, Hf, H0, w, s1, r, s', hb, r2, hs1, ho1, e, fun σ2 hs2 ho2 hw2 => q σ2 hs2 ho2 (hw2.trans hw1)⟩⟩
  · cases e
theorem gd_tup {k : Nat} {Gs : List D → Sl → Option Sl} {n : Nat} {vs : List Nat} (hc : X.calm = true) (h : PGs X es (lGs vs Gs)) (hn : (assignEach es X.env).length = n := by rfl) (hst : (assignEach es X.env).findIdx? (·.1) = none := by rfl) : PG X (.Tuple es k pos) (lG vs (gT Gs n)) := weakG (pg_tup hc h hn hst) fun v σ H Q h => by
  obtain ⟨wa, Hf, H0, w, sD, d, s', hb, rv, hs, ho, e, q⟩ := h
  unfold gT at e
  split at e
  · split at e
    · rename_i hl
      cases rv with
      | tup h1 r1 => exact ⟨_, _, rfl, SqT.of (hb.ex _ _ h1), by rw [r1.length]; exact hl, wa, Hf, H0, w, sD, _, s', hb, r1, hs, ho, e, q⟩
    · cases e
  · cases e
end

/-! ### calls of the program's own functions -/
def spD (mg : Str → Option Value) (n : Nat) (F : DF) : Sp := fun vs H Q E => ∃ wa Hf ds w, Base wa Hf H w ∧ Reps wa Hf vs ds ∧ ds.length = n ∧
  Fin wa Hf H (F ds w) (fun d _ H' Hf' => ∀ v, Rep wa Hf' v d → Q v H') (fun x _ H' Hf' => ∀ cls dx, ErrV mg wa Hf' x cls dx → E cls dx H')
abbrev FnD (P : Program) (w : World) (K : PySem.W.Frag) (mg : Str → Option Value) (base : Heap) (k : Nat) (f : Addr) (fd : FuncData) (ps : List Str) (F : DF) : Prop := FnOk P w K mg base (L2.CX P w) k f fd ps (spD mg ps.length F)
/-- less is promised, or the same -/
def Less {α β : Type} (F G : α → β → R D) : Prop := ∀ a b, F a b = .no ∨ F a b = G a b
theorem FnD.less {P : Program} {w : World} {K : PySem.W.Frag} {mg : Str → Option Value} {base : Heap} {k : Nat} {f : Addr} {fd : FuncData} {ps : List Str} {F G : DF} (h : FnD P w K mg base k f fd ps G) (l : ∀ ds w, ds.length = ps.length → F ds w = .no ∨ F ds w = G ds w) : FnD P w K mg base k f fd ps F :=
  FnOk.imp h fun vs H Q E ⟨wa, Hf, ds, w, hb, r, hl, q⟩ => ⟨wa, Hf, ds, w, hb, r, hl, by
    rcases l ds w hl with e | e
    · rw [e] at q; exact q.elim
    · rw [e] at q; exact q⟩
def eCall (n : Nat) (F : DF) (As : DA) : DE := fun s w => (As s w).bind fun ds w1 => if ds.length = n then F ds w1 else .no
/-- what is raised in a callee reaches what is wished here -/
def Wok (X : Cx) (W : WX) : Prop := ∀ σ, PassesAt (L2.CX X.prog X.w) X σ (WE W σ)
theorem wok_takes {X : Cx} {W : WX} (t : Takes X W) : Wok X W := fun σ => passAt t σ
abbrev W0 : WX := fun _ _ _ _ => False
theorem wok0 {X : Cx} : Wok X W0 := fun σ pins H s e s' I c => by
  obtain ⟨_, _, _, _, _, _, _, _, _, _, _, _, z⟩ := c
  exact z.elim
section
variable {X : Cx} {W : WX} {tg it a b e : Expr} {es : List Expr} {pos : Pos} {σ : L2.St} {H : Hp} {wa : Addr} {Hf : Hp}
theorem fin_call {mg : Str → Option Value} {w : Wl} {n : Nat} {F : DF} {ds : List D} {vs : List V} {Q : VK} {W : WX} (hb : Base wa Hf H w) (rv : Reps wa Hf vs ds) (q : Fin wa Hf H (if ds.length = n then F ds w else .no) (fun d _ H' Hf' => ∀ v, Rep wa Hf' v d → Q v H') (Er mg W wa σ)) : spD mg n F vs H Q (WE W σ) := by
  split at q
  · rename_i hl
    exact ⟨wa, Hf, ds, w, hb, rv, hl, q⟩
  · exact q.elim
theorem pd_call {k : Nat} {f : Addr} {fd : FuncData} {ps : List Str} {F : DF} {x : Str} {p : Pos} {As : DA} (G : FnD X.prog X.w X.K X.mg X.base k f fd ps F) (hr : Room k X.A) (hg : Gl X x) (hm : X.mg x = some (.ref f)) (hk : PySem.W.keepIn X.K (.ref f) = true) (hb : Binds X.K fd ps []) (hx : Wok X W)
    (ha : PA X (e :: es) (lA X.mg W As)) (hdb : (x == ("__debug__" : Str)) = false := by decide) (he : starEach (e :: es) X.env = (false, eval e X.env) :: starEach es X.env := by rfl) (hpl : (backTo pos (starEach es X.env)).any (·.1) = false := by rfl) :
    PE X (.Call (.Name x p) (e :: es) [] pos) (lE X.mg W (eCall ps.length F As)) := weakE (pe_callS G hr hg hm hk hb hx ha hdb he hpl) fun σ H Q h => by
  obtain ⟨wa, Hf, sD, w, hb, hs, h⟩ := h
  refine ⟨wa, Hf, sD, w, hb, hs, h.bind.mono (fun x w1 H1 Hf1 g1 b1 q v rv => ?_) (fun _ _ _ _ _ _ q => q)⟩
  exact fin_call b1 rv q
end
end DL

set_option maxHeartbeats 2000000
namespace DL
open PySem PySem.Spec PyProof.Rows L2
open Evl (Ex)
/-! ### comprehensions -/
def lcD (G : DG) (T : DT) (E : DE) : List D → Sl → Wl → R (List D)
  | [], _, w => .ok [] w
  | d :: r, s, w => match G d s with
    | none => .no
    | some s1 => (T s1 w).noer.bind fun b w1 => if b = true then (E s1 w1).noer.bind fun y w2 => (lcD G T E r s w2).bind fun ys w3 => .ok (y :: ys) w3 else lcD G T E r s w1
def wipeS (s : Sl) : List Nat → Sl
  | [] => s
  | v :: vs => (wipeS s vs).set v none
def aLc (I : DI) (G : DG) (T : DT) (E : DE) (vs : List Nat) : DA := fun s w => (I s w).bind fun ds w1 => if ds.length ≤ lim then (lcD G T E ds (wipeS s vs) w1).noer else .no
def tYesD : DT := fun _ w => .ok true w
section
variable {X : Cx} {mg : Str → Option Value} {W : WX} {tg it a b e elt iter : Expr} {es ifs : List Expr} {pos : Pos} {σ : L2.St} {H : Hp} {wa : Addr} {Hf : Hp}
theorem Slots.setNone {s : Sl} (x : Slots wa Hf H σ s) (i : Nat) : Slots wa Hf H (σ.set i none) (s.set i none) := by
  have key : ∀ (j : Nat) (d : D), (s.set i none)[j]? = some (some d) → j ≠ i ∧ s[j]? = some (some d) := fun j d h => by
    by_cases hj : j = i
    · subst hj
      rw [List.getElem?_set] at h
      split at h
      · split at h <;> cases h
      · rename_i hne
        exact absurd rfl hne
    · rw [List.getElem?_set_ne (Ne.symm hj)] at h
      exact ⟨hj, h⟩
  have keyσ : ∀ (j : Nat), j ≠ i → (σ.set i none)[j]? = σ[j]? := fun j hj => List.getElem?_set_ne (Ne.symm hj)
  refine ⟨by simp [x.len], fun j d h n => ?_, fun j xs h => ?_, fun j k xs ys p h1 h2 h3 h4 => ?_⟩
  · obtain ⟨hj, h'⟩ := key j d h
    rw [keyσ j hj]
    exact x.val j d h' n
  · obtain ⟨hj, h'⟩ := key j _ h
    rw [keyσ j hj]
    exact x.own j xs h'
  · obtain ⟨hj, h1'⟩ := key j _ h1
    obtain ⟨hk, h2'⟩ := key k _ h2
    rw [keyσ j hj] at h3
    rw [keyσ k hk] at h4
    exact x.inj j k xs ys p h1' h2' h3 h4
theorem Slots.wipe {s : Sl} (x : Slots wa Hf H σ s) : ∀ vs : List Nat, Slots wa Hf H (L2.wipe σ vs) (wipeS s vs)
  | [] => x
  | v :: vs => (x.wipe vs).setNone v
theorem wipe_none {σ : L2.St} {i : Nat} : ∀ {vs : List Nat}, i ∈ vs → (L2.wipe σ vs).set i none = L2.wipe σ vs
  | v :: vs, h => by
    unfold L2.wipe
    by_cases hv : v = i
    · subst hv
      rw [List.set_set]
    · rw [List.set_comm _ _ hv]
      rcases List.mem_cons.mp h with e | e
      · exact absurd e.symm hv
      · rw [wipe_none e]
theorem wipe_wipe {σ : L2.St} : ∀ vs : List Nat, L2.wipe (L2.wipe σ vs) vs = L2.wipe σ vs := by
  have key : ∀ us vs : List Nat, (∀ i ∈ us, i ∈ vs) → L2.wipe (L2.wipe σ vs) us = L2.wipe σ vs := by
    intro us
    induction us with
    | nil => intro vs _; rfl
    | cons u us ih =>
      intro vs h
      show (L2.wipe (L2.wipe σ vs) us).set u none = L2.wipe σ vs
      rw [ih vs fun i hi => h i (List.mem_cons_of_mem _ hi)]
      exact wipe_none (h u List.mem_cons_self)
  exact fun vs => key vs vs fun _ h => h
theorem weakTs {t t' : TT} (h : PTs X ifs t) (i : ∀ σ H Q, t' σ H Q → t σ H Q) : PTs X ifs t' := ⟨fun pins s σ H Q I q => h.run pins s σ H Q I (i σ H Q q)⟩
theorem td_nil : PTs X [] (lT mg W tYesD) := weakTs pts_nil fun σ H Q h => by
  obtain ⟨wa, Hf, sD, w, hb, hs, h⟩ := h
  exact h.here hb _ rfl
theorem td_one {T : DT} (h : PT X a (lT mg W T)) : PTs X [a] (lT mg W T) := pts_one h
theorem lc_ok {I : DI} {G : DG} {T : DT} {E : DE} {vs : List Nat} {Q : VK} (h : lfL mg W (aLc I G T E vs) σ H Q) : tLc (lI mg W I) (lG vs G) (lT mg W0 T) (lE mg W0 E) vs σ H Q := by
  obtain ⟨wa, Hf, sD, w, hb, hs, h⟩ := h
  refine ⟨wa, Hf, sD, w, hb, hs, h.bind.mono (fun ds w1 H1 Hf1 g1 b1 q J wk D hD => ?_) (fun _ _ _ _ _ _ q => q)⟩
  have hs1 := (hs.go g1).wipe vs
  split at q
  · rename_i hz
    cases el : lcD G T E ds (wipeS sD vs) w1 with
    | er x w2 => rw [el] at q; exact q.elim
    | no => rw [el] at q; exact q.elim
    | ok total wF =>
      rw [el] at q
      have hDw : D ≠ wa := fun z => by rw [z, b1.well] at hD; cases hD
      have hDf : Hf1 D = none := Evl.fresh_back b1.ex hD
      refine ⟨fun i m H2 => m = ds.length - i ∧ i ≤ ds.length ∧ ∃ Hf2 w2 accV acc ys, Go wa H1 Hf1 H2 Hf2 ∧ Base wa Hf2 H2 w2 ∧ H2 D = some (.lst accV) ∧ Hf2 D = none ∧ Reps wa Hf2 accV acc ∧ acc.length ≤ i ∧ lcD G T E (ds.drop i) (wipeS sD vs) w2 = .ok ys wF ∧ acc ++ ys = total,
        ⟨ds.length, by simp, Nat.zero_le _, Hf1, w1, [], [], total, Go.new1 hD, b1.new1 hD, upd_same, hDf, .nil, Nat.le_refl _, el, rfl⟩, ?_⟩
      rintro i m H2 ⟨rfl, hi, Hf2, w2, accV, acc, ys, g2, b2, hD2, hDf2, ra, hal, e2, rfl⟩
      by_cases hlt : i < ds.length
      · have ed : ds.drop i = ds[i] :: ds.drop (i + 1) := List.drop_eq_getElem_cons hlt
        rw [ed] at e2
        have gi : ds[i]? = some ds[i] := by simp [hlt]
        refine .inr ⟨wk.goes i H2 hlt (g2.ex.trans b2.ex), fun H' => ∃ Hf2 w2 accV acc' ys', Go wa H1 Hf1 H' Hf2 ∧ Base wa Hf2 H' w2 ∧ H' D = some (.lst accV) ∧ Hf2 D = none ∧ Reps wa Hf2 accV acc' ∧ acc'.length ≤ i + 1 ∧ lcD G T E (ds.drop (i + 1)) (wipeS sD vs) w2 = .ok ys' wF ∧ acc' ++ ys' = acc ++ ys,
          fun H' hN => ⟨ds.length - (i + 1), by omega, rfl, hlt, hN⟩, fun x H3 hy => ?_⟩
        obtain ⟨Hf3, g3, b3, r3⟩ := wk.yields i H2 Hf2 w2 x H3 _ gi g2.ex b2 hy
        have hD3 : H3 D = some (.lst accV) := g3.keep D _ hDw hD2
        have hDf3 : Hf3 D = none := (g3.new D _ hD2).trans hDf2
        unfold lcD at e2
        cases eg : G ds[i] (wipeS sD vs) with
        | none => rw [eg] at e2; cases e2
        | some s1 =>
          rw [eg] at e2
          dsimp only at e2
          refine ⟨wa, Hf3, fun _ => none, w2, wipeS sD vs, ds[i], s1, b3, r3, (hs1.go g2).go g3, fun _ _ _ _ _ => rfl, eg, fun σ4 hs4 _ hw4 => ⟨hw4.trans (wipe_wipe vs), ?_⟩⟩
          cases et : T s1 w2 with
          | er y u => rw [et] at e2; cases e2
          | no => rw [et] at e2; cases e2
          | ok bb w5 =>
            rw [et] at e2
            refine ⟨wa, Hf3, s1, w2, b3, hs4, ?_⟩
            rw [et]
            intro H5 Hf5 g5 b5 v5 rv5
            have ev5 : v5 = bb := rv5
            subst ev5
            have hD5 : H5 D = some (.lst accV) := g5.keep D _ hDw hD3
            have hDf5 : Hf5 D = none := (g5.new D _ hD3).trans hDf3
            cases v5 with
            | false =>
              refine iteF ?_
              have e3 : lcD G T E (ds.drop (i + 1)) (wipeS sD vs) w5 = .ok ys wF := by simpa [R.noer, R.bind] using e2
              exact ⟨Hf5, w5, accV, acc, ys, (g2.trans g3).trans g5, b5, hD5, hDf5, (ra.mono g3.ex).mono g5.ex, by omega, e3, rfl⟩
            | true =>
              refine iteT ?_
              have e3 : ((E s1 w5).noer.bind fun y w2 => (lcD G T E (ds.drop (i + 1)) (wipeS sD vs) w2).bind fun ys w3 => .ok (y :: ys) w3) = R.ok ys wF := by simpa [R.noer, R.bind] using e2
              cases ee : E s1 w5 with
              | er y u => rw [ee] at e3; cases e3
              | no => rw [ee] at e3; cases e3
              | ok y w6 =>
                rw [ee] at e3
                refine ⟨wa, Hf5, s1, w5, b5, hs4.go g5, ?_⟩
                rw [ee]
                intro H6 Hf6 g6 b6 v6 r6
                have hD6 : H6 D = some (.lst accV) := g6.keep D _ hDw hD5
                have hDf6 : Hf6 D = none := (g6.new D _ hD5).trans hDf5
                have e4 : ((lcD G T E (ds.drop (i + 1)) (wipeS sD vs) w6).bind fun ys w3 => .ok (y :: ys) w3) = R.ok ys wF := by simpa [R.noer, R.bind] using e3
                cases er : lcD G T E (ds.drop (i + 1)) (wipeS sD vs) w6 with
                | er y u => rw [er] at e4; cases e4
                | no => rw [er] at e4; cases e4
                | ok zs w7 =>
                  rw [er] at e4
                  cases e4
                  have ra6 := ((ra.mono g3.ex).mono g5.ex).mono g6.ex
                  have hlen : accV.length = acc.length := ra.length
                  refine ⟨accV, hD6, Nat.lt_of_lt_of_le (by omega : accV.length < lim) (lim_le (Nat.le_refl _)), Hf6, w6, accV ++ [v6], acc ++ [y], zs, ?_, ?_, upd_same, hDf6, ra6.append (.cons r6 .nil), by simp; omega, er, by simp⟩
                  · have gg := ((g2.trans g3).trans g5).trans g6
                    refine ⟨fun a o n h => ?_, gg.ex, gg.new, fun a o h => ?_⟩
                    · rw [upd_ne (ne_of_none h hD)]
                      exact gg.keep a o n h
                    · rw [upd_ne (ne_of_none h hD)]
                      exact gg.there a o h
                  · exact ⟨Evl.Ex.mut b6.ex hDf6, by rw [upd_ne (Ne.symm hDw)]; exact b6.well, b6.nw⟩
      · have ei : i = ds.length := by omega
        subst ei
        rw [List.drop_length] at e2
        cases e2
        refine .inl ⟨wk.stops H2 (g2.ex.trans b2.ex), ?_⟩
        rw [List.append_nil] at q
        exact q H2 Hf2 g2 b2 D accV (g1.free hD) hD2 hDf2 hDw ra
  · exact q.elim
/-- [elt for tg in iter if ..]: a new list -/
theorem pl_lc {scope : Scope} {own : List (Str × Nat)} {I : DI} {G : DG} {T : DT} {E : DE} (hc : X.calm = true) (hN : X.N.Nodup) (hi : PI X tg iter (lI mg W I)) (ok : BlkOk X.N X.env.scope scope own)
    (hg : ∀ (s : Shared) (H : Hp) (C : Addr) (cl : List (Str × Addr)) (fp : List Addr), PG (X.blk s H scope (compEnvC scope cl C X.env) fp) tg (lG (own.map (·.2)) G)) (ht : ∀ (s : Shared) (H : Hp) (C : Addr) (cl : List (Str × Addr)) (fp : List Addr), PTs (X.blk s H scope (compEnvC scope cl C X.env) fp) ifs (lT mg W0 T))
    (he : ∀ (s : Shared) (H : Hp) (C : Addr) (cl : List (Str × Addr)) (fp : List Addr), PE (X.blk s H scope (compEnvC scope cl C X.env) fp) elt (lE mg W0 E)) (hs : ∀ x, foldedSetIterable iter X.env x = pure x := by intro _; rfl) :
    PE X (.ListComp elt [⟨tg, iter, ifs, 0⟩] scope pos) (lfL mg W (aLc I G T E (own.map (·.2)))) := weakE (pe_lc hc hN hi ok hg ht he hs) fun _ _ _ q => lc_ok q

/-! ### statements -/
def FinS (mg : Str → Option Value) (W : WX) (wa : Addr) (H0 Hf0 Hf : Hp) (r : RS) (D : Ends) : Prop := match r with
  | .nx s w => ∀ σ H' Hf', Go wa H0 Hf0 H' Hf' → Ex Hf Hf' → Base wa Hf' H' w → Slots wa Hf' H' σ s → OwnNew H0 σ s → D.nx σ H'
  | .bk s w => ∀ σ H' Hf', Go wa H0 Hf0 H' Hf' → Ex Hf Hf' → Base wa Hf' H' w → Slots wa Hf' H' σ s → OwnNew H0 σ s → D.bk σ H'
  | .ct s w => ∀ σ H' Hf', Go wa H0 Hf0 H' Hf' → Ex Hf Hf' → Base wa Hf' H' w → Slots wa Hf' H' σ s → OwnNew H0 σ s → D.ct σ H'
  | .rt d w => ∀ H' Hf' v, Go wa H0 Hf0 H' Hf' → Base wa Hf' H' w → Rep wa Hf' v d → D.rt v H'
  | .er x s w => ∀ σ H' Hf' cls dx, Go wa H0 Hf0 H' Hf' → Ex Hf Hf' → Base wa Hf' H' w → Slots wa Hf' H' σ s → OwnNew H0 σ s → ErrV mg wa Hf' x cls dx → W cls dx σ H'
  | .no => False
def lS (mg : Str → Option Value) (W : WX) (S : DS) : TS := fun D σ H => ∃ wa Hf sD w H0 Hf0, Go wa H0 Hf0 H Hf ∧ Base wa Hf H w ∧ Slots wa Hf H σ sD ∧ OwnNew H0 σ sD ∧ FinS mg W wa H0 Hf0 Hf (S sD w) D
theorem FinS.shift {H0 Hf0 Hf Hf1 : Hp} {r : RS} {D : Ends} (h : FinS mg W wa H0 Hf0 Hf r D) (x : Ex Hf Hf1) : FinS mg W wa H0 Hf0 Hf1 r D := by
  cases r with
  | nx s w => exact fun σ H' Hf' g e => h σ H' Hf' g (x.trans e)
  | bk s w => exact fun σ H' Hf' g e => h σ H' Hf' g (x.trans e)
  | ct s w => exact fun σ H' Hf' g e => h σ H' Hf' g (x.trans e)
  | rt d w => exact h
  | er y s w => exact fun σ H' Hf' cls dx g e => h σ H' Hf' cls dx g (x.trans e)
  | no => exact h
theorem weakS {st : Stmt} {t t' : TS} (h : PS X st t) (i : ∀ D σ H, t' D σ H → t D σ H) : PS X st t' := ⟨fun pins s σ H D I q => h.run pins s σ H D I (i D σ H q)⟩
theorem weakSs {st : List Stmt} {t t' : TS} (h : PSs X st t) (i : ∀ D σ H, t' D σ H → t D σ H) : PSs X st t' := ⟨fun pins s σ H D I q => h.run pins s σ H D I (i D σ H q)⟩
def sNx : DS := fun s w => .nx s w
def sSeq (S T : DS) : DS := fun s w => match S s w with
  | .nx s1 w1 => T s1 w1
  | o => o
variable {st : Stmt} {rest sts : List Stmt} {S T U : DS} {A B E : DE} {As : DA}
theorem sd_nil : PSs X [] (lS mg W sNx) := weakSs pss_nil fun D σ H h => by
  obtain ⟨wa, Hf, sD, w, H0, Hf0, g, b, hs, ho, h⟩ := h
  exact h σ H Hf g (Ex.refl _) b hs ho
theorem sd_cons (h1 : PS X st (lS mg W S)) (h2 : PSs X rest (lS mg W T)) : PSs X (st :: rest) (lS mg W (sSeq S T)) := weakSs (pss_cons h1 h2) fun D σ H h => by
  obtain ⟨wa, Hf, sD, w, H0, Hf0, g, b, hs, ho, h⟩ := h
  refine ⟨wa, Hf, sD, w, H0, Hf0, g, b, hs, ho, ?_⟩
  unfold sSeq at h
  cases e : S sD w with
  | nx s1 w1 =>
    rw [e] at h
    exact fun σ' H' Hf' g' x' b' hs' ho' => ⟨wa, Hf', s1, w1, H0, Hf0, g', b', hs', ho', h.shift x'⟩
  | bk s1 w1 => rw [e] at h; exact h
  | ct s1 w1 => rw [e] at h; exact h
  | rt d w1 => rw [e] at h; exact h
  | er x s1 w1 => rw [e] at h; exact h
  | no => rw [e] at h; exact h
theorem sd_one (h1 : PS X st (lS mg W S)) : PSs X [st] (lS mg W S) := pss_one h1
def sAsg (i : Nat) (E : DE) : DS := fun s w => match E s w with
  | .ok d w1 => .nx (s.set i (some d)) w1
  | .er x w1 => .er x s w1
  | .no => .no
theorem sd_asg {i : Nat} (h : PS X st (tAsg (lE mg W E) (gName i))) : PS X st (lS mg W (sAsg i E)) := weakS h fun D σ H h => by
  obtain ⟨wa, Hf, sD, w, H0, Hf0, g, b, hs, ho, h⟩ := h
  refine ⟨wa, Hf, sD, w, b, hs, ?_⟩
  unfold sAsg at h
  cases e : E sD w with
  | ok d w1 =>
    rw [e] at h
    exact fun H1 Hf1 g1 b1 v rv => h (σ.set i (some v)) H1 Hf1 (g.trans g1) g1.ex b1 ((hs.go g1).set rv) (ho.set fun xs z => by subst z; exact rep_own rv)
  | er x w1 =>
    rw [e] at h
    exact fun H1 Hf1 g1 b1 cls dx ev => h σ H1 Hf1 cls dx (g.trans g1) g1.ex b1 (hs.go g1) ho ev
  | no => rw [e] at h; exact h
/-- a new list that its slot owns -/
def sNew (i : Nat) (E : DA) : DS := fun s w => match E s w with
  | .ok d w1 => .nx (s.set i (some (.own d))) w1
  | .er x w1 => .er x s w1
  | .no => .no
theorem sd_new {i : Nat} (h : PS X st (tAsg (lfL mg W As) (gName i))) : PS X st (lS mg W (sNew i As)) := weakS h fun D σ H h => by
  obtain ⟨wa, Hf, sD, w, H0, Hf0, g, b, hs, ho, h⟩ := h
  refine ⟨wa, Hf, sD, w, b, hs, ?_⟩
  unfold sNew at h
  cases e : As sD w with
  | ok d w1 =>
    rw [e] at h
    refine fun H1 Hf1 g1 b1 p vs hp e1 e2 e3 rv => h (σ.set i (some (.ref p))) H1 Hf1 (g.trans g1) g1.ex b1 ((hs.go g1).setOwn e1 e2 e3 rv fun j ys hj hp' => ?_) (ho.setOwn hs.len (g.free hp))
    obtain ⟨q, us, k1, k2, _⟩ := hs.own j ys hj
    rw [hp'] at k1
    cases k1
    rw [hp] at k2
    cases k2
  | er x w1 =>
    rw [e] at h
    exact fun H1 Hf1 g1 b1 cls dx ev => h σ H1 Hf1 cls dx (g.trans g1) g1.ex b1 (hs.go g1) ho ev
  | no => rw [e] at h; exact h
theorem asg_weak {te te' : TE} {i : Nat} (h : PS X st (tAsg te (gName i))) (w : ∀ σ H Q, te' σ H Q → te σ H Q) : PS X st (tAsg te' (gName i)) := weakS h fun D σ H q => w σ H _ q
/-- any target -/
def sTg (G : DG) (E : DE) : DS := fun s w => match E s w with
  | .ok d w1 => match G d s with
    | some s1 => .nx s1 w1
    | none => .no
  | .er x w1 => .er x s w1
  | .no => .no
theorem sd_tg {G : DG} {vs : List Nat} (h : PS X st (tAsg (lE mg W E) (lG vs G))) : PS X st (lS mg W (sTg G E)) := weakS h fun D σ H h => by
  obtain ⟨wa, Hf, sD, w, H0, Hf0, g, b, hs, ho, h⟩ := h
  refine ⟨wa, Hf, sD, w, b, hs, ?_⟩
  unfold sTg at h
  cases e : E sD w with
  | ok d w1 =>
    rw [e] at h
    dsimp only at h
    cases eg : G d sD with
    | none => rw [eg] at h; exact h.elim
    | some s1 =>
      rw [eg] at h
      exact fun H1 Hf1 g1 b1 v rv => ⟨wa, Hf1, H0, w1, sD, d, s1, b1, rv, hs.go g1, ho, eg, fun σ' hs' ho' _ => h σ' H1 Hf1 (g.trans g1) g1.ex b1 hs' ho'⟩
  | er x w1 =>
    rw [e] at h
    exact fun H1 Hf1 g1 b1 cls dx ev => h σ H1 Hf1 cls dx (g.trans g1) g1.ex b1 (hs.go g1) ho ev
  | no => rw [e] at h; exact h
def sDrop (E : DE) : DS := fun s w => match E s w with
  | .ok _ w1 => .nx s w1
  | .er x w1 => .er x s w1
  | .no => .no
theorem sd_expr (he : PE X e (lE mg W E)) (hsw : swapsWith e none pos.line X.env = pure false := by rfl) : PS X (.Expr e pos) (lS mg W (sDrop E)) := weakS (ps_expr he hsw) fun D σ H h => by
  obtain ⟨wa, Hf, sD, w, H0, Hf0, g, b, hs, ho, h⟩ := h
  refine ⟨wa, Hf, sD, w, b, hs, ?_⟩
  unfold sDrop at h
  cases e : E sD w with
  | ok d w1 =>
    rw [e] at h
    exact fun H1 Hf1 g1 b1 v rv => h σ H1 Hf1 (g.trans g1) g1.ex b1 (hs.go g1) ho
  | er x w1 =>
    rw [e] at h
    exact fun H1 Hf1 g1 b1 cls dx ev => h σ H1 Hf1 cls dx (g.trans g1) g1.ex b1 (hs.go g1) ho ev
  | no => rw [e] at h; exact h
/-- x.append(e), x the slot's own list -/
def sApp (i : Nat) (E : DE) : DS := fun s w => match s[i]? with
  | some (some (.own xs)) => match E s w with
    | .ok d w1 => if xs.length < lim then .nx (s.set i (some (.own (xs ++ [d])))) w1 else .no
    | .er x w1 => .er x s w1
    | .no => .no
  | _ => .no
theorem sd_app {i : Nat} (h : PS X st (tDrop (tBM X.K "list" rAppend (tVar i) (tCons (lE mg W E) tNil)))) : PS X st (lS mg W (sApp i E)) := weakS h fun D σ H h => by
  obtain ⟨wa, Hf, sD, w, H0, Hf0, g, b, hs, ho, h⟩ := h
  unfold sApp at h
  split at h
  · rename_i xs hi
    obtain ⟨p, vs, k1, k2, k3, k4, k5⟩ := hs.own i xs hi
    refine ⟨.ref p, k1, .inl ⟨rfl, vs, SqL.of k2⟩, wa, Hf, sD, w, b, hs, ?_⟩
    cases e : E sD w with
    | ok d w1 =>
      rw [e] at h
      dsimp only at h
      split at h
      · rename_i hz
        intro H1 Hf1 g1 b1 v rv
        have hs1 := hs.go g1
        have kp : H1 p = some (.lst vs) := g1.keep p _ k4 k2
        have kf : Hf1 p = none := (g1.new p _ k2).trans k3
        have h0 : H0 p = none := ho i xs p hi k1
        have r1 : Reps wa Hf1 (vs ++ [v]) (xs ++ [d]) := (k5.mono g1.ex).append (.cons rv .nil)
        refine ⟨p, vs, v, rfl, rfl, kp, Nat.lt_of_lt_of_le (by rw [k5.length]; exact hz) (lim_le (Nat.le_refl _)), ?_⟩
        refine h σ _ Hf1 ?_ g1.ex ?_ (hs1.write hi k1 r1) (ho.sub fun j ys hj => ?_)
        · have gg := g.trans g1
          exact ⟨fun a o n q => by rw [upd_ne (ne_of_none q h0)]; exact gg.keep a o n q, gg.ex, gg.new, fun a o q => by rw [upd_ne (ne_of_none q h0)]; exact gg.there a o q⟩
        · exact ⟨Evl.Ex.mut b1.ex kf, by rw [upd_ne (Ne.symm k4)]; exact b1.well, b1.nw⟩
        · by_cases hji : j = i
          · subst hji
            exact ⟨xs, hi⟩
          · rw [List.getElem?_set_ne (Ne.symm hji)] at hj
            exact ⟨ys, hj⟩
      · exact h.elim
    | er x w1 =>
      rw [e] at h
      exact fun H1 Hf1 g1 b1 cls dx ev => h σ H1 Hf1 cls dx (g.trans g1) g1.ex b1 (hs.go g1) ho ev
    | no => rw [e] at h; exact h
  · exact h.elim
/-- the well's k-th number stored -/
def setW (w : Wl) (k : Int) (z : Int) : Option Wl := if k = 0 then some (z, w.2.1, w.2.2) else if k = 1 then some (w.1, z, w.2.2) else if k = 2 then some (w.1, w.2.1, z) else none
def sSetW (A B E : DE) : DS := fun s w => match (E s w).bind fun d w1 => (A s w1).bind fun x w2 => (B s w2).bind fun k w3 => .ok [d, x, k] w3 with
  | .ok [.int z, .well, .int k] w3 => match setW w3 k z with
    | some w4 => .nx s w4
    | none => .no
  | .er x w3 => .er x s w3
  | _ => .no
theorem sd_setW (h : PS X st (tAsg (lE mg W E) (gSub (lE mg W A) (lE mg W B) rSetL))) : PS X st (lS mg W (sSetW A B E)) := weakS h fun D σ H h => by
  obtain ⟨wa, Hf, sD, w, H0, Hf0, g, b, hs, ho, h⟩ := h
  refine ⟨wa, Hf, sD, w, b, hs, ?_⟩
  unfold sSetW at h
  cases e : E sD w with
  | no => rw [e] at h; exact h
  | er x w1 =>
    rw [e] at h
    exact fun H1 Hf1 g1 b1 cls dx ev => h σ H1 Hf1 cls dx (g.trans g1) g1.ex b1 (hs.go g1) ho ev
  | ok d w1 =>
    rw [e, R.bind_ok] at h
    intro H1 Hf1 g1 b1 v rv
    refine ⟨wa, Hf1, sD, w1, b1, hs.go g1, ?_⟩
    cases e2 : A sD w1 with
    | no => rw [e2] at h; exact h
    | er x w2 =>
      rw [e2] at h
      exact fun H2 Hf2 g2 b2 cls dx ev => h σ H2 Hf2 cls dx ((g.trans g1).trans g2) (g1.ex.trans g2.ex) b2 ((hs.go g1).go g2) ho ev
    | ok x w2 =>
      rw [e2, R.bind_ok] at h
      intro H2 Hf2 g2 b2 v2 rv2
      refine ⟨wa, Hf2, sD, w2, b2, (hs.go g1).go g2, ?_⟩
      cases e3 : B sD w2 with
      | no => rw [e3] at h; exact h
      | er x w3 =>
        rw [e3] at h
        exact fun H3 Hf3 g3 b3 cls dx ev => h σ H3 Hf3 cls dx (((g.trans g1).trans g2).trans g3) ((g1.ex.trans g2.ex).trans g3.ex) b3 (((hs.go g1).go g2).go g3) ho ev
      | ok k w3 =>
        rw [e3, R.bind_ok] at h
        intro H3 Hf3 g3 b3 v3 rv3
        split at h
        · rename_i z k' w3' heq
          cases heq
          cases rv3
          cases rv2
          cases rv
          split at h
          · rename_i w4 hw
            have fin : ∀ j, ixN (wl w3).length k' = some j → wl w4 = (wl w3).set j (.int z) → rSetL (.ref wa) (.int k') (.int z) H3 fun H4 => D.nx σ H4 := fun j hj he => by
              refine ⟨wa, wl w3, k', j, rfl, rfl, b3.well, hj, ?_⟩
              rw [← he]
              have gg := (((g.trans g1).trans g2).trans g3)
              have hs3 := ((hs.go g1).go g2).go g3
              have g4 : Go wa H3 Hf3 (upd H3 wa (.lst (wl w4))) Hf3 := ⟨fun a o n q => by rw [upd_ne n]; exact q, Ex.refl _, fun _ _ _ => rfl, fun a o q => by
                by_cases ha : a = wa
                · exact ⟨_, by rw [ha]; exact upd_same⟩
                · exact ⟨o, by rw [upd_ne ha]; exact q⟩⟩
              exact h σ _ Hf3 (gg.trans g4) ((g1.ex.trans g2.ex).trans g3.ex) ⟨Evl.Ex.mut b3.ex b3.nw, upd_same, b3.nw⟩ (hs3.go g4) ho
            unfold setW at hw
            split at hw
            · rename_i h0
              cases hw
              subst h0
              exact fin 0 rfl rfl
            · split at hw
              · rename_i h0
                cases hw
                subst h0
                exact fin 1 rfl rfl
              · split at hw
                · rename_i h0
                  cases hw
                  subst h0
                  exact fin 2 rfl rfl
                · cases hw
          · exact h.elim
        · rename_i heq
          cases heq
        · exact h.elim
def sIf (C : DT) (S T : DS) : DS := fun s w => match C s w with
  | .ok k w1 => if k then S s w1 else T s w1
  | .er x w1 => .er x s w1
  | .no => .no
theorem sd_if {c : Expr} {a b : List Stmt} {C : DT} (hc : PT X c (lT mg W C)) (ha : PSs X a (lS mg W S)) (hb : PSs X b (lS mg W T)) : PS X (.If c a b pos) (lS mg W (sIf C S T)) := weakS (ps_if hc ha hb) fun D σ H h => by
  obtain ⟨wa, Hf, sD, w, H0, Hf0, g, b, hs, ho, h⟩ := h
  refine ⟨wa, Hf, sD, w, b, hs, ?_⟩
  unfold sIf at h
  cases e : C sD w with
  | no => rw [e] at h; exact h
  | er x w1 =>
    rw [e] at h
    exact fun H1 Hf1 g1 b1 cls dx ev => h σ H1 Hf1 cls dx (g.trans g1) g1.ex b1 (hs.go g1) ho ev
  | ok k w1 =>
    rw [e] at h
    intro H1 Hf1 g1 b1 v rv
    have ev : v = k := rv
    subst ev
    cases v with
    | true => exact iteT ⟨wa, Hf1, sD, w1, H0, Hf0, g.trans g1, b1, hs.go g1, ho, FinS.shift h g1.ex⟩
    | false => exact iteF ⟨wa, Hf1, sD, w1, H0, Hf0, g.trans g1, b1, hs.go g1, ho, FinS.shift h g1.ex⟩
def sRet (E : DE) : DS := fun s w => match E s w with
  | .ok d w1 => .rt d w1
  | .er x w1 => .er x s w1
  | .no => .no
theorem sd_ret (he : PE X e (lE mg W E)) : PS X (.Return (some e) pos) (lS mg W (sRet E)) := weakS (ps_ret he) fun D σ H h => by
  obtain ⟨wa, Hf, sD, w, H0, Hf0, g, b, hs, ho, h⟩ := h
  refine ⟨wa, Hf, sD, w, b, hs, ?_⟩
  unfold sRet at h
  cases e : E sD w with
  | ok d w1 =>
    rw [e] at h
    exact fun H1 Hf1 g1 b1 v rv => h H1 Hf1 v (g.trans g1) b1 rv
  | er x w1 =>
    rw [e] at h
    exact fun H1 Hf1 g1 b1 cls dx ev => h σ H1 Hf1 cls dx (g.trans g1) g1.ex b1 (hs.go g1) ho ev
  | no => rw [e] at h; exact h
/-- a, b = e1, e2 -/
def sPar (i j : Nat) (As : DA) : DS := fun s w => match As s w with
  | .ok [x, y] w1 => .nx ((s.set i (some x)).set j (some y)) w1
  | .er x w1 => .er x s w1
  | _ => .no
theorem sd_par {i j : Nat} (h : PS X st (tPar i j (lA mg W As))) : PS X st (lS mg W (sPar i j As)) := weakS h fun D σ H h => by
  obtain ⟨wa, Hf, sD, w, H0, Hf0, g, b, hs, ho, h⟩ := h
  refine ⟨wa, Hf, sD, w, b, hs, ?_⟩
  unfold sPar at h
  cases e : As sD w with
  | ok d w1 =>
    rw [e] at h
    intro H1 Hf1 g1 b1 v rv
    split at h
    · rename_i x y w1' heq
      cases heq
      cases rv with
      | cons r1 r2 =>
        cases r2 with
        | cons r2 r3 =>
          cases r3
          have n1 : ∀ xs, x ≠ .own xs := fun xs z => by subst z; exact rep_own r1
          have n2 : ∀ xs, y ≠ .own xs := fun xs z => by subst z; exact rep_own r2
          exact ⟨_, _, rfl, h _ H1 Hf1 (g.trans g1) g1.ex b1 (((hs.go g1).set r1).set r2) ((ho.set n1).set n2)⟩
    · rename_i heq
      cases heq
    · exact h.elim
  | er x w1 =>
    rw [e] at h
    exact fun H1 Hf1 g1 b1 cls dx ev => h σ H1 Hf1 cls dx (g.trans g1) g1.ex b1 (hs.go g1) ho ev
  | no => rw [e] at h; exact h
/-- from here on the slot's own list is only read -/
def frzS (i : Nat) (s : Sl) : Sl := match s[i]? with
  | some (some (.own xs)) => s.set i (some (.lst xs))
  | _ => s
def sFrz (i : Nat) (S : DS) : DS := fun s w => S (frzS i s) w
theorem frz_ok {i : Nat} {D : Ends} (h : lS mg W (sFrz i S) D σ H) : lS mg W S D σ H := by
  obtain ⟨wa, Hf, sD, w, H0, Hf0, g, b, hs, ho, h⟩ := h
  unfold sFrz frzS at h
  split at h
  · rename_i xs hi
    obtain ⟨p, vs, k1, k2, k3, k4, k5⟩ := hs.own i xs hi
    have h0 : H0 p = none := ho i xs p hi k1
    have x1 : Ex Hf (upd Hf p (.lst vs)) := Ex.new k3
    refine ⟨wa, upd Hf p (.lst vs), _, w, H0, Hf0, ⟨g.keep, g.ex.trans x1, fun a o q => by rw [upd_ne (ne_of_none q h0)]; exact g.new a o q, g.there⟩, ⟨fun a u q => ?_, b.well, by rw [upd_ne (Ne.symm k4)]; exact b.nw⟩, hs.frz hi k1 k2, ho.sub fun j ys hj => ?_, FinS.shift h x1⟩
    · by_cases ha : a = p
      · subst ha; rw [upd_same] at q; rw [← q]; exact k2
      · rw [upd_ne ha] at q; exact b.ex a u q
    · by_cases hji : j = i
      · subst hji
        rw [List.getElem?_set_self (List.getElem?_eq_some_iff.mp hi).1] at hj
        cases hj
      · rw [List.getElem?_set_ne (Ne.symm hji)] at hj
        exact ⟨ys, hj⟩
  · exact ⟨wa, Hf, sD, w, H0, Hf0, g, b, hs, ho, h⟩
theorem sd_frz (i : Nat) (h : PSs X sts (lS mg W S)) : PSs X sts (lS mg W (sFrz i S)) := weakSs h fun _ _ _ q => frz_ok q
theorem sd_frz1 (i : Nat) (h : PS X st (lS mg W S)) : PS X st (lS mg W (sFrz i S)) := weakS h fun _ _ _ q => frz_ok q
/-! ### loops -/
def loopD (G : DG) (B : DS) : List D → DS
  | [], s, w => .nx s w
  | d :: r, s, w => match G d s with
    | none => .no
    | some s1 => match B s1 w with
      | .nx s2 w2 => loopD G B r s2 w2
      | .ct s2 w2 => loopD G B r s2 w2
      | .bk s2 w2 => .nx s2 w2
      | o => o
def sFor (I : DI) (G : DG) (B : DS) : DS := fun s w => match I s w with
  | .ok ds w1 => loopD G B ds s w1
  | .er x w1 => .er x s w1
  | .no => .no
theorem sd_for {I : DI} {G : DG} {S : DS} {vs : List Nat} {body : List Stmt} (hp : PassesOwn (model X.prog X.w) X.A X.env X.xe) (hc : X.calm = true) (hi : PI X tg iter (lI mg W I)) (hg : PG X tg (lG vs G)) (hb : PSs X body (lS mg W S))
    (hfs : ∀ x, foldedSetIterable iter X.env x = pure x := by intro _; rfl) : PS X (.For tg iter body [] pos) (lS mg W (sFor I G S)) := weakS (ps_for hp hc hi hg hb hfs) fun D σ H h => by
  obtain ⟨wa, Hf, sD, w, H0, Hf0, g, b, hs, ho, h⟩ := h
  refine ⟨wa, Hf, sD, w, b, hs, ?_⟩
  unfold sFor at h
  cases e : I sD w with
  | no => rw [e] at h; exact h
  | er x w1 =>
    rw [e] at h
    exact fun H1 Hf1 g1 b1 cls dx ev => h σ H1 Hf1 cls dx (g.trans g1) g1.ex b1 (hs.go g1) ho ev
  | ok ds w1 =>
    rw [e] at h
    intro H1 Hf1 g1 b1 J wk
    have h1 := FinS.shift h g1.ex
    refine ⟨fun i m σ2 H2 => m = ds.length - i ∧ i ≤ ds.length ∧ ∃ Hf2 s2 w2, Go wa H0 Hf0 H2 Hf2 ∧ Ex Hf1 Hf2 ∧ Base wa Hf2 H2 w2 ∧ Slots wa Hf2 H2 σ2 s2 ∧ OwnNew H0 σ2 s2 ∧ FinS mg W wa H0 Hf0 Hf2 (loopD G S (ds.drop i) s2 w2) D,
      ⟨ds.length, by simp, Nat.zero_le _, Hf1, sD, w1, g.trans g1, Ex.refl _, b1, hs.go g1, ho, h1⟩, ?_⟩
    rintro i m σ2 H2 ⟨rfl, hle, Hf2, s2, w2, g2, x2, b2, hs2, ho2, h2⟩
    by_cases hlt : i < ds.length
    · have ed : ds.drop i = ds[i] :: ds.drop (i + 1) := List.drop_eq_getElem_cons hlt
      rw [ed] at h2
      have gi : ds[i]? = some ds[i] := by simp [hlt]
      refine .inr ⟨wk.goes i H2 hlt (x2.trans b2.ex), fun σ' H' => ∃ Hf2 s2 w2, Go wa H0 Hf0 H' Hf2 ∧ Ex Hf1 Hf2 ∧ Base wa Hf2 H' w2 ∧ Slots wa Hf2 H' σ' s2 ∧ OwnNew H0 σ' s2 ∧ FinS mg W wa H0 Hf0 Hf2 (loopD G S (ds.drop (i + 1)) s2 w2) D,
        fun σ' H' hN => ⟨ds.length - (i + 1), by omega, rfl, hlt, hN⟩, fun x H3 hy => ?_⟩
      obtain ⟨Hf3, g3, b3, r3⟩ := wk.yields i H2 Hf2 w2 x H3 _ gi x2 b2 hy
      unfold loopD at h2
      cases eg : G ds[i] s2 with
      | none => rw [eg] at h2; exact h2.elim
      | some s3 =>
        rw [eg] at h2
        dsimp only at h2
        refine ⟨wa, Hf3, H0, w2, s2, ds[i], s3, b3, r3, hs2.go g3, ho2, eg, fun σ4 hs4 ho4 _ => ⟨wa, Hf3, s3, w2, H0, Hf0, g2.trans g3, b3, hs4, ho4, ?_⟩⟩
        cases eb : S s3 w2 with
        | nx s5 w5 =>
          rw [eb] at h2
          exact fun σ5 H5 Hf5 g5 x5 b5 hs5 ho5 => ⟨Hf5, s5, w5, g5, (x2.trans g3.ex).trans x5, b5, hs5, ho5, FinS.shift h2 (g3.ex.trans x5)⟩
        | ct s5 w5 =>
          rw [eb] at h2
          exact fun σ5 H5 Hf5 g5 x5 b5 hs5 ho5 => ⟨Hf5, s5, w5, g5, (x2.trans g3.ex).trans x5, b5, hs5, ho5, FinS.shift h2 (g3.ex.trans x5)⟩
        | bk s5 w5 =>
          rw [eb] at h2
          exact fun σ5 H5 Hf5 g5 x5 b5 hs5 ho5 => h2 σ5 H5 Hf5 g5 (g3.ex.trans x5) b5 hs5 ho5
        | rt d w5 => rw [eb] at h2; exact h2
        | er y s5 w5 => rw [eb] at h2; exact FinS.shift (r := .er y s5 w5) h2 g3.ex
        | no => rw [eb] at h2; exact h2
    · have ei : i = ds.length := by omega
      subst ei
      rw [List.drop_length] at h2
      exact .inl ⟨wk.stops H2 (x2.trans b2.ex), h2 σ2 H2 Hf2 g2 (Ex.refl _) b2 hs2 ho2⟩
/-- at most n turns -/
def whileD (C : DT) (B : DS) : Nat → DS
  | 0, _, _ => .no
  | n + 1, s, w => match C s w with
    | .ok true w1 => match B s w1 with
      | .nx s2 w2 => whileD C B n s2 w2
      | .ct s2 w2 => whileD C B n s2 w2
      | .bk s2 w2 => .nx s2 w2
      | o => o
    | .ok false w1 => .nx s w1
    | .er x w1 => .er x s w1
    | .no => .no
theorem sd_while {c : Expr} {C : DT} {S : DS} {body : List Stmt} (n : Nat) (hp : PassesOwn (model X.prog X.w) X.A X.env X.xe) (hc : PT X c (lT mg W C)) (hb : PSs X body (lS mg W S)) : PS X (.While c body [] pos) (lS mg W (whileD C S n)) := weakS (ps_while hp hc hb) fun D σ H h => by
  obtain ⟨wa, Hf, sD, w, H0, Hf0, g, b, hs, ho, h⟩ := h
  refine ⟨fun m σ2 H2 => ∃ Hf2 s2 w2, Go wa H0 Hf0 H2 Hf2 ∧ Base wa Hf2 H2 w2 ∧ Slots wa Hf2 H2 σ2 s2 ∧ OwnNew H0 σ2 s2 ∧ Ex Hf Hf2 ∧ FinS mg W wa H0 Hf0 Hf2 (whileD C S m s2 w2) D, ⟨n, Hf, sD, w, g, b, hs, ho, Ex.refl _, h⟩, ?_⟩
  rintro m σ2 H2 ⟨Hf2, s2, w2, g2, b2, hs2, ho2, x2, h2⟩
  cases m with
  | zero => exact h2.elim
  | succ m =>
    unfold whileD at h2
    refine ⟨wa, Hf2, s2, w2, b2, hs2, ?_⟩
    cases ec : C s2 w2 with
    | no => rw [ec] at h2; exact h2
    | er x w3 =>
      rw [ec] at h2
      exact fun H1 Hf1 g1 b1 cls dx ev => h2 σ2 H1 Hf1 cls dx (g2.trans g1) g1.ex b1 (hs2.go g1) ho2 ev
    | ok k w3 =>
      rw [ec] at h2
      intro H3 Hf3 g3 b3 v rv
      have ev : v = k := rv
      subst ev
      cases v with
      | false => exact iteF (h2 σ2 H3 Hf3 (g2.trans g3) g3.ex b3 (hs2.go g3) ho2)
      | true =>
        dsimp only at h2
        refine iteT ⟨fun σ' H' => ∃ Hf2 s2 w2, Go wa H0 Hf0 H' Hf2 ∧ Base wa Hf2 H' w2 ∧ Slots wa Hf2 H' σ' s2 ∧ OwnNew H0 σ' s2 ∧ Ex Hf Hf2 ∧ FinS mg W wa H0 Hf0 Hf2 (whileD C S m s2 w2) D, fun σ' H' hN => ⟨m, Nat.lt_succ_self m, hN⟩,
          wa, Hf3, s2, w3, H0, Hf0, g2.trans g3, b3, hs2.go g3, ho2, ?_⟩
        cases eb : S s2 w3 with
        | nx s5 w5 =>
          rw [eb] at h2
          exact fun σ5 H5 Hf5 g5 x5 b5 hs5 ho5 => ⟨Hf5, s5, w5, g5, b5, hs5, ho5, (x2.trans g3.ex).trans x5, FinS.shift h2 (g3.ex.trans x5)⟩
        | ct s5 w5 =>
          rw [eb] at h2
          exact fun σ5 H5 Hf5 g5 x5 b5 hs5 ho5 => ⟨Hf5, s5, w5, g5, b5, hs5, ho5, (x2.trans g3.ex).trans x5, FinS.shift h2 (g3.ex.trans x5)⟩
        | bk s5 w5 =>
          rw [eb] at h2
          exact fun σ5 H5 Hf5 g5 x5 b5 hs5 ho5 => h2 σ5 H5 Hf5 g5 (g3.ex.trans x5) b5 hs5 ho5
        | rt d w5 => rw [eb] at h2; exact h2
        | er y s5 w5 => rw [eb] at h2; exact FinS.shift (r := .er y s5 w5) h2 g3.ex
        | no => rw [eb] at h2; exact h2
end
/-! ### a def -/
def runB (n k : Nat) (B : DS) : DF := fun ds w => if ds.length = k then match B (ds.map some ++ List.replicate (n - k) none) w with
    | .nx _ w1 => .ok .non w1
    | .rt d w1 => .ok d w1
    | .er x _ w1 => .er x w1
    | _ => .no
  else .no
section
variable {P : Program} {w : World} {K : PySem.W.Frag} {mg : Str → Option Value} {base : Heap}
theorem slots_start {wa : Addr} {Hf H : Hp} {vs : List V} {ds : List D} {N : List Str} (hl : vs.length ≤ N.length) (r : Reps wa Hf vs ds) : Slots wa Hf H (L2.start N vs) (ds.map some ++ List.replicate (N.length - ds.length) none) := by
  have e := r.length
  have key : ∀ (i : Nat) (d : D), (ds.map some ++ List.replicate (N.length - ds.length) none)[i]? = some (some d) → ds[i]? = some d := fun i d h => by
    rw [List.getElem?_append] at h
    split at h
    · rw [List.getElem?_map] at h
      cases q : ds[i]? with
      | none => rw [q] at h; cases h
      | some z => rw [q] at h; cases h; rfl
    · rw [List.getElem?_replicate] at h
      split at h <;> cases h
  have nown : ∀ (i : Nat) (xs : List D), ds[i]? ≠ some (.own xs) := fun i xs h => by
    obtain ⟨v, _, r'⟩ := r.get h
    exact rep_own r'
  refine ⟨by unfold L2.start; simp [e], fun i d h n => ?_, fun i xs h => absurd (key i _ h) (nown i xs), fun i j xs ys p h _ _ _ => absurd (key i _ h) (nown i xs)⟩
  obtain ⟨v, h1, h2⟩ := r.get (key i d h)
  refine ⟨v, ?_, h2⟩
  unfold L2.start
  have hi : i < vs.length := (List.getElem?_eq_some_iff.mp h1).1
  rw [List.getElem?_append_left (by simpa using hi), List.getElem?_map, h1]
  rfl
theorem fnD {x qual : Str} {st : Stmt} {f : Addr} {fd : FuncData} {N ps : List Str} {k : Nat} (F : Fun K x qual st f fd) (S : FnScope N ps (defScope st)) (hN : ps.length ≤ N.length) (B : DS)
    (h : ∀ (cdv : Value) (A : Around) (outer : List Env) (s : Shared) (H : Hp) (E : XK), Room k (A.deeper (envOfC qual (defScope st) s.heap.objs.size f cdv)) →
      PSs (cxOf (L2.CX P w) P w K mg base N qual (defScope st) f cdv A outer s H E) (defBody st) (lS mg (fun cls d _ H => E cls d H) B)) : FnD P w K mg base (k + 1) f fd ps (runB N.length ps.length B) := by
  refine F.okX S (fun vs H Q E ⟨wa, Hf, ds, w, hb, r, hl, _⟩ => by rw [r.length]; exact hl) fun cdv A outer s H vs Q E hr ⟨wa, Hf, ds, w, hb, r, hl, q⟩ => ⟨_, h cdv A outer s H E hr, ?_⟩
  have hvl : vs.length ≤ N.length := by rw [r.length, hl]; exact hN
  have hst := slots_start (H := H) hvl r
  refine ⟨wa, Hf, _, w, H, Hf, Go.refl, hb, hst, fun i xs p h1 _ => ?_, ?_⟩
  · obtain ⟨q1, us, k1, k2, k3, k4, k5⟩ := hst.own i xs h1
    exfalso
    rw [List.getElem?_append] at h1
    split at h1
    · rw [List.getElem?_map] at h1
      cases e : ds[i]? with
      | none => rw [e] at h1; cases h1
      | some z =>
        rw [e] at h1
        cases h1
        obtain ⟨v, _, r'⟩ := r.get e
        exact rep_own r'
    · rw [List.getElem?_replicate] at h1
      split at h1 <;> cases h1
  · unfold runB at q
    rw [if_pos hl, ← hl] at q
    cases eB : B (ds.map some ++ List.replicate (N.length - ds.length) none) w with
    | nx s1 w1 => rw [eB] at q; exact fun σ H' Hf' g _ b _ _ => q H' Hf' g b _ .non
    | rt d w1 => rw [eB] at q; exact fun H' Hf' v g b r' => q H' Hf' g b v r'
    | er y s1 w1 => rw [eB] at q; exact fun σ H' Hf' cls dx g _ b _ _ ev => q H' Hf' g b cls dx ev
    | bk s1 w1 => rw [eB] at q; exact q.elim
    | ct s1 w1 => rw [eB] at q; exact q.elim
    | no => rw [eB] at q; exact q.elim
end
end DL

set_option maxHeartbeats 4000000
namespace DL
open PySem PySem.Spec PyProof.Rows L2
open Evl (Ex)
/-! ### zip of two, of three, each a list or a tuple -/
def hoK (k : Bool) (xs : List V) : HO := match k with | true => .tup xs | false => .lst xs
def SI (k : Bool) (h : Heap) (it l : Addr) (i : Nat) : Prop := match k with | true => h.IsTupleIter it l i | false => h.IsListIter it l i
def SQ (k : Bool) (h : Heap) (l : Addr) (xs : Array Value) : Prop := match k with | true => h.IsTuple l xs | false => h.IsList l xs
def itO (k : Bool) (l : Addr) : Obj := match k with
  | true => { cls := .type "tuple_iterator", data := .fields #[.ref l, .int 0 0] }
  | false => { cls := .type "list_iterator", data := .fields #[.ref l, .int 0 0] }
theorem SI.at {k : Bool} {h h' : Heap} {it l : Addr} {i : Nat} (x : SI k h it l i) (e : ∀ o, h.get? it = some o → h'.get? it = some o) : SI k h' it l i := by
  cases k with
  | true => exact Heap.IsTupleIter.at x e
  | false => exact Heap.IsListIter.at x e
theorem SI.obj {k : Bool} {h : Heap} {it l : Addr} {i : Nat} (x : SI k h it l i) : ∃ o, h.get? it = some o ∧ ∀ v, o.data ≠ .cell v := by
  cases k with
  | true => obtain ⟨o, e, _, d⟩ := x; exact ⟨o, e, fun v z => by rw [d] at z; cases z⟩
  | false => obtain ⟨o, e, _, d⟩ := x; exact ⟨o, e, fun v z => by rw [d] at z; cases z⟩
theorem SI.new {k : Bool} {h : Heap} {it l : Addr} (x : h.get? it = some (itO k l)) : SI k h it l 0 := by
  cases k with
  | true => exact ⟨_, x, rfl, rfl⟩
  | false => exact ⟨_, x, rfl, rfl⟩
theorem draws_SI {prog : Program} {w : World} {A : Around} (k : Bool) (hh : A.handled = none) (it l : Addr) (hne : l ≠ it) (items : Array Value) :
    Draws prog w A it [it, l] items.size (fun i v => items[i]? = some v) (fun i h => SI k h it l i ∧ SQ k h l items) := by
  cases k with
  | true => exact Draws.tuple hh it l hne items
  | false => exact Draws.list hh it l hne items
theorem begins_SI (k : Bool) (l : Addr) (items : Array Value) : Begins (.ref l) (itO k l) fun h => SQ k h l items := by
  cases k with
  | true => exact begins_tuple l items
  | false => exact begins_list l items
section
variable {X : Cx} {pins : List (Addr × Obj)} {σ : L2.St} {H : Hp} {s : Shared}
theorem seqAt (I : Inv X pins σ H s) {k : Bool} {a : Addr} {xs : List V} (h : H a = some (hoK k xs)) : ∃ its : List Value, Vals xs its ∧ SQ k s.heap a its.toArray ∧ a < s.heap.objs.size := by
  cases k with
  | true =>
    obtain ⟨its, r, p, _⟩ := I.tuple (SqT.of h)
    obtain ⟨o, e, _⟩ := id p
    exact ⟨its, r, p, Heap.lt_size e⟩
  | false =>
    obtain ⟨its, r, p, _⟩ := I.list (SqL.of h)
    exact ⟨its, r, p.isList, p.lt⟩
theorem hoK_inj {k : Bool} {xs ys : List V} (h : hoK k xs = hoK k ys) : xs = ys := by
  cases k <;> (cases h; rfl)
def ItZ2 (k1 k2 : Bool) (a b : Addr) : It :=
  ⟨fun i H => ∃ xs ys : List V, H a = some (hoK k1 xs) ∧ H b = some (hoK k2 ys) ∧ i < xs.length ∧ i < ys.length,
    fun i H v H' => ∃ T x y, v = .ref T ∧ H T = none ∧ H' = upd H T (.tup [x, y]) ∧ (∀ xs, H a = some (hoK k1 xs) → xs[i]? = some x) ∧ ∀ ys, H b = some (hoK k2 ys) → ys[i]? = some y,
    fun i H => ∃ xs ys : List V, H a = some (hoK k1 xs) ∧ H b = some (hoK k2 ys) ∧ i = min xs.length ys.length⟩
theorem turn_z2 {P : Program} {w : World} {K : PySem.W.Frag} {elts : List Expr} {kk : Nat} {tpos : Pos} {k1 k2 : Bool} {a b z TI TO i1 i2 : Addr} (D : ZipApart z TI TO i1 i2 a b) :
    Turn P w K (.Tuple elts kk tpos) (ItZ2 k1 k2 a b) [z, TI, TO, i1, i2] z (fun i h => IsZip h z TI TO .none ∧ IsTupOf2 h TI (.ref i1) (.ref i2) ∧ (∃ x y, IsTupOf2 h TO x y) ∧ SI k1 h i1 a i ∧ SI k2 h i2 b i) where
  mem := by simp
  obj := fun i h st c hc => by
    obtain ⟨hz, hTI, ⟨x, y, hTO⟩, h1, h2⟩ := st
    have e' : c = z ∨ c = TI ∨ c = TO ∨ c = i1 ∨ c = i2 := by simpa using hc
    rcases e' with q | q | q | q | q
    · rw [q]; exact ⟨_, hz, fun v q => nomatch q⟩
    · rw [q]; exact ⟨_, hTI, fun v q => nomatch q⟩
    · rw [q]; exact ⟨_, hTO, fun v q => nomatch q⟩
    · rw [q]; exact h1.obj
    · rw [q]; exact h2.obj
  keep := fun i h h' st k => by
    obtain ⟨hz, hTI, ⟨x, y, hTO⟩, h1, h2⟩ := st
    exact ⟨k z (by simp) _ hz, k TI (by simp) _ hTI, ⟨x, y, k TO (by simp) _ hTO⟩, h1.at fun o q => k i1 (by simp) o q, h2.at fun o q => k i2 (by simp) o q⟩
  item := by
    intro X hP hw hK hc i pins s σ H E I hf st hg
    subst hP hw hK
    obtain ⟨hz, hTI, hTO, h1, h2⟩ := st
    obtain ⟨xs, ys, ha, hb, hx, hy⟩ := hg
    obtain ⟨its, rv, p, la⟩ := seqAt I ha
    obtain ⟨its2, rv2, p2, lb⟩ := seqAt I hb
    have hh := I.ok.hd hc
    have W := GoesN.zip2 (elts := elts) (x1 := kk) (pos := tpos) (z := z) (TI := TI) (TO := TO) (ZipSep2.mk (fp1 := [i1, a]) (fp2 := [i2, b]) D.TIz D.TOz D.TITO D.TIi1 (by simp) (by simp [D.i1z.symm, D.l1z.symm]) (by simp [D.TOi1, D.l1TO.symm]) D.TIi2 (by simp) (by simp [D.i2z.symm, D.l2z.symm]) (by simp [D.TOi2, D.l2TO.symm]) (by simp [D.i12, D.l2i1.symm]) (by simp [D.i12.symm, D.l1i2.symm]))
      (draws_SI (prog := X.prog) (w := X.w) (A := X.A.in1) k1 hh i1 a D.l1i1 its.toArray) (draws_SI (prog := X.prog) (w := X.w) (A := X.A.in1) k2 hh i2 b D.l2i2 its2.toArray)
    have l1 := rv.length
    have l2 := rv2.length
    refine thn (W.goes i s (fun v s2 => ∃ x H', Inv X pins σ H' s2 ∧ RelV x v ∧ (ItZ2 k1 k2 a b).yld i H x H' ∧ (IsZip s2.heap z TI TO .none ∧ IsTupOf2 s2.heap TI (.ref i1) (.ref i2) ∧ (∃ x y, IsTupOf2 s2.heap TO x y) ∧ SI k1 s2.heap i1 a (i + 1) ∧ SI k2 s2.heap i2 b (i + 1)) ∧ ∀ c ∈ [z, TI, TO, i1, i2], H' c = none) E (by simp; omega) ⟨hz, hTI, hTO, ⟨h1, p⟩, ⟨h2, p2⟩⟩ fun v h' tk hY st' hk _ => ?_) fun r s1 q => q
    obtain ⟨T, u1, u2, rfl, hT, e1, e2, hTup⟩ := hY
    obtain ⟨hz', hTI', hTO', ⟨h1', _⟩, ⟨h2', _⟩⟩ := st'
    have e1 : its[i]? = some u1 := by simpa using e1
    have e2 : its2[i]? = some u2 := by simpa using e2
    have gx : xs[i]? = some xs[i] := by simp [hx]
    have gy : ys[i]? = some ys[i] := by simp [hy]
    obtain ⟨u1', f1, r1⟩ := rv.get gx
    obtain ⟨u2', f2, r2⟩ := rv2.get gy
    rw [e1] at f1
    cases f1
    rw [e2] at f2
    cases f2
    have new : ObjOk X.prog X.w (upd H T (.tup [xs[i], ys[i]])) h' T (.tup [xs[i], ys[i]]) := ⟨by show 2 ≤ sizeLine; decide, [u1, u2], .cons r1 (.cons r2 .nil), hTup⟩
    have I1 : Inv X pins σ (upd H T (.tup [xs[i], ys[i]])) { s with heap := h', toks := tk } := I.turnedNew (ch := [z, TI, TO, i1, i2]) (fun c o hcm q => hk c o (fun m => hcm (by simp at m ⊢; rcases m with m | m | m | m <;> simp [m])) q) hf hT new
    refine ⟨.ref T, _, I1, rfl, ⟨T, _, _, rfl, I.hok.fresh hT, rfl, fun l hl => ?_, fun l hl => ?_⟩, ⟨hz', hTI', hTO', h1', h2'⟩, fun c hcm => ?_⟩
    · rw [ha] at hl
      rw [← hoK_inj (Option.some.inj hl)]
      exact gx
    · rw [hb] at hl
      rw [← hoK_inj (Option.some.inj hl)]
      exact gy
    · have hlt : c < s.heap.objs.size := by
        have e' : c = z ∨ c = TI ∨ c = TO ∨ c = i1 ∨ c = i2 := by simpa using hcm
        rcases e' with q | q | q | q | q
        · rw [q]; exact Heap.lt_size hz
        · rw [q]; exact Heap.lt_size hTI
        · obtain ⟨_, _, hTO⟩ := hTO; rw [q]; exact Heap.lt_size hTO
        · rw [q]; obtain ⟨_, e, _⟩ := h1.obj; exact Heap.lt_size e
        · rw [q]; obtain ⟨_, e, _⟩ := h2.obj; exact Heap.lt_size e
      rw [upd_ne (Nat.ne_of_lt (Nat.lt_of_lt_of_le hlt hT))]
      exact (hf c hcm).1
  done := by
    intro X hP hw hK hc i pins s σ H E I hf st hg
    subst hP hw hK
    obtain ⟨hz, hTI, hTO, h1, h2⟩ := st
    obtain ⟨xs, ys, ha, hb, hi⟩ := hg
    obtain ⟨its, rv, p, la⟩ := seqAt I ha
    obtain ⟨its2, rv2, p2, lb⟩ := seqAt I hb
    have hh := I.ok.hd hc
    have l1 := rv.length
    have l2 := rv2.length
    have W := GoesN.zip2 (elts := elts) (x1 := kk) (pos := tpos) (z := z) (TI := TI) (TO := TO) (ZipSep2.mk (fp1 := [i1, a]) (fp2 := [i2, b]) D.TIz D.TOz D.TITO D.TIi1 (by simp) (by simp [D.i1z.symm, D.l1z.symm]) (by simp [D.TOi1, D.l1TO.symm]) D.TIi2 (by simp) (by simp [D.i2z.symm, D.l2z.symm]) (by simp [D.TOi2, D.l2TO.symm]) (by simp [D.i12, D.l2i1.symm]) (by simp [D.i12.symm, D.l1i2.symm]))
      (draws_SI (prog := X.prog) (w := X.w) (A := X.A.in1) k1 hh i1 a D.l1i1 its.toArray) (draws_SI (prog := X.prog) (w := X.w) (A := X.A.in1) k2 hh i2 b D.l2i2 its2.toArray)
    have ei : i = min its.toArray.size its2.toArray.size := by simp; omega
    rw [ei] at h1 h2
    refine W.stops s _ E ⟨hz, hTI, hTO, ⟨h1, p⟩, ⟨h2, p2⟩⟩ fun h' tk hk _ => I.turnedL (ch := [z, TI, TO, i1, i2]) (fun c o hcm q => hk c o (fun m => hcm (by simp at m ⊢; rcases m with m | m | m | m <;> simp [m])) q) hf
  self := fun A i s Q E st h => wpAny_pyIter_zip st.1 h
def iZ2 (k1 k2 : Bool) (ta : TA) : TI := fun σ H R => ta σ H fun vs H1 => ∃ a b xs ys, vs = [.ref a, .ref b] ∧ H1 a = some (hoK k1 xs) ∧ H1 b = some (hoK k2 ys) ∧ R (ItZ2 k1 k2 a b) H1
theorem pi_z2 {e e2 : Expr} {ta : TA} {p pos tpos : Pos} {elts : List Expr} {kk : Nat} (k1 k2 : Bool) (hg : Gl X "zip") (hm : X.mg "zip" = none) (ha : PA X [e, e2] ta)
    (hs : starEach [e, e2] X.env = (false, eval e X.env) :: starEach [e2] X.env := by rfl) (hpl : (backTo pos (starEach [e2] X.env)).any (·.1) = false := by rfl) :
    PI X (.Tuple elts kk tpos) (.Call (.Name "zip" p) [e, e2] [] pos) (iZ2 k1 k2 ta) := by
  refine ⟨fun pins s σ H R I h => ?_⟩
  refine Call_ (ld_blt I hg hm PyProof.Rows.boot_zip (PyProof.Rows.callWith_type1 (thn (ha.run pos pins s σ H _ I h) fun us s1 ⟨vs, H1, I1, r1, q1⟩ => ?_) hs hpl))
  obtain ⟨a, b, xs, ys, ex, hx, hy, q⟩ := q1
  subst ex
  cases r1 with
  | cons r rr =>
    cases rr with
    | cons r' rr =>
      cases rr
      cases r
      cases r'
      obtain ⟨its, rv, p1, la⟩ := seqAt I1 hx
      obtain ⟨its2, rv2, p2, lb⟩ := seqAt I1 hy
      refine zip_begins2 (begins_SI k1 a its.toArray) (begins_SI k2 b its2.toArray) p1 p2 fun h' hz hTI hTO h1 h2 hsz hk => wpAny_pyIter_zip hz ?_
      have I2 : Inv X pins σ H1 { s1 with heap := h' } := I1.kept (t' := s1.toks) hk
      refine ⟨s1.heap.objs.size + 4, [s1.heap.objs.size + 4, s1.heap.objs.size + 2, s1.heap.objs.size + 3, s1.heap.objs.size, s1.heap.objs.size + 1], _, _, H1, rfl, I2, turn_z2 (PySem.W.ktu_apart s1.heap.objs.size a b la lb), ⟨hz, hTI, ⟨_, _, hTO⟩, SI.new h1, SI.new h2⟩, fun c hcm => ?_, q⟩
      have e' : c = s1.heap.objs.size + 4 ∨ c = s1.heap.objs.size + 2 ∨ c = s1.heap.objs.size + 3 ∨ c = s1.heap.objs.size ∨ c = s1.heap.objs.size + 1 := by simpa using hcm
      have hle : s1.heap.objs.size ≤ c := by
        rcases e' with z | z | z | z | z <;> (rw [z]; first | exact Nat.le_add_right _ _ | exact Nat.le_refl _)
      exact I1.fpOk hle (I1.hok.fresh hle)

def ItZ3 (k1 k2 k3 : Bool) (a b c : Addr) : It :=
  ⟨fun i H => ∃ xs ys zs : List V, H a = some (hoK k1 xs) ∧ H b = some (hoK k2 ys) ∧ H c = some (hoK k3 zs) ∧ i < xs.length ∧ i < ys.length ∧ i < zs.length,
    fun i H v H' => ∃ T x y z, v = .ref T ∧ H T = none ∧ H' = upd H T (.tup [x, y, z]) ∧ (∀ xs, H a = some (hoK k1 xs) → xs[i]? = some x) ∧ (∀ ys, H b = some (hoK k2 ys) → ys[i]? = some y) ∧ ∀ zs, H c = some (hoK k3 zs) → zs[i]? = some z,
    fun i H => ∃ xs ys zs : List V, H a = some (hoK k1 xs) ∧ H b = some (hoK k2 ys) ∧ H c = some (hoK k3 zs) ∧ i = min (min xs.length ys.length) zs.length⟩
structure Apart3 (n : Nat) (a b c : Addr) : Prop where
  la : a < n
  lb : b < n
  lc : c < n
theorem mem2 {x y z : Nat} (h1 : x ≠ y) (h2 : x ≠ z) : (x : Addr) ∉ ([y, z] : List Addr) := fun m => by
  rcases List.mem_cons.mp m with e | m
  · exact h1 e
  · rcases List.mem_cons.mp m with e | m
    · exact h2 e
    · cases m
theorem Apart3.sep {n a b c : Nat} (D : Apart3 n a b c) : ZipSep3 (n + 5) (n + 3) (n + 4) n (n + 1) (n + 2) [n, a] [n + 1, b] [n + 2, c] := by
  have la : @LT.lt Nat _ a n := D.la
  have lb : @LT.lt Nat _ b n := D.lb
  have lc : @LT.lt Nat _ c n := D.lc
  constructor <;> first
    | exact List.mem_cons_self
    | exact mem2 (by omega) (by omega)
    | (refine PySem.W.neN ?_; omega)
theorem turn_z3 {P : Program} {w : World} {K : PySem.W.Frag} {elts : List Expr} {kk : Nat} {tpos : Pos} {k1 k2 k3 : Bool} {n a b c : Addr} (D : Apart3 n a b c) :
    Turn P w K (.Tuple elts kk tpos) (ItZ3 k1 k2 k3 a b c) [n + 5, n + 3, n + 4, n, n + 1, n + 2] (n + 5) (fun i h => IsZip h (n + 5) (n + 3) (n + 4) .none ∧ IsTupOf3 h (n + 3) (.ref n) (.ref (n + 1)) (.ref (n + 2)) ∧ (∃ x y z, IsTupOf3 h (n + 4) x y z) ∧ SI k1 h n a i ∧ SI k2 h (n + 1) b i ∧ SI k3 h (n + 2) c i) where
  mem := by simp
  obj := fun i h st d hd => by
    obtain ⟨hz, hTI, ⟨x, y, z, hTO⟩, h1, h2, h3⟩ := st
    have e' : d = n + 5 ∨ d = n + 3 ∨ d = n + 4 ∨ d = n ∨ d = n + 1 ∨ d = n + 2 := by simpa using hd
    rcases e' with q | q | q | q | q | q
    · rw [q]; exact ⟨_, hz, fun v q => nomatch q⟩
    · rw [q]; exact ⟨_, hTI, fun v q => nomatch q⟩
    · rw [q]; exact ⟨_, hTO, fun v q => nomatch q⟩
    · rw [q]; exact h1.obj
    · rw [q]; exact h2.obj
    · rw [q]; exact h3.obj
  keep := fun i h h' st k => by
    obtain ⟨hz, hTI, ⟨x, y, z, hTO⟩, h1, h2, h3⟩ := st
    exact ⟨k _ (by simp) _ hz, k _ (by simp) _ hTI, ⟨x, y, z, k _ (by simp) _ hTO⟩, h1.at fun o q => k _ (by simp) o q, h2.at fun o q => k _ (by simp) o q, h3.at fun o q => k _ (by simp) o q⟩
  item := by
    intro X hP hw hK hc i pins s σ H E I hf st hg
    subst hP hw hK
    obtain ⟨hz, hTI, hTO, h1, h2, h3⟩ := st
    obtain ⟨xs, ys, zs, ha, hb, hcc, hx, hy, hzz⟩ := hg
    obtain ⟨its, rv, p, la⟩ := seqAt I ha
    obtain ⟨its2, rv2, p2, lb⟩ := seqAt I hb
    obtain ⟨its3, rv3, p3, lc⟩ := seqAt I hcc
    have hh := I.ok.hd hc
    have W := GoesN.zip3 (elts := elts) (x1 := kk) (pos := tpos) D.sep
      (draws_SI (prog := X.prog) (w := X.w) (A := X.A.in1) k1 hh n a (Nat.ne_of_lt D.la) its.toArray) (draws_SI (prog := X.prog) (w := X.w) (A := X.A.in1) k2 hh (n + 1) b (Nat.ne_of_lt (Nat.lt_succ_of_lt D.lb)) its2.toArray) (draws_SI (prog := X.prog) (w := X.w) (A := X.A.in1) k3 hh (n + 2) c (Nat.ne_of_lt (Nat.lt_succ_of_lt (Nat.lt_succ_of_lt D.lc))) its3.toArray)
    have l1 := rv.length
    have l2 := rv2.length
    have l3 := rv3.length
    refine thn (W.goes i s (fun v s2 => ∃ x H', Inv X pins σ H' s2 ∧ RelV x v ∧ (ItZ3 k1 k2 k3 a b c).yld i H x H' ∧ (IsZip s2.heap (n + 5) (n + 3) (n + 4) .none ∧ IsTupOf3 s2.heap (n + 3) (.ref n) (.ref (n + 1)) (.ref (n + 2)) ∧ (∃ x y z, IsTupOf3 s2.heap (n + 4) x y z) ∧ SI k1 s2.heap n a (i + 1) ∧ SI k2 s2.heap (n + 1) b (i + 1) ∧ SI k3 s2.heap (n + 2) c (i + 1)) ∧ ∀ c ∈ [n + 5, n + 3, n + 4, n, n + 1, n + 2], H' c = none) E (by simp; omega) ⟨hz, hTI, hTO, ⟨h1, p⟩, ⟨h2, p2⟩, ⟨h3, p3⟩⟩ fun v h' tk hY st' hk _ => ?_) fun r s1 q => q
    obtain ⟨T, u1, u2, u3, rfl, hT, e1, e2, e3, hTup⟩ := hY
    obtain ⟨hz', hTI', hTO', ⟨h1', _⟩, ⟨h2', _⟩, ⟨h3', _⟩⟩ := st'
    have e1 : its[i]? = some u1 := by simpa using e1
    have e2 : its2[i]? = some u2 := by simpa using e2
    have e3 : its3[i]? = some u3 := by simpa using e3
    have gx : xs[i]? = some xs[i] := by simp [hx]
    have gy : ys[i]? = some ys[i] := by simp [hy]
    have gz : zs[i]? = some zs[i] := by simp [hzz]
    obtain ⟨u1', f1, r1⟩ := rv.get gx
    obtain ⟨u2', f2, r2⟩ := rv2.get gy
    obtain ⟨u3', f3, r3⟩ := rv3.get gz
    rw [e1] at f1
    cases f1
    rw [e2] at f2
    cases f2
    rw [e3] at f3
    cases f3
    have new : ObjOk X.prog X.w (upd H T (.tup [xs[i], ys[i], zs[i]])) h' T (.tup [xs[i], ys[i], zs[i]]) := ⟨by show 3 ≤ sizeLine; decide, [u1, u2, u3], .cons r1 (.cons r2 (.cons r3 .nil)), hTup⟩
    have I1 : Inv X pins σ (upd H T (.tup [xs[i], ys[i], zs[i]])) { s with heap := h', toks := tk } := I.turnedNew (ch := [n + 5, n + 3, n + 4, n, n + 1, n + 2]) (fun c o hcm q => hk c o (fun m => hcm (by simp at m ⊢; rcases m with m | m | m | m | m <;> simp [m])) q) hf hT new
    refine ⟨.ref T, _, I1, rfl, ⟨T, _, _, _, rfl, I.hok.fresh hT, rfl, fun l hl => ?_, fun l hl => ?_, fun l hl => ?_⟩, ⟨hz', hTI', hTO', h1', h2', h3'⟩, fun c hcm => ?_⟩
    · rw [ha] at hl
      rw [← hoK_inj (Option.some.inj hl)]
      exact gx
    · rw [hb] at hl
      rw [← hoK_inj (Option.some.inj hl)]
      exact gy
    · rw [hcc] at hl
      rw [← hoK_inj (Option.some.inj hl)]
      exact gz
    · have hlt : c < s.heap.objs.size := by
        have e' : c = n + 5 ∨ c = n + 3 ∨ c = n + 4 ∨ c = n ∨ c = n + 1 ∨ c = n + 2 := by simpa using hcm
        rcases e' with q | q | q | q | q | q
        · rw [q]; exact Heap.lt_size hz
        · rw [q]; exact Heap.lt_size hTI
        · obtain ⟨_, _, _, hTO⟩ := hTO; rw [q]; exact Heap.lt_size hTO
        · rw [q]; obtain ⟨_, e, _⟩ := h1.obj; exact Heap.lt_size e
        · rw [q]; obtain ⟨_, e, _⟩ := h2.obj; exact Heap.lt_size e
        · rw [q]; obtain ⟨_, e, _⟩ := h3.obj; exact Heap.lt_size e
      rw [upd_ne (Nat.ne_of_lt (Nat.lt_of_lt_of_le hlt hT))]
      exact (hf c hcm).1
  done := by
    intro X hP hw hK hc i pins s σ H E I hf st hg
    subst hP hw hK
    obtain ⟨hz, hTI, hTO, h1, h2, h3⟩ := st
    obtain ⟨xs, ys, zs, ha, hb, hcc, hi⟩ := hg
    obtain ⟨its, rv, p, la⟩ := seqAt I ha
    obtain ⟨its2, rv2, p2, lb⟩ := seqAt I hb
    obtain ⟨its3, rv3, p3, lc⟩ := seqAt I hcc
    have hh := I.ok.hd hc
    have l1 := rv.length
    have l2 := rv2.length
    have l3 := rv3.length
    have W := GoesN.zip3 (elts := elts) (x1 := kk) (pos := tpos) D.sep
      (draws_SI (prog := X.prog) (w := X.w) (A := X.A.in1) k1 hh n a (Nat.ne_of_lt D.la) its.toArray) (draws_SI (prog := X.prog) (w := X.w) (A := X.A.in1) k2 hh (n + 1) b (Nat.ne_of_lt (Nat.lt_succ_of_lt D.lb)) its2.toArray) (draws_SI (prog := X.prog) (w := X.w) (A := X.A.in1) k3 hh (n + 2) c (Nat.ne_of_lt (Nat.lt_succ_of_lt (Nat.lt_succ_of_lt D.lc))) its3.toArray)
    have ei : i = min (min its.toArray.size its2.toArray.size) its3.toArray.size := by simp; omega
    rw [ei] at h1 h2 h3
    refine W.stops s _ E ⟨hz, hTI, hTO, ⟨h1, p⟩, ⟨h2, p2⟩, ⟨h3, p3⟩⟩ fun h' tk hk _ => I.turnedL (ch := [n + 5, n + 3, n + 4, n, n + 1, n + 2]) (fun c o hcm q => hk c o (fun m => hcm (by simp at m ⊢; rcases m with m | m | m | m | m <;> simp [m])) q) hf
  self := fun A i s Q E st h => wpAny_pyIter_zip st.1 h
def iZ3 (k1 k2 k3 : Bool) (ta : TA) : TI := fun σ H R => ta σ H fun vs H1 => ∃ a b c xs ys zs, vs = [.ref a, .ref b, .ref c] ∧ H1 a = some (hoK k1 xs) ∧ H1 b = some (hoK k2 ys) ∧ H1 c = some (hoK k3 zs) ∧ R (ItZ3 k1 k2 k3 a b c) H1
theorem pi_z3 {e e2 e3 : Expr} {ta : TA} {p pos tpos : Pos} {elts : List Expr} {kk : Nat} (k1 k2 k3 : Bool) (hg : Gl X "zip") (hm : X.mg "zip" = none) (ha : PA X [e, e2, e3] ta)
    (hs : starEach [e, e2, e3] X.env = (false, eval e X.env) :: starEach [e2, e3] X.env := by rfl) (hpl : (backTo pos (starEach [e2, e3] X.env)).any (·.1) = false := by rfl) :
    PI X (.Tuple elts kk tpos) (.Call (.Name "zip" p) [e, e2, e3] [] pos) (iZ3 k1 k2 k3 ta) := by
  refine ⟨fun pins s σ H R I h => ?_⟩
  refine Call_ (ld_blt I hg hm PyProof.Rows.boot_zip (PyProof.Rows.callWith_type1 (thn (ha.run pos pins s σ H _ I h) fun us s1 ⟨vs, H1, I1, r1, q1⟩ => ?_) hs hpl))
  obtain ⟨a, b, c, xs, ys, zs, ex, hx, hy, hz0, q⟩ := q1
  subst ex
  cases r1 with
  | cons r rr =>
    cases rr with
    | cons r' rr =>
      cases rr with
      | cons r'' rr =>
        cases rr
        cases r
        cases r'
        cases r''
        obtain ⟨its, rv, p1, la⟩ := seqAt I1 hx
        obtain ⟨its2, rv2, p2, lb⟩ := seqAt I1 hy
        obtain ⟨its3, rv3, p3, lc⟩ := seqAt I1 hz0
        refine zip_begins3 (begins_SI k1 a its.toArray) (begins_SI k2 b its2.toArray) (begins_SI k3 c its3.toArray) p1 p2 p3 fun h' hz hTI hTO h1 h2 h3 hsz hk => wpAny_pyIter_zip hz ?_
        have I2 : Inv X pins σ H1 { s1 with heap := h' } := I1.kept (t' := s1.toks) hk
        refine ⟨s1.heap.objs.size + 5, [s1.heap.objs.size + 5, s1.heap.objs.size + 3, s1.heap.objs.size + 4, s1.heap.objs.size, s1.heap.objs.size + 1, s1.heap.objs.size + 2], _, _, H1, rfl, I2, turn_z3 ⟨la, lb, lc⟩, ⟨hz, hTI, ⟨_, _, _, hTO⟩, SI.new h1, SI.new h2, SI.new h3⟩, fun d hdm => ?_, q⟩
        have e' : d = s1.heap.objs.size + 5 ∨ d = s1.heap.objs.size + 3 ∨ d = s1.heap.objs.size + 4 ∨ d = s1.heap.objs.size ∨ d = s1.heap.objs.size + 1 ∨ d = s1.heap.objs.size + 2 := by simpa using hdm
        have hle : s1.heap.objs.size ≤ d := by
          rcases e' with z | z | z | z | z | z <;> (rw [z]; first | exact Nat.le_add_right _ _ | exact Nat.le_refl _)
        exact I1.fpOk hle (I1.hok.fresh hle)
end
end DL

set_option maxHeartbeats 4000000
namespace DL
open PySem PySem.Spec PyProof.Rows L2
open Evl (Ex)
/-! ### t[::-1] of a tuple -/
section
variable {prog : Program} {w : World} {A : Around} {E : Value → Shared → Prop} {s : Shared}
theorem sliceApplied_rev {sl : Addr} {vl vu vs : Value} {n : Nat} {Q : Int × Int × Nat → Shared → Prop} (hs : s.heap.IsSliceOf sl vl vu vs) (pl : IsPart vl none) (pu : IsPart vu none) (ps : IsPart vs (some (-1)))
    (h : Q ((n : Int) - 1, -1, n) s) : wpAny (model prog w) A (Builtin.Slice.sliceApplied (.ref sl) (pure (n : Int))) Q E s := by
  obtain ⟨os, hos, hcs, hds⟩ := id hs
  unfold Builtin.Slice.sliceApplied Builtin.Slice.sliceFields
  refine wpAny_bind (wpAny_bind (wpAny_field hos hds (x := vl) rfl (wpAny_bind (wpAny_field hos hds (x := vu) rfl (wpAny_bind (wpAny_field hos hds (x := vs) rfl (wpAny_pure ?_)))))))
  refine wpAny_bind (HT.slicePart_ ps ?_)
  show wpAny _ _ (if ((-1 : Int) == 0) = true then _ else _) _ _ s
  rw [if_neg (by decide)]
  refine wpAny_bind (HT.slicePart_ pl (wpAny_bind (HT.slicePart_ pu (wpAny_bind (wpAny_pure ?_)))))
  show wpAny _ _ (match Builtin.Slice.sliceAdjust none none (-1) (n : Int) with | (lo, hi) => pure (lo, (-1 : Int), Builtin.Slice.slicePlaces lo hi (-1))) _ _ s
  have e1 : Builtin.Slice.sliceAdjust none none (-1) (n : Int) = ((n : Int) - 1, -1) := by
    unfold Builtin.Slice.sliceAdjust
    simp
  rw [e1]
  have e2 : Builtin.Slice.slicePlaces ((n : Int) - 1) (-1) (-1) = n := by
    unfold Builtin.Slice.slicePlaces
    simp
    split <;> omega
  show wpAny _ _ (pure ((n : Int) - 1, (-1 : Int), Builtin.Slice.slicePlaces ((n : Int) - 1) (-1) (-1))) _ _ s
  rw [e2]
  exact wpAny_pure h
theorem pick_rev (xs : Array Value) : ((List.range xs.size).filterMap fun (m : Nat) => xs[(((xs.size : Int) - 1) + (m : Int) * (-1)).toNat]?).toArray = xs.toList.reverse.toArray := by
  congr 1
  have e : (List.range xs.size).filterMap (fun (m : Nat) => xs[(((xs.size : Int) - 1) + (m : Int) * (-1)).toNat]?) = ((List.range xs.size).map fun k => xs.size - 1 - k).filterMap (xs[·]?) := by
    rw [List.filterMap_map]
    have key : ∀ l : List Nat, (∀ m ∈ l, m < xs.size) → l.filterMap (fun (m : Nat) => xs[(((xs.size : Int) - 1) + (m : Int) * (-1)).toNat]?) = l.filterMap ((xs[·]?) ∘ fun k => xs.size - 1 - k) := by
      intro l
      induction l with
      | nil => intro _; rfl
      | cons m l ih =>
        intro hl
        have hm := hl m List.mem_cons_self
        have e2 : (((xs.size : Int) - 1) + (m : Int) * (-1)).toNat = xs.size - 1 - m := by omega
        rw [List.filterMap_cons, List.filterMap_cons, ih fun k hk => hl k (List.mem_cons_of_mem _ hk), e2]
        rfl
    exact key _ fun m hm => List.mem_range.mp hm
  rw [e, PySem.W.krv_range, List.filterMap_reverse, PySem.W.krv_all]
theorem getItem_tuple_rev {t sl : Addr} {items : Array Value} {vl vu vs : Value} {Q : Value → Shared → Prop} (ht : IsTup s.heap t items) (hs : s.heap.IsSliceOf sl vl vu vs) (pl : IsPart vl none) (pu : IsPart vu none) (ps : IsPart vs (some (-1)))
    (h : Q (.ref s.heap.objs.size) { s with heap := s.heap.push { cls := .type "tuple", data := .seq items.toList.reverse.toArray } })
    (hsz : items.size ≤ sizeLine) : wpAny (model prog w) A (getItem (.ref t) (.ref sl)) Q E s := by
  have htake : sizeOk (.seq items.toList.reverse.toArray) := by
    show items.toList.reverse.toArray.size ≤ sizeLine
    rw [List.size_toArray, List.length_reverse, Array.length_toList]
    exact hsz
  obtain ⟨os, hos, hcs, hds⟩ := id hs
  have hTs : s.TypeIs (.ref sl) "slice" := ⟨os, hos, hcs⟩
  unfold getItem
  try with_reducible refine wpAny_holding ?_
  first | refine wpAny_bind (wpAny_pure ?_) | skip
  refine wpAny_bind (wpAny_sequenceKey ht.typeIs (by decide) ?_)
  refine wpAny_bind (wpAny_callSpecial?_slot (name := Str.ofString "__getitem__") ht.typeIs PyProof.Rows.slot_tuple_getitem
    (wpAny_call_entry PyProof.Rows.slot_tuple_getitem ht.typeIs entry_tuple_getitem ?_ (args_tuple_getitem _ _)))
  show wpAny _ _ (Builtin.Tuple.tupleItemsOf (.ref t) >>= _) _ _ s
  refine wpAny_bind (tupleItemsOf_ ht ?_)
  refine wpAny_bind (wpAny_typeOf hTs ?_)
  rw [if_pos (by decide)]
  refine wpAny_bind (sliceApplied_rev hs pl pu ps ?_)
  have hno : ¬ ((((items.size : Int) - 1) == 0 && (-1 : Int) == 1 && items.size == items.size) = true) := by
    intro q
    rw [Bool.and_eq_true, Bool.and_eq_true] at q
    have q1 := q.1.2
    revert q1
    decide
  show wpAny _ _ (if (((items.size : Int) - 1) == 0 && (-1 : Int) == 1 && items.size == items.size) = true then _ else _) _ _ s
  rw [if_neg hno, pick_rev]
  first
    | exact wpAny_bind (m := Builtin.Tuple.tupleExact _) (wpAny_newObj_type (wpAny_pure ⟨_, rfl, wpAny_pure h⟩) htake)
    | exact wpAny_bind (m := Builtin.Tuple.tupleExact _) (wpAny_newObj_type (wpAny_bind (wpAny_pure (wpAny_pure ⟨_, rfl, wpAny_pure h⟩))) htake)
    | exact wpAny_bind (wpAny_bind (m := Builtin.Tuple.tupleExact _) (wpAny_newObj_type (wpAny_pure (wpAny_pure ⟨_, rfl, wpAny_pure h⟩)) htake))
    | exact wpAny_bind (wpAny_bind (m := Builtin.Tuple.tupleExact _) (wpAny_newObj_type (wpAny_pure ⟨_, rfl, wpAny_pure h⟩) htake))
end
def tRevT (K : PySem.W.Frag) (te : TE) : TE := fun σ H Q => te σ H fun x H1 => ∃ a xs, x = .ref a ∧ SqT K H1 a xs ∧ ∀ p, H1 p = none → Q (.ref p) (upd H1 p (.tup xs.reverse))
theorem pe_revT {X : Cx} {e : Expr} {te : TE} {k : Nat} {p1 p2 p3 pos : Pos} (he : PE X e te) : PE X (.Subscript e (.Slice none none (some (.UnaryOp .USub (.Constant (.int 1) k p1) p2)) p3) pos) (tRevT X.K te) := by
  refine ⟨fun pins s σ H Q I h => ?_⟩
  refine Subscript_ (thn (he.run pins s σ H _ I h) fun v s1 ⟨x, H1, I1, r1, q1⟩ => ?_)
  obtain ⟨a, xs, ex, hx, q⟩ := q1
  subst ex
  cases r1
  have hst : PO X (some (.UnaryOp .USub (.Constant (.int 1) k p1) p2)) (tPart (tUn (rU fun i => .int (-i)) (tC (.int 1)))) := po_some (pe_un un_neg pe_int)
  refine wpAny_Slice (thn (po_none.run pins s1 σ H1 (fun o H2 => o = none ∧ H2 = H1) I1 ⟨rfl, rfl⟩) fun vl s2 ⟨l, H2, I2, pl, el, e2⟩ => ?_)
  subst el e2
  refine thn (po_none.run pins s2 σ H2 (fun o H3 => o = none ∧ H3 = H2) I2 ⟨rfl, rfl⟩) fun vu s3 ⟨u, H3, I3, pu, eu, e3⟩ => ?_
  subst eu e3
  refine thn (hst.run pins s3 σ H3 (fun o H4 => o = some (-1) ∧ H4 = H3) I3 ⟨1, rfl, -1, rfl, rfl, rfl⟩) fun vs s4 ⟨o, H4, I4, ps, eo, e4⟩ => ?_
  subst eo e4
  have I5 : Inv X pins σ H4 { s4 with heap := s4.heap.push { cls := .type "slice", data := .fields #[vl, vu, vs] } } := I4.kept (t' := s4.toks) fun b ob q => Heap.get?_push_of_some _ q
  obtain ⟨its, r, ht, hz⟩ := I5.tuple hx
  have hlen := r.length
  show wpAny (model X.prog X.w) X.A (subscriptTail e (.Slice none none (some (.UnaryOp .USub (.Constant (.int 1) k p1) p2)) p3) (.ref a) (.ref s4.heap.objs.size)) (EP X pins σ Q) X.xe { s4 with heap := s4.heap.push { cls := .type "slice", data := .fields #[vl, vu, vs] } }
  refine tail_any (ops := [.ref a, .ref s4.heap.objs.size]) ht.typeIs (PyProof.Rows.slot_tuple_getitem.lookup) ?_ (by with_unfolding_all rfl)
  refine getItem_tuple_rev ht (Heap.IsSliceOf.new _ vl vu vs) pl pu ps ?_ (by rw [List.size_toArray]; omega)
  refine ⟨.ref _, _, I5.laid (t' := s4.toks) (o := .tup xs.reverse) (fun b ob q => Heap.get?_push_of_some _ q) (Nat.le_refl _) ?_, rfl, q _ (I5.hok.fresh (Nat.le_refl _))⟩
  exact ⟨by rw [List.length_reverse]; exact hz, its.reverse, r.reverse, IsTup.new _ _⟩
section
variable {X : Cx} {mg : Str → Option Value} {W : WX} {tg it a b c e : Expr} {es : List Expr} {pos : Pos} {σ : L2.St} {H : Hp} {wa : Addr} {Hf : Hp} {A : DE}
def eRev (A : DE) : DE := fun s w => (A s w).bind fun x w1 => match x with
  | .lst xs => .ok (.lst xs.reverse) w1
  | .tup xs => .ok (.tup xs.reverse) w1
  | _ => .no
theorem pd_rev {k : Nat} {p1 p2 p3 : Pos} (ha : PE X a (lE mg W A)) : PE X (.Subscript a (.Slice none none (some (.UnaryOp .USub (.Constant (.int 1) k p1) p2)) p3) pos) (lE mg W (eRev A)) := weakE (orE (pe_revL ha) (pe_revT ha)) fun σ H Q h => by
  obtain ⟨wa, Hf, sD, w, hb, hs, h⟩ := h
  unfold eRev at h
  cases ea : A sD w with
  | ok x w1 =>
    rw [ea, R.bind_ok] at h
    cases x with
    | lst xs =>
      refine .inl ⟨wa, Hf, sD, w, hb, hs, ?_⟩
      rw [ea]
      intro H1 Hf1 g b v rv
      cases rv with
      | lst h1 r1 =>
        refine ⟨_, _, rfl, SqL.of (b.ex _ _ h1), fun p hp => ?_⟩
        exact h _ _ (g.trans (Go.newF b.ex hp)) (b.newF hp) _ (.lst upd_same (r1.reverse.mono (Ex.new (Evl.fresh_back b.ex hp))))
    | tup xs =>
      refine .inr ⟨wa, Hf, sD, w, hb, hs, ?_⟩
      rw [ea]
      intro H1 Hf1 g b v rv
      cases rv with
      | tup h1 r1 =>
        refine ⟨_, _, rfl, SqT.of (b.ex _ _ h1), fun p hp => ?_⟩
        exact h _ _ (g.trans (Go.newF b.ex hp)) (b.newF hp) _ (.tup upd_same (r1.reverse.mono (Ex.new (Evl.fresh_back b.ex hp))))
    | _ => exact h.elim
  | er x w1 =>
    rw [ea] at h
    refine .inl ⟨wa, Hf, sD, w, hb, hs, ?_⟩
    rw [ea]
    exact h
  | no => rw [ea] at h; exact h.elim

/-! ### zip -/
def seqD : D → Option (Bool × List D)
  | .lst xs => some (false, xs)
  | .tup xs => some (true, xs)
  | _ => none
theorem seqD_rep {v : V} {d : D} {k : Bool} {xs : List D} (r : Rep wa Hf v d) (h : seqD d = some (k, xs)) : ∃ a vs, v = .ref a ∧ Hf a = some (hoK k vs) ∧ Reps wa Hf vs xs := by
  unfold seqD at h
  split at h
  · cases h
    cases r with
    | lst h1 r1 => exact ⟨_, _, rfl, h1, r1⟩
  · cases h
    cases r with
    | tup h1 r1 => exact ⟨_, _, rfl, h1, r1⟩
  · cases h
def zipD (xs ys : List D) : List D := (xs.zip ys).map fun p => .tup [p.1, p.2]
def zip3D (xs ys zs : List D) : List D := (xs.zip (ys.zip zs)).map fun p => .tup [p.1, p.2.1, p.2.2]
theorem walkD_z2 {k1 k2 : Bool} {p q : Addr} {vs us : List V} {ds es : List D} (h1 : Hf p = some (hoK k1 vs)) (h2 : Hf q = some (hoK k2 us)) (r1 : Reps wa Hf vs ds) (r2 : Reps wa Hf us es) : WalkD wa Hf (ItZ2 k1 k2 p q) (zipD ds es) := by
  have l1 := r1.length
  have l2 := r2.length
  refine ⟨fun i H hi x => ⟨vs, us, x _ _ h1, x _ _ h2, ?_, ?_⟩, fun H x => ⟨vs, us, x _ _ h1, x _ _ h2, by simp [zipD]; omega⟩, fun i H Hf1 w y H' d hd x b z => ?_⟩
  · simp [zipD] at hi; omega
  · simp [zipD] at hi; omega
  · obtain ⟨T, u, v, rfl, hT, rfl, q1, q2⟩ := z
    unfold zipD at hd
    rw [List.getElem?_map] at hd
    cases e : (ds.zip es)[i]? with
    | none => rw [e] at hd; cases hd
    | some pr =>
      rw [e] at hd
      cases hd
      rw [List.getElem?_zip_eq_some] at e
      obtain ⟨u1, f1, s1⟩ := (r1.mono x).get e.1
      obtain ⟨u2, f2, s2⟩ := (r2.mono x).get e.2
      have g1 := q1 vs (b.ex _ _ (x _ _ h1))
      have g2 := q2 us (b.ex _ _ (x _ _ h2))
      rw [f1] at g1
      rw [f2] at g2
      cases g1
      cases g2
      have nx := Ex.new (o := HO.tup [u, v]) (Evl.fresh_back b.ex hT)
      exact ⟨_, Go.newF b.ex hT, b.newF hT, .tup upd_same (.cons (s1.mono nx) (.cons (s2.mono nx) .nil))⟩
theorem walkD_z3 {k1 k2 k3 : Bool} {p q o : Addr} {vs us ts : List V} {ds es fs : List D} (h1 : Hf p = some (hoK k1 vs)) (h2 : Hf q = some (hoK k2 us)) (h3 : Hf o = some (hoK k3 ts)) (r1 : Reps wa Hf vs ds) (r2 : Reps wa Hf us es) (r3 : Reps wa Hf ts fs) : WalkD wa Hf (ItZ3 k1 k2 k3 p q o) (zip3D ds es fs) := by
  have l1 := r1.length
  have l2 := r2.length
  have l3 := r3.length
  refine ⟨fun i H hi x => ⟨vs, us, ts, x _ _ h1, x _ _ h2, x _ _ h3, ?_, ?_, ?_⟩, fun H x => ⟨vs, us, ts, x _ _ h1, x _ _ h2, x _ _ h3, by simp [zip3D]; omega⟩, fun i H Hf1 w y H' d hd x b z => ?_⟩
  · simp [zip3D] at hi; omega
  · simp [zip3D] at hi; omega
  · simp [zip3D] at hi; omega
  · obtain ⟨T, u, v, t, rfl, hT, rfl, q1, q2, q3⟩ := z
    unfold zip3D at hd
    rw [List.getElem?_map] at hd
    cases e : (ds.zip (es.zip fs))[i]? with
    | none => rw [e] at hd; cases hd
    | some pr =>
      rw [e] at hd
      cases hd
      rw [List.getElem?_zip_eq_some, List.getElem?_zip_eq_some] at e
      obtain ⟨u1, f1, s1⟩ := (r1.mono x).get e.1
      obtain ⟨u2, f2, s2⟩ := (r2.mono x).get e.2.1
      obtain ⟨u3, f3, s3⟩ := (r3.mono x).get e.2.2
      have g1 := q1 vs (b.ex _ _ (x _ _ h1))
      have g2 := q2 us (b.ex _ _ (x _ _ h2))
      have g3 := q3 ts (b.ex _ _ (x _ _ h3))
      rw [f1] at g1
      rw [f2] at g2
      rw [f3] at g3
      cases g1
      cases g2
      cases g3
      have nx := Ex.new (o := HO.tup [u, v, t]) (Evl.fresh_back b.ex hT)
      exact ⟨_, Go.newF b.ex hT, b.newF hT, .tup upd_same (.cons (s1.mono nx) (.cons (s2.mono nx) (.cons (s3.mono nx) .nil)))⟩
theorem anyI {κ : Type} {t : κ → TI} (h : ∀ k, PI X tg it (t k)) : PI X tg it (fun σ H R => ∃ k, t k σ H R) := ⟨fun pins s σ H R I ⟨k, q⟩ => (h k).run pins s σ H R I q⟩
def iZip (As : DA) : DI := fun s w => (As s w).bind fun xs w1 => match xs with
  | [x, y] => match seqD x, seqD y with
    | some (_, ds), some (_, es) => .ok (zipD ds es) w1
    | _, _ => .no
  | [x, y, z] => match seqD x, seqD y, seqD z with
    | some (_, ds), some (_, es), some (_, fs) => .ok (zip3D ds es fs) w1
    | _, _, _ => .no
  | _ => .no
theorem id_zip2 {As : DA} {p tpos : Pos} {elts : List Expr} {kk : Nat} (hg : Gl X "zip") (hm : X.mg "zip" = none) (ha : PA X [a, b] (lA mg W (aCons A As))) (hl : ∀ s w x w1, (aCons A As s w) = .ok x w1 → x.length = 2)
    (hs : starEach [a, b] X.env = (false, eval a X.env) :: starEach [b] X.env := by rfl) (hpl : (backTo pos (starEach [b] X.env)).any (·.1) = false := by rfl) : PI X (.Tuple elts kk tpos) (.Call (.Name "zip" p) [a, b] [] pos) (lI mg W (iZip (aCons A As))) :=
  weakI (anyI fun k : Bool × Bool => pi_z2 k.1 k.2 hg hm ha hs hpl) fun σ H Q h => by
  obtain ⟨wa, Hf, sD, w, hb, hs, h⟩ := h
  unfold iZip at h
  cases ea : aCons A As sD w with
  | ok ds w1 =>
    rw [ea, R.bind_ok] at h
    have h2 := hl _ _ _ _ ea
    obtain ⟨x, y, rfl⟩ : ∃ x y, ds = [x, y] := by
      match ds, h2 with
      | [x, y], _ => exact ⟨x, y, rfl⟩
    dsimp only at h
    split at h
    · rename_i k1 ds k2 es e1 e2
      refine ⟨(k1, k2), wa, Hf, sD, w, hb, hs, ?_⟩
      rw [ea]
      intro H1 Hf1 g b v rv
      cases rv with
      | cons r1 r2 =>
        cases r2 with
        | cons r2 r3 =>
          cases r3
          obtain ⟨p1, vs, rfl, h1, s1⟩ := seqD_rep r1 e1
          obtain ⟨p2, us, rfl, h2, s2⟩ := seqD_rep r2 e2
          exact ⟨p1, p2, vs, us, rfl, b.ex _ _ h1, b.ex _ _ h2, h H1 Hf1 g b _ (walkD_z2 h1 h2 s1 s2)⟩
    · exact h.elim
  | er x w1 =>
    rw [ea] at h
    refine ⟨(true, true), wa, Hf, sD, w, hb, hs, ?_⟩
    rw [ea]
    exact h
  | no => rw [ea] at h; exact h.elim
theorem id_zip3 {As : DA} {p tpos : Pos} {elts : List Expr} {kk : Nat} (hg : Gl X "zip") (hm : X.mg "zip" = none) (ha : PA X [a, b, c] (lA mg W (aCons A As))) (hl : ∀ s w x w1, (aCons A As s w) = .ok x w1 → x.length = 3)
    (hs : starEach [a, b, c] X.env = (false, eval a X.env) :: starEach [b, c] X.env := by rfl) (hpl : (backTo pos (starEach [b, c] X.env)).any (·.1) = false := by rfl) : PI X (.Tuple elts kk tpos) (.Call (.Name "zip" p) [a, b, c] [] pos) (lI mg W (iZip (aCons A As))) :=
  weakI (anyI fun k : Bool × Bool × Bool => pi_z3 k.1 k.2.1 k.2.2 hg hm ha hs hpl) fun σ H Q h => by
  obtain ⟨wa, Hf, sD, w, hb, hs, h⟩ := h
  unfold iZip at h
  cases ea : aCons A As sD w with
  | ok ds w1 =>
    rw [ea, R.bind_ok] at h
    have h2 := hl _ _ _ _ ea
    obtain ⟨x, y, z, rfl⟩ : ∃ x y z, ds = [x, y, z] := by
      match ds, h2 with
      | [x, y, z], _ => exact ⟨x, y, z, rfl⟩
    dsimp only at h
    split at h
    · rename_i k1 ds k2 es k3 fs e1 e2 e3
      refine ⟨(k1, k2, k3), wa, Hf, sD, w, hb, hs, ?_⟩
      rw [ea]
      intro H1 Hf1 g b v rv
      cases rv with
      | cons r1 r2 =>
        cases r2 with
        | cons r2 r3 =>
          cases r3 with
          | cons r3 r4 =>
            cases r4
            obtain ⟨p1, vs, rfl, h1, s1⟩ := seqD_rep r1 e1
            obtain ⟨p2, us, rfl, h2, s2⟩ := seqD_rep r2 e2
            obtain ⟨p3, ts, rfl, h3, s3⟩ := seqD_rep r3 e3
            exact ⟨p1, p2, p3, vs, us, ts, rfl, b.ex _ _ h1, b.ex _ _ h2, b.ex _ _ h3, h H1 Hf1 g b _ (walkD_z3 h1 h2 h3 s1 s2 s3)⟩
    · exact h.elim
  | er x w1 =>
    rw [ea] at h
    refine ⟨(true, true, true), wa, Hf, sD, w, hb, hs, ?_⟩
    rw [ea]
    exact h
  | no => rw [ea] at h; exact h.elim
/-- an argument list has so many values -/
theorem aNil_len {s : Sl} {w w1 : Wl} {x : List D} (h : aNil s w = .ok x w1) : x.length = 0 := by cases h; rfl
theorem aCons_len {n : Nat} {As : DA} (hr : ∀ s w x w1, As s w = .ok x w1 → x.length = n) : ∀ s w x w1, (aCons A As s w) = .ok x w1 → x.length = n + 1 := fun s w x w1 h => by
  unfold aCons at h
  cases e : A s w with
  | ok d w2 =>
    rw [e, R.bind_ok] at h
    cases e2 : As s w2 with
    | ok ds w3 =>
      rw [e2, R.bind_ok] at h
      cases h
      simp [hr _ _ _ _ e2]
    | er y w3 => rw [e2] at h; cases h
    | no => rw [e2] at h; cases h
  | er y w2 => rw [e] at h; cases h
  | no => rw [e] at h; cases h

/-! ### calls by names -/
def permute {α : Type} (π : List Nat) (xs : List α) : List α := π.filterMap fun i => xs[i]?
theorem permute_reps {vs : List V} {ds : List D} (r : Reps wa Hf vs ds) : ∀ π : List Nat, Reps wa Hf (permute π vs) (permute π ds)
  | [] => .nil
  | i :: π => by
    have ih := permute_reps r π
    unfold permute at ih ⊢
    rw [List.filterMap_cons, List.filterMap_cons]
    cases e : ds[i]? with
    | none =>
      have e2 : vs[i]? = none := by
        rw [List.getElem?_eq_none_iff] at e ⊢
        rw [r.length]; exact e
      rw [e2]
      exact ih
    | some d =>
      obtain ⟨v, e2, r2⟩ := r.get e
      rw [e2]
      exact .cons r2 ih
theorem permute_vals {vs : List V} {us : List Value} (r : Vals vs us) : ∀ π : List Nat, Vals (permute π vs) (permute π us)
  | [] => .nil
  | i :: π => by
    have ih := permute_vals r π
    unfold permute at ih ⊢
    rw [List.filterMap_cons, List.filterMap_cons]
    cases e : vs[i]? with
    | none =>
      rw [r.none_of e]
      exact ih
    | some d =>
      obtain ⟨v, e2, r2⟩ := r.get e
      rw [e2]
      exact .cons r2 ih
/-- how keywords bind: all the n positional values, then those of the names ks, put in order by π -/
def KwB (fd : FuncData) (ps : List Str) (n : Nat) (ks : List Str) (π : List Nat) : Prop := ∀ us ws : List Value, us.length = n → ws.length = ks.length → bindArgs fd ⟨us, ks.zip ws⟩ = pure (ps.zip (permute π (us ++ ws)))
theorem KwB.kbn {K : PySem.W.Frag} {fd : FuncData} {ps ks : List Str} {n : Nat} {π : List Nat} (h : KwB fd ps n ks π) : KBn K fd ps n ks (fun us ws => permute π (us ++ ws)) (fun us ws => permute π (us ++ ws)) :=
  ⟨fun s us ws _ h1 h2 => .of_eq (h us ws h1 h2), fun r1 r2 => permute_vals (r1.append r2) π⟩
def eCallK (m n k : Nat) (π : List Nat) (F : DF) (As Ks : DA) : DE := fun s w => (As s w).bind fun ds w1 => (Ks s w1).bind fun zs w2 => if ds.length = n ∧ zs.length = k ∧ (permute π (ds ++ zs)).length = m then F (permute π (ds ++ zs)) w2 else .no
theorem kd_nil : PK X [] (lA mg W aNil) := ⟨fun pos pins s σ H Q I h => (pk_nil (X := X)).run pos pins s σ H Q I (by
  obtain ⟨wa, Hf, sD, w, hb, hs, h⟩ := h
  exact h.here hb _ .nil)⟩
theorem kd_cons {kws : List Keyword} {nm kpos} {As : DA} (ha : PE X e (lE mg W A)) (hr : PK X kws (lA mg W As)) : PK X (⟨nm, e, kpos⟩ :: kws) (lA mg W (aCons A As)) := ⟨fun pos pins s σ H Q I h => (pk_cons ha hr).run pos pins s σ H Q I (by
  obtain ⟨wa, Hf, sD, w, hb, hs, h⟩ := h
  refine ⟨wa, Hf, sD, w, hb, hs, h.bind.mono (fun x w1 H1 Hf1 g1 b1 q v rv => ?_) (fun _ _ _ _ _ _ q => q)⟩
  refine ⟨wa, Hf1, sD, w1, b1, hs.go g1, q.bind.mono (fun y w2 H2 Hf2 g2 b2 q2 v2 rv2 => ?_) (fun _ _ _ _ _ _ q => q)⟩
  exact q2.here b2 _ (.cons (rv.mono g2.ex) rv2))⟩
/-- f(k = v, ..), no positional values; what is raised goes to the wish -/
theorem run_fnW {k : Nat} {f : Addr} {fd : FuncData} {ps ks : List Str} {n : Nat} {F : DF} {W : WX} {pins : List (Addr × Obj)} {s : Shared} {Q : VK} {us ws : List Value} {vs zs : List V} {π : List Nat} (G : FnD X.prog X.w X.K X.mg X.base k f fd ps F) (hr : Room k X.A) (hb : KwB fd ps n ks π) (hx : Wok X W)
    (I : Inv X pins σ H s) (r : Vals vs us) (rz : Vals zs ws) (l1 : vs.length = n) (l2 : zs.length = ks.length) (h : spD X.mg ps.length F (permute π (vs ++ zs)) H Q (WE W σ)) : wpAny (model X.prog X.w) X.A (call (.ref f) us (ks.zip ws)) (EP X pins σ Q) X.xe s := by
  have r2 := (hb.kbn (K := X.K)).rel r rz
  refine wpAny_call (codeAny_mono (G.run X.A X.stack s H ⟨us, ks.zip ws⟩ (permute π (us ++ ws)) (permute π (vs ++ zs)) Q (WE W σ) hr I.env0 ((hb.kbn (K := X.K)).to s us ws I.kIn (r.length.symm.trans l1) (rz.length.symm.trans l2)) r2 h) fun r s' hq => ?_)
  cases r with
  | error e => exact hx σ pins H s e s' I hq
  | ok fl =>
    cases fl with
    | ret u => exact I.after hq
    | next => exact False.elim hq
    | brk => exact False.elim hq
    | cont => exact False.elim hq
theorem pd_callK0 {k : Nat} {f : Addr} {fd : FuncData} {ps ks : List Str} {F : DF} {W : WX} {x : Str} {p : Pos} {Ks : DA} {kws : List Keyword} {π : List Nat} (G : FnD X.prog X.w X.K X.mg X.base k f fd ps F) (hr : Room k X.A) (hg : Gl X x) (hm : X.mg x = some (.ref f)) (hk : PySem.W.keepIn X.K (.ref f) = true) (hb : KwB fd ps 0 ks π) (hx : Wok X W)
    (hkw : PK X kws (lA X.mg W Ks)) (hall : (backToKw pos (keywordEach kws X.env)).all (·.1.isSome) = true := by rfl) (hks : (backToKw pos (keywordEach kws X.env)).filterMap (·.1) = ks := by rfl) (hdb : (x == ("__debug__" : Str)) = false := by decide)
    (hpl : ((backTo pos (starEach [] X.env)).any (·.1) || (backToKw pos (keywordEach kws X.env)).any (·.1.isNone)) = false := by rfl) :
    PE X (.Call (.Name x p) [] kws pos) (lE X.mg W (eCallK ps.length 0 ks.length π F aNil Ks)) := by
  refine ⟨fun pins s σ H Q I h => ?_⟩
  obtain ⟨wa, Hf, sD, w, hb0, hs, h⟩ := h
  refine wpAny_Call_Name_kw (ld_glob I hg hm ?_ hdb)
  refine PySem.W.callWith_KW0 (h₀ := X.base) I.ok.mod.kin hk hall ?_ hpl
  refine thn (hkw.run pos pins s σ H (fun zs H1 => zs.length = ks.length ∧ spD X.mg ps.length F (permute π ([] ++ zs)) H1 Q (WE W σ)) I ⟨wa, Hf, sD, w, hb0, hs, ?_⟩) fun ws s2 ⟨zs, H2, I2, rz, l2, q2⟩ => ⟨I2.kIn, ?_⟩
  · refine Fin.mono (Fin.bind (r := Ks sD w) (k := fun zs w2 => if ([] : List D).length = 0 ∧ zs.length = ks.length ∧ (permute π ([] ++ zs)).length = ps.length then F (permute π ([] ++ zs)) w2 else .no) h) (fun zs w1 H1 Hf1 g1 b1 q v rv => ?_) (fun _ _ _ _ _ _ q => q)
    split at q
    · rename_i hl
      refine ⟨by rw [rv.length]; exact hl.2.1, wa, Hf1, _, w1, b1, permute_reps (Reps.append .nil rv) π, hl.2.2, q⟩
    · exact q.elim
  · rw [hks]
    exact run_fnW G hr hb hx I2 .nil rz rfl l2 q2
end
end DL

set_option maxHeartbeats 4000000
namespace DL
open PySem PySem.Spec PyProof.Rows L2
open Evl (Ex)
/-! ### values side by side, some of them new lists that a slot will own -/
inductive RepsO (wa : Addr) (Hf H : Hp) : List V → List D → List Addr → Prop
  | nil : RepsO wa Hf H [] [] []
  | val {v : V} {d : D} {vs : List V} {ds : List D} {ps : List Addr} : Rep wa Hf v d → RepsO wa Hf H vs ds ps → RepsO wa Hf H (v :: vs) (d :: ds) ps
  | own {p : Addr} {xs : List V} {es : List D} {vs : List V} {ds : List D} {ps : List Addr} : H p = some (.lst xs) → Hf p = none → p ≠ wa → Reps wa Hf xs es → p ∉ ps → RepsO wa Hf H vs ds ps → RepsO wa Hf H (.ref p :: vs) (.own es :: ds) (p :: ps)
def lM (mg : Str → Option Value) (W : WX) (E : Sl → Wl → R (List D)) : TA := fun σ H Q =>
  ∃ wa Hf sD w, Base wa Hf H w ∧ Slots wa Hf H σ sD ∧ Fin wa Hf H (E sD w) (fun ds _ H' Hf' => ∀ vs ps, RepsO wa Hf' H' vs ds ps → (∀ p ∈ ps, H p = none) → Q vs H') (Er mg W wa σ)
section
variable {X : Cx} {mg : Str → Option Value} {W : WX} {tg it a b c e : Expr} {es : List Expr} {pos : Pos} {σ : L2.St} {H H' H0 : Hp} {wa : Addr} {Hf Hf' : Hp} {A : DE} {As M : DA}
theorem RepsO.length : ∀ {vs : List V} {ds : List D} {ps : List Addr}, RepsO wa Hf H vs ds ps → vs.length = ds.length
  | _, _, _, .nil => rfl
  | _, _, _, .val _ r => by simp [RepsO.length r]
  | _, _, _, .own _ _ _ _ _ r => by simp [RepsO.length r]
theorem RepsO.go (g : Go wa H Hf H' Hf') : ∀ {vs : List V} {ds : List D} {ps : List Addr}, RepsO wa Hf H vs ds ps → RepsO wa Hf' H' vs ds ps
  | _, _, _, .nil => .nil
  | _, _, _, .val h r => .val (h.mono g.ex) (RepsO.go g r)
  | _, _, _, .own h1 h2 h3 h4 h5 r => .own (g.keep _ _ h3 h1) ((g.new _ _ h1).trans h2) h3 (h4.mono g.ex) h5 (RepsO.go g r)
def mVal (A : DE) (As : DA) : DA := fun s w => (A s w).bind fun x w1 => (As s w1).bind fun xs w2 => .ok (x :: xs) w2
def mOwn (A : DA) (As : DA) : DA := fun s w => (A s w).bind fun x w1 => (As s w1).bind fun xs w2 => .ok (.own x :: xs) w2
theorem md_nil : PA X [] (lM mg W aNil) := weakA pa_nil fun σ H Q h => by
  obtain ⟨wa, Hf, sD, w, hb, hs, h⟩ := h
  exact h.here hb _ [] .nil fun _ m => nomatch m
theorem md_val (ha : PE X a (lE mg W A)) (hr : PA X es (lM mg W As)) (hs : starEach (a :: es) X.env = (false, eval a X.env) :: starEach es X.env := by rfl) : PA X (a :: es) (lM mg W (mVal A As)) := weakA (pa_cons ha hr hs) fun σ H Q h => by
  obtain ⟨wa, Hf, sD, w, hb, hs, h⟩ := h
  refine ⟨wa, Hf, sD, w, hb, hs, h.bind.mono (fun x w1 H1 Hf1 g1 b1 q v rv => ?_) (fun _ _ _ _ _ _ q => q)⟩
  refine ⟨wa, Hf1, sD, w1, b1, hs.go g1, q.bind.mono (fun y w2 H2 Hf2 g2 b2 q2 v2 ps rv2 hn => ?_) (fun _ _ _ _ _ _ q => q)⟩
  exact q2.here b2 _ ps (.val (rv.mono g2.ex) rv2) fun p m => g1.free (hn p m)
theorem md_own {B : DA} (ha : PE X a (lfL mg W B)) (hr : PA X es (lM mg W As)) (hs : starEach (a :: es) X.env = (false, eval a X.env) :: starEach es X.env := by rfl) : PA X (a :: es) (lM mg W (mOwn B As)) := weakA (pa_cons ha hr hs) fun σ H Q h => by
  obtain ⟨wa, Hf, sD, w, hb, hs, h⟩ := h
  refine ⟨wa, Hf, sD, w, hb, hs, h.bind.mono (fun x w1 H1 Hf1 g1 b1 q p vs hp e1 e2 e3 rv => ?_) (fun _ _ _ _ _ _ q => q)⟩
  refine ⟨wa, Hf1, sD, w1, b1, hs.go g1, q.bind.mono (fun y w2 H2 Hf2 g2 b2 q2 v2 ps rv2 hn => ?_) (fun _ _ _ _ _ _ q => q)⟩
  have hpp : p ∉ ps := fun m => by
    have := hn p m
    rw [e1] at this
    cases this
  refine q2.here b2 _ (p :: ps) (.own (g2.keep _ _ e3 e1) ((g2.new _ _ e1).trans e2) e3 (rv.mono g2.ex) hpp rv2) fun z m => ?_
  rcases List.mem_cons.mp m with e | m
  · rw [e]; exact hp
  · exact g1.free (hn z m)
/-- into slots, one after another -/
def putS (s : Sl) : List Nat → List D → Option Sl
  | [], [] => some s
  | i :: is, d :: ds => putS (s.set i (some d)) is ds
  | _, _ => none
def putV (σ : L2.St) : List Nat → List V → Option L2.St
  | [], [] => some σ
  | i :: is, v :: vs => putV (σ.set i (some v)) is vs
  | _, _ => none
/-- who owns p already is none of these -/
def Apart (s : Sl) (σ : L2.St) (ps : List Addr) : Prop := ∀ p ∈ ps, ∀ (j : Nat) (ys : List D), s[j]? = some (some (.own ys)) → σ[j]? ≠ some (some (.ref p))
theorem put_ok : ∀ {is : List Nat} {vs : List V} {ds : List D} {ps : List Addr} {σ : L2.St} {s s' : Sl}, RepsO wa Hf H vs ds ps → (∀ p ∈ ps, H0 p = none) → Slots wa Hf H σ s → OwnNew H0 σ s → Apart s σ ps → putS s is ds = some s' →
    ∃ σ', putV σ is vs = some σ' ∧ Slots wa Hf H σ' s' ∧ OwnNew H0 σ' s'
  | [], _, _, _, σ, s, s', .nil, _, hs, ho, _, h => by cases h; exact ⟨σ, rfl, hs, ho⟩
  | i :: is, _, _, _, σ, s, s', .val r rr, hp, hs, ho, ha, h => by
    refine put_ok (is := is) rr hp (hs.set r) (ho.set fun xs z => by subst z; exact rep_own r) (fun p m j ys h1 h2 => ?_) h
    by_cases hj : j = i
    · subst hj
      rw [List.getElem?_set] at h1
      split at h1
      · split at h1
        · cases h1
          exact rep_own r
        · cases h1
      · rename_i hne
        exact absurd rfl hne
    · rw [List.getElem?_set_ne (Ne.symm hj)] at h1 h2
      exact ha p m j ys h1 h2
  | i :: is, _, _, _, σ, s, s', .own (p := p) h1 h2 h3 h4 h5 rr, hp, hs, ho, ha, h => by
    refine put_ok (is := is) rr (fun q m => hp q (List.mem_cons_of_mem _ m)) (hs.setOwn h1 h2 h3 h4 fun j ys k1 => ha p List.mem_cons_self j ys k1) (ho.setOwn hs.len (hp p List.mem_cons_self)) (fun q m j ys k1 k2 => ?_) h
    by_cases hj : j = i
    · subst hj
      rw [List.getElem?_set] at k2
      split at k2
      · split at k2
        · cases k2
          exact h5 m
        · cases k2
      · rename_i hne
        exact absurd rfl hne
    · rw [List.getElem?_set_ne (Ne.symm hj)] at k1 k2
      exact ha q (List.mem_cons_of_mem _ m) j ys k1 k2
  | [], _, _, _, _, _, _, .val _ _, _, _, _, _, h => by cases h
  | [], _, _, _, _, _, _, .own _ _ _ _ _ _, _, _, _, _, h => by cases h
  | _ :: _, _, _, _, _, _, _, .nil, _, _, _, _, h => by cases h
def sMul (is : List Nat) (M : DA) : DS := fun s w => match M s w with
  | .ok ds w1 => match putS s is ds with
    | some s1 => .nx s1 w1
    | none => .no
  | .er x w1 => .er x s w1
  | .no => .no
theorem apart_new {s : Sl} {H1 : Hp} {ps : List Addr} (hs : Slots wa Hf H1 σ s) (hn : ∀ p ∈ ps, H1 p = none) : Apart s σ ps := fun p m j ys h1 h2 => by
  obtain ⟨q, us, k1, k2, _⟩ := hs.own j ys h1
  rw [h2] at k1
  cases k1
  rw [hn p m] at k2
  cases k2
variable {st : Stmt}
/-- a, b = e1, e2: two local names -/
theorem sd_par2 {i j : Nat} (h : PS X st (tPar i j (lM mg W M))) : PS X st (lS mg W (sMul [i, j] M)) := weakS h fun D σ H h => by
  obtain ⟨wa, Hf, sD, w, H0, Hf0, g, b, hs, ho, h⟩ := h
  refine ⟨wa, Hf, sD, w, b, hs, ?_⟩
  unfold sMul at h
  cases e : M sD w with
  | ok ds w1 =>
    rw [e] at h
    dsimp only at h
    intro H1 Hf1 g1 b1 vs ps rv hn
    split at h
    · rename_i s1 hp
      obtain ⟨σ1, e1, hs1, ho1⟩ := put_ok (H0 := H0) rv (fun p m => g.free (hn p m)) (hs.go g1) ho (apart_new hs hn) hp
      match ds, vs, hp, e1 with
      | [x, y], [u, v], hp, e1 =>
        cases e1
        exact ⟨u, v, rfl, h _ H1 Hf1 (g.trans g1) g1.ex b1 hs1 ho1⟩
    · exact h.elim
  | er x w1 =>
    rw [e] at h
    exact fun H1 Hf1 g1 b1 cls dx ev => h σ H1 Hf1 cls dx (g.trans g1) g1.ex b1 (hs.go g1) ho ev
  | no => rw [e] at h; exact h
theorem sd_par3 {i j k : Nat} (h : PS X st (tPar3 i j k (lM mg W M))) : PS X st (lS mg W (sMul [i, j, k] M)) := weakS h fun D σ H h => by
  obtain ⟨wa, Hf, sD, w, H0, Hf0, g, b, hs, ho, h⟩ := h
  refine ⟨wa, Hf, sD, w, b, hs, ?_⟩
  unfold sMul at h
  cases e : M sD w with
  | ok ds w1 =>
    rw [e] at h
    dsimp only at h
    intro H1 Hf1 g1 b1 vs ps rv hn
    split at h
    · rename_i s1 hp
      obtain ⟨σ1, e1, hs1, ho1⟩ := put_ok (H0 := H0) rv (fun p m => g.free (hn p m)) (hs.go g1) ho (apart_new hs hn) hp
      match ds, vs, hp, e1 with
      | [x, y, z], [u, v, t], hp, e1 =>
        cases e1
        exact ⟨u, v, t, rfl, h _ H1 Hf1 (g.trans g1) g1.ex b1 hs1 ho1⟩
    · exact h.elim
  | er x w1 =>
    rw [e] at h
    exact fun H1 Hf1 g1 b1 cls dx ev => h σ H1 Hf1 cls dx (g.trans g1) g1.ex b1 (hs.go g1) ho ev
  | no => rw [e] at h; exact h
/-- names, as targets -/
def gNames : List Nat → TGs
  | [] => gNil
  | i :: is => gCons (gName i) (gNames is)
theorem gNames_of {H : Hp} {Q : L2.St → Hp → Prop} : ∀ {is : List Nat} {vs : List V} {σ σ' : L2.St}, putV σ is vs = some σ' → Q σ' H → gNames is vs σ H Q
  | [], [], _, _, h, q => by cases h; exact ⟨rfl, q⟩
  | i :: is, v :: vs, _, _, h, q => ⟨v, vs, rfl, gNames_of (is := is) h q⟩
  | [], _ :: _, _, _, h, _ => by cases h
  | _ :: _, [], _, _, h, _ => by cases h
/-- a, b, .. = a written tuple -/
theorem sd_multi {is : List Nat} {n : Nat} (h : PS X st (tAsg (tTup (lM mg W M)) (gTup X.K n (gNames is)))) (hn : is.length = n) (hz : n ≤ 1000) : PS X st (lS mg W (sMul is M)) := weakS h fun D σ H h => by
  obtain ⟨wa, Hf, sD, w, H0, Hf0, g, b, hs, ho, h⟩ := h
  refine ⟨wa, Hf, sD, w, b, hs, ?_⟩
  unfold sMul at h
  cases e : M sD w with
  | ok ds w1 =>
    rw [e] at h
    dsimp only at h
    intro H1 Hf1 g1 b1 vs ps rv hnew
    split at h
    · rename_i s1 hp
      obtain ⟨σ1, e1, hs1, ho1⟩ := put_ok (H0 := H0) rv (fun p m => g.free (hnew p m)) (hs.go g1) ho (apart_new hs hnew) hp
      have len : ∀ (is : List Nat) (vs : List V) (σ σ' : L2.St), putV σ is vs = some σ' → vs.length = is.length := by
        intro is
        induction is with
        | nil => intro vs σ σ' h; cases vs with
          | nil => rfl
          | cons _ _ => cases h
        | cons i is ih => intro vs σ σ' h; cases vs with
          | nil => cases h
          | cons v vs => simp [ih _ _ _ h]
      have hvl := len _ _ _ _ e1
      refine ⟨by rw [hvl, hn, sizeLine_eq]; omega, fun t ht => ⟨t, vs, rfl, SqT.of upd_same, by rw [hvl, hn], gNames_of e1 ?_⟩⟩
      exact h _ _ Hf1 ((g.trans g1).trans (Go.new1 ht)) g1.ex (b1.new1 ht) (hs1.go (Go.new1 ht)) ho1
    · exact h.elim
  | er x w1 =>
    rw [e] at h
    exact fun H1 Hf1 g1 b1 cls dx ev => h σ H1 Hf1 cls dx (g.trans g1) g1.ex b1 (hs.go g1) ho ev
  | no => rw [e] at h; exact h
/-- what the proof never comes to -/
def sNever : DS := fun _ _ => .no
theorem sd_never : PS X st (lS mg W sNever) := weakS ps_never fun D σ H h => by
  obtain ⟨wa, Hf, sD, w, H0, Hf0, g, b, hs, ho, h⟩ := h
  exact h
end
theorem Fun.kwb {K : PySem.W.Frag} {x qual : Str} {st : Stmt} {f : Addr} {fd : FuncData} {ps ks : List Str} {n : Nat} {π : List Nat} (F : Fun K x qual st f fd)
    (h : ∀ (kV doc pm : Value) (an : Option Addr) (cdv ct : Value) (us ws : List Value), us.length = n → ws.length = ks.length → bindArgs (PySem.W.fnOf x qual (defArgs st) (defBody st) (defScope st) .none kV doc pm an cdv ct) ⟨us, ks.zip ws⟩ = pure (ps.zip (permute π (us ++ ws)))) : KwB fd ps n ks π := by
  obtain ⟨oc, od, kV, doc, pm, an, cdv, ct, osl, rfl, lk, hcd⟩ := F.ex
  exact fun us ws h1 h2 => h kV doc pm an cdv ct us ws h1 h2
end DL

set_option maxHeartbeats 2000000
namespace DL
open PySem PySem.Spec PyProof.Rows L2
/-! ### what a piece of code comes to, as a plain proposition -/
section
variable {α β : Type} {a : α} {w : Wl} {Q P : α → Wl → Prop} {s : Sl} {A B C : DE} {As Bs : DA} {S T : DT} {f g : Wl → D → D → Option D} {U V : DS} {N N' : Sl → Wl → Prop} {Z Z' : D → Wl → Prop} {i n k : Nat}
def okE (r : R α) (Q : α → Wl → Prop) : Prop := match r with
  | .ok a w => Q a w
  | _ => False
def okO (o : Option α) (P : α → Prop) : Prop := match o with
  | some z => P z
  | none => False
def okB (d : D) (P : Bool → Prop) : Prop := match d with
  | .bl k => P k
  | _ => False
@[simp] theorem okE_ok : okE (.ok a w) Q = Q a w := rfl
@[simp] theorem okE_no : okE (.no) Q = False := rfl
@[simp] theorem okE_er {x : Exn} : okE (.er x w) Q = False := rfl
@[simp] theorem okO_some {P : α → Prop} : okO (some a) P = P a := rfl
@[simp] theorem okO_none {P : α → Prop} : okO none P = False := rfl
@[simp] theorem okB_bl {P : Bool → Prop} {k : Bool} : okB (.bl k) P = P k := rfl
theorem okE_bind {r : R α} {k : α → Wl → R β} {Q : β → Wl → Prop} : okE (r.bind k) Q = okE r (fun a w => okE (k a w) Q) := by cases r <;> rfl
@[simp] theorem okE_noer {r : R α} : okE r.noer Q = okE r Q := by cases r <;> rfl
@[simp] theorem okE_opt {o : Option α} : okE (opt o w) Q = okO o fun z => Q z w := by cases o <;> rfl
@[simp] theorem okE_ite {c : Prop} [Decidable c] {r r' : R α} : okE (if c then r else r') Q = if c then okE r Q else okE r' Q := by split <;> rfl
@[simp] theorem okO_ite {c : Prop} [Decidable c] {o : Option α} {P : α → Prop} : okO (if c then o else none) P = (c ∧ okO o P) := by
  by_cases h : c
  · simp [h]
  · simp [h]
theorem okE_mono {r : R α} (h : okE r P) (i : ∀ a w, P a w → Q a w) : okE r Q := by
  cases r with
  | ok a w => exact i _ _ h
  | er _ _ => exact h
  | no => exact h
theorem okE_eq {r : R α} (h : okE r fun d w' => d = a ∧ w' = w) : r = .ok a w := by
  cases r with
  | ok b v => obtain ⟨rfl, rfl⟩ := h; rfl
  | er _ _ => exact h.elim
  | no => exact h.elim
theorem okE_ex {r : R α} (h : okE r P) : ∃ a w, r = .ok a w ∧ P a w := by
  cases r with
  | ok b v => exact ⟨b, v, rfl, h⟩
  | er _ _ => exact h.elim
  | no => exact h.elim
variable {Q : D → Wl → Prop} {QA : List D → Wl → Prop} {QT : Bool → Wl → Prop}
@[simp] theorem okE_var : okE (eVar i s w) Q = okO (getS s i) fun d => Q d w := by unfold eVar; cases getS s i <;> rfl
@[simp] theorem okE_c {d : D} : okE (eC d s w) Q = Q d w := rfl
@[simp] theorem okE_bin : okE (eBin f A B s w) Q = okE (A s w) fun x w1 => okE (B s w1) fun y w2 => okO (f w2 x y) fun z => Q z w2 := by unfold eBin; simp only [okE_bind, okE_opt]
@[simp] theorem okE_un {f : Wl → D → Option D} : okE (eUn f A s w) Q = okE (A s w) fun x w1 => okO (f w1 x) fun z => Q z w1 := by unfold eUn; simp only [okE_bind, okE_opt]
@[simp] theorem okE_cb {f : Wl → List D → Option D} : okE (eCB f As s w) Q = okE (As s w) fun x w1 => okO (f w1 x) fun z => Q z w1 := by unfold eCB; simp only [okE_bind, okE_opt]
@[simp] theorem okE_cbl {f : Wl → List D → Option (List D)} : okE (eCBL f As s w) QA = okE (As s w) fun x w1 => okO (f w1 x) fun z => QA z w1 := by unfold eCBL; simp only [okE_bind, okE_opt]
@[simp] theorem okE_l : okE (eL As s w) Q = okE (As s w) fun x w1 => Q (.lst x) w1 := by unfold eL; simp only [okE_bind, okE_ok]
@[simp] theorem okE_nil : okE (aNil s w) QA = QA [] w := rfl
@[simp] theorem okE_cons : okE (aCons A As s w) QA = okE (A s w) fun x w1 => okE (As s w1) fun xs w2 => QA (x :: xs) w2 := by unfold aCons; simp only [okE_bind, okE_ok]
@[simp] theorem okE_tup : okE (eTup As s w) Q = okE (As s w) fun xs w1 => xs.length ≤ lim ∧ Q (.tup xs) w1 := by
  unfold eTup; simp only [okE_bind]; congr; funext xs w1; split <;> simp [*]
@[simp] theorem okE_lst : okE (aLst As s w) QA = okE (As s w) fun xs w1 => xs.length ≤ lim ∧ QA xs w1 := by
  unfold aLst; simp only [okE_bind]; congr; funext xs w1; split <;> simp [*]
@[simp] theorem okE_call {F : DF} : okE (eCall n F As s w) Q = okE (As s w) fun ds w1 => ds.length = n ∧ okE (F ds w1) Q := by
  unfold eCall; simp only [okE_bind]; congr; funext xs w1; split <;> simp [*]
@[simp] theorem okE_callK {F : DF} {m : Nat} {π : List Nat} : okE (eCallK m n k π F As Bs s w) Q = okE (As s w) fun ds w1 => okE (Bs s w1) fun zs w2 => (ds.length = n ∧ zs.length = k ∧ (permute π (ds ++ zs)).length = m) ∧ okE (F (permute π (ds ++ zs)) w2) Q := by
  unfold eCallK; simp only [okE_bind]; congr; funext xs w1; congr; funext ys w2; split <;> simp [*]
@[simp] theorem okE_if : okE (eIf T A B s w) Q = okE (T s w) fun k w1 => if k = true then okE (A s w1) Q else okE (B s w1) Q := by
  unfold eIf; simp only [okE_bind]; congr; funext k w1; cases k <;> rfl
@[simp] theorem okE_and : okE (eAnd A B s w) Q = okE (A s w) fun x w1 => okB x fun k => if k = true then okE (B s w1) Q else Q (.bl false) w1 := by
  unfold eAnd; simp only [okE_bind]; congr; funext x w1; cases x <;> try rfl
  rename_i b; cases b <;> rfl
@[simp] theorem okE_or : okE (eOr A B s w) Q = okE (A s w) fun x w1 => okB x fun k => if k = true then Q (.bl true) w1 else okE (B s w1) Q := by
  unfold eOr; simp only [okE_bind]; congr; funext x w1; cases x <;> try rfl
  rename_i b; cases b <;> rfl
@[simp] theorem okE_not : okE (eNot A s w) Q = okE (A s w) fun x w1 => okB x fun k => Q (.bl (!k)) w1 := by
  unfold eNot; simp only [okE_bind]; congr; funext x w1; cases x <;> rfl
@[simp] theorem okE_chain : okE (eChain f g A B C s w) Q = okE (A s w) fun x w1 => okE (B s w1) fun y w2 => okO (f w2 x y) fun z => okB z fun k => if k = true then okE (C s w2) fun u w4 => okO (g w4 y u) fun v => Q v w4 else Q (.bl false) w2 := by
  unfold eChain; simp only [okE_bind, okE_opt]; congr; funext x w1; congr; funext y w2; congr; funext z; cases z <;> try rfl
  rename_i b; cases b
  · rfl
  · simp only [okE_bind, okE_opt]; rfl
@[simp] theorem okT_e : okE (tE A s w) QT = okE (A s w) fun x w1 => okB x fun k => QT k w1 := by
  unfold tE; simp only [okE_bind]; congr; funext x w1; cases x <;> rfl
@[simp] theorem okT_an : okE (tAn S T s w) QT = okE (S s w) fun k w1 => if k = true then okE (T s w1) QT else QT false w1 := by
  unfold tAn; simp only [okE_bind]; congr; funext k w1; cases k <;> rfl
@[simp] theorem okT_on : okE (tOn S T s w) QT = okE (S s w) fun k w1 => if k = true then QT true w1 else okE (T s w1) QT := by
  unfold tOn; simp only [okE_bind]; congr; funext k w1; cases k <;> rfl
@[simp] theorem okT_no : okE (tNo S s w) QT = okE (S s w) fun k w1 => QT (!k) w1 := by unfold tNo; simp only [okE_bind, okE_ok]
@[simp] theorem okT_tr : okE (tTr A s w) QT = okE (A s w) fun x w1 => okO (truD x) fun k => QT k w1 := by unfold tTr; simp only [okE_bind, okE_opt]
@[simp] theorem okT_yes : okE (tYesD s w) QT = QT true w := rfl
@[simp] theorem okE_rev : okE (eRev A s w) Q = okE (A s w) fun x w1 => match x with
    | .lst xs => Q (.lst xs.reverse) w1
    | .tup xs => Q (.tup xs.reverse) w1
    | _ => False := by unfold eRev; simp only [okE_bind]; congr; funext x w1; cases x <;> rfl
@[simp] theorem okI_seq : okE (iSeq A s w) QA = okE (A s w) fun x w1 => okO (seqD x) fun p => QA p.2 w1 := by unfold iSeq; simp only [okE_bind]; congr; funext x w1; cases x <;> rfl
def rng1D : List D → Option (List D)
  | [.int j] => if -4611686018427387904 ≤ j ∧ j < 4611686018427387904 then some (upTo 0 j.toNat) else none
  | _ => none
def rng2D : List D → Option (List D)
  | [.int i, .int j] => if (-4611686018427387904 ≤ i ∧ i < 4611686018427387904) ∧ -4611686018427387904 ≤ j ∧ j < 4611686018427387904 then some (upTo i (j - i).toNat) else none
  | _ => none
def enm1D : List D → Option (List D)
  | [.lst ds] => some (enumD ds)
  | _ => none
def zip2D : List D → Option (List D)
  | [x, y] => (seqD x).bind fun p => (seqD y).bind fun q => some (zipD p.2 q.2)
  | [x, y, z] => (seqD x).bind fun p => (seqD y).bind fun q => (seqD z).bind fun r => some (zip3D p.2 q.2 r.2)
  | _ => none
@[simp] theorem okI_rng1 : okE (iRng1 As s w) QA = okE (As s w) fun xs w1 => okO (rng1D xs) fun ds => QA ds w1 := by
  unfold iRng1; simp only [okE_bind]; congr; funext xs w1
  rcases xs with _ | ⟨x, _ | ⟨y, xs⟩⟩ <;> try rfl
  · cases x <;> try rfl
    simp only [rng1D, okE_ite, okO_ite, okE_ok, okE_no, okO_some]
    split <;> simp [*]
  · cases x <;> rfl
@[simp] theorem okI_rng2 : okE (iRng2 As s w) QA = okE (As s w) fun xs w1 => okO (rng2D xs) fun ds => QA ds w1 := by
  unfold iRng2; simp only [okE_bind]; congr; funext xs w1
  rcases xs with _ | ⟨x, _ | ⟨y, _ | ⟨z, xs⟩⟩⟩ <;> try rfl
  · cases x <;> rfl
  · cases x <;> try rfl
    cases y <;> try rfl
    simp only [rng2D, okE_ite, okO_ite, okE_ok, okE_no, okO_some]
    split <;> simp [*]
  · cases x <;> try rfl
    cases y <;> rfl
@[simp] theorem okI_enum : okE (iEnum As s w) QA = okE (As s w) fun xs w1 => okO (enm1D xs) fun ds => QA ds w1 := by
  unfold iEnum; simp only [okE_bind]; congr; funext xs w1
  rcases xs with _ | ⟨x, _ | ⟨y, xs⟩⟩ <;> try rfl
  · cases x <;> rfl
  · cases x <;> rfl
@[simp] theorem okI_zip : okE (iZip As s w) QA = okE (As s w) fun xs w1 => okO (zip2D xs) fun ds => QA ds w1 := by
  unfold iZip; simp only [okE_bind]; congr; funext xs w1
  rcases xs with _ | ⟨x, _ | ⟨y, _ | ⟨z, _ | ⟨u, xs⟩⟩⟩⟩ <;> try rfl
  · show okE (match seqD x, seqD y with | some (_, ds), some (_, es) => R.ok (zipD ds es) w1 | _, _ => R.no) QA = okO ((seqD x).bind fun p => (seqD y).bind fun q => some (zipD p.2 q.2)) _
    cases seqD x <;> cases seqD y <;> rfl
  · show okE (match seqD x, seqD y, seqD z with | some (_, ds), some (_, es), some (_, fs) => R.ok (zip3D ds es fs) w1 | _, _, _ => R.no) QA = okO ((seqD x).bind fun p => (seqD y).bind fun q => (seqD z).bind fun r => some (zip3D p.2 q.2 r.2)) _
    cases seqD x <;> cases seqD y <;> cases seqD z <;> rfl
@[simp] theorem okE_lc {I : DI} {G : DG} {vs : List Nat} : okE (aLc I G T A vs s w) QA = okE (I s w) fun ds w1 => ds.length ≤ lim ∧ okE (lcD G T A ds (wipeS s vs) w1) QA := by
  unfold aLc; simp only [okE_bind]; congr; funext xs w1; split <;> simp [*]
/-! statements -/
def okS (r : RS) (N : Sl → Wl → Prop) (Z : D → Wl → Prop) : Prop := match r with
  | .nx s w => N s w
  | .rt d w => Z d w
  | _ => False
@[simp] theorem okS_nx : okS (.nx s w) N Z = N s w := rfl
@[simp] theorem okS_rt {d : D} : okS (.rt d w) N Z = Z d w := rfl
@[simp] theorem okS_no : okS .no N Z = False := rfl
@[simp] theorem okS_sNx : okS (sNx s w) N Z = N s w := rfl
@[simp] theorem okS_never : okS (sNever s w) N Z = False := rfl
@[simp] theorem okS_seq : okS (sSeq U V s w) N Z = okS (U s w) (fun s1 w1 => okS (V s1 w1) N Z) Z := by unfold sSeq; cases U s w <;> rfl
@[simp] theorem okS_asg : okS (sAsg i A s w) N Z = okE (A s w) fun d w1 => N (s.set i (some d)) w1 := by unfold sAsg; cases A s w <;> rfl
@[simp] theorem okS_new : okS (sNew i As s w) N Z = okE (As s w) fun d w1 => N (s.set i (some (.own d))) w1 := by unfold sNew; cases As s w <;> rfl
@[simp] theorem okS_tg {G : DG} : okS (sTg G A s w) N Z = okE (A s w) fun d w1 => okO (G d s) fun s1 => N s1 w1 := by
  unfold sTg
  cases A s w with
  | ok d w1 => simp only [okE_ok]; cases G d s <;> rfl
  | er _ _ => rfl
  | no => rfl
@[simp] theorem okS_drop : okS (sDrop A s w) N Z = okE (A s w) fun _ w1 => N s w1 := by unfold sDrop; cases A s w <;> rfl
@[simp] theorem okS_if : okS (sIf T U V s w) N Z = okE (T s w) fun k w1 => if k = true then okS (U s w1) N Z else okS (V s w1) N Z := by
  unfold sIf
  cases T s w with
  | ok k w1 => cases k <;> rfl
  | er _ _ => rfl
  | no => rfl
@[simp] theorem okS_ret : okS (sRet A s w) N Z = okE (A s w) Z := by unfold sRet; cases A s w <;> rfl
def okOwn (o : Option (Option D)) (P : List D → Prop) : Prop := match o with
  | some (some (.own xs)) => P xs
  | _ => False
@[simp] theorem okOwn_own {xs : List D} {P : List D → Prop} : okOwn (some (some (.own xs))) P = P xs := rfl
@[simp] theorem okS_app : okS (sApp i A s w) N Z = okOwn s[i]? fun xs => okE (A s w) fun d w1 => xs.length < lim ∧ N (s.set i (some (.own (xs ++ [d])))) w1 := by
  unfold sApp
  cases h : s[i]? with
  | none => rfl
  | some o =>
    cases o with
    | none => rfl
    | some d =>
      cases d <;> try rfl
      rename_i xs
      simp only [okOwn_own]
      cases A s w with
      | ok d w1 => simp only [okE_ok]; split <;> simp [*]
      | er _ _ => rfl
      | no => rfl
@[simp] theorem okS_frz : okS (sFrz i U s w) N Z = okS (U (frzS i s) w) N Z := rfl
@[simp] theorem okS_setW : okS (sSetW A B C s w) N Z = okE (C s w) fun d w1 => okE (A s w1) fun x w2 => okE (B s w2) fun k w3 => match d, x, k with
    | .int z, .well, .int k => okO (setW w3 k z) fun w4 => N s w4
    | _, _, _ => False := by
  unfold sSetW
  cases C s w with
  | er _ _ => rfl
  | no => rfl
  | ok d w1 =>
    simp only [R.bind_ok, okE_ok]
    cases A s w1 with
    | er _ _ => rfl
    | no => rfl
    | ok x w2 =>
      simp only [R.bind_ok, okE_ok]
      cases B s w2 with
      | er _ _ => rfl
      | no => rfl
      | ok k w3 =>
        simp only [R.bind_ok, okE_ok]
        cases d <;> try rfl
        cases x <;> try rfl
        cases k <;> try rfl
        rename_i z k
        cases h : setW w3 k z <;> simp [h] <;> rfl
@[simp] theorem okE_mval : okE (mVal A As s w) QA = okE (A s w) fun x w1 => okE (As s w1) fun xs w2 => QA (x :: xs) w2 := by unfold mVal; simp only [okE_bind, okE_ok]
@[simp] theorem okE_mown : okE (mOwn Bs As s w) QA = okE (Bs s w) fun x w1 => okE (As s w1) fun xs w2 => QA (.own x :: xs) w2 := by unfold mOwn; simp only [okE_bind, okE_ok]
@[simp] theorem okS_mul {is : List Nat} : okS (sMul is As s w) N Z = okE (As s w) fun ds w1 => okO (putS s is ds) fun s1 => N s1 w1 := by
  unfold sMul
  cases As s w with
  | ok d w1 => simp only [okE_ok]; cases putS s is d <;> rfl
  | er _ _ => rfl
  | no => rfl
@[simp] theorem okS_for {I : DI} {G : DG} : okS (sFor I G U s w) N Z = okE (I s w) fun ds w1 => okS (loopD G U ds s w1) N Z := by unfold sFor; cases I s w <;> rfl
theorem okS_mono {r : RS} (h : okS r N Z) (i : ∀ s w, N s w → N' s w) (j : ∀ d w, Z d w → Z' d w) : okS r N' Z' := by
  cases r with
  | nx s w => exact i _ _ h
  | rt d w => exact j _ _ h
  | _ => exact h
theorem okE_run {B : DS} {ds : List D} : okE (runB n k B ds w) Q = (ds.length = k ∧ okS (B (ds.map some ++ List.replicate (n - k) none) w) (fun _ w1 => Q .non w1) Q) := by
  unfold runB
  by_cases h : ds.length = k
  · rw [if_pos h]
    simp only [h, true_and]
    cases B (ds.map some ++ List.replicate (n - k) none) w <;> rfl
  · rw [if_neg h]
    simp [h]
/-- a comprehension, element by element -/
theorem lc_map {γ : Type} {G : DG} (g f : γ → D) (p : γ → Bool) {s : Sl} {w : Wl} : ∀ {xs : List γ}, (∀ x ∈ xs, okO (G (g x) s) fun s1 => T s1 w = .ok (p x) w ∧ (p x = true → A s1 w = .ok (f x) w)) → lcD G T A (xs.map g) s w = .ok ((xs.filter p).map f) w
  | [], _ => rfl
  | x :: xs, h => by
    have h1 := h x List.mem_cons_self
    have ih := lc_map g f p (xs := xs) fun y hy => h y (List.mem_cons_of_mem _ hy)
    rw [List.map_cons]
    unfold lcD
    cases e : G (g x) s with
    | none => rw [e] at h1; exact h1.elim
    | some s1 =>
      rw [e] at h1
      obtain ⟨h2, h3⟩ := h1
      simp only [h2, R.noer_ok, R.bind_ok]
      by_cases hp : p x = true
      · rw [if_pos hp, h3 hp, List.filter_cons_of_pos hp]
        simp [ih]
      · rw [if_neg hp, List.filter_cons_of_neg hp]
        exact ih
/-- .. no condition -/
theorem lc_all {γ : Type} {G : DG} (g f : γ → D) {s : Sl} {w : Wl} {xs : List γ} (h : ∀ x ∈ xs, okO (G (g x) s) fun s1 => okE (A s1 w) fun d w1 => d = f x ∧ w1 = w) : lcD G tYesD A (xs.map g) s w = .ok (xs.map f) w := by
  have := lc_map (T := tYesD) (A := A) (G := G) g f (fun _ => true) (s := s) (w := w) (xs := xs) fun x hx => by
    have h1 := h x hx
    cases e : G (g x) s with
    | none => rw [e] at h1; exact h1.elim
    | some s1 =>
      rw [e] at h1
      exact ⟨rfl, fun _ => okE_eq h1⟩
  rw [List.filter_eq_self.mpr (by simp)] at this
  exact this
theorem okE_lcall {γ : Type} {G : DG} (g f : γ → D) {s : Sl} {w : Wl} {xs : List γ} {Q : List D → Wl → Prop} (h : ∀ x ∈ xs, okO (G (g x) s) fun s1 => okE (A s1 w) fun d w1 => d = f x ∧ w1 = w) (q : Q (xs.map f) w) : okE (lcD G tYesD A (xs.map g) s w) Q := by
  rw [lc_all g f h]
  exact q
/-- a loop by its invariant -/
theorem okS_loop {G : DG} (I : Nat → Sl → Wl → Prop) : ∀ {ds : List D} {s : Sl} {w : Wl} (m : Nat), I m s w → (∀ i d s w, ds[i]? = some d → I (m + i) s w → okO (G d s) fun s1 => okS (U s1 w) (I (m + i + 1)) Z) → (∀ s w, I (m + ds.length) s w → N s w) → okS (loopD G U ds s w) N Z
  | [], s, w, m, h0, _, he => he s w h0
  | d :: ds, s, w, m, h0, hs, he => by
    have h1 := hs 0 d s w rfl h0
    unfold loopD
    cases e : G d s with
    | none => rw [e] at h1; exact h1.elim
    | some s1 =>
      rw [e] at h1
      simp only [okO_some] at h1
      dsimp only
      cases e2 : U s1 w with
      | nx s2 w2 =>
        rw [e2] at h1
        exact okS_loop I (m + 1) h1 (fun i d' s' w' hd hI => by
          have := hs (i + 1) d' s' w' (by simpa using hd) (by rw [show m + (i + 1) = m + 1 + i by omega]; exact hI)
          rw [show m + (i + 1) + 1 = m + 1 + i + 1 by omega] at this
          exact this) (fun s' w' hI => he s' w' (by rw [List.length_cons, show m + (ds.length + 1) = m + 1 + ds.length by omega]; exact hI))
      | rt d' w2 => rw [e2] at h1; exact h1
      | bk _ _ => rw [e2] at h1; exact h1.elim
      | ct _ _ => rw [e2] at h1; exact h1.elim
      | er _ _ _ => rw [e2] at h1; exact h1.elim
      | no => rw [e2] at h1; exact h1.elim
theorem okS_loop0 {G : DG} (I : Nat → Sl → Wl → Prop) {ds : List D} {s : Sl} {w : Wl} (h0 : I 0 s w) (hs : ∀ i d s w, ds[i]? = some d → I i s w → okO (G d s) fun s1 => okS (U s1 w) (I (i + 1)) Z) (he : ∀ s w, I ds.length s w → N s w) : okS (loopD G U ds s w) N Z :=
  okS_loop I 0 h0 (fun i d s w hd hI => by
    rw [Nat.zero_add] at hI ⊢
    exact hs i d s w hd hI) (fun s w hI => he s w (by rw [Nat.zero_add] at hI; exact hI))
end
end DL

set_option maxHeartbeats 2000000
namespace DL
open PySem PySem.Spec PyProof.Rows L2
/-! ### what the operations make of plain values -/
section
variable {w : Wl} {i j k n m : Nat} {a b : Int} {xs ys : List D} {s : Sl} {d x y : D} {P : D → Prop} {PA : List D → Prop} {PS : Sl → Prop}
@[simp] theorem v_add : fAdd w (.int a) (.int b) = some (.int (a + b)) := rfl
@[simp] theorem v_addT : okO (fAdd w (.tup xs) (.tup ys)) P = (xs.length + ys.length ≤ lim ∧ P (.tup (xs ++ ys))) := by unfold fAdd; simp
@[simp] theorem v_addL : okO (fAdd w (.lst xs) (.lst ys)) P = (xs.length + ys.length ≤ lim ∧ P (.lst (xs ++ ys))) := by unfold fAdd; simp
@[simp] theorem v_sub : fSub w (.int a) (.int b) = some (.int (a - b)) := rfl
@[simp] theorem v_mul : okO (fMul w (.int a) (.int b)) P = (mulOk a b ∧ P (.int (a * b))) := by unfold fMul; simp
@[simp] theorem v_div : okO (fDiv w (.int a) (.int b)) P = (divOk b ∧ P (.int (a.fdiv b))) := by unfold fDiv; simp
@[simp] theorem v_mod : okO (fMod w (.int a) (.int b)) P = (b ≠ 0 ∧ P (.int (a.fmod b))) := by unfold fMod; by_cases h : b = 0 <;> simp [h]
@[simp] theorem v_pow : okO (fPow w (.int a) (.int b)) P = ((0 ≤ b ∧ b ≤ 1000000 ∧ a.natAbs < 18446744073709551616) ∧ P (.int (a ^ b.toNat))) := by unfold fPow; simp
@[simp] theorem v_neg : fNeg w (.int a) = some (.int (-a)) := rfl
@[simp] theorem v_cmp {p : Int → Int → Bool} : fCmp p w (.int a) (.int b) = some (.bl (p a b)) := rfl
@[simp] theorem v_eq : okO (fEq w x y) P = ((okD x && okD y) = true ∧ P (.bl (eqD x y))) := by unfold fEq; simp
@[simp] theorem v_ne : okO (fNe w x y) P = ((okD x && okD y) = true ∧ P (.bl (!eqD x y))) := by unfold fNe; simp
@[simp] theorem v_lenL : fLen w [.lst xs] = some (.int xs.length) := rfl
@[simp] theorem v_lenT : fLen w [.tup xs] = some (.int xs.length) := rfl
@[simp] theorem v_max : fMax2 w [.int a, .int b] = some (.int (if b > a then b else a)) := rfl
@[simp] theorem v_min : fMin2 w [.int a, .int b] = some (.int (if b < a then b else a)) := rfl
@[simp] theorem v_abs : fAbs w [.int a] = some (.int (if a < 0 then -a else a)) := rfl
@[simp] theorem v_int : fInt w [.int a] = some (.int a) := rfl
@[simp] theorem v_intB {c : Bool} : fInt w [.bl c] = some (.int (if c then 1 else 0)) := rfl
@[simp] theorem v_sum {α : Type} {f : α → Int} {l : List α} : fSum w [.lst (l.map fun x => .int (f x))] = some (.int (l.map f).sum) := by
  have : l.map (fun x => D.int (f x)) = (l.map f).map D.int := by simp
  show ((ints? (l.map fun x => D.int (f x))).map fun ns => D.int ns.sum) = _
  rw [this, ints?_map]
  rfl
@[simp] theorem v_all {α : Type} {f : α → Bool} {l : List α} : fAll w [.lst (l.map fun x => .bl (f x))] = some (.bl (l.all f)) := by
  have : l.map (fun x => D.bl (f x)) = (l.map f).map D.bl := by simp
  show ((bls? (l.map fun x => D.bl (f x))).map fun ns => D.bl (ns.all id)) = _
  rw [this, bls?_map]
  simp
@[simp] theorem v_any {α : Type} {f : α → Bool} {l : List α} : fAny w [.lst (l.map fun x => .bl (f x))] = some (.bl (l.any f)) := by
  have : l.map (fun x => D.bl (f x)) = (l.map f).map D.bl := by simp
  show ((bls? (l.map fun x => D.bl (f x))).map fun ns => D.bl (ns.any id)) = _
  rw [this, bls?_map]
  simp
@[simp] theorem v_tupL : fTuple w [.lst xs] = some (.tup xs) := rfl
@[simp] theorem v_tupT : fTuple w [.tup xs] = some (.tup xs) := rfl
@[simp] theorem v_lstL : fList w [.lst xs] = some xs := rfl
@[simp] theorem v_lstT : fList w [.tup xs] = some xs := rfl
@[simp] theorem v_isi1 : fIsi w [.int a, .ty "int"] = some (.bl true) := rfl
@[simp] theorem v_isi2 : fIsi w [.int a, .ty "bool"] = some (.bl false) := rfl
@[simp] theorem v_isi3 : fIsi w [.int a, .ty "tuple"] = some (.bl false) := rfl
@[simp] theorem v_isi4 : fIsi w [.int a, .ty "list"] = some (.bl false) := rfl
@[simp] theorem v_isi5 : fIsi w [.tup xs, .ty "int"] = some (.bl false) := rfl
@[simp] theorem v_isi6 : fIsi w [.tup xs, .ty "tuple"] = some (.bl true) := rfl
@[simp] theorem v_isi7 : fIsi w [.tup xs, .ty "list"] = some (.bl false) := rfl
@[simp] theorem v_isi8 : fIsi w [.lst xs, .ty "int"] = some (.bl false) := rfl
@[simp] theorem v_isi9 : fIsi w [.lst xs, .ty "tuple"] = some (.bl false) := rfl
@[simp] theorem v_isi10 : fIsi w [.lst xs, .ty "list"] = some (.bl true) := rfl
@[simp] theorem v_truB {c : Bool} : truD (.bl c) = some c := rfl
@[simp] theorem v_truI : truD (.int a) = some (a != 0) := rfl
@[simp] theorem v_truL : truD (.lst xs) = some (!xs.isEmpty) := rfl
@[simp] theorem v_truT : truD (.tup xs) = some (!xs.isEmpty) := rfl
@[simp] theorem v_gN : gN i d s = some (s.set i (some d)) := rfl
@[simp] theorem v_gNil : gNil' [] s = some s := rfl
@[simp] theorem v_gCons {G : DG} {Gs : List D → Sl → Option Sl} : okO (gCons' G Gs (d :: xs) s) PS = okO (G d s) fun s1 => okO (Gs xs s1) PS := by
  show okO ((G d s).bind fun s1 => Gs xs s1) PS = _
  cases G d s <;> rfl
@[simp] theorem v_gT {Gs : List D → Sl → Option Sl} : okO (gT Gs n (.tup xs) s) PS = (xs.length = n ∧ okO (Gs xs s) PS) := by
  show okO (if xs.length = n then Gs xs s else none) PS = _
  simp
@[simp] theorem v_ixL : fIx w (.lst xs) (.int a) = atI xs a := rfl
@[simp] theorem v_ixT : fIx w (.tup xs) (.int a) = atI xs a := rfl
@[simp] theorem v_ix0 : fIx w .well (.int 0) = some (.int w.1) := rfl
@[simp] theorem v_ix1 : fIx w .well (.int 1) = some (.int w.2.1) := rfl
@[simp] theorem v_ix2 : fIx w .well (.int 2) = some (.int w.2.2) := rfl
@[simp] theorem v_set0 : setW w 0 a = some (a, w.2.1, w.2.2) := rfl
@[simp] theorem v_set1 : setW w 1 a = some (w.1, a, w.2.2) := rfl
@[simp] theorem v_set2 : setW w 2 a = some (w.1, w.2.1, a) := rfl
theorem getS_eq : getS s i = match s[i]? with
  | some (some (.own _)) => none
  | some (some d) => some d
  | _ => none := rfl
@[simp] theorem getS_succ {o : Option D} : getS (o :: s) (i + 1) = getS s i := rfl
@[simp] theorem getS_int : getS (some (.int a) :: s) 0 = some (.int a) := rfl
@[simp] theorem getS_bl {c : Bool} : getS (some (.bl c) :: s) 0 = some (.bl c) := rfl
@[simp] theorem getS_str {c : Str} : getS (some (.str c) :: s) 0 = some (.str c) := rfl
@[simp] theorem getS_non : getS (some .non :: s) 0 = some .non := rfl
@[simp] theorem getS_lst : getS (some (.lst xs) :: s) 0 = some (.lst xs) := rfl
@[simp] theorem getS_tup : getS (some (.tup xs) :: s) 0 = some (.tup xs) := rfl
@[simp] theorem getS_well : getS (some .well :: s) 0 = some .well := rfl
@[simp] theorem wipeS_nil : wipeS s [] = s := rfl
@[simp] theorem wipeS_cons {vs : List Nat} : wipeS s (i :: vs) = (wipeS s vs).set i none := rfl
@[simp] theorem frzS_zero : frzS 0 (some (.own xs) :: s) = some (.lst xs) :: s := rfl
@[simp] theorem frzS_lst : frzS 0 (some (.lst xs) :: s) = some (.lst xs) :: s := rfl
@[simp] theorem frzS_tup : frzS 0 (some (.tup xs) :: s) = some (.tup xs) :: s := rfl
@[simp] theorem frzS_succ {o : Option D} : frzS (i + 1) (o :: s) = o :: frzS i s := by
  unfold frzS
  rw [List.getElem?_cons_succ]
  cases s[i]? with
  | none => rfl
  | some q =>
    cases q with
    | none => rfl
    | some d => cases d <;> rfl
@[simp] theorem seqD_lst : seqD (.lst xs) = some (false, xs) := rfl
@[simp] theorem seqD_tup : seqD (.tup xs) = some (true, xs) := rfl
@[simp] theorem putS_nil : putS s [] [] = some s := rfl
@[simp] theorem putS_cons {is : List Nat} : putS s (i :: is) (d :: xs) = putS (s.set i (some d)) is xs := rfl
@[simp] theorem rng1_int : okO (rng1D [.int a]) PA = ((-4611686018427387904 ≤ a ∧ a < 4611686018427387904) ∧ PA (upTo 0 a.toNat)) := by unfold rng1D; simp
@[simp] theorem rng2_int : okO (rng2D [.int a, .int b]) PA = (((-4611686018427387904 ≤ a ∧ a < 4611686018427387904) ∧ -4611686018427387904 ≤ b ∧ b < 4611686018427387904) ∧ PA (upTo a (b - a).toNat)) := by unfold rng2D; simp
@[simp] theorem enm1_lst : enm1D [.lst xs] = some (enumD xs) := rfl
theorem zip2_two {p q : Bool} (h1 : seqD x = some (p, xs)) (h2 : seqD y = some (q, ys)) : zip2D [x, y] = some (zipD xs ys) := by simp [zip2D, h1, h2]
@[simp] theorem zip2_tt : zip2D [.tup xs, .tup ys] = some (zipD xs ys) := rfl
@[simp] theorem zip2_tl : zip2D [.tup xs, .lst ys] = some (zipD xs ys) := rfl
@[simp] theorem zip2_lt : zip2D [.lst xs, .tup ys] = some (zipD xs ys) := rfl
@[simp] theorem zip2_ll : zip2D [.lst xs, .lst ys] = some (zipD xs ys) := rfl
@[simp] theorem zip3_ttl {zs : List D} : zip2D [.tup xs, .tup ys, .lst zs] = some (zip3D xs ys zs) := rfl
theorem mulOk_of {a b : Int} {i j : Nat} (ha : a.natAbs < 2 ^ i) (hb : b.natAbs < 2 ^ j) (hi : 0 < i) (hj : 0 < j) (h : i + j ≤ 1000000) : mulOk a b := by
  have x := PySem.Flt.log2_lt_of hi ha
  have y := PySem.Flt.log2_lt_of hj hb
  unfold mulOk
  omega
theorem divOk_of {b : Int} (h0 : b ≠ 0) (hb : b.natAbs < 2 ^ 9000) : divOk b := ⟨h0, PySem.Flt.log2_lt_of (by decide) hb⟩
/-- two lists by one of pairs -/
theorem zipD_map {α : Type} {f g : α → D} {l : List α} : zipD (l.map f) (l.map g) = l.map fun x => .tup [f x, g x] := by
  unfold zipD
  rw [List.zip_map', List.map_map]
  rfl
theorem zipD_maps {α β : Type} {f : α → D} {g : β → D} {l : List α} {m : List β} : zipD (l.map f) (m.map g) = (l.zip m).map fun x => .tup [f x.1, g x.2] := by
  unfold zipD
  rw [List.zip_map, List.map_map]
  rfl
theorem zip3D_maps {α β γ : Type} {f : α → D} {g : β → D} {h : γ → D} {l : List α} {m : List β} {n : List γ} : zip3D (l.map f) (m.map g) (n.map h) = (l.zip (m.zip n)).map fun x => .tup [f x.1, g x.2.1, h x.2.2] := by
  unfold zip3D
  rw [List.zip_map, List.zip_map, List.map_map]
  rfl
theorem zip3D_map {α : Type} {f g h : α → D} {l : List α} : zip3D (l.map f) (l.map g) (l.map h) = l.map fun x => .tup [f x, g x, h x] := by
  unfold zip3D
  rw [List.zip_map', List.zip_map', List.map_map]
  rfl
end
end DL

set_option maxHeartbeats 2000000
namespace DL
open PySem PySem.Spec PyProof.Rows L2
open Evl (Ex)
/-! ### in, index, sorted, max and min of a list, break, continue -/
theorem units65 {k : Nat} {A : Around} (r : Room k A) : A.units + 65 < cLine := by have := r.un; omega
/-- is an integer among integers -/
def hasI (i : Int) (ns : List Int) : Bool := ns.any fun j => decide (j = i)
def fInG (neg : Bool) : Wl → D → D → Option D := fun _ x y => match y with
  | .lst ds => if okD x && okD (.lst ds) then some (.bl (if neg then !ds.any fun d => eqD d x else ds.any fun d => eqD d x)) else none
  | .tup ds => match x, ints? ds with
    | .int i, some ns => some (.bl (if neg then !hasI i ns else hasI i ns))
    | _, _ => none
  | _ => none
abbrev fIn := fInG false
abbrev fNin := fInG true
theorem toPDs_map (ds : List D) : toPDs ds = ds.map toPD := by
  induction ds with
  | nil => rfl
  | cons d r ih => rw [List.map_cons, ← ih]; rfl
theorem anyPD (x : D) (ds : List D) : ((toPDs ds).any fun z => PyData.eqv z (toPD x)) = ds.any fun d => eqD d x := by
  rw [toPDs_map, List.any_map]
  rfl
theorem inV_ints (i : Int) (ns : List Int) : inV (.int i) (ns.map V.int) = hasI i ns := by
  unfold inV hasI
  rw [List.any_map]
  congr 1
theorem flat_ints (ns : List Int) : (ns.map V.int).all flatV = true := by
  rw [List.all_map]
  exact List.all_eq_true.mpr fun _ _ => rfl
theorem opd_in {K : PySem.W.Frag} : OpD (fun x y H Q => rInD K x y H Q ∨ rIn K false x y H Q) fIn := by
  intro wa Hf H w x y u v z Q hb ru rv h q
  unfold fIn fInG at h
  split at h
  · split at h
    · rename_i ds hc
      rw [Bool.and_eq_true] at hc
      cases h
      refine .inl ⟨_, _, ru.dp hb (shaped_lay hc.1), rv.dp hb (shaped_lay hc.2), hc.1, hc.2, ?_⟩
      rw [anyPD]
      exact q _ _ Go.refl hb _ (.bl _)
    · cases h
  · rename_i ds
    split at h
    · rename_i i ns e
      cases h
      cases ru
      cases rv with
      | tup h1 r1 =>
        rw [ints?_some e] at r1
        have e2 := r1.ints
        subst e2
        refine .inr ⟨_, _, rfl, .inr (SqT.of (hb.ex _ _ h1)), rfl, flat_ints _, ?_⟩
        rw [inV_ints]
        exact q _ _ Go.refl hb _ (.bl _)
    · cases h
  · cases h
theorem opd_nin {K : PySem.W.Frag} : OpD (fun x y H Q => rNotInD K x y H Q ∨ rIn K true x y H Q) fNin := by
  intro wa Hf H w x y u v z Q hb ru rv h q
  unfold fNin fInG at h
  split at h
  · split at h
    · rename_i ds hc
      rw [Bool.and_eq_true] at hc
      cases h
      refine .inl ⟨_, _, ru.dp hb (shaped_lay hc.1), rv.dp hb (shaped_lay hc.2), hc.1, hc.2, ?_⟩
      rw [anyPD]
      exact q _ _ Go.refl hb _ (.bl _)
    · cases h
  · rename_i ds
    split at h
    · rename_i i ns e
      cases h
      cases ru
      cases rv with
      | tup h1 r1 =>
        rw [ints?_some e] at r1
        have e2 := r1.ints
        subst e2
        refine .inr ⟨_, _, rfl, .inr (SqT.of (hb.ex _ _ h1)), rfl, flat_ints _, ?_⟩
        rw [inV_ints]
        exact q _ _ Go.refl hb _ (.bl _)
    · cases h
  · cases h
section
variable {X : Cx} {mg : Str → Option Value} {W : WX} {a b : Expr} {pos : Pos} {A B : DE}
theorem pd_in (hu : X.A.units + 65 < cLine) (ha : PE X a (lE mg W A)) (hb : PE X b (lE mg W B)) (hm : behindInMarks .In b = false := by first | rfl | exact nomark _) : PE X (.Compare a [.In] [b] pos) (lE mg W (eBin fIn A B)) := pd_cmp ((op_inD hu).or op_in_seq) opd_in ha hb hm
theorem pd_nin (hu : X.A.units + 65 < cLine) (ha : PE X a (lE mg W A)) (hb : PE X b (lE mg W B)) (hm : behindInMarks .NotIn b = false := by first | rfl | exact nomark _) : PE X (.Compare a [.NotIn] [b] pos) (lE mg W (eBin fNin A B)) := pd_cmp ((op_notInD hu).or op_notIn_seq) opd_nin ha hb hm
theorem qd_in (hu : X.A.units + 65 < cLine) (ha : PE X a (lE mg W A)) (hb : PE X b (lE mg W B)) (hm : behindInMarks .In b = false := by first | rfl | exact nomark _) : PT X (.Compare a [.In] [b] pos) (lT mg W (tE (eBin fIn A B))) := qd_cmp ((op_inD hu).or op_in_seq) opd_in ha hb hm
theorem qd_nin (hu : X.A.units + 65 < cLine) (ha : PE X a (lE mg W A)) (hb : PE X b (lE mg W B)) (hm : behindInMarks .NotIn b = false := by first | rfl | exact nomark _) : PT X (.Compare a [.NotIn] [b] pos) (lT mg W (tE (eBin fNin A B))) := qd_cmp ((op_notInD hu).or op_notIn_seq) opd_nin ha hb hm
end
/-! sorted, max, min -/
def sortI (ns : List Int) : List Int := ns.mergeSort fun a b => decide (a ≤ b)
theorem sortI_perm (ns : List Int) : (sortI ns).Perm ns := List.mergeSort_perm _ _
theorem sortI_le (ns : List Int) : (sortI ns).Pairwise (· ≤ ·) := by
  have := List.pairwise_mergeSort (le := fun a b : Int => decide (a ≤ b)) (fun a b c h1 h2 => by simp at *; omega) (fun a b => by simp; omega) ns
  exact this.imp fun h => of_decide_eq_true h
theorem sorted_unique : ∀ {xs ys : List Int}, xs.Perm ys → xs.Pairwise (· ≤ ·) → ys.Pairwise (· ≤ ·) → xs = ys := fun p h1 h2 => p.eq_of_pairwise (fun a b _ _ h3 h4 => Int.le_antisymm h3 h4) h1 h2
def fSorted : Wl → List D → Option (List D) := fun _ ds => match ds with
  | [.lst xs] => (ints? xs).map fun ns => (sortI ns).map .int
  | _ => none
theorem cl_sorted {K : PySem.W.Frag} : CaL (rSortedI K) fSorted := by
  intro wa Hf H w ds us zs Q hb rs h q
  unfold fSorted at h
  split at h
  · rename_i xs
    cases e : ints? xs with
    | none => rw [e] at h; cases h
    | some ns =>
      rw [e] at h
      cases h
      obtain ⟨a, vs, rfl, h1, r1⟩ := one_lst rs
      rw [ints?_some e] at r1
      have e2 := r1.ints
      subst e2
      refine ⟨a, ns, rfl, SqL.of (hb.ex _ _ h1), fun ns' p hp hs hn => ?_⟩
      have e3 : ns' = sortI ns := sorted_unique (hp.trans (sortI_perm ns).symm) hs (sortI_le ns)
      subst e3
      exact newL hb Reps.of_ints q p hn
  · cases h
def maxI : List Int → Option Int
  | [] => none
  | i :: r => some (r.foldl max i)
def minI : List Int → Option Int
  | [] => none
  | i :: r => some (r.foldl min i)
theorem foldl_max_le : ∀ (r : List Int) (i : Int), i ≤ r.foldl max i ∧ (∀ y ∈ r, y ≤ r.foldl max i) ∧ (r.foldl max i = i ∨ r.foldl max i ∈ r)
  | [], i => ⟨Int.le_refl _, by simp, .inl rfl⟩
  | j :: r, i => by
    obtain ⟨h1, h2, h3⟩ := foldl_max_le r (max i j)
    refine ⟨?_, ?_, ?_⟩
    · simp only [List.foldl_cons]; omega
    · intro y hy
      simp only [List.foldl_cons]
      rcases List.mem_cons.mp hy with rfl | hy
      · omega
      · exact h2 y hy
    · simp only [List.foldl_cons, List.mem_cons]
      rcases h3 with h3 | h3
      · omega
      · exact .inr (.inr h3)
theorem foldl_min_le : ∀ (r : List Int) (i : Int), r.foldl min i ≤ i ∧ (∀ y ∈ r, r.foldl min i ≤ y) ∧ (r.foldl min i = i ∨ r.foldl min i ∈ r)
  | [], i => ⟨Int.le_refl _, by simp, .inl rfl⟩
  | j :: r, i => by
    obtain ⟨h1, h2, h3⟩ := foldl_min_le r (min i j)
    refine ⟨?_, ?_, ?_⟩
    · simp only [List.foldl_cons]; omega
    · intro y hy
      simp only [List.foldl_cons]
      rcases List.mem_cons.mp hy with rfl | hy
      · omega
      · exact h2 y hy
    · simp only [List.foldl_cons, List.mem_cons]
      rcases h3 with h3 | h3
      · omega
      · exact .inr (.inr h3)
theorem maxI_of {ns : List Int} {m : Int} (h : maxI ns = some m) : m ∈ ns ∧ ∀ y ∈ ns, y ≤ m := by
  cases ns with
  | nil => cases h
  | cons i r =>
    cases h
    obtain ⟨h1, h2, h3⟩ := foldl_max_le r i
    refine ⟨?_, fun y hy => ?_⟩
    · rcases h3 with h3 | h3
      · rw [h3]; exact List.mem_cons_self
      · exact List.mem_cons_of_mem _ h3
    · rcases List.mem_cons.mp hy with rfl | hy
      · exact h1
      · exact h2 y hy
theorem minI_of {ns : List Int} {m : Int} (h : minI ns = some m) : m ∈ ns ∧ ∀ y ∈ ns, m ≤ y := by
  cases ns with
  | nil => cases h
  | cons i r =>
    cases h
    obtain ⟨h1, h2, h3⟩ := foldl_min_le r i
    refine ⟨?_, fun y hy => ?_⟩
    · rcases h3 with h3 | h3
      · rw [h3]; exact List.mem_cons_self
      · exact List.mem_cons_of_mem _ h3
    · rcases List.mem_cons.mp hy with rfl | hy
      · exact h1
      · exact h2 y hy
def fMaxL : Wl → List D → Option D := fun _ ds => match ds with
  | [.lst xs] => (ints? xs).bind fun ns => (maxI ns).map .int
  | _ => none
def fMinL : Wl → List D → Option D := fun _ ds => match ds with
  | [.lst xs] => (ints? xs).bind fun ns => (minI ns).map .int
  | _ => none
theorem cd_maxL {K : PySem.W.Frag} : CaD (rMax K) fMaxL := by
  intro wa Hf H w ds us z Q hb rs h q
  unfold fMaxL at h
  split at h
  · rename_i xs
    cases e : ints? xs with
    | none => rw [e] at h; cases h
    | some ns =>
      rw [e, Option.bind_some] at h
      cases e1 : maxI ns with
      | none => rw [e1] at h; cases h
      | some m =>
        rw [e1] at h
        cases h
        obtain ⟨a, vs, rfl, h1, r1⟩ := one_lst rs
        rw [ints?_some e] at r1
        have e2 := r1.ints
        subst e2
        obtain ⟨g1, g2⟩ := maxI_of e1
        refine ⟨a, ns, rfl, SqL.of (hb.ex _ _ h1), List.length_pos_of_mem g1, fun m' h3 h4 => ?_⟩
        have : m' = m := Int.le_antisymm (g2 m' h3) (h4 m g1)
        subst this
        exact q _ _ Go.refl hb _ (.int _)
  · cases h
theorem cd_minL {K : PySem.W.Frag} : CaD (rMin K) fMinL := by
  intro wa Hf H w ds us z Q hb rs h q
  unfold fMinL at h
  split at h
  · rename_i xs
    cases e : ints? xs with
    | none => rw [e] at h; cases h
    | some ns =>
      rw [e, Option.bind_some] at h
      cases e1 : minI ns with
      | none => rw [e1] at h; cases h
      | some m =>
        rw [e1] at h
        cases h
        obtain ⟨a, vs, rfl, h1, r1⟩ := one_lst rs
        rw [ints?_some e] at r1
        have e2 := r1.ints
        subst e2
        obtain ⟨g1, g2⟩ := minI_of e1
        refine ⟨a, ns, rfl, SqL.of (hb.ex _ _ h1), List.length_pos_of_mem g1, fun m' h3 h4 => ?_⟩
        have : m' = m := Int.le_antisymm (h4 m g1) (g2 m' h3)
        subst this
        exact q _ _ Go.refl hb _ (.int _)
  · cases h
/-! xs.index(y) -/
def idxD (ds : List D) (y : D) : Option D := if okD y && okD (.lst ds) then (ds.findIdx? fun d => eqD d y).map fun j => .int (j : Nat) else none
def eIdx (A B : DE) : DE := fun s w => (A s w).bind fun x w1 => match x with
  | .lst ds => (B s w1).bind fun y w2 => opt (idxD ds y) w2
  | _ => .no
section
variable {X : Cx} {mg : Str → Option Value} {W : WX} {o e : Expr} {apos cpos : Pos} {A B : DE}
theorem pd_index (hu : X.A.units + 65 < cLine) (ha : PE X o (lE mg W A)) (hb : PE X e (lE mg W B))
    (hbase : attributeBase o "index" X.env (eval o X.env) = eval o X.env := by rfl)
    (hfew : ((backTo cpos (starEach (e :: []) X.env)).all (fun x => !x.1) && (backToKw cpos (keywordEach [] X.env)).all (fun x => x.1.isSome)
      && decide ((e :: []).length + ([] : List Keyword).length + (if ([] : List Keyword).isEmpty then 0 else 1) < 30)) = true := by rfl)
    (hline : (apos.endLine == cpos.line) = true := by rfl) (hs : starEach (e :: []) X.env = (false, eval e X.env) :: starEach [] X.env := by rfl) (hplain : (backTo cpos (starEach [] X.env)).any (·.1) = false := by rfl) :
    PE X (.Call (.Attribute o "index" apos) [e] [] cpos) (lE mg W (eIdx A B)) := weakE (pe_bm PySem.F.plainAttrs_list PySem.F.slot_list_index PySem.F.type_list_index (mt_indexD hu) ha (pa_cons hb pa_nil hs) hbase hfew hline hs hplain) fun σ H Q h => by
  obtain ⟨wa, Hf, sD, w, hb, hs, h⟩ := h
  refine ⟨wa, Hf, sD, w, hb, hs, h.bind.mono (fun x w1 H1 Hf1 g1 b1 q v rv => ?_) (fun _ _ _ _ _ _ q => q)⟩
  have hx : ∃ xs, x = .lst xs := by
    cases x with
    | lst xs => exact ⟨xs, rfl⟩
    | _ => exact q.elim
  obtain ⟨ds, rfl⟩ := hx
  cases rv with
  | lst h1 r1 =>
    refine ⟨.inl ⟨rfl, _, SqL.of (b1.ex _ _ h1)⟩, wa, Hf1, sD, w1, b1, hs.go g1, q.bind.mono (fun y w2 H2 Hf2 g2 b2 q2 v2 rv2 => ?_) (fun _ _ _ _ _ _ q => q)⟩
    unfold idxD at q2
    split at q2
    · rename_i hc
      rw [Bool.and_eq_true] at hc
      cases e1 : ds.findIdx? (fun d => eqD d y) with
      | none => rw [e1] at q2; exact q2.elim
      | some j =>
        rw [e1] at q2
        obtain ⟨hj, h3, h4⟩ := List.findIdx?_eq_some_iff_getElem.mp e1
        have hl := (Rep.lst h1 r1).mono g2.ex
        refine ⟨_, v2, toPD y, toPDs ds, j, toPD ds[j], rfl, rfl, hl.dp b2 (shaped_lay hc.2), rv2.dp b2 (shaped_lay hc.1), hc.2, hc.1, ?_, h3, fun m z' hm hz => ?_, q2 H2 Hf2 Go.refl b2 _ (.int _)⟩
        · rw [toPDs_map, List.getElem?_map, List.getElem?_eq_getElem hj]; rfl
        · rw [toPDs_map, List.getElem?_map, List.getElem?_eq_getElem (by omega)] at hz
          cases hz
          have := h4 m hm
          exact (Bool.not_eq_true _).mp this
    · exact q2.elim
theorem pl_cb {es : List Expr} {a : Expr} {As : DA} {x : Str} {id : String} {r : List V → Hp → VK → Prop} {f : Wl → List D → Option (List D)} {p : Pos} {pos : Pos} (hc : CallR X (.builtin id) r) (hf : CaL r f) (hg : Gl X x) (hm : X.mg x = none) (hv : bootBuiltins x = some (.builtin id)) (ha : PA X (a :: es) (lA mg W As)) (hn : x ≠ "__name__" := by decide) (hdb : (x == ("__debug__" : Str)) = false := by decide)
    (he : starEach (a :: es) X.env = (false, eval a X.env) :: starEach es X.env := by rfl) (hpl : (backTo pos (starEach es X.env)).any (·.1) = false := by rfl) : PE X (.Call (.Name x p) (a :: es) [] pos) (lfL mg W (eCBL f As)) :=
  weakE (pe_callB hc hg hm hv ha hn hdb he hpl) fun _ _ _ q => cbL_ok hf q
end
/-! break, continue -/
section
variable {X : Cx} {mg : Str → Option Value} {W : WX} {pos : Pos}
def sBrk : DS := fun s w => .bk s w
def sCnt : DS := fun s w => .ct s w
theorem sd_brk : PS X (.Break pos) (lS mg W sBrk) := weakS ps_break fun D σ H h => by
  obtain ⟨wa, Hf, sD, w, H0, Hf0, g, b, hs, ho, h⟩ := h
  exact h σ H Hf g (Ex.refl _) b hs ho
theorem sd_cnt : PS X (.Continue pos) (lS mg W sCnt) := weakS ps_continue fun D σ H h => by
  obtain ⟨wa, Hf, sD, w, H0, Hf0, g, b, hs, ho, h⟩ := h
  exact h σ H Hf g (Ex.refl _) b hs ho
end
end DL

set_option maxHeartbeats 2000000
namespace DL
open PySem PySem.Spec PyProof.Rows L2
/-! ### in, index, sorted, divmod, while by value -/
section
variable {w : Wl} {i j k n m : Nat} {a b : Int} {xs ys : List D} {s : Sl} {d x y : D} {P : D → Prop} {A B C : DE} {Q : D → Wl → Prop} {U V : DS} {N : Sl → Wl → Prop} {Z : D → Wl → Prop} {T : DT}
@[simp] theorem v_divmod : okO (fDivmod w [.int a, .int b]) P = (divOk b ∧ P (.tup [.int (a.fdiv b), .int (a.fmod b)])) := by
  show okO (if divOk b then some _ else none) P = _
  simp
@[simp] theorem v_inL : okO (fInG false w x (.lst xs)) P = ((okD x && okD (.lst xs)) = true ∧ P (.bl (xs.any fun d => eqD d x))) := by
  show okO (if _ then some _ else none) P = _
  simp
@[simp] theorem v_ninL : okO (fInG true w x (.lst xs)) P = ((okD x && okD (.lst xs)) = true ∧ P (.bl (!xs.any fun d => eqD d x))) := by
  show okO (if _ then some _ else none) P = _
  simp
theorem v_inT {ns : List Int} : fInG false w (.int a) (.tup (ns.map .int)) = some (.bl (hasI a ns)) := by
  unfold fInG
  simp
theorem v_ninT {ns : List Int} : fInG true w (.int a) (.tup (ns.map .int)) = some (.bl (!hasI a ns)) := by
  unfold fInG
  simp
@[simp] theorem okE_idx : okE (eIdx A B s w) Q = okE (A s w) fun x w1 => match x with
    | .lst ds => okE (B s w1) fun y w2 => okO (idxD ds y) fun z => Q z w2
    | _ => False := by
  unfold eIdx
  simp only [okE_bind]
  congr
  funext x w1
  cases x <;> try rfl
  simp only [okE_bind, okE_opt]
@[simp] theorem v_sorted {ns : List Int} : fSorted w [.lst (ns.map .int)] = some ((sortI ns).map .int) := by
  unfold fSorted
  simp
@[simp] theorem v_maxL {ns : List Int} : fMaxL w [.lst (ns.map .int)] = (maxI ns).map .int := by
  unfold fMaxL
  simp
@[simp] theorem v_minL {ns : List Int} : fMinL w [.lst (ns.map .int)] = (minI ns).map .int := by
  unfold fMinL
  simp
/-- a while loop: I k: at most k turns are left -/
theorem okS_while (I : Nat → Sl → Wl → Prop) : ∀ (n k : Nat) {s : Sl} {w : Wl}, k < n → I k s w → (∀ k s w, I k s w → okE (T s w) fun c w1 => if c = true then ∃ j, k = j + 1 ∧ okS (U s w1) (I j) Z else N s w1) → okS (whileD T U n s w) N Z
  | 0, k, s, w, hk, _, _ => by omega
  | n + 1, k, s, w, hk, h, hs => by
    have h1 := hs k s w h
    unfold whileD
    cases e : T s w with
    | no => rw [e] at h1; exact h1
    | er x w1 => rw [e] at h1; exact h1
    | ok c w1 =>
      rw [e] at h1
      simp only [okE_ok] at h1
      cases c with
      | false => exact h1
      | true =>
        rw [if_pos rfl] at h1
        obtain ⟨j, rfl, h2⟩ := h1
        dsimp only
        cases e2 : U s w1 with
        | nx s2 w2 => rw [e2] at h2; exact okS_while I n j (by omega) h2 hs
        | rt d w2 => rw [e2] at h2; exact h2
        | bk _ _ => rw [e2] at h2; exact h2.elim
        | ct _ _ => rw [e2] at h2; exact h2.elim
        | er _ _ _ => rw [e2] at h2; exact h2.elim
        | no => rw [e2] at h2; exact h2.elim
end
@[simp] theorem atI_0 {α : Type} {x : α} {r : List α} : atI (x :: r) 0 = some x := atI_nat (j := 0) rfl
@[simp] theorem atI_1 {α : Type} {x y : α} {r : List α} : atI (x :: y :: r) 1 = some y := atI_nat (j := 1) rfl
@[simp] theorem atI_2 {α : Type} {x y z : α} {r : List α} : atI (x :: y :: z :: r) 2 = some z := atI_nat (j := 2) rfl
/-! ### equality of plain values -/
@[simp] theorem okD_int {a : Int} : okD (.int a) = true := rfl
@[simp] theorem okD_non : okD .non = true := rfl
@[simp] theorem eqD_int {a b : Int} : eqD (.int a) (.int b) = decide (a = b) := by
  show (PyData.eqv (.int a) (.int b)) = _
  unfold PyData.eqv
  rfl
@[simp] theorem eqD_non : eqD .non .non = true := by
  show (PyData.eqv .none .none) = _
  unfold PyData.eqv
  rfl
@[simp] theorem eqD_ni {a : Int} : eqD .non (.int a) = false := by
  show (PyData.eqv .none (.int a)) = _
  unfold PyData.eqv
  rfl
@[simp] theorem eqD_in {a : Int} : eqD (.int a) .non = false := by
  show (PyData.eqv (.int a) .none) = _
  unfold PyData.eqv
  rfl
/-- tuples of ints -/
def eD (xs : List Int) : D := .tup (xs.map .int)
theorem toPDs_ints : ∀ xs : List Int, toPDs (xs.map D.int) = xs.map PyData.int
  | [] => by simp [toPDs]
  | x :: xs => by simp [toPDs, toPD, toPDs_ints xs]
theorem lay_ints : ∀ xs : List Int, PyData.canLayAll0 (xs.map PyData.int) = true ∧ PyData.depthAll (xs.map PyData.int) = 0
  | [] => by simp [PyData.canLayAll0, PyData.depthAll]
  | x :: xs => by
    have := lay_ints xs
    simp [PyData.canLayAll0, PyData.depthAll, PyData.canLay0, PyData.depth, this]
@[simp] theorem okD_ints {xs : List Int} : okD (eD xs) = true := by
  have := lay_ints xs
  simp [okD, eD, toPD, toPDs_ints, SeqAt.shaped, PyData.canLay0, PyData.depth, this]
@[simp] theorem okD_lints {xs : List Int} : okD (.lst (xs.map .int)) = true := by
  have := lay_ints xs
  simp [okD, toPD, toPDs_ints, SeqAt.shaped, PyData.canLay0, PyData.depth, this]
theorem eqvAll_ints : ∀ xs ys : List Int, PyData.eqvAll (xs.map PyData.int) (ys.map PyData.int) = decide (xs = ys)
  | [], [] => by simp [PyData.eqvAll]
  | [], y :: ys => by simp [PyData.eqvAll]
  | x :: xs, [] => by simp [PyData.eqvAll]
  | x :: xs, y :: ys => by
    have := eqvAll_ints xs ys
    have e : PyData.eqv (.int x) (.int y) = decide (x = y) := by unfold PyData.eqv; rfl
    simp [PyData.eqvAll, e, this]
@[simp] theorem eqD_ints {xs ys : List Int} : eqD (eD xs) (eD ys) = decide (xs = ys) := by
  show PyData.eqv (toPD (eD xs)) (toPD (eD ys)) = _
  simp only [eD, toPD, toPDs_ints]
  rw [show PyData.eqv (.tuple (xs.map PyData.int)) (.tuple (ys.map PyData.int)) = PyData.eqvAll (xs.map PyData.int) (ys.map PyData.int) by unfold PyData.eqv; rfl]
  exact eqvAll_ints xs ys
@[simp] theorem eqD_lints {xs ys : List Int} : eqD (.lst (xs.map .int)) (.lst (ys.map .int)) = decide (xs = ys) := by
  show PyData.eqv (toPD (.lst (xs.map .int))) (toPD (.lst (ys.map .int))) = _
  simp only [toPD, toPDs_ints]
  rw [show PyData.eqv (.list (xs.map PyData.int)) (.list (ys.map PyData.int)) = PyData.eqvAll (xs.map PyData.int) (ys.map PyData.int) by unfold PyData.eqv; rfl]
  exact eqvAll_ints xs ys
theorem any_ints {a : Int} {xs : List Int} : ((xs.map D.int).any fun d => eqD d (.int a)) = hasI a xs := by
  rw [List.any_map]
  unfold hasI
  congr 1
theorem hasI_iff {a : Int} {xs : List Int} : hasI a xs = true ↔ a ∈ xs := by
  unfold hasI
  simp
theorem idx_ints {a : Int} {xs : List Int} : idxD (xs.map .int) (.int a) = (xs.findIdx? fun b => decide (b = a)).map fun j => .int (j : Nat) := by
  unfold idxD
  simp only [okD_int, okD_lints, Bool.and_self, if_true, List.findIdx?_map]
  congr 2
/-! ### sizes of numbers -/
theorem nat_lt_pow {a : Int} {k : Nat} (h0 : 0 ≤ a) (h : a ≤ 2 ^ k) : a.natAbs < 2 ^ (k + 1) := by
  have e : (a.natAbs : Int) = a := Int.natAbs_of_nonneg h0
  have : (a.natAbs : Int) ≤ ((2 ^ k : Nat) : Int) := by rw [e]; simpa using h
  have h2 : a.natAbs ≤ 2 ^ k := by exact_mod_cast this
  have h3 : 2 ^ k < 2 ^ (k + 1) := Nat.pow_lt_pow_right (by decide) (by omega)
  omega
/-- below two to the k, either way -/
def Bt (k : Nat) (a : Int) : Prop := a.natAbs < 2 ^ k
theorem Bt.mono {i j : Nat} {a : Int} (h : Bt i a) (hij : i ≤ j) : Bt j a := Nat.lt_of_lt_of_le h (Nat.pow_le_pow_right (by decide) hij)
theorem bt_mul {i j : Nat} {a b : Int} (ha : Bt i a) (hb : Bt j b) : Bt (i + j) (a * b) := by
  unfold Bt at *
  rw [Int.natAbs_mul, Nat.pow_add]
  exact Nat.mul_lt_mul'' ha hb
theorem bt_add {i : Nat} {a b : Int} (ha : Bt i a) (hb : Bt i b) : Bt (i + 1) (a + b) := by
  unfold Bt at *
  rw [Nat.pow_succ]
  omega
theorem bt_neg {i : Nat} {a : Int} (ha : Bt i a) : Bt i (-a) := by
  unfold Bt at *
  omega
theorem bt_sub {i : Nat} {a b : Int} (ha : Bt i a) (hb : Bt i b) : Bt (i + 1) (a - b) := by
  unfold Bt at *
  rw [Nat.pow_succ]
  omega
theorem bt_of {i : Nat} {a : Int} (h1 : -(2 ^ i : Int) < a) (h2 : a < 2 ^ i) : Bt i a := by
  unfold Bt
  have : ((2 ^ i : Nat) : Int) = (2 : Int) ^ i := by simp
  omega
theorem bt_iff {i : Nat} {a : Int} : Bt i a ↔ -(2 ^ i : Int) < a ∧ a < 2 ^ i := by
  unfold Bt
  have : ((2 ^ i : Nat) : Int) = (2 : Int) ^ i := by simp
  omega
theorem mul_bt {i j : Nat} {a b : Int} (ha : Bt i a) (hb : Bt j b) (h : i + j ≤ 900000) : mulOk a b :=
  mulOk_of (i := i + 1) (j := j + 1) (Bt.mono ha (by omega)) (Bt.mono hb (by omega)) (by omega) (by omega) (by omega)
theorem div_bt {i : Nat} {b : Int} (h0 : b ≠ 0) (hb : Bt i b) (h : i ≤ 9000) : divOk b := divOk_of h0 (Bt.mono hb h)
theorem fmod_range {a n : Int} (h : 0 < n) : 0 ≤ a.fmod n ∧ a.fmod n < n := by
  rw [Int.fmod_eq_emod_of_nonneg _ (by omega)]
  exact ⟨Int.emod_nonneg _ (by omega), Int.emod_lt_of_pos _ h⟩
theorem fdiv_range {a n : Int} (h : 0 < n) (h0 : 0 ≤ a) : 0 ≤ a.fdiv n ∧ a.fdiv n ≤ a := by
  rw [Int.fdiv_eq_ediv_of_nonneg _ (by omega)]
  exact ⟨Int.ediv_nonneg h0 (by omega), Int.ediv_le_self _ h0⟩
theorem atI_of {α : Type} {l : List α} {k : Int} (h0 : 0 ≤ k) (h1 : k < l.length) : ∃ x, atI l k = some x ∧ x ∈ l := by
  obtain ⟨j, rfl⟩ := Int.eq_ofNat_of_zero_le h0
  have hj : j < l.length := by omega
  exact ⟨l[j], atI_nat (by simp [hj]), by simp⟩
theorem lim7 {n : Nat} (h : n ≤ 1000000) : n ≤ lim := Nat.le_trans h (by decide)
end DL

set_option maxHeartbeats 2000000
namespace DL
open PySem PySem.Spec PyProof.Rows L2
open Evl (Ex)

/-! ### the text -/
def topS (i : Nat) : Stmt := PySem.Challenge.pw_sectionwise_k03_whole_elements_that_trip.main.body.getD i (.Pass ⟨0, 0, 0, 0⟩)
abbrev s_is_number : Stmt := topS 6
abbrev s_is_far : Stmt := topS 7
abbrev s_is_triplet : Stmt := topS 8
abbrev s_many_of : Stmt := topS 9
abbrev s_subscript_of : Stmt := topS 10
abbrev s_last_of : Stmt := topS 11
abbrev s_subscripts : Stmt := topS 12
abbrev s_index_of : Stmt := topS 13
abbrev s_has : Stmt := topS 14
abbrev s_covers : Stmt := topS 15
abbrev s_upward : Stmt := topS 18
abbrev s_normal_of : Stmt := topS 16
abbrev s_divisor_and_factor : Stmt := topS 19
abbrev s_met_of : Stmt := topS 17
abbrev s_check_triplet : Stmt := topS 21
abbrev s_check_two : Stmt := topS 22
abbrev s_met : Stmt := topS 23
abbrev s_lies_in : Stmt := topS 24
abbrev s_w_draw : Stmt := topS 27
abbrev s_w_pick : Stmt := topS 28
abbrev s_w_members : Stmt := topS 29
abbrev s_w_near : Stmt := topS 30
abbrev s_w_shown : Stmt := topS 31
abbrev s_w_count : Stmt := topS 33
abbrev s_w_near_right : Stmt := topS 34
abbrev s_w_far_trio : Stmt := topS 35
abbrev s_w_found : Stmt := topS 36
abbrev s_w_far_right : Stmt := topS 37
abbrev s_w_well : Stmt := topS 26
abbrev s_law : Stmt := topS 38
abbrev N_is_number : List Str := ["value"]
abbrev P_is_number : List Str := ["value"]
theorem sc_is_number : FnScope N_is_number P_is_number (defScope s_is_number) := ⟨rfl, rfl, rfl, by decide +kernel, rfl, by decide +kernel, by decide +kernel⟩
abbrev N_is_far : List Str := ["value"]
abbrev P_is_far : List Str := ["value"]
theorem sc_is_far : FnScope N_is_far P_is_far (defScope s_is_far) := ⟨rfl, rfl, rfl, by decide +kernel, rfl, by decide +kernel, by decide +kernel⟩
abbrev N_is_triplet : List Str := ["value", "number"]
abbrev P_is_triplet : List Str := ["value"]
theorem sc_is_triplet : FnScope N_is_triplet P_is_triplet (defScope s_is_triplet) := ⟨rfl, rfl, rfl, by decide +kernel, rfl, by decide +kernel, by decide +kernel⟩
abbrev N_many_of : List Str := ["part", "first", "last", "step"]
abbrev P_many_of : List Str := ["part"]
theorem sc_many_of : FnScope N_many_of P_many_of (defScope s_many_of) := ⟨rfl, rfl, rfl, by decide +kernel, rfl, by decide +kernel, by decide +kernel⟩
abbrev N_subscript_of : List Str := ["part", "index"]
abbrev P_subscript_of : List Str := ["part", "index"]
theorem sc_subscript_of : FnScope N_subscript_of P_subscript_of (defScope s_subscript_of) := ⟨rfl, rfl, rfl, by decide +kernel, rfl, by decide +kernel, by decide +kernel⟩
abbrev N_last_of : List Str := ["part"]
abbrev P_last_of : List Str := ["part"]
theorem sc_last_of : FnScope N_last_of P_last_of (defScope s_last_of) := ⟨rfl, rfl, rfl, by decide +kernel, rfl, by decide +kernel, by decide +kernel⟩
abbrev N_subscripts : List Str := ["part", "index"]
abbrev P_subscripts : List Str := ["part"]
theorem sc_subscripts : FnScope N_subscripts P_subscripts (defScope s_subscripts) := ⟨rfl, rfl, rfl, by decide +kernel, rfl, by decide +kernel, by decide +kernel⟩
abbrev N_index_of : List Str := ["triplet", "number", "index", "rest"]
abbrev P_index_of : List Str := ["triplet", "number"]
theorem sc_index_of : FnScope N_index_of P_index_of (defScope s_index_of) := ⟨rfl, rfl, rfl, by decide +kernel, rfl, by decide +kernel, by decide +kernel⟩
abbrev N_has : List Str := ["part", "number"]
abbrev P_has : List Str := ["part", "number"]
theorem sc_has : FnScope N_has P_has (defScope s_has) := ⟨rfl, rfl, rfl, by decide +kernel, rfl, by decide +kernel, by decide +kernel⟩
abbrev N_covers : List Str := ["part", "other", "many", "marks", "number"]
abbrev P_covers : List Str := ["part", "other"]
theorem sc_covers : FnScope N_covers P_covers (defScope s_covers) := ⟨rfl, rfl, rfl, by decide +kernel, rfl, by decide +kernel, by decide +kernel⟩
abbrev N_upward : List Str := ["triplet"]
abbrev P_upward : List Str := ["triplet"]
theorem sc_upward : FnScope N_upward P_upward (defScope s_upward) := ⟨rfl, rfl, rfl, by decide +kernel, rfl, by decide +kernel, by decide +kernel⟩
abbrev N_normal_of : List Str := ["triplet", "many"]
abbrev P_normal_of : List Str := ["triplet"]
theorem sc_normal_of : FnScope N_normal_of P_normal_of (defScope s_normal_of) := ⟨rfl, rfl, rfl, by decide +kernel, rfl, by decide +kernel, by decide +kernel⟩
abbrev N_divisor_and_factor : List Str := ["number", "modulus", "divisor", "rest", "factor", "next_factor", "times"]
abbrev P_divisor_and_factor : List Str := ["number", "modulus"]
theorem sc_divisor_and_factor : FnScope N_divisor_and_factor P_divisor_and_factor (defScope s_divisor_and_factor) := ⟨rfl, rfl, rfl, by decide +kernel, rfl, by decide +kernel, by decide +kernel⟩
abbrev N_met_of : List Str := ["triplet", "other", "low", "high", "step", "other_low", "other_high", "other_step", "divisor", "factor", "turns", "period", "start", "least"]
abbrev P_met_of : List Str := ["triplet", "other"]
theorem sc_met_of : FnScope N_met_of P_met_of (defScope s_met_of) := ⟨rfl, rfl, rfl, by decide +kernel, rfl, by decide +kernel, by decide +kernel⟩
abbrev N_check_triplet : List Str := ["value", "name"]
abbrev P_check_triplet : List Str := ["value", "name"]
theorem sc_check_triplet : FnScope N_check_triplet P_check_triplet (defScope s_check_triplet) := ⟨rfl, rfl, rfl, by decide +kernel, rfl, by decide +kernel, by decide +kernel⟩
abbrev N_check_two : List Str := ["one", "other"]
abbrev P_check_two : List Str := ["one", "other"]
theorem sc_check_two : FnScope N_check_two P_check_two (defScope s_check_two) := ⟨rfl, rfl, rfl, by decide +kernel, rfl, by decide +kernel, by decide +kernel⟩
abbrev N_met : List Str := ["one", "other"]
abbrev P_met : List Str := ["one", "other"]
theorem sc_met : FnScope N_met P_met (defScope s_met) := ⟨rfl, rfl, rfl, by decide +kernel, rfl, by decide +kernel, by decide +kernel⟩
abbrev N_lies_in : List Str := ["one", "other"]
abbrev P_lies_in : List Str := ["one", "other"]
theorem sc_lies_in : FnScope N_lies_in P_lies_in (defScope s_lies_in) := ⟨rfl, rfl, rfl, by decide +kernel, rfl, by decide +kernel, by decide +kernel⟩
abbrev N_w_draw : List Str := ["_law_well_here", "_law_many", "_law_digit", "_law_drawn"]
abbrev P_w_draw : List Str := ["_law_well_here", "_law_many"]
theorem sc_w_draw : FnScope N_w_draw P_w_draw (defScope s_w_draw) := ⟨rfl, rfl, rfl, by decide +kernel, rfl, by decide +kernel, by decide +kernel⟩
abbrev N_w_pick : List Str := ["_law_well_here", "_law_some"]
abbrev P_w_pick : List Str := ["_law_well_here", "_law_some"]
theorem sc_w_pick : FnScope N_w_pick P_w_pick (defScope s_w_pick) := ⟨rfl, rfl, rfl, by decide +kernel, rfl, by decide +kernel, by decide +kernel⟩
abbrev N_w_members : List Str := ["_law_trio", "_law_found_here", "_law_k", "_law_number"]
abbrev P_w_members : List Str := ["_law_trio"]
theorem sc_w_members : FnScope N_w_members P_w_members (defScope s_w_members) := ⟨rfl, rfl, rfl, by decide +kernel, rfl, by decide +kernel, by decide +kernel⟩
abbrev N_w_near : List Str := ["_law_well_here", "_law_step", "_law_first", "_law_last"]
abbrev P_w_near : List Str := ["_law_well_here"]
theorem sc_w_near : FnScope N_w_near P_w_near (defScope s_w_near) := ⟨rfl, rfl, rfl, by decide +kernel, rfl, by decide +kernel, by decide +kernel⟩
abbrev N_w_shown : List Str := ["_law_some"]
abbrev P_w_shown : List Str := ["_law_some"]
theorem sc_w_shown : FnScope N_w_shown P_w_shown (defScope s_w_shown) := ⟨rfl, rfl, rfl, by decide +kernel, rfl, by decide +kernel, by decide +kernel⟩
abbrev N_w_count : List Str := ["_law_trio", "_law_far_here"]
abbrev P_w_count : List Str := ["_law_trio"]
theorem sc_w_count : FnScope N_w_count P_w_count (defScope s_w_count) := ⟨rfl, rfl, rfl, by decide +kernel, rfl, by decide +kernel, by decide +kernel⟩
abbrev N_w_near_right : List Str := ["_law_well_here", "_law_trio", "_law_twin", "_law_some", "_law_others", "_law_both", "_law_number"]
abbrev P_w_near_right : List Str := ["_law_well_here"]
theorem sc_w_near_right : FnScope N_w_near_right P_w_near_right (defScope s_w_near_right) := ⟨rfl, rfl, rfl, by decide +kernel, rfl, by decide +kernel, by decide +kernel⟩
abbrev N_w_far_trio : List Str := ["_law_well_here", "_law_base", "_law_unit", "_law_step", "_law_first", "_law_many"]
abbrev P_w_far_trio : List Str := ["_law_well_here", "_law_base", "_law_unit"]
theorem sc_w_far_trio : FnScope N_w_far_trio P_w_far_trio (defScope s_w_far_trio) := ⟨rfl, rfl, rfl, by decide +kernel, rfl, by decide +kernel, by decide +kernel⟩
abbrev N_w_found : List Str := ["_law_trio", "_law_twin", "_law_first", "_law_turn", "_law_highest", "_law_step", "_law_many"]
abbrev P_w_found : List Str := ["_law_trio", "_law_twin"]
theorem sc_w_found : FnScope N_w_found P_w_found (defScope s_w_found) := ⟨rfl, rfl, rfl, by decide +kernel, rfl, by decide +kernel, by decide +kernel⟩
abbrev N_w_far_right : List Str := ["_law_well_here", "_law_unit", "_law_base", "_law_trio", "_law_twin", "_law_due", "_law_back"]
abbrev P_w_far_right : List Str := ["_law_well_here"]
theorem sc_w_far_right : FnScope N_w_far_right P_w_far_right (defScope s_w_far_right) := ⟨rfl, rfl, rfl, by decide +kernel, rfl, by decide +kernel, by decide +kernel⟩
/-- what the top has written -/
structure Txt (K : PySem.W.Frag) (mg : Str → Option Value) where
  a_is_number : Addr
  d_is_number : FuncData
  F_is_number : Fun K "is_number" "is_number" s_is_number a_is_number d_is_number
  g_is_number : mg "is_number" = some (.ref a_is_number)
  a_is_far : Addr
  d_is_far : FuncData
  F_is_far : Fun K "is_far" "is_far" s_is_far a_is_far d_is_far
  g_is_far : mg "is_far" = some (.ref a_is_far)
  a_is_triplet : Addr
  d_is_triplet : FuncData
  F_is_triplet : Fun K "is_triplet" "is_triplet" s_is_triplet a_is_triplet d_is_triplet
  g_is_triplet : mg "is_triplet" = some (.ref a_is_triplet)
  a_many_of : Addr
  d_many_of : FuncData
  F_many_of : Fun K "many_of" "many_of" s_many_of a_many_of d_many_of
  g_many_of : mg "many_of" = some (.ref a_many_of)
  a_subscript_of : Addr
  d_subscript_of : FuncData
  F_subscript_of : Fun K "subscript_of" "subscript_of" s_subscript_of a_subscript_of d_subscript_of
  g_subscript_of : mg "subscript_of" = some (.ref a_subscript_of)
  a_last_of : Addr
  d_last_of : FuncData
  F_last_of : Fun K "last_of" "last_of" s_last_of a_last_of d_last_of
  g_last_of : mg "last_of" = some (.ref a_last_of)
  a_subscripts : Addr
  d_subscripts : FuncData
  F_subscripts : Fun K "subscripts" "subscripts" s_subscripts a_subscripts d_subscripts
  g_subscripts : mg "subscripts" = some (.ref a_subscripts)
  a_index_of : Addr
  d_index_of : FuncData
  F_index_of : Fun K "index_of" "index_of" s_index_of a_index_of d_index_of
  g_index_of : mg "index_of" = some (.ref a_index_of)
  a_has : Addr
  d_has : FuncData
  F_has : Fun K "has" "has" s_has a_has d_has
  g_has : mg "has" = some (.ref a_has)
  a_covers : Addr
  d_covers : FuncData
  F_covers : Fun K "covers" "covers" s_covers a_covers d_covers
  g_covers : mg "covers" = some (.ref a_covers)
  a_upward : Addr
  d_upward : FuncData
  F_upward : Fun K "upward" "upward" s_upward a_upward d_upward
  g_upward : mg "upward" = some (.ref a_upward)
  a_normal_of : Addr
  d_normal_of : FuncData
  F_normal_of : Fun K "normal_of" "normal_of" s_normal_of a_normal_of d_normal_of
  g_normal_of : mg "normal_of" = some (.ref a_normal_of)
  a_divisor_and_factor : Addr
  d_divisor_and_factor : FuncData
  F_divisor_and_factor : Fun K "divisor_and_factor" "divisor_and_factor" s_divisor_and_factor a_divisor_and_factor d_divisor_and_factor
  g_divisor_and_factor : mg "divisor_and_factor" = some (.ref a_divisor_and_factor)
  a_met_of : Addr
  d_met_of : FuncData
  F_met_of : Fun K "met_of" "met_of" s_met_of a_met_of d_met_of
  g_met_of : mg "met_of" = some (.ref a_met_of)
  a_check_triplet : Addr
  d_check_triplet : FuncData
  F_check_triplet : Fun K "check_triplet" "check_triplet" s_check_triplet a_check_triplet d_check_triplet
  g_check_triplet : mg "check_triplet" = some (.ref a_check_triplet)
  a_check_two : Addr
  d_check_two : FuncData
  F_check_two : Fun K "check_two" "check_two" s_check_two a_check_two d_check_two
  g_check_two : mg "check_two" = some (.ref a_check_two)
  a_met : Addr
  d_met : FuncData
  F_met : Fun K "met" "met" s_met a_met d_met
  g_met : mg "met" = some (.ref a_met)
  a_lies_in : Addr
  d_lies_in : FuncData
  F_lies_in : Fun K "lies_in" "lies_in" s_lies_in a_lies_in d_lies_in
  g_lies_in : mg "lies_in" = some (.ref a_lies_in)
  a_w_draw : Addr
  d_w_draw : FuncData
  F_w_draw : Fun K "_law_draw" "_law_draw" s_w_draw a_w_draw d_w_draw
  g_w_draw : mg "_law_draw" = some (.ref a_w_draw)
  a_w_pick : Addr
  d_w_pick : FuncData
  F_w_pick : Fun K "_law_pick" "_law_pick" s_w_pick a_w_pick d_w_pick
  g_w_pick : mg "_law_pick" = some (.ref a_w_pick)
  a_w_members : Addr
  d_w_members : FuncData
  F_w_members : Fun K "_law_members" "_law_members" s_w_members a_w_members d_w_members
  g_w_members : mg "_law_members" = some (.ref a_w_members)
  a_w_near : Addr
  d_w_near : FuncData
  F_w_near : Fun K "_law_near" "_law_near" s_w_near a_w_near d_w_near
  g_w_near : mg "_law_near" = some (.ref a_w_near)
  a_w_shown : Addr
  d_w_shown : FuncData
  F_w_shown : Fun K "_law_shown" "_law_shown" s_w_shown a_w_shown d_w_shown
  g_w_shown : mg "_law_shown" = some (.ref a_w_shown)
  a_w_count : Addr
  d_w_count : FuncData
  F_w_count : Fun K "_law_count" "_law_count" s_w_count a_w_count d_w_count
  g_w_count : mg "_law_count" = some (.ref a_w_count)
  a_w_near_right : Addr
  d_w_near_right : FuncData
  F_w_near_right : Fun K "_law_near_right" "_law_near_right" s_w_near_right a_w_near_right d_w_near_right
  g_w_near_right : mg "_law_near_right" = some (.ref a_w_near_right)
  a_w_far_trio : Addr
  d_w_far_trio : FuncData
  F_w_far_trio : Fun K "_law_far_trio" "_law_far_trio" s_w_far_trio a_w_far_trio d_w_far_trio
  g_w_far_trio : mg "_law_far_trio" = some (.ref a_w_far_trio)
  a_w_found : Addr
  d_w_found : FuncData
  F_w_found : Fun K "_law_found" "_law_found" s_w_found a_w_found d_w_found
  g_w_found : mg "_law_found" = some (.ref a_w_found)
  a_w_far_right : Addr
  d_w_far_right : FuncData
  F_w_far_right : Fun K "_law_far_right" "_law_far_right" s_w_far_right a_w_far_right d_w_far_right
  g_w_far_right : mg "_law_far_right" = some (.ref a_w_far_right)
  a_w_well : Addr
  d_w_well : FuncData
  F_w_well : Fun K "_law_well" "_law_well" s_w_well a_w_well d_w_well
  g_w_well : mg "_law_well" = some (.ref a_w_well)
  a_law : Addr
  d_law : FuncData
  F_law : Fun K "law" "law" s_law a_law d_law
  g_law : mg "law" = some (.ref a_law)
  z_int : mg "int" = none
  z_isinstance : mg "isinstance" = none
  z_bool : mg "bool" = none
  z_tuple : mg "tuple" = none
  z_len : mg "len" = none
  z_all : mg "all" = none
  z_list : mg "list" = none
  z_max : mg "max" = none
  z_range : mg "range" = none
  z_divmod : mg "divmod" = none
  z_min : mg "min" = none
  z_abs : mg "abs" = none
  z_sorted : mg "sorted" = none
  t_FAR : Tok
  c_FAR : mg "FAR" = some (.int 1000000000000000000000000000000 t_FAR)
  t_LIST_LIMIT : Tok
  c_LIST_LIMIT : mg "LIST_LIMIT" = some (.int 64 t_LIST_LIMIT)
section
variable {P : Program} {w : World} {K : PySem.W.Frag} {mg : Str → Option Value} {base : Heap}
theorem b_is_number (T : Txt K mg) : Binds K T.d_is_number ["value"] [] := T.F_is_number.binds fun _ _ _ _ _ _ us hl => match us, hl with | [_], _ => rfl
theorem b_is_far (T : Txt K mg) : Binds K T.d_is_far ["value"] [] := T.F_is_far.binds fun _ _ _ _ _ _ us hl => match us, hl with | [_], _ => rfl
theorem b_is_triplet (T : Txt K mg) : Binds K T.d_is_triplet ["value"] [] := T.F_is_triplet.binds fun _ _ _ _ _ _ us hl => match us, hl with | [_], _ => rfl
theorem b_many_of (T : Txt K mg) : Binds K T.d_many_of ["part"] [] := T.F_many_of.binds fun _ _ _ _ _ _ us hl => match us, hl with | [_], _ => rfl
theorem b_subscript_of (T : Txt K mg) : Binds K T.d_subscript_of ["part", "index"] [] := T.F_subscript_of.binds fun _ _ _ _ _ _ us hl => match us, hl with | [_, _], _ => rfl
theorem b_last_of (T : Txt K mg) : Binds K T.d_last_of ["part"] [] := T.F_last_of.binds fun _ _ _ _ _ _ us hl => match us, hl with | [_], _ => rfl
theorem b_subscripts (T : Txt K mg) : Binds K T.d_subscripts ["part"] [] := T.F_subscripts.binds fun _ _ _ _ _ _ us hl => match us, hl with | [_], _ => rfl
theorem b_index_of (T : Txt K mg) : Binds K T.d_index_of ["triplet", "number"] [] := T.F_index_of.binds fun _ _ _ _ _ _ us hl => match us, hl with | [_, _], _ => rfl
theorem b_has (T : Txt K mg) : Binds K T.d_has ["part", "number"] [] := T.F_has.binds fun _ _ _ _ _ _ us hl => match us, hl with | [_, _], _ => rfl
theorem b_covers (T : Txt K mg) : Binds K T.d_covers ["part", "other"] [] := T.F_covers.binds fun _ _ _ _ _ _ us hl => match us, hl with | [_, _], _ => rfl
theorem b_upward (T : Txt K mg) : Binds K T.d_upward ["triplet"] [] := T.F_upward.binds fun _ _ _ _ _ _ us hl => match us, hl with | [_], _ => rfl
theorem b_normal_of (T : Txt K mg) : Binds K T.d_normal_of ["triplet"] [] := T.F_normal_of.binds fun _ _ _ _ _ _ us hl => match us, hl with | [_], _ => rfl
theorem b_divisor_and_factor (T : Txt K mg) : Binds K T.d_divisor_and_factor ["number", "modulus"] [] := T.F_divisor_and_factor.binds fun _ _ _ _ _ _ us hl => match us, hl with | [_, _], _ => rfl
theorem b_met_of (T : Txt K mg) : Binds K T.d_met_of ["triplet", "other"] [] := T.F_met_of.binds fun _ _ _ _ _ _ us hl => match us, hl with | [_, _], _ => rfl
theorem b_check_triplet (T : Txt K mg) : Binds K T.d_check_triplet ["value", "name"] [] := T.F_check_triplet.binds fun _ _ _ _ _ _ us hl => match us, hl with | [_, _], _ => rfl
theorem b_check_two (T : Txt K mg) : Binds K T.d_check_two ["one", "other"] [] := T.F_check_two.binds fun _ _ _ _ _ _ us hl => match us, hl with | [_, _], _ => rfl
theorem b_met (T : Txt K mg) : Binds K T.d_met ["one", "other"] [] := T.F_met.binds fun _ _ _ _ _ _ us hl => match us, hl with | [_, _], _ => rfl
theorem b_lies_in (T : Txt K mg) : Binds K T.d_lies_in ["one", "other"] [] := T.F_lies_in.binds fun _ _ _ _ _ _ us hl => match us, hl with | [_, _], _ => rfl
theorem b_w_draw (T : Txt K mg) : Binds K T.d_w_draw ["_law_well_here", "_law_many"] [] := T.F_w_draw.binds fun _ _ _ _ _ _ us hl => match us, hl with | [_, _], _ => rfl
theorem b_w_pick (T : Txt K mg) : Binds K T.d_w_pick ["_law_well_here", "_law_some"] [] := T.F_w_pick.binds fun _ _ _ _ _ _ us hl => match us, hl with | [_, _], _ => rfl
theorem b_w_members (T : Txt K mg) : Binds K T.d_w_members ["_law_trio"] [] := T.F_w_members.binds fun _ _ _ _ _ _ us hl => match us, hl with | [_], _ => rfl
theorem b_w_near (T : Txt K mg) : Binds K T.d_w_near ["_law_well_here"] [] := T.F_w_near.binds fun _ _ _ _ _ _ us hl => match us, hl with | [_], _ => rfl
theorem b_w_shown (T : Txt K mg) : Binds K T.d_w_shown ["_law_some"] [] := T.F_w_shown.binds fun _ _ _ _ _ _ us hl => match us, hl with | [_], _ => rfl
theorem b_w_count (T : Txt K mg) : Binds K T.d_w_count ["_law_trio"] [] := T.F_w_count.binds fun _ _ _ _ _ _ us hl => match us, hl with | [_], _ => rfl
theorem b_w_near_right (T : Txt K mg) : Binds K T.d_w_near_right ["_law_well_here"] [] := T.F_w_near_right.binds fun _ _ _ _ _ _ us hl => match us, hl with | [_], _ => rfl
theorem b_w_far_trio (T : Txt K mg) : Binds K T.d_w_far_trio ["_law_well_here", "_law_base", "_law_unit"] [] := T.F_w_far_trio.binds fun _ _ _ _ _ _ us hl => match us, hl with | [_, _, _], _ => rfl
theorem b_w_found (T : Txt K mg) : Binds K T.d_w_found ["_law_trio", "_law_twin"] [] := T.F_w_found.binds fun _ _ _ _ _ _ us hl => match us, hl with | [_, _], _ => rfl
theorem b_w_far_right (T : Txt K mg) : Binds K T.d_w_far_right ["_law_well_here"] [] := T.F_w_far_right.binds fun _ _ _ _ _ _ us hl => match us, hl with | [_], _ => rfl
theorem b_w_well (T : Txt K mg) : Binds K T.d_w_well ["_law_cell"] [] := T.F_w_well.binds fun _ _ _ _ _ _ us hl => match us, hl with | [_], _ => rfl
theorem b_law (T : Txt K mg) : Binds K T.d_law ["_law_script"] [] := T.F_law.binds fun _ _ _ _ _ _ us hl => match us, hl with | [_], _ => rfl
def B_is_number : DS := (sRet (eAnd (eCB fIsi (aCons (eVar 0) (aCons (eC (.ty "int")) aNil))) (eNot (eCB fIsi (aCons (eVar 0) (aCons (eC (.ty "bool")) aNil))))))
def F_is_number : DF := runB 1 1 B_is_number
theorem d_is_number (T : Txt K mg) : FnD P w K mg base 1 T.a_is_number T.d_is_number P_is_number F_is_number := fnD T.F_is_number sc_is_number (by decide) B_is_number (fun cdv A outer s H E hr => (sd_one (sd_ret (pd_and (pd_cb call_isiA cd_isi (by rfl) T.z_isinstance (by decide +kernel) (ad_cons (pd_var 0) (ad_cons (pd_ty (by rfl) T.z_int (by decide +kernel)) ad_nil))) (pd_one (pd_not (pd_cb call_isiA cd_isi (by rfl) T.z_isinstance (by decide +kernel) (ad_cons (pd_var 0) (ad_cons (pd_ty (by rfl) T.z_bool (by decide +kernel)) ad_nil)))))))))
def B_is_far : DS := (sRet (eAnd (eCall 1 F_is_number (aCons (eVar 0) aNil)) (eChain fLe fLe (eUn fNeg (eC (.int 1000000000000000000000000000000))) (eVar 0) (eC (.int 1000000000000000000000000000000)))))
def F_is_far : DF := runB 1 1 B_is_far
theorem d_is_far (T : Txt K mg) : FnD P w K mg base 2 T.a_is_far T.d_is_far P_is_far F_is_far := fnD T.F_is_far sc_is_far (by decide) B_is_far (fun cdv A outer s H E hr => (sd_one (sd_ret (pd_and (by refine pd_call (k := 1) (f := T.a_is_number) (fd := T.d_is_number) (ps := P_is_number) (F := F_is_number) ?_ ?_ ?_ ?_ ?_ ?_ ?_ ?_; exact d_is_number T; exact hr.mono (by decide); exact rfl; exact T.g_is_number; exact T.F_is_number.kp; exact b_is_number T; exact (wok_takes (takes_of rfl rfl rfl rfl)); exact (ad_cons (pd_var 0) ad_nil)) (pd_one (pd_chain op_le op_le opd_cmp opd_cmp (pd_neg (pd_globI (by rfl) T.c_FAR)) (pd_var 0) (pd_globI (by rfl) T.c_FAR)))))))
def B_is_triplet : DS := (sSeq (sIf (tOn (tNo (tTr (eCB fIsi (aCons (eVar 0) (aCons (eC (.ty "tuple")) aNil))))) (tE (eBin fNe (eCB fLen (aCons (eVar 0) aNil)) (eC (.int 3))))) (sRet (eC (.bl false))) sNx) (sRet (eAnd (eCB fAll (aCons (eL (aLc (iSeq (eVar 0)) (gN 1) tYesD (eCall 1 F_is_far (aCons (eVar 1) aNil)) [1])) aNil)) (eBin fNe (eBin fIx (eVar 0) (eC (.int 2))) (eC (.int 0))))))
def F_is_triplet : DF := runB 2 1 B_is_triplet
theorem d_is_triplet (T : Txt K mg) : FnD P w K mg base 3 T.a_is_triplet T.d_is_triplet P_is_triplet F_is_triplet := fnD T.F_is_triplet sc_is_triplet (by decide) B_is_triplet (fun cdv A outer s H E hr => (sd_cons (sd_if (qd_or (qd_not (qd_tr (pd_cb call_isiA cd_isi (by rfl) T.z_isinstance (by decide +kernel) (ad_cons (pd_var 0) (ad_cons (pd_ty (by rfl) T.z_tuple (by decide +kernel)) ad_nil))))) (qd_or1 (qd_ne hr.units (pd_cb call_len cd_len (by rfl) T.z_len (by decide +kernel) (ad_cons (pd_var 0) ad_nil)) pd_int))).pt (sd_one (sd_ret pd_bl)) sd_nil) (sd_one (sd_ret (pd_and (pd_cb (cr_all rfl) cd_all (by rfl) T.z_all (by decide +kernel) (ad_cons (pd_L (pl_lc (own := [("number", 1)]) rfl sc_is_triplet.nd (id_seq (pd_var 0)) (blkOk_by (own := [("number", 1)]) (N := N_is_triplet) (sc := defScope s_is_triplet) (by decide +kernel)) (fun _ _ _ _ _ => (gd_name (i := 1) sc_is_triplet.nd rfl (Or.inl rfl) (by decide))) (fun _ _ _ _ _ => td_nil) (fun _ _ _ _ _ => (by refine pd_call (k := 2) (f := T.a_is_far) (fd := T.d_is_far) (ps := P_is_far) (F := F_is_far) ?_ ?_ ?_ ?_ ?_ ?_ ?_ ?_; exact d_is_far T; exact hr.mono (by decide); exact rfl; exact T.g_is_far; exact T.F_is_far.kp; exact b_is_far T; exact wok0; exact (ad_cons (pd_var 1) ad_nil))))) ad_nil)) (pd_one (pd_ne hr.units (pd_ix (pd_var 0) pd_int) pd_int)))))))
def B_many_of : DS := (sSeq (sIf (tTr (eCB fIsi (aCons (eVar 0) (aCons (eC (.ty "list")) aNil)))) (sRet (eCB fLen (aCons (eVar 0) aNil))) sNx) (sSeq (sIf (tTr (eCB fIsi (aCons (eVar 0) (aCons (eC (.ty "tuple")) aNil)))) (sSeq (sTg (gT (gCons' (gN 1) (gCons' (gN 2) (gCons' (gN 3) gNil'))) 3) (eVar 0)) (sRet (eCB fMax2 (aCons (eC (.int 0)) (aCons (eBin fDiv (eBin fAdd (eBin fSub (eVar 2) (eVar 1)) (eVar 3)) (eVar 3)) aNil))))) sNx) (sRet (eC (.int 1)))))
def F_many_of : DF := runB 4 1 B_many_of
theorem d_many_of (T : Txt K mg) : FnD P w K mg base 1 T.a_many_of T.d_many_of P_many_of F_many_of := fnD T.F_many_of sc_many_of (by decide) B_many_of (fun cdv A outer s H E hr => (sd_cons (sd_if (qd_tr (pd_cb call_isiA cd_isi (by rfl) T.z_isinstance (by decide +kernel) (ad_cons (pd_var 0) (ad_cons (pd_ty (by rfl) T.z_list (by decide +kernel)) ad_nil)))) (sd_one (sd_ret (pd_cb call_len cd_len (by rfl) T.z_len (by decide +kernel) (ad_cons (pd_var 0) ad_nil)))) sd_nil) (sd_cons (sd_if (qd_tr (pd_cb call_isiA cd_isi (by rfl) T.z_isinstance (by decide +kernel) (ad_cons (pd_var 0) (ad_cons (pd_ty (by rfl) T.z_tuple (by decide +kernel)) ad_nil)))) (sd_cons (sd_tg (vs := [1, 2, 3]) (ps_asg (pd_var 0) (gd_tup rfl (gd_cons (gd_name (i := 1) sc_many_of.nd rfl (Or.inl rfl) (by decide)) (gd_cons (gd_name (i := 2) sc_many_of.nd rfl (Or.inl rfl) (by decide)) (gd_cons (gd_name (i := 3) sc_many_of.nd rfl (Or.inl rfl) (by decide)) gd_nil)))))) (sd_one (sd_ret (pd_cb (call_max2 rfl) cd_max2 (by rfl) T.z_max (by decide +kernel) (ad_cons pd_int (ad_cons (pd_div (pd_add (pd_sub (pd_var 2) (pd_var 1)) (pd_var 3)) (pd_var 3)) ad_nil)))))) sd_nil) (sd_one (sd_ret pd_int)))))
def B_subscript_of : DS := (sSeq (sIf (tTr (eCB fIsi (aCons (eVar 0) (aCons (eC (.ty "list")) aNil)))) (sRet (eBin fIx (eVar 0) (eVar 1))) sNx) (sSeq (sIf (tTr (eCB fIsi (aCons (eVar 0) (aCons (eC (.ty "tuple")) aNil)))) (sRet (eBin fAdd (eBin fIx (eVar 0) (eC (.int 0))) (eBin fMul (eVar 1) (eBin fIx (eVar 0) (eC (.int 2)))))) sNx) (sRet (eVar 0))))
def F_subscript_of : DF := runB 2 2 B_subscript_of
theorem d_subscript_of (T : Txt K mg) : FnD P w K mg base 1 T.a_subscript_of T.d_subscript_of P_subscript_of F_subscript_of := fnD T.F_subscript_of sc_subscript_of (by decide) B_subscript_of (fun cdv A outer s H E hr => (sd_cons (sd_if (qd_tr (pd_cb call_isiA cd_isi (by rfl) T.z_isinstance (by decide +kernel) (ad_cons (pd_var 0) (ad_cons (pd_ty (by rfl) T.z_list (by decide +kernel)) ad_nil)))) (sd_one (sd_ret (pd_ix (pd_var 0) (pd_var 1)))) sd_nil) (sd_cons (sd_if (qd_tr (pd_cb call_isiA cd_isi (by rfl) T.z_isinstance (by decide +kernel) (ad_cons (pd_var 0) (ad_cons (pd_ty (by rfl) T.z_tuple (by decide +kernel)) ad_nil)))) (sd_one (sd_ret (pd_add (pd_ix (pd_var 0) pd_int) (pd_mul (pd_var 1) (pd_ix (pd_var 0) pd_int))))) sd_nil) (sd_one (sd_ret (pd_var 0))))))
def B_last_of : DS := (sRet (eCall 2 F_subscript_of (aCons (eVar 0) (aCons (eBin fSub (eCall 1 F_many_of (aCons (eVar 0) aNil)) (eC (.int 1))) aNil))))
def F_last_of : DF := runB 1 1 B_last_of
theorem d_last_of (T : Txt K mg) : FnD P w K mg base 2 T.a_last_of T.d_last_of P_last_of F_last_of := fnD T.F_last_of sc_last_of (by decide) B_last_of (fun cdv A outer s H E hr => (sd_one (sd_ret (by refine pd_call (k := 1) (f := T.a_subscript_of) (fd := T.d_subscript_of) (ps := P_subscript_of) (F := F_subscript_of) ?_ ?_ ?_ ?_ ?_ ?_ ?_ ?_; exact d_subscript_of T; exact hr.mono (by decide); exact rfl; exact T.g_subscript_of; exact T.F_subscript_of.kp; exact b_subscript_of T; exact (wok_takes (takes_of rfl rfl rfl rfl)); exact (ad_cons (pd_var 0) (ad_cons (pd_sub (by refine pd_call (k := 1) (f := T.a_many_of) (fd := T.d_many_of) (ps := P_many_of) (F := F_many_of) ?_ ?_ ?_ ?_ ?_ ?_ ?_ ?_; exact d_many_of T; exact hr.mono (by decide); exact rfl; exact T.g_many_of; exact T.F_many_of.kp; exact b_many_of T; exact (wok_takes (takes_of rfl rfl rfl rfl)); exact (ad_cons (pd_var 0) ad_nil)) pd_int) ad_nil))))))
def B_subscripts : DS := (sRet (eL (aLc (iRng1 (aCons (eCall 1 F_many_of (aCons (eVar 0) aNil)) aNil)) (gN 1) tYesD (eCall 2 F_subscript_of (aCons (eVar 0) (aCons (eVar 1) aNil))) [1])))
def F_subscripts : DF := runB 2 1 B_subscripts
theorem d_subscripts (T : Txt K mg) : FnD P w K mg base 2 T.a_subscripts T.d_subscripts P_subscripts F_subscripts := fnD T.F_subscripts sc_subscripts (by decide) B_subscripts (fun cdv A outer s H E hr => (sd_one (sd_ret (pd_L (pl_lc (own := [("index", 1)]) rfl sc_subscripts.nd (id_rng1 (by rfl) T.z_range (ad_cons (by refine pd_call (k := 1) (f := T.a_many_of) (fd := T.d_many_of) (ps := P_many_of) (F := F_many_of) ?_ ?_ ?_ ?_ ?_ ?_ ?_ ?_; exact d_many_of T; exact hr.mono (by decide); exact rfl; exact T.g_many_of; exact T.F_many_of.kp; exact b_many_of T; exact (wok_takes (takes_of rfl rfl rfl rfl)); exact (ad_cons (pd_var 0) ad_nil)) ad_nil)) (blkOk_by (own := [("index", 1)]) (N := N_subscripts) (sc := defScope s_subscripts) (by decide +kernel)) (fun _ _ _ _ _ => (gd_name (i := 1) sc_subscripts.nd rfl (Or.inl rfl) (by decide))) (fun _ _ _ _ _ => td_nil) (fun _ _ _ _ _ => (by refine pd_call (k := 1) (f := T.a_subscript_of) (fd := T.d_subscript_of) (ps := P_subscript_of) (F := F_subscript_of) ?_ ?_ ?_ ?_ ?_ ?_ ?_ ?_; exact d_subscript_of T; exact hr.mono (by decide); exact rfl; exact T.g_subscript_of; exact T.F_subscript_of.kp; exact b_subscript_of T; exact wok0; exact (ad_cons (pd_var 0) (ad_cons (pd_var 1) ad_nil)))))))))
def B_index_of : DS := (sSeq (sTg (gT (gCons' (gN 2) (gCons' (gN 3) gNil')) 2) (eCB fDivmod (aCons (eBin fSub (eVar 1) (eBin fIx (eVar 0) (eC (.int 0)))) (aCons (eBin fIx (eVar 0) (eC (.int 2))) aNil)))) (sSeq (sIf (tOn (tE (eBin fNe (eVar 3) (eC (.int 0)))) (tNo (tE (eChain fLe fLt (eC (.int 0)) (eVar 2) (eCall 1 F_many_of (aCons (eVar 0) aNil)))))) (sRet (eC .non)) sNx) (sRet (eVar 2))))
def F_index_of : DF := runB 4 2 B_index_of
theorem d_index_of (T : Txt K mg) : FnD P w K mg base 2 T.a_index_of T.d_index_of P_index_of F_index_of := fnD T.F_index_of sc_index_of (by decide) B_index_of (fun cdv A outer s H E hr => (sd_cons (sd_tg (vs := [2, 3]) (ps_asg (pd_cb call_divmodA cd_divmod (by rfl) T.z_divmod (by decide +kernel) (ad_cons (pd_sub (pd_var 1) (pd_ix (pd_var 0) pd_int)) (ad_cons (pd_ix (pd_var 0) pd_int) ad_nil))) (gd_tup rfl (gd_cons (gd_name (i := 2) sc_index_of.nd rfl (Or.inl rfl) (by decide)) (gd_cons (gd_name (i := 3) sc_index_of.nd rfl (Or.inl rfl) (by decide)) gd_nil))))) (sd_cons (sd_if (qd_or (qd_ne hr.units (pd_var 3) pd_int) (qd_or1 (qd_not (qd_chain op_le op_lt opd_cmp opd_cmp pd_int (pd_var 2) (by refine pd_call (k := 1) (f := T.a_many_of) (fd := T.d_many_of) (ps := P_many_of) (F := F_many_of) ?_ ?_ ?_ ?_ ?_ ?_ ?_ ?_; exact d_many_of T; exact hr.mono (by decide); exact rfl; exact T.g_many_of; exact T.F_many_of.kp; exact b_many_of T; exact (wok_takes (takes_of rfl rfl rfl rfl)); exact (ad_cons (pd_var 0) ad_nil)))))).pt (sd_one (sd_ret pd_non)) sd_nil) (sd_one (sd_ret (pd_var 2))))))
def B_has : DS := (sSeq (sIf (tTr (eCB fIsi (aCons (eVar 0) (aCons (eC (.ty "tuple")) aNil)))) (sRet (eBin fNotN (eCall 2 F_index_of (aCons (eVar 0) (aCons (eVar 1) aNil))) (eC .non))) sNx) (sRet (eBin fIn (eVar 1) (eCall 1 F_subscripts (aCons (eVar 0) aNil)))))
def F_has : DF := runB 2 2 B_has
theorem d_has (T : Txt K mg) : FnD P w K mg base 3 T.a_has T.d_has P_has F_has := fnD T.F_has sc_has (by decide) B_has (fun cdv A outer s H E hr => (sd_cons (sd_if (qd_tr (pd_cb call_isiA cd_isi (by rfl) T.z_isinstance (by decide +kernel) (ad_cons (pd_var 0) (ad_cons (pd_ty (by rfl) T.z_tuple (by decide +kernel)) ad_nil)))) (sd_one (sd_ret (pd_notN (by refine pd_call (k := 2) (f := T.a_index_of) (fd := T.d_index_of) (ps := P_index_of) (F := F_index_of) ?_ ?_ ?_ ?_ ?_ ?_ ?_ ?_; exact d_index_of T; exact hr.mono (by decide); exact rfl; exact T.g_index_of; exact T.F_index_of.kp; exact b_index_of T; exact (wok_takes (takes_of rfl rfl rfl rfl)); exact (ad_cons (pd_var 0) (ad_cons (pd_var 1) ad_nil))) pd_non))) sd_nil) (sd_one (sd_ret (pd_in (units65 hr) (pd_var 1) (by refine pd_call (k := 2) (f := T.a_subscripts) (fd := T.d_subscripts) (ps := P_subscripts) (F := F_subscripts) ?_ ?_ ?_ ?_ ?_ ?_ ?_ ?_; exact d_subscripts T; exact hr.mono (by decide); exact rfl; exact T.g_subscripts; exact T.F_subscripts.kp; exact b_subscripts T; exact (wok_takes (takes_of rfl rfl rfl rfl)); exact (ad_cons (pd_var 0) ad_nil)))))))
def B_covers : DS := (sSeq (sAsg 2 (eCall 1 F_many_of (aCons (eVar 1) aNil))) (sSeq (sIf (tAn (tE (eBin fGt (eVar 2) (eC (.int 2)))) (tAn (tTr (eCB fIsi (aCons (eVar 0) (aCons (eC (.ty "tuple")) aNil)))) (tTr (eCB fIsi (aCons (eVar 1) (aCons (eC (.ty "tuple")) aNil)))))) (sSeq (sAsg 3 (eL (aLst (aCons (eCall 2 F_subscript_of (aCons (eVar 1) (aCons (eC (.int 0)) aNil))) (aCons (eCall 2 F_subscript_of (aCons (eVar 1) (aCons (eC (.int 1)) aNil))) (aCons (eCall 1 F_last_of (aCons (eVar 1) aNil)) aNil)))))) (sRet (eCB fAll (aCons (eL (aLc (iSeq (eVar 3)) (gN 4) tYesD (eCall 2 F_has (aCons (eVar 0) (aCons (eVar 4) aNil))) [4])) aNil)))) sNx) (sRet (eAnd (eBin fLe (eVar 2) (eC (.int 64))) (eCB fAll (aCons (eL (aLc (iSeq (eCall 1 F_subscripts (aCons (eVar 1) aNil))) (gN 4) tYesD (eCall 2 F_has (aCons (eVar 0) (aCons (eVar 4) aNil))) [4])) aNil))))))
def F_covers : DF := runB 5 2 B_covers
theorem d_covers (T : Txt K mg) : FnD P w K mg base 4 T.a_covers T.d_covers P_covers F_covers := fnD T.F_covers sc_covers (by decide) B_covers (fun cdv A outer s H E hr => (sd_cons (sd_asg (ps_set (i := 2) sc_covers.nd rfl (Or.inl rfl) (by refine pd_call (k := 1) (f := T.a_many_of) (fd := T.d_many_of) (ps := P_many_of) (F := F_many_of) ?_ ?_ ?_ ?_ ?_ ?_ ?_ ?_; exact d_many_of T; exact hr.mono (by decide); exact rfl; exact T.g_many_of; exact T.F_many_of.kp; exact b_many_of T; exact (wok_takes (takes_of rfl rfl rfl rfl)); exact (ad_cons (pd_var 1) ad_nil)))) (sd_cons (sd_if (qd_and (qd_gt (pd_var 2) pd_int) (qd_and (qd_tr (pd_cb call_isiA cd_isi (by rfl) T.z_isinstance (by decide +kernel) (ad_cons (pd_var 0) (ad_cons (pd_ty (by rfl) T.z_tuple (by decide +kernel)) ad_nil)))) (qd_and1 (qd_tr (pd_cb call_isiA cd_isi (by rfl) T.z_isinstance (by decide +kernel) (ad_cons (pd_var 1) (ad_cons (pd_ty (by rfl) T.z_tuple (by decide +kernel)) ad_nil))))))).pt (sd_cons (sd_asg (ps_set (i := 3) sc_covers.nd rfl (Or.inl rfl) (pd_L (pl_lst (ad_cons (by refine pd_call (k := 1) (f := T.a_subscript_of) (fd := T.d_subscript_of) (ps := P_subscript_of) (F := F_subscript_of) ?_ ?_ ?_ ?_ ?_ ?_ ?_ ?_; exact d_subscript_of T; exact hr.mono (by decide); exact rfl; exact T.g_subscript_of; exact T.F_subscript_of.kp; exact b_subscript_of T; exact (wok_takes (takes_of rfl rfl rfl rfl)); exact (ad_cons (pd_var 1) (ad_cons pd_int ad_nil))) (ad_cons (by refine pd_call (k := 1) (f := T.a_subscript_of) (fd := T.d_subscript_of) (ps := P_subscript_of) (F := F_subscript_of) ?_ ?_ ?_ ?_ ?_ ?_ ?_ ?_; exact d_subscript_of T; exact hr.mono (by decide); exact rfl; exact T.g_subscript_of; exact T.F_subscript_of.kp; exact b_subscript_of T; exact (wok_takes (takes_of rfl rfl rfl rfl)); exact (ad_cons (pd_var 1) (ad_cons pd_int ad_nil))) (ad_cons (by refine pd_call (k := 2) (f := T.a_last_of) (fd := T.d_last_of) (ps := P_last_of) (F := F_last_of) ?_ ?_ ?_ ?_ ?_ ?_ ?_ ?_; exact d_last_of T; exact hr.mono (by decide); exact rfl; exact T.g_last_of; exact T.F_last_of.kp; exact b_last_of T; exact (wok_takes (takes_of rfl rfl rfl rfl)); exact (ad_cons (pd_var 1) ad_nil)) ad_nil))))))) (sd_one (sd_ret (pd_cb (cr_all rfl) cd_all (by rfl) T.z_all (by decide +kernel) (ad_cons (pd_L (pl_lc (own := [("number", 4)]) rfl sc_covers.nd (id_seq (pd_var 3)) (blkOk_by (own := [("number", 4)]) (N := N_covers) (sc := defScope s_covers) (by decide +kernel)) (fun _ _ _ _ _ => (gd_name (i := 4) sc_covers.nd rfl (Or.inl rfl) (by decide))) (fun _ _ _ _ _ => td_nil) (fun _ _ _ _ _ => (by refine pd_call (k := 3) (f := T.a_has) (fd := T.d_has) (ps := P_has) (F := F_has) ?_ ?_ ?_ ?_ ?_ ?_ ?_ ?_; exact d_has T; exact hr.mono (by decide); exact rfl; exact T.g_has; exact T.F_has.kp; exact b_has T; exact wok0; exact (ad_cons (pd_var 0) (ad_cons (pd_var 4) ad_nil)))))) ad_nil))))) sd_nil) (sd_one (sd_ret (pd_and (pd_le (pd_var 2) (pd_globI (by rfl) T.c_LIST_LIMIT)) (pd_one (pd_cb (cr_all rfl) cd_all (by rfl) T.z_all (by decide +kernel) (ad_cons (pd_L (pl_lc (own := [("number", 4)]) rfl sc_covers.nd (id_seq (by refine pd_call (k := 2) (f := T.a_subscripts) (fd := T.d_subscripts) (ps := P_subscripts) (F := F_subscripts) ?_ ?_ ?_ ?_ ?_ ?_ ?_ ?_; exact d_subscripts T; exact hr.mono (by decide); exact rfl; exact T.g_subscripts; exact T.F_subscripts.kp; exact b_subscripts T; exact (wok_takes (takes_of rfl rfl rfl rfl)); exact (ad_cons (pd_var 1) ad_nil))) (blkOk_by (own := [("number", 4)]) (N := N_covers) (sc := defScope s_covers) (by decide +kernel)) (fun _ _ _ _ _ => (gd_name (i := 4) sc_covers.nd rfl (Or.inl rfl) (by decide))) (fun _ _ _ _ _ => td_nil) (fun _ _ _ _ _ => (by refine pd_call (k := 3) (f := T.a_has) (fd := T.d_has) (ps := P_has) (F := F_has) ?_ ?_ ?_ ?_ ?_ ?_ ?_ ?_; exact d_has T; exact hr.mono (by decide); exact rfl; exact T.g_has; exact T.F_has.kp; exact b_has T; exact wok0; exact (ad_cons (pd_var 0) (ad_cons (pd_var 4) ad_nil)))))) ad_nil)))))))))
def B_upward : DS := (sSeq (sIf (tE (eBin fGt (eBin fIx (eVar 0) (eC (.int 2))) (eC (.int 0)))) (sRet (eTup (aCons (eBin fIx (eVar 0) (eC (.int 0))) (aCons (eCall 1 F_last_of (aCons (eVar 0) aNil)) (aCons (eBin fIx (eVar 0) (eC (.int 2))) aNil))))) sNx) (sRet (eTup (aCons (eCall 1 F_last_of (aCons (eVar 0) aNil)) (aCons (eBin fIx (eVar 0) (eC (.int 0))) (aCons (eUn fNeg (eBin fIx (eVar 0) (eC (.int 2)))) aNil))))))
def F_upward : DF := runB 1 1 B_upward
theorem d_upward (T : Txt K mg) : FnD P w K mg base 3 T.a_upward T.d_upward P_upward F_upward := fnD T.F_upward sc_upward (by decide) B_upward (fun cdv A outer s H E hr => (sd_cons (sd_if (qd_gt (pd_ix (pd_var 0) pd_int) pd_int) (sd_one (sd_ret (pd_tup (ad_cons (pd_ix (pd_var 0) pd_int) (ad_cons (by refine pd_call (k := 2) (f := T.a_last_of) (fd := T.d_last_of) (ps := P_last_of) (F := F_last_of) ?_ ?_ ?_ ?_ ?_ ?_ ?_ ?_; exact d_last_of T; exact hr.mono (by decide); exact rfl; exact T.g_last_of; exact T.F_last_of.kp; exact b_last_of T; exact (wok_takes (takes_of rfl rfl rfl rfl)); exact (ad_cons (pd_var 0) ad_nil)) (ad_cons (pd_ix (pd_var 0) pd_int) ad_nil)))))) sd_nil) (sd_one (sd_ret (pd_tup (ad_cons (by refine pd_call (k := 2) (f := T.a_last_of) (fd := T.d_last_of) (ps := P_last_of) (F := F_last_of) ?_ ?_ ?_ ?_ ?_ ?_ ?_ ?_; exact d_last_of T; exact hr.mono (by decide); exact rfl; exact T.g_last_of; exact T.F_last_of.kp; exact b_last_of T; exact (wok_takes (takes_of rfl rfl rfl rfl)); exact (ad_cons (pd_var 0) ad_nil)) (ad_cons (pd_ix (pd_var 0) pd_int) (ad_cons (pd_neg (pd_ix (pd_var 0) pd_int)) ad_nil))))))))
def B_normal_of : DS := (sSeq (sAsg 1 (eCall 1 F_many_of (aCons (eVar 0) aNil))) (sSeq (sIf (tE (eBin fEq (eVar 1) (eC (.int 0)))) (sRet (eTup (aCons (eC (.int 0)) (aCons (eUn fNeg (eC (.int 1))) (aCons (eC (.int 1)) aNil))))) sNx) (sSeq (sIf (tE (eBin fEq (eVar 1) (eC (.int 1)))) (sRet (eTup (aCons (eBin fIx (eVar 0) (eC (.int 0))) (aCons (eBin fIx (eVar 0) (eC (.int 0))) (aCons (eC (.int 1)) aNil))))) sNx) (sRet (eCall 1 F_upward (aCons (eVar 0) aNil))))))
def F_normal_of : DF := runB 2 1 B_normal_of
theorem d_normal_of (T : Txt K mg) : FnD P w K mg base 4 T.a_normal_of T.d_normal_of P_normal_of F_normal_of := fnD T.F_normal_of sc_normal_of (by decide) B_normal_of (fun cdv A outer s H E hr => (sd_cons (sd_asg (ps_set (i := 1) sc_normal_of.nd rfl (Or.inl rfl) (by refine pd_call (k := 1) (f := T.a_many_of) (fd := T.d_many_of) (ps := P_many_of) (F := F_many_of) ?_ ?_ ?_ ?_ ?_ ?_ ?_ ?_; exact d_many_of T; exact hr.mono (by decide); exact rfl; exact T.g_many_of; exact T.F_many_of.kp; exact b_many_of T; exact (wok_takes (takes_of rfl rfl rfl rfl)); exact (ad_cons (pd_var 0) ad_nil)))) (sd_cons (sd_if (qd_eq hr.units (pd_var 1) pd_int) (sd_one (sd_ret (pd_tup (ad_cons pd_int (ad_cons (pd_neg pd_int) (ad_cons pd_int ad_nil)))))) sd_nil) (sd_cons (sd_if (qd_eq hr.units (pd_var 1) pd_int) (sd_one (sd_ret (pd_tup (ad_cons (pd_ix (pd_var 0) pd_int) (ad_cons (pd_ix (pd_var 0) pd_int) (ad_cons pd_int ad_nil)))))) sd_nil) (sd_one (sd_ret (by refine pd_call (k := 3) (f := T.a_upward) (fd := T.d_upward) (ps := P_upward) (F := F_upward) ?_ ?_ ?_ ?_ ?_ ?_ ?_ ?_; exact d_upward T; exact hr.mono (by decide); exact rfl; exact T.g_upward; exact T.F_upward.kp; exact b_upward T; exact (wok_takes (takes_of rfl rfl rfl rfl)); exact (ad_cons (pd_var 0) ad_nil))))))))
def B_divisor_and_factor : DS := (sSeq (sMul [2, 3] (mVal (eVar 0) (mVal (eVar 1) aNil))) (sSeq (sMul [4, 5] (mVal (eC (.int 1)) (mVal (eC (.int 0)) aNil))) (sSeq (whileD (tE (eBin fNe (eVar 3) (eC (.int 0)))) (sSeq (sAsg 6 (eBin fDiv (eVar 2) (eVar 3))) (sSeq (sMul [2, 3] (mVal (eVar 3) (mVal (eBin fSub (eVar 2) (eBin fMul (eVar 6) (eVar 3))) aNil))) (sMul [4, 5] (mVal (eVar 5) (mVal (eBin fSub (eVar 4) (eBin fMul (eVar 6) (eVar 5))) aNil))))) 100000000) (sRet (eTup (aCons (eVar 2) (aCons (eVar 4) aNil)))))))
def F_divisor_and_factor : DF := runB 7 2 B_divisor_and_factor
theorem d_divisor_and_factor (T : Txt K mg) : FnD P w K mg base 1 T.a_divisor_and_factor T.d_divisor_and_factor P_divisor_and_factor F_divisor_and_factor := fnD T.F_divisor_and_factor sc_divisor_and_factor (by decide) B_divisor_and_factor (fun cdv A outer s H E hr => (sd_cons (sd_par2 (ps_par rfl sc_divisor_and_factor.nd rfl rfl (by decide) rfl rfl (md_val (pd_var 0) (md_val (pd_var 1) md_nil)) rfl)) (sd_cons (sd_multi (ps_asg (pe_tup (md_val pd_int (md_val pd_int md_nil))) (pg_tup rfl (pgs_cons (pg_name (i := 4) sc_divisor_and_factor.nd rfl (Or.inl rfl)) (pgs_cons (pg_name (i := 5) sc_divisor_and_factor.nd rfl (Or.inl rfl)) pgs_nil)))) rfl (by decide)) (sd_cons (sd_while 100000000 (passes_of rfl) (qd_ne hr.units (pd_var 3) pd_int) (sd_cons (sd_asg (ps_set (i := 6) sc_divisor_and_factor.nd rfl (Or.inl rfl) (pd_div (pd_var 2) (pd_var 3)))) (sd_cons (sd_par2 (ps_par rfl sc_divisor_and_factor.nd rfl rfl (by decide) rfl rfl (md_val (pd_var 3) (md_val (pd_sub (pd_var 2) (pd_mul (pd_var 6) (pd_var 3))) md_nil)) rfl)) (sd_one (sd_par2 (ps_par rfl sc_divisor_and_factor.nd rfl rfl (by decide) rfl rfl (md_val (pd_var 5) (md_val (pd_sub (pd_var 4) (pd_mul (pd_var 6) (pd_var 5))) md_nil)) rfl)))))) (sd_one (sd_ret (pd_tup (ad_cons (pd_var 2) (ad_cons (pd_var 4) ad_nil)))))))))
def B_met_of : DS := (sSeq (sTg (gT (gCons' (gN 2) (gCons' (gN 3) (gCons' (gN 4) gNil'))) 3) (eCall 1 F_upward (aCons (eVar 0) aNil))) (sSeq (sTg (gT (gCons' (gN 5) (gCons' (gN 6) (gCons' (gN 7) gNil'))) 3) (eCall 1 F_upward (aCons (eVar 1) aNil))) (sSeq (sTg (gT (gCons' (gN 8) (gCons' (gN 9) gNil')) 2) (eCall 2 F_divisor_and_factor (aCons (eVar 4) (aCons (eVar 7) aNil)))) (sSeq (sIf (tE (eBin fNe (eBin fMod (eBin fSub (eVar 5) (eVar 2)) (eVar 8)) (eC (.int 0)))) (sRet (eTup (aCons (eC (.int 0)) (aCons (eUn fNeg (eC (.int 1))) (aCons (eC (.int 1)) aNil))))) sNx) (sSeq (sAsg 10 (eBin fMul (eBin fDiv (eBin fSub (eVar 5) (eVar 2)) (eVar 8)) (eVar 9))) (sSeq (sAsg 11 (eBin fMul (eVar 4) (eBin fDiv (eVar 7) (eVar 8)))) (sSeq (sAsg 12 (eCB fMax2 (aCons (eVar 2) (aCons (eVar 5) aNil)))) (sSeq (sAsg 13 (eBin fAdd (eVar 12) (eBin fMod (eBin fSub (eBin fAdd (eVar 2) (eBin fMul (eVar 4) (eVar 10))) (eVar 12)) (eVar 11)))) (sRet (eCall 1 F_normal_of (aCons (eTup (aCons (eVar 13) (aCons (eCB fMin2 (aCons (eVar 3) (aCons (eVar 6) aNil))) (aCons (eVar 11) aNil)))) aNil)))))))))))
def F_met_of : DF := runB 14 2 B_met_of
theorem d_met_of (T : Txt K mg) : FnD P w K mg base 5 T.a_met_of T.d_met_of P_met_of F_met_of := fnD T.F_met_of sc_met_of (by decide) B_met_of (fun cdv A outer s H E hr => (sd_cons (sd_tg (vs := [2, 3, 4]) (ps_asg (by refine pd_call (k := 3) (f := T.a_upward) (fd := T.d_upward) (ps := P_upward) (F := F_upward) ?_ ?_ ?_ ?_ ?_ ?_ ?_ ?_; exact d_upward T; exact hr.mono (by decide); exact rfl; exact T.g_upward; exact T.F_upward.kp; exact b_upward T; exact (wok_takes (takes_of rfl rfl rfl rfl)); exact (ad_cons (pd_var 0) ad_nil)) (gd_tup rfl (gd_cons (gd_name (i := 2) sc_met_of.nd rfl (Or.inl rfl) (by decide)) (gd_cons (gd_name (i := 3) sc_met_of.nd rfl (Or.inl rfl) (by decide)) (gd_cons (gd_name (i := 4) sc_met_of.nd rfl (Or.inl rfl) (by decide)) gd_nil)))))) (sd_cons (sd_tg (vs := [5, 6, 7]) (ps_asg (by refine pd_call (k := 3) (f := T.a_upward) (fd := T.d_upward) (ps := P_upward) (F := F_upward) ?_ ?_ ?_ ?_ ?_ ?_ ?_ ?_; exact d_upward T; exact hr.mono (by decide); exact rfl; exact T.g_upward; exact T.F_upward.kp; exact b_upward T; exact (wok_takes (takes_of rfl rfl rfl rfl)); exact (ad_cons (pd_var 1) ad_nil)) (gd_tup rfl (gd_cons (gd_name (i := 5) sc_met_of.nd rfl (Or.inl rfl) (by decide)) (gd_cons (gd_name (i := 6) sc_met_of.nd rfl (Or.inl rfl) (by decide)) (gd_cons (gd_name (i := 7) sc_met_of.nd rfl (Or.inl rfl) (by decide)) gd_nil)))))) (sd_cons (sd_tg (vs := [8, 9]) (ps_asg (by refine pd_call (k := 1) (f := T.a_divisor_and_factor) (fd := T.d_divisor_and_factor) (ps := P_divisor_and_factor) (F := F_divisor_and_factor) ?_ ?_ ?_ ?_ ?_ ?_ ?_ ?_; exact d_divisor_and_factor T; exact hr.mono (by decide); exact rfl; exact T.g_divisor_and_factor; exact T.F_divisor_and_factor.kp; exact b_divisor_and_factor T; exact (wok_takes (takes_of rfl rfl rfl rfl)); exact (ad_cons (pd_var 4) (ad_cons (pd_var 7) ad_nil))) (gd_tup rfl (gd_cons (gd_name (i := 8) sc_met_of.nd rfl (Or.inl rfl) (by decide)) (gd_cons (gd_name (i := 9) sc_met_of.nd rfl (Or.inl rfl) (by decide)) gd_nil))))) (sd_cons (sd_if (qd_ne hr.units (pd_mod (pd_sub (pd_var 5) (pd_var 2)) (pd_var 8)) pd_int) (sd_one (sd_ret (pd_tup (ad_cons pd_int (ad_cons (pd_neg pd_int) (ad_cons pd_int ad_nil)))))) sd_nil) (sd_cons (sd_asg (ps_set (i := 10) sc_met_of.nd rfl (Or.inl rfl) (pd_mul (pd_div (pd_sub (pd_var 5) (pd_var 2)) (pd_var 8)) (pd_var 9)))) (sd_cons (sd_asg (ps_set (i := 11) sc_met_of.nd rfl (Or.inl rfl) (pd_mul (pd_var 4) (pd_div (pd_var 7) (pd_var 8))))) (sd_cons (sd_asg (ps_set (i := 12) sc_met_of.nd rfl (Or.inl rfl) (pd_cb (call_max2 rfl) cd_max2 (by rfl) T.z_max (by decide +kernel) (ad_cons (pd_var 2) (ad_cons (pd_var 5) ad_nil))))) (sd_cons (sd_asg (ps_set (i := 13) sc_met_of.nd rfl (Or.inl rfl) (pd_add (pd_var 12) (pd_mod (pd_sub (pd_add (pd_var 2) (pd_mul (pd_var 4) (pd_var 10))) (pd_var 12)) (pd_var 11))))) (sd_one (sd_ret (by refine pd_call (k := 4) (f := T.a_normal_of) (fd := T.d_normal_of) (ps := P_normal_of) (F := F_normal_of) ?_ ?_ ?_ ?_ ?_ ?_ ?_ ?_; exact d_normal_of T; exact hr.mono (by decide); exact rfl; exact T.g_normal_of; exact T.F_normal_of.kp; exact b_normal_of T; exact (wok_takes (takes_of rfl rfl rfl rfl)); exact (ad_cons (pd_tup (ad_cons (pd_var 13) (ad_cons (pd_cb (call_min2 rfl) cd_min2 (by rfl) T.z_min (by decide +kernel) (ad_cons (pd_var 3) (ad_cons (pd_var 6) ad_nil))) (ad_cons (pd_var 11) ad_nil)))) ad_nil)))))))))))))
def B_check_triplet : DS := (sIf (tNo (tTr (eCall 1 F_is_triplet (aCons (eVar 0) aNil)))) sNever sNx)
def F_check_triplet : DF := runB 2 2 B_check_triplet
theorem d_check_triplet (T : Txt K mg) : FnD P w K mg base 4 T.a_check_triplet T.d_check_triplet P_check_triplet F_check_triplet := fnD T.F_check_triplet sc_check_triplet (by decide) B_check_triplet (fun cdv A outer s H E hr => (sd_one (sd_if (qd_not (qd_tr (by refine pd_call (k := 3) (f := T.a_is_triplet) (fd := T.d_is_triplet) (ps := P_is_triplet) (F := F_is_triplet) ?_ ?_ ?_ ?_ ?_ ?_ ?_ ?_; exact d_is_triplet T; exact hr.mono (by decide); exact rfl; exact T.g_is_triplet; exact T.F_is_triplet.kp; exact b_is_triplet T; exact (wok_takes (takes_of rfl rfl rfl rfl)); exact (ad_cons (pd_var 0) ad_nil)))) (sd_one sd_never) sd_nil)))
def B_check_two : DS := (sSeq (sDrop (eCall 2 F_check_triplet (aCons (eVar 0) (aCons (eC (.str "one")) aNil)))) (sDrop (eCall 2 F_check_triplet (aCons (eVar 1) (aCons (eC (.str "other")) aNil)))))
def F_check_two : DF := runB 2 2 B_check_two
theorem d_check_two (T : Txt K mg) : FnD P w K mg base 5 T.a_check_two T.d_check_two P_check_two F_check_two := fnD T.F_check_two sc_check_two (by decide) B_check_two (fun cdv A outer s H E hr => (sd_cons (sd_expr (by refine pd_call (k := 4) (f := T.a_check_triplet) (fd := T.d_check_triplet) (ps := P_check_triplet) (F := F_check_triplet) ?_ ?_ ?_ ?_ ?_ ?_ ?_ ?_; exact d_check_triplet T; exact hr.mono (by decide); exact rfl; exact T.g_check_triplet; exact T.F_check_triplet.kp; exact b_check_triplet T; exact (wok_takes (takes_of rfl rfl rfl rfl)); exact (ad_cons (pd_var 0) (ad_cons pd_str ad_nil)))) (sd_one (sd_expr (by refine pd_call (k := 4) (f := T.a_check_triplet) (fd := T.d_check_triplet) (ps := P_check_triplet) (F := F_check_triplet) ?_ ?_ ?_ ?_ ?_ ?_ ?_ ?_; exact d_check_triplet T; exact hr.mono (by decide); exact rfl; exact T.g_check_triplet; exact T.F_check_triplet.kp; exact b_check_triplet T; exact (wok_takes (takes_of rfl rfl rfl rfl)); exact (ad_cons (pd_var 1) (ad_cons pd_str ad_nil)))))))
def B_met : DS := (sSeq (sDrop (eCall 2 F_check_two (aCons (eVar 0) (aCons (eVar 1) aNil)))) (sRet (eCall 2 F_met_of (aCons (eVar 0) (aCons (eVar 1) aNil)))))
def F_met : DF := runB 2 2 B_met
theorem d_met (T : Txt K mg) : FnD P w K mg base 6 T.a_met T.d_met P_met F_met := fnD T.F_met sc_met (by decide) B_met (fun cdv A outer s H E hr => (sd_cons (sd_expr (by refine pd_call (k := 5) (f := T.a_check_two) (fd := T.d_check_two) (ps := P_check_two) (F := F_check_two) ?_ ?_ ?_ ?_ ?_ ?_ ?_ ?_; exact d_check_two T; exact hr.mono (by decide); exact rfl; exact T.g_check_two; exact T.F_check_two.kp; exact b_check_two T; exact (wok_takes (takes_of rfl rfl rfl rfl)); exact (ad_cons (pd_var 0) (ad_cons (pd_var 1) ad_nil)))) (sd_one (sd_ret (by refine pd_call (k := 5) (f := T.a_met_of) (fd := T.d_met_of) (ps := P_met_of) (F := F_met_of) ?_ ?_ ?_ ?_ ?_ ?_ ?_ ?_; exact d_met_of T; exact hr.mono (by decide); exact rfl; exact T.g_met_of; exact T.F_met_of.kp; exact b_met_of T; exact (wok_takes (takes_of rfl rfl rfl rfl)); exact (ad_cons (pd_var 0) (ad_cons (pd_var 1) ad_nil)))))))
def B_lies_in : DS := (sSeq (sDrop (eCall 2 F_check_two (aCons (eVar 0) (aCons (eVar 1) aNil)))) (sRet (eCall 2 F_covers (aCons (eVar 1) (aCons (eVar 0) aNil)))))
def F_lies_in : DF := runB 2 2 B_lies_in
theorem d_lies_in (T : Txt K mg) : FnD P w K mg base 6 T.a_lies_in T.d_lies_in P_lies_in F_lies_in := fnD T.F_lies_in sc_lies_in (by decide) B_lies_in (fun cdv A outer s H E hr => (sd_cons (sd_expr (by refine pd_call (k := 5) (f := T.a_check_two) (fd := T.d_check_two) (ps := P_check_two) (F := F_check_two) ?_ ?_ ?_ ?_ ?_ ?_ ?_ ?_; exact d_check_two T; exact hr.mono (by decide); exact rfl; exact T.g_check_two; exact T.F_check_two.kp; exact b_check_two T; exact (wok_takes (takes_of rfl rfl rfl rfl)); exact (ad_cons (pd_var 0) (ad_cons (pd_var 1) ad_nil)))) (sd_one (sd_ret (by refine pd_call (k := 4) (f := T.a_covers) (fd := T.d_covers) (ps := P_covers) (F := F_covers) ?_ ?_ ?_ ?_ ?_ ?_ ?_ ?_; exact d_covers T; exact hr.mono (by decide); exact rfl; exact T.g_covers; exact T.F_covers.kp; exact b_covers T; exact (wok_takes (takes_of rfl rfl rfl rfl)); exact (ad_cons (pd_var 1) (ad_cons (pd_var 0) ad_nil)))))))
def B_w_draw : DS := (sSeq (sIf (tE (eBin fGt (eBin fIx (eVar 0) (eC (.int 0))) (eC (.int 0)))) (sSeq (sAsg 2 (eBin fMod (eCB fInt (aCons (eBin fIx (eVar 0) (eC (.int 0))) aNil)) (eVar 1))) (sSeq (sSetW (eVar 0) (eC (.int 0)) (eBin fDiv (eBin fIx (eVar 0) (eC (.int 0))) (eVar 1))) (sRet (eVar 2)))) sNx) (sSeq (sSetW (eVar 0) (eC (.int 2)) (eBin fAdd (eBin fIx (eVar 0) (eC (.int 2))) (eC (.int 1)))) (sSeq (sAsg 3 (eBin fMod (eCB fInt (aCons (eBin fMul (eBin fAdd (eBin fAdd (eBin fIx (eVar 0) (eC (.int 1))) (eBin fMul (eC (.int 50021)) (eBin fIx (eVar 0) (eC (.int 2))))) (eC (.int 73))) (eC (.int 40692))) aNil)) (eC (.int 2147483629)))) (sSeq (sAsg 3 (eBin fMod (eCB fInt (aCons (eBin fMul (eVar 3) (eBin fAdd (eBin fDiv (eVar 3) (eC (.int 1031))) (eC (.int 69621)))) aNil)) (eC (.int 2147483579)))) (sRet (eBin fMod (eCB fInt (aCons (eBin fDiv (eBin fMod (eCB fInt (aCons (eBin fMul (eVar 3) (eBin fAdd (eBin fDiv (eVar 3) (eC (.int 2017))) (eC (.int 48271)))) aNil)) (eC (.int 2147483549))) (eC (.int 13))) aNil)) (eVar 1)))))))
def F_w_draw : DF := runB 4 2 B_w_draw
theorem d_w_draw (T : Txt K mg) : FnD P w K mg base 1 T.a_w_draw T.d_w_draw P_w_draw F_w_draw := fnD T.F_w_draw sc_w_draw (by decide) B_w_draw (fun cdv A outer s H E hr => (sd_cons (sd_if (qd_gt (pd_ix (pd_var 0) pd_int) pd_int) (sd_cons (sd_asg (ps_set (i := 2) sc_w_draw.nd rfl (Or.inl rfl) (pd_mod (pd_ct call_int1 cd_int (by rfl) T.z_int (by decide +kernel) (ad_cons (pd_ix (pd_var 0) pd_int) ad_nil)) (pd_var 1)))) (sd_cons (sd_setW (ps_asg (pd_div (pd_ix (pd_var 0) pd_int) (pd_var 1)) (pg_sub (pd_var 0) pd_int set_list))) (sd_one (sd_ret (pd_var 2))))) sd_nil) (sd_cons (sd_setW (ps_asg (pd_add (pd_ix (pd_var 0) pd_int) pd_int) (pg_sub (pd_var 0) pd_int set_list))) (sd_cons (sd_asg (ps_set (i := 3) sc_w_draw.nd rfl (Or.inl rfl) (pd_mod (pd_ct call_int1 cd_int (by rfl) T.z_int (by decide +kernel) (ad_cons (pd_mul (pd_add (pd_add (pd_ix (pd_var 0) pd_int) (pd_mul pd_int (pd_ix (pd_var 0) pd_int))) pd_int) pd_int) ad_nil)) pd_int))) (sd_cons (sd_asg (ps_set (i := 3) sc_w_draw.nd rfl (Or.inl rfl) (pd_mod (pd_ct call_int1 cd_int (by rfl) T.z_int (by decide +kernel) (ad_cons (pd_mul (pd_var 3) (pd_add (pd_div (pd_var 3) pd_int) pd_int)) ad_nil)) pd_int))) (sd_one (sd_ret (pd_mod (pd_ct call_int1 cd_int (by rfl) T.z_int (by decide +kernel) (ad_cons (pd_div (pd_mod (pd_ct call_int1 cd_int (by rfl) T.z_int (by decide +kernel) (ad_cons (pd_mul (pd_var 3) (pd_add (pd_div (pd_var 3) pd_int) pd_int)) ad_nil)) pd_int) pd_int) ad_nil)) (pd_var 1)))))))))
def B_w_pick : DS := (sRet (eBin fIx (eVar 1) (eCall 2 F_w_draw (aCons (eVar 0) (aCons (eCB fLen (aCons (eVar 1) aNil)) aNil)))))
def F_w_pick : DF := runB 2 2 B_w_pick
theorem d_w_pick (T : Txt K mg) : FnD P w K mg base 2 T.a_w_pick T.d_w_pick P_w_pick F_w_pick := fnD T.F_w_pick sc_w_pick (by decide) B_w_pick (fun cdv A outer s H E hr => (sd_one (sd_ret (pd_ix (pd_var 1) (by refine pd_call (k := 1) (f := T.a_w_draw) (fd := T.d_w_draw) (ps := P_w_draw) (F := F_w_draw) ?_ ?_ ?_ ?_ ?_ ?_ ?_ ?_; exact d_w_draw T; exact hr.mono (by decide); exact rfl; exact T.g_w_draw; exact T.F_w_draw.kp; exact b_w_draw T; exact (wok_takes (takes_of rfl rfl rfl rfl)); exact (ad_cons (pd_var 0) (ad_cons (pd_cb call_len cd_len (by rfl) T.z_len (by decide +kernel) (ad_cons (pd_var 1) ad_nil)) ad_nil)))))))
def B_w_members : DS := (sSeq (sNew 1 (aLst aNil)) (sSeq (sFor (iRng1 (aCons (eC (.int 200)) aNil)) (gN 2) (sSeq (sAsg 3 (eBin fAdd (eBin fIx (eVar 0) (eC (.int 0))) (eBin fMul (eVar 2) (eBin fIx (eVar 0) (eC (.int 2)))))) (sSeq (sIf (tOn (tAn (tE (eBin fGt (eBin fIx (eVar 0) (eC (.int 2))) (eC (.int 0)))) (tE (eBin fGt (eVar 3) (eBin fIx (eVar 0) (eC (.int 1)))))) (tAn (tE (eBin fLt (eBin fIx (eVar 0) (eC (.int 2))) (eC (.int 0)))) (tE (eBin fLt (eVar 3) (eBin fIx (eVar 0) (eC (.int 1))))))) (sFrz 1 (sRet (eVar 1))) sNx) (sApp 1 (eVar 3))))) (sFrz 1 (sRet (eVar 1)))))
def F_w_members : DF := runB 4 1 B_w_members
theorem d_w_members (T : Txt K mg) : FnD P w K mg base 1 T.a_w_members T.d_w_members P_w_members F_w_members := fnD T.F_w_members sc_w_members (by decide) B_w_members (fun cdv A outer s H E hr => (sd_cons (sd_new (ps_set (i := 1) sc_w_members.nd rfl (Or.inl rfl) (pl_lst ad_nil))) (sd_cons (sd_for (vs := [2]) (passes_of rfl) rfl (id_rng1 (by rfl) T.z_range (ad_cons pd_int ad_nil)) (gd_name (i := 2) sc_w_members.nd rfl (Or.inl rfl) (by decide)) (sd_cons (sd_asg (ps_set (i := 3) sc_w_members.nd rfl (Or.inl rfl) (pd_add (pd_ix (pd_var 0) pd_int) (pd_mul (pd_var 2) (pd_ix (pd_var 0) pd_int))))) (sd_cons (sd_if (qd_or (qd_and (qd_gt (pd_ix (pd_var 0) pd_int) pd_int) (qd_and1 (qd_gt (pd_var 3) (pd_ix (pd_var 0) pd_int)))).pt (qd_or1 (qd_and (qd_lt (pd_ix (pd_var 0) pd_int) pd_int) (qd_and1 (qd_lt (pd_var 3) (pd_ix (pd_var 0) pd_int)))).pt)).pt (sd_frz 1 (sd_one (sd_ret (pd_var 1)))) sd_nil) (sd_one (sd_app (ps_expr (pe_bm PySem.F.plainAttrs_list PySem.F.slot_list_append PySem.F.type_list_append mt_append (pv 1) (pa_cons (pd_var 3) pa_nil)))))))) (sd_frz 1 (sd_one (sd_ret (pd_var 1)))))))
def B_w_near : DS := (sSeq (sAsg 1 (eBin fAdd (eC (.int 1)) (eCall 2 F_w_pick (aCons (eVar 0) (aCons (eL (aLst (aCons (eC (.int 0)) (aCons (eC (.int 0)) (aCons (eC (.int 1)) (aCons (eC (.int 2)) (aCons (eC (.int 3)) (aCons (eC (.int 4)) (aCons (eC (.int 5)) (aCons (eC (.int 8)) aNil)))))))))) aNil))))) (sSeq (sAsg 2 (eBin fSub (eCall 2 F_w_draw (aCons (eVar 0) (aCons (eC (.int 41)) aNil))) (eC (.int 20)))) (sSeq (sAsg 3 (eBin fSub (eBin fAdd (eVar 2) (eCall 2 F_w_draw (aCons (eVar 0) (aCons (eC (.int 61)) aNil)))) (eC (.int 20)))) (sRet (eIf (tE (eBin fEq (eCall 2 F_w_draw (aCons (eVar 0) (aCons (eC (.int 2)) aNil))) (eC (.int 0)))) (eTup (aCons (eVar 2) (aCons (eVar 3) (aCons (eVar 1) aNil)))) (eTup (aCons (eVar 3) (aCons (eVar 2) (aCons (eBin fSub (eC (.int 0)) (eVar 1)) aNil)))))))))
def F_w_near : DF := runB 4 1 B_w_near
theorem d_w_near (T : Txt K mg) : FnD P w K mg base 3 T.a_w_near T.d_w_near P_w_near F_w_near := fnD T.F_w_near sc_w_near (by decide) B_w_near (fun cdv A outer s H E hr => (sd_cons (sd_asg (ps_set (i := 1) sc_w_near.nd rfl (Or.inl rfl) (pd_add pd_int (by refine pd_call (k := 2) (f := T.a_w_pick) (fd := T.d_w_pick) (ps := P_w_pick) (F := F_w_pick) ?_ ?_ ?_ ?_ ?_ ?_ ?_ ?_; exact d_w_pick T; exact hr.mono (by decide); exact rfl; exact T.g_w_pick; exact T.F_w_pick.kp; exact b_w_pick T; exact (wok_takes (takes_of rfl rfl rfl rfl)); exact (ad_cons (pd_var 0) (ad_cons (pd_L (pl_lst (ad_cons pd_int (ad_cons pd_int (ad_cons pd_int (ad_cons pd_int (ad_cons pd_int (ad_cons pd_int (ad_cons pd_int (ad_cons pd_int ad_nil)))))))))) ad_nil)))))) (sd_cons (sd_asg (ps_set (i := 2) sc_w_near.nd rfl (Or.inl rfl) (pd_sub (by refine pd_call (k := 1) (f := T.a_w_draw) (fd := T.d_w_draw) (ps := P_w_draw) (F := F_w_draw) ?_ ?_ ?_ ?_ ?_ ?_ ?_ ?_; exact d_w_draw T; exact hr.mono (by decide); exact rfl; exact T.g_w_draw; exact T.F_w_draw.kp; exact b_w_draw T; exact (wok_takes (takes_of rfl rfl rfl rfl)); exact (ad_cons (pd_var 0) (ad_cons pd_int ad_nil))) pd_int))) (sd_cons (sd_asg (ps_set (i := 3) sc_w_near.nd rfl (Or.inl rfl) (pd_sub (pd_add (pd_var 2) (by refine pd_call (k := 1) (f := T.a_w_draw) (fd := T.d_w_draw) (ps := P_w_draw) (F := F_w_draw) ?_ ?_ ?_ ?_ ?_ ?_ ?_ ?_; exact d_w_draw T; exact hr.mono (by decide); exact rfl; exact T.g_w_draw; exact T.F_w_draw.kp; exact b_w_draw T; exact (wok_takes (takes_of rfl rfl rfl rfl)); exact (ad_cons (pd_var 0) (ad_cons pd_int ad_nil)))) pd_int))) (sd_one (sd_ret (pd_if (qd_eq hr.units (by refine pd_call (k := 1) (f := T.a_w_draw) (fd := T.d_w_draw) (ps := P_w_draw) (F := F_w_draw) ?_ ?_ ?_ ?_ ?_ ?_ ?_ ?_; exact d_w_draw T; exact hr.mono (by decide); exact rfl; exact T.g_w_draw; exact T.F_w_draw.kp; exact b_w_draw T; exact (wok_takes (takes_of rfl rfl rfl rfl)); exact (ad_cons (pd_var 0) (ad_cons pd_int ad_nil))) pd_int) (pd_tup (ad_cons (pd_var 2) (ad_cons (pd_var 3) (ad_cons (pd_var 1) ad_nil)))) (pd_tup (ad_cons (pd_var 3) (ad_cons (pd_var 2) (ad_cons (pd_sub pd_int (pd_var 1)) ad_nil)))))))))))
def B_w_shown : DS := (sSeq (sIf (tE (eBin fEq (eVar 0) (eL (aLst aNil)))) (sRet (eTup (aCons (eC (.int 0)) (aCons (eUn fNeg (eC (.int 1))) (aCons (eC (.int 1)) aNil))))) sNx) (sRet (eTup (aCons (eBin fIx (eVar 0) (eC (.int 0))) (aCons (eBin fIx (eVar 0) (eUn fNeg (eC (.int 1)))) (aCons (eIf (tE (eBin fGt (eCB fLen (aCons (eVar 0) aNil)) (eC (.int 1)))) (eBin fSub (eBin fIx (eVar 0) (eC (.int 1))) (eBin fIx (eVar 0) (eC (.int 0)))) (eC (.int 1))) aNil))))))
def F_w_shown : DF := runB 1 1 B_w_shown
theorem d_w_shown (T : Txt K mg) : FnD P w K mg base 1 T.a_w_shown T.d_w_shown P_w_shown F_w_shown := fnD T.F_w_shown sc_w_shown (by decide) B_w_shown (fun cdv A outer s H E hr => (sd_cons (sd_if (qd_eq hr.units (pd_var 0) (pd_L (pl_lst ad_nil))) (sd_one (sd_ret (pd_tup (ad_cons pd_int (ad_cons (pd_neg pd_int) (ad_cons pd_int ad_nil)))))) sd_nil) (sd_one (sd_ret (pd_tup (ad_cons (pd_ix (pd_var 0) pd_int) (ad_cons (pd_ix (pd_var 0) (pd_neg pd_int)) (ad_cons (pd_if (qd_gt (pd_cb call_len cd_len (by rfl) T.z_len (by decide +kernel) (ad_cons (pd_var 0) ad_nil)) pd_int) (pd_sub (pd_ix (pd_var 0) pd_int) (pd_ix (pd_var 0) pd_int)) pd_int) ad_nil))))))))
def B_w_count : DS := (sSeq (sAsg 1 (eIf (tE (eBin fGt (eBin fIx (eVar 0) (eC (.int 2))) (eC (.int 0)))) (eBin fSub (eBin fIx (eVar 0) (eC (.int 1))) (eBin fIx (eVar 0) (eC (.int 0)))) (eBin fSub (eBin fIx (eVar 0) (eC (.int 0))) (eBin fIx (eVar 0) (eC (.int 1)))))) (sRet (eIf (tE (eBin fGe (eVar 1) (eC (.int 0)))) (eBin fAdd (eBin fDiv (eVar 1) (eCB fAbs (aCons (eBin fIx (eVar 0) (eC (.int 2))) aNil))) (eC (.int 1))) (eC (.int 0)))))
def F_w_count : DF := runB 2 1 B_w_count
theorem d_w_count (T : Txt K mg) : FnD P w K mg base 1 T.a_w_count T.d_w_count P_w_count F_w_count := fnD T.F_w_count sc_w_count (by decide) B_w_count (fun cdv A outer s H E hr => (sd_cons (sd_asg (ps_set (i := 1) sc_w_count.nd rfl (Or.inl rfl) (pd_if (qd_gt (pd_ix (pd_var 0) pd_int) pd_int) (pd_sub (pd_ix (pd_var 0) pd_int) (pd_ix (pd_var 0) pd_int)) (pd_sub (pd_ix (pd_var 0) pd_int) (pd_ix (pd_var 0) pd_int))))) (sd_one (sd_ret (pd_if (qd_ge (pd_var 1) pd_int) (pd_add (pd_div (pd_var 1) (pd_cb call_abs cd_abs (by rfl) T.z_abs (by decide +kernel) (ad_cons (pd_ix (pd_var 0) pd_int) ad_nil))) pd_int) pd_int)))))
def B_w_near_right : DS := (sSeq (sMul [1, 2] (mVal (eCall 1 F_w_near (aCons (eVar 0) aNil)) (mVal (eCall 1 F_w_near (aCons (eVar 0) aNil)) aNil))) (sSeq (sMul [3, 4] (mVal (eCall 1 F_w_members (aCons (eVar 1) aNil)) (mVal (eCall 1 F_w_members (aCons (eVar 2) aNil)) aNil))) (sSeq (sAsg 5 (eL (aLc (iSeq (eL (eCBL fSorted (aCons (eVar 3) aNil)))) (gN 6) (tE (eBin fIn (eVar 6) (eVar 4))) (eVar 6) [6]))) (sSeq (sIf (tOn (tE (eBin fNe (eCall 2 F_met (aCons (eVar 1) (aCons (eVar 2) aNil))) (eCall 1 F_w_shown (aCons (eVar 5) aNil)))) (tE (eBin fNe (eCall 2 F_met (aCons (eVar 2) (aCons (eVar 1) aNil))) (eCall 1 F_w_shown (aCons (eVar 5) aNil))))) (sRet (eC (.bl false))) sNx) (sRet (eBin fEq (eL (aLst (aCons (eCall 2 F_lies_in (aCons (eVar 1) (aCons (eVar 2) aNil))) (aCons (eCall 2 F_lies_in (aCons (eVar 2) (aCons (eVar 1) aNil))) aNil)))) (eL (aLst (aCons (eBin fEq (eCB fLen (aCons (eVar 5) aNil)) (eCB fLen (aCons (eVar 3) aNil))) (aCons (eBin fEq (eCB fLen (aCons (eVar 5) aNil)) (eCB fLen (aCons (eVar 4) aNil))) aNil))))))))))
def F_w_near_right : DF := runB 7 1 B_w_near_right
theorem d_w_near_right (T : Txt K mg) : FnD P w K mg base 7 T.a_w_near_right T.d_w_near_right P_w_near_right F_w_near_right := fnD T.F_w_near_right sc_w_near_right (by decide) B_w_near_right (fun cdv A outer s H E hr => (sd_cons (sd_par2 (ps_par rfl sc_w_near_right.nd rfl rfl (by decide) rfl rfl (md_val (by refine pd_call (k := 3) (f := T.a_w_near) (fd := T.d_w_near) (ps := P_w_near) (F := F_w_near) ?_ ?_ ?_ ?_ ?_ ?_ ?_ ?_; exact d_w_near T; exact hr.mono (by decide); exact rfl; exact T.g_w_near; exact T.F_w_near.kp; exact b_w_near T; exact (wok_takes (takes_of rfl rfl rfl rfl)); exact (ad_cons (pd_var 0) ad_nil)) (md_val (by refine pd_call (k := 3) (f := T.a_w_near) (fd := T.d_w_near) (ps := P_w_near) (F := F_w_near) ?_ ?_ ?_ ?_ ?_ ?_ ?_ ?_; exact d_w_near T; exact hr.mono (by decide); exact rfl; exact T.g_w_near; exact T.F_w_near.kp; exact b_w_near T; exact (wok_takes (takes_of rfl rfl rfl rfl)); exact (ad_cons (pd_var 0) ad_nil)) md_nil)) rfl)) (sd_cons (sd_multi (ps_asg (pe_tup (md_val (by refine pd_call (k := 1) (f := T.a_w_members) (fd := T.d_w_members) (ps := P_w_members) (F := F_w_members) ?_ ?_ ?_ ?_ ?_ ?_ ?_ ?_; exact d_w_members T; exact hr.mono (by decide); exact rfl; exact T.g_w_members; exact T.F_w_members.kp; exact b_w_members T; exact (wok_takes (takes_of rfl rfl rfl rfl)); exact (ad_cons (pd_var 1) ad_nil)) (md_val (by refine pd_call (k := 1) (f := T.a_w_members) (fd := T.d_w_members) (ps := P_w_members) (F := F_w_members) ?_ ?_ ?_ ?_ ?_ ?_ ?_ ?_; exact d_w_members T; exact hr.mono (by decide); exact rfl; exact T.g_w_members; exact T.F_w_members.kp; exact b_w_members T; exact (wok_takes (takes_of rfl rfl rfl rfl)); exact (ad_cons (pd_var 2) ad_nil)) md_nil))) (pg_tup rfl (pgs_cons (pg_name (i := 3) sc_w_near_right.nd rfl (Or.inl rfl)) (pgs_cons (pg_name (i := 4) sc_w_near_right.nd rfl (Or.inr rfl)) pgs_nil)))) rfl (by decide)) (sd_cons (by first | exact sd_asg (asg_weak (ps_setLc (own := [("_law_number", 6)]) (i := 5) rfl sc_w_near_right.nd rfl rfl rfl (id_seq (pd_L (pl_cb cr_sortedI cl_sorted (by rfl) T.z_sorted (by decide +kernel) (ad_cons (pd_var 3) ad_nil)))) (blkOk_by (own := [("_law_number", 6)]) (N := N_w_near_right) (sc := defScope s_w_near_right) (by decide +kernel)) (fun _ _ _ _ _ => (gd_name (i := 6) sc_w_near_right.nd rfl (Or.inl rfl) (by decide))) (fun _ _ _ _ _ => (td_one (qd_in (units65 hr) (pd_var 6) (pd_var 4)))) (fun _ _ _ _ _ => (pd_var 6))) (fun _ _ _ h => lc_ok (eL_ok h))) | exact sd_asg (ps_set (i := 5) sc_w_near_right.nd rfl (Or.inl rfl) (pd_L (pl_lc (own := [("_law_number", 6)]) rfl sc_w_near_right.nd (id_seq (pd_L (pl_cb cr_sortedI cl_sorted (by rfl) T.z_sorted (by decide +kernel) (ad_cons (pd_var 3) ad_nil)))) (blkOk_by (own := [("_law_number", 6)]) (N := N_w_near_right) (sc := defScope s_w_near_right) (by decide +kernel)) (fun _ _ _ _ _ => (gd_name (i := 6) sc_w_near_right.nd rfl (Or.inl rfl) (by decide))) (fun _ _ _ _ _ => (td_one (qd_in (units65 hr) (pd_var 6) (pd_var 4)))) (fun _ _ _ _ _ => (pd_var 6)))))) (sd_cons (sd_if (qd_or (qd_ne hr.units (by refine pd_call (k := 6) (f := T.a_met) (fd := T.d_met) (ps := P_met) (F := F_met) ?_ ?_ ?_ ?_ ?_ ?_ ?_ ?_; exact d_met T; exact hr.mono (by decide); exact rfl; exact T.g_met; exact T.F_met.kp; exact b_met T; exact (wok_takes (takes_of rfl rfl rfl rfl)); exact (ad_cons (pd_var 1) (ad_cons (pd_var 2) ad_nil))) (by refine pd_call (k := 1) (f := T.a_w_shown) (fd := T.d_w_shown) (ps := P_w_shown) (F := F_w_shown) ?_ ?_ ?_ ?_ ?_ ?_ ?_ ?_; exact d_w_shown T; exact hr.mono (by decide); exact rfl; exact T.g_w_shown; exact T.F_w_shown.kp; exact b_w_shown T; exact (wok_takes (takes_of rfl rfl rfl rfl)); exact (ad_cons (pd_var 5) ad_nil))) (qd_or1 (qd_ne hr.units (by refine pd_call (k := 6) (f := T.a_met) (fd := T.d_met) (ps := P_met) (F := F_met) ?_ ?_ ?_ ?_ ?_ ?_ ?_ ?_; exact d_met T; exact hr.mono (by decide); exact rfl; exact T.g_met; exact T.F_met.kp; exact b_met T; exact (wok_takes (takes_of rfl rfl rfl rfl)); exact (ad_cons (pd_var 2) (ad_cons (pd_var 1) ad_nil))) (by refine pd_call (k := 1) (f := T.a_w_shown) (fd := T.d_w_shown) (ps := P_w_shown) (F := F_w_shown) ?_ ?_ ?_ ?_ ?_ ?_ ?_ ?_; exact d_w_shown T; exact hr.mono (by decide); exact rfl; exact T.g_w_shown; exact T.F_w_shown.kp; exact b_w_shown T; exact (wok_takes (takes_of rfl rfl rfl rfl)); exact (ad_cons (pd_var 5) ad_nil))))).pt (sd_one (sd_ret pd_bl)) sd_nil) (sd_one (sd_ret (pd_eq hr.units (pd_L (pl_lst (ad_cons (by refine pd_call (k := 6) (f := T.a_lies_in) (fd := T.d_lies_in) (ps := P_lies_in) (F := F_lies_in) ?_ ?_ ?_ ?_ ?_ ?_ ?_ ?_; exact d_lies_in T; exact hr.mono (by decide); exact rfl; exact T.g_lies_in; exact T.F_lies_in.kp; exact b_lies_in T; exact (wok_takes (takes_of rfl rfl rfl rfl)); exact (ad_cons (pd_var 1) (ad_cons (pd_var 2) ad_nil))) (ad_cons (by refine pd_call (k := 6) (f := T.a_lies_in) (fd := T.d_lies_in) (ps := P_lies_in) (F := F_lies_in) ?_ ?_ ?_ ?_ ?_ ?_ ?_ ?_; exact d_lies_in T; exact hr.mono (by decide); exact rfl; exact T.g_lies_in; exact T.F_lies_in.kp; exact b_lies_in T; exact (wok_takes (takes_of rfl rfl rfl rfl)); exact (ad_cons (pd_var 2) (ad_cons (pd_var 1) ad_nil))) ad_nil)))) (pd_L (pl_lst (ad_cons (pd_eq hr.units (pd_cb call_len cd_len (by rfl) T.z_len (by decide +kernel) (ad_cons (pd_var 5) ad_nil)) (pd_cb call_len cd_len (by rfl) T.z_len (by decide +kernel) (ad_cons (pd_var 3) ad_nil))) (ad_cons (pd_eq hr.units (pd_cb call_len cd_len (by rfl) T.z_len (by decide +kernel) (ad_cons (pd_var 5) ad_nil)) (pd_cb call_len cd_len (by rfl) T.z_len (by decide +kernel) (ad_cons (pd_var 4) ad_nil))) ad_nil))))))))))))
def B_w_far_trio : DS := (sSeq (sAsg 3 (eBin fMul (eVar 2) (eBin fAdd (eC (.int 1)) (eCall 2 F_w_draw (aCons (eVar 0) (aCons (eC (.int 60)) aNil)))))) (sSeq (sAsg 4 (eBin fAdd (eBin fAdd (eVar 1) (eBin fMul (eVar 2) (eBin fSub (eCall 2 F_w_draw (aCons (eVar 0) (aCons (eBin fPow (eC (.int 10)) (eC (.int 6))) aNil))) (eBin fMul (eC (.int 5)) (eBin fPow (eC (.int 10)) (eC (.int 5))))))) (eCall 2 F_w_pick (aCons (eVar 0) (aCons (eL (aLst (aCons (eC (.int 0)) (aCons (eC (.int 0)) (aCons (eC (.int 0)) (aCons (eC (.int 1)) aNil)))))) aNil))))) (sSeq (sAsg 5 (eBin fAdd (eC (.int 1)) (eCall 2 F_w_pick (aCons (eVar 0) (aCons (eL (aLst (aCons (eC (.int 0)) (aCons (eC (.int 1)) (aCons (eC (.int 5)) (aCons (eC (.int 100)) (aCons (eBin fPow (eC (.int 10)) (eC (.int 9))) (aCons (eBin fPow (eC (.int 10)) (eC (.int 12))) aNil)))))))) aNil))))) (sRet (eTup (aCons (eVar 4) (aCons (eCB fMin2 (aCons (eBin fPow (eC (.int 10)) (eC (.int 30))) (aCons (eBin fAdd (eBin fAdd (eVar 4) (eBin fMul (eBin fSub (eVar 5) (eC (.int 1))) (eVar 3))) (eCall 2 F_w_draw (aCons (eVar 0) (aCons (eVar 3) aNil)))) aNil))) (aCons (eVar 3) aNil))))))))
def F_w_far_trio : DF := runB 6 3 B_w_far_trio
theorem d_w_far_trio (T : Txt K mg) : FnD P w K mg base 3 T.a_w_far_trio T.d_w_far_trio P_w_far_trio F_w_far_trio := fnD T.F_w_far_trio sc_w_far_trio (by decide) B_w_far_trio (fun cdv A outer s H E hr => (sd_cons (sd_asg (ps_set (i := 3) sc_w_far_trio.nd rfl (Or.inl rfl) (pd_mul (pd_var 2) (pd_add pd_int (by refine pd_call (k := 1) (f := T.a_w_draw) (fd := T.d_w_draw) (ps := P_w_draw) (F := F_w_draw) ?_ ?_ ?_ ?_ ?_ ?_ ?_ ?_; exact d_w_draw T; exact hr.mono (by decide); exact rfl; exact T.g_w_draw; exact T.F_w_draw.kp; exact b_w_draw T; exact (wok_takes (takes_of rfl rfl rfl rfl)); exact (ad_cons (pd_var 0) (ad_cons pd_int ad_nil))))))) (sd_cons (sd_asg (ps_set (i := 4) sc_w_far_trio.nd rfl (Or.inl rfl) (pd_add (pd_add (pd_var 1) (pd_mul (pd_var 2) (pd_sub (by refine pd_call (k := 1) (f := T.a_w_draw) (fd := T.d_w_draw) (ps := P_w_draw) (F := F_w_draw) ?_ ?_ ?_ ?_ ?_ ?_ ?_ ?_; exact d_w_draw T; exact hr.mono (by decide); exact rfl; exact T.g_w_draw; exact T.F_w_draw.kp; exact b_w_draw T; exact (wok_takes (takes_of rfl rfl rfl rfl)); exact (ad_cons (pd_var 0) (ad_cons (pd_pow pd_int pd_int) ad_nil))) (pd_mul pd_int (pd_pow pd_int pd_int))))) (by refine pd_call (k := 2) (f := T.a_w_pick) (fd := T.d_w_pick) (ps := P_w_pick) (F := F_w_pick) ?_ ?_ ?_ ?_ ?_ ?_ ?_ ?_; exact d_w_pick T; exact hr.mono (by decide); exact rfl; exact T.g_w_pick; exact T.F_w_pick.kp; exact b_w_pick T; exact (wok_takes (takes_of rfl rfl rfl rfl)); exact (ad_cons (pd_var 0) (ad_cons (pd_L (pl_lst (ad_cons pd_int (ad_cons pd_int (ad_cons pd_int (ad_cons pd_int ad_nil)))))) ad_nil)))))) (sd_cons (sd_asg (ps_set (i := 5) sc_w_far_trio.nd rfl (Or.inl rfl) (pd_add pd_int (by refine pd_call (k := 2) (f := T.a_w_pick) (fd := T.d_w_pick) (ps := P_w_pick) (F := F_w_pick) ?_ ?_ ?_ ?_ ?_ ?_ ?_ ?_; exact d_w_pick T; exact hr.mono (by decide); exact rfl; exact T.g_w_pick; exact T.F_w_pick.kp; exact b_w_pick T; exact (wok_takes (takes_of rfl rfl rfl rfl)); exact (ad_cons (pd_var 0) (ad_cons (pd_L (pl_lst (ad_cons pd_int (ad_cons pd_int (ad_cons pd_int (ad_cons pd_int (ad_cons (pd_pow pd_int pd_int) (ad_cons (pd_pow pd_int pd_int) ad_nil)))))))) ad_nil)))))) (sd_one (sd_ret (pd_tup (ad_cons (pd_var 4) (ad_cons (pd_cb (call_min2 rfl) cd_min2 (by rfl) T.z_min (by decide +kernel) (ad_cons (pd_pow pd_int pd_int) (ad_cons (pd_add (pd_add (pd_var 4) (pd_mul (pd_sub (pd_var 5) pd_int) (pd_var 3))) (by refine pd_call (k := 1) (f := T.a_w_draw) (fd := T.d_w_draw) (ps := P_w_draw) (F := F_w_draw) ?_ ?_ ?_ ?_ ?_ ?_ ?_ ?_; exact d_w_draw T; exact hr.mono (by decide); exact rfl; exact T.g_w_draw; exact T.F_w_draw.kp; exact b_w_draw T; exact (wok_takes (takes_of rfl rfl rfl rfl)); exact (ad_cons (pd_var 0) (ad_cons (pd_var 3) ad_nil)))) ad_nil))) (ad_cons (pd_var 3) ad_nil))))))))))
def B_w_found : DS := (sSeq (sAsg 2 (eCB fMax2 (aCons (eBin fIx (eVar 0) (eC (.int 0))) (aCons (eBin fAdd (eBin fIx (eVar 0) (eC (.int 0))) (eBin fMul (eUn fNeg (eBin fDiv (eUn fNeg (eBin fSub (eBin fIx (eVar 1) (eC (.int 0))) (eBin fIx (eVar 0) (eC (.int 0))))) (eBin fIx (eVar 0) (eC (.int 2))))) (eBin fIx (eVar 0) (eC (.int 2))))) aNil)))) (sSeq (sFor (iRng1 (aCons (eC (.int 61)) aNil)) (gN 3) (sSeq (sIf (tE (eBin fEq (eBin fMod (eBin fSub (eVar 2) (eBin fIx (eVar 1) (eC (.int 0)))) (eBin fIx (eVar 1) (eC (.int 2)))) (eC (.int 0)))) sBrk sNx) (sAsg 2 (eBin fAdd (eVar 2) (eBin fIx (eVar 0) (eC (.int 2))))))) (sSeq (sAsg 4 (eCB fMin2 (aCons (eBin fIx (eVar 0) (eC (.int 1))) (aCons (eBin fIx (eVar 1) (eC (.int 1))) aNil)))) (sSeq (sIf (tOn (tE (eBin fNe (eBin fMod (eBin fSub (eVar 2) (eBin fIx (eVar 1) (eC (.int 0)))) (eBin fIx (eVar 1) (eC (.int 2)))) (eC (.int 0)))) (tE (eBin fGt (eVar 2) (eVar 4)))) (sRet (eTup (aCons (eC (.int 0)) (aCons (eUn fNeg (eC (.int 1))) (aCons (eC (.int 1)) aNil))))) sNx) (sSeq (sAsg 5 (eBin fIx (eVar 0) (eC (.int 2)))) (sSeq (sFor (iRng1 (aCons (eC (.int 61)) aNil)) (gN 3) (sIf (tE (eBin fNe (eBin fMod (eCB fInt (aCons (eVar 5) aNil)) (eBin fIx (eVar 1) (eC (.int 2)))) (eC (.int 0)))) (sAsg 5 (eBin fAdd (eVar 5) (eBin fIx (eVar 0) (eC (.int 2))))) sNx)) (sSeq (sAsg 6 (eBin fDiv (eBin fSub (eVar 4) (eVar 2)) (eVar 5))) (sRet (eIf (tE (eBin fGt (eVar 6) (eC (.int 0)))) (eTup (aCons (eVar 2) (aCons (eBin fAdd (eVar 2) (eBin fMul (eVar 6) (eVar 5))) (aCons (eVar 5) aNil)))) (eTup (aCons (eVar 2) (aCons (eVar 2) (aCons (eC (.int 1)) aNil)))))))))))))
def F_w_found : DF := runB 7 2 B_w_found
theorem d_w_found (T : Txt K mg) : FnD P w K mg base 1 T.a_w_found T.d_w_found P_w_found F_w_found := fnD T.F_w_found sc_w_found (by decide) B_w_found (fun cdv A outer s H E hr => (sd_cons (sd_asg (ps_set (i := 2) sc_w_found.nd rfl (Or.inl rfl) (pd_cb (call_max2 rfl) cd_max2 (by rfl) T.z_max (by decide +kernel) (ad_cons (pd_ix (pd_var 0) pd_int) (ad_cons (pd_add (pd_ix (pd_var 0) pd_int) (pd_mul (pd_neg (pd_div (pd_neg (pd_sub (pd_ix (pd_var 1) pd_int) (pd_ix (pd_var 0) pd_int))) (pd_ix (pd_var 0) pd_int))) (pd_ix (pd_var 0) pd_int))) ad_nil))))) (sd_cons (sd_for (vs := [3]) (passes_of rfl) rfl (id_rng1 (by rfl) T.z_range (ad_cons pd_int ad_nil)) (gd_name (i := 3) sc_w_found.nd rfl (Or.inl rfl) (by decide)) (sd_cons (sd_if (qd_eq hr.units (pd_mod (pd_sub (pd_var 2) (pd_ix (pd_var 1) pd_int)) (pd_ix (pd_var 1) pd_int)) pd_int) (sd_one sd_brk) sd_nil) (sd_one (sd_asg (ps_set (i := 2) sc_w_found.nd rfl (Or.inl rfl) (pd_add (pd_var 2) (pd_ix (pd_var 0) pd_int))))))) (sd_cons (sd_asg (ps_set (i := 4) sc_w_found.nd rfl (Or.inl rfl) (pd_cb (call_min2 rfl) cd_min2 (by rfl) T.z_min (by decide +kernel) (ad_cons (pd_ix (pd_var 0) pd_int) (ad_cons (pd_ix (pd_var 1) pd_int) ad_nil))))) (sd_cons (sd_if (qd_or (qd_ne hr.units (pd_mod (pd_sub (pd_var 2) (pd_ix (pd_var 1) pd_int)) (pd_ix (pd_var 1) pd_int)) pd_int) (qd_or1 (qd_gt (pd_var 2) (pd_var 4)))).pt (sd_one (sd_ret (pd_tup (ad_cons pd_int (ad_cons (pd_neg pd_int) (ad_cons pd_int ad_nil)))))) sd_nil) (sd_cons (sd_asg (ps_set (i := 5) sc_w_found.nd rfl (Or.inl rfl) (pd_ix (pd_var 0) pd_int))) (sd_cons (sd_for (vs := [3]) (passes_of rfl) rfl (id_rng1 (by rfl) T.z_range (ad_cons pd_int ad_nil)) (gd_name (i := 3) sc_w_found.nd rfl (Or.inl rfl) (by decide)) (sd_one (sd_if (qd_ne hr.units (pd_mod (pd_ct call_int1 cd_int (by rfl) T.z_int (by decide +kernel) (ad_cons (pd_var 5) ad_nil)) (pd_ix (pd_var 1) pd_int)) pd_int) (sd_one (sd_asg (ps_set (i := 5) sc_w_found.nd rfl (Or.inl rfl) (pd_add (pd_var 5) (pd_ix (pd_var 0) pd_int))))) sd_nil))) (sd_cons (sd_asg (ps_set (i := 6) sc_w_found.nd rfl (Or.inl rfl) (pd_div (pd_sub (pd_var 4) (pd_var 2)) (pd_var 5)))) (sd_one (sd_ret (pd_if (qd_gt (pd_var 6) pd_int) (pd_tup (ad_cons (pd_var 2) (ad_cons (pd_add (pd_var 2) (pd_mul (pd_var 6) (pd_var 5))) (ad_cons (pd_var 5) ad_nil)))) (pd_tup (ad_cons (pd_var 2) (ad_cons (pd_var 2) (ad_cons pd_int ad_nil)))))))))))))))
def B_w_far_right : DS := (sSeq (sAsg 1 (eCall 2 F_w_pick (aCons (eVar 0) (aCons (eL (aLst (aCons (eC (.int 1)) (aCons (eC (.int 1)) (aCons (eBin fPow (eC (.int 10)) (eC (.int 3))) (aCons (eBin fAdd (eBin fPow (eC (.int 10)) (eC (.int 9))) (eC (.int 7))) aNil)))))) aNil)))) (sSeq (sAsg 2 (eCall 2 F_w_pick (aCons (eVar 0) (aCons (eL (aLst (aCons (eC (.int 0)) (aCons (eBin fPow (eC (.int 10)) (eC (.int 15))) (aCons (eBin fSub (eC (.int 0)) (eBin fMul (eC (.int 3)) (eBin fPow (eC (.int 10)) (eC (.int 29))))) (aCons (eBin fMul (eC (.int 9)) (eBin fPow (eC (.int 10)) (eC (.int 29)))) aNil)))))) aNil)))) (sSeq (sMul [3, 4] (mVal (eCall 3 F_w_far_trio (aCons (eVar 0) (aCons (eVar 2) (aCons (eVar 1) aNil)))) (mVal (eCall 3 F_w_far_trio (aCons (eVar 0) (aCons (eVar 2) (aCons (eVar 1) aNil)))) aNil))) (sSeq (sAsg 5 (eCall 2 F_w_found (aCons (eVar 3) (aCons (eVar 4) aNil)))) (sSeq (sAsg 6 (eTup (aCons (eBin fAdd (eBin fIx (eVar 3) (eC (.int 0))) (eBin fMul (eBin fSub (eCall 1 F_w_count (aCons (eVar 3) aNil)) (eC (.int 1))) (eBin fIx (eVar 3) (eC (.int 2))))) (aCons (eBin fIx (eVar 3) (eC (.int 0))) (aCons (eBin fSub (eC (.int 0)) (eBin fIx (eVar 3) (eC (.int 2)))) aNil))))) (sSeq (sIf (tE (eBin fNe (eL (aLst (aCons (eCall 2 F_met (aCons (eVar 3) (aCons (eVar 4) aNil))) (aCons (eCall 2 F_met (aCons (eVar 4) (aCons (eVar 3) aNil))) (aCons (eCall 2 F_met (aCons (eVar 6) (aCons (eVar 4) aNil))) aNil))))) (eBin fMul (eL (aLst (aCons (eVar 5) aNil))) (eC (.int 3))))) (sRet (eC (.bl false))) sNx) (sSeq (sIf (tOn (tNo (tTr (eCall 2 F_lies_in (aCons (eVar 5) (aCons (eVar 3) aNil))))) (tNo (tTr (eCall 2 F_lies_in (aCons (eVar 5) (aCons (eVar 4) aNil)))))) (sRet (eC (.bl false))) sNx) (sRet (eBin fEq (eCall 2 F_lies_in (aCons (eVar 3) (aCons (eVar 4) aNil))) (eBin fEq (eCall 1 F_w_count (aCons (eVar 5) aNil)) (eCall 1 F_w_count (aCons (eVar 3) aNil))))))))))))
def F_w_far_right : DF := runB 7 1 B_w_far_right
theorem d_w_far_right (T : Txt K mg) : FnD P w K mg base 7 T.a_w_far_right T.d_w_far_right P_w_far_right F_w_far_right := fnD T.F_w_far_right sc_w_far_right (by decide) B_w_far_right (fun cdv A outer s H E hr => (sd_cons (sd_asg (ps_set (i := 1) sc_w_far_right.nd rfl (Or.inl rfl) (by refine pd_call (k := 2) (f := T.a_w_pick) (fd := T.d_w_pick) (ps := P_w_pick) (F := F_w_pick) ?_ ?_ ?_ ?_ ?_ ?_ ?_ ?_; exact d_w_pick T; exact hr.mono (by decide); exact rfl; exact T.g_w_pick; exact T.F_w_pick.kp; exact b_w_pick T; exact (wok_takes (takes_of rfl rfl rfl rfl)); exact (ad_cons (pd_var 0) (ad_cons (pd_L (pl_lst (ad_cons pd_int (ad_cons pd_int (ad_cons (pd_pow pd_int pd_int) (ad_cons (pd_add (pd_pow pd_int pd_int) pd_int) ad_nil)))))) ad_nil))))) (sd_cons (sd_asg (ps_set (i := 2) sc_w_far_right.nd rfl (Or.inl rfl) (by refine pd_call (k := 2) (f := T.a_w_pick) (fd := T.d_w_pick) (ps := P_w_pick) (F := F_w_pick) ?_ ?_ ?_ ?_ ?_ ?_ ?_ ?_; exact d_w_pick T; exact hr.mono (by decide); exact rfl; exact T.g_w_pick; exact T.F_w_pick.kp; exact b_w_pick T; exact (wok_takes (takes_of rfl rfl rfl rfl)); exact (ad_cons (pd_var 0) (ad_cons (pd_L (pl_lst (ad_cons pd_int (ad_cons (pd_pow pd_int pd_int) (ad_cons (pd_sub pd_int (pd_mul pd_int (pd_pow pd_int pd_int))) (ad_cons (pd_mul pd_int (pd_pow pd_int pd_int)) ad_nil)))))) ad_nil))))) (sd_cons (sd_par2 (ps_par rfl sc_w_far_right.nd rfl rfl (by decide) rfl rfl (md_val (by refine pd_call (k := 3) (f := T.a_w_far_trio) (fd := T.d_w_far_trio) (ps := P_w_far_trio) (F := F_w_far_trio) ?_ ?_ ?_ ?_ ?_ ?_ ?_ ?_; exact d_w_far_trio T; exact hr.mono (by decide); exact rfl; exact T.g_w_far_trio; exact T.F_w_far_trio.kp; exact b_w_far_trio T; exact (wok_takes (takes_of rfl rfl rfl rfl)); exact (ad_cons (pd_var 0) (ad_cons (pd_var 2) (ad_cons (pd_var 1) ad_nil)))) (md_val (by refine pd_call (k := 3) (f := T.a_w_far_trio) (fd := T.d_w_far_trio) (ps := P_w_far_trio) (F := F_w_far_trio) ?_ ?_ ?_ ?_ ?_ ?_ ?_ ?_; exact d_w_far_trio T; exact hr.mono (by decide); exact rfl; exact T.g_w_far_trio; exact T.F_w_far_trio.kp; exact b_w_far_trio T; exact (wok_takes (takes_of rfl rfl rfl rfl)); exact (ad_cons (pd_var 0) (ad_cons (pd_var 2) (ad_cons (pd_var 1) ad_nil)))) md_nil)) rfl)) (sd_cons (sd_asg (ps_set (i := 5) sc_w_far_right.nd rfl (Or.inl rfl) (by refine pd_call (k := 1) (f := T.a_w_found) (fd := T.d_w_found) (ps := P_w_found) (F := F_w_found) ?_ ?_ ?_ ?_ ?_ ?_ ?_ ?_; exact d_w_found T; exact hr.mono (by decide); exact rfl; exact T.g_w_found; exact T.F_w_found.kp; exact b_w_found T; exact (wok_takes (takes_of rfl rfl rfl rfl)); exact (ad_cons (pd_var 3) (ad_cons (pd_var 4) ad_nil))))) (sd_cons (sd_asg (ps_set (i := 6) sc_w_far_right.nd rfl (Or.inl rfl) (pd_tup (ad_cons (pd_add (pd_ix (pd_var 3) pd_int) (pd_mul (pd_sub (by refine pd_call (k := 1) (f := T.a_w_count) (fd := T.d_w_count) (ps := P_w_count) (F := F_w_count) ?_ ?_ ?_ ?_ ?_ ?_ ?_ ?_; exact d_w_count T; exact hr.mono (by decide); exact rfl; exact T.g_w_count; exact T.F_w_count.kp; exact b_w_count T; exact (wok_takes (takes_of rfl rfl rfl rfl)); exact (ad_cons (pd_var 3) ad_nil)) pd_int) (pd_ix (pd_var 3) pd_int))) (ad_cons (pd_ix (pd_var 3) pd_int) (ad_cons (pd_sub pd_int (pd_ix (pd_var 3) pd_int)) ad_nil)))))) (sd_cons (sd_if (qd_ne hr.units (pd_L (pl_lst (ad_cons (by refine pd_call (k := 6) (f := T.a_met) (fd := T.d_met) (ps := P_met) (F := F_met) ?_ ?_ ?_ ?_ ?_ ?_ ?_ ?_; exact d_met T; exact hr.mono (by decide); exact rfl; exact T.g_met; exact T.F_met.kp; exact b_met T; exact (wok_takes (takes_of rfl rfl rfl rfl)); exact (ad_cons (pd_var 3) (ad_cons (pd_var 4) ad_nil))) (ad_cons (by refine pd_call (k := 6) (f := T.a_met) (fd := T.d_met) (ps := P_met) (F := F_met) ?_ ?_ ?_ ?_ ?_ ?_ ?_ ?_; exact d_met T; exact hr.mono (by decide); exact rfl; exact T.g_met; exact T.F_met.kp; exact b_met T; exact (wok_takes (takes_of rfl rfl rfl rfl)); exact (ad_cons (pd_var 4) (ad_cons (pd_var 3) ad_nil))) (ad_cons (by refine pd_call (k := 6) (f := T.a_met) (fd := T.d_met) (ps := P_met) (F := F_met) ?_ ?_ ?_ ?_ ?_ ?_ ?_ ?_; exact d_met T; exact hr.mono (by decide); exact rfl; exact T.g_met; exact T.F_met.kp; exact b_met T; exact (wok_takes (takes_of rfl rfl rfl rfl)); exact (ad_cons (pd_var 6) (ad_cons (pd_var 4) ad_nil))) ad_nil))))) (pd_mul (pd_L (pl_lst (ad_cons (pd_var 5) ad_nil))) pd_int)) (sd_one (sd_ret pd_bl)) sd_nil) (sd_cons (sd_if (qd_or (qd_not (qd_tr (by refine pd_call (k := 6) (f := T.a_lies_in) (fd := T.d_lies_in) (ps := P_lies_in) (F := F_lies_in) ?_ ?_ ?_ ?_ ?_ ?_ ?_ ?_; exact d_lies_in T; exact hr.mono (by decide); exact rfl; exact T.g_lies_in; exact T.F_lies_in.kp; exact b_lies_in T; exact (wok_takes (takes_of rfl rfl rfl rfl)); exact (ad_cons (pd_var 5) (ad_cons (pd_var 3) ad_nil))))) (qd_or1 (qd_not (qd_tr (by refine pd_call (k := 6) (f := T.a_lies_in) (fd := T.d_lies_in) (ps := P_lies_in) (F := F_lies_in) ?_ ?_ ?_ ?_ ?_ ?_ ?_ ?_; exact d_lies_in T; exact hr.mono (by decide); exact rfl; exact T.g_lies_in; exact T.F_lies_in.kp; exact b_lies_in T; exact (wok_takes (takes_of rfl rfl rfl rfl)); exact (ad_cons (pd_var 5) (ad_cons (pd_var 4) ad_nil))))))).pt (sd_one (sd_ret pd_bl)) sd_nil) (sd_one (sd_ret (pd_eq hr.units (by refine pd_call (k := 6) (f := T.a_lies_in) (fd := T.d_lies_in) (ps := P_lies_in) (F := F_lies_in) ?_ ?_ ?_ ?_ ?_ ?_ ?_ ?_; exact d_lies_in T; exact hr.mono (by decide); exact rfl; exact T.g_lies_in; exact T.F_lies_in.kp; exact b_lies_in T; exact (wok_takes (takes_of rfl rfl rfl rfl)); exact (ad_cons (pd_var 3) (ad_cons (pd_var 4) ad_nil))) (pd_eq hr.units (by refine pd_call (k := 1) (f := T.a_w_count) (fd := T.d_w_count) (ps := P_w_count) (F := F_w_count) ?_ ?_ ?_ ?_ ?_ ?_ ?_ ?_; exact d_w_count T; exact hr.mono (by decide); exact rfl; exact T.g_w_count; exact T.F_w_count.kp; exact b_w_count T; exact (wok_takes (takes_of rfl rfl rfl rfl)); exact (ad_cons (pd_var 5) ad_nil)) (by refine pd_call (k := 1) (f := T.a_w_count) (fd := T.d_w_count) (ps := P_w_count) (F := F_w_count) ?_ ?_ ?_ ?_ ?_ ?_ ?_ ?_; exact d_w_count T; exact hr.mono (by decide); exact rfl; exact T.g_w_count; exact T.F_w_count.kp; exact b_w_count T; exact (wok_takes (takes_of rfl rfl rfl rfl)); exact (ad_cons (pd_var 3) ad_nil))))))))))))))
end

end DL

set_option maxHeartbeats 2000000
namespace DL
open PySem PySem.Spec PyProof.Rows L2
open Evl (Ex)

/-! ### the law's own shell: the wells, the turns -/
theorem Rd.keep {H H' : Hp} {a : Addr} {u : HO} (h : Rd H a u) (k : ∀ o, H a = some o → H' a = some o) : Rd H' a u := h.elim (fun e => .inl (k _ e)) fun ⟨o, e⟩ => .inr ⟨o, k _ e⟩
theorem SqL.keep {K : PySem.W.Frag} {H H' : Hp} {a : Addr} {xs : List V} (h : SqL K H a xs) (k : ∀ o, H a = some o → H' a = some o) : SqL K H' a xs := h.elim (fun e => .inl (Rd.keep e k)) .inr
theorem same_upd {H : Hp} {p : Addr} {o : HO} (h : H p = none) : Same H (upd H p o) := fun b x e => by
  rw [upd_ne (ne_of_none e h)]
  exact e
section
variable {P : Program} {w : World} {K : PySem.W.Frag} {mg : Str → Option Value} {base : Heap}
abbrev N_w_well : List Str := ["_law_cell"]
abbrev P_w_well : List Str := ["_law_cell"]
theorem sc_w_well : FnScope N_w_well P_w_well (defScope s_w_well) := ⟨rfl, rfl, rfl, by decide +kernel, rfl, by decide +kernel, by decide +kernel⟩
def spWell : Sp := fun vs H Q _ => ∃ (c : Int), vs = [.int c] ∧
  ∀ H' p (c d : Int), 0 ≤ d ∧ d < 2147483563 → Same H H' → H p = none → H' p = some (.lst (wl (c, d, 0))) → Q (.ref p) H'
theorem mod_rng {a n : Int} (h : 0 < n) : 0 ≤ a.fmod n ∧ a.fmod n < n := by
  rw [Int.fmod_eq_emod_of_nonneg _ (by omega)]
  exact ⟨Int.emod_nonneg _ (by omega), Int.emod_lt_of_pos _ h⟩
theorem ok_well (T : Txt K mg) : FnOk P w K mg base (L2.CX P w) 1 T.a_w_well T.d_w_well P_w_well spWell := by
  refine T.F_w_well.okX sc_w_well (fun vs H Q E h => ?_) (fun cdv A outer s H vs Q E hr h => ?_)
  · obtain ⟨c, rfl, _⟩ := h
    rfl
  · obtain ⟨c, rfl, q⟩ := h
    refine ⟨_, pss_one (ps_ret (pe_lst (pa_cons (pe_op op_mul (pe_callB call_abs (by rfl) T.z_abs (by decide +kernel) (pa_cons (pv 0) pa_nil)) (pe_callTy call_int1 (by rfl) T.z_int (by decide +kernel) (pa_cons (pe_cmpR op_ge (pe_callB call_abs (by rfl) T.z_abs (by decide +kernel) (pa_cons (pv 0) pa_nil)) (pe_op op_pow pe_int pe_int) (nomark _)) pa_nil)))
      (pa_cons (pe_op op_modN (pe_callTy call_int1 (by rfl) T.z_int (by decide +kernel) (pa_cons (pe_callB call_abs (by rfl) T.z_abs (by decide +kernel) (pa_cons (pv 0) pa_nil)) pa_nil)) pe_int)
      (pa_cons pe_int pa_nil))))), ?_⟩
    refine ⟨.int c, rfl, c, rfl, .int c, rfl, c, rfl, 10, 18, rfl, rfl, ⟨by decide, by decide, by decide⟩, _, _, rfl, rfl, .inr ⟨_, rfl, _, _, rfl, rfl, .inr ?_, ?_⟩⟩
    · exact (fun b : Bool => by cases b <;> exact ⟨by decide, by decide⟩ : ∀ b : Bool, (-2 ^ 64 : Int) < (if b = true then 1 else 0) ∧ ((if b = true then 1 else 0) : Int) < 2 ^ 64) _
    refine ⟨.int c, rfl, c, rfl, .inl ⟨_, rfl, _, _, rfl, rfl, (show (2147483563 : Int) ≠ 0 by decide), (show 3 ≤ sizeLine by decide), fun p hp => ?_⟩⟩
    exact q _ p _ ((if c < 0 then -c else c).fmod 2147483563) (mod_rng (by omega)) (same_upd hp) hp upd_same
abbrev N_law : List Str := ["_law_script", "_law_k", "_law_well_here", "_law_turn"]
abbrev P_law : List Str := ["_law_script"]
theorem sc_law : FnScope N_law P_law (defScope s_law) := ⟨rfl, rfl, rfl, by decide +kernel, rfl, by decide +kernel, by decide +kernel⟩
def spLaw (K : PySem.W.Frag) : Sp := fun vs H Q _ => ∃ (a : Addr) (ns : List Int), vs = [.ref a] ∧ SqL K H a (ns.map V.int) ∧ ns.length ≤ 63 ∧ ∀ H', Q (.bl true) H'
/-- how far the well's own count has come -/
def Lap (b : Nat) (w : Wl) : Prop := 0 ≤ w.2.2 ∧ w.2.2 ≤ b ∧ 0 ≤ w.2.1 ∧ w.2.1 < 2147483563
def T_law : DT := (tOn (tNo (tTr (eCall 1 F_w_near_right (aCons (eVar 2) aNil)))) (tNo (tTr (eCall 1 F_w_far_right (aCons (eVar 2) aNil)))))
theorem well_slots {wa p : Addr} {H : Hp} {x y z : Option V} : Slots p (fun _ => none) H [x, y, some (.ref p), z] [none, none, some .well, none] := by
  refine ⟨rfl, fun i d e n => ?_, fun i xs e => ?_, fun i j xs ys q e1 e2 e3 e4 => ?_⟩
  · match i, e with
    | 2, e => cases e; exact ⟨_, rfl, .well⟩
    | n + 4, e => cases e
  · match i, e with
    | n + 4, e => cases e
  · match i, e1 with
    | n + 4, e => cases e
theorem turns_ok {D : Ends} {a p : Addr} {i : Nat} {H H3 : Hp} {c d : Int} {y3 : Option V} (hR : ∀ (b : Nat) (w : Wl), b < 1000000 → Lap b w → ∃ w', T_law [none, none, some .well, none] w = .ok false w' ∧ Lap (b + 1000) w')
    (k3 : ∀ o, H a = some o → H3 a = some o) (hap : ∀ o, H a = some o → a ≠ p) (hd : 0 ≤ d ∧ d < 2147483563) (hp : H3 p = some (.lst (wl (c, d, 0))))
    (nx : ∀ H', (∀ o, H a = some o → H' a = some o) → D.nx [some (.ref a), some (.int (0 + i)), some (.ref p), y3] H' ∧ ∀ y, D.nx [some (.ref a), some (.int (0 + i)), some (.ref p), some y] H') :
    tFor (L2.iRng1 (tCons (tC (V.int 8)) tNil)) (gName 3) (tIfS (lT mg W0 T_law) (tRet (tC (V.bl false))) tNext) D [some (.ref a), some (.int (0 + i)), some (.ref p), y3] H3 := by
  refine ⟨8, rfl, by decide, by decide, fun t m σ H4 => m = 8 - t ∧ t ≤ 8 ∧ (∀ o, H a = some o → H4 a = some o) ∧ ∃ z3 w4, σ = [some (.ref a), some (.int (0 + i)), some (.ref p), z3] ∧ (z3 = y3 ∨ ∃ y, z3 = some y) ∧ Lap (1000 * t) w4 ∧ H4 p = some (.lst (wl w4)), ⟨8, rfl, by decide, k3, _, (c, d, 0), rfl, .inl rfl, ⟨Int.le_refl 0, Int.le_refl 0, hd.1, hd.2⟩, hp⟩, ?_⟩
  rintro t m σ H4 ⟨rfl, ht, k4, y3, w4, rfl, hy3, l4, hp4⟩
  by_cases ht3 : t < 8
  · refine .inr ⟨ht3, fun σ' H' => (∀ o, H a = some o → H' a = some o) ∧ ∃ z3 w4, σ' = [some (.ref a), some (.int (0 + i)), some (.ref p), z3] ∧ (z3 = y3 ∨ ∃ y, z3 = some y) ∧ Lap (1000 * (t + 1)) w4 ∧ H' p = some (.lst (wl w4)), fun σ' H' hN => ?_, fun x H5 hy => ?_⟩
    · obtain ⟨k5, z3, w5, rfl, hz, l5, hp5⟩ := hN
      refine ⟨8 - (t + 1), by omega, rfl, ht3, k5, z3, w5, rfl, ?_, l5, hp5⟩
      rcases hz with rfl | hz
      · exact hy3
      · exact .inr hz
    obtain ⟨rfl, rfl⟩ := hy
    obtain ⟨w6, e6, l6⟩ := hR (1000 * t) w4 (by omega) l4
    refine ⟨p, fun _ => none, _, w4, ⟨fun _ _ z => (by cases z), hp4, rfl⟩, well_slots (wa := p), ?_⟩
    rw [e6]
    intro H6 Hf6 g6 b6 v rv
    cases rv
    exact iteF ⟨fun o e => g6.keep a o (hap o e) (k4 o e), _, w6, rfl, .inr ⟨_, rfl⟩, l6, b6.well⟩
  · refine .inl ⟨show 8 ≤ t from by omega, ?_⟩
    rcases hy3 with rfl | ⟨y, rfl⟩
    · exact (nx _ k4).1
    · exact (nx _ k4).2 y
theorem ok_law (T : Txt K mg) (hR : ∀ (b : Nat) (w : Wl), b < 1000000 → Lap b w → ∃ w', T_law [none, none, some .well, none] w = .ok false w' ∧ Lap (b + 1000) w') : FnOk P w K mg base (L2.CX P w) (7 + 1) T.a_law T.d_law P_law (spLaw K) := by
  refine T.F_law.okX sc_law (fun vs H Q E h => ?_) (fun cdv A outer s H vs Q E hr h => ?_)
  · obtain ⟨a, ns, rfl, _⟩ := h
    rfl
  · obtain ⟨a, ns, rfl, hS, hlen, q⟩ := h
    refine ⟨_, pss_cons (ps_for (passes_of rfl) rfl (pi_range1 (by rfl) T.z_range (pa_cons (pe_op op_add (pe_callB (call_max2 rfl) (by rfl) T.z_max (by decide +kernel) (pa_cons pe_int (pa_cons (pe_callB (call_min2 rfl) (by rfl) T.z_min (by decide +kernel) (pa_cons pe_int (pa_cons (pe_callB call_len_seq (by rfl) T.z_len PySem.boot_len (pa_cons (pv 0) pa_nil)) pa_nil))) pa_nil))) pe_int) pa_nil))
        (pg_name (i := 1) sc_law.nd rfl (.inl rfl))
        (pss_cons (ps_set (i := 2) sc_law.nd rfl (.inl rfl) (pe_callS (CX := L2.CX P w) (k := 1) (f := T.a_w_well) (fd := T.d_w_well) (ps := P_w_well) (sp := spWell) (E := WE W0) (ok_well T) (hr.mono (by decide)) rfl T.g_w_well T.F_w_well.kp (b_w_well T) wok0 (pa_cons (pe_ifExp (pt_cmpR op_lt (pv 1) (pe_callB call_len_seq (by rfl) T.z_len PySem.boot_len (pa_cons (pv 0) pa_nil)) (nomark _)) (pe_ix ix_list (pv 0) (pv 1) (fun _ _ => rfl)) pe_int) pa_nil)))
          (pss_one (ps_for (passes_of rfl) rfl (pi_range1 (by rfl) T.z_range (pa_cons pe_int pa_nil)) (pg_name (i := 3) sc_law.nd rfl (.inl rfl))
            (pss_one (ps_if (show PT _ _ (lT mg W0 T_law) from (qd_or (qd_not (qd_tr (by refine pd_call (k := 7) (f := T.a_w_near_right) (fd := T.d_w_near_right) (ps := P_w_near_right) (F := F_w_near_right) ?_ ?_ ?_ ?_ ?_ ?_ ?_ ?_; exact d_w_near_right T; exact hr.mono (by decide); exact rfl; exact T.g_w_near_right; exact T.F_w_near_right.kp; exact b_w_near_right T; exact wok0; exact (ad_cons (pd_var 2) ad_nil)))) (qd_or1 (qd_not (qd_tr (by refine pd_call (k := 7) (f := T.a_w_far_right) (fd := T.d_w_far_right) (ps := P_w_far_right) (F := F_w_far_right) ?_ ?_ ?_ ?_ ?_ ?_ ?_ ?_; exact d_w_far_right T; exact hr.mono (by decide); exact rfl; exact T.g_w_far_right; exact T.F_w_far_right.kp; exact b_w_far_right T; exact wok0; exact (ad_cons (pd_var 2) ad_nil)))))).pt)
              (pss_one (ps_ret pe_bl)) pss_nil))))))
      (pss_one (ps_ret pe_bl)), ?_⟩
    refine ⟨.ref a, rfl, a, _, rfl, .inl hS, _, _, rfl, _, _, rfl, _, _, rfl, rfl, _, rfl, ?_, ?_, ?_⟩
    · split <;> split at * <;> omega
    · split <;> split at * <;> omega
    have hn4 : ∀ z : Int, ((if (if z < 5 then z else 5) > 1 then (if z < 5 then z else 5) else 1) + 1 : Int).toNat ≤ 6 := fun z => by
      split <;> split at * <;> omega
    obtain ⟨n, hn⟩ : ∃ n : Nat, n = ((if (if (((ns.map V.int).length : Nat) : Int) < 5 then (((ns.map V.int).length : Nat) : Int) else 5) > 1 then (if (((ns.map V.int).length : Nat) : Int) < 5 then (((ns.map V.int).length : Nat) : Int) else 5) else 1) + 1 : Int).toNat := ⟨_, rfl⟩
    have hn5 : n ≤ 6 := by
      rw [hn]
      exact hn4 _
    have kS : ∀ H' : Hp, (∀ o, H a = some o → H' a = some o) → SqL K H' a (ns.map V.int) := fun H' k => SqL.keep hS k
    refine ⟨fun i m σ H1 => m = n - i ∧ i ≤ n ∧ (∀ o, H a = some o → H1 a = some o) ∧ ∃ y1 y2 y3, σ = [some (.ref a), y1, y2, y3], ⟨n, rfl, Nat.zero_le _, fun _ e => e, none, none, none, rfl⟩, ?_⟩
    rintro i m σ H1 ⟨rfl, hi, k1, y1, y2, y3, rfl⟩
    by_cases hlt : i < n
    · refine .inr ⟨show i < Int.toNat _ from hn ▸ hlt, fun σ' H' => (∀ o, H a = some o → H' a = some o) ∧ ∃ y1 y2 y3, σ' = [some (.ref a), y1, y2, y3], fun σ' H' hN => ⟨n - (i + 1), by omega, rfl, hlt, hN⟩, fun x H2 hy => ?_⟩
      obtain ⟨rfl, rfl⟩ := hy
      have hap : ∀ (p : Addr), H2 p = none → ∀ o, H a = some o → a ≠ p := fun p np o e z => by
        have e2 := k1 o e
        rw [z, np] at e2
        cases e2
      refine ⟨.int (0 + i), rfl, .ref a, rfl, a, ns.map V.int, rfl, .inl (kS _ k1), 0 + i, (ns.map V.int).length, rfl, rfl, _, rfl, ite2 (fun e => ?_) (fun e => ?_)⟩
      · have e0 : 0 + (i : Int) < ((ns.map V.int).length : Int) := of_decide_eq_true e
        rw [List.length_map] at e0
        have hk2 : i < ns.length := by omega
        refine ⟨.ref a, rfl, .int (0 + i), rfl, a, _, 0 + i, .int ns[i], rfl, rfl, kS _ k1, by rw [Int.zero_add]; exact atI_nat (by rw [List.getElem?_map, List.getElem?_eq_getElem hk2]; rfl), ns[i], rfl, fun H3 p c d hd sm np hp => ?_⟩
        exact turns_ok hR (fun o e => sm _ _ (k1 o e)) (hap p np) hd hp fun H' k => ⟨⟨k, _, _, _, rfl⟩, fun y => ⟨k, _, _, _, rfl⟩⟩
      · refine ⟨0, rfl, fun H3 p c d hd sm np hp => ?_⟩
        exact turns_ok hR (fun o e => sm _ _ (k1 o e)) (hap p np) hd hp fun H' k => ⟨⟨k, _, _, _, rfl⟩, fun y => ⟨k, _, _, _, rfl⟩⟩
    · exact .inl ⟨show Int.toNat _ ≤ i from hn ▸ by omega, q H1⟩
end
end DL

set_option maxHeartbeats 2000000
namespace DL
open PySem PySem.Spec PyProof.Rows L2
/-! ### triplets by value -/
abbrev Tr := Int × Int × Int
def tD (t : Tr) : D := .tup [.int t.1, .int t.2.1, .int t.2.2]
theorem tD_e {a b c : Int} : D.tup [.int a, .int b, .int c] = tD (a, b, c) := rfl
def cnt (t : Tr) : Int := if (t.2.1 - t.1 + t.2.2).fdiv t.2.2 > 0 then (t.2.1 - t.1 + t.2.2).fdiv t.2.2 else 0
def at1 (t : Tr) (i : Int) : Int := t.1 + i * t.2.2
abbrev FARn : Int := 1000000000000000000000000000000
def inF (n : Int) : Bool := decide (-FARn ≤ n) && decide (n ≤ FARn)
theorem inF_iff {n : Int} : inF n = true ↔ -FARn ≤ n ∧ n ≤ FARn := by simp [inF]
/-- a triplet -/
structure Tri (t : Tr) : Prop where
  a : inF t.1 = true
  b : inF t.2.1 = true
  c : inF t.2.2 = true
  s : t.2.2 ≠ 0
theorem bt100 {n : Int} (h : inF n = true) : Bt 100 n := by
  rw [inF_iff] at h
  exact bt_of (Int.lt_of_lt_of_le (by decide) h.1) (Int.lt_of_le_of_lt h.2 (by decide))
section
variable {w : Wl} {t : Tr} {i n : Int}
@[simp] theorem getS_tD {s : Sl} : getS (some (tD t) :: s) 0 = some (tD t) := rfl
@[simp] theorem v_ixtD0 : fIx w (tD t) (.int 0) = some (.int t.1) := (v_ixT (xs := [.int t.1, .int t.2.1, .int t.2.2]) (a := 0)).trans atI_0
@[simp] theorem v_ixtD1 : fIx w (tD t) (.int 1) = some (.int t.2.1) := (v_ixT (xs := [.int t.1, .int t.2.1, .int t.2.2]) (a := 1)).trans atI_1
@[simp] theorem v_ixtD2 : fIx w (tD t) (.int 2) = some (.int t.2.2) := (v_ixT (xs := [.int t.1, .int t.2.1, .int t.2.2]) (a := 2)).trans atI_2
theorem e_is_number : F_is_number [.int n] w = .ok (.bl true) w := rfl
theorem e_is_far : F_is_far [.int n] w = .ok (.bl (inF n)) w := by
  apply okE_eq
  simp [F_is_far, B_is_far, okE_run, e_is_number, inF]
  by_cases h : -1000000000000000000000000000000 ≤ n <;> simp [h]
theorem e_is_triplet (h : Tri t) : F_is_triplet [tD t] w = .ok (.bl true) w := by
  apply okE_eq
  simp [F_is_triplet, B_is_triplet, okE_run, tD, List.replicate]
  refine ⟨lim7 (by decide), ?_⟩
  refine okE_lcall (xs := [t.1, t.2.1, t.2.2]) D.int (fun n => .bl (inF n)) (fun x _ => by simp [e_is_far]) ?_
  have h2 : fAll w [.lst ([t.1, t.2.1, t.2.2].map fun n => D.bl (inF n))] = some (.bl ([t.1, t.2.1, t.2.2].all inF)) := v_all (f := inF) (l := [t.1, t.2.1, t.2.2])
  rw [h2]
  simp [h.a, h.b, h.c, h.s]
theorem e_many (h0 : t.2.2 ≠ 0) (h1 : Bt 8000 t.2.2) : F_many_of [tD t] w = .ok (.int (cnt t)) w := by
  apply okE_eq
  have hd := div_bt h0 h1 (by omega)
  simp [F_many_of, B_many_of, okE_run, tD, List.replicate, hd, cnt]
theorem e_sub (h1 : Bt 8000 i) (h2 : Bt 8000 t.2.2) : F_subscript_of [tD t, .int i] w = .ok (.int (at1 t i)) w := by
  apply okE_eq
  have hd := mul_bt h1 h2 (by omega)
  simp [F_subscript_of, B_subscript_of, okE_run, tD, List.replicate, hd, at1]
/-- the number of an element -/
def idx (t : Tr) (n : Int) : Option Int := if (n - t.1).fmod t.2.2 = 0 ∧ 0 ≤ (n - t.1).fdiv t.2.2 ∧ (n - t.1).fdiv t.2.2 < cnt t then some ((n - t.1).fdiv t.2.2) else none
def oD : Option Int → D
  | none => .non
  | some i => .int i
@[simp] theorem v_isNi {x : Int} : fIsN w (.int x) .non = some (.bl false) := rfl
@[simp] theorem v_isNn : fIsN w .non .non = some (.bl true) := rfl
@[simp] theorem v_notNi {x : Int} : fNotN w (.int x) .non = some (.bl true) := rfl
@[simp] theorem v_notNn : fNotN w .non .non = some (.bl false) := rfl
theorem e_index (h0 : t.2.2 ≠ 0) (h1 : Bt 8000 t.2.2) : F_index_of [tD t, .int n] w = .ok (oD (idx t n)) w := by
  apply okE_eq
  have hd := div_bt h0 h1 (by omega)
  have hm := e_many (w := w) h0 h1
  simp [F_index_of, B_index_of, okE_run, tD, List.replicate, hd]
  by_cases hr : (n - t.1).fmod t.2.2 = 0
  · simp [hr]
    by_cases h2 : 0 ≤ (n - t.1).fdiv t.2.2
    · have h3 : D.tup [D.int t.1, D.int t.2.1, D.int t.2.2] = tD t := rfl
      simp [h2, h3, hm]
      by_cases h4 : (n - t.1).fdiv t.2.2 < cnt t <;> simp [h4, idx, hr, h2, oD]
    · simp [h2, idx, oD]
  · simp [hr, idx, oD]
end
end DL

set_option maxHeartbeats 2000000
namespace DL
open PySem PySem.Spec PyProof.Rows L2
/-! ### draws -/
section
variable {w : Wl} {b : Nat}
theorem seq_nx {U V : DS} {s s1 : Sl} {w w1 : Wl} (h : U s w = .nx s1 w1) : sSeq U V s w = V s1 w1 := by unfold sSeq; rw [h]
abbrev mX1 (k1 k2 k3 k4 : Int) : DE := eBin fMod (eCB fInt (aCons (eBin fMul (eBin fAdd (eBin fAdd (eBin fIx (eVar 0) (eC (.int 1))) (eBin fMul (eC (.int k1)) (eBin fIx (eVar 0) (eC (.int 2))))) (eC (.int k2))) (eC (.int k3))) aNil)) (eC (.int k4))
abbrev mX2 (k1 k2 k3 : Int) : DE := eBin fMod (eCB fInt (aCons (eBin fMul (eVar 3) (eBin fAdd (eBin fDiv (eVar 3) (eC (.int k1))) (eC (.int k2)))) aNil)) (eC (.int k3))
abbrev mX3 (k1 k2 k3 k4 : Int) : DE := eBin fMod (eCB fInt (aCons (eBin fDiv (eBin fMod (eCB fInt (aCons (eBin fMul (eVar 3) (eBin fAdd (eBin fDiv (eVar 3) (eC (.int k1))) (eC (.int k2)))) aNil)) (eC (.int k3))) (eC (.int k4))) aNil)) (eVar 1)
theorem mX1_ok {k1 k2 k3 k4 n : Int} {t2 t3 : Option D} (m1 : mulOk k1 w.2.2) (m2 : mulOk (w.2.1 + k1 * w.2.2 + k2) k3) (n4 : k4 ≠ 0) : mX1 k1 k2 k3 k4 [some .well, some (.int n), t2, t3] w = .ok (.int (((w.2.1 + k1 * w.2.2 + k2) * k3).fmod k4)) w := by
  apply okE_eq
  simp [mX1, m1, m2, n4]
theorem mX2_ok {k1 k2 k3 n z : Int} {t2 : Option D} (d1 : divOk k1) (m : mulOk z (z.fdiv k1 + k2)) (n3 : k3 ≠ 0) : mX2 k1 k2 k3 [some .well, some (.int n), t2, some (.int z)] w = .ok (.int ((z * (z.fdiv k1 + k2)).fmod k3)) w := by
  apply okE_eq
  simp [mX2, d1, m, n3]
theorem mX3_ok {k1 k2 k3 k4 n z : Int} {t2 : Option D} (d1 : divOk k1) (m : mulOk z (z.fdiv k1 + k2)) (n3 : k3 ≠ 0) (d4 : divOk k4) (nn : n ≠ 0) : mX3 k1 k2 k3 k4 [some .well, some (.int n), t2, some (.int z)] w = .ok (.int ((((z * (z.fdiv k1 + k2)).fmod k3).fdiv k4).fmod n)) w := by
  apply okE_eq
  simp [mX3, d1, m, n3, d4, nn]
theorem mix_run {k1 k2 k3 k4 k5 k6 k7 k8 k9 k10 k11 n z1 z2 : Int} {t2 : Option D} (hz1 : z1 = ((w.2.1 + k1 * w.2.2 + k2) * k3).fmod k4) (hz2 : z2 = (z1 * (z1.fdiv k5 + k6)).fmod k7)
    (m1 : mulOk k1 w.2.2) (m2 : mulOk (w.2.1 + k1 * w.2.2 + k2) k3) (n4 : k4 ≠ 0) (d5 : divOk k5) (m3 : mulOk z1 (z1.fdiv k5 + k6)) (n7 : k7 ≠ 0) (d8 : divOk k8) (m4 : mulOk z2 (z2.fdiv k8 + k9)) (n10 : k10 ≠ 0) (d11 : divOk k11) (nn : n ≠ 0) :
    sSeq (sAsg 3 (mX1 k1 k2 k3 k4)) (sSeq (sAsg 3 (mX2 k5 k6 k7)) (sRet (mX3 k8 k9 k10 k11))) [some .well, some (.int n), t2, none] w = .rt (.int ((((z2 * (z2.fdiv k8 + k9)).fmod k10).fdiv k11).fmod n)) w := by
  have e1 : sAsg 3 (mX1 k1 k2 k3 k4) [some .well, some (.int n), t2, none] w = .nx [some .well, some (.int n), t2, some (.int z1)] w := by
    unfold sAsg
    rw [mX1_ok m1 m2 n4, ← hz1]
    rfl
  have e2 : sAsg 3 (mX2 k5 k6 k7) [some .well, some (.int n), t2, some (.int z1)] w = .nx [some .well, some (.int n), t2, some (.int z2)] w := by
    unfold sAsg
    rw [mX2_ok d5 m3 n7, ← hz2]
    rfl
  have e3 : sRet (mX3 k8 k9 k10 k11) [some .well, some (.int n), t2, some (.int z2)] w = .rt (.int ((((z2 * (z2.fdiv k8 + k9)).fmod k10).fdiv k11).fmod n)) w := by
    unfold sRet
    rw [mX3_ok d8 m4 n10 d11 nn]
  exact (seq_nx e1).trans ((seq_nx e2).trans e3)
theorem btn {a : Int} {k : Nat} (h0 : 0 ≤ a) (h : a < 2 ^ k) : Bt k a := bt_of (by
  have : (0 : Int) < 2 ^ k := Int.pow_pos (by decide)
  omega) h
theorem bt50 {a : Int} (h0 : 0 ≤ a) (h : a < 1125899906842624) : Bt 50 a := btn h0 (by
  have : (2 : Int) ^ 50 = 1125899906842624 := by decide
  omega)
theorem mix_ok {n : Int} {t2 : Option D} (hw : 0 ≤ w.2.2 ∧ w.2.2 ≤ 2000000 ∧ 0 ≤ w.2.1 ∧ w.2.1 < 2147483563) (hn : 0 < n) {k1 k2 k3 k4 k5 k6 k7 k8 k9 k10 k11 : Int}
    (b1 : 0 ≤ k1 ∧ k1 ≤ 100000) (b2 : 0 ≤ k2 ∧ k2 ≤ 100000) (b3 : 0 ≤ k3 ∧ k3 ≤ 100000) (b4 : 0 < k4 ∧ k4 ≤ 4294967296) (b5 : 0 < k5 ∧ k5 ≤ 100000) (b6 : 0 ≤ k6 ∧ k6 ≤ 100000) (b7 : 0 < k7 ∧ k7 ≤ 4294967296) (b8 : 0 < k8 ∧ k8 ≤ 100000) (b9 : 0 ≤ k9 ∧ k9 ≤ 100000) (b10 : 0 < k10 ∧ k10 ≤ 4294967296) (b11 : 0 < k11 ∧ k11 ≤ 100000) :
    ∃ m : Int, (0 ≤ m ∧ m < n) ∧ sSeq (sAsg 3 (mX1 k1 k2 k3 k4)) (sSeq (sAsg 3 (mX2 k5 k6 k7)) (sRet (mX3 k8 k9 k10 k11))) [some .well, some (.int n), t2, none] w = .rt (.int m) w := by
  obtain ⟨z1, hz1⟩ : ∃ z, z = ((w.2.1 + k1 * w.2.2 + k2) * k3).fmod k4 := ⟨_, rfl⟩
  obtain ⟨z2, hz2⟩ : ∃ z, z = (z1 * (z1.fdiv k5 + k6)).fmod k7 := ⟨_, rfl⟩
  have a1 := fmod_range (a := (w.2.1 + k1 * w.2.2 + k2) * k3) b4.1
  rw [← hz1] at a1
  have a2 := fmod_range (a := z1 * (z1.fdiv k5 + k6)) b7.1
  rw [← hz2] at a2
  have a3 := fdiv_range (a := z1) b5.1 a1.1
  have a4 := fdiv_range (a := z2) b8.1 a2.1
  have p1 : 0 ≤ k1 * w.2.2 ∧ k1 * w.2.2 ≤ 200000000000 := ⟨Int.mul_nonneg b1.1 hw.1, Int.le_trans (Int.mul_le_mul b1.2 hw.2.1 hw.1 (by omega)) (by omega)⟩
  obtain ⟨y, hy⟩ : ∃ y, y = k1 * w.2.2 := ⟨_, rfl⟩
  rw [← hy] at p1
  refine ⟨_, fmod_range hn, mix_run hz1 hz2 ?_ ?_ (by omega) ?_ ?_ (by omega) ?_ ?_ (by omega) ?_ (by omega)⟩
  · exact mul_bt (bt50 b1.1 (by omega)) (bt50 hw.1 (by omega)) (by omega)
  · rw [← hy]
    exact mul_bt (bt50 (by omega) (by omega)) (bt50 b3.1 (by omega)) (by omega)
  · exact div_bt (by omega) (bt50 (by omega) (by omega)) (by omega)
  · exact mul_bt (bt50 a1.1 (by omega)) (bt50 (by omega) (by omega)) (by omega)
  · exact div_bt (by omega) (bt50 (by omega) (by omega)) (by omega)
  · exact mul_bt (bt50 a2.1 (by omega)) (bt50 (by omega) (by omega)) (by omega)
  · exact div_bt (by omega) (bt50 (by omega) (by omega)) (by omega)
theorem pp110 : (2 : Int) ^ 110 = 1298074214633706907132624082305024 := by decide
theorem divOk_small {n : Int} (h0 : 0 < n) (h1 : n ≤ 2 ^ 110) : divOk n :=
  div_bt (i := 111) (by omega) (nat_lt_pow (by omega) h1) (by omega)
def drawB (R : DS) : DS := (sSeq (sIf (tE (eBin fGt (eBin fIx (eVar 0) (eC (.int 0))) (eC (.int 0)))) (sSeq (sAsg 2 (eBin fMod (eCB fInt (aCons (eBin fIx (eVar 0) (eC (.int 0))) aNil)) (eVar 1))) (sSeq (sSetW (eVar 0) (eC (.int 0)) (eBin fDiv (eBin fIx (eVar 0) (eC (.int 0))) (eVar 1))) (sRet (eVar 2)))) sNx) (sSeq (sSetW (eVar 0) (eC (.int 2)) (eBin fAdd (eBin fIx (eVar 0) (eC (.int 2))) (eC (.int 1)))) R))
theorem draw_shape : F_w_draw = runB 4 2 (drawB (sSeq (sAsg 3 (mX1 50021 73 40692 2147483629)) (sSeq (sAsg 3 (mX2 1031 69621 2147483579)) (sRet (mX3 2017 48271 2147483549 13))))) := rfl
theorem drawB_run {n : Int} {R : DS} {Q : D → Wl → Prop} (hn : n ≠ 0) (dn : divOk n) (h1 : 0 < w.1 → Q (.int (w.1.fmod n)) (w.1.fdiv n, w.2.1, w.2.2)) (h2 : ¬ 0 < w.1 → ∃ d, R [some .well, some (.int n), none, none] (w.1, w.2.1, w.2.2 + 1) = .rt d (w.1, w.2.1, w.2.2 + 1) ∧ Q d (w.1, w.2.1, w.2.2 + 1)) :
    okE (runB 4 2 (drawB R) [.well, .int n] w) Q := by
  by_cases hp : 0 < w.1
  · simp [drawB, okE_run, List.replicate, hp, hn, dn]
    exact h1 hp
  · obtain ⟨d, e, q⟩ := h2 hp
    simp [drawB, okE_run, List.replicate, hp, e]
    exact q
theorem e_draw {n : Int} (h0 : 0 < n) (h1 : n ≤ 2 ^ 110) (hb : b < 1010000) (hw : Lap b w) : okE (F_w_draw [.well, .int n] w) fun d w' => ∃ k : Int, d = .int k ∧ (0 ≤ k ∧ k < n) ∧ Lap (b + 1) w' := by
  obtain ⟨l0, l1, l2, l3⟩ := hw
  rw [draw_shape]
  refine drawB_run (by omega) (divOk_small h0 h1) (fun hp => ⟨_, rfl, fmod_range h0, l0, by show w.2.2 ≤ _; omega, l2, l3⟩) fun hp => ?_
  obtain ⟨m, hm, e⟩ := mix_ok (w := (w.1, w.2.1, w.2.2 + 1)) (t2 := none) (n := n) (k1 := 50021) (k2 := 73) (k3 := 40692) (k4 := 2147483629) (k5 := 1031) (k6 := 69621) (k7 := 2147483579) (k8 := 2017) (k9 := 48271) (k10 := 2147483549) (k11 := 13) ⟨by show 0 ≤ w.2.2 + 1; omega, by show w.2.2 + 1 ≤ _; omega, l2, l3⟩ h0 ⟨by omega, by omega⟩ ⟨by omega, by omega⟩ ⟨by omega, by omega⟩ ⟨by omega, by omega⟩ ⟨by omega, by omega⟩ ⟨by omega, by omega⟩ ⟨by omega, by omega⟩ ⟨by omega, by omega⟩ ⟨by omega, by omega⟩ ⟨by omega, by omega⟩ ⟨by omega, by omega⟩
  exact ⟨_, e, _, rfl, hm, by show 0 ≤ w.2.2 + 1; omega, by show w.2.2 + 1 ≤ _; omega, l2, l3⟩
/-- a draw, and then on -/
theorem draw {n : Int} {Q : D → Wl → Prop} (hw : Lap b w) (h0 : 0 < n) (h1 : n ≤ 2 ^ 110) (hb : b < 1010000) (q : ∀ (k : Int) (w' : Wl), 0 ≤ k → k < n → Lap (b + 1) w' → Q (.int k) w') : okE (F_w_draw [.well, .int n] w) Q :=
  okE_mono (e_draw h0 h1 hb hw) fun d w' ⟨k, e, h, l⟩ => by subst e; exact q k w' h.1 h.2 l
/-- one of some -/
theorem pick {l : List D} {Q : D → Wl → Prop} (hw : Lap b w) (h0 : l ≠ []) (h1 : l.length ≤ 1000) (hb : b < 1010000) (q : ∀ x ∈ l, ∀ (w' : Wl), Lap (b + 1) w' → Q x w') : okE (F_w_pick [.well, .lst l] w) Q := by
  have hl : 0 < l.length := List.length_pos_iff.mpr h0
  have e100 := pp110
  simp [F_w_pick, B_w_pick, okE_run, List.replicate]
  refine draw hw (by omega) (by omega) hb fun k w' k0 k1 l1 => ?_
  obtain ⟨x, hx, hm⟩ := atI_of k0 k1
  simp [hx]
  exact q x hm w' l1
theorem lap_le {c : Nat} (h : Lap b w) (h1 : b ≤ c) : Lap c w := ⟨h.1, by have := h.2.1; omega, h.2.2⟩
end
end DL

set_option maxHeartbeats 2000000
namespace DL
open PySem PySem.Spec PyProof.Rows L2
/-! ### how many elements a triplet has -/
theorem fdiv_neg2 (a b : Int) : (-a).fdiv (-b) = a.fdiv b := by
  exact Int.neg_fdiv_neg a b
theorem cnt_iff {t : Tr} (h : t.2.2 ≠ 0) {i : Int} (hi : 0 ≤ i) : i < cnt t ↔ (0 < t.2.2 ∧ at1 t i ≤ t.2.1) ∨ (t.2.2 < 0 ∧ t.2.1 ≤ at1 t i) := by
  obtain ⟨a, b, s⟩ := t
  unfold cnt at1
  simp only at h ⊢
  have hq : (i < if (b - a + s).fdiv s > 0 then (b - a + s).fdiv s else 0) ↔ i + 1 ≤ (b - a + s).fdiv s := by
    split <;> omega
  rw [hq]
  rcases Int.lt_or_gt_of_ne h with hs | hs
  · rw [← fdiv_neg2, Int.fdiv_eq_ediv_of_nonneg _ (by omega), Int.le_ediv_iff_mul_le (by omega)]
    have : (i + 1) * -s = -(i * s) - s := by rw [Int.add_mul, Int.mul_neg]; omega
    rw [this]
    omega
  · rw [Int.fdiv_eq_ediv_of_nonneg _ (by omega), Int.le_ediv_iff_mul_le (by omega)]
    have : (i + 1) * s = i * s + s := by rw [Int.add_mul]; omega
    rw [this]
    omega
theorem cnt_nonneg {t : Tr} : 0 ≤ cnt t := by
  unfold cnt
  split <;> omega
theorem mul_ge {i s : Int} (hi : 0 ≤ i) (hs : 0 < s) : i ≤ i * s := by
  have := Int.mul_le_mul_of_nonneg_left (show 1 ≤ s by omega) hi
  omega
/-- no more elements than numbers between the bounds -/
theorem cnt_le {t : Tr} (h : t.2.2 ≠ 0) {n : Int} (hn : 0 ≤ n) (h1 : 0 < t.2.2 → t.2.1 - t.1 < n) (h2 : t.2.2 < 0 → t.1 - t.2.1 < n) : cnt t ≤ n := by
  by_cases hc : cnt t ≤ n
  · exact hc
  · have := (cnt_iff h hn).mp (by omega)
    unfold at1 at this
    rcases this with ⟨hs, h3⟩ | ⟨hs, h3⟩
    · have := mul_ge hn hs
      have := h1 hs
      omega
    · have := mul_ge hn (show 0 < -t.2.2 by omega)
      rw [Int.mul_neg] at this
      have := h2 hs
      omega
/-- an element lies between the bounds -/
theorem at1_in {t : Tr} (h : t.2.2 ≠ 0) {i : Int} (hi : 0 ≤ i) (hc : i < cnt t) : (t.1 ≤ at1 t i ∧ at1 t i ≤ t.2.1) ∨ (t.2.1 ≤ at1 t i ∧ at1 t i ≤ t.1) := by
  rcases (cnt_iff h hi).mp hc with ⟨hs, h3⟩ | ⟨hs, h3⟩
  · left
    have : 0 ≤ i * t.2.2 := Int.mul_nonneg hi (by omega)
    unfold at1 at *
    omega
  · right
    have : 0 ≤ i * -t.2.2 := Int.mul_nonneg hi (by omega)
    rw [Int.mul_neg] at this
    unfold at1 at *
    omega
theorem at1_far {t : Tr} (h : Tri t) {i : Int} (hi : 0 ≤ i) (hc : i < cnt t) : inF (at1 t i) = true := by
  have ha := h.a
  have hb := h.b
  rw [inF_iff] at *
  rcases at1_in h.s hi hc with h1 | h1 <;> omega
theorem at1_inj {t : Tr} (h : t.2.2 ≠ 0) {i j : Int} (e : at1 t i = at1 t j) : i = j := by
  unfold at1 at e
  exact Int.eq_of_mul_eq_mul_right h (by omega)
theorem idx_at {t : Tr} (h : t.2.2 ≠ 0) {i : Int} (hi : 0 ≤ i) (hc : i < cnt t) : idx t (at1 t i) = some i := by
  unfold idx
  have e : at1 t i - t.1 = i * t.2.2 := by unfold at1; omega
  rw [e, Int.mul_fdiv_cancel _ h, Int.mul_fmod_left, if_pos ⟨rfl, hi, hc⟩]
theorem idx_some {t : Tr} (h : t.2.2 ≠ 0) {n j : Int} (e : idx t n = some j) : 0 ≤ j ∧ j < cnt t ∧ at1 t j = n := by
  unfold idx at e
  split at e
  · rename_i hc
    cases e
    refine ⟨hc.2.1, hc.2.2, ?_⟩
    have := Int.fmod_def (n - t.1) t.2.2
    unfold at1
    rw [hc.1] at this
    rw [Int.mul_comm] at this
    omega
  · cases e
theorem cnt_bt {t : Tr} (h : Tri t) : cnt t ≤ 2000000000000000000000000000001 := by
  have ha := h.a
  have hb := h.b
  rw [inF_iff] at ha hb
  exact cnt_le h.s (by omega) (fun _ => by simp only [FARn] at ha hb; omega) (fun _ => by simp only [FARn] at ha hb; omega)
theorem p110 : (2 : Int) ^ 110 = 1298074214633706907132624082305024 := by decide
section
variable {w : Wl} {t : Tr} {i n : Int}
theorem e_check_triplet (h : Tri t) {s : Str} : F_check_triplet [tD t, .str s] w = .ok .non w := by
  apply okE_eq
  have := e_is_triplet (w := w) h
  simp [F_check_triplet, B_check_triplet, okE_run, List.replicate, this]
end
end DL

set_option maxHeartbeats 2000000
namespace DL
open PySem PySem.Spec PyProof.Rows L2
/-! ### what the law draws -/
structure NearT (t : Tr) : Prop where
  a : -100 ≤ t.1 ∧ t.1 ≤ 100
  b : -100 ≤ t.2.1 ∧ t.2.1 ≤ 100
  c : -9 ≤ t.2.2 ∧ t.2.2 ≤ 9
  s : t.2.2 ≠ 0
  up : 0 < t.2.2 → t.2.1 - t.1 < 101
  dn : t.2.2 < 0 → t.1 - t.2.1 < 101
theorem NearT.tri {t : Tr} (h : NearT t) : Tri t := by
  have h1 := h.a
  have h2 := h.b
  have h3 := h.c
  refine ⟨?_, ?_, ?_, h.s⟩ <;> rw [inF_iff] <;> simp only [FARn] <;> omega
theorem NearT.few {t : Tr} (h : NearT t) : cnt t ≤ 101 := cnt_le h.s (by omega) h.up h.dn
def mem (t : Tr) : List Int := (List.range (cnt t).toNat).map fun k => at1 t (k : Nat)
section
variable {w : Wl} {b : Nat} {t : Tr}
theorem near0 (hw : Lap b w) (hb : b < 1009000) {Q : D → Wl → Prop} (q : ∀ t w', (NearT t ∧ -60 ≤ t.1 ∧ t.1 ≤ 60 ∧ -60 ≤ t.2.1 ∧ t.2.1 ≤ 60 ∧ (0 < t.2.2 → t.2.1 - t.1 < 61) ∧ (t.2.2 < 0 → t.1 - t.2.1 < 61)) → Lap (b + 4) w' → Q (tD t) w') : okE (F_w_near [.well] w) Q := by
  have hl : (8 : Nat) ≤ lim := by decide
  have hl3 : (3 : Nat) ≤ lim := by decide
  simp [F_w_near, B_w_near, okE_run, List.replicate, hl]
  refine pick hw (by simp) (by simp) (by omega) fun x hx w1 l1 => ?_
  obtain ⟨e, rfl, he⟩ : ∃ e : Int, x = .int e ∧ 0 ≤ e ∧ e ≤ 8 := by
    simp at hx
    rcases hx with h | h | h | h | h | h | h <;> exact ⟨_, h, by omega, by omega⟩
  simp
  refine draw l1 (by omega) (by decide) (by omega) fun f w2 f0 f1 l2 => ?_
  simp
  refine draw l2 (by omega) (by decide) (by omega) fun g w3 g0 g1 l3 => ?_
  simp
  refine draw l3 (by omega) (by decide) (by omega) fun c w4 c0 c1 l4 => ?_
  simp [hl3]
  split
  · exact q (f - 20, f - 20 + g - 20, 1 + e) w4 ⟨⟨⟨by show _ ≤ f - 20; omega, by show f - 20 ≤ _; omega⟩, ⟨by show _ ≤ f - 20 + g - 20; omega, by show f - 20 + g - 20 ≤ _; omega⟩, ⟨by show _ ≤ 1 + e; omega, by show 1 + e ≤ _; omega⟩, by show 1 + e ≠ 0; omega, fun _ => by show f - 20 + g - 20 - (f - 20) < _; omega, fun h => by have h : 1 + e < 0 := h; omega⟩, by show _ ≤ f - 20; omega, by show f - 20 ≤ _; omega, by show _ ≤ f - 20 + g - 20; omega, by show f - 20 + g - 20 ≤ _; omega, fun _ => by show f - 20 + g - 20 - (f - 20) < _; omega, fun h => by have h : 1 + e < 0 := h; omega⟩ l4
  · have e1 : -(1 + e) = 0 - (1 + e) := by omega
    rw [e1]
    exact q (f - 20 + g - 20, f - 20, 0 - (1 + e)) w4 ⟨⟨⟨by show _ ≤ f - 20 + g - 20; omega, by show f - 20 + g - 20 ≤ _; omega⟩, ⟨by show _ ≤ f - 20; omega, by show f - 20 ≤ _; omega⟩, ⟨by show _ ≤ 0 - (1 + e); omega, by show 0 - (1 + e) ≤ _; omega⟩, by show 0 - (1 + e) ≠ 0; omega, fun h => by have h : 0 < 0 - (1 + e) := h; omega, fun _ => by show f - 20 + g - 20 - (f - 20) < _; omega⟩, by show _ ≤ f - 20 + g - 20; omega, by show f - 20 + g - 20 ≤ _; omega, by show _ ≤ f - 20; omega, by show f - 20 ≤ _; omega, fun h => by have h : 0 < 0 - (1 + e) := h; omega, fun _ => by show f - 20 + g - 20 - (f - 20) < _; omega⟩ l4
theorem near (hw : Lap b w) (hb : b < 1009000) {Q : D → Wl → Prop} (q : ∀ t w', NearT t → Lap (b + 4) w' → Q (tD t) w') : okE (F_w_near [.well] w) Q := near0 hw hb fun t w' h l => q t w' h.1 l
theorem mem_len : (mem t).length = (cnt t).toNat := by simp [mem]
theorem e_members (h : NearT t) : F_w_members [tD t] w = .ok (.lst ((mem t).map .int)) w := by
  apply okE_eq
  have hl : (1 : Nat) ≤ lim := by decide
  have hf := h.few
  have hn := cnt_nonneg (t := t)
  obtain ⟨N, hN⟩ : ∃ N : Nat, (N : Int) = cnt t := ⟨(cnt t).toNat, by omega⟩
  simp [F_w_members, B_w_members, okE_run, List.replicate]
  refine okS_loop0 (fun i s w' => w' = w ∧ i ≤ N ∧ ∃ a b, s = [some (tD t), some (.own (((mem t).take i).map .int)), a, b]) ⟨rfl, by omega, none, none, rfl⟩ ?_ ?_
  · rintro i d s w2 hd ⟨rfl, hi, a, b, rfl⟩
    have hd2 : d = .int i := by
      unfold upTo at hd
      rw [List.getElem?_map] at hd
      obtain ⟨j, hj, rfl⟩ := Option.map_eq_some_iff.mp hd
      rw [List.getElem?_range (by have := (List.getElem?_eq_some_iff.mp hj).1; simpa using this)] at hj
      cases hj
      simp
    subst hd2
    have hx := cnt_iff h.s (i := i) (by omega)
    have hm : mulOk (i : Int) t.2.2 := by
      have h3 := h.c
      exact mul_bt (i := 50) (j := 50) (bt50 (by omega) (by omega)) (bt_of (by omega) (by omega)) (by omega)
    have hlen := mem_len (t := t)
    have hml : min i (mem t).length < lim := Nat.lt_of_le_of_lt (Nat.min_le_left _ _) (Nat.lt_of_lt_of_le (show i < 200 by omega) (by decide))
    have G1 : i < N → min i (mem t).length < lim ∧ i + 1 ≤ N ∧ List.take i (List.map D.int (mem t)) ++ [D.int (t.1 + ↑i * t.2.2)] = List.take (i + 1) (List.map D.int (mem t)) := fun h1 => by
      refine ⟨hml, h1, ?_⟩
      rw [List.take_add_one]
      congr 1
      have h2 : i < (cnt t).toNat := by omega
      simp [mem, at1, h2]
    have G2 : ¬ i < N → List.take i (List.map D.int (mem t)) = List.map D.int (mem t) := fun h1 => by
      rw [List.take_of_length_le]
      rw [List.length_map]
      omega
    simp [tD]
    refine ⟨hm, ?_⟩
    unfold at1 at hx
    have hs := h.s
    split <;> (try split) <;> (try split) <;> (try split) <;> first | exact G2 (by omega) | exact G1 (by omega)
  · rintro s w2 ⟨rfl, hi, a, b, rfl⟩
    simp [upTo] at hi
    omega
/-! far ones -/
theorem i30 : (10 : Int) ^ 30 = 1000000000000000000000000000000 := by decide
theorem e_count (h : Tri t) : F_w_count [tD t] w = .ok (.int (cnt t)) w := by
  apply okE_eq
  have hb := bt100 h.c
  have ha : (if t.2.2 < 0 then -t.2.2 else t.2.2) ≠ 0 ∧ Bt 100 (if t.2.2 < 0 then -t.2.2 else t.2.2) := by
    have := h.s
    split
    · exact ⟨by omega, bt_neg hb⟩
    · exact ⟨this, hb⟩
  have hd := div_bt ha.1 ha.2 (by omega)
  have uniq : ∀ c : Int, 0 ≤ c → (∀ i : Int, 0 ≤ i → (i < c ↔ i < cnt t)) → c = cnt t := fun c h0 hc => by
    have h1 := hc c h0
    have h2 := hc (cnt t) cnt_nonneg
    omega
  have hs := h.s
  have key : ∀ (A L : Int), 0 < A → (∀ i : Int, 0 ≤ i → (i * A ≤ L ↔ i < cnt t)) → (0 ≤ L → L.fdiv A + 1 = cnt t) ∧ (¬ 0 ≤ L → 0 = cnt t) := fun A L hA hc => by
    refine ⟨fun hL => ?_, fun hL => ?_⟩
    · have hq := fdiv_range hA hL
      refine uniq _ (by omega) fun i hi => ?_
      rw [← hc i hi, Int.fdiv_eq_ediv_of_nonneg _ (by omega), ← Int.le_ediv_iff_mul_le hA]
      omega
    · refine uniq _ (by omega) fun i hi => ?_
      rw [← hc i hi]
      have := Int.mul_nonneg hi (Int.le_of_lt hA)
      omega
  simp [F_w_count, B_w_count, okE_run, List.replicate, tD, hd]
  by_cases hp : 0 < t.2.2
  · rw [if_pos hp, if_neg (show ¬ t.2.2 < 0 by omega)]
    obtain ⟨k1, k2⟩ := key t.2.2 (t.2.1 - t.1) hp (fun i hi => by
      rw [cnt_iff hs hi]
      unfold at1
      omega)
    split
    · exact k1 (by omega)
    · exact k2 (by omega)
  · rw [if_neg hp, if_pos (show t.2.2 < 0 by omega)]
    obtain ⟨k1, k2⟩ := key (-t.2.2) (t.1 - t.2.1) (by omega) (fun i hi => by
      rw [cnt_iff hs hi, Int.mul_neg]
      unfold at1
      omega)
    split
    · exact k1 (by omega)
    · exact k2 (by omega)
theorem sgn {k : Int} (h0 : 0 ≤ k) (h1 : k < 2) : 1 - 2 * k = 1 ∨ 1 - 2 * k = -1 := by omega
theorem bt101 {n : Int} (h0 : -1000000000000000000000000000000 ≤ n) (h1 : n ≤ 1000000000000000000000000000000) : Bt 101 n := bt_of (Int.lt_of_lt_of_le (by decide) h0) (Int.lt_of_le_of_lt h1 (by decide))
theorem pickI {ns : List Int} (P : Int → Prop) (hP : ∀ n ∈ ns, P n) {Q : D → Wl → Prop} (hw : Lap b w) (h0 : ns ≠ []) (h1 : ns.length ≤ 1000) (hb : b < 1010000) (q : ∀ (n : Int) (w' : Wl), P n → Lap (b + 1) w' → Q (.int n) w') : okE (F_w_pick [.well, .lst (ns.map .int)] w) Q :=
  pick hw (by simpa using h0) (by simpa using h1) hb fun x hx w' l => by
    obtain ⟨n, hn, rfl⟩ := List.mem_map.mp hx
    exact q n w' (hP n hn) l
def P30 (n : Int) : Prop := 0 ≤ n ∧ n ≤ 1000000000000000000000000000000
theorem mulS {n k : Int} (hn : P30 n) (h0 : 0 ≤ k) (h1 : k < 2) : mulOk 2 k ∧ mulOk n (1 - 2 * k) ∧ -1000000000000000000000000000000 ≤ n * (1 - 2 * k) ∧ n * (1 - 2 * k) ≤ 1000000000000000000000000000000 ∧ (n ≠ 0 → n * (1 - 2 * k) ≠ 0) := by
  unfold P30 at hn
  refine ⟨mul_bt (bt50 (by omega) (by omega)) (bt50 h0 (by omega)) (by omega), mul_bt (i := 101) (j := 101) (bt101 (by omega) (by omega)) (bt101 (by omega) (by omega)) (by omega), ?_⟩
  rcases sgn h0 h1 with e | e <;> rw [e] <;> omega
end
end DL

set_option maxHeartbeats 2000000
namespace DL
open PySem PySem.Spec PyProof.Rows L2
/-! ### the law's own -/
section
variable {w : Wl} {b : Nat} {t : Tr}
theorem upTo_get {lo : Int} {n i : Nat} {d : D} (h : (upTo lo n)[i]? = some d) : i < n ∧ d = .int (lo + (i : Nat)) := by
  unfold upTo at h
  rw [List.getElem?_map] at h
  obtain ⟨j, hj, rfl⟩ := Option.map_eq_some_iff.mp h
  have hi : i < n := by
    have := (List.getElem?_eq_some_iff.mp hj).1
    simpa using this
  rw [List.getElem?_range hi] at hj
  cases hj
  exact ⟨hi, rfl⟩
theorem mem_get {j : Nat} : (mem t)[j]? = if j < (cnt t).toNat then some (at1 t (j : Nat)) else none := by
  unfold mem
  rw [List.getElem?_map]
  split
  · rename_i h
    rw [List.getElem?_range h]
    rfl
  · rename_i h
    rw [List.getElem?_eq_none (by simpa using h)]
    rfl
theorem mem_iff {n : Int} (h : t.2.2 ≠ 0) : n ∈ mem t ↔ ∃ j, idx t n = some j := by
  constructor
  · intro hm
    unfold mem at hm
    obtain ⟨k, hk, rfl⟩ := List.mem_map.mp hm
    have hk := List.mem_range.mp hk
    exact ⟨_, idx_at h (by omega) (by omega)⟩
  · rintro ⟨j, hj⟩
    obtain ⟨h0, h1, h2⟩ := idx_some h hj
    unfold mem
    exact List.mem_map.mpr ⟨j.toNat, List.mem_range.mpr (by omega), by rw [← h2, Int.toNat_of_nonneg h0]⟩
theorem find_mem {n j : Int} (h : t.2.2 ≠ 0) (hj : idx t n = some j) : ((mem t).findIdx? fun b => decide (b = n)) = some j.toNat := by
  obtain ⟨h0, h1, h2⟩ := idx_some h hj
  rw [List.findIdx?_eq_some_iff_getElem]
  have hl := mem_len (t := t)
  have hlt : j.toNat < (mem t).length := by omega
  have ge : ∀ (k : Nat) (hk : k < (mem t).length), (mem t)[k] = at1 t (k : Nat) := fun k hk => by
    have := mem_get (t := t) (j := k)
    rw [if_pos (by omega), List.getElem?_eq_getElem hk] at this
    exact Option.some.inj this
  refine ⟨hlt, ?_, fun k hk => ?_⟩
  · rw [ge _ hlt, Int.toNat_of_nonneg h0, h2]
    simp
  · rw [ge _ (by omega), ← h2]
    simp only [decide_eq_true_eq, Bool.not_eq_true', decide_eq_false_iff_not]
    intro e
    have := at1_inj h e
    omega
theorem okS_then {U V : DS} {s : Sl} {w : Wl} {N : Sl → Wl → Prop} {Z : D → Wl → Prop} (M : Sl → Wl → Prop) (h : okS (U s w) M Z) (q : ∀ s1 w1, M s1 w1 → okS (V s1 w1) N Z) : okS (sSeq U V s w) N Z := by
  rw [okS_seq]
  exact okS_mono h q fun _ _ z => z
end
end DL

set_option maxHeartbeats 2000000
namespace DL
open PySem PySem.Spec PyProof.Rows L2
/-! ### normal and turned triplets -/
section
variable {w : Wl} {b : Nat} {t u : Tr}
def up (t : Tr) : Tr := if 0 < t.2.2 then (t.1, at1 t (cnt t - 1), t.2.2) else (at1 t (cnt t - 1), t.1, -t.2.2)
def nrm (t : Tr) : Tr := if cnt t = 0 then (0, -1, 1) else if cnt t = 1 then (t.1, t.1, 1) else up t
/-- wide: what is reckoned with -/
structure Wd (t : Tr) : Prop where
  s : t.2.2 ≠ 0
  bs : Bt 4000 t.2.2
  bc : Bt 4000 (cnt t)
theorem Tri.wd (h : Tri t) : Wd t := ⟨h.s, (bt100 h.c).mono (by omega), by
  have := cnt_bt h
  have := cnt_nonneg (t := t)
  exact (bt_of (i := 110) (by omega) (by have := p110; omega)).mono (by omega)⟩
theorem bt1 {n : Nat} (h : 1 ≤ n) : Bt n 1 := by
  unfold Bt
  exact Nat.lt_of_lt_of_le (by decide) (Nat.pow_le_pow_right (by decide) h)
theorem e_last (h : Wd t) : F_last_of [tD t] w = .ok (.int (at1 t (cnt t - 1))) w := by
  apply okE_eq
  have hm := e_many (w := w) h.s (h.bs.mono (by omega))
  have hs := e_sub (w := w) (t := t) (i := cnt t - 1) ((bt_sub h.bc (bt1 (by omega))).mono (by omega)) (h.bs.mono (by omega))
  simp -implicitDefEqProofs [F_last_of, B_last_of, okE_run, hm, hs]
theorem e_upward (h : Wd t) : F_upward [tD t] w = .ok (tD (up t)) w := by
  apply okE_eq
  have hl : (3 : Nat) ≤ lim := by decide
  simp -implicitDefEqProofs [F_upward, B_upward, okE_run, e_last h, hl, up]
  split <;> rfl
theorem e_normal_of (h : Wd t) : F_normal_of [tD t] w = .ok (tD (nrm t)) w := by
  apply okE_eq
  have hm := e_many (w := w) h.s (h.bs.mono (by omega))
  have hl : (3 : Nat) ≤ lim := by decide
  simp -implicitDefEqProofs [F_normal_of, B_normal_of, okE_run, List.replicate, hm, hl, e_upward h, nrm]
  by_cases h0 : cnt t = 0
  · simp -implicitDefEqProofs [h0, tD]
  · by_cases h1 : cnt t = 1
    · simp -implicitDefEqProofs [h1, tD]
    · simp -implicitDefEqProofs [h0, h1]
theorem e_subscripts (h : Wd t) (hc : cnt t ≤ 1000000) : F_subscripts [tD t] w = .ok (.lst ((mem t).map .int)) w := by
  apply okE_eq
  have hlim : lim = 16000000 := rfl
  have hn := cnt_nonneg (t := t)
  have hm := e_many (w := w) h.s (h.bs.mono (by omega))
  simp -implicitDefEqProofs [F_subscripts, B_subscripts, okE_run, List.replicate, hm]
  refine ⟨⟨by omega, by omega⟩, by simp -implicitDefEqProofs [upTo, hlim]; omega, ?_⟩
  have hu : upTo 0 (cnt t).toNat = (List.range (cnt t).toNat).map fun (i : Nat) => D.int (0 + (i : Nat)) := rfl
  rw [hu]
  refine okE_lcall (fun (i : Nat) => D.int (0 + (i : Nat))) (fun i => D.int (at1 t (i : Nat))) (fun i hi => ?_) ?_
  · have hi := List.mem_range.mp hi
    have he := e_sub (w := w) (t := t) (i := (i : Nat)) (by
      have hb := bt_iff.mp h.bc
      exact Bt.mono (i := 4000) (bt_iff.mpr ⟨by omega, by omega⟩) (by omega)) (h.bs.mono (by omega))
    simp -implicitDefEqProofs [he]
  · have hu2 : (List.range (cnt t).toNat).map (fun i => D.int (at1 t (i : Nat))) = (mem t).map .int := by simp [mem]
    rw [hu2]
    simp
/-- the same elements in the same order, as the program tells it -/
def runB2 (t u : Tr) : Bool := if cnt t ≠ cnt u then false else if 1 < cnt t then decide (t.1 = u.1) && decide (t.2.2 = u.2.2) else decide (mem t = mem u)
end
end DL

set_option maxHeartbeats 2000000
namespace DL
open PySem PySem.Spec PyProof.Rows L2
/-! ### what normal triplets are -/
section
variable {t u : Tr}
theorem cnt_uniq {t : Tr} {c : Int} (h : t.2.2 ≠ 0) (h0 : 0 ≤ c) (hc : ∀ i : Int, 0 ≤ i → (i < c ↔ (0 < t.2.2 ∧ at1 t i ≤ t.2.1) ∨ (t.2.2 < 0 ∧ t.2.1 ≤ at1 t i))) : cnt t = c := by
  have h1 := hc c h0
  have h2 := hc (cnt t) cnt_nonneg
  rw [← cnt_iff h h0] at h1
  rw [← cnt_iff h cnt_nonneg] at h2
  omega
/-- a triplet by its first element, its step and how many -/
def mk3 (a s c : Int) : Tr := (a, a + (c - 1) * s, s)
theorem cnt_mk3 {a s c : Int} (hs : s ≠ 0) (hc : 0 ≤ c) : cnt (mk3 a s c) = c := by
  refine cnt_uniq hs hc fun i hi => ?_
  show i < c ↔ (0 < s ∧ a + i * s ≤ a + (c - 1) * s) ∨ (s < 0 ∧ a + (c - 1) * s ≤ a + i * s)
  have e : a + (c - 1) * s - (a + i * s) = (c - 1 - i) * s := by rw [Int.sub_mul (c - 1) i s]; omega
  rcases Int.lt_or_gt_of_ne hs with hs | hs
  · by_cases hlt : i < c
    · have : 0 ≤ (c - 1 - i) * -s := Int.mul_nonneg (by omega) (by omega)
      rw [Int.mul_neg] at this
      omega
    · have : 0 < (i - (c - 1)) * -s := Int.mul_pos (by omega) (by omega)
      have e2 : (i - (c - 1)) * -s = (c - 1 - i) * s := by rw [← Int.neg_mul_neg]; congr 1 <;> omega
      omega
  · by_cases hlt : i < c
    · have : 0 ≤ (c - 1 - i) * s := Int.mul_nonneg (by omega) (by omega)
      omega
    · have : 0 < (i - (c - 1)) * s := Int.mul_pos (by omega) (by omega)
      have e2 : (i - (c - 1)) * s = -((c - 1 - i) * s) := by rw [← Int.neg_mul]; congr 1; omega
      omega
theorem mem_mk3 {a s c : Int} (hs : s ≠ 0) (hc : 0 ≤ c) : mem (mk3 a s c) = (List.range c.toNat).map fun k => a + (k : Nat) * s := by
  unfold mem
  rw [cnt_mk3 hs hc]
  rfl
/-- the same elements, told by how many -/
theorem mem_same (h : t.2.2 ≠ 0) : mem t = mem (mk3 t.1 t.2.2 (cnt t)) := by
  rw [mem_mk3 h cnt_nonneg]
  rfl
theorem mem_rev {a s c : Int} (hs : s ≠ 0) (hc : 0 ≤ c) : (mem (mk3 a s c)).reverse = mem (mk3 (a + (c - 1) * s) (-s) c) := by
  rw [mem_mk3 hs hc, mem_mk3 (by omega) hc]
  apply List.ext_getElem?
  intro i
  by_cases hi : i < c.toNat
  · rw [List.getElem?_reverse (by simpa using hi)]
    simp only [List.length_map, List.length_range]
    rw [List.getElem?_map, List.getElem?_map, List.getElem?_range hi, List.getElem?_range (by omega)]
    simp only [Option.map_some, Option.some.injEq]
    have e : ((c.toNat - 1 - i : Nat) : Int) = c - 1 - i := by omega
    rw [e, Int.sub_mul (c - 1) i s, Int.mul_neg]
    omega
  · rw [List.getElem?_eq_none (by simpa using hi), List.getElem?_eq_none (by simpa using hi)]
/-- ascending: the least one, the step, how many -/
def lo (t : Tr) : Int := if 0 < t.2.2 then t.1 else at1 t (cnt t - 1)
def stp (t : Tr) : Int := if 0 < t.2.2 then t.2.2 else -t.2.2
theorem up_mk3 : up t = mk3 (lo t) (stp t) (cnt t) := by
  unfold up lo stp mk3
  split
  · rfl
  · congr 1
    congr 1
    unfold at1
    rw [Int.mul_neg]
    omega
theorem stp_pos (h : t.2.2 ≠ 0) : 0 < stp t := by
  unfold stp
  split <;> omega
theorem cnt_up (h : t.2.2 ≠ 0) : cnt (up t) = cnt t := by
  rw [up_mk3, cnt_mk3 (by have := stp_pos h; omega) cnt_nonneg]
theorem mem_up (h : t.2.2 ≠ 0) : mem (up t) = if 0 < t.2.2 then mem t else (mem t).reverse := by
  rw [up_mk3, mem_same h]
  split
  · rename_i hp
    unfold lo stp
    rw [if_pos hp, if_pos hp]
  · rename_i hp
    unfold lo stp
    rw [if_neg hp, if_neg hp, mem_rev h cnt_nonneg]
    rfl
theorem nrm_s (h : t.2.2 ≠ 0) : 0 < (nrm t).2.2 := by
  unfold nrm
  split
  · decide
  · split
    · show (0 : Int) < 1
      decide
    · rw [up_mk3]
      exact stp_pos h
theorem at1_zero : at1 t 0 = t.1 := by unfold at1; omega
theorem cnt_nrm (h : t.2.2 ≠ 0) : cnt (nrm t) = cnt t := by
  unfold nrm
  split
  · rename_i h0
    rw [h0]
    decide
  · split
    · rename_i h1
      rw [h1]
      have := cnt_mk3 (a := t.1) (s := 1) (c := 1) (by omega) (by omega)
      simpa [mk3] using this
    · exact cnt_up h
theorem mem_zero (h : cnt t = 0) : mem t = [] := by unfold mem; rw [h]; rfl
theorem mem_one (h : cnt t = 1) : mem t = [t.1] := by
  unfold mem
  rw [h]
  show [at1 t 0] = _
  rw [at1_zero]
theorem mem_nrm (h : t.2.2 ≠ 0) : mem (nrm t) = if 0 < t.2.2 then mem t else (mem t).reverse := by
  have hc := cnt_nrm h
  by_cases h0 : cnt t = 0
  · rw [mem_zero (hc.trans h0), mem_zero h0]
    simp
  · by_cases h1 : cnt t = 1
    · rw [mem_one (hc.trans h1), mem_one h1]
      have : (nrm t).1 = t.1 := by unfold nrm; rw [if_neg h0, if_pos h1]
      rw [this]
      simp
    · have : nrm t = up t := by unfold nrm; rw [if_neg h0, if_neg h1]
      rw [this, mem_up h]
theorem mem_up_le {a s c : Int} (hs : 0 < s) (hc : 0 ≤ c) : (mem (mk3 a s c)).Pairwise (· ≤ ·) := by
  rw [mem_mk3 (by omega) hc, List.pairwise_map]
  refine List.Pairwise.imp ?_ (List.pairwise_lt_range (n := c.toNat))
  intro i j hij
  have : 0 ≤ ((j : Int) - i) * s := Int.mul_nonneg (by omega) (by omega)
  rw [Int.sub_mul] at this
  omega
theorem nrm_le (h : t.2.2 ≠ 0) : (mem (nrm t)).Pairwise (· ≤ ·) := by
  have hs := nrm_s h
  rw [mem_same (by omega)]
  exact mem_up_le hs cnt_nonneg
theorem sort_mem (h : t.2.2 ≠ 0) : sortI (mem t) = mem (nrm t) := by
  refine sorted_unique ((sortI_perm _).trans ?_) (sortI_le _) (nrm_le h)
  rw [mem_nrm h]
  split
  · exact List.Perm.refl _
  · exact (List.reverse_perm _).symm
theorem sort_rev (l : List Int) : sortI l.reverse = sortI l := sorted_unique ((sortI_perm _).trans ((List.reverse_perm l).trans (sortI_perm l).symm)) (sortI_le _) (sortI_le _)
/-- the triplet that ascending numbers by equal steps make -/
def shown : List Int → Tr
  | [] => (0, -1, 1)
  | [a] => (a, a, 1)
  | a :: b :: r => (a, (a :: b :: r).getLast?.getD 0, b - a)
theorem shown_nrm (h : t.2.2 ≠ 0) : shown (mem (nrm t)) = nrm t := by
  by_cases h0 : cnt t = 0
  · rw [mem_zero ((cnt_nrm h).trans h0)]
    unfold nrm
    rw [if_pos h0]
    rfl
  · by_cases h1 : cnt t = 1
    · rw [mem_one ((cnt_nrm h).trans h1)]
      unfold nrm
      rw [if_neg h0, if_pos h1]
      rfl
    · have hn := cnt_nonneg (t := t)
      have e : nrm t = mk3 (lo t) (stp t) (cnt t) := by rw [← up_mk3]; unfold nrm; rw [if_neg h0, if_neg h1]
      have hs := stp_pos h
      rw [e]
      generalize lo t = a
      generalize stp t = s at *
      obtain ⟨n, hc⟩ : ∃ n : Nat, cnt t = (n : Int) + 2 := ⟨(cnt t - 2).toNat, by omega⟩
      rw [hc, mem_mk3 (by omega) (by omega)]
      have hr : ((n : Int) + 2).toNat = n + 2 := by omega
      rw [hr]
      have hl : ((List.range (n + 2)).map fun k => a + (k : Nat) * s).getLast? = some (a + ((n : Int) + 1) * s) := by
        rw [List.getLast?_eq_getElem?]
        simp
      have h2 : ((List.range (n + 2)).map fun k => a + (k : Nat) * s) = a :: (a + s) :: ((List.range n).map fun k => a + ((k + 2 : Nat) : Int) * s) := by
        rw [List.range_succ_eq_map, List.range_succ_eq_map]
        simp
        intro k _
        congr 1
      rw [h2] at hl ⊢
      show (a, Option.getD (List.getLast? (a :: (a + s) :: _)) 0, a + s - a) = mk3 a s _
      rw [hl]
      unfold mk3
      simp
      constructor
      · congr 1
        omega
      · omega
/-- triplets with the same normal one have the same elements, and the other way about -/
theorem nrm_iff (h : t.2.2 ≠ 0) (h2 : u.2.2 ≠ 0) : nrm t = nrm u ↔ sortI (mem t) = sortI (mem u) := by
  rw [sort_mem h, sort_mem h2]
  constructor
  · intro e
    rw [e]
  · intro e
    rw [← shown_nrm h, ← shown_nrm h2, e]
end
end DL

set_option maxHeartbeats 2000000
namespace DL
open PySem PySem.Spec PyProof.Rows L2
/-! ### turned triplets, the same sets and runs -/
section
variable {w : Wl} {b : Nat} {t u : Tr}
def trn (t : Tr) : Tr := if t.2.2 < 0 ∨ cnt t < 2 then nrm t else ((nrm t).2.1, (nrm t).1, -(nrm t).2.2)
theorem trn_mk3 (h : 2 ≤ cnt t) : trn t = mk3 (at1 t (cnt t - 1)) (-t.2.2) (cnt t) := by
  have hn : nrm t = up t := by unfold nrm; rw [if_neg (by omega), if_neg (by omega)]
  have e : at1 t (cnt t - 1) + (cnt t - 1) * -t.2.2 = t.1 := by unfold at1; rw [Int.mul_neg]; omega
  unfold trn mk3
  rw [e, hn]
  unfold up
  by_cases hs : t.2.2 < 0
  · rw [if_pos (.inl hs), if_neg (by omega)]
  · rw [if_neg (by omega)]
    by_cases hp : 0 < t.2.2
    · rw [if_pos hp]
    · have h0 : t.2.2 = 0 := by omega
      rw [if_neg hp, h0]
      simp [at1, h0]
theorem trn_s (h : t.2.2 ≠ 0) : (trn t).2.2 ≠ 0 := by
  have := nrm_s h
  unfold trn
  split
  · omega
  · show -(nrm t).2.2 ≠ 0
    omega
theorem mem_trn (h : t.2.2 ≠ 0) : mem (trn t) = (mem t).reverse := by
  by_cases h2 : 2 ≤ cnt t
  · rw [trn_mk3 h2, mem_same h, mem_rev h cnt_nonneg]
    rfl
  · have hn := cnt_nonneg (t := t)
    have e : trn t = nrm t := by unfold trn; rw [if_pos (by omega)]
    rw [e, mem_nrm h]
    split
    · by_cases h0 : cnt t = 0
      · rw [mem_zero h0]; rfl
      · rw [mem_one (by omega)]; rfl
    · rfl
theorem cnt_trn (h : t.2.2 ≠ 0) : cnt (trn t) = cnt t := by
  have e := congrArg List.length (mem_trn h)
  rw [List.length_reverse, mem_len, mem_len] at e
  have h1 := cnt_nonneg (t := t)
  have h2 := cnt_nonneg (t := trn t)
  omega
theorem nrm_trn (h : t.2.2 ≠ 0) : nrm (trn t) = nrm t := by
  rw [nrm_iff (trn_s h) h, mem_trn h, sort_rev]
theorem nrm_nrm (h : t.2.2 ≠ 0) : nrm (nrm t) = nrm t := by
  have := nrm_s h
  rw [nrm_iff (by omega) h, mem_nrm h]
  split
  · rfl
  · rw [sort_rev]
theorem inF_neg {n : Int} (h : inF n = true) : inF (-n) = true := by
  rw [inF_iff] at *
  omega
theorem Tri.nrm (h : Tri t) : Tri (nrm t) := by
  have hn := cnt_nonneg (t := t)
  unfold DL.nrm
  split
  · exact ⟨by decide, by decide, by decide, by decide⟩
  · split
    · exact ⟨h.a, h.a, rfl, by show (1 : Int) ≠ 0; decide⟩
    · have hl := at1_far h (i := cnt t - 1) (by omega) (by omega)
      unfold up
      have hs := h.s
      split
      · exact ⟨h.a, hl, h.c, h.s⟩
      · exact ⟨hl, h.a, inF_neg h.c, by show -t.2.2 ≠ 0; omega⟩
theorem Tri.trn (h : Tri t) : Tri (trn t) := by
  have hn := h.nrm
  have hs := hn.s
  unfold DL.trn
  split
  · exact hn
  · exact ⟨hn.b, hn.a, inF_neg hn.c, by show -(DL.nrm t).2.2 ≠ 0; omega⟩
theorem mem_first (h : 0 < cnt t) : (mem t)[0]? = some t.1 := by
  rw [mem_get, if_pos (by omega)]
  show some (at1 t 0) = _
  rw [at1_zero]
theorem mem_eq (hc : cnt t = cnt u) (h1 : t.1 = u.1) (h2 : t.2.2 = u.2.2) : mem t = mem u := by
  unfold mem
  rw [hc]
  apply List.map_congr_left
  intro k _
  unfold at1
  rw [h1, h2]
theorem cnt_of_mem (h : mem t = mem u) : cnt t = cnt u := by
  have e := congrArg List.length h
  rw [mem_len, mem_len] at e
  have h1 := cnt_nonneg (t := t)
  have h2 := cnt_nonneg (t := u)
  omega
theorem run_iff : runB2 t u = decide (mem t = mem u) := by
  unfold runB2
  by_cases hc : cnt t = cnt u
  · rw [if_neg (by simp [hc])]
    split
    rotate_left
    · rfl
    · rename_i hk
      rw [← Bool.decide_and]
      congr 1
      apply propext
      constructor
      · rintro ⟨h1, h2⟩
        exact mem_eq hc h1 h2
      · intro e
        have g0 := congrArg (·[0]?) e
        have g1 := congrArg (·[1]?) e
        simp only [mem_get] at g0 g1
        rw [if_pos (by omega), if_pos (by omega)] at g0 g1
        have g0 := Option.some.inj g0
        have g1 := Option.some.inj g1
        unfold at1 at g0 g1
        omega
  · rw [if_pos hc]
    symm
    rw [decide_eq_false_iff_not]
    exact fun e => hc (cnt_of_mem e)
/-- by the normal ones and the first elements -/
theorem mem_iff_nrm (h : t.2.2 ≠ 0) (h2 : u.2.2 ≠ 0) : mem t = mem u ↔ nrm t = nrm u ∧ (cnt u = 0 ∨ t.1 = u.1) := by
  constructor
  · intro e
    refine ⟨(nrm_iff h h2).mpr (by rw [e]), ?_⟩
    by_cases h0 : cnt u = 0
    · exact .inl h0
    · right
      have hu := cnt_nonneg (t := u)
      have hc := cnt_of_mem e
      have g := congrArg (·[0]?) e
      simp only [mem_first (t := t) (by omega), mem_first (t := u) (by omega), Option.some.injEq] at g
      exact g
  · rintro ⟨e, h1⟩
    have hc : cnt t = cnt u := by rw [← cnt_nrm h, ← cnt_nrm h2, e]
    have hm : mem (nrm t) = mem (nrm u) := by rw [e]
    rw [mem_nrm h, mem_nrm h2] at hm
    by_cases hc2 : cnt u < 2
    · by_cases h0 : cnt u = 0
      · rw [mem_zero (hc.trans h0), mem_zero h0]
      · have hu := cnt_nonneg (t := u)
        rw [mem_one (t := t) (by omega), mem_one (t := u) (by omega)]
        rcases h1 with h1 | h1
        · omega
        · rw [h1]
    · have h1 : t.1 = u.1 := by omega
      split at hm
      · split at hm
        · exact hm
        · exfalso
          have g := congrArg (·[0]?) hm
          simp only [mem_first (t := t) (by omega)] at g
          rw [List.getElem?_reverse (by rw [mem_len]; omega), mem_len, mem_get, if_pos (by omega)] at g
          have g := Option.some.inj g
          have e2 : (((cnt u).toNat - 1 - 0 : Nat) : Int) = cnt u - 1 := by omega
          rw [e2, h1, ← at1_zero (t := u)] at g
          have := at1_inj h2 g
          omega
      · split at hm
        · exfalso
          have g := congrArg (·[0]?) hm
          simp only [mem_first (t := u) (by omega)] at g
          rw [List.getElem?_reverse (by rw [mem_len]; omega), mem_len, mem_get, if_pos (by omega)] at g
          have g := Option.some.inj g
          have e2 : (((cnt t).toNat - 1 - 0 : Nat) : Int) = cnt t - 1 := by omega
          rw [e2, ← h1, ← at1_zero (t := t)] at g
          have := at1_inj h g
          omega
        · exact List.reverse_inj.mp hm
@[simp] theorem eqD_tD : eqD (tD t) (tD u) = decide (t = u) := by
  have := eqD_ints (xs := [t.1, t.2.1, t.2.2]) (ys := [u.1, u.2.1, u.2.2])
  show eqD (eD [t.1, t.2.1, t.2.2]) (eD [u.1, u.2.1, u.2.2]) = _
  rw [this]
  congr 1
  apply propext
  constructor
  · intro h
    simp only [List.cons.injEq, and_true] at h
    exact Prod.ext h.1 (Prod.ext h.2.1 h.2.2)
  · rintro rfl
    rfl
@[simp] theorem okD_tD : okD (tD t) = true := okD_ints (xs := [t.1, t.2.1, t.2.2])
theorem e_check_two (h : Tri t) (h2 : Tri u) : F_check_two [tD t, tD u] w = .ok .non w := by
  apply okE_eq
  simp -implicitDefEqProofs [F_check_two, B_check_two, okE_run, e_check_triplet h, e_check_triplet h2]
end
end DL

set_option maxHeartbeats 2000000
namespace DL
open PySem PySem.Spec PyProof.Rows L2
/-! ### lists of a few things -/
section
variable {w : Wl} {b : Nat} {t u : Tr}
theorem toPDs_bls : ∀ xs : List Bool, toPDs (xs.map D.bl) = xs.map PyData.bool
  | [] => by simp [toPDs]
  | x :: xs => by simp [toPDs, toPD, toPDs_bls xs]
theorem lay_bls : ∀ xs : List Bool, PyData.canLayAll0 (xs.map PyData.bool) = true ∧ PyData.depthAll (xs.map PyData.bool) = 0
  | [] => by simp [PyData.canLayAll0, PyData.depthAll]
  | x :: xs => by
    have := lay_bls xs
    simp [PyData.canLayAll0, PyData.depthAll, PyData.canLay0, PyData.depth, this]
theorem okD_lbls {xs : List Bool} : okD (.lst (xs.map .bl)) = true := by
  have := lay_bls xs
  simp [okD, toPD, toPDs_bls, SeqAt.shaped, PyData.canLay0, PyData.depth, this]
@[simp] theorem eqD_bl {a b : Bool} : eqD (.bl a) (.bl b) = (a == b) := by
  show (PyData.eqv (.bool a) (.bool b)) = _
  unfold PyData.eqv
  rfl
@[simp] theorem okD_bl {a : Bool} : okD (.bl a) = true := rfl
@[simp] theorem eqD_lcons {x y : D} {xs ys : List D} : eqD (.lst (x :: xs)) (.lst (y :: ys)) = (eqD x y && eqD (.lst xs) (.lst ys)) := by
  show PyData.eqv (.list (toPDs (x :: xs))) (.list (toPDs (y :: ys))) = (PyData.eqv (toPD x) (toPD y) && PyData.eqv (.list (toPDs xs)) (.list (toPDs ys)))
  have e : ∀ a b : List PyData, PyData.eqv (.list a) (.list b) = PyData.eqvAll a b := fun a b => by unfold PyData.eqv; rfl
  rw [e, e]
  rfl
@[simp] theorem eqD_lnil : eqD (.lst []) (.lst []) = true := by
  show PyData.eqv (.list []) (.list []) = true
  unfold PyData.eqv
  rfl
@[simp] theorem okD_b1 {a : Bool} : okD (.lst [.bl a]) = true := okD_lbls (xs := [a])
@[simp] theorem okD_b2 {a c : Bool} : okD (.lst [.bl a, .bl c]) = true := okD_lbls (xs := [a, c])
@[simp] theorem okD_i2 {a c : Int} : okD (.lst [.int a, .int c]) = true := okD_lints (xs := [a, c])
@[simp] theorem okD_t2 : okD (.lst [tD t, tD u]) = true := rfl
@[simp] theorem v_mulL {xs : List D} {k : Int} {P : D → Prop} : okO (fMul w (.lst xs) (.int k)) P = ((0 ≤ k ∧ k ≤ 1000000 ∧ xs.length * k.toNat ≤ lim) ∧ P (.lst (List.replicate k.toNat xs).flatten)) := by
  show okO (if _ then some _ else none) P = _
  simp
theorem twice {x : D} : (List.replicate (2 : Int).toNat [x]).flatten = [x, x] := rfl
end
end DL

set_option maxHeartbeats 2000000
namespace DL
open PySem PySem.Spec PyProof.Rows L2
/-! ### membership -/
section
variable {w : Wl} {b : Nat} {t u : Tr}
/-- an element -/
def In (t : Tr) (x : Int) : Prop := ∃ i : Int, 0 ≤ i ∧ i < cnt t ∧ at1 t i = x
theorem in_mem {x : Int} : x ∈ mem t ↔ In t x := by
  unfold mem In
  rw [List.mem_map]
  constructor
  · rintro ⟨k, hk, rfl⟩
    have hk := List.mem_range.mp hk
    exact ⟨k, by omega, by omega, rfl⟩
  · rintro ⟨i, h0, h1, rfl⟩
    exact ⟨i.toNat, List.mem_range.mpr (by omega), by rw [Int.toNat_of_nonneg h0]⟩
theorem in_idx {x : Int} (h : t.2.2 ≠ 0) : In t x ↔ ∃ j, idx t x = some j := by rw [← in_mem, mem_iff h]
theorem in_mk3 {a s c x : Int} (hs : 0 < s) (hc : 0 ≤ c) : In (mk3 a s c) x ↔ a ≤ x ∧ x ≤ a + (c - 1) * s ∧ s ∣ x - a := by
  unfold In
  rw [cnt_mk3 (by omega) hc]
  constructor
  · rintro ⟨i, h0, h1, rfl⟩
    have e : at1 (mk3 a s c) i = a + i * s := rfl
    have p1 : 0 ≤ i * s := Int.mul_nonneg h0 (by omega)
    have p2 : 0 ≤ (c - 1 - i) * s := Int.mul_nonneg (by omega) (by omega)
    rw [Int.sub_mul (c - 1) i s] at p2
    rw [e]
    exact ⟨by omega, by omega, ⟨i, by rw [Int.mul_comm]; omega⟩⟩
  · rintro ⟨h1, h2, i, hi⟩
    have e : at1 (mk3 a s c) i = x := by
      show a + i * s = x
      rw [Int.mul_comm]
      omega
    refine ⟨i, ?_, ?_, e⟩
    · apply Int.not_lt.mp
      intro hn
      have := Int.mul_pos_of_neg_of_neg hn (show -s < 0 by omega)
      rw [Int.mul_neg, Int.mul_comm] at this
      omega
    · apply Int.not_le.mp
      intro hn
      have : 0 < (i - (c - 1)) * s := Int.mul_pos (by omega) hs
      rw [Int.sub_mul, Int.mul_comm i] at this
      omega
theorem in_up {x : Int} (h : t.2.2 ≠ 0) : In t x ↔ (up t).1 ≤ x ∧ x ≤ (up t).2.1 ∧ (up t).2.2 ∣ x - (up t).1 := by
  have e : In t x ↔ In (up t) x := by
    rw [← in_mem, ← in_mem, mem_up h]
    split
    · exact Iff.rfl
    · rw [List.mem_reverse]
  rw [e, up_mk3, in_mk3 (stp_pos h) cnt_nonneg]
  rfl
theorem in_nrm {x : Int} (h : t.2.2 ≠ 0) : In (nrm t) x ↔ In t x := by
  rw [← in_mem, ← in_mem, mem_nrm h]
  split
  · exact Iff.rfl
  · rw [List.mem_reverse]
theorem nodup_mem (h : t.2.2 ≠ 0) : (mem t).Nodup := by
  unfold mem
  rw [List.Nodup, List.pairwise_map]
  refine List.Pairwise.imp ?_ (List.pairwise_lt_range (n := (cnt t).toNat))
  intro i j hij e
  have := at1_inj h e
  omega
/-- normal triplets of the same elements are the same -/
theorem nrm_ext (h : t.2.2 ≠ 0) (h2 : u.2.2 ≠ 0) (e : ∀ x, In t x ↔ In u x) : nrm t = nrm u := by
  rw [nrm_iff h h2]
  refine sorted_unique ((sortI_perm _).trans ?_) (sortI_le _) (sortI_le _)
  refine List.Perm.trans ?_ (sortI_perm _).symm
  rw [List.perm_ext_iff_of_nodup (nodup_mem h) (nodup_mem h2)]
  intro x
  rw [in_mem, in_mem]
  exact e x
/-- ascending by a period, from a number to a number -/
theorem in_asc {a z s x : Int} (hs : 0 < s) : In (a, z, s) x ↔ a ≤ x ∧ x ≤ z ∧ s ∣ x - a := by
  have hs0 : s ≠ 0 := by omega
  unfold In
  constructor
  · rintro ⟨i, h0, h1, rfl⟩
    have := (cnt_iff (t := (a, z, s)) hs0 h0).mp h1
    have p1 : 0 ≤ i * s := Int.mul_nonneg h0 (by omega)
    have e : at1 (a, z, s) i = a + i * s := rfl
    rw [e] at this ⊢
    simp only at this
    exact ⟨by omega, by omega, ⟨i, by rw [Int.mul_comm]; omega⟩⟩
  · rintro ⟨h1, h2, i, hi⟩
    have e : at1 (a, z, s) i = x := by
      show a + i * s = x
      rw [Int.mul_comm]
      omega
    have h0 : 0 ≤ i := by
      apply Int.not_lt.mp
      intro hn
      have := Int.mul_pos_of_neg_of_neg hn (show -s < 0 by omega)
      rw [Int.mul_neg, Int.mul_comm] at this
      omega
    refine ⟨i, h0, ?_, e⟩
    rw [cnt_iff (t := (a, z, s)) hs0 h0, e]
    exact .inl ⟨hs, h2⟩
end
/-! ### the greatest common divisor, and a factor -/
section
variable {w : Wl}
/-- what the loop keeps -/
structure Gc (N M a r f g : Int) : Prop where
  a0 : 0 < a
  r0 : 0 ≤ r
  ca : M ∣ N * f - a
  cr : M ∣ N * g - r
  dv : ∀ d : Int, d ∣ a → d ∣ r → d ∣ N ∧ d ∣ M
  sg : (0 ≤ f ∧ g ≤ 0 ∧ f * r - g * a = M) ∨ (f ≤ 0 ∧ 0 ≤ g ∧ g * a - f * r = M)
  fb : -M ≤ f ∧ f ≤ M
  ab : a ≤ N + M
theorem Gc.first {N M : Int} (hN : 0 < N) (hM : 0 < M) : Gc N M N M 1 0 :=
  ⟨hN, by omega, ⟨0, by omega⟩, ⟨-1, by omega⟩, fun d h1 h2 => ⟨h1, h2⟩, .inl ⟨by omega, by omega, by omega⟩, ⟨by omega, by omega⟩, by omega⟩
theorem Gc.gb {N M a r f g : Int} (h : Gc N M a r f g) : -M ≤ g ∧ g ≤ M := by
  have ha := h.a0
  have hr := h.r0
  rcases h.sg with ⟨h1, h2, h3⟩ | ⟨h1, h2, h3⟩
  · have p1 : 0 ≤ f * r := Int.mul_nonneg h1 hr
    have p2 : -g ≤ -g * a := mul_ge (by omega) ha
    rw [Int.neg_mul] at p2
    omega
  · have p1 : 0 ≤ -f * r := Int.mul_nonneg (by omega) hr
    have p2 : g ≤ g * a := mul_ge (by omega) ha
    rw [Int.neg_mul] at p1
    omega
theorem Gc.next {N M a r f g : Int} (h : Gc N M a r f g) (hr : r ≠ 0) (hN : 0 < N) (hM : 0 < M) (hrb : r ≤ N + M) : Gc N M r (a - a.fdiv r * r) g (f - a.fdiv r * g) := by
  have ha := h.a0
  have hr0 := h.r0
  have hq := fdiv_range (a := a) (n := r) (by omega) (by omega)
  have hm := fmod_range (a := a) (n := r) (by omega)
  have hmd := Int.fmod_def a r
  rw [Int.mul_comm] at hmd
  generalize a.fdiv r = q at *
  rw [hmd] at hm
  refine ⟨by omega, hm.1, h.cr, ?_, ?_, ?_, h.gb, hrb⟩
  · have := Int.dvd_sub h.ca (Int.dvd_mul_of_dvd_right (b := q) h.cr)
    have e : N * f - a - q * (N * g - r) = N * (f - q * g) - (a - q * r) := by
      rw [Int.mul_sub, Int.mul_sub, Int.mul_left_comm q N g]
      omega
    rw [e] at this
    exact this
  · intro d h1 h2
    refine h.dv d ?_ h1
    have := Int.dvd_add h2 (Int.dvd_mul_of_dvd_right (b := q) h1)
    have e : a - q * r + q * r = a := by omega
    rwa [e] at this
  · have e1 : g * (a - q * r) = g * a - q * (g * r) := by rw [Int.mul_sub, Int.mul_left_comm g q r]
    have e2 : (f - q * g) * r = f * r - q * (g * r) := by rw [Int.sub_mul, Int.mul_assoc]
    rcases h.sg with ⟨h1, h2, h3⟩ | ⟨h1, h2, h3⟩
    · right
      have : 0 ≤ q * -g := Int.mul_nonneg hq.1 (by omega)
      rw [Int.mul_neg] at this
      refine ⟨h2, by omega, ?_⟩
      rw [e1, e2]
      omega
    · left
      have : 0 ≤ q * g := Int.mul_nonneg hq.1 h2
      refine ⟨h2, by omega, ?_⟩
      rw [e1, e2]
      omega
end
end DL

set_option maxHeartbeats 2000000
namespace DL
open PySem PySem.Spec PyProof.Rows L2
/-! ### the loop -/
section
variable {w : Wl}
def GS (N M : Int) (m : Nat) (s : Sl) : Prop := ∃ a r f g : Int, ∃ t, s = [some (.int N), some (.int M), some (.int a), some (.int r), some (.int f), some (.int g), t] ∧ Gc N M a r f g ∧ r ≤ N + M ∧ ((r ≤ a ∧ a * r < 2 ^ m) ∨ (a < r ∧ 1 ≤ m ∧ a * r < 2 ^ (m - 1)))
def GE (N M : Int) (s : Sl) : Prop := ∃ g f h : Int, ∃ t, s = [some (.int N), some (.int M), some (.int g), some (.int 0), some (.int f), some (.int h), t] ∧ Gc N M g 0 f h
def GD (N M : Int) (d : D) : Prop := ∃ g f h : Int, d = .tup [.int g, .int f] ∧ Gc N M g 0 f h
theorem pow_up {i j : Nat} (h : i ≤ j) : (2 : Int) ^ i ≤ 2 ^ j := by
  have := Nat.pow_le_pow_right (n := 2) (by decide) h
  exact_mod_cast this
theorem e_gcd {N M : Int} (hN : 0 < N) (hM : 0 < M) (bN : Bt 4000 N) (bM : Bt 4000 M) : ∃ g f : Int, F_divisor_and_factor [.int N, .int M] w = .ok (.tup [.int g, .int f]) w ∧ 0 < g ∧ g ∣ N ∧ g ∣ M ∧ M ∣ N * f - g ∧ -M ≤ f ∧ f ≤ M := by
  have hl2 : (2 : Nat) ≤ lim := by decide
  have bNM : ∀ x : Int, 0 ≤ x → x ≤ N + M → Bt 4001 x := fun x h0 h1 => by
    have := bt_iff.mp (bt_add bN bM)
    exact bt_iff.mpr ⟨by omega, by omega⟩
  have bMM : ∀ x : Int, -M ≤ x → x ≤ M → Bt 4000 x := fun x h0 h1 => by
    have := bt_iff.mp bM
    exact bt_iff.mpr ⟨by omega, by omega⟩
  have key : okE (F_divisor_and_factor [.int N, .int M] w) fun d w' => w' = w ∧ GD N M d := by
    unfold F_divisor_and_factor
    rw [okE_run]
    refine ⟨rfl, ?_⟩
    show okS (B_divisor_and_factor [some (.int N), some (.int M), none, none, none, none, none] w) _ _
    unfold B_divisor_and_factor
    refine okS_then (fun s1 w1 => w1 = w ∧ s1 = [some (.int N), some (.int M), some (.int N), some (.int M), none, none, none]) ?_ ?_
    · simp -implicitDefEqProofs
    rintro _ w1 ⟨rfl, rfl⟩
    refine okS_then (fun s1 w2 => w2 = w1 ∧ s1 = [some (.int N), some (.int M), some (.int N), some (.int M), some (.int 1), some (.int 0), none]) ?_ ?_
    · simp -implicitDefEqProofs
    rintro _ w1 ⟨rfl, rfl⟩
    refine okS_then (fun s1 w2 => w2 = w1 ∧ GE N M s1) ?_ ?_
    · refine okS_while (fun m s w' => w' = w1 ∧ GS N M m s) 100000000 8001 (by decide) ?_ ?_
      · refine ⟨rfl, N, M, 1, 0, none, rfl, Gc.first hN hM, by omega, ?_⟩
        have hp := (bt_iff.mp (bt_mul bN bM)).2
        by_cases hc : M ≤ N
        · left
          refine ⟨hc, Int.lt_of_lt_of_le hp (pow_up (by omega))⟩
        · right
          exact ⟨by omega, by omega, hp⟩
      · rintro m s w' ⟨rfl, a, r, f, g, t, rfl, G, hrb, hm⟩
        have ha := G.a0
        have hr0 := G.r0
        simp -implicitDefEqProofs
        by_cases hr : r = 0
        · rw [if_pos hr]
          subst hr
          exact ⟨a, f, g, t, rfl, G⟩
        · rw [if_neg hr]
          have hrp : 0 < r := by omega
          have hq := fdiv_range (a := a) (n := r) hrp (by omega)
          have hmd := Int.fmod_def a r
          have hmr := fmod_range (a := a) (n := r) hrp
          rw [Int.mul_comm] at hmd
          rw [hmd] at hmr
          have G2 := G.next hr hN hM hrb
          have ar1 : 1 ≤ a * r := Int.mul_pos ha hrp
          have d1 : divOk r := div_bt hr (bNM r hr0 hrb) (by omega)
          have hgb := G.gb
          have hab := G.ab
          have m1 : mulOk (a.fdiv r) r := mul_bt (bNM _ hq.1 (by omega)) (bNM _ hr0 hrb) (by omega)
          have m2 : mulOk (a.fdiv r) g := mul_bt (bNM _ hq.1 (by omega)) (bMM _ hgb.1 hgb.2) (by omega)
          have q1 : r ≤ a → 1 ≤ a.fdiv r := fun h => by
            rw [Int.fdiv_eq_ediv_of_nonneg _ (by omega)]
            exact (Int.le_ediv_iff_mul_le hrp).mpr (by omega)
          have q0 : a < r → a.fdiv r = 0 := fun h => by
            rw [Int.fdiv_eq_ediv_of_nonneg _ (by omega)]
            exact Int.ediv_eq_zero_of_lt (by omega) h
          generalize a.fdiv r = q at *
          simp -implicitDefEqProofs [d1, m1, m2]
          have m0 : m ≠ 0 := by
            rintro rfl
            rcases hm with ⟨_, h⟩ | ⟨_, h, _⟩
            · simp at h
              omega
            · omega
          obtain ⟨j, rfl⟩ : ∃ j, m = j + 1 := ⟨m - 1, by omega⟩
          refine ⟨j, rfl, r, a - q * r, g, f - q * g, _, rfl, G2, by omega, .inl ⟨by omega, ?_⟩⟩
          rcases hm with ⟨h1, h2⟩ | ⟨h1, _, h2⟩
          · have hq1 := q1 h1
            have hqr : r ≤ q * r := by
              have := Int.mul_le_mul_of_nonneg_right hq1 (show 0 ≤ r by omega)
              omega
            have e2 : 2 * (a - q * r) ≤ a := by omega
            have e3 := Int.mul_le_mul_of_nonneg_left e2 (show 0 ≤ r by omega)
            rw [Int.pow_succ, Int.mul_comm a r] at h2
            rw [Int.mul_left_comm r 2] at e3
            omega
          · have := q0 h1
            rw [this]
            have e : r * (a - 0 * r) = a * r := by rw [Int.zero_mul, Int.sub_zero, Int.mul_comm]
            rw [e]
            exact h2
    rintro s1 w2 ⟨rfl, g, f, h, t, rfl, G⟩
    simp -implicitDefEqProofs [hl2]
    exact ⟨g, f, h, rfl, G⟩
  obtain ⟨d, w', e, rfl, g, f, h, rfl, G⟩ := okE_ex key
  have fin : ∀ g f h : Int, Gc N M g 0 f h → 0 < g ∧ g ∣ N ∧ g ∣ M ∧ M ∣ N * f - g ∧ -M ≤ f ∧ f ≤ M := fun g f h G =>
    ⟨G.a0, (G.dv g (Int.dvd_refl g) (Int.dvd_zero g)).1, (G.dv g (Int.dvd_refl g) (Int.dvd_zero g)).2, G.ca, G.fb.1, G.fb.2⟩
  exact ⟨g, f, e, fin _ _ _ G⟩
end
end DL

set_option maxHeartbeats 2000000
namespace DL
open PySem PySem.Spec PyProof.Rows L2
/-! ### what two triplets share -/
theorem crt_no {lo s l2 s2 g x : Int} (gs : g ∣ s) (gs2 : g ∣ s2) (h : ¬ g ∣ l2 - lo) : ¬ (s ∣ x - lo ∧ s2 ∣ x - l2) := by
  rintro ⟨h1, h2⟩
  apply h
  have := Int.dvd_sub (Int.dvd_trans gs h1) (Int.dvd_trans gs2 h2)
  have e : x - lo - (x - l2) = l2 - lo := by omega
  rwa [e] at this
theorem crt_yes {lo s l2 s2 g f x : Int} (g0 : 0 < g) (gs : g ∣ s) (gs2 : g ∣ s2) (hf : s2 ∣ s * f - g) (h : g ∣ l2 - lo) :
    (s ∣ x - lo ∧ s2 ∣ x - l2) ↔ s * (s2 / g) ∣ x - (lo + s * ((l2 - lo) / g * f)) := by
  obtain ⟨a, rfl⟩ := gs
  obtain ⟨b, rfl⟩ := gs2
  obtain ⟨d, hd⟩ := h
  have g1 : g ≠ 0 := by omega
  rw [hd, Int.mul_ediv_cancel_left _ g1, Int.mul_ediv_cancel_left _ g1]
  have hb : b ∣ a * f - 1 := by
    have e : g * a * f - g = g * (a * f - 1) := by rw [Int.mul_sub, Int.mul_one, Int.mul_assoc]
    rw [e] at hf
    exact Int.dvd_of_mul_dvd_mul_left g1 hf
  have x0 : g * b ∣ lo + g * a * (d * f) - l2 := by
    have e : lo + g * a * (d * f) - l2 = (g * a * f - g) * d := by
      rw [Int.sub_mul, ← hd, Int.mul_assoc (g * a) f d, Int.mul_comm f d]
      omega
    rw [e]
    exact Int.dvd_mul_of_dvd_left hf
  constructor
  · rintro ⟨h1, h2⟩
    have y1 : g * a ∣ x - (lo + g * a * (d * f)) := by
      have := Int.dvd_sub h1 (Int.dvd_mul_right (g * a) (d * f))
      have e : x - lo - g * a * (d * f) = x - (lo + g * a * (d * f)) := by omega
      rwa [e] at this
    have y2 : g * b ∣ x - (lo + g * a * (d * f)) := by
      have := Int.dvd_sub h2 x0
      have e : x - l2 - (lo + g * a * (d * f) - l2) = x - (lo + g * a * (d * f)) := by omega
      rwa [e] at this
    obtain ⟨m, hm⟩ := y1
    rw [hm] at y2 ⊢
    have h3 : b ∣ a * m := by
      rw [Int.mul_assoc] at y2
      exact Int.dvd_of_mul_dvd_mul_left g1 y2
    have h4 : b ∣ m := by
      have := Int.dvd_sub (Int.dvd_mul_of_dvd_right (b := f) h3) (Int.dvd_mul_of_dvd_left (c := m) hb)
      have e : f * (a * m) - (a * f - 1) * m = m := by
        rw [Int.sub_mul, Int.one_mul, Int.mul_comm f, Int.mul_assoc a m f, Int.mul_assoc a f m, Int.mul_comm m f]
        omega
      rwa [e] at this
    exact Int.mul_dvd_mul (Int.dvd_refl _) h4
  · intro h1
    have y1 := Int.dvd_trans (Int.dvd_mul_right (g * a) b) h1
    have y2 : g * b ∣ x - (lo + g * a * (d * f)) := by
      refine Int.dvd_trans ⟨a, ?_⟩ h1
      rw [Int.mul_assoc, Int.mul_assoc, Int.mul_comm a b]
    refine ⟨?_, ?_⟩
    · have := Int.dvd_add y1 (Int.dvd_mul_right (g * a) (d * f))
      have e : x - (lo + g * a * (d * f)) + g * a * (d * f) = x - lo := by omega
      rwa [e] at this
    · have := Int.dvd_add y2 x0
      have e : x - (lo + g * a * (d * f)) + (lo + g * a * (d * f) - l2) = x - l2 := by omega
      rwa [e] at this
section
variable {w : Wl} {t u : Tr}
structure WD (t : Tr) : Prop where
  s : t.2.2 ≠ 0
  ba : Bt 1000 t.1
  bs : Bt 1000 t.2.2
  bc : Bt 1000 (cnt t)
theorem WD.wd (h : WD t) : Wd t := ⟨h.s, h.bs.mono (by omega), h.bc.mono (by omega)⟩
theorem Tri.WD (h : Tri t) : WD t := ⟨h.s, (bt100 h.a).mono (by omega), (bt100 h.c).mono (by omega), by
  have := cnt_bt h
  have := cnt_nonneg (t := t)
  exact (bt_of (i := 110) (by omega) (by have := p110; omega)).mono (by omega)⟩
theorem WD.ends (h : WD t) : Bt 2002 (up t).1 ∧ Bt 2002 (up t).2.1 ∧ 0 < (up t).2.2 ∧ Bt 1000 (up t).2.2 := by
  have hl : Bt 2002 (at1 t (cnt t - 1)) := by
    unfold at1
    exact bt_add (i := 2001) (h.ba.mono (by omega)) ((bt_mul (bt_sub h.bc (bt1 (by omega))) h.bs).mono (by omega))
  have hs := h.s
  unfold up
  split
  · rename_i hp
    exact ⟨h.ba.mono (by omega), hl, hp, h.bs⟩
  · exact ⟨hl, h.ba.mono (by omega), by show 0 < -t.2.2; omega, bt_neg h.bs⟩
theorem in_empty {x : Int} : ¬ In (0, -1, 1) x := by
  rw [in_asc (by decide)]
  omega
theorem nrm_empty : nrm (0, -1, 1) = (0, -1, 1) := rfl
theorem fmod_dvd {a g : Int} (hg : 0 < g) : a.fmod g = 0 ↔ g ∣ a := by
  rw [Int.fmod_eq_emod_of_nonneg _ (by omega)]
  exact ⟨Int.dvd_of_emod_eq_zero, Int.emod_eq_zero_of_dvd⟩
theorem e_met_w (h : WD t) (h2 : WD u) (w : Wl) : ∃ v : Tr, v.2.2 ≠ 0 ∧ (∀ x, In v x ↔ In t x ∧ In u x) ∧ F_met_of [tD t, tD u] w = .ok (tD (nrm v)) w := by
  have hl3 : (3 : Nat) ≤ lim := by decide
  obtain ⟨b1, b2, s0, b3⟩ := h.ends
  obtain ⟨c1, c2, r0, c3⟩ := h2.ends
  have it := fun x => in_up (t := t) (x := x) h.s
  have iu := fun x => in_up (t := u) (x := x) h2.s
  have eu1 := e_upward (w := w) h.wd
  have eu2 := e_upward (w := w) h2.wd
  obtain ⟨g, f, eg, g0, gs, gs2, hf, f1, f2⟩ := e_gcd (w := w) s0 r0 (b3.mono (by omega)) (c3.mono (by omega))
  generalize up t = T at *
  generalize up u = U at *
  obtain ⟨lo, hi, s⟩ := T
  obtain ⟨l2, h2', r⟩ := U
  simp only at b1 b2 s0 b3 c1 c2 r0 c3 it iu eg gs gs2 hf f1 f2
  have hT : tD (lo, hi, s) = .tup [.int lo, .int hi, .int s] := rfl
  have hU : tD (l2, h2', r) = .tup [.int l2, .int h2', .int r] := rfl
  rw [hT] at eu1
  rw [hU] at eu2
  have bg : Bt 1000 g := by
    have := Int.le_of_dvd s0 gs
    have := bt_iff.mp b3
    exact bt_iff.mpr ⟨by omega, by omega⟩
  have bf : Bt 1000 f := by
    have := bt_iff.mp c3
    exact bt_iff.mpr ⟨by omega, by omega⟩
  have dg : divOk g := div_bt (by omega) bg (by omega)
  by_cases hd : g ∣ l2 - lo
  · have hd0 : (l2 - lo).fmod g = 0 := (fmod_dvd g0).mpr hd
    have crt := fun x => crt_yes (lo := lo) (s := s) (l2 := l2) (s2 := r) (x := x) g0 gs gs2 hf hd
    rw [← Int.fdiv_eq_ediv_of_nonneg _ (by omega), ← Int.fdiv_eq_ediv_of_nonneg _ (by omega)] at crt
    have hq2 : 0 < r.fdiv g ∧ r.fdiv g ≤ r := by
      refine ⟨?_, (fdiv_range g0 (by omega)).2⟩
      rw [Int.fdiv_eq_ediv_of_nonneg _ (by omega)]
      exact Int.ediv_pos_of_pos_of_dvd r0 (by omega) gs2
    have bq1 : Bt 2003 ((l2 - lo).fdiv g) := by
      obtain ⟨d, hd⟩ := hd
      rw [hd, Int.mul_comm, Int.mul_fdiv_cancel _ (by omega)]
      have hb := bt_sub c1 b1
      rw [hd] at hb
      unfold Bt at *
      rw [Int.natAbs_mul] at hb
      have : 1 ≤ g.natAbs := by omega
      have := Nat.mul_le_mul_right d.natAbs this
      omega
    generalize hq1 : (l2 - lo).fdiv g = q1 at *
    generalize hq2' : r.fdiv g = q2 at *
    have bq2 : Bt 1000 q2 := by
      have := bt_iff.mp c3
      exact bt_iff.mpr ⟨by omega, by omega⟩
    have m1 : mulOk q1 f := mul_bt bq1 bf (by omega)
    have m2 : mulOk s q2 := mul_bt b3 bq2 (by omega)
    have bT := bt_mul bq1 bf
    have m3 : mulOk s (q1 * f) := mul_bt b3 bT (by omega)
    have bP := bt_mul b3 bq2
    have hP : 0 < s * q2 := Int.mul_pos s0 hq2.1
    generalize hT0 : q1 * f = T0 at *
    generalize hPP : s * q2 = P at *
    have hst : (if l2 > lo then l2 else lo) = max lo l2 := by split <;> omega
    have hmn : (if h2' < hi then h2' else hi) = min hi h2' := by split <;> omega
    have hm := fmod_range (a := lo + s * T0 - max lo l2) hP
    have hmd := Int.fmod_def (lo + s * T0 - max lo l2) P
    generalize hx0 : lo + s * T0 = x0 at *
    have hls : P ∣ (x0 - max lo l2).fmod P - (x0 - max lo l2) := ⟨-(x0 - max lo l2).fdiv P, by rw [hmd, Int.mul_neg]; omega⟩
    generalize hy : (x0 - max lo l2).fmod P = y at *
    have bmax : Bt 2002 (max lo l2) := by
      rw [Int.max_def]
      split
      · exact c1
      · exact b1
    have bmin : Bt 2002 (min hi h2') := by
      rw [Int.min_def]
      split
      · exact b2
      · exact c2
    generalize hM : max lo l2 = M at *
    generalize hN : min hi h2' = N at *
    have hv : Wd (M + y, N, P) := by
      refine ⟨by show P ≠ 0; omega, bP.mono (by omega), ?_⟩
      have hn := cnt_nonneg (t := (M + y, N, P))
      have h3 := bt_iff.mp bmax
      have h4 := bt_iff.mp bmin
      have e2 : (2 : Int) ^ 2003 = 2 ^ 2002 * 2 := Int.pow_succ 2 2002
      generalize (2 : Int) ^ 2002 = Z at h3 h4 e2
      have hle := cnt_le (t := (M + y, N, P)) (n := 2 ^ 2003) (by show P ≠ 0; omega) (by omega) (fun _ => by show N - (M + y) < _; omega) (fun hp => by have hp : P < 0 := hp; omega)
      have e3 := pow_up (show 2004 ≤ 4000 by omega)
      have e4 : (2 : Int) ^ 2004 = 2 ^ 2003 * 2 := Int.pow_succ 2 2003
      exact bt_iff.mpr ⟨by omega, by omega⟩
    refine ⟨(M + y, N, P), hv.s, fun x => ?_, okE_eq ?_⟩
    · rw [in_asc hP, it, iu]
      have hcx := crt x
      constructor
      · rintro ⟨k1, k2, k3⟩
        have hk : P ∣ x - x0 := by
          have := Int.dvd_add k3 hls
          have e : x - (M + y) + (y - (x0 - M)) = x - x0 := by omega
          rwa [e] at this
        have := hcx.mpr hk
        exact ⟨⟨by omega, by omega, this.1⟩, by omega, by omega, this.2⟩
      · rintro ⟨⟨k1, k2, k3⟩, k4, k5, k6⟩
        have hk := hcx.mp ⟨k3, k6⟩
        have hk2 : P ∣ x - (M + y) := by
          have := Int.dvd_sub hk hls
          have e : x - x0 - (y - (x0 - M)) = x - (M + y) := by omega
          rwa [e] at this
        refine ⟨?_, by omega, hk2⟩
        apply Int.not_lt.mp
        intro hlt
        have := Int.le_of_dvd (show 0 < M + y - x by omega) (by
          have := Int.dvd_neg.mpr hk2
          have e : -(x - (M + y)) = M + y - x := by omega
          rwa [e] at this)
        omega
    · have en := e_normal_of (w := w) hv
      have g1 : g ≠ 0 := by omega
      have P1 : P ≠ 0 := by omega
      simp -implicitDefEqProofs [F_met_of, B_met_of, okE_run, List.replicate, eu1, eu2, eg, hd0, hl3, dg, m1, m2, m3, g1, P1, hPP, hst, hmn, hx0, hM, hN, hq1, hq2', hT0, hy]
      rw [tD_e, en]
      exact ⟨rfl, rfl⟩
  · have hd2 : (l2 - lo).fmod g ≠ 0 := fun e => hd ((fmod_dvd g0).mp e)
    refine ⟨(0, -1, 1), by decide, fun x => ⟨fun hx => (in_empty hx).elim, fun hx => ?_⟩, okE_eq ?_⟩
    · rw [it, iu] at hx
      exact (crt_no gs gs2 hd ⟨hx.1.2.2, hx.2.2.2⟩).elim
    · rw [nrm_empty]
      simp -implicitDefEqProofs [F_met_of, B_met_of, okE_run, List.replicate, eu1, eu2, eg, hd2, hl3]
      exact ⟨by omega, rfl⟩
theorem e_met_of (h : WD t) (h2 : WD u) : ∃ v : Tr, v.2.2 ≠ 0 ∧ (∀ x, In v x ↔ In t x ∧ In u x) ∧ ∀ w, F_met_of [tD t, tD u] w = .ok (tD (nrm v)) w := by
  obtain ⟨v, hv, hi, _⟩ := e_met_w h h2 (0, 0, 0)
  refine ⟨v, hv, hi, fun w => ?_⟩
  obtain ⟨v2, hv2, hi2, e⟩ := e_met_w h h2 w
  rw [e, nrm_ext hv2 hv fun x => (hi2 x).trans (hi x).symm]
theorem e_met (h : Tri t) (h2 : Tri u) : ∃ v : Tr, v.2.2 ≠ 0 ∧ (∀ x, In v x ↔ In t x ∧ In u x) ∧ ∀ w, F_met [tD t, tD u] w = .ok (tD (nrm v)) w := by
  obtain ⟨v, hv, hi, e⟩ := e_met_of h.WD h2.WD
  refine ⟨v, hv, hi, fun w => okE_eq ?_⟩
  simp -implicitDefEqProofs [F_met, B_met, okE_run, e_check_two h h2, e]
end
end DL

set_option maxHeartbeats 2000000
namespace DL
open PySem PySem.Spec PyProof.Rows L2
/-! ### whether one has all of the other one -/
section
variable {w : Wl} {t u : Tr} {x : Int}
def hasB (u : Tr) (x : Int) : Bool := (idx u x).isSome
theorem hasB_iff (h : u.2.2 ≠ 0) : hasB u x = true ↔ In u x := by
  rw [in_idx h]
  unfold hasB
  cases idx u x <;> simp
theorem at1_btw (h : t.2.2 ≠ 0) {i : Int} (hi : 0 ≤ i) (hc : i < cnt t) : (t.1 ≤ at1 t i ∧ at1 t i ≤ at1 t (cnt t - 1)) ∨ (at1 t (cnt t - 1) ≤ at1 t i ∧ at1 t i ≤ t.1) := by
  unfold at1
  rcases Int.lt_or_gt_of_ne h with hs | hs
  · have p1 : 0 ≤ i * -t.2.2 := Int.mul_nonneg hi (by omega)
    have p2 : 0 ≤ (cnt t - 1 - i) * -t.2.2 := Int.mul_nonneg (by omega) (by omega)
    rw [Int.sub_mul (cnt t - 1) i, Int.mul_neg, Int.mul_neg] at p2
    rw [Int.mul_neg] at p1
    right
    omega
  · have p1 : 0 ≤ i * t.2.2 := Int.mul_nonneg hi (by omega)
    have p2 : 0 ≤ (cnt t - 1 - i) * t.2.2 := Int.mul_nonneg (by omega) (by omega)
    rw [Int.sub_mul (cnt t - 1) i] at p2
    left
    omega
theorem e_has (h : WD u) : F_has [tD u, .int x] w = .ok (.bl (hasB u x)) w := by
  apply okE_eq
  have hi := e_index (w := w) (n := x) h.s (h.bs.mono (by omega))
  have hq : fIsi w [tD u, .ty "tuple"] = some (.bl true) := rfl
  simp -implicitDefEqProofs [F_has, B_has, okE_run, hi, hq]
  unfold hasB
  cases idx u x <;> simp [oD]
theorem e_covers (h : WD t) (h2 : WD u) : ∃ b : Bool, F_covers [tD u, tD t] w = .ok (.bl b) w ∧ (b = true ↔ ∀ x, In t x → In u x) := by
  have hlim : lim = 16000000 := rfl
  have hl3 : (3 : Nat) ≤ lim := by decide
  have hm := e_many (w := w) h.s (h.bs.mono (by omega))
  have hn := cnt_nonneg (t := t)
  have q : fIsi w [tD u, .ty "tuple"] = some (.bl true) := rfl
  have q' : fIsi w [tD t, .ty "tuple"] = some (.bl true) := rfl
  by_cases hc : cnt t ≤ 2
  · refine ⟨(mem t).all (hasB u), okE_eq ?_, ?_⟩
    · have hs := e_subscripts (w := w) h.wd (by omega)
      have hc2 : ¬ 2 < cnt t := by omega
      have hc3 : cnt t ≤ 64 := by omega
      simp -implicitDefEqProofs [F_covers, B_covers, okE_run, List.replicate, hm, hc2, hc3, hs]
      refine ⟨by rw [mem_len, hlim]; omega, ?_⟩
      refine okE_lcall (xs := mem t) D.int (fun n => .bl (hasB u n)) (fun x _ => by simp -implicitDefEqProofs [e_has h2]) ?_
      rw [v_all]
      exact ⟨rfl, rfl⟩
    · rw [List.all_eq_true]
      constructor
      · intro ha x hx
        exact (hasB_iff h2.s).mp (ha x (in_mem.mpr hx))
      · intro ha x hx
        exact (hasB_iff h2.s).mpr (ha x (in_mem.mp hx))
  · refine ⟨[at1 t 0, at1 t 1, at1 t (cnt t - 1)].all (hasB u), okE_eq ?_, ?_⟩
    · have hc2 : 2 < cnt t := by omega
      have s0 := e_sub (w := w) (t := t) (i := 0) (bt_of (i := 8000) (by have := pow_up (show 0 ≤ 8000 by omega); omega) (by have := pow_up (show 0 ≤ 8000 by omega); omega)) (h.bs.mono (by omega))
      have s1 := e_sub (w := w) (t := t) (i := 1) (bt1 (by omega)) (h.bs.mono (by omega))
      have sl := e_last (w := w) h.wd
      simp -implicitDefEqProofs [F_covers, B_covers, okE_run, List.replicate, hm, hc2, q, q', s0, s1, sl, hl3]
      refine okE_lcall (xs := [at1 t 0, at1 t 1, at1 t (cnt t - 1)]) D.int (fun n => .bl (hasB u n)) (fun x _ => by simp -implicitDefEqProofs [e_has h2]) ?_
      rw [v_all]
      exact ⟨by simp, rfl⟩
    · simp only [List.all_cons, List.all_nil, Bool.and_true, Bool.and_eq_true, hasB_iff h2.s]
      constructor
      · rintro ⟨h0, h1, hl⟩ x ⟨i, i0, i1, rfl⟩
        rw [in_up h2.s] at h0 h1 hl ⊢
        generalize up u = U at *
        have hin := at1_btw h.s i0 i1
        have e0 : at1 t 0 = t.1 := at1_zero
        have d1 := Int.dvd_sub h1.2.2 h0.2.2
        have e1 : at1 t 1 - U.1 - (at1 t 0 - U.1) = t.2.2 := by unfold at1; omega
        rw [e1] at d1
        have d2 := Int.dvd_add h0.2.2 (Int.dvd_mul_of_dvd_right (b := i) d1)
        have e2 : at1 t 0 - U.1 + i * t.2.2 = at1 t i - U.1 := by unfold at1; omega
        rw [e2] at d2
        refine ⟨?_, ?_, d2⟩
        · omega
        · omega
      · intro ha
        exact ⟨ha _ ⟨0, by omega, by omega, rfl⟩, ha _ ⟨1, by omega, by omega, rfl⟩, ha _ ⟨cnt t - 1, by omega, by omega, rfl⟩⟩
theorem e_lies_in (h : Tri t) (h2 : Tri u) : ∃ b : Bool, F_lies_in [tD t, tD u] w = .ok (.bl b) w ∧ (b = true ↔ ∀ x, In t x → In u x) := by
  obtain ⟨b, e, hb⟩ := e_covers (w := w) h.WD h2.WD
  refine ⟨b, okE_eq ?_, hb⟩
  simp -implicitDefEqProofs [F_lies_in, B_lies_in, okE_run, e_check_two h h2, e]
end
end DL

set_option maxHeartbeats 2000000
namespace DL
open PySem PySem.Spec PyProof.Rows L2
/-! ### shown -/
section
variable {w : Wl} {b : Nat} {t u : Tr}
theorem atI_last {α : Type} {l : List α} : atI l (-1) = l.getLast? := by
  rw [List.getLast?_eq_getElem?]
  cases l with
  | nil => rfl
  | cons a r =>
    have h : ixN (a :: r).length (-1) = some r.length := by
      unfold ixN
      rw [if_neg (by decide), List.length_cons]
      have e : ((r.length + 1 : Nat) : Int) + -1 = (r.length : Int) := by omega
      simp
      omega
    unfold atI
    rw [h]
    simp
theorem e_shown (l : List Int) : F_w_shown [.lst (l.map .int)] w = .ok (tD (shown l)) w := by
  apply okE_eq
  have hl : (3 : Nat) ≤ lim := by decide
  have ok0 : okD (.lst []) = true := okD_lints (xs := [])
  match l with
  | [] => simp -implicitDefEqProofs [F_w_shown, B_w_shown, okE_run, hl, shown, ok0]; rfl
  | [a] => 
    have e : eqD (.lst ([a].map .int)) (.lst []) = false := (eqD_lints (xs := [a]) (ys := [])).trans (by simp)
    have hlast : atI [D.int a] (-1) = some (.int a) := atI_last
    have ok1 : okD (.lst [.int a]) = true := okD_lints (xs := [a])
    simp only [List.map_cons, List.map_nil] at e
    simp -implicitDefEqProofs [F_w_shown, B_w_shown, okE_run, hl, shown, e, hlast, ok0, ok1]
    rfl
  | a :: c :: r =>
    have e : eqD (.lst ((a :: c :: r).map .int)) (.lst []) = false := (eqD_lints (xs := a :: c :: r) (ys := [])).trans (by simp)
    obtain ⟨z, hz⟩ : ∃ z, (a :: c :: r).getLast? = some z := ⟨_, List.getLast?_eq_some_getLast (by simp)⟩
    have hlast : atI ((a :: c :: r).map D.int) (-1) = some (.int z) := by rw [atI_last, List.getLast?_map, hz]; rfl
    have ok1 : okD (.lst ((a :: c :: r).map .int)) = true := okD_lints (xs := a :: c :: r)
    simp only [List.map_cons, List.map_nil] at e hlast ok1
    have hlen : (0 : Int) < (r.length : Int) + 1 := by omega
    simp -implicitDefEqProofs [F_w_shown, B_w_shown, okE_run, hl, e, hlast, ok0, ok1, hlen]
    rw [if_pos (by omega)]
    show _ = tD (a, Option.getD ((a :: c :: r).getLast?) 0, c - a)
    rw [hz]
    rfl
theorem last_mem (h : 0 < cnt t) : (mem t).getLast? = some (at1 t (cnt t - 1)) := by
  rw [List.getLast?_eq_getElem?, mem_len, mem_get, if_pos (by omega)]
  congr 2
  omega
end
end DL

set_option maxHeartbeats 2000000
namespace DL
open PySem PySem.Spec PyProof.Rows L2
/-! ### k03: near ones -/
section
variable {w : Wl} {b : Nat} {t u v : Tr}
def bothL (t u : Tr) : List Int := (sortI (mem t)).filter fun x => hasI x (mem u)
theorem asc_eq {xs ys : List Int} (h1 : xs.Pairwise (· ≤ ·)) (h2 : ys.Pairwise (· ≤ ·)) (n1 : xs.Nodup) (n2 : ys.Nodup) (e : ∀ x, x ∈ xs ↔ x ∈ ys) : xs = ys :=
  sorted_unique ((List.perm_ext_iff_of_nodup n1 n2).mpr e) h1 h2
theorem both_eq (h : t.2.2 ≠ 0) (hv : v.2.2 ≠ 0) (e : ∀ x, In v x ↔ In t x ∧ In u x) : bothL t u = mem (nrm v) := by
  have hs := nrm_s hv
  refine asc_eq ((sortI_le _).filter _) (nrm_le hv) (((sortI_perm _).nodup_iff.mpr (nodup_mem h)).filter _) (nodup_mem (by omega)) fun x => ?_
  unfold bothL
  rw [List.mem_filter, (sortI_perm _).mem_iff, in_mem, hasI_iff, in_mem, in_mem, in_nrm hv]
  exact (e x).symm
theorem both_all (h : t.2.2 ≠ 0) : (bothL t u).length = (mem t).length ↔ ∀ x, In t x → In u x := by
  rw [← (sortI_perm (mem t)).length_eq]
  unfold bothL
  rw [List.length_filter_eq_length_iff]
  constructor
  · intro ha x hx
    exact in_mem.mp (hasI_iff.mp (ha x ((sortI_perm _).mem_iff.mpr (in_mem.mpr hx))))
  · intro ha x hx
    exact hasI_iff.mpr (in_mem.mpr (ha x (in_mem.mp ((sortI_perm _).mem_iff.mp hx))))
theorem near_law (hw : Lap b w) (hb : b < 1007000) : okE (F_w_near_right [.well] w) fun d w' => d = .bl true ∧ Lap (b + 8) w' := by
  have hlim : lim = 16000000 := rfl
  have hl2 : (2 : Nat) ≤ lim := by decide
  unfold F_w_near_right
  rw [okE_run]
  refine ⟨rfl, ?_⟩
  show okS (B_w_near_right [some .well, none, none, none, none, none, none] w) _ _
  unfold B_w_near_right
  refine okS_then (fun s1 w1 => ∃ t u, NearT t ∧ NearT u ∧ Lap (b + 8) w1 ∧ s1 = [some .well, some (tD t), some (tD u), none, none, none, none]) ?_ ?_
  · simp -implicitDefEqProofs
    refine near hw (by omega) fun t w1 ht l1 => ?_
    refine near l1 (by omega) fun u w2 hu l2 => ?_
    exact ⟨t.1, t.2.1, t.2.2, ht, u.1, u.2.1, u.2.2, hu, l2, rfl, rfl⟩
  rintro _ w1 ⟨t, u, ht, hu, l1, rfl⟩
  have h := ht.tri
  have h2 := hu.tri
  have m1 := e_members (w := w1) ht
  have m2 := e_members (w := w1) hu
  refine okS_then (fun s1 w2 => w2 = w1 ∧ s1 = [some .well, some (tD t), some (tD u), some (.lst ((mem t).map .int)), some (.lst ((mem u).map .int)), none, none]) ?_ ?_
  · simp -implicitDefEqProofs [m1, m2]
  rintro _ w1 ⟨rfl, rfl⟩
  refine okS_then (fun s1 w2 => w2 = w1 ∧ s1 = [some .well, some (tD t), some (tD u), some (.lst ((mem t).map .int)), some (.lst ((mem u).map .int)), some (.lst ((bothL t u).map .int)), none]) ?_ ?_
  · simp -implicitDefEqProofs
    refine ⟨by rw [(sortI_perm _).length_eq, mem_len, hlim]; have := ht.few; omega, ?_⟩
    have := lc_map (T := (tE (eBin fIn (eVar 6) (eVar 4)))) (A := eVar 6) (G := gN 6) D.int D.int (fun x => hasI x (mem u)) (s := [some .well, some (tD t), some (tD u), some (.lst ((mem t).map .int)), some (.lst ((mem u).map .int)), none, none]) (w := w1) (xs := sortI (mem t)) fun x _ => by
      rw [v_gN, okO_some]
      refine ⟨okE_eq ?_, fun _ => okE_eq ?_⟩
      · have ha := any_ints (a := x) (xs := mem u)
        rw [List.any_map] at ha
        simp -implicitDefEqProofs
        exact ha
      · simp -implicitDefEqProofs
    rw [this]
    exact ⟨rfl, rfl⟩
  rintro _ w1 ⟨rfl, rfl⟩
  obtain ⟨v, hv, iv, em⟩ := e_met h h2
  obtain ⟨v2, hv2, iv2, em2⟩ := e_met h2 h
  have ev : nrm v2 = nrm v := nrm_ext hv2 hv fun x => by rw [iv2, iv]; exact And.comm
  have hsh := e_shown (w := w1) (bothL t u)
  rw [both_eq h.s hv iv, shown_nrm hv, ← both_eq h.s hv iv] at hsh
  have em := em w1
  have em2 := em2 w1
  rw [ev] at em2
  refine okS_then (fun s1 w2 => w2 = w1 ∧ s1 = [some .well, some (tD t), some (tD u), some (.lst ((mem t).map .int)), some (.lst ((mem u).map .int)), some (.lst ((bothL t u).map .int)), none]) ?_ ?_
  · simp -implicitDefEqProofs [em, em2, hsh]
  rintro _ w1 ⟨rfl, rfl⟩
  obtain ⟨c1, e1, hc1⟩ := e_lies_in (w := w1) h h2
  obtain ⟨c2, e2, hc2⟩ := e_lies_in (w := w1) h2 h
  have k1 : c1 = decide ((bothL t u).length = (mem t).length) := by
    rw [Bool.eq_iff_iff, decide_eq_true_eq, both_all h.s]
    exact hc1
  have hbo : bothL t u = bothL u t := by rw [both_eq h.s hv iv, both_eq h2.s hv2 iv2, ev]
  have k2 : c2 = decide ((bothL t u).length = (mem u).length) := by
    rw [hbo, Bool.eq_iff_iff, decide_eq_true_eq, both_all h2.s]
    exact hc2
  simp -implicitDefEqProofs [e1, e2, hl2, k1, k2]
  exact ⟨⟨by omega, by omega⟩, l1⟩
end
end DL

set_option maxHeartbeats 2000000
namespace DL
open PySem PySem.Spec PyProof.Rows L2
/-! ### k03: far ones -/
section
variable {w : Wl} {b : Nat} {t u v : Tr}
theorem okS_to {U V : DS} {s : Sl} {N : Sl → Wl → Prop} {Z : D → Wl → Prop} (M : Sl → Wl → Prop) (h : ∀ M' : Sl → Wl → Prop, (∀ s1 w1, M s1 w1 → M' s1 w1) → okS (U s w) M' Z) (q : ∀ s1 w1, M s1 w1 → okS (V s1 w1) N Z) : okS (sSeq U V s w) N Z := okS_then M (h M fun _ _ z => z) q
/-- by a unit -/
structure FT (U : Int) (t : Tr) : Prop where
  a : -900000000000000000000000000000 ≤ t.1 - 100000000000000000000 ∧ t.1 ≤ 900000000000000000000000000000 + 100000000000000000000
  le : t.1 ≤ t.2.1 ∧ t.2.1 ≤ 1000000000000000000000000000000
  st : ∃ k : Int, 1 ≤ k ∧ k ≤ 60 ∧ t.2.2 = U * k
theorem FT.pos {U : Int} (h : FT U t) (hU : 1 ≤ U ∧ U ≤ 1000000007) : 0 < t.2.2 ∧ t.2.2 ≤ 60000000420 := by
  obtain ⟨k, k1, k2, e⟩ := h.st
  have p1 : 0 < U * k := Int.mul_pos (by omega) (by omega)
  have p2 : U * k ≤ 1000000007 * 60 := Int.mul_le_mul hU.2 k2 (by omega) (by omega)
  omega
theorem FT.tri {U : Int} (h : FT U t) (hU : 1 ≤ U ∧ U ≤ 1000000007) : Tri t := by
  have hp := h.pos hU
  have h1 := h.a
  have h2 := h.le
  refine ⟨?_, ?_, ?_, by omega⟩ <;> rw [inF_iff] <;> simp only [FARn] <;> omega
theorem far_trio {U B : Int} (hw : Lap b w) (hb : b < 1009000) (hU : 1 ≤ U ∧ U ≤ 1000000007) (hB : -300000000000000000000000000000 ≤ B ∧ B ≤ 900000000000000000000000000000) {Q : D → Wl → Prop} (q : ∀ t w', FT U t → Lap (b + 5) w' → Q (tD t) w') : okE (F_w_far_trio [.well, .int B, .int U] w) Q := by
  have hl3 : (3 : Nat) ≤ lim := by decide
  have hl4 : (4 : Nat) ≤ lim := by decide
  have hl6 : (6 : Nat) ≤ lim := by decide
  have bU : Bt 50 U := bt50 (by omega) (by omega)
  unfold F_w_far_trio
  rw [okE_run]
  refine ⟨rfl, ?_⟩
  show okS (B_w_far_trio [some .well, some (.int B), some (.int U), none, none, none] w) _ _
  unfold B_w_far_trio
  refine okS_to (fun s1 w1 => ∃ s k : Int, 1 ≤ k ∧ k ≤ 60 ∧ s = U * k ∧ Lap (b + 1) w1 ∧ s1 = [some .well, some (.int B), some (.int U), some (.int s), none, none]) ?_ ?_
  · intro M' hM'
    simp -implicitDefEqProofs
    refine draw hw (by omega) (by decide) (by omega) fun k w1 k0 k1 l1 => ?_
    have m1 : mulOk U (1 + k) := mul_bt bU (bt50 (by omega) (by omega)) (by omega)
    simp -implicitDefEqProofs [m1]
    exact hM' _ _ ⟨_, 1 + k, by omega, by omega, rfl, l1, rfl⟩
  rintro _ w1 ⟨s, k, k1, k2, hsk, l1, rfl⟩
  have hs0 : 0 < s := by rw [hsk]; exact Int.mul_pos (by omega) (by omega)
  have hs1 : s ≤ 1000000007 * 60 := by rw [hsk]; exact Int.mul_le_mul hU.2 k2 (by omega) (by omega)
  refine okS_to (fun s1 w2 => ∃ f : Int, (B - 500000500003500000 ≤ f ∧ f ≤ B + 500000500003500000) ∧ Lap (b + 3) w2 ∧ s1 = [some .well, some (.int B), some (.int U), some (.int s), some (.int f), none]) ?_ ?_
  · intro M' hM'
    simp -implicitDefEqProofs
    refine draw l1 (by omega) (by decide) (by omega) fun d w2 d0 d1 l2 => ?_
    have m1 : mulOk 5 100000 := mul_bt (bt50 (by omega) (by omega)) (bt50 (by omega) (by omega)) (by omega)
    have m2 : mulOk U (d - 500000) := mul_bt bU (bt_of (i := 50) (by omega) (by omega)) (by omega)
    simp -implicitDefEqProofs [m1, m2, hl4]
    have hp : ∀ n ∈ [(0 : Int), 0, 0, 1], 0 ≤ n ∧ n ≤ 1 := by
      intro n hn
      simp only [List.mem_cons, List.not_mem_nil, or_false] at hn
      omega
    refine pickI (ns := [0, 0, 0, 1]) (fun n => 0 ≤ n ∧ n ≤ 1) hp l2 (by simp) (by simp) (by omega) fun p w3 hp l3 => ?_
    have p1 : U * (d - 500000) ≤ 1000000007 * 500000 := Int.le_trans (Int.mul_le_mul_of_nonneg_left (show d - 500000 ≤ 500000 by omega) (by omega)) (by omega)
    have p2 : U * (500000 - d) ≤ 1000000007 * 500000 := Int.le_trans (Int.mul_le_mul_of_nonneg_left (show 500000 - d ≤ 500000 by omega) (by omega)) (by omega)
    have e : U * (500000 - d) = -(U * (d - 500000)) := by rw [← Int.mul_neg]; congr 1; omega
    generalize U * (d - 500000) = z at *
    simp -implicitDefEqProofs
    exact hM' _ _ ⟨_, ⟨by omega, by omega⟩, l3, rfl⟩
  rintro _ w2 ⟨f, hf, l2, rfl⟩
  refine okS_to (fun s1 w3 => ∃ m : Int, (1 ≤ m ∧ m ≤ 1000000000001) ∧ Lap (b + 4) w3 ∧ s1 = [some .well, some (.int B), some (.int U), some (.int s), some (.int f), some (.int m)]) ?_ ?_
  · intro M' hM'
    simp -implicitDefEqProofs [hl6]
    have hp : ∀ n ∈ [(0 : Int), 1, 5, 100, 1000000000, 1000000000000], 0 ≤ n ∧ n ≤ 1000000000000 := by
      intro n hn
      simp only [List.mem_cons, List.not_mem_nil, or_false] at hn
      omega
    refine pickI (ns := [0, 1, 5, 100, 1000000000, 1000000000000]) (fun n => 0 ≤ n ∧ n ≤ 1000000000000) hp l2 (by simp) (by simp) (by omega) fun p w3 hp l3 => ?_
    simp -implicitDefEqProofs
    exact hM' _ _ ⟨_, ⟨by omega, by omega⟩, l3, rfl⟩
  rintro _ w3 ⟨m, hm, l3, rfl⟩
  have m1 : mulOk (m - 1) s := mul_bt (bt50 (by omega) (by omega)) (bt50 (by omega) (by omega)) (by omega)
  simp -implicitDefEqProofs [m1, hl3]
  refine draw l3 (by omega) (by have := pp110; omega) (by omega) fun d w4 d0 d1 l4 => ?_
  simp -implicitDefEqProofs [hl3]
  have p0 : 0 ≤ (m - 1) * s := Int.mul_nonneg (by omega) (by omega)
  generalize (m - 1) * s = z at *
  generalize hA : (if f + z + d < 1000000000000000000000000000000 then f + z + d else 1000000000000000000000000000000) = A
  refine q (f, A, s) w4 ⟨⟨by show _ ≤ f - _; omega, by show f ≤ _; omega⟩, ⟨by show f ≤ A; split at hA <;> omega, by show A ≤ _; split at hA <;> omega⟩, ⟨k, k1, k2, hsk⟩⟩ (lap_le l4 (by omega))
end
end DL

set_option maxHeartbeats 2000000
namespace DL
open PySem PySem.Spec PyProof.Rows L2
/-! ### k03: what two far ones share, sought -/
section
variable {w : Wl} {b : Nat} {t u v : Tr}
theorem okS_loopB {G : DG} {T : DT} {V : DS} {Z : D → Wl → Prop} {N : Sl → Wl → Prop} (I : Nat → Sl → Wl → Prop) : ∀ {ds : List D} {s : Sl} {w : Wl} (m : Nat), I m s w →
    (∀ i d s w, ds[i]? = some d → I (m + i) s w → okO (G d s) fun s1 => okE (T s1 w) fun k w1 => if k = true then N s1 w1 else okS (V s1 w1) (I (m + i + 1)) Z) → (∀ s w, I (m + ds.length) s w → N s w) → okS (loopD G (sSeq (sIf T sBrk sNx) V) ds s w) N Z
  | [], s, w, m, h0, _, he => he s w h0
  | d :: ds, s, w, m, h0, hs, he => by
    have h1 := hs 0 d s w rfl h0
    unfold loopD
    cases e : G d s with
    | none => rw [e] at h1; exact h1.elim
    | some s1 =>
      rw [e] at h1
      simp only [okO_some] at h1
      dsimp only
      cases eT : T s1 w with
      | no => rw [eT] at h1; exact h1.elim
      | er _ _ => rw [eT] at h1; exact h1.elim
      | ok k w1 =>
        rw [eT] at h1
        simp only [okE_ok] at h1
        cases k with
        | true =>
          rw [if_pos rfl] at h1
          have e3 : sSeq (sIf T sBrk sNx) V s1 w = .bk s1 w1 := by unfold sSeq sIf; rw [eT]; rfl
          rw [e3]
          exact h1
        | false =>
          rw [if_neg (by decide)] at h1
          have e3 : sSeq (sIf T sBrk sNx) V s1 w = V s1 w1 := by unfold sSeq sIf; rw [eT]; rfl
          rw [e3]
          cases e2 : V s1 w1 with
          | nx s2 w2 =>
            rw [e2] at h1
            exact okS_loopB I (m + 1) h1 (fun i d' s' w' hd hI => by
              have := hs (i + 1) d' s' w' (by simpa using hd) (by rw [show m + (i + 1) = m + 1 + i by omega]; exact hI)
              rw [show m + (i + 1) + 1 = m + 1 + i + 1 by omega] at this
              exact this) (fun s' w' hI => he s' w' (by rw [List.length_cons, show m + (ds.length + 1) = m + 1 + ds.length by omega]; exact hI))
          | rt d' w2 => rw [e2] at h1; exact h1
          | bk _ _ => rw [e2] at h1; exact h1.elim
          | ct _ _ => rw [e2] at h1; exact h1.elim
          | er _ _ _ => rw [e2] at h1; exact h1.elim
          | no => rw [e2] at h1; exact h1.elim
/-- x is an element of both -/
def Cm (a z1 s c z2 r x : Int) : Prop := (a ≤ x ∧ x ≤ z1 ∧ s ∣ x - a) ∧ c ≤ x ∧ x ≤ z2 ∧ r ∣ x - c
/-- the first element of the one that is not ahead of the other one -/
structure F0 (a s c f : Int) : Prop where
  dv : s ∣ f - a
  ga : a ≤ f
  gc : c ≤ f
  mn : f - s < a ∨ f - s < c
theorem first_ok {a s c : Int} (hs : 0 < s) : F0 a s c (if a + -(-(c - a)).fdiv s * s > a then a + -(-(c - a)).fdiv s * s else a) := by
  have hm := fmod_range (a := -(c - a)) hs
  have hd := Int.fmod_def (-(c - a)) s
  rw [Int.mul_comm] at hd
  rw [Int.neg_mul]
  generalize hq : (-(c - a)).fdiv s = q at *
  have hmul : s ∣ q * s := ⟨q, Int.mul_comm q s⟩
  generalize q * s = z at *
  split
  · exact ⟨by have e : a + -z - a = -z := by omega
              rw [e]; exact Int.dvd_neg.mpr hmul, by omega, by omega, by omega⟩
  · exact ⟨by have e : a - a = 0 := by omega
              rw [e]; exact Int.dvd_zero s, by omega, by omega, by omega⟩
theorem F0.step {a z1 s c z2 r f x : Int} (h : F0 a s c f) (hs : 0 < s) (hx : Cm a z1 s c z2 r x) : ∃ m : Int, 0 ≤ m ∧ x = f + m * s := by
  obtain ⟨⟨h1, h2, h3⟩, h4, h5, h6⟩ := hx
  obtain ⟨m, hm⟩ := Int.dvd_sub h3 h.dv
  have e : x - f = s * m := by rw [← hm]; omega
  refine ⟨m, ?_, by rw [Int.mul_comm]; omega⟩
  apply Int.not_lt.mp
  intro hn
  have p : s ≤ s * -m := by
    have := Int.mul_le_mul_of_nonneg_left (show 1 ≤ -m by omega) (show 0 ≤ s by omega)
    omega
  rw [Int.mul_neg] at p
  have := h.mn
  omega
theorem no_common {a z1 s c z2 r f U k1 k2 : Int} (h : F0 a s c f) (hs : 0 < s) (e1 : s = U * k1) (e2 : r = U * k2) (hk : 1 ≤ k2 ∧ k2 ≤ 60) (hn : ∀ j : Int, 0 ≤ j → j < 61 → ¬ r ∣ f + j * s - c) : ∀ x, ¬ Cm a z1 s c z2 r x := by
  intro x hx
  obtain ⟨m, m0, rfl⟩ := h.step hs hx
  have hd := hx.2.2.2
  refine hn (m % k2) (Int.emod_nonneg _ (by omega)) (by have := Int.emod_lt_of_pos m (show 0 < k2 by omega); omega) ?_
  have hq : m = k2 * (m / k2) + m % k2 := (Int.mul_ediv_add_emod m k2).symm
  generalize m / k2 = q at hq
  generalize m % k2 = j at hq ⊢
  have d2 : r ∣ (m - j) * s := ⟨q * k1, by
    rw [e1, e2, show m - j = k2 * q by omega]
    rw [Int.mul_comm k2 q, Int.mul_assoc q k2, Int.mul_left_comm k2 U, Int.mul_left_comm q U, Int.mul_assoc U k2, Int.mul_left_comm k2 q]⟩
  have := Int.dvd_sub hd d2
  have e : f + m * s - c - (m - j) * s = f + j * s - c := by rw [Int.sub_mul]; omega
  rwa [e] at this
end
end DL

set_option maxHeartbeats 2000000
namespace DL
open PySem PySem.Spec PyProof.Rows L2
/-! ### k03: the law's own found -/
section
variable {w : Wl} {b : Nat} {t u v : Tr}
def GV (t u : Tr) (d : D) : Prop := ∃ v : Tr, v.2.2 ≠ 0 ∧ (∀ x, In v x ↔ In t x ∧ In u x) ∧ Tri (nrm v) ∧ d = tD (nrm v)
/-- the least number of steps that the other one has, too -/
theorem steps_div {s r m y : Int} (hm : 0 < m) (hd : r ∣ s * m) (hmin : ∀ j : Int, 1 ≤ j → j < m → ¬ r ∣ s * j) (hy : r ∣ s * y) : s * m ∣ s * y := by
  have hq : y = m * (y / m) + y % m := (Int.mul_ediv_add_emod y m).symm
  have j0 := Int.emod_nonneg y (show m ≠ 0 by omega)
  have j1 := Int.emod_lt_of_pos y hm
  generalize y / m = q at hq
  generalize y % m = j at hq j0 j1
  by_cases hj : j = 0
  · rw [hj, Int.add_zero] at hq
    rw [hq]
    exact ⟨q, by rw [Int.mul_assoc]⟩
  · exfalso
    refine hmin j (by omega) j1 ?_
    have d2 := Int.dvd_sub hy (Int.dvd_mul_of_dvd_left (c := q) hd)
    have e : s * y - s * m * q = s * j := by rw [hq, Int.mul_add, Int.mul_assoc]; omega
    rwa [e] at d2
theorem nrm_asc {f H S : Int} (hS : 0 < S) (hf : f ≤ H) : nrm (f, H, S) = if (H - f).fdiv S > 0 then (f, f + (H - f).fdiv S * S, S) else (f, f, 1) := by
  have hq := fdiv_range (a := H - f) hS (by omega)
  have hc : cnt (f, H, S) = (H - f).fdiv S + 1 := by
    refine cnt_uniq (t := (f, H, S)) (by show S ≠ 0; omega) (by omega) fun i hi => ?_
    show i < (H - f).fdiv S + 1 ↔ (0 < S ∧ f + i * S ≤ H) ∨ (S < 0 ∧ H ≤ f + i * S)
    have : i ≤ (H - f).fdiv S ↔ i * S ≤ H - f := by
      rw [Int.fdiv_eq_ediv_of_nonneg _ (by omega)]
      exact Int.le_ediv_iff_mul_le hS
    omega
  unfold nrm up
  rw [hc]
  generalize (H - f).fdiv S = q at *
  by_cases h0 : q = 0
  · rw [if_neg (by omega), if_pos (by omega), if_neg (by omega)]
  · rw [if_neg (by omega), if_neg (by omega), if_pos (by exact hS), if_pos (by omega)]
    have e : q + 1 - 1 = q := by omega
    rw [e]
    rfl
theorem e_found {U : Int} (hU : 1 ≤ U ∧ U ≤ 1000000007) (h : FT U t) (h2 : FT U u) : okE (F_w_found [tD t, tD u] w) fun d w' => w' = w ∧ GV t u d := by
  have hl3 : (3 : Nat) ≤ lim := by decide
  have hs := h.pos hU
  have hr := h2.pos hU
  obtain ⟨k1, k10, k11, e1⟩ := h.st
  obtain ⟨k2, k20, k21, e2⟩ := h2.st
  have ha := h.a
  have hz1 := h.le
  have hc := h2.a
  have hz2 := h2.le
  have hin : ∀ x, (In t x ∧ In u x) ↔ Cm t.1 t.2.1 t.2.2 u.1 u.2.1 u.2.2 x := fun x => by
    have i1 := in_asc (a := t.1) (z := t.2.1) (s := t.2.2) (x := x) hs.1
    have i2 := in_asc (a := u.1) (z := u.2.1) (s := u.2.2) (x := x) hr.1
    exact and_congr i1 i2
  have it1 : ∀ w, fIx w (tD t) (.int 1) = some (.int t.2.1) := fun w => v_ixtD1
  generalize hT : tD t = T
  generalize hUU : tD u = W2
  have gT : ∀ s : Sl, getS (some T :: s) 0 = some T := fun s => by rw [← hT]; rfl
  have gU : ∀ s : Sl, getS (some W2 :: s) 0 = some W2 := fun s => by rw [← hUU]; rfl
  have x0 : ∀ w, fIx w T (.int 0) = some (.int t.1) := fun w => by rw [← hT]; exact v_ixtD0
  have x1 : ∀ w, fIx w T (.int 1) = some (.int t.2.1) := fun w => by rw [← hT]; exact v_ixtD1
  have x2 : ∀ w, fIx w T (.int 2) = some (.int t.2.2) := fun w => by rw [← hT]; exact v_ixtD2
  have y0 : ∀ w, fIx w W2 (.int 0) = some (.int u.1) := fun w => by rw [← hUU]; exact v_ixtD0
  have y1 : ∀ w, fIx w W2 (.int 1) = some (.int u.2.1) := fun w => by rw [← hUU]; exact v_ixtD1
  have y2 : ∀ w, fIx w W2 (.int 2) = some (.int u.2.2) := fun w => by rw [← hUU]; exact v_ixtD2
  generalize t.1 = a at *
  generalize t.2.1 = z1 at *
  generalize t.2.2 = s at *
  generalize u.1 = c at *
  generalize u.2.1 = z2 at *
  generalize u.2.2 = r at *
  unfold F_w_found
  rw [okE_run]
  refine ⟨rfl, ?_⟩
  show okS (B_w_found [some T, some W2, none, none, none, none, none] w) _ _
  unfold B_w_found
  refine okS_to (fun s1 w1 => w1 = w ∧ ∃ f : Int, F0 a s c f ∧ s1 = [some T, some W2, some (.int f), none, none, none, none]) ?_ ?_
  · intro M' hM'
    have hq : -(-(c - a)).fdiv s ≤ 3000000000000000000000000000000 ∧ -3000000000000000000000000000000 ≤ -(-(c - a)).fdiv s := by
      have hm := fmod_range (a := -(c - a)) hs.1
      have hd := Int.fmod_def (-(c - a)) s
      rw [Int.mul_comm] at hd
      generalize (-(c - a)).fdiv s = q at *
      by_cases h0 : 0 ≤ q
      · have := mul_ge h0 hs.1
        omega
      · have := mul_ge (show 0 ≤ -q by omega) hs.1
        rw [Int.neg_mul] at this
        omega
    have m1 : mulOk (-(-(c - a)).fdiv s) s := mul_bt (i := 110) (j := 50) (bt_of (by omega) (by omega)) (bt50 (by omega) (by omega)) (by omega)
    have d1 : divOk s := div_bt (by omega) (bt50 (by omega) (by omega)) (by omega)
    simp -implicitDefEqProofs [gT, gU, x0, x2, y0, d1, m1]
    exact hM' _ _ ⟨rfl, _, first_ok hs.1, rfl⟩
  rintro _ w1 ⟨rfl, f, hf, rfl⟩
  have hfb : -1000000000000000000000000000000 ≤ f ∧ f ≤ 1000000000000000000000060000000420 := by
    have := hf.ga
    have := hf.mn
    omega
  refine okS_to (fun s1 w2 => w2 = w1 ∧ ∃ n : Int, ∃ y, (0 ≤ n ∧ n ≤ 61) ∧ (∀ j : Int, 0 ≤ j → j < n → ¬ r ∣ f + j * s - c) ∧ (r ∣ f + n * s - c ∨ n = 61) ∧ s1 = [some T, some W2, some (.int (f + n * s)), y, none, none, none]) ?_ ?_
  · intro M' hM'
    simp -implicitDefEqProofs only [okS_for, okI_rng1, okE_cons, okE_c, okE_nil, rng1_int]
    refine ⟨⟨by omega, by omega⟩, okS_loopB (fun i s' w' => w' = w1 ∧ (∀ j : Int, 0 ≤ j → j < i → ¬ r ∣ f + j * s - c) ∧ ∃ y, s' = [some T, some W2, some (.int (f + (i : Nat) * s)), y, none, none, none]) 0 ⟨rfl, fun j h0 h1 => by omega, none, by simp⟩ ?_ ?_⟩
    · rintro i d s' w' hd ⟨rfl, hn, y, rfl⟩
      obtain ⟨hi, rfl⟩ := upTo_get hd
      rw [Nat.zero_add] at *
      have hr0 : r ≠ 0 := by omega
      simp -implicitDefEqProofs [gT, gU, x2, y0, y2, hr0]
      by_cases hc0 : (f + (i : Int) * s - c).fmod r = 0
      · rw [if_pos hc0]
        exact hM' _ _ ⟨rfl, i, _, ⟨by omega, by have : i < 61 := hi; omega⟩, hn, .inl ((fmod_dvd hr.1).mp hc0), rfl⟩
      · rw [if_neg hc0]
        refine ⟨fun j j0 j1 => ?_, by rw [Int.add_mul]; omega⟩
        by_cases hj : j < i
        · exact hn j j0 hj
        · have : j = i := by omega
          subst this
          exact fun hdv => hc0 ((fmod_dvd hr.1).mpr hdv)
    · rintro s' w' ⟨rfl, hn, y, rfl⟩
      have hlen : 0 + (upTo 0 (61 : Int).toNat).length = 61 := by simp [upTo]
      rw [hlen] at *
      exact hM' _ _ ⟨rfl, 61, _, ⟨by omega, by omega⟩, hn, .inr rfl, rfl⟩
  rintro _ w1 ⟨rfl, n, y, hn01, hn, hlast, rfl⟩
  have hns : 0 ≤ n * s ∧ n * s ≤ 61 * 60000000420 := ⟨Int.mul_nonneg hn01.1 (by omega), Int.mul_le_mul hn01.2 hs.2 (by omega) (by omega)⟩
  have hafter : ∀ x, Cm a z1 s c z2 r x → f + n * s ≤ x := fun x hx => by
    obtain ⟨m, m0, rfl⟩ := hf.step hs.1 hx
    by_cases hmn : m < n
    · exact (hn m m0 hmn hx.2.2.2).elim
    · have := Int.mul_nonneg (show 0 ≤ m - n by omega) (show 0 ≤ s by omega)
      rw [Int.sub_mul] at this
      omega
  have hnone : ¬ r ∣ f + n * s - c → ∀ x, ¬ Cm a z1 s c z2 r x := fun hnd => by
    have h61 : n = 61 := by
      rcases hlast with h | h
      · exact (hnd h).elim
      · exact h
    subst h61
    exact no_common hf hs.1 e1 e2 ⟨k20, k21⟩ hn
  have hsF : s ∣ f + n * s - a := by
    have := Int.dvd_add hf.dv (Int.dvd_mul_left n s)
    have e : f - a + n * s = f + n * s - a := by omega
    rwa [e] at this
  have hFa := hf.ga
  have hFc := hf.gc
  obtain ⟨F, hF⟩ : ∃ F, F = f + n * s := ⟨_, rfl⟩
  rw [← hF] at hafter hnone hsF ⊢
  have hFb : -1000000000000000000000000000000 ≤ F := by omega
  have hr0 : r ≠ 0 := by omega
  obtain ⟨H, hH⟩ : ∃ H, H = (if z2 < z1 then z2 else z1) := ⟨_, rfl⟩
  have hHmin : H = min z1 z2 := by rw [hH]; split <;> omega
  refine okS_to (fun s1 w2 => w2 = w1 ∧ s1 = [some T, some W2, some (.int F), y, some (.int H), none, none]) ?_ ?_
  · intro M' hM'
    simp -implicitDefEqProofs [gT, gU, x1, y1, ← hH]
    exact hM' _ _ ⟨rfl, rfl⟩
  rintro _ w1 ⟨rfl, rfl⟩
  have hempty : (∀ x, ¬ Cm a z1 s c z2 r x) → GV t u (D.tup [.int 0, .int (-1), .int 1]) := fun hno =>
    ⟨(0, -1, 1), by decide, fun x => ⟨fun hx => (in_empty hx).elim, fun hx => (hno x ((hin x).mp hx)).elim⟩, ⟨by decide, by decide, by decide, by decide⟩, rfl⟩
  refine okS_to (fun s1 w2 => (r ∣ F - c ∧ F ≤ H) ∧ w2 = w1 ∧ s1 = [some T, some W2, some (.int F), y, some (.int H), none, none]) ?_ ?_
  · intro M' hM'
    simp -implicitDefEqProofs [gT, gU, y0, y2, hr0, hl3]
    by_cases hc0 : (F - c).fmod r = 0
    · rw [if_pos hc0]
      by_cases hgt : H < F
      · rw [if_pos hgt]
        exact hempty fun x hx => by
          have := hafter x hx
          have := hx.1.2.1
          have := hx.2.2.1
          omega
      · rw [if_neg hgt]
        exact hM' _ _ ⟨⟨(fmod_dvd hr.1).mp hc0, by omega⟩, rfl, rfl⟩
    · rw [if_neg hc0]
      exact hempty (hnone fun hdv => hc0 ((fmod_dvd hr.1).mpr hdv))
  rintro _ w1 ⟨⟨hrF, hFH⟩, rfl, rfl⟩
  refine okS_to (fun s1 w2 => w2 = w1 ∧ s1 = [some T, some W2, some (.int F), y, some (.int H), some (.int s), none]) ?_ ?_
  · intro M' hM'
    simp -implicitDefEqProofs [gT, x2]
    exact hM' _ _ ⟨rfl, rfl⟩
  rintro _ w1 ⟨rfl, rfl⟩
  refine okS_to (fun s1 w2 => w2 = w1 ∧ ∃ m : Int, ∃ y, (1 ≤ m ∧ m ≤ 61) ∧ (∀ j : Int, 1 ≤ j → j < m → ¬ r ∣ s * j) ∧ r ∣ s * m ∧ s1 = [some T, some W2, some (.int F), y, some (.int H), some (.int (s * m)), none]) ?_ ?_
  · intro M' hM'
    simp -implicitDefEqProofs only [okS_for, okI_rng1, okE_cons, okE_c, okE_nil, rng1_int]
    refine ⟨⟨by omega, by omega⟩, okS_loop0 (fun i s' w' => w' = w1 ∧ ∃ m : Int, ∃ y, (1 ≤ m ∧ m ≤ i + 1) ∧ (∀ j : Int, 1 ≤ j → j < m → ¬ r ∣ s * j) ∧ (m ≤ i → r ∣ s * m) ∧ s' = [some T, some W2, some (.int F), y, some (.int H), some (.int (s * m)), none]) ⟨rfl, 1, y, ⟨by omega, by omega⟩, fun j h0 h1 => by omega, fun h1 => by omega, by rw [Int.mul_one]⟩ ?_ ?_⟩
    · rintro i d s' w' hd ⟨rfl, m, y, hm1, hmin, hdiv, rfl⟩
      obtain ⟨hi, rfl⟩ := upTo_get hd
      rw [v_gN, okO_some]
      have hsplit : okS (sIf (tE (eBin fNe (eBin fMod (eCB fInt (aCons (eVar 5) aNil)) (eBin fIx (eVar 1) (eC (.int 2)))) (eC (.int 0)))) (sAsg 5 (eBin fAdd (eVar 5) (eBin fIx (eVar 0) (eC (.int 2))))) sNx [some T, some W2, some (.int F), some (.int (0 + (i : Nat))), some (.int H), some (.int (s * m)), none] w') (fun s1 w1 => w1 = w' ∧ ((r ∣ s * m ∧ s1 = [some T, some W2, some (.int F), some (.int (0 + (i : Nat))), some (.int H), some (.int (s * m)), none]) ∨ (¬ r ∣ s * m ∧ s1 = [some T, some W2, some (.int F), some (.int (0 + (i : Nat))), some (.int H), some (.int (s * m + s)), none]))) (fun d w' => False) := by
        simp -implicitDefEqProofs [gT, gU, x2, y2, hr0]
        by_cases hc0 : (s * m).fmod r = 0
        · have := (fmod_dvd hr.1).mp hc0
          simp [hc0, this]
        · have : ¬ r ∣ s * m := fun hdv => hc0 ((fmod_dvd hr.1).mpr hdv)
          simp [hc0, this]
      refine okS_mono hsplit (fun s1 w1 hh => ?_) (fun _ _ hh => hh.elim)
      obtain ⟨rfl, hh⟩ := hh
      rcases hh with ⟨hdv, rfl⟩ | ⟨hnd, rfl⟩
      · exact ⟨rfl, m, _, ⟨hm1.1, by omega⟩, hmin, fun _ => hdv, rfl⟩
      · have hme : m = (i : Int) + 1 := by
          by_cases hle : m ≤ i
          · exact (hnd (hdiv hle)).elim
          · omega
        refine ⟨rfl, m + 1, _, ⟨by omega, by omega⟩, fun j j0 j1 => ?_, fun hle => by omega, by rw [Int.mul_add, Int.mul_one]⟩
        by_cases hj : j < m
        · exact hmin j j0 hj
        · have : j = m := by omega
          subst this
          exact hnd
    · rintro s' w' ⟨rfl, m, y, hm1, hmin, hdiv, rfl⟩
      have hlen : (upTo 0 (61 : Int).toNat).length = 61 := by simp [upTo]
      rw [hlen] at hm1 hdiv
      have hk : r ∣ s * k2 := ⟨k1, by rw [e1, e2, Int.mul_assoc, Int.mul_assoc, Int.mul_comm k1 k2]⟩
      have hmk : m ≤ k2 := by
        apply Int.not_lt.mp
        intro hlt
        exact hmin k2 (by omega) hlt hk
      exact hM' _ _ ⟨rfl, m, _, ⟨hm1.1, by omega⟩, hmin, hdiv (by omega), rfl⟩
  rintro _ w1 ⟨rfl, m, y, hm1, hmin, hdiv, rfl⟩
  have hS0 : 0 < s * m := Int.mul_pos hs.1 (by omega)
  have hS1 : s * m ≤ 60000000420 * 61 := Int.mul_le_mul hs.2 hm1.2 (by omega) (by omega)
  have hv : ∃ v : Tr, v.2.2 ≠ 0 ∧ (∀ x, In v x ↔ In t x ∧ In u x) ∧ Tri (nrm v) ∧ nrm v = if (H - F).fdiv (s * m) > 0 then (F, F + (H - F).fdiv (s * m) * (s * m), s * m) else (F, F, 1) := by
    refine ⟨(F, H, s * m), by show s * m ≠ 0; omega, fun x => ?_, Tri.nrm ⟨?_, ?_, ?_, by show s * m ≠ 0; omega⟩, nrm_asc hS0 hFH⟩
    · rw [hin, in_asc hS0]
      constructor
      · rintro ⟨q1, q2, q3⟩
        have q4 := Int.dvd_trans (Int.dvd_mul_right s m) q3
        have q5 := Int.dvd_trans hdiv q3
        refine ⟨⟨by omega, by omega, ?_⟩, by omega, by omega, ?_⟩
        · have := Int.dvd_add q4 hsF
          have e : x - F + (F - a) = x - a := by omega
          rwa [e] at this
        · have := Int.dvd_add q5 hrF
          have e : x - F + (F - c) = x - c := by omega
          rwa [e] at this
      · intro hx
        have q1 := hafter x hx
        obtain ⟨⟨p1, p2, p3⟩, p4, p5, p6⟩ := hx
        obtain ⟨y, hy⟩ := Int.dvd_sub p3 hsF
        have e : x - a - (F - a) = x - F := by omega
        rw [e] at hy
        have q3 : r ∣ s * y := by
          have := Int.dvd_sub p6 hrF
          have e : x - c - (F - c) = x - F := by omega
          rwa [e, hy] at this
        exact ⟨q1, by omega, by rw [hy]; exact steps_div (by omega) hdiv hmin q3⟩
    · rw [inF_iff]; simp only [FARn]; omega
    · rw [inF_iff]; simp only [FARn]; omega
    · rw [inF_iff]; simp only [FARn]; omega
  obtain ⟨v, v1, v2, v3, v4⟩ := hv
  have hq := fdiv_range (a := H - F) hS0 (by omega)
  have d1 : divOk (s * m) := div_bt (by omega) (bt50 (by omega) (by omega)) (by omega)
  have m1 : mulOk ((H - F).fdiv (s * m)) (s * m) := mul_bt (i := 110) (j := 50) (bt_of (by omega) (by omega)) (bt50 (by omega) (by omega)) (by omega)
  generalize s * m = S at *
  generalize hQ : (H - F).fdiv S = Q at *
  simp -implicitDefEqProofs [d1, hl3, hQ, m1]
  by_cases hQ0 : 0 < Q
  · rw [if_pos hQ0]
    rw [if_pos hQ0] at v4
    exact ⟨v, v1, v2, v3, by rw [v4]; rfl⟩
  · rw [if_neg hQ0]
    rw [if_neg hQ0] at v4
    exact ⟨v, v1, v2, v3, by rw [v4]; rfl⟩
end
end DL

set_option maxHeartbeats 2000000
namespace DL
open PySem PySem.Spec PyProof.Rows L2
/-! ### k03: far ones -/
section
variable {w : Wl} {b : Nat} {t u v : Tr}
@[simp] theorem okD_t3 {a b c : Tr} : okD (.lst [tD a, tD b, tD c]) = true := rfl
theorem thrice {x : D} : (List.replicate (3 : Int).toNat [x]).flatten = [x, x, x] := rfl
theorem far_law (hw : Lap b w) (hb : b < 1007000) : okE (F_w_far_right [.well] w) fun d w' => d = .bl true ∧ Lap (b + 20) w' := by
  have hlim : lim = 16000000 := rfl
  have hl1 : (1 : Nat) ≤ lim := by decide
  have hl3 : (3 : Nat) ≤ lim := by decide
  have hl4 : (4 : Nat) ≤ lim := by decide
  unfold F_w_far_right
  rw [okE_run]
  refine ⟨rfl, ?_⟩
  show okS (B_w_far_right [some .well, none, none, none, none, none, none] w) _ _
  unfold B_w_far_right
  refine okS_to (fun s1 w1 => ∃ U : Int, (1 ≤ U ∧ U ≤ 1000000007) ∧ Lap (b + 1) w1 ∧ s1 = [some .well, some (.int U), none, none, none, none, none]) ?_ ?_
  · intro M' hM'
    simp -implicitDefEqProofs [hl4]
    have hp : ∀ n ∈ [(1 : Int), 1, 1000, 1000000007], 1 ≤ n ∧ n ≤ 1000000007 := by
      intro n hn
      simp only [List.mem_cons, List.not_mem_nil, or_false] at hn
      omega
    exact pickI (ns := [1, 1, 1000, 1000000007]) (fun n => 1 ≤ n ∧ n ≤ 1000000007) hp hw (by simp) (by simp) (by omega) fun p w3 hp l3 => hM' _ _ ⟨p, hp, l3, rfl⟩
  rintro _ w1 ⟨U, hU, l1, rfl⟩
  refine okS_to (fun s1 w2 => ∃ B : Int, (-300000000000000000000000000000 ≤ B ∧ B ≤ 900000000000000000000000000000) ∧ Lap (b + 2) w2 ∧ s1 = [some .well, some (.int U), some (.int B), none, none, none, none]) ?_ ?_
  · intro M' hM'
    have m1 : mulOk 3 100000000000000000000000000000 := mul_bt (i := 50) (j := 101) (bt50 (by omega) (by omega)) (bt101 (by omega) (by omega)) (by omega)
    have m2 : mulOk 9 100000000000000000000000000000 := mul_bt (i := 50) (j := 101) (bt50 (by omega) (by omega)) (bt101 (by omega) (by omega)) (by omega)
    simp -implicitDefEqProofs [hl4, m1, m2]
    have hp : ∀ n ∈ [(0 : Int), 1000000000000000, -300000000000000000000000000000, 900000000000000000000000000000], -300000000000000000000000000000 ≤ n ∧ n ≤ 900000000000000000000000000000 := by
      intro n hn
      simp only [List.mem_cons, List.not_mem_nil, or_false] at hn
      omega
    exact pickI (ns := [0, 1000000000000000, -300000000000000000000000000000, 900000000000000000000000000000]) (fun n => -300000000000000000000000000000 ≤ n ∧ n ≤ 900000000000000000000000000000) hp l1 (by simp) (by simp) (by omega) fun p w3 hp l3 => hM' _ _ ⟨p, hp, l3, rfl⟩
  rintro _ w2 ⟨B, hB, l2, rfl⟩
  refine okS_to (fun s1 w3 => ∃ t u, FT U t ∧ FT U u ∧ Lap (b + 12) w3 ∧ s1 = [some .well, some (.int U), some (.int B), some (tD t), some (tD u), none, none]) ?_ ?_
  · intro M' hM'
    simp -implicitDefEqProofs
    refine far_trio l2 (by omega) hU hB fun t w3 ht l3 => ?_
    refine far_trio l3 (by omega) hU hB fun u w4 hu l4 => ?_
    exact hM' _ _ ⟨t, u, ht, hu, lap_le l4 (by omega), rfl⟩
  rintro _ w3 ⟨t, u, ht, hu, l3, rfl⟩
  have h := ht.tri hU
  have h2 := hu.tri hU
  have hp := ht.pos hU
  refine okS_to (fun s1 w4 => w4 = w3 ∧ ∃ v : Tr, v.2.2 ≠ 0 ∧ (∀ x, In v x ↔ In t x ∧ In u x) ∧ Tri (nrm v) ∧ s1 = [some .well, some (.int U), some (.int B), some (tD t), some (tD u), some (tD (nrm v)), none]) ?_ ?_
  · intro M' hM'
    simp -implicitDefEqProofs
    refine okE_mono (e_found hU ht hu) fun d w4 ⟨ew, v, v1, v2, v3, ed⟩ => ?_
    subst ew
    subst ed
    exact hM' _ _ ⟨rfl, v, v1, v2, v3, rfl⟩
  rintro _ w3 ⟨rfl, v, hv, iv, tv, rfl⟩
  have hn := cnt_nonneg (t := t)
  have hcb := cnt_bt h
  have hm := e_count (w := w3) h
  have hc1 : 1 ≤ cnt t := by
    have := (cnt_iff h.s (i := 0) (by omega)).mpr (.inl ⟨hp.1, by rw [at1_zero]; exact ht.le.1⟩)
    omega
  obtain ⟨T, hT⟩ : ∃ T : Tr, T = (t.1 + (cnt t - 1) * t.2.2, t.1, 0 - t.2.2) := ⟨_, rfl⟩
  have hbp : mulOk (cnt t - 1) t.2.2 := mul_bt (i := 110) (j := 110) (bt_of (by omega) (by have := p110; omega)) ((bt100 h.c).mono (by omega)) (by omega)
  have iT : ∀ x, In T x ↔ In t x := fun x => by
    have e : T = mk3 (t.1 + (cnt t - 1) * t.2.2) (-t.2.2) (cnt t) := by
      rw [hT]
      unfold mk3
      have e1 : t.1 = t.1 + (cnt t - 1) * t.2.2 + (cnt t - 1) * -t.2.2 := by rw [Int.mul_neg]; omega
      have e2 : 0 - t.2.2 = -t.2.2 := by omega
      rw [e2, ← e1]
    rw [← in_mem, ← in_mem, e, ← mem_rev h.s hn, List.mem_reverse, ← mem_same h.s]
  have hTT : Tri T := by
    have en := inF_neg h.c
    have e : -t.2.2 = 0 - t.2.2 := by omega
    rw [e] at en
    have hs := h.s
    rw [hT]
    exact ⟨at1_far h (by omega) (by omega), h.a, en, by show 0 - t.2.2 ≠ 0; omega⟩
  refine okS_to (fun s1 w4 => w4 = w3 ∧ s1 = [some .well, some (.int U), some (.int B), some (tD t), some (tD u), some (tD (nrm v)), some (tD T)]) ?_ ?_
  · intro M' hM'
    simp -implicitDefEqProofs [hm, hbp, hl3]
    refine hM' _ _ ⟨rfl, ?_⟩
    rw [hT]
    unfold tD
    simp
  rintro _ w3 ⟨rfl, rfl⟩
  obtain ⟨a1, b1, c1, d1⟩ := e_met h h2
  obtain ⟨a2, b2, c2, d2⟩ := e_met h2 h
  obtain ⟨a3, b3, c3, d3⟩ := e_met hTT h2
  have ev1 : nrm a1 = nrm v := nrm_ext b1 hv fun x => by rw [c1, iv]
  have ev2 : nrm a2 = nrm v := nrm_ext b2 hv fun x => by rw [c2, iv]; exact And.comm
  have ev3 : nrm a3 = nrm v := nrm_ext b3 hv fun x => by rw [c3, iv, iT]
  have d1 := d1 w3
  have d2 := d2 w3
  have d3 := d3 w3
  rw [ev1] at d1
  rw [ev2] at d2
  rw [ev3] at d3
  refine okS_to (fun s1 w4 => w4 = w3 ∧ s1 = [some .well, some (.int U), some (.int B), some (tD t), some (tD u), some (tD (nrm v)), some (tD T)]) ?_ ?_
  · intro M' hM'
    simp -implicitDefEqProofs [d1, d2, d3, hl1, hl3]
    exact hM' _ _ ⟨rfl, rfl⟩
  rintro _ w3 ⟨rfl, rfl⟩
  obtain ⟨q1, f1, g1⟩ := e_lies_in (w := w3) tv h
  obtain ⟨q2, f2, g2⟩ := e_lies_in (w := w3) tv h2
  have q1t : q1 = true := g1.mpr fun x hx => ((iv x).mp ((in_nrm hv).mp hx)).1
  have q2t : q2 = true := g2.mpr fun x hx => ((iv x).mp ((in_nrm hv).mp hx)).2
  rw [q1t] at f1
  rw [q2t] at f2
  refine okS_to (fun s1 w4 => w4 = w3 ∧ s1 = [some .well, some (.int U), some (.int B), some (tD t), some (tD u), some (tD (nrm v)), some (tD T)]) ?_ ?_
  · intro M' hM'
    simp -implicitDefEqProofs [f1, f2]
    exact hM' _ _ ⟨rfl, rfl⟩
  rintro _ w3 ⟨rfl, rfl⟩
  obtain ⟨q3, f3, g3⟩ := e_lies_in (w := w3) h h2
  have hmv := e_count (w := w3) tv
  have hm3 := e_count (w := w3) h
  have k3 : q3 = decide (cnt (nrm v) = cnt t) := by
    rw [Bool.eq_iff_iff, decide_eq_true_eq, g3, ← both_all h.s, both_eq h.s hv iv, mem_len, mem_len]
    have := cnt_nonneg (t := nrm v)
    omega
  simp -implicitDefEqProofs [f3, hmv, hm3, k3]
  exact lap_le l3 (by omega)
theorem right_ok (b : Nat) (w : Wl) (hb : b < 1000000) (hw : Lap b w) : ∃ w', T_law [none, none, some .well, none] w = .ok false w' ∧ Lap (b + 1000) w' := by
  have h : okE (T_law [none, none, some .well, none] w) fun k w' => k = false ∧ Lap (b + 1000) w' := by
    unfold T_law
    simp -implicitDefEqProofs
    refine okE_mono (near_law hw (by omega)) fun d w1 ⟨hd, l1⟩ => ?_
    subst hd
    simp -implicitDefEqProofs
    refine okE_mono (far_law l1 (by omega)) fun d w2 ⟨hd, l2⟩ => ?_
    subst hd
    simp -implicitDefEqProofs
    exact lap_le l2 (by omega)
  obtain ⟨k, w', e, rfl, l⟩ := okE_ex h
  exact ⟨w', e, l⟩
end
end DL

set_option maxHeartbeats 2000000
namespace DL
open PySem PySem.Spec PyProof.Rows L2
open Evl (Ex)

/-! ### what the top has written; the law's own head -/
theorem all_mk {l : PySem.W.OpenLaw} {w : World} {K : PySem.W.Frag} {h : Heap} {mg : Str → Option Value} {fa f0 f1 f2 f3 f4 f5 f6 f7 f8 f9 f10 f11 f12 f13 f14 f15 f16 f17 f18 f19 f20 f21 f22 f23 f24 f25 f26 f27 f28 f29 : Addr} (X : K.In h) (G : h.Ns mainGlobals mg) (hfa : mg "law" = some (.ref fa))
    {od0 an0 od1 an1 od2 an2 od3 an3 od4 an4 od5 an5 od6 an6 od7 an7 od8 an8 od9 an9 od10 an10 od11 an11 od12 an12 od13 an13 od14 an14 od15 an15 od16 an16 od17 an17 od18 an18 od19 an19 od20 an20 od21 an21 od22 an22 od23 an23 od24 an24 od25 an25 od26 an26 od27 an27 od28 an28 od29 an29 : Option Addr} {sl0 sl1 sl2 sl3 sl4 sl5 sl6 sl7 sl8 sl9 sl10 sl11 sl12 sl13 sl14 sl15 sl16 sl17 sl18 sl19 sl20 sl21 sl22 sl23 sl24 sl25 sl26 sl27 sl28 sl29 : Array (Option Value)} {oc0 kV0 dc0 pm0 cd0 ct0 oc1 kV1 dc1 pm1 cd1 ct1 oc2 kV2 dc2 pm2 cd2 ct2 oc3 kV3 dc3 pm3 cd3 ct3 oc4 kV4 dc4 pm4 cd4 ct4 oc5 kV5 dc5 pm5 cd5 ct5 oc6 kV6 dc6 pm6 cd6 ct6 oc7 kV7 dc7 pm7 cd7 ct7 oc8 kV8 dc8 pm8 cd8 ct8 oc9 kV9 dc9 pm9 cd9 ct9 oc10 kV10 dc10 pm10 cd10 ct10 oc11 kV11 dc11 pm11 cd11 ct11 oc12 kV12 dc12 pm12 cd12 ct12 oc13 kV13 dc13 pm13 cd13 ct13 oc14 kV14 dc14 pm14 cd14 ct14 oc15 kV15 dc15 pm15 cd15 ct15 oc16 kV16 dc16 pm16 cd16 ct16 oc17 kV17 dc17 pm17 cd17 ct17 oc18 kV18 dc18 pm18 cd18 ct18 oc19 kV19 dc19 pm19 cd19 ct19 oc20 kV20 dc20 pm20 cd20 ct20 oc21 kV21 dc21 pm21 cd21 ct21 oc22 kV22 dc22 pm22 cd22 ct22 oc23 kV23 dc23 pm23 cd23 ct23 oc24 kV24 dc24 pm24 cd24 ct24 oc25 kV25 dc25 pm25 cd25 ct25 oc26 kV26 dc26 pm26 cd26 ct26 oc27 kV27 dc27 pm27 cd27 ct27 oc28 kV28 dc28 pm28 cd28 ct28 oc29 kV29 dc29 pm29 cd29 ct29 : Value} {t_FAR t_LIST_LIMIT : Tok}
    (a0 : PySem.W.nsIn K mainGlobals "is_number" = some (some (.ref f0)))
    (l0 : K.lookup f0 = some ⟨oc0, od0, .func (PySem.W.fnOf "is_number" "is_number" (defArgs s_is_number) (defBody s_is_number) (defScope s_is_number) .none kV0 dc0 pm0 an0 cd0 ct0), sl0⟩)
    (c0 : PySem.W.codeIn K cd0 "is_number" = true)
    (k0 : PySem.W.keepIn K (.ref f0) = true)
    (a1 : PySem.W.nsIn K mainGlobals "is_far" = some (some (.ref f1)))
    (l1 : K.lookup f1 = some ⟨oc1, od1, .func (PySem.W.fnOf "is_far" "is_far" (defArgs s_is_far) (defBody s_is_far) (defScope s_is_far) .none kV1 dc1 pm1 an1 cd1 ct1), sl1⟩)
    (c1 : PySem.W.codeIn K cd1 "is_far" = true)
    (k1 : PySem.W.keepIn K (.ref f1) = true)
    (a2 : PySem.W.nsIn K mainGlobals "is_triplet" = some (some (.ref f2)))
    (l2 : K.lookup f2 = some ⟨oc2, od2, .func (PySem.W.fnOf "is_triplet" "is_triplet" (defArgs s_is_triplet) (defBody s_is_triplet) (defScope s_is_triplet) .none kV2 dc2 pm2 an2 cd2 ct2), sl2⟩)
    (c2 : PySem.W.codeIn K cd2 "is_triplet" = true)
    (k2 : PySem.W.keepIn K (.ref f2) = true)
    (a3 : PySem.W.nsIn K mainGlobals "many_of" = some (some (.ref f3)))
    (l3 : K.lookup f3 = some ⟨oc3, od3, .func (PySem.W.fnOf "many_of" "many_of" (defArgs s_many_of) (defBody s_many_of) (defScope s_many_of) .none kV3 dc3 pm3 an3 cd3 ct3), sl3⟩)
    (c3 : PySem.W.codeIn K cd3 "many_of" = true)
    (k3 : PySem.W.keepIn K (.ref f3) = true)
    (a4 : PySem.W.nsIn K mainGlobals "subscript_of" = some (some (.ref f4)))
    (l4 : K.lookup f4 = some ⟨oc4, od4, .func (PySem.W.fnOf "subscript_of" "subscript_of" (defArgs s_subscript_of) (defBody s_subscript_of) (defScope s_subscript_of) .none kV4 dc4 pm4 an4 cd4 ct4), sl4⟩)
    (c4 : PySem.W.codeIn K cd4 "subscript_of" = true)
    (k4 : PySem.W.keepIn K (.ref f4) = true)
    (a5 : PySem.W.nsIn K mainGlobals "last_of" = some (some (.ref f5)))
    (l5 : K.lookup f5 = some ⟨oc5, od5, .func (PySem.W.fnOf "last_of" "last_of" (defArgs s_last_of) (defBody s_last_of) (defScope s_last_of) .none kV5 dc5 pm5 an5 cd5 ct5), sl5⟩)
    (c5 : PySem.W.codeIn K cd5 "last_of" = true)
    (k5 : PySem.W.keepIn K (.ref f5) = true)
    (a6 : PySem.W.nsIn K mainGlobals "subscripts" = some (some (.ref f6)))
    (l6 : K.lookup f6 = some ⟨oc6, od6, .func (PySem.W.fnOf "subscripts" "subscripts" (defArgs s_subscripts) (defBody s_subscripts) (defScope s_subscripts) .none kV6 dc6 pm6 an6 cd6 ct6), sl6⟩)
    (c6 : PySem.W.codeIn K cd6 "subscripts" = true)
    (k6 : PySem.W.keepIn K (.ref f6) = true)
    (a7 : PySem.W.nsIn K mainGlobals "index_of" = some (some (.ref f7)))
    (l7 : K.lookup f7 = some ⟨oc7, od7, .func (PySem.W.fnOf "index_of" "index_of" (defArgs s_index_of) (defBody s_index_of) (defScope s_index_of) .none kV7 dc7 pm7 an7 cd7 ct7), sl7⟩)
    (c7 : PySem.W.codeIn K cd7 "index_of" = true)
    (k7 : PySem.W.keepIn K (.ref f7) = true)
    (a8 : PySem.W.nsIn K mainGlobals "has" = some (some (.ref f8)))
    (l8 : K.lookup f8 = some ⟨oc8, od8, .func (PySem.W.fnOf "has" "has" (defArgs s_has) (defBody s_has) (defScope s_has) .none kV8 dc8 pm8 an8 cd8 ct8), sl8⟩)
    (c8 : PySem.W.codeIn K cd8 "has" = true)
    (k8 : PySem.W.keepIn K (.ref f8) = true)
    (a9 : PySem.W.nsIn K mainGlobals "covers" = some (some (.ref f9)))
    (l9 : K.lookup f9 = some ⟨oc9, od9, .func (PySem.W.fnOf "covers" "covers" (defArgs s_covers) (defBody s_covers) (defScope s_covers) .none kV9 dc9 pm9 an9 cd9 ct9), sl9⟩)
    (c9 : PySem.W.codeIn K cd9 "covers" = true)
    (k9 : PySem.W.keepIn K (.ref f9) = true)
    (a10 : PySem.W.nsIn K mainGlobals "upward" = some (some (.ref f10)))
    (l10 : K.lookup f10 = some ⟨oc10, od10, .func (PySem.W.fnOf "upward" "upward" (defArgs s_upward) (defBody s_upward) (defScope s_upward) .none kV10 dc10 pm10 an10 cd10 ct10), sl10⟩)
    (c10 : PySem.W.codeIn K cd10 "upward" = true)
    (k10 : PySem.W.keepIn K (.ref f10) = true)
    (a11 : PySem.W.nsIn K mainGlobals "normal_of" = some (some (.ref f11)))
    (l11 : K.lookup f11 = some ⟨oc11, od11, .func (PySem.W.fnOf "normal_of" "normal_of" (defArgs s_normal_of) (defBody s_normal_of) (defScope s_normal_of) .none kV11 dc11 pm11 an11 cd11 ct11), sl11⟩)
    (c11 : PySem.W.codeIn K cd11 "normal_of" = true)
    (k11 : PySem.W.keepIn K (.ref f11) = true)
    (a12 : PySem.W.nsIn K mainGlobals "divisor_and_factor" = some (some (.ref f12)))
    (l12 : K.lookup f12 = some ⟨oc12, od12, .func (PySem.W.fnOf "divisor_and_factor" "divisor_and_factor" (defArgs s_divisor_and_factor) (defBody s_divisor_and_factor) (defScope s_divisor_and_factor) .none kV12 dc12 pm12 an12 cd12 ct12), sl12⟩)
    (c12 : PySem.W.codeIn K cd12 "divisor_and_factor" = true)
    (k12 : PySem.W.keepIn K (.ref f12) = true)
    (a13 : PySem.W.nsIn K mainGlobals "met_of" = some (some (.ref f13)))
    (l13 : K.lookup f13 = some ⟨oc13, od13, .func (PySem.W.fnOf "met_of" "met_of" (defArgs s_met_of) (defBody s_met_of) (defScope s_met_of) .none kV13 dc13 pm13 an13 cd13 ct13), sl13⟩)
    (c13 : PySem.W.codeIn K cd13 "met_of" = true)
    (k13 : PySem.W.keepIn K (.ref f13) = true)
    (a14 : PySem.W.nsIn K mainGlobals "check_triplet" = some (some (.ref f14)))
    (l14 : K.lookup f14 = some ⟨oc14, od14, .func (PySem.W.fnOf "check_triplet" "check_triplet" (defArgs s_check_triplet) (defBody s_check_triplet) (defScope s_check_triplet) .none kV14 dc14 pm14 an14 cd14 ct14), sl14⟩)
    (c14 : PySem.W.codeIn K cd14 "check_triplet" = true)
    (k14 : PySem.W.keepIn K (.ref f14) = true)
    (a15 : PySem.W.nsIn K mainGlobals "check_two" = some (some (.ref f15)))
    (l15 : K.lookup f15 = some ⟨oc15, od15, .func (PySem.W.fnOf "check_two" "check_two" (defArgs s_check_two) (defBody s_check_two) (defScope s_check_two) .none kV15 dc15 pm15 an15 cd15 ct15), sl15⟩)
    (c15 : PySem.W.codeIn K cd15 "check_two" = true)
    (k15 : PySem.W.keepIn K (.ref f15) = true)
    (a16 : PySem.W.nsIn K mainGlobals "met" = some (some (.ref f16)))
    (l16 : K.lookup f16 = some ⟨oc16, od16, .func (PySem.W.fnOf "met" "met" (defArgs s_met) (defBody s_met) (defScope s_met) .none kV16 dc16 pm16 an16 cd16 ct16), sl16⟩)
    (c16 : PySem.W.codeIn K cd16 "met" = true)
    (k16 : PySem.W.keepIn K (.ref f16) = true)
    (a17 : PySem.W.nsIn K mainGlobals "lies_in" = some (some (.ref f17)))
    (l17 : K.lookup f17 = some ⟨oc17, od17, .func (PySem.W.fnOf "lies_in" "lies_in" (defArgs s_lies_in) (defBody s_lies_in) (defScope s_lies_in) .none kV17 dc17 pm17 an17 cd17 ct17), sl17⟩)
    (c17 : PySem.W.codeIn K cd17 "lies_in" = true)
    (k17 : PySem.W.keepIn K (.ref f17) = true)
    (a18 : PySem.W.nsIn K mainGlobals "_law_draw" = some (some (.ref f18)))
    (l18 : K.lookup f18 = some ⟨oc18, od18, .func (PySem.W.fnOf "_law_draw" "_law_draw" (defArgs s_w_draw) (defBody s_w_draw) (defScope s_w_draw) .none kV18 dc18 pm18 an18 cd18 ct18), sl18⟩)
    (c18 : PySem.W.codeIn K cd18 "_law_draw" = true)
    (k18 : PySem.W.keepIn K (.ref f18) = true)
    (a19 : PySem.W.nsIn K mainGlobals "_law_pick" = some (some (.ref f19)))
    (l19 : K.lookup f19 = some ⟨oc19, od19, .func (PySem.W.fnOf "_law_pick" "_law_pick" (defArgs s_w_pick) (defBody s_w_pick) (defScope s_w_pick) .none kV19 dc19 pm19 an19 cd19 ct19), sl19⟩)
    (c19 : PySem.W.codeIn K cd19 "_law_pick" = true)
    (k19 : PySem.W.keepIn K (.ref f19) = true)
    (a20 : PySem.W.nsIn K mainGlobals "_law_members" = some (some (.ref f20)))
    (l20 : K.lookup f20 = some ⟨oc20, od20, .func (PySem.W.fnOf "_law_members" "_law_members" (defArgs s_w_members) (defBody s_w_members) (defScope s_w_members) .none kV20 dc20 pm20 an20 cd20 ct20), sl20⟩)
    (c20 : PySem.W.codeIn K cd20 "_law_members" = true)
    (k20 : PySem.W.keepIn K (.ref f20) = true)
    (a21 : PySem.W.nsIn K mainGlobals "_law_near" = some (some (.ref f21)))
    (l21 : K.lookup f21 = some ⟨oc21, od21, .func (PySem.W.fnOf "_law_near" "_law_near" (defArgs s_w_near) (defBody s_w_near) (defScope s_w_near) .none kV21 dc21 pm21 an21 cd21 ct21), sl21⟩)
    (c21 : PySem.W.codeIn K cd21 "_law_near" = true)
    (k21 : PySem.W.keepIn K (.ref f21) = true)
    (a22 : PySem.W.nsIn K mainGlobals "_law_shown" = some (some (.ref f22)))
    (l22 : K.lookup f22 = some ⟨oc22, od22, .func (PySem.W.fnOf "_law_shown" "_law_shown" (defArgs s_w_shown) (defBody s_w_shown) (defScope s_w_shown) .none kV22 dc22 pm22 an22 cd22 ct22), sl22⟩)
    (c22 : PySem.W.codeIn K cd22 "_law_shown" = true)
    (k22 : PySem.W.keepIn K (.ref f22) = true)
    (a23 : PySem.W.nsIn K mainGlobals "_law_count" = some (some (.ref f23)))
    (l23 : K.lookup f23 = some ⟨oc23, od23, .func (PySem.W.fnOf "_law_count" "_law_count" (defArgs s_w_count) (defBody s_w_count) (defScope s_w_count) .none kV23 dc23 pm23 an23 cd23 ct23), sl23⟩)
    (c23 : PySem.W.codeIn K cd23 "_law_count" = true)
    (k23 : PySem.W.keepIn K (.ref f23) = true)
    (a24 : PySem.W.nsIn K mainGlobals "_law_near_right" = some (some (.ref f24)))
    (l24 : K.lookup f24 = some ⟨oc24, od24, .func (PySem.W.fnOf "_law_near_right" "_law_near_right" (defArgs s_w_near_right) (defBody s_w_near_right) (defScope s_w_near_right) .none kV24 dc24 pm24 an24 cd24 ct24), sl24⟩)
    (c24 : PySem.W.codeIn K cd24 "_law_near_right" = true)
    (k24 : PySem.W.keepIn K (.ref f24) = true)
    (a25 : PySem.W.nsIn K mainGlobals "_law_far_trio" = some (some (.ref f25)))
    (l25 : K.lookup f25 = some ⟨oc25, od25, .func (PySem.W.fnOf "_law_far_trio" "_law_far_trio" (defArgs s_w_far_trio) (defBody s_w_far_trio) (defScope s_w_far_trio) .none kV25 dc25 pm25 an25 cd25 ct25), sl25⟩)
    (c25 : PySem.W.codeIn K cd25 "_law_far_trio" = true)
    (k25 : PySem.W.keepIn K (.ref f25) = true)
    (a26 : PySem.W.nsIn K mainGlobals "_law_found" = some (some (.ref f26)))
    (l26 : K.lookup f26 = some ⟨oc26, od26, .func (PySem.W.fnOf "_law_found" "_law_found" (defArgs s_w_found) (defBody s_w_found) (defScope s_w_found) .none kV26 dc26 pm26 an26 cd26 ct26), sl26⟩)
    (c26 : PySem.W.codeIn K cd26 "_law_found" = true)
    (k26 : PySem.W.keepIn K (.ref f26) = true)
    (a27 : PySem.W.nsIn K mainGlobals "_law_far_right" = some (some (.ref f27)))
    (l27 : K.lookup f27 = some ⟨oc27, od27, .func (PySem.W.fnOf "_law_far_right" "_law_far_right" (defArgs s_w_far_right) (defBody s_w_far_right) (defScope s_w_far_right) .none kV27 dc27 pm27 an27 cd27 ct27), sl27⟩)
    (c27 : PySem.W.codeIn K cd27 "_law_far_right" = true)
    (k27 : PySem.W.keepIn K (.ref f27) = true)
    (a28 : PySem.W.nsIn K mainGlobals "_law_well" = some (some (.ref f28)))
    (l28 : K.lookup f28 = some ⟨oc28, od28, .func (PySem.W.fnOf "_law_well" "_law_well" (defArgs s_w_well) (defBody s_w_well) (defScope s_w_well) .none kV28 dc28 pm28 an28 cd28 ct28), sl28⟩)
    (c28 : PySem.W.codeIn K cd28 "_law_well" = true)
    (k28 : PySem.W.keepIn K (.ref f28) = true)
    (a29 : PySem.W.nsIn K mainGlobals "law" = some (some (.ref f29)))
    (l29 : K.lookup f29 = some ⟨oc29, od29, .func (PySem.W.fnOf "law" "law" (defArgs s_law) (defBody s_law) (defScope s_law) .none kV29 dc29 pm29 an29 cd29 ct29), sl29⟩)
    (c29 : PySem.W.codeIn K cd29 "law" = true)
    (k29 : PySem.W.keepIn K (.ref f29) = true)
    (z_int : PySem.W.nsIn K mainGlobals "int" = some none)
    (z_isinstance : PySem.W.nsIn K mainGlobals "isinstance" = some none)
    (z_bool : PySem.W.nsIn K mainGlobals "bool" = some none)
    (z_tuple : PySem.W.nsIn K mainGlobals "tuple" = some none)
    (z_len : PySem.W.nsIn K mainGlobals "len" = some none)
    (z_all : PySem.W.nsIn K mainGlobals "all" = some none)
    (z_list : PySem.W.nsIn K mainGlobals "list" = some none)
    (z_max : PySem.W.nsIn K mainGlobals "max" = some none)
    (z_range : PySem.W.nsIn K mainGlobals "range" = some none)
    (z_divmod : PySem.W.nsIn K mainGlobals "divmod" = some none)
    (z_min : PySem.W.nsIn K mainGlobals "min" = some none)
    (z_abs : PySem.W.nsIn K mainGlobals "abs" = some none)
    (z_sorted : PySem.W.nsIn K mainGlobals "sorted" = some none)
    (v_FAR : PySem.W.nsIn K mainGlobals "FAR" = some (some (.int 1000000000000000000000000000000 t_FAR)))
    (v_LIST_LIMIT : PySem.W.nsIn K mainGlobals "LIST_LIMIT" = some (some (.int 64 t_LIST_LIMIT)))
    : ∃ fd : FuncData, (∀ (s : Shared) (v : Value), BindsTo s fd ⟨[v], []⟩ [("_law_script", v)]) ∧ ∀ base : Heap, K.In base → base.Ns mainGlobals mg → FnOk l.prog w K mg base (L2.CX l.prog w) 8 fa fd ["_law_script"] (spLaw K) := by
  have e := hfa.symm.trans (PySem.W.mg_of X G a29)
  cases e
  exact ⟨PySem.W.fnOf "law" "law" (defArgs s_law) (defBody s_law) (defScope s_law) .none kV29 dc29 pm29 an29 cd29 ct29, fun s v => .of_eq rfl, fun base _ _ => ok_law (P := l.prog) (w := w) (K := K) (mg := mg) (base := base) {
      a_is_number := f0,
      d_is_number := _,
      F_is_number := fun_mk (st := s_is_number) l0 c0 k0,
      g_is_number := PySem.W.mg_of X G a0,
      a_is_far := f1,
      d_is_far := _,
      F_is_far := fun_mk (st := s_is_far) l1 c1 k1,
      g_is_far := PySem.W.mg_of X G a1,
      a_is_triplet := f2,
      d_is_triplet := _,
      F_is_triplet := fun_mk (st := s_is_triplet) l2 c2 k2,
      g_is_triplet := PySem.W.mg_of X G a2,
      a_many_of := f3,
      d_many_of := _,
      F_many_of := fun_mk (st := s_many_of) l3 c3 k3,
      g_many_of := PySem.W.mg_of X G a3,
      a_subscript_of := f4,
      d_subscript_of := _,
      F_subscript_of := fun_mk (st := s_subscript_of) l4 c4 k4,
      g_subscript_of := PySem.W.mg_of X G a4,
      a_last_of := f5,
      d_last_of := _,
      F_last_of := fun_mk (st := s_last_of) l5 c5 k5,
      g_last_of := PySem.W.mg_of X G a5,
      a_subscripts := f6,
      d_subscripts := _,
      F_subscripts := fun_mk (st := s_subscripts) l6 c6 k6,
      g_subscripts := PySem.W.mg_of X G a6,
      a_index_of := f7,
      d_index_of := _,
      F_index_of := fun_mk (st := s_index_of) l7 c7 k7,
      g_index_of := PySem.W.mg_of X G a7,
      a_has := f8,
      d_has := _,
      F_has := fun_mk (st := s_has) l8 c8 k8,
      g_has := PySem.W.mg_of X G a8,
      a_covers := f9,
      d_covers := _,
      F_covers := fun_mk (st := s_covers) l9 c9 k9,
      g_covers := PySem.W.mg_of X G a9,
      a_upward := f10,
      d_upward := _,
      F_upward := fun_mk (st := s_upward) l10 c10 k10,
      g_upward := PySem.W.mg_of X G a10,
      a_normal_of := f11,
      d_normal_of := _,
      F_normal_of := fun_mk (st := s_normal_of) l11 c11 k11,
      g_normal_of := PySem.W.mg_of X G a11,
      a_divisor_and_factor := f12,
      d_divisor_and_factor := _,
      F_divisor_and_factor := fun_mk (st := s_divisor_and_factor) l12 c12 k12,
      g_divisor_and_factor := PySem.W.mg_of X G a12,
      a_met_of := f13,
      d_met_of := _,
      F_met_of := fun_mk (st := s_met_of) l13 c13 k13,
      g_met_of := PySem.W.mg_of X G a13,
      a_check_triplet := f14,
      d_check_triplet := _,
      F_check_triplet := fun_mk (st := s_check_triplet) l14 c14 k14,
      g_check_triplet := PySem.W.mg_of X G a14,
      a_check_two := f15,
      d_check_two := _,
      F_check_two := fun_mk (st := s_check_two) l15 c15 k15,
      g_check_two := PySem.W.mg_of X G a15,
      a_met := f16,
      d_met := _,
      F_met := fun_mk (st := s_met) l16 c16 k16,
      g_met := PySem.W.mg_of X G a16,
      a_lies_in := f17,
      d_lies_in := _,
      F_lies_in := fun_mk (st := s_lies_in) l17 c17 k17,
      g_lies_in := PySem.W.mg_of X G a17,
      a_w_draw := f18,
      d_w_draw := _,
      F_w_draw := fun_mk (st := s_w_draw) l18 c18 k18,
      g_w_draw := PySem.W.mg_of X G a18,
      a_w_pick := f19,
      d_w_pick := _,
      F_w_pick := fun_mk (st := s_w_pick) l19 c19 k19,
      g_w_pick := PySem.W.mg_of X G a19,
      a_w_members := f20,
      d_w_members := _,
      F_w_members := fun_mk (st := s_w_members) l20 c20 k20,
      g_w_members := PySem.W.mg_of X G a20,
      a_w_near := f21,
      d_w_near := _,
      F_w_near := fun_mk (st := s_w_near) l21 c21 k21,
      g_w_near := PySem.W.mg_of X G a21,
      a_w_shown := f22,
      d_w_shown := _,
      F_w_shown := fun_mk (st := s_w_shown) l22 c22 k22,
      g_w_shown := PySem.W.mg_of X G a22,
      a_w_count := f23,
      d_w_count := _,
      F_w_count := fun_mk (st := s_w_count) l23 c23 k23,
      g_w_count := PySem.W.mg_of X G a23,
      a_w_near_right := f24,
      d_w_near_right := _,
      F_w_near_right := fun_mk (st := s_w_near_right) l24 c24 k24,
      g_w_near_right := PySem.W.mg_of X G a24,
      a_w_far_trio := f25,
      d_w_far_trio := _,
      F_w_far_trio := fun_mk (st := s_w_far_trio) l25 c25 k25,
      g_w_far_trio := PySem.W.mg_of X G a25,
      a_w_found := f26,
      d_w_found := _,
      F_w_found := fun_mk (st := s_w_found) l26 c26 k26,
      g_w_found := PySem.W.mg_of X G a26,
      a_w_far_right := f27,
      d_w_far_right := _,
      F_w_far_right := fun_mk (st := s_w_far_right) l27 c27 k27,
      g_w_far_right := PySem.W.mg_of X G a27,
      a_w_well := f28,
      d_w_well := _,
      F_w_well := fun_mk (st := s_w_well) l28 c28 k28,
      g_w_well := PySem.W.mg_of X G a28,
      a_law := fa,
      d_law := _,
      F_law := fun_mk (st := s_law) l29 c29 k29,
      g_law := PySem.W.mg_of X G a29,
      z_int := PySem.W.mg_none_of X G z_int,
      z_isinstance := PySem.W.mg_none_of X G z_isinstance,
      z_bool := PySem.W.mg_none_of X G z_bool,
      z_tuple := PySem.W.mg_none_of X G z_tuple,
      z_len := PySem.W.mg_none_of X G z_len,
      z_all := PySem.W.mg_none_of X G z_all,
      z_list := PySem.W.mg_none_of X G z_list,
      z_max := PySem.W.mg_none_of X G z_max,
      z_range := PySem.W.mg_none_of X G z_range,
      z_divmod := PySem.W.mg_none_of X G z_divmod,
      z_min := PySem.W.mg_none_of X G z_min,
      z_abs := PySem.W.mg_none_of X G z_abs,
      z_sorted := PySem.W.mg_none_of X G z_sorted,
      t_FAR := t_FAR,
      c_FAR := PySem.W.mg_of X G v_FAR,
      t_LIST_LIMIT := t_LIST_LIMIT,
      c_LIST_LIMIT := PySem.W.mg_of X G v_LIST_LIMIT } right_ok⟩
end DL
open PySem PySem.W PyProof.Rows
set_option maxHeartbeats 0 in
theorem PySem.Challenge.cw_sectionwise_k03_whole_elements_that_trip_holds : PySem.Challenge.rw_sectionwise_k03_whole_elements_that_trip.Holds := by
  w_on; o_law; k_head; (case hw => w_witness2)
  k_fill
  refine L2.walk_of (l := PySem.Challenge.rw_sectionwise_k03_whole_elements_that_trip) (n := 63) (k := 8) (x := "_law_script") (CX := fun w => L2.CX PySem.Challenge.pw_sectionwise_k03_whole_elements_that_trip w) (sp := fun w => DL.spLaw _) rfl (by decide) rfl ⟨rfl, by decide, by decide⟩ (fun w h Y => PySem.W.kIn_of Y) ?F (fun _ _ a ns hl _ hS => ⟨a, ns, rfl, hS, hl, fun _ => rfl⟩) (fun _ _ _ _ _ h => by obtain ⟨_, _, _, _, _, _, _, _, _, _, _, _, z⟩ := h; exact z)
  case F =>
    intro w mg fa h KX G hmg
    refine' DL.all_mk KX G hmg ?a0 ?l0 ?c0 ?k0 ?a1 ?l1 ?c1 ?k1 ?a2 ?l2 ?c2 ?k2 ?a3 ?l3 ?c3 ?k3 ?a4 ?l4 ?c4 ?k4 ?a5 ?l5 ?c5 ?k5 ?a6 ?l6 ?c6 ?k6 ?a7 ?l7 ?c7 ?k7 ?a8 ?l8 ?c8 ?k8 ?a9 ?l9 ?c9 ?k9 ?a10 ?l10 ?c10 ?k10 ?a11 ?l11 ?c11 ?k11 ?a12 ?l12 ?c12 ?k12 ?a13 ?l13 ?c13 ?k13 ?a14 ?l14 ?c14 ?k14 ?a15 ?l15 ?c15 ?k15 ?a16 ?l16 ?c16 ?k16 ?a17 ?l17 ?c17 ?k17 ?a18 ?l18 ?c18 ?k18 ?a19 ?l19 ?c19 ?k19 ?a20 ?l20 ?c20 ?k20 ?a21 ?l21 ?c21 ?k21 ?a22 ?l22 ?c22 ?k22 ?a23 ?l23 ?c23 ?k23 ?a24 ?l24 ?c24 ?k24 ?a25 ?l25 ?c25 ?k25 ?a26 ?l26 ?c26 ?k26 ?a27 ?l27 ?c27 ?k27 ?a28 ?l28 ?c28 ?k28 ?a29 ?l29 ?c29 ?k29 ?z_int ?z_isinstance ?z_bool ?z_tuple ?z_len ?z_all ?z_list ?z_max ?z_range ?z_divmod ?z_min ?z_abs ?z_sorted ?v_FAR ?v_LIST_LIMIT
    (case a0 => k_is); (case l0 => k_is); (case c0 => k_is); (case k0 => k_is); (case a1 => k_is); (case l1 => k_is); (case c1 => k_is); (case k1 => k_is); (case a2 => k_is); (case l2 => k_is); (case c2 => k_is); (case k2 => k_is); (case a3 => k_is); (case l3 => k_is); (case c3 => k_is); (case k3 => k_is); (case a4 => k_is); (case l4 => k_is); (case c4 => k_is); (case k4 => k_is); (case a5 => k_is); (case l5 => k_is); (case c5 => k_is); (case k5 => k_is); (case a6 => k_is); (case l6 => k_is); (case c6 => k_is); (case k6 => k_is); (case a7 => k_is); (case l7 => k_is); (case c7 => k_is); (case k7 => k_is); (case a8 => k_is); (case l8 => k_is); (case c8 => k_is); (case k8 => k_is); (case a9 => k_is); (case l9 => k_is); (case c9 => k_is); (case k9 => k_is); (case a10 => k_is); (case l10 => k_is); (case c10 => k_is); (case k10 => k_is); (case a11 => k_is); (case l11 => k_is); (case c11 => k_is); (case k11 => k_is); (case a12 => k_is); (case l12 => k_is); (case c12 => k_is); (case k12 => k_is); (case a13 => k_is); (case l13 => k_is); (case c13 => k_is); (case k13 => k_is); (case a14 => k_is); (case l14 => k_is); (case c14 => k_is); (case k14 => k_is); (case a15 => k_is); (case l15 => k_is); (case c15 => k_is); (case k15 => k_is); (case a16 => k_is); (case l16 => k_is); (case c16 => k_is); (case k16 => k_is); (case a17 => k_is); (case l17 => k_is); (case c17 => k_is); (case k17 => k_is); (case a18 => k_is); (case l18 => k_is); (case c18 => k_is); (case k18 => k_is); (case a19 => k_is); (case l19 => k_is); (case c19 => k_is); (case k19 => k_is); (case a20 => k_is); (case l20 => k_is); (case c20 => k_is); (case k20 => k_is); (case a21 => k_is); (case l21 => k_is); (case c21 => k_is); (case k21 => k_is); (case a22 => k_is); (case l22 => k_is); (case c22 => k_is); (case k22 => k_is); (case a23 => k_is); (case l23 => k_is); (case c23 => k_is); (case k23 => k_is); (case a24 => k_is); (case l24 => k_is); (case c24 => k_is); (case k24 => k_is); (case a25 => k_is); (case l25 => k_is); (case c25 => k_is); (case k25 => k_is); (case a26 => k_is); (case l26 => k_is); (case c26 => k_is); (case k26 => k_is); (case a27 => k_is); (case l27 => k_is); (case c27 => k_is); (case k27 => k_is); (case a28 => k_is); (case l28 => k_is); (case c28 => k_is); (case k28 => k_is); (case a29 => k_is); (case l29 => k_is); (case c29 => k_is); (case k29 => k_is); (case z_int => k_is); (case z_isinstance => k_is); (case z_bool => k_is); (case z_tuple => k_is); (case z_len => k_is); (case z_all => k_is); (case z_list => k_is); (case z_max => k_is); (case z_range => k_is); (case z_divmod => k_is); (case z_min => k_is); (case z_abs => k_is); (case z_sorted => k_is); (case v_FAR => k_is); (case v_LIST_LIMIT => k_is)
